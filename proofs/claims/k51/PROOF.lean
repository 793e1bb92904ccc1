import PyProof.Rows.All
import Wide.All
import OpenK.AllK
import Wide.FinOn
import Lean
import PyProof.EqAt
import PyProof.EqKinds
import PyProof.TupleCall
import PyProof.StrBlock
import PyProof.StrBlockL
import PyProof.Rows.StrJoin2
import KE.KIntText
import PyProof.StrCalls6
import PyProof.StationsW
import PyProof.RulesTry
import PyProof.InstStoreFacts
import PyProof.ExcBaseAll.ValueError
import PyProof.ExcAttrAll.ValueError
import PyProof.NsDelKeeps
import KE.KTabLook
import PyProof.MeetsStr
import PyProof.ZipIter
import PyProof.TupleIter
import PyProof.ListRange
import KE.KPar
import KE.KDictSum
import PyProof.EnumMake
import PyProof.EnumStmt
import KE.KRevIter
import PyProof.CollectIter
import PyProof.WalkInts
import PyProof.ListNew
import KE.KSortTup
import PyProof.NeKinds
import PySem.Challenge.RW_halfmoved_k51_small_pieces
set_option Elab.async false
set_option linter.all false
set_option maxRecDepth 100000
set_option maxHeartbeats 4000000

/-! THE HAND LAYER, for ints, bools, texts, own classes, LISTS and tuples (index, slices, in, append, pop ..), calls, loops. Paste it whole ahead of your own text; what your proof does not reach may be deleted. -/
namespace L2
theorem ln0 {α : Type} {l : List α} (h : l.length = 0) : l = [] := List.eq_nil_of_length_eq_zero h
theorem ln1 {α : Type} {l : List α} (h : l.length = 1) : ∃ a, l = [a] := List.length_eq_one_iff.mp h
theorem ln2 {α : Type} {l : List α} (h : l.length = 2) : ∃ a b, l = [a, b] := by
  cases l with
  | nil => cases h
  | cons a r => obtain ⟨b, rfl⟩ := ln1 (Nat.succ.inj h); exact ⟨a, b, rfl⟩
theorem ln3 {α : Type} {l : List α} (h : l.length = 3) : ∃ a b c, l = [a, b, c] := by
  cases l with
  | nil => cases h
  | cons a r => obtain ⟨b, c, rfl⟩ := ln2 (Nat.succ.inj h); exact ⟨a, b, c, rfl⟩
theorem ln4 {α : Type} {l : List α} (h : l.length = 4) : ∃ a b c d, l = [a, b, c, d] := by
  cases l with
  | nil => cases h
  | cons a r => obtain ⟨b, c, d, rfl⟩ := ln3 (Nat.succ.inj h); exact ⟨a, b, c, d, rfl⟩
end L2
namespace L2
open PySem PySem.Spec PyProof.Rows

/-- a key: an int or a str -/
abbrev Key := Sum Int Str
def keyIs : Key → Value → Bool
  | .inl k, v => Value.isInt k v
  | .inr x, v => Value.isStrOf x v
def keyH (w : World) : Key → Int
  | .inl k => hashInt k
  | .inr x => hashStr w x
theorem keyIs_shape : ∀ {k : Key} {v : Value}, keyIs k v = true → (∃ i t, k = Sum.inl i ∧ v = Value.int i t) ∨ (∃ x t, k = Sum.inr x ∧ v = Value.str x t)
  | .inl i, v, h => by
    obtain ⟨t, e⟩ := Value.isInt_shape (k := i) (v := v) h
    exact .inl ⟨i, t, rfl, e⟩
  | .inr x, v, h => by
    obtain ⟨t, e⟩ := Value.isStrOf_shape (x := x) (v := v) h
    exact .inr ⟨x, t, rfl, e⟩
theorem keyIs_int (i : Int) (t : Tok) : keyIs (.inl i) (.int i t) = true := by simp [keyIs, Value.isInt]
theorem keyIs_str (x : Str) (t : Tok) : keyIs (.inr x) (.str x t) = true := by simp [keyIs, Value.isStrOf]
theorem key_ll (a b : Int) : decide ((Sum.inl a : Key) = Sum.inl b) = (a == b) := by
  by_cases e : a = b
  · subst e; simp
  · have h : ¬ (Sum.inl a : Key) = Sum.inl b := fun q => e (Sum.inl.inj q)
    rw [decide_eq_false h]
    exact (beq_eq_false_iff_ne.mpr e).symm
theorem key_rr (a b : Str) : decide ((Sum.inr a : Key) = Sum.inr b) = decide (a = b) := by
  by_cases e : a = b
  · subst e; simp
  · have h : ¬ (Sum.inr a : Key) = Sum.inr b := fun q => e (Sum.inr.inj q)
    rw [decide_eq_false h, decide_eq_false e]
theorem key_lr (a : Int) (b : Str) : decide ((Sum.inl a : Key) = Sum.inr b) = false := decide_eq_false (fun q => nomatch q)
theorem key_rl (a : Str) (b : Int) : decide ((Sum.inr a : Key) = Sum.inl b) = false := decide_eq_false (fun q => nomatch q)

def mixKind (prog : Program) (w : World) : PySem.KeyKind prog w Key where
  is := keyIs
  hash := keyH w
  inj := fun v a b ha hb => by
    rcases keyIs_shape ha with ⟨i, t, rfl, rfl⟩ | ⟨x, t, rfl, rfl⟩
    · rcases keyIs_shape hb with ⟨j, u, rfl, e⟩ | ⟨y, u, rfl, e⟩
      · injection e with e1 _; rw [e1]
      · exact nomatch e
    · rcases keyIs_shape hb with ⟨j, u, rfl, e⟩ | ⟨y, u, rfl, e⟩
      · exact nomatch e
      · injection e with e1 _; rw [e1]
  byValue := fun k v h => by
    rcases keyIs_shape h with ⟨i, t, rfl, rfl⟩ | ⟨x, t, rfl, rfl⟩ <;> rfl
  pyHash := fun hv h => by
    rcases keyIs_shape hv with ⟨i, t, rfl, rfl⟩ | ⟨x, t, rfl, rfl⟩
    · exact wpAny_pyHash_int h
    · exact wpAny_pyHash_str h
  eqBool := fun hu hv h => by
    rcases keyIs_shape hu with ⟨i, t, rfl, rfl⟩ | ⟨x, t, rfl, rfl⟩
    · rcases keyIs_shape hv with ⟨j, u, rfl, rfl⟩ | ⟨y, u, rfl, rfl⟩
      · rw [key_ll] at h; exact wpAny_eqBool_int h
      · rw [key_lr] at h; exact SeqAt.EqAt.int_str i t y u _ _ _ _ h
    · rcases keyIs_shape hv with ⟨j, u, rfl, rfl⟩ | ⟨y, u, rfl, rfl⟩
      · rw [key_rl] at h; exact SeqAt.EqAt.str_int x t j u _ _ _ _ h
      · rw [key_rr] at h; exact wpAny_eqBool_str h
  «strs» := fun k x t v h => by
    rcases keyIs_shape h with ⟨i, u, rfl, e⟩ | ⟨y, u, rfl, e⟩
    · exact nomatch e
    · injection e with e1 _
      subst e1
      cases v <;> rfl

theorem mixKind_int (prog : Program) (w : World) (i : Int) (t : Tok) : (mixKind prog w).is (.inl i) (.int i t) = true := keyIs_int i t
theorem mixKind_str (prog : Program) (w : World) (x : Str) (t : Tok) : (mixKind prog w).is (.inr x) (.str x t) = true := keyIs_str x t
end L2

namespace L2
open PySem PySem.Spec PyProof.Rows

/-- a value, without the heap -/
inductive V where
  | non | bl (b : Bool) | int (i : Int) | str (x : Str) | byt (b : Array UInt8) | flt (b : UInt64) | ref (a : Addr) | ty (n : String)
  deriving DecidableEq

def RelV : V → Value → Prop
  | .non, u => u = Value.none
  | .bl b, u => u = Value.bool b
  | .int i, u => ∃ t, u = Value.int i t
  | .str x, u => ∃ t, u = Value.str x t
  | .byt b, u => ∃ t, u = Value.bytes b t
  | .flt b, u => ∃ t, u = Value.float b t
  | .ref a, u => u = Value.ref a
  | .ty n, u => u = Value.type n

abbrev Vals : List V → List Value → Prop := Paired RelV
theorem Vals.length {xs : List V} {us : List Value} (r : Vals xs us) : xs.length = us.length := Paired.length r
theorem Vals.get : ∀ {xs : List V} {us : List Value} {i : Nat} {x : V}, Vals xs us → xs[i]? = some x → ∃ u, us[i]? = some u ∧ RelV x u
  | _, _, _, _, .nil, e => by simp at e
  | _, _, 0, _, .cons r _, e => by simp at e; subst e; exact ⟨_, rfl, r⟩
  | _, _, i + 1, x, .cons _ t, e => by
    obtain ⟨u, h1, h2⟩ := Vals.get (i := i) (x := x) t (by simpa using e)
    exact ⟨u, by simpa using h1, h2⟩
theorem Vals.append : ∀ {xs ys : List V} {us ws : List Value}, Vals xs us → Vals ys ws → Vals (xs ++ ys) (us ++ ws)
  | _, _, _, _, .nil, s => s
  | _, _, _, _, .cons r t, s => .cons r (Vals.append t s)
theorem Vals.take : ∀ {xs : List V} {us : List Value} (n : Nat), Vals xs us → Vals (xs.take n) (us.take n)
  | _, _, 0, _ => .nil
  | _, _, _ + 1, .nil => .nil
  | _, _, n + 1, .cons r t => .cons r (Vals.take n t)
theorem Vals.drop : ∀ {xs : List V} {us : List Value} (n : Nat), Vals xs us → Vals (xs.drop n) (us.drop n)
  | _, _, 0, r => r
  | _, _, _ + 1, .nil => .nil
  | _, _, n + 1, .cons _ t => Vals.drop n t
def RelO : Option V → Option Value → Prop
  | some v, some u => RelV v u
  | none, none => True
  | _, _ => False
def KV {κ : Type} : List (κ × V) → List (κ × Value) → Prop := Paired fun (p : κ × V) (q : κ × Value) => p.1 = q.1 ∧ RelV p.2 q.2

/-- a key of a dict (00_mix): an int or a text -/
def kV : Key → V
  | .inl i => .int i
  | .inr x => .str x

/-- what stands at a tracked address -/
inductive HO where
  /-- a list -/
  | lst (xs : List V)
  /-- a tuple (never changes) -/
  | tup (xs : List V)
  /-- a dict whose keys are ints and texts; one whose keys are tuples of ints and texts (the empty one is both) -/
  | dK (kvs : List (Key × V)) | dT (kvs : List (List Key × V))
  /-- a set of ints: its members, its size -/
  | set (S : Int → Bool) (n : Nat)
  /-- an instance of the class at C, its dict at dx, its attributes -/
  | ins (C dx : Addr) (fs : List (Str × V))
  /-- the dict of the instance at x -/
  | own (x : Addr)
  /-- the dict of an exception -/
  | xd (fs : List (Str × V))
  /-- a bound method, f of x -/
  | met (f x : Addr)
  /-- a range object lo, lo + 1, .. below hi -/
  | rng (lo hi : Int)
  /-- a thing that is known to the object (the script; a dict while a loop walks it): read, never written while it is so -/
  | frz (o : Obj) (u : HO)
  /-- a code object's table -/
  | tbl (ps : Array Value)
  /-- any other thing, by what is true of its one object (a def of one's own: SetO a S n := HO.ext fun h => ..) -/
  | ext (φ : Heap → Prop)

abbrev Hp := Addr → Option HO
def upd (H : Hp) (a : Addr) (o : HO) : Hp := fun b => if b = a then some o else H b
theorem upd_same {H : Hp} {a : Addr} {o : HO} : upd H a o a = some o := by unfold upd; rw [if_pos rfl]
theorem upd_ne {H : Hp} {a b : Addr} {o : HO} (h : b ≠ a) : upd H a o b = H b := by unfold upd; rw [if_neg h]
/-- two objects of different content stand apart -/
theorem ne_of {H : Hp} {a b : Addr} {o u : HO} (h : H a = some o) (h' : H b = some u) (d : o ≠ u) : a ≠ b := by
  intro e; subst e; rw [h] at h'; exact d (Option.some.inj h')
theorem ne_of_none {H : Hp} {a b : Addr} {o : HO} (h : H a = some o) (h' : H b = none) : a ≠ b := by
  intro e; subst e; rw [h] at h'; cases h'

section
variable (P : Program) (w : World)
def ObjOk (H : Hp) (h : Heap) (a : Addr) : HO → Prop
  | .lst xs => xs.length ≤ sizeLine ∧ ∃ (its : List Value) (n : Nat), Vals xs its ∧ h.get? a = some { cls := .type "list", data := .seq its.toArray n }
  | .tup xs => xs.length ≤ sizeLine ∧ ∃ its : List Value, Vals xs its ∧ IsTup h a its.toArray
  | .dK kvs => kvs.length ≤ sizeLine ∧ (a == sysModules) = false ∧ ∃ vs, KV kvs vs ∧ h.DictOf (mixKind P w) a vs
  | .dT kvs => kvs.length ≤ sizeLine ∧ (a == sysModules) = false ∧ ∃ xs : List (List Key × Addr × Value),
      Paired (fun (p : List Key × V) (q : List Key × Addr × Value) => p.1 = q.1 ∧ H q.2.1 = some (.tup (p.1.map kV)) ∧ RelV p.2 q.2.2) kvs xs ∧
      ∃ o es ep, h.get? a = some o ∧ o.ExactDict ∧ o.data = .dict es ep ∧ es.toList = xs.map (entryOfKey (tupleKind (mixKind P w))) ∧ (xs.map (·.1)).Nodup
  | .set S n => h.SetOf (intKind P w) a S n
  | .ins C dx fs => H dx = some (.own a) ∧ fs.length ≤ 1000 ∧ dx ≠ a ∧ h.get? a = some (PySem.W.instObj C dx) ∧
      ∃ mA, h.Ns1 dx mA ∧ (∀ f, RelO (fs.lookup f) (mA f)) ∧ PySem.Within mA (fs.map (·.1))
  | .own _ => ∃ o, h.get? a = some o
  | .xd fs => ∃ mA, h.Ns1 a mA ∧ ∀ f, RelO (fs.lookup f) (mA f)
  | .rng lo hi => ∃ t u v, h.get? a = some { cls := .type "range", data := .fields #[.int lo t, .int hi u, .int 1 v] }
  | .frz o u => h.get? a = some o ∧ ObjOk H h a u
  | .tbl ps => h.get? a = some { cls := .none, data := .fields ps }
  | .met f x => h.get? a = some (PySem.W.methodObj (.ref f) (.ref x))
  | .ext φ => φ h ∧ (∃ o, h.get? a = some o) ∧ ∀ h1 h2 : Heap, φ h1 → (∀ o, h1.get? a = some o → h2.get? a = some o) → φ h2
/-- the abstract heap is held -/
def HOk (H : Hp) (h : Heap) : Prop := ∀ a o, H a = some o → ObjOk P w H h a o
end

section
variable {P : Program} {w : World} {H H' : Hp} {h h' : Heap} {a : Addr} {o : HO}
theorem ObjOk.lt (x : ObjOk P w H h a o) : a < h.objs.size := by
  cases o with
  | lst xs => obtain ⟨_, _, _, _, e⟩ := x; exact Heap.lt_size e
  | tup xs => obtain ⟨_, _, _, p⟩ := x; exact p.lt
  | dK kvs => obtain ⟨_, _, _, _, o, _, _, e, _⟩ := x; exact Heap.lt_size e
  | dT kvs => obtain ⟨_, _, _, _, o, _, _, e, _⟩ := x; exact Heap.lt_size e
  | set S n => obtain ⟨o, _, _, _, e, _⟩ := x; exact Heap.lt_size e
  | ins C dx fs => obtain ⟨_, _, _, e, _⟩ := x; exact Heap.lt_size e
  | own y => obtain ⟨_, e⟩ := x; exact Heap.lt_size e
  | xd fs => obtain ⟨_, ⟨_, _, _, e, _⟩, _⟩ := x; exact Heap.lt_size e
  | rng lo hi => obtain ⟨_, _, _, e⟩ := x; exact Heap.lt_size e
  | frz ob u => obtain ⟨e, _⟩ := x; exact Heap.lt_size e
  | tbl ps => exact Heap.lt_size (show h.get? a = some _ from x)
  | met f y => exact Heap.lt_size (show h.get? a = some _ from x)
  | ext φ => obtain ⟨_, ⟨_, e⟩, _⟩ := x; exact Heap.lt_size e
theorem Paired.mapP {α β : Type} {F G : α → β → Prop} : ∀ {l₁ : List α} {l₂ : List β}, Paired F l₁ l₂ → (∀ a b, F a b → G a b) → Paired G l₁ l₂
  | _, _, .nil, _ => .nil
  | _, _, .cons r t, f => .cons (f _ _ r) (Paired.mapP t f)
/-- what an object's description leans on: its own object, its own dict, the tuples -/
theorem ObjOk.stay (x : ObjOk P w H h a o) (k : ∀ b u, (b = a ∨ H b = some (.own a)) → h.get? b = some u → h'.get? b = some u)
    (ho : ∀ b, H b = some (.own a) → H' b = some (.own a)) (ht : ∀ b xs, H b = some (.tup xs) → H' b = some (.tup xs)) : ObjOk P w H' h' a o := by
  induction o with
  | lst xs => obtain ⟨z, its, n, r, e⟩ := x; exact ⟨z, its, n, r, k _ _ (.inl rfl) e⟩
  | tup xs => obtain ⟨z, its, r, ob, e, c⟩ := x; exact ⟨z, its, r, ob, k _ _ (.inl rfl) e, c⟩
  | dK kvs => obtain ⟨z, y, vs, r, ob, es, ep, e, c⟩ := x; exact ⟨z, y, vs, r, ob, es, ep, k _ _ (.inl rfl) e, c⟩
  | dT kvs =>
    obtain ⟨z, y, xs, r, ob, es, ep, e, c⟩ := x
    exact ⟨z, y, xs, Paired.mapP r fun p q z => ⟨z.1, ht _ _ z.2.1, z.2.2⟩, ob, es, ep, k _ _ (.inl rfl) e, c⟩
  | set S n => obtain ⟨ob, es, ep, t, e, c⟩ := x; exact ⟨ob, es, ep, t, k _ _ (.inl rfl) e, c⟩
  | ins C dx fs =>
    obtain ⟨d, z, ne, e, mA, ⟨od, es, ep, e2, c⟩, r⟩ := x
    exact ⟨ho _ d, z, ne, k _ _ (.inl rfl) e, mA, ⟨od, es, ep, k _ _ (.inr d) e2, c⟩, r⟩
  | own y => obtain ⟨ob, e⟩ := x; exact ⟨ob, k _ _ (.inl rfl) e⟩
  | xd fs => obtain ⟨mA, ⟨od, es, ep, e, c⟩, r⟩ := x; exact ⟨mA, ⟨od, es, ep, k _ _ (.inl rfl) e, c⟩, r⟩
  | rng lo hi => obtain ⟨t, u, v, e⟩ := x; exact ⟨t, u, v, k _ _ (.inl rfl) e⟩
  | frz ob u ih => obtain ⟨e, q⟩ := x; exact ⟨k _ _ (.inl rfl) e, ih q⟩
  | tbl ps =>
    have e : h.get? a = some { cls := .none, data := .fields ps } := x
    show h'.get? a = some { cls := .none, data := .fields ps }
    exact k a _ (.inl rfl) e
  | met f y =>
    have e : h.get? a = some (PySem.W.methodObj (.ref f) (.ref y)) := x
    show h'.get? a = some (PySem.W.methodObj (.ref f) (.ref y))
    exact k a _ (.inl rfl) e
  | ext φ => obtain ⟨p, ⟨o, e⟩, st⟩ := x; exact ⟨st _ _ p fun o q => k _ _ (.inl rfl) q, ⟨o, k _ _ (.inl rfl) e⟩, st⟩
theorem HOk.lt (x : HOk P w H h) (e : H a = some o) : a < h.objs.size := (x a o e).lt
theorem HOk.fresh (x : HOk P w H h) (e : h.objs.size ≤ a) : H a = none := by
  cases q : H a with
  | none => rfl
  | some u => exact absurd (Nat.lt_of_lt_of_le (x.lt q) e) (Nat.lt_irrefl _)
/-- every object of the heap is kept -/
theorem HOk.kept (x : HOk P w H h) (k : ∀ b u, h.get? b = some u → h'.get? b = some u) : HOk P w H h' := fun a o e =>
  (x a o e).stay (fun b u _ q => k b u q) (fun _ q => q) fun _ _ q => q
/-- a new object is laid and tracked -/
theorem HOk.laid (x : HOk P w H h) (k : ∀ b u, h.get? b = some u → h'.get? b = some u) (hp : h.objs.size ≤ a) (new : ObjOk P w (upd H a o) h' a o) : HOk P w (upd H a o) h' := fun b u e => by
  have hn := x.fresh hp
  by_cases hb : b = a
  · subst hb; rw [upd_same] at e; cases e; exact new
  · rw [upd_ne hb] at e
    exact (x b u e).stay (fun c v _ q => k c v q) (fun c q => by rw [upd_ne (ne_of_none q hn)]; exact q) fun c xs q => by rw [upd_ne (ne_of_none q hn)]; exact q
end

/-- what may be read as u: it is u, or a known u -/
def Rd (H : Hp) (a : Addr) (u : HO) : Prop := H a = some u ∨ ∃ o, H a = some (.frz o u)
theorem Rd.ok {P : Program} {w : World} {H : Hp} {h : Heap} {a : Addr} {u : HO} (r : Rd H a u) (x : HOk P w H h) : ObjOk P w H h a u := by
  rcases r with r | ⟨o, r⟩
  · exact x a u r
  · obtain ⟨_, q⟩ := x a _ r
    exact q
/-- what may be written -/
def Mut : Option HO → Prop
  | some (.lst _) => True
  | some (.dK _) => True
  | some (.dT _) => True
  | some (.set _ _) => True
  | some (.ins _ _ _) => True
  | some (.ext _) => True
  | _ => False
section
variable {P : Program} {w : World} {H : Hp} {h h' : Heap} {x e : Addr} {o' : HO}
/-- the object at e is changed: x itself, or the dict of the instance x -/
theorem HOk.write (ok : HOk P w H h) (mu : Mut (H x)) (he : e = x ∨ H e = some (.own x)) (k : ∀ b u, b ≠ e → h.get? b = some u → h'.get? b = some u) (heo : ∃ u, h'.get? e = some u)
    (new : ObjOk P w (upd H x o') h' x o') : HOk P w (upd H x o') h' := fun b u q => by
  have nown : ∀ c y, H c = some (.own y) → c ≠ x := fun c y r z => by subst z; rw [r] at mu; exact mu
  have ntup : ∀ c xs, H c = some (.tup xs) → c ≠ x := fun c xs r z => by subst z; rw [r] at mu; exact mu
  by_cases hb : b = x
  · subst hb; rw [upd_same] at q; cases q; exact new
  · rw [upd_ne hb] at q
    by_cases hbe : b = e
    · have q' : H b = some (.own x) := by
        rcases he with z | z
        · exact absurd (hbe.trans z) hb
        · rw [hbe]; exact z
      rw [q] at q'; cases q'
      obtain ⟨v, hv⟩ := heo
      exact ⟨v, by rw [hbe]; exact hv⟩
    · refine (ok b u q).stay (fun c v hc r => k c v ?_ r) (fun c r => by rw [upd_ne (nown c b r)]; exact r) fun c xs r => by rw [upd_ne (ntup c xs r)]; exact r
      rcases hc with rfl | hc
      · exact hbe
      · rintro rfl
        rcases he with z | z
        · exact nown c b hc z
        · rw [hc] at z; cases z; exact hb rfl
end

/-! ### kept unless tracked; of the frames at fs (the callers') the slots may change (an exception that passes writes there); of the records at ex (iterators) nothing is said -/
structure Un (fs ex : List Addr) (H H' : Hp) (h h' : Heap) : Prop where
  keep : ∀ b o, h.get? b = some o → H b = none → b ∉ fs → b ∉ ex → h'.get? b = some o
  slot : ∀ b o, h.get? b = some o → H b = none → b ∈ fs → b ∉ ex → ∃ sl, h'.get? b = some { o with slots := sl }
  free : ∀ b o, h.get? b = some o → H b = none → b ∉ ex → H' b = none
  there : ∀ b o, h.get? b = some o → b ∉ ex → ∃ o', h'.get? b = some o'
  tups : ∀ b xs, H b = some (.tup xs) → H' b = some (.tup xs)
  frzs : ∀ b o u, H b = some (.frz o u) → H' b = some (.frz o u)
  tbls : ∀ b ps, H b = some (.tbl ps) → ∃ more, H' b = some (.tbl (ps ++ more))
section
variable {fs fs' ex ex' : List Addr} {H H1 H2 : Hp} {h h1 h2 h' : Heap} {a x e : Addr} {o : HO}
theorem Un.any (u : Un fs ex H H1 h h1) {b : Addr} {ob : Obj} (q : h.get? b = some ob) (n : H b = none) (hx : b ∉ ex) : ∃ sl, h1.get? b = some { ob with slots := sl } := by
  by_cases hb : b ∈ fs
  · exact u.slot b ob q n hb hx
  · exact ⟨ob.slots, u.keep b ob q n hb hx⟩
theorem Un.kept (k : ∀ b u, h.get? b = some u → h'.get? b = some u) : Un fs ex H H h h' :=
  ⟨fun b ob q _ _ _ => k b ob q, fun b ob q _ _ _ => ⟨ob.slots, k b ob q⟩, fun _ _ _ n _ => n, fun b ob q _ => ⟨ob, k b ob q⟩, fun _ _ q => q, fun _ _ _ q => q, fun _ ps q => ⟨#[], by rw [q]; simp⟩⟩
theorem Un.refl : Un fs ex H H h h := Un.kept fun _ _ q => q
theorem Un.laid (k : ∀ b u, h.get? b = some u → h'.get? b = some u) (hp : h.objs.size ≤ a) (hn : H a = none) : Un fs ex H (upd H a o) h h' where
  keep := fun b u q _ _ _ => k b u q
  slot := fun b u q _ _ _ => ⟨u.slots, k b u q⟩
  free := fun b u q n _ => by rw [upd_ne (Nat.ne_of_lt (Nat.lt_of_lt_of_le (Heap.lt_size q) hp))]; exact n
  there := fun b u q _ => ⟨u, k b u q⟩
  tups := fun b xs q => by rw [upd_ne (ne_of_none q hn)]; exact q
  frzs := fun b u xs q => by rw [upd_ne (ne_of_none q hn)]; exact q
  tbls := fun b ps q => ⟨#[], by rw [upd_ne (ne_of_none q hn), q]; simp⟩
theorem Un.write (mu : Mut (H x)) (he : e = x ∨ H e = some (.own x)) (k : ∀ b u, b ≠ e → h.get? b = some u → h'.get? b = some u) (heo : ∃ u, h'.get? e = some u) : Un fs ex H (upd H x o) h h' := by
  have hx : ∀ b, H b = none → b ≠ x := fun b n z => by subst z; rw [n] at mu; exact mu
  have hb : ∀ b, H b = none → b ≠ e := fun b n z => by
    subst z
    rcases he with r | r
    · exact hx b n r
    · rw [n] at r; cases r
  have hm : ∀ b u, H b = some u → ¬ Mut (some u) → b ≠ x := fun b u q nm z => by subst z; rw [q] at mu; exact nm mu
  refine ⟨fun b u q n _ _ => k b u (hb b n) q, fun b u q n _ _ => ⟨u.slots, k b u (hb b n) q⟩, fun b u q n _ => by rw [upd_ne (hx b n)]; exact n, fun b u q _ => ?_,
    fun b xs q => by rw [upd_ne (hm b _ q fun z => z)]; exact q, fun b u xs q => by rw [upd_ne (hm b _ q fun z => z)]; exact q, fun b ps q => ⟨#[], by rw [upd_ne (hm b _ q fun z => z), q]; simp⟩⟩
  by_cases hbe : b = e
  · subst hbe; exact heo
  · exact ⟨u, k b u hbe q⟩
end

/-! ### the heap without what is tracked -/
def trk (h : Heap) (H : Hp) : List Addr := (List.range h.objs.size).filter fun a => (H a).isSome
def hidT (h : Heap) (H : Hp) : Heap := PySem.W.hideAll h (trk h H)
theorem hidT_size (h : Heap) (H : Hp) : (hidT h H).objs.size = h.objs.size := PySem.W.hideAll_size _ _
theorem hidT_get {h : Heap} {H : Hp} {b : Addr} {o : Obj} (e : h.get? b = some o) (n : H b = none) : (hidT h H).get? b = some o :=
  PySem.W.hideAll_get _ e fun hm => by
    have q : (H b).isSome = true := (List.mem_filter.mp hm).2
    rw [n] at q; simp at q
theorem of_hidT {h : Heap} {H : Hp} {b : Addr} {o : Obj} (e : (hidT h H).get? b = some o) : h.get? b = some o ∧ H b = none := by
  have e' : h.get? b = some o := PySem.W.of_hideAll (trk h H) e
  refine ⟨e', ?_⟩
  cases q : H b with
  | none => rfl
  | some x =>
    have hm : b ∈ trk h H := List.mem_filter.mpr ⟨List.mem_range.mpr (Heap.lt_size e'), by simp [q]⟩
    have z : (hidT h H).get? b = none := PySem.W.hideAll_none (trk h H) hm
    rw [z] at e; cases e

/-! ### OpenK's ledger, filled with every new object but one -/
end L2

namespace L2
open PySem PySem.Spec PyProof.Rows

/-- the module's facts, over the base: the heap at the law's entry without what is tracked there -/
structure Mod (K : PySem.W.Frag) (mg : Str → Option Value) (base : Heap) : Prop where
  kin : K.In base
  glob : base.Ns mainGlobals mg
  blt : ∃ mb, base.Ns builtinsNs mb ∧ ∀ x : Str, x ≠ "__name__" → mb x = bootBuiltins x
  nolimit : base.NoLimit

/-- the context: a def's body (or a comprehension's block) running. base: fixed through the whole law; s₀, H₀: the entry; outer: the frames whose slots others may change (a def's callers); stack: all frames that run;
   ex: iterators that were made ahead of the entry and are walked here (a comprehension's); fn: the names whose cells were made at the entry (a def: all; a comprehension's block: its own); calm: not within an except suite; pn: pins that every state bears; xe: what is wanted of an exception that leaves the code -/
structure Cx where
  prog : Program
  w : World
  K : PySem.W.Frag
  mg : Str → Option Value
  base : Heap
  A : Around
  N : List Str
  s₀ : Shared
  H₀ : Hp
  env : Env
  outer : List Env
  stack : List Env
  ex : List Addr
  fn : Str → Bool
  calm : Bool
  pn : List (Addr × Obj)
  xe : Value → Shared → Prop
/-- the callers' frames -/
def frs (l : List Env) : List Addr := l.filterMap (·.frame)
abbrev Cx.fs (X : Cx) : List Addr := frs X.outer

def Vis (sc : Scope) (x : Str) : Prop := sc.names.lookup x = some .local ∨ sc.names.lookup x = some .cell ∨ sc.names.lookup x = some .free
def Loc (sc : Scope) (x : Str) : Prop := sc.names.lookup x = some .local ∨ sc.names.lookup x = some .cell
def Look (env : Env) (h : Heap) (m : Str → Option Value) (x : Str) (u : Value) : Prop :=
  (env.kindOf x = some .local ∧ m x = some u) ∨ ((env.kindOf x = some .cell ∨ env.kindOf x = some .free) ∧ ∃ c, env.cells.lookup x = some c ∧ h.IsCell c (some u))

structure Cx.Ok (X : Cx) : Prop where
  mod : Mod X.K X.mg X.base
  kind : X.env.scope.kind = .function
  glob : X.env.globals = mainGlobals
  blt : X.env.builtins = builtinsNs
  above : X.s₀.heap.objs.size ≤ X.env.locals
  inj : ∀ x y c, X.env.cells.lookup x = some c → X.env.cells.lookup y = some c → x = y
  has : ∀ x, (X.env.kindOf x = some .cell ∨ X.env.kindOf x = some .free) → ∃ c, X.env.cells.lookup x = some c
  cab : ∀ x c, X.fn x = true → X.env.cells.lookup x = some c → X.s₀.heap.objs.size ≤ c
  hd : X.calm = true → X.A.handled = none
  frames : X.A.frames = some X.stack
  stk : X.stack = X.outer ∨ (X.stack = X.env :: X.outer ∧ X.env.frame = some X.env.locals)
  exf : ∀ b ∈ X.ex, b ≠ X.env.locals ∧ ∀ x c, X.env.cells.lookup x = some c → c ≠ b
  bs : ∀ b o, X.base.get? b = some o → X.s₀.heap.get? b = some o ∧ X.H₀ b = none
  bsz : X.base.objs.size ≤ X.s₀.heap.objs.size
  noex : ∀ b o, X.base.get? b = some o → b ∉ X.ex
  exfs : ∀ b ∈ X.ex, b ∉ X.fs
  funs : X.s₀.heap.FunFrames X.base X.outer
  frf : ∀ b ∈ X.fs, X.H₀ b = none

structure Inv (X : Cx) (pins : List (Addr × Obj)) (σ : List (Option V)) (H : Hp) (s : Shared) : Prop where
  ok : X.Ok
  os : s.os = X.s₀.os
  bare : AllBare s.gens
  base : Un X.fs X.ex X.H₀ H X.s₀.heap s.heap
  loc : ∃ m, s.heap.Ns X.env.locals m ∧ ∀ (i : Nat) (x : Str) (v : V), X.N[i]? = some x → σ[i]? = some (some v) → Vis X.env.scope x → ∃ u, RelV v u ∧ Look X.env s.heap m x u
  cell : ∀ x c, X.env.cells.lookup x = some c → ∃ v, s.heap.IsCell c v
  free : H X.env.locals = none
  freeC : ∀ x c, X.env.cells.lookup x = some c → H c = none
  pin : ∀ p ∈ X.pn ++ pins, s.heap.get? p.1 = some p.2 ∧ H p.1 = none ∧ p.1 ≠ X.env.locals ∧ p.1 ∉ X.fs ∧ ∀ v, p.2.data ≠ .cell v
  hok : HOk X.prog X.w H s.heap
  len : σ.length = X.N.length

section
variable {X : Cx} {pins : List (Addr × Obj)} {σ : List (Option V)} {H H' : Hp} {s : Shared} {h' : Heap}

theorem Cx.Ok.nofr (ok : X.Ok) {b : Addr} {o : Obj} (e : X.base.get? b = some o) : b ∉ X.fs := fun hb => by
  have := (ok.funs.mem hb).1
  rw [e] at this; cases this
theorem Inv.bs (I : Inv X pins σ H s) : ∀ b o, X.base.get? b = some o → s.heap.get? b = some o ∧ H b = none := fun b o e =>
  ⟨I.base.keep b o (I.ok.bs b o e).1 (I.ok.bs b o e).2 (I.ok.nofr e) (I.ok.noex b o e), I.base.free b o (I.ok.bs b o e).1 (I.ok.bs b o e).2 (I.ok.noex b o e)⟩
theorem Inv.bk (I : Inv X pins σ H s) : ∀ b o, X.base.get? b = some o → s.heap.get? b = some o := fun b o e => (I.bs b o e).1
theorem Inv.mod (I : Inv X pins σ H s) : Mod X.K X.mg X.base := I.ok.mod
theorem Inv.kIn (I : Inv X pins σ H s) : X.K.In s.heap := I.ok.mod.kin.keeps I.bk
theorem Inv.lt (I : Inv X pins σ H s) : X.env.locals < s.heap.objs.size := let ⟨_, hn, _⟩ := I.loc; hn.lt
theorem Inv.sz (I : Inv X pins σ H s) : X.s₀.heap.objs.size ≤ s.heap.objs.size := Nat.le_trans I.ok.above (Nat.le_of_lt I.lt)
theorem Inv.nofs (I : Inv X pins σ H s) {a : Addr} (h : s.heap.objs.size ≤ a) : a ∉ X.fs := fun hb => by
  obtain ⟨_, o, ho, _⟩ := I.ok.funs.mem hb
  exact absurd (Nat.lt_of_lt_of_le (Heap.lt_size ho) (Nat.le_trans I.sz h)) (Nat.lt_irrefl _)
theorem Inv.cne (I : Inv X pins σ H s) : ∀ x c, X.env.cells.lookup x = some c → c ≠ X.env.locals := fun x c e z => by
  obtain ⟨v, o, ho, hd⟩ := I.cell x c e
  obtain ⟨m, ⟨o', es, ep, ho', hd', _⟩, _⟩ := I.loc
  rw [z, ho'] at ho; cases ho; rw [hd'] at hd; cases hd
theorem Inv.funs (I : Inv X pins σ H s) : s.heap.FunFrames X.base X.outer := by
  have all : ∀ (l : List Env), (∀ b ∈ frs l, b ∈ X.fs) → X.s₀.heap.FunFrames X.base l → s.heap.FunFrames X.base l := by
    intro l
    induction l with
    | nil => intro _ _; trivial
    | cons env r ih =>
      intro hs hl
      obtain ⟨hk, ⟨L, o, hf, hn, ho, hd⟩, hr⟩ := hl
      have hL : L ∈ X.fs := hs L (by unfold frs; rw [List.filterMap_cons, hf]; exact List.mem_cons_self)
      obtain ⟨sl, e⟩ := I.base.slot L o ho (I.ok.frf L hL) hL fun z => I.ok.exfs L z hL
      exact ⟨hk, ⟨L, _, hf, hn, e, hd⟩, ih (fun b hb => hs b (by unfold frs; rw [List.filterMap_cons, hf]; exact List.mem_cons_of_mem _ hb)) hr⟩
  exact all X.outer (fun _ hb => hb) I.ok.funs

/-- the frames that run, for a call -/
theorem Inv.stack (I : Inv X pins σ H s) : s.heap.FunFrames X.base X.stack := by
  rcases I.ok.stk with e | ⟨e, hf⟩
  · rw [e]; exact I.funs
  · rw [e]
    obtain ⟨m, hn, _⟩ := I.loc
    refine .cons (by rw [I.ok.kind]; decide) hf hn ?_ I.funs
    exact Heap.get?_none_of_le (Nat.le_trans I.ok.bsz I.ok.above)
theorem Inv.stkSub (I : Inv X pins σ H s) : ∀ b ∈ frs X.stack, b ∈ X.env.locals :: X.fs := fun b hb => by
  rcases I.ok.stk with e | ⟨e, hf⟩
  · rw [e] at hb; exact List.mem_cons_of_mem _ hb
  · rw [e] at hb
    unfold frs at hb
    rw [List.filterMap_cons, hf] at hb
    exact hb
theorem Inv.stkFree (I : Inv X pins σ H s) : ∀ b ∈ frs X.stack, H b = none := fun b hb => by
  rcases List.mem_cons.mp (I.stkSub b hb) with e | hb
  · rw [e]; exact I.free
  · obtain ⟨_, o, ho, _⟩ := I.ok.funs.mem hb
    exact I.base.free b o ho (I.ok.frf b hb) fun z => I.ok.exfs b z hb

/-- THE STEP: the untracked objects but the frame and the records at ch are kept (the callers' frames up to slots), the frame's map is kept, the new abstract heap is held -/
theorem Inv.step {g' : Array GenState} {t' : Nat} {d' : Drawn} {ch : List Addr} (I : Inv X pins σ H s)
    (hch : ∀ b ∈ ch, (b ∈ X.ex ∨ X.s₀.heap.objs.size ≤ b) ∧ b ≠ X.env.locals ∧ (∀ x c, X.env.cells.lookup x = some c → c ≠ b) ∧ ∀ p ∈ X.pn ++ pins, p.1 ≠ b)
    (keep : ∀ b o, b ≠ X.env.locals → b ∉ X.fs → b ∉ ch → s.heap.get? b = some o → H b = none → h'.get? b = some o)
    (slot : ∀ b o, b ≠ X.env.locals → b ∈ X.fs → b ∉ ch → s.heap.get? b = some o → H b = none → ∃ sl, h'.get? b = some { o with slots := sl }) (free : ∀ b o, b ∉ ch → s.heap.get? b = some o → H b = none → H' b = none)
    (there : ∀ b o, b ∉ ch → s.heap.get? b = some o → ∃ o', h'.get? b = some o')
    (tups : ∀ b xs, H b = some (.tup xs) → H' b = some (.tup xs)) (frzs : ∀ b o u, H b = some (.frz o u) → H' b = some (.frz o u)) (tbls : ∀ b ps, H b = some (.tbl ps) → ∃ more, H' b = some (.tbl (ps ++ more)))
    (ns : ∀ m, s.heap.Ns X.env.locals m → h'.Ns X.env.locals m) (hok : HOk X.prog X.w H' h') (hg : AllBare g') :
    Inv X pins σ H' { s with heap := h', gens := g', drawn := d', toks := t' } := by
  have neL : ∀ b o, X.s₀.heap.get? b = some o → b ≠ X.env.locals := fun b o e => Nat.ne_of_lt (Nat.lt_of_lt_of_le (Heap.lt_size e) I.ok.above)
  have neC : ∀ b o, X.s₀.heap.get? b = some o → b ∉ X.ex → b ∉ ch := fun b o e hx hb => by
    rcases (hch b hb).1 with z | z
    · exact hx z
    · exact absurd (Nat.lt_of_lt_of_le (Heap.lt_size e) z) (Nat.lt_irrefl _)
  have cellK : ∀ x c, X.env.cells.lookup x = some c → ∀ v, s.heap.IsCell c v → h'.IsCell c v := fun x c e v ⟨o, ho, hd⟩ => by
    have nch : c ∉ ch := fun z => (hch c z).2.2.1 x c e rfl
    by_cases hc : c ∈ X.fs
    · obtain ⟨sl, q⟩ := slot c o (I.cne x c e) hc nch ho (I.freeC x c e)
      exact ⟨_, q, hd⟩
    · exact ⟨o, keep c o (I.cne x c e) hc nch ho (I.freeC x c e), hd⟩
  refine ⟨I.ok, I.os, hg, ⟨fun b o e n hb hx => ?_, fun b o e n hb hx => ?_, fun b o e n hx => ?_, fun b o e hx => ?_, fun b xs e => tups b xs (I.base.tups b xs e), fun b o xs e => frzs b o xs (I.base.frzs b o xs e), fun b ps e => ?_⟩, ?_, fun x c e => ?_, ?_, fun x c e => ?_, fun p hp => ?_, hok, I.len⟩
  · exact keep b o (neL b o e) hb (neC b o e hx) (I.base.keep b o e n hb hx) (I.base.free b o e n hx)
  · obtain ⟨sl, e1⟩ := I.base.slot b o e n hb hx
    obtain ⟨sl', e2⟩ := slot b _ (neL b o e) hb (neC b o e hx) e1 (I.base.free b o e n hx)
    exact ⟨sl', e2⟩
  · obtain ⟨o', e1⟩ := I.base.there b o e hx
    exact free b o' (neC b o e hx) e1 (I.base.free b o e n hx)
  · obtain ⟨o', e1⟩ := I.base.there b o e hx
    exact there b o' (neC b o e hx) e1
  · obtain ⟨m1, e1⟩ := I.base.tbls b ps e
    obtain ⟨m2, e2⟩ := tbls b _ e1
    exact ⟨m1 ++ m2, by rw [e2, Array.append_assoc]⟩
  · obtain ⟨m, hn, hl⟩ := I.loc
    refine ⟨m, ns m hn, fun i x v e1 e2 e3 => ?_⟩
    obtain ⟨u, r, l⟩ := hl i x v e1 e2 e3
    refine ⟨u, r, ?_⟩
    rcases l with l | ⟨k, c, e, z⟩
    · exact .inl l
    · exact .inr ⟨k, c, e, cellK x c e _ z⟩
  · obtain ⟨v, z⟩ := I.cell x c e
    exact ⟨v, cellK x c e v z⟩
  · obtain ⟨m, ⟨o, _, _, ho, _⟩, _⟩ := I.loc
    exact free _ o (fun z => (hch _ z).2.1 rfl) ho I.free
  · obtain ⟨v, o, ho, hd⟩ := I.cell x c e
    exact free c o (fun z => (hch c z).2.2.1 x c e rfl) ho (I.freeC x c e)
  · obtain ⟨e, n, ne, nf, d⟩ := I.pin p hp
    have nch : p.1 ∉ ch := fun z => (hch p.1 z).2.2.2 p hp rfl
    exact ⟨keep p.1 p.2 ne nf nch e n, free p.1 p.2 nch e n, ne, nf, d⟩
/-- .. where the frame's own object is kept too -/
theorem Inv.un {t' : Nat} (I : Inv X pins σ H s) (u : Un X.fs [] H H' s.heap h') (hok : HOk X.prog X.w H' h') : Inv X pins σ H' { s with heap := h', toks := t' } := by
  obtain ⟨m, ⟨o, es, ep, ho, r⟩, _⟩ := id I.loc
  obtain ⟨sl, hL⟩ := u.any ho I.free (by simp)
  exact I.step (g' := s.gens) (d' := s.drawn) (ch := []) (fun _ z => nomatch z) (fun b o _ hb _ e n => u.keep b o e n hb (by simp)) (fun b o _ hb _ e n => u.slot b o e n hb (by simp)) (fun b o _ e n => u.free b o e n (by simp)) (fun b o _ e => u.there b o e (by simp)) u.tups u.frzs u.tbls (fun m' hm => by
    obtain ⟨o', es', ep', ho', r'⟩ := hm
    rw [ho] at ho'; cases ho'
    exact ⟨_, es', ep', hL, r'⟩) hok I.bare
/-- behind a call (or a comprehension's block): the slots of this frame may have changed too, the records at ch may have turned -/
theorem Inv.call {g' : Array GenState} {t' : Nat} {d' : Drawn} {ch : List Addr} (I : Inv X pins σ H s) (u : Un (frs X.stack) ch H H' s.heap h') (hok : HOk X.prog X.w H' h') (hg : AllBare g')
    (hch : ∀ b ∈ ch, (b ∈ X.ex ∨ X.s₀.heap.objs.size ≤ b) ∧ b ≠ X.env.locals ∧ (∀ x c, X.env.cells.lookup x = some c → c ≠ b) ∧ ∀ p ∈ X.pn ++ pins, p.1 ≠ b) :
    Inv X pins σ H' { s with heap := h', gens := g', drawn := d', toks := t' } := by
  obtain ⟨m, ⟨o, es, ep, ho, r⟩, _⟩ := id I.loc
  obtain ⟨sl, hL⟩ := u.any ho I.free fun z => (hch _ z).2.1 rfl
  exact I.step (ch := ch) hch (fun b o hL hb hc e n => u.keep b o e n (fun z => (List.mem_cons.mp (I.stkSub b z)).elim hL hb) hc) (fun b o _ _ hc e n => u.any e n hc) (fun b o hc e n => u.free b o e n hc) (fun b o hc e => u.there b o e hc) u.tups u.frzs u.tbls (fun m' hm => by
    obtain ⟨o', es', ep', ho', r'⟩ := hm
    rw [ho] at ho'; cases ho'
    exact ⟨_, es', ep', hL, r'⟩) hok hg
/-- an untracked record of ours (an iterator) has turned -/
theorem Inv.turned {t' : Nat} {it : Addr} (I : Inv X pins σ H s) (k : ∀ b o, b ≠ it → s.heap.get? b = some o → h'.get? b = some o) (hn : H it = none) (hL : it ≠ X.env.locals)
    (h1 : it ∈ X.ex ∨ X.s₀.heap.objs.size ≤ it) (h2 : ∀ x c, X.env.cells.lookup x = some c → c ≠ it) (h3 : ∀ p ∈ X.pn ++ pins, p.1 ≠ it) : Inv X pins σ H { s with heap := h', toks := t' } := by
  have nit : ∀ b u, H b = some u → b ≠ it := fun b u e z => by rw [z, hn] at e; cases e
  refine I.step (g' := s.gens) (d' := s.drawn) (ch := [it]) (fun b hb => ?_) (fun b o _ _ hc e _ => k b o (fun z => hc (by simp [z])) e) (fun b o _ _ hc e _ => ⟨o.slots, k b o (fun z => hc (by simp [z])) e⟩) (fun _ _ _ _ n => n)
    (fun b o hc e => ⟨o, k b o (fun z => hc (by simp [z])) e⟩) (fun _ _ e => e) (fun _ _ _ e => e) (fun b ps e => ⟨#[], by rw [e]; simp⟩) (fun m hm => ?_) (fun b u e => ?_) I.bare
  · have e : b = it := by simpa using hb
    subst e
    exact ⟨h1, hL, h2, h3⟩
  · obtain ⟨o, es, ep, ho, r⟩ := hm
    exact ⟨o, es, ep, k _ o (Ne.symm hL) ho, r⟩
  · refine (I.hok b u e).stay (fun c v hc q => k c v ?_ q) (fun _ q => q) fun _ _ q => q
    rcases hc with z | z
    · rw [z]; exact nit b u e
    · exact nit c _ z
theorem Inv.tok (I : Inv X pins σ H s) (t : Nat) : Inv X pins σ H { s with toks := t } := I.un (h' := s.heap) (t' := t) Un.refl I.hok
/-- all objects kept -/
theorem Inv.kept {t' : Nat} (I : Inv X pins σ H s) (k : ∀ b u, s.heap.get? b = some u → h'.get? b = some u) : Inv X pins σ H { s with heap := h', toks := t' } := I.un (Un.kept k) (I.hok.kept k)
/-- a new object laid and tracked -/
theorem Inv.laid {a : Addr} {o : HO} {t' : Nat} (I : Inv X pins σ H s) (k : ∀ b u, s.heap.get? b = some u → h'.get? b = some u) (hp : s.heap.objs.size ≤ a) (new : ObjOk X.prog X.w (upd H a o) h' a o) :
    Inv X pins σ (upd H a o) { s with heap := h', toks := t' } := I.un (Un.laid k hp (I.hok.fresh hp)) (I.hok.laid k hp new)
/-- an object written -/
theorem Inv.write {x e : Addr} {o : HO} {t' : Nat} (I : Inv X pins σ H s) (mu : Mut (H x)) (he : e = x ∨ H e = some (.own x)) (k : ∀ b u, b ≠ e → s.heap.get? b = some u → h'.get? b = some u) (heo : ∃ u, h'.get? e = some u)
    (new : ObjOk X.prog X.w (upd H x o) h' x o) : Inv X pins σ (upd H x o) { s with heap := h', toks := t' } := I.un (Un.write mu he k heo) (I.hok.write mu he k heo new)
theorem Inv.pins_of {pins' : List (Addr × Obj)} (I : Inv X pins σ H s) (h : ∀ p ∈ pins', s.heap.get? p.1 = some p.2 ∧ H p.1 = none ∧ p.1 ≠ X.env.locals ∧ p.1 ∉ X.fs ∧ ∀ v, p.2.data ≠ .cell v) : Inv X pins' σ H s :=
  ⟨I.ok, I.os, I.bare, I.base, I.loc, I.cell, I.free, I.freeC, fun p hp => (List.mem_append.mp hp).elim (fun z => I.pin p (List.mem_append_left _ z)) (h p), I.hok, I.len⟩

theorem nodup_ix {N : List Str} (hN : N.Nodup) {i j : Nat} {x : Str} (a : N[i]? = some x) (b : N[j]? = some x) : i = j := by
  obtain ⟨h1, e1⟩ := List.getElem?_eq_some_iff.mp a
  obtain ⟨h2, e2⟩ := List.getElem?_eq_some_iff.mp b
  exact (List.getElem_inj hN).mp (e1.trans e2.symm)

/-- a name is stored; what changed -/
theorem store_ok2 {M : Model} {A : Around} {E : Value → Shared → Prop} {i : Nat} {x : Str} {v : V} {u : Value} {Q : Unit → Shared → Prop} (I : Inv X pins σ H s) (hN : X.N.Nodup) (hi : X.N[i]? = some x) (hx : Loc X.env.scope x) (r : RelV v u)
    (h : ∀ s', Inv X pins (σ.set i (some v)) H s' → (∃ a, Heap.SameBut a s.heap s'.heap ∧ (a = X.env.locals ∨ X.env.cells.lookup x = some a)) → Q () s') (hf : X.fn x = true ∨ X.env.scope.names.lookup x = some .local := by first | exact .inl rfl | exact .inr rfl | assumption) : wpAny M A (storeName X.env x u) Q E s := by
  obtain ⟨m, hn, hl⟩ := id I.loc
  have hcls : (X.env.scope.kind == .class || (X.env.scope.kind == .module && X.env.locals != X.env.globals)) = false := by rw [I.ok.kind]; rfl
  have hiσ : i < σ.length := by rw [I.len]; exact (List.getElem?_eq_some_iff.mp hi).1
  have cne := I.cne
  have tracked : ∀ {a : Addr} {h' : Heap}, (∃ o, s.heap.get? a = some o ∧ H a = none) → Heap.SameBut a s.heap h' → HOk X.prog X.w H h' := fun {a h'} ha hs b ob e => by
    obtain ⟨_, _, hfree⟩ := ha
    refine (I.hok b ob e).stay (fun c w' hc q => (hs.2 c ?_).trans q) (fun _ q => q) fun _ _ q => q
    rintro rfl
    rcases hc with rfl | hc
    · rw [hfree] at e; cases e
    · rw [hfree] at hc; cases hc
  rcases hx with hk | hk
  · refine wpAny_storeName_local hk hn (fun h' hn' hs => ?_) hcls
    obtain ⟨oL, _, _, hoL, _⟩ := id hn
    refine h _ ⟨I.ok, I.os, I.bare, ⟨fun b o e n hb hx => ?_, fun b o e n hb hx => ?_, I.base.free, fun b o e hx => ?_, I.base.tups, I.base.frzs, I.base.tbls⟩, ⟨_, hn', fun j y v' e1 e2 e3 => ?_⟩, fun y c e => ?_, I.free, I.freeC, fun p hp => ?_, tracked ⟨oL, hoL, I.free⟩ hs, by simpa using I.len⟩ ⟨_, hs, .inl rfl⟩
    · exact (hs.2 b (Nat.ne_of_lt (Nat.lt_of_lt_of_le (Heap.lt_size e) I.ok.above))).trans (I.base.keep b o e n hb hx)
    · obtain ⟨sl, e1⟩ := I.base.slot b o e n hb hx
      exact ⟨sl, (hs.2 b (Nat.ne_of_lt (Nat.lt_of_lt_of_le (Heap.lt_size e) I.ok.above))).trans e1⟩
    · obtain ⟨o', e1⟩ := I.base.there b o e hx
      exact ⟨o', (hs.2 b (Nat.ne_of_lt (Nat.lt_of_lt_of_le (Heap.lt_size e) I.ok.above))).trans e1⟩
    · by_cases hj : j = i
      · subst hj
        rw [hi] at e1; cases e1
        rw [List.getElem?_set_self hiσ] at e2
        cases e2
        exact ⟨u, r, .inl ⟨hk, by simp⟩⟩
      · rw [List.getElem?_set_ne (Ne.symm hj)] at e2
        obtain ⟨u', r', q⟩ := hl j y v' e1 e2 e3
        refine ⟨u', r', ?_⟩
        rcases q with ⟨k, e⟩ | ⟨k, c, e, z⟩
        · refine .inl ⟨k, ?_⟩
          have : y ≠ x := fun e => hj (nodup_ix hN e1 (e ▸ hi))
          simp [this, e]
        · exact .inr ⟨k, c, e, z.sameBut hs (cne y c e)⟩
    · obtain ⟨w', z⟩ := I.cell y c e
      exact ⟨w', z.sameBut hs (cne y c e)⟩
    · obtain ⟨e, n, ne, nf, d⟩ := I.pin p hp
      exact ⟨(hs.2 p.1 ne).trans e, n, ne, nf, d⟩
  · have hfn : X.fn x = true := by
      rcases hf with z | z
      · exact z
      · rw [z] at hk; cases hk
    obtain ⟨c, hc⟩ := I.ok.has x (.inl hk)
    obtain ⟨w', z⟩ := I.cell x c hc
    refine wpAny_storeName_cell I.ok.kind hk hc z (fun h' hc' hs => ?_)
    obtain ⟨oc, hoc, hocd⟩ := id z
    refine h { s with heap := h' } ⟨I.ok, I.os, I.bare, ⟨fun b o e n hb hx => ?_, fun b o e n hb hx => ?_, I.base.free, fun b o e hx => ?_, I.base.tups, I.base.frzs, I.base.tbls⟩, ⟨m, hn.sameBut hs (Ne.symm (cne x c hc)), fun j y v' e1 e2 e3 => ?_⟩, fun y c' e => ?_, I.free, I.freeC, fun p hp => ?_, tracked ⟨oc, hoc, I.freeC x c hc⟩ hs, by simpa using I.len⟩ ⟨c, hs, .inr hc⟩
    · exact (hs.2 b (Nat.ne_of_lt (Nat.lt_of_lt_of_le (Heap.lt_size e) (I.ok.cab x c hfn hc)))).trans (I.base.keep b o e n hb hx)
    · obtain ⟨sl, e1⟩ := I.base.slot b o e n hb hx
      exact ⟨sl, (hs.2 b (Nat.ne_of_lt (Nat.lt_of_lt_of_le (Heap.lt_size e) (I.ok.cab x c hfn hc)))).trans e1⟩
    · obtain ⟨o', e1⟩ := I.base.there b o e hx
      exact ⟨o', (hs.2 b (Nat.ne_of_lt (Nat.lt_of_lt_of_le (Heap.lt_size e) (I.ok.cab x c hfn hc)))).trans e1⟩
    · by_cases hj : j = i
      · subst hj
        rw [hi] at e1; cases e1
        rw [List.getElem?_set_self hiσ] at e2
        cases e2
        exact ⟨u, r, .inr ⟨.inl hk, c, hc, hc'⟩⟩
      · rw [List.getElem?_set_ne (Ne.symm hj)] at e2
        obtain ⟨u', r', q⟩ := hl j y v' e1 e2 e3
        refine ⟨u', r', ?_⟩
        rcases q with q | ⟨k, c', e, z'⟩
        · exact .inl q
        · refine .inr ⟨k, c', e, z'.sameBut hs ?_⟩
          rintro rfl
          exact hj (nodup_ix hN e1 (I.ok.inj _ _ _ e hc ▸ hi))
    · by_cases hcc : c' = c
      · subst hcc; exact ⟨_, hc'⟩
      · obtain ⟨w2, z2⟩ := I.cell y c' e
        exact ⟨w2, z2.sameBut hs hcc⟩
    · obtain ⟨e, n, ne, nf, d⟩ := I.pin p hp
      refine ⟨(hs.2 p.1 ?_).trans e, n, ne, nf, d⟩
      intro q
      rw [q, hoc] at e
      have q' : oc = p.2 := Option.some.inj e
      exact d w' (by rw [← q']; exact hocd)
theorem store_ok {M : Model} {A : Around} {E : Value → Shared → Prop} {i : Nat} {x : Str} {v : V} {u : Value} {Q : Unit → Shared → Prop} (I : Inv X pins σ H s) (hN : X.N.Nodup) (hi : X.N[i]? = some x) (hx : Loc X.env.scope x) (r : RelV v u)
    (h : ∀ s', Inv X pins (σ.set i (some v)) H s' → Q () s') (hf : X.fn x = true ∨ X.env.scope.names.lookup x = some .local := by first | exact .inl rfl | exact .inr rfl | assumption) : wpAny M A (storeName X.env x u) Q E s :=
  store_ok2 I hN hi hx r (fun s' I' _ => h s' I') hf
/-- behind a call or a block, the state as it is -/
theorem Inv.call' {s' : Shared} {ch : List Addr} (I : Inv X pins σ H s) (ho : s'.os = s.os) (u : Un (frs X.stack) ch H H' s.heap s'.heap) (hok : HOk X.prog X.w H' s'.heap) (hg : AllBare s'.gens)
    (hch : ∀ b ∈ ch, (b ∈ X.ex ∨ X.s₀.heap.objs.size ≤ b) ∧ b ≠ X.env.locals ∧ (∀ x c, X.env.cells.lookup x = some c → c ≠ b) ∧ ∀ p ∈ X.pn ++ pins, p.1 ≠ b) : Inv X pins σ H' s' := by
  obtain ⟨h', g', d', t', o'⟩ := s'
  have e : o' = s.os := ho
  subst e
  exact I.call (g' := g') (t' := t') (d' := d') u hok hg hch
end

/-! ### the judgements -/
/-- an exception: its class, its own dict's address (where it has one), the abstract heap behind it -/
abbrev XK := Value → Option Addr → Hp → Prop
abbrev St := List (Option V)
abbrev VK := V → Hp → Prop
/-- an expression's reading; a test's; an argument list's -/
abbrev TE := St → Hp → VK → Prop
abbrev TT := St → Hp → (Bool → Hp → Prop) → Prop
abbrev TA := St → Hp → (List V → Hp → Prop) → Prop
/-- what is wanted behind a statement -/
structure Ends where
  nx : St → Hp → Prop
  rt : VK
  bk : St → Hp → Prop := fun _ _ => False
  ct : St → Hp → Prop := fun _ _ => False
abbrev TS := Ends → St → Hp → Prop

def EP (X : Cx) (pins : List (Addr × Obj)) (σ : St) (Q : VK) (u : Value) (s' : Shared) : Prop := ∃ v H', Inv X pins σ H' s' ∧ RelV v u ∧ Q v H'
def TP (X : Cx) (pins : List (Addr × Obj)) (σ : St) (Q : Bool → Hp → Prop) (b : Bool) (s' : Shared) : Prop := ∃ H', Inv X pins σ H' s' ∧ Q b H'
def AP (X : Cx) (pins : List (Addr × Obj)) (σ : St) (Q : List V → Hp → Prop) (us : List Value) (s' : Shared) : Prop := ∃ vs H', Inv X pins σ H' s' ∧ Vals vs us ∧ Q vs H'
def SP (X : Cx) (pins : List (Addr × Obj)) (D : Ends) (f : Flow) (s' : Shared) : Prop :=
  match f with
  | .next => ∃ σ' H', Inv X pins σ' H' s' ∧ D.nx σ' H'
  | .brk => ∃ σ' H', Inv X pins σ' H' s' ∧ D.bk σ' H'
  | .cont => ∃ σ' H', Inv X pins σ' H' s' ∧ D.ct σ' H'
  | .ret u => ∃ v σ' H', Inv X pins σ' H' s' ∧ RelV v u ∧ D.rt v H'

def PE (X : Cx) (e : Expr) (t : TE) : Prop :=
  ∀ (pins : List (Addr × Obj)) (s : Shared) (σ : St) (H : Hp) (Q : VK), Inv X pins σ H s → t σ H Q → wpAny (model X.prog X.w) X.A (eval e X.env) (EP X pins σ Q) X.xe s
def PT (X : Cx) (e : Expr) (t : TT) : Prop :=
  ∀ (pins : List (Addr × Obj)) (s : Shared) (σ : St) (H : Hp) (Q : Bool → Hp → Prop), Inv X pins σ H s → t σ H Q → wpAny (model X.prog X.w) X.A (isTrue e X.env (eval e X.env)) (TP X pins σ Q) X.xe s
/-- a test whatever its 'whole' is (and, or) -/
def PW (X : Cx) (e : Expr) (t : TT) : Prop :=
  ∀ (whole : Sem Value) (pins : List (Addr × Obj)) (s : Shared) (σ : St) (H : Hp) (Q : Bool → Hp → Prop), Inv X pins σ H s → t σ H Q → wpAny (model X.prog X.w) X.A (isTrue e X.env whole) (TP X pins σ Q) X.xe s
theorem PW.pt {X : Cx} {e : Expr} {t : TT} (h : PW X e t) : PT X e t := h _
/-- an argument list (no star), from the left -/
def PA (X : Cx) (es : List Expr) (t : TA) : Prop :=
  ∀ (pos : Pos) (pins : List (Addr × Obj)) (s : Shared) (σ : St) (H : Hp) (Q : List V → Hp → Prop), Inv X pins σ H s → t σ H Q → wpAny (model X.prog X.w) X.A (spliced (backTo pos (starEach es X.env))) (AP X pins σ Q) X.xe s
def PS (X : Cx) (st : Stmt) (t : TS) : Prop :=
  ∀ (pins : List (Addr × Obj)) (s : Shared) (σ : St) (H : Hp) (D : Ends), Inv X pins σ H s → t D σ H → wpAny (model X.prog X.w) X.A (exec st X.env) (SP X pins D) X.xe s
def PSs (X : Cx) (st : List Stmt) (t : TS) : Prop :=
  ∀ (pins : List (Addr × Obj)) (s : Shared) (σ : St) (H : Hp) (D : Ends), Inv X pins σ H s → t D σ H → wpAny (model X.prog X.w) X.A (execs st X.env) (SP X pins D) X.xe s
/-- weaken the end -/
theorem thn {α : Type} {t : Sem α} {Q Q' : α → Shared → Prop} {M : Model} {A : Around} {E : Value → Shared → Prop} {s : Shared} (h : wpAny M A t Q E s) (hQ : ∀ a s, Q a s → Q' a s) : wpAny M A t Q' E s := wpAny_mono h hQ fun _ _ x => x
end L2

namespace L2
open PySem PySem.Spec PyProof.Rows
section
variable {X : Cx}

/-- two expressions in a row -/
theorem bin {a b : Expr} {ta tb : TE} (ha : PE X a ta) (hb : PE X b tb) {pins : List (Addr × Obj)} {s : Shared} {σ : St} {H : Hp} {R : V → V → Hp → Prop} (I : Inv X pins σ H s) (h : ta σ H fun x H1 => tb σ H1 fun y H2 => R x y H2)
    {α : Type} {Q : α → Shared → Prop} {f : Value → Value → Sem α}
    (hf : ∀ v u s2 x y H2, Inv X pins σ H2 s2 → RelV x v → RelV y u → R x y H2 → wpAny (model X.prog X.w) X.A (f v u) Q X.xe s2) :
    wpAny (model X.prog X.w) X.A (eval a X.env) (fun v s₁ => wpAny (model X.prog X.w) X.A (eval b X.env) (fun u s₂ => wpAny (model X.prog X.w) X.A (f v u) Q X.xe s₂) X.xe s₁) X.xe s := by
  refine thn (ha pins s σ H _ I h) fun v s1 ⟨x, H1, I1, r1, q1⟩ => ?_
  refine thn (hb pins s1 σ H1 _ I1 q1) fun u s2 ⟨y, H2, I2, r2, q2⟩ => ?_
  exact hf v u s2 x y H2 I2 r1 r2 q2

/-! ### names and constants -/
def tVar (i : Nat) : TE := fun σ H Q => ∃ v, σ[i]? = some (some v) ∧ Q v H
def tC (v : V) : TE := fun _ H Q => Q v H
theorem pe_var {i : Nat} {x : Str} {pos : Pos} (hN : X.N[i]? = some x) (hv : Vis X.env.scope x) (hd : (x == ("__debug__" : Str)) = false := by decide) (hcd : (x == ("__classdict__" : Str)) = false := by decide) : PE X (.Name x pos) (tVar i) := by
  intro pins s σ H Q I h
  obtain ⟨v, e, h⟩ := h
  obtain ⟨m, hn, hl⟩ := I.loc
  obtain ⟨u, r, l⟩ := hl i x v hN e hv
  have fin : EP X pins σ Q u s := ⟨v, H, I, r, h⟩
  rcases l with ⟨hk, hm⟩ | ⟨hk, c, hc, hcell⟩
  · exact wpAny_Name (wpAny_loadName_local I.ok.kind hk hn hm fin) hd
  · rcases hk with hk | hk
    · exact wpAny_Name (wpAny_loadName_cell I.ok.kind hk hc hcell fin) hd
    · exact wpAny_Name (wpAny_loadName_free I.ok.kind hk hc hcell fin hcd) hd
theorem pe_int {i j pos} : PE X (.Constant (.int i) j pos) (tC (.int i)) := fun _ _ _ H _ I h => wpAny_Constant_int ⟨.int i, H, I.tok _, ⟨_, rfl⟩, h⟩
theorem pe_bl {b j pos} : PE X (.Constant (.bool b) j pos) (tC (.bl b)) := fun _ _ _ H _ I h => Constant_bool ⟨.bl b, H, I, rfl, h⟩
theorem pe_non {j pos} : PE X (.Constant .none j pos) (tC .non) := fun _ _ _ H _ I h => Constant_none ⟨.non, H, I, rfl, h⟩
theorem pe_str {x j pos} : PE X (.Constant (.str x) j pos) (tC (.str x)) := fun _ _ _ H _ I h => Calls.Constant_str ⟨.str x, H, I.tok _, ⟨_, rfl⟩, h⟩

/-- a global name of the def -/
def Gl (X : Cx) (x : Str) : Prop := X.env.kindOf x = some .globalImplicit
theorem ld_glob {E : Value → Shared → Prop} {pins : List (Addr × Obj)} {s : Shared} {σ : St} {H : Hp} {x : Str} {u : Value} {pos : Pos} {Q : Value → Shared → Prop} (I : Inv X pins σ H s) (hg : Gl X x) (hm : X.mg x = some u) (h : Q u s)
    (hd : (x == ("__debug__" : Str)) = false := by decide) : wpAny (model X.prog X.w) X.A (eval (.Name x pos) X.env) Q E s :=
  Calls.Name_function_global I.ok.kind hg (Calls.loadGlobal_global (by rw [I.ok.glob]; exact I.mod.glob.keeps I.bk) hm h) hd
theorem ld_blt {E : Value → Shared → Prop} {pins : List (Addr × Obj)} {s : Shared} {σ : St} {H : Hp} {x : Str} {u : Value} {pos : Pos} {Q : Value → Shared → Prop} (I : Inv X pins σ H s) (hg : Gl X x) (hm : X.mg x = none) (hv : bootBuiltins x = some u) (h : Q u s)
    (hn : x ≠ "__name__" := by decide) (hd : (x == ("__debug__" : Str)) = false := by decide) : wpAny (model X.prog X.w) X.A (eval (.Name x pos) X.env) Q E s := by
  obtain ⟨mb, h1, h2⟩ := I.mod.blt
  exact Calls.Name_function_global I.ok.kind hg (Calls.loadGlobal_builtin (by rw [I.ok.glob]; exact I.mod.glob.keeps I.bk) hm (by rw [I.ok.blt]; exact h1.keeps I.bk) ((h2 x hn).trans hv) h) hd
/-- a module's constant, a class, a function, as a value -/
theorem pe_glob {x : Str} {v : V} {u : Value} {pos : Pos} (hg : Gl X x) (hm : X.mg x = some u) (r : RelV v u) (hd : (x == ("__debug__" : Str)) = false := by decide) : PE X (.Name x pos) (tC v) :=
  fun _ _ _ H _ I h => ld_glob I hg hm ⟨v, H, I, r, h⟩ hd
theorem pe_bltn {x : Str} {v : V} {u : Value} {pos : Pos} (hg : Gl X x) (hm : X.mg x = none) (hv : bootBuiltins x = some u) (r : RelV v u) (hn : x ≠ "__name__" := by decide) (hd : (x == ("__debug__" : Str)) = false := by decide) : PE X (.Name x pos) (tC v) :=
  fun _ _ _ H _ I h => ld_blt I hg hm hv ⟨v, H, I, r, h⟩ hn hd

/-! ### arithmetic -/
variable {a b : Expr} {ta tb : TE} {pos : Pos}
/-! ### comparisons -/
def PC (X : Cx) (op : CmpOp) (a b : Expr) (t : TE) : Prop :=
  ∀ (pins : List (Addr × Obj)) (s : Shared) (σ : St) (H : Hp) (Q : VK), Inv X pins σ H s → t σ H Q →
    wpAny (model X.prog X.w) X.A (eval a X.env) (fun v s₁ => wpAny (model X.prog X.w) X.A (eval b X.env) (fun u s₂ => wpAny (model X.prog X.w) X.A (compareOp op v u) (EP X pins σ Q) X.xe s₂) X.xe s₁) X.xe s
/-- a comparison as a value, as a test -/
def tB (t : TE) : TT := fun σ H Q => t σ H fun x H1 => ∃ c, x = .bl c ∧ Q c H1
theorem pt_cmp {op : CmpOp} {t : TE} (h : PC X op a b t) (h1 : behindInMarks op b = false := by first | exact nobehind _ (by decide) (by decide) | rfl) : PT X (.Compare a [op] [b] pos) (tB t) := by
  intro pins s σ H Q I hw
  refine wpAny_isTrue_Compare1 (thn (h pins s σ H _ I hw) fun v s1 h1 => thn h1 fun u s2 h2 => thn h2 fun c s3 ⟨x, H1, I1, r1, q1⟩ => ?_) h1
  obtain ⟨d, rfl, q⟩ := q1
  cases r1
  exact wpAny_truthy_bool ⟨H1, I1, q⟩
/-- an expression whose value is a bool, as a test -/
theorem pt_val {e : Expr} {t : TE} (h : PE X e t) (he : ∀ whole, isTrue e X.env whole = (do let v ← whole; standAt e.pos; holding [v] (truthy v)) := by intro _; rfl) : PT X e (tB t) := by
  intro pins s σ H Q I hw
  refine isTrue_plain (thn (h pins s σ H _ I hw) fun v s1 ⟨x, H1, I1, r1, q1⟩ => ?_) (he _)
  obtain ⟨d, rfl, q⟩ := q1
  cases r1
  exact wpAny_truthy_bool ⟨H1, I1, q⟩

/-! ### and, or, not -/
variable {tA tB' : TT} {rest : List Expr}
def tOr (t u : TT) : TT := fun σ H Q => t σ H fun c H1 => if c = true then Q true H1 else u σ H1 Q
def tNot (t : TT) : TT := fun σ H Q => t σ H fun c H1 => Q (!c) H1
theorem pw_or1 (ha : PT X a tA) : PW X (.BoolOp .Or [a] pos) tA := by
  intro wh pins s σ H Q I h
  refine isTrue_or (thn (ha pins s σ H Q I h) fun c s1 e => ?_)
  cases c with
  | false => exact isTrue_or_nil e
  | true => exact e
theorem pw_or (ha : PT X a tA) (hb : PW X (.BoolOp .Or (b :: rest) pos) tB') : PW X (.BoolOp .Or (a :: b :: rest) pos) (tOr tA tB') := by
  intro wh pins s σ H Q I h
  refine isTrue_or (thn (ha pins s σ H _ I h) fun c s1 ⟨H1, I1, q1⟩ => ?_)
  cases c with
  | true => exact ⟨H1, I1, q1⟩
  | false => exact hb wh pins s1 σ H1 Q I1 q1
theorem pt_not (ha : PT X a tA) : PT X (.UnaryOp .Not a pos) (tNot tA) := by
  intro pins s σ H Q I h
  exact isTrue_not (ha pins s σ H (fun c H1 => Q (!c) H1) I h)
/-- a if t else b -/
def tIf (t : TT) (ta tb : TE) : TE := fun σ H Q => t σ H fun c H1 => if c = true then ta σ H1 Q else tb σ H1 Q
theorem pe_ifExp {c : Expr} (hc : PT X c tA) (ha : PE X a ta) (hb : PE X b tb) : PE X (.IfExp c a b pos) (tIf tA ta tb) := by
  intro pins s σ H Q I h
  refine wpAny_IfExp (thn (hc pins s σ H _ I h) fun d s1 ⟨H1, I1, q1⟩ => ?_)
  cases d with
  | true => exact ha pins s1 σ H1 Q I1 q1
  | false => exact hb pins s1 σ H1 Q I1 q1
end
end L2

namespace L2
open PySem PySem.Spec PyProof.Rows

/-! ### a list, a tuple that is read: tracked, frozen, or an object of the module -/
def SqL (K : PySem.W.Frag) (H : Hp) (a : Addr) (xs : List V) : Prop :=
  Rd H a (.lst xs) ∨
    ∃ (o : Obj) (its : Array Value) (n : Nat), K.lookup a = some o ∧ o.cls = .type "list" ∧ o.dict = none ∧ o.data = .seq its n ∧ its.size ≤ sizeLine ∧ Vals xs its.toList
def SqT (K : PySem.W.Frag) (H : Hp) (a : Addr) (xs : List V) : Prop :=
  Rd H a (.tup xs) ∨
    ∃ (o : Obj) (its : Array Value) (n : Nat), K.lookup a = some o ∧ o.cls = .type "tuple" ∧ o.data = .seq its n ∧ its.size ≤ sizeLine ∧ Vals xs its.toList
def absV : Value → Option V
  | .none => some .non
  | .bool b => some (.bl b)
  | .int i _ => some (.int i)
  | .str x _ => some (.str x)
  | .bytes b _ => some (.byt b)
  | .float b _ => some (.flt b)
  | .ref a => some (.ref a)
  | .type n => some (.ty n)
  | _ => none
theorem RelV.abs {x : V} {u : Value} (r : RelV x u) : absV u = some x := by
  cases x with
  | non => cases r; rfl
  | bl _ => cases r; rfl
  | int _ => obtain ⟨t, rfl⟩ := r; rfl
  | str _ => obtain ⟨t, rfl⟩ := r; rfl
  | byt _ => obtain ⟨t, rfl⟩ := r; rfl
  | flt _ => obtain ⟨t, rfl⟩ := r; rfl
  | ref _ => cases r; rfl
  | ty _ => cases r; rfl
theorem RelV.inj {x y : V} {u : Value} (r : RelV x u) (q : RelV y u) : x = y := Option.some.inj (r.abs.symm.trans q.abs)
theorem Vals.inj : ∀ {xs ys : List V} {us : List Value}, Vals xs us → Vals ys us → xs = ys
  | _, _, _, .nil, .nil => rfl
  | _, _, _, .cons r t, .cons r' t' => by rw [r.inj r', Vals.inj t t']
section
variable {X : Cx} {pins : List (Addr × Obj)} {σ : St} {H : Hp} {s : Shared} {a : Addr} {xs ys : List V}
theorem SqL.of {K : PySem.W.Frag} (h : H a = some (.lst xs)) : SqL K H a xs := .inl (.inl h)
theorem SqT.of {K : PySem.W.Frag} (h : H a = some (.tup xs)) : SqT K H a xs := .inl (.inl h)
theorem Inv.list (I : Inv X pins σ H s) (h : SqL X.K H a xs) : ∃ its : List Value, Vals xs its ∧ PlainL s.heap a its.toArray ∧ xs.length ≤ sizeLine := by
  rcases h with h | ⟨o, its, n, hk, hc, hd, hs, hz, r⟩
  · obtain ⟨z, its, n, r, e⟩ := h.ok I.hok
    exact ⟨its, r, ⟨_, n, e, rfl, rfl, rfl⟩, z⟩
  · refine ⟨its.toList, r, ⟨o, n, I.kIn a o hk, hc, hd, by simpa using hs⟩, ?_⟩
    have e := r.length
    simp only [Array.length_toList] at e
    omega
theorem Inv.tuple (I : Inv X pins σ H s) (h : SqT X.K H a xs) : ∃ its : List Value, Vals xs its ∧ IsTup s.heap a its.toArray ∧ xs.length ≤ sizeLine := by
  rcases h with h | ⟨o, its, n, hk, hc, hs, hz, r⟩
  · obtain ⟨z, its, r, p⟩ := h.ok I.hok
    exact ⟨its, r, p, z⟩
  · refine ⟨its.toList, r, ⟨o, I.kIn a o hk, hc, n, by simpa using hs⟩, ?_⟩
    have e := r.length
    simp only [Array.length_toList] at e
    omega
theorem Inv.list_inj (I : Inv X pins σ H s) (h : SqL X.K H a xs) (h' : SqL X.K H a ys) : xs = ys := by
  obtain ⟨its, r, ⟨o, n, e, _, _, d⟩, _⟩ := I.list h
  obtain ⟨its', r', ⟨o', n', e', _, _, d'⟩, _⟩ := I.list h'
  rw [e] at e'; cases e'
  rw [d] at d'
  injection d' with d1 _
  have : its = its' := by simpa using congrArg Array.toList d1
  subst this
  exact r.inj r'
theorem Inv.tuple_inj (I : Inv X pins σ H s) (h : SqT X.K H a xs) (h' : SqT X.K H a ys) : xs = ys := by
  obtain ⟨its, r, ⟨o, e, _, n, d⟩, _⟩ := I.tuple h
  obtain ⟨its', r', ⟨o', e', _, n', d'⟩, _⟩ := I.tuple h'
  rw [e] at e'; cases e'
  rw [d] at d'
  injection d' with d1 _
  have : its = its' := by simpa using congrArg Array.toList d1
  subst this
  exact r.inj r'
end

/-! ### another wish about exceptions -/
abbrev Cx.wish (X : Cx) (E : Value → Shared → Prop) : Cx := { X with xe := E }
/-- no exception leaves -/
abbrev Cx.nox (X : Cx) : Cx := X.wish fun _ _ => False
theorem Cx.Ok.wish {X : Cx} (ok : X.Ok) (E : Value → Shared → Prop) : (X.wish E).Ok :=
  ⟨ok.mod, ok.kind, ok.glob, ok.blt, ok.above, ok.inj, ok.has, ok.cab, ok.hd, ok.frames, ok.stk, ok.exf, ok.bs, ok.bsz, ok.noex, ok.exfs, ok.funs, ok.frf⟩
theorem Cx.Ok.unwish {X : Cx} {E : Value → Shared → Prop} (ok : (X.wish E).Ok) : X.Ok :=
  ⟨ok.mod, ok.kind, ok.glob, ok.blt, ok.above, ok.inj, ok.has, ok.cab, ok.hd, ok.frames, ok.stk, ok.exf, ok.bs, ok.bsz, ok.noex, ok.exfs, ok.funs, ok.frf⟩
section
variable {X : Cx} {pins : List (Addr × Obj)} {σ : St} {H : Hp} {s : Shared} {E : Value → Shared → Prop}
theorem Inv.wish (I : Inv X pins σ H s) (E : Value → Shared → Prop) : Inv (X.wish E) pins σ H s := ⟨I.ok.wish E, I.os, I.bare, I.base, I.loc, I.cell, I.free, I.freeC, I.pin, I.hok, I.len⟩
theorem Inv.unwish (I : Inv (X.wish E) pins σ H s) : Inv X pins σ H s := ⟨I.ok.unwish, I.os, I.bare, I.base, I.loc, I.cell, I.free, I.freeC, I.pin, I.hok, I.len⟩
theorem SP.unwish {D : Ends} {f : Flow} {s' : Shared} (h : SP (X.wish E) pins D f s') : SP X pins D f s' := by
  cases f with
  | next => obtain ⟨σ', H', I, q⟩ := h; exact ⟨σ', H', I.unwish, q⟩
  | brk => obtain ⟨σ', H', I, q⟩ := h; exact ⟨σ', H', I.unwish, q⟩
  | cont => obtain ⟨σ', H', I, q⟩ := h; exact ⟨σ', H', I.unwish, q⟩
  | ret u => obtain ⟨v, σ', H', I, r, q⟩ := h; exact ⟨v, σ', H', I.unwish, r, q⟩
theorem PSs.nox {st : List Stmt} {t : TS} (h : PSs X.nox st t) : PSs X st t := fun pins s σ H D I hw =>
  wpAny_mono (h pins s σ H D (I.wish _) hw) (fun _ _ q => q.unwish) fun _ _ z => False.elim z
end

/-! ### blocks and small statements -/
section
variable {X : Cx} {st : Stmt} {rest : List Stmt} {t u : TS} {e : Expr} {te : TE} {pos : Pos}
def tNext : TS := fun D σ H => D.nx σ H
def tSeq (t u : TS) : TS := fun D σ H => t { D with nx := u D } σ H
theorem pss_nil : PSs X [] tNext := fun _ _ σ H _ I h => wpAny_execs_nil ⟨σ, H, I, h⟩
theorem pss_cons (h1 : PS X st t) (h2 : PSs X rest u) : PSs X (st :: rest) (tSeq t u) := by
  intro pins s σ H D I h
  refine wpAny_execs_cons (thn (h1 pins s σ H { D with nx := u D } I h) fun f s1 q => ?_)
  cases f with
  | next =>
    obtain ⟨σ', H', I', q⟩ := q
    exact h2 pins s1 σ' H' D I' q
  | ret v => exact q
  | brk => exact q
  | cont => exact q
theorem pss_one (h1 : PS X st t) : PSs X [st] t := by
  intro pins s σ H D I h
  refine wpAny_execs_cons (thn (h1 pins s σ H D I h) fun f s1 q => ?_)
  cases f with
  | next => exact wpAny_execs_nil q
  | ret v => exact q
  | brk => exact q
  | cont => exact q
/-- in a def's body nothing is shown -/
theorem Inv.quiet {pins : List (Addr × Obj)} {σ : St} {H : Hp} {s : Shared} (I : Inv X pins σ H s) : interactive X.env = false := by simp [interactive, I.ok.kind]
/-- an expression whose value is dropped -/
def tDrop (te : TE) : TS := fun D σ H => te σ H fun _ H1 => D.nx σ H1
theorem ps_expr (he : PE X e te) (hs : swapsWith e none pos.line X.env = pure false := by rfl) : PS X (.Expr e pos) (tDrop te) := by
  intro pins s σ H D I h
  exact wpAny_Expr_any (thn (he pins s σ H _ I h) fun v s1 ⟨x, H1, I1, r1, q1⟩ => ⟨σ, H1, I1, q1⟩) I.quiet hs
def tRet (te : TE) : TS := fun D σ H => te σ H D.rt
theorem ps_ret (he : PE X e te) : PS X (.Return (some e) pos) (tRet te) := by
  intro pins s σ H D I h
  exact wpAny_Return_some (thn (he pins s σ H _ I h) fun v s1 ⟨x, H1, I1, r1, q1⟩ => ⟨x, σ, H1, I1, r1, q1⟩)
def tIfS (c : TT) (t u : TS) : TS := fun D σ H => c σ H fun b H1 => if b = true then t D σ H1 else u D σ H1
theorem ps_if {c : Expr} {a b : List Stmt} {tc : TT} (hc : PT X c tc) (ha : PSs X a t) (hb : PSs X b u) : PS X (.If c a b pos) (tIfS tc t u) := by
  intro pins s σ H D I h
  refine wpAny_If (thn (hc pins s σ H _ I h) fun d s1 ⟨H1, I1, q1⟩ => ?_)
  cases d with
  | true => exact ha pins s1 σ H1 D I1 q1
  | false => exact hb pins s1 σ H1 D I1 q1
/-- code that the proof never comes to -/
def tNever : TS := fun _ _ _ => False
theorem pss_never {sts : List Stmt} : PSs X sts tNever := fun _ _ _ _ _ _ h => h.elim
end

/-! ### targets -/
abbrev TG := V → St → Hp → (St → Hp → Prop) → Prop
abbrev TGs := List V → St → Hp → (St → Hp → Prop) → Prop
def PG (X : Cx) (target : Expr) (t : TG) : Prop :=
  ∀ (pins : List (Addr × Obj)) (s : Shared) (σ : St) (H : Hp) (v : V) (u : Value) (Q : St → Hp → Prop), Inv X pins σ H s → RelV v u → t v σ H Q →
    wpAny (model X.prog X.w) X.A (assign target X.env u) (fun _ s' => ∃ σ' H', Inv X pins σ' H' s' ∧ Q σ' H') X.xe s
/-- several targets, one after another -/
def PGs (X : Cx) (ts : List Expr) (t : TGs) : Prop :=
  ∀ (pins : List (Addr × Obj)) (s : Shared) (σ : St) (H : Hp) (vs : List V) (us : List Value) (Q : St → Hp → Prop), Inv X pins σ H s → Vals vs us → t vs σ H Q →
    wpAny (model X.prog X.w) X.A (assignInOrder ((assignEach ts X.env).map (·.2)) us) (fun _ s' => ∃ σ' H', Inv X pins σ' H' s' ∧ Q σ' H') X.xe s
section
variable {X : Cx} {pos : Pos}
def gName (i : Nat) : TG := fun v σ H Q => Q (σ.set i (some v)) H
theorem pg_name {i : Nat} {x : Str} (hN : X.N.Nodup) (hi : X.N[i]? = some x) (hx : Loc X.env.scope x) (hf : X.fn x = true ∨ X.env.scope.names.lookup x = some .local := by first | exact .inl rfl | exact .inr rfl | assumption) : PG X (.Name x pos) (gName i) := by
  intro pins s σ H v u Q I r h
  exact wpAny_assign_Name (store_ok I hN hi hx r (fun s' I' => ⟨_, H, I', h⟩) hf)
def gNil : TGs := fun vs σ H Q => vs = [] ∧ Q σ H
def gCons (t : TG) (u : TGs) : TGs := fun vs σ H Q => ∃ v r, vs = v :: r ∧ t v σ H fun σ' H' => u r σ' H' Q
theorem pgs_nil : PGs X [] gNil := by
  intro pins s σ H vs us Q I r h
  obtain ⟨e, h⟩ := h
  subst e
  cases r
  exact assignInOrder_nil ⟨σ, H, I, h⟩
theorem pgs_cons {e : Expr} {es : List Expr} {t : TG} {u : TGs} (h1 : PG X e t) (h2 : PGs X es u)
    (hs : (assignEach (e :: es) X.env).map (·.2) = assign e X.env :: (assignEach es X.env).map (·.2) := by rfl) : PGs X (e :: es) (gCons t u) := by
  intro pins s σ H vs us Q I r h
  obtain ⟨v, vr, e1, h⟩ := h
  subst e1
  cases r with
  | cons r rr =>
    rw [hs]
    refine assignInOrder_cons (thn (h1 pins s σ H _ _ _ I r h) fun _ s1 ⟨σ1, H1, I1, q1⟩ => ?_)
    exact h2 pins s1 σ1 H1 _ _ Q I1 rr q1
/-- (a, b, ..) = a tuple of that length -/
def gTup (K : PySem.W.Frag) (n : Nat) (t : TGs) : TG := fun v σ H Q => ∃ a xs, v = .ref a ∧ SqT K H a xs ∧ xs.length = n ∧ t xs σ H Q
theorem pg_tup {es : List Expr} {k : Nat} {t : TGs} {n : Nat} (hc : X.calm = true) (h : PGs X es t)
    (hn : (assignEach es X.env).length = n := by rfl) (hst : (assignEach es X.env).findIdx? (·.1) = none := by rfl) : PG X (.Tuple es k pos) (gTup X.K n t) := by
  intro pins s σ H v u Q I r hw
  obtain ⟨a, xs, e1, hq, hl, hw⟩ := hw
  subst e1
  cases r
  obtain ⟨its, rv, ht, hz⟩ := I.tuple hq
  refine assign_Tuple_tuple (I.ok.hd hc) ht (by simp [hn, ← hl, rv.length]) hst fun h' hx => ?_
  have I1 : Inv X pins σ H { s with heap := h' } := I.kept (t' := s.toks) fun b o e => hx b o (Nat.ne_of_lt (Heap.lt_size e)) e
  exact h pins _ σ H xs _ Q I1 (by simpa using rv) hw
/-- target = value -/
def tAsg (te : TE) (g : TG) : TS := fun D σ H => te σ H fun x H1 => g x σ H1 D.nx
theorem ps_asg {tg e : Expr} {te : TE} {g : TG} (he : PE X e te) (hg : PG X tg g) (hs : swapsWithSole [tg] e pos.line X.env = pure false := by rfl) (hw : swappedStores [tg] e X.env = pure none := by rfl)
    (h1 : (assignEach [tg] X.env).map (·.2) = [assign tg X.env] := by rfl) : PS X (.Assign [tg] e pos) (tAsg te g) := by
  intro pins s σ H D I h
  refine wpAny_Assign_stores (thn (he pins s σ H _ I h) fun v s1 ⟨x, H1, I1, r1, q1⟩ => ?_) hs hw
  rw [h1]
  exact thn (hg pins s1 σ H1 x v _ I1 r1 q1) fun _ s2 q => q
/-- name = value -/
theorem ps_set {i : Nat} {x : Str} {e : Expr} {te : TE} {pos' : Pos} (hN : X.N.Nodup) (hi : X.N[i]? = some x) (hx : Loc X.env.scope x) (he : PE X e te) (hs : swapsWith e (some (.Name x pos')) pos.line X.env = pure false := by rfl) (hf : X.fn x = true ∨ X.env.scope.names.lookup x = some .local := by first | exact .inl rfl | exact .inr rfl | assumption) :
    PS X (.Assign [.Name x pos'] e pos) (tAsg te (gName i)) := by
  intro pins s σ H D I h
  refine wpAny_Assign_Name (thn (he pins s σ H _ I h) fun v s1 ⟨y, H1, I1, r1, q1⟩ => ?_) hs
  exact store_ok I1 hN hi hx r1 (fun s2 I2 => ⟨_, H1, I2, q1⟩) hf
end

/-! ### while -/
section
variable {X : Cx} {pos : Pos}
end

/-! ### what a loop or a comprehension walks -/
/-- at turn i: it yields x (the heap may grow), or it stops -/
structure It where
  go : Nat → Hp → Prop
  yld : Nat → Hp → V → Hp → Prop
  stop : Nat → Hp → Prop
/-- the iterator's own objects may turn: they are not the frame's, not pinned, younger than the entry (or a comprehension's own) -/
def FpOk (X : Cx) (pins : List (Addr × Obj)) (H : Hp) (b : Addr) : Prop :=
  H b = none ∧ b ≠ X.env.locals ∧ b ∉ X.fs ∧ (b ∈ X.ex ∨ X.s₀.heap.objs.size ≤ b) ∧ (∀ x c, X.env.cells.lookup x = some c → c ≠ b) ∧ ∀ p ∈ X.pn ++ pins, p.1 ≠ b
theorem Inv.fpOk {X : Cx} {pins : List (Addr × Obj)} {σ : St} {H H' : Hp} {s : Shared} {b : Addr} (I : Inv X pins σ H s) (hb : s.heap.objs.size ≤ b) (hn : H' b = none) : FpOk X pins H' b := by
  refine ⟨hn, Nat.ne_of_gt (Nat.lt_of_lt_of_le I.lt hb), I.nofs hb, .inr (Nat.le_trans I.sz hb), fun x c e z => ?_, fun p hp z => ?_⟩
  · obtain ⟨v, q⟩ := I.cell x c e
    exact absurd (Nat.lt_of_lt_of_le q.lt (by rw [z]; exact hb)) (Nat.lt_irrefl _)
  · exact absurd (Nat.lt_of_lt_of_le (Heap.lt_size (I.pin p hp).1) (by rw [z]; exact hb)) (Nat.lt_irrefl _)
structure Turn (P : Program) (w : World) (K : PySem.W.Frag) (tg : Expr) (J : It) (fp : List Addr) (it : Addr) (tn : Nat → Heap → Prop) : Prop where
  mem : it ∈ fp
  obj : ∀ i h, tn i h → ∀ b ∈ fp, ∃ o, h.get? b = some o ∧ ∀ v, o.data ≠ .cell v
  keep : ∀ i h h', tn i h → (∀ b ∈ fp, ∀ o, h.get? b = some o → h'.get? b = some o) → tn i h'
  item : ∀ (X : Cx), X.prog = P → X.w = w → X.K = K → X.calm = true → ∀ (i : Nat) (pins : List (Addr × Obj)) (s : Shared) (σ : St) (H : Hp) (E : Value → Shared → Prop), Inv X pins σ H s → (∀ b ∈ fp, FpOk X pins H b) → tn i s.heap → J.go i H →
    wpAny (model P w) X.A (pyNext (.ref it)) (fun r s1 => ∃ u, r = some u ∧
      wpAny (model P w) X.A (letOwnedTupleGo tg (.ref it) u) (fun _ s2 => ∃ x H', Inv X pins σ H' s2 ∧ RelV x u ∧ J.yld i H x H' ∧ tn (i + 1) s2.heap ∧ ∀ b ∈ fp, H' b = none) E s1) E s
  done : ∀ (X : Cx), X.prog = P → X.w = w → X.K = K → X.calm = true → ∀ (i : Nat) (pins : List (Addr × Obj)) (s : Shared) (σ : St) (H : Hp) (E : Value → Shared → Prop), Inv X pins σ H s → (∀ b ∈ fp, FpOk X pins H b) → tn i s.heap → J.stop i H →
    wpAny (model P w) X.A (pyNext (.ref it)) (fun r s1 => r = none ∧ Inv X pins σ H s1) E s
  self : ∀ (A : Around) (i : Nat) (s : Shared) (Q : Value → Shared → Prop) (E : Value → Shared → Prop), tn i s.heap → Q (.ref it) s → wpAny (model P w) A (pyIter (.ref it)) Q E s
abbrev TI := St → Hp → (It → Hp → Prop) → Prop
/-- an iterator has come -/
def PIE (X : Cx) (pins : List (Addr × Obj)) (σ : St) (tg : Expr) (R : It → Hp → Prop) (itv : Value) (s2 : Shared) : Prop :=
  ∃ (it : Addr) (fp : List Addr) (tn : Nat → Heap → Prop) (J : It) (H' : Hp), itv = .ref it ∧ Inv X pins σ H' s2 ∧ Turn X.prog X.w X.K tg J fp it tn ∧ tn 0 s2.heap ∧ (∀ b ∈ fp, FpOk X pins H' b) ∧ R J H'
def PI (X : Cx) (tg iter : Expr) (wi : TI) : Prop :=
  ∀ (pins : List (Addr × Obj)) (s : Shared) (σ : St) (H : Hp) (R : It → Hp → Prop), Inv X pins σ H s → wi σ H R →
    wpAny (model X.prog X.w) X.A (eval iter X.env) (fun v s1 => wpAny (model X.prog X.w) X.A (pyIter v) (PIE X pins σ tg R) X.xe s1) X.xe s

/-- the step ahead of the store is nothing for an iterator that keeps no tuple -/
theorem go_of {M : Model} {A : Around} {E : Value → Shared → Prop} {s : Shared} {tg : Expr} {it : Addr} {u : Value} {o : Obj} {n : String} {vs : Array Value} {Q : Unit → Shared → Prop} (ho : s.heap.get? it = some o) (hc : o.cls = .type n) (hd : o.data = .fields vs)
    (hn : ["enumerate", "zip", "dict_itemiterator", "dict_reverseitemiterator", "odict_iterator", "itertools.zip_longest", "itertools.pairwise"].contains n = false) (hQ : Q () s) : wpAny M A (letOwnedTupleGo tg (.ref it) u) Q E s := by
  unfold letOwnedTupleGo
  cases tg <;> first
    | exact wpAny_pure hQ
    | (cases u <;> first
        | exact wpAny_pure hQ
        | (refine wpAny_bind (wpAny_load ho ?_)
           rw [hc, hd]
           show wpAny M A (if (["enumerate", "zip", "dict_itemiterator", "dict_reverseitemiterator", "odict_iterator", "itertools.zip_longest", "itertools.pairwise"].contains n && vs[0]? == some (rawInt _)) = true then _ else _) Q E s
           rw [if_neg (by intro h; rw [hn, Bool.false_and] at h; cases h)]
           exact wpAny_pure hQ))

/-- the list at a, as it stands at each turn (a loop may append to it) -/
def Itl (K : PySem.W.Frag) (a : Addr) : It :=
  ⟨fun i H => ∃ xs x, SqL K H a xs ∧ xs[i]? = some x, fun i H x H' => H' = H ∧ ∀ xs, SqL K H a xs → xs[i]? = some x, fun i H => ∃ xs, SqL K H a xs ∧ xs.length ≤ i⟩
def Itt (K : PySem.W.Frag) (a : Addr) : It :=
  ⟨fun i H => ∃ xs x, SqT K H a xs ∧ xs[i]? = some x, fun i H x H' => H' = H ∧ ∀ xs, SqT K H a xs → xs[i]? = some x, fun i H => ∃ xs, SqT K H a xs ∧ xs.length ≤ i⟩
/-- lo, lo + 1, .. (n of them) -/
def Itr (lo : Int) (n : Nat) : It := ⟨fun i _ => i < n, fun i H x H' => H' = H ∧ x = .int (lo + i), fun i _ => n ≤ i⟩
theorem turn_list {P : Program} {w : World} {K : PySem.W.Frag} {tg : Expr} (a it : Addr) : Turn P w K tg (Itl K a) [it] it (fun i h => h.IsListIter it a i) where
  mem := by simp
  obj := fun i h st b hb => by
    have e : b = it := by simpa using hb
    subst e
    obtain ⟨o, e, c, d⟩ := st
    exact ⟨o, e, fun v z => by rw [d] at z; cases z⟩
  keep := fun i h h' st k => st.at fun o e => k it (by simp) o e
  item := by
    intro X hP hw hK hc i pins s σ H E I hf st hg
    subst hP hw hK
    obtain ⟨xs, x, hq, hx⟩ := hg
    obtain ⟨its, rv, p, hz⟩ := I.list hq
    obtain ⟨u, hu, ru⟩ := rv.get hx
    obtain ⟨f0, f1, f2, f3, f4, f5⟩ := hf it (by simp)
    refine wpAny_pyNext_list_item st p.isList (x := u) (by simpa using hu) fun h' st' sb => ?_
    have I1 : Inv X pins σ H { s with heap := h' } := I.turned (t' := s.toks) (fun b o hb e => (sb.2 b hb).trans e) f0 f1 f3 f4 f5
    obtain ⟨o, e, c, d⟩ := id st'
    exact ⟨u, rfl, go_of (s := { s with heap := h' }) e c d (by decide) ⟨x, H, I1, ru, ⟨rfl, fun ys hy => by rw [I.list_inj hy hq]; exact hx⟩, st', fun b hb => (hf b hb).1⟩⟩
  done := by
    intro X hP hw hK hc i pins s σ H E I hf st hg
    subst hP hw hK
    obtain ⟨xs, hq, hx⟩ := hg
    obtain ⟨its, rv, p, hz⟩ := I.list hq
    obtain ⟨f0, f1, f2, f3, f4, f5⟩ := hf it (by simp)
    have hl := rv.length
    exact wpAny_pyNext_list_end (I.ok.hd hc) st p.isList (by simp; omega) fun h' eb => ⟨rfl, I.turned (t' := s.toks) (fun b o hb e => eb b o hb e) f0 f1 f3 f4 f5⟩
  self := fun _ _ _ _ _ st h => wpAny_pyIter_listiter st h
theorem turn_tuple {P : Program} {w : World} {K : PySem.W.Frag} {tg : Expr} (a it : Addr) : Turn P w K tg (Itt K a) [it] it (fun i h => h.IsTupleIter it a i) where
  mem := by simp
  obj := fun i h st b hb => by
    have e : b = it := by simpa using hb
    subst e
    obtain ⟨o, e, c, d⟩ := st
    exact ⟨o, e, fun v z => by rw [d] at z; cases z⟩
  keep := fun i h h' st k => st.at fun o e => k it (by simp) o e
  item := by
    intro X hP hw hK hc i pins s σ H E I hf st hg
    subst hP hw hK
    obtain ⟨xs, x, hq, hx⟩ := hg
    obtain ⟨its, rv, p, hz⟩ := I.tuple hq
    obtain ⟨u, hu, ru⟩ := rv.get hx
    obtain ⟨f0, f1, f2, f3, f4, f5⟩ := hf it (by simp)
    refine wpAny_pyNext_tuple_item st (show s.heap.IsTuple a its.toArray from p) (x := u) (by simpa using hu) fun h' st' sb => ?_
    have I1 : Inv X pins σ H { s with heap := h' } := I.turned (t' := s.toks) (fun b o hb e => (sb.2 b hb).trans e) f0 f1 f3 f4 f5
    obtain ⟨o, e, c, d⟩ := id st'
    exact ⟨u, rfl, go_of (s := { s with heap := h' }) e c d (by decide) ⟨x, H, I1, ru, ⟨rfl, fun ys hy => by rw [I.tuple_inj hy hq]; exact hx⟩, st', fun b hb => (hf b hb).1⟩⟩
  done := by
    intro X hP hw hK hc i pins s σ H E I hf st hg
    subst hP hw hK
    obtain ⟨xs, hq, hx⟩ := hg
    obtain ⟨its, rv, p, hz⟩ := I.tuple hq
    obtain ⟨f0, f1, f2, f3, f4, f5⟩ := hf it (by simp)
    have hl := rv.length
    exact wpAny_pyNext_tuple_end (I.ok.hd hc) st (show s.heap.IsTuple a its.toArray from p) (by simp; omega) fun h' eb => ⟨rfl, I.turned (t' := s.toks) (fun b o hb e => eb b o hb e) f0 f1 f3 f4 f5⟩
  self := fun _ _ _ _ _ st h => wpAny_pyIter_tupleiter st h
theorem turn_range {P : Program} {w : World} {K : PySem.W.Frag} {tg : Expr} (it : Addr) (lo : Int) (n : Nat) : Turn P w K tg (Itr lo n) [it] it (fun i h => IsRangeIter h it (lo + (i : Nat) * 1) ((n : Int) - (i : Nat)) 1) where
  mem := by simp
  obj := fun i h st b hb => by
    have e : b = it := by simpa using hb
    subst e
    exact ⟨_, st, fun v z => by
      have z' : Data.fields _ = Data.cell v := z
      cases z'⟩
  keep := fun i h h' st k => k it (by simp) _ st
  item := by
    intro X hP hw hK hc i pins s σ H E I hf st hg
    subst hP hw hK
    obtain ⟨f0, f1, f2, f3, f4, f5⟩ := hf it (by simp)
    have W := Walks.range (prog := X.prog) (w := X.w) (I.ok.hd hc) it lo 1 n
    refine W.item i s _ _ hg st fun v h' tk hv st' kk => ?_
    obtain ⟨t, rfl⟩ := hv
    have I1 : Inv X pins σ H { s with heap := h', toks := tk } := I.turned (fun b o hb e => kk b o (by simpa using hb) e) f0 f1 f3 f4 f5
    refine ⟨_, rfl, go_of (s := { s with heap := h', toks := tk }) (n := "range_iterator") st' rfl rfl (by decide) ⟨.int (lo + i), H, I1, ⟨t, ?_⟩, ⟨rfl, rfl⟩, st', fun b hb => (hf b hb).1⟩⟩
    rw [Int.mul_one]
  done := by
    intro X hP hw hK hc i pins s σ H E I hf st hg
    subst hP hw hK
    obtain ⟨f0, f1, f2, f3, f4, f5⟩ := hf it (by simp)
    exact wpAny_pyNext_range_end (I.ok.hd hc) st (by have : n ≤ i := hg; omega) fun h' eb => ⟨rfl, I.turned (t' := s.toks) (fun b o hb e => eb b o hb e) f0 f1 f3 f4 f5⟩
  self := fun _ _ _ _ _ st h => wpAny_pyIter_rangeiter st h
end L2

namespace L2
open PySem PySem.Spec PyProof.Rows
section
variable {X : Cx} {tg : Expr}
def iList (K : PySem.W.Frag) (tl : TE) : TI := fun σ H R => tl σ H fun x H1 => ∃ a, x = .ref a ∧ (∃ xs, SqL K H1 a xs) ∧ R (Itl K a) H1
def iTup (K : PySem.W.Frag) (tl : TE) : TI := fun σ H R => tl σ H fun x H1 => ∃ a, x = .ref a ∧ (∃ xs, SqT K H1 a xs) ∧ R (Itt K a) H1
theorem pi_list {l : Expr} {tl : TE} (hl : PE X l tl) : PI X tg l (iList X.K tl) := by
  intro pins s σ H R I h
  refine thn (hl pins s σ H _ I h) fun v s1 ⟨x, H1, I1, r1, q1⟩ => ?_
  obtain ⟨a, e, ⟨xs, hq⟩, q⟩ := q1
  subst e
  cases r1
  obtain ⟨its, rv, p, hz⟩ := I1.list hq
  refine wpAny_pyIter_list p.isList ?_
  refine ⟨s1.heap.objs.size, [s1.heap.objs.size], _, _, H1, rfl, I1.kept (t' := s1.toks) fun b o e => Heap.get?_push_of_some _ e, turn_list a _, ⟨_, Heap.get?_push_size _ rfl, rfl, rfl⟩, fun b hb => ?_, q⟩
  have e : b = s1.heap.objs.size := by simpa using hb
  subst e
  exact I1.fpOk (Nat.le_refl _) (I1.hok.fresh (Nat.le_refl _))
theorem pi_tup {l : Expr} {tl : TE} (hl : PE X l tl) : PI X tg l (iTup X.K tl) := by
  intro pins s σ H R I h
  refine thn (hl pins s σ H _ I h) fun v s1 ⟨x, H1, I1, r1, q1⟩ => ?_
  obtain ⟨a, e, ⟨xs, hq⟩, q⟩ := q1
  subst e
  cases r1
  obtain ⟨its, rv, p, hz⟩ := I1.tuple hq
  refine wpAny_pyIter_tuple (show s1.heap.IsTuple a its.toArray from p) ?_
  refine ⟨s1.heap.objs.size, [s1.heap.objs.size], _, _, H1, rfl, I1.kept (t' := s1.toks) fun b o e => Heap.get?_push_of_some _ e, turn_tuple a _, ⟨_, Heap.get?_push_size _ rfl, rfl, rfl⟩, fun b hb => ?_, q⟩
  have e : b = s1.heap.objs.size := by simpa using hb
  subst e
  exact I1.fpOk (Nat.le_refl _) (I1.hok.fresh (Nat.le_refl _))
/-- a range object just made, walked -/
theorem range_it {pins : List (Addr × Obj)} {σ : St} {H : Hp} {s : Shared} {R : It → Hp → Prop} {E : Value → Shared → Prop} {lo hi : Int} {t u v : Tok} {tk : Nat} (I : Inv X pins σ H s) (h1 : -(2 ^ 62) ≤ lo) (h2 : lo < 2 ^ 62) (h3 : -(2 ^ 62) ≤ hi) (h4 : hi < 2 ^ 62)
    (q : R (Itr lo (hi - lo).toNat) H) : wpAny (model X.prog X.w) X.A (pyIter (.ref s.heap.objs.size)) (PIE X pins σ tg R) E { s with heap := s.heap.push { cls := .type "range", data := .fields #[.int lo t, .int hi u, .int 1 v] }, toks := tk } := by
  refine wpAny_pyIter_range (IsRange.new ..) (small_one h1 h2 h3 h4) ?_
  have I1 : Inv X pins σ H { s with heap := s.heap.push { cls := .type "range", data := .fields #[.int lo t, .int hi u, .int 1 v] }, toks := tk } := I.kept fun b o e => Heap.get?_push_of_some _ e
  refine ⟨(s.heap.push { cls := .type "range", data := .fields #[.int lo t, .int hi u, .int 1 v] }).objs.size, [(s.heap.push { cls := .type "range", data := .fields #[.int lo t, .int hi u, .int 1 v] }).objs.size], _, _, H, rfl,
    I1.kept (t' := tk) fun b o e => Heap.get?_push_of_some _ e, turn_range _ lo (hi - lo).toNat, ?_, fun b hb => ?_, q⟩
  · have e1 : lo + ((0 : Nat) : Int) * 1 = lo := by simp
    have e2 : (((hi - lo).toNat : Nat) : Int) - ((0 : Nat) : Int) = Builtin.Range.rangeSize lo hi 1 := by rw [rangeSize_one]; split <;> omega
    show IsRangeIter _ _ (lo + ((0 : Nat) : Int) * 1) ((((hi - lo).toNat : Nat) : Int) - ((0 : Nat) : Int)) 1
    rw [e1, e2]
    exact Heap.get?_push_size _ rfl
  · have e : b = (s.heap.push { cls := .type "range", data := .fields #[.int lo t, .int hi u, .int 1 v] }).objs.size := by simpa using hb
    subst e
    exact I1.fpOk (Nat.le_refl _) (I1.hok.fresh (Nat.le_refl _))
def iRng1 (ta : TA) : TI := fun σ H R => ta σ H fun vs H1 => ∃ j : Int, vs = [.int j] ∧ -(2 ^ 62) ≤ j ∧ j < 2 ^ 62 ∧ R (Itr 0 j.toNat) H1
theorem pi_range1 {a : Expr} {ta : TA} {p pos : Pos} (hg : Gl X "range") (hm : X.mg "range" = none) (ha : PA X [a] ta) (hs : starEach [a] X.env = [(false, eval a X.env)] := by rfl) : PI X tg (.Call (.Name "range" p) [a] [] pos) (iRng1 ta) := by
  intro pins s σ H R I h
  refine Call_ (ld_blt I hg hm boot_range (PyProof.Rows.callWith_type1 (thn (ha pos pins s σ H _ I h) fun us s1 ⟨vs, H1, I1, r1, q1⟩ => ?_) hs rfl))
  obtain ⟨j, e, q1, q2, q⟩ := q1
  subst e
  cases r1 with
  | cons r rr =>
    cases rr
    obtain ⟨t, rfl⟩ := r
    exact call_range_1 (range_it I1 (by omega) (by omega) q1 q2 (by simpa using q))
/-! ### for -/
/-- W: the invariant by the turn and a measure; N: what the body is to reach -/
def tFor (wi : TI) (g : TG) (tb : TS) : TS := fun D σ H => wi σ H fun J H1 => ∃ W : Nat → Nat → St → Hp → Prop, (∃ m, W 0 m σ H1) ∧ ∀ i m σ H, W i m σ H →
  (J.stop i H ∧ D.nx σ H) ∨ (J.go i H ∧ ∃ N : St → Hp → Prop, (∀ σ' H', N σ' H' → ∃ m', m' < m ∧ W (i + 1) m' σ' H') ∧ ∀ x H', J.yld i H x H' → g x σ H' fun σ2 H2 => tb { D with nx := N, ct := N, bk := D.nx } σ2 H2)
/-- the records at fp as they stand -/
def pinsAt (fp : List Addr) (h : Heap) : List (Addr × Obj) := fp.filterMap fun b => (h.get? b).map fun o => (b, o)
theorem mem_pinsAt {fp : List Addr} {h : Heap} {b : Addr} {o : Obj} (hb : b ∈ fp) (e : h.get? b = some o) : (b, o) ∈ pinsAt fp h := List.mem_filterMap.mpr ⟨b, hb, by rw [e]; rfl⟩
theorem of_pinsAt {fp : List Addr} {h : Heap} {p : Addr × Obj} (hp : p ∈ pinsAt fp h) : p.1 ∈ fp ∧ h.get? p.1 = some p.2 := by
  obtain ⟨b, hb, e⟩ := List.mem_filterMap.mp hp
  cases q : h.get? b with
  | none => rw [q] at e; cases e
  | some o =>
    rw [q] at e
    have e' : (b, o) = p := Option.some.inj e
    subst e'
    exact ⟨hb, q⟩
theorem Inv.pinned {pins : List (Addr × Obj)} {σ : St} {H : Hp} {s : Shared} {fp : List Addr} (I : Inv X pins σ H s) (hf : ∀ b ∈ fp, FpOk X pins H b) (ho : ∀ b ∈ fp, ∃ o, s.heap.get? b = some o ∧ ∀ v, o.data ≠ .cell v) : Inv X (pins ++ pinsAt fp s.heap) σ H s :=
  I.pins_of fun p hp => (List.mem_append.mp hp).elim (fun z => I.pin p (List.mem_append_right _ z)) fun z => by
    obtain ⟨hb, e⟩ := of_pinsAt z
    obtain ⟨f0, f1, f2, _⟩ := hf p.1 hb
    obtain ⟨o, e', d⟩ := ho p.1 hb
    rw [e] at e'; cases e'
    exact ⟨e, f0, f1, f2, d⟩
theorem Inv.unpinned {pins pl : List (Addr × Obj)} {σ : St} {H : Hp} {s : Shared} (I : Inv X (pins ++ pl) σ H s) : Inv X pins σ H s := I.pins_of fun p hp => I.pin p (List.mem_append_right _ (List.mem_append_left _ hp))
theorem ps_for {iter : Expr} {body : List Stmt} {wi : TI} {g : TG} {tb : TS} {pos : Pos} (hp : PassesOwn (model X.prog X.w) X.A X.env X.xe) (hc : X.calm = true) (hi : PI X tg iter wi) (hg : PG X tg g) (hb : PSs X body tb)
    (hs : ∀ x, foldedSetIterable iter X.env x = pure x := by intro _; rfl) : PS X (.For tg iter body [] pos) (tFor wi g tb) := by
  intro pins s σ H D I h
  refine wpAny_For (thn (hi pins s σ H _ I h) fun v s1 h1 => thn h1 fun itv s2 h2 => ?_) hs
  obtain ⟨it, fp, tn, J, H2, e, I2, T, st2, f2, W, ⟨m0, w0⟩, turn⟩ := h2
  subst e
  -- what stays true of the iterator's objects through the loop
  have stat : ∀ {H' : Hp}, (∀ b ∈ fp, H' b = none) → ∀ b ∈ fp, FpOk X pins H' b := fun hn b hb => ⟨hn b hb, (f2 b hb).2⟩
  refine codeAny_forLoop_any (fun n s' => ∃ i σ' H', Inv X pins σ' H' s' ∧ tn i s'.heap ∧ (∀ b ∈ fp, H' b = none) ∧ W i n σ' H') ?_ m0 ⟨0, σ, H2, I2, st2, fun b hb => (f2 b hb).1, w0⟩
  rintro n s3 ⟨i, σ3, H3, I3, st3, fr3, w3⟩
  rcases turn i n σ3 H3 w3 with ⟨stop, qn⟩ | ⟨go, N, hN, step⟩
  · refine wpAny_passesOwn hp (thn (T.done X rfl rfl rfl hc i pins s3 σ3 H3 X.xe I3 (stat fr3) st3 stop) fun r s4 ⟨hr, I4⟩ => ?_)
    subst hr
    exact wpAny_execs_nil ⟨σ3, H3, I4, qn⟩
  · refine wpAny_passesOwn hp (thn (T.item X rfl rfl rfl hc i pins s3 σ3 H3 X.xe I3 (stat fr3) st3 go) fun r s4 ⟨u, hr, h4⟩ => ?_)
    subst hr
    refine wpAny_passesOwn hp (thn h4 fun _ s5 ⟨x, H5, I5, r5, y5, st5, fr5⟩ => ?_)
    have I5' := I5.pinned (stat fr5) (T.obj _ _ st5)
    refine wpAny_passesOwn hp (thn (hg _ s5 σ3 H5 x u _ I5' r5 (step x H5 y5)) fun _ s6 ⟨σ6, H6, I6, q6⟩ => ?_)
    refine wpAny_passesOwn hp (thn (hb _ s6 σ6 H6 _ I6 q6) fun f s7 q7 => ?_)
    have again : ∀ {σ7 : St} {H7 : Hp}, Inv X (pins ++ pinsAt fp s5.heap) σ7 H7 s7 → N σ7 H7 → ∃ m, m < n ∧ ∃ i σ' H', Inv X pins σ' H' s7 ∧ tn i s7.heap ∧ (∀ b ∈ fp, H' b = none) ∧ W i m σ' H' := fun {σ7 H7} I7 n7 => by
      obtain ⟨m', hm, w7⟩ := hN σ7 H7 n7
      refine ⟨m', hm, i + 1, σ7, H7, I7.unpinned, T.keep _ _ _ st5 fun b hb o e => (I7.pin (b, o) (List.mem_append_right _ (List.mem_append_right _ (mem_pinsAt hb e)))).1, fun b hb => ?_, w7⟩
      obtain ⟨o, e, d⟩ := T.obj _ _ st5 b hb
      exact (I7.pin (b, o) (List.mem_append_right _ (List.mem_append_right _ (mem_pinsAt hb e)))).2.1
    cases f with
    | next => obtain ⟨σ7, H7, I7, n7⟩ := q7; exact again I7 n7
    | cont => obtain ⟨σ7, H7, I7, n7⟩ := q7; exact again I7 n7
    | brk => obtain ⟨σ7, H7, I7, q7⟩ := q7; exact ⟨σ7, H7, I7.unpinned, q7⟩
    | ret v => obtain ⟨x7, σ7, H7, I7, r7, q7⟩ := q7; exact ⟨x7, σ7, H7, I7.unpinned, r7, q7⟩
end

/-! ### the forms one uses -/
/-- over a list that the body leaves as it is -/
theorem for_list {K : PySem.W.Frag} {a : Addr} {xs : List V} {g : TG} {tb : TS} {D : Ends} {σ : St} {H : Hp} (Pv : Nat → St → Hp → Prop) (h0 : Pv 0 σ H) (hl : ∀ i σ H, i ≤ xs.length → Pv i σ H → SqL K H a xs)
    (hs : ∀ i x σ H, xs[i]? = some x → Pv i σ H → g x σ H fun σ2 H2 => tb { D with nx := Pv (i + 1), ct := Pv (i + 1), bk := D.nx } σ2 H2) (hd : ∀ σ H, Pv xs.length σ H → D.nx σ H) :
    ∃ W : Nat → Nat → St → Hp → Prop, (∃ m, W 0 m σ H) ∧ ∀ i m σ H, W i m σ H →
      ((Itl K a).stop i H ∧ D.nx σ H) ∨ ((Itl K a).go i H ∧ ∃ N : St → Hp → Prop, (∀ σ' H', N σ' H' → ∃ m', m' < m ∧ W (i + 1) m' σ' H') ∧ ∀ x H', (Itl K a).yld i H x H' → g x σ H' fun σ2 H2 => tb { D with nx := N, ct := N, bk := D.nx } σ2 H2) := by
  refine ⟨fun i m σ H => m = xs.length - i ∧ i ≤ xs.length ∧ Pv i σ H, ⟨xs.length, by simp, Nat.zero_le _, h0⟩, ?_⟩
  rintro i m σ H ⟨rfl, hi, p⟩
  have q := hl i σ H hi p
  by_cases hlt : i < xs.length
  · refine .inr ⟨⟨xs, xs[i], q, by simp [hlt]⟩, Pv (i + 1), fun σ' H' p' => ⟨xs.length - (i + 1), by omega, rfl, hlt, p'⟩, fun x H' y => ?_⟩
    obtain ⟨e, y⟩ := y
    subst e
    exact hs i x σ _ (y xs q) p
  · have e : i = xs.length := by omega
    subst e
    exact .inl ⟨⟨xs, q, Nat.le_refl _⟩, hd σ H p⟩
theorem for_tup {K : PySem.W.Frag} {a : Addr} {xs : List V} {g : TG} {tb : TS} {D : Ends} {σ : St} {H : Hp} (Pv : Nat → St → Hp → Prop) (h0 : Pv 0 σ H) (hl : ∀ i σ H, i ≤ xs.length → Pv i σ H → SqT K H a xs)
    (hs : ∀ i x σ H, xs[i]? = some x → Pv i σ H → g x σ H fun σ2 H2 => tb { D with nx := Pv (i + 1), ct := Pv (i + 1), bk := D.nx } σ2 H2) (hd : ∀ σ H, Pv xs.length σ H → D.nx σ H) :
    ∃ W : Nat → Nat → St → Hp → Prop, (∃ m, W 0 m σ H) ∧ ∀ i m σ H, W i m σ H →
      ((Itt K a).stop i H ∧ D.nx σ H) ∨ ((Itt K a).go i H ∧ ∃ N : St → Hp → Prop, (∀ σ' H', N σ' H' → ∃ m', m' < m ∧ W (i + 1) m' σ' H') ∧ ∀ x H', (Itt K a).yld i H x H' → g x σ H' fun σ2 H2 => tb { D with nx := N, ct := N, bk := D.nx } σ2 H2) := by
  refine ⟨fun i m σ H => m = xs.length - i ∧ i ≤ xs.length ∧ Pv i σ H, ⟨xs.length, by simp, Nat.zero_le _, h0⟩, ?_⟩
  rintro i m σ H ⟨rfl, hi, p⟩
  have q := hl i σ H hi p
  by_cases hlt : i < xs.length
  · refine .inr ⟨⟨xs, xs[i], q, by simp [hlt]⟩, Pv (i + 1), fun σ' H' p' => ⟨xs.length - (i + 1), by omega, rfl, hlt, p'⟩, fun x H' y => ?_⟩
    obtain ⟨e, y⟩ := y
    subst e
    exact hs i x σ _ (y xs q) p
  · have e : i = xs.length := by omega
    subst e
    exact .inl ⟨⟨xs, q, Nat.le_refl _⟩, hd σ H p⟩
theorem for_range {lo : Int} {n : Nat} {g : TG} {tb : TS} {D : Ends} {σ : St} {H : Hp} (Pv : Nat → St → Hp → Prop) (h0 : Pv 0 σ H)
    (hs : ∀ i σ H, i < n → Pv i σ H → g (.int (lo + i)) σ H fun σ2 H2 => tb { D with nx := Pv (i + 1), ct := Pv (i + 1), bk := D.nx } σ2 H2) (hd : ∀ σ H, Pv n σ H → D.nx σ H) :
    ∃ W : Nat → Nat → St → Hp → Prop, (∃ m, W 0 m σ H) ∧ ∀ i m σ H, W i m σ H →
      ((Itr lo n).stop i H ∧ D.nx σ H) ∨ ((Itr lo n).go i H ∧ ∃ N : St → Hp → Prop, (∀ σ' H', N σ' H' → ∃ m', m' < m ∧ W (i + 1) m' σ' H') ∧ ∀ x H', (Itr lo n).yld i H x H' → g x σ H' fun σ2 H2 => tb { D with nx := N, ct := N, bk := D.nx } σ2 H2) := by
  refine ⟨fun i m σ H => m = n - i ∧ i ≤ n ∧ Pv i σ H, ⟨n, by simp, Nat.zero_le _, h0⟩, ?_⟩
  rintro i m σ H ⟨rfl, hi, p⟩
  by_cases hlt : i < n
  · refine .inr ⟨hlt, Pv (i + 1), fun σ' H' p' => ⟨n - (i + 1), by omega, rfl, hlt, p'⟩, fun x H' y => ?_⟩
    obtain ⟨e, y⟩ := y
    subst e y
    exact hs i σ _ hlt p
  · have e : i = n := by omega
    subst e
    exact .inl ⟨Nat.le_refl _, hd σ H p⟩
end L2

namespace L2
open PySem PySem.Spec PyProof.Rows

abbrev R2 := V → V → Hp → VK → Prop
/-- a two-place operation on values: f is binaryOp op, inplaceOp op or compareOp op -/
def OpR (X : Cx) (f : Value → Value → Sem Value) (r : R2) : Prop :=
  ∀ (pins : List (Addr × Obj)) (s : Shared) (σ : St) (H : Hp) (x y : V) (v u : Value) (Q : VK), Inv X pins σ H s → RelV x v → RelV y u → r x y H Q →
    wpAny (model X.prog X.w) X.A (f v u) (EP X pins σ Q) X.xe s
/-- a one-place operation -/
def UnR (X : Cx) (f : Value → Sem Value) (r : V → Hp → VK → Prop) : Prop :=
  ∀ (pins : List (Addr × Obj)) (s : Shared) (σ : St) (H : Hp) (x : V) (v : Value) (Q : VK), Inv X pins σ H s → RelV x v → r x H Q →
    wpAny (model X.prog X.w) X.A (f v) (EP X pins σ Q) X.xe s
/-- a call of a value that is known (a builtin, a type) with values -/
def CallR (X : Cx) (f : Value) (r : List V → Hp → VK → Prop) : Prop :=
  ∀ (pins : List (Addr × Obj)) (s : Shared) (σ : St) (H : Hp) (xs : List V) (us : List Value) (Q : VK), Inv X pins σ H s → Vals xs us → r xs H Q →
    wpAny (model X.prog X.w) X.A (call f us) (EP X pins σ Q) X.xe s
def tOp (r : R2) (ta tb : TE) : TE := fun σ H Q => ta σ H fun x H1 => tb σ H1 fun y H2 => r x y H2 Q
def tUn (r : V → Hp → VK → Prop) (ta : TE) : TE := fun σ H Q => ta σ H fun x H1 => r x H1 Q
/-- ints in, under C, and a value out -/
def rI (C : Int → Int → Prop) (g : Int → Int → V) : R2 := fun x y H Q => ∃ i j, x = .int i ∧ y = .int j ∧ C i j ∧ Q (g i j) H
def rI0 (g : Int → Int → V) : R2 := fun x y H Q => ∃ i j, x = .int i ∧ y = .int j ∧ Q (g i j) H
def rU (g : Int → V) : V → Hp → VK → Prop := fun x H Q => ∃ i, x = .int i ∧ Q (g i) H

section
variable {X : Cx} {a b c : Expr} {ta tb tc : TE} {pos : Pos}

theorem binT (ha : PE X a ta) (hb : PE X b tb) {pins : List (Addr × Obj)} {s : Shared} {σ : St} {H : Hp} {R : V → V → Hp → Prop} (I : Inv X pins σ H s)
    (h : ta σ H fun x H1 => tb σ H1 fun y H2 => R x y H2) {Q : Value → Shared → Prop} {f : Value → Value → Sem Value}
    (hf : ∀ v u s2 x y H2, Inv X pins σ H2 s2 → RelV x v → RelV y u → R x y H2 → wpAny (model X.prog X.w) X.A (f v u) Q X.xe s2) :
    wpAny (model X.prog X.w) X.A (eval a X.env) (fun v s₁ => wpAny (model X.prog X.w) X.A (eval b X.env) (fun u s₂ => wpAny (model X.prog X.w) X.A (f v u) Q X.xe s₂) X.xe s₁) X.xe s := by
  refine thn (ha pins s σ H _ I h) fun v s1 ⟨x, H1, I1, r1, q1⟩ => ?_
  refine thn (hb pins s1 σ H1 _ I1 q1) fun u s2 ⟨y, H2, I2, r2, q2⟩ => ?_
  exact hf v u s2 x y H2 I2 r1 r2 q2

theorem pe_op {op : Operator} {r : R2} (ho : OpR X (binaryOp op) r) (ha : PE X a ta) (hb : PE X b tb) : PE X (.BinOp a op b pos) (tOp r ta tb) := by
  intro pins s σ H Q I h
  exact wpAny_BinOp (binT ha hb I h fun v u s2 x y H2 I2 rx ry q => ho pins s2 σ H2 x y v u Q I2 rx ry q)
theorem pe_un {op : UnaryOp} {r : V → Hp → VK → Prop} (ho : UnR X (unaryOp op) r) (ha : PE X a ta) : PE X (.UnaryOp op a pos) (tUn r ta) := by
  intro pins s σ H Q I h
  exact UnaryOp_ (thn (ha pins s σ H _ I h) fun v s1 ⟨x, H1, I1, r1, q1⟩ => ho pins s1 σ H1 x v Q I1 r1 q1)
/-! ### ints -/
theorem opI {f : Value → Value → Sem Value} {C : Int → Int → Prop} {g : Int → Int → Int}
    (rule : ∀ (i j : Int) (t u : Tok) (s : Shared) (Q : Value → Shared → Prop) (E : Value → Shared → Prop), C i j → Q (.int (g i j) s.toks) { s with toks := s.toks + 1 } → wpAny (model X.prog X.w) X.A (f (.int i t) (.int j u)) Q E s) :
    OpR X f (rI C fun i j => .int (g i j)) := by
  intro pins s σ H x y v u Q I rx ry h
  obtain ⟨i, j, rfl, rfl, hc, q⟩ := h
  obtain ⟨t, rfl⟩ := rx
  obtain ⟨t', rfl⟩ := ry
  exact rule i j t t' s _ _ hc ⟨.int (g i j), H, I.tok _, ⟨_, rfl⟩, q⟩
theorem opI0 {f : Value → Value → Sem Value} {g : Int → Int → Int}
    (rule : ∀ (i j : Int) (t u : Tok) (s : Shared) (Q : Value → Shared → Prop) (E : Value → Shared → Prop), Q (.int (g i j) s.toks) { s with toks := s.toks + 1 } → wpAny (model X.prog X.w) X.A (f (.int i t) (.int j u)) Q E s) :
    OpR X f (rI0 fun i j => .int (g i j)) := by
  intro pins s σ H x y v u Q I rx ry h
  obtain ⟨i, j, rfl, rfl, q⟩ := h
  obtain ⟨t, rfl⟩ := rx
  obtain ⟨t', rfl⟩ := ry
  exact rule i j t t' s _ _ ⟨.int (g i j), H, I.tok _, ⟨_, rfl⟩, q⟩
theorem opB0 {f : Value → Value → Sem Value} {g : Int → Int → Bool}
    (rule : ∀ (i j : Int) (t u : Tok) (s : Shared) (Q : Value → Shared → Prop) (E : Value → Shared → Prop), Q (.bool (g i j)) s → wpAny (model X.prog X.w) X.A (f (.int i t) (.int j u)) Q E s) :
    OpR X f (rI0 fun i j => .bl (g i j)) := by
  intro pins s σ H x y v u Q I rx ry h
  obtain ⟨i, j, rfl, rfl, q⟩ := h
  obtain ⟨t, rfl⟩ := rx
  obtain ⟨t', rfl⟩ := ry
  exact rule i j t t' s _ _ ⟨.bl (g i j), H, I, rfl, q⟩

def CDiv (i j : Int) : Prop := 0 < j ∧ j < 1073741824
def CPow (i j : Int) : Prop := 0 ≤ j ∧ j ≤ 1000000 ∧ i.natAbs < 2 ^ 64
def CMul (i j : Int) : Prop := (-(2 ^ 64) < i ∧ i < 2 ^ 64) ∨ (-(2 ^ 64) < j ∧ j < 2 ^ 64)
theorem CMul.ok {i j : Int} (h : CMul i j) : IntMulOk i j := by
  rcases h with ⟨h1, h2⟩ | ⟨h1, h2⟩
  · exact .of_left (intBits_le_64 h1 h2)
  · exact .of_right (intBits_le_64 h1 h2)
theorem two_pow_nn (k : Nat) : (0 : Int) ≤ 2 ^ k := by
  rw [two_pow_cast]
  exact Int.natCast_nonneg _

theorem op_add : OpR X (binaryOp .Add) (rI0 fun i j => .int (i + j)) := opI0 fun _ _ _ _ _ _ _ q => add_int q
theorem op_sub : OpR X (binaryOp .Sub) (rI0 fun i j => .int (i - j)) := opI0 fun _ _ _ _ _ _ _ q => sub_int q
theorem op_mul : OpR X (binaryOp .Mult) (rI CMul fun i j => .int (i * j)) := opI fun _ _ _ _ _ _ _ hc q => mul_int q hc.ok
/-- // by a positive divisor -/
theorem op_fdiv : OpR X (binaryOp .FloorDiv) (rI CDiv fun i j => .int (i / j)) := opI fun i j _ _ _ _ _ hc q => by
  have h1 : (0 : Int) < j := hc.1
  have h2 : j < 1073741824 := hc.2
  exact floordiv_int (by omega) (by rw [Int.fdiv_eq_ediv_of_nonneg i (by omega)]; exact q) (.inl (PyProof.noPylong_small (by omega)))
/-- % by a positive divisor of any size -/
theorem op_mod : OpR X (binaryOp .Mod) (rI (fun _ j => 0 < j) fun i j => .int (i % j)) := opI fun i j _ _ _ _ _ hc q => by
  have h1 : (0 : Int) < j := hc
  exact mod_int' (by omega) (by rw [Int.fmod_eq_emod_of_nonneg i (by omega)]; exact q)
theorem op_pow : OpR X (binaryOp .Pow) (rI CPow fun i j => .int (i ^ j.toNat)) := opI fun _ _ _ _ _ _ _ hc q => pow_int_small hc.1 hc.2.1 hc.2.2 q
theorem unI {f : Value → Sem Value} {g : Int → Int}
    (rule : ∀ (i : Int) (t : Tok) (s : Shared) (Q : Value → Shared → Prop) (E : Value → Shared → Prop), Q (.int (g i) s.toks) { s with toks := s.toks + 1 } → wpAny (model X.prog X.w) X.A (f (.int i t)) Q E s) :
    UnR X f (rU fun i => .int (g i)) := by
  intro pins s σ H x v Q I rx h
  obtain ⟨i, rfl, q⟩ := h
  obtain ⟨t, rfl⟩ := rx
  exact rule i t s _ _ ⟨.int (g i), H, I.tok _, ⟨_, rfl⟩, q⟩
theorem un_neg : UnR X (unaryOp .USub) (rU fun i => .int (-i)) := unI fun _ _ _ _ _ q => neg_int q
/-! ### bools among ints: n += (a < b) -/
end

/-! ### comparisons -/
/-- the scalars that == tells apart as data does -/
def scal : V → V → Bool
  | .non, .non => true | .non, .int _ => true | .int _, .non => true | .non, .bl _ => true | .bl _, .non => true | .non, .str _ => true | .str _, .non => true
  | .int _, .int _ => true | .bl _, .bl _ => true | .str _, .str _ => true | .byt _, .byt _ => true
  | .int _, .str _ => true | .str _, .int _ => true | .bl _, .str _ => true | .str _, .bl _ => true
  | _, _ => false
def rEq : R2 := fun x y H Q => scal x y = true ∧ Q (.bl (decide (x = y))) H
theorem dec_int {i j : Int} : decide (V.int i = V.int j) = (i == j) := by
  rw [Bool.eq_iff_iff]
  simp
theorem dec_bl {i j : Bool} : decide (V.bl i = V.bl j) = (i == j) := by
  rw [Bool.eq_iff_iff]
  simp
theorem dec_str {i j : Str} : decide (V.str i = V.str j) = (i == j) := by
  rw [Bool.eq_iff_iff]
  simp
theorem dec_byt {i j : Array UInt8} : decide (V.byt i = V.byt j) = (i.toList == j.toList) := by
  rw [Bool.eq_iff_iff]
  cases i
  cases j
  simp

section
variable {X : Cx} {a b c : Expr} {ta tb tc : TE} {pos : Pos}
theorem fin_bl {pins : List (Addr × Obj)} {σ : St} {H : Hp} {s : Shared} {Q : VK} {k k' : Bool} (I : Inv X pins σ H s) (q : Q (.bl k) H) (e : k = k') : EP X pins σ Q (.bool k') s := by
  subst e
  exact ⟨.bl k, H, I, rfl, q⟩
theorem op_eq : OpR X (compareOp .Eq) rEq := by
  intro pins s σ H x y v u Q I rx ry h
  obtain ⟨hs, q⟩ := h
  cases x with
  | non =>
    cases rx
    cases y with
    | non => cases ry; exact PySem.EqNone.eq_none_none (fin_bl I q (by simp))
    | bl j => cases ry; exact PySem.EqNone.eq_none_bool (fin_bl I q (by simp))
    | int j => obtain ⟨t', rfl⟩ := ry; exact PySem.EqNone.eq_none_int (fin_bl I q (by simp))
    | str j => obtain ⟨t', rfl⟩ := ry; exact PySem.EqNone.eq_none_str (fin_bl I q (by simp))
    | _ => exact absurd (show false = true from hs) Bool.false_ne_true
  | bl i =>
    cases rx
    cases y with
    | non => cases ry; exact PySem.EqNone.eq_bool_none (fin_bl I q (by simp))
    | bl j => cases ry; exact eq_bool (fin_bl I q dec_bl)
    | str j => obtain ⟨t', rfl⟩ := ry; exact PySem.EqMixed.eq_bool_str (fin_bl I q (by simp))
    | _ => exact absurd (show false = true from hs) Bool.false_ne_true
  | int i =>
    obtain ⟨t, rfl⟩ := rx
    cases y with
    | non => cases ry; exact PySem.EqNone.eq_int_none (fin_bl I q (by simp))
    | int j => obtain ⟨t', rfl⟩ := ry; exact eq_int (fin_bl I q dec_int)
    | str j => obtain ⟨t', rfl⟩ := ry; exact PySem.EqMixed.eq_int_str (fin_bl I q (by simp))
    | _ => exact absurd (show false = true from hs) Bool.false_ne_true
  | str i =>
    obtain ⟨t, rfl⟩ := rx
    cases y with
    | non => cases ry; exact PySem.EqNone.eq_str_none (fin_bl I q (by simp))
    | bl j => cases ry; exact PySem.EqMixed.eq_str_bool (fin_bl I q (by simp))
    | int j => obtain ⟨t', rfl⟩ := ry; exact PySem.EqMixed.eq_str_int (fin_bl I q (by simp))
    | str j => obtain ⟨t', rfl⟩ := ry; exact eq_str (fin_bl I q dec_str)
    | _ => exact absurd (show false = true from hs) Bool.false_ne_true
  | byt i =>
    obtain ⟨t, rfl⟩ := rx
    cases y with
    | byt j => obtain ⟨t', rfl⟩ := ry; exact PySem.W.eq_bytes (fin_bl I q dec_byt)
    | _ => exact absurd (show false = true from hs) Bool.false_ne_true
  | _ => cases y <;> exact absurd (show false = true from hs) Bool.false_ne_true
theorem op_lt : OpR X (compareOp .Lt) (rI0 fun i j => .bl (decide (i < j))) := opB0 fun _ _ _ _ _ _ _ q => lt_int q
theorem op_gt : OpR X (compareOp .Gt) (rI0 fun i j => .bl (decide (j < i))) := opB0 fun _ _ _ _ _ _ _ q => gt_int q
theorem nomark (b : Expr) {op : CmpOp} (h : op ≠ .In := by decide) (h2 : op ≠ .NotIn := by decide) : behindInMarks op b = false := by
  have e1 : (op == CmpOp.In) = false := by cases op <;> first | rfl | exact absurd rfl h
  have e2 : (op == CmpOp.NotIn) = false := by cases op <;> first | rfl | exact absurd rfl h2
  cases b <;> simp [behindInMarks, e1, e2]
/-- a comparison as a value; hm: nomark b, or (for in, not in) by with_unfolding_all rfl -/
theorem pe_cmpR {op : CmpOp} {r : R2} (ho : OpR X (compareOp op) r) (ha : PE X a ta) (hb : PE X b tb) (hm : behindInMarks op b = false) : PE X (.Compare a [op] [b] pos) (tOp r ta tb) := by
  intro pins s σ H Q I h
  exact wpAny_Compare1 (binT ha hb I h fun v u s2 x y H2 I2 rx ry q => ho pins s2 σ H2 x y v u Q I2 rx ry q) hm
/-- a reading of a value as a test -/
def tTest (t : TE) : TT := fun σ H Q => t σ H fun x H' => ∃ k, x = .bl k ∧ Q k H'
theorem pt_cmpR {op : CmpOp} {r : R2} (ho : OpR X (compareOp op) r) (ha : PE X a ta) (hb : PE X b tb) (hm : behindInMarks op b = false) : PT X (.Compare a [op] [b] pos) (tTest (tOp r ta tb)) := by
  intro pins s σ H Q I h
  refine wpAny_isTrue_Compare1 (thn (ha pins s σ H _ I h) fun v s1 ⟨x, H1, I1, r1, q1⟩ => thn (hb pins s1 σ H1 _ I1 q1) fun u s2 ⟨y, H2, I2, r2, q2⟩ =>
    thn (ho pins s2 σ H2 x y v u _ I2 r1 r2 q2) fun c s3 ⟨z, H3, I3, r3, k, e, q3⟩ => ?_) hm
  subst e
  cases r3
  exact wpAny_truthy_bool ⟨H3, I3, q3⟩
/-! ### truth -/
theorem line63 : (sizeLine : Nat) < 2 ^ 63 := by rw [sizeLine_eq]; decide
/-! ### strs and bytes -/
theorem op_add_str : OpR X (binaryOp .Add) (fun x y H Q => ∃ i j, x = .str i ∧ y = .str j ∧ i.length + j.length ≤ sizeLine ∧ Q (.str (i ++ j)) H) := by
  intro pins s σ H x y v u Q I rx ry h
  obtain ⟨i, j, rfl, rfl, hz, q⟩ := h
  obtain ⟨t, rfl⟩ := rx
  obtain ⟨t', rfl⟩ := ry
  exact add_str (fun t' tk => ⟨.str (i ++ j), H, I.tok _, ⟨_, rfl⟩, q⟩) hz
/-! ### scalar builtins, by CallR -/
theorem vals1 {x : V} {us : List Value} (r : Vals [x] us) : ∃ u, us = [u] ∧ RelV x u := by
  cases r with
  | cons r1 r2 => cases r2; exact ⟨_, rfl, r1⟩
theorem vals2 {x y : V} {us : List Value} (r : Vals [x, y] us) : ∃ u w', us = [u, w'] ∧ RelV x u ∧ RelV y w' := by
  cases r with
  | cons r1 r2 =>
    cases r2 with
    | cons r3 r4 => cases r4; exact ⟨_, _, rfl, r1, r3⟩
/-- divmod: a new tuple -/
theorem call_divmod : CallR X (.builtin "divmod") (fun xs H Q => ∃ i j, xs = [.int i, .int j] ∧ CDiv i j ∧ ∀ p, H p = none → Q (.ref p) (upd H p (.tup [.int (i / j), .int (i % j)]))) := by
  intro pins s σ H xs us Q I r h
  obtain ⟨i, j, rfl, ⟨h1, h2⟩, q⟩ := h
  obtain ⟨u, w', rfl, ⟨t, rfl⟩, ⟨t', rfl⟩⟩ := vals2 r
  refine divmod_int (by omega) ?_ (.inl (PyProof.noPylong_small (by omega)))
  rw [Int.fdiv_eq_ediv_of_nonneg i (by omega), Int.fmod_eq_emod_of_nonneg i (by omega)]
  have hn : H s.heap.objs.size = none := I.hok.fresh (Nat.le_refl _)
  refine ⟨.ref s.heap.objs.size, _, ?_, rfl, q _ hn⟩
  refine I.laid (fun b o e => Heap.get?_push_of_some _ e) (Nat.le_refl _) ⟨by simp only [List.length_cons, List.length_nil]; rw [sizeLine_eq]; decide, [.int (i / j) s.toks, .int (i % j) (s.toks + 1)], .cons ⟨_, rfl⟩ (.cons ⟨_, rfl⟩ .nil), ?_⟩
  exact ⟨_, Heap.get?_push_size s.heap rfl, rfl, 0, rfl⟩
end
end L2

namespace L2
open PySem PySem.Spec PyProof.Rows

/-! ### an instance, its attributes a map -/
structure ObjM (h : Heap) (x dx C : Addr) (mA : Str → Option Value) : Prop where
  obj : h.get? x = some (PySem.W.instObj C dx)
  ns : h.Ns1 dx mA
  ne : dx ≠ x

theorem lookIn_ns {h : Heap} {dx : Addr} {mA : Str → Option Value} (n : h.Ns1 dx mA) : ∃ od, h.get? dx = some od ∧ ∀ name, PySem.W.lookIn name od = some (mA name) := by
  obtain ⟨o, es, ep, ho, hd, hk, _, hm⟩ := n
  refine ⟨o, ho, fun name => ?_⟩
  have e := hm name
  unfold nsFind findBy at e
  rw [← Array.find?_toList] at e
  unfold PySem.W.lookIn
  rw [hd]
  dsimp only
  split
  · rename_i y q
    rw [q] at e
    exact congrArg some e
  · rename_i q
    rw [q] at e
    have a : es.toList.any (·.refKey) = false := by
      rw [List.any_eq_false]
      intro y hy
      obtain ⟨z, t, hkey⟩ := hk y (Array.mem_toList_iff.mp hy)
      simp [DictEntry.refKey, hkey]
    have a' : ¬ es.toList.any (·.refKey) = true := by rw [a]; exact Bool.false_ne_true
    rw [if_neg a']
    exact congrArg some e

theorem ObjM.look {h : Heap} {x dx C : Addr} {mA : Str → Option Value} (I : ObjM h x dx C mA) : ∃ od, PySem.W.InstAt h x (PySem.W.instObj C dx) C (some od) ∧ ∀ name, PySem.W.lookIn name od = some (mA name) :=
  let ⟨od, ho, hl⟩ := lookIn_ns I.ns
  ⟨od, ⟨I.obj, rfl, rfl, ho⟩, hl⟩

section
variable {prog : Program} {w : World} {A : Around} {E : Value → Shared → Prop} {s : Shared} {K : PySem.W.Frag} {x dx C f : Addr} {mA : Str → Option Value} {name : Str} {v : Value}

end

/-! ### the attributes as a list of pairs -/
theorem RelO.some_of {v : V} {o : Option Value} (r : RelO (some v) o) : ∃ u, o = some u ∧ RelV v u := by
  cases o with
  | none => exact (show False from r).elim
  | some u => exact ⟨u, rfl, r⟩
section
variable {P : Program} {w : World} {H H' : Hp} {h h' : Heap} {a C dx : Addr} {fs fs' : List (Str × V)}
theorem ins_get (hok : HOk P w H h) (e : H a = some (.ins C dx fs)) : ∃ mA, ObjM h a dx C mA ∧ (∀ f, RelO (fs.lookup f) (mA f)) ∧ PySem.Within mA (fs.map (·.1)) ∧ fs.length ≤ 1000 ∧ H dx = some (.own a) := by
  obtain ⟨d, z, ne, ob, mA, n, r, q⟩ := (show ObjOk P w H h a (.ins C dx fs) from hok a _ e)
  exact ⟨mA, ⟨ob, n, ne⟩, r, q, z, d⟩
end

/-! ### what of the text a class must have -/
structure Cls (K : PySem.W.Frag) (C : Addr) : Prop where
  pg : PySem.W.plainGet K C Str.empty = true
  hd : PySem.W.hasDictIn K C = true
  po : PySem.W.plainOver K C = true
  sa : PySem.W.findIn K (.ref C) "__setattr__" = some (some (.builtin "object.__setattr__"))
theorem Cls.get {K : PySem.W.Frag} {C : Addr} (c : Cls K C) (f : Str) : PySem.W.plainGet K C f = true := c.pg
section
variable {X : Cx} {pins : List (Addr × Obj)} {σ : St} {H : Hp} {s : Shared} {a C dx : Addr} {fs : List (Str × V)} {f : Str} {v : V} {A : Around} {E : Value → Shared → Prop}

end

/-! ### readings and rules -/
section
variable {X : Cx} {o e value : Expr} {f : Str} {pos pos' tpos : Pos} {ta tv : TE}
end

/-! ### isinstance -/
section
variable {X : Cx} {pins : List (Addr × Obj)} {σ : St} {H : Hp} {s : Shared} {A : Around} {E : Value → Shared → Prop} {Q : Value → Shared → Prop} {c : Value} {b : Bool}
/-- the type of a value, as the fragment's deciders take it; for an instance its class -/
inductive TyOf (K : PySem.W.Frag) (H : Hp) : V → Value → Prop where
  | non : TyOf K H .non (.type "NoneType")
  | bl (x : Bool) : TyOf K H (.bl x) (.type "bool")
  | int (i : Int) : TyOf K H (.int i) (.type "int")
  | str (x : Str) : TyOf K H (.str x) (.type "str")
  | flt (x : UInt64) : TyOf K H (.flt x) (.type "float")
  | lst {a : Addr} {xs : List V} (e : H a = some (.lst xs)) : TyOf K H (.ref a) (.type "list")
  | frz {a : Addr} {o : Obj} {xs : List V} (e : H a = some (.frz o (.lst xs))) : TyOf K H (.ref a) (.type "list")
  | tup {a : Addr} {xs : List V} (e : H a = some (.tup xs)) : TyOf K H (.ref a) (.type "tuple")
  | dK {a : Addr} {kvs : List (Key × V)} (e : H a = some (.dK kvs)) : TyOf K H (.ref a) (.type "dict")
  | dT {a : Addr} {kvs : List (List Key × V)} (e : H a = some (.dT kvs)) : TyOf K H (.ref a) (.type "dict")
  | ins {a C dx : Addr} {fs : List (Str × V)} (e : H a = some (.ins C dx fs)) (cl : Cls K C) (ha : PySem.W.findIn K (.ref C) "__class__" = some (some (.builtin "object.__class__")))
      (hn : PySem.W.specialIn K (.builtin "object.__class__") "__get__" = some (some (.builtin "getset_descriptor.__get__"))) (htk : PySem.W.takesIn K (.builtin "object.__class__") = some true)
      (hm : PySem.W.mroIn K C (.type "object") = some true) : TyOf K H (.ref a) (.ref C)
/-- isinstance(x, c) for one class c, a built-in or an own one: kitOne's answer -/
theorem isinst_ok {x : V} {u t : Value} (I : Inv X pins σ H s) (rx : RelV x u) (ty : TyOf X.K H x t) (e : PySem.W.kitOne X.K t c = some b) (h : ∀ tk, Q (.bool b) { s with toks := tk }) :
    wpAny (model X.prog X.w) A (call (.builtin "isinstance") [u, c]) Q E s := by
  cases ty with
  | non => cases (show u = Value.none from rx); exact PySem.W.kia_one PySem.W.kitx_none I.kIn True.intro e (fun z => nomatch z) h
  | bl y => cases (show u = Value.bool y from rx); exact PySem.W.kia_one PySem.W.kitx_bool I.kIn True.intro e (fun z => nomatch z) h
  | int i => obtain ⟨t, q⟩ := (show ∃ t, u = Value.int i t from rx); cases q; exact PySem.W.kia_one PySem.W.kitx_int I.kIn True.intro e (fun z => nomatch z) h
  | str y => obtain ⟨t, q⟩ := (show ∃ t, u = Value.str y t from rx); cases q; exact PySem.W.kia_one PySem.W.kitx_str I.kIn True.intro e (fun z => nomatch z) h
  | flt y => obtain ⟨t, q⟩ := (show ∃ t, u = Value.float y t from rx); cases q; exact PySem.W.kia_one PySem.W.kitx_float I.kIn True.intro e (fun z => nomatch z) h
  | @lst a xs ea =>
    cases (show u = Value.ref a from rx)
    obtain ⟨_, _, n, _, h1⟩ := (show ObjOk X.prog X.w H s.heap a (.lst xs) from I.hok a _ ea)
    exact PySem.W.kia_one PySem.W.kitx_list I.kIn ⟨_, h1, rfl⟩ e (fun z => nomatch z) h
  | @frz a ob xs ea =>
    cases (show u = Value.ref a from rx)
    obtain ⟨_, _, _, n, _, h1⟩ := (show ObjOk X.prog X.w H s.heap a (.frz ob (.lst xs)) from I.hok a _ ea)
    exact PySem.W.kia_one PySem.W.kitx_list I.kIn ⟨_, h1, rfl⟩ e (fun z => nomatch z) h
  | @tup a xs ea =>
    cases (show u = Value.ref a from rx)
    obtain ⟨_, _, _, p⟩ := (show ObjOk X.prog X.w H s.heap a (.tup xs) from I.hok a _ ea)
    obtain ⟨o, h1, h2, _⟩ := p
    exact PySem.W.kia_one PySem.W.kitx_tuple I.kIn ⟨o, h1, h2⟩ e (fun z => nomatch z) h
  | @dK a kvs ea =>
    cases (show u = Value.ref a from rx)
    obtain ⟨_, _, vs, _, p⟩ := (show ObjOk X.prog X.w H s.heap a (.dK kvs) from I.hok a _ ea)
    obtain ⟨o, es, ep, h1, h2, _⟩ := p
    exact PySem.W.kia_one PySem.W.kitx_dict I.kIn ⟨o, h1, h2.1⟩ e (fun z => nomatch z) h
  | @dT a kvs ea =>
    cases (show u = Value.ref a from rx)
    obtain ⟨_, _, xs, _, o, es, ep, h1, h2, _⟩ := (show ObjOk X.prog X.w H s.heap a (.dT kvs) from I.hok a _ ea)
    exact PySem.W.kia_one PySem.W.kitx_dict I.kIn ⟨o, h1, h2.1⟩ e (fun z => nomatch z) h
  | @ins a C dx fs ea cl ha hn htk hm =>
    cases (show u = Value.ref a from rx)
    obtain ⟨mA, O, _⟩ := ins_get I.hok ea
    obtain ⟨od, J, _⟩ := O.look
    exact PySem.W.kia_one (PySem.W.kitx_own (cl.get _) cl.hd ha hn htk hm) I.kIn J e (fun z => nomatch z) h
end
end L2

namespace L2
open PySem PySem.Spec PyProof.Rows

/-! ### room -/
structure Room (k : Nat) (A : Around) : Prop where
  hd : A.handled = none
  dp : A.depth + 3 * k + 5 < recursionLimit
  un : A.units + 16 * k + 200 < cLine
theorem Room.mono {j k : Nat} {A : Around} (r : Room k A) (h : j ≤ k) : Room j A := ⟨r.hd, by have := r.dp; omega, by have := r.un; omega⟩
theorem Room.deeper {k : Nat} {A : Around} (r : Room (k + 1) A) (env : Env) : Room k (A.deeper env) :=
  ⟨r.hd, by have := r.dp; show A.depth + 1 + 3 * k + 5 < _; omega, by have := r.un; show A.units + 3 + 16 * k + 200 < _; omega⟩
theorem Room.depth {k : Nat} {A : Around} (r : Room k A) : A.depth < recursionLimit := by have := r.dp; omega
theorem Room.units {k : Nat} {A : Around} (r : Room k A) : A.units + 64 < cLine := by have := r.un; omega
/-! ### argument lists and displays -/
def tNil : TA := fun _ H Q => Q [] H
def tCons (ta : TE) (tr : TA) : TA := fun σ H Q => ta σ H fun x H1 => tr σ H1 fun xs H2 => Q (x :: xs) H2
section
variable {X : Cx} {e : Expr} {es : List Expr} {te : TE} {t : TA} {pos : Pos}
theorem pa_nil : PA X [] tNil := fun _ _ _ _ H Q I h => Calls.spliced_nil ⟨[], H, I, .nil, h⟩
theorem pa_cons (ha : PE X e te) (hr : PA X es t) (hs : starEach (e :: es) X.env = (false, eval e X.env) :: starEach es X.env := by rfl) : PA X (e :: es) (tCons te t) := by
  intro pos pins s σ H Q I h
  rw [hs]
  show wpAny _ _ (spliced ((false, eval e X.env) :: backTo pos (starEach es X.env))) _ _ s
  refine Calls.spliced_cons (thn (ha pins s σ H _ I h) fun u s1 ⟨x, H1, I1, r1, q1⟩ => ?_)
  exact thn (hr pos pins s1 σ H1 _ I1 q1) fun us s2 ⟨xs, H2, I2, r2, q2⟩ => ⟨x :: xs, H2, I2, .cons r1 r2, q2⟩

/-- a tuple, a list of written items -/
def tTup (t : TA) : TE := fun σ H Q => t σ H fun xs H1 => xs.length ≤ sizeLine ∧ ∀ p, H1 p = none → Q (.ref p) (upd H1 p (.tup xs))
def tLst (t : TA) : TE := fun σ H Q => t σ H fun xs H1 => xs.length ≤ sizeLine ∧ ∀ p, H1 p = none → Q (.ref p) (upd H1 p (.lst xs))
theorem pe_tup {x1} (h : PA X es t) : PE X (.Tuple es x1 pos) (tTup t) := by
  intro pins s σ H Q I hq
  refine wpAny_Tuple_spliced (thn (h pos pins s σ H _ I hq) fun us s1 ⟨xs, H1, I1, r, z, q⟩ => ⟨by rw [← r.length]; exact z, ?_⟩)
  have hf : H1 s1.heap.objs.size = none := I1.hok.fresh (Nat.le_refl _)
  refine ⟨.ref s1.heap.objs.size, upd H1 s1.heap.objs.size (.tup xs), I1.laid (t' := s1.toks) (fun b u e => Heap.get?_push_of_some _ e) (Nat.le_refl _) ?_, rfl, q _ hf⟩
  exact ⟨z, us, r, ⟨_, Heap.get?_push_size _ rfl, rfl, _, rfl⟩⟩
theorem pe_lst (h : PA X es t) : PE X (.List es pos) (tLst t) := by
  intro pins s σ H Q I hq
  refine wpAny_List_spliced (thn (h pos pins s σ H _ I hq) fun us s1 ⟨xs, H1, I1, r, z, q⟩ => ⟨by rw [← r.length]; exact z, ?_⟩)
  have hf : H1 s1.heap.objs.size = none := I1.hok.fresh (Nat.le_refl _)
  refine ⟨.ref s1.heap.objs.size, upd H1 s1.heap.objs.size (.lst xs), I1.laid (t' := s1.toks) (fun b u e => Heap.get?_push_of_some _ e) (Nat.le_refl _) ?_, rfl, q _ hf⟩
  exact ⟨z, us, 0, r, Heap.get?_push_size _ rfl⟩
end

/-! ### what a def promises -/
/-- a def's promise: the bound arguments in the parameters' order, the heap, the wanted end, the wanted exception -/
abbrev Sp := List V → Hp → VK → XK → Prop
/-- how an exception lies behind a call (file 08 gives it): the callers' frames, abstract heap and state ahead of the call, the wish, the exception, the state -/
abbrev CXT := List Env → Hp → Shared → XK → Value → Shared → Prop

/-- the state at a call -/
structure Env0 (P : Program) (w : World) (K : PySem.W.Frag) (mg : Str → Option Value) (base : Heap) (A : Around) (outer : List Env) (s : Shared) (H : Hp) : Prop where
  frames : A.frames = some outer
  mod : Mod K mg base
  bs : ∀ b o, base.get? b = some o → s.heap.get? b = some o ∧ H b = none
  bsz : base.objs.size ≤ s.heap.objs.size
  funs : s.heap.FunFrames base outer
  frf : ∀ b ∈ frs outer, H b = none
  hok : HOk P w H s.heap
  bare : AllBare s.gens
/-- a call's end -/
def CE (outer : List Env) (P : Program) (w : World) (H : Hp) (s : Shared) (Q : VK) (u : Value) (s' : Shared) : Prop :=
  ∃ v H', s'.os = s.os ∧ AllBare s'.gens ∧ Un (frs outer) [] H H' s.heap s'.heap ∧ HOk P w H' s'.heap ∧ RelV v u ∧ Q v H'
def CR (CX : CXT) (outer : List Env) (P : Program) (w : World) (H : Hp) (s : Shared) (Q : VK) (E : XK) (r : Result) (s' : Shared) : Prop :=
  match r with
  | .ok (.ret u) => CE outer P w H s Q u s'
  | .ok _ => False
  | .error e => CX outer H s E e s'
structure FnOk (P : Program) (w : World) (K : PySem.W.Frag) (mg : Str → Option Value) (base : Heap) (CX : CXT) (k : Nat) (f : Addr) (fd : FuncData) (ps : List Str) (sp : Sp) : Prop where
  len : ∀ vs H Q E, sp vs H Q E → vs.length = ps.length
  run : ∀ (A : Around) (outer : List Env) (s : Shared) (H : Hp) (args : Args) (us : List Value) (vs : List V) (Q : VK) (E : XK), Room k A → Env0 P w K mg base A outer s H → BindsTo s fd args (ps.zip us) → Vals vs us → sp vs H Q E →
    codeAny (model P w) A (.call (.ref f) args) (CR CX outer P w H s Q E) s
section
variable {X : Cx} {pins : List (Addr × Obj)} {σ : St} {H : Hp} {s s' : Shared}
/-- from a body: what a callee wants -/
theorem Inv.env0 (I : Inv X pins σ H s) : Env0 X.prog X.w X.K X.mg X.base X.A X.stack s H :=
  ⟨I.ok.frames, I.ok.mod, I.bs, Nat.le_trans I.ok.bsz I.sz, I.stack, I.stkFree, I.hok, I.bare⟩
/-- behind a call -/
theorem Inv.after {Q : VK} {u : Value} (I : Inv X pins σ H s) (h : CE X.stack X.prog X.w H s Q u s') : EP X pins σ Q u s' := by
  obtain ⟨v, H', os, bare, un, hok, r, q⟩ := h
  obtain ⟨hh, g, d, t, os'⟩ := s'
  obtain rfl : os' = s.os := os
  exact ⟨v, H', I.call (h' := hh) (g' := g) (d' := d) (t' := t) (ch := []) un hok bare (fun b z => absurd z (by simp)), r, q⟩
end

/-! ### calls -/
/-- f(..): the written arguments, then the defaults dvs; E: what is wanted of an exception -/
def tCall (sp : Sp) (dvs : List V) (E : XK) (t : TA) : TE := fun σ H Q => t σ H fun vs H1 => sp (vs ++ dvs) H1 Q E
/-- how the parameters are bound: us the positional arguments, kw the keywords' values by name, ds the defaults that fill up -/
def Binds (K : PySem.W.Frag) (fd : FuncData) (ps : List Str) (ds : List Value) : Prop :=
  ∀ (s : Shared) (us : List Value), K.In s.heap → (us ++ ds).length = ps.length → BindsTo s fd ⟨us, []⟩ (ps.zip (us ++ ds))
/-- every parameter is given -/
theorem Binds.all {K : PySem.W.Frag} {fd : FuncData} {ps : List Str} (h : ∀ us : List Value, us.length = ps.length → bindArgs fd ⟨us, []⟩ = pure (ps.zip us)) : Binds K fd ps [] := fun s us _ hl => by
  rw [List.append_nil] at hl ⊢
  exact .of_eq (h us hl)

/-- an exception of a callee reaches what this body wants of exceptions -/
def Passes (CX : CXT) (X : Cx) (E : XK) : Prop := ∀ (pins : List (Addr × Obj)) (σ : St) (H : Hp) (s : Shared) (e : Value) (s' : Shared), Inv X pins σ H s → CX X.stack H s E e s' → X.xe e s'

section
variable {X : Cx} {CX : CXT} {k : Nat} {f C : Addr} {fd : FuncData} {ps : List Str} {sp : Sp} {dvs : List V} {ds : List Value} {E : XK} {x m : Str} {p pos apos : Pos} {e o : Expr} {es : List Expr} {ta : TE} {t : TA}

/-- the callee runs -/
theorem run_fn {pins : List (Addr × Obj)} {σ : St} {H : Hp} {s : Shared} {Q : VK} {us : List Value} {vs : List V} (F : FnOk X.prog X.w X.K X.mg X.base CX k f fd ps sp) (hr : Room k X.A) (hb : Binds X.K fd ps ds) (hd : Vals dvs ds) (hx : Passes CX X E)
    (I : Inv X pins σ H s) (r : Vals vs us) (h : sp (vs ++ dvs) H Q E) : wpAny (model X.prog X.w) X.A (call (.ref f) us) (EP X pins σ Q) X.xe s := by
  have r2 : Vals (vs ++ dvs) (us ++ ds) := r.append hd
  have hl : (us ++ ds).length = ps.length := by rw [← r2.length]; exact F.len _ _ _ _ h
  refine wpAny_call (codeAny_mono (F.run X.A X.stack s H ⟨us, []⟩ (us ++ ds) (vs ++ dvs) Q E hr I.env0 (hb s us I.kIn hl) r2 h) fun r s' hq => ?_)
  cases r with
  | error e => exact hx pins σ H s e s' I hq
  | ok fl =>
    cases fl with
    | ret u => exact I.after hq
    | next => exact False.elim hq
    | brk => exact False.elim hq
    | cont => exact False.elim hq

theorem pe_call (F : FnOk X.prog X.w X.K X.mg X.base CX k f fd ps sp) (hr : Room k X.A) (hg : Gl X x) (hm : X.mg x = some (.ref f)) (hk : PySem.W.keepIn X.K (.ref f) = true) (hb : Binds X.K fd ps ds) (hd : Vals dvs ds) (hx : Passes CX X E)
    (ha : PA X (e :: es) t) (hdb : (x == ("__debug__" : Str)) = false := by decide) (he : starEach (e :: es) X.env = (false, eval e X.env) :: starEach es X.env := by rfl) (hpl : (backTo pos (starEach es X.env)).any (·.1) = false := by rfl) :
    PE X (.Call (.Name x p) (e :: es) [] pos) (tCall sp dvs E t) := by
  intro pins s σ H Q I h
  refine wpAny_Call_Name_kw (ld_glob I hg hm ?_ hdb)
  refine PySem.W.callWith_K (h₀ := X.base) I.ok.mod.kin hk (thn (ha pos pins s σ H _ I h) fun us s1 ⟨vs, H1, I1, r, q⟩ => ⟨I1.kIn, ?_⟩) he hpl
  exact run_fn F hr hb hd hx I1 r q
end

/-! ### keywords -/
section
variable {X : Cx} {CX : CXT} {k : Nat} {f C : Addr} {fd : FuncData} {ps ks : List Str} {sp : Sp} {E : XK} {x m : Str} {p pos apos kpos : Pos} {e o : Expr} {es : List Expr} {kws : List Keyword} {te ta : TE} {t tk : TA} {nm : Option Str}
variable {g : List Value → List Value → List Value} {gV : List V → List V → List V}
end

/-! ### a def's body keeps its promise -/
/-- names: the parameters first -/
structure FnScope (N P : List Str) (sc : Scope) : Prop where
  kind : sc.kind = .function
  co : sc.isCoroutine = false
  gen : sc.isGenerator = false
  nd : N.Nodup
  pre : N.take P.length = P
  par : ∀ x ∈ P, sc.names.lookup x = some .local ∨ sc.names.lookup x = some .cell
  nofree : ∀ y ∈ sc.names, y.2 ≠ .free

theorem bindL_out {kindOf : Str → Option NameKind} {x : Str} : ∀ {binds : List (Str × Value)} {m : Str → Option Value}, (∀ v, (x, v) ∉ binds) → bindL kindOf binds m x = m x
  | [], _, _ => rfl
  | (n, v) :: r, m, h => by
    unfold bindL
    rw [bindL_out fun w hw => h w (List.mem_cons_of_mem _ hw)]
    split
    · have : x ≠ n := by rintro rfl; exact h v List.mem_cons_self
      simp [this]
    · rfl
theorem bindC_out {kindOf : Str → Option NameKind} {x : Str} : ∀ {binds : List (Str × Value)} {m : Str → Option Value}, (∀ v, (x, v) ∉ binds) → bindC kindOf binds m x = m x
  | [], _, _ => rfl
  | (n, v) :: r, m, h => by
    unfold bindC
    rw [bindC_out fun w hw => h w (List.mem_cons_of_mem _ hw)]
    split
    · rfl
    · have : x ≠ n := by rintro rfl; exact h v List.mem_cons_self
      simp [this]
theorem bindL_get {kindOf : Str → Option NameKind} {x : Str} {v : Value} : ∀ {P : List Str} {vs : List Value} {i : Nat} {m : Str → Option Value}, P.Nodup → P[i]? = some x → vs[i]? = some v → kindOf x = some .local →
    bindL kindOf (P.zip vs) m x = some v
  | [], _, _, _, _, h, _, _ => by simp at h
  | _ :: _, [], _, _, _, _, h, _ => by simp at h
  | p :: P, w :: vs, 0, m, nd, h1, h2, hk => by
    simp at h1 h2; subst h1; subst h2
    show bindL kindOf ((p, w) :: P.zip vs) m p = _
    unfold bindL
    rw [bindL_out fun v hv => (List.nodup_cons.mp nd).1 (List.of_mem_zip hv).1, if_pos hk]
    simp
  | p :: P, w :: vs, i + 1, m, nd, h1, h2, hk => by
    show bindL kindOf ((p, w) :: P.zip vs) m x = _
    unfold bindL
    exact bindL_get (i := i) (List.nodup_cons.mp nd).2 (by simpa using h1) (by simpa using h2) hk
theorem bindC_get {kindOf : Str → Option NameKind} {x : Str} {v : Value} : ∀ {P : List Str} {vs : List Value} {i : Nat} {m : Str → Option Value}, P.Nodup → P[i]? = some x → vs[i]? = some v → kindOf x ≠ some .local →
    bindC kindOf (P.zip vs) m x = some v
  | [], _, _, _, _, h, _, _ => by simp at h
  | _ :: _, [], _, _, _, _, h, _ => by simp at h
  | p :: P, w :: vs, 0, m, nd, h1, h2, hk => by
    simp at h1 h2; subst h1; subst h2
    show bindC kindOf ((p, w) :: P.zip vs) m p = _
    unfold bindC
    rw [bindC_out fun v hv => (List.nodup_cons.mp nd).1 (List.of_mem_zip hv).1, if_neg hk]
    simp
  | p :: P, w :: vs, i + 1, m, nd, h1, h2, hk => by
    show bindC kindOf ((p, w) :: P.zip vs) m x = _
    unfold bindC
    exact bindC_get (i := i) (List.nodup_cons.mp nd).2 (by simpa using h1) (by simpa using h2) hk

/-- the names' values at the entry -/
def start (N : List Str) (vs : List V) : St := vs.map some ++ List.replicate (N.length - vs.length) none

/-- the context of a def's body, at its entry; an exception leaves the frame, then lies as CX says -/
def cxOf (CX : CXT) (P : Program) (w : World) (K : PySem.W.Frag) (mg : Str → Option Value) (base : Heap) (N : List Str) (qual : Str) (scope : Scope) (f : Addr) (cd : Value) (A : Around) (outer : List Env) (s : Shared) (H : Hp) (E : XK) : Cx where
  prog := P
  w := w
  K := K
  mg := mg
  base := base
  A := A.deeper (envOfC qual scope s.heap.objs.size f cd)
  N := N
  s₀ := s
  H₀ := H
  env := envOfC qual scope s.heap.objs.size f cd
  outer := outer
  stack := envOfC qual scope s.heap.objs.size f cd :: outer
  ex := []
  calm := true
  fn := fun _ => true
  pn := []
  xe := fun e s' => wpAny (model P w) (A.deeper (envOfC qual scope s.heap.objs.size f cd)) (leaving (envOfC qual scope s.heap.objs.size f cd) e) (fun _ s'' => CX outer H s E e s'') (fun e' s'' => CX outer H s E e' s'') s'

theorem cell_has {sc : Scope} {n : Nat} {x : Str} (h : sc.names.lookup x = some .cell) : ∃ c, (cellsFrom n sc.names []).lookup x = some c := by
  have q := PySem.W.cellsFrom_some sc.names n [] (.inl h)
  exact Option.isSome_iff_exists.mp q

theorem inv_start {CX : CXT} {P : Program} {w : World} {K : PySem.W.Frag} {mg : Str → Option Value} {base : Heap} {N ps : List Str} {qual : Str} {scope : Scope} {f : Addr} {cd : Value} {A : Around} {outer : List Env} {s s1 : Shared} {H : Hp} {E : XK} {us : List Value} {vs : List V}
    (S : FnScope N ps scope) (hd : A.handled = none) (e0 : Env0 P w K mg base A outer s H) (hl : vs.length = ps.length) (r : Vals vs us)
    (x : InCallC s s.heap.objs.size (bindL (envOfC qual scope s.heap.objs.size f cd).kindOf (ps.zip us) fun _ => none) (cellsFrom (s.heap.objs.size + 1) scope.names []) (bindC (envOfC qual scope s.heap.objs.size f cd).kindOf (ps.zip us) fun _ => none) s1) :
    Inv (cxOf CX P w K mg base N qual scope f cd A outer s H E) [] (start N vs) H s1 := by
  have hpl : ps.length ≤ N.length := by have := congrArg List.length S.pre; rw [List.length_take] at this; omega
  obtain ⟨h1, tk, rfl, hk⟩ := x.done
  have noA : ∀ b : Addr, b ∉ (cxOf CX P w K mg base N qual scope f cd A outer s H E).ex := fun b z => absurd (show b ∈ ([] : List Addr) from z) (by simp)
  refine ⟨⟨e0.mod, S.kind, rfl, rfl, Nat.le_refl _, fun y z c h1 h2 => ?_, fun y hy => ?_, fun y c _ h => ?_, fun _ => hd, Around.frames_deeper e0.frames, .inr ⟨rfl, rfl⟩, fun b z => absurd z (noA b), e0.bs, e0.bsz, fun b _ _ => noA b, fun b z => absurd z (noA b), e0.funs, e0.frf⟩,
    rfl, e0.bare, Un.kept hk, ⟨_, x.toInCall.ns, fun i y v h1 h2 h3 => ?_⟩, fun y c h => ⟨_, x.cell y c h⟩, e0.hok.fresh (Nat.le_refl _), fun y c h => ?_, fun p hp => absurd (show p ∈ ([] : List (Addr × Obj)) from hp) (by simp), e0.hok.kept hk, ?_⟩
  · exact name_of_addr x.apart (PySem.mem_of_lookup h1) (PySem.mem_of_lookup h2)
  · have hy : scope.names.lookup y = some .cell ∨ scope.names.lookup y = some .free := hy
    rcases hy with hy | hy
    · exact cell_has hy
    · exact absurd rfl (S.nofree _ (PySem.mem_of_lookup hy))
  · exact Nat.le_of_lt (x.above y c (PySem.mem_of_lookup h))
  · have hi : i < vs.length := by
      unfold start at h2
      by_cases hi : i < vs.length
      · exact hi
      · rw [List.getElem?_append_right (by simpa using hi)] at h2
        rw [List.getElem?_replicate] at h2
        split at h2 <;> cases h2
    have ha : vs[i]? = some v := by
      unfold start at h2
      rw [List.getElem?_append_left (by simpa using hi), List.getElem?_map] at h2
      cases e : vs[i]? with
      | none => rw [e] at h2; cases h2
      | some a => rw [e] at h2; cases h2; rfl
    obtain ⟨u, hu, rv⟩ := r.get ha
    have hp : ps[i]? = some y := by
      rw [← S.pre, List.getElem?_take_of_lt (by omega)]; exact h1
    have ndP : ps.Nodup := by rw [← S.pre]; exact S.nd.sublist (List.take_sublist _ _)
    refine ⟨u, rv, ?_⟩
    rcases S.par y (List.mem_of_getElem? hp) with k | k
    · exact .inl ⟨k, bindL_get ndP hp hu k⟩
    · obtain ⟨c, e⟩ := cell_has (n := s.heap.objs.size + 1) k
      refine .inr ⟨.inl k, c, e, ?_⟩
      have q := x.cell y c e
      rw [bindC_get ndP hp hu (by show scope.names.lookup y ≠ _; rw [k]; decide)] at q
      exact q
  · exact e0.hok.fresh (Nat.le_of_lt (x.above y c (PySem.mem_of_lookup h)))
  · unfold start
    show _ = N.length
    rw [List.length_append, List.length_map, List.length_replicate]
    omega

/-- THE RULE: a def (or a method) of the text, by its body. The body's reading t is chosen for each entry; it is run at the parameters' values -/
theorem fn_of {CX : CXT} {P : Program} {w : World} {K : PySem.W.Frag} {mg : Str → Option Value} {base : Heap} {k : Nat} {f : Addr} {name qual : Str} {params : Arguments} {body : List Stmt} {scope : Scope} {dV kV doc pm cdv ct oc : Value} {an od : Option Addr}
    {osl : Array (Option Value)} {N ps : List Str} {sp : Sp} (lk : K.lookup f = some ⟨oc, od, .func (PySem.W.fnOf name qual params body scope dV kV doc pm an cdv ct), osl⟩) (hcd : PySem.W.codeIn K cdv qual = true) (S : FnScope N ps scope)
    (len : ∀ vs H Q E, sp vs H Q E → vs.length = ps.length)
    (hbody : ∀ (A : Around) (outer : List Env) (s : Shared) (H : Hp) (vs : List V) (Q : VK) (E : XK), Room k (A.deeper (envOfC qual scope s.heap.objs.size f cdv)) → sp vs H Q E →
      ∃ t, PSs (cxOf CX P w K mg base N qual scope f cdv A outer s H E) body t ∧ t { nx := fun _ H' => Q .non H', rt := Q } (start N vs) H) :
    FnOk P w K mg base CX (k + 1) f (PySem.W.fnOf name qual params body scope dV kV doc pm an cdv ct) ps sp := by
  refine ⟨len, fun A outer s H args us vs Q E hr e0 hb r hsp => ?_⟩
  have hl := len _ _ _ _ hsp
  have KX : K.In s.heap := e0.mod.kin.keeps fun b o e => (e0.bs b o e).1
  have lim : s.heap.NoLimit := e0.mod.nolimit.keeps fun b o e => (e0.bs b o e).1
  have hkind : ∀ y ∈ ps.zip us, scope.names.lookup y.1 = some .local ∨ (scope.names.lookup y.1 = some .cell ∧ ((cellsFrom (s.heap.objs.size + 1) scope.names []).lookup y.1).isSome = true) := fun ⟨n, v⟩ hy => by
    rcases S.par n (List.of_mem_zip hy).1 with q | q
    · exact .inl q
    · exact .inr ⟨q, PySem.W.cellsFrom_some _ _ _ (.inl q)⟩
  refine codeAny_call_function hr.depth (KX _ _ lk) rfl S.co S.gen rfl (PySem.W.codeRec_of KX hcd) (hb _ _ _ _ ?_)
  refine wpAny_newFunctionEnv_cells S.kind hkind fun env he s1 x => ?_
  subst he
  refine ⟨lim.keeps x.toInCall.keep, codeAny_func ?_⟩
  obtain ⟨t, ht, hq⟩ := hbody A outer s H vs Q E (hr.deeper _) hsp
  have I : Inv (cxOf CX P w K mg base N qual scope f cdv A outer s H E) [] (start N vs) H s1 := inv_start S hr.hd e0 hl r x
  refine wpAny_mono (ht [] s1 (start N vs) H _ I hq) (fun fl s' hs => ?_) fun e s' hs => hs
  have fin : ∀ {σ' : St} {H' : Hp} {v : V} {u : Value}, Inv (cxOf CX P w K mg base N qual scope f cdv A outer s H E) [] σ' H' s' → RelV v u → Q v H' → CE outer P w H s Q u s' :=
    fun {σ' H' v u} J rv q => ⟨v, H', J.os, J.bare, J.base, J.hok, rv, q⟩
  cases fl with
  | ret u =>
    obtain ⟨v, σ', H', J, rv, q⟩ := hs
    exact fin J rv q
  | next =>
    obtain ⟨σ', H', J, q⟩ := hs
    exact fin (v := V.non) (u := Value.none) J rfl q
  | brk =>
    obtain ⟨_, _, _, q⟩ := hs
    exact False.elim q
  | cont =>
    obtain ⟨_, _, _, q⟩ := hs
    exact False.elim q
end L2

namespace L2
open PySem PySem.Spec PyProof.Rows
section
variable {X : Cx} {x : Str} {p pos : Pos} {e : Expr} {es : List Expr} {t : TA} {id T : String} {r : List V → Hp → VK → Prop}

def tCB (r : List V → Hp → VK → Prop) (t : TA) : TE := fun σ H Q => t σ H fun vs H1 => r vs H1 Q
/-- f(e, ..), f a built-in function -/
theorem pe_callB (hc : CallR X (.builtin id) r) (hg : Gl X x) (hm : X.mg x = none) (hv : bootBuiltins x = some (.builtin id)) (ha : PA X (e :: es) t) (hn : x ≠ "__name__" := by decide) (hdb : (x == ("__debug__" : Str)) = false := by decide)
    (he : starEach (e :: es) X.env = (false, eval e X.env) :: starEach es X.env := by rfl) (hpl : (backTo pos (starEach es X.env)).any (·.1) = false := by rfl) : PE X (.Call (.Name x p) (e :: es) [] pos) (tCB r t) := by
  intro pins s σ H Q I h
  refine wpAny_Call_Name_kw (ld_blt I hg hm hv ?_ hn hdb)
  exact PyProof.Rows.callWith_builtin1 (thn (ha pos pins s σ H _ I h) fun us s1 ⟨vs, H1, I1, r1, q1⟩ => hc pins s1 σ H1 vs us Q I1 r1 q1) he hpl
/-- T(e, ..), T a built-in type -/
theorem pe_callTy (hc : CallR X (.type T) r) (hg : Gl X x) (hm : X.mg x = none) (hv : bootBuiltins x = some (.type T)) (ha : PA X (e :: es) t) (hn : x ≠ "__name__" := by decide) (hdb : (x == ("__debug__" : Str)) = false := by decide)
    (he : starEach (e :: es) X.env = (false, eval e X.env) :: starEach es X.env := by rfl) (hpl : (backTo pos (starEach es X.env)).any (·.1) = false := by rfl) : PE X (.Call (.Name x p) (e :: es) [] pos) (tCB r t) := by
  intro pins s σ H Q I h
  refine wpAny_Call_Name_kw (ld_blt I hg hm hv ?_ hn hdb)
  exact PyProof.Rows.callWith_type1 (thn (ha pos pins s σ H _ I h) fun us s1 ⟨vs, H1, I1, r1, q1⟩ => hc pins s1 σ H1 vs us Q I1 r1 q1) he hpl
end
end L2

namespace HT
open PySem PyProof.Rows

section
open PySem.SeqAt
open PySem.AutoSeq1 (wpAny_loadPart')
open PySem.MeetsSeq PySem.MeetsSeq2 PySem.MeetsSeq3

end

section
variable {prog : Program} {w : World} {A : Around} {E : Value → Shared → Prop} {s : Shared}

/-! ### t[a:b], not the whole -/
/-- a slice's bound as a place among n (d where it is left out) -/
def sIx (n d : Nat) : Option Int → Nat
  | none => d
  | some v => if v < 0 then (v + (n : Int)).toNat else min v.toNat n
theorem sIx_none (n d : Nat) : sIx n d none = d := rfl
theorem clip_eq (v : Int) (n d : Nat) : (if v < 0 then max (v + (n : Int)) 0 else min v (n : Int)) = ((sIx n d (some v) : Nat) : Int) := by
  show (if v < 0 then max (v + (n : Int)) 0 else min v (n : Int)) = (((if v < 0 then (v + (n : Int)).toNat else min v.toNat n) : Nat) : Int)
  by_cases hv : v < 0
  · simp only [if_pos hv]; omega
  · simp only [if_neg hv]; omega
end
end HT

namespace L2
open PySem PySem.Spec PyProof.Rows

/-! ### the parts of a slice -/
abbrev TO := St → Hp → (Option Int → Hp → Prop) → Prop
/-- a slice's part (left out, or an int) -/
def PO (X : Cx) (e : Option Expr) (t : TO) : Prop :=
  ∀ (pins : List (Addr × Obj)) (s : Shared) (σ : St) (H : Hp) (Q : Option Int → Hp → Prop), Inv X pins σ H s → t σ H Q →
    wpAny (model X.prog X.w) X.A (evalPart e X.env) (fun u s' => ∃ o H', Inv X pins σ H' s' ∧ IsPart u o ∧ Q o H') X.xe s
def tNoPart : TO := fun _ H Q => Q none H
def tPart (t : TE) : TO := fun σ H Q => t σ H fun x H1 => ∃ i, x = .int i ∧ Q (some i) H1

section
variable {X : Cx} {e : Expr} {te : TE} {lo hi : Option Expr} {tl th : TO} {pos p2 : Pos}

theorem po_none : PO X none tNoPart := by
  intro pins s σ H Q I h
  rw [evalPart_none]
  exact wpAny_pure ⟨none, H, I, .none, h⟩
theorem po_some (h : PE X e te) : PO X (some e) (tPart te) := by
  intro pins s σ H Q I hw
  rw [evalPart_some]
  refine thn (h pins s σ H _ I hw) fun u s1 ⟨x, H1, I1, r1, q1⟩ => ?_
  obtain ⟨i, rfl, q⟩ := q1
  obtain ⟨t, rfl⟩ := r1
  exact ⟨some i, H1, I1, .int i t, q⟩

/-- what a slice of a value is, by values: the slice object stands at sl -/
def SlR (X : Cx) (r : V → Option Int → Option Int → Hp → VK → Prop) : Prop :=
  ∀ (pins : List (Addr × Obj)) (s : Shared) (σ : St) (H : Hp) (x : V) (v vl vu : Value) (lo hi : Option Int) (sl : Addr) (Q : VK), Inv X pins σ H s → RelV x v → s.heap.IsSliceOf sl vl vu .none → IsPart vl lo → IsPart vu hi → r x lo hi H Q →
    ∃ T id, typeLookup (.type T) "__getitem__" = pure (some (.builtin id)) ∧ s.TypeIs v T ∧ wpAny (model X.prog X.w) X.A (getItem v (.ref sl)) (EP X pins σ Q) X.xe s
def tSl (r : V → Option Int → Option Int → Hp → VK → Prop) (te : TE) (tl th : TO) : TE := fun σ H Q => te σ H fun x H1 => tl σ H1 fun l H2 => th σ H2 fun u H3 => r x l u H3 Q
/-- a[lo:hi], any a -/
theorem pe_slice {r : V → Option Int → Option Int → Hp → VK → Prop} (hr : SlR X r) (he : PE X e te) (hl : PO X lo tl) (hu : PO X hi th) : PE X (.Subscript e (.Slice lo hi none p2) pos) (tSl r te tl th) := by
  intro pins s σ H Q I h
  refine Subscript_ (thn (he pins s σ H _ I h) fun v s1 ⟨x, H1, I1, r1, q1⟩ => ?_)
  refine wpAny_Slice (thn (hl pins s1 σ H1 _ I1 q1) fun vl s2 ⟨l, H2, I2, pl, q2⟩ => thn (hu pins s2 σ H2 _ I2 q2) fun vu s3 ⟨u, H3, I3, pu, q3⟩ => ?_)
  rw [evalPart_none]
  refine wpAny_pure ?_
  have I4 : Inv X pins σ H3 { s3 with heap := s3.heap.push { cls := .type "slice", data := .fields #[vl, vu, .none] } } := I3.kept (t' := s3.toks) fun b ob q => Heap.get?_push_of_some _ q
  obtain ⟨T, id, hT, ht, hg⟩ := hr pins { s3 with heap := s3.heap.push { cls := .type "slice", data := .fields #[vl, vu, .none] } } σ H3 x v vl vu l u s3.heap.objs.size Q I4 r1 (Heap.IsSliceOf.new ..) pl pu q3
  show wpAny (model X.prog X.w) X.A (subscriptTail e (.Slice lo hi none p2) v (.ref s3.heap.objs.size)) (EP X pins σ Q) X.xe { s3 with heap := s3.heap.push { cls := .type "slice", data := .fields #[vl, vu, .none] } }
  exact tail_any (ops := [.ref s3.heap.objs.size, v]) ht hT hg (by with_unfolding_all rfl)

/-- the items of xs[lo:hi] -/
def cutV (xs : List V) (lo hi : Option Int) : List V := (xs.drop (HT.sIx xs.length 0 lo)).take (HT.sIx xs.length xs.length hi - HT.sIx xs.length 0 lo)
theorem cutV_length (xs : List V) (lo hi : Option Int) : (cutV xs lo hi).length ≤ xs.length := by
  unfold cutV
  rw [List.length_take, List.length_drop]
  omega
/-! ### t < u, t + u -/
end
end L2

namespace L2
open PySem PySem.Spec PyProof.Rows

/-! ### places -/
/-- the place that an index of any sign means -/
def ixN (n : Nat) (i : Int) : Option Nat := if 0 ≤ i then (if i < n then some i.toNat else none) else if -(n : Int) ≤ i then some (i + n).toNat else none
def atI {α : Type} (xs : List α) (i : Int) : Option α := (ixN xs.length i).bind fun j => xs[j]?
theorem ixN_seq {n : Nat} {i : Int} {j : Nat} (h : ixN n i = some j) : seqIndex? i n = some j ∧ j < n ∧ -(n : Int) ≤ i ∧ i < n := by
  unfold ixN at h
  by_cases h0 : 0 ≤ i
  · rw [if_pos h0] at h
    by_cases h1 : i < n
    · rw [if_pos h1] at h
      have e : i.toNat = j := Option.some.inj h
      exact ⟨by rw [seqIndex_of h0 h1, e], by omega, by omega, h1⟩
    · rw [if_neg h1] at h; cases h
  · rw [if_neg h0] at h
    by_cases h1 : -(n : Int) ≤ i
    · rw [if_pos h1] at h
      have e : (i + n).toNat = j := Option.some.inj h
      exact ⟨by rw [seqIndex_neg (by omega) h1, e], by omega, h1, by omega⟩
    · rw [if_neg h1] at h; cases h
theorem atI_get {α : Type} {xs : List α} {i : Int} {v : α} (h : atI xs i = some v) : ∃ j, seqIndex? i xs.length = some j ∧ xs[j]? = some v ∧ j < xs.length ∧ -(xs.length : Int) ≤ i ∧ i < xs.length := by
  unfold atI at h
  cases e : ixN xs.length i with
  | none => rw [e] at h; cases h
  | some j =>
    rw [e] at h
    obtain ⟨h1, h2, h3, h4⟩ := ixN_seq e
    exact ⟨j, h1, h, h2, h3, h4⟩
theorem atI_nat {α : Type} {xs : List α} {j : Nat} {v : α} (h : xs[j]? = some v) : atI xs (j : Int) = some v := by
  have hj : j < xs.length := (List.getElem?_eq_some_iff.mp h).1
  have e : ixN xs.length (j : Int) = some j := by
    unfold ixN
    rw [if_pos (by omega), if_pos (by omega)]; simp
  unfold atI; rw [e]; exact h
/-! ### what may be subscripted -/
/-- what stands as an index of a plain subscript -/
def PlainIx (b : Expr) : Prop := ∀ o i, subscripted b false o i = operate [o, i] (getItem o i)
/-- a subscript by values -/
def IxR (X : Cx) (r : R2) : Prop :=
  ∀ (value slice : Expr) (pins : List (Addr × Obj)) (s : Shared) (σ : St) (H : Hp) (x y : V) (v u : Value) (Q : VK), Inv X pins σ H s → RelV x v → RelV y u → r x y H Q →
    subscripted slice false v u = operate [v, u] (getItem v u) → wpAny (model X.prog X.w) X.A (subscriptTail value slice v u) (EP X pins σ Q) X.xe s
/-- a call of a builtin's method by values: the receiver, the arguments -/
def MtR (X : Cx) (id : String) (r : V → List V → Hp → VK → Prop) : Prop :=
  ∀ (pins : List (Addr × Obj)) (s : Shared) (σ : St) (H : Hp) (x : V) (xs : List V) (v : Value) (us : List Value) (Q : VK), Inv X pins σ H s → RelV x v → Vals xs us → r x xs H Q →
    wpAny (model X.prog X.w) X.A (call (.builtin id) (v :: us)) (EP X pins σ Q) X.xe s
section
variable {X : Cx} {a b : Expr} {ta tb : TE} {pos : Pos}
/-- a[b] -/
theorem pe_ix {r : R2} (hr : IxR X r) (ha : PE X a ta) (hb : PE X b tb) (hs : PlainIx b) : PE X (.Subscript a b pos) (tOp r ta tb) := by
  intro pins s σ H Q I h
  exact Subscript_ (binT ha hb I h fun v u s2 x y H2 I2 rx ry q => hr a b pins s2 σ H2 x y v u Q I2 rx ry q (hs _ _))

def rIxL (K : PySem.W.Frag) : R2 := fun x y H Q => ∃ p xs i v, x = .ref p ∧ y = .int i ∧ SqL K H p xs ∧ atI xs i = some v ∧ Q v H
def rIxT (K : PySem.W.Frag) : R2 := fun x y H Q => ∃ p xs i v, x = .ref p ∧ y = .int i ∧ SqT K H p xs ∧ atI xs i = some v ∧ Q v H
def rIxS : R2 := fun x y H Q => ∃ z i c, x = .str z ∧ y = .int i ∧ z.length ≤ sizeLine ∧ atI z.cps.toList i = some c ∧ Q (.str ⟨#[c]⟩) H
theorem ix_list : IxR X (rIxL X.K) := by
  intro value slice pins s σ H x y v u Q I rx ry h hs
  obtain ⟨p, xs, i, z, rfl, rfl, hq, he, q⟩ := h
  cases rx
  obtain ⟨t, rfl⟩ := ry
  obtain ⟨its, r, pl, hz⟩ := I.list hq
  obtain ⟨j, h1, h2, h3, h4, h5⟩ := atI_get he
  obtain ⟨w, ew, rw'⟩ := r.get h2
  have hl := r.length
  have hn := line63
  have fin : EP X pins σ Q w s := ⟨z, H, I, rw', q⟩
  by_cases h0 : 0 ≤ i
  · have hj : i.toNat = j := by
      rw [seqIndex_of h0 h5] at h1
      exact Option.some.inj h1
    exact item_listR pl.isList h0 (by omega) (by rw [hj]; simpa using ew) fin hs
  · have hj : (i + (its.toArray.size : Int)).toNat = j := by
      rw [seqIndex_neg (by omega) h4] at h1
      rw [List.size_toArray, ← hl]
      exact Option.some.inj h1
    exact subscriptTail_builtinR (x := w) pl.isList.typeIs slot_list_getitem.lookup
      (wpAny_getItem_list_neg (Q := fun r s' => r = w ∧ EP X pins σ Q r s') pl.isList (by omega) (by rw [List.size_toArray] <;> omega) (by omega) (by rw [hj]; simpa using ew) ⟨rfl, fin⟩) hs
theorem ix_tup : IxR X (rIxT X.K) := by
  intro value slice pins s σ H x y v u Q I rx ry h hs
  obtain ⟨p, xs, i, z, rfl, rfl, hq, he, q⟩ := h
  cases rx
  obtain ⟨t, rfl⟩ := ry
  obtain ⟨its, r, pl, hz⟩ := I.tuple hq
  obtain ⟨j, h1, h2, h3, h4, h5⟩ := atI_get he
  obtain ⟨w, ew, rw'⟩ := r.get h2
  have hl := r.length
  have hn := line63
  have fin : EP X pins σ Q w s := ⟨z, H, I, rw', q⟩
  exact subscriptTail_builtinR (x := w) pl.typeIs slot_tuple_getitem.lookup
    (getItem_tuple (j := j) (Q := fun r s' => r = w ∧ EP X pins σ Q r s') pl (by omega) (by omega) (by rw [List.size_toArray, ← hl]; exact h1) (by simpa using ew) ⟨rfl, fin⟩) hs
theorem ix_str : IxR X rIxS := by
  intro value slice pins s σ H x y v u Q I rx ry h hs
  obtain ⟨z, i, c, rfl, rfl, hz, he, q⟩ := h
  obtain ⟨t, rfl⟩ := rx
  obtain ⟨t', rfl⟩ := ry
  obtain ⟨j, h1, h2, h3, h4, h5⟩ := atI_get he
  have hl : z.cps.toList.length = z.length := by simp [Str.length]
  rw [hl] at h1 h4 h5
  have hn := line63
  exact tail_any (typeIs_str s z t) slot_str_getitem.lookup (getItem_str (c := c) (by
    have e1 : decide (i < -(2 ^ 63 : Int)) = false := decide_eq_false (by omega)
    have e2 : decide (i ≥ 2 ^ 63) = false := decide_eq_false (by omega)
    rw [e1, e2, Bool.or_false]) (by rw [h1]; simpa using h2) ⟨.str ⟨#[c]⟩, H, I.tok _, ⟨_, rfl⟩, q⟩) hs
/-! ### xs[i] = v, any sign -/
/-! ### slices -/
theorem slice_bounds (lo hi : Option Int) (n : Nat) : (sliceBounds lo hi none n).1 = ((HT.sIx n 0 lo : Nat) : Int) ∧ (sliceBounds lo hi none n).2.1 = ((HT.sIx n n hi : Nat) : Int) ∧ (sliceBounds lo hi none n).2.2 = 1 := by
  refine ⟨?_, ?_, rfl⟩
  · cases lo with
    | none => simp [sliceBounds, HT.sIx]
    | some i =>
      simp only [sliceBounds, HT.sIx, Option.getD_none, show (1 : Int) > 0 by decide, if_true]
      by_cases h : i < 0
      · simp only [h, if_true] <;> omega
      · simp only [h, if_false] <;> omega
  · cases hi with
    | none => simp [sliceBounds, HT.sIx]
    | some i =>
      simp only [sliceBounds, HT.sIx, Option.getD_none, show (1 : Int) > 0 by decide, if_true]
      by_cases h : i < 0
      · simp only [h, if_true] <;> omega
      · simp only [h, if_false] <;> omega
theorem slicePick_cut (its : List Value) (lo hi : Option Int) : slicePick its.toArray lo hi none = ((its.drop (HT.sIx its.length 0 lo)).take (HT.sIx its.length its.length hi - HT.sIx its.length 0 lo)).toArray := by
  obtain ⟨h1, h2, h3⟩ := slice_bounds lo hi its.toArray.size
  unfold slicePick
  rw [h1, h2, h3]
  simp only [sliceRange_one, pick_run, List.size_toArray] <;> rfl
/-- xs[lo:hi] of a list: a new list -/
def rSlL (K : PySem.W.Frag) : V → Option Int → Option Int → Hp → VK → Prop := fun x lo hi H Q => ∃ a xs, x = .ref a ∧ SqL K H a xs ∧ ∀ p, H p = none → Q (.ref p) (upd H p (.lst (cutV xs lo hi)))
theorem sl_list : SlR X (rSlL X.K) := by
  intro pins s σ H x v vl vu lo hi sl Q I rx hs pl pu h
  obtain ⟨a, xs, rfl, hx, q⟩ := h
  cases rx
  obtain ⟨its, r, ht, hz⟩ := I.list hx
  have hlen := r.length
  refine ⟨"list", _, slot_list_getitem.lookup, ht.isList.typeIs, ?_⟩
  refine wpAny_getItem_list_slice ht.isList hs pl pu .none (by simp) ?_ (by rw [List.size_toArray] <;> omega)
  rw [slicePick_cut, ← hlen]
  refine ⟨.ref s.heap.objs.size, _, I.laid (t' := s.toks) (o := .lst (cutV xs lo hi)) (fun b ob q => Heap.get?_push_of_some _ q) (Nat.le_refl _) ?_, rfl, q _ (I.hok.fresh (Nat.le_refl _))⟩
  exact ⟨Nat.le_trans (cutV_length xs lo hi) hz, _, 0, (r.drop (HT.sIx xs.length 0 lo)).take (HT.sIx xs.length xs.length hi - HT.sIx xs.length 0 lo), Heap.get?_push_size _ rfl⟩

/-! ### in, not in: flat items -/
def flatV : V → Bool
  | .non => true
  | .bl _ => true
  | .int _ => true
  | .str _ => true
  | _ => false
/-- == of flat values -/
def eqV : V → V → Bool
  | .non, .non => true
  | .bl a, .bl b => a == b
  | .bl a, .int b => (if a then 1 else 0) == b
  | .int a, .bl b => a == (if b then 1 else 0)
  | .int a, .int b => a == b
  | .str a, .str b => a == b
  | _, _ => false
theorem eqAt_V {A : Around} {s : Shared} {y x : V} {u v : Value} (ry : RelV y u) (rx : RelV x v) (fy : flatV y = true) (fx : flatV x = true) : SeqAt.EqAt A s u v (eqV y x) := by
  cases y with
  | non =>
    cases ry
    cases x with
    | non => cases rx; exact SeqAt.EqAt.same _
    | bl b => cases rx; exact SeqAt.EqAt.none_bool b
    | int b => obtain ⟨t, rfl⟩ := rx; exact SeqAt.EqAt.none_int b t
    | str b => obtain ⟨t, rfl⟩ := rx; exact SeqAt.EqAt.none_str b t
    | _ => exact absurd (show false = true from fx) Bool.false_ne_true
  | bl a =>
    cases ry
    cases x with
    | non => cases rx; exact SeqAt.EqAt.bool_none a
    | bl b => cases rx; exact SeqAt.EqAt.bool_bool a b
    | int b => obtain ⟨t, rfl⟩ := rx; exact SeqAt.EqAt.bool_int a b t
    | str b => obtain ⟨t, rfl⟩ := rx; exact SeqAt.EqAt.bool_str a b t
    | _ => exact absurd (show false = true from fx) Bool.false_ne_true
  | int a =>
    obtain ⟨t', rfl⟩ := ry
    cases x with
    | non => cases rx; exact SeqAt.EqAt.int_none a t'
    | bl b => cases rx; exact SeqAt.EqAt.int_bool a t' b
    | int b => obtain ⟨t, rfl⟩ := rx; exact SeqAt.EqAt.int_int a t' b t
    | str b => obtain ⟨t, rfl⟩ := rx; exact SeqAt.EqAt.int_str a t' b t
    | _ => exact absurd (show false = true from fx) Bool.false_ne_true
  | str a =>
    obtain ⟨t', rfl⟩ := ry
    cases x with
    | non => cases rx; exact SeqAt.EqAt.str_none a t'
    | bl b => cases rx; exact SeqAt.EqAt.str_bool a t' b
    | int b => obtain ⟨t, rfl⟩ := rx; exact SeqAt.EqAt.str_int a t' b t
    | str b => obtain ⟨t, rfl⟩ := rx; exact SeqAt.EqAt.str_str a t' b t
    | _ => exact absurd (show false = true from fx) Bool.false_ne_true
  | _ => exact absurd (show false = true from fy) Bool.false_ne_true
/-- the items' answers, read off the values (a value's own answer does not lean on its token) -/
def eqU (x : V) (u : Value) : Bool := match u with
  | .none => eqV .non x
  | .bool b => eqV (.bl b) x
  | .int i _ => eqV (.int i) x
  | .str z _ => eqV (.str z) x
  | _ => false
theorem eqU_of {x y : V} {u : Value} (r : RelV y u) (f : flatV y = true) : eqU x u = eqV y x := by
  cases y with
  | non => cases r; rfl
  | bl b => cases r; rfl
  | int i => obtain ⟨t, rfl⟩ := r; rfl
  | str z => obtain ⟨t, rfl⟩ := r; rfl
  | _ => exact absurd (show false = true from f) Bool.false_ne_true
theorem any_eqU {x : V} : ∀ {xs : List V} {us : List Value}, Vals xs us → xs.all flatV = true → us.any (eqU x) = xs.any fun y => eqV y x
  | _, _, .nil, _ => rfl
  | y :: xs, u :: us, .cons r t, f => by
    rw [List.all_cons, Bool.and_eq_true] at f
    rw [List.any_cons, List.any_cons, eqU_of r f.1, any_eqU t f.2]
theorem mem_eqAt {A : Around} {s : Shared} {x : V} {v : Value} (rx : RelV x v) (fx : flatV x = true) : ∀ {xs : List V} {us : List Value}, Vals xs us → xs.all flatV = true → ∀ u ∈ us, SeqAt.EqAt A s u v (eqU x u)
  | _, _, .nil, _ => fun u hu => by cases hu
  | y :: xs, u :: us, .cons r t, f => fun u' hu => by
    rw [List.all_cons, Bool.and_eq_true] at f
    rcases List.mem_cons.mp hu with rfl | hu
    · rw [eqU_of r f.1]; exact eqAt_V r rx f.1 fx
    · exact mem_eqAt rx fx t f.2 u' hu
def inV (x : V) (xs : List V) : Bool := xs.any fun y => eqV y x
/-- x in a list or tuple of flat items -/
def rIn (K : PySem.W.Frag) (neg : Bool) : R2 := fun x y H Q => ∃ p xs, y = .ref p ∧ (SqL K H p xs ∨ SqT K H p xs) ∧ flatV x = true ∧ xs.all flatV = true ∧ Q (.bl (if neg then !inV x xs else inV x xs)) H
theorem op_in_seq : OpR X (compareOp .In) (rIn X.K false) := by
  intro pins s σ H x y v u Q I rx ry h
  obtain ⟨p, xs, rfl, hq, fx, fs, q⟩ := h
  cases ry
  rcases hq with hq | hq
  · obtain ⟨its, r, pl, hz⟩ := I.list hq
    refine SeqAt.in_listAt (eqU x) pl.isList (fun w hw => mem_eqAt rx fx r fs w (by simpa using hw)) ⟨.bl _, H, I, rfl, ?_⟩
    rw [show its.toArray.any (eqU x) = its.any (eqU x) by simp, any_eqU r fs]
    exact q
  · obtain ⟨its, r, pl, hz⟩ := I.tuple hq
    refine SeqAt.in_tupleAt (eqU x) pl (fun w hw => mem_eqAt rx fx r fs w (by simpa using hw)) ⟨.bl _, H, I, rfl, ?_⟩
    rw [show its.toArray.any (eqU x) = its.any (eqU x) by simp, any_eqU r fs]
    exact q
/-! ### len, list(x), tuple(x) of any list or tuple that is read -/
theorem call_len_seq : CallR X (.builtin "len") (fun xs H Q => ∃ p ys, xs = [.ref p] ∧ (SqL X.K H p ys ∨ SqT X.K H p ys) ∧ Q (.int ys.length) H) := by
  intro pins s σ H xs us Q I r h
  obtain ⟨p, ys, rfl, hq, q⟩ := h
  obtain ⟨u, rfl, rx⟩ := vals1 r
  cases rx
  have hn := line63
  rcases hq with hq | hq
  · obtain ⟨its, r', pl, hz⟩ := I.list hq
    have hlen := r'.length
    exact Calls.call_len_list pl.isList (by simp only [List.size_toArray] <;> omega) ⟨.int ys.length, H, I.tok _, ⟨s.toks + 1, by rw [List.size_toArray, hlen]⟩, q⟩
  · obtain ⟨its, r', pl, hz⟩ := I.tuple hq
    have hlen := r'.length
    exact len_tuple pl (by simp only [List.size_toArray] <;> omega) ⟨.int ys.length, H, I.tok _, ⟨s.toks + 1, by rw [List.size_toArray, hlen]⟩, q⟩
theorem call_len_str : CallR X (.builtin "len") (fun xs H Q => ∃ z, xs = [.str z] ∧ z.length ≤ sizeLine ∧ Q (.int z.length) H) := by
  intro pins s σ H xs us Q I r h
  obtain ⟨z, rfl, hz, q⟩ := h
  obtain ⟨u, rfl, t, rfl⟩ := vals1 r
  have hn := line63
  exact len_str (by omega) ⟨.int z.length, H, I.tok _, ⟨_, rfl⟩, q⟩
theorem call_tuple_of : CallR X (.type "tuple") (fun xs H Q => ∃ p ys, xs = [.ref p] ∧ ((SqL X.K H p ys ∧ ∀ l, H l = none → Q (.ref l) (upd H l (.tup ys))) ∨ (SqT X.K H p ys ∧ Q (.ref p) H))) := by
  intro pins s σ H xs us Q I r h
  obtain ⟨p, ys, rfl, h⟩ := h
  obtain ⟨u, rfl, rx⟩ := vals1 r
  cases rx
  rcases h with ⟨hq, q⟩ | ⟨hq, q⟩
  · obtain ⟨its, r', pl, hz⟩ := I.list hq
    have hlen := r'.length
    refine call_tuple_list pl.isList (fun h' kp => ?_) (by simp only [List.size_toArray] <;> omega)
    have I1 : Inv X pins σ H { s with heap := h' } := I.kept (t' := s.toks) kp
    have I2 : Inv X pins σ (upd H h'.objs.size (.tup ys)) { s with heap := h'.push { cls := .type "tuple", data := .seq its.toArray } } :=
      I1.laid (t' := s.toks) (fun b o e => Heap.get?_push_of_some _ e) (Nat.le_refl _) (show ObjOk X.prog X.w _ _ _ (.tup ys) from ⟨hz, its, r', IsTup.new _ _⟩)
    exact ⟨.ref h'.objs.size, _, I2, rfl, q _ (I1.hok.fresh (Nat.le_refl _))⟩
  · obtain ⟨its, r', pl, hz⟩ := I.tuple hq
    exact call_tuple_same pl ⟨.ref p, H, I, rfl, q⟩

/-! ### the call of a builtin's method: o.m(..) -/
/-- the value is of that builtin type -/
def tyV (K : PySem.W.Frag) (T : String) (x : V) (H : Hp) : Prop := match x with
  | .str _ => T = "str"
  | .int _ => T = "int"
  | .ref p => (T = "list" ∧ ∃ xs, SqL K H p xs) ∨ (T = "tuple" ∧ ∃ o, K.lookup p = some o ∧ o.cls = .type "tuple" ∧ o.dict = none) ∨
      (T = "dict" ∧ ((∃ kvs, H p = some (.dK kvs)) ∨ ∃ kvs, H p = some (.dT kvs))) ∨ (T = "set" ∧ ∃ S n, H p = some (.set S n))
  | _ => False
theorem tyV_is {pins : List (Addr × Obj)} {σ : St} {H : Hp} {s : Shared} {T : String} {x : V} {v : Value} (I : Inv X pins σ H s) (r : RelV x v) (ty : tyV X.K T x H) :
    s.TypeIs v T ∧ ∀ a, v = .ref a → ∃ ob, s.heap.get? a = some ob ∧ ob.dict = none := by
  cases x with
  | str z =>
    obtain ⟨t, rfl⟩ := r
    cases (show T = "str" from ty)
    exact ⟨typeIs_str s z t, fun _ e => nomatch e⟩
  | int i =>
    obtain ⟨t, rfl⟩ := r
    cases (show T = "int" from ty)
    exact ⟨typeIs_int s i t, fun _ e => nomatch e⟩
  | ref p =>
    cases r
    rcases ty with ⟨rfl, xs, hq⟩ | ⟨rfl, o, hk, hc, hd⟩ | ⟨rfl, hk⟩ | ⟨rfl, S, n, hk⟩
    · obtain ⟨its, _, pl, _⟩ := I.list hq
      refine ⟨pl.isList.typeIs, fun a e => ?_⟩
      cases e
      obtain ⟨o, n, e, c, hd, _⟩ := pl
      exact ⟨o, e, hd⟩
    · refine ⟨⟨o, I.kIn p o hk, hc⟩, fun a e => ?_⟩
      cases e
      exact ⟨o, I.kIn _ o hk, hd⟩
    · have z : ∃ o, s.heap.get? p = some o ∧ o.ExactDict := by
        rcases hk with ⟨kvs, hk⟩ | ⟨kvs, hk⟩
        · obtain ⟨_, _, _, _, o, _, _, e, ex, _⟩ := I.hok p _ hk
          exact ⟨o, e, ex⟩
        · obtain ⟨_, _, _, _, o, _, _, e, ex, _⟩ := I.hok p _ hk
          exact ⟨o, e, ex⟩
      obtain ⟨o, e, ex⟩ := z
      refine ⟨⟨o, e, ex.1⟩, fun a e2 => ?_⟩
      cases e2
      exact ⟨o, e, ex.2.1⟩
    · obtain ⟨o, _, _, _, e, ex, _⟩ := I.hok p _ hk
      refine ⟨⟨o, e, ex.1⟩, fun a e2 => ?_⟩
      cases e2
      exact ⟨o, e, ex.2.1⟩
  | _ => exact False.elim ty
def tBM0 (K : PySem.W.Frag) (T : String) (r : V → List V → Hp → VK → Prop) (to : TE) : TE := fun σ H Q => to σ H fun x H1 => tyV K T x H1 ∧ r x [] H1 Q
def tBM (K : PySem.W.Frag) (T : String) (r : V → List V → Hp → VK → Prop) (to : TE) (t : TA) : TE := fun σ H Q => to σ H fun x H1 => tyV K T x H1 ∧ t σ H1 fun xs H2 => r x xs H2 Q
variable {o e : Expr} {es : List Expr} {to : TE} {t : TA} {name : Str} {apos cpos : Pos} {T id : String} {r : V → List V → Hp → VK → Prop}
theorem pe_bm0 (pa : PlainAttrs T) (slot : Slot T name id) (hty : typeOf (.builtin id) = pure (.type "method_descriptor")) (hm : MtR X id r) (ho : PE X o to)
    (hbase : attributeBase o name X.env (eval o X.env) = eval o X.env := by rfl) (hline : (apos.endLine == cpos.line) = true := by rfl) : PE X (.Call (.Attribute o name apos) [] [] cpos) (tBM0 X.K T r to) := by
  intro pins s σ H Q I h
  refine wpAny_Call_method0_late hbase hline (thn (ho pins s σ H _ I h) fun v s1 ⟨x, H1, I1, r1, ty, q1⟩ => ?_)
  obtain ⟨h1, h2⟩ := tyV_is I1 r1 ty
  exact ⟨T, id, pa, slot, hty, h1, h2, Calls.callWith_builtin rfl (PySem.evalArgs_none (hm pins s1 σ H1 x [] v [] Q I1 r1 .nil q1))⟩
theorem pe_bm (pa : PlainAttrs T) (slot : Slot T name id) (hty : typeOf (.builtin id) = pure (.type "method_descriptor")) (hm : MtR X id r) (ho : PE X o to) (ha : PA X (e :: es) t)
    (hbase : attributeBase o name X.env (eval o X.env) = eval o X.env := by rfl)
    (hfew : ((backTo cpos (starEach (e :: es) X.env)).all (fun x => !x.1) && (backToKw cpos (keywordEach [] X.env)).all (fun x => x.1.isSome)
      && decide ((e :: es).length + ([] : List Keyword).length + (if ([] : List Keyword).isEmpty then 0 else 1) < 30)) = true := by rfl)
    (hline : (apos.endLine == cpos.line) = true := by rfl) (hs : starEach (e :: es) X.env = (false, eval e X.env) :: starEach es X.env := by rfl) (hplain : (backTo cpos (starEach es X.env)).any (·.1) = false := by rfl) :
    PE X (.Call (.Attribute o name apos) (e :: es) [] cpos) (tBM X.K T r to t) := by
  intro pins s σ H Q I h
  refine wpAny_Call_method_late hbase hfew hline rfl (thn (ho pins s σ H _ I h) fun v s1 ⟨x, H1, I1, r1, ty, q1⟩ => ?_)
  obtain ⟨h1, h2⟩ := tyV_is I1 r1 ty
  refine ⟨T, id, pa, slot, hty, h1, h2, ?_⟩
  have hA := ha cpos pins s1 σ H1 _ I1 q1
  rw [hs] at hA ⊢
  refine Calls.callWith_builtin (by show (false || (backTo cpos (starEach es X.env)).any (·.1)) = false; rw [hplain] <;> rfl) (Calls.evalArgs_plain ?_)
  exact thn hA fun us s2 ⟨vs, H2, I2, r2, q2⟩ => hm pins s2 σ H2 x vs v us Q I2 r1 r2 q2
/- xs.append(e), list.index on a module's tuple .. are MtR facts of 06m -/
end
end L2

namespace L2
open PySem PySem.Spec PyProof.Rows

def MtM (X : Cx) (id : String) (r : V → List V → Hp → VK → Prop) : Prop :=
  ∀ (pins : List (Addr × Obj)) (s : Shared) (σ : St) (H : Hp) (x : V) (xs : List V) (v : Value) (us : List Value) (Q : VK), Inv X pins σ H s → RelV x v → Vals xs us → r x xs H Q →
    wpAny (model X.prog X.w) X.A (call (.builtin id) (v :: us)) (EP X pins σ Q) X.xe s

/-! ### lists of values -/
theorem Vals.one : ∀ {x : V} {us : List Value}, Vals [x] us → ∃ u, us = [u] ∧ RelV x u
  | _, _, .cons r .nil => ⟨_, rfl, r⟩
theorem Vals.zero : ∀ {us : List Value}, Vals [] us → us = []
  | _, .nil => rfl
theorem Vals.dropLast {xs : List V} {us : List Value} (h : Vals xs us) : Vals xs.dropLast us.dropLast := by
  induction h with
  | nil => exact .nil
  | cons r t ih =>
    cases t with
    | nil => exact .nil
    | cons q t' => exact .cons r ih
theorem erase_last {α : Type} (l : List α) : l.eraseIdx (l.length - 1) = l.dropLast := by
  induction l with
  | nil => rfl
  | cons a r ih =>
    cases r with
    | nil => rfl
    | cons b r =>
      have e : (a :: b :: r).length - 1 = ((b :: r).length - 1) + 1 := by
        have h1 : (a :: b :: r).length = r.length + 2 := rfl
        have h2 : (b :: r).length = r.length + 1 := rfl
        omega
      rw [e, List.eraseIdx_cons_succ, ih]
      all_goals rfl
section
variable {X : Cx} {pins : List (Addr × Obj)} {σ : St} {H : Hp} {s : Shared} {l b : Addr} {xs ys zs : List V}

/-! ### the two steps: a tracked list is rewritten, a new list is laid -/
theorem Inv.lset {its its' : List Value} {n : Nat} {f : Array Value → Array Value} {t' : Nat} (I : Inv X pins σ H s) (hH : H l = some (.lst xs))
    (e : s.heap.get? l = some { cls := .type "list", data := .seq its.toArray n }) (hf : f its.toArray = its'.toArray) (hv : Vals ys its') (hz : ys.length ≤ sizeLine) :
    Inv X pins σ (upd H l (.lst ys)) { s with heap := s.heap.update l (Obj.mapSeq f), toks := t' } := by
  have q := PySem.IsL.update e f
  rw [hf] at q
  refine I.write (x := l) (e := l) (by rw [hH]; exact trivial) (.inl rfl) (fun b' u hb hu => (Heap.get?_update_other s.heap (Obj.mapSeq f) (Ne.symm hb)).trans hu) ⟨_, q⟩ ?_
  exact ⟨hz, its', _, hv, q⟩
theorem Inv.lnew {its : List Value} {t' : Nat} (I : Inv X pins σ H s) (hv : Vals ys its) (hz : ys.length ≤ sizeLine) :
    Inv X pins σ (upd H s.heap.objs.size (.lst ys)) { s with heap := s.heap.push { cls := .type "list", data := .seq its.toArray }, toks := t' } :=
  I.laid (fun _ _ q => Heap.get?_push_of_some _ q) (Nat.le_refl _) ⟨hz, its, 0, hv, Heap.get?_push_size _ rfl⟩
theorem Inv.fresh (I : Inv X pins σ H s) : H s.heap.objs.size = none := I.hok.fresh (Nat.le_refl _)
theorem Inv.lstM (I : Inv X pins σ H s) (hH : H l = some (.lst xs)) : xs.length ≤ sizeLine ∧ ∃ (its : List Value) (n : Nat), Vals xs its ∧ xs.length = its.length ∧ s.heap.get? l = some { cls := .type "list", data := .seq its.toArray n } := by
  obtain ⟨z, its, n, r, e⟩ := I.hok l _ hH
  exact ⟨z, its, n, r, r.length, e⟩

theorem notLongL {n : Nat} (h : n ≤ sizeLine) : Builtin.List.listTooLong n = false := by
  unfold Builtin.List.listTooLong
  exact decide_eq_false (by omega)
end

section
variable {X : Cx}

/-! ### methods -/
def rAppend : V → List V → Hp → VK → Prop := fun x vs H Q => ∃ l xs y, x = .ref l ∧ vs = [y] ∧ H l = some (.lst xs) ∧ xs.length < sizeLine ∧ Q .non (upd H l (.lst (xs ++ [y])))
theorem mt_append : MtM X "list.append" rAppend := by
  intro pins s σ H x vs v us Q I rx rv h
  obtain ⟨l, xs, y, rfl, rfl, hH, hz, q⟩ := h
  cases rx
  obtain ⟨u, rfl, ru⟩ := rv.one
  obtain ⟨z, its, n, r, hl, e⟩ := I.lstM hH
  refine call_meets F.slot_list_append ⟨_, e, rfl⟩ F.entry_list_append (F.args_list_append_2 _ _) (PySem.list_append l its.toArray n u (by rw [List.size_toArray]; omega)) ⟨e, ?_⟩
  refine ⟨.non, _, I.lset (its' := its ++ [u]) hH e (by simp) (r.append (.cons ru .nil)) ?_, rfl, q⟩
  rw [List.length_append, List.length_singleton]
  omega

def rExtend : V → List V → Hp → VK → Prop := fun x vs H Q => ∃ l b xs zs, x = .ref l ∧ vs = [.ref b] ∧ H l = some (.lst xs) ∧ H b = some (.lst zs) ∧ xs.length + zs.length ≤ sizeLine ∧ Q .non (upd H l (.lst (xs ++ zs)))
theorem mt_extend : MtM X "list.extend" rExtend := by
  intro pins s σ H x vs v us Q I rx rv h
  obtain ⟨l, b, xs, zs, rfl, rfl, hH, hB, hz, q⟩ := h
  cases rx
  obtain ⟨u, rfl, ru⟩ := rv.one
  cases ru
  obtain ⟨z, its, n, r, hl, e⟩ := I.lstM hH
  obtain ⟨z2, its2, n2, r2, hl2, e2⟩ := I.lstM hB
  have hsz : its.toArray.size + its2.toArray.size ≤ sizeLine := by rw [List.size_toArray, List.size_toArray]; omega
  have hlong : ¬ (!its.toArray.isEmpty && Builtin.List.listTooLong (its.toArray.size + its2.toArray.size)) = true := by
    rw [notLongL hsz, Bool.and_false]
    exact Bool.false_ne_true
  refine call_meets F.slot_list_extend ⟨_, e, rfl⟩ F.entry_list_extend (F.args_list_extend_2 _ _)
    (AutoSeq1.list_extend_list_list_0 l its.toArray n b its2.toArray n2 hlong (by rw [List.size_toArray]; omega) (by omega)) ⟨e, e2, ?_⟩
  refine ⟨.non, _, I.lset (its' := its ++ its2) hH e (by simp) (r.append r2) ?_, rfl, q⟩
  rw [List.length_append]
  omega

def rPop : V → List V → Hp → VK → Prop := fun x vs H Q => ∃ l xs y, x = .ref l ∧ vs = [] ∧ H l = some (.lst xs) ∧ xs[xs.length - 1]? = some y ∧ Q y (upd H l (.lst xs.dropLast))
theorem mt_pop : MtM X "list.pop" rPop := by
  intro pins s σ H x vs v us Q I rx rv h
  obtain ⟨l, xs, y, rfl, rfl, hH, hy, q⟩ := h
  cases rx
  have hus := rv.zero
  subst hus
  obtain ⟨z, its, n, r, hl, e⟩ := I.lstM hH
  obtain ⟨u, hu, ru⟩ := r.get hy
  have hy' : its.toArray[its.toArray.size - 1]? = some u := by
    show its.toArray[its.length - 1]? = some u
    rw [← Array.getElem?_toList, ← hl]
    exact hu
  refine call_meets F.slot_list_pop ⟨_, e, rfl⟩ F.entry_list_pop (F.args_list_pop_1 _) (MeetsSeq.list_pop_last l its.toArray n u hy' (by rw [List.size_toArray]; omega)) ⟨e, ?_⟩
  refine ⟨y, _, I.lset (its' := its.dropLast) hH e ?_ r.dropLast ?_, ru, q⟩
  · show its.toArray.eraseIdxIfInBounds (its.toArray.size - 1) = its.dropLast.toArray
    rw [List.size_toArray, List.eraseIdxIfInBounds_toArray, erase_last]
  · rw [List.length_dropLast]
    omega

def rClear : V → List V → Hp → VK → Prop := fun x vs H Q => ∃ l xs, x = .ref l ∧ vs = [] ∧ H l = some (.lst xs) ∧ Q .non (upd H l (.lst []))
theorem mt_clear : MtM X "list.clear" rClear := by
  intro pins s σ H x vs v us Q I rx rv h
  obtain ⟨l, xs, rfl, rfl, hH, q⟩ := h
  cases rx
  have hus := rv.zero
  subst hus
  obtain ⟨z, its, n, r, hl, e⟩ := I.lstM hH
  refine call_meets F.slot_list_clear ⟨_, e, rfl⟩ F.entry_list_clear (F.args_list_clear_1 _) (AutoSeq1.list_clear_list_0 l its.toArray n (by rw [List.size_toArray]; omega)) ⟨e, ?_⟩
  exact ⟨.non, _, I.lset (its' := []) (ys := []) hH e rfl .nil (Nat.zero_le _), rfl, q⟩

/-! ### list + list, list += list, list * int -/
def rCat : R2 := fun x y H Q => ∃ l b xs zs, x = .ref l ∧ y = .ref b ∧ H l = some (.lst xs) ∧ H b = some (.lst zs) ∧ xs.length + zs.length ≤ sizeLine ∧ ∀ p, H p = none → Q (.ref p) (upd H p (.lst (xs ++ zs)))
theorem op_cat : OpR X (binaryOp .Add) rCat := by
  intro pins s σ H x y v u Q I rx ry h
  obtain ⟨l, b, xs, zs, rfl, rfl, hH, hB, hz, q⟩ := h
  cases rx
  cases ry
  obtain ⟨z, its, n, r, hl, e⟩ := I.lstM hH
  obtain ⟨z2, its2, n2, r2, hl2, e2⟩ := I.lstM hB
  refine PySem.P.add_list e e2 ?_ (by rw [List.size_toArray, List.size_toArray]; omega)
  have ea : its.toArray ++ its2.toArray = (its ++ its2).toArray := by simp
  rw [ea]
  exact ⟨.ref _, _, I.lnew (t' := s.toks) (r.append r2) (by rw [List.length_append]; omega), rfl, q _ I.fresh⟩
/-! ### del xs[i] -/
end

/-! ### xs[a:b] = ys -/
section
variable {prog : Program} {w : World} {A : Around} {E : Value → Shared → Prop} {s : Shared}
set_option maxRecDepth 100000 in
end

section
variable {X : Cx}
end
end L2

namespace L2
open PySem PySem.Spec PyProof.Rows

/-! ### lists of pairs as tables -/
section
variable {κ : Type} [DecidableEq κ]
def valV (kvs : List (κ × V)) (k : κ) : Option V := (kvs.find? fun kv => decide (kv.1 = k)).map (·.2)
/-- in its place, or at the end -/
def putK (kvs : List (κ × V)) (k : κ) (v : V) : List (κ × V) :=
  if (kvs.any fun kv => decide (kv.1 = k)) = true then kvs.map (fun kv => if kv.1 = k then (kv.1, v) else kv) else kvs ++ [(k, v)]
theorem valV_pos {p : κ × V} {r : List (κ × V)} {k : κ} (e : p.1 = k) : valV (p :: r) k = some p.2 := by simp [valV, List.find?_cons, e]
theorem valV_neg {p : κ × V} {r : List (κ × V)} {k : κ} (e : ¬ p.1 = k) : valV (p :: r) k = valV r k := by simp [valV, List.find?_cons, e]
theorem valV_any (k : κ) : ∀ kvs : List (κ × V), (kvs.any fun kv => decide (kv.1 = k)) = (valV kvs k).isSome
  | [] => rfl
  | p :: r => by
    rw [List.any_cons]
    by_cases e : p.1 = k
    · simp only [valV_pos e, decide_eq_true e, Bool.true_or, Option.isSome_some]
    · rw [valV_neg e, decide_eq_false e, Bool.false_or]; exact valV_any k r
theorem length_putK (kvs : List (κ × V)) (k : κ) (v : V) : (putK kvs k v).length ≤ kvs.length + 1 := by
  unfold putK
  split
  · rw [List.length_map]; omega
  · rw [List.length_append, List.length_cons, List.length_nil]; omega
theorem putK_new {kvs : List (κ × V)} {k : κ} (v : V) (h : valV kvs k = none) : putK kvs k v = kvs ++ [(k, v)] := by
  unfold putK
  rw [valV_any, h]
  exact if_neg (by decide)

theorem RelO.isSome_eq {o : Option V} {u : Option Value} (r : RelO o u) : o.isSome = u.isSome := by
  cases o with
  | none => cases u with
    | none => rfl
    | some _ => exact (show False from r).elim
  | some _ => cases u with
    | none => exact (show False from r).elim
    | some _ => rfl
/-- raw tables of the same keys -/
theorem KV.val {kvs : List (κ × V)} {vs : List (κ × Value)} (r : KV kvs vs) (k : κ) : RelO (valV kvs k) (valueAt vs k) := by
  unfold KV at r
  induction r with
  | nil => exact True.intro
  | @cons p q ps qs h t ih =>
    obtain ⟨h1, h2⟩ := h
    by_cases e : p.1 = k
    · have e' : q.1 = k := h1.symm.trans e
      have b : valueAt (q :: qs) k = some q.2 := by simp [valueAt, List.find?_cons, e']
      rw [valV_pos e, b]; exact h2
    · have e' : ¬ q.1 = k := fun z => e (h1.trans z)
      have b : valueAt (q :: qs) k = valueAt qs k := by simp [valueAt, List.find?_cons, e']
      rw [valV_neg e, b]; exact ih
theorem KV.any {kvs : List (κ × V)} {vs : List (κ × Value)} (r : KV kvs vs) (k : κ) : (kvs.any fun kv => decide (kv.1 = k)) = vs.any fun kv => decide (kv.1 = k) := by
  unfold KV at r
  induction r with
  | nil => rfl
  | cons h t ih => rw [List.any_cons, List.any_cons, ih, h.1]
theorem KV.repl {kvs : List (κ × V)} {vs : List (κ × Value)} (r : KV kvs vs) (k : κ) {y : V} {u : Value} (ry : RelV y u) :
    KV (kvs.map fun kv => if kv.1 = k then (kv.1, y) else kv) (vs.map fun kv => if kv.1 = k then (kv.1, u) else kv) := by
  unfold KV at r ⊢
  induction r with
  | nil => exact .nil
  | @cons p q ps qs h t ih =>
    rw [List.map_cons, List.map_cons]
    refine .cons ?_ ih
    obtain ⟨h1, h2⟩ := h
    by_cases e : p.1 = k
    · rw [if_pos e, if_pos (h1.symm.trans e)]; exact ⟨h1, ry⟩
    · rw [if_neg e, if_neg (fun z => e (h1.trans z))]; exact ⟨h1, h2⟩
theorem KV.put {kvs : List (κ × V)} {vs : List (κ × Value)} (r : KV kvs vs) (k : κ) {y : V} {u : Value} (ry : RelV y u) : KV (putK kvs k y) (stored vs k u) := by
  unfold putK stored
  rw [r.any k]
  by_cases e : (vs.any fun kv => decide (kv.1 = k)) = true
  · rw [if_pos e, if_pos e]; exact r.repl k ry
  · rw [if_neg e, if_neg e]; exact Paired.snoc r ⟨rfl, ry⟩
theorem KV.length {kvs : List (κ × V)} {vs : List (κ × Value)} (r : KV kvs vs) : kvs.length = vs.length := Paired.length r
end

/-! ### a tracked dict, its keys ints and texts or tuples of these -/
theorem kV_is {P : Program} {w : World} {k : Key} {u : Value} (r : RelV (kV k) u) : (mixKind P w).is k u = true := by
  cases k with
  | inl i => obtain ⟨t, e⟩ := (show ∃ t, u = Value.int i t from r); subst e; exact mixKind_int P w i t
  | inr x => obtain ⟨t, e⟩ := (show ∃ t, u = Value.str x t from r); subst e; exact mixKind_str P w x t
theorem items_are {P : Program} {w : World} : ∀ {ks : List Key} {us : List Value}, Vals (ks.map kV) us → ItemsAre (mixKind P w) ks us
  | [], _, r => by rw [List.map_nil] at r; cases r; exact .nil
  | k :: ks, _, r => by
    rw [List.map_cons] at r
    cases r with
    | cons h t => exact .cons (kV_is h) (items_are t)

/-- raw entries of a dict with tuple keys -/
abbrev KT (H : Hp) : List (List Key × V) → List (List Key × Addr × Value) → Prop := Paired fun p q => p.1 = q.1 ∧ H q.2.1 = some (.tup (p.1.map kV)) ∧ RelV p.2 q.2.2
theorem KT.val {H : Hp} {kvs : List (List Key × V)} {xs : List (List Key × Addr × Value)} (r : KT H kvs xs) (k : List Key) : RelO (valV kvs k) ((atKey xs k).map (·.2)) := by
  induction r with
  | nil => exact True.intro
  | @cons p q ps qs h t ih =>
    obtain ⟨h1, _, h2⟩ := h
    by_cases e : p.1 = k
    · have e' : q.1 = k := h1.symm.trans e
      have b : atKey (q :: qs) k = some q.2 := by simp [atKey, List.find?_cons, e']
      rw [valV_pos e, b]; exact h2
    · have e' : ¬ q.1 = k := fun z => e (h1.trans z)
      have b : atKey (q :: qs) k = atKey qs k := by simp [atKey, List.find?_cons, e']
      rw [valV_neg e, b]; exact ih
theorem KT.repl {H : Hp} {kvs : List (List Key × V)} {xs : List (List Key × Addr × Value)} (r : KT H kvs xs) (k : List Key) {y : V} {u : Value} (ry : RelV y u) :
    KT H (kvs.map fun kv => if kv.1 = k then (kv.1, y) else kv) (xs.map (putAt k u)) := by
  induction r with
  | nil => exact .nil
  | @cons p q ps qs h t ih =>
    rw [List.map_cons, List.map_cons]
    refine .cons ?_ ih
    obtain ⟨h1, h2, h3⟩ := h
    unfold putAt
    by_cases e : p.1 = k
    · rw [if_pos e, if_pos (h1.symm.trans e)]; exact ⟨h1, h2, ry⟩
    · rw [if_neg e, if_neg (fun z => e (h1.trans z))]; exact ⟨h1, h2, h3⟩
theorem KT.put {H : Hp} {kvs : List (List Key × V)} {xs : List (List Key × Addr × Value)} (r : KT H kvs xs) (k : List Key) {b : Addr} {y : V} {u : Value} (hb : H b = some (.tup (k.map kV))) (ry : RelV y u) :
    KT H (putK kvs k y) (storedH xs k b u) := by
  have e : (kvs.any fun kv => decide (kv.1 = k)) = (atKey xs k).isSome := by
    rw [valV_any, (r.val k).isSome_eq, Option.isSome_map]
  unfold putK storedH
  rw [e]
  by_cases q : (atKey xs k).isSome = true
  · rw [if_pos q, if_pos q]; exact r.repl k ry
  · rw [if_neg q, if_neg q]; exact Paired.snoc r ⟨rfl, hb, ry⟩
theorem KT.keeps {H H' : Hp} {kvs : List (List Key × V)} {xs : List (List Key × Addr × Value)} (r : KT H kvs xs) (ht : ∀ b ys, H b = some (.tup ys) → H' b = some (.tup ys)) : KT H' kvs xs :=
  Paired.mapP r fun _ _ z => ⟨z.1, ht _ _ z.2.1, z.2.2⟩

section
variable {P : Program} {w : World} {H : Hp} {h : Heap} {a : Addr}
theorem rd_of {u : HO} (ok : HOk P w H h) (e : Rd H a u) : ObjOk P w H h a u := e.ok ok
theorem dk_rd {kvs : List (Key × V)} (ok : HOk P w H h) (e : Rd H a (.dK kvs)) : kvs.length ≤ sizeLine ∧ (a == sysModules) = false ∧ ∃ vs, KV kvs vs ∧ h.DictOf (mixKind P w) a vs :=
  show ObjOk P w H h a (.dK kvs) from rd_of ok e
theorem dk_of {kvs : List (Key × V)} (ok : HOk P w H h) (e : H a = some (.dK kvs)) : kvs.length ≤ sizeLine ∧ (a == sysModules) = false ∧ ∃ vs, KV kvs vs ∧ h.DictOf (mixKind P w) a vs := dk_rd ok (.inl e)
/-- a tracked tuple of ints and texts is a key -/
theorem key_of {ks : List Key} (ok : HOk P w H h) (e : H a = some (.tup (ks.map kV))) : (tupleKind (mixKind P w)).is h ks a := by
  obtain ⟨_, its, r, o, h1, h2, n, h3⟩ := (show ObjOk P w H h a (.tup (ks.map kV)) from ok a _ e)
  exact ⟨o, its.toArray, n, h1, h2, h3, by simpa using items_are r⟩
theorem dt_rd {kvs : List (List Key × V)} (ok : HOk P w H h) (e : Rd H a (.dT kvs)) : kvs.length ≤ sizeLine ∧ (a == sysModules) = false ∧
    ∃ xs, KT H kvs xs ∧ h.DictOfH (tupleKind (mixKind P w)) a xs := by
  obtain ⟨z, y, xs, r, o, es, ep, h1, h2, h3, h4, h5⟩ := (show ObjOk P w H h a (.dT kvs) from rd_of ok e)
  refine ⟨z, y, xs, r, o, es, ep, h1, h2, h3, h4, fun x hx => ?_, h5⟩
  have all : ∀ {l : List (List Key × V)} {m : List (List Key × Addr × Value)}, KT H l m → ∀ x ∈ m, (tupleKind (mixKind P w)).is h x.1 x.2.1 := by
    intro l m q
    induction q with
    | nil => intro x hx; exact nomatch hx
    | @cons p q ps qs hq t ih =>
      intro x hx
      rcases List.mem_cons.mp hx with e | hx
      · subst e
        exact key_of ok (by rw [← hq.1]; exact hq.2.1)
      · exact ih x hx
  exact all r x hx
theorem dt_of {kvs : List (List Key × V)} (ok : HOk P w H h) (e : H a = some (.dT kvs)) : kvs.length ≤ sizeLine ∧ (a == sysModules) = false ∧
    ∃ xs, KT H kvs xs ∧ h.DictOfH (tupleKind (mixKind P w)) a xs := dt_rd ok (.inl e)
end

/-- what the dict at a holds at the key y -/
def DGet (H : Hp) (a : Addr) (y : V) (r : Option V) : Prop :=
  (∃ kvs k, Rd H a (.dK kvs) ∧ y = kV k ∧ r = valV kvs k) ∨ ∃ kvs k b, Rd H a (.dT kvs) ∧ y = .ref b ∧ H b = some (.tup (k.map kV)) ∧ r = valV kvs k
/-- the heap behind a[y] = v -/
def DPut (H : Hp) (a : Addr) (y v : V) (H' : Hp) : Prop :=
  (∃ kvs k, H a = some (.dK kvs) ∧ y = kV k ∧ kvs.length < sizeLine ∧ H' = upd H a (.dK (putK kvs k v))) ∨
  ∃ kvs k b, H a = some (.dT kvs) ∧ y = .ref b ∧ H b = some (.tup (k.map kV)) ∧ kvs.length < sizeLine ∧ H' = upd H a (.dT (putK kvs k v))
section
variable {X : Cx} {pins : List (Addr × Obj)} {σ : St} {H : Hp} {s : Shared} {a : Addr} {y v : V} {u r : Value} {o : Option V} {A : Around} {E : Value → Shared → Prop}

theorem Inv.big (I : Inv X pins σ H s) : sysModules < s.heap.objs.size := by
  have h : mainGlobals < s.heap.objs.size := (I.mod.glob.keeps I.bk).lt
  exact Nat.lt_trans (by decide) h

/-- d[y], there -/
theorem d_getItem {Q : Value → Shared → Prop} (hu : A.units + 1 < cLine) (I : Inv X pins σ H s) (g : DGet H a y (some v)) (ry : RelV y u) (h : ∀ w' s', Inv X pins σ H s' → RelV v w' → Q w' s') :
    wpAny (model X.prog X.w) A (getItem (.ref a) u) Q E s := by
  rcases g with ⟨kvs, k, e, ey, l⟩ | ⟨kvs, k, b, e, ey, eb, l⟩
  · subst ey
    obtain ⟨z, hd, vs, rel, dd⟩ := dk_rd I.hok e
    obtain ⟨w', hw, rw'⟩ := RelO.some_of (v := v) (o := valueAt vs k) (by rw [l]; exact rel.val k)
    exact wpAny_getItem_of (kV_is ry) dd.mapOf hw (h w' _ (I.tok _) rw')
  · subst ey
    cases (show u = Value.ref b from ry)
    obtain ⟨z, hd, xs, rel, dd⟩ := dt_rd I.hok e
    obtain ⟨w', hw, rw'⟩ := RelO.some_of (v := v) (o := (atKey xs k).map (·.2)) (by rw [l]; exact rel.val k)
    obtain ⟨p, hp, hp2⟩ := Option.map_eq_some_iff.mp hw
    refine wpAny_getItem_heap (tupleKind_room_in1 hu) (key_of I.hok eb) dd hp ?_
    rw [hp2]
    exact h w' _ (I.tok _) rw'
/-- a dict's object is replaced -/
theorem d_write {h' : Heap} {t' : Nat} {ob : HO} (I : Inv X pins σ H s) (mu : Mut (H a)) (hs : Heap.SameBut a s.heap h') (he : ∃ q, h'.get? a = some q) (new : ObjOk X.prog X.w (upd H a ob) h' a ob) :
    Inv X pins σ (upd H a ob) { s with heap := h', toks := t' } :=
  I.write (x := a) (e := a) mu (.inl rfl) (fun b q hb z => (hs.2 b hb).trans z) he new
theorem dk_new {P : Program} {w : World} {H' : Hp} {h' : Heap} {kvs : List (Key × V)} {vs : List (Key × Value)} (z : kvs.length ≤ sizeLine) (hd : (a == sysModules) = false) (rel : KV kvs vs) (dd : h'.DictOf (mixKind P w) a vs) :
    ObjOk P w H' h' a (.dK kvs) := ⟨z, hd, vs, rel, dd⟩
/-- d[y] = v -/
theorem d_setItem {H' : Hp} {Q : Unit → Shared → Prop} (hu : A.units + 1 < cLine) (I : Inv X pins σ H s) (g : DPut H a y v H') (ry : RelV y u) (rv : RelV v r) (h : ∀ s', Inv X pins σ H' s' → Q () s') :
    wpAny (model X.prog X.w) A (setItem (.ref a) u r) Q E s := by
  rcases g with ⟨kvs, k, e, ey, l, eH⟩ | ⟨kvs, k, b, e, ey, eb, l, eH⟩
  · subst ey eH
    obtain ⟨z, hd, vs, rel, dd⟩ := dk_of I.hok e
    have hz : vs.length ≤ sizeLine := by rw [← rel.length]; exact z
    have hl : (putK kvs k v).length ≤ sizeLine := by have := length_putK kvs k v; omega
    refine wpAny_setItem_pairs (hsz := hz) (kV_is ry) dd fun h' dd' hs => h _ ?_
    have he : ∃ q, h'.get? a = some q := let ⟨q, _, _, hq, _⟩ := dd'; ⟨q, hq⟩
    exact d_write I (by rw [e]; exact True.intro) hs he (dk_new hl hd (rel.put k rv) dd')
  · subst ey eH
    cases (show u = Value.ref b from ry)
    obtain ⟨z, hd, xs, rel, dd⟩ := dt_of I.hok e
    have hz : xs.length ≤ sizeLine := by rw [← Paired.length rel]; exact z
    have hl : (putK kvs k v).length ≤ sizeLine := by have := length_putK kvs k v; omega
    refine wpAny_setItem_heap (hsz := hz) (tupleKind_room_in1 hu) (key_of I.hok eb) dd fun h' dd' hs => h _ ?_
    obtain ⟨q, es, ep, hq, h2, h3, h4, _, h5⟩ := dd'
    refine d_write I (by rw [e]; exact True.intro) hs ⟨q, hq⟩ ⟨hl, hd, _, (rel.put k eb rv).keeps fun c ys ec => ?_, q, es, ep, hq, h2, h3, h4, h5⟩
    rw [upd_ne (ne_of ec e (fun z => nomatch z))]
    exact ec
end

section
variable {X : Cx} {pins : List (Addr × Obj)} {σ : St} {H : Hp} {s : Shared} {a : Addr} {kvs : List (Key × V)} {k : Key} {u : Value} {A : Around} {E : Value → Shared → Prop}
/-- d.clear() -/
theorem d_clear {Q : Value → Shared → Prop} (I : Inv X pins σ H s) (e : H a = some (.dK kvs)) (h : ∀ s', Inv X pins σ (upd H a (.dK [])) s' → Q .none s') : wpAny (model X.prog X.w) A (call (.builtin "dict.clear") [.ref a]) Q E s := by
  obtain ⟨z, hd, vs, rel, dd⟩ := dk_of I.hok e
  refine call_meetsIn PySem.F.slot_dict_clear dd.typeIs PySem.F.entry_dict_clear (PySem.F.args_dict_clear_1 _) (meets_dict_clear (mixKind X.prog X.w) a) ⟨vs, dd, by rw [← rel.length]; exact z, fun h' dd' hs => h _ ?_⟩
  have he : ∃ q, h'.get? a = some q := let ⟨q, _, _, hq, _⟩ := dd'; ⟨q, hq⟩
  exact d_write (t' := s.toks) I (by rw [e]; exact True.intro) hs he (dk_new (Nat.zero_le _) hd .nil dd')
end

/-! ### readings and rules -/
/-- the element of a subscription, not a slice -/
def NoSl (i : Expr) : Prop := ∀ ov iv, subscripted i false ov iv = operate [ov, iv] (getItem ov iv)
theorem subD_of {prog : Program} {w : World} {A : Around} {E : Value → Shared → Prop} {s : Shared} {env : Env} {value slice : Expr} {pos : Pos} {T id : String} {Q : Value → Shared → Prop}
    (hl : typeLookup (.type T) "__getitem__" = pure (some (.builtin id))) (hs : NoSl slice)
    (h : wpAny (model prog w) A (eval value env) (fun o s₁ => wpAny (model prog w) A (eval slice env) (fun i s₂ => s₂.TypeIs o T ∧ wpAny (model prog w) A (getItem o i) Q E s₂) E s₁) E s) :
    wpAny (model prog w) A (eval (.Subscript value slice pos) env) Q E s := by
  refine Subscript_ (wpAny_mono h (fun o s₁ h₁ => wpAny_mono h₁ (fun i s₂ h₂ => ?_) fun _ _ x => x) fun _ _ x => x)
  obtain ⟨hT, h₂⟩ := h₂
  unfold subscriptTail
  refine wpAny_bind ?_
  rw [getitemInPython_of_ne hT.not_modules]
  refine wpAny_bind (wpAny_specialOf hT hl ?_)
  have fin : wpAny (model prog w) A (subscripted slice false o i) (fun r s₃ => wpAny (model prog w) A (letTemporaryGo value o r >>= fun _ => pure r) Q E s₃) E s₂ := by
    rw [hs o i]
    exact wpAny_operating (wpAny_mono h₂ (fun r s₃ h₃ => wpAny_bind (wpAny_letTemporaryGo (wpAny_pure h₃))) fun _ _ x => x)
  first
    | exact wpAny_pure (wpAny_bind fin)
    | exact wpAny_bind (wpAny_pure (wpAny_bind fin))
    | exact wpAny_bind fin

theorem dict_typeIs {X : Cx} {pins : List (Addr × Obj)} {σ : St} {H : Hp} {s : Shared} {a : Addr} {y : V} {o : Option V} (I : Inv X pins σ H s) (g : DGet H a y o) : s.TypeIs (.ref a) "dict" := by
  rcases g with ⟨kvs, k, e, _, _⟩ | ⟨kvs, k, b, e, _, _, _⟩
  · obtain ⟨_, _, vs, _, dd⟩ := dk_rd I.hok e
    exact dd.typeIs
  · obtain ⟨_, _, xs, _, dd⟩ := dt_rd I.hok e
    exact dd.typeIs
/-- d[y] -/
def tDGet (td ty : TE) : TE := fun σ H Q => td σ H fun x H1 => ty σ H1 fun y H2 => ∃ a v, x = .ref a ∧ DGet H2 a y (some v) ∧ Q v H2
/-- d[y] = v -/
def sDPut (td ty tv : TE) : TS := fun D σ H => tv σ H fun v H1 => td σ H1 fun x H2 => ty σ H2 fun y H3 => ∃ a H4, x = .ref a ∧ DPut H3 a y v H4 ∧ D.nx σ H4
section
variable {X : Cx} {o i e value : Expr} {pos pos' tpos : Pos} {td ty tv : TE}
theorem pe_dget (hu : X.A.units + 1 < cLine) (ho : PE X o td) (hi : PE X i ty) (hs : NoSl i) : PE X (.Subscript o i pos) (tDGet td ty) := by
  intro pins s σ H Q I h
  refine subD_of PySem.F.slot_dict_getitem.lookup hs (thn (ho pins s σ H _ I h) fun u s1 ⟨x, H1, I1, rx, q1⟩ => thn (hi pins s1 σ H1 _ I1 q1) fun iv s2 ⟨y, H2, I2, ry, a, v, ex, g, q2⟩ => ?_)
  subst ex
  obtain rfl : u = Value.ref a := rx
  exact ⟨dict_typeIs I2 g, d_getItem hu I2 g ry fun w' s3 I3 rw' => ⟨v, H2, I3, rw', q2⟩⟩
theorem ps_dput (hu : X.A.units + 1 < cLine) (ho : PE X o td) (hi : PE X i ty) (hv : PE X value tv) (hs : swapsWith value (some (.Subscript o i pos')) pos.line X.env = pure false) :
    PS X (.Assign [.Subscript o i pos'] value pos) (sDPut td ty tv) := by
  intro pins s σ H D I h
  refine wpAny_Assign_Subscript (thn (hv pins s σ H _ I h) fun r s1 ⟨v, H1, I1, rv, q1⟩ => thn (ho pins s1 σ H1 _ I1 q1) fun u s2 ⟨x, H2, I2, rx, q2⟩ => thn (hi pins s2 σ H2 _ I2 q2) fun iv s3 ⟨y, H3, I3, ry, a, H4, ex, g, q3⟩ => ?_) hs
  subst ex
  obtain rfl : u = Value.ref a := rx
  exact d_setItem hu I3 g ry rv fun s4 I4 => ⟨σ, H4, I4, q3⟩
end

/-! ### displays -/
theorem dk_empty {P : Program} {w : World} {H : Hp} (h : Heap) (hb : sysModules < h.objs.size) : ObjOk P w H (h.push { cls := .type "dict", data := .dict #[] }) h.objs.size (.dK []) :=
  ⟨Nat.zero_le _, beq_eq_false_iff_ne.mpr (Ne.symm (Nat.ne_of_lt hb)), [], .nil, Heap.DictOf.new h⟩
theorem dt_empty {P : Program} {w : World} {H : Hp} (h : Heap) (hb : sysModules < h.objs.size) : ObjOk P w H (h.push { cls := .type "dict", data := .dict #[] }) h.objs.size (.dT []) :=
  ⟨Nat.zero_le _, beq_eq_false_iff_ne.mpr (Ne.symm (Nat.ne_of_lt hb)), [], .nil, _, #[], 0, Heap.get?_push_size _ rfl, ⟨rfl, rfl, rfl⟩, rfl, rfl, List.nodup_nil⟩
/-- {}, to be a dict of the kind that is wanted -/
def tDNewK : TE := fun _ H Q => ∀ p, H p = none → Q (.ref p) (upd H p (.dK []))
def tDNewT : TE := fun _ H Q => ∀ p, H p = none → Q (.ref p) (upd H p (.dT []))
section
variable {X : Cx} {pos : Pos}
theorem pe_dnewK : PE X (.Dict [] [] pos) tDNewK := fun pins s σ H Q I h =>
  wpAny_Dict_empty ⟨.ref s.heap.objs.size, _, I.laid (a := s.heap.objs.size) (o := .dK []) (t' := s.toks) (fun _ _ q => Heap.get?_push_of_some _ q) (Nat.le_refl _) (dk_empty s.heap I.big), rfl, h _ (I.hok.fresh (Nat.le_refl _))⟩
theorem pe_dnewT : PE X (.Dict [] [] pos) tDNewT := fun pins s σ H Q I h =>
  wpAny_Dict_empty ⟨.ref s.heap.objs.size, _, I.laid (a := s.heap.objs.size) (o := .dT []) (t' := s.toks) (fun _ _ q => Heap.get?_push_of_some _ q) (Nat.le_refl _) (dt_empty s.heap I.big), rfl, h _ (I.hok.fresh (Nat.le_refl _))⟩
end

/-! ### methods -/
section
variable {X : Cx} {pins : List (Addr × Obj)} {σ : St} {H : Hp} {s : Shared} {a : Addr} {y d : V} {u r : Value} {o : Option V} {A : Around} {E : Value → Shared → Prop}
end

section
variable {X : Cx} {o e f : Expr} {apos cpos : Pos} {td ty tx : TE}
end

/-! ### dict(d): a copy -/
section
variable {X : Cx} {pins : List (Addr × Obj)} {σ : St} {H : Hp} {s : Shared} {a : Addr} {kvs : List (Key × V)} {A : Around} {E : Value → Shared → Prop}
theorem d_copyOf {Q : Value → Shared → Prop} (I : Inv X pins σ H s) (e : Rd H a (.dK kvs)) (h : ∀ p s', H p = none → Inv X pins σ (upd H p (.dK kvs)) s' → Q (.ref p) s') : wpAny (model X.prog X.w) A (call (.type "dict") [.ref a]) Q E s := by
  obtain ⟨z, hd, vs, rel, dd⟩ := dk_rd I.hok e
  refine kt_call_dict hd dd (by rw [← rel.length]; exact z) fun h' dd' hs => ?_
  refine h _ _ (I.hok.fresh (Nat.le_refl _)) (I.laid (a := s.heap.objs.size) (o := .dK kvs) (t' := s.toks) (fun b q hq => ?_) (Nat.le_refl _) (dk_new z (beq_eq_false_iff_ne.mpr (Ne.symm (Nat.ne_of_lt I.big))) rel dd'))
  exact (hs.2 b (Nat.ne_of_lt (Heap.lt_size hq))).trans (Heap.get?_push_of_some _ hq)
end

section
variable {X : Cx} {pins : List (Addr × Obj)} {σ : St} {H : Hp} {s : Shared} {a : Addr} {y : V} {u : Value} {A : Around} {E : Value → Shared → Prop}
end
end L2

namespace Att
open PySem PySem.W PySem.Calls PyProof.Rows

/-! ### the script -/
theorem ints_of_wellAll {P : Params} {h : Heap} : ∀ (ns : List Int) (vs : List Value), WellAll P h vs (ns.map WData.int) → IntsAre vs ns := by
  intro ns
  induction ns with
  | nil =>
    intro vs w
    rw [List.map_nil] at w
    cases w
    exact .nil
  | cons n ns ih =>
    intro vs w
    rw [List.map_cons] at w
    cases w with
    | cons a b =>
      cases a
      exact .cons _ _ (ih _ b)

theorem script_of {l : OpenLaw} {n : Nat} (hn : l.most = some n) {P : Params} {h : Heap} {args : List WData} {vals : List Value}
    (hpre : l.row.toRowW.claim.pre args = true) (hwl : WellAll P h vals args) :
    ∃ a vs ns, vals = [Value.ref a] ∧ args = [WData.list (ns.map WData.int)] ∧ h.get? a = some { cls := .type "list", data := .seq vs.toArray } ∧ IntsAre vs ns ∧ ns.length ≤ n := by
  have hsh : WShape.hasAll [] args [.list .int] = true := (pre_splitW hpre).1
  have hc : l.pre.holds [] { args := args } = true := (pre_splitW hpre).2
  obtain ⟨d, r, rfl, h1, h2⟩ := hasAllW_cons hsh
  obtain rfl := hasAllW_nil h2
  obtain ⟨xs, rfl, h3⟩ := hasW_list h1
  obtain ⟨ns, rfl⟩ := items_int h3
  have hlen : ns.length ≤ n := by
    unfold OpenLaw.pre at hc
    have h4 : (WTm.not (.lt (.lit (.int (n : Int))) (.len (.arg 0)))).holds [] { args := [.list (ns.map .int)] } = true := by
      have h4 := (holds_andW hc).1
      rw [hn] at h4
      exact h4
    have h5 := condW_of h4 (w_not (w_lt w_lit (w_len_list (w_arg rfl))))
    rw [List.length_map] at h5
    refine Nat.le_of_not_lt fun q => ?_
    have q' : (n : Int) < ((ns.length : Nat) : Int) := by omega
    first
      | (rw [decide_eq_true q'] at h5; exact absurd h5 (by decide))
      | (simp at h5; omega)
  cases hwl with
  | cons w1 w2 =>
    cases w2
    cases w1 with
    | list ho hall => exact ⟨_, _, ns, rfl, rfl, ho, ints_of_wellAll ns _ hall, hlen⟩

theorem post_true (l : OpenLaw) (args : List WData) : l.row.toRowW.claim.post args (.bool true) args = true :=
  postW_of (r := l.row.toRowW) (X := (true == true))
    (show WShape.has [] (.bool true) .bool = true by first | rfl | decide | simp [WShape.has, WShape.arms, WShape.armsAll])
    (show (WTm.eq .res (.lit (.bool true))).value [] { args := args, res := some (.bool true), after := args } = some (.bool (true == true)) from w_eq_bool (w_res rfl) w_lit) rfl

/-! ### the attachment: holds_open's last premise (the goal 'hc' behind k_head) from a wpAny of the law's body -/
/-- the same from a codeAny of the CALL (for a layer whose function contracts speak of calls) -/
theorem attach_call {l : OpenLaw} {n : Nat} {q : Program} {loose : List Str} {XP : (Str → Option Value) → Heap → Prop} {YP : World → Heap → Prop} {d : DefRec}
    (hn : l.most = some n) (hdf : d.params.defaults = [])
    (call : ∀ (w : World) (s₀ s₁ : Shared) (mg mb : Str → Option Value) (fa : Addr) (o : Obj) (pm cd doc : Value) (a : Addr) (vs : List Value) (ns : List Int),
      Ground q loose [] XP w s₀ mg mb s₁.heap → YP w s₁.heap →
      s₁.heap.get? fa = some o → o.data = .func (docDef d.name d.params d.body d.scope pm cd doc) → s₁.heap.CodeRec cd d.name → mg d.name = some (.ref fa) →
      s₁.heap.get? a = some { cls := .type "list", data := .seq vs.toArray } → IntsAre vs ns → ns.length ≤ n → s₁.gens = #[] →
      codeAny (model l.prog w) callerA (.call (.ref fa) ⟨[.ref a], []⟩) (fun r s' => r = .ok (.ret (.bool true)) ∧ OldK s₁.heap s'.heap ∧ s'.os = s₁.os ∧ AllBare s'.gens) s₁) :
    WalkO q loose XP YP l.row.toRowW d [] (fun f vs => PySem.call f vs) := by
  intro w s₀ s₁ mg mb G Y fa o pm cd doc dV kV ho hd hcd hD hmg hg args vals as hpre hlay hrd hwl hlo
  obtain rfl : dV = .none := Dflts.none hD hdf
  obtain rfl : kV = .none := Dflts.noKw hD
  obtain ⟨a, vs, ns, rfl, rfl, hobj, hints, hlen⟩ := script_of hn hpre hwl
  refine enter_call (codeAny_mono (call w s₀ s₁ mg mb fa o pm cd doc a vs ns G Y ho (fd_plain hd) hcd hmg hobj hints hlen hg) fun r s' hq => ?_)
  obtain ⟨rfl, h2, h3, h4⟩ := hq
  exact ⟨.inl ⟨.bool true, .bool true, [], rfl, fun _ => rfl, .bool true, post_true l _, fun _ => ⟨List.Pairwise.nil, fun _ hm => (nomatch hm)⟩⟩, h2, h3, h4⟩

/-! ### rules over ANY heap (no ledger) from facts about the written part K: the library's own take a ledger (News) for what they write -/
section
variable {prog : Program} {w : World} {A : Around} {E : Value → Shared → Prop} {s : Shared} {K : Frag}

/-! the whole heap as the ledger: makes every rule that writes through a ledger a rule over any heap -/
end
end Att

namespace L2
open PySem PySem.Spec PyProof.Rows

theorem vals_ints : ∀ {vs : List Value} {ns : List Int}, IntsAre vs ns → Vals (ns.map V.int) vs
  | _, _, .nil => .nil
  | _, _, .cons n t h => .cons ⟨t, rfl⟩ (vals_ints h)

/-- nothing is tracked but the script, known to the object (or it is an object of the module) -/
def Only (H : Hp) : Prop := ∀ b, H b = none ∨ ∃ o xs, H b = some (.frz o (.lst xs))

/-- THE HEAD: the law's promise, at the heap behind the top. F, the promise of the law's def, may use that base is part of the heap (so K.In base, base.Ns mainGlobals mg stand in Mod) -/
theorem law_call {P : Program} {w : World} {K : PySem.W.Frag} {mg mb : Str → Option Value} {CX : CXT} {k : Nat} {fa a : Addr} {fd : FuncData} {x : Str} {sp : Sp} {s₁ : Shared} {vs : List Value} {ns : List Int}
    (KX : K.In s₁.heap) (hns : s₁.heap.Ns mainGlobals mg) (hb : s₁.heap.Ns builtinsNs mb) (hbb : ∀ x : Str, x ≠ "__name__" → mb x = bootBuiltins x) (hlim : s₁.heap.NoLimit) (hg : s₁.gens = #[])
    (ha : s₁.heap.get? a = some { cls := .type "list", data := .seq vs.toArray }) (hi : IntsAre vs ns) (hl : ns.length ≤ sizeLine) (hr : Room k callerA)
    (F : ∀ base : Heap, K.In base → base.Ns mainGlobals mg → FnOk P w K mg base CX k fa fd [x] sp) (hbind : ∀ (s : Shared) (u : Value), BindsTo s fd ⟨[u], []⟩ [(x, u)])
    (hsp : ∀ H : Hp, Only H → SqL K H a (ns.map V.int) → sp [.ref a] H (fun v _ => v = .bl true) fun _ _ _ => False)
    (hCX : ∀ H e s', CX [] H s₁ (fun _ _ _ => False) e s' → False) :
    codeAny (model P w) callerA (.call (.ref fa) ⟨[.ref a], []⟩) (fun r s' => r = .ok (.ret (.bool true)) ∧ OldK s₁.heap s'.heap ∧ s'.os = s₁.os ∧ AllBare s'.gens) s₁ := by
  have rv := vals_ints hi
  have lenV := hi.length
  -- from an abstract heap in which nothing but the script may be tracked
  have core : ∀ H : Hp, Only H → SqL K H a (ns.map V.int) → HOk P w H s₁.heap → (∀ b, H b ≠ none → b = a) → (H a ≠ none → K.lookup a = none) →
      codeAny (model P w) callerA (.call (.ref fa) ⟨[.ref a], []⟩) (fun r s' => r = .ok (.ret (.bool true)) ∧ OldK s₁.heap s'.heap ∧ s'.os = s₁.os ∧ AllBare s'.gens) s₁ := by
    intro H hO hS hok hA hK
    have base_of : ∀ {b : Addr} {o : Obj}, s₁.heap.get? b = some o → H b = none → (hidT s₁.heap H).get? b = some o := fun e n => hidT_get e n
    have noA : ∀ {b : Addr} {o : Obj} {es : Array DictEntry} {ep : Nat}, s₁.heap.get? b = some o → o.data = .dict es ep → H b = none := fun {b o es ep} e d => by
      cases q : H b with
      | none => rfl
      | some u =>
        have e' : b = a := hA b (by rw [q]; simp)
        subst e'
        rw [ha] at e; cases e
        have d' : Data.seq vs.toArray _ = Data.dict es ep := d
        cases d'
    have nsK : ∀ {b : Addr} {m : Str → Option Value}, s₁.heap.Ns b m → (hidT s₁.heap H).Ns b m := fun {b m} ⟨o, es, ep, e, d, r⟩ => ⟨o, es, ep, base_of e (noA e d), d, r⟩
    have hKb : K.In (hidT s₁.heap H) := fun b o e => base_of (KX b o e) (by
      cases q : H b with
      | none => rfl
      | some u =>
        have e' : b = a := hA b (by rw [q]; simp)
        subst e'
        rw [hK (by rw [q]; simp)] at e; cases e)
    have hM : Mod K mg (hidT s₁.heap H) := ⟨hKb, nsK hns, ⟨mb, nsK hb, hbb⟩, let ⟨mc, h1, h2⟩ := hlim; ⟨mc, nsK h1, h2⟩⟩
    have e0 : Env0 P w K mg (hidT s₁.heap H) callerA [] s₁ H := ⟨rfl, hM, fun b o e => of_hidT e, Nat.le_of_eq (hidT_size _ _), trivial, fun b hb => absurd (show b ∈ ([] : List Addr) from hb) (by simp), hok, .of_eq hg⟩
    refine codeAny_mono ((F _ hKb (nsK hns)).run callerA [] s₁ H ⟨[.ref a], []⟩ [.ref a] [.ref a] _ _ hr e0 (hbind s₁ (.ref a)) (.cons rfl .nil) (hsp H hO hS)) fun r s' h => ?_
    cases r with
    | error e => exact (hCX H e s' h).elim
    | ok fl =>
      cases fl with
      | next => exact False.elim h
      | brk => exact False.elim h
      | cont => exact False.elim h
      | ret u =>
        obtain ⟨v, H', os, bare, un, hok', r', q⟩ := h
        have q' : v = .bl true := q
        subst q'
        obtain rfl : u = Value.bool true := r'
        refine ⟨rfl, OldK.of_keep fun b o e => ?_, os, bare⟩
        cases q : H b with
        | none => exact un.keep b o e q (by intro z; exact absurd (show b ∈ ([] : List Addr) from z) (by simp)) (by simp)
        | some u =>
          rcases hO b with z | ⟨ob, xs, z⟩
          · rw [q] at z; cases z
          · have z2 := un.frzs b ob _ z
            obtain ⟨e1, _⟩ := hok b _ z
            obtain ⟨e2, _⟩ := hok' b _ z2
            rw [e] at e1; cases e1
            exact e2
  cases hk : K.lookup a with
  | some o =>
    -- the script is one of the module's own objects
    have e := KX a o hk
    rw [ha] at e
    cases e
    refine core (fun _ => none) (fun _ => .inl rfl) (.inr ⟨_, vs.toArray, _, hk, rfl, rfl, rfl, by rw [List.size_toArray, lenV]; exact hl, by simpa using rv⟩) (fun b u z => by have z' : (none : Option HO) = some u := z; cases z') (fun b z => absurd rfl z) fun z => absurd rfl z
  | none =>
    refine core (fun b => if b = a then some (.frz { cls := .type "list", data := .seq vs.toArray } (.lst (ns.map V.int))) else none) (fun b => ?_) (.inl (.inr ⟨{ cls := .type "list", data := .seq vs.toArray }, if_pos rfl⟩)) (fun b u z => ?_) (fun b z => ?_) fun _ => hk
    · by_cases hb : b = a
      · exact .inr ⟨_, _, if_pos hb⟩
      · exact .inl (if_neg hb)
    · by_cases hb : b = a
      · have z' := (if_pos hb).symm.trans z
        cases z'
        subst hb
        exact ⟨ha, by rw [List.length_map]; exact hl, vs, _, rv, ha⟩
      · have z' := (if_neg hb).symm.trans z
        cases z'
    · by_cases hb : b = a
      · exact hb
      · exact absurd (if_neg hb) z
end L2

namespace L2
open PySem PySem.Spec PyProof.Rows

/-- the goal that k_head leaves (case hc), from the law's promise. F gives the function object fd (K's own) once, then the promise over every base -/
theorem walk_of {l : PySem.W.OpenLaw} {n k : Nat} {q : Program} {loose : List Str} {XP : (Str → Option Value) → Heap → Prop} {YP : World → Heap → Prop} {d : DefRec} {K : Params → PySem.W.Frag} {CX : World → CXT} {sp : World → Sp} {x : Str}
    (hn : l.most = some n) (hn2 : n ≤ sizeLine) (hdf : d.params.defaults = []) (hr : Room k callerA)
    (hY : ∀ (w : World) (h : Heap), YP w h → (K w.params).In h)
    (F : ∀ (w : World) (mg : Str → Option Value) (fa : Addr) (h : Heap), (K w.params).In h → h.Ns mainGlobals mg → mg d.name = some (.ref fa) →
      ∃ fd : FuncData, (∀ (s : Shared) (u : Value), BindsTo s fd ⟨[u], []⟩ [(x, u)]) ∧
        ∀ base : Heap, (K w.params).In base → base.Ns mainGlobals mg → FnOk l.prog w (K w.params) mg base (CX w) k fa fd [x] (sp w))
    (hsp : ∀ (w : World) (H : Hp) (a : Addr) (ns : List Int), ns.length ≤ n → Only H → SqL (K w.params) H a (ns.map V.int) → sp w [.ref a] H (fun v _ => v = .bl true) fun _ _ _ => False)
    (hCX : ∀ (w : World) (H : Hp) (s : Shared) (e : Value) (s' : Shared), CX w [] H s (fun _ _ _ => False) e s' → False) :
    PySem.W.WalkO q loose XP YP l.row.toRowW d [] (fun f vs => PySem.call f vs) := by
  refine Att.attach_call hn hdf fun w s₀ s₁ mg mb fa o pm cd doc a vs ns G Y ho hd hcd hmg hobj hints hlen hg => ?_
  have KX := hY w _ Y
  obtain ⟨fd, hb, hF⟩ := F w mg fa _ KX G.T.g hmg
  exact law_call KX G.T.g G.T.b G.T.builtins G.T.nolimit hg hobj hints (Nat.le_trans hlen hn2) hr hF hb (fun H hO hS => hsp w H a ns hlen hO hS) fun H e s' => hCX w H s₁ e s'
end L2

/- THE LAST THEOREM (shape; LID, My.* are yours):
   My.Adr: a structure of the addresses that your layer names (classes, functions); My.Txt K t: a structure (Prop) of the equations over K;
   My.txt_mk : {K} {implicit addresses ..} (e1 : nsIn K mainGlobals "law" = some (some (.ref f))) (e2 : K.lookup f = some ⟨oc, od, .func (fnOf "law" "law" params body scope dV kV doc pm an cdv ct), sl⟩) (e3 : codeIn K cdv "law" = true) .. : ∃ t, My.Txt K t

set_option maxRecDepth 100000 in
set_option maxHeartbeats 0 in
theorem PySem.Challenge.cw_LID_holds : PySem.Challenge.rw_LID.Holds := by
  w_on; o_law; k_head; (case hw => w_witness2)
  k_fill
  refine L2.walk_of (l := PySem.Challenge.rw_LID) (n := 63) (k := 40) (x := "script") (CX := fun w => ..) (sp := fun _ => My.sp_law) rfl (by decide) rfl ⟨rfl, by decide, by decide⟩ (fun w h Y => PySem.W.kIn_of Y) ?F ?S ?C
  case F =>
    intro w mg fa h KX G hmg
    have T : ∃ t, My.Txt (L2.KOf KX) t := by
      dsimp only [L2.KOf]                          -- K must stand as «<heap const> w.params» for k_is
      refine' My.txt_mk ?e1 ?e2 ?e3 ..
      (case e1 => PySem.W.k_is)                    -- in the order: a name -> its address -> its object -> its parts
      (case e2 => PySem.W.k_is)
      ..
    obtain ⟨t, T⟩ := T
    have e0 := hmg.symm.trans (PySem.W.mg_of KX G T.law)
    cases e0                                       -- fa is the law's own address
    exact ⟨_, fun s u => .of_eq rfl, fun base kb nb => My.law_fn T kb nb⟩     -- if «.of_eq rfl» comes too early: refine' ⟨_, ?b, fun base kb nb => My.law_fn T kb nb⟩; exact fun s u => .of_eq rfl
  case S => exact fun w H a ns hl hO hS => ..
  case C => exact ..
(the tactic k_is has no namespace: write k_is) -/

/-! SHORT WORDS over the layer: a def of the text, its body, what a loop and a test want. -/
namespace L2
open PySem PySem.Spec PyProof.Rows

/-! ### the text by places -/
def defArgs (s : Stmt) : Arguments := match s with
  | .FunctionDef _ a _ _ _ _ _ _ _ _ => a
  | _ => { posonlyargs := [], args := [], vararg := none, kwonlyargs := [], kw_defaults := [], kwarg := none, defaults := [] }
def defBody (s : Stmt) : List Stmt := match s with
  | .FunctionDef _ _ b _ _ _ _ _ _ _ => b
  | _ => []
def defScope (s : Stmt) : Scope := match s with
  | .FunctionDef _ _ _ _ _ _ sc _ _ _ => sc
  | _ => { kind := .function, names := [], isGenerator := false, isCoroutine := false }

/-! ### no exception leaves a def -/
abbrev CX0 : CXT := fun _ _ _ _ _ _ => False
abbrev E0 : XK := fun _ _ _ => False
theorem pass0 {X : Cx} : Passes CX0 X E0 := fun _ _ _ _ _ _ _ h => h.elim

/-! ### a def (or method) of the text as it stands behind the top -/
structure Fun (K : PySem.W.Frag) (x qual : Str) (st : Stmt) (f : Addr) (fd : FuncData) : Prop where
  ex : ∃ (oc : Value) (od : Option Addr) (kV doc pm : Value) (an : Option Addr) (cdv ct : Value) (osl : Array (Option Value)),
    fd = PySem.W.fnOf x qual (defArgs st) (defBody st) (defScope st) .none kV doc pm an cdv ct ∧ K.lookup f = some ⟨oc, od, .func fd, osl⟩ ∧ PySem.W.codeIn K cdv qual = true
  kp : PySem.W.keepIn K (.ref f) = true
section
variable {P : Program} {w : World} {K : PySem.W.Frag} {mg : Str → Option Value} {base : Heap}
/-- THE RULE for a def: its body as a term of rules, and the reading of that term -/
theorem Fun.ok {x qual : Str} {st : Stmt} {f : Addr} {fd : FuncData} {N ps : List Str} {k : Nat} {sp : Sp} (F : Fun K x qual st f fd) (S : FnScope N ps (defScope st)) (len : ∀ vs H Q E, sp vs H Q E → vs.length = ps.length)
    (hbody : ∀ (cdv : Value) (A : Around) (outer : List Env) (s : Shared) (H : Hp) (vs : List V) (Q : VK) (E : XK), Room k (A.deeper (envOfC qual (defScope st) s.heap.objs.size f cdv)) → sp vs H Q E →
      ∃ t, PSs (cxOf CX0 P w K mg base N qual (defScope st) f cdv A outer s H E).nox (defBody st) t ∧ t { nx := fun _ H' => Q .non H', rt := Q } (start N vs) H) : FnOk P w K mg base CX0 (k + 1) f fd ps sp := by
  obtain ⟨oc, od, kV, doc, pm, an, cdv, ct, osl, rfl, lk, hcd⟩ := F.ex
  refine fn_of lk hcd S len fun A outer s H vs Q E hr hsp => ?_
  obtain ⟨t, h, q⟩ := hbody cdv A outer s H vs Q E hr hsp
  exact ⟨t, h.nox, q⟩
/-- how its arguments bind (no defaults): h is «fun _ _ _ _ _ _ us hl => by obtain ⟨v0, v1, rfl⟩ := L2.ln2 hl; rfl», one _ a parameter -/
theorem Fun.binds {x qual : Str} {st : Stmt} {f : Addr} {fd : FuncData} {ps : List Str} (F : Fun K x qual st f fd)
    (h : ∀ (kV doc pm : Value) (an : Option Addr) (cdv ct : Value) (us : List Value), us.length = ps.length → bindArgs (PySem.W.fnOf x qual (defArgs st) (defBody st) (defScope st) .none kV doc pm an cdv ct) ⟨us, []⟩ = pure (ps.zip us)) : Binds K fd ps [] := by
  obtain ⟨oc, od, kV, doc, pm, an, cdv, ct, osl, rfl, lk, hcd⟩ := F.ex
  exact .all (h kV doc pm an cdv ct)
theorem fun_mk {x qual : Str} {st : Stmt} {f : Addr} {oc : Value} {od an : Option Addr} {osl : Array (Option Value)} {kV doc pm cdv ct : Value} (l : K.lookup f = some ⟨oc, od, .func (PySem.W.fnOf x qual (defArgs st) (defBody st) (defScope st) .none kV doc pm an cdv ct), osl⟩)
    (c : PySem.W.codeIn K cdv qual = true) (k : PySem.W.keepIn K (.ref f) = true) : Fun K x qual st f (PySem.W.fnOf x qual (defArgs st) (defBody st) (defScope st) .none kV doc pm an cdv ct) := ⟨⟨oc, od, kV, doc, pm, an, cdv, ct, osl, rfl, l, c⟩, k⟩
end
theorem hu_of {A : Around} {k : Nat} (hr : Room k A) : A.units + 1 < cLine := Nat.lt_of_le_of_lt (Nat.add_le_add_left (by decide : 1 ≤ 64) _) hr.units
/-! ### expressions in short: the name that stands in the i-th slot -/
section
variable {X : Cx}
theorem pv (i : Nat) {x : Str} {pos : Pos} (hN : X.N[i]? = some x := by rfl) (hv : Vis X.env.scope x := by first | exact Or.inl rfl | exact Or.inr (Or.inl rfl) | exact Or.inr (Or.inr rfl)) (hd : (x == ("__debug__" : Str)) = false := by decide)
    (hcd : (x == ("__classdict__" : Str)) = false := by decide) : PE X (.Name x pos) (tVar i) := pe_var hN hv hd hcd
end

/-! ### tests -/
theorem iteF {A B : Prop} (h : B) : if false = true then A else B := by
  rw [if_neg Bool.false_ne_true]
  exact h
theorem iteT {A B : Prop} (h : A) : if true = true then A else B := by
  rw [if_pos rfl]
  exact h
theorem ite2 {c A B : Prop} [Decidable c] (h1 : c → A) (h2 : ¬ c → B) : if c then A else B := by
  by_cases h : c
  · rw [if_pos h]
    exact h1 h
  · rw [if_neg h]
    exact h2 h
/-! ### heaps -/
/-- all that was tracked is as it was -/
def Same (H H' : Hp) : Prop := ∀ b o, H b = some o → H' b = some o
theorem Same.refl (H : Hp) : Same H H := fun _ _ h => h
theorem Same.trans {H H1 H2 : Hp} (a : Same H H1) (b : Same H1 H2) : Same H H2 := fun c o h => b c o (a c o h)
theorem Same.seq {K : PySem.W.Frag} {H H' : Hp} {a : Addr} {xs : List V} (e : Same H H') (h : SqL K H a xs) : SqL K H' a xs := by
  rcases h with (h | ⟨o, h⟩) | h
  · exact .inl (.inl (e _ _ h))
  · exact .inl (.inr ⟨o, e _ _ h⟩)
  · exact .inr h

section
variable {X : Cx}
end
/-! ### a dict's pairs: keys that differ -/
section
variable {κ : Type} [DecidableEq κ]
theorem valV_in {kvs : List (κ × V)} {k : κ} {v : V} (h : valV kvs k = some v) : k ∈ kvs.map (·.1) := by
  have q : (kvs.any fun kv => decide (kv.1 = k)) = true := by
    rw [valV_any, h]
    all_goals rfl
  obtain ⟨p, hp, e⟩ := List.any_eq_true.mp q
  exact List.mem_map.mpr ⟨p, hp, of_decide_eq_true e⟩
end
end L2

/-! MORE OF THE HAND LAYER (own work): comprehensions, texts walked and sliced, all, any, isinstance. -/
namespace L2
open PySem PySem.Spec PyProof.Rows

/-! ### the cells that a comprehension's block takes over -/
def closF (env : Env) (cs : List (Str × Addr)) (y : Str × NameKind) : List (Str × Addr) :=
  if (y.2 == NameKind.free) = true then (y.1, (env.cells.lookup y.1).getD 0) :: cs else cs
def closL (env : Env) (names : List (Str × NameKind)) : List (Str × Addr) := names.foldl (closF env) []
theorem clos_from {env : Env} : ∀ (names : List (Str × NameKind)) (cs : List (Str × Addr)), (∀ y ∈ names, y.2 = .free → ∃ c, env.cells.lookup y.1 = some c) →
    (forIn names cs fun y r => (if (y.2 == NameKind.free) = true then do let a ← cellOf env y.1; pure (ForInStep.yield ((y.1, a) :: r)) else pure (ForInStep.yield r) : Sem (ForInStep (List (Str × Addr))))) = pure (names.foldl (closF env) cs)
  | [], cs, _ => rfl
  | y :: r, cs, h => by
    rw [List.forIn_cons, List.foldl_cons]
    by_cases hy : (y.2 == NameKind.free) = true
    · obtain ⟨c, hc⟩ := h y List.mem_cons_self (eq_of_beq hy)
      have e : cellOf env y.1 = pure c := by unfold cellOf; rw [hc]
      rw [if_pos hy, e, pure_bind, pure_bind]
      have e2 : closF env cs y = (y.1, c) :: cs := by unfold closF; rw [if_pos hy, hc]; rfl
      rw [e2]
      exact clos_from r _ fun z hz => h z (List.mem_cons_of_mem _ hz)
    · rw [if_neg hy, pure_bind]
      have e2 : closF env cs y = cs := by unfold closF; rw [if_neg hy]
      rw [e2]
      exact clos_from r _ fun z hz => h z (List.mem_cons_of_mem _ hz)
theorem clos_ok {env : Env} {scope : Scope} (h : ∀ y ∈ scope.names, y.2 = .free → ∃ c, env.cells.lookup y.1 = some c) : closureFor scope env = pure (closL env scope.names) := by
  have e := clos_from (env := env) scope.names [] h
  unfold closL
  rw [← e]
  simp only [closureFor, bind_pure_comp, map_pure, bind_pure]
theorem clos_sub {env : Env} : ∀ (names : List (Str × NameKind)) (cs : List (Str × Addr)), (∀ y ∈ names, y.2 = .free → ∃ c, env.cells.lookup y.1 = some c) → (∀ x c, cs.lookup x = some c → env.cells.lookup x = some c) →
    ∀ x c, (names.foldl (closF env) cs).lookup x = some c → env.cells.lookup x = some c
  | [], cs, _, hc, x, c, e => hc x c e
  | y :: r, cs, h, hc, x, c, e => by
    rw [List.foldl_cons] at e
    refine clos_sub r _ (fun z hz => h z (List.mem_cons_of_mem _ hz)) (fun z d q => ?_) x c e
    unfold closF at q
    by_cases hy : (y.2 == NameKind.free) = true
    · obtain ⟨c', hc'⟩ := h y List.mem_cons_self (eq_of_beq hy)
      rw [if_pos hy, List.lookup_cons, hc'] at q
      cases hz : z == y.1 with
      | true =>
        rw [hz] at q
        have q' : c' = d := Option.some.inj q
        rw [eq_of_beq hz, hc', q']
      | false =>
        rw [hz] at q
        exact hc z d q
    · rw [if_neg hy] at q
      exact hc z d q
theorem clos_has {env : Env} : ∀ (names : List (Str × NameKind)) (cs : List (Str × Addr)) (x : Str), ((x, NameKind.free) ∈ names ∨ ∃ c, cs.lookup x = some c) → ∃ c, (names.foldl (closF env) cs).lookup x = some c
  | [], cs, x, h => by
    rcases h with h | h
    · cases h
    · exact h
  | y :: r, cs, x, h => by
    rw [List.foldl_cons]
    refine clos_has r _ x ?_
    rcases h with h | ⟨c, h⟩
    · rcases List.mem_cons.mp h with e | e
      · subst e
        refine .inr ⟨(env.cells.lookup x).getD 0, ?_⟩
        unfold closF
        rw [if_pos (show ((x, NameKind.free).2 == NameKind.free) = true from rfl), List.lookup_cons, beq_self_eq_true]
      · exact .inl e
    · refine .inr ?_
      unfold closF
      by_cases hy : (y.2 == NameKind.free) = true
      · rw [if_pos hy, List.lookup_cons]
        cases hz : x == y.1 with
        | true => exact ⟨_, rfl⟩
        | false => exact ⟨c, h⟩
      · rw [if_neg hy]
        exact ⟨c, h⟩

/-! ### a comprehension's block -/
/-- the context in which its element and its tests run -/
abbrev cxComp (X : Cx) (scope : Scope) (N : List Str) (s : Shared) (H : Hp) (fp : List Addr) : Cx where
  prog := X.prog
  w := X.w
  K := X.K
  mg := X.mg
  base := X.base
  A := X.A
  N := N
  s₀ := s
  H₀ := H
  env := compEnvC scope (closL X.env scope.names) s.heap.objs.size X.env
  outer := X.stack
  stack := X.stack
  ex := fp
  fn := fun _ => false
  calm := X.calm
  pn := []
  xe := fun _ _ => False

/-- what of the text of a comprehension must be seen: xs its own names, fr the places of the names that it reads from around -/
structure CompTx (osc scope : Scope) (N0 : List Str) (xs : List Str) (fr : List Nat) : Prop where
  kind : scope.kind = .function
  nocell : ∀ y ∈ scope.names, y.2 ≠ .cell
  names : ∀ y ∈ scope.names, y.2 = .local → scope.names.lookup y.1 = some .local
  free : ∀ y ∈ scope.names, y.2 = .free → osc.names.lookup y.1 = some .cell ∨ osc.names.lookup y.1 = some .free
  fro : ∀ j ∈ fr, ∃ x, N0[j]? = some x ∧ scope.names.lookup x = some .free
  nd : (xs ++ fr.map fun j => N0.getD j "").Nodup

def compN (N0 : List Str) (xs : List Str) (fr : List Nat) : List Str := xs ++ fr.map fun j => N0.getD j ""
def compSt (xs : List Str) (fr : List Nat) (σ : St) : St := xs.map (fun _ => none) ++ fr.map fun j => (σ[j]?).join

theorem mem_of_lookup' {κ : Type} : ∀ {l : List (Str × κ)} {x : Str} {k : κ}, l.lookup x = some k → (x, k) ∈ l
  | [], _, _, h => by cases h
  | (n, k') :: r, x, k, h => by
    rw [List.lookup_cons] at h
    cases hx : x == n with
    | true =>
      rw [hx] at h
      have h' : k' = k := Option.some.inj h
      rw [eq_of_beq hx, h']
      exact List.mem_cons_self
    | false =>
      rw [hx] at h
      exact List.mem_cons_of_mem _ (mem_of_lookup' h)
/-- what a name of the block is -/
theorem relabel_look {env : Env} : ∀ {names : List (Str × NameKind)} {x : Str} {k : NameKind},
    (names.map fun (n, k) => if (k == NameKind.free && env.scope.kind == .function && env.kindOf n == some .cell) then (n, NameKind.cell) else (n, k)).lookup x = some k →
    names.lookup x = some k ∨ (k = .cell ∧ names.lookup x = some .free)
  | [], _, _, h => by cases h
  | (n, k') :: r, x, k, h => by
    have ih := @relabel_look env r x k
    rw [List.map_cons] at h
    rw [List.lookup_cons]
    by_cases hc : (k' == NameKind.free && env.scope.kind == .function && env.kindOf n == some .cell) = true
    · have h' : List.lookup x ((n, NameKind.cell) :: (r.map fun (n, k) => if (k == NameKind.free && env.scope.kind == .function && env.kindOf n == some .cell) then (n, NameKind.cell) else (n, k))) = some k := by
        rw [← h]; simp only [hc, if_true]
      rw [List.lookup_cons] at h'
      cases hx : x == n with
      | true =>
        rw [hx] at h'
        have h2 : NameKind.cell = k := Option.some.inj h'
        rw [Bool.and_eq_true, Bool.and_eq_true] at hc
        exact .inr ⟨h2.symm, congrArg some (eq_of_beq hc.1.1)⟩
      | false =>
        rw [hx] at h'
        exact ih h'
    · have h' : List.lookup x ((n, k') :: (r.map fun (n, k) => if (k == NameKind.free && env.scope.kind == .function && env.kindOf n == some .cell) then (n, NameKind.cell) else (n, k))) = some k := by
        rw [← h]; simp only [hc]; rfl
      rw [List.lookup_cons] at h'
      cases hx : x == n with
      | true =>
        rw [hx] at h'
        exact .inl h'
      | false =>
        rw [hx] at h'
        exact ih h'
theorem relabel_free {env : Env} : ∀ {names : List (Str × NameKind)} {x : Str}, names.lookup x = some .free →
    (names.map fun (n, k) => if (k == NameKind.free && env.scope.kind == .function && env.kindOf n == some .cell) then (n, NameKind.cell) else (n, k)).lookup x = some .cell ∨
    (names.map fun (n, k) => if (k == NameKind.free && env.scope.kind == .function && env.kindOf n == some .cell) then (n, NameKind.cell) else (n, k)).lookup x = some .free
  | [], _, h => by cases h
  | (n, k') :: r, x, h => by
    have ih := @relabel_free env r x
    rw [List.lookup_cons] at h
    rw [List.map_cons]
    by_cases hc : (k' == NameKind.free && env.scope.kind == .function && env.kindOf n == some .cell) = true
    · have e : (match (n, k') with | (n, k) => if (k == NameKind.free && env.scope.kind == .function && env.kindOf n == some .cell) then (n, NameKind.cell) else (n, k)) = (n, NameKind.cell) := by
        simp only [hc, if_true]
      rw [e, List.lookup_cons]
      cases hx : x == n with
      | true => exact .inl rfl
      | false => rw [hx] at h; exact ih h
    · have e : (match (n, k') with | (n, k) => if (k == NameKind.free && env.scope.kind == .function && env.kindOf n == some .cell) then (n, NameKind.cell) else (n, k)) = (n, k') := by
        simp only [hc]; rfl
      rw [e, List.lookup_cons]
      cases hx : x == n with
      | true =>
        rw [hx] at h
        exact .inr h
      | false => rw [hx] at h; exact ih h

section
variable {X : Cx}
theorem comp_free {osc scope : Scope} {N0 xs : List Str} {fr : List Nat} {pins : List (Addr × Obj)} {σ : St} {H : Hp} {s : Shared} (C : CompTx osc scope N0 xs fr) (ho : X.env.scope = osc) (I : Inv X pins σ H s) :
    ∀ y ∈ scope.names, y.2 = .free → ∃ c, X.env.cells.lookup y.1 = some c := fun y hy e => by
  refine I.ok.has y.1 ?_
  rw [← ho] at C
  exact C.free y hy e

/-- the block's entry -/
theorem comp_start {osc scope : Scope} {N0 xs : List Str} {fr : List Nat} {pins : List (Addr × Obj)} {σ : St} {H : Hp} {s : Shared} {fp : List Addr} {h₁ : Heap} {tk : Nat} (C : CompTx osc scope N0 xs fr) (ho : X.env.scope = osc) (hN0 : X.N = N0) (I : Inv X pins σ H s)
    (hf : ∀ b ∈ fp, FpOk X pins H b) (hlt : ∀ b ∈ fp, b < s.heap.objs.size) (hn : h₁.Ns s.heap.objs.size fun _ => none) (hk : ∀ b o, s.heap.get? b = some o → h₁.get? b = some o) :
    Inv (cxComp X scope (compN N0 xs fr) s H fp) [] (compSt xs fr σ) H { s with heap := h₁, toks := tk } := by
  subst hN0
  have hfree := comp_free C ho I
  have sub := clos_sub (env := X.env) scope.names [] hfree (fun x c e => by cases e)
  have nC : ∀ x c, X.env.cells.lookup x = some c → c ≠ s.heap.objs.size := fun x c e z => by
    obtain ⟨v, q⟩ := I.cell x c e
    exact absurd q.lt (by rw [z]; exact Nat.lt_irrefl _)
  refine ⟨⟨I.ok.mod, C.kind, I.ok.glob, I.ok.blt, Nat.le_refl _, fun x y c h1 h2 => I.ok.inj x y c (sub x c h1) (sub y c h2), fun x hx => ?_, fun x c h _ => (Bool.false_ne_true h).elim, I.ok.hd, I.ok.frames, .inl rfl, fun b hb => ?_, I.bs, Nat.le_trans I.ok.bsz I.sz, fun b o e hb => ?_, fun b hb hz => ?_, I.stack, I.stkFree⟩,
    rfl, I.bare, Un.kept hk, ⟨_, hn, fun i x v h1 h2 h3 => ?_⟩, fun x c h => ?_, I.hok.fresh (Nat.le_refl _), fun x c h => I.freeC x c (sub x c h), fun p hp => absurd (show p ∈ ([] : List (Addr × Obj)) from hp) (by simp), I.hok.kept hk, ?_⟩
  · have hx' : (relabel scope X.env).names.lookup x = some .cell ∨ (relabel scope X.env).names.lookup x = some .free := hx
    refine clos_has (env := X.env) scope.names [] x (.inl ?_)
    rcases hx' with q | q
    · rcases relabel_look q with z | ⟨_, z⟩
      · exact absurd rfl (C.nocell _ (mem_of_lookup' z))
      · exact mem_of_lookup' z
    · rcases relabel_look q with z | ⟨z, _⟩
      · exact mem_of_lookup' z
      · cases z
  · exact ⟨Nat.ne_of_lt (hlt b hb), fun x c h => (hf b hb).2.2.2.2.1 x c (sub x c h)⟩
  · rcases (hf b hb).2.2.2.1 with z | z
    · exact I.ok.noex b o e z
    · exact absurd (Nat.lt_of_lt_of_le (Heap.lt_size e) (Nat.le_trans I.ok.bsz z)) (Nat.lt_irrefl _)
  · rcases List.mem_cons.mp (I.stkSub b hz) with z | z
    · exact (hf b hb).2.1 z
    · exact (hf b hb).2.2.1 z
  · -- a name that is set stands behind the block's own ones
    have hi : ¬ i < xs.length := fun hi => by
      unfold compSt at h2
      rw [List.getElem?_append_left (by rw [List.length_map]; exact hi), List.getElem?_map] at h2
      cases q : xs[i]? with
      | none => rw [q] at h2; cases h2
      | some y => rw [q] at h2; cases h2
    have hi' : xs.length ≤ i := Nat.le_of_not_lt hi
    have e2 : (fr.map fun j => (σ[j]?).join)[i - xs.length]? = some (some v) := by
      have := h2
      unfold compSt at this
      rw [List.getElem?_append_right (by rw [List.length_map]; exact hi'), List.length_map] at this
      exact this
    rw [List.getElem?_map] at e2
    cases q : fr[i - xs.length]? with
    | none => rw [q] at e2; cases e2
    | some j =>
      rw [q] at e2
      have e3 : (σ[j]?).join = some v := Option.some.inj e2
      have e4 : σ[j]? = some (some v) := by
        cases z : σ[j]? with
        | none => rw [z] at e3; cases e3
        | some u => rw [z] at e3; rw [show u = some v from e3]
      obtain ⟨y, hy, hyf⟩ := C.fro j (List.mem_of_getElem? q)
      have ex : x = y := by
        have h1' : (compN X.N xs fr)[i]? = some x := h1
        unfold compN at h1'
        rw [List.getElem?_append_right hi', List.getElem?_map, q] at h1'
        have h5 : X.N.getD j "" = x := Option.some.inj h1'
        rw [← h5, List.getD_eq_getElem?_getD, hy]
        rfl
      subst ex
      obtain ⟨m, _, hl⟩ := I.loc
      have kf := C.free _ (mem_of_lookup' hyf) rfl
      rw [← ho] at kf
      have vis : Vis X.env.scope x := by
        rcases kf with z | z
        · exact .inr (.inl z)
        · exact .inr (.inr z)
      obtain ⟨u, r, l⟩ := hl j x v hy e4 vis
      refine ⟨u, r, .inr ⟨relabel_free hyf, ?_⟩⟩
      rcases l with ⟨z, _⟩ | ⟨_, c, hc, hcell⟩
      · have z' : X.env.scope.names.lookup x = some .local := z
        rcases kf with w | w
        · rw [z'] at w; cases w
        · rw [z'] at w; cases w
      · obtain ⟨c', hc'⟩ := clos_has (env := X.env) scope.names [] x (.inl (mem_of_lookup' hyf))
        have e5 := sub x c' hc'
        rw [hc] at e5
        cases e5
        refine ⟨c, hc', ?_⟩
        obtain ⟨o, ho', hd⟩ := hcell
        exact ⟨o, hk _ _ ho', hd⟩
  · obtain ⟨v, o, ho', hd⟩ := I.cell x c (sub x c h)
    exact ⟨v, o, hk _ _ ho', hd⟩
  · show (compSt xs fr σ).length = (compN X.N xs fr).length
    unfold compSt compN
    simp
end
end L2

namespace L2
open PySem PySem.Spec PyProof.Rows

/-! ### the tests of a comprehension: none, or one -/
def PIf (X : Cx) (ifs : List Expr) (t : TT) : Prop :=
  ∀ (pins : List (Addr × Obj)) (s : Shared) (σ : St) (H : Hp) (Q : Bool → Hp → Prop), Inv X pins σ H s → t σ H Q →
    wpAny (model X.prog X.w) X.A (forIn ifs true fun c r => if r = true then do let ok ← isTrue c X.env (eval c X.env); pure (ForInStep.yield ok) else pure (ForInStep.yield r)) (TP X pins σ Q) X.xe s
def tYes : TT := fun _ H Q => Q true H
theorem pif_nil {X : Cx} : PIf X [] tYes := fun _ _ σ H Q I h => wpAny_tests_nil ⟨H, I, h⟩
/-- what is wanted of a comprehension's walk over J: W by the turn, a measure, the block's names, the heap; D the list; N behind an element that is kept, M behind one that is left out -/
def CompW (J : It) (g : TG) (tt : TT) (te : TE) (R : Addr → Hp → Prop) (D : Addr) (σ0 : St) (H0 : Hp) : Prop :=
  ∃ W : Nat → Nat → St → Hp → Prop, (∃ m, W 0 m σ0 H0) ∧ ∀ i m σ H, W i m σ H →
    (J.stop i H ∧ R D H) ∨
    (J.go i H ∧ ∃ (N : St → V → Hp → Prop) (M : St → Hp → Prop), (∀ σ2 y H4, N σ2 y H4 → ∃ ys, H4 D = some (.lst ys) ∧ ys.length < sizeLine ∧ ∃ m', m' < m ∧ W (i + 1) m' σ2 (upd H4 D (.lst (ys ++ [y])))) ∧
      (∀ σ2 H3, M σ2 H3 → ∃ m', m' < m ∧ W (i + 1) m' σ2 H3) ∧
      ∀ x H', J.yld i H x H' → g x σ H' fun σ2 H2 => tt σ2 H2 fun b H3 => if b = true then te σ2 H3 (N σ2) else M σ2 H3)
/-- [elt for tg in iter if ..] -/
def tComp (xs : List Str) (fr : List Nat) (wi : TI) (g : TG) (tt : TT) (te : TE) : TE := fun σ H Q => wi σ H fun J H1 => ∀ D, H1 D = none → CompW J g tt te (fun D H2 => Q (.ref D) H2) D (compSt xs fr σ) (upd H1 D (.lst []))
/-- x = [elt for tg in iter if ..], x in the i-th slot -/
def sComp (i : Nat) (xs : List Str) (fr : List Nat) (wi : TI) (g : TG) (tt : TT) (te : TE) : TS := fun E σ H => wi σ H fun J H1 => ∀ D, H1 D = none → CompW J g tt te (fun D H2 => E.nx (σ.set i (some (.ref D))) H2) D (compSt xs fr σ) (upd H1 D (.lst []))

section
variable {X : Cx}
theorem comp_block {osc scope : Scope} {N0 xs : List Str} {fr : List Nat} {pins : List (Addr × Obj)} {σ : St} {H2 : Hp} {s2 : Shared} {fp : List Addr} {it : Addr} {tn : Nat → Heap → Prop} {J : It} {elt tg iter : Expr} {ifs : List Expr} {pos : Pos}
    {g : TG} {tt : TT} {te : TE} {E : Value → Shared → Prop} {R : Addr → Hp → Prop} {RR : Value → Addr → Result → Shared → Prop} (C : CompTx osc scope N0 xs fr) (ho : X.env.scope = osc) (hN0 : X.N = N0) (hc : X.calm = true)
    (hg : ∀ s H fp, PG (cxComp X scope (compN N0 xs fr) s H fp) tg g) (ht : ∀ s H fp, PIf (cxComp X scope (compN N0 xs fr) s H fp) ifs tt) (he : ∀ s H fp, PE (cxComp X scope (compN N0 xs fr) s H fp) elt te)
    (I2 : Inv X pins σ H2 s2) (T : Turn X.prog X.w X.K tg J fp it tn) (st2 : tn 0 s2.heap) (f2 : ∀ b ∈ fp, FpOk X pins H2 b)
    (hR : ∀ D, H2 D = none → CompW J g tt te R D (compSt xs fr σ) (upd H2 D (.lst [])))
    (hRR : ∀ (D C : Addr) (s' : Shared) (H' : Hp) (m : Str → Option Value), Inv X pins σ H' s' → s'.heap.Ns C m → FpOk X pins H' C → R D H' → RR (.ref D) C (.ok .next) s') :
    wpAny (model X.prog X.w) X.A (newList []) (fun acc s₃ => wpAny (model X.prog X.w) X.A (newFunctionEnv scope X.env.globals (closL X.env scope.names) [] X.env.qual none .none (some X.env)) (fun cenv s₄ =>
      codeAny (model X.prog X.w) X.A (.compStart (.ListComp elt [⟨tg, iter, ifs, 0⟩] scope pos) 0 (.ref it) acc { cenv with scope := relabel scope X.env }) (RR acc cenv.locals) s₄) E s₃) E s2 := by
  refine wpAny_newObj_type (wpAny_newFunctionEnv C.nocell (by intro y hy; simp at hy) (fun h₁ hns₁ hsb₁ => ?_) C.kind)
  dsimp only at hns₁ hsb₁ ⊢
  have I3 : Inv X pins σ (upd H2 s2.heap.objs.size (.lst [])) { s2 with heap := s2.heap.push { cls := .type "list", data := .seq ([] : List Value).toArray } } := I2.lnew (its := []) (t' := s2.toks) .nil (by simp)
  have flt : ∀ b ∈ fp, b < s2.heap.objs.size := fun b hb => by
    obtain ⟨o, e, _⟩ := T.obj 0 _ st2 b hb
    exact Heap.lt_size e
  have f3 : ∀ b ∈ fp, FpOk X pins (upd H2 s2.heap.objs.size (.lst [])) b := fun b hb => ⟨by rw [upd_ne (Nat.ne_of_lt (flt b hb))]; exact (f2 b hb).1, (f2 b hb).2⟩
  have flt3 : ∀ b ∈ fp, b < (s2.heap.push { cls := .type "list", data := .seq ([] : List Value).toArray }).objs.size := fun b hb => by
    rw [Heap.size_push]
    exact Nat.lt_succ_of_lt (flt b hb)
  obtain ⟨W, ⟨m0, w0⟩, turn⟩ := hR s2.heap.objs.size I2.fresh
  generalize hD : s2.heap.objs.size = D at *
  generalize hs3 : s2.heap.push { cls := .type "list", data := .seq ([] : List Value).toArray } = h3 at *
  have up2 : ∀ b o, s2.heap.get? b = some o → h3.get? b = some o := fun b o e => by rw [← hs3]; exact Heap.get?_push_of_some _ e
  have old : ∀ b o, h3.get? b = some o → h₁.get? b = some o := fun b o e => hsb₁.extBut b o (Nat.ne_of_lt (Heap.lt_size e)) (Heap.get?_push_of_some _ e)
  have Ic := comp_start (tk := s2.toks + ([] : List (Str × Value)).length) C ho hN0 I3 f3 flt3 hns₁ old
  have st4 : tn 0 h₁ := T.keep 0 _ _ st2 fun b hb o e => old b o (up2 b o e)
  have stat : ∀ {H' : Hp}, (∀ b ∈ fp, H' b = none) → ∀ b ∈ fp, FpOk (cxComp X scope (compN N0 xs fr) { s2 with heap := h3 } (upd H2 D (.lst [])) fp) [] H' b := fun hn b hb =>
    ⟨hn b hb, Nat.ne_of_lt (flt3 b hb), fun z => by
      rcases List.mem_cons.mp (I3.stkSub b z) with q | q
      · exact (f3 b hb).2.1 q
      · exact (f3 b hb).2.2.1 q, .inl hb, fun x c h => (Ic.ok.exf b hb).2 x c h, fun p hp => absurd (show p ∈ ([] : List (Addr × Obj)) from hp) (by simp)⟩
  have fin : ∀ {σ' : St} {H' : Hp} {s' : Shared}, Inv (cxComp X scope (compN N0 xs fr) { s2 with heap := h3 } (upd H2 D (.lst [])) fp) [] σ' H' s' → R D H' → RR (.ref D) h3.objs.size (.ok .next) s' := fun {σ' H' s'} I' q => by
    obtain ⟨m, hm, _⟩ := I'.loc
    refine hRR D h3.objs.size s' H' m (I3.call' I'.os I'.base I'.hok I'.bare fun b hb => ?_) hm (I3.fpOk (Nat.le_refl _) I'.free) q
    exact ⟨(f3 b hb).2.2.2.1, (f3 b hb).2.1, (f3 b hb).2.2.2.2.1, (f3 b hb).2.2.2.2.2⟩
  have loop : codeAny (model X.prog X.w) X.A (.compLoop (.ListComp elt [⟨tg, iter, ifs, 0⟩] scope pos) 0 (.ref it) (.ref D) (compEnvC scope (closL X.env scope.names) h3.objs.size X.env)) (RR (.ref D) h3.objs.size) { s2 with heap := h₁, toks := s2.toks + ([] : List (Str × Value)).length } := by
    refine codeAny_loop rfl (fun n s' => ∃ i σ' H', Inv (cxComp X scope (compN N0 xs fr) { s2 with heap := h3 } (upd H2 D (.lst [])) fp) [] σ' H' s' ∧ tn i s'.heap ∧ (∀ b ∈ fp, H' b = none) ∧ W i n σ' H') (fun n s' hI => ?_) m0 ⟨0, _, _, Ic, st4, fun b hb => (f3 b hb).1, w0⟩
    show wpAny _ X.A ((compTurn (.ListComp elt [⟨tg, iter, ifs, 0⟩] scope pos) 0 (.ref it) (.ref D) (compEnvC scope (closL X.env scope.names) h3.objs.size X.env)).onRaise (fun x => do noteFrame x (compEnvC scope (closL X.env scope.names) h3.objs.size X.env); theTreesLotGoes x)) _ _ s'
    refine wpAny_noted ?_
    rw [compTurn_list]
    obtain ⟨i, σ', H', I', st', fr', w'⟩ := hI
    refine wpAny_bind (wpAny_standAt (wpAny_bind ?_))
    rcases turn i n σ' H' w' with ⟨stop, q⟩ | ⟨go, N, M, hN, hM, step⟩
    · refine thn (T.done (cxComp X scope (compN N0 xs fr) { s2 with heap := h3 } (upd H2 D (.lst [])) fp) rfl rfl rfl hc i [] s' σ' H' _ I' (stat fr') st' stop) fun r s4 ⟨hr, I4⟩ => ?_
      subst hr
      exact wpAny_pure (fin I4 q)
    · refine thn (T.item (cxComp X scope (compN N0 xs fr) { s2 with heap := h3 } (upd H2 D (.lst [])) fp) rfl rfl rfl hc i [] s' σ' H' _ I' (stat fr') st' go) fun r s4 ⟨u, hr, h4⟩ => ?_
      subst hr
      refine wpAny_bind (thn h4 fun _ s5 ⟨x, H5, I5, r5, y5, st5, fr5⟩ => ?_)
      have I5' := I5.pinned (stat fr5) (T.obj _ _ st5)
      have again : ∀ {σ7 : St} {H7 : Hp} {s7 : Shared}, Inv (cxComp X scope (compN N0 xs fr) { s2 with heap := h3 } (upd H2 D (.lst [])) fp) ([] ++ pinsAt fp s5.heap) σ7 H7 s7 → (∃ m', m' < n ∧ W (i + 1) m' σ7 H7) →
          ∃ m, m < n ∧ ∃ i σ' H', Inv (cxComp X scope (compN N0 xs fr) { s2 with heap := h3 } (upd H2 D (.lst [])) fp) [] σ' H' s7 ∧ tn i s7.heap ∧ (∀ b ∈ fp, H' b = none) ∧ W i m σ' H' := fun {σ7 H7 s7} I7 n7 => by
        obtain ⟨m', hm, w7⟩ := n7
        refine ⟨m', hm, i + 1, σ7, H7, I7.unpinned, T.keep _ _ _ st5 fun b hb o e => (I7.pin (b, o) (List.mem_append_right _ (List.mem_append_right _ (mem_pinsAt hb e)))).1, fun b hb => ?_, w7⟩
        obtain ⟨o, e, d⟩ := T.obj _ _ st5 b hb
        exact (I7.pin (b, o) (List.mem_append_right _ (List.mem_append_right _ (mem_pinsAt hb e)))).2.1
      refine wpAny_bind (wpAny_mono (hg _ _ _ _ s5 σ' H5 x u _ I5' r5 (step x H5 y5)) (fun _ s6 ⟨σ6, H6, I6, q6⟩ => ?_) fun _ _ z => False.elim z)
      refine wpAny_bind (wpAny_mono (ht _ _ _ _ s6 σ6 H6 _ I6 q6) (fun ok s7 ⟨H7, I7, q7⟩ => ?_) fun _ _ z => False.elim z)
      cases ok with
      | false =>
        rw [if_neg Bool.false_ne_true] at q7
        exact wpAny_pure ⟨rfl, again I7 (hM _ _ q7)⟩
      | true =>
        rw [if_pos rfl] at q7
        refine wpAny_bind (wpAny_bind (wpAny_mono (he _ _ _ _ s7 σ6 H7 _ I7 q7) (fun y s8 ⟨v, H8, I8, r8, q8⟩ => ?_) fun _ _ z => False.elim z))
        obtain ⟨ys, eD, hz, q8⟩ := hN _ _ _ q8
        refine wpAny_bind (wpAny_mono (mt_append (X := cxComp X scope (compN N0 xs fr) { s2 with heap := h3 } (upd H2 D (.lst [])) fp) _ s8 σ6 H8 (.ref D) [v] (.ref D) [y] (fun _ H9 => ∃ m', m' < n ∧ W (i + 1) m' σ6 H9) I8 rfl (.cons r8 .nil) ⟨D, ys, v, rfl, rfl, eD, hz, q8⟩) (fun _ s9 ⟨_, H9, I9, _, q9⟩ => ?_) fun _ _ z => False.elim z)
        exact wpAny_pure (wpAny_pure ⟨rfl, again I9 q9⟩)
  exact codeAny_compStart_list loop (T.self X.A 0 _ _ _ st4 loop)

variable {osc scope : Scope} {N0 xs : List Str} {fr : List Nat} {elt tg iter : Expr} {ifs : List Expr} {pos : Pos} {wi : TI} {g : TG} {tt : TT} {te : TE}
theorem pe_comp (C : CompTx osc scope N0 xs fr) (ho : X.env.scope = osc) (hN0 : X.N = N0) (hc : X.calm = true) (hi : PI X tg iter wi)
    (hg : ∀ s H fp, PG (cxComp X scope (compN N0 xs fr) s H fp) tg g) (ht : ∀ s H fp, PIf (cxComp X scope (compN N0 xs fr) s H fp) ifs tt) (he : ∀ s H fp, PE (cxComp X scope (compN N0 xs fr) s H fp) elt te)
    (hs : ∀ x, foldedSetIterable iter X.env x = pure x := by intro _; rfl) : PE X (.ListComp elt [⟨tg, iter, ifs, 0⟩] scope pos) (tComp xs fr wi g tt te) := by
  intro pins s σ H Q I h
  rw [eval_ListComp]
  refine wpAny_comprehension_free (use := none) rfl hs (clos_ok (comp_free C ho I)) C.kind C.names (thn (hi pins s σ H _ I h) fun v s1 h1 => thn h1 fun itv s2 h2 => ?_)
  obtain ⟨it, fp, tn, J, H2, e, I2, T, st2, f2, hR⟩ := h2
  subst e
  refine comp_block C ho hN0 hc hg ht he I2 T st2 f2 hR fun D C s' H' m I' hm fC q => ?_
  refine ⟨m, hm, fun h' sb => ⟨.ref D, H', ?_, rfl, q⟩⟩
  exact I'.turned (t' := s'.toks) (fun b o hb e => (sb.2 b hb).trans e) fC.1 fC.2.1 fC.2.2.2.1 fC.2.2.2.2.1 fC.2.2.2.2.2
theorem ps_comp {i : Nat} {y : Str} {py spos : Pos} (C : CompTx osc scope N0 xs fr) (ho : X.env.scope = osc) (hN0 : X.N = N0) (hc : X.calm = true) (hi : PI X tg iter wi)
    (hg : ∀ s H fp, PG (cxComp X scope (compN N0 xs fr) s H fp) tg g) (ht : ∀ s H fp, PIf (cxComp X scope (compN N0 xs fr) s H fp) ifs tt) (he : ∀ s H fp, PE (cxComp X scope (compN N0 xs fr) s H fp) elt te)
    (hN : X.N.Nodup) (hy : X.N[i]? = some y) (hx : Loc X.env.scope y)
    (hsw : swapsWith (.ListComp elt [⟨tg, iter, ifs, 0⟩] scope pos) (some (.Name y py)) spos.line X.env = pure true := by rfl)
    (hf : X.fn y = true ∨ X.env.scope.names.lookup y = some .local := by first | exact .inl rfl | exact .inr rfl | assumption)
    (hs : ∀ x, foldedSetIterable iter X.env x = pure x := by intro _; rfl) : PS X (.Assign [.Name y py] (.ListComp elt [⟨tg, iter, ifs, 0⟩] scope pos) spos) (sComp i xs fr wi g tt te) := by
  intro pins s σ H D I h
  rw [exec_Assign_Name_used _ _ _ _ hsw]
  refine wpAny_bind (wpAny_standAt (wpAny_bind ?_))
  show wpAny _ X.A (do let _ ← comprehension (.ListComp elt [⟨tg, iter, ifs, 0⟩] scope pos) scope X.env _ (newList []) false (eval iter X.env) (some (assign (.Name y py) X.env))) _ _ s
  refine wpAny_bind (wpAny_mono (wpAny_comprehension_free (use := some (assign (.Name y py) X.env)) (Q := fun _ s' => SP X pins D .next s') rfl hs (clos_ok (comp_free C ho I)) C.kind C.names
    (thn (hi pins s σ H _ I h) fun v s1 h1 => thn h1 fun itv s2 h2 => ?_)) (fun _ s' hq => wpAny_pure (wpAny_pure hq)) fun _ _ e => e)
  obtain ⟨it, fp, tn, J, H2, e, I2, T, st2, f2, hR⟩ := h2
  subst e
  refine comp_block C ho hN0 hc hg ht he I2 T st2 f2 hR fun Dl C s' H' m I' hm fC q => ?_
  refine wpAny_assign_Name (store_ok2 I' hN hy hx (show RelV (.ref Dl) (.ref Dl) from rfl) (fun s3 I3 hsb => ?_) hf)
  obtain ⟨a, sb, ha⟩ := hsb
  have hCa : C ≠ a := by
    rcases ha with z | z
    · rw [z]; exact fC.2.1
    · exact fun w => fC.2.2.2.2.1 y a z w.symm
  refine ⟨m, hm.sameBut sb hCa, fun h' sb' => ⟨_, H', ?_, q⟩⟩
  exact I3.turned (t' := s3.toks) (fun b o hb e => (sb'.2 b hb).trans e) fC.1 fC.2.1 fC.2.2.2.1 fC.2.2.2.2.1 fC.2.2.2.2.2
end

/-! ### a text, walked sign by sign -/
section
variable {X : Cx} {tg : Expr}
/-! ### all, any of a list of truths -/
/-! ### isinstance(x, T), T a built-in type -/
theorem call_isi : CallR X (.builtin "isinstance") (fun xs H Q => ∃ x n t b, xs = [x, .ty n] ∧ TyOf X.K H x t ∧ PySem.W.kitOne X.K t (.type n) = some b ∧ Q (.bl b) H) := by
  intro pins s σ H xs us Q I r h
  obtain ⟨x, n, t, b, rfl, ty, e, q⟩ := h
  obtain ⟨u, w', rfl, rx, rc⟩ := vals2 r
  cases (show w' = Value.type n from rc)
  exact isinst_ok I rx ty e fun tk => ⟨.bl b, H, I.tok tk, rfl, q⟩

/-! ### products of any two ints that the model multiplies -/
end

/-! ### slices of a text -/
section
variable {X : Cx}
theorem sl_str : SlR X (fun x lo hi H Q => ∃ z, x = .str z ∧ z.length ≤ sizeLine ∧ Q (.str (Txt.slice z lo hi)) H) := by
  intro pins s σ H x v vl vu lo hi sl Q I rx hs pl pu h
  obtain ⟨z, rfl, hz, q⟩ := h
  obtain ⟨t, rfl⟩ := rx
  refine ⟨"str", _, F.slot_str_getitem.lookup, typeIs_str _ _ _, ?_⟩
  obtain ⟨o, e1, e2, e3⟩ := hs
  have fin : ∀ (l u : Option (Int × Tok)), vl = partValue l → vu = partValue u → l.map (·.1) = lo → u.map (·.1) = hi → wpAny (model X.prog X.w) X.A (getItem (.str z t) (.ref sl)) (EP X pins σ Q) X.xe s := by
    intro l u h1 h2 h3 h4
    subst h1 h2 h3 h4
    refine wpAny_getItem_str_slice (l := l) (u := u) (st := none) ⟨o, e1, e2, e3⟩ rfl (post_val_or_str ⟨Nat.le_trans (Txt.slice_le z (l.map (·.1)) (u.map (·.1))) hz, fun t' k => ?_⟩)
    exact ⟨.str (Txt.slice z (l.map (·.1)) (u.map (·.1))), H, I.tok k, ⟨t', rfl⟩, q⟩
  cases pl with
  | none =>
    cases pu with
    | none => exact fin none none rfl rfl rfl rfl
    | int j tj => exact fin none (some (j, tj)) rfl rfl rfl rfl
  | int i ti =>
    cases pu with
    | none => exact fin (some (i, ti)) none rfl rfl rfl rfl
    | int j tj => exact fin (some (i, ti)) (some (j, tj)) rfl rfl rfl rfl
end
theorem slice_to (x : Str) {k : Int} (h0 : 0 ≤ k) (h1 : k ≤ x.length) : (Txt.slice x none (some k)).cps.toList = x.cps.toList.take k.toNat := by
  have e : Txt.slice x none (some k) = StrLaws.sliceText x none (some k) := rfl
  rw [e, StrLaws.sliceText_to ⟨h0, by simpa [Str.length] using h1⟩]
  simp
theorem slice_from (x : Str) {k : Int} (h0 : 0 ≤ k) (h1 : k ≤ x.length) : (Txt.slice x (some k) none).cps.toList = x.cps.toList.drop k.toNat := by
  have e : Txt.slice x (some k) none = StrLaws.sliceText x (some k) none := rfl
  rw [e, StrLaws.sliceText_from ⟨h0, by simpa [Str.length] using h1⟩]
  show (((x.cps.toList.drop k.toNat).take ((x.cps.toList.length : Int) - k).toNat).toArray).toList = _
  rw [List.toList_toArray]
  refine List.take_of_length_le ?_
  rw [List.length_drop]
  omega

/-! ### a comprehension without tests whose i-th item is ev i -/
theorem compW_map {J : It} {g : TG} {te : TE} {R : Addr → Hp → Prop} {D : Addr} {σ0 : St} {H0 : Hp} (n : Nat) (ev : Nat → V) (Pv : Nat → St → Hp → Prop) (hn : n ≤ sizeLine) (h0 : Pv 0 σ0 H0) (hD0 : H0 D = some (.lst []))
    (hs : ∀ i σ H, i < n → Pv i σ H → H D = some (.lst ((List.range i).map ev)) → J.go i H ∧ ∀ x H', J.yld i H x H' → g x σ H' fun σ2 H2 => te σ2 H2 fun y H4 => y = ev i ∧ H4 D = some (.lst ((List.range i).map ev)) ∧ Pv (i + 1) σ2 (upd H4 D (.lst ((List.range (i + 1)).map ev))))
    (hd : ∀ σ H, Pv n σ H → H D = some (.lst ((List.range n).map ev)) → J.stop n H ∧ R D H) : CompW J g tYes te R D σ0 H0 := by
  refine ⟨fun i m σ H => m = n - i ∧ i ≤ n ∧ Pv i σ H ∧ H D = some (.lst ((List.range i).map ev)), ⟨n, by omega, Nat.zero_le _, h0, hD0⟩, ?_⟩
  rintro i m σ H ⟨rfl, hi, p, hD⟩
  by_cases hlt : i < n
  · obtain ⟨go, st⟩ := hs i σ H hlt p hD
    refine .inr ⟨go, fun σ2 y H4 => y = ev i ∧ H4 D = some (.lst ((List.range i).map ev)) ∧ Pv (i + 1) σ2 (upd H4 D (.lst ((List.range (i + 1)).map ev))), fun _ _ => False, ?_, fun _ _ z => z.elim, st⟩
    rintro σ2 y H4 ⟨rfl, e, p'⟩
    refine ⟨_, e, by simp; omega, n - (i + 1), by omega, rfl, hlt, ?_, ?_⟩
    · rw [List.range_succ, List.map_append] at p'
      exact p'
    · rw [upd_same, List.range_succ, List.map_append]
      rfl
  · have e : i = n := by omega
    subst e
    exact .inl (hd σ H p hD)
/-! ### types under a grown heap -/
theorem Same.upd {H : Hp} {D : Addr} {o : HO} (h : H D = none) : Same H (L2.upd H D o) := fun b u e => by
  rw [upd_ne (ne_of_none e h)]
  exact e
/-! ### a block in two parts -/
end L2

namespace L2
open PySem PySem.Spec PyProof.Rows
/-! ### isinstance by two built-in types -/
def kitTy (a b : String) : Option Bool := if (Value.type a == Value.type b) = true then some true else if PySem.W.kitMeta b = true then (fastBuiltinMro a).map (·.contains (.type b)) else none
theorem kit_eq {K : PySem.W.Frag} {a b : String} : PySem.W.kitOne K (.type a) (.type b) = kitTy a b := rfl
/-! ### a def of the top -/
def DefIn (K : PySem.W.Frag) (x : Str) (st : Stmt) : Prop := ∃ (f : Addr) (oc : Value) (od : Option Addr) (kV doc pm : Value) (an : Option Addr) (cdv ct : Value) (osl : Array (Option Value)),
  PySem.W.nsIn K mainGlobals x = some (some (.ref f)) ∧ K.lookup f = some ⟨oc, od, .func (PySem.W.fnOf x x (defArgs st) (defBody st) (defScope st) .none kV doc pm an cdv ct), osl⟩ ∧ PySem.W.codeIn K cdv x = true ∧ PySem.W.keepIn K (.ref f) = true
theorem defIn_mk {K : PySem.W.Frag} {x : Str} {st : Stmt} {f : Addr} {oc : Value} {od an : Option Addr} {osl : Array (Option Value)} {kV doc pm cdv ct : Value} (a : PySem.W.nsIn K mainGlobals x = some (some (.ref f)))
    (l : K.lookup f = some ⟨oc, od, .func (PySem.W.fnOf x x (defArgs st) (defBody st) (defScope st) .none kV doc pm an cdv ct), osl⟩) (c : PySem.W.codeIn K cdv x = true) (k : PySem.W.keepIn K (.ref f) = true) : DefIn K x st :=
  ⟨f, oc, od, kV, doc, pm, an, cdv, ct, osl, a, l, c, k⟩
/-- .. as a body that calls it sees it -/
structure Df (K : PySem.W.Frag) (mg : Str → Option Value) (x : Str) (st : Stmt) (f : Addr) (fd : FuncData) : Prop where
  fn : Fun K x x st f fd
  mg : mg x = some (.ref f)
theorem DefIn.df {K : PySem.W.Frag} {h : Heap} {mg : Str → Option Value} {x : Str} {st : Stmt} (d : DefIn K x st) (X : K.In h) (G : h.Ns mainGlobals mg) : ∃ f fd, Df K mg x st f fd := by
  obtain ⟨f, oc, od, kV, doc, pm, an, cdv, ct, osl, a, l, c, k⟩ := d
  exact ⟨f, _, fun_mk l c k, PySem.W.mg_of X G a⟩
end L2

namespace PySem.SeqAt
open MeetsSeq
open AutoSeq1 (wpAny_loadPart')
/-! ### a dict and a text are never equal -/
section
variable {A : Around} {s : Shared}
end
end PySem.SeqAt

namespace L2
open PySem PySem.Spec PyProof.Rows
/-! ### things, without the heap -/
section
variable {X : Cx} {pins : List (Addr × Obj)} {σ : St} {H : Hp} {s : Shared}
end
end L2

namespace My
open PySem L2 PyProof.Rows
theorem pos {j : Int} (h : decide ((0 : Int) < j) = true) : 0 < j := of_decide_eq_true h
/-! ### the law's cells -/
theorem boot_isi : bootBuiltins "isinstance" = some (.builtin "isinstance") := by decide +kernel
theorem boot_list : bootBuiltins "list" = some (.type "list") := by decide +kernel
theorem boot_tuple : bootBuiltins "tuple" = some (.type "tuple") := by decide +kernel
theorem boot_dict : bootBuiltins "dict" = some (.type "dict") := by decide +kernel
/-- the built-ins are not the text's own -/
structure Bl (mg : Str → Option Value) : Prop where
  len : mg "len" = none
  isi : mg "isinstance" = none
  int : mg "int" = none
  bool : mg "bool" = none
  str : mg "str" = none
  all : mg "all" = none
  range : mg "range" = none
  abs : mg "abs" = none
  ord : mg "ord" = none
  list : mg "list" = none
  tuple : mg "tuple" = none
  dict : mg "dict" = none
  any : mg "any" = none
  sorted : mg "sorted" = none
  set : mg "set" = none
  enum : mg "enumerate" = none

/-- .. as the top has left them -/
structure BlK (K : PySem.W.Frag) : Prop where
  len : PySem.W.nsIn K mainGlobals "len" = some none
  isi : PySem.W.nsIn K mainGlobals "isinstance" = some none
  int : PySem.W.nsIn K mainGlobals "int" = some none
  bool : PySem.W.nsIn K mainGlobals "bool" = some none
  str : PySem.W.nsIn K mainGlobals "str" = some none
  all : PySem.W.nsIn K mainGlobals "all" = some none
  range : PySem.W.nsIn K mainGlobals "range" = some none
  abs : PySem.W.nsIn K mainGlobals "abs" = some none
  ord : PySem.W.nsIn K mainGlobals "ord" = some none
  list : PySem.W.nsIn K mainGlobals "list" = some none
  tuple : PySem.W.nsIn K mainGlobals "tuple" = some none
  dict : PySem.W.nsIn K mainGlobals "dict" = some none
  any : PySem.W.nsIn K mainGlobals "any" = some none
  sorted : PySem.W.nsIn K mainGlobals "sorted" = some none
  set : PySem.W.nsIn K mainGlobals "set" = some none
  enum : PySem.W.nsIn K mainGlobals "enumerate" = some none

theorem BlK.bl {K : PySem.W.Frag} {h : Heap} {mg : Str → Option Value} (b : BlK K) (X : K.In h) (G : h.Ns mainGlobals mg) : Bl mg :=
  ⟨PySem.W.mg_none_of X G b.len, PySem.W.mg_none_of X G b.isi, PySem.W.mg_none_of X G b.int, PySem.W.mg_none_of X G b.bool, PySem.W.mg_none_of X G b.str, PySem.W.mg_none_of X G b.all, PySem.W.mg_none_of X G b.range, PySem.W.mg_none_of X G b.abs, PySem.W.mg_none_of X G b.ord, PySem.W.mg_none_of X G b.list, PySem.W.mg_none_of X G b.tuple, PySem.W.mg_none_of X G b.dict, PySem.W.mg_none_of X G b.any, PySem.W.mg_none_of X G b.sorted, PySem.W.mg_none_of X G b.set, PySem.W.mg_none_of X G b.enum⟩
theorem iteB {b : Bool} {A B : Prop} (h : b = true) (a : A) : if b = true then A else B := by rw [if_pos h]; exact a
theorem iteC {b : Bool} {A B : Prop} (h : b = false) (a : B) : if b = true then A else B := by rw [h, if_neg Bool.false_ne_true]; exact a
def spLaw (K : PySem.W.Frag) : Sp := fun vs H Q _ => ∃ (a : Addr) (ns : List Int), vs = [.ref a] ∧ SqL K H a (ns.map V.int) ∧ ns.length ≤ 63 ∧ ∀ H', Q (.bl true) H'
theorem walk (k : Nat) {l : PySem.W.OpenLaw} {q : Program} {loose : List Str} {XP : (Str → Option Value) → Heap → Prop} {YP : World → Heap → Prop} {d : DefRec} {K : Params → PySem.W.Frag} (hk : Room k callerA) (hn : l.most = some 63) (hdf : d.params.defaults = [])
    (hY : ∀ (w : World) (h : Heap), YP w h → (K w.params).In h)
    (F : ∀ (w : World) (mg : Str → Option Value) (fa : Addr) (h : Heap), (K w.params).In h → h.Ns mainGlobals mg → mg d.name = some (.ref fa) →
      ∃ fd : FuncData, (∀ (s : Shared) (u : Value), BindsTo s fd ⟨[u], []⟩ [("_law_script", u)]) ∧ ∀ base : Heap, (K w.params).In base → base.Ns mainGlobals mg → FnOk l.prog w (K w.params) mg base CX0 k fa fd ["_law_script"] (spLaw (K w.params))) :
    PySem.W.WalkO q loose XP YP l.row.toRowW d [] (fun f vs => PySem.call f vs) :=
  L2.walk_of (n := 63) (k := k) (x := "_law_script") (CX := fun _ => CX0) (sp := fun w => spLaw (K w.params)) hn (by decide) hdf hk hY F (fun _ _ a ns hl _ hS => ⟨a, ns, rfl, hS, hl, fun _ => rfl⟩) fun _ _ _ _ _ z => z
end My

namespace L2
open PySem PySem.Spec PyProof.Rows
section
variable {X : Cx}
/-- text * n, n from 2 on -/
theorem op_mulSI : OpR X (binaryOp .Mult) (fun x y H Q => ∃ (z : Str) (n : Nat), x = .str z ∧ y = .int n ∧ 1 < n ∧ n < 1000 ∧ 0 < z.length ∧ z.length ≤ 10000 ∧ Q (.str ⟨(List.replicate n z.cps).foldl (· ++ ·) #[]⟩) H) := by
  intro pins s σ H x y v u Q I rx ry h
  obtain ⟨z, n, rfl, rfl, h1, h2, h3, h4, q⟩ := h
  obtain ⟨t, rfl⟩ := rx
  obtain ⟨t', rfl⟩ := ry
  have e1 : ¬ ((n : Int) < 1) := by omega
  have e2 : ((n : Int) == 1 || z.length == 0) = false := by
    rw [Bool.or_eq_false_iff, beq_eq_false_iff_ne, beq_eq_false_iff_ne]
    exact ⟨by omega, by omega⟩
  have hT : Builtin.Str.tooLong (z.length * (n : Int).toNat) = false := by
    have hm : z.length * (n : Int).toNat ≤ 10000 * 1000 := Nat.mul_le_mul h4 (by omega)
    have hs : sizeLine = 16777216 := sizeLine_eq
    unfold PySem.Builtin.Str.tooLong
    exact decide_eq_false (by omega)
  refine P.mul_str (by rw [decide_eq_false (by omega), decide_eq_false (by omega)]; rfl) (fun _ _ => ?_) (fun _ _ => ?_) ?_
  · have : (1000 : Int) ≤ (2 ^ 63 - 1) / (n : Int) / 10 := by
      rw [Int.ediv_ediv_of_nonneg (by omega)]
      apply Int.le_ediv_of_mul_le (by omega)
      omega
    omega
  · exact hT
  · rw [if_neg e1, if_neg (by rw [e2]; decide)]
    refine ⟨fits_reps ?_, .str _, H, I.tok _, ⟨_, rfl⟩, q⟩
    exact hT
end
end L2

namespace Nm
open PySem PySem.NumText PySem.W PyProof.Rows
end Nm

/-! TOKENS (own work): rules that know that the count of tokens has reached n, and calls that show the value itself. -/
namespace L2
open PySem PySem.Spec PyProof.Rows

section
variable {n : Nat} {X : Cx} {st : Stmt} {rest : List Stmt} {t u : TS} {e a b : Expr} {te ta tb : TE} {pos : Pos}
end

/-! ### defs -/
section
variable {P : Program} {w : World} {K : PySem.W.Frag} {mg : Str → Option Value} {base : Heap}
end

section
variable {n : Nat} {X : Cx} {k : Nat} {f : Addr} {fd : FuncData} {ps : List Str} {sp : SpW} {x : Str} {p pos : Pos} {e : Expr} {es : List Expr} {t : TA}
end
end L2

namespace L2
open PySem PySem.Spec PyProof.Rows
/-! ### a comprehension whose element asks the count of tokens -/
section
variable {n : Nat} {X : Cx}
variable {osc scope : Scope} {N0 xs : List Str} {fr : List Nat} {elt tg iter : Expr} {ifs : List Expr} {pos : Pos} {wi : TI} {g : TG} {tt : TT} {te : TE}
end

end L2

namespace L2
open PySem PySem.Spec PyProof.Rows
section
variable {n : Nat} {X : Cx} {pins : List (Addr × Obj)} {s : Shared} {σ : St} {H : Hp}
/-! ### texts with known tokens -/
end
end L2

namespace L2
open PySem PySem.Spec PyProof.Rows
section
variable {P : Program} {w : World} {K : PySem.W.Frag} {mg : Str → Option Value} {base : Heap}
end
end L2

namespace L2
open PySem PySem.Spec PyProof.Rows
end L2

/-! EXCEPTIONS WITH A DICT OF THEIR OWN (own work): what a frame that is left writes. -/
namespace L2
open PySem
/-- the head of a traceback: none, or a record of ours -/
def Tb (h : Heap) (P : Addr → Prop) (x : Addr) (fl v : Value) : Prop :=
  (v = .none ∧ fl = .none) ∨ ∃ T oT ts, v = .ref T ∧ P T ∧ T ≠ x ∧ h.get? T = some oT ∧ oT.data = .fields ts ∧ ts[3]? = some fl
/-- an exception: its class, its own dict, its traceback's mark of flight -/
def XAt (h : Heap) (P : Addr → Prop) (x : Addr) (C : Value) (od : Option Addr) (fl : Value) : Prop :=
  ∃ vs sl v1, h.get? x = some ⟨C, od, .fields vs, sl⟩ ∧ vs[1]? = some v1 ∧ Tb h P x fl v1
/-- what noting a frame may change: the exception, its records, the slots of frames -/
structure Nt (P : Addr → Prop) (fr : List Addr) (x : Addr) (h h' : Heap) : Prop where
  chg : ∃ ch : List Addr, (∀ b ∈ ch, b = x ∨ P b ∧ ∃ o vs, h.get? b = some o ∧ o.data = .fields vs) ∧ ∀ b o, h.get? b = some o → b ∉ fr → b ∉ ch → h'.get? b = some o
  frm : ∀ b o, h.get? b = some o → b ∈ fr → ∃ sl, h'.get? b = some { o with slots := sl }
  thr : ∀ b o, h.get? b = some o → ∃ o', h'.get? b = some o'
theorem Nt.refl {P : Addr → Prop} {fr : List Addr} {x : Addr} {h : Heap} : Nt P fr x h h := ⟨⟨[], (fun _ z => absurd z (by simp)), fun _ _ e _ _ => e⟩, fun _ o e _ => ⟨o.slots, e⟩, fun _ o e => ⟨o, e⟩⟩
section
variable {M : Model} {A : Around} {E : Value → Shared → Prop} {s : Shared} {base : Heap} {env : Env} {outer : List Env} {L x : Addr} {P : Addr → Prop} {C : Value} {od : Option Addr}
/-- a new record is laid ahead of the head -/
theorem entry_ok {vs : Array Value} {sl : Array (Option Value)} {head : Value} {had : Bool} {Q : Unit → Shared → Prop} (hfr : A.frames = some (env :: outer)) (hl : s.heap.FunFrames base (env :: outer)) (hf : env.frame = some L)
    (hx : s.heap.get? x = some ⟨C, od, .fields vs, sl⟩) (hsz : 1 < vs.size) (hP : ∀ T, s.heap.objs.size ≤ T → P T)
    (h : ∀ h', Nt P ((env :: outer).filterMap (·.frame)) x s.heap h' → XAt h' P x C od (rawInt L) → Q () { s with heap := h' }) :
    wpAny M A (do let a ← frameOf env; let pl ← entryPlaceOf L had; let b ← EntryCells.newEntry head a .none (rawInt L) .none pl; setField (.ref x) 1 b) Q E s := by
  have nx : x ∉ (env :: outer).filterMap (·.frame) := fun hm => by
    obtain ⟨_, o, ho, hnf⟩ := hl.mem hm
    rw [hx] at ho
    cases ho
    exact hnf vs rfl
  refine wpAny_bind (wpAny_frameOf_fun hfr hl hf fun h1 k1 => ?_)
  refine wpAny_bind (wpAny_entryPlaceOf fun pl hpl => ?_)
  unfold EntryCells.newEntry newFields
  refine wpAny_bind (wpAny_newObj_type ?_ (hpl.sizeOk5 _ _ _ _ _))
  generalize ho : (⟨.type "traceback", none, .fields ([head, .ref L, .none, rawInt L, .none] ++ (if pl.isEmpty then List.replicate 6 Value.none else pl)).toArray, #[]⟩ : Obj) = ob
  have x1 : h1.get? x = some ⟨C, od, .fields vs, sl⟩ := (k1.2.1 x nx).trans hx
  have x2 : (h1.push ob).get? x = some ⟨C, od, .fields vs, sl⟩ := Heap.get?_push_of_some _ x1
  have sz : h1.objs.size = s.heap.objs.size := k1.1
  refine wpAny_setField x2 rfl hsz (h _ ?_ ?_)
  · have other : ∀ b o, b ≠ x → h1.get? b = some o → ((h1.push ob).update x (Obj.mapFields (·.setIfInBounds 1 (.ref h1.objs.size)))).get? b = some o := fun b o hb e => by
      rw [Heap.get?_update_other _ _ (Ne.symm hb)]
      exact Heap.get?_push_of_some _ e
    refine ⟨⟨[x], fun b hb => .inl (List.mem_singleton.mp hb), fun b o e hb hc => ?_⟩, fun b o e hb => ?_, fun b o e => ?_⟩
    · exact other b o (fun z => hc (by rw [z]; exact List.mem_singleton.mpr rfl)) ((k1.2.1 b hb).trans e)
    · obtain ⟨sl', e1⟩ := k1.2.2 b o e
      exact ⟨sl', other b _ (fun z => nx (z ▸ hb)) e1⟩
    · by_cases hb : b = x
      · subst hb
        exact ⟨_, Heap.get?_update_self _ x2 rfl⟩
      · obtain ⟨sl', e1⟩ := k1.2.2 b o e
        exact ⟨_, other b _ hb e1⟩
  · have ne : h1.objs.size ≠ x := Nat.ne_of_gt (Heap.lt_size x1)
    refine ⟨_, _, .ref h1.objs.size, Heap.get?_update_self _ x2 rfl, (by show (vs.setIfInBounds 1 _)[1]? = _; simp [hsz]), .inr ⟨h1.objs.size, ob, _, rfl, hP _ (by rw [sz]; exact Nat.le_refl _), ne, ?_, (by rw [← ho]), ?_⟩⟩
    · rw [Heap.get?_update_other _ _ (Ne.symm ne)]
      exact Heap.get?_push_size h1 (by rw [← ho]; rfl)
    · first | (simp; done) | (rcases hpl with rfl | ⟨_, _, _, _, _, _, _, rfl⟩ <;> simp)
theorem Nt.trans {fr : List Addr} {h h1 h2 : Heap} (n1 : Nt P fr x h h1) (n2 : Nt P fr x h1 h2) (fresh : ∀ b o, h.get? b = some o → b ∈ fr → ∀ vs, o.data ≠ .fields vs) : Nt P fr x h h2 := by
  obtain ⟨c1, p1, k1⟩ := n1.chg
  obtain ⟨c2, p2, k2⟩ := n2.chg
  refine ⟨⟨c1 ++ c2.filter (fun b => (h.get? b).isSome), fun b hb => ?_, fun b o e hb hc => ?_⟩, fun b o e hb => ?_, fun b o e => ?_⟩
  · rcases List.mem_append.mp hb with z | z
    · exact p1 b z
    · obtain ⟨z1, z2⟩ := List.mem_filter.mp z
      by_cases hb1 : b ∈ c1
      · exact p1 b hb1
      rcases p2 b z1 with q | ⟨q, o1, vs, e1, d1⟩
      · exact .inl q
      · refine .inr ⟨q, ?_⟩
        cases g : h.get? b with
        | none => rw [g] at z2; cases z2
        | some o =>
          by_cases hfr : b ∈ fr
          · obtain ⟨sl, e2⟩ := n1.frm b o g hfr
            rw [e1] at e2
            cases e2
            exact absurd d1 (fresh b o g hfr vs)
          · have e2 := k1 b o g hfr hb1
            rw [e1] at e2
            cases e2
            exact ⟨_, vs, rfl, d1⟩
  · have m1 : b ∉ c1 := fun z => hc (List.mem_append_left _ z)
    have m2 : b ∉ c2 := fun z => hc (List.mem_append_right _ (List.mem_filter.mpr ⟨z, by rw [e]; rfl⟩))
    exact k2 b o (k1 b o e hb m1) hb m2
  · obtain ⟨sl, e1⟩ := n1.frm b o e hb
    obtain ⟨sl2, e2⟩ := n2.frm _ _ e1 hb
    exact ⟨sl2, e2⟩
  · obtain ⟨o1, e1⟩ := n1.thr b o e
    exact n2.thr _ _ e1
/-- noteFrame: the frame is written down -/
theorem note_ok {Q : Unit → Shared → Prop} (hfr : A.frames = some (env :: outer)) (hl : s.heap.FunFrames base (env :: outer)) (hf : env.frame = some L)
    (hx : XAt s.heap P x C od .none) (hP : ∀ T, s.heap.objs.size ≤ T → P T)
    (h : ∀ h', Nt P ((env :: outer).filterMap (·.frame)) x s.heap h' → XAt h' P x C od (rawInt L) → Q () { s with heap := h' }) : wpAny M A (noteFrame (.ref x) env) Q E s := by
  obtain ⟨vs, sl, v1, ex, e1, tb⟩ := hx
  have hsz : 1 < vs.size := (Array.getElem?_eq_some_iff.mp e1).1
  unfold noteFrame
  simp only [hf]
  refine wpAny_bind (wpAny_field ex rfl e1 ?_)
  rcases tb with ⟨rfl, _⟩ | ⟨T, oT, ts, rfl, pT, nT, eT, dT, fT⟩
  · rw [if_neg (by decide)]
    exact entry_ok hfr hl hf ex hsz hP h
  · rw [if_pos (show (Value.ref T != Value.none) = true from by simp)]
    refine wpAny_bind (wpAny_field eT dT fT ?_)
    rw [if_neg (show ¬ ((Value.none == rawInt L) = true) from by simp [rawInt])]
    refine wpAny_bind (wpAny_setField eT dT (Array.getElem?_eq_some_iff.mp fT).1 ?_)
    have oth : ∀ b, b ≠ T → (s.heap.update T (Obj.mapFields (·.setIfInBounds 3 Value.none))).get? b = s.heap.get? b := fun b hb => Heap.get?_update_other _ _ (Ne.symm hb)
    have nrec : ∀ b o, s.heap.get? b = some o → (∀ vs, o.data ≠ .fields vs) → b ≠ T := fun b o hb hn q => by
      rw [q, eT] at hb
      cases hb
      exact hn ts dT
    have hl' := hl.of_keeps (h' := s.heap.update T (Obj.mapFields (·.setIfInBounds 3 Value.none))) fun b o hb hn => ⟨o, (oth b (nrec b o hb hn)).trans hb, rfl⟩
    have frn : ∀ b o, s.heap.get? b = some o → b ∈ (env :: outer).filterMap (·.frame) → ∀ vs, o.data ≠ .fields vs := fun b o e hb => by
      obtain ⟨_, o', ho', hn⟩ := hl.mem hb
      rw [e] at ho'
      cases ho'
      exact hn
    have N1 : Nt P ((env :: outer).filterMap (·.frame)) x s.heap (s.heap.update T (Obj.mapFields (·.setIfInBounds 3 Value.none))) := by
      refine ⟨⟨[T], fun b hb => .inr ?_, fun b o e _ hc => ?_⟩, fun b o e hb => ⟨o.slots, ?_⟩, fun b o e => ?_⟩
      · rw [List.mem_singleton.mp hb]
        exact ⟨pT, oT, ts, eT, dT⟩
      · exact (oth b fun z => hc (by rw [z]; exact List.mem_singleton.mpr rfl)).trans e
      · exact (oth b (nrec b o e (frn b o e hb))).trans e
      · by_cases hb : b = T
        · rw [hb]
          exact ⟨_, Heap.get?_update_self _ eT (Obj.isFreed_of_fields (Obj.data_mapFields dT _))⟩
        · exact ⟨o, (oth b hb).trans e⟩
    refine entry_ok (s := { s with heap := s.heap.update T (Obj.mapFields (·.setIfInBounds 3 Value.none)) }) hfr hl' hf ((oth x (Ne.symm nT)).trans ex) hsz (fun T' hT' => hP T' (by rw [← Heap.size_after_update s.heap T]; exact hT')) fun h' n' x' => h h' (N1.trans n' frn) x'
/-- setFlight: the mark is taken away -/
theorem land_ok {fl : Value} {fr : List Addr} {Q : Unit → Shared → Prop} (hx : XAt s.heap P x C od fl) (frn : ∀ b o, s.heap.get? b = some o → b ∈ fr → ∀ vs, o.data ≠ .fields vs)
    (h : ∀ h', Nt P fr x s.heap h' → XAt h' P x C od .none → Q () { s with heap := h' }) : wpAny M A (setFlight (.ref x) none) Q E s := by
  obtain ⟨vs, sl, v1, ex, e1, tb⟩ := hx
  unfold setFlight
  refine wpAny_bind (wpAny_field ex rfl e1 ?_)
  rcases tb with ⟨rfl, _⟩ | ⟨T, oT, ts, rfl, pT, nT, eT, dT, fT⟩
  · rw [if_neg (by decide)]
    exact wpAny_pure (h s.heap .refl ⟨vs, sl, _, ex, e1, .inl ⟨rfl, rfl⟩⟩)
  · rw [if_pos (show (Value.ref T != Value.none) = true from by simp)]
    refine wpAny_setField eT dT (Array.getElem?_eq_some_iff.mp fT).1 (h _ ?_ ?_)
    · refine ⟨⟨[T], fun b hb => .inr ?_, fun b o e _ hc => ?_⟩, fun b o e hb => ⟨o.slots, ?_⟩, fun b o e => ?_⟩
      · rw [List.mem_singleton.mp hb]
        exact ⟨pT, oT, ts, eT, dT⟩
      · rw [Heap.get?_update_other _ _ fun z => hc (by rw [z]; exact List.mem_singleton.mpr rfl)]
        exact e
      · rw [Heap.get?_update_other _ _ fun z => ?_]
        · exact e
        · subst z
          rw [eT] at e
          cases e
          exact frn T oT eT hb ts dT
      · by_cases hb : b = T
        · rw [hb]
          exact ⟨_, Heap.get?_update_self _ eT (Obj.isFreed_of_fields (Obj.data_mapFields dT _))⟩
        · exact ⟨o, by rw [Heap.get?_update_other _ _ (Ne.symm hb)]; exact e⟩
    · refine ⟨vs, sl, .ref T, by rw [Heap.get?_update_other _ _ nT]; exact ex, e1, .inr ⟨T, _, _, rfl, pT, nT, Heap.get?_update_self _ eT (Obj.isFreed_of_fields (Obj.data_mapFields dT _)), Obj.data_mapFields dT _, ?_⟩⟩
      have := (Array.getElem?_eq_some_iff.mp fT).1
      simp [this]
/-- leaving -/
theorem leave_ok {Q : Unit → Shared → Prop} (hfr : A.frames = some (env :: outer)) (hl : s.heap.FunFrames base (env :: outer)) (hf : env.frame = some L)
    (hx : XAt s.heap P x C od .none) (hP : ∀ T, s.heap.objs.size ≤ T → P T)
    (h : ∀ h', Nt P ((env :: outer).filterMap (·.frame)) x s.heap h' → XAt h' P x C od .none → Q () { s with heap := h' }) : wpAny M A (leaving env (.ref x)) Q E s := by
  have frn : ∀ b o, s.heap.get? b = some o → b ∈ (env :: outer).filterMap (·.frame) → ∀ vs, o.data ≠ .fields vs := fun b o e hb => by
    obtain ⟨_, o', ho', hn⟩ := hl.mem hb
    rw [e] at ho'
    cases ho'
    exact hn
  unfold leaving
  refine wpAny_bind (note_ok hfr hl hf hx hP fun h1 n1 x1 => ?_)
  refine land_ok (s := { s with heap := h1 }) (fr := (env :: outer).filterMap (·.frame)) x1 (fun b o e hb => ?_) fun h2 n2 x2 => h h2 (n1.trans n2 frn) x2
  obtain ⟨_, o', ho', hn⟩ := hl.mem hb
  obtain ⟨sl, e1⟩ := n1.frm b o' ho' hb
  have e' : h1.get? b = some o := e
  rw [e1] at e'
  cases e'
  exact hn
end
end L2

/-! EXCEPTIONS IN THE LAYER (own work): how one lies behind a call, how it passes, raise, try. -/
namespace L2
open PySem PySem.Spec PyProof.Rows
theorem Tb.imp {h : Heap} {P P' : Addr → Prop} {x : Addr} {fl v : Value} (t : Tb h P x fl v) (k : ∀ b, P b → P' b) : Tb h P' x fl v := by
  rcases t with z | ⟨T, oT, ts, a, b, c⟩
  · exact .inl z
  · exact .inr ⟨T, oT, ts, a, k T b, c⟩
theorem XAt.imp {h : Heap} {P P' : Addr → Prop} {x : Addr} {C : Value} {od : Option Addr} {fl : Value} (t : XAt h P x C od fl) (k : ∀ b, P b → P' b) : XAt h P' x C od fl := by
  obtain ⟨vs, sl, v1, a, b, c⟩ := t
  exact ⟨vs, sl, v1, a, b, c.imp k⟩
/-- an address of ours: new since the entry, no name's, no pin's, untracked -/
structure Our (X : Cx) (pins : List (Addr × Obj)) (H : Hp) (b : Addr) : Prop where
  new : X.s₀.heap.objs.size ≤ b
  loc : b ≠ X.env.locals
  cel : ∀ y c, X.env.cells.lookup y = some c → c ≠ b
  pin : ∀ p ∈ X.pn ++ pins, p.1 ≠ b
  unt : H b = none
section
variable {X : Cx} {pins : List (Addr × Obj)} {σ : St} {H H' : Hp} {s s' : Shared} {x b : Addr} {C : Value} {od : Option Addr}
theorem Inv.our' (I : Inv X pins σ H s) (h : s.heap.objs.size ≤ b) (hn : H' b = none) : Our X pins H' b := by
  have lt : ∀ c o, s.heap.get? c = some o → c ≠ b := fun c o e z => by
    subst z
    exact absurd (Nat.lt_of_lt_of_le (Heap.lt_size e) h) (Nat.lt_irrefl _)
  refine ⟨Nat.le_trans I.sz h, fun z => ?_, fun y c e => ?_, fun p hp => ?_, hn⟩
  · obtain ⟨m, ⟨o, _, _, ho, _⟩, _⟩ := I.loc
    exact lt _ o ho z.symm
  · obtain ⟨v, o, ho, _⟩ := I.cell y c e
    exact lt c o ho
  · exact lt p.1 _ (I.pin p hp).1
theorem Inv.our (I : Inv X pins σ H s) (h : s.heap.objs.size ≤ b) : Our X pins H b := I.our' h (I.hok.fresh h)
/-- noting frames leaves what we know -/
theorem Inv.noted {h' : Heap} (I : Inv X pins σ H s) (hx : Our X pins H x) (n : Nt (Our X pins H) (frs X.stack) x s.heap h') : Inv X pins σ H { s with heap := h' } := by
  obtain ⟨ch, pc, kc⟩ := n.chg
  have oc : ∀ b ∈ ch, Our X pins H b := fun b hb => by
    rcases pc b hb with z | z
    · rw [z]; exact hx
    · exact z.1
  have nfs : ∀ b, b ≠ X.env.locals → b ∉ X.fs → b ∉ frs X.stack := fun b h1 h2 z => by
    rcases List.mem_cons.mp (I.stkSub b z) with q | q
    · exact h1 q
    · exact h2 q
  refine I.step (g' := s.gens) (d' := s.drawn) (t' := s.toks) (ch := ch) (fun b hb => ⟨.inr (oc b hb).new, (oc b hb).loc, (oc b hb).cel, (oc b hb).pin⟩) (fun b o h1 h2 h3 e _ => kc b o e (nfs b h1 h2) h3) (fun b o _ _ h3 e _ => ?_) (fun _ _ _ _ z => z)
    (fun b o _ e => n.thr b o e) (fun _ _ e => e) (fun _ _ _ e => e) (fun b ps e => ⟨#[], by rw [e]; simp⟩) (fun m hm => ?_) (fun a o e => ?_) I.bare
  · by_cases hf : b ∈ frs X.stack
    · exact n.frm b o e hf
    · exact ⟨o.slots, kc b o e hf h3⟩
  · obtain ⟨o, es, ep, ho, hd, r⟩ := hm
    by_cases hf : X.env.locals ∈ frs X.stack
    · obtain ⟨sl, e⟩ := n.frm _ o ho hf
      exact ⟨_, es, ep, e, hd, r⟩
    · exact ⟨o, es, ep, kc _ o ho hf (fun z => (oc _ z).loc rfl), hd, r⟩
  · refine (I.hok a o e).stay (fun c u hc q => kc c u q ?_ ?_) (fun _ q => q) fun _ _ q => q
    · intro z
      have := I.stkFree c z
      rcases hc with rfl | hc
      · rw [this] at e; cases e
      · rw [this] at hc; cases hc
    · intro z
      have := (oc c z).unt
      rcases hc with rfl | hc
      · rw [this] at e; cases e
      · rw [this] at hc; cases hc
theorem Inv.leave {M : Model} {E : Value → Shared → Prop} {Q : Unit → Shared → Prop} (I : Inv X pins σ H s) (hst : X.stack = X.env :: X.outer) (hf : X.env.frame = some X.env.locals) (hx : Our X pins H x) (xa : XAt s.heap (Our X pins H) x C od .none)
    (h : ∀ s', Inv X pins σ H s' → XAt s'.heap (Our X pins H) x C od .none → Q () s') : wpAny M X.A (leaving X.env (.ref x)) Q E s :=
  leave_ok (base := X.base) (by rw [I.ok.frames, hst]) (by rw [← hst]; exact I.stack) hf xa (fun T hT => I.our hT) fun h' n xa' => h _ (I.noted hx (by rw [hst]; exact n)) xa'
end
/-- how an exception lies behind a call -/
def CX1 (P : Program) (w : World) : CXT := fun outer H s E e s' => ∃ x C od H', e = .ref x ∧ s'.os = s.os ∧ AllBare s'.gens ∧ Un (frs outer) [] H H' s.heap s'.heap ∧ HOk P w H' s'.heap ∧ s.heap.objs.size ≤ x ∧ H' x = none ∧
  XAt s'.heap (fun T => s.heap.objs.size ≤ T ∧ H' T = none) x C od .none ∧ E C od H'
/-- what is wanted where an exception of a class, with its own dict, is raised: also of the names -/
abbrev XS := Value → Option Addr → St → Hp → Prop
/-- an exception of which E holds is what the context wants -/
def Lands (X : Cx) (E : XS) : Prop := ∀ (pins : List (Addr × Obj)) (σ : St) (H : Hp) (s : Shared) (x : Addr) (C : Value) (od : Option Addr), Inv X pins σ H s → Our X pins H x → XAt s.heap (Our X pins H) x C od .none → E C od σ H → X.xe (.ref x) s
theorem lands_cx {P : Program} {w : World} {K : PySem.W.Frag} {mg : Str → Option Value} {base : Heap} {N : List Str} {qual : Str} {scope : Scope} {f : Addr} {cd : Value} {A : Around} {outer : List Env} {s₀ : Shared} {H₀ : Hp} {E : XK} :
    Lands (cxOf (CX1 P w) P w K mg base N qual scope f cd A outer s₀ H₀ E) (fun C od _ H => E C od H) := by
  intro pins σ H s x C od I hx xa q
  exact I.leave (Q := fun _ s'' => CX1 P w outer H₀ s₀ E (.ref x) s'') rfl rfl hx xa fun s' I' xa' => ⟨x, C, od, H, rfl, I'.os, I'.bare, I'.base, I'.hok, hx.new, hx.unt, xa'.imp fun T o => ⟨o.new, o.unt⟩, q⟩
/-- a callee's exception -/
theorem Lands.pass {X : Cx} {E : XS} (L : Lands X E) {pins : List (Addr × Obj)} {σ : St} {H : Hp} {s s' : Shared} {e : Value} (I : Inv X pins σ H s) (h : CX1 X.prog X.w X.stack H s (fun C od H' => E C od σ H') e s') : X.xe e s' := by
  obtain ⟨x, C, od, H', rfl, os, bare, un, hok, nx, hx, xa, q⟩ := h
  have I' : Inv X pins σ H' s' := I.call' os un hok bare (fun b z => absurd z (by simp))
  exact L pins σ H' s' x C od I' (I.our' nx hx) (xa.imp fun T z => I.our' z.1 z.2) q
section
variable {X : Cx} {k : Nat} {f C : Addr} {fd : FuncData} {ps : List Str} {sp : Sp} {dvs : List V} {ds : List Value} {E : XS} {x m : Str} {p pos apos : Pos} {e o : Expr} {es : List Expr} {ta : TE} {t : TA}
/-- the callee runs, and may raise -/
theorem run_fnX {pins : List (Addr × Obj)} {σ : St} {H : Hp} {s : Shared} {Q : VK} {us : List Value} {vs : List V} (F : FnOk X.prog X.w X.K X.mg X.base (CX1 X.prog X.w) k f fd ps sp) (hr : Room k X.A) (hb : Binds X.K fd ps ds) (hd : Vals dvs ds) (L : Lands X E)
    (I : Inv X pins σ H s) (r : Vals vs us) (h : sp (vs ++ dvs) H Q (fun C od H' => E C od σ H')) : wpAny (model X.prog X.w) X.A (call (.ref f) us) (EP X pins σ Q) X.xe s := by
  have r2 : Vals (vs ++ dvs) (us ++ ds) := r.append hd
  have hl : (us ++ ds).length = ps.length := by rw [← r2.length]; exact F.len _ _ _ _ h
  refine wpAny_call (codeAny_mono (F.run X.A X.stack s H ⟨us, []⟩ (us ++ ds) (vs ++ dvs) Q _ hr I.env0 (hb s us I.kIn hl) r2 h) fun r s' hq => ?_)
  cases r with
  | error e => exact L.pass I hq
  | ok fl =>
    cases fl with
    | ret u => exact I.after hq
    | next => exact False.elim hq
    | brk => exact False.elim hq
    | cont => exact False.elim hq
def tCallX (sp : Sp) (dvs : List V) (E : XS) (t : TA) : TE := fun σ H Q => t σ H fun vs H1 => sp (vs ++ dvs) H1 Q (fun C od H' => E C od σ H')
/-- f(e, ..) that may raise -/
theorem pe_callX (F : FnOk X.prog X.w X.K X.mg X.base (CX1 X.prog X.w) k f fd ps sp) (hr : Room k X.A) (hg : Gl X x) (hm : X.mg x = some (.ref f)) (hk : PySem.W.keepIn X.K (.ref f) = true) (hb : Binds X.K fd ps ds) (hd : Vals dvs ds) (L : Lands X E)
    (ha : PA X (e :: es) t) (hdb : (x == ("__debug__" : Str)) = false := by decide) (he : starEach (e :: es) X.env = (false, eval e X.env) :: starEach es X.env := by rfl) (hpl : (backTo pos (starEach es X.env)).any (·.1) = false := by rfl) :
    PE X (.Call (.Name x p) (e :: es) [] pos) (tCallX sp dvs E t) := by
  intro pins s σ H Q I h
  refine wpAny_Call_Name_kw (ld_glob I hg hm ?_ hdb)
  refine PySem.W.callWith_K (h₀ := X.base) I.ok.mod.kin hk (thn (ha pos pins s σ H _ I h) fun us s1 ⟨vs, H1, I1, r, q⟩ => ⟨I1.kIn, ?_⟩) he hpl
  exact run_fnX F hr hb hd L I1 r q
end
end L2

/-! OWN EXCEPTIONS OVER ValueError (own work): made with an __init__ of the text's, with fields. -/
namespace L2
open PySem PySem.Spec PyProof.Rows Builtin Builtin.ObjectAttr
abbrev bmV : List Value := [.type "ValueError", .type "Exception", .type "BaseException", .type "object"]
/-- own classes ahead of ValueError's line -/
def tailV : List Value → Bool
  | [] => false
  | v :: r => (v :: r) == bmV || match v with | .ref _ => tailV r | _ => false
theorem tailV_has {X : String} {b : Bool} (hb : bmV.contains (.type X) = b) : ∀ {l : List Value}, tailV l = true → l.contains (.type X) = b
  | [], e => by cases e
  | v :: r, e => by
    unfold tailV at e
    rcases Bool.or_eq_true_iff.mp e with q | q
    · rw [beq_iff_eq.mp q]; exact hb
    · cases v with
      | ref a =>
        have q' : tailV r = true := q
        rw [List.contains_cons, tailV_has hb q']
        rfl
      | _ => exact Bool.noConfusion q
/-- what of the text an exception's class must have -/
structure XCl (K : PySem.W.Frag) (C : Addr) : Prop where
  at_ : ∃ (nm q : Str) (N : Addr) (bs bm : List Value) (sn : List Str) (sub : List Value) (ab : Bool) (col : Option Bool) (dd : Option Addr) (k0 k1 k2 k3 k5 : Option Value), K.lookup C = some (excClassObj nm q C N bs bm true sn sub ab col dd k0 k1 k2 k3 k5 "ValueError.__new__") ∧ tailV bm = true
  ga : PySem.W.findIn K (.ref C) "__getattribute__" = some (some (.builtin "BaseException.__getattribute__"))
  gx : PySem.W.findIn K (.ref C) "__getattr__" = some none
  sa : PySem.W.findIn K (.ref C) "__setattr__" = some (some (.builtin "object.__setattr__"))
  kp : PySem.W.keepIn K (.ref C) = true
theorem xcl_mk {K : PySem.W.Frag} {C N : Addr} {nm q : Str} {bs bm : List Value} {sn : List Str} {sub : List Value} {ab : Bool} {col : Option Bool} {dd : Option Addr} {k0 k1 k2 k3 k5 : Option Value}
    (l : K.lookup C = some (excClassObj nm q C N bs bm true sn sub ab col dd k0 k1 k2 k3 k5 "ValueError.__new__")) (t : tailV bm = true) (ga : PySem.W.findIn K (.ref C) "__getattribute__" = some (some (.builtin "BaseException.__getattribute__")))
    (gx : PySem.W.findIn K (.ref C) "__getattr__" = some none) (sa : PySem.W.findIn K (.ref C) "__setattr__" = some (some (.builtin "object.__setattr__"))) (kp : PySem.W.keepIn K (.ref C) = true) : XCl K C :=
  ⟨⟨nm, q, N, bs, bm, sn, sub, ab, col, dd, k0, k1, k2, k3, k5, l, t⟩, ga, gx, sa, kp⟩
section
variable {prog : Program} {w : World} {A : Around} {E : Value → Shared → Prop} {h : Heap} {g : Array GenState} {d : Drawn} {t : Nat} {os : OsState}
variable {nm q : Str} {C N : Addr} {bs bm : List Value} {sn : List Str} {sub : List Value} {ab : Bool} {col : Option Bool} {dd : Option Addr} {k0 k1 k2 k3 k5 : Option Value}
theorem xck_new {M : Model} {rest : List Value} {Q : Unit → Shared → Prop} (tv : tailV bm = true) (hC : h.get? C = some (excClassObj nm q C N bs bm true sn sub ab col dd k0 k1 k2 k3 k5 "ValueError.__new__"))
    (hq : Q () ⟨h, g, d, t, os⟩) : wpAny M A (checkBuiltinCall "ValueError.__new__" ⟨.ref C :: rest, []⟩) Q E ⟨h, g, d, t, os⟩ := by
  have F := PySem.F.excBase_ValueError
  have hc : (Value.ref C :: bm).contains (.type "ValueError") = true := by rw [List.contains_cons, tailV_has (X := "ValueError") rfl tv]; rfl
  have ns := F.noStar
  simp only [checkBuiltinCall, F.newKind, F.newSplit, F.newRow]
  repeat (first | refine wpAny_loadPart_at hC ?_ | (refine wpAny_isSubtype_exc hC ?_; rw [hc]) | refine wpAny_staticBase_exc hC ?_ | refine wpAny_madeBy_exc hC ?_ | simp only [bne_self_eq_false, Bool.false_eq_true, if_false] | wp_step)
  exact hq
abbrev xTup (rest : List Value) : Obj := { cls := .type "tuple", data := .seq rest.toArray }
abbrev xObj (C : Addr) (od : Option Addr) (t : Addr) : Obj := ⟨.ref C, od, .fields #[.ref t, .none, .none, .none, .bool false, .none], #[]⟩
theorem xnew {R : Result → Shared → Prop} {rest : List Value} (tv : tailV bm = true) (hC : h.get? C = some (excClassObj nm q C N bs bm true sn sub ab col dd k0 k1 k2 k3 k5 "ValueError.__new__"))
    (hq : R (.ok (.ret (.ref (h.objs.size + 1)))) ⟨(h.push (xTup rest)).push (xObj C none h.objs.size), g, d, t, os⟩) (hrest : rest.length ≤ sizeLine) :
    codeAny (model prog w) A (.builtin "ValueError.__new__" ⟨.ref C :: rest, []⟩) R ⟨h, g, d, t, os⟩ := by
  have F := PySem.F.excBase_ValueError
  have fe := F.ends
  have c1 : (Value.ref C :: bm).contains (.type "ValueError") = true := by rw [List.contains_cons, tailV_has (X := "ValueError") rfl tv]; rfl
  have c2 : (Value.ref C :: bm).contains (.type "AttributeError") = false := by rw [List.contains_cons, tailV_has (X := "AttributeError") rfl tv]; rfl
  have c3 : (Value.ref C :: bm).contains (.type "NameError") = false := by rw [List.contains_cons, tailV_has (X := "NameError") rfl tv]; rfl
  refine codeAny_builtinAt F.entry ?_
  unfold Builtin.«BaseException.__new__»
  refine PySem.wpAt_bind ?_
  show PySem.wpAt _ _ _ (stack >>= _) _ _ _
  refine PySem.wpAt_bind (PySem.wpAt_stack fun p below => PySem.wpAt_of_wpAny ?_)
  wp_walk
  refine PySem.wpAt_of_wpAny ?_
  rw [F.owner]
  repeat (first | with_reducible refine wpAny_madeHere_exc F.canon hC ?_ | with_reducible refine wpAny_loadPart_at hC ?_ | (with_reducible refine wpAny_isSubtype_exc hC ?_; first | rw [c1] | rw [c2] | rw [c3]) | wp_step)
  show R _ _
  rw [Heap.size_push]
  exact hq
/-- raise of an exception that is there -/
theorem xraise {M : Model} {s : Shared} {env : Env} {x : Sem Value} {Q : Flow → Shared → Prop} (hh : A.handled = none)
    (hx : wpAny M A x (fun v s₁ => ∃ e C nm q N bs bm sn sub ab col dd k0 k1 k2 k3 k5 od t0, v = .ref e ∧ s₁.heap.get? C = some (excClassObj nm q C N bs bm true sn sub ab col dd k0 k1 k2 k3 k5 "ValueError.__new__") ∧ tailV bm = true ∧ s₁.heap.get? e = some (xObj C od t0) ∧ E (.ref e) s₁) E s) :
    wpAny M A (raiseStmt env (some x) none) Q E s := by
  unfold raiseStmt
  refine wpAny_bind (wpAny_mono hx (fun v s₁ h₁ => ?_) fun _ _ z => z)
  obtain ⟨e, C, nm, q, N, bs, bm, sn, sub, ab, col, dd, k0, k1, k2, k3, k5, od, t0, rfl, hC, tv, he, hE⟩ := h₁
  obtain ⟨hp, g, d, tk, os⟩ := s₁
  have hb : (Value.ref C :: bm).contains (.type "BaseException") = true := by rw [List.contains_cons, tailV_has (X := "BaseException") rfl tv]; rfl
  repeat (first | with_reducible refine wpAny_loadPart_at he ?_ | with_reducible refine wpAny_loadPart_at hC ?_ | (with_reducible refine wpAny_isSubtype_exc hC ?_; rw [hb]) | wp_step)
  exact wpAny_raiseNew_none hh hE
end
section
variable {prog : Program} {w : World} {A : Around} {E : Value → Shared → Prop} {s : Shared} {K : PySem.W.Frag} {x C dx t0 : Addr} {name : Str} {v : Value}
theorem XCl.cls (c : XCl K C) : ∃ cd bm, PySem.W.clsIn K C = some cd ∧ cd.mro = .ref C :: bm ∧ tailV bm = true ∧ cd.hasDict = true := by
  obtain ⟨nm, q, N, bs, bm, sn, sub, ab, col, dd, k0, k1, k2, k3, k5, l, tv⟩ := c.at_
  have e : PySem.W.clsIn K C = some ⟨nm, bs, .ref C :: bm, N, q, true, sn, sub, ab, col, false⟩ := by
    unfold PySem.W.clsIn
    rw [l]
  exact ⟨_, bm, e, rfl, tv, rfl⟩
end
end L2

/-! RAISE, TRY, FIELDS OF EXCEPTIONS (own work). -/
namespace L2
open PySem PySem.Spec PyProof.Rows Builtin Builtin.ObjectAttr
/-- a new exception; a caught one; its own dict -/
def excP (x C : Addr) (od : Option Addr) (h : Heap) : Prop := ∃ t, h.get? x = some (xObj C od t)
def gotP (x C : Addr) (od : Option Addr) (h : Heap) : Prop := ∃ vs sl, h.get? x = some ⟨.ref C, od, .fields vs, sl⟩
def dctP (dx : Addr) (fs : List (Str × V)) (h : Heap) : Prop := ∃ mA, h.Ns1 dx mA ∧ (∀ f, RelO (fs.lookup f) (mA f)) ∧ Within mA (fs.map (·.1))
section
variable {P : Program} {w : World} {H : Hp} {h : Heap} {x C dx t : Addr} {od : Option Addr}
theorem excP_ok (e : h.get? x = some (xObj C od t)) : ObjOk P w H h x (.ext (excP x C od)) := ⟨⟨t, e⟩, ⟨_, e⟩, fun _ _ ⟨t, e⟩ k => ⟨t, k _ e⟩⟩
theorem gotP_ok {vs : Array Value} {sl : Array (Option Value)} (e : h.get? x = some ⟨.ref C, od, .fields vs, sl⟩) : ObjOk P w H h x (.ext (gotP x C od)) := ⟨⟨vs, sl, e⟩, ⟨_, e⟩, fun _ _ ⟨vs, sl, e⟩ k => ⟨vs, sl, k _ e⟩⟩
end
def dropH (H : Hp) (x : Addr) : Hp := fun b => if b = x then none else H b
theorem dropH_ne {H : Hp} {x b : Addr} (h : b ≠ x) : dropH H x b = H b := if_neg h
theorem dropH_same {H : Hp} {x : Addr} : dropH H x x = none := if_pos rfl
section
variable {X : Cx} {pins : List (Addr × Obj)} {σ : St} {H : Hp} {s : Shared} {x dx C : Addr} {φ : Heap → Prop} {od : Option Addr}
/-- it is no longer looked after -/
theorem Inv.drop (I : Inv X pins σ H s) (e : H x = some (.ext φ)) : Inv X pins σ (dropH H x) s := by
  have ne : ∀ b u, H b = some u → (∀ ψ, u ≠ .ext ψ) → b ≠ x := fun b u q hu z => by
    rw [z, e] at q
    cases q
    exact hu φ rfl
  have nn : ∀ b, H b = none → dropH H x b = none := fun b q => by
    by_cases z : b = x
    · rw [z, dropH_same]
    · rw [dropH_ne z, q]
  refine ⟨I.ok, I.os, I.bare, ⟨I.base.keep, I.base.slot, fun b o q n hx => nn b (I.base.free b o q n hx), I.base.there, fun b xs q => ?_, fun b o u q => ?_, fun b ps q => ?_⟩, I.loc, I.cell, nn _ I.free, fun y c q => nn c (I.freeC y c q), fun p hp => ?_, fun a o q => ?_, I.len⟩
  · have z := I.base.tups b xs q
    rw [dropH_ne (ne b _ z fun ψ q => by cases q)]
    exact z
  · have z := I.base.frzs b o u q
    rw [dropH_ne (ne b _ z fun ψ q => by cases q)]
    exact z
  · obtain ⟨m, z⟩ := I.base.tbls b ps q
    exact ⟨m, by rw [dropH_ne (ne b _ z fun ψ q => by cases q)]; exact z⟩
  · obtain ⟨a, b, c⟩ := I.pin p hp
    exact ⟨a, nn _ b, c⟩
  · have na : a ≠ x := fun z => by rw [z, dropH_same] at q; cases q
    rw [dropH_ne na] at q
    exact (I.hok a o q).stay (fun _ _ _ r => r) (fun c r => by rw [dropH_ne (ne c _ r fun ψ q => by cases q)]; exact r) fun c xs r => by rw [dropH_ne (ne c _ r fun ψ q => by cases q)]; exact r
/-- something of ours is looked after from now on -/
theorem Inv.track {o : HO} (I : Inv X pins σ H s) (hx : Our X pins H x) (new : ObjOk X.prog X.w (upd H x o) s.heap x o) : Inv X pins σ (upd H x o) s := by
  have ne : ∀ b u, H b = some u → b ≠ x := fun b u q z => by rw [z, hx.unt] at q; cases q
  refine I.step (h' := s.heap) (g' := s.gens) (d' := s.drawn) (t' := s.toks) (ch := [x]) (fun b hb => ?_) (fun b o _ _ _ e _ => e) (fun b o _ _ _ e _ => ⟨o.slots, e⟩) (fun b o hc e n => ?_) (fun b o _ e => ⟨o, e⟩) (fun b xs e => ?_) (fun b u xs e => ?_) (fun b ps e => ⟨#[], ?_⟩) (fun m hm => hm) (fun b u q => ?_) I.bare
  · rw [List.mem_singleton.mp hb]
    exact ⟨.inr hx.new, hx.loc, hx.cel, hx.pin⟩
  · rw [upd_ne fun z => hc (by rw [z]; exact List.mem_singleton.mpr rfl)]
    exact n
  · rw [upd_ne (ne b _ e)]; exact e
  · rw [upd_ne (ne b _ e)]; exact e
  · rw [upd_ne (ne b _ e), e]; simp
  · by_cases hb : b = x
    · subst hb
      rw [upd_same] at q
      cases q
      exact new
    · rw [upd_ne hb] at q
      exact (I.hok b u q).stay (fun _ _ _ r => r) (fun c r => by rw [upd_ne (ne c _ r)]; exact r) fun c xs r => by rw [upd_ne (ne c _ r)]; exact r
end
def tRaise (n : Nat) (K : PySem.W.Frag) (E : XS) (te : TE) : TS := fun _ σ H => te σ H fun v H1 => ∃ x C od, v = .ref x ∧ H1 x = some (.ext (excP x C od)) ∧ n ≤ x ∧ XCl K C ∧ E (.ref C) od σ (dropH H1 x)
section
variable {X : Cx} {k : Nat} {f C : Addr} {fd : FuncData} {ps : List Str} {sp : Sp} {dvs : List V} {ds : List Value} {E : XS} {x m : Str} {p pos apos : Pos} {e o : Expr} {es : List Expr} {ta te : TE} {t : TA}
/-- raise e -/
theorem ps_raise (hc : X.calm = true) (he : PE X e te) (L : Lands X E) : PS X (.Raise (some e) none pos) (tRaise X.s₀.heap.objs.size X.K E te) := by
  intro pins s σ H D I h
  rw [arm_exec_Raise]
  have go : wpAny (model X.prog X.w) X.A (eval e X.env) (fun v s₁ => ∃ x C nm q N bs bm sn sub ab col dd k0 k1 k2 k3 k5 od t0, v = .ref x ∧ s₁.heap.get? C = some (excClassObj nm q C N bs bm true sn sub ab col dd k0 k1 k2 k3 k5 "ValueError.__new__") ∧ tailV bm = true ∧ s₁.heap.get? x = some (xObj C od t0) ∧ X.xe (.ref x) s₁) X.xe s := by
    refine thn (he pins s σ H _ I h) fun v s1 ⟨y, H1, I1, rv, x, C, od, ey, hx, nx, c, q⟩ => ?_
    subst ey
    obtain rfl : v = Value.ref x := rv
    obtain ⟨nm, qn, N, bs, bm, sn, sub, ab, col, dd, k0, k1, k2, k3, k5, lk, tv⟩ := c.at_
    obtain ⟨⟨t0, ex⟩, _⟩ := I1.hok x _ hx
    have I2 := I1.drop hx
    have our : Our X pins (dropH H1 x) x := ⟨nx, (fun z => by rw [z, I1.free] at hx; cases hx), (fun y c e z => by rw [← z, I1.freeC y c e] at hx; cases hx), (fun p hp z => by rw [← z, (I1.pin p hp).2.1] at hx; cases hx), dropH_same⟩
    exact ⟨x, C, nm, qn, N, bs, bm, sn, sub, ab, col, dd, k0, k1, k2, k3, k5, od, t0, rfl, I1.kIn _ _ lk, tv, ex, L pins σ _ s1 x _ od I2 our ⟨_, _, .none, ex, rfl, .inl ⟨rfl, rfl⟩⟩ q⟩
  first
    | exact wpAny_bind (wpAny_standAt (xraise (I.ok.hd hc) (wpAny_bind (wpAny_mono go (fun v s₃ h₃ => wpAny_bind (wpAny_standAt (wpAny_pure h₃))) fun _ _ z => z))))
    | (simp only [evalOpt, Option.map]; exact wpAny_bind (wpAny_standAt (xraise (I.ok.hd hc) (wpAny_bind (wpAny_mono go (fun v s₃ h₃ => wpAny_bind (wpAny_standAt (wpAny_pure h₃))) fun _ _ z => z)))))
end
end L2

/-! FIELDS OF EXCEPTIONS, THEIR BASE'S __init__, TRY (own work). -/
namespace L2
open PySem PySem.Spec PyProof.Rows Builtin Builtin.ObjectAttr
section
variable {X : Cx} {o e value : Expr} {f : Str} {pos pos' tpos : Pos} {ta tv : TE}
end
/-! ### B.__init__(self, ..), B an own class whose __init__ is ValueError's -/
section
variable {prog : Program} {w : World} {A : Around} {E : Value → Shared → Prop} {h : Heap} {g : Array GenState} {d : Drawn} {t : Nat} {os : OsState}
variable {nm q : Str} {C N x t0 : Addr} {bs bm : List Value} {sn : List Str} {sub : List Value} {ab : Bool} {col : Option Bool} {dd : Option Addr} {k0 k1 k2 k3 k5 : Option Value}
theorem xck_init {M : Model} {oe : Obj} {rest : List Value} {Q : Unit → Shared → Prop} (tv : tailV bm = true) (hC : h.get? C = some (excClassObj nm q C N bs bm true sn sub ab col dd k0 k1 k2 k3 k5 "ValueError.__new__")) (hx : h.get? x = some oe) (hc : oe.cls = .ref C)
    (hq : Q () ⟨h, g, d, t, os⟩) : wpAny M A (checkBuiltinCall "ValueError.__init__" ⟨.ref x :: rest, []⟩) Q E ⟨h, g, d, t, os⟩ := by
  have F := PySem.F.excBase_ValueError
  have c1 : (Value.ref C :: bm).contains (.type "ValueError") = true := by rw [List.contains_cons, tailV_has (X := "ValueError") rfl tv]; rfl
  have ns := F.noStar
  simp only [checkBuiltinCall, F.initKind, F.initSplit, F.initRow]
  repeat (first | (with_reducible refine wpAny_loadPart_at hx ?_; rw [hc]) | with_reducible refine wpAny_loadPart_at hC ?_ | (with_reducible refine wpAny_isSubtype_exc hC ?_; rw [c1]) | wp_step)
  refine wpAny_onRaise ?_
  rw [show ∀ (a b : String) (n : Nat), Bind.check ⟨.positional, "*", "ValueError", .self, [⟨"args", .varPos, false⟩]⟩ a b n (List.map (fun y => y.fst) ({ pos := Value.ref x :: rest } : Args).kw) = pure () from fun a b n => check_star_args _ _ _ _ _ _]
  exact wpAny_pure hq
theorem xinit {rest : List Value} {od : Option Addr} {Q : Value → Shared → Prop} (tv : tailV bm = true) (hC : h.get? C = some (excClassObj nm q C N bs bm true sn sub ab col dd k0 k1 k2 k3 k5 "ValueError.__new__")) (hx : h.get? x = some (xObj C od t0)) (hz : rest.length ≤ sizeLine)
    (hq : ∀ h' t1 tk', h'.get? x = some (xObj C od t1) → (∀ b o, b ≠ x → h.get? b = some o → h'.get? b = some o) → Q .none ⟨h', g, d, tk', os⟩) :
    wpAny (model prog w) A (call (.builtin "ValueError.__init__") (.ref x :: rest)) Q E ⟨h, g, d, t, os⟩ := by
  have F := PySem.F.excBase_ValueError
  refine wpAny_call (codeAny_call_builtin F.init.plain F.initEntry (xck_init tv hC hx rfl ?_))
  wp_walk
  refine hq _ h.objs.size _ ?_ fun b o hb e => ?_
  · rw [Heap.get?_update_self _ (Heap.get?_push_of_some _ hx) rfl]
    rfl
  · rw [Heap.get?_update_other _ _ (Ne.symm hb)]
    exact Heap.get?_push_of_some _ e
end
section
variable {X : Cx} {B : Addr} {y : Str} {p pos apos : Pos} {e : Expr} {es : List Expr} {t : TA}
end
/-! ### try .. except C as n -/
abbrev Cx.caught (X : Cx) (x : Addr) : Cx := { X with A := X.A.mark (some (.ref x)), calm := false, xe := fun _ _ => False }
abbrev Cx.within (X : Cx) (pn : List (Addr × Obj)) (E : Value → Shared → Prop) : Cx := { X with pn := pn, xe := E }
section
variable {X : Cx} {pins : List (Addr × Obj)} {σ : St} {H : Hp} {s : Shared} {x : Addr} {E : Value → Shared → Prop}
theorem Inv.caught (I : Inv X pins σ H s) : Inv (X.caught x) pins σ H s :=
  ⟨⟨I.ok.mod, I.ok.kind, I.ok.glob, I.ok.blt, I.ok.above, I.ok.inj, I.ok.has, I.ok.cab, fun h => Bool.noConfusion h, I.ok.frames, I.ok.stk, I.ok.exf, I.ok.bs, I.ok.bsz, I.ok.noex, I.ok.exfs, I.ok.funs, I.ok.frf⟩, I.os, I.bare, I.base, I.loc, I.cell, I.free, I.freeC, I.pin, I.hok, I.len⟩
theorem Inv.uncaught (ok : X.Ok) (I : Inv (X.caught x) pins σ H s) : Inv X pins σ H s := ⟨ok, I.os, I.bare, I.base, I.loc, I.cell, I.free, I.freeC, I.pin, I.hok, I.len⟩
theorem Inv.within (I : Inv X pins σ H s) : Inv (X.within (X.pn ++ pins) E) [] σ H s :=
  ⟨⟨I.ok.mod, I.ok.kind, I.ok.glob, I.ok.blt, I.ok.above, I.ok.inj, I.ok.has, I.ok.cab, I.ok.hd, I.ok.frames, I.ok.stk, I.ok.exf, I.ok.bs, I.ok.bsz, I.ok.noex, I.ok.exfs, I.ok.funs, I.ok.frf⟩, I.os, I.bare, I.base, I.loc, I.cell, I.free, I.freeC, (by intro p hp; exact I.pin p (by simpa using hp)), I.hok, I.len⟩
theorem Inv.out {pins' : List (Addr × Obj)} (ok : X.Ok) (I : Inv (X.within (X.pn ++ pins) E) pins' σ H s) : Inv X pins σ H s := ⟨ok, I.os, I.bare, I.base, I.loc, I.cell, I.free, I.freeC, fun p hp => I.pin p (List.mem_append_left _ hp), I.hok, I.len⟩
theorem SP.out {D : Ends} {f : Flow} {pins' : List (Addr × Obj)} (ok : X.Ok) (h : SP (X.within (X.pn ++ pins) E) pins' D f s) : SP X pins D f s := by
  cases f with
  | next => obtain ⟨σ', H', I, q⟩ := h; exact ⟨σ', H', I.out ok, q⟩
  | brk => obtain ⟨σ', H', I, q⟩ := h; exact ⟨σ', H', I.out ok, q⟩
  | cont => obtain ⟨σ', H', I, q⟩ := h; exact ⟨σ', H', I.out ok, q⟩
  | ret u => obtain ⟨v, σ', H', I, r, q⟩ := h; exact ⟨v, σ', H', I.out ok, r, q⟩
theorem Our.out {pins' : List (Addr × Obj)} {b : Addr} (o : Our (X.within (X.pn ++ pins) E) pins' H b) : Our X pins H b := ⟨o.new, o.loc, o.cel, fun p hp => o.pin p (List.mem_append_left _ hp), o.unt⟩
/-- a name goes -/
theorem Inv.unname {i : Nat} {n : Str} {h' : Heap} {v : Option Value} {m : Str → Option Value} {t' : Nat} (I : Inv X pins σ H s) (hN : X.N.Nodup) (hi : X.N[i]? = some n) (hn : h'.Ns X.env.locals (fun y => if y = n then v else m y))
    (hm : ∀ (i : Nat) (x : Str) (v : V), X.N[i]? = some x → σ[i]? = some (some v) → Vis X.env.scope x → ∃ u, RelV v u ∧ Look X.env s.heap m x u) (sb : Heap.SameBut X.env.locals s.heap h') :
    Inv X pins (σ.set i none) H { s with heap := h', toks := t' } := by
  have cne := I.cne
  have neL : ∀ b o, X.s₀.heap.get? b = some o → b ≠ X.env.locals := fun b o e => Nat.ne_of_lt (Nat.lt_of_lt_of_le (Heap.lt_size e) I.ok.above)
  refine ⟨I.ok, I.os, I.bare, ⟨fun b o e n' hb hx => (sb.2 b (neL b o e)).trans (I.base.keep b o e n' hb hx), fun b o e n' hb hx => ?_, I.base.free, fun b o e hx => ?_, I.base.tups, I.base.frzs, I.base.tbls⟩, ⟨_, hn, fun j y w e1 e2 e3 => ?_⟩, fun y c e => ?_, I.free, I.freeC, fun p hp => ?_, fun b ob e => ?_, by simpa using I.len⟩
  · obtain ⟨sl, e1⟩ := I.base.slot b o e n' hb hx
    exact ⟨sl, (sb.2 b (neL b o e)).trans e1⟩
  · obtain ⟨o', e1⟩ := I.base.there b o e hx
    exact ⟨o', (sb.2 b (neL b o e)).trans e1⟩
  · by_cases hj : j = i
    · subst hj
      have : (σ.set j none)[j]? = some (some w) := e2
      rw [List.getElem?_set] at this
      simp at this
    · rw [List.getElem?_set_ne (Ne.symm hj)] at e2
      obtain ⟨u, r, q⟩ := hm j y w e1 e2 e3
      refine ⟨u, r, ?_⟩
      rcases q with ⟨k, e⟩ | ⟨k, c, e, z⟩
      · refine .inl ⟨k, ?_⟩
        have : y ≠ n := fun e => hj (nodup_ix hN e1 (e ▸ hi))
        show (if y = n then v else m y) = some u
        rw [if_neg this]
        exact e
      · exact .inr ⟨k, c, e, z.sameBut sb (cne y c e)⟩
  · obtain ⟨w', z⟩ := I.cell y c e
    exact ⟨w', z.sameBut sb (cne y c e)⟩
  · obtain ⟨e, n', ne, nf, d⟩ := I.pin p hp
    exact ⟨(sb.2 p.1 ne).trans e, n', ne, nf, d⟩
  · refine (I.hok b ob e).stay (fun c w' hc q => (sb.2 c ?_).trans q) (fun _ q => q) fun _ _ q => q
    rintro rfl
    rcases hc with rfl | hc
    · rw [I.free] at e; cases e
    · rw [I.free] at hc; cases hc
end
def offName (i : Nat) (D : Ends) : Ends := { nx := fun σ' H' => D.nx (σ'.set i none) H', rt := D.rt, bk := fun σ' H' => D.bk (σ'.set i none) H', ct := fun σ' H' => D.ct (σ'.set i none) H' }
def tTry (tb : Ends → TS) : TS := fun D σ H => tb D D σ H
section
variable {X : Cx} {body : List Stmt} {cx n : Str} {b₀ : Stmt} {suite : List Stmt} {np hp pos : Pos} {CN : Addr} {i : Nat} {tb : Ends → TS} {ts : Addr → TS}
end
end L2

/-! OWN EXCEPTIONS WITHOUT AN __init__ OF THEIR OWN (own work). -/
namespace L2
open PySem PySem.Spec PyProof.Rows Builtin Builtin.ObjectAttr
section
variable {prog : Program} {w : World} {A : Around} {E : Value → Shared → Prop} {h : Heap} {g : Array GenState} {d : Drawn} {t : Nat} {os : OsState}
variable {nm q : Str} {C N : Addr} {bs bm : List Value} {sn : List Str} {sub : List Value} {ab : Bool} {col : Option Bool} {dd : Option Addr} {k0 k1 k2 k3 k5 : Option Value}
theorem xtype_callB {rest : List Value} {Q : Fin → Shared → Prop} (tv : tailV bm = true) (hC : h.get? C = some (excClassObj nm q C N bs bm true sn sub ab col dd k0 k1 k2 k3 k5 "ValueError.__new__"))
    (hi : PySem.W.Looks (model prog w) h (typeLookup (.ref C) "__init__") (some (.builtin "ValueError.__init__"))) (hrest : rest.length ≤ sizeLine)
    (hq : ∀ h' t1 tk', h'.get? (h.objs.size + 1) = some (xObj C none t1) → (∀ b o, h.get? b = some o → h'.get? b = some o) → Q (.done (.ret (.ref (h.objs.size + 1)))) ⟨h', g, d, tk', os⟩) :
    wpAny (model prog w) A (Builtin.«type.__call__» ⟨.ref C :: rest, []⟩) Q E ⟨h, g, d, t, os⟩ := by
  have F := PySem.F.excBase_ValueError
  repeat (first | with_reducible refine wpAny_loadPart_at hC ?_ | with_reducible refine wpAny_madeBy_exc hC ?_ | wp_step)
  refine codeAny_call_builtin_code (Code.quiet_builtin _ F.quiet) (xck_new tv hC ?_)
  refine xnew tv hC ?_ hrest
  show wpAny _ _ _ _ _ _
  have kp : ∀ b o, h.get? b = some o → ((h.push (xTup rest)).push (xObj C none h.objs.size)).get? b = some o := fun b o e => Heap.get?_push_of_some _ (Heap.get?_push_of_some _ e)
  have hg2 : ((h.push (xTup rest)).push (xObj C none h.objs.size)).get? (h.objs.size + 1) = some (xObj C none h.objs.size) := by
    have := Heap.get?_push_size (h.push (xTup rest)) (o := xObj C none h.objs.size) rfl
    rwa [Heap.size_push] at this
  have hcC : (Value.ref C :: bm).contains (.ref C) = true := by simp
  unfold isInstance
  repeat (first | with_reducible refine wpAny_loadPart_at hg2 ?_ | (with_reducible refine wpAny_isSubtype_exc (kp _ _ hC) ?_; rw [hcC]) | wp_step)
  show wpAny _ _ (typeLookup (.ref C) _) _ _ _
  refine hi _ _ _ _ kp ?_
  refine wpAny_holding (wpAny_bind (wpAny_of_eq (F.init.bind _) ?_))
  refine wpAny_bind (xinit tv (kp _ _ hC) hg2 hrest fun h' t1 tk' e1 kk => ?_)
  wp_walk
  exact hq h' t1 _ e1 fun b o e => kk b o (Nat.ne_of_lt (Nat.lt_succ_of_lt (Heap.lt_size e))) (kp b o e)
theorem xcallB {rest : List Value} {Q : Value → Shared → Prop} (tv : tailV bm = true) (hC : h.get? C = some (excClassObj nm q C N bs bm true sn sub ab col dd k0 k1 k2 k3 k5 "ValueError.__new__"))
    (hi : PySem.W.Looks (model prog w) h (typeLookup (.ref C) "__init__") (some (.builtin "ValueError.__init__"))) (hrest : rest.length ≤ sizeLine)
    (hq : ∀ h' t1 tk', h'.get? (h.objs.size + 1) = some (xObj C none t1) → (∀ b o, h.get? b = some o → h'.get? b = some o) → Q (.ref (h.objs.size + 1)) ⟨h', g, d, tk', os⟩) :
    wpAny (model prog w) A (call (.ref C) rest) Q E ⟨h, g, d, t, os⟩ := by
  have f1 := tc_lookup
  have f2 := tc_bind (.ref C)
  have hT : (⟨h, g, d, t, os⟩ : Shared).TypeIs (.ref C) "type" := ⟨_, hC, rfl⟩
  refine wpAny_call (codeAny_of_tree ?_)
  show wpAny _ _ (callAny (.ref C) _) _ _ _
  repeat (any_goals (first | assumption | with_reducible refine wpAny_loadPart_at hC ?_ | wp_step))
  refine ⟨rfl, ?_⟩
  exact codeAny_call_builtin_at (Code.quiet_builtin _ (by decide +kernel)) entry_typeCall (wpAny_check_type_call_sub hC (xtype_callB tv hC hi hrest hq))
end
/-- what of the text is asked to make one -/
structure XMkB (K : PySem.W.Frag) (C : Addr) : Prop where
  cl : XCl K C
  init : PySem.W.findIn K (.ref C) "__init__" = some (some (.builtin "ValueError.__init__"))
def tXMakeB (n : Nat) (C : Addr) (t : TA) : TE := fun σ H Q => t σ H fun vs H1 => vs.length ≤ sizeLine ∧ ∀ x, n ≤ x → H1 x = none → Q (.ref x) (upd H1 x (.ext (excP x C none)))
section
variable {X : Cx} {C : Addr} {x : Str} {p pos : Pos} {e : Expr} {es : List Expr} {t : TA}
theorem run_xmakeB {pins : List (Addr × Obj)} {σ : St} {H : Hp} {s : Shared} {Q : VK} {us : List Value} {vs : List V} (M : XMkB X.K C)
    (I : Inv X pins σ H s) (r : Vals vs us) (hz : vs.length ≤ sizeLine) (h : ∀ x, X.s₀.heap.objs.size ≤ x → H x = none → Q (.ref x) (upd H x (.ext (excP x C none)))) :
    wpAny (model X.prog X.w) X.A (call (.ref C) us) (EP X pins σ Q) X.xe s := by
  obtain ⟨nm, q, N, bs, bm, sn, sub, ab, col, dd, k0, k1, k2, k3, k5, lk, tv⟩ := M.cl.at_
  have hq := h (s.heap.objs.size + 1) (Nat.le_succ_of_le I.sz) (I.hok.fresh (Nat.le_succ _))
  obtain ⟨hh, g, d, tk, os⟩ := s
  refine xcallB tv (I.kIn _ _ lk) (PySem.W.looks_findIn I.kIn M.init) (by rw [← r.length]; exact hz) fun h' t1 tk' e1 kk => ?_
  exact ⟨V.ref (hh.objs.size + 1), _, I.laid (a := hh.objs.size + 1) (t' := tk') kk (Nat.le_succ _) (excP_ok e1), rfl, hq⟩
theorem pe_xmakeB (M : XMkB X.K C) (hg : Gl X x) (hm : X.mg x = some (.ref C)) (ha : PA X (e :: es) t) (hdb : (x == ("__debug__" : Str)) = false := by decide)
    (he : starEach (e :: es) X.env = (false, eval e X.env) :: starEach es X.env := by rfl) (hpl : (backTo pos (starEach es X.env)).any (·.1) = false := by rfl) :
    PE X (.Call (.Name x p) (e :: es) [] pos) (tXMakeB X.s₀.heap.objs.size C t) := by
  intro pins s σ H Q I h
  refine wpAny_Call_Name_kw (ld_glob I hg hm ?_ hdb)
  refine PySem.W.callWith_K (h₀ := X.base) I.ok.mod.kin M.cl.kp (thn (ha pos pins s σ H _ I h) fun us s1 ⟨vs, H1, I1, r, q⟩ => ⟨I1.kIn, ?_⟩) he hpl
  exact run_xmakeB M I1 r q.1 q.2
end
end L2

/-! isinstance OF EXCEPTIONS, except OF A CLASS ABOVE (own work). -/
namespace L2
open PySem PySem.Spec PyProof.Rows Builtin Builtin.ObjectAttr
/-- what of the text isinstance asks of an exception's class -/
structure XIs (K : PySem.W.Frag) (C : Addr) : Prop where
  cl : XCl K C
  ha : PySem.W.findIn K (.ref C) "__class__" = some (some (.builtin "object.__class__"))
  hn : PySem.W.specialIn K (.builtin "object.__class__") "__get__" = some (some (.builtin "getset_descriptor.__get__"))
  htk : PySem.W.takesIn K (.builtin "object.__class__") = some true
section
variable {prog : Program} {w : World} {A : Around} {E : Value → Shared → Prop} {s : Shared} {K : PySem.W.Frag} {x C : Addr} {ox : Obj} {od : Option Obj}
theorem xmro (c : XCl K C) (T : String) (b : Bool) (hb : bmV.contains (.type T) = b) : PySem.W.mroIn K C (.type T) = some b := by
  obtain ⟨cd, bm, hc, hm, tv, hd⟩ := c.cls
  unfold PySem.W.mroIn
  rw [hc, Option.bind_some, hm]
  show some (List.contains _ _) = _
  rw [List.contains_cons, tailV_has (X := T) hb tv]
  rfl
theorem xclass {Q : Option Value → Shared → Prop} (Xk : K.In s.heap) (c : XIs K C) (J : PySem.W.InstAt s.heap x ox C od) (hq : Q (some (.ref C)) { s with toks := s.toks + 1 }) : wpAny (model prog w) A (getAttr? (.ref x) "__class__") Q E s := by
  obtain ⟨h, g, d, t, os⟩ := s
  obtain ⟨cd, bm, hc, hm, tv, hd⟩ := c.cl.cls
  have hf : PySem.W.findObj K C od "__class__" = some (.bind (.builtin "getset_descriptor.__get__") (.builtin "object.__class__")) := by
    unfold PySem.W.findObj
    rw [hc, Option.bind_some, c.ha, Option.bind_some]
    simp [c.hn, c.htk]
  have FX := PySem.F.attr_ValueError
  have L0 := J.type (M := model prog w)
  have L1 := PySem.W.looks_find (M := model prog w) Xk J hf
  have sub : PySem.W.Looks (model prog w) h (isInstance (.ref x) (.type "BaseException")) true := L0.andThen (PySem.W.looks_mroIn Xk (xmro c.cl "BaseException" true rfl))
  have nq : (onTheHeap (Value.ref C) && Value.builtin "BaseException.__getattribute__" == Value.builtin "object.__getattribute__") = false := by
    rw [show (Value.builtin "BaseException.__getattribute__" == Value.builtin "object.__getattribute__") = false from by decide +kernel, Bool.and_false]
  unfold getAttr? getAttrBy? getAttrBy
  refine wpAny_bind (wpAny_mkText (wpAny_bind (wpAny_attempt (wpAny_holding (wpAny_bind (L0.at (wpAny_bind ((PySem.W.looks_findIn (M := model prog w) Xk c.cl.ga).at ?_))))))))
  show wpAny _ _ (if _ = true then _ else _) _ _ _
  rw [nq, if_neg (by decide)]
  unfold getAttrByItsOwn hookBefore
  refine wpAny_bind (PySem.W.Looks.at (t := if onTheHeap (Value.ref C) = true then typeLookup (.ref C) "__getattr__" else pure none) (r := none) (PySem.W.looks_findIn (M := model prog w) Xk c.cl.gx) (wpAny_bind (wpAny_attempt (wpAny_holding ?_))))
  unfold callGetattribute
  rw [show (false && onTheHeap (Value.builtin "BaseException.__getattribute__")) = false from rfl, if_neg (by decide)]
  unfold boundAndCalled
  rw [FX.ga.bind]
  refine wpAny_bind (wpAny_pure ?_)
  show wpAny _ _ (call (.builtin "BaseException.__getattribute__") [.ref x, .str "__class__" t]) _ _ _
  refine wpAny_call ?_
  refine codeAny_call_builtin FX.ga.plain PySem.F.entry_bexc_ga ?_
  refine @PySem.W.check_slot (model prog w) _ _ ⟨h, g, d, t + 1, os⟩ "BaseException.__getattribute__" "BaseException" "__getattribute__" (.ref x) [.str "__class__" t] [] _ (by decide +kernel) (by decide +kernel) sub (PySem.F.args_bexc_ga (.ref x) (.str "__class__" t)) ?_
  unfold Builtin.«object.__getattribute__»
  refine wpAny_bind (wpAny_pure (wpAny_bind (wpAny_pure (wpAny_bind (L0.at (wpAny_bind (L1.at ?_)))))))
  show wpAny _ _ (holding [Value.builtin "object.__class__"] (call (.builtin "getset_descriptor.__get__") [.builtin "object.__class__", .ref x, .ref C]) >>= ret) _ _ _
  refine wpAny_bind (wpAny_holding (wpAny_call (PySem.W.class_get (s := ⟨h, g, d, t + 1, os⟩) (ox := ox) (od := od) Xk J (xmro c.cl "object" true rfl) ?_)))
  refine wpAny_pure ?_
  show wpAny _ _ (handedOut (.ref C)) _ _ _
  exact PySem.W.handed_on rfl (wpAny_pure hq)
theorem kitx_exc (c : XIs K C) : PySem.W.KitX K (.ref x) (.ref C) (fun h => PySem.W.InstAt h x ox C od) where
  ty := fun _ _ _ I => I.type
  it := fun _ _ Xk _ => by
    obtain ⟨cd, bm, hc, hm, tv, hd⟩ := c.cl.cls
    unfold PySem.W.clsIn at hc
    split at hc
    · rename_i c' d' cd' sl' ho
      intro A' Q' E' s' k q
      unfold isType loadHead
      exact wpAny_bind (wpAny_loadPart (k _ _ (Xk _ _ ho)) (wpAny_pure q))
    · cases hc
  ne := fun h tp dd its n sl Xk htp => by
    obtain ⟨cd, bm, hc, hm, tv, hd⟩ := c.cl.cls
    refine Bool.eq_false_iff.mpr fun q => ?_
    have e : C = tp := Value.ref.inj (beq_iff_eq.mp q)
    subst e
    unfold PySem.W.clsIn at hc
    split at hc
    · rename_i c' d' cd' sl' ho
      have z := (Xk _ _ ho).symm.trans htp
      cases z
    · cases hc
  ca := fun Xk I k => xclass Xk c I k
end
section
variable {X : Cx} {pins : List (Addr × Obj)} {σ : St} {H : Hp} {s : Shared} {a C : Addr} {od : Option Addr}
/-- a caught exception, as isinstance sees it -/
theorem Inv.gotAt (I : Inv X pins σ H s) (ea : H a = some (.ext (gotP a C od))) (ed : ∀ dx, od = some dx → ∃ fs, H dx = some (.ext (dctP dx fs))) : ∃ ox o, PySem.W.InstAt s.heap a ox C o := by
  obtain ⟨⟨vs, sl, eo⟩, _⟩ := I.hok a _ ea
  cases od with
  | none => exact ⟨_, none, eo, rfl, rfl, trivial⟩
  | some dx =>
    obtain ⟨fs, e⟩ := ed dx rfl
    obtain ⟨_, ⟨ob, e2⟩, _⟩ := I.hok dx _ e
    exact ⟨_, some ob, eo, rfl, rfl, e2⟩
/-- isinstance(e, D), e a caught exception, D a built-in class or an own one -/
theorem call_isX : CallR X (.builtin "isinstance") (fun xs H Q => ∃ a C od x b, xs = [.ref a, x] ∧ H a = some (.ext (gotP a C od)) ∧ (∀ dx, od = some dx → ∃ fs, H dx = some (.ext (dctP dx fs))) ∧ XIs X.K C ∧
    (∀ u, RelV x u → PySem.W.kitOne X.K (.ref C) u = some b) ∧ Q (.bl b) H) := by
  intro pins s σ H xs us Q I r h
  obtain ⟨a, C, od, x, b, rfl, ea, ed, c, e, q⟩ := h
  obtain ⟨u, w', rfl, rx, rc⟩ := vals2 r
  cases (show u = Value.ref a from rx)
  obtain ⟨ox, o, J⟩ := I.gotAt ea ed
  exact PySem.W.kia_one (kitx_exc c) I.kIn J (e w' rc) (fun z => nomatch z) fun tk => ⟨.bl b, H, I.tok tk, rfl, q⟩
end
/-! ### except of a class above -/
section
variable {M : Model} {A : Around} {E : Value → Shared → Prop} {h : Heap} {g : Array GenState} {d : Drawn} {t : Nat} {os : OsState}
variable {nm q : Str} {C N : Addr} {bs bm : List Value} {sn : List Str} {sub : List Value} {ab : Bool} {col : Option Bool} {dd : Option Addr} {k0 k1 k2 k3 k5 : Option Value}
variable {nm' q' : Str} {D N' : Addr} {bs' bm' : List Value} {sn' : List Str} {sub' : List Value} {ab' : Bool} {col' : Option Bool} {dd' : Option Addr} {j0 j1 j2 j3 j5 : Option Value}
theorem xmatch {e : Addr} {oe : Obj} {b : Bool} {Q : Bool → Shared → Prop} (hC : h.get? C = some (excClassObj nm q C N bs bm true sn sub ab col dd k0 k1 k2 k3 k5 "ValueError.__new__"))
    (hD : h.get? D = some (excClassObj nm' q' D N' bs' bm' true sn' sub' ab' col' dd' j0 j1 j2 j3 j5 "ValueError.__new__")) (tD : tailV bm' = true) (he : h.get? e = some oe) (hcls : oe.cls = .ref C)
    (hb : (Value.ref C :: bm).contains (.ref D) = b) (hq : Q b ⟨h, g, d, t, os⟩) : wpAny M A (excMatches (.ref e) (.ref D)) Q E ⟨h, g, d, t, os⟩ := by
  have hcB : (Value.ref D :: bm').contains (.type "BaseException") = true := by rw [List.contains_cons, tailV_has (X := "BaseException") rfl tD]; rfl
  have f := tc_notTuple
  unfold excMatches
  repeat (first | (with_reducible refine wpAny_loadPart_at he ?_; rw [hcls]) | with_reducible refine wpAny_loadPart_at hD ?_ | (with_reducible refine wpAny_isSubtype_exc hD ?_; rw [hcB]) | (with_reducible refine wpAny_isSubtype_exc hC ?_; rw [hb]) | wp_step)
  cases b <;> (wp_walk; exact hq)
end
/-- C stands under D -/
def Under (K : PySem.W.Frag) (C D : Addr) : Prop := XCl K C ∧ PySem.W.mroIn K C (.ref D) = some true
theorem Under.has {K : PySem.W.Frag} {C D : Addr} (u : Under K C D) {nm q : Str} {N : Addr} {bs bm : List Value} {sn : List Str} {sub : List Value} {ab : Bool} {col : Option Bool} {dd : Option Addr} {k0 k1 k2 k3 k5 : Option Value}
    (lk : K.lookup C = some (excClassObj nm q C N bs bm true sn sub ab col dd k0 k1 k2 k3 k5 "ValueError.__new__")) : (Value.ref C :: bm).contains (.ref D) = true := by
  have e : PySem.W.clsIn K C = some ⟨nm, bs, .ref C :: bm, N, q, true, sn, sub, ab, col, false⟩ := by
    unfold PySem.W.clsIn
    rw [lk]
  have h := u.2
  unfold PySem.W.mroIn at h
  rw [e, Option.bind_some] at h
  exact Option.some.inj h
/-- what the body of a try must see to where it raises a class under CN: named, nameless -/
def EXu (K : PySem.W.Frag) (CN : Addr) (i : Nat) (ts : Addr → Addr → TS) (D : Ends) : XS := fun C od σ H => ∃ Cx, C = .ref Cx ∧ Under K Cx CN ∧ ∀ x, H x = none → ts x Cx (offName i D) (σ.set i (some (.ref x))) (upd H x (.ext (gotP x Cx od)))
section
variable {X : Cx} {body : List Stmt} {cx n : Str} {b₀ : Stmt} {suite : List Stmt} {np hp pos : Pos} {CN : Addr} {i : Nat} {tb : Ends → TS} {tc : Addr → Addr → TS} {ts : Addr → TS}
end
end L2

namespace L2
open PySem PySem.Spec PyProof.Rows
section
variable {X : Cx}
/-! ### a module's table of texts -/
/-! ### replace of written texts -/
variable {n : Nat}
/-! ### a test that spends a token -/
end
end L2

/-! zip OF TWO TUPLES (own work, on the pattern of the library's zip of two lists). -/
namespace L2
open PySem
section
variable {prog : Program} {w : World} {A : Around} {E : Value → Shared → Prop} {s : Shared}
end
end L2

/-! for (x, y) in zip(t, u), t and u tuples (own work). -/
namespace L2
open PySem PySem.Spec PyProof.Rows
section
variable {X : Cx} {pins : List (Addr × Obj)} {σ : St} {H : Hp} {s : Shared} {h' : Heap}
end
section
variable {X : Cx}
end
end L2

/-! range(n) as a value, list(range(n)); defs with defaults; defs that raise (own work). -/
namespace L2
open PySem PySem.Spec PyProof.Rows
section
variable {X : Cx}
end
/-- a def of the text, perhaps with defaults -/
structure FunX (K : PySem.W.Frag) (x qual : Str) (st : Stmt) (f : Addr) (fd : FuncData) : Prop where
  ex : ∃ (oc : Value) (od : Option Addr) (dV kV doc pm : Value) (an : Option Addr) (cdv ct : Value) (osl : Array (Option Value)),
    fd = PySem.W.fnOf x qual (defArgs st) (defBody st) (defScope st) dV kV doc pm an cdv ct ∧ K.lookup f = some ⟨oc, od, .func fd, osl⟩ ∧ PySem.W.codeIn K cdv qual = true
  kp : PySem.W.keepIn K (.ref f) = true
section
variable {P : Program} {w : World} {K : PySem.W.Frag} {mg : Str → Option Value} {base : Heap}
/-- .. that may raise -/
theorem FunX.okX {x qual : Str} {st : Stmt} {f : Addr} {fd : FuncData} {N ps : List Str} {k : Nat} {sp : Sp} (F : FunX K x qual st f fd) (S : FnScope N ps (defScope st)) (len : ∀ vs H Q E, sp vs H Q E → vs.length = ps.length)
    (hbody : ∀ (cdv : Value) (A : Around) (outer : List Env) (s : Shared) (H : Hp) (vs : List V) (Q : VK) (E : XK), Room k (A.deeper (envOfC qual (defScope st) s.heap.objs.size f cdv)) → sp vs H Q E →
      ∃ t, PSs (cxOf (CX1 P w) P w K mg base N qual (defScope st) f cdv A outer s H E) (defBody st) t ∧ t { nx := fun _ H' => Q .non H', rt := Q } (start N vs) H) : FnOk P w K mg base (CX1 P w) (k + 1) f fd ps sp := by
  obtain ⟨oc, od, dV, kV, doc, pm, an, cdv, ct, osl, rfl, lk, hcd⟩ := F.ex
  exact fn_of lk hcd S len fun A outer s H vs Q E hr hsp => hbody cdv A outer s H vs Q E hr hsp
theorem Fun.x {x qual : Str} {st : Stmt} {f : Addr} {fd : FuncData} (F : Fun K x qual st f fd) : FunX K x qual st f fd := by
  obtain ⟨oc, od, kV, doc, pm, an, cdv, ct, osl, e, lk, hcd⟩ := F.ex
  exact ⟨⟨oc, od, .none, kV, doc, pm, an, cdv, ct, osl, e, lk, hcd⟩, F.kp⟩
end
end L2

/-! for (x, y) in zip(l, m), l and m lists (own work). -/
namespace L2
open PySem PySem.Spec PyProof.Rows
section
variable {X : Cx}
end
end L2

/-! DICTS WALKED (own work): a dict stands frozen while it is walked. -/
namespace L2
open PySem PySem.Spec PyProof.Rows
section
variable {X : Cx} {pins : List (Addr × Obj)} {σ : St} {H : Hp} {s : Shared} {a : Addr} {kvs : List (Key × V)} {o : Obj}
theorem Inv.freeze (I : Inv X pins σ H s) (e : H a = some (.dK kvs)) (ho : s.heap.get? a = some o) : Inv X pins σ (upd H a (.frz o (.dK kvs))) s := by
  have ne : ∀ b u, H b = some u → u ≠ .dK kvs → b ≠ a := fun b u q n z => by
    subst z
    rw [e] at q
    exact n (Option.some.inj q).symm
  have nn : ∀ b, H b = none → b ≠ a := fun b q z => by subst z; rw [e] at q; cases q
  refine ⟨I.ok, I.os, I.bare, ⟨I.base.keep, I.base.slot, fun b ob q n hx => ?_, I.base.there, fun b xs q => ?_, fun b ob u q => ?_, fun b ps q => ?_⟩, I.loc, I.cell, ?_, fun x c q => ?_, fun p hp => ?_, fun b u q => ?_, I.len⟩
  · have h := I.base.free b ob q n hx
    rw [upd_ne (nn b h)]
    exact h
  · have h := I.base.tups b xs q
    rw [upd_ne (ne b _ h (by simp))]
    exact h
  · have h := I.base.frzs b ob u q
    rw [upd_ne (ne b _ h (by simp))]
    exact h
  · obtain ⟨m, h⟩ := I.base.tbls b ps q
    exact ⟨m, by rw [upd_ne (ne b _ h (by simp))]; exact h⟩
  · rw [upd_ne (nn _ I.free)]
    exact I.free
  · rw [upd_ne (nn _ (I.freeC x c q))]
    exact I.freeC x c q
  · obtain ⟨h1, h2, h3⟩ := I.pin p hp
    exact ⟨h1, by rw [upd_ne (nn _ h2)]; exact h2, h3⟩
  · by_cases hb : b = a
    · subst hb
      rw [upd_same] at q
      cases q
      exact ⟨ho, I.hok b _ e⟩
    · rw [upd_ne hb] at q
      exact (I.hok b u q).stay (fun c v _ r => r) (fun c r => by rw [upd_ne (ne c _ r (by simp))]; exact r) fun c xs r => by rw [upd_ne (ne c _ r (by simp))]; exact r
theorem Inv.thaw (I : Inv X pins σ H s) (n0 : ∀ ob u, X.H₀ a ≠ some (.frz ob u)) (e : H a = some (.frz o (.dK kvs))) : Inv X pins σ (upd H a (.dK kvs)) s := by
  have ne : ∀ b u, H b = some u → u ≠ .frz o (.dK kvs) → b ≠ a := fun b u q n z => by
    subst z
    rw [e] at q
    exact n (Option.some.inj q).symm
  have nn : ∀ b, H b = none → b ≠ a := fun b q z => by subst z; rw [e] at q; cases q
  refine ⟨I.ok, I.os, I.bare, ⟨I.base.keep, I.base.slot, fun b ob q n hx => ?_, I.base.there, fun b xs q => ?_, fun b ob u q => ?_, fun b ps q => ?_⟩, I.loc, I.cell, ?_, fun x c q => ?_, fun p hp => ?_, fun b u q => ?_, I.len⟩
  · have h := I.base.free b ob q n hx
    rw [upd_ne (nn b h)]
    exact h
  · have h := I.base.tups b xs q
    rw [upd_ne (ne b _ h (by simp))]
    exact h
  · have h := I.base.frzs b ob u q
    rw [upd_ne (fun z => by subst z; exact n0 _ _ q)]
    exact h
  · obtain ⟨m, h⟩ := I.base.tbls b ps q
    exact ⟨m, by rw [upd_ne (ne b _ h (by simp))]; exact h⟩
  · rw [upd_ne (nn _ I.free)]
    exact I.free
  · rw [upd_ne (nn _ (I.freeC x c q))]
    exact I.freeC x c q
  · obtain ⟨h1, h2, h3⟩ := I.pin p hp
    exact ⟨h1, by rw [upd_ne (nn _ h2)]; exact h2, h3⟩
  · by_cases hb : b = a
    · subst hb
      rw [upd_same] at q
      cases q
      exact (I.hok b _ e).2
    · rw [upd_ne hb] at q
      exact (I.hok b u q).stay (fun c v _ r => r) (fun c r => by rw [upd_ne (ne c _ r (by simp))]; exact r) fun c xs r => by rw [upd_ne (ne c _ r (by simp))]; exact r
theorem Inv.dk_obj (I : Inv X pins σ H s) (e : H a = some (.dK kvs)) : ∃ o, s.heap.get? a = some o := by
  obtain ⟨_, _, _, _, o, _, _, g, _⟩ := I.hok a _ e
  exact ⟨o, g⟩
theorem Inv.not_frz (I : Inv X pins σ H s) (e : H a = some (.dK kvs)) : ∀ ob u, X.H₀ a ≠ some (.frz ob u) := fun ob u q => by
  have := I.base.frzs a ob u q
  rw [e] at this
  cases this
/-- a statement, an expression, while a dict stands frozen -/
def frzE (a : Addr) (o : Obj) (kvs : List (Key × V)) (D : Ends) : Ends where
  nx := fun σ' H' => H' a = some (.frz o (.dK kvs)) ∧ D.nx σ' (upd H' a (.dK kvs))
  rt := fun v H' => H' a = some (.frz o (.dK kvs)) ∧ D.rt v (upd H' a (.dK kvs))
  bk := fun σ' H' => H' a = some (.frz o (.dK kvs)) ∧ D.bk σ' (upd H' a (.dK kvs))
  ct := fun σ' H' => H' a = some (.frz o (.dK kvs)) ∧ D.ct σ' (upd H' a (.dK kvs))
def sFrz (t : TS) : TS := fun D σ H => ∃ a kvs, H a = some (.dK kvs) ∧ ∀ o, t (frzE a o kvs D) σ (upd H a (.frz o (.dK kvs)))
theorem ps_frz {st : Stmt} {t : TS} (h : PS X st t) : PS X st (sFrz t) := by
  intro pins s σ H D I hq
  obtain ⟨a, kvs, e, q⟩ := hq
  obtain ⟨o, ho⟩ := I.dk_obj e
  have n0 := I.not_frz e
  refine thn (h pins s σ _ _ (I.freeze e ho) (q o)) fun f s' hs => ?_
  cases f with
  | next => obtain ⟨σ', H', I', e', z⟩ := hs; exact ⟨σ', _, I'.thaw n0 e', z⟩
  | brk => obtain ⟨σ', H', I', e', z⟩ := hs; exact ⟨σ', _, I'.thaw n0 e', z⟩
  | cont => obtain ⟨σ', H', I', e', z⟩ := hs; exact ⟨σ', _, I'.thaw n0 e', z⟩
  | ret u => obtain ⟨v, σ', H', I', r, e', z⟩ := hs; exact ⟨v, σ', _, I'.thaw n0 e', r, z⟩
end

/-! ### the keys of a frozen dict, one by one -/
def epOf (o : Obj) : Nat := match o.data with
  | .dict _ ep => ep
  | _ => 0
theorem is_kV {P : Program} {w : World} : ∀ {k : Key} {u : Value}, (mixKind P w).is k u = true → RelV (kV k) u := by
  intro k u h
  rcases keyIs_shape (k := k) (v := u) h with ⟨i, t, rfl, rfl⟩ | ⟨x, t, rfl, rfl⟩
  · exact ⟨t, rfl⟩
  · exact ⟨t, rfl⟩
section
variable {X : Cx}
theorem kv_get : ∀ {kvs : List (Key × V)} {vs : List (Key × Value)} {i : Nat} {p : Key × V}, KV kvs vs → kvs[i]? = some p → ∃ u, vs[i]? = some (p.1, u) ∧ RelV p.2 u
  | _, _, _, _, .nil, e => by simp at e
  | _, _, 0, _, .cons (b := q) r _, e => by
    simp at e
    subst e
    obtain ⟨q1, q2⟩ := q
    obtain ⟨r1, r2⟩ := r
    exact ⟨q2, by rw [List.getElem?_cons_zero]; exact congrArg (fun z => some (z, q2)) r1.symm, r2⟩
  | _, _, i + 1, p, .cons _ t, e => by
    obtain ⟨u, h1, h2⟩ := kv_get (i := i) (p := p) t (by simpa using e)
    exact ⟨u, by simpa using h1, h2⟩
theorem Inv.dictAt {pins : List (Addr × Obj)} {σ : St} {H : Hp} {s : Shared} {a : Addr} {o : Obj} {kvs : List (Key × V)} (I : Inv X pins σ H s) (e : H a = some (.frz o (.dK kvs))) :
    ∃ vs, KV kvs vs ∧ s.heap.DictAt (mixKind X.prog X.w) a vs (epOf o) ∧ (a == sysModules) = false := by
  obtain ⟨g, _, hs, vs, kv, o', es, ep, g', ex, hd, hk, hp, hn⟩ := I.hok a _ e
  rw [g] at g'
  cases g'
  have he : epOf o = ep := by unfold epOf; rw [hd]
  exact ⟨vs, kv, ⟨o, es, g, ex, by rw [he]; exact hd, hk, hp, hn⟩, hs⟩
theorem KV.len {kvs : List (Key × V)} {vs : List (Key × Value)} (r : KV kvs vs) : kvs.length = vs.length := Paired.length r
end
end L2

namespace L2
open PySem PySem.Spec PyProof.Rows
section
variable {X : Cx}
end
end L2

namespace L2
open PySem PySem.Spec PyProof.Rows
/-! ### for (k, v) in d.items(): a frozen dict's pairs, each as a new tuple -/
theorem entry_itemiter_iter : entryFor table "dict_itemiterator.__iter__" = some Builtin.«dict_keyiterator.__iter__» :=
  entryFor_alias (id' := "dict_keyiterator.__iter__") (by kernel_rfl) rfl (by decide +kernel) (by kernel_rfl)
theorem iter_itemiter {prog : Program} {w : World} {A : Around} {E : Value → Shared → Prop} {s : Shared} {it d : Addr} {i n ep : Nat} {ok ov : Value} {Q : Value → Shared → Prop} (hit : IsItemIter s.heap it d i n ep ok ov) (h : Q (.ref it) s) : wpAny (model prog w) A (pyIter (.ref it)) Q E s := by
  have hT : s.TypeIs (.ref it) "dict_itemiterator" := ⟨_, hit, rfl⟩
  refine wpAny_pyIter_slot hT F.slot_dict_itemiterator_iter (wpAny_call_entry F.slot_dict_itemiterator_iter hT entry_itemiter_iter ?_ (F.args_dict_itemiterator_iter_1 _))
  show wpAny _ _ (ret (.ref it)) _ _ s
  exact wpAny_pure ⟨_, rfl, "dict_itemiterator", _, hT, F.slot_dict_itemiterator_next.lookup, h⟩
def Itm (a : Addr) (o : Obj) (kvs : List (Key × V)) : It :=
  ⟨fun i H => i < kvs.length ∧ H a = some (.frz o (.dK kvs)), fun i H x H' => ∃ k v p, kvs[i]? = some (k, v) ∧ x = .ref p ∧ H p = none ∧ H' = upd H p (.tup [kV k, v]), fun i H => kvs.length ≤ i ∧ H a = some (.frz o (.dK kvs))⟩
section
variable {X : Cx}
theorem turn_items {P : Program} {w : World} {K : PySem.W.Frag} {es : List Expr} {x1 : Nat} {tp : Pos} (a it : Addr) (o : Obj) (kvs : List (Key × V)) : Turn P w K (.Tuple es x1 tp) (Itm a o kvs) [it] it (fun i h => ∃ ok ov, IsItemIter h it a i kvs.length (epOf o) ok ov) where
  mem := by simp
  obj := fun i h st b hb => by
    have e : b = it := by simpa using hb
    subst e
    obtain ⟨ok, ov, st⟩ := st
    exact ⟨_, st, fun v z => by cases z⟩
  keep := fun i h h' st k => by
    obtain ⟨ok, ov, st⟩ := st
    exact ⟨ok, ov, k it (by simp) _ st⟩
  item := by
    intro X hP hw hK hc i pins s σ H E I hf st hg
    subst hP hw hK
    obtain ⟨hi, hq⟩ := hg
    obtain ⟨ok, ov, st⟩ := st
    obtain ⟨vs, kv, da, _⟩ := I.dictAt hq
    have hl := kv.len
    obtain ⟨u, hu, ru⟩ := kv_get kv (show kvs[i]? = some (kvs[i].1, kvs[i].2) by simp [hi])
    obtain ⟨f0, f1, f2, f3, f4, f5⟩ := hf it (by simp)
    have hit : it < s.heap.objs.size := Heap.lt_size st
    rw [hl] at st
    refine wpAny_pyNext_items_item st da hu fun key h' hkey st' ht hsz kp => ?_
    refine ⟨_, rfl, ?_⟩
    refine wpAny_letOwnedTupleGo_items (s := { s with heap := h' }) st' fun h'' st'' sb => ?_
    rw [← hl] at st''
    have I0 : Inv X pins σ H { s with heap := s.heap.update it fun _ => { cls := .type "dict_itemiterator", dict := none, data := .fields #[.none, .bool false, .ref a, .int (i + 1 : Nat) 0, .int kvs.length 0, .int (epOf o) 0, key, u], slots := #[] } } :=
      I.turned (t' := s.toks) (fun b ob hb e => by rw [Heap.get?_update_ne _ _ _ _ hb]; exact e) f0 f1 f3 f4 f5
    have hp : H s.heap.objs.size = none := I.hok.fresh (Nat.le_refl _)
    refine ⟨.ref s.heap.objs.size, upd H s.heap.objs.size (.tup [kV kvs[i].1, kvs[i].2]), I0.laid (t' := s.toks) (h' := h'') (fun b ob e => ?_) (by rw [Heap.size_update]; exact Nat.le_refl _) ?_, rfl, ⟨_, _, _, by simp [hi], rfl, hp, rfl⟩, ⟨key, u, st''⟩, fun b hb => ?_⟩
    · by_cases hb : b = it
      · subst hb
        rw [Heap.get?_update_self _ st rfl] at e
        rw [← e]
        exact st''
      · rw [Heap.get?_update_ne _ _ _ _ hb] at e
        exact (sb.2 b hb).trans (kp b ob hb e)
    · refine ⟨(show 2 ≤ sizeLine by decide), [key, u], .cons (is_kV hkey) (.cons ru .nil), ⟨_, (sb.2 _ (Nat.ne_of_gt hit)).trans ht, rfl, _, rfl⟩⟩
    · have e : b = it := by simpa using hb
      subst e
      rw [upd_ne (Nat.ne_of_lt hit)]
      exact f0
  done := by
    intro X hP hw hK hc i pins s σ H E I hf st hg
    subst hP hw hK
    obtain ⟨hi, hq⟩ := hg
    obtain ⟨ok, ov, st⟩ := st
    obtain ⟨vs, kv, da, _⟩ := I.dictAt hq
    have hl := kv.len
    obtain ⟨f0, f1, f2, f3, f4, f5⟩ := hf it (by simp)
    rw [hl] at st
    exact wpAny_pyNext_items_end (I.ok.hd hc) st da (by simp; omega) fun h' eb => ⟨rfl, I.turned (t' := s.toks) (fun b o hb e => eb b o hb e) f0 f1 f3 f4 f5⟩
  self := fun A i s Q E st h => by
    obtain ⟨ok, ov, st⟩ := st
    exact iter_itemiter st h
/-- d.items(), d frozen -/
def iItems (tl : TE) : TI := fun σ H R => tl σ H fun x H1 => ∃ a o kvs, x = .ref a ∧ H1 a = some (.frz o (.dK kvs)) ∧ R (Itm a o kvs) H1
theorem pi_items {es : List Expr} {x1 : Nat} {tp : Pos} {l : Expr} {tl : TE} {apos cpos : Pos} (hl : PE X l tl) (hbase : attributeBase l "items" X.env (eval l X.env) = eval l X.env := by rfl) (hline : (apos.endLine == cpos.line) = true := by rfl) :
    PI X (.Tuple es x1 tp) (.Call (.Attribute l "items" apos) [] [] cpos) (iItems tl) := by
  intro pins s σ H R I h
  refine wpAny_Call_method0_late hbase hline (thn (hl pins s σ H _ I h) fun v s1 ⟨x, H1, I1, r1, q1⟩ => ?_)
  obtain ⟨a, o, kvs, e, hq, q⟩ := q1
  subst e
  cases r1
  obtain ⟨vs, kv, da, hs⟩ := I1.dictAt hq
  obtain ⟨g, _⟩ := I1.hok a _ hq
  have ex : o.ExactDict := by
    obtain ⟨o', es', g', x', _⟩ := id da
    rw [g] at g'
    cases g'
    exact x'
  refine ⟨"dict", "dict.items", F.plainAttrs_dict, F.slot_dict_items, F.type_dict_items, da.dictOf.typeIs, (fun b e => by cases e; exact ⟨o, g, ex.2.1⟩), Calls.callWith_builtin rfl (PySem.evalArgs_none ?_)⟩
  refine call_meetsIn F.slot_dict_items da.dictOf.typeIs F.entry_dict_items (F.args_dict_items_1 _) (meets_dict_items (mixKind X.prog X.w) a hs) ⟨⟨vs, da.dictOf⟩, ?_⟩
  have I2 : Inv X pins σ H1 { s1 with heap := s1.heap.push { cls := .type "dict_items", data := .fields #[.ref a] } } := I1.kept (t' := s1.toks) fun b o e => Heap.get?_push_of_some _ e
  refine wpAny_pyIter_items (s := { s1 with heap := s1.heap.push { cls := .type "dict_items", data := .fields #[.ref a] } }) (knd := mixKind X.prog X.w) (kvs := vs) (ep := epOf o) ⟨_, Heap.get?_push_size _ rfl, rfl, rfl⟩ (da.push _) ?_
  refine ⟨_, [_], _, _, H1, rfl, I2.kept (t' := s1.toks) fun b o e => Heap.get?_push_of_some _ e, turn_items a _ o kvs, ⟨.none, .none, by rw [kv.len]; exact Heap.get?_push_size _ rfl⟩, fun b hb => ?_, q⟩
  have e := List.mem_singleton.mp hb
  subst e
  exact I2.fpOk (Nat.le_refl _) (I2.hok.fresh (Nat.le_refl _))
/-- the loop -/
theorem for_items {a : Addr} {o : Obj} {kvs : List (Key × V)} {g : TG} {tb : TS} {D : Ends} {σ : St} {H : Hp} (Pv : Nat → St → Hp → Prop) (h0 : Pv 0 σ H) (hl : ∀ i σ H, i ≤ kvs.length → Pv i σ H → H a = some (.frz o (.dK kvs)))
    (hs : ∀ i k v p σ H, kvs[i]? = some (k, v) → Pv i σ H → H p = none → g (.ref p) σ (upd H p (.tup [kV k, v])) fun σ2 H2 => tb { D with nx := Pv (i + 1), ct := Pv (i + 1), bk := D.nx } σ2 H2) (hd : ∀ σ H, Pv kvs.length σ H → D.nx σ H) :
    ∃ W : Nat → Nat → St → Hp → Prop, (∃ m, W 0 m σ H) ∧ ∀ i m σ H, W i m σ H →
      ((Itm a o kvs).stop i H ∧ D.nx σ H) ∨ ((Itm a o kvs).go i H ∧ ∃ N : St → Hp → Prop, (∀ σ' H', N σ' H' → ∃ m', m' < m ∧ W (i + 1) m' σ' H') ∧ ∀ x H', (Itm a o kvs).yld i H x H' → g x σ H' fun σ2 H2 => tb { D with nx := N, ct := N, bk := D.nx } σ2 H2) := by
  refine ⟨fun i m σ H => m = kvs.length - i ∧ i ≤ kvs.length ∧ Pv i σ H, ⟨kvs.length, by simp, Nat.zero_le _, h0⟩, ?_⟩
  rintro i m σ H ⟨rfl, hi, p⟩
  have q := hl i σ H hi p
  by_cases hlt : i < kvs.length
  · refine .inr ⟨⟨hlt, q⟩, Pv (i + 1), fun σ' H' p' => ⟨kvs.length - (i + 1), by omega, rfl, hlt, p'⟩, fun x H' y => ?_⟩
    obtain ⟨k, v, pa, hk, ex, hn, e⟩ := y
    subst e ex
    exact hs i k v pa σ H hk p hn
  · have e : i = kvs.length := by omega
    subst e
    exact .inl ⟨⟨Nat.le_refl _, q⟩, hd σ H p⟩
/-- d.clear(), dict(d) -/
theorem mt_dclear : MtR X "dict.clear" (fun x xs H Q => ∃ a kvs, x = .ref a ∧ xs = [] ∧ H a = some (.dK kvs) ∧ Q .non (upd H a (.dK []))) := by
  intro pins s σ H x xs v us Q I rx r h
  obtain ⟨a, kvs, rfl, rfl, e, q⟩ := h
  cases rx
  cases r
  exact d_clear I e fun s' I' => ⟨.non, _, I', rfl, q⟩
theorem call_dict_of : CallR X (.type "dict") (fun xs H Q => ∃ a kvs, xs = [.ref a] ∧ Rd H a (.dK kvs) ∧ ∀ p, H p = none → Q (.ref p) (upd H p (.dK kvs))) := by
  intro pins s σ H xs us Q I r h
  obtain ⟨a, kvs, rfl, e, q⟩ := h
  obtain ⟨u, rfl, rx⟩ := vals1 r
  cases rx
  exact d_copyOf I e fun p s' hp I' => ⟨.ref p, _, I', rfl, q p hp⟩
end
end L2

namespace L2
open PySem PySem.Spec PyProof.Rows
section
variable {X : Cx} {pins : List (Addr × Obj)} {σ : St} {H : Hp} {s : Shared} {h' : Heap} {a : Addr} {o : HO}
end
section
variable {X : Cx}
end
end L2

namespace L2
open PySem PySem.Spec PyProof.Rows
/-! ### for (i, x) in enumerate(a list) -/
section
variable {X : Cx}
end
end L2

/-! for x in reversed(a list) (own work). -/
namespace L2
open PySem PySem.Spec PyProof.Rows
def Itv (K : PySem.W.Frag) (a : Addr) (xs : List V) : It :=
  ⟨fun i H => SqL K H a xs ∧ i < xs.length, fun i H x H' => H' = H ∧ xs[xs.length - 1 - i]? = some x, fun i H => SqL K H a xs ∧ i = xs.length⟩
theorem turn_rev {P : Program} {w : World} {K : PySem.W.Frag} {tg : Expr} (a it : Addr) (xs : List V) : Turn P w K tg (Itv K a xs) [it] it (fun i h => h.IsRevIter it a ((xs.length : Int) - 1 - i)) where
  mem := by simp
  obj := fun i h st b hb => by
    have e : b = it := by simpa using hb
    subst e
    obtain ⟨o, e, c, d⟩ := st
    exact ⟨o, e, fun v z => by rw [d] at z; cases z⟩
  keep := fun i h h' st k => st.at fun o e => k it (by simp) o e
  item := by
    intro X hP hw hK hc i pins s σ H E I hf st hg
    subst hP hw hK
    obtain ⟨hq, hi⟩ := hg
    obtain ⟨its, rv, p, hz⟩ := I.list hq
    have hx : xs[xs.length - 1 - i]? = some (xs[xs.length - 1 - i]'(by omega)) := List.getElem?_eq_getElem _
    obtain ⟨u, hu, ru⟩ := rv.get hx
    obtain ⟨f0, f1, f2, f3, f4, f5⟩ := hf it (by simp)
    have ei : ((xs.length : Int) - 1 - i) = ((xs.length - 1 - i : Nat) : Int) := by omega
    have st2 : s.heap.IsRevIter it a ((xs.length - 1 - i : Nat) : Int) := by rw [← ei]; exact st
    refine wpAny_pyNext_rev_item st2 p.isList (x := u) (by simpa using hu) fun h' st' sb => ?_
    have I1 : Inv X pins σ H { s with heap := h' } := I.turned (t' := s.toks) (fun b o hb e => (sb.2 b hb).trans e) f0 f1 f3 f4 f5
    obtain ⟨o, e, c, d⟩ := id st'
    refine ⟨u, rfl, go_of (s := { s with heap := h' }) e c d (by decide) ⟨_, H, I1, ru, ⟨rfl, hx⟩, ?_, fun b hb => (hf b hb).1⟩⟩
    have e2 : ((xs.length : Int) - 1 - (i + 1 : Nat)) = (((xs.length - 1 - i : Nat) : Int) - 1) := by omega
    show h'.IsRevIter it a ((xs.length : Int) - 1 - (i + 1 : Nat))
    rw [e2]
    exact st'
  done := by
    intro X hP hw hK hc i pins s σ H E I hf st hg
    subst hP hw hK
    obtain ⟨hq, rfl⟩ := hg
    obtain ⟨f0, f1, f2, f3, f4, f5⟩ := hf it (by simp)
    have e : ((xs.length : Int) - 1 - (xs.length : Nat)) = -1 := by omega
    have st2 : s.heap.IsRevIter it a (-1) := by rw [← e]; exact st
    exact wpAny_pyNext_rev_end (I.ok.hd hc) st2 fun h' eb => ⟨rfl, I.turned (t' := s.toks) (fun b o hb e => eb b o hb e) f0 f1 f3 f4 f5⟩
  self := fun _ _ _ _ _ st h => wpAny_pyIter_revIter st h
section
variable {X : Cx}
def iRev (K : PySem.W.Frag) (ta : TA) : TI := fun σ H R => ta σ H fun vs H1 => ∃ a xs, vs = [.ref a] ∧ SqL K H1 a xs ∧ R (Itv K a xs) H1
theorem pi_rev {tg l : Expr} {ta : TA} {p pos : Pos} (hg : Gl X "reversed") (hm : X.mg "reversed" = none) (ha : PA X [l] ta) (hs : starEach [l] X.env = [(false, eval l X.env)] := by rfl) :
    PI X tg (.Call (.Name "reversed" p) [l] [] pos) (iRev X.K ta) := by
  intro pins s σ H R I h
  refine Call_ (ld_blt I hg hm boot_reversed (PyProof.Rows.callWith_type1 (thn (ha pos pins s σ H _ I h) fun us s1 ⟨vs, H1, I1, r1, q1⟩ => ?_) hs rfl))
  obtain ⟨a, xs, e, hq, q⟩ := q1
  subst e
  obtain ⟨u, rfl, rx⟩ := vals1 r1
  cases rx
  obtain ⟨its, rv, pl, hz⟩ := I1.list hq
  have hl := rv.length
  refine call_reversed_list pl.isList ?_
  have I2 : Inv X pins σ H1 { s1 with heap := s1.heap.push (revObj a ((its.toArray.size : Int) - 1)) } := I1.kept (t' := s1.toks) fun b o e => Heap.get?_push_of_some _ e
  have st : (s1.heap.push (revObj a ((its.toArray.size : Int) - 1))).IsRevIter s1.heap.objs.size a ((xs.length : Int) - 1 - (0 : Nat)) := ⟨_, Heap.get?_push_size _ rfl, rfl, by
    have e : ((its.toArray.size : Int) - 1) = ((xs.length : Int) - 1 - (0 : Nat)) := by rw [List.size_toArray]; omega
    rw [e]; rfl⟩
  refine wpAny_pyIter_revIter (s := { s1 with heap := s1.heap.push (revObj a ((its.toArray.size : Int) - 1)) }) st ?_
  refine ⟨s1.heap.objs.size, [s1.heap.objs.size], _, _, H1, rfl, I2, turn_rev a _ xs, st, fun b hb => ?_, q⟩
  have e := List.mem_singleton.mp hb
  subst e
  exact I1.fpOk (Nat.le_refl _) (I1.hok.fresh (Nat.le_refl _))
end
end L2

/-! TRY WITH TWO HANDLERS (own work). -/
namespace L2
open PySem PySem.Spec PyProof.Rows
section
variable {X : Cx} {body : List Stmt} {cx cy n : Str} {b₀ b₁ : Stmt} {suite suite' : List Stmt} {np hp np' hp' pos : Pos} {CN CM Cx : Addr} {i : Nat} {tb : Ends → TS} {tc td : Addr → Addr → TS} {ts : Addr → TS} {pins : List (Addr × Obj)} {σ1 : St} {H1 : Hp} {s : Shared} {x : Addr} {od : Option Addr} {D : Ends} {rest : List ExceptHandler}
theorem fr_no (I : Inv X pins σ1 H1 s) : ∀ b o, s.heap.get? b = some o → b ∈ frs X.stack → ∀ vs, o.data ≠ .fields vs := fun b o e hb => by
  obtain ⟨_, o', ho', hn⟩ := I.stack.mem hb
  rw [e] at ho'
  cases ho'
  exact hn
/-- the first handler takes it -/
theorem handle_hit (I3 : Inv X pins σ1 H1 s) (hx : Our X pins H1 x) (xa2 : XAt s.heap (Our X pins H1) x (.ref Cx) od .none) (hN : X.N.Nodup) (hi : X.N[i]? = some n) (hk : X.env.scope.names.lookup n = some .local) (hg : Gl X cx) (hm : X.mg cx = some (.ref CN)) (c : XCl X.K CN) (un : Under X.K Cx CN)
    (hs : ∀ x C, PSs (X.caught x) (b₀ :: suite) (tc x C)) (q : tc x Cx (offName i D) (σ1.set i (some (.ref x))) (upd H1 x (.ext (gotP x Cx od)))) (hdb : (cx == ("__debug__" : Str)) = false := by decide) :
    wpAny (model X.prog X.w) X.A (handleBy (.ref x) X.env (.ExceptHandler (some (.Name cx np)) (some n) (b₀ :: suite) hp :: rest)) (SP X pins D) X.xe s := by
  obtain ⟨hh0, g0, d0, t0, o0⟩ := s
  obtain ⟨nm, qn, N, bs, bm, sn, sub, ab, col, dd, k0, k1, k2, k3, k5, lk, tv⟩ := c.at_
  obtain ⟨nm', qn', N', bs', bm', sn', sub', ab', col', dd', j0, j1, j2, j3, j5, lk', tv'⟩ := un.1.at_
  refine wpAny_handleBy_cons (codeAny_handlers_test ?_) (by intro q; cases q)
  refine ld_glob (X := X.caught x) I3.caught hg hm ?_ hdb
  obtain ⟨vs, sl, v1, ex, ev1, tb2⟩ := id xa2
  refine xmatch (I3.kIn _ _ lk') (I3.kIn _ _ lk) tv ex rfl (un.has lk') ?_
  refine codeAny_handlers_suite_as ?_
  refine land_ok (s := ⟨hh0, g0, d0, t0, o0⟩) (fr := frs X.stack) xa2 (fr_no I3) fun h3 n3 xa3 => ?_
  have I4 := I3.noted hx n3
  obtain ⟨vs3, sl3, v3, ex3, _, _⟩ := id xa3
  have I5 : Inv X pins σ1 (upd H1 x (.ext (gotP x Cx od))) ⟨h3, g0, d0, t0, o0⟩ := I4.track hx (gotP_ok ex3)
  refine store_ok (X := X.caught x) I5.caught hN hi (.inl hk) (show RelV (.ref x) (.ref x) from rfl) (fun s6 I6 => ?_) (.inr hk)
  refine wpAny_mono (hs x Cx pins s6 _ _ (offName i D) I6 q) (fun f s7 hf => ?_) fun _ _ z => False.elim z
  have fin : ∀ {σ' : St} {H' : Hp} {Q : Unit → Shared → Prop}, Inv (X.caught x) pins σ' H' s7 → (∀ s', Inv X pins (σ'.set i none) H' s' → Q () s') → wpAny (model X.prog X.w) X.A (do bindName X.env n .none; unbindBehindTheSuite X.env n hp) Q X.xe s7 := fun {σ' H' Q} J kq => by
    have J' : Inv X pins σ' H' s7 := J.uncaught I3.ok
    obtain ⟨m, hmn, hml⟩ := id J'.loc
    exact wpAny_nameGoes_keeps hk hmn (by rw [I3.ok.kind]; rfl) fun h' v hn' sb => kq _ (J'.unname hN hi hn' hml sb)
  cases f with
  | next => obtain ⟨σ', H', J, z⟩ := hf; exact fin J fun s' J' => ⟨_, H', J', z⟩
  | brk => obtain ⟨σ', H', J, z⟩ := hf; exact fin J fun s' J' => ⟨_, H', J', z⟩
  | cont => obtain ⟨σ', H', J, z⟩ := hf; exact fin J fun s' J' => ⟨_, H', J', z⟩
  | ret u => obtain ⟨v, σ', H', J, r, z⟩ := hf; exact fin J fun s' J' => ⟨v, _, H', J', r, z⟩
theorem try_land (hst : X.stack = X.env :: X.outer) (hfr : X.env.frame = some X.env.locals) {hds : List ExceptHandler} {EX : XS} {σ : St} {H : Hp} (I : Inv X pins σ H s) {pn : List (Addr × Obj)} (hpn : pn = X.pn ++ pins)
    (hh : ∀ (σ1 : St) (H1 : Hp) (s1 : Shared) (x : Addr) (C : Value) (od : Option Addr), Inv X pins σ1 H1 s1 → Our X pins H1 x → XAt s1.heap (Our X pins H1) x C od .none → EX C od σ1 H1 → wpAny (model X.prog X.w) X.A (handleBy (.ref x) X.env hds) (SP X pins D) X.xe s1) :
    Lands (X.within pn (fun e s₁ => wpAny (model X.prog X.w) X.A (noteFrame e X.env) (fun _ s₂ => wpAny (model X.prog X.w) X.A (setFlight e none) (fun _ s₃ => wpAny (model X.prog X.w) X.A (handleBy e X.env hds) (SP X pins D) X.xe s₃) X.xe s₂) X.xe s₁)) EX := by
  subst hpn
  intro pins' σ1 H1 s1 x C od I1' hx' xa' q
  have I1 : Inv X pins σ1 H1 s1 := I1'.out I.ok
  have hx : Our X pins H1 x := hx'.out
  have xa : XAt s1.heap (Our X pins H1) x C od .none := xa'.imp fun _ o => o.out
  have hfl : X.A.frames = some (X.env :: X.outer) := by rw [I.ok.frames, hst]
  refine note_ok (base := X.base) hfl (by rw [← hst]; exact I1.stack) hfr xa (fun T hT => I1.our hT) fun h1 n1 xa1 => ?_
  have I2 := I1.noted hx (by rw [hst]; exact n1)
  refine land_ok (s := { s1 with heap := h1 }) (fr := frs X.stack) xa1 (fr_no I2) fun h2 n2 xa2 => ?_
  exact hh σ1 H1 { s1 with heap := h2 } x C od (I2.noted hx n2) hx xa2 q
/-- .. where the first handler takes all that comes -/
theorem ps_tryU1 {on : Option Str} (hst : X.stack = X.env :: X.outer) (hfr : X.env.frame = some X.env.locals) (hN : X.N.Nodup) (hi : X.N[i]? = some n) (hk : X.env.scope.names.lookup n = some .local) (hg : Gl X cx) (hm : X.mg cx = some (.ref CN)) (c : XCl X.K CN)
    (hb : ∀ D pn XE, Lands (X.within pn XE) (EXu X.K CN i tc D) → PSs (X.within pn XE) body (tb D)) (hs : ∀ x C, PSs (X.caught x) (b₀ :: suite) (tc x C)) (hdb : (cx == ("__debug__" : Str)) = false := by decide) :
    PS X (.Try body (.ExceptHandler (some (.Name cx np)) (some n) (b₀ :: suite) hp :: rest) [] [] pos) (tTry tb) := by
  intro pins s σ H D I h
  refine wpAny_Try_except ?_
  refine wpAny_mono (hb D (X.pn ++ pins) _ (try_land hst hfr (hds := .ExceptHandler (some (.Name cx np)) (some n) (b₀ :: suite) hp :: rest) I rfl ?_) [] s σ H D I.within h) (fun f s₁ hf => ?_) fun e s₁ z => z
  · rintro σ1 H1 s1 x C od I1 hx xa ⟨Cx, rfl, un, q⟩
    exact handle_hit I1 hx xa hN hi hk hg hm c un hs (q x hx.unt) hdb
  · have hf' := hf.out I.ok
    cases f with
    | next => exact wpAny_pure hf'
    | brk => exact hf'
    | cont => exact hf'
    | ret u => exact hf'
end
end L2

/-! list(reversed(a list)) as a value; max(a list of texts) (own work). -/
namespace L2
open PySem PySem.Spec PyProof.Rows
section
variable {prog : Program} {w : World} {A : Around} {E : Value → Shared → Prop} {s : Shared} {R : Result → Shared → Prop}
variable {I : Addr} {fp wr : List Addr} {G : Array GenState → Array GenState → Prop} {n : Nat} {P : Nat → Value → Prop} {St : Nat → Shared → Prop}
end
/-- the best of a walk by an order without rings -/
theorem best_le (bt : Nat → Nat → Bool) : ∀ k, argBest bt k ≤ k
  | 0 => Nat.le_refl _
  | k + 1 => by
    unfold argBest
    split
    · exact Nat.le_refl _
    · exact Nat.le_succ_of_le (best_le bt k)
theorem best_top {bt : Nat → Nat → Bool} (ir : ∀ i, bt i i = false) (tr : ∀ i j k, bt i j = true → bt j k = true → bt i k = true) : ∀ k i, i ≤ k → bt i (argBest bt k) = false
  | 0, i, h => by
    obtain rfl : i = 0 := by omega
    exact ir 0
  | k + 1, i, h => by
    unfold argBest
    by_cases hb : bt (k + 1) (argBest bt k) = true
    · rw [if_pos hb]
      by_cases e : i = k + 1
      · subst e
        exact ir _
      · have ih := best_top ir tr k i (by omega)
        cases hc : bt i (k + 1) with
        | false => rfl
        | true => rw [tr _ _ _ hc hb] at ih; cases ih
    · rw [if_neg hb]
      by_cases e : i = k + 1
      · subst e
        exact Bool.eq_false_iff.mpr hb
      · exact best_top ir tr k i (by omega)
theorem CmpOf.strs_gt {prog : Program} {w : World} {A : Around} {P : Nat → Value → Prop} (val : Nat → Str) (hval : ∀ i v, P i v → ∃ t, v = .str (val i) t) :
    CmpOf prog w A .Gt P (fun i j => decide ((val j).cps.toList < (val i).cps.toList)) := fun i j vi vj s Q E hi hj h => by
  obtain ⟨t, rfl⟩ := hval i vi hi
  obtain ⟨u, rfl⟩ := hval j vj hj
  exact richCompare_gives (op := .Gt) (typeIs_str s _ t) (typeIs_str s _ u) F.slot_str_gt F.entry_str_gt (F.args_str_gt_2 _ _) (gives_str_gt _ _ t u) (fun x => nomatch x) h
theorem lt_more (l : List Nat) (x : Nat) : l < l ++ [x] := by
  induction l with
  | nil => exact List.Lex.nil
  | cons a r ih => exact List.Lex.cons ih
section
variable {X : Cx}
/-- max(a list of texts) -/
theorem call_maxT (hc : X.calm = true) : CallR X (.builtin "max") (fun xs H Q => ∃ (a : Addr) (zs : List Str), xs = [.ref a] ∧ SqL X.K H a (zs.map V.str) ∧ 0 < zs.length ∧ ∀ z ∈ zs, (∀ y ∈ zs, ¬ z.cps.toList < y.cps.toList) → Q (.str z) H) := by
  intro pins s σ H xs us Q I r h
  obtain ⟨a, zs, rfl, hq, hn, q⟩ := h
  obtain ⟨u, rfl, rx⟩ := vals1 r
  cases rx
  obtain ⟨its, rv, pl, hz⟩ := I.list hq
  have hl : zs.length = its.length := by have := rv.length; rwa [List.length_map] at this
  have hat : ∀ i v, its.toArray[i]? = some v → ∃ t, v = Value.str (zs.getD i "") t := fun i v e => by
    rw [List.getElem?_toArray] at e
    have hi : i < its.length := (List.getElem?_eq_some_iff.mp e).1
    have hx : (zs.map V.str)[i]? = some (V.str (zs.getD i "")) := by
      rw [List.getElem?_map, List.getElem?_eq_getElem (by omega)]
      show some (V.str _) = some (V.str _)
      rw [List.getD_eq_getElem?_getD, List.getElem?_eq_getElem (by omega)]
      rfl
    obtain ⟨u, hu, ru⟩ := rv.get hx
    rw [e] at hu
    cases hu
    exact ru
  have hlt : a < s.heap.objs.size := by obtain ⟨_, e, _⟩ := pl.isList; exact Heap.lt_size e
  refine call_max_walk (wpAny_pyIter_list pl.isList ?_)
  refine ⟨_, _, _, _, _, _, _, rfl, Walks.list (A := X.A.in1) (I.ok.hd hc) s.heap.objs.size a (Nat.ne_of_lt hlt) its.toArray, ⟨⟨_, Heap.get?_push_size _ rfl, rfl, rfl⟩, pl.isList.push _⟩, fun b hb => ?_, (by rw [List.size_toArray]; omega), CmpOf.strs_gt (fun i => zs.getD i "") hat, fun v h' tk hP hk => ?_⟩
  · show b < (s.heap.push _).objs.size
    rw [Heap.size_push]
    rcases List.mem_cons.mp hb with rfl | hb
    · exact Nat.lt_succ_self _
    · rw [List.mem_singleton.mp hb]
      exact Nat.lt_succ_of_lt hlt
  · obtain ⟨t, rfl⟩ := hat _ _ hP
    have hb := best_le (fun i j => decide ((zs.getD j "").cps.toList < (zs.getD i "").cps.toList)) (its.toArray.size - 1)
    have ht := best_top (bt := fun i j => decide ((zs.getD j "").cps.toList < (zs.getD i "").cps.toList)) (fun i => decide_eq_false (List.lt_irrefl _)) (fun i j k h1 h2 => decide_eq_true (List.lt_trans (of_decide_eq_true h2) (of_decide_eq_true h1))) (its.toArray.size - 1)
    rw [List.size_toArray] at hb ht
    have I2 : Inv X pins σ H { s with heap := h', toks := tk } := I.kept (old_kept hk)
    refine ⟨.str _, H, I2, ⟨t, rfl⟩, q _ ?_ fun y hy => ?_⟩
    · rw [List.size_toArray]
      rw [List.getD_eq_getElem?_getD, List.getElem?_eq_getElem (by omega)]
      exact List.getElem_mem _
    · obtain ⟨i, hi⟩ := List.getElem?_of_mem hy
      have hil : i < zs.length := (List.getElem?_eq_some_iff.mp hi).1
      have h2 := of_decide_eq_false (ht i (by omega))
      rw [List.getD_eq_getElem?_getD (l := zs) (i := i), hi] at h2
      rw [List.size_toArray]
      exact h2
end
end L2

namespace L2
open PySem PySem.Spec PyProof.Rows
section
variable {X : Cx}
end
end L2

/-! SORTING BY KEYS THAT DIFFER (own work): what the asking sort does, whoever answers. -/
namespace Srt
open PySem PySem.W PyProof.Rows
section
variable {N : Nat} {r : Nat → Nat → Bool} {cmp : Nat → Nat → (Bool → Shared → Prop) → Shared → Prop} {P : Shared → Prop} {p : Array Nat}
end
end Srt

/-! sorted OF A LIST OF TUPLES WHOSE FIRST THINGS ARE TEXTS THAT DIFFER (own work). -/
namespace Srt
open PySem PySem.W PyProof.Rows
section
variable {prog : Program} {w : World} {A : Around} {E : Value → Shared → Prop} {s : Shared}
end
end Srt
namespace L2
open PySem PySem.Spec PyProof.Rows
section
variable {X : Cx}
end
end L2

/-! == OF TWO DICTS, where they are alike (own work). -/
namespace L2
open PySem PySem.Spec PyProof.Rows PySem.Builtin PySem.Builtin.Dict
theorem dict_eq_tree (a b : Value) : Builtin.«dict.__eq__» ⟨[a, b], []⟩ = (do
    let (self, other) ← dictSlotArgs "__eq__" ⟨[a, b], []⟩
    if !(← isInstance other (.type "dict")) then rule s!"dict.{("__eq__" : String)}.not-a-dict"; return ← ret .notImplemented
    ret (.bool ((← Dict.samePairs s!"dict.{("__eq__" : String)}" (← addrOf self) (← addrOf other)) == true))) := rfl
theorem sub_dict_dict : isSubtype (.type "dict") (.type "dict") = pure true := by rw [isSubtype_type]; kernel_rfl
section
variable {prog : Program} {w : World} {A : Around} {E : Value → Shared → Prop} {s : Shared} {a b : Addr} {oa ob : Obj} {es fs : Array DictEntry} {ep fp : Nat}
theorem same_pairs {id : String} {Q : Bool → Shared → Prop} (ha : s.heap.get? a = some oa) (da : oa.data = .dict es ep) (hb : s.heap.get? b = some ob) (db : ob.data = .dict fs fp) (na : (a == sysModules) = false) (nb : (b == sysModules) = false) (hsz : es.size = fs.size)
    (hf : ∀ (i : Nat) (e : DictEntry), es[i]? = some e → ∃ (j : Nat) (f : DictEntry), fs[j]? = some f ∧ (∀ (R : Option Nat → Shared → Prop), R (some j) s → wpAny (model prog w) A (dictFind b e.key e.hash) R E s) ∧ ∀ (R : Bool → Shared → Prop), R true s → wpAny (model prog w) A (eqBool e.val f.val) R E s)
    (hq : Q true s) : wpAny (model prog w) A (Dict.samePairs id a b) Q E s := by
  unfold Dict.samePairs Dict.showsAll
  simp only [na, nb, Bool.false_eq_true, if_false]
  refine wpAny_bind (wpAny_pure (wpAny_bind (wpAny_pure ?_)))
  refine wpAny_bind (wpAny_dictEntries ha da ?_)
  refine wpAny_bind (wpAny_dictEntries hb db ?_)
  rw [if_neg (by rw [hsz]; simp)]
  refine wpAny_bind (wpAny_dictEpoch ha da ?_)
  rw [Std.Legacy.Range.forIn_eq_forIn_range']
  refine wpAny_bind (wpAny_forIn_list _ (fun rest b s' => b = (none, ()) ∧ s' = s ∧ ∀ x ∈ rest, x < es.size) _ (fun i rest b s' hI => ?_) (fun b s' hI => ?_) _ _ ⟨rfl, rfl, fun x hx => ?_⟩)
  · obtain ⟨rfl, rfl, hl⟩ := hI
    have hi := hl i List.mem_cons_self
    obtain ⟨j, f, hj, h1, h2⟩ := hf i es[i] (by simp [hi])
    refine wpAny_bind (wpAny_dictEntries ha da ?_)
    have ei : es[i]? = some es[i] := by simp [hi]
    rw [ei]
    dsimp only
    refine wpAny_bind (wpAny_holding (wpAny_bind (h1 _ ?_)))
    dsimp only
    refine wpAny_bind (wpAny_dictEntries hb db ?_)
    rw [hj]
    dsimp only
    refine wpAny_holding (h2 _ ?_)
    rw [if_neg (by decide)]
    refine wpAny_bind (wpAny_dictEpoch ha da ?_)
    rw [if_neg (by simp)]
    exact wpAny_pure ⟨rfl, rfl, fun x hx => hl x (List.mem_cons_of_mem _ hx)⟩
  · obtain ⟨rfl, rfl, _⟩ := hI
    exact wpAny_pure hq
  · have := List.mem_range'.mp hx
    obtain ⟨k, hk, rfl⟩ := this
    simp [Std.Legacy.Range.size] at hk ⊢
    omega
end
end L2

namespace L2
open PySem PySem.Spec PyProof.Rows PySem.Builtin PySem.Builtin.Dict
theorem pairs_len {P : Program} {w : World} : ∀ {es : List DictEntry} {kvs : List (Key × Value)}, Pairs (mixKind P w) es kvs → es.length = kvs.length
  | _, _, .nil => rfl
  | _, _, .cons _ _ r => by simp [pairs_len r]
theorem find_str {prog : Program} {w : World} {A : Around} {E : Value → Shared → Prop} {s : Shared} {d : Addr} {o : Obj} {es : Array DictEntry} {ep j : Nat} {x : Str} {t : Tok} {hs : Int} {Q : Option Nat → Shared → Prop} (ho : s.heap.get? d = some o) (hd : o.data = .dict es ep)
    (hall : ∀ e ∈ es, ∃ z t, e.key = Value.str z t) (hj : es.findIdx? (fun e => e.key.isStr x) = some j) (h : Q (some j) s) : wpAny (model prog w) A (dictFind d (.str x t) hs) Q E s := by
  obtain ⟨hjs, hjt, _⟩ := Array.findIdx?_eq_some_iff_getElem.mp hj
  have ha : (es.all fun e => isExactStrKey e.key) = true := by
    rw [Array.all_eq_true']
    intro e he
    obtain ⟨z, t, q⟩ := hall e he
    rw [q]
    rfl
  obtain ⟨z, tz, ez⟩ := hall es[j] (Array.getElem_mem hjs)
  have zx : z = x := by
    rw [ez] at hjt
    exact eq_of_beq hjt
  subst zx
  unfold dictFind
  refine wpAny_holding ?_
  refine wpAny_bind (wpAny_dictEntries ho hd ?_)
  dsimp only
  rw [if_pos ha]
  unfold foundByValue
  rw [hj]
  dsimp only
  rw [Array.getElem?_eq_getElem hjs]
  dsimp only
  rw [ez]
  refine wpAny_bind (wpAny_dictEpoch ho hd (wpAny_bind (wpAny_eqBool_str (wpAny_bind (wpAny_dictEpoch ho hd ?_)))))
  rw [if_neg (by simp), if_pos (by simp)]
  exact wpAny_bind (wpAny_rule (wpAny_pure h))
section
variable {A : Around} {s : Shared} {P : Program} {w : World}
/-- two dicts, each key of the one in the other, the values equal -/
theorem eqAt_dicts {a b : Addr} {kvs kws : List (Key × Value)} (da : s.heap.DictOf (mixKind P w) a kvs) (db : s.heap.DictOf (mixKind P w) b kws) (na : (a == sysModules) = false) (nb : (b == sysModules) = false) (hl : kvs.length = kws.length) (tx : ∀ (k : Key) (v : Value), (k, v) ∈ kws → ∃ x, k = .inr x)
    (he : ∀ (k : Key) (v : Value), (k, v) ∈ kvs → ∃ v', (k, v') ∈ kws ∧ SeqAt.EqAt A.in1 s v v' true) (hu : A.units < cLine) : SeqAt.EqAt A s (.ref a) (.ref b) true := by
  by_cases hab : a = b
  · rw [hab]
    exact SeqAt.EqAt.same _
  refine SeqAt.EqAt.of_refs hab fun prog w' E Q hq => ?_
  obtain ⟨oa, es, ep, ha, xa, dda, ka, pa, nda⟩ := da
  obtain ⟨ob, fs, fp, hb, xb, ddb, kb, pb, ndb⟩ := db
  have Ta : s.TypeIs (.ref a) "dict" := ⟨oa, ha, xa.1⟩
  have Tb : s.TypeIs (.ref b) "dict" := ⟨ob, hb, xb.1⟩
  have la : es.size = kvs.length := by have := pairs_len pa; simpa using this
  have lb : fs.size = kws.length := by have := pairs_len pb; simpa using this
  have kb' : ∀ e ∈ fs, ∃ z t, e.key = Value.str z t := fun e he' => by
    obtain ⟨m, hm, rfl⟩ := Array.mem_iff_getElem.mp he'
    obtain ⟨⟨k, v⟩, hk⟩ : ∃ kv, kws[m]? = some kv := ⟨_, List.getElem?_eq_getElem (by omega)⟩
    obtain ⟨g1, _⟩ := pb.get? (i := m) (e := fs[m]) (by simp [hm]) hk
    obtain ⟨x, rfl⟩ := tx k v (List.mem_of_getElem? hk)
    rcases keyIs_shape (k := .inr x) (v := fs[m].key) g1 with ⟨i, t, q, _⟩ | ⟨z, t, q, q2⟩
    · cases q
    · exact ⟨z, t, q2⟩
  refine wpAny_richCompare_same_room Ta Tb F.slot_dict_eq (wpAny_call_entry F.slot_dict_eq Ta F.entry_dict_eq ?_ (F.args_dict_eq_2 _ _)) hu
  rw [dict_eq_tree]
  refine wpAny_bind ?_
  show wpAny _ _ (pure (Value.ref a, Value.ref b)) _ _ _
  refine wpAny_pure ?_
  dsimp only
  refine wpAny_bind (wpAny_isInstance (T := "dict") (b := true) Tb sub_dict_dict ?_)
  simp only [Bool.not_true, Bool.false_eq_true, if_false]
  refine wpAny_bind (wpAny_pure (wpAny_bind (wpAny_pure (wpAny_bind (same_pairs ha dda hb ddb na nb (by omega) (fun i e ei => ?_) ?_)))))
  · have hi : i < es.size := (Array.getElem?_eq_some_iff.mp ei).1
    obtain ⟨⟨k, v⟩, hk⟩ : ∃ kv, kvs[i]? = some kv := ⟨_, List.getElem?_eq_getElem (by omega)⟩
    obtain ⟨g1, g2⟩ := pa.get? (i := i) (e := e) (by simpa using ei) hk
    obtain ⟨k2, g3, g4⟩ := ka e (Array.mem_of_getElem? ei)
    have ek : k2 = k := (mixKind P w).inj _ _ _ g3 g1
    subst ek
    obtain ⟨v', hv', eq⟩ := he k2 v (List.mem_of_getElem? hk)
    obtain ⟨x, rfl⟩ := tx k2 v' hv'
    obtain ⟨t0, ek0⟩ : ∃ t, e.key = Value.str x t := by
      rcases keyIs_shape (k := .inr x) (v := e.key) g1 with ⟨i, t, q, _⟩ | ⟨z, t, q, q2⟩
      · cases q
      · cases q
        exact ⟨t, q2⟩
    obtain ⟨m, hm⟩ := List.getElem?_of_mem hv'
    have hm' : m < fs.size := by have := (List.getElem?_eq_some_iff.mp hm).1; omega
    have em : fs.toList[m]? = some fs[m] := by simp [hm']
    obtain ⟨q1, q2⟩ := pb.get? em hm
    obtain ⟨j, hj⟩ : ∃ j, fs.findIdx? (fun e => e.key.isStr x) = some j := by
      cases z : fs.findIdx? (fun e => e.key.isStr x) with
      | some j => exact ⟨j, rfl⟩
      | none =>
        have := Array.findIdx?_eq_none_iff.mp z fs[m] (Array.getElem_mem hm')
        have q1' : fs[m].key.isStr x = true := by
          rcases keyIs_shape (k := .inr x) (v := fs[m].key) q1 with ⟨i, t, q, _⟩ | ⟨z, t, q, q2⟩
          · cases q
          · cases q
            rw [q2]
            exact beq_self_eq_true x
        rw [q1'] at this
        cases this
    obtain ⟨hjs, hjt, _⟩ := Array.findIdx?_eq_some_iff_getElem.mp hj
    obtain ⟨⟨k3, v3⟩, hk3⟩ : ∃ kv, kws[j]? = some kv := ⟨_, List.getElem?_eq_getElem (by omega)⟩
    obtain ⟨r1, r2⟩ := pb.get? (i := j) (e := fs[j]) (by simp [hjs]) hk3
    have hjk : (mixKind P w).is (.inr x) fs[j].key = true := by
      obtain ⟨z, t, q⟩ := kb' fs[j] (Array.getElem_mem hjs)
      rw [q] at hjt ⊢
      have zx : z = x := eq_of_beq hjt
      rw [zx]
      rw [(mixKind P w).strs (.inr x) x t0 _ (by rw [← ek0]; exact g1)]
      exact beq_self_eq_true x
    have e3 : k3 = .inr x := (mixKind P w).inj _ _ _ r1 hjk
    subst e3
    have jm : j = m := by
      have hj1 : (kws.map (·.1))[j]? = some (Sum.inr x) := by rw [List.getElem?_map, hk3]; rfl
      have hm1 : (kws.map (·.1))[m]? = some (Sum.inr x) := by rw [List.getElem?_map, hm]; rfl
      obtain ⟨x1, y1⟩ := List.getElem?_eq_some_iff.mp hj1
      obtain ⟨x2, y2⟩ := List.getElem?_eq_some_iff.mp hm1
      rcases Nat.lt_trichotomy j m with z | z | z
      · exact absurd (y1.trans y2.symm) (List.pairwise_iff_getElem.mp ndb j m x1 x2 z)
      · exact z
      · exact absurd (y2.trans y1.symm) (List.pairwise_iff_getElem.mp ndb m j x2 x1 z)
    subst jm
    rw [hm] at hk3
    cases hk3
    refine ⟨j, fs[j], by simp [hjs], fun R hR => ?_, fun R hR => ?_⟩
    · rw [ek0]
      exact find_str hb ddb kb' hj hR
    · rw [g2, r2]
      exact eq prog w' E R hR
  · exact wpAny_pure ⟨_, rfl, (fun z => nomatch z), hq⟩
end
end L2

/-! == AND != OF THINGS THAT ARE ALIKE ALL THE WAY DOWN (own work). -/
namespace L2
open PySem PySem.Spec PyProof.Rows
inductive Dq (H : Hp) : Nat → V → V → Prop
  | non {n : Nat} : Dq H n .non .non
  | bl {n : Nat} {b : Bool} : Dq H n (.bl b) (.bl b)
  | int {n : Nat} {i : Int} : Dq H n (.int i) (.int i)
  | str {n : Nat} {z : Str} : Dq H n (.str z) (.str z)
  | ref {n : Nat} {a : Addr} : Dq H n (.ref a) (.ref a)
  | tup {n : Nat} {a b : Addr} {xs ys : List V} (ha : H a = some (.tup xs)) (hb : H b = some (.tup ys)) (hl : xs.length = ys.length) (h : ∀ (i : Nat) (x y : V), xs[i]? = some x → ys[i]? = some y → Dq H n x y) : Dq H (n + 1) (.ref a) (.ref b)
  | lst {n : Nat} {a b : Addr} {xs ys : List V} (ha : H a = some (.lst xs)) (hb : H b = some (.lst ys)) (hl : xs.length = ys.length) (h : ∀ (i : Nat) (x y : V), xs[i]? = some x → ys[i]? = some y → Dq H n x y) : Dq H (n + 1) (.ref a) (.ref b)
  | dct {n : Nat} {a b : Addr} {kvs kws : List (Key × V)} (f : Key → V) (ha : Rd H a (.dK kvs)) (hb : Rd H b (.dK kws)) (hl : kvs.length = kws.length) (tx : ∀ (k : Key) (v : V), (k, v) ∈ kws → ∃ x, k = .inr x)
      (hf : ∀ (k : Key) (v : V), (k, v) ∈ kvs → (k, f k) ∈ kws) (h : ∀ (k : Key) (v : V), (k, v) ∈ kvs → Dq H n v (f k)) : Dq H (n + 1) (.ref a) (.ref b)
theorem kv_back : ∀ {kvs : List (Key × V)} {vs : List (Key × Value)} {k : Key} {u : Value} {i : Nat}, KV kvs vs → vs[i]? = some (k, u) → ∃ v, kvs[i]? = some (k, v) ∧ RelV v u
  | _, _, _, _, _, .nil, e => by simp at e
  | _, _, k, u, 0, .cons (a := p) r _, e => by
    simp at e
    subst e
    obtain ⟨p1, p2⟩ := p
    obtain ⟨r1, r2⟩ := r
    simp only at r1
    subst r1
    exact ⟨p2, rfl, r2⟩
  | _, _, k, u, i + 1, .cons _ t, e => by
    obtain ⟨v, h1, h2⟩ := kv_back (i := i) t (by simpa using e)
    exact ⟨v, by simpa using h1, h2⟩
section
variable {X : Cx} {pins : List (Addr × Obj)} {σ : St} {H : Hp} {s : Shared}
theorem eqAt_Dq (I : Inv X pins σ H s) {n : Nat} {x y : V} (d : Dq H n x y) : ∀ {u u' : Value} {A : Around}, RelV x u → RelV y u' → A.units + n < cLine → SeqAt.EqAt A s u u' true := by
  induction d with
  | non => intro u u' A r r' _; cases r; cases r'; exact SeqAt.EqAt.same _
  | bl => intro u u' A r r' _; cases r; cases r'; exact SeqAt.EqAt.same _
  | @int n i =>
    intro u u' A r r' _
    obtain ⟨t, rfl⟩ := r
    obtain ⟨t', rfl⟩ := r'
    have h := SeqAt.EqAt.int_int (A := A) (s := s) i t i t'
    rwa [beq_self_eq_true] at h
  | @str n z =>
    intro u u' A r r' _
    obtain ⟨t, rfl⟩ := r
    obtain ⟨t', rfl⟩ := r'
    have h := SeqAt.EqAt.str_str (A := A) (s := s) z t z t'
    rwa [beq_self_eq_true] at h
  | ref => intro u u' A r r' _; cases r; cases r'; exact SeqAt.EqAt.same _
  | @tup n a b xs ys ha hb hl h ih =>
    intro u u' A r r' hu
    cases r
    cases r'
    by_cases hab : a = b
    · rw [hab]; exact SeqAt.EqAt.same _
    obtain ⟨its, r1, pl, _⟩ := I.tuple (SqT.of (K := X.K) ha)
    obtain ⟨jts, r2, ql, _⟩ := I.tuple (SqT.of (K := X.K) hb)
    have l1 := r1.length
    have l2 := r2.length
    have h0 := SeqAt.RcAt.tuples (A := A) (e := fun _ => true) pl ql (by omega) (fun j g1 g2 => ?_)
    · have e : ((List.range (min its.toArray.size jts.toArray.size)).all (fun _ => true) && its.toArray.size == jts.toArray.size) = true := by
        simp
        omega
      rw [e] at h0
      exact SeqAt.EqAt.of_refs hab h0
    · have g1' : j < its.length := by simpa using g1
      have g2' : j < jts.length := by simpa using g2
      obtain ⟨u1, e1, k1⟩ := r1.get (i := j) (x := xs[j]'(by omega)) (by simp)
      obtain ⟨u2, e2, k2⟩ := r2.get (i := j) (x := ys[j]'(by omega)) (by simp)
      have w1 : its.toArray[j] = u1 := by have := (List.getElem?_eq_some_iff.mp e1).2; simpa using this
      have w2 : jts.toArray[j] = u2 := by have := (List.getElem?_eq_some_iff.mp e2).2; simpa using this
      rw [w1, w2]
      exact ih j _ _ (by simp) (by simp) k1 k2 (by show A.units + 1 + n < cLine; omega)
  | @lst n a b xs ys ha hb hl h ih =>
    intro u u' A r r' hu
    cases r
    cases r'
    by_cases hab : a = b
    · rw [hab]; exact SeqAt.EqAt.same _
    obtain ⟨its, r1, pl, _⟩ := I.list (xs := xs) (.inl (.inl ha))
    obtain ⟨jts, r2, ql, _⟩ := I.list (xs := ys) (.inl (.inl hb))
    have l1 := r1.length
    have l2 := r2.length
    have h0 := SeqAt.RcAt.lists (A := A) (e := fun _ => true) pl.isList ql.isList (by simp; omega) (by omega) (fun j g1 g2 => ?_)
    · have e : ((List.range its.toArray.size).all (fun _ => true)) = true := by simp
      rw [e] at h0
      exact SeqAt.EqAt.of_refs hab h0
    · have g1' : j < its.length := by simpa using g1
      have g2' : j < jts.length := by simpa using g2
      obtain ⟨u1, e1, k1⟩ := r1.get (i := j) (x := xs[j]'(by omega)) (by simp)
      obtain ⟨u2, e2, k2⟩ := r2.get (i := j) (x := ys[j]'(by omega)) (by simp)
      have w1 : its.toArray[j] = u1 := by have := (List.getElem?_eq_some_iff.mp e1).2; simpa using this
      have w2 : jts.toArray[j] = u2 := by have := (List.getElem?_eq_some_iff.mp e2).2; simpa using this
      rw [w1, w2]
      exact ih j _ _ (by simp) (by simp) k1 k2 (by show A.units + 1 + n < cLine; omega)
  | @dct n a b kvs kws f ha hb hl tx hf h ih =>
    intro u u' A r r' hu
    cases r
    cases r'
    obtain ⟨_, na, vs, kv, da⟩ := dk_rd I.hok ha
    obtain ⟨_, nb, ws, kw, db⟩ := dk_rd I.hok hb
    have l1 := kv.length
    have l2 := kw.length
    refine eqAt_dicts da db na nb (by omega) (fun k v hk => ?_) (fun k v hk => ?_) (by omega)
    · obtain ⟨i, hi⟩ := List.getElem?_of_mem hk
      obtain ⟨v0, e0, _⟩ := kv_back kw hi
      exact tx k v0 (List.mem_of_getElem? e0)
    · obtain ⟨i, hi⟩ := List.getElem?_of_mem hk
      obtain ⟨v0, e0, rv⟩ := kv_back kv hi
      have m0 := List.mem_of_getElem? e0
      obtain ⟨m, hm⟩ := List.getElem?_of_mem (hf k v0 m0)
      obtain ⟨u', e1, rv'⟩ := kv_get kw hm
      exact ⟨u', List.mem_of_getElem? e1, ih k v0 m0 rv rv' (by show A.units + 1 + n < cLine; omega)⟩
/-- == of two lists that are alike; != of them -/
theorem rc_lists {A : Around} (I : Inv X pins σ H s) {n : Nat} {a b : Addr} {xs ys : List V} (ha : SqL X.K H a xs) (hb : SqL X.K H b ys) (hl : xs.length = ys.length) (h : ∀ (i : Nat) (x y : V), xs[i]? = some x → ys[i]? = some y → Dq H n x y) (hu : A.units + n + 1 < cLine) :
    SeqAt.RcAt A s (.ref a) (.ref b) true ∧ SeqAt.RcNeAt A s (.ref a) (.ref b) false := by
  obtain ⟨its, r1, pl, _⟩ := I.list ha
  obtain ⟨jts, r2, ql, _⟩ := I.list hb
  have l1 := r1.length
  have l2 := r2.length
  have el : ∀ j (g1 : j < its.toArray.size) (g2 : j < jts.toArray.size), SeqAt.EqAt A.in1 s its.toArray[j] jts.toArray[j] true := fun j g1 g2 => by
    have g1' : j < its.length := by simpa using g1
    have g2' : j < jts.length := by simpa using g2
    obtain ⟨u1, e1, k1⟩ := r1.get (i := j) (x := xs[j]'(by omega)) (by simp)
    obtain ⟨u2, e2, k2⟩ := r2.get (i := j) (x := ys[j]'(by omega)) (by simp)
    have w1 : its.toArray[j] = u1 := by have := (List.getElem?_eq_some_iff.mp e1).2; simpa using this
    have w2 : jts.toArray[j] = u2 := by have := (List.getElem?_eq_some_iff.mp e2).2; simpa using this
    rw [w1, w2]
    exact eqAt_Dq I (h j _ _ (by simp) (by simp)) k1 k2 (by show A.units + 1 + n < cLine; omega)
  have e : ((List.range its.toArray.size).all (fun _ => true)) = true := by simp
  have h1 := SeqAt.RcAt.lists (A := A) (e := fun _ => true) pl.isList ql.isList (by simp; omega) (by omega) el
  have h2 := SeqAt.RcNeAt.lists (A := A) (e := fun _ => true) pl.isList ql.isList (by simp; omega) (by omega) el
  rw [e] at h1 h2
  exact ⟨h1, h2⟩
theorem op_eqL : OpR X (compareOp .Eq) (fun x y H Q => ∃ (n : Nat) (a b : Addr) (xs ys : List V), x = .ref a ∧ y = .ref b ∧ SqL X.K H a xs ∧ SqL X.K H b ys ∧ xs.length = ys.length ∧ (∀ (i : Nat) (x y : V), xs[i]? = some x → ys[i]? = some y → Dq H n x y) ∧ X.A.units + n + 1 < cLine ∧ Q (.bl true) H) := by
  intro pins s σ H x y v u Q I rx ry h
  obtain ⟨n, a, b, xs, ys, rfl, rfl, ha, hb, hl, hd, hu, q⟩ := h
  cases rx
  cases ry
  exact (rc_lists I ha hb hl hd hu).1 X.prog X.w X.xe _ ⟨.bl true, H, I, rfl, q⟩
theorem op_neL : OpR X (compareOp .NotEq) (fun x y H Q => ∃ (n : Nat) (a b : Addr) (xs ys : List V), x = .ref a ∧ y = .ref b ∧ SqL X.K H a xs ∧ SqL X.K H b ys ∧ xs.length = ys.length ∧ (∀ (i : Nat) (x y : V), xs[i]? = some x → ys[i]? = some y → Dq H n x y) ∧ X.A.units + n + 1 < cLine ∧ Q (.bl false) H) := by
  intro pins s σ H x y v u Q I rx ry h
  obtain ⟨n, a, b, xs, ys, rfl, rfl, ha, hb, hl, hd, hu, q⟩ := h
  cases rx
  cases ry
  exact (rc_lists I ha hb hl hd hu).2 X.prog X.w X.xe _ ⟨.bl false, H, I, rfl, q⟩
end
end L2

/-! != OF LISTS OF TEXTS, != OF TWO DICTS THAT ARE ALIKE (own work). -/
namespace L2
open PySem PySem.Spec PyProof.Rows PySem.Builtin PySem.Builtin.Dict
section
variable {X : Cx}
end
theorem dict_ne_tree (a b : Value) : Builtin.«dict.__ne__» ⟨[a, b], []⟩ = (do
    let (self, other) ← dictSlotArgs "__ne__" ⟨[a, b], []⟩
    if !(← isInstance other (.type "dict")) then rule s!"dict.{("__ne__" : String)}.not-a-dict"; return ← ret .notImplemented
    ret (.bool ((← Dict.samePairs s!"dict.{("__ne__" : String)}" (← addrOf self) (← addrOf other)) == false))) := rfl
section
variable {A : Around} {s : Shared} {P : Program} {w : World}
end
section
variable {X : Cx}
end
end L2

namespace L2
open PySem PySem.Spec PyProof.Rows
/-- a comprehension whose items are told by what has come so far -/
theorem compW_idx {J : It} {g : TG} {te : TE} {R : Addr → Hp → Prop} {D : Addr} {σ0 : St} {H0 : Hp} (n : Nat) (Pv : Nat → List V → St → Hp → Prop) (hn : n ≤ sizeLine) (h0 : Pv 0 [] σ0 H0) (hD0 : H0 D = some (.lst []))
    (hs : ∀ i σ H ys, i < n → Pv i ys σ H → ys.length = i → H D = some (.lst ys) → J.go i H ∧ ∀ x H', J.yld i H x H' → g x σ H' fun σ2 H2 => te σ2 H2 fun y H4 => H4 D = some (.lst ys) ∧ Pv (i + 1) (ys ++ [y]) σ2 (upd H4 D (.lst (ys ++ [y]))))
    (hd : ∀ σ H ys, Pv n ys σ H → H D = some (.lst ys) → ys.length = n → J.stop n H ∧ R D H) : CompW J g tYes te R D σ0 H0 := by
  refine ⟨fun i m σ H => m = n - i ∧ i ≤ n ∧ ∃ ys, Pv i ys σ H ∧ H D = some (.lst ys) ∧ ys.length = i, ⟨n, by omega, Nat.zero_le _, [], h0, hD0, rfl⟩, ?_⟩
  rintro i m σ H ⟨rfl, hi, ys, p, hD, hl⟩
  by_cases hlt : i < n
  · obtain ⟨go, st⟩ := hs i σ H ys hlt p hl hD
    refine .inr ⟨go, fun σ2 y H4 => H4 D = some (.lst ys) ∧ Pv (i + 1) (ys ++ [y]) σ2 (upd H4 D (.lst (ys ++ [y]))), fun _ _ => False, ?_, fun _ _ z => z.elim, st⟩
    rintro σ2 y H4 ⟨e, p'⟩
    exact ⟨_, e, by rw [hl]; omega, n - (i + 1), by omega, rfl, hlt, _, p', upd_same, by simp [hl]⟩
  · have e : i = n := by omega
    subst e
    exact .inl (hd σ H ys p hD hl)
theorem back_same {H H1 : Hp} {a : Addr} {o : Obj} {kvs : List (Key × V)} (hc : H a = some (.dK kvs)) (e : Same (L2.upd H a (.frz o (.dK kvs))) H1) : Same H (L2.upd H1 a (.dK kvs)) := fun b u hb => by
  by_cases eb : b = a
  · subst eb
    rw [hc] at hb
    rw [← hb]
    exact upd_same
  · rw [upd_ne eb]
    exact e b u (by rw [upd_ne eb]; exact hb)
end L2

/-! VALUES WITHOUT ADDRESSES, WHERE DICTS AND LISTS ARE STILL ONE'S OWN (own work). -/
namespace L2
open PySem PySem.Spec PyProof.Rows
/-- no address -/
def flt : V → Bool
  | .non => true
  | .bl _ => true
  | .int _ => true
  | .str _ => true
  | _ => false
inductive Dp where
  | fl (v : V)
  | tup (ds : List Dp)
  | lst (ds : List Dp)
  | dic (kds : List (Str × Dp))
/-- v stands for d in H, n levels deep -/
inductive Dv (H : Hp) : Nat → Dp → V → Prop
  | fl {n : Nat} {v : V} (h : flt v = true) : Dv H n (.fl v) v
  | tup {n : Nat} {a : Addr} {vs : List V} {ds : List Dp} (ha : H a = some (.tup vs)) (hl : vs.length = ds.length) (h : ∀ (i : Nat) (v : V) (d : Dp), vs[i]? = some v → ds[i]? = some d → Dv H n d v) : Dv H (n + 1) (.tup ds) (.ref a)
  | lst {n : Nat} {a : Addr} {vs : List V} {ds : List Dp} (ha : H a = some (.lst vs)) (hl : vs.length = ds.length) (h : ∀ (i : Nat) (v : V) (d : Dp), vs[i]? = some v → ds[i]? = some d → Dv H n d v) : Dv H (n + 1) (.lst ds) (.ref a)
  | dic {n : Nat} {a : Addr} {vs : List V} {kds : List (Str × Dp)} (ha : H a = some (.dK ((kds.map (·.1)).zipWith (fun z v => ((Sum.inr z : Key), v)) vs))) (nd : (kds.map (·.1)).Nodup) (hl : vs.length = kds.length) (h : ∀ (i : Nat) (v : V) (k : Str × Dp), vs[i]? = some v → kds[i]? = some k → Dv H n k.2 v) : Dv H (n + 1) (.dic kds) (.ref a)
theorem zw_get {zs : List Str} {vs : List V} {i : Nat} : (zs.zipWith (fun z v => ((Sum.inr z : Key), v)) vs)[i]? = match zs[i]?, vs[i]? with | some z, some v => some (.inr z, v) | _, _ => none := by
  rw [List.getElem?_zipWith]
  cases zs[i]? <;> cases vs[i]? <;> rfl
theorem zw_len {zs : List Str} {vs : List V} (h : vs.length = zs.length) : (zs.zipWith (fun z v => ((Sum.inr z : Key), v)) vs).length = zs.length := by
  rw [List.length_zipWith]; omega
theorem zw_mem {zs : List Str} {vs : List V} {k : Key} {v : V} (h : (k, v) ∈ zs.zipWith (fun z v => ((Sum.inr z : Key), v)) vs) : ∃ (i : Nat) (z : Str), zs[i]? = some z ∧ vs[i]? = some v ∧ k = .inr z := by
  obtain ⟨i, hi⟩ := List.getElem?_of_mem h
  rw [zw_get] at hi
  cases h1 : zs[i]? with
  | none => rw [h1] at hi; cases hi
  | some z =>
    cases h2 : vs[i]? with
    | none => rw [h1, h2] at hi; cases hi
    | some u =>
      rw [h1, h2] at hi
      injection hi with hi
      injection hi with e1 e2
      exact ⟨i, z, h1, by rw [h2, e2], e1.symm⟩
/-- the value at a key -/
theorem zw_val {zs : List Str} {vs : List V} (nd : zs.Nodup) {i : Nat} {z : Str} {v : V} (h1 : zs[i]? = some z) (h2 : vs[i]? = some v) : valV (zs.zipWith (fun z v => ((Sum.inr z : Key), v)) vs) (.inr z) = some v := by
  induction zs generalizing vs i with
  | nil => cases h1
  | cons y r ih =>
    cases vs with
    | nil => cases h2
    | cons u us =>
      rw [List.zipWith_cons_cons]
      rw [List.nodup_cons] at nd
      cases i with
      | zero =>
        cases h1
        cases h2
        exact valV_pos rfl
      | succ i =>
        rw [List.getElem?_cons_succ] at h1 h2
        have hne : ¬ (Sum.inr y : Key) = .inr z := fun e => by
          injection e with e
          exact nd.1 (by rw [e]; exact List.mem_of_getElem? h1)
        rw [valV_neg (p := ((Sum.inr y : Key), u)) hne]
        exact ih nd.2 h1 h2
/-- two that stand for the same are alike -/
theorem Dv.dq {H : Hp} : ∀ {n : Nat} {d : Dp} {v v' : V}, Dv H n d v → Dv H n d v' → Dq H n v v' := fun {n d v v'} h => by
  induction h generalizing v' with
  | @fl n v h =>
    intro h'
    cases h'
    cases v with
    | non => exact .non
    | bl b => exact .bl
    | int i => exact .int
    | str z => exact .str
    | _ => cases h
  | @tup n a vs ds ha hl hh ih =>
    intro h'
    cases h' with
    | tup hb hl' hh' => exact .tup ha hb (by omega) fun i x y e1 e2 => ih i x _ e1 (List.getElem?_eq_getElem (by have := (List.getElem?_eq_some_iff.mp e1).1; omega)) (hh' i y _ e2 (List.getElem?_eq_getElem _))
  | @lst n a vs ds ha hl hh ih =>
    intro h'
    cases h' with
    | lst hb hl' hh' => exact .lst ha hb (by omega) fun i x y e1 e2 => ih i x _ e1 (List.getElem?_eq_getElem (by have := (List.getElem?_eq_some_iff.mp e1).1; omega)) (hh' i y _ e2 (List.getElem?_eq_getElem _))
  | @dic n a vs kds ha nd hl hh ih =>
    intro h'
    cases h' with
    | @dic _ b us _ hb nd' hl' hh' =>
      have ez : (kds.map (·.1)).length = kds.length := List.length_map ..
      refine .dct (fun k => (valV ((kds.map (·.1)).zipWith (fun z v => ((Sum.inr z : Key), v)) us) k).getD .non) (.inl ha) (.inl hb) ?_ (fun k v h => ?_) (fun k v h => ?_) (fun k v h => ?_)
      · rw [zw_len (by omega), zw_len (by omega)]
      · obtain ⟨i, z, _, _, e⟩ := zw_mem h; exact ⟨z, e⟩
      all_goals
        obtain ⟨i, z, h1, h2, rfl⟩ := zw_mem h
        have hi : i < kds.length := by have := (List.getElem?_eq_some_iff.mp h2).1; omega
        have hu : us[i]? = some us[i] := List.getElem?_eq_getElem (by omega)
        have hv := zw_val nd h1 hu
        rw [hv]
      · refine List.mem_of_getElem? (i := i) ?_
        rw [zw_get, h1, hu]
        rfl
      · exact ih i v _ h2 (List.getElem?_eq_getElem hi) (hh' i _ _ hu (List.getElem?_eq_getElem hi))
end L2

namespace My
open PySem L2 PyProof.Rows
def top (i : Nat) : Stmt := PySem.Challenge.pw_halfmoved_k51_small_pieces.main.body.getD i (.Pass ⟨0, 0, 0, 0⟩)
seal L2.PE L2.PT L2.PW L2.PS L2.PSs L2.PA L2.PI L2.PG L2.PGs L2.OpR L2.UnR L2.CallR L2.IxR L2.SlR L2.MtR L2.PIf L2.PO L2.MtM L2.PC
/-! ### the form, and the short lists -/
structure Ts where
  name : Str
  sort : Str
  cols : List Str
def CoAt (H : Hp) (ct : Addr) (cols : List Str) : Prop := ∃ ps : List Addr, H ct = some (.tup (ps.map V.ref)) ∧ ps.length = cols.length ∧ ∀ (j : Nat) (p : Addr) (c : Str), ps[j]? = some p → cols[j]? = some c → ∃ k, H p = some (.tup [.str c, k])
def EnAt (H : Hp) (e : Addr) (T : Ts) : Prop := ∃ ct, H e = some (.tup [.str T.name, .str T.sort, .ref ct]) ∧ CoAt H ct T.cols
def FmS (H : Hp) (f : Addr) (Ts : List Ts) : Prop := ∃ (sz : V) (tt : Addr) (es : List Addr), H f = some (.tup [sz, .ref tt]) ∧ H tt = some (.tup (es.map V.ref)) ∧ es.length = Ts.length ∧ ∀ (j : Nat) (e : Addr) (T : My.Ts), es[j]? = some e → Ts[j]? = some T → EnAt H e T
/-- a list of choices for each table and column -/
def VlAt (H : Hp) (d : Addr) (W : List ((Str × Str) × Addr)) (vs : Str → Str → List V) : Prop := H d = some (.dT (W.map fun x => ([.inr x.1.1, .inr x.1.2], .ref x.2))) ∧ (W.map (·.1)).Nodup ∧ ∀ x ∈ W, H x.2 = some (.lst (vs x.1.1 x.1.2))
theorem CoAt.same {H H' : Hp} {e : Addr} {T : List Str} (h : CoAt H e T) (s : Same H H') : CoAt H' e T := by
  obtain ⟨ps, h1, h2, h3⟩ := h
  exact ⟨ps, s _ _ h1, h2, fun j p c a b => let ⟨k, e⟩ := h3 j p c a b; ⟨k, s _ _ e⟩⟩
theorem EnAt.same {H H' : Hp} {e : Addr} {T : Ts} (h : EnAt H e T) (s : Same H H') : EnAt H' e T := by
  obtain ⟨ct, h1, h2⟩ := h
  exact ⟨ct, s _ _ h1, h2.same s⟩
theorem FmS.same {H H' : Hp} {f : Addr} {Ts : List Ts} (h : FmS H f Ts) (s : Same H H') : FmS H' f Ts := by
  obtain ⟨sz, tt, es, h1, h2, h3, h4⟩ := h
  exact ⟨sz, tt, es, s _ _ h1, s _ _ h2, h3, fun j e T a b => (h4 j e T a b).same s⟩
theorem VlAt.same {H H' : Hp} {d : Addr} {W : List ((Str × Str) × Addr)} {vs : Str → Str → List V} (h : VlAt H d W vs) (s : Same H H') : VlAt H' d W vs := ⟨s _ _ h.1, h.2.1, fun x hx => s _ _ (h.2.2 x hx)⟩
theorem VlAt.get {H : Hp} {d b : Addr} {W : List ((Str × Str) × Addr)} {vs : Str → Str → List V} (h : VlAt H d W vs) {x : (Str × Str) × Addr} (hx : x ∈ W) (hb : H b = some (.tup [.str x.1.1, .str x.1.2])) : DGet H d (.ref b) (some (.ref x.2)) := by
  obtain ⟨h1, nd, hh⟩ := h
  clear hh
  refine .inr ⟨_, [.inr x.1.1, .inr x.1.2], b, .inl h1, rfl, hb, ?_⟩
  clear h1
  induction W with
  | nil => cases hx
  | cons a r ih =>
    rw [List.map_cons, List.nodup_cons] at nd
    rw [List.map_cons]
    rcases List.mem_cons.mp hx with rfl | hx
    · exact (valV_pos (κ := List Key) (p := (([Sum.inr x.1.1, Sum.inr x.1.2] : List Key), V.ref x.2)) (k := [Sum.inr x.1.1, Sum.inr x.1.2]) rfl).symm
    · rw [valV_neg (κ := List Key) (fun e => ?_)]
      · exact ih hx nd.2
      · have e' : ([Sum.inr a.1.1, Sum.inr a.1.2] : List Key) = [Sum.inr x.1.1, Sum.inr x.1.2] := e
        injection e' with e1 e2
        injection e2 with e2
        injection e1 with e1
        injection e2 with e2
        exact nd.1 (by rw [show a.1 = x.1 from Prod.ext e1 e2]; exact List.mem_map.mpr ⟨x, hx, rfl⟩)
def manyR (vs : Str → Str → List V) (t : Str) (cols : List Str) : Nat := cols.foldl (fun n c => n * (vs t c).length) 1
def spManyR : Sp := fun vs H Q _ => ∃ (ct d : Addr) (t : Str) (cols : List Str) (W : List ((Str × Str) × Addr)) (wl : Str → Str → List V), vs = [.str t, .ref ct, .ref d] ∧ CoAt H ct cols ∧ VlAt H d W wl ∧ (∀ c ∈ cols, (t, c) ∈ W.map (·.1) ∧ (wl t c).length ≤ 3) ∧ cols.length ≤ 2 ∧ ∀ H', Same H H' → Q (.int (manyR wl t cols : Nat)) H'
section
variable {P : Program} {w : World} {K : PySem.W.Frag} {mg : Str → Option Value} {base : Heap}
theorem manyR_le {wl : Str → Str → List V} {t : Str} : ∀ (cols : List Str) (n : Nat), (∀ c ∈ cols, (wl t c).length ≤ 3) → cols.foldl (fun n c => n * (wl t c).length) n ≤ n * 3 ^ cols.length
  | [], n, _ => by simp
  | c :: r, n, h => by
    have ih := manyR_le r (n * (wl t c).length) fun x hx => h x (List.mem_cons_of_mem _ hx)
    have hc := h c List.mem_cons_self
    rw [List.foldl_cons, List.length_cons, Nat.pow_succ]
    refine Nat.le_trans ih ?_
    rw [Nat.mul_comm (3 ^ r.length) 3, ← Nat.mul_assoc]
    exact Nat.mul_le_mul_right _ (Nat.mul_le_mul_left _ hc)
theorem ok_manyR {f : Addr} {fd : FuncData} (F : Fun K "many_rows" "many_rows" (top 11) f fd) (B : Bl mg) : FnOk P w K mg base CX0 1 f fd ["table", "columns", "values"] spManyR := by
  have sc : FnScope ["table", "columns", "values", "many", "column", "kind"] ["table", "columns", "values"] (defScope (top 11)) := ⟨rfl, rfl, rfl, by decide +kernel, rfl, by decide +kernel, by decide +kernel⟩
  refine F.ok sc (fun vs H Q E h => ?_) (fun cdv A outer s H vs Q E hr h => ?_)
  · obtain ⟨ct, d, t, cols, W, wl, rfl, _⟩ := h
    rfl
  · obtain ⟨ct, d, t, cols, W, wl, rfl, ⟨ps, c1, c2, c3⟩, hV, hin, h2, q⟩ := h
    have hu : (A.deeper (envOfC "many_rows" (defScope (top 11)) s.heap.objs.size f cdv)).units + 1 < cLine := hu_of hr
    refine ⟨_, pss_cons (ps_set (i := 3) sc.nd rfl (Or.inl rfl) pe_int)
      (pss_cons (ps_for PassesOwn.never rfl (pi_tup (pv 1)) (pg_tup rfl (pgs_cons (pg_name (i := 4) sc.nd rfl (Or.inl rfl)) (pgs_cons (pg_name (i := 5) sc.nd rfl (Or.inl rfl)) pgs_nil)))
        (pss_one (ps_set (i := 3) sc.nd rfl (Or.inl rfl) (pe_op op_mul (pv 3) (pe_callB call_len_seq (by rfl) B.len PySem.boot_len (pa_cons (pe_dget hu (pv 2) (pe_tup (pa_cons (pv 0) (pa_cons (pv 4) pa_nil))) (fun _ _ => rfl)) pa_nil))))))
      (pss_one (ps_ret (pv 3)))), ?_⟩
    refine ⟨_, rfl, ct, rfl, ⟨_, SqT.of c1⟩, for_tup (K := K) (a := ct) (xs := ps.map V.ref) (fun i σ H' => Same H H' ∧ ∃ u4 u5, σ = [some (.str t), some (.ref ct), some (.ref d), some (.int (manyR wl t (cols.take i) : Nat)), u4, u5]) ⟨Same.refl _, _, _, rfl⟩ (fun i σ H' _ p => SqT.of (p.1 _ _ c1)) ?_ ?_⟩
    · rintro i x σ H' hx ⟨sm, u4, u5, rfl⟩
      have hi : i < ps.length := by
        have := (List.getElem?_eq_some_iff.mp hx).1
        rwa [List.length_map] at this
      have hic : i < cols.length := by omega
      rw [List.getElem?_map, List.getElem?_eq_getElem hi] at hx
      cases hx
      obtain ⟨k, e⟩ := c3 i ps[i] cols[i] (List.getElem?_eq_getElem hi) (List.getElem?_eq_getElem hic)
      obtain ⟨hm, h3⟩ := hin _ (List.getElem_mem hic)
      obtain ⟨x, hx, ex⟩ := List.mem_map.mp hm
      refine ⟨ps[i], _, rfl, SqT.of (sm _ _ e), rfl, _, _, rfl, _, _, rfl, rfl, ?_⟩
      refine ⟨_, rfl, _, rfl, _, rfl, _, rfl, (by show 2 ≤ sizeLine; decide), fun b hb => ?_⟩
      have T1 := Same.upd (o := .tup [.str t, .str cols[i]]) hb
      have e1 : (upd H' b (.tup [.str t, .str cols[i]])) b = some (.tup [.str t, .str cols[i]]) := upd_same
      generalize upd H' b (.tup [.str t, .str cols[i]]) = H1 at *
      have hV1 := hV.same (sm.trans T1)
      have ex1 : x.1.1 = t := by rw [ex]
      have ex2 : x.1.2 = cols[i] := by rw [ex]
      have lx := hV1.2.2 x hx
      rw [ex1, ex2] at lx
      refine ⟨d, .ref x.2, rfl, hV1.get hx (by rw [ex1, ex2]; exact e1), x.2, _, rfl, .inl (SqL.of lx), _, _, rfl, rfl, .inr ⟨by omega, by omega⟩, sm.trans T1, some (.str cols[i]), some k, ?_⟩
      have en : manyR wl t (cols.take (i + 1)) = manyR wl t (cols.take i) * (wl t cols[i]).length := by
        unfold manyR
        rw [List.take_succ, List.getElem?_eq_getElem hic, List.foldl_append]
        rfl
      rw [en, Int.natCast_mul]
      rfl
    · rintro σ H' ⟨sm, u4, u5, rfl⟩
      refine ⟨_, rfl, ?_⟩
      rw [List.length_map, c2, List.take_length]
      exact q H' sm
end
end My

namespace L2
open PySem PySem.Spec PyProof.Rows
theorem inV_str (z : Str) (l : List Str) : inV (.str z) (l.map V.str) = decide (z ∈ l) := by
  unfold inV
  rw [Bool.eq_iff_iff, List.any_eq_true, decide_eq_true_iff]
  constructor
  · rintro ⟨y, hy, e⟩
    obtain ⟨x, hx, rfl⟩ := List.mem_map.mp hy
    have : x = z := by simpa [eqV] using e
    rw [← this]
    exact hx
  · intro h
    exact ⟨_, List.mem_map.mpr ⟨z, h, rfl⟩, by simp [eqV]⟩
end L2
namespace My
open PySem L2 PyProof.Rows
seal L2.PE L2.PT L2.PW L2.PS L2.PSs L2.PA L2.PI L2.PG L2.PGs L2.OpR L2.UnR L2.CallR L2.IxR L2.SlR L2.MtR L2.PIf L2.PO L2.MtM L2.PC
def lone : List Str := ["head", "twin"]
structure Ln (K : PySem.W.Frag) (mg : Str → Option Value) (sA : Addr) : Prop where
  mS : mg "LONE_SORTS" = some (.ref sA)
  qS : ∀ H, SqT K H sA (lone.map V.str)
def manyC (so : Str) (n : Nat) : Nat := if so ∈ lone then n else n + n * n + (if so = "many" then 1 else 0)
def spManyC : Sp := fun vs H Q _ => ∃ (so : Str) (n : Nat), vs = [.str so, .int (n : Nat)] ∧ n ≤ 1000 ∧ Q (.int (manyC so n : Nat)) H
section
variable {P : Program} {w : World} {K : PySem.W.Frag} {mg : Str → Option Value} {base : Heap}
theorem ok_manyC {f sA : Addr} {fd : FuncData} (F : Fun K "many_choices" "many_choices" (top 12) f fd) (LN : Ln K mg sA) : FnOk P w K mg base CX0 1 f fd ["sort", "many"] spManyC := by
  have sc : FnScope ["sort", "many"] ["sort", "many"] (defScope (top 12)) := ⟨rfl, rfl, rfl, by decide +kernel, rfl, by decide +kernel, by decide +kernel⟩
  refine F.ok sc (fun vs H Q E h => ?_) (fun cdv A outer s H vs Q E hr h => ?_)
  · obtain ⟨so, n, rfl, _⟩ := h
    rfl
  · obtain ⟨so, n, rfl, hn, q⟩ := h
    refine ⟨_, pss_cons (ps_if (pt_cmpR op_in_seq (pv 0) (pe_glob (v := .ref sA) (by rfl) LN.mS rfl) (by with_unfolding_all rfl)) (pss_one (ps_ret (pv 1))) pss_nil)
      (pss_one (ps_ret (pe_op op_add (pe_op op_add (pv 1) (pe_op op_mul (pv 1) (pv 1))) (pe_ifExp (pt_cmpR op_eq (pv 0) pe_str (nomark _)) pe_int pe_int)))), ?_⟩
    refine ⟨_, rfl, sA, _, rfl, .inr (LN.qS _), rfl, (by decide), _, rfl, ?_⟩
    show if (inV (.str so) _) = true then _ else _
    rw [inV_str]
    unfold manyC at q
    by_cases hl : so ∈ lone
    · rw [if_pos hl] at q
      rw [decide_eq_true hl]
      exact iteT ⟨_, rfl, q⟩
    rw [if_neg hl] at q
    rw [decide_eq_false hl]
    refine iteF ⟨_, rfl, _, rfl, _, rfl, _, _, rfl, rfl, .inl ⟨by omega, by omega⟩, _, _, rfl, rfl, _, rfl, rfl, _, rfl, ?_⟩
    have e1 : ((n : Int) + (n : Int) * (n : Int)) = ((n + n * n : Nat) : Int) := by rw [Int.natCast_add, Int.natCast_mul]
    by_cases hm : so = "many"
    · rw [if_pos hm] at q
      refine iteB (by rw [hm]; decide +kernel) ⟨_, _, rfl, rfl, ?_⟩
      show Q (.int ((n : Int) + (n : Int) * (n : Int) + 1)) H
      rw [e1]
      exact q
    · rw [if_neg hm] at q
      refine iteC (decide_eq_false fun e => hm (by injection e)) ⟨_, _, rfl, rfl, ?_⟩
      show Q (.int ((n : Int) + (n : Int) * (n : Int) + 0)) H
      rw [e1]
      exact q
end
end My

namespace My
open PySem L2 PyProof.Rows
seal L2.PE L2.PT L2.PW L2.PS L2.PSs L2.PA L2.PI L2.PG L2.PGs L2.OpR L2.UnR L2.CallR L2.IxR L2.SlR L2.MtR L2.PIf L2.PO L2.MtM L2.PC
def manyP (wl : Str → Str → List V) (l : List Ts) : Nat := l.foldl (fun n T => n * manyC T.sort (manyR wl T.name T.cols)) 1
structure WOk (l : List Ts) (W : List ((Str × Str) × Addr)) (wl : Str → Str → List V) : Prop where
  le : l.length ≤ 3
  cl : ∀ T ∈ l, T.cols.length ≤ 2
  vl : ∀ T ∈ l, ∀ c ∈ T.cols, (T.name, c) ∈ W.map (·.1) ∧ (wl T.name c).length ≤ 3
theorem manyR_9 {l : List Ts} {W : List ((Str × Str) × Addr)} {wl : Str → Str → List V} (h : WOk l W wl) {T : Ts} (hT : T ∈ l) : manyR wl T.name T.cols ≤ 9 := by
  have := manyR_le (wl := wl) (t := T.name) T.cols 1 fun c hc => (h.vl T hT c hc).2
  unfold manyR
  have h2 := h.cl T hT
  refine Nat.le_trans this ?_
  rw [Nat.one_mul]
  exact Nat.pow_le_pow_right (by decide) h2
def spManyP : Sp := fun vs H Q _ => ∃ (f d : Addr) (l : List Ts) (W : List ((Str × Str) × Addr)) (wl : Str → Str → List V), vs = [.ref f, .ref d] ∧ FmS H f l ∧ VlAt H d W wl ∧ WOk l W wl ∧ ∀ H', Same H H' → Q (.int (manyP wl l : Nat)) H'
section
variable {P : Program} {w : World} {K : PySem.W.Frag} {mg : Str → Option Value} {base : Heap}
theorem ok_manyP {f fR fC sA : Addr} {fd fdR fdC : FuncData} (F : Fun K "many_pieces" "many_pieces" (top 10) f fd) (B : Bl mg) (LN : Ln K mg sA) (DR : Df K mg "many_rows" (top 11) fR fdR) (DC : Df K mg "many_choices" (top 12) fC fdC) : FnOk P w K mg base CX0 2 f fd ["form", "values"] spManyP := by
  have sc : FnScope ["form", "values", "many", "table", "sort", "columns"] ["form", "values"] (defScope (top 10)) := ⟨rfl, rfl, rfl, by decide +kernel, rfl, by decide +kernel, by decide +kernel⟩
  have GR : FnOk P w K mg base CX0 1 fR fdR ["table", "columns", "values"] spManyR := ok_manyR DR.fn B
  have bR := DR.fn.binds (ps := ["table", "columns", "values"]) fun _ _ _ _ _ _ us hl => by obtain ⟨v0, v1, v2, rfl⟩ := L2.ln3 hl; rfl
  have GC : FnOk P w K mg base CX0 1 fC fdC ["sort", "many"] spManyC := ok_manyC DC.fn LN
  have bC := DC.fn.binds (ps := ["sort", "many"]) fun _ _ _ _ _ _ us hl => by obtain ⟨v0, v1, rfl⟩ := L2.ln2 hl; rfl
  refine F.ok sc (fun vs H Q E h => ?_) (fun cdv A outer s H vs Q E hr h => ?_)
  · obtain ⟨f, d, l, W, wl, rfl, _⟩ := h
    rfl
  · obtain ⟨fo, d, l, W, wl, rfl, hf, hV, ok, q⟩ := h
    obtain ⟨sz, tt, es, h1, h2, h3, h4⟩ := id hf
    refine ⟨_, pss_cons (ps_set (i := 2) sc.nd rfl (Or.inl rfl) pe_int)
      (pss_cons (ps_for PassesOwn.never rfl (pi_tup (pe_ix ix_tup (pv 0) pe_int (fun _ _ => rfl))) (pg_tup rfl (pgs_cons (pg_name (i := 3) sc.nd rfl (Or.inl rfl)) (pgs_cons (pg_name (i := 4) sc.nd rfl (Or.inl rfl)) (pgs_cons (pg_name (i := 5) sc.nd rfl (Or.inl rfl)) pgs_nil))))
        (pss_one (ps_set (i := 2) sc.nd rfl (Or.inl rfl) (pe_op op_mul (pv 2) (pe_call GC hr (by rfl) DC.mg DC.fn.kp bC .nil pass0 (pa_cons (pv 4) (pa_cons (pe_call GR hr (by rfl) DR.mg DR.fn.kp bR .nil pass0 (pa_cons (pv 3) (pa_cons (pv 5) (pa_cons (pv 1) pa_nil)))) pa_nil)))))))
      (pss_one (ps_ret (pv 2)))), ?_⟩
    refine ⟨_, rfl, fo, _, 1, _, rfl, rfl, SqT.of h1, atI_nat (j := 1) rfl, tt, rfl, ⟨_, SqT.of h2⟩, for_tup (K := K) (a := tt) (xs := es.map V.ref) (fun i σ H' => Same H H' ∧ ∃ u3 u4 u5, σ = [some (.ref fo), some (.ref d), some (.int (manyP wl (l.take i) : Nat)), u3, u4, u5]) ⟨Same.refl _, _, _, _, rfl⟩ (fun i σ H' _ p => SqT.of (p.1 _ _ h2)) ?_ ?_⟩
    · rintro i x σ H' hx ⟨sm, u3, u4, u5, rfl⟩
      have hi : i < es.length := by
        have := (List.getElem?_eq_some_iff.mp hx).1
        rwa [List.length_map] at this
      have hil : i < l.length := by omega
      rw [List.getElem?_map, List.getElem?_eq_getElem hi] at hx
      cases hx
      obtain ⟨ct, e1, e2⟩ := h4 i es[i] l[i] (List.getElem?_eq_getElem hi) (List.getElem?_eq_getElem hil)
      have hT : l[i] ∈ l := List.getElem_mem hil
      refine ⟨es[i], _, rfl, SqT.of (sm _ _ e1), rfl, _, _, rfl, _, _, rfl, _, _, rfl, rfl, ?_⟩
      refine ⟨_, rfl, _, rfl, _, rfl, _, rfl, _, rfl, ct, d, l[i].name, l[i].cols, W, wl, rfl, e2.same sm, hV.same sm, ok.vl _ hT, ok.cl _ hT, fun H1 s1 => ?_⟩
      have h9 := manyR_9 ok hT
      refine ⟨l[i].sort, manyR wl l[i].name l[i].cols, rfl, by omega, ?_⟩
      have hc : manyC l[i].sort (manyR wl l[i].name l[i].cols) ≤ 100 := by
        have hq : manyR wl l[i].name l[i].cols * manyR wl l[i].name l[i].cols ≤ 9 * 9 := Nat.mul_le_mul h9 h9
        unfold manyC
        split
        · omega
        · split <;> omega
      refine ⟨_, _, rfl, rfl, .inr ⟨by omega, by omega⟩, sm.trans s1, some (.str l[i].name), some (.str l[i].sort), some (.ref ct), ?_⟩
      have en : manyP wl (l.take (i + 1)) = manyP wl (l.take i) * manyC l[i].sort (manyR wl l[i].name l[i].cols) := by
        unfold manyP
        rw [List.take_succ, List.getElem?_eq_getElem hil, List.foldl_append]
        rfl
      rw [en, Int.natCast_mul]
      rfl
    · rintro σ H' ⟨sm, u3, u4, u5, rfl⟩
      refine ⟨_, rfl, ?_⟩
      rw [List.length_map, h3, List.take_length]
      exact q H' sm
end
end My

namespace L2
open PySem PySem.Spec PyProof.Rows
/-- the heap's part that is new since H0 -/
def cut (H0 H : Hp) : Hp := fun b => match H0 b with | none => H b | some _ => none
theorem cut_sub {H0 H : Hp} : Same (cut H0 H) H := fun b o e => by
  unfold cut at e
  split at e
  · exact e
  · cases e
theorem cut_new {H0 H : Hp} {b : Addr} {o : HO} (e : cut H0 H b = some o) : H0 b = none := by
  unfold cut at e
  split at e
  · assumption
  · cases e
theorem cut_at {H0 H : Hp} {b : Addr} {o : HO} (h0 : H0 b = none) (e : H b = some o) : cut H0 H b = some o := by
  unfold cut
  rw [h0]
  exact e
theorem cut_up {H0 H H' : Hp} (s : Same H H') : Same (cut H0 H) (cut H0 H') := fun b o e => cut_at (cut_new e) (s _ _ (cut_sub _ _ e))
theorem none_of {H0 H1 : Hp} {b : Addr} (s : Same H0 H1) (h : H1 b = none) : H0 b = none := by
  cases e : H0 b with
  | none => rfl
  | some o => rw [s _ _ e] at h; cases h
theorem Same.put {H H' : Hp} {d : Addr} {o : HO} (s : Same H H') (h : H d = none) : Same H (L2.upd H' d o) := fun b u e => by
  rw [upd_ne (ne_of_none e h)]
  exact s _ _ e
theorem mt_app {X : Cx} : MtR X "list.append" rAppend := mt_append
end L2
namespace My
open PySem L2 PyProof.Rows
seal L2.PE L2.PT L2.PW L2.PS L2.PSs L2.PA L2.PI L2.PG L2.PGs L2.OpR L2.UnR L2.CallR L2.IxR L2.SlR L2.MtR L2.PIf L2.PO L2.MtM L2.PC
abbrev Kv := List (Key × V)
def DsAt (H : Hp) (ms : List Addr) (kvs : List Kv) : Prop := ms.length = kvs.length ∧ ∀ (j : Nat) (m : Addr) (kv : Kv), ms[j]? = some m → kvs[j]? = some kv → H m = some (.dK kv)
theorem DsAt.same {H H' : Hp} {ms : List Addr} {kvs : List Kv} (h : DsAt H ms kvs) (s : Same H H') : DsAt H' ms kvs := ⟨h.1, fun j m kv a b => s _ _ (h.2 j m kv a b)⟩
theorem DsAt.snoc {H : Hp} {ms : List Addr} {kvs : List Kv} {m : Addr} {kv : Kv} (h : DsAt H ms kvs) (e : H m = some (.dK kv)) : DsAt H (ms ++ [m]) (kvs ++ [kv]) := by
  refine ⟨by rw [List.length_append, List.length_append, h.1]; rfl, fun j x y h1 h2 => ?_⟩
  by_cases hj : j < ms.length
  · rw [List.getElem?_append_left hj] at h1
    rw [List.getElem?_append_left (by have := h.1; omega)] at h2
    exact h.2 j x y h1 h2
  · have hj' : j = ms.length := by
      have := (List.getElem?_eq_some_iff.mp h1).1
      rw [List.length_append] at this
      simp at this
      omega
    subst hj'
    rw [List.getElem?_append_right (Nat.le_refl _), Nat.sub_self] at h1
    rw [List.getElem?_append_right (by rw [h.1]; exact Nat.le_refl _), h.1, Nat.sub_self] at h2
    cases h1
    cases h2
    exact e
def grow1 (kv : Kv) (n : Str) (cs : List V) : List Kv := cs.map fun c => kv ++ [(.inr n, c)]
def grow (kvs : List Kv) (n : Str) (cs : List V) : List Kv := kvs.flatMap fun kv => grow1 kv n cs
def spGrown (K : PySem.W.Frag) : Sp := fun vs H Q _ => ∃ (l lc : Addr) (n : Str) (ds : List Addr) (kvs : List Kv) (cs : List V), vs = [.ref l, .str n, .ref lc] ∧ SqL K H l (ds.map V.ref) ∧ DsAt H ds kvs ∧ (∀ kv ∈ kvs, valV kv (.inr n) = none ∧ kv.length ≤ 100) ∧ SqL K H lc cs ∧ (grow kvs n cs).length ≤ 1000 ∧ ∀ lm ms H', Same H H' → cut H H' lm = some (.lst (ms.map V.ref)) → DsAt (cut H H') ms (grow kvs n cs) → Q (.ref lm) H'
section
variable {P : Program} {w : World} {K : PySem.W.Frag} {mg : Str → Option Value} {base : Heap}
theorem ok_grown {f : Addr} {fd : FuncData} (F : Fun K "grown" "grown" (top 16) f fd) (B : Bl mg) : FnOk P w K mg base CX0 1 f fd ["dicts", "name", "choices"] (spGrown K) := by
  have sc : FnScope ["dicts", "name", "choices", "made", "one", "choice", "fresh"] ["dicts", "name", "choices"] (defScope (top 16)) := ⟨rfl, rfl, rfl, by decide +kernel, rfl, by decide +kernel, by decide +kernel⟩
  refine F.ok sc (fun vs H Q E h => ?_) (fun cdv A outer s H vs Q E hr h => ?_)
  · obtain ⟨l, lc, n, ds, kvs, cs, rfl, _⟩ := h
    rfl
  · obtain ⟨l, lc, n, ds, kvs, cs, rfl, hl, ⟨hdl, hds⟩, hkv, hlc, h1000, q⟩ := h
    have hu : (A.deeper (envOfC "grown" (defScope (top 16)) s.heap.objs.size f cdv)).units + 1 < cLine := hu_of hr
    refine ⟨_, pss_cons (ps_set (i := 3) sc.nd rfl (Or.inl rfl) (pe_lst pa_nil))
      (pss_cons (ps_for PassesOwn.never rfl (pi_list (pv 0)) (pg_name (i := 4) sc.nd rfl (Or.inl rfl))
        (pss_one (ps_for PassesOwn.never rfl (pi_list (pv 2)) (pg_name (i := 5) sc.nd rfl (Or.inl rfl))
          (pss_cons (ps_set (i := 6) sc.nd rfl (Or.inl rfl) (pe_callTy call_dict_of (by rfl) B.dict boot_dict (pa_cons (pv 4) pa_nil)))
          (pss_cons (ps_dput hu (pv 6) (pv 1) (pv 5) rfl)
          (pss_one (ps_expr (pe_bm PySem.F.plainAttrs_list PySem.F.slot_list_append PySem.F.type_list_append mt_app (pv 3) (pa_cons (pv 6) pa_nil)))))))))
      (pss_one (ps_ret (pv 3)))), ?_⟩
    refine ⟨Nat.zero_le _, fun lm hlm => ?_⟩
    have S0 := Same.upd (o := .lst []) hlm
    have e0 : (upd H lm (.lst [])) lm = some (.lst []) := upd_same
    generalize upd H lm (.lst []) = H0 at *
    have grl : ∀ i j, i < kvs.length → j < cs.length → (grow (kvs.take i) n cs).length + j < 1000 + 1 := fun i j hi hj => by
      have e : kvs = kvs.take i ++ kvs[i] :: kvs.drop (i + 1) := by rw [← List.drop_eq_getElem_cons hi, List.take_append_drop]
      have h2 : (grow kvs n cs).length = (grow (kvs.take i) n cs).length + cs.length + (grow (kvs.drop (i + 1)) n cs).length := by
        conv => lhs; rw [e]
        unfold grow
        rw [List.flatMap_append, List.flatMap_cons, List.length_append, List.length_append, Nat.add_assoc]
        congr 2
        unfold grow1
        rw [List.length_map]
      omega
    refine ⟨_, rfl, l, rfl, ⟨_, S0.seq hl⟩, for_list (K := K) (a := l) (xs := ds.map V.ref) (fun i σ H1 => Same H H1 ∧ (∃ u4 u5 u6, σ = [some (.ref l), some (.str n), some (.ref lc), some (.ref lm), u4, u5, u6]) ∧ ∃ ms : List Addr, H1 lm = some (.lst (ms.map V.ref)) ∧ DsAt (cut H H1) ms (grow (kvs.take i) n cs)) ⟨S0, ⟨_, _, _, rfl⟩, [], e0, rfl, fun j m kv h => nomatch h⟩ (fun i σ H1 _ p => p.1.seq hl) ?_ ?_⟩
    · rintro i x σ H1 hx ⟨sm, ⟨u4, u5, u6, rfl⟩, ms, m1, m2⟩
      have hi : i < ds.length := by
        have := (List.getElem?_eq_some_iff.mp hx).1
        rwa [List.length_map] at this
      have hik : i < kvs.length := by omega
      rw [List.getElem?_map, List.getElem?_eq_getElem hi] at hx
      cases hx
      have hd := hds i ds[i] kvs[i] (List.getElem?_eq_getElem hi) (List.getElem?_eq_getElem hik)
      obtain ⟨hv, hvl⟩ := hkv _ (List.getElem_mem hik)
      refine ⟨_, rfl, lc, rfl, ⟨_, sm.seq hlc⟩, for_list (K := K) (a := lc) (xs := cs) (fun j σ H2 => Same H H2 ∧ (∃ u5 u6, σ = [some (.ref l), some (.str n), some (.ref lc), some (.ref lm), some (.ref ds[i]), u5, u6]) ∧ ∃ ms : List Addr, H2 lm = some (.lst (ms.map V.ref)) ∧ DsAt (cut H H2) ms (grow (kvs.take i) n cs ++ grow1 kvs[i] n (cs.take j))) ⟨sm, ⟨_, _, rfl⟩, ms, m1, by unfold grow1; rw [List.take_zero, List.map_nil, List.append_nil]; exact m2⟩ (fun j σ H2 _ p => p.1.seq hlc) ?_ ?_⟩
      · rintro j c σ H2 hc ⟨sm2, ⟨u5, u6, rfl⟩, ms2, k1, k2⟩
        have hj : j < cs.length := (List.getElem?_eq_some_iff.mp hc).1
        refine ⟨_, rfl, ds[i], _, rfl, .inl (sm2 _ _ hd), fun r hr' => ?_⟩
        have T3 := Same.upd (o := .dK kvs[i]) hr'
        have r3 : (upd H2 r (.dK kvs[i])) r = some (.dK kvs[i]) := upd_same
        generalize upd H2 r (.dK kvs[i]) = H3 at *
        have hr0 : H r = none := none_of sm2 hr'
        refine ⟨_, rfl, _, rfl, _, rfl, r, _, rfl, .inl ⟨_, .inr n, r3, rfl, (by rw [sizeLine_eq]; omega), rfl⟩, ?_⟩
        rw [putK_new _ hv]
        generalize hX : upd H3 r _ = H4
        have T4 : Same H2 H4 := hX ▸ T3.put hr'
        have r4 : H4 r = some (.dK (kvs[i] ++ [(.inr n, c)])) := by rw [← hX]; exact upd_same
        clear hX
        have k4 := T4 _ _ k1
        have ml : ms2.length = (grow (kvs.take i) n cs).length + j := by
          rw [k2.1, List.length_append]
          unfold grow1
          rw [List.length_map, List.length_take]
          omega
        have := grl i j hik hj
        refine ⟨_, rfl, .inl ⟨rfl, _, SqL.of k4⟩, _, rfl, lm, _, _, rfl, rfl, k4, (by rw [List.length_map, sizeLine_eq]; omega), ?_⟩
        have nrl : r ≠ lm := fun e => by rw [e, k1] at hr'; cases hr'
        refine ⟨(sm2.trans T4).put hlm, ⟨_, _, rfl⟩, ms2 ++ [r], by rw [upd_same, List.map_append]; rfl, ?_⟩
        have eg : grow1 kvs[i] n (cs.take (j + 1)) = grow1 kvs[i] n (cs.take j) ++ [kvs[i] ++ [(.inr n, c)]] := by
          unfold grow1
          rw [List.take_succ, hc, List.map_append]
          rfl
        rw [eg, ← List.append_assoc]
        refine DsAt.snoc ⟨k2.1, fun j' m kv a b => ?_⟩ (cut_at hr0 (by rw [upd_ne nrl]; exact r4))
        have g := k2.2 j' m kv a b
        have nm : m ≠ lm := fun e => by
          have := cut_sub _ _ g
          rw [e, k1] at this
          cases this
        exact cut_at (cut_new g) (by rw [upd_ne nm]; exact T4 _ _ (cut_sub _ _ g))
      · rintro σ H2 ⟨sm2, ⟨u5, u6, rfl⟩, ms2, k1, k2⟩
        refine ⟨sm2, ⟨_, _, _, rfl⟩, ms2, k1, ?_⟩
        rw [List.take_length] at k2
        have eg : grow (kvs.take (i + 1)) n cs = grow (kvs.take i) n cs ++ grow1 kvs[i] n cs := by
          unfold grow
          rw [List.take_succ, List.getElem?_eq_getElem hik, List.flatMap_append]
          show _ ++ List.flatMap _ [kvs[i]] = _
          rw [List.flatMap_singleton]
        rw [eg]
        exact k2
    · rintro σ H1 ⟨sm, ⟨u4, u5, u6, rfl⟩, ms, m1, m2⟩
      rw [List.length_map, hdl, List.take_length] at m2
      exact ⟨_, rfl, q lm ms H1 sm (cut_at hlm m1) m2⟩
end
end My

namespace My
open PySem L2 PyProof.Rows
seal L2.PE L2.PT L2.PW L2.PS L2.PSs L2.PA L2.PI L2.PG L2.PGs L2.OpR L2.UnR L2.CallR L2.IxR L2.SlR L2.MtR L2.PIf L2.PO L2.MtM L2.PC
def smallR (wl : Str → Str → List V) (t : Str) (cols : List Str) : List Kv := cols.foldl (fun ks c => grow ks c (wl t c)) [[]]
theorem smallR_snoc {wl : Str → Str → List V} {t : Str} {cols : List Str} {c : Str} : smallR wl t (cols ++ [c]) = grow (smallR wl t cols) c (wl t c) := by
  unfold smallR
  rw [List.foldl_append]
  rfl
theorem grow_len (kvs : List Kv) (n : Str) (cs : List V) : (grow kvs n cs).length = kvs.length * cs.length := by
  unfold grow
  induction kvs with
  | nil => simp
  | cons a r ih =>
    rw [List.flatMap_cons, List.length_append, ih, List.length_cons, Nat.succ_mul]
    unfold grow1
    rw [List.length_map]
    omega
theorem smallR_len {wl : Str → Str → List V} {t : Str} (cols : List Str) : (smallR wl t cols).length = manyR wl t cols := by
  unfold smallR manyR
  have : ∀ (cols : List Str) (ks : List Kv), (cols.foldl (fun ks c => grow ks c (wl t c)) ks).length = cols.foldl (fun n c => n * (wl t c).length) ks.length := by
    intro cols
    induction cols with
    | nil => intro ks; rfl
    | cons c r ih =>
      intro ks
      rw [List.foldl_cons, List.foldl_cons, ih, grow_len]
  exact this cols [[]]
theorem smallR_keys {wl : Str → Str → List V} {t : Str} (cols : List Str) : ∀ kv ∈ smallR wl t cols, kv.map (·.1) = cols.map Sum.inr := by
  have : ∀ (cols : List Str) (ks : List Kv) (pre : List Str), (∀ kv ∈ ks, kv.map (·.1) = pre.map Sum.inr) → ∀ kv ∈ cols.foldl (fun ks c => grow ks c (wl t c)) ks, kv.map (·.1) = (pre ++ cols).map Sum.inr := by
    intro cols
    induction cols with
    | nil => intro ks pre h kv hk; rw [List.append_nil]; exact h kv hk
    | cons c r ih =>
      intro ks pre h kv hk
      have := ih (grow ks c (wl t c)) (pre ++ [c]) (fun kv hk => ?_) kv hk
      · rw [this, List.append_assoc]; rfl
      · unfold grow at hk
        obtain ⟨k0, hk0, hk⟩ := List.mem_flatMap.mp hk
        unfold grow1 at hk
        obtain ⟨v, _, rfl⟩ := List.mem_map.mp hk
        rw [List.map_append, List.map_append, h k0 hk0]
        rfl
  intro kv hk
  have := this cols [[]] [] (fun kv hk => by rw [List.mem_singleton.mp hk]; rfl) kv hk
  rw [List.nil_append] at this
  exact this
theorem valV_key {kv : Kv} {k : Key} (h : k ∉ kv.map (·.1)) : valV kv k = none := by
  cases e : valV kv k with
  | none => rfl
  | some v => exact absurd (valV_in e) h
def spSmallR (K : PySem.W.Frag) : Sp := fun vs H Q _ => ∃ (ct d : Addr) (t : Str) (cols : List Str) (W : List ((Str × Str) × Addr)) (wl : Str → Str → List V), vs = [.str t, .ref ct, .ref d] ∧ CoAt H ct cols ∧ VlAt H d W wl ∧ (∀ c ∈ cols, (t, c) ∈ W.map (·.1) ∧ (wl t c).length ≤ 3) ∧ cols.length ≤ 2 ∧ cols.Nodup ∧ ∀ lr ms H', Same H H' → cut H H' lr = some (.lst (ms.map V.ref)) → DsAt (cut H H') ms (smallR wl t cols) → Q (.ref lr) H'
section
variable {P : Program} {w : World} {K : PySem.W.Frag} {mg : Str → Option Value} {base : Heap}
theorem ok_smallR {f fG : Addr} {fd fdG : FuncData} (F : Fun K "small_rows" "small_rows" (top 13) f fd) (B : Bl mg) (DG : Df K mg "grown" (top 16) fG fdG) : FnOk P w K mg base CX0 2 f fd ["table", "columns", "values"] (spSmallR K) := by
  have sc : FnScope ["table", "columns", "values", "rows", "column", "kind"] ["table", "columns", "values"] (defScope (top 13)) := ⟨rfl, rfl, rfl, by decide +kernel, rfl, by decide +kernel, by decide +kernel⟩
  have GG : FnOk P w K mg base CX0 1 fG fdG ["dicts", "name", "choices"] (spGrown K) := ok_grown DG.fn B
  have bG := DG.fn.binds (ps := ["dicts", "name", "choices"]) fun _ _ _ _ _ _ us hl => by obtain ⟨v0, v1, v2, rfl⟩ := L2.ln3 hl; rfl
  refine F.ok sc (fun vs H Q E h => ?_) (fun cdv A outer s H vs Q E hr h => ?_)
  · obtain ⟨ct, d, t, cols, W, wl, rfl, _⟩ := h
    rfl
  · obtain ⟨ct, d, t, cols, W, wl, rfl, ⟨ps, c1, c2, c3⟩, hV, hin, h2, cnd, q⟩ := h
    have hu : (A.deeper (envOfC "small_rows" (defScope (top 13)) s.heap.objs.size f cdv)).units + 1 < cLine := hu_of hr
    refine ⟨_, pss_cons (ps_set (i := 3) sc.nd rfl (Or.inl rfl) (pe_lst (pa_cons pe_dnewK pa_nil)))
      (pss_cons (ps_for PassesOwn.never rfl (pi_tup (pv 1)) (pg_tup rfl (pgs_cons (pg_name (i := 4) sc.nd rfl (Or.inl rfl)) (pgs_cons (pg_name (i := 5) sc.nd rfl (Or.inl rfl)) pgs_nil)))
        (pss_one (ps_set (i := 3) sc.nd rfl (Or.inl rfl) (pe_call GG hr (by rfl) DG.mg DG.fn.kp bG .nil pass0 (pa_cons (pv 3) (pa_cons (pv 4) (pa_cons (pe_dget hu (pv 2) (pe_tup (pa_cons (pv 0) (pa_cons (pv 4) pa_nil))) (fun _ _ => rfl)) pa_nil)))))))
      (pss_one (ps_ret (pv 3)))), ?_⟩
    refine fun d0 hd0 => ⟨(by show 1 ≤ sizeLine; decide), fun l0 hl0 => ?_⟩
    have T0 := Same.upd (o := .dK []) hd0
    have e0 : (upd H d0 (.dK [])) d0 = some (.dK []) := upd_same
    generalize upd H d0 (.dK []) = Ha at *
    have T1 := Same.upd (o := .lst [V.ref d0]) hl0
    have e1 : (upd Ha l0 (.lst [V.ref d0])) l0 = some (.lst [V.ref d0]) := upd_same
    generalize upd Ha l0 (.lst [V.ref d0]) = Hb at *
    have S0 := T0.trans T1
    refine ⟨_, rfl, ct, rfl, ⟨_, SqT.of (S0 _ _ c1)⟩, for_tup (K := K) (a := ct) (xs := ps.map V.ref) (fun i σ H' => Same H H' ∧ ∃ (lr : Addr) (ms : List Addr) (u4 u5 : Option V), σ = [some (.str t), some (.ref ct), some (.ref d), some (.ref lr), u4, u5] ∧ cut H H' lr = some (.lst (ms.map V.ref)) ∧ DsAt (cut H H') ms (smallR wl t (cols.take i))) ⟨S0, l0, [d0], _, _, rfl, cut_at (none_of T0 hl0) e1, rfl, fun j m kv a b => ?_⟩ (fun i σ H' _ p => SqT.of (p.1 _ _ c1)) ?_ ?_⟩
    · match j, a, b with
      | 0, a, b => cases a; cases b; exact cut_at hd0 (T1 _ _ e0)
    · rintro i x σ H' hx ⟨sm, lr, ms, u4, u5, rfl, k1, k2⟩
      have hi : i < ps.length := by
        have := (List.getElem?_eq_some_iff.mp hx).1
        rwa [List.length_map] at this
      have hic : i < cols.length := by omega
      rw [List.getElem?_map, List.getElem?_eq_getElem hi] at hx
      cases hx
      obtain ⟨k, e⟩ := c3 i ps[i] cols[i] (List.getElem?_eq_getElem hi) (List.getElem?_eq_getElem hic)
      obtain ⟨hm, h3⟩ := hin _ (List.getElem_mem hic)
      obtain ⟨x, hx, ex⟩ := List.mem_map.mp hm
      refine ⟨ps[i], _, rfl, SqT.of (sm _ _ e), rfl, _, _, rfl, _, _, rfl, rfl, ?_⟩
      refine ⟨_, rfl, _, rfl, _, rfl, _, rfl, _, rfl, (by show 2 ≤ sizeLine; decide), fun b hb => ?_⟩
      have T2 := Same.upd (o := .tup [.str t, .str cols[i]]) hb
      have e2 : (upd H' b (.tup [.str t, .str cols[i]])) b = some (.tup [.str t, .str cols[i]]) := upd_same
      generalize upd H' b (.tup [.str t, .str cols[i]]) = H1 at *
      have hV1 := hV.same (sm.trans T2)
      have ex1 : x.1.1 = t := by rw [ex]
      have ex2 : x.1.2 = cols[i] := by rw [ex]
      have lx := hV1.2.2 x hx
      rw [ex1, ex2] at lx
      have k2' := k2.same (cut_up T2)
      have et : cols.take (i + 1) = cols.take i ++ [cols[i]] := by rw [List.take_succ, List.getElem?_eq_getElem hic]; rfl
      have hnew : cols[i] ∉ cols.take i := fun hm => by
        have nd := cnd
        rw [← List.take_append_drop i cols, List.nodup_append] at nd
        refine nd.2.2 _ hm cols[i] ?_ rfl
        rw [List.drop_eq_getElem_cons hic]
        exact List.mem_cons_self
      have hlen : (smallR wl t (cols.take i)).length ≤ 9 := by
        rw [smallR_len]
        have := manyR_le (wl := wl) (t := t) (cols.take i) 1 fun c hc => (hin c (List.mem_of_mem_take hc)).2
        unfold manyR
        refine Nat.le_trans this ?_
        have hl : (cols.take i).length ≤ 2 := by rw [List.length_take]; omega
        have hp : 3 ^ (cols.take i).length ≤ 3 ^ 2 := Nat.pow_le_pow_right (by decide) hl
        omega
      refine ⟨d, .ref x.2, rfl, hV1.get hx (by rw [ex1, ex2]; exact e2), lr, x.2, cols[i], ms, _, wl t cols[i], rfl, SqL.of (T2 _ _ (cut_sub _ _ k1)), k2'.same cut_sub, (fun kv hk => ?_), SqL.of lx, ?_, fun lm ms' H2 s2 g1 g2 => ?_⟩
      · have ek := smallR_keys _ kv hk
        refine ⟨valV_key ?_, ?_⟩
        · rw [ek]
          intro hm
          obtain ⟨c, hc, e⟩ := List.mem_map.mp hm
          injection e with e
          exact hnew (e ▸ hc)
        · rw [← List.length_map (f := (·.1)), ek, List.length_map, List.length_take]
          omega
      · rw [grow_len]
        refine Nat.le_trans (Nat.mul_le_mul hlen h3) (by decide)
      · have S2 := T2.trans s2
        have dn : Same (cut H1 H2) (cut H H2) := fun b o e => cut_at (none_of (sm.trans T2) (cut_new e)) (cut_sub _ _ e)
        refine ⟨sm.trans S2, lm, ms', _, _, rfl, dn _ _ g1, ?_⟩
        rw [et, smallR_snoc]
        exact g2.same dn
    · rintro σ H' ⟨sm, lr, ms, u4, u5, rfl, k1, k2⟩
      rw [List.length_map, c2, List.take_length] at k2
      exact ⟨_, rfl, q lr ms H' sm k1 k2⟩
end
end My

namespace L2
open PySem PySem.Spec PyProof.Rows
theorem mt_ext {X : Cx} : MtR X "list.extend" rExtend := mt_extend
end L2
namespace My
open PySem L2 PyProof.Rows
seal L2.PE L2.PT L2.PW L2.PS L2.PSs L2.PA L2.PI L2.PG L2.PGs L2.OpR L2.UnR L2.CallR L2.IxR L2.SlR L2.MtR L2.PIf L2.PO L2.MtM L2.PC
def LsAt (H : Hp) (ls : List Addr) (vss : List (List V)) : Prop := ls.length = vss.length ∧ ∀ (j : Nat) (l : Addr) (vs : List V), ls[j]? = some l → vss[j]? = some vs → H l = some (.lst vs)
theorem LsAt.same {H H' : Hp} {ls : List Addr} {vss : List (List V)} (h : LsAt H ls vss) (s : Same H H') : LsAt H' ls vss := ⟨h.1, fun j m kv a b => s _ _ (h.2 j m kv a b)⟩
theorem LsAt.app {H : Hp} {ls ms : List Addr} {vss wss : List (List V)} (h : LsAt H ls vss) (g : LsAt H ms wss) : LsAt H (ls ++ ms) (vss ++ wss) := by
  refine ⟨by rw [List.length_append, List.length_append, h.1, g.1], fun j x y h1 h2 => ?_⟩
  by_cases hj : j < ls.length
  · rw [List.getElem?_append_left hj] at h1
    rw [List.getElem?_append_left (by have := h.1; omega)] at h2
    exact h.2 j x y h1 h2
  · rw [List.getElem?_append_right (by omega)] at h1
    rw [List.getElem?_append_right (by have := h.1; omega), ← h.1] at h2
    exact g.2 _ x y h1 h2
theorem LsAt.one {H : Hp} {l : Addr} {vs : List V} (e : H l = some (.lst vs)) : LsAt H [l] [vs] := ⟨rfl, fun j x y h1 h2 => by
  match j, h1, h2 with
  | 0, h1, h2 => cases h1; cases h2; exact e⟩
def pairs1 (a : V) (ms : List V) : List (List V) := ms.map fun b => [a, b]
def pairsC (ms ns : List V) : List (List V) := ms.flatMap fun a => pairs1 a ns
def spPairs (K : PySem.W.Frag) : Sp := fun vs H Q _ => ∃ (l : Addr) (ms : List V), vs = [.ref l] ∧ SqL K H l ms ∧ ms.length ≤ 9 ∧ ∀ lp ps H', Same H H' → cut H H' lp = some (.lst (ps.map V.ref)) → LsAt (cut H H') ps (pairsC ms ms) → Q (.ref lp) H'
section
variable {P : Program} {w : World} {K : PySem.W.Frag} {mg : Str → Option Value} {base : Heap}
theorem ok_pairs {f : Addr} {fd : FuncData} (F : Fun K "pairs_of" "pairs_of" (top 15) f fd) : FnOk P w K mg base CX0 1 f fd ["rows"] (spPairs K) := by
  have sc : FnScope ["rows", "pairs", "first"] ["rows"] (defScope (top 15)) := ⟨rfl, rfl, rfl, by decide +kernel, rfl, by decide +kernel, by decide +kernel⟩
  refine F.ok sc (fun vs H Q E h => ?_) (fun cdv A outer s H vs Q E hr h => ?_)
  · obtain ⟨l, ms, rfl, _⟩ := h
    rfl
  · obtain ⟨l, ms, rfl, hl, h9, q⟩ := h
    have nd2 : (["second", "first"] : List Str).Nodup := by decide +kernel
    refine ⟨_, pss_cons (ps_set (i := 1) sc.nd rfl (Or.inl rfl) (pe_lst pa_nil))
      (pss_cons (ps_for PassesOwn.never rfl (pi_list (pv 0)) (pg_name (i := 2) sc.nd rfl (Or.inr rfl))
        (pss_one (ps_expr (pe_bm PySem.F.plainAttrs_list PySem.F.slot_list_extend PySem.F.type_list_extend mt_ext (pv 1) (pa_cons (pe_comp (osc := defScope (top 15)) (N0 := ["rows", "pairs", "first"]) (xs := ["second"]) (fr := [2]) ⟨rfl, by decide +kernel, by decide +kernel, by decide +kernel, (fun j hj => by
              have e : j = 2 := by simpa using hj
              rcases e with rfl
              exact ⟨_, rfl, by decide +kernel⟩), by decide +kernel⟩ rfl rfl rfl (pi_list (pv 0))
          (fun s H fp => pg_name (i := 0) nd2 rfl (Or.inl rfl)) (fun s H fp => pif_nil) (fun s H fp => pe_lst (pa_cons (pv 1) (pa_cons (pv 0) pa_nil)))) pa_nil)))))
      (pss_one (ps_ret (pv 1)))), ?_⟩
    refine ⟨Nat.zero_le _, fun lp hlp => ?_⟩
    have S0 := Same.upd (o := .lst []) hlp
    have e0 : (upd H lp (.lst [])) lp = some (.lst []) := upd_same
    generalize upd H lp (.lst []) = H0 at *
    have plen : ∀ i, (pairsC (ms.take i) ms).length = (ms.take i).length * ms.length := fun i => by
      unfold pairsC
      generalize ms.take i = r
      induction r with
      | nil => simp
      | cons a r ih =>
        rw [List.flatMap_cons, List.length_append, ih, List.length_cons, Nat.succ_mul]
        unfold pairs1
        rw [List.length_map]
        omega
    refine ⟨_, rfl, l, rfl, ⟨_, S0.seq hl⟩, for_list (K := K) (a := l) (xs := ms) (fun i σ H1 => Same H H1 ∧ (∃ u, σ = [some (.ref l), some (.ref lp), u]) ∧ ∃ ps : List Addr, H1 lp = some (.lst (ps.map V.ref)) ∧ LsAt (cut H H1) ps (pairsC (ms.take i) ms) ∧ lp ∉ ps) ⟨S0, ⟨_, rfl⟩, [], e0, ⟨rfl, fun j m kv h => nomatch h⟩, (fun h => nomatch h)⟩ (fun i σ H1 _ p => p.1.seq hl) ?_ ?_⟩
    · rintro i x σ H1 hx ⟨sm, ⟨u, rfl⟩, ps, k1, k2, k3⟩
      have hi : i < ms.length := (List.getElem?_eq_some_iff.mp hx).1
      refine ⟨_, rfl, .inl ⟨rfl, _, SqL.of k1⟩, _, rfl, l, rfl, ⟨_, sm.seq hl⟩, fun D hD => ?_⟩
      have hD0 : H D = none := none_of sm hD
      refine compW_idx ms.length (fun j ys σ' Hc => (∃ t, σ' = [t, some x]) ∧ Same H1 Hc ∧ ∃ qs : List Addr, ys = qs.map V.ref ∧ qs.length = j ∧ D ∉ qs ∧ lp ∉ qs ∧ LsAt (cut H Hc) qs (pairs1 x (ms.take j))) (by rw [sizeLine_eq]; omega) ⟨⟨none, rfl⟩, Same.upd hD, [], rfl, rfl, (fun h => nomatch h), (fun h => nomatch h), rfl, fun j m kv h => nomatch h⟩ upd_same ?_ ?_
      · rintro j σ' Hc ys hj ⟨⟨t, rfl⟩, s2, qs, rfl, ql, qD, qp, hq⟩ hyl hD'
        have ej : ms[j]? = some ms[j] := List.getElem?_eq_getElem hj
        refine ⟨⟨_, ms[j], (sm.trans s2).seq hl, ej⟩, ?_⟩
        rintro y H'' ⟨rfl, hx'⟩
        have ex := hx' _ ((sm.trans s2).seq hl)
        rw [ej] at ex
        cases ex
        refine ⟨_, rfl, _, rfl, (by show 2 ≤ sizeLine; decide), fun p hp => ?_⟩
        have T3 := Same.upd (o := .lst [x, ms[j]]) hp
        have p3 : (upd H'' p (.lst [x, ms[j]])) p = some (.lst [x, ms[j]]) := upd_same
        generalize upd H'' p (.lst [x, ms[j]]) = H3 at *
        have pD : p ≠ D := fun e => by rw [e, hD'] at hp; cases hp
        have pp : p ≠ lp := fun e => by rw [e, s2 _ _ k1] at hp; cases hp
        have hp0 : H p = none := none_of (sm.trans s2) hp
        have mv : ∀ {b : Addr} {o : HO}, b ≠ D → cut H H'' b = some o → cut H (upd H3 D (.lst (qs.map V.ref ++ [.ref p]))) b = some o := fun {b o} nb e => cut_at (cut_new e) (by rw [upd_ne nb]; exact T3 _ _ (cut_sub _ _ e))
        refine ⟨T3 _ _ hD', ⟨_, rfl⟩, (s2.trans T3).put hD, qs ++ [p], by rw [List.map_append]; rfl, by rw [List.length_append, ql]; rfl, fun h => ?_, fun h => ?_, ?_⟩
        · rcases List.mem_append.mp h with h | h
          · exact qD h
          · exact pD (List.mem_singleton.mp h).symm
        · rcases List.mem_append.mp h with h | h
          · exact qp h
          · exact pp (List.mem_singleton.mp h).symm
        · have ep : pairs1 x (ms.take (j + 1)) = pairs1 x (ms.take j) ++ [[x, ms[j]]] := by
            unfold pairs1
            rw [List.take_succ, ej, List.map_append]
            rfl
          rw [ep]
          refine LsAt.app ⟨hq.1, fun j' b vs h1 h2 => mv (fun e => qD (e ▸ List.mem_of_getElem? h1)) (hq.2 j' b vs h1 h2)⟩ (LsAt.one (cut_at hp0 (by rw [upd_ne pD]; exact p3)))
      · rintro σ' Hc ys ⟨_, s2, qs, rfl, ql, qD, qp, hq⟩ hDn hyl
        have kc := s2 _ _ k1
        have pl := plen i
        have psl := k2.1
        rw [pl] at psl
        refine ⟨⟨_, (sm.trans s2).seq hl, Nat.le_refl _⟩, lp, D, _, _, rfl, rfl, kc, hDn, ?_, ?_⟩
        · rw [List.length_map, List.length_map, psl, ql, List.length_take, sizeLine_eq]
          have : min i ms.length * ms.length ≤ 9 * 9 := Nat.mul_le_mul (by omega) h9
          omega
        · refine ⟨(sm.trans s2).put hlp, ⟨_, rfl⟩, ps ++ qs, by rw [upd_same, List.map_append], ?_, fun h => ?_⟩
          · rw [List.take_length] at hq
            have eg : pairsC (ms.take (i + 1)) ms = pairsC (ms.take i) ms ++ pairs1 x ms := by
              unfold pairsC
              rw [List.take_succ, hx, List.flatMap_append]
              show _ ++ List.flatMap _ [x] = _
              rw [List.flatMap_singleton]
            rw [eg]
            have mv : ∀ {b : Addr} {o : HO}, b ≠ lp → cut H Hc b = some o → cut H (upd Hc lp (.lst (ps.map V.ref ++ qs.map V.ref))) b = some o := fun {b o} nb e => cut_at (cut_new e) (by rw [upd_ne nb]; exact cut_sub _ _ e)
            exact LsAt.app ⟨k2.1, fun j' b vs h1 h2 => mv (fun e => k3 (e ▸ List.mem_of_getElem? h1)) (cut_up s2 _ _ (k2.2 j' b vs h1 h2))⟩ ⟨hq.1, fun j' b vs h1 h2 => mv (fun e => qp (e ▸ List.mem_of_getElem? h1)) (hq.2 j' b vs h1 h2)⟩
          · rcases List.mem_append.mp h with h | h
            · exact k3 h
            · exact qp h
    · rintro σ H1 ⟨sm, ⟨u, rfl⟩, ps, k1, k2, k3⟩
      rw [List.take_length] at k2
      exact ⟨_, rfl, q lp ps H1 sm (cut_at hlp k1) k2⟩
end
end My

namespace My
open PySem L2 PyProof.Rows
seal L2.PE L2.PT L2.PW L2.PS L2.PSs L2.PA L2.PI L2.PG L2.PGs L2.OpR L2.UnR L2.CallR L2.IxR L2.SlR L2.MtR L2.PIf L2.PO L2.MtM L2.PC
def ones (ms : List V) : List (List V) := ms.map fun a => [a]
def choicesC (so : Str) (ms : List V) : List (List V) := if so ∈ lone then ones ms else (if so = "many" then [[]] else []) ++ ones ms ++ pairsC ms ms
def spChoices (K : PySem.W.Frag) : Sp := fun vs H Q _ => ∃ (so : Str) (l : Addr) (ms : List V), vs = [.str so, .ref l] ∧ SqL K H l ms ∧ ms.length ≤ 9 ∧ ∀ lc cs H', Same H H' → cut H H' lc = some (.lst (cs.map V.ref)) → LsAt (cut H H') cs (choicesC so ms) → Q (.ref lc) H'
theorem pairs_len (ms : List V) : (pairsC ms ms).length = ms.length * ms.length := by
  have : ∀ r : List V, (pairsC r ms).length = r.length * ms.length := fun r => by
    unfold pairsC
    induction r with
    | nil => simp
    | cons a r ih =>
      rw [List.flatMap_cons, List.length_append, ih, List.length_cons, Nat.succ_mul]
      unfold pairs1
      rw [List.length_map]
      omega
  exact this ms
section
variable {P : Program} {w : World} {K : PySem.W.Frag} {mg : Str → Option Value} {base : Heap}
theorem ok_choices {f fP sA : Addr} {fd fdP : FuncData} (F : Fun K "choices_of" "choices_of" (top 14) f fd) (LN : Ln K mg sA) (DP : Df K mg "pairs_of" (top 15) fP fdP) : FnOk P w K mg base CX0 2 f fd ["sort", "rows"] (spChoices K) := by
  have sc : FnScope ["sort", "rows", "ones", "nothing"] ["sort", "rows"] (defScope (top 14)) := ⟨rfl, rfl, rfl, by decide +kernel, rfl, by decide +kernel, by decide +kernel⟩
  have GP : FnOk P w K mg base CX0 1 fP fdP ["rows"] (spPairs K) := ok_pairs DP.fn
  have bP := DP.fn.binds (ps := ["rows"]) fun _ _ _ _ _ _ us hl => by obtain ⟨v0, rfl⟩ := L2.ln1 hl; rfl
  refine F.ok sc (fun vs H Q E h => ?_) (fun cdv A outer s H vs Q E hr h => ?_)
  · obtain ⟨so, l, ms, rfl, _⟩ := h
    rfl
  · obtain ⟨so, l, ms, rfl, hl, h9, q⟩ := h
    refine ⟨_, pss_cons (ps_comp (i := 2) (osc := defScope (top 14)) (N0 := ["sort", "rows", "ones", "nothing"]) (xs := ["row"]) (fr := []) ⟨rfl, by decide +kernel, by decide +kernel, by decide +kernel, by decide, by decide +kernel⟩ rfl rfl rfl (pi_list (pv 1))
        (fun s H fp => pg_name (i := 0) (show (["row"] : List Str).Nodup by decide +kernel) rfl (Or.inl rfl)) (fun s H fp => pif_nil) (fun s H fp => pe_lst (pa_cons (pv 0) pa_nil)) sc.nd rfl (Or.inl rfl))
      (pss_cons (ps_if (pt_cmpR op_in_seq (pv 0) (pe_glob (v := .ref sA) (by rfl) LN.mS rfl) (by with_unfolding_all rfl)) (pss_one (ps_ret (pv 2))) pss_nil)
      (pss_cons (ps_set (i := 3) sc.nd rfl (Or.inl rfl) (pe_ifExp (pt_cmpR op_eq (pv 0) pe_str (nomark _)) (pe_lst (pa_cons (pe_lst pa_nil) pa_nil)) (pe_lst pa_nil)))
      (pss_one (ps_ret (pe_op op_cat (pe_op op_cat (pv 3) (pv 2)) (pe_call GP hr (by rfl) DP.mg DP.fn.kp bP .nil pass0 (pa_cons (pv 1) pa_nil))))))), ?_⟩
    refine ⟨_, rfl, l, rfl, ⟨_, hl⟩, fun D hD => ?_⟩
    refine compW_idx ms.length (fun j ys σ' Hc => (∃ t, σ' = [t]) ∧ Same H Hc ∧ ∃ qs : List Addr, ys = qs.map V.ref ∧ qs.length = j ∧ D ∉ qs ∧ LsAt (cut H Hc) qs (ones (ms.take j))) (by rw [sizeLine_eq]; omega) ⟨⟨none, rfl⟩, Same.upd hD, [], rfl, rfl, (fun h => nomatch h), rfl, fun j m kv h => nomatch h⟩ upd_same ?_ ?_
    · rintro j σ' Hc ys hj ⟨⟨t, rfl⟩, s2, qs, rfl, ql, qD, hq⟩ hyl hD'
      have ej : ms[j]? = some ms[j] := List.getElem?_eq_getElem hj
      refine ⟨⟨_, ms[j], s2.seq hl, ej⟩, ?_⟩
      rintro y H'' ⟨rfl, hx'⟩
      have ex := hx' _ (s2.seq hl)
      rw [ej] at ex
      cases ex
      refine ⟨_, rfl, (by show 1 ≤ sizeLine; decide), fun p hp => ?_⟩
      have T3 := Same.upd (o := .lst [ms[j]]) hp
      have p3 : (upd H'' p (.lst [ms[j]])) p = some (.lst [ms[j]]) := upd_same
      generalize upd H'' p (.lst [ms[j]]) = H3 at *
      have pD : p ≠ D := fun e => by rw [e, hD'] at hp; cases hp
      have hp0 : H p = none := none_of s2 hp
      refine ⟨T3 _ _ hD', ⟨_, rfl⟩, (s2.trans T3).put hD, qs ++ [p], by rw [List.map_append]; rfl, by rw [List.length_append, ql]; rfl, fun h => ?_, ?_⟩
      · rcases List.mem_append.mp h with h | h
        · exact qD h
        · exact pD (List.mem_singleton.mp h).symm
      · have ep : ones (ms.take (j + 1)) = ones (ms.take j) ++ [[ms[j]]] := by
          unfold ones
          rw [List.take_succ, ej, List.map_append]
          rfl
        rw [ep]
        exact LsAt.app ⟨hq.1, fun j' b vs h1 h2 => cut_at (cut_new (hq.2 j' b vs h1 h2)) (by
          have nb : b ≠ D := fun e => qD (by rw [← e]; exact List.mem_of_getElem? h1)
          rw [upd_ne nb]; exact T3 _ _ (cut_sub _ _ (hq.2 j' b vs h1 h2)))⟩ (LsAt.one (cut_at hp0 (by rw [upd_ne pD]; exact p3)))
    · rintro σ' Hc ys ⟨_, s2, qs, rfl, ql, qD, hq⟩ hDn hyl
      rw [List.take_length] at hq
      refine ⟨⟨_, s2.seq hl, Nat.le_refl _⟩, ?_⟩
      refine ⟨_, rfl, sA, _, rfl, .inr (LN.qS _), rfl, (by decide), _, rfl, ?_⟩
      show if (inV (.str so) _) = true then _ else _
      rw [inV_str]
      unfold choicesC at q
      by_cases hlo : so ∈ lone
      · rw [if_pos hlo] at q
        rw [decide_eq_true hlo]
        exact iteT ⟨_, rfl, q D qs Hc s2 (cut_at hD hDn) hq⟩
      rw [if_neg hlo] at q
      rw [decide_eq_false hlo]
      have fin : ∀ (nl : Addr) (ns : List Addr) (nss : List (List V)) (H2 : Hp), Same Hc H2 → cut H H2 nl = some (.lst (ns.map V.ref)) → LsAt (cut H H2) ns nss → ns.length ≤ 1 → (∀ lc cs H', Same H H' → cut H H' lc = some (.lst (cs.map V.ref)) → LsAt (cut H H') cs (nss ++ ones ms ++ pairsC ms ms) → Q (.ref lc) H') → tRet (tOp rCat (tOp rCat (tVar 3) (tVar 2)) (tCall (spPairs K) [] E0 (tCons (tVar 1) tNil))) { nx := fun _ H' => Q .non H', rt := Q } [some (.str so), some (.ref l), some (.ref D), some (.ref nl)] H2 := by
        intro nl ns nss H2 t2 n1 n2 n3 qf
        have D2 := t2 _ _ hDn
        refine ⟨_, rfl, _, rfl, nl, D, _, _, rfl, rfl, cut_sub _ _ n1, D2, (by rw [List.length_map, List.length_map, ql, sizeLine_eq]; omega), fun p hp => ?_⟩
        generalize hX : upd H2 p _ = H3
        have T3 : Same H2 H3 := hX ▸ Same.upd hp
        have p3 : H3 p = some (.lst ((ns ++ qs).map V.ref)) := by rw [← hX, upd_same, List.map_append]
        clear hX
        have S3 := s2.trans (t2.trans T3)
        refine ⟨_, rfl, l, ms, rfl, S3.seq hl, h9, fun lp ps H4 s4 g1 g2 => ?_⟩
        have pl : ps.length = ms.length * ms.length := by rw [g2.1, pairs_len]
        have hmm : ms.length * ms.length ≤ 9 * 9 := Nat.mul_le_mul h9 h9
        refine ⟨p, lp, _, _, rfl, rfl, s4 _ _ p3, cut_sub _ _ g1, (by rw [List.length_map, List.length_map, List.length_append, ql, pl, sizeLine_eq]; omega), fun lc hlc => ?_⟩
        have T5 := Same.upd (o := .lst ((ns ++ qs).map V.ref ++ ps.map V.ref)) hlc
        have S45 := s4.trans T5
        have S5 := S3.trans S45
        refine qf lc (ns ++ qs ++ ps) _ S5 (cut_at (none_of (S3.trans s4) hlc) (by rw [upd_same, List.map_append, List.map_append, List.map_append])) ?_
        have dn : Same (cut H3 H4) (cut H (upd H4 lc (.lst ((ns ++ qs).map V.ref ++ ps.map V.ref)))) := fun b o e => cut_at (none_of S3 (cut_new e)) (T5 _ _ (cut_sub _ _ e))
        exact LsAt.app (LsAt.app (n2.same (cut_up (T3.trans S45))) (hq.same (cut_up (t2.trans (T3.trans S45))))) (g2.same dn)
      refine iteF ⟨_, rfl, rfl, _, rfl, ?_⟩
      by_cases hm : so = "many"
      · rw [if_pos hm] at q
        refine iteB (by rw [hm]; decide +kernel) ⟨Nat.zero_le _, fun n0 hn0 => ⟨(by show 1 ≤ sizeLine; decide), fun nl hnl => ?_⟩⟩
        have T1 := Same.upd (o := .lst []) hn0
        have e1 : (upd Hc n0 (.lst [])) n0 = some (.lst []) := upd_same
        generalize upd Hc n0 (.lst []) = H1 at *
        have T2 := Same.upd (o := .lst [V.ref n0]) hnl
        exact fin nl [n0] [[]] _ (T1.trans T2) (cut_at (none_of (s2.trans T1) hnl) upd_same) (LsAt.one (cut_at (none_of s2 hn0) (T2 _ _ e1))) (Nat.le_refl _) q
      · rw [if_neg hm] at q
        refine iteC (decide_eq_false fun e => hm (by injection e)) ⟨Nat.zero_le _, fun nl hnl => ?_⟩
        exact fin nl [] [] _ (Same.upd hnl) (cut_at (none_of s2 hnl) upd_same) ⟨rfl, fun j m kv h => nomatch h⟩ (Nat.zero_le _) q
end
end My

namespace L2
open PySem PySem.Spec PyProof.Rows
theorem cut_put {H H1 : Hp} {r : Addr} {o : HO} (h : H r = none) : cut H (upd H1 r o) = upd (cut H H1) r o := by
  funext b
  by_cases e : b = r
  · subst e
    rw [upd_same, cut]
    rw [h]
    exact upd_same
  · rw [upd_ne e]
    unfold cut
    split
    · rw [upd_ne e]
    · rfl
theorem cut_upd {H H2 : Hp} {a : Addr} {o o' : HO} (h : H a = some o') : Same (cut H H2) (cut H (upd H2 a o)) := fun b u e => by
  have nb : b ≠ a := fun e2 => by rw [e2, cut] at e; rw [h] at e; cases e
  exact cut_at (cut_new e) (by rw [upd_ne nb]; exact cut_sub _ _ e)
end L2
namespace My
open PySem L2 PyProof.Rows
seal L2.PE L2.PT L2.PW L2.PS L2.PSs L2.PA L2.PI L2.PG L2.PGs L2.OpR L2.UnR L2.CallR L2.IxR L2.SlR L2.MtR L2.PIf L2.PO L2.MtM L2.PC
/-! ### rows, tables, pieces: contents without addresses -/
abbrev Rw := List (Str × V)
abbrev Pc := List (Str × List Rw)
def rK (row : Rw) : List (Key × V) := row.map fun c => (.inr c.1, c.2)
/-- values without an address, or tuples -/
def RwOk (H : Hp) (row : Rw) : Prop := (row.map (·.1)).Nodup ∧ ∀ c ∈ row, flt c.2 = true ∨ ∃ a xs, c.2 = .ref a ∧ H a = some (.tup xs)
def RowsAt (H : Hp) (l : Addr) (rows : List Rw) : Prop := ∃ rs : List Addr, H l = some (.lst (rs.map V.ref)) ∧ rs.length = rows.length ∧ ∀ (j : Nat) (r : Addr) (row : Rw), rs[j]? = some r → rows[j]? = some row → H r = some (.dK (rK row))
def zK (zs : List Str) (ls : List Addr) : List (Key × V) := zs.zipWith (fun z v => ((Sum.inr z : Key), v)) (ls.map V.ref)
def PcAt (H : Hp) (p : Addr) (pc : Pc) : Prop := ∃ ls : List Addr, H p = some (.dK (zK (pc.map (·.1)) ls)) ∧ ls.length = pc.length ∧ ∀ (j : Nat) (l : Addr) (t : Str × List Rw), ls[j]? = some l → pc[j]? = some t → RowsAt H l t.2
/-- .. its rows apart from one another -/
def RowsD (H : Hp) (l : Addr) (rows : List Rw) : Prop := ∃ rs : List Addr, H l = some (.lst (rs.map V.ref)) ∧ rs.length = rows.length ∧ rs.Nodup ∧ ∀ (j : Nat) (r : Addr) (row : Rw), rs[j]? = some r → rows[j]? = some row → H r = some (.dK (rK row))
def PcD (H : Hp) (p : Addr) (pc : Pc) : Prop := ∃ ls : List Addr, H p = some (.dK (zK (pc.map (·.1)) ls)) ∧ ls.length = pc.length ∧ ∀ (j : Nat) (l : Addr) (t : Str × List Rw), ls[j]? = some l → pc[j]? = some t → RowsD H l t.2
theorem RowsD.same {H H' : Hp} {l : Addr} {rows : List Rw} (h : RowsD H l rows) (s : Same H H') : RowsD H' l rows := let ⟨rs, a, b, n, c⟩ := h; ⟨rs, s _ _ a, b, n, fun j r row x y => s _ _ (c j r row x y)⟩
theorem PcD.same {H H' : Hp} {p : Addr} {pc : Pc} (h : PcD H p pc) (s : Same H H') : PcD H' p pc := let ⟨ls, a, b, c⟩ := h; ⟨ls, s _ _ a, b, fun j l t x y => (c j l t x y).same s⟩
theorem RowsD.rows {H : Hp} {l : Addr} {rows : List Rw} (h : RowsD H l rows) : RowsAt H l rows := let ⟨rs, a, b, _, c⟩ := h; ⟨rs, a, b, c⟩
theorem PcD.pc {H : Hp} {p : Addr} {pc : Pc} (h : PcD H p pc) : PcAt H p pc := let ⟨ls, a, b, c⟩ := h; ⟨ls, a, b, fun j l t x y => (c j l t x y).rows⟩
structure PcOk (H : Hp) (pc : Pc) : Prop where
  nd : (pc.map (·.1)).Nodup
  le : pc.length ≤ 8
  rl : ∀ t ∈ pc, t.2.length ≤ 1000
  rw_ : ∀ t ∈ pc, ∀ row ∈ t.2, RwOk H row
theorem RowsAt.same {H H' : Hp} {l : Addr} {rows : List Rw} (h : RowsAt H l rows) (s : Same H H') : RowsAt H' l rows := let ⟨rs, a, b, c⟩ := h; ⟨rs, s _ _ a, b, fun j r row x y => s _ _ (c j r row x y)⟩
theorem PcAt.same {H H' : Hp} {p : Addr} {pc : Pc} (h : PcAt H p pc) (s : Same H H') : PcAt H' p pc := let ⟨ls, a, b, c⟩ := h; ⟨ls, s _ _ a, b, fun j l t x y => (c j l t x y).same s⟩
theorem rK_flat {H : Hp} {row : Rw} (ok : RwOk H row) {k : Key} {a : Addr} (ha : ∀ xs, H a ≠ some (.tup xs)) : (k, V.ref a) ∉ rK row := fun h => by
  obtain ⟨c, hc, e⟩ := List.mem_map.mp h
  injection e with _ e2
  rcases ok.2 c hc with h | ⟨b, xs, h1, h2⟩
  · rw [e2] at h
    cases h
  · rw [e2] at h1
    injection h1 with h1
    exact ha xs (h1 ▸ h2)
theorem zK_mem {zs : List Str} {ls : List Addr} {j : Nat} {z : Str} {l : Addr} (h1 : zs[j]? = some z) (h2 : ls[j]? = some l) : ((.inr z : Key), V.ref l) ∈ zK zs ls := by
  refine List.mem_of_getElem? (i := j) ?_
  unfold zK
  rw [zw_get, h1, List.getElem?_map, h2]
  rfl
theorem zK_get {zs : List Str} {ls : List Addr} {j : Nat} {k : Key} {v : V} (h : (zK zs ls)[j]? = some (k, v)) : ∃ z l, zs[j]? = some z ∧ ls[j]? = some l ∧ k = .inr z ∧ v = .ref l := by
  unfold zK at h
  rw [zw_get, List.getElem?_map] at h
  cases h1 : zs[j]? with
  | none => rw [h1] at h; cases h
  | some z =>
    cases h2 : ls[j]? with
    | none => rw [h1, h2] at h; cases h
    | some l =>
      rw [h1, h2] at h
      cases h
      exact ⟨z, l, rfl, rfl, rfl, rfl⟩
theorem zK_len {zs : List Str} {ls : List Addr} (h : ls.length = zs.length) : (zK zs ls).length = zs.length := by
  unfold zK
  exact zw_len (by rw [List.length_map]; exact h)
theorem zK_snoc {zs : List Str} {ls : List Addr} {z : Str} {l : Addr} (h : ls.length = zs.length) : zK (zs ++ [z]) (ls ++ [l]) = zK zs ls ++ [(.inr z, .ref l)] := by
  unfold zK
  rw [List.map_append, List.zipWith_append (by rw [List.length_map]; exact h.symm)]
  rfl
theorem zK_new {zs : List Str} {ls : List Addr} {z : Str} (h : z ∉ zs) : valV (zK zs ls) (.inr z) = none := by
  unfold valV
  rw [List.find?_eq_none.mpr fun x hx => ?_]
  · rfl
  · obtain ⟨k, v⟩ := x
    obtain ⟨i, y, h1, h2, e⟩ := zw_mem hx
    intro hd
    have e2 := of_decide_eq_true hd
    rw [e] at e2
    injection e2 with e2
    exact h (by rw [← e2]; exact List.mem_of_getElem? h1)
/-- the piece's dict is none of its lists and rows -/
theorem PcAt.apart {H : Hp} {p : Addr} {pc : Pc} (ok : PcOk H pc) {ls : List Addr} (hp : H p = some (.dK (zK (pc.map (·.1)) ls))) (hl : ls.length = pc.length) {j : Nat} {l : Addr} {t : Str × List Rw} (h1 : ls[j]? = some l) (h2 : pc[j]? = some t) (hr : RowsAt H l t.2) :
    l ≠ p ∧ ∀ (r : Addr) (row : Rw), row ∈ t.2 → H r = some (.dK (rK row)) → r ≠ p := by
  obtain ⟨rs, a1, _⟩ := hr
  refine ⟨(fun e => by rw [e, hp] at a1; cases a1), fun r row hrow hrr e => ?_⟩
  rw [e, hp] at hrr
  injection hrr with e1
  injection e1 with e2
  have hm : ((.inr t.1 : Key), V.ref l) ∈ zK (pc.map (·.1)) ls := zK_mem (j := j) (by rw [List.getElem?_map, h2]; rfl) h1
  rw [e2] at hm
  exact rK_flat (ok.rw_ t (List.mem_of_getElem? h2) row hrow) (fun xs h => by rw [a1] at h; cases h) hm
def spCopied : Sp := fun vs H Q _ => ∃ (p : Addr) (pc : Pc), vs = [.ref p] ∧ PcAt H p pc ∧ PcOk H pc ∧ ∀ p' H', Same H H' → PcD (cut H H') p' pc → Q (.ref p') H'
section
variable {P : Program} {w : World} {K : PySem.W.Frag} {mg : Str → Option Value} {base : Heap}
theorem ok_copied {f : Addr} {fd : FuncData} (F : Fun K "copied" "copied" (top 6) f fd) (B : Bl mg) : FnOk P w K mg base CX0 1 f fd ["piece"] spCopied := by
  have sc : FnScope ["piece", "fresh", "table", "rows"] ["piece"] (defScope (top 6)) := ⟨rfl, rfl, rfl, by decide +kernel, rfl, by decide +kernel, by decide +kernel⟩
  refine F.ok sc (fun vs H Q E h => ?_) (fun cdv A outer s H vs Q E hr h => ?_)
  · obtain ⟨p, pc, rfl, _⟩ := h
    rfl
  · obtain ⟨p, pc, rfl, hpc, ok, q⟩ := h
    have hu : (A.deeper (envOfC "copied" (defScope (top 6)) s.heap.objs.size f cdv)).units + 1 < cLine := hu_of hr
    refine ⟨_, pss_cons (ps_set (i := 1) sc.nd rfl (Or.inl rfl) pe_dnewK) (pss_cons (ps_frz (ps_for PassesOwn.never rfl (pi_items (pv 0)) (pg_tup rfl (pgs_cons (pg_name (i := 2) sc.nd rfl (Or.inl rfl)) (pgs_cons (pg_name (i := 3) sc.nd rfl (Or.inl rfl)) pgs_nil)))
        (pss_one (ps_dput hu (pv 1) (pv 2) (pe_comp (osc := defScope (top 6)) (N0 := ["piece", "fresh", "table", "rows"]) (xs := ["row"]) (fr := []) ⟨rfl, by decide +kernel, by decide +kernel, by decide +kernel, by decide, by decide +kernel⟩ rfl rfl rfl (pi_list (pv 3))
          (fun s H fp => pg_name (i := 0) (show (["row"] : List Str).Nodup by decide +kernel) rfl (Or.inl rfl)) (fun s H fp => pif_nil) (fun s H fp => pe_callTy call_dict_of (by rfl) B.dict boot_dict (pa_cons (pv 0) pa_nil))) rfl)))) (pss_one (ps_ret (pv 1)))), ?_⟩
    obtain ⟨ls, hp, hll, hls⟩ := hpc
    refine fun fr hfr => ⟨p, _, (Same.upd hfr) _ _ hp, fun o => ?_⟩
    have np : p ≠ fr := fun e => by rw [← e, hp] at hfr; cases hfr
    have S0 : Same H (upd H fr (.dK [])) := Same.upd hfr
    have d0 : (upd H fr (.dK [])) fr = some (.dK []) := upd_same
    generalize upd H fr (.dK []) = H1 at *
    have hfa : (upd H1 p (.frz o (.dK (zK (pc.map (·.1)) ls)))) p = some (.frz o (.dK (zK (pc.map (·.1)) ls))) := upd_same
    have hb0 : Same H (upd (upd H1 p (.frz o (.dK (zK (pc.map (·.1)) ls)))) p (.dK (zK (pc.map (·.1)) ls))) := S0.trans (back_same (S0 _ _ hp) (Same.refl _))
    have d1 : (upd H1 p (.frz o (.dK (zK (pc.map (·.1)) ls)))) fr = some (.dK []) := by rw [upd_ne np.symm]; exact d0
    generalize upd H1 p (.frz o (.dK (zK (pc.map (·.1)) ls))) = H2 at *
    have kl : (zK (pc.map (·.1)) ls).length = pc.length := by rw [zK_len (by rw [List.length_map]; exact hll), List.length_map]
    refine ⟨_, rfl, p, o, _, rfl, hfa, for_items (a := p) (o := o) (kvs := zK (pc.map (·.1)) ls) (fun i σ H3 => H3 p = some (.frz o (.dK (zK (pc.map (·.1)) ls))) ∧ Same H (upd H3 p (.dK (zK (pc.map (·.1)) ls))) ∧ ∃ u2 u3, σ = [some (.ref p), some (.ref fr), u2, u3] ∧ PcD (cut H H3) fr (pc.take i))
      ⟨hfa, hb0, _, _, rfl, [], cut_at hfr d1, rfl, fun j l t h => nomatch h⟩ (fun i σ H3 _ p => p.1) ?_ ?_⟩
    · rintro i k v p1 σ H3 hk ⟨h3p, sm, u2, u3, rfl, ls', f1, f2, f3⟩ hp1
      have hi : i < pc.length := by
        have := (List.getElem?_eq_some_iff.mp hk).1
        omega
      obtain ⟨z, l, hz, hl, rfl, rfl⟩ := zK_get hk
      have hil : i < ls.length := by omega
      rw [List.getElem?_map, List.getElem?_eq_getElem hi] at hz
      cases hz
      rw [List.getElem?_eq_getElem hil] at hl
      cases hl
      have hR := hls i ls[i] pc[i] (List.getElem?_eq_getElem hil) (List.getElem?_eq_getElem hi)
      obtain ⟨nl, nr⟩ := PcAt.apart ok hp hll (List.getElem?_eq_getElem hil) (List.getElem?_eq_getElem hi) hR
      obtain ⟨rs, a1, a2, a3⟩ := id hR
      have okt := ok.rl pc[i] (List.getElem_mem hi)
      have T1 := Same.upd (o := .tup [kV (.inr pc[i].1), .ref ls[i]]) hp1
      refine ⟨p1, _, rfl, SqT.of upd_same, rfl, _, _, rfl, _, _, rfl, rfl, ?_⟩
      generalize upd H3 p1 (.tup [kV (.inr pc[i].1), .ref ls[i]]) = H4 at T1
      have back : ∀ {b : Addr} {ob : HO}, b ≠ p → H b = some ob → H4 b = some ob := fun {b ob} nb e => by
        have := sm b ob e
        rw [upd_ne nb] at this
        exact T1 _ _ this
      have l4 := back nl a1
      refine ⟨_, rfl, ls[i], rfl, ⟨_, SqL.of l4⟩, fun D hD => ?_⟩
      have nH : ∀ {b : Addr}, H4 b = none → H b = none := fun {b} e => by
        by_cases nb : b = p
        · rw [nb, T1 _ _ h3p] at e; cases e
        · cases e2 : H b with
          | none => rfl
          | some ob => rw [back nb e2] at e; cases e
      refine compW_idx rs.length (fun i' ys σ' Hc => (∃ t, σ' = [t]) ∧ Same H4 Hc ∧ ∃ qs : List Addr, ys = qs.map V.ref ∧ qs.Nodup ∧ ∀ (j : Nat) (r : Addr) (row : Rw), qs[j]? = some r → pc[i].2[j]? = some row → H r = none ∧ r ≠ D ∧ r ≠ fr ∧ Hc r = some (.dK (rK row))) (by rw [sizeLine_eq]; omega) ⟨⟨none, rfl⟩, Same.upd hD, [], rfl, List.nodup_nil, fun j r row h => nomatch h⟩ upd_same ?_ ?_
      · rintro i' σ' Hc ys hi' ⟨⟨u, rfl⟩, sc', qs, rfl, qnd, hqs⟩ hyl hD'
        rw [List.length_map] at hyl
        have hrow : i' < pc[i].2.length := by omega
        refine ⟨⟨_, V.ref rs[i'], SqL.of (sc' _ _ l4), by rw [List.getElem?_map, List.getElem?_eq_getElem hi']; rfl⟩, ?_⟩
        rintro x H' ⟨rfl, hx'⟩
        have ex := hx' _ (SqL.of (sc' _ _ l4))
        rw [List.getElem?_map, List.getElem?_eq_getElem hi'] at ex
        cases ex
        have r0 := a3 i' rs[i'] pc[i].2[i'] (List.getElem?_eq_getElem hi') (List.getElem?_eq_getElem hrow)
        have r4 := back (nr _ _ (List.getElem_mem hrow) r0) r0
        refine ⟨_, rfl, rs[i'], _, rfl, .inl (sc' _ _ r4), fun r' hr' => ?_⟩
        have T2 := Same.upd (o := .dK (rK pc[i].2[i'])) hr'
        have rD : r' ≠ D := fun e => by rw [e, hD'] at hr'; cases hr'
        refine ⟨T2 _ _ hD', ⟨_, rfl⟩, (sc'.trans T2).put hD, qs ++ [r'], by rw [List.map_append]; rfl, (by
          rw [List.nodup_append]
          refine ⟨qnd, List.nodup_cons.mpr ⟨List.not_mem_nil, List.nodup_nil⟩, fun x hx y hy e => ?_⟩
          rw [List.mem_singleton.mp hy] at e
          obtain ⟨j, hj⟩ := List.getElem?_of_mem hx
          have hjl : j < pc[i].2.length := by have := (List.getElem?_eq_some_iff.mp hj).1; omega
          have := (hqs j x _ hj (List.getElem?_eq_getElem hjl)).2.2.2
          rw [e, hr'] at this
          cases this), fun j r row h1 h2 => ?_⟩
        by_cases hj : j < qs.length
        · rw [List.getElem?_append_left hj] at h1
          obtain ⟨e1, e2, e4, e3⟩ := hqs j r row h1 h2
          exact ⟨e1, e2, e4, by rw [upd_ne e2]; exact T2 _ _ e3⟩
        · have hj' : j = qs.length := by
            have := (List.getElem?_eq_some_iff.mp h1).1
            rw [List.length_append] at this
            simp at this
            omega
          subst hj'
          rw [List.getElem?_append_right (Nat.le_refl _), Nat.sub_self] at h1
          cases h1
          rw [hyl, List.getElem?_eq_getElem hrow] at h2
          cases h2
          exact ⟨nH (none_of sc' hr'), rD, (fun e => by rw [e, (T1.trans sc') _ _ (cut_sub _ _ f1)] at hr'; cases hr'), by rw [upd_ne rD]; exact upd_same⟩
      · rintro σ' Hc ys ⟨_, sc', qs, rfl, qnd, hqs⟩ hDn hyl
        rw [List.length_map] at hyl
        have f1c := (T1.trans sc') _ _ (cut_sub _ _ f1)
        have lt' : ls'.length = i := by rw [f2, List.length_take]; omega
        refine ⟨⟨_, SqL.of (sc' _ _ l4), by rw [List.length_map]; exact Nat.le_refl _⟩, _, rfl, _, rfl, fr, _, rfl, .inl ⟨_, .inr pc[i].1, f1c, rfl, (by rw [zK_len (by rw [List.length_map]; exact f2), List.length_map, List.length_take, sizeLine_eq]; have := ok.le; omega), rfl⟩, ?_⟩
        have hnew : pc[i].1 ∉ (pc.take i).map (·.1) := fun hm => by
          have nd := ok.nd
          have e : pc.map (·.1) = (pc.take i).map (·.1) ++ (pc.drop i).map (·.1) := by rw [← List.map_append, List.take_append_drop]
          rw [e, List.nodup_append] at nd
          refine nd.2.2 _ hm pc[i].1 ?_ rfl
          rw [List.drop_eq_getElem_cons hi, List.map_cons]
          exact List.mem_cons_self
        rw [putK_new _ (zK_new hnew), ← zK_snoc (by rw [List.length_map]; exact f2)]
        have nDf : D ≠ fr := fun e => by rw [e, T1 _ _ (cut_sub _ _ f1)] at hD; cases hD
        refine ⟨by rw [upd_ne np]; exact (T1.trans sc') _ _ h3p, fun b ob hb => ?_, _, _, rfl, ls' ++ [D], cut_at hfr ?_, ?_, fun j l t h1 h2 => ?_⟩
        · by_cases e : b = p
          · subst e
            rw [upd_same]
            rw [hp] at hb
            exact hb
          · rw [upd_ne e, upd_ne (ne_of_none hb hfr)]
            exact sc' _ _ (back e hb)
        · rw [upd_same, List.take_succ, List.getElem?_eq_getElem hi, List.map_append]
          rfl
        · rw [List.length_append, lt', List.length_take]
          show i + 1 = _
          omega
        · by_cases hj : j < i
          · rw [List.getElem?_append_left (by omega)] at h1
            have h2' : (pc.take i)[j]? = some t := by
              rw [List.getElem?_take] at h2 ⊢
              rw [if_pos (by omega)] at h2 ⊢
              exact h2
            obtain ⟨qs', b1, b2, bn, b3⟩ := f3 j l t h1 h2'
            have g := cut_up (H0 := H) (T1.trans sc')
            have nlf : l ≠ fr := fun e => by rw [e, f1] at b1; cases b1
            refine ⟨qs', ?_, b2, bn, fun j' r row c1 c2 => ?_⟩
            · rw [cut_put hfr, upd_ne nlf]
              exact g _ _ b1
            · have b4 := b3 j' r row c1 c2
              have htp : t ∈ pc := by
                rw [List.getElem?_take, if_pos hj] at h2'
                exact List.mem_of_getElem? h2'
              have nrf : r ≠ fr := fun e => by
                rw [e, f1] at b4
                injection b4 with e1
                injection e1 with e2
                have hm : ((.inr t.1 : Key), V.ref l) ∈ zK ((pc.take i).map (·.1)) ls' := zK_mem (j := j) (by rw [List.getElem?_map, h2']; rfl) h1
                rw [e2] at hm
                exact rK_flat (ok.rw_ t htp row (List.mem_of_getElem? c2)) (fun xs h => by rw [cut_new b1] at h; cases h) hm
              rw [cut_put hfr, upd_ne nrf]
              exact g _ _ b4
          · have hj' : j = i := by
              have := (List.getElem?_eq_some_iff.mp h1).1
              rw [List.length_append, lt'] at this
              simp at this
              omega
            subst hj'
            rw [List.getElem?_append_right (by omega), lt', Nat.sub_self] at h1
            cases h1
            rw [List.getElem?_take, if_pos (by omega), List.getElem?_eq_getElem hi] at h2
            cases h2
            refine ⟨qs, cut_at (nH hD) (by rw [upd_ne nDf]; exact hDn), by omega, qnd, fun j' r row c1 c2 => ?_⟩
            obtain ⟨e1, e2, nrf, e3⟩ := hqs j' r row c1 c2
            exact cut_at e1 (by rw [upd_ne nrf]; exact e3)
    · rintro σ H3 ⟨h3p, sm, u2, u3, rfl, hfin⟩
      rw [kl, List.take_length] at hfin
      exact ⟨h3p, _, rfl, q fr _ sm (hfin.same (cut_upd hp))⟩
end
end My

namespace My
open PySem L2 PyProof.Rows
/-- one by one -/
inductive F2 {α β : Type} (R : α → β → Prop) : List α → List β → Prop
  | nil : F2 R [] []
  | cons {a : α} {b : β} {as : List α} {bs : List β} (h : R a b) (t : F2 R as bs) : F2 R (a :: as) (b :: bs)
theorem F2.imp {α β : Type} {R S : α → β → Prop} {as : List α} {bs : List β} (h : F2 R as bs) (i : ∀ a b, R a b → S a b) : F2 S as bs := by
  induction h with
  | nil => exact .nil
  | cons h _ ih => exact .cons (i _ _ h) ih
theorem F2.app {α β : Type} {R : α → β → Prop} {as cs : List α} {bs ds : List β} (h : F2 R as bs) (g : F2 R cs ds) : F2 R (as ++ cs) (bs ++ ds) := by
  induction h with
  | nil => exact g
  | cons h _ ih => exact .cons h ih
theorem F2.map {α β γ δ : Type} {R : α → β → Prop} {S : γ → δ → Prop} {f : α → γ} {g : β → δ} {as : List α} {bs : List β} (h : F2 R as bs) (i : ∀ a b, R a b → S (f a) (g b)) : F2 S (as.map f) (bs.map g) := by
  induction h with
  | nil => exact .nil
  | cons h _ ih => exact .cons (i _ _ h) ih
theorem F2.flat {α β γ δ : Type} {R : α → β → Prop} {S : γ → δ → Prop} {f : α → List γ} {g : β → List δ} {as : List α} {bs : List β} (h : F2 R as bs) (i : ∀ a b, R a b → F2 S (f a) (g b)) : F2 S (as.flatMap f) (bs.flatMap g) := by
  induction h with
  | nil => exact .nil
  | cons h _ ih => rw [List.flatMap_cons, List.flatMap_cons]; exact (i _ _ h).app ih
theorem F2.len {α β : Type} {R : α → β → Prop} {as : List α} {bs : List β} (h : F2 R as bs) : as.length = bs.length := by
  induction h with
  | nil => rfl
  | cons _ _ ih => rw [List.length_cons, List.length_cons, ih]
theorem F2.get {α β : Type} {R : α → β → Prop} {as : List α} {bs : List β} (h : F2 R as bs) : ∀ (j : Nat) (a : α) (b : β), as[j]? = some a → bs[j]? = some b → R a b := by
  induction h with
  | nil => intro j a b h; cases h
  | cons h _ ih =>
    intro j a b h1 h2
    cases j with
    | zero => cases h1; cases h2; exact h
    | succ j => exact ih j a b h1 h2
theorem F2.of {α β : Type} {R : α → β → Prop} : ∀ {as : List α} {bs : List β}, as.length = bs.length → (∀ (j : Nat) (a : α) (b : β), as[j]? = some a → bs[j]? = some b → R a b) → F2 R as bs
  | [], [], _, _ => .nil
  | a :: as, b :: bs, hl, h => .cons (h 0 a b rfl rfl) (F2.of (by simpa using hl) fun j x y h1 h2 => h (j + 1) x y h1 h2)
/-! ### all pieces, as contents -/
def choicesG {α : Type} (so : Str) (ms : List α) : List (List α) := if so ∈ lone then ms.map (fun a => [a]) else (if so = "many" then [[]] else []) ++ ms.map (fun a => [a]) ++ ms.flatMap fun a => ms.map fun b => [a, b]
theorem choices_map {α β : Type} (so : Str) (f : α → β) (ms : List α) : choicesG so (ms.map f) = (choicesG so ms).map (List.map f) := by
  unfold choicesG
  by_cases h : so ∈ lone
  · rw [if_pos h, if_pos h, List.map_map, List.map_map]
    rfl
  · rw [if_neg h, if_neg h, List.map_append, List.map_append]
    congr 1
    · congr 1
      · split <;> rfl
      · rw [List.map_map, List.map_map]
        rfl
    · rw [List.flatMap_map, List.map_flatMap]
      congr 1
      funext a
      rw [List.map_map, List.map_map]
      rfl
theorem choices_F2 {α β : Type} {R : α → β → Prop} {so : Str} {as : List α} {bs : List β} (h : F2 R as bs) : F2 (F2 R) (choicesG so as) (choicesG so bs) := by
  have one : F2 (F2 R) (as.map fun a => [a]) (bs.map fun b => [b]) := h.map fun a b r => .cons r .nil
  unfold choicesG
  split
  · exact one
  · refine F2.app (F2.app ?_ one) (h.flat fun a b r => h.map fun c d r' => .cons r (.cons r' .nil))
    split
    · exact .cons .nil .nil
    · exact .nil
def smallW (wl : Str → Str → List V) (t : Str) (cols : List Str) : List Rw := cols.foldl (fun ks c => ks.flatMap fun r => (wl t c).map fun v => r ++ [(c, v)]) [[]]
theorem smallW_K (wl : Str → Str → List V) (t : Str) (cols : List Str) : smallR wl t cols = (smallW wl t cols).map rK := by
  have : ∀ (cols : List Str) (ks : List Rw), cols.foldl (fun ks c => grow ks c (wl t c)) (ks.map rK) = (cols.foldl (fun ks c => ks.flatMap fun r => (wl t c).map fun v => r ++ [(c, v)]) ks).map rK := by
    intro cols
    induction cols with
    | nil => intro ks; rfl
    | cons c r ih =>
      intro ks
      rw [List.foldl_cons, List.foldl_cons, ← ih]
      congr 1
      unfold grow
      rw [List.flatMap_map, List.map_flatMap]
      congr 1
      funext k
      unfold grow1
      rw [List.map_map]
      refine List.map_congr_left fun v _ => ?_
      show rK k ++ [(.inr c, v)] = rK (k ++ [(c, v)])
      unfold rK
      rw [List.map_append]
      rfl
  exact this cols [[]]
def growP (pcs : List Pc) (n : Str) (ch : List (List Rw)) : List Pc := pcs.flatMap fun pc => ch.map fun rows => pc ++ [(n, rows)]
def piecesC (wl : Str → Str → List V) (l : List Ts) : List Pc := l.foldl (fun pcs T => growP pcs T.name (choicesG T.sort (smallW wl T.name T.cols))) [[]]
end My

namespace My
open PySem L2 PyProof.Rows
seal L2.PE L2.PT L2.PW L2.PS L2.PSs L2.PA L2.PI L2.PG L2.PGs L2.OpR L2.UnR L2.CallR L2.IxR L2.SlR L2.MtR L2.PIf L2.PO L2.MtM L2.PC
theorem F2.comp {α β γ : Type} {R : α → β → Prop} {S : β → γ → Prop} {as : List α} {bs : List β} {cs : List γ} (h : F2 R as bs) (g : F2 S bs cs) : F2 (fun a c => ∃ b, R a b ∧ S b c) as cs := by
  induction h generalizing cs with
  | nil => cases g; exact .nil
  | cons h _ ih => cases g with | cons k t => exact .cons ⟨_, h, k⟩ (ih t)
theorem RowsAt.of {H : Hp} {l : Addr} {rs : List Addr} {rows : List Rw} (h1 : H l = some (.lst (rs.map V.ref))) (h2 : F2 (fun r row => H r = some (.dK (rK row))) rs rows) : RowsAt H l rows := ⟨rs, h1, h2.len, fun j r row a b => h2.get j r row a b⟩
/-- the lists that a piece's dict names -/
def PLs (H : Hp) (names : List Str) (ls : List Addr) (pc : Pc) : Prop := pc.map (·.1) = names ∧ F2 (fun l (t : Str × List Rw) => RowsAt H l t.2) ls pc
theorem PLs.same {H H' : Hp} {names : List Str} {ls : List Addr} {pc : Pc} (h : PLs H names ls pc) (s : Same H H') : PLs H' names ls pc := ⟨h.1, h.2.imp fun _ _ r => r.same s⟩
theorem PLs.len {H : Hp} {names : List Str} {ls : List Addr} {pc : Pc} (h : PLs H names ls pc) : ls.length = names.length := by rw [h.2.len, ← h.1, List.length_map]
theorem PLs.snoc {H : Hp} {names : List Str} {ls : List Addr} {pc : Pc} {n : Str} {c : Addr} {rows : List Rw} (h : PLs H names ls pc) (hc : RowsAt H c rows) : PLs H (names ++ [n]) (ls ++ [c]) (pc ++ [(n, rows)]) := ⟨by rw [List.map_append, h.1]; rfl, h.2.app (.cons hc .nil)⟩
theorem PLs.pc {H : Hp} {names : List Str} {ls : List Addr} {pc : Pc} {p : Addr} (h : PLs H names ls pc) (hp : H p = some (.dK (zK names ls))) : PcAt H p pc := ⟨ls, by rw [h.1]; exact hp, h.2.len, fun j l t a b => h.2.get j l t a b⟩
theorem grow_zK {names : List Str} {n : Str} {cs : List Addr} : ∀ {LL : List (List Addr)}, (∀ ls ∈ LL, ls.length = names.length) → grow (LL.map (zK names)) n (cs.map V.ref) = (LL.flatMap fun ls => cs.map fun c => ls ++ [c]).map (zK (names ++ [n]))
  | [], _ => rfl
  | ls :: r, h => by
    have ih := grow_zK (n := n) (cs := cs) (LL := r) fun x hx => h x (List.mem_cons_of_mem _ hx)
    unfold grow at ih ⊢
    rw [List.map_cons, List.flatMap_cons, List.flatMap_cons, List.map_append, ih]
    congr 1
    unfold grow1
    rw [List.map_map, List.map_map]
    refine List.map_congr_left fun c _ => ?_
    exact (zK_snoc (h ls List.mem_cons_self)).symm
theorem growP_F2 {H : Hp} {names : List Str} {n : Str} {LL : List (List Addr)} {pcs : List Pc} {cs : List Addr} {ch : List (List Rw)} (h : F2 (PLs H names) LL pcs) (g : F2 (RowsAt H) cs ch) : F2 (PLs H (names ++ [n])) (LL.flatMap fun ls => cs.map fun c => ls ++ [c]) (growP pcs n ch) := by
  unfold growP
  exact h.flat fun ls pc r => g.map fun c rows r' => r.snoc r'
theorem choices_at {H : Hp} {so : Str} {cs ms : List Addr} {ws : List Rw} (h1 : LsAt H cs (choicesC so (ms.map V.ref))) (h2 : DsAt H ms (ws.map rK)) : F2 (RowsAt H) cs (choicesG so ws) := by
  have e : choicesC so (ms.map V.ref) = (choicesG so ms).map (List.map V.ref) := by rw [← choices_map]; rfl
  rw [e] at h1
  have g1 : F2 (fun c (as : List Addr) => H c = some (.lst (as.map V.ref))) cs (choicesG so ms) := F2.of (by rw [h1.1, List.length_map]) fun j c as a b => h1.2 j c _ a (by rw [List.getElem?_map, b]; rfl)
  have g2 : F2 (fun m row => H m = some (.dK (rK row))) ms ws := F2.of (by rw [h2.1, List.length_map]) fun j m row a b => h2.2 j m _ a (by rw [List.getElem?_map, b]; rfl)
  exact (g1.comp (choices_F2 g2)).imp fun c rows ⟨as, r1, r2⟩ => RowsAt.of r1 r2
end My

namespace My
open PySem L2 PyProof.Rows
seal L2.PE L2.PT L2.PW L2.PS L2.PSs L2.PA L2.PI L2.PG L2.PGs L2.OpR L2.UnR L2.CallR L2.IxR L2.SlR L2.MtR L2.PIf L2.PO L2.MtM L2.PC
structure WOk2 (H : Hp) (l : List Ts) (W : List ((Str × Str) × Addr)) (wl : Str → Str → List V) : Prop where
  w : WOk l W wl
  nd : (l.map (·.name)).Nodup
  cn : ∀ T ∈ l, T.cols.Nodup
  mp : ∀ i, manyP wl (l.take i) ≤ 1000
  fl : ∀ t c, ∀ v ∈ wl t c, flt v = true ∨ ∃ a xs, v = .ref a ∧ H a = some (.tup xs)
theorem cut_dn {H0 H1 H : Hp} (s : Same H0 H1) : Same (cut H1 H) (cut H0 H) := fun b o e => cut_at (none_of s (cut_new e)) (cut_sub _ _ e)
theorem choices_len {α : Type} (so : Str) (ms : List α) : (choicesG so ms).length = manyC so ms.length := by
  have e : (ms.flatMap fun a => ms.map fun b => [a, b]).length = ms.length * ms.length := by
    have : ∀ r : List α, (r.flatMap fun a => ms.map fun b => [a, b]).length = r.length * ms.length := fun r => by
      induction r with
      | nil => simp
      | cons a r ih =>
        rw [List.flatMap_cons, List.length_append, ih, List.length_cons, Nat.succ_mul, List.length_map]
        omega
    exact this ms
  unfold choicesG manyC
  split
  · rw [List.length_map]
  · rw [List.length_append, List.length_append, List.length_map, e]
    split
    · show 1 + ms.length + _ = _; omega
    · show 0 + ms.length + _ = _; omega
theorem smallW_len (wl : Str → Str → List V) (t : Str) (cols : List Str) : (smallW wl t cols).length = manyR wl t cols := by
  rw [← smallR_len, smallW_K, List.length_map]
theorem growP_len (pcs : List Pc) (n : Str) (ch : List (List Rw)) : (growP pcs n ch).length = pcs.length * ch.length := by
  unfold growP
  induction pcs with
  | nil => simp
  | cons a r ih =>
    rw [List.flatMap_cons, List.length_append, ih, List.length_cons, Nat.succ_mul, List.length_map]
    omega
theorem piecesC_snoc {wl : Str → Str → List V} {l : List Ts} {T : Ts} : piecesC wl (l ++ [T]) = growP (piecesC wl l) T.name (choicesG T.sort (smallW wl T.name T.cols)) := by
  unfold piecesC
  rw [List.foldl_append]
  rfl
theorem piecesC_len (wl : Str → Str → List V) (l : List Ts) : (piecesC wl l).length = manyP wl l := by
  unfold piecesC manyP
  have : ∀ (l : List Ts) (pcs : List Pc), (l.foldl (fun pcs T => growP pcs T.name (choicesG T.sort (smallW wl T.name T.cols))) pcs).length = l.foldl (fun n T => n * manyC T.sort (manyR wl T.name T.cols)) pcs.length := by
    intro l
    induction l with
    | nil => intro pcs; rfl
    | cons T r ih =>
      intro pcs
      rw [List.foldl_cons, List.foldl_cons, ih, growP_len, choices_len, smallW_len]
  exact this l [[]]
theorem F2.mem {α β : Type} {R : α → β → Prop} {as : List α} {bs : List β} (h : F2 R as bs) {a : α} (ha : a ∈ as) : ∃ b ∈ bs, R a b := by
  induction h with
  | nil => cases ha
  | cons h _ ih =>
    rcases List.mem_cons.mp ha with rfl | ha
    · exact ⟨_, List.mem_cons_self, h⟩
    · obtain ⟨b, hb, r⟩ := ih ha
      exact ⟨b, List.mem_cons_of_mem _ hb, r⟩
section
variable {P : Program} {w : World} {K : PySem.W.Frag} {mg : Str → Option Value} {base : Heap}
/-- the loop of pieces_of, one table more -/
theorem piece_step {H H1 H2 H3 H4 : Hp} {names : List Str} {n so : Str} {LL : List (List Addr)} {pcs : List Pc} {ms cs ms' : List Addr} {ws : List Rw} (s1 : Same H H1) (s2 : Same H1 H2) (s3 : Same H2 H3) (s4 : Same H3 H4) (h : F2 (PLs (cut H H1) names) LL pcs)
    (hm : DsAt (cut H1 H2) ms (ws.map rK)) (hc : LsAt (cut H2 H3) cs (choicesC so (ms.map V.ref))) (hg : DsAt (cut H3 H4) ms' (grow (LL.map (zK names)) n (cs.map V.ref))) :
    ∃ LL', DsAt (cut H H4) ms' (LL'.map (zK (names ++ [n]))) ∧ F2 (PLs (cut H H4) (names ++ [n])) LL' (growP pcs n (choicesG so ws)) := by
  have S3 := s1.trans (s2.trans s3)
  have hl : ∀ ls ∈ LL, ls.length = names.length := fun ls hls => by
    obtain ⟨pc, _, r⟩ := h.mem hls
    exact r.len
  rw [grow_zK hl] at hg
  refine ⟨_, hg.same (cut_dn S3), growP_F2 (h.imp fun _ _ r => r.same (cut_up (s2.trans (s3.trans s4)))) (choices_at (hc.same ?_) (hm.same ?_))⟩
  · exact fun b o e => cut_dn (s1.trans s2) _ _ (cut_up s4 _ _ e)
  · exact fun b o e => cut_dn s1 _ _ (cut_up (s3.trans s4) _ _ e)
end
end My

namespace My
open PySem L2 PyProof.Rows
seal L2.PE L2.PT L2.PW L2.PS L2.PSs L2.PA L2.PI L2.PG L2.PGs L2.OpR L2.UnR L2.CallR L2.IxR L2.SlR L2.MtR L2.PIf L2.PO L2.MtM L2.PC
/-- the part of a heap that bears a number -/
def reg (g : Addr → Nat) (k : Nat) (H : Hp) : Hp := fun b => if g b = k then H b else none
theorem reg_sub {g : Addr → Nat} {k : Nat} {H : Hp} : Same (reg g k H) H := fun b o e => by
  unfold reg at e
  split at e
  · exact e
  · cases e
theorem reg_num {g : Addr → Nat} {k : Nat} {H : Hp} {b : Addr} {o : HO} (e : reg g k H b = some o) : g b = k := by
  unfold reg at e
  split at e
  · assumption
  · cases e
theorem reg_at {g : Addr → Nat} {k : Nat} {H : Hp} {b : Addr} {o : HO} (h : g b = k) (e : H b = some o) : reg g k H b = some o := by
  unfold reg
  rw [if_pos h]
  exact e
def PcsD (G : Hp) (ps : List Addr) (pcs : List Pc) : Prop := ps.length = pcs.length ∧ ∃ g : Addr → Nat, ∀ (j : Nat) (p : Addr) (pc : Pc), ps[j]? = some p → pcs[j]? = some pc → PcD (reg g j G) p pc
def spPieces : Sp := fun vs H Q _ => ∃ (f d : Addr) (l : List Ts) (W : List ((Str × Str) × Addr)) (wl : Str → Str → List V), vs = [.ref f, .ref d] ∧ FmS H f l ∧ VlAt H d W wl ∧ WOk2 H l W wl ∧ manyP wl l ≤ 300 ∧ ∀ lp ps H', Same H H' → cut H H' lp = some (.lst (ps.map V.ref)) → PcsD (cut (upd H lp (.lst [])) H') ps (piecesC wl l) → Q (.ref lp) H'
theorem small_fl {H : Hp} {wl : Str → Str → List V} (fl : ∀ t c, ∀ v ∈ wl t c, flt v = true ∨ ∃ a xs, v = .ref a ∧ H a = some (.tup xs)) (t : Str) (cols : List Str) (nd : cols.Nodup) : ∀ row ∈ smallW wl t cols, RwOk H row := by
  intro row hrow
  refine ⟨?_, ?_⟩
  · have hk := smallR_keys (wl := wl) (t := t) cols (rK row) (by rw [smallW_K]; exact List.mem_map.mpr ⟨row, hrow, rfl⟩)
    unfold rK at hk
    rw [List.map_map] at hk
    have e : row.map (·.1) = cols := by
      have := congrArg (List.map (fun k : Key => match k with | .inr z => z | .inl _ => "")) hk
      rw [List.map_map, List.map_map] at this
      have e2 : cols.map ((fun k : Key => match k with | .inr z => z | .inl _ => "") ∘ Sum.inr) = cols := List.map_id' cols
      rw [e2] at this
      exact this
    rw [e]
    exact nd
  · have : ∀ (cols : List Str) (ks : List Rw), (∀ k ∈ ks, ∀ c ∈ k, flt c.2 = true ∨ ∃ a xs, c.2 = .ref a ∧ H a = some (.tup xs)) → ∀ r ∈ cols.foldl (fun ks c => ks.flatMap fun r => (wl t c).map fun v => r ++ [(c, v)]) ks, ∀ c ∈ r, flt c.2 = true ∨ ∃ a xs, c.2 = .ref a ∧ H a = some (.tup xs) := by
      intro cols
      induction cols with
      | nil => intro ks h; exact h
      | cons c r ih =>
        intro ks h
        refine ih _ fun k hk => ?_
        obtain ⟨k0, hk0, hk⟩ := List.mem_flatMap.mp hk
        obtain ⟨v, hv, rfl⟩ := List.mem_map.mp hk
        intro x hx
        rcases List.mem_append.mp hx with hx | hx
        · exact h k0 hk0 x hx
        · rw [List.mem_singleton.mp hx]
          exact fl t c v hv
    exact this cols [[]] (fun k hk c hc => by rw [List.mem_singleton.mp hk] at hc; cases hc) row hrow
theorem choices_sub {α : Type} {so : Str} {ms : List α} {r : List α} (h : r ∈ choicesG so ms) : r.length ≤ 2 ∧ ∀ x ∈ r, x ∈ ms := by
  have one : ∀ r ∈ ms.map (fun a => [a]), r.length ≤ 2 ∧ ∀ x ∈ r, x ∈ ms := fun r hr => by
    obtain ⟨a, ha, rfl⟩ := List.mem_map.mp hr
    exact ⟨by show 1 ≤ 2; decide, fun x hx => by rw [List.mem_singleton.mp hx]; exact ha⟩
  unfold choicesG at h
  split at h
  · exact one r h
  · rcases List.mem_append.mp h with h | h
    · rcases List.mem_append.mp h with h | h
      · split at h
        · rw [List.mem_singleton.mp h]
          exact ⟨Nat.zero_le _, fun x hx => nomatch hx⟩
        · cases h
      · exact one r h
    · obtain ⟨a, ha, h⟩ := List.mem_flatMap.mp h
      obtain ⟨b, hb, rfl⟩ := List.mem_map.mp h
      refine ⟨by show 2 ≤ 2; decide, fun x hx => ?_⟩
      rcases List.mem_cons.mp hx with rfl | hx
      · exact ha
      · rw [List.mem_singleton.mp hx]; exact hb
theorem pieces_ok {H : Hp} {wl : Str → Str → List V} {l : List Ts} (fl : ∀ t c, ∀ v ∈ wl t c, flt v = true ∨ ∃ a xs, v = .ref a ∧ H a = some (.tup xs)) (cn : ∀ T ∈ l, T.cols.Nodup) : ∀ pc ∈ piecesC wl l, pc.map (·.1) = l.map (·.name) ∧ ∀ t ∈ pc, t.2.length ≤ 2 ∧ ∀ row ∈ t.2, RwOk H row := by
  have : ∀ (l : List Ts) (pcs : List Pc) (pre : List Str), (∀ T ∈ l, T.cols.Nodup) → (∀ pc ∈ pcs, pc.map (·.1) = pre ∧ ∀ t ∈ pc, t.2.length ≤ 2 ∧ ∀ row ∈ t.2, RwOk H row) → ∀ pc ∈ l.foldl (fun pcs T => growP pcs T.name (choicesG T.sort (smallW wl T.name T.cols))) pcs, pc.map (·.1) = pre ++ l.map (·.name) ∧ ∀ t ∈ pc, t.2.length ≤ 2 ∧ ∀ row ∈ t.2, RwOk H row := by
    intro l
    induction l with
    | nil => intro pcs pre _ h pc hp; rw [List.map_nil, List.append_nil]; exact h pc hp
    | cons T r ih =>
      intro pcs pre hcn h pc hp
      have := ih _ (pre ++ [T.name]) (fun U hU => hcn U (List.mem_cons_of_mem _ hU)) (fun pc hp => ?_) pc hp
      · rw [List.map_cons, List.append_cons]; exact this
      · unfold growP at hp
        obtain ⟨p0, hp0, hp⟩ := List.mem_flatMap.mp hp
        obtain ⟨rows, hr, rfl⟩ := List.mem_map.mp hp
        obtain ⟨g1, g2⟩ := h p0 hp0
        refine ⟨by rw [List.map_append, g1]; rfl, fun t ht => ?_⟩
        rcases List.mem_append.mp ht with ht | ht
        · exact g2 t ht
        · rw [List.mem_singleton.mp ht]
          obtain ⟨e1, e2⟩ := choices_sub hr
          exact ⟨e1, fun row hrow => small_fl fl T.name T.cols (hcn T List.mem_cons_self) row (e2 row hrow)⟩
  intro pc hp
  have := this l [[]] [] cn (fun pc hp => by rw [List.mem_singleton.mp hp]; exact ⟨rfl, fun t ht => nomatch ht⟩) pc hp
  rw [List.nil_append] at this
  exact this
end My

namespace My
open PySem L2 PyProof.Rows
seal L2.PE L2.PT L2.PW L2.PS L2.PSs L2.PA L2.PI L2.PG L2.PGs L2.OpR L2.UnR L2.CallR L2.IxR L2.SlR L2.MtR L2.PIf L2.PO L2.MtM L2.PC
section
variable {P : Program} {w : World} {K : PySem.W.Frag} {mg : Str → Option Value} {base : Heap}
theorem ok_pieces {f fM fR fN fS fC fP fG fK sA : Addr} {fd fdM fdR fdN fdS fdC fdP fdG fdK : FuncData} {tk : Tok} (F : Fun K "pieces_of" "pieces_of" (top 9) f fd) (B : Bl mg) (LN : Ln K mg sA) (mM : mg "MOST_PIECES" = some (.int 300 tk)) (DM : Df K mg "many_pieces" (top 10) fM fdM) (DR : Df K mg "many_rows" (top 11) fR fdR) (DN : Df K mg "many_choices" (top 12) fN fdN)
    (DS : Df K mg "small_rows" (top 13) fS fdS) (DC : Df K mg "choices_of" (top 14) fC fdC) (DP : Df K mg "pairs_of" (top 15) fP fdP) (DG : Df K mg "grown" (top 16) fG fdG) (DK : Df K mg "copied" (top 6) fK fdK) : FnOk P w K mg base CX0 3 f fd ["form", "values"] spPieces := by
  have sc : FnScope ["form", "values", "pieces", "table", "sort", "columns"] ["form", "values"] (defScope (top 9)) := ⟨rfl, rfl, rfl, by decide +kernel, rfl, by decide +kernel, by decide +kernel⟩
  have GM : FnOk P w K mg base CX0 2 fM fdM ["form", "values"] spManyP := ok_manyP DM.fn B LN DR DN
  have bM := DM.fn.binds (ps := ["form", "values"]) fun _ _ _ _ _ _ us hl => by obtain ⟨v0, v1, rfl⟩ := L2.ln2 hl; rfl
  have GS : FnOk P w K mg base CX0 2 fS fdS ["table", "columns", "values"] (spSmallR K) := ok_smallR DS.fn B DG
  have bS := DS.fn.binds (ps := ["table", "columns", "values"]) fun _ _ _ _ _ _ us hl => by obtain ⟨v0, v1, v2, rfl⟩ := L2.ln3 hl; rfl
  have GC : FnOk P w K mg base CX0 2 fC fdC ["sort", "rows"] (spChoices K) := ok_choices DC.fn LN DP
  have bC := DC.fn.binds (ps := ["sort", "rows"]) fun _ _ _ _ _ _ us hl => by obtain ⟨v0, v1, rfl⟩ := L2.ln2 hl; rfl
  have GG : FnOk P w K mg base CX0 1 fG fdG ["dicts", "name", "choices"] (spGrown K) := ok_grown DG.fn B
  have bG := DG.fn.binds (ps := ["dicts", "name", "choices"]) fun _ _ _ _ _ _ us hl => by obtain ⟨v0, v1, v2, rfl⟩ := L2.ln3 hl; rfl
  have GK : FnOk P w K mg base CX0 1 fK fdK ["piece"] spCopied := ok_copied DK.fn B
  have bK := DK.fn.binds (ps := ["piece"]) fun _ _ _ _ _ _ us hl => by obtain ⟨v0, rfl⟩ := L2.ln1 hl; rfl
  refine F.ok sc (fun vs H Q E h => ?_) (fun cdv A outer s H vs Q E hr h => ?_)
  · obtain ⟨f, d, l, W, wl, rfl, _⟩ := h
    rfl
  · obtain ⟨fo, d, l, W, wl, rfl, hf, hV, ok, h300, q⟩ := h
    have hr1 : Room 1 _ := hr.mono (by decide)
    obtain ⟨sz, tt, es, h1, h2, h3, h4⟩ := id hf
    refine ⟨_, pss_cons (ps_if (pt_cmpR op_gt (pe_call GM hr (by rfl) DM.mg DM.fn.kp bM .nil pass0 (pa_cons (pv 0) (pa_cons (pv 1) pa_nil))) (pe_glob (v := .int 300) (by rfl) mM ⟨tk, rfl⟩) (nomark _)) pss_never pss_nil)
      (pss_cons (ps_set (i := 2) sc.nd rfl (Or.inl rfl) (pe_lst (pa_cons pe_dnewK pa_nil)))
      (pss_cons (ps_for PassesOwn.never rfl (pi_tup (pe_ix ix_tup (pv 0) pe_int (fun _ _ => rfl))) (pg_tup rfl (pgs_cons (pg_name (i := 3) sc.nd rfl (Or.inl rfl)) (pgs_cons (pg_name (i := 4) sc.nd rfl (Or.inl rfl)) (pgs_cons (pg_name (i := 5) sc.nd rfl (Or.inl rfl)) pgs_nil))))
        (pss_one (ps_set (i := 2) sc.nd rfl (Or.inl rfl) (pe_call GG hr1 (by rfl) DG.mg DG.fn.kp bG .nil pass0 (pa_cons (pv 2) (pa_cons (pv 3) (pa_cons (pe_call GC hr (by rfl) DC.mg DC.fn.kp bC .nil pass0 (pa_cons (pv 4) (pa_cons (pe_call GS hr (by rfl) DS.mg DS.fn.kp bS .nil pass0 (pa_cons (pv 3) (pa_cons (pv 5) (pa_cons (pv 1) pa_nil)))) pa_nil))) pa_nil)))))))
      (pss_one (ps_ret (pe_comp (osc := defScope (top 9)) (N0 := ["form", "values", "pieces", "table", "sort", "columns"]) (xs := ["piece"]) (fr := []) ⟨rfl, by decide +kernel, by decide +kernel, by decide +kernel, by decide, by decide +kernel⟩ rfl rfl rfl (pi_list (pv 2))
        (fun s H fp => pg_name (i := 0) (show (["piece"] : List Str).Nodup by decide +kernel) rfl (Or.inl rfl)) (fun s H fp => pif_nil) (fun s H fp => pe_call GK hr1 (by rfl) DK.mg DK.fn.kp bK .nil pass0 (pa_cons (pv 0) pa_nil))))))), ?_⟩
    refine ⟨_, rfl, _, rfl, fo, d, l, W, wl, rfl, hf, hV, ok.w, fun H0 s0 => ⟨_, _, rfl, rfl, _, rfl, iteC (decide_eq_false (by omega)) ?_⟩⟩
    refine fun d0 hd0 => ⟨(by show 1 ≤ sizeLine; decide), fun l0 hl0 => ?_⟩
    have T0 := Same.upd (o := .dK []) hd0
    have e0 : (upd H0 d0 (.dK [])) d0 = some (.dK []) := upd_same
    generalize upd H0 d0 (.dK []) = Ha at *
    have T1 := Same.upd (o := .lst [V.ref d0]) hl0
    have e1 : (upd Ha l0 (.lst [V.ref d0])) l0 = some (.lst [V.ref d0]) := upd_same
    generalize upd Ha l0 (.lst [V.ref d0]) = Hb at *
    have S0 := s0.trans (T0.trans T1)
    refine ⟨_, rfl, fo, _, 1, _, rfl, rfl, SqT.of (S0 _ _ h1), atI_nat (j := 1) rfl, tt, rfl, ⟨_, SqT.of (S0 _ _ h2)⟩, for_tup (K := K) (a := tt) (xs := es.map V.ref) (fun i σ H' => Same H H' ∧ ∃ (lp : Addr) (ps : List Addr) (LL : List (List Addr)) (u3 u4 u5 : Option V), σ = [some (.ref fo), some (.ref d), some (.ref lp), u3, u4, u5] ∧ cut H H' lp = some (.lst (ps.map V.ref)) ∧ DsAt (cut H H') ps (LL.map (zK ((l.take i).map (·.name)))) ∧ F2 (PLs (cut H H') ((l.take i).map (·.name))) LL (piecesC wl (l.take i)))
      ⟨S0, l0, [d0], [[]], _, _, _, rfl, cut_at (none_of (s0.trans T0) hl0) e1, ⟨rfl, fun j m kv a b => ?_⟩, .cons ⟨rfl, .nil⟩ .nil⟩ (fun i σ H' _ p => SqT.of (p.1 _ _ h2)) ?_ ?_⟩
    · match j, a, b with
      | 0, a, b => cases a; cases b; exact cut_at (none_of s0 hd0) (T1 _ _ e0)
    · rintro i x σ H1 hx ⟨sm, lp, ps, LL, u3, u4, u5, rfl, k1, k2, k3⟩
      have hi : i < es.length := by
        have := (List.getElem?_eq_some_iff.mp hx).1
        rwa [List.length_map] at this
      have hil : i < l.length := by omega
      rw [List.getElem?_map, List.getElem?_eq_getElem hi] at hx
      cases hx
      obtain ⟨ct, e1', e2'⟩ := h4 i es[i] l[i] (List.getElem?_eq_getElem hi) (List.getElem?_eq_getElem hil)
      have hT : l[i] ∈ l := List.getElem_mem hil
      have et : l.take (i + 1) = l.take i ++ [l[i]] := by rw [List.take_succ, List.getElem?_eq_getElem hil]; rfl
      refine ⟨es[i], _, rfl, SqT.of (sm _ _ e1'), rfl, _, _, rfl, _, _, rfl, _, _, rfl, rfl, ?_⟩
      refine ⟨_, rfl, _, rfl, _, rfl, _, rfl, _, rfl, _, rfl, ct, d, l[i].name, l[i].cols, W, wl, rfl, e2'.same sm, hV.same sm, ok.w.vl _ hT, ok.w.cl _ hT, ok.cn _ hT, fun lr ms H2 s2 g1 g2 => ?_⟩
      have hml : (ms.map V.ref).length ≤ 9 := by
        rw [List.length_map, g2.1, smallR_len]
        exact manyR_9 ok.w hT
      refine ⟨l[i].sort, lr, ms.map V.ref, rfl, SqL.of (cut_sub _ _ g1), hml, fun lc cs H3 s3 g3 g4 => ?_⟩
      have S13 := s2.trans s3
      have hnew : l[i].name ∉ (l.take i).map (·.name) := fun hm => by
        have nd := ok.nd
        have e : l.map (·.name) = (l.take i).map (·.name) ++ (l.drop i).map (·.name) := by rw [← List.map_append, List.take_append_drop]
        rw [e, List.nodup_append] at nd
        refine nd.2.2 _ hm l[i].name ?_ rfl
        rw [List.drop_eq_getElem_cons hil, List.map_cons]
        exact List.mem_cons_self
      have hLl : ∀ ls ∈ LL, ls.length = ((l.take i).map (·.name)).length := fun ls hls => by
        obtain ⟨pc, _, r⟩ := k3.mem hls
        exact r.len
      refine ⟨lp, lc, l[i].name, ps, _, cs.map V.ref, rfl, SqL.of (S13 _ _ (cut_sub _ _ k1)), (k2.same cut_sub).same S13, (fun kv hkv => ?_), SqL.of (cut_sub _ _ g3), ?_, fun lm ms' H4 s4 g5 g6 => ?_⟩
      · obtain ⟨ls, hls, rfl⟩ := List.mem_map.mp hkv
        refine ⟨zK_new hnew, ?_⟩
        rw [zK_len (hLl ls hls), List.length_map, List.length_take]
        have := ok.w.le
        omega
      · rw [grow_len, List.length_map, List.length_map, k3.len, g4.1]
        have e : (choicesC l[i].sort (ms.map V.ref)).length = manyC l[i].sort (manyR wl l[i].name l[i].cols) := by
          show (choicesG l[i].sort (ms.map V.ref)).length = _
          rw [choices_len, List.length_map, g2.1, smallR_len]
        rw [e, piecesC_len]
        have := ok.mp (i + 1)
        rw [et] at this
        unfold manyP at this ⊢
        rw [List.foldl_append] at this
        exact this
      · obtain ⟨LL', r1, r2⟩ := piece_step (ws := smallW wl l[i].name l[i].cols) sm s2 s3 s4 k3 (by rw [← smallW_K]; exact g2) g4 g6
        refine ⟨sm.trans (S13.trans s4), lm, ms', LL', _, _, _, rfl, cut_dn (sm.trans S13) _ _ g5, ?_, ?_⟩
        · rw [et, List.map_append]
          exact r1
        · rw [et, List.map_append, piecesC_snoc]
          exact r2
    · rintro σ H1 ⟨sm, lp, ps, LL, u3, u4, u5, rfl, k1, k2, k3⟩
      rw [List.length_map, h3, List.take_length] at k2 k3
      have kk := F2.of (R := fun p ls => cut H H1 p = some (.dK (zK (l.map (·.name)) ls))) (as := ps) (bs := LL) (by rw [k2.1, List.length_map]) fun j p ls a b => k2.2 j p _ a (by rw [List.getElem?_map, b]; rfl)
      have kp : F2 (fun p pc => PcAt (cut H H1) p pc) ps (piecesC wl l) := (kk.comp k3).imp fun p pc ⟨ls, r1, r2⟩ => r2.pc r1
      have pln : ps.length = (piecesC wl l).length := kp.len
      have p300 : ps.length ≤ 300 := by rw [pln, piecesC_len]; exact h300
      have lp1 := cut_sub _ _ k1
      have pok := pieces_ok (l := l) ok.fl ok.cn
      refine ⟨_, rfl, lp, rfl, ⟨_, SqL.of lp1⟩, fun D hD => ?_⟩
      have hD0 : H D = none := none_of sm hD
      refine compW_idx ps.length (fun i ys σ' Hc => (∃ t, σ' = [t]) ∧ Same H1 Hc ∧ ∃ qs : List Addr, ys = qs.map V.ref ∧ PcsD (cut (upd H1 D (.lst [])) Hc) qs ((piecesC wl l).take i)) (by rw [sizeLine_eq]; omega) ⟨⟨none, rfl⟩, Same.upd hD, [], rfl, rfl, fun _ => 0, fun j p pc h => nomatch h⟩ upd_same ?_ ?_
      · rintro i σ' Hc ys hi ⟨⟨t, rfl⟩, s2, qs, rfl, hq⟩ hyl hD'
        have hip : i < (piecesC wl l).length := by omega
        have ei : (ps.map V.ref)[i]? = some (.ref ps[i]) := by rw [List.getElem?_map, List.getElem?_eq_getElem hi]; rfl
        refine ⟨⟨_, _, SqL.of (s2 _ _ lp1), ei⟩, ?_⟩
        rintro y H'' ⟨rfl, hx'⟩
        have ex := hx' _ (SqL.of (s2 _ _ lp1))
        rw [ei] at ex
        cases ex
        have hpc := (kp.get i ps[i] _ (List.getElem?_eq_getElem hi) (List.getElem?_eq_getElem hip)).same cut_sub
        obtain ⟨o1, o2⟩ := pok _ (List.getElem_mem hip)
        have hok : PcOk H'' (piecesC wl l)[i] := ⟨by rw [o1]; exact ok.nd, by rw [← List.length_map (f := (·.1)), o1, List.length_map]; have := ok.w.le; omega, fun t ht => Nat.le_trans (o2 t ht).1 (by decide), fun t ht row hrow => ⟨((o2 t ht).2 row hrow).1, fun c hc => (((o2 t ht).2 row hrow).2 c hc).imp id fun ⟨a, xs, r1, r2⟩ => ⟨a, xs, r1, (sm.trans s2) _ _ r2⟩⟩⟩
        refine ⟨_, rfl, ps[i], _, rfl, hpc.same s2, hok, fun p' H3 s3 hp' => ?_⟩
        refine ⟨s3 _ _ hD', ⟨_, rfl⟩, (s2.trans s3).put hD, qs ++ [p'], by rw [List.map_append]; rfl, ?_⟩
        have up : ∀ b o, cut (upd H1 D (.lst [])) H'' b = some o → cut (upd H1 D (.lst [])) (upd H3 D (.lst (qs.map V.ref ++ [.ref p']))) b = some o := fun b o e => by
          have nb : b ≠ D := fun e2 => by have := cut_new e; rw [e2, upd_same] at this; cases this
          exact cut_at (cut_new e) (by rw [upd_ne nb]; exact s3 _ _ (cut_sub _ _ e))
        obtain ⟨hql, g, hg⟩ := hq
        have tkl : ((piecesC wl l).take i).length = i := by rw [List.length_take]; omega
        refine ⟨by rw [List.length_append, hql, tkl, List.length_take]; show i + 1 = _; omega, fun b => match H'' b with | some _ => g b | none => i, fun j p pc a1 a2 => ?_⟩
        rw [List.take_succ, List.getElem?_eq_getElem hip] at a2
        by_cases hj : j < i
        · rw [List.getElem?_append_left (by omega)] at a1 a2
          refine (hg j p pc a1 a2).same fun b o e => ?_
          have e1 := reg_sub _ _ e
          refine reg_at ?_ (up _ _ e1)
          have e2 := cut_sub _ _ e1
          show (match H'' b with | some _ => g b | none => i) = j
          rw [e2]
          exact reg_num e
        · have hj' : j = i := by
            have := (List.getElem?_eq_some_iff.mp a1).1
            rw [List.length_append, hql, tkl] at this
            simp at this
            omega
          subst hj'
          rw [List.getElem?_append_right (by omega), hql, tkl, Nat.sub_self] at a1
          rw [List.getElem?_append_right (by omega), tkl, Nat.sub_self] at a2
          cases a1
          cases a2
          refine hp'.same fun b o e => ?_
          have b2 := cut_new e
          have nb : b ≠ D := fun e2 => by rw [e2, hD'] at b2; cases b2
          refine reg_at ?_ (cut_at (by rw [upd_ne nb]; exact none_of s2 b2) (by rw [upd_ne nb]; exact cut_sub _ _ e))
          show (match H'' b with | some _ => g b | none => j) = j
          rw [b2]
      · rintro σ' Hc ys ⟨_, s2, qs, rfl, hq⟩ hDn hyl
        rw [pln, List.take_length] at hq
        refine ⟨⟨_, SqL.of (s2 _ _ lp1), by rw [List.length_map]; exact Nat.le_refl _⟩, q D qs Hc (sm.trans s2) (cut_at hD0 hDn) ⟨hq.1, hq.2.imp fun g hg j p pc a1 a2 => (hg j p pc a1 a2).same fun b o e => reg_at (reg_num e) ?_⟩⟩
        have e := reg_sub _ _ e
        have b2 := cut_new e
        have nb : b ≠ D := fun e2 => by rw [e2, upd_same] at b2; cases b2
        rw [upd_ne nb] at b2
        exact cut_at (by rw [upd_ne nb]; exact none_of sm b2) (cut_sub _ _ e)
end
end My

namespace L2
open PySem PySem.Spec PyProof.Rows
theorem same_drop {H : Hp} {x : Addr} {o : HO} (hx : H x = none) : Same H (dropH (L2.upd H x o) x) := fun b u e => by
  have nb : b ≠ x := ne_of_none e hx
  rw [dropH_ne nb, upd_ne nb]
  exact e
end L2
namespace My
open PySem L2 PyProof.Rows
seal L2.PE L2.PT L2.PW L2.PS L2.PSs L2.PA L2.PI L2.PG L2.PGs L2.OpR L2.UnR L2.CallR L2.IxR L2.SlR L2.MtR L2.PIf L2.PO L2.MtM L2.PC
def spPiecesX (CM : Addr) : Sp := fun vs H _ E => ∃ (f d : Addr) (l : List Ts) (W : List ((Str × Str) × Addr)) (wl : Str → Str → List V), vs = [.ref f, .ref d] ∧ FmS H f l ∧ VlAt H d W wl ∧ WOk l W wl ∧ 300 < manyP wl l ∧ ∀ H', Same H H' → E (.ref CM) none H'
section
variable {P : Program} {w : World} {K : PySem.W.Frag} {mg : Str → Option Value} {base : Heap} {CM : Addr}
theorem ok_piecesX {f fM fR fN sA : Addr} {fd fdM fdR fdN : FuncData} {tk : Tok} (F : Fun K "pieces_of" "pieces_of" (top 9) f fd) (B : Bl mg) (LN : Ln K mg sA) (mM : mg "MOST_PIECES" = some (.int 300 tk)) (mX : mg "TooMany" = some (.ref CM)) (xX : XMkB K CM) (DM : Df K mg "many_pieces" (top 10) fM fdM) (DR : Df K mg "many_rows" (top 11) fR fdR) (DN : Df K mg "many_choices" (top 12) fN fdN) :
    FnOk P w K mg base (CX1 P w) 3 f fd ["form", "values"] (spPiecesX CM) := by
  have sc : FnScope ["form", "values", "pieces", "table", "sort", "columns"] ["form", "values"] (defScope (top 9)) := ⟨rfl, rfl, rfl, by decide +kernel, rfl, by decide +kernel, by decide +kernel⟩
  have GM : FnOk P w K mg base CX0 2 fM fdM ["form", "values"] spManyP := ok_manyP DM.fn B LN DR DN
  have bM := DM.fn.binds (ps := ["form", "values"]) fun _ _ _ _ _ _ us hl => by obtain ⟨v0, v1, rfl⟩ := L2.ln2 hl; rfl
  refine F.x.okX sc (fun vs H Q E h => ?_) (fun cdv A outer s H vs Q E hr h => ?_)
  · obtain ⟨f, d, l, W, wl, rfl, _⟩ := h
    rfl
  · obtain ⟨fo, d, l, W, wl, rfl, hf, hV, ok, h300, q⟩ := h
    refine ⟨_, pss_cons (ps_if (pt_cmpR op_gt (pe_call GM hr (by rfl) DM.mg DM.fn.kp bM .nil pass0 (pa_cons (pv 0) (pa_cons (pv 1) pa_nil))) (pe_glob (v := .int 300) (by rfl) mM ⟨tk, rfl⟩) (nomark _)) (pss_one (ps_raise rfl (pe_xmakeB xX (by rfl) mX (pa_cons pe_str pa_nil)) lands_cx)) pss_nil) pss_never, ?_⟩
    refine ⟨_, rfl, _, rfl, fo, d, l, W, wl, rfl, hf, hV, ok, fun H0 s0 => ⟨_, _, rfl, rfl, _, rfl, iteB (decide_eq_true (by omega)) ?_⟩⟩
    exact ⟨(by show 1 ≤ sizeLine; decide), fun x nx hx => ⟨x, CM, none, rfl, upd_same, nx, xX.cl, q _ (s0.trans (same_drop hx))⟩⟩
end
end My

/-! text * n, ANY SMALL n (own work). -/
namespace L2
open PySem PySem.Spec PyProof.Rows
theorem fold_app : ∀ (l : List (Array Nat)) (a : Array Nat), (l.foldl (· ++ ·) a).toList = a.toList ++ (l.map (·.toList)).flatten
  | [], a => by simp
  | x :: r, a => by
    rw [List.foldl_cons, fold_app r (a ++ x), Array.toList_append, List.map_cons, List.flatten_cons, List.append_assoc]
section
variable {X : Cx}
theorem op_mulSN : OpR X (binaryOp .Mult) (fun x y H Q => ∃ (z : Str) (n : Nat), x = .str z ∧ y = .int n ∧ n < 1000 ∧ 0 < z.length ∧ z.length ≤ 10000 ∧ ∀ r : Str, r.cps.toList = (List.replicate n z.cps.toList).flatten → Q (.str r) H) := by
  intro pins s σ H x y v u Q I rx ry h
  obtain ⟨z, n, rfl, rfl, h2, h3, h4, q⟩ := h
  by_cases e0 : n = 0
  · subst e0
    obtain ⟨t, rfl⟩ := rx
    obtain ⟨t', rfl⟩ := ry
    exact P.mul_str_none (by decide) (by decide) ⟨.str Str.empty, H, I.tok _, ⟨_, rfl⟩, q _ rfl⟩
  by_cases e1 : n = 1
  · subst e1
    obtain ⟨t, rfl⟩ := rx
    obtain ⟨t', rfl⟩ := ry
    refine P.mul_str (by decide) (fun _ h => ?_) (fun _ h => ?_) ?_
    · rw [Bool.or_eq_false_iff] at h; exact absurd h.1 (by decide)
    · rw [Bool.or_eq_false_iff] at h; exact absurd h.1 (by decide)
    · rw [if_neg (by decide), if_pos (by rw [Bool.or_eq_true]; exact .inl (by decide))]
      exact ⟨.str z, H, I, ⟨t, rfl⟩, q _ (by simp)⟩
  · refine op_mulSI pins s σ H _ _ v u Q I rx ry ⟨z, n, rfl, rfl, by omega, h2, h3, h4, q _ ?_⟩
    show ((List.replicate n z.cps).foldl (· ++ ·) #[]).toList = _
    rw [fold_app, List.map_replicate]
    rfl
end
end L2

namespace My
open PySem L2 PyProof.Rows
seal L2.PE L2.PT L2.PW L2.PS L2.PSs L2.PA L2.PI L2.PG L2.PGs L2.OpR L2.UnR L2.CallR L2.IxR L2.SlR L2.MtR L2.PIf L2.PO L2.MtM L2.PC
/-! ### names drawn -/
def abc : Str := "abcdefghijklmnopqrstuvwxyz"
theorem let_at : ∀ n < 26, abc.cps.toList[n]? = some (97 + n) := by decide +kernel
theorem let_emod (x : Int) : ∃ n : Nat, x % 26 = (n : Int) ∧ n < 26 := by
  have n0 := Int.emod_nonneg x (show (26 : Int) ≠ 0 by decide)
  have n1 := Int.emod_lt_of_pos x (show (0 : Int) < 26 by decide)
  obtain ⟨n, hn⟩ := Int.eq_ofNat_of_zero_le n0
  exact ⟨n, hn, by omega⟩
def nmA (w : Str) (c : Nat) (i : Nat) : Str := w ++ ⟨(List.replicate i c).toArray⟩
theorem nmA_len {w : Str} {c i : Nat} : (nmA w c i).length = w.length + i := by
  unfold nmA
  rw [Str.length_append]
  show _ + (List.replicate i c).toArray.size = _
  simp
theorem str_ext {a b : Str} (h : a.cps.toList = b.cps.toList) : a = b := by
  cases a; cases b
  congr 1
  exact Array.toList_inj.mp h
theorem nmA_nd {w : Str} {c : Nat} (m : Nat) : ((List.range m).map (nmA w c)).Nodup := by
  refine List.Pairwise.map _ (fun a b h e => ?_) List.nodup_range
  have := congrArg Str.length e
  rw [nmA_len, nmA_len] at this
  omega
def nmB (w : Str) (at_ : Int) (s st : Int) (i : Nat) : Str := Txt.slice w none (some at_) ++ ⟨#[97 + (s + st * (i : Nat)).toNat]⟩ ++ Txt.slice w (some (at_ + 1)) none
theorem nmB_list {w : Str} {at_ s st : Int} {i : Nat} (h0 : 0 ≤ at_) (h1 : at_ < w.length) : (nmB w at_ s st i).cps.toList = w.cps.toList.take at_.toNat ++ [97 + (s + st * (i : Nat)).toNat] ++ w.cps.toList.drop (at_ + 1).toNat := by
  unfold nmB
  rw [Str.cps_append, Array.toList_append, Str.cps_append, Array.toList_append, slice_to w h0 (by omega), slice_from w (by omega) (by omega)]
theorem nmB_len {w : Str} {at_ s st : Int} {i : Nat} (h0 : 0 ≤ at_) (h1 : at_ < w.length) : (nmB w at_ s st i).length = w.length := by
  have := congrArg List.length (nmB_list (s := s) (st := st) (i := i) h0 h1)
  have e : w.length = w.cps.toList.length := (Array.length_toList ..).symm
  rw [List.length_append, List.length_append, List.length_take, List.length_drop, ← e] at this
  show (nmB w at_ s st i).cps.size = _
  rw [← Array.length_toList, this]
  simp
  omega
theorem nmB_nd {w : Str} {at_ s st : Int} (h0 : 0 ≤ at_) (h1 : at_ < w.length) (s0 : 0 ≤ s) (t0 : 0 < st) (m : Nat) : ((List.range m).map (nmB w at_ s st)).Nodup := by
  refine List.Pairwise.map _ (fun a b h e => ?_) List.nodup_range
  have := congrArg (fun z : Str => z.cps.toList) e
  simp only [nmB_list h0 h1] at this
  rw [List.append_assoc, List.append_assoc] at this
  have h2 := List.append_cancel_left this
  injection h2 with h3
  have ha : 0 ≤ st * (a : Int) := Int.mul_nonneg (by omega) (by omega)
  have hb : 0 ≤ st * (b : Int) := Int.mul_nonneg (by omega) (by omega)
  have h4 : st * (a : Int) = st * (b : Int) := by omega
  have := Int.eq_of_mul_eq_mul_left (by omega) h4
  omega
def spCel (K : PySem.W.Frag) : Sp := fun vs H Q _ => ∃ (a : Addr) (ns : List Int) (k : Int), vs = [.ref a, .int k] ∧ SqL K H a (ns.map V.int) ∧ 0 ≤ k ∧ ∀ i : Int, Q (.int i) H
def spNames : Sp := fun vs H Q _ => ∃ c m : Int, vs = [.int c, .int m] ∧ 0 ≤ m ∧ m ≤ 4 ∧ ∀ (l : Addr) (zs : List Str) (H' : Hp), Same H H' → cut H H' l = some (.lst (zs.map V.str)) → (zs.length : Int) = m → zs.Nodup → (∀ z ∈ zs, 1 ≤ z.length ∧ z.length ≤ 8) → Q (.ref l) H'
def nmN : List Str := ["_law_cell_here", "_law_many", "_law_letters", "_law_word", "_law_k", "_law_at", "_law_start", "_law_step"]
section
variable {P : Program} {w : World} {K : PySem.W.Frag} {mg : Str → Option Value} {base : Heap}
theorem ok_cel {f : Addr} {fd : FuncData} (F : Fun K "_law_cell" "_law_cell" (top 18) f fd) (B : Bl mg) : FnOk P w K mg base CX0 1 f fd ["_law_script", "_law_k"] (spCel K) := by
  have sc : FnScope ["_law_script", "_law_k"] ["_law_script", "_law_k"] (defScope (top 18)) := ⟨rfl, rfl, rfl, by decide +kernel, rfl, by decide +kernel, by decide +kernel⟩
  refine F.ok sc (fun vs H Q E h => ?_) (fun cdv A outer s H vs Q E hr h => ?_)
  · obtain ⟨a, ns, k, rfl, _⟩ := h
    rfl
  · obtain ⟨a, ns, k, rfl, ha, k0, q⟩ := h
    refine ⟨_, pss_cons (ps_if (pt_cmpR op_lt (pv 1) (pe_callB call_len_seq (by rfl) B.len PySem.boot_len (pa_cons (pv 0) pa_nil)) (nomark _)) (pss_one (ps_ret (pe_ix ix_list (pv 0) (pv 1) (fun _ _ => rfl)))) pss_nil) (pss_one (ps_ret pe_int)), ?_⟩
    refine ⟨_, rfl, _, rfl, _, _, rfl, .inl ha, _, _, rfl, rfl, _, rfl, ?_⟩
    refine ite2 (fun c => ?_) (fun _ => q _)
    have c' : k < (((ns.map V.int).length : Nat) : Int) := of_decide_eq_true c
    obtain ⟨j, rfl⟩ := Int.eq_ofNat_of_zero_le k0
    have hj : j < ns.length := by rw [List.length_map] at c'; omega
    exact ⟨_, rfl, _, rfl, _, _, _, _, rfl, rfl, ha, atI_nat (by rw [List.getElem?_map, List.getElem?_eq_getElem hj]; rfl), q _⟩
theorem ok_names {f : Addr} {fd : FuncData} (F : Fun K "_law_names" "_law_names" (top 19) f fd) (B : Bl mg) : FnOk P w K mg base CX0 1 f fd ["_law_cell_here", "_law_many"] spNames := by
  have sc : FnScope nmN ["_law_cell_here", "_law_many"] (defScope (top 19)) := ⟨rfl, rfl, rfl, by decide +kernel, rfl, by decide +kernel, by decide +kernel⟩
  refine F.ok sc (fun vs H Q E h => ?_) (fun cdv A outer s H vs Q E hr h => ?_)
  · obtain ⟨c, m, rfl, _⟩ := h
    rfl
  · obtain ⟨c, m, rfl, m0, m4, q⟩ := h
    have ndA : (["_law_k", "_law_word", "_law_letters", "_law_cell_here"] : List Str).Nodup := by decide +kernel
    have ndB : (["_law_k", "_law_word", "_law_at", "_law_letters", "_law_start", "_law_step"] : List Str).Nodup := by decide +kernel
    refine ⟨_, pss_cons (ps_set (i := 2) sc.nd rfl (Or.inr rfl) pe_str) (pss_cons (ps_set (i := 3) sc.nd rfl (Or.inr rfl) pe_str)
      (pss_cons (ps_for PassesOwn.never rfl (pi_range1 rfl B.range (pa_cons (pe_op op_add pe_int (pe_op op_mod (pv 0) pe_int)) pa_nil)) (pg_name (i := 4) sc.nd rfl (Or.inl rfl))
        (pss_one (ps_set (i := 3) sc.nd rfl (Or.inr rfl) (pe_op op_add_str (pv 3) (pe_ix ix_str (pv 2) (pe_op op_mod (pe_op op_add (pe_op op_fdiv (pv 0) pe_int) (pe_op op_mul pe_int (pv 4))) pe_int) (fun _ _ => rfl))))))
      (pss_cons (ps_if (pt_cmpR op_eq (pe_op op_mod (pe_op op_fdiv (pv 0) pe_int) pe_int) pe_int (nomark _)) (pss_one (ps_ret (pe_comp (osc := defScope (top 19)) (N0 := nmN) (xs := ["_law_k"]) (fr := [3, 2, 0]) ⟨rfl, by decide +kernel, by decide +kernel, by decide +kernel, (fun j hj => by
              have e : j = 3 ∨ j = 2 ∨ j = 0 := by simpa using hj
              rcases e with rfl | rfl | rfl
              · exact ⟨_, rfl, by decide +kernel⟩
              · exact ⟨_, rfl, by decide +kernel⟩
              · exact ⟨_, rfl, by decide +kernel⟩), by decide +kernel⟩ rfl rfl rfl (pi_range1 rfl B.range (pa_cons (pv 1) pa_nil))
            (fun s H fp => pg_name (i := 0) ndA rfl (Or.inl rfl)) (fun s H fp => pif_nil)
            (fun s H fp => pe_op op_add_str (pv 1) (pe_op op_mulSN (pe_ix ix_str (pv 2) (pe_op op_mod (pe_op op_fdiv (pv 3) pe_int) pe_int) (fun _ _ => rfl)) (pv 0)))))) pss_nil)
      (pss_cons (ps_set (i := 5) sc.nd rfl (Or.inr rfl) (pe_op op_mod (pe_op op_fdiv (pv 0) pe_int) (pe_callB call_len_str (by rfl) B.len PySem.boot_len (pa_cons (pv 3) pa_nil))))
      (pss_cons (ps_set (i := 6) sc.nd rfl (Or.inr rfl) (pe_op op_mod (pe_op op_fdiv (pv 0) pe_int) pe_int))
      (pss_cons (ps_set (i := 7) sc.nd rfl (Or.inr rfl) (pe_op op_add pe_int (pe_op op_mod (pe_op op_fdiv (pv 0) pe_int) pe_int)))
      (pss_one (ps_ret (pe_comp (osc := defScope (top 19)) (N0 := nmN) (xs := ["_law_k"]) (fr := [3, 5, 2, 6, 7]) ⟨rfl, by decide +kernel, by decide +kernel, by decide +kernel, (fun j hj => by
              have e : j = 3 ∨ j = 5 ∨ j = 2 ∨ j = 6 ∨ j = 7 := by simpa using hj
              rcases e with rfl | rfl | rfl | rfl | rfl
              · exact ⟨_, rfl, by decide +kernel⟩
              · exact ⟨_, rfl, by decide +kernel⟩
              · exact ⟨_, rfl, by decide +kernel⟩
              · exact ⟨_, rfl, by decide +kernel⟩
              · exact ⟨_, rfl, by decide +kernel⟩), by decide +kernel⟩ rfl rfl rfl (pi_range1 rfl B.range (pa_cons (pv 1) pa_nil))
            (fun s H fp => pg_name (i := 0) ndB rfl (Or.inl rfl)) (fun s H fp => pif_nil)
            (fun s H fp => pe_op op_add_str (pe_op op_add_str (pe_slice sl_str (pv 1) po_none (po_some (pv 2))) (pe_ix ix_str (pv 3) (pe_op op_add (pv 4) (pe_op op_mul (pv 5) (pv 0))) (fun _ _ => rfl))) (pe_slice sl_str (pv 1) (po_some (pe_op op_add (pv 2) pe_int)) po_none))))))))))), ?_⟩
    have a0 := Int.emod_nonneg c (show (4 : Int) ≠ 0 by decide)
    have a4 := Int.emod_lt_of_pos c (show (0 : Int) < 4 by decide)
    have abl : abc.length ≤ sizeLine := by decide +kernel
    refine ⟨_, rfl, _, _, rfl, rfl, (pos rfl), _, _, rfl, rfl, _, rfl, (by omega), (by omega), for_range (fun i σ H' => H' = H ∧ ∃ (z : Str) (u4 : Option V), σ = [some (.int c), some (.int m), some (.str abc), some (.str z), u4, none, none, none] ∧ z.length = i) ⟨rfl, "", _, rfl, by decide⟩ ?_ ?_⟩
    · rintro i σ H' hi ⟨rfl, z, u4, rfl, hz⟩
      obtain ⟨n, hn, n26⟩ := let_emod (c / 4 + 7 * (0 + (i : Int)))
      refine ⟨_, rfl, _, rfl, _, rfl, _, _, rfl, rfl, ⟨by decide, by decide⟩, _, rfl, _, _, rfl, rfl, .inl ⟨by decide, by decide⟩, _, _, rfl, rfl, _, _, rfl, rfl, (pos rfl), _, _, _, rfl, rfl, abl, (by rw [hn]; exact atI_nat (let_at n n26)), _, _, rfl, rfl, (by rw [sizeLine_eq]; show z.length + 1 ≤ _; omega), rfl, _, _, rfl, ?_⟩
      rw [Str.length_append, hz]
      rfl
    rintro σ H' ⟨rfl, z, u4, rfl, hz⟩
    have zl : z.length ≤ sizeLine := by rw [sizeLine_eq]; omega
    refine ⟨_, rfl, _, _, rfl, rfl, ⟨by decide, by decide⟩, _, _, rfl, rfl, (pos rfl), rfl, _, rfl, ?_⟩
    refine ite2 (fun _ => ?_) (fun _ => ?_)
    · obtain ⟨n, hn, n26⟩ := let_emod (c / 16)
      refine ⟨_, rfl, _, rfl, (by omega), (by omega), fun D hD => ?_⟩
      refine compW_map m.toNat (fun i => .str (nmA z (97 + n) i)) (fun i σ' Hc => (∃ t, σ' = [t, some (.str z), some (.str abc), some (.int c)]) ∧ Same H' Hc) (by rw [sizeLine_eq]; omega) ⟨⟨none, rfl⟩, Same.upd hD⟩ upd_same ?_ ?_
      · rintro i σ' Hc hi ⟨⟨t, rfl⟩, sm⟩ hD'
        refine ⟨hi, ?_⟩
        rintro y H'' ⟨rfl, rfl⟩
        refine ⟨_, rfl, _, rfl, _, rfl, _, _, rfl, rfl, ⟨by decide, by decide⟩, _, _, rfl, rfl, (pos rfl), _, _, _, rfl, rfl, abl, (by rw [hn]; exact atI_nat (let_at n n26)), _, rfl, ?_⟩
        refine ⟨⟨#[97 + n]⟩, i, rfl, (by rw [Int.zero_add]), (by omega), (by show 0 < 1; decide), (by show 1 ≤ 10000; decide), fun r hr' => ?_⟩
        have er : r = ⟨(List.replicate i (97 + n)).toArray⟩ := str_ext (by rw [hr']; simp)
        subst er
        refine ⟨_, _, rfl, rfl, ?_, rfl, hD', ⟨_, rfl⟩, sm.put hD⟩
        have e2 : Str.length ⟨(List.replicate i (97 + n)).toArray⟩ = i := by show (List.replicate i (97 + n)).toArray.size = i; simp
        rw [sizeLine_eq, e2]
        omega
      · rintro σ' Hc ⟨_, sm⟩ hDn
        refine ⟨Nat.le_refl _, ?_⟩
        have e1 : (List.range m.toNat).map (fun i => V.str (nmA z (97 + n) i)) = ((List.range m.toNat).map (nmA z (97 + n))).map V.str := by rw [List.map_map]; rfl
        rw [e1] at hDn
        refine q D _ Hc sm (cut_at hD hDn) (by rw [List.length_map, List.length_range]; omega) (nmA_nd _) (fun x hx => ?_)
        obtain ⟨i, hi, rfl⟩ := List.mem_map.mp hx
        have := List.mem_range.mp hi
        rw [nmA_len]
        omega
    · have lz : (0 : Int) < (z.length : Nat) := by omega
      refine ⟨_, rfl, _, _, rfl, rfl, ⟨by decide, by decide⟩, _, rfl, _, rfl, zl, _, _, rfl, rfl, lz, ?_⟩
      have t0 := Int.emod_nonneg (c / 16) (show ((z.length : Nat) : Int) ≠ 0 by omega)
      have t1 := Int.emod_lt_of_pos (c / 16) lz
      refine ⟨_, rfl, _, _, rfl, rfl, ⟨by decide, by decide⟩, _, _, rfl, rfl, (pos rfl), ?_⟩
      have s0 := Int.emod_nonneg (c / 64) (show (6 : Int) ≠ 0 by decide)
      have s1 := Int.emod_lt_of_pos (c / 64) (show (0 : Int) < 6 by decide)
      refine ⟨_, rfl, _, _, rfl, rfl, ⟨by decide, by decide⟩, _, _, rfl, rfl, (pos rfl), _, _, rfl, rfl, ?_⟩
      have p0 := Int.emod_nonneg (c / 512) (show (4 : Int) ≠ 0 by decide)
      have p1 := Int.emod_lt_of_pos (c / 512) (show (0 : Int) < 4 by decide)
      dsimp only
      generalize c / 16 % ((z.length : Nat) : Int) = at_ at *
      generalize c / 64 % 6 = st at *
      generalize hsp : 1 + c / 512 % 4 = sp at *
      have sp0 : 0 < sp := by omega
      have sp5 : sp < 5 := by omega
      refine ⟨_, rfl, _, rfl, (by omega), (by omega), fun D hD => ?_⟩
      refine compW_map m.toNat (fun i => .str (nmB z at_ st sp i)) (fun i σ' Hc => (∃ t, σ' = [t, some (.str z), some (.int at_), some (.str abc), some (.int st), some (.int sp)]) ∧ Same H' Hc) (by rw [sizeLine_eq]; omega) ⟨⟨none, rfl⟩, Same.upd hD⟩ upd_same ?_ ?_
      · rintro i σ' Hc hi ⟨⟨t, rfl⟩, sm⟩ hD'
        have hi4 : i < 4 := by omega
        refine ⟨hi, ?_⟩
        rintro y H'' ⟨rfl, rfl⟩
        have hb : 0 ≤ sp * (i : Int) := Int.mul_nonneg (by omega) (by omega)
        have hb2 : sp * (i : Int) ≤ 4 * 3 := Int.mul_le_mul (by omega) (by omega) (by omega) (by decide)
        obtain ⟨n, hn⟩ := Int.eq_ofNat_of_zero_le (show 0 ≤ st + sp * (i : Int) by omega)
        have n26 : n < 26 := by omega
        have hn' : st + sp * (0 + (i : Int)) = (n : Int) := by rw [Int.zero_add]; exact hn
        refine ⟨_, rfl, _, rfl, _, rfl, z, rfl, zl, _, rfl, _, rfl, _, rfl, _, rfl, _, _, rfl, rfl, .inl ⟨by omega, by omega⟩, _, _, rfl, rfl, _, _, _, rfl, rfl, abl, (by rw [hn']; exact atI_nat (let_at n n26)), _, _, rfl, rfl, ?_, _, rfl, _, rfl, _, _, rfl, rfl, _, rfl, z, rfl, zl, _, _, rfl, rfl, ?_, ?_, hD', ⟨_, rfl⟩, sm.put hD⟩
        · have := Txt.slice_le z none (some at_)
          rw [sizeLine_eq]
          show _ + 1 ≤ _
          omega
        · have h1 := Txt.slice_le z none (some at_)
          have h2 := Txt.slice_le z (some (at_ + 1)) none
          rw [sizeLine_eq, Str.length_append]
          show _ + 1 + _ ≤ _
          omega
        · show V.str _ = V.str (nmB z at_ st sp i)
          unfold nmB
          rw [hn]
          rfl
      · rintro σ' Hc ⟨_, sm⟩ hDn
        refine ⟨Nat.le_refl _, ?_⟩
        have e1 : (List.range m.toNat).map (fun i => V.str (nmB z at_ st sp i)) = ((List.range m.toNat).map (nmB z at_ st sp)).map V.str := by rw [List.map_map]; rfl
        rw [e1] at hDn
        refine q D _ Hc sm (cut_at hD hDn) (by rw [List.length_map, List.length_range]; omega) (nmB_nd t0 (by omega) s0 sp0 _) (fun x hx => ?_)
        obtain ⟨i, hi, rfl⟩ := List.mem_map.mp hx
        rw [nmB_len t0 (by omega)]
        omega
end
end My

namespace My
open PySem L2 PyProof.Rows
seal L2.PE L2.PT L2.PW L2.PS L2.PSs L2.PA L2.PI L2.PG L2.PGs L2.OpR L2.UnR L2.CallR L2.IxR L2.SlR L2.MtR L2.PIf L2.PO L2.MtM L2.PC
/-- a cell of the script: the same at each asking -/
def cellV (ns : List Int) (k : Int) : Int := ns.getD k.toNat 0
def spCelD (K : PySem.W.Frag) : Sp := fun vs H Q _ => ∃ (a : Addr) (ns : List Int) (k : Int), vs = [.ref a, .int k] ∧ SqL K H a (ns.map V.int) ∧ 0 ≤ k ∧ Q (.int (cellV ns k)) H
section
variable {P : Program} {w : World} {K : PySem.W.Frag} {mg : Str → Option Value} {base : Heap}
theorem ok_celD {f : Addr} {fd : FuncData} (F : Fun K "_law_cell" "_law_cell" (top 18) f fd) (B : Bl mg) : FnOk P w K mg base CX0 1 f fd ["_law_script", "_law_k"] (spCelD K) := by
  have sc : FnScope ["_law_script", "_law_k"] ["_law_script", "_law_k"] (defScope (top 18)) := ⟨rfl, rfl, rfl, by decide +kernel, rfl, by decide +kernel, by decide +kernel⟩
  refine F.ok sc (fun vs H Q E h => ?_) (fun cdv A outer s H vs Q E hr h => ?_)
  · obtain ⟨a, ns, k, rfl, _⟩ := h
    rfl
  · obtain ⟨a, ns, k, rfl, ha, k0, q⟩ := h
    refine ⟨_, pss_cons (ps_if (pt_cmpR op_lt (pv 1) (pe_callB call_len_seq (by rfl) B.len PySem.boot_len (pa_cons (pv 0) pa_nil)) (nomark _)) (pss_one (ps_ret (pe_ix ix_list (pv 0) (pv 1) (fun _ _ => rfl)))) pss_nil) (pss_one (ps_ret pe_int)), ?_⟩
    obtain ⟨j, rfl⟩ := Int.eq_ofNat_of_zero_le k0
    have ej : cellV ns (j : Int) = ns.getD j 0 := by unfold cellV; rw [Int.toNat_natCast]
    rw [ej] at q
    refine ⟨_, rfl, _, rfl, _, _, rfl, .inl ha, _, _, rfl, rfl, _, rfl, ?_⟩
    refine ite2 (fun c => ?_) (fun c => ?_)
    · have c' : (j : Int) < (((ns.map V.int).length : Nat) : Int) := of_decide_eq_true c
      have hj : j < ns.length := by rw [List.length_map] at c'; omega
      rw [List.getD_eq_getElem?_getD, List.getElem?_eq_getElem hj] at q
      exact ⟨_, rfl, _, rfl, _, _, _, _, rfl, rfl, ha, atI_nat (by rw [List.getElem?_map, List.getElem?_eq_getElem hj]; rfl), q⟩
    · have hj : ns.length ≤ j := by
        by_cases h : j < ns.length
        · exact absurd (decide_eq_true (by rw [List.length_map]; omega)) c
        · omega
      rw [List.getD_eq_getElem?_getD, List.getElem?_eq_none hj] at q
      exact q
end
end My

namespace My
open PySem L2 PyProof.Rows
seal L2.PE L2.PT L2.PW L2.PS L2.PSs L2.PA L2.PI L2.PG L2.PGs L2.OpR L2.UnR L2.CallR L2.IxR L2.SlR L2.MtR L2.PIf L2.PO L2.MtM L2.PC
def spChL (K : PySem.W.Frag) : Sp := fun vs H Q _ => ∃ (lc d : Addr) (t : Str) (cols : List Str) (W : List ((Str × Str) × Addr)) (wl : Str → Str → List V), vs = [.ref d, .str t, .ref lc] ∧ SqL K H lc (cols.map V.str) ∧ VlAt H d W wl ∧ (∀ c ∈ cols, (t, c) ∈ W.map (·.1) ∧ (wl t c).length ≤ 3) ∧ cols.length ≤ 2 ∧ ∀ H', Same H H' → Q (.int (manyR wl t cols : Nat)) H'
def sorts : List Str := ["head", "twin", "many", "some"]
def spLists : Sp := fun vs H Q _ => ∃ (so : Str) (n : Nat), vs = [.str so, .int (n : Nat)] ∧ so ∈ sorts ∧ n ≤ 1000 ∧ Q (.int (manyC so n : Nat)) H
section
variable {P : Program} {w : World} {K : PySem.W.Frag} {mg : Str → Option Value} {base : Heap}
theorem ok_chL {f : Addr} {fd : FuncData} (F : Fun K "_law_choices" "_law_choices" (top 27) f fd) (B : Bl mg) : FnOk P w K mg base CX0 1 f fd ["_law_values_here", "_law_name", "_law_columns"] (spChL K) := by
  have sc : FnScope ["_law_values_here", "_law_name", "_law_columns", "_law_many", "_law_column"] ["_law_values_here", "_law_name", "_law_columns"] (defScope (top 27)) := ⟨rfl, rfl, rfl, by decide +kernel, rfl, by decide +kernel, by decide +kernel⟩
  refine F.ok sc (fun vs H Q E h => ?_) (fun cdv A outer s H vs Q E hr h => ?_)
  · obtain ⟨lc, d, t, cols, W, wl, rfl, _⟩ := h
    rfl
  · obtain ⟨lc, d, t, cols, W, wl, rfl, hl, hV, hin, h2, q⟩ := h
    have hu : (A.deeper (envOfC "_law_choices" (defScope (top 27)) s.heap.objs.size f cdv)).units + 1 < cLine := hu_of hr
    refine ⟨_, pss_cons (ps_set (i := 3) sc.nd rfl (Or.inl rfl) pe_int)
      (pss_cons (ps_for PassesOwn.never rfl (pi_list (pv 2)) (pg_name (i := 4) sc.nd rfl (Or.inl rfl))
        (pss_one (ps_set (i := 3) sc.nd rfl (Or.inl rfl) (pe_op op_mul (pv 3) (pe_callB call_len_seq (by rfl) B.len PySem.boot_len (pa_cons (pe_dget hu (pv 0) (pe_tup (pa_cons (pv 1) (pa_cons (pv 4) pa_nil))) (fun _ _ => rfl)) pa_nil))))))
      (pss_one (ps_ret (pv 3)))), ?_⟩
    refine ⟨_, rfl, lc, rfl, ⟨_, hl⟩, for_list (K := K) (a := lc) (xs := cols.map V.str) (fun i σ H' => Same H H' ∧ ∃ u4, σ = [some (.ref d), some (.str t), some (.ref lc), some (.int (manyR wl t (cols.take i) : Nat)), u4]) ⟨Same.refl _, _, rfl⟩ (fun i σ H' _ p => p.1.seq hl) ?_ ?_⟩
    · rintro i x σ H' hx ⟨sm, u4, rfl⟩
      have hic : i < cols.length := by
        have := (List.getElem?_eq_some_iff.mp hx).1
        rwa [List.length_map] at this
      rw [List.getElem?_map, List.getElem?_eq_getElem hic] at hx
      cases hx
      obtain ⟨hm, h3⟩ := hin _ (List.getElem_mem hic)
      obtain ⟨x, hx, ex⟩ := List.mem_map.mp hm
      refine ⟨_, rfl, _, rfl, _, rfl, _, rfl, (by show 2 ≤ sizeLine; decide), fun b hb => ?_⟩
      have T1 := Same.upd (o := .tup [.str t, .str cols[i]]) hb
      have e1 : (upd H' b (.tup [.str t, .str cols[i]])) b = some (.tup [.str t, .str cols[i]]) := upd_same
      generalize upd H' b (.tup [.str t, .str cols[i]]) = H1 at *
      have hV1 := hV.same (sm.trans T1)
      have ex1 : x.1.1 = t := by rw [ex]
      have ex2 : x.1.2 = cols[i] := by rw [ex]
      have lx := hV1.2.2 x hx
      rw [ex1, ex2] at lx
      refine ⟨d, .ref x.2, rfl, hV1.get hx (by rw [ex1, ex2]; exact e1), x.2, _, rfl, .inl (SqL.of lx), _, _, rfl, rfl, .inr ⟨by omega, by omega⟩, sm.trans T1, some (.str cols[i]), ?_⟩
      have en : manyR wl t (cols.take (i + 1)) = manyR wl t (cols.take i) * (wl t cols[i]).length := by
        unfold manyR
        rw [List.take_succ, List.getElem?_eq_getElem hic, List.foldl_append]
        rfl
      rw [en, Int.natCast_mul]
      rfl
    · rintro σ H' ⟨sm, u4, rfl⟩
      refine ⟨_, rfl, ?_⟩
      rw [List.length_map, List.take_length]
      exact q H' sm
theorem ok_lists {f : Addr} {fd : FuncData} (F : Fun K "_law_lists" "_law_lists" (top 28) f fd) : FnOk P w K mg base CX0 1 f fd ["_law_sort", "_law_many"] spLists := by
  have sc : FnScope ["_law_sort", "_law_many"] ["_law_sort", "_law_many"] (defScope (top 28)) := ⟨rfl, rfl, rfl, by decide +kernel, rfl, by decide +kernel, by decide +kernel⟩
  refine F.ok sc (fun vs H Q E h => ?_) (fun cdv A outer s H vs Q E hr h => ?_)
  · obtain ⟨so, n, rfl, _⟩ := h
    rfl
  · obtain ⟨so, n, rfl, hs, hn, q⟩ := h
    refine ⟨_, pss_cons (ps_if (pt_cmpR op_eq (pv 0) pe_str (nomark _)) (pss_one (ps_ret (pe_op op_add (pe_op op_add pe_int (pv 1)) (pe_op op_mul (pv 1) (pv 1))))) pss_nil)
      (pss_cons (ps_if (pt_cmpR op_eq (pv 0) pe_str (nomark _)) (pss_one (ps_ret (pe_op op_add (pv 1) (pe_op op_mul (pv 1) (pv 1))))) pss_nil)
      (pss_one (ps_ret (pv 1)))), ?_⟩
    refine ⟨_, rfl, rfl, _, rfl, ?_⟩
    have hc : so = "head" ∨ so = "twin" ∨ so = "many" ∨ so = "some" := by simpa [sorts] using hs
    rcases hc with rfl | rfl | rfl | rfl
    · refine iteC (by decide +kernel) ⟨_, rfl, rfl, _, rfl, iteC (by decide +kernel) ⟨_, rfl, ?_⟩⟩
      rwa [show manyC "head" n = n from if_pos (by decide +kernel)] at q
    · refine iteC (by decide +kernel) ⟨_, rfl, rfl, _, rfl, iteC (by decide +kernel) ⟨_, rfl, ?_⟩⟩
      rwa [show manyC "twin" n = n from if_pos (by decide +kernel)] at q
    · refine iteB (by decide +kernel) ⟨_, rfl, _, _, rfl, rfl, _, rfl, _, rfl, _, _, rfl, rfl, .inl ⟨by omega, by omega⟩, _, _, rfl, rfl, ?_⟩
      rw [show manyC "many" n = n + n * n + 1 from (if_neg (by decide +kernel)).trans (by rw [if_pos rfl])] at q
      show Q (.int (1 + (n : Int) + (n : Int) * (n : Int))) H
      rw [show (1 + (n : Int) + (n : Int) * (n : Int)) = ((n + n * n + 1 : Nat) : Int) by rw [Int.natCast_add, Int.natCast_add, Int.natCast_mul]; omega]
      exact q
    · refine iteC (by decide +kernel) ⟨_, rfl, rfl, _, rfl, iteB (by decide +kernel) ⟨_, rfl, _, rfl, _, rfl, _, _, rfl, rfl, .inl ⟨by omega, by omega⟩, _, _, rfl, rfl, ?_⟩⟩
      rw [show manyC "some" n = n + n * n + 0 from (if_neg (by decide +kernel)).trans (by rw [if_neg (by decide +kernel)])] at q
      show Q (.int ((n : Int) + (n : Int) * (n : Int))) H
      rw [show ((n : Int) + (n : Int) * (n : Int)) = ((n + n * n + 0 : Nat) : Int) by rw [Int.natCast_add, Int.natCast_add, Int.natCast_mul]; omega]
      exact q
end
end My

/-! a, b = a list; for x in reversed(a list) (own work). -/
namespace L2
open PySem PySem.Spec PyProof.Rows
section
variable {prog : Program} {w : World} {A : Around} {E : Value → Shared → Prop}
theorem draw_lst {it l : Addr} {items : Array Value} (ne : l ≠ it) : ∀ (n i : Nat) (s : Shared) (Q : List Value → Shared → Prop), s.heap.IsListIter it l i → s.heap.IsList l items → i + n ≤ items.size →
    (∀ h', h'.IsListIter it l (i + n) → Heap.SameBut it s.heap h' → Q ((items.toList.drop i).take n) { s with heap := h' }) → wpAny (model prog w) A (draw (.ref it) n) Q E s
  | 0, i, s, Q, hi, _, _, q => wpAny_pure (by simpa using q s.heap hi (Heap.SameBut.refl ..))
  | n + 1, i, s, Q, hi, hl, le, q => by
    have lt : i < items.size := by omega
    refine wpAny_bind (m := pyNext (.ref it)) (wpAny_pyNext_list_item hi hl (x := items[i]) (by simp [lt]) fun h1 i1 b1 => ?_)
    refine wpAny_bind (wpAny_holding (draw_lst ne n (i + 1) _ _ i1 (hl.extBut b1.extBut ne) (by omega) fun h2 i2 b2 => wpAny_pure ?_))
    have e := q h2 (by rw [show i + (n + 1) = i + 1 + n by omega]; exact i2) (b1.trans b2)
    rw [show items.toList.drop i = items[i] :: items.toList.drop (i + 1) by simp [List.drop_eq_getElem_cons, lt], List.take_succ_cons] at e
    exact e
theorem unpack_lst {s : Shared} {l : Addr} {items : Array Value} {targets : List (Bool × (Value → Sem Unit))} {Q : Unit → Shared → Prop} (hh : A.handled = none) (hl : s.heap.IsList l items)
    (hn : targets.length = items.size) (st : targets.findIdx? (·.1) = none)
    (h : ∀ h', Heap.ExtBut s.heap.objs.size s.heap h' → wpAny (model prog w) A (assignInOrder (targets.map (·.2)) items.toList) Q E { s with heap := h' }) : wpAny (model prog w) A (unpack (.ref l) targets) Q E s := by
  have ne : l ≠ s.heap.objs.size := by obtain ⟨o, ho, _⟩ := hl; exact Nat.ne_of_lt (Heap.lt_size ho)
  unfold unpack
  rw [hn, st]
  refine wpAny_bind (wpAny_holding ?_)
  unfold unpackItems notIterableAtAll
  refine wpAny_bind (wpAny_bind (wpAny_specialOf hl.typeIs slot_list_iter.lookup (wpAny_pure ?_)))
  simp only [Bool.false_eq_true, if_false]
  refine wpAny_bind (wpAny_holding (wpAny_pyIter_list hl ?_))
  refine wpAny_bind (wpAny_holding (draw_lst ne items.size 0 _ _ ⟨_, Heap.get?_push_size _ rfl, rfl, rfl⟩ (hl.push _) (by omega) fun h1 i1 b1 => ?_))
  rw [List.drop_zero, show List.take items.size items.toList = items.toList from List.take_of_length_le (by simp), if_neg (by simp)]
  have l1 : h1.IsList l items := (hl.push _).extBut b1.extBut ne
  refine wpAny_bind (wpAny_holding (wpAny_pyNext_list_end hh i1 l1 (by simp) fun h2 b2 => ?_))
  simp only [Option.isSome_none, Bool.false_eq_true, if_false]
  exact wpAny_pure (h h2 fun b o hb e => b2 b o hb (b1.extBut b o hb (Heap.get?_push_of_some _ e)))
end
section
variable {X : Cx}
def gTupL (K : PySem.W.Frag) (n : Nat) (t : TGs) : TG := fun v σ H Q => ∃ a xs, v = .ref a ∧ SqL K H a xs ∧ xs.length = n ∧ t xs σ H Q
theorem pg_tupL {es : List Expr} {k : Nat} {t : TGs} {n : Nat} {pos : Pos} (hc : X.calm = true) (h : PGs X es t)
    (hn : (assignEach es X.env).length = n := by rfl) (hst : (assignEach es X.env).findIdx? (·.1) = none := by rfl) : PG X (.Tuple es k pos) (gTupL X.K n t) := by
  intro pins s σ H v u Q I r hw
  obtain ⟨a, xs, e1, hq, hl, hw⟩ := hw
  subst e1
  cases r
  obtain ⟨its, rv, ht, hz⟩ := I.list hq
  rw [assign_Tuple]
  refine wpAny_bind (wpAny_standAt (unpack_lst (I.ok.hd hc) ht.isList (by simp [hn, ← hl, rv.length]) hst fun h' hx => ?_))
  have I1 : Inv X pins σ H { s with heap := h' } := I.kept (t' := s.toks) fun b o e => hx b o (Nat.ne_of_lt (Heap.lt_size e)) e
  exact h pins _ σ H xs _ Q I1 (by simpa using rv) hw
theorem for_rev {K : PySem.W.Frag} {a : Addr} {xs : List V} {g : TG} {tb : TS} {D : Ends} {σ : St} {H : Hp} (Pv : Nat → St → Hp → Prop) (h0 : Pv 0 σ H) (hl : ∀ i σ H, i ≤ xs.length → Pv i σ H → SqL K H a xs)
    (hs : ∀ i x σ H, i < xs.length → xs[xs.length - 1 - i]? = some x → Pv i σ H → g x σ H fun σ2 H2 => tb { D with nx := Pv (i + 1), ct := Pv (i + 1), bk := D.nx } σ2 H2) (hd : ∀ σ H, Pv xs.length σ H → D.nx σ H) :
    ∃ W : Nat → Nat → St → Hp → Prop, (∃ m, W 0 m σ H) ∧ ∀ i m σ H, W i m σ H →
      ((Itv K a xs).stop i H ∧ D.nx σ H) ∨ ((Itv K a xs).go i H ∧ ∃ N : St → Hp → Prop, (∀ σ' H', N σ' H' → ∃ m', m' < m ∧ W (i + 1) m' σ' H') ∧ ∀ x H', (Itv K a xs).yld i H x H' → g x σ H' fun σ2 H2 => tb { D with nx := N, ct := N, bk := D.nx } σ2 H2) := by
  refine ⟨fun i m σ H => m = xs.length - i ∧ i ≤ xs.length ∧ Pv i σ H, ⟨xs.length, by simp, Nat.zero_le _, h0⟩, ?_⟩
  rintro i m σ H ⟨rfl, hi, p⟩
  have q := hl i σ H hi p
  by_cases hlt : i < xs.length
  · refine .inr ⟨⟨q, hlt⟩, Pv (i + 1), fun σ' H' p' => ⟨xs.length - (i + 1), by omega, rfl, hlt, p'⟩, fun x H' y => ?_⟩
    obtain ⟨e, ex⟩ := y
    subst e
    exact hs i x σ _ hlt ex p
  · have e : i = xs.length := by omega
    subst e
    exact .inl ⟨⟨q, rfl⟩, hd σ H p⟩
end
end L2

/-! DICTS WITH TUPLES FOR KEYS: WALKED, AND COMPARED (own work). -/
namespace L2
open PySem PySem.Spec PyProof.Rows
section
variable {X : Cx} {pins : List (Addr × Obj)} {σ : St} {H : Hp} {s : Shared} {a : Addr} {kvs : List (List Key × V)} {o : Obj}
theorem Inv.frzT (I : Inv X pins σ H s) (e : H a = some (.dT kvs)) (ho : s.heap.get? a = some o) : Inv X pins σ (upd H a (.frz o (.dT kvs))) s := by
  have ne : ∀ b u, H b = some u → u ≠ .dT kvs → b ≠ a := fun b u q n z => by
    subst z
    rw [e] at q
    exact n (Option.some.inj q).symm
  have nn : ∀ b, H b = none → b ≠ a := fun b q z => by subst z; rw [e] at q; cases q
  refine ⟨I.ok, I.os, I.bare, ⟨I.base.keep, I.base.slot, fun b ob q n hx => ?_, I.base.there, fun b xs q => ?_, fun b ob u q => ?_, fun b ps q => ?_⟩, I.loc, I.cell, ?_, fun x c q => ?_, fun p hp => ?_, fun b u q => ?_, I.len⟩
  · have h := I.base.free b ob q n hx
    rw [upd_ne (nn b h)]
    exact h
  · have h := I.base.tups b xs q
    rw [upd_ne (ne b _ h (by simp))]
    exact h
  · have h := I.base.frzs b ob u q
    rw [upd_ne (ne b _ h (by simp))]
    exact h
  · obtain ⟨m, h⟩ := I.base.tbls b ps q
    exact ⟨m, by rw [upd_ne (ne b _ h (by simp))]; exact h⟩
  · rw [upd_ne (nn _ I.free)]
    exact I.free
  · rw [upd_ne (nn _ (I.freeC x c q))]
    exact I.freeC x c q
  · obtain ⟨h1, h2, h3⟩ := I.pin p hp
    exact ⟨h1, by rw [upd_ne (nn _ h2)]; exact h2, h3⟩
  · by_cases hb : b = a
    · subst hb
      rw [upd_same] at q
      cases q
      exact ⟨ho, (I.hok b _ e).stay (fun c v _ r => r) (fun c r => by rw [upd_ne (ne c _ r (by simp))]; exact r) fun c xs r => by rw [upd_ne (ne c _ r (by simp))]; exact r⟩
    · rw [upd_ne hb] at q
      exact (I.hok b u q).stay (fun c v _ r => r) (fun c r => by rw [upd_ne (ne c _ r (by simp))]; exact r) fun c xs r => by rw [upd_ne (ne c _ r (by simp))]; exact r
theorem Inv.thwT (I : Inv X pins σ H s) (n0 : ∀ ob u, X.H₀ a ≠ some (.frz ob u)) (e : H a = some (.frz o (.dT kvs))) : Inv X pins σ (upd H a (.dT kvs)) s := by
  have ne : ∀ b u, H b = some u → u ≠ .frz o (.dT kvs) → b ≠ a := fun b u q n z => by
    subst z
    rw [e] at q
    exact n (Option.some.inj q).symm
  have nn : ∀ b, H b = none → b ≠ a := fun b q z => by subst z; rw [e] at q; cases q
  refine ⟨I.ok, I.os, I.bare, ⟨I.base.keep, I.base.slot, fun b ob q n hx => ?_, I.base.there, fun b xs q => ?_, fun b ob u q => ?_, fun b ps q => ?_⟩, I.loc, I.cell, ?_, fun x c q => ?_, fun p hp => ?_, fun b u q => ?_, I.len⟩
  · have h := I.base.free b ob q n hx
    rw [upd_ne (nn b h)]
    exact h
  · have h := I.base.tups b xs q
    rw [upd_ne (ne b _ h (by simp))]
    exact h
  · have h := I.base.frzs b ob u q
    rw [upd_ne (fun z => by subst z; exact n0 _ _ q)]
    exact h
  · obtain ⟨m, h⟩ := I.base.tbls b ps q
    exact ⟨m, by rw [upd_ne (ne b _ h (by simp))]; exact h⟩
  · rw [upd_ne (nn _ I.free)]
    exact I.free
  · rw [upd_ne (nn _ (I.freeC x c q))]
    exact I.freeC x c q
  · obtain ⟨h1, h2, h3⟩ := I.pin p hp
    exact ⟨h1, by rw [upd_ne (nn _ h2)]; exact h2, h3⟩
  · by_cases hb : b = a
    · subst hb
      rw [upd_same] at q
      cases q
      exact (show ObjOk X.prog X.w H s.heap b (.dT kvs) from (I.hok b _ e).2).stay (fun c v _ r => r) (fun c r => by rw [upd_ne (ne c _ r (by simp))]; exact r) fun c xs r => by rw [upd_ne (ne c _ r (by simp))]; exact r
    · rw [upd_ne hb] at q
      exact (I.hok b u q).stay (fun c v _ r => r) (fun c r => by rw [upd_ne (ne c _ r (by simp))]; exact r) fun c xs r => by rw [upd_ne (ne c _ r (by simp))]; exact r
theorem Inv.dt_obj (I : Inv X pins σ H s) (e : H a = some (.dT kvs)) : ∃ o, s.heap.get? a = some o := by
  obtain ⟨_, _, _, _, o, _, _, g, _⟩ := I.hok a _ e
  exact ⟨o, g⟩
theorem Inv.not_frzT (I : Inv X pins σ H s) (e : H a = some (.dT kvs)) : ∀ ob u, X.H₀ a ≠ some (.frz ob u) := fun ob u q => by
  have := I.base.frzs a ob u q
  rw [e] at this
  cases this
/-- a statement, an expression, while a dict stands frozen -/
def frzET (a : Addr) (o : Obj) (kvs : List (List Key × V)) (D : Ends) : Ends where
  nx := fun σ' H' => H' a = some (.frz o (.dT kvs)) ∧ D.nx σ' (upd H' a (.dT kvs))
  rt := fun v H' => H' a = some (.frz o (.dT kvs)) ∧ D.rt v (upd H' a (.dT kvs))
  bk := fun σ' H' => H' a = some (.frz o (.dT kvs)) ∧ D.bk σ' (upd H' a (.dT kvs))
  ct := fun σ' H' => H' a = some (.frz o (.dT kvs)) ∧ D.ct σ' (upd H' a (.dT kvs))
def sFrzT (t : TS) : TS := fun D σ H => ∃ a kvs, H a = some (.dT kvs) ∧ ∀ o, t (frzET a o kvs D) σ (upd H a (.frz o (.dT kvs)))
theorem ps_frzT {st : Stmt} {t : TS} (h : PS X st t) : PS X st (sFrzT t) := by
  intro pins s σ H D I hq
  obtain ⟨a, kvs, e, q⟩ := hq
  obtain ⟨o, ho⟩ := I.dt_obj e
  have n0 := I.not_frzT e
  refine thn (h pins s σ _ _ (I.frzT e ho) (q o)) fun f s' hs => ?_
  cases f with
  | next => obtain ⟨σ', H', I', e', z⟩ := hs; exact ⟨σ', _, I'.thwT n0 e', z⟩
  | brk => obtain ⟨σ', H', I', e', z⟩ := hs; exact ⟨σ', _, I'.thwT n0 e', z⟩
  | cont => obtain ⟨σ', H', I', e', z⟩ := hs; exact ⟨σ', _, I'.thwT n0 e', z⟩
  | ret u => obtain ⟨v, σ', H', I', r, e', z⟩ := hs; exact ⟨v, σ', _, I'.thwT n0 e', r, z⟩
end
section
variable {prog : Program} {w : World} {A : Around} {E : Value → Shared → Prop} {s : Shared} {it d : Addr} {i ep : Nat} {od : Obj} {es : Array DictEntry}
theorem raw_iter {Q : Value → Shared → Prop} (nd : (d == sysModules) = false) (ho : s.heap.get? d = some od) (ex : od.ExactDict) (hd : od.data = .dict es ep)
    (hQ : Q (.ref s.heap.objs.size) { s with heap := s.heap.push { cls := .type "dict_keyiterator", data := .fields #[.ref d, .int 0 0, .int es.size 0, .int ep 0] } }) :
    wpAny (model prog w) A (pyIter (.ref d)) Q E s := by
  have T : s.TypeIs (.ref d) "dict" := ⟨od, ho, ex.1⟩
  refine wpAny_pyIter_slot T F.slot_dict_iter (wpAny_call_entry F.slot_dict_iter T F.entry_dict_iter ?_ (F.args_dict_iter_1 _))
  unfold Builtin.«dict.__iter__» Builtin.Dict.dictSlotNone
  refine wpAny_bind (wpAny_bind (wpAny_notOrdered_dict T ?_))
  refine wpAny_pure (a := Value.ref d) ?_
  unfold Builtin.Dict.showsAll
  show wpAny _ _ ((if (d == sysModules) = true then _ else _) >>= _) _ _ s
  rw [nd]
  refine wpAny_bind (wpAny_pure (wpAny_bind (wpAny_dictEntries ho hd (wpAny_bind (wpAny_dictEpoch ho hd ?_)))))
  exact wpAny_bind (wpAny_newObj_type (wpAny_pure ⟨_, rfl, "dict_keyiterator", _, ⟨_, Heap.get?_push_size _ rfl, rfl⟩, F.slot_dict_keyiterator_next.lookup, hQ⟩))
theorem raw_next {Q : Option Value → Shared → Prop} (hit : s.heap.IsKeyIter it d i es.size ep) (ho : s.heap.get? d = some od) (hd : od.data = .dict es ep) (hi : i < es.size)
    (hQ : ∀ h', h'.IsKeyIter it d (i + 1) es.size ep → Heap.SameBut it s.heap h' → Q (some es[i].key) { s with heap := h' }) : wpAny (model prog w) A (pyNext (.ref it)) Q E s := by
  obtain ⟨oi, hoi, hc, hf⟩ := id hit
  have T := hit.typeIs
  unfold pyNext
  refine wpAny_bind (wpAny_attempt (wpAny_callSpecial?_slot (name := Str.ofString "__next__") T F.slot_dict_keyiterator_next (wpAny_call_entry F.slot_dict_keyiterator_next T F.entry_dict_keyiterator_next ?_ (F.args_dict_keyiterator_next_1 _))))
  refine wpAny_bind (wpAny_pure (wpAny_bind (wpAny_bind ?_)))
  refine wpAny_bind (wpAny_typeNameOfWhole_keyiter T (wpAny_pure (wpAny_bind (wpAny_fieldsOf hoi hf ?_))))
  simp only [show Builtin.Dict_items.ownsTuple "dict_keyiterator" = false by decide, Bool.false_eq_true, if_false]
  show wpAny _ _ (if (Value.ref d == Value.none) = true then _ else _) _ _ s
  rw [show (Value.ref d == Value.none) = false from rfl]
  refine wpAny_bind (wpAny_pure (wpAny_bind (wpAny_dictEntries ho hd ?_)))
  rw [if_neg (by simp)]
  refine wpAny_bind (wpAny_pure (wpAny_bind (wpAny_dictEpoch ho hd ?_)))
  rw [if_neg (by simp)]
  refine wpAny_pure ?_
  simp only [show ¬ ((i : Int) < 0) from by omega, if_false, Int.toNat_natCast, Array.getElem?_eq_getElem hi]
  refine wpAny_bind (wpAny_bind (wpAny_typeNameOfWhole_keyiter T (wpAny_pure ?_)))
  refine wpAny_bind (wpAny_isOneOf_keyiter T ?_)
  show wpAny _ _ (setField (.ref it) 1 (rawInt ((i : Int) + 1)) >>= _) _ _ s
  refine wpAny_bind (wpAny_setField hoi hf (by simp) ?_)
  generalize hu : s.heap.update it (Obj.mapFields (·.setIfInBounds 1 (rawInt ((i : Int) + 1)))) = h1
  have hit' : h1.IsKeyIter it d (i + 1) es.size ep := hu ▸ ⟨_, Heap.get?_update_self _ hoi (Obj.isFreed_of_fields (Obj.data_mapFields hf _)), (Obj.cls_mapFields ..).trans hc, by rw [Obj.data_mapFields hf]; simp [rawInt]⟩
  have sb : Heap.SameBut it s.heap h1 := hu ▸ Heap.SameBut.update ..
  refine wpAny_bind (wpAny_holding (wpAny_bind (wpAny_isOneOf_keyiter (s := { s with heap := h1 }) hit'.typeIs ?_)))
  exact wpAny_pure (wpAny_pure ⟨_, rfl, wpAny_pure (hQ _ hit' sb)⟩)
theorem raw_end {Q : Option Value → Shared → Prop} (hh : A.handled = none) (hit : s.heap.IsKeyIter it d i es.size ep) (ho : s.heap.get? d = some od) (hd : od.data = .dict es ep) (hi : es.size ≤ i)
    (hQ : ∀ h', Heap.ExtBut it s.heap h' → Q none { s with heap := h' }) : wpAny (model prog w) A (pyNext (.ref it)) Q E s := by
  obtain ⟨oi, hoi, hc, hf⟩ := id hit
  have T := hit.typeIs
  unfold pyNext
  refine wpAny_bind (wpAny_attempt (wpAny_callSpecial?_slot (name := Str.ofString "__next__") T F.slot_dict_keyiterator_next (wpAny_call_entry F.slot_dict_keyiterator_next T F.entry_dict_keyiterator_next ?_ (F.args_dict_keyiterator_next_1 _))))
  refine wpAny_bind (wpAny_pure (wpAny_bind (wpAny_bind ?_)))
  refine wpAny_bind (wpAny_typeNameOfWhole_keyiter T (wpAny_pure (wpAny_bind (wpAny_fieldsOf hoi hf ?_))))
  simp only [show Builtin.Dict_items.ownsTuple "dict_keyiterator" = false by decide, Bool.false_eq_true, if_false]
  show wpAny _ _ (if (Value.ref d == Value.none) = true then _ else _) _ _ s
  rw [show (Value.ref d == Value.none) = false from rfl]
  refine wpAny_bind (wpAny_pure (wpAny_bind (wpAny_dictEntries ho hd ?_)))
  rw [if_neg (by simp)]
  refine wpAny_bind (wpAny_pure (wpAny_bind (wpAny_dictEpoch ho hd ?_)))
  rw [if_neg (by simp)]
  refine wpAny_pure ?_
  simp only [show ¬ ((i : Int) < 0) from by omega, if_false, Int.toNat_natCast, Array.getElem?_eq_none hi]
  refine wpAny_bind (wpAny_bind (wpAny_typeNameOfWhole_keyiter T (wpAny_pure ?_)))
  show wpAny _ _ (setField (.ref it) 0 .none >>= _) _ _ s
  refine wpAny_bind (wpAny_setField hoi hf (by simp) ?_)
  show wpAny _ _ (newExc (.type "StopIteration") [] >>= _) _ _ _
  simp only [newExc, newTuple]
  refine wpAny_bind (wpAny_bind (wpAny_newObj_type ?_ (by size_fits)))
  refine wpAny_bind (m := firstArgMember _ _) (wpAny_of_eq (a := Value.none) (by first | rfl | (simp only [firstArgMember]; rfl)) (wpAny_newObj_type ?_ (by size_fits)))
  simp only [raiseNew]
  refine wpAny_bind (wpAny_handled ?_)
  rw [show A.in1.handled = none from hh]
  refine wpAny_bind (wpAny_pure (wpAny_throw ?_))
  refine (wpAny_bind (wpAny_isInstance (T := "StopIteration") (b := true) ⟨_, Heap.get?_push_size _ rfl, rfl⟩ isSubtype_stop ?_))
  exact wpAny_pure (hQ _ (((Heap.SameBut.update ..).extBut.push _).push _))
end
/-! ### the keys of a frozen dict with tuples for keys, one by one -/
def Itkt (a : Addr) (o : Obj) (kvs : List (List Key × V)) : It :=
  ⟨fun i H => i < kvs.length ∧ H a = some (.frz o (.dT kvs)), fun i H x H' => H' = H ∧ ∃ k v b, kvs[i]? = some (k, v) ∧ x = .ref b ∧ H b = some (.tup (k.map kV)), fun i H => kvs.length ≤ i ∧ H a = some (.frz o (.dT kvs))⟩
section
variable {X : Cx}
theorem pd_get {α β : Type} {F : α → β → Prop} : ∀ {l₁ : List α} {l₂ : List β} {i : Nat} {p : α}, Paired F l₁ l₂ → l₁[i]? = some p → ∃ q, l₂[i]? = some q ∧ F p q
  | _, _, _, _, .nil, e => by simp at e
  | _, _, 0, _, .cons (b := q) r _, e => by
    simp at e
    subst e
    exact ⟨q, rfl, r⟩
  | _, _, i + 1, p, .cons _ t, e => by
    obtain ⟨u, h1, h2⟩ := pd_get (i := i) (p := p) t (by simpa using e)
    exact ⟨u, by simpa using h1, h2⟩
theorem Inv.dtAt {pins : List (Addr × Obj)} {σ : St} {H : Hp} {s : Shared} {a : Addr} {o : Obj} {kvs : List (List Key × V)} (I : Inv X pins σ H s) (e : H a = some (.frz o (.dT kvs))) :
    ∃ es, s.heap.get? a = some o ∧ o.ExactDict ∧ o.data = .dict es (epOf o) ∧ es.size = kvs.length ∧ (a == sysModules) = false ∧ ∀ (i : Nat) (k : List Key) (v : V) (hi : i < es.size), kvs[i]? = some (k, v) → ∃ b, es[i].key = .ref b ∧ H b = some (.tup (k.map kV)) := by
  obtain ⟨g, _, hs, xs, pr, o', es, ep, g', ex, hd, hx, _⟩ := I.hok a _ e
  rw [g] at g'
  cases g'
  have he : epOf o = ep := by unfold epOf; rw [hd]
  have hl := Paired.length pr
  have hz : es.size = xs.length := by rw [← Array.length_toList, hx, List.length_map]
  refine ⟨es, g, ex, by rw [he]; exact hd, by omega, hs, fun i k v hi hk => ?_⟩
  obtain ⟨q, hq, e1, e2, _⟩ := pd_get pr hk
  have ee : es.toList[i]? = some (entryOfKey (tupleKind (mixKind X.prog X.w)) q) := by rw [hx, List.getElem?_map, hq]; rfl
  have e3 : es[i] = entryOfKey (tupleKind (mixKind X.prog X.w)) q := by
    have : es.toList[i]? = some es[i] := by simp [hi]
    rw [this] at ee
    exact Option.some.inj ee
  exact ⟨q.2.1, by rw [e3]; rfl, e2⟩
theorem turn_dt {P : Program} {w : World} {K : PySem.W.Frag} {tg : Expr} (a it : Addr) (o : Obj) (kvs : List (List Key × V)) : Turn P w K tg (Itkt a o kvs) [it] it (fun i h => h.IsKeyIter it a i kvs.length (epOf o)) where
  mem := by simp
  obj := fun i h st b hb => by
    have e : b = it := by simpa using hb
    subst e
    obtain ⟨o, e, c, d⟩ := st
    exact ⟨o, e, fun v z => by rw [d] at z; cases z⟩
  keep := fun i h h' st k => st.at fun o e => k it (by simp) o e
  item := by
    intro X hP hw hK hc i pins s σ H E I hf st hg
    subst hP hw hK
    obtain ⟨hi, hq⟩ := hg
    obtain ⟨es, g, ex, hd, hl, _, hk⟩ := I.dtAt hq
    obtain ⟨f0, f1, f2, f3, f4, f5⟩ := hf it (by simp)
    obtain ⟨b, kb, tb⟩ := hk i kvs[i].1 kvs[i].2 (by omega) (by simp [hi])
    rw [← hl] at st
    refine raw_next st g hd (by omega) fun h' st' sb => ?_
    rw [hl] at st'
    have I1 : Inv X pins σ H { s with heap := h' } := I.turned (t' := s.toks) (fun b o hb e => (sb.2 b hb).trans e) f0 f1 f3 f4 f5
    obtain ⟨oi, e, c, d⟩ := id st'
    exact ⟨_, rfl, go_of (s := { s with heap := h' }) e c d (by decide) ⟨.ref b, H, I1, kb, ⟨rfl, kvs[i].1, kvs[i].2, b, by simp [hi], rfl, tb⟩, st', fun b hb => (hf b hb).1⟩⟩
  done := by
    intro X hP hw hK hc i pins s σ H E I hf st hg
    subst hP hw hK
    obtain ⟨hi, hq⟩ := hg
    obtain ⟨es, g, ex, hd, hl, _, hk⟩ := I.dtAt hq
    obtain ⟨f0, f1, f2, f3, f4, f5⟩ := hf it (by simp)
    rw [← hl] at st
    exact raw_end (I.ok.hd hc) st g hd (by omega) fun h' eb => ⟨rfl, I.turned (t' := s.toks) (fun b o hb e => eb b o hb e) f0 f1 f3 f4 f5⟩
  self := fun _ _ _ _ _ st h => wpAny_pyIter_keyiter st h
def iDT (tl : TE) : TI := fun σ H R => tl σ H fun x H1 => ∃ a o kvs, x = .ref a ∧ H1 a = some (.frz o (.dT kvs)) ∧ R (Itkt a o kvs) H1
theorem pi_dT {tg l : Expr} {tl : TE} (hl : PE X l tl) : PI X tg l (iDT tl) := by
  intro pins s σ H R I h
  refine thn (hl pins s σ H _ I h) fun v s1 ⟨x, H1, I1, r1, q1⟩ => ?_
  obtain ⟨a, o, kvs, e, hq, q⟩ := q1
  subst e
  cases r1
  obtain ⟨es, g, ex, hd, hl, hs, hk⟩ := I1.dtAt hq
  refine raw_iter hs g ex hd ?_
  refine ⟨s1.heap.objs.size, [s1.heap.objs.size], _, _, H1, rfl, I1.kept (t' := s1.toks) fun b o e => Heap.get?_push_of_some _ e, turn_dt a _ o kvs, ⟨_, Heap.get?_push_size _ rfl, rfl, by rw [hl]; rfl⟩, fun b hb => ?_, q⟩
  have e : b = s1.heap.objs.size := by simpa using hb
  subst e
  exact I1.fpOk (Nat.le_refl _) (I1.hok.fresh (Nat.le_refl _))
theorem for_dT {a : Addr} {o : Obj} {kvs : List (List Key × V)} {g : TG} {tb : TS} {D : Ends} {σ : St} {H : Hp} (Pv : Nat → St → Hp → Prop) (h0 : Pv 0 σ H) (hl : ∀ i σ H, i ≤ kvs.length → Pv i σ H → H a = some (.frz o (.dT kvs)))
    (hs : ∀ i k v b σ H, kvs[i]? = some (k, v) → H b = some (.tup (k.map kV)) → Pv i σ H → g (.ref b) σ H fun σ2 H2 => tb { D with nx := Pv (i + 1), ct := Pv (i + 1), bk := D.nx } σ2 H2) (hd : ∀ σ H, Pv kvs.length σ H → D.nx σ H) :
    ∃ W : Nat → Nat → St → Hp → Prop, (∃ m, W 0 m σ H) ∧ ∀ i m σ H, W i m σ H →
      ((Itkt a o kvs).stop i H ∧ D.nx σ H) ∨ ((Itkt a o kvs).go i H ∧ ∃ N : St → Hp → Prop, (∀ σ' H', N σ' H' → ∃ m', m' < m ∧ W (i + 1) m' σ' H') ∧ ∀ x H', (Itkt a o kvs).yld i H x H' → g x σ H' fun σ2 H2 => tb { D with nx := N, ct := N, bk := D.nx } σ2 H2) := by
  refine ⟨fun i m σ H => m = kvs.length - i ∧ i ≤ kvs.length ∧ Pv i σ H, ⟨kvs.length, by simp, Nat.zero_le _, h0⟩, ?_⟩
  rintro i m σ H ⟨rfl, hi, p⟩
  have q := hl i σ H hi p
  by_cases hlt : i < kvs.length
  · refine .inr ⟨⟨hlt, q⟩, Pv (i + 1), fun σ' H' p' => ⟨kvs.length - (i + 1), by omega, rfl, hlt, p'⟩, fun x H' y => ?_⟩
    obtain ⟨e, k, v, b, hk, ex, hb⟩ := y
    subst e ex
    exact hs i k v b σ _ hk hb p
  · have e : i = kvs.length := by omega
    subst e
    exact .inl ⟨⟨Nat.le_refl _, q⟩, hd σ H p⟩
end
/-! ### != of two such dicts that are alike -/
section
variable {X : Cx}
theorem pd_back {α β : Type} {F : α → β → Prop} : ∀ {l₁ : List α} {l₂ : List β} {i : Nat} {q : β}, Paired F l₁ l₂ → l₂[i]? = some q → ∃ p, l₁[i]? = some p ∧ F p q
  | _, _, _, _, .nil, e => by simp at e
  | _, _, 0, _, .cons (a := p) r _, e => by
    simp at e
    subst e
    exact ⟨p, rfl, r⟩
  | _, _, i + 1, p, .cons _ t, e => by
    obtain ⟨u, h1, h2⟩ := pd_back (i := i) (q := p) t (by simpa using e)
    exact ⟨u, by simpa using h1, h2⟩
theorem ent_key {prog : Program} {w : World} {K : Type} [DecidableEq K] {knd : HeapKind prog w K} (x : K × Addr × Value) : (entryOfKey knd x).key = .ref x.2.1 := rfl
theorem ent_hash {prog : Program} {w : World} {K : Type} [DecidableEq K] {knd : HeapKind prog w K} (x : K × Addr × Value) : (entryOfKey knd x).hash = knd.hash x.1 := rfl
theorem ent_val {prog : Program} {w : World} {K : Type} [DecidableEq K] {knd : HeapKind prog w K} (x : K × Addr × Value) : (entryOfKey knd x).val = x.2.2 := rfl
theorem rcNe_dT {P : Program} {w : World} {K : Type} [DecidableEq K] {knd : HeapKind P w K} {A : Around} {s : Shared} {a b : Addr} {xs ys : List (K × Addr × Value)} (da : s.heap.DictOfH knd a xs) (db : s.heap.DictOfH knd b ys) (na : (a == sysModules) = false) (nb : (b == sysModules) = false) (hl : xs.length = ys.length)
    (he : ∀ (i : Nat) (x : K × Addr × Value), xs[i]? = some x → ∃ (j : Nat) (y : K × Addr × Value), ys[j]? = some y ∧ x.1 = y.1 ∧ SeqAt.EqAt A.in1 s x.2.2 y.2.2 true) (hr : knd.room A.in1) (hu : A.units < cLine) {E : Value → Shared → Prop} {Q : Value → Shared → Prop} (hq : Q (.bool false) s) : wpAny (model P w) A (richCompare .NotEq (.ref a) (.ref b)) Q E s := by
  obtain ⟨oa, es, ep, g1, x1, d1, l1, i1, n1⟩ := da
  obtain ⟨ob, fs, fp, g2, x2, d2, l2, i2, n2⟩ := db
  have Ta : s.TypeIs (.ref a) "dict" := ⟨oa, g1, x1.1⟩
  have Tb : s.TypeIs (.ref b) "dict" := ⟨ob, g2, x2.1⟩
  have z1 : es.size = xs.length := by rw [← Array.length_toList, l1, List.length_map]
  have z2 : fs.size = ys.length := by rw [← Array.length_toList, l2, List.length_map]
  refine wpAny_richCompare_same_room Ta Tb F.slot_dict_ne (wpAny_call_entry F.slot_dict_ne Ta F.entry_dict_ne ?_ (F.args_dict_ne_2 _ _)) hu
  rw [dict_ne_tree]
  refine wpAny_bind ?_
  show wpAny _ _ (pure (Value.ref a, Value.ref b)) _ _ _
  refine wpAny_pure ?_
  dsimp only
  refine wpAny_bind (wpAny_isInstance (T := "dict") (b := true) Tb sub_dict_dict ?_)
  simp only [Bool.not_true, Bool.false_eq_true, if_false]
  refine wpAny_bind (wpAny_pure (wpAny_bind (wpAny_pure (wpAny_bind (same_pairs g1 d1 g2 d2 na nb (by omega) (fun i e ei => ?_) ?_)))))
  · have hi : i < es.size := (Array.getElem?_eq_some_iff.mp ei).1
    have hx : xs[i]? = some xs[i] := List.getElem?_eq_getElem (by omega)
    have ee : e = entryOfKey knd xs[i] := by
      have : es.toList[i]? = some (entryOfKey knd xs[i]) := by rw [l1, List.getElem?_map, hx]; rfl
      rw [Array.getElem?_toList, ei] at this
      exact Option.some.inj this
    obtain ⟨j, y, hy, e1, hE⟩ := he i xs[i] hx
    have ef : fs[j]? = some (entryOfKey knd y) := by
      have : fs.toList[j]? = some (entryOfKey knd y) := by rw [l2, List.getElem?_map, hy]; rfl
      rwa [Array.getElem?_toList] at this
    refine ⟨j, _, ef, fun R hR => ?_, fun R hR => ?_⟩
    · rw [ee, ent_key, ent_hash]
      refine wpAny_dictFind_heap (k := xs[i].1) hr (i1 _ (List.getElem_mem _)) g2 d2 l2 i2 n2 (fun hno => ?_) (fun m pp hm => ?_)
      · refine absurd hy ?_
        have := hno j y.2
        rw [e1] at this
        exact this
      · have : m = j := by
          have a1 : (ys.map (·.1))[m]? = some xs[i].1 := by rw [List.getElem?_map, hm]; rfl
          have a2 : (ys.map (·.1))[j]? = some xs[i].1 := by rw [List.getElem?_map, hy, e1]; rfl
          obtain ⟨b1, c1⟩ := List.getElem?_eq_some_iff.mp a1
          obtain ⟨b2, c2⟩ := List.getElem?_eq_some_iff.mp a2
          rcases Nat.lt_trichotomy m j with z | z | z
          · exact absurd (c1.trans c2.symm) (List.pairwise_iff_getElem.mp n2 m j b1 b2 z)
          · exact z
          · exact absurd (c2.trans c1.symm) (List.pairwise_iff_getElem.mp n2 j m b2 b1 z)
        rw [this]
        exact hR
    · rw [ee, ent_val, ent_val]
      exact hE P w E R hR
  · exact wpAny_pure ⟨_, rfl, (fun z => nomatch z), hq⟩
theorem op_neTT : OpR X (compareOp .NotEq) (fun x y H Q => ∃ (n : Nat) (a b : Addr) (kvs kws : List (List Key × V)), x = .ref a ∧ y = .ref b ∧ Rd H a (.dT kvs) ∧ Rd H b (.dT kws) ∧ kvs.length = kws.length ∧ (∀ (k : List Key) (v : V), (k, v) ∈ kvs → ∃ v', (k, v') ∈ kws ∧ Dq H n v v') ∧ X.A.units + n + 1 < cLine ∧ Q (.bl false) H) := by
  intro pins s σ H x y v u Q I rx ry h
  obtain ⟨n, a, b, kvs, kws, rfl, rfl, ha, hb, hl, hf, hu, q⟩ := h
  cases rx
  cases ry
  obtain ⟨_, na, xs, kt, da⟩ := dt_rd I.hok ha
  obtain ⟨_, nb, ys, ku, db⟩ := dt_rd I.hok hb
  have k1 := Paired.length kt
  have k2 := Paired.length ku
  refine rcNe_dT (A := X.A) da db na nb (by omega) (fun i x hx => ?_) (show X.A.units + 1 < cLine by omega) (by omega) ⟨.bl false, H, I, rfl, q⟩
  obtain ⟨p, hp, e1, e2, e3⟩ := pd_back kt hx
  obtain ⟨v', hv', dq⟩ := hf p.1 p.2 (List.mem_of_getElem? hp)
  obtain ⟨j, hj⟩ := List.getElem?_of_mem hv'
  obtain ⟨y, hy, r1, r2, r3⟩ := pd_get ku hj
  exact ⟨j, y, hy, e1.symm.trans r1, eqAt_Dq I dq e3 r3 (by show X.A.units + 1 + n < cLine; omega)⟩
end
end L2

namespace My
open PySem L2 PyProof.Rows
seal L2.PE L2.PT L2.PW L2.PS L2.PSs L2.PA L2.PI L2.PG L2.PGs L2.OpR L2.UnR L2.CallR L2.IxR L2.SlR L2.MtR L2.PIf L2.PO L2.MtM L2.PC
theorem flat_get {α β γ : Type} (f : α → β → γ) (ys : List β) : ∀ (xs : List α) (p : Nat), p < xs.length * ys.length → ∃ a b, xs[p / ys.length]? = some a ∧ ys[p % ys.length]? = some b ∧ (xs.flatMap fun x => ys.map (f x))[p]? = some (f a b)
  | [], p, h => by simp at h
  | x :: r, p, h => by
    have m0 : 0 < ys.length := by
      rcases Nat.eq_zero_or_pos ys.length with e | e
      · rw [e, Nat.mul_zero] at h; omega
      · exact e
    by_cases hp : p < ys.length
    · refine ⟨x, ys[p], by rw [Nat.div_eq_of_lt hp]; rfl, by rw [Nat.mod_eq_of_lt hp]; exact List.getElem?_eq_getElem hp, ?_⟩
      rw [List.flatMap_cons, List.getElem?_append_left (by rw [List.length_map]; exact hp), List.getElem?_map, List.getElem?_eq_getElem hp]
      rfl
    · obtain ⟨a, b, h1, h2, h3⟩ := flat_get f ys r (p - ys.length) (by rw [List.length_cons, Nat.succ_mul] at h; omega)
      refine ⟨a, b, ?_, ?_, ?_⟩
      · rw [Nat.div_eq_sub_div m0 (by omega), List.getElem?_cons_succ]
        exact h1
      · rw [Nat.mod_eq_sub_mod (by omega)]
        exact h2
      · rw [List.flatMap_cons, List.getElem?_append_right (by rw [List.length_map]; omega), List.length_map]
        exact h3
theorem smallW_snoc (wl : Str → Str → List V) (t : Str) (cols : List Str) (c : Str) : smallW wl t (cols ++ [c]) = (smallW wl t cols).flatMap fun r => (wl t c).map fun v => r ++ [(c, v)] := by
  unfold smallW
  rw [List.foldl_append]
  rfl
theorem manyR_snoc (wl : Str → Str → List V) (t : Str) (cols : List Str) (c : Str) : manyR wl t (cols ++ [c]) = manyR wl t cols * (wl t c).length := by
  unfold manyR
  rw [List.foldl_append]
  rfl
theorem take_last {α : Type} {xs : List α} {j : Nat} (h : j < xs.length) : xs.take (j + 1) = xs.take j ++ [xs[j]] := by
  rw [List.take_succ, List.getElem?_eq_getElem h]
  rfl
/-- a row by its place -/
def spLRow (K : PySem.W.Frag) : Sp := fun vs H Q _ => ∃ (lc d : Addr) (t : Str) (cols : List Str) (n : Nat) (row : Rw) (W : List ((Str × Str) × Addr)) (wl : Str → Str → List V), vs = [.ref d, .str t, .ref lc, .int (n : Nat)] ∧ SqL K H lc (cols.map V.str) ∧ VlAt H d W wl ∧ (∀ c ∈ cols, (t, c) ∈ W.map (·.1) ∧ (wl t c).length ≤ 3) ∧ cols.length ≤ 2 ∧ cols.Nodup ∧ (smallW wl t cols)[n]? = some row ∧ ∀ r H', Same H H' → cut H H' r = some (.dK (rK row.reverse)) → Q (.ref r) H'
section
variable {P : Program} {w : World} {K : PySem.W.Frag} {mg : Str → Option Value} {base : Heap}
theorem ok_lrow {f : Addr} {fd : FuncData} (F : Fun K "_law_row" "_law_row" (top 29) f fd) (B : Bl mg) (hV : mg "reversed" = none) (hD : mg "divmod" = none) : FnOk P w K mg base CX0 1 f fd ["_law_values_here", "_law_name", "_law_columns", "_law_place"] (spLRow K) := by
  have sc : FnScope ["_law_values_here", "_law_name", "_law_columns", "_law_place", "_law_row_here", "_law_column", "_law_digit"] ["_law_values_here", "_law_name", "_law_columns", "_law_place"] (defScope (top 29)) := ⟨rfl, rfl, rfl, by decide +kernel, rfl, by decide +kernel, by decide +kernel⟩
  refine F.ok sc (fun vs H Q E h => ?_) (fun cdv A outer s H vs Q E hr h => ?_)
  · obtain ⟨lc, d, t, cols, n, row, W, wl, rfl, _⟩ := h
    rfl
  · obtain ⟨lc, d, t, cols, n, row, W, wl, rfl, hl, hV', hin, h2, cnd, hrow, q⟩ := h
    have hu : (A.deeper (envOfC "_law_row" (defScope (top 29)) s.heap.objs.size f cdv)).units + 1 < cLine := hu_of hr
    refine ⟨_, pss_cons (ps_set (i := 4) sc.nd rfl (Or.inl rfl) pe_dnewK)
      (pss_cons (ps_for PassesOwn.never rfl (pi_rev (by rfl) hV (pa_cons (pv 2) pa_nil)) (pg_name (i := 5) sc.nd rfl (Or.inl rfl))
        (pss_cons (ps_asg (pe_callB call_divmod (by rfl) hD PyProof.Rows.boot_divmod (pa_cons (pv 3) (pa_cons (pe_callB call_len_seq (by rfl) B.len PySem.boot_len (pa_cons (pe_dget hu (pv 0) (pe_tup (pa_cons (pv 1) (pa_cons (pv 5) pa_nil))) (fun _ _ => rfl)) pa_nil)) pa_nil))) (pg_tup rfl (pgs_cons (pg_name (i := 3) sc.nd rfl (Or.inl rfl)) (pgs_cons (pg_name (i := 6) sc.nd rfl (Or.inl rfl)) pgs_nil))))
        (pss_one (ps_dput hu (pv 4) (pv 5) (pe_ix ix_list (pe_dget hu (pv 0) (pe_tup (pa_cons (pv 1) (pa_cons (pv 5) pa_nil))) (fun _ _ => rfl)) (pv 6) (fun _ _ => rfl)) rfl))))
      (pss_one (ps_ret (pv 4)))), ?_⟩
    refine fun r hr0 => ?_
    have S0 := Same.upd (o := .dK []) hr0
    have e0 : (upd H r (.dK [])) r = some (.dK []) := upd_same
    generalize upd H r (.dK []) = H0 at *
    have cl : (cols.map V.str).length = cols.length := List.length_map ..
    refine ⟨_, rfl, lc, _, rfl, S0.seq hl, for_rev (K := K) (a := lc) (xs := cols.map V.str) (fun i σ H' => Same H H' ∧ ∃ (p : Nat) (sr row0 : Rw) (u5 u6 : Option V), σ = [some (.ref d), some (.str t), some (.ref lc), some (.int (p : Nat)), some (.ref r), u5, u6] ∧ H' r = some (.dK (rK sr.reverse)) ∧ sr.map (·.1) = cols.drop (cols.length - i) ∧ (smallW wl t (cols.take (cols.length - i)))[p]? = some row0 ∧ row = row0 ++ sr) ⟨S0, n, [], row, _, _, rfl, e0, by rw [Nat.sub_zero, List.drop_length]; rfl, by rw [Nat.sub_zero, List.take_length]; exact hrow, by rw [List.append_nil]⟩ (fun i σ H' _ p => p.1.seq hl) ?_ ?_⟩
    · rintro i x σ H' hi hx ⟨sm, p, sr, row0, u5, u6, rfl, hr', hsr, hp, er⟩
      rw [cl] at hi hx
      obtain ⟨j, hj⟩ : ∃ j, cols.length - i = j + 1 := ⟨cols.length - i - 1, by omega⟩
      have hjl : j < cols.length := by omega
      rw [show cols.length - 1 - i = j by omega, List.getElem?_map, List.getElem?_eq_getElem hjl] at hx
      cases hx
      rw [hj] at hsr hp
      rw [show cols.length - (i + 1) = j by omega]
      rw [take_last hjl, smallW_snoc] at hp
      have hpl : p < (smallW wl t (cols.take j)).length * (wl t cols[j]).length := by
        have := (List.getElem?_eq_some_iff.mp hp).1
        rwa [← smallW_snoc, smallW_len, manyR_snoc, ← smallW_len] at this
      obtain ⟨ra, v, g1, g2, g3⟩ := flat_get (fun (r : Rw) v => r ++ [(cols[j], v)]) (wl t cols[j]) _ p hpl
      rw [g3] at hp
      cases hp
      obtain ⟨hm, h3⟩ := hin _ (List.getElem_mem hjl)
      obtain ⟨x, hx, ex⟩ := List.mem_map.mp hm
      have ex1 : x.1.1 = t := by rw [ex]
      have ex2 : x.1.2 = cols[j] := by rw [ex]
      have m0 : 0 < (wl t cols[j]).length := by
        rcases Nat.eq_zero_or_pos (wl t cols[j]).length with e | e
        · rw [e, Nat.mul_zero] at hpl; omega
        · exact e
      refine ⟨_, rfl, _, rfl, _, rfl, _, rfl, (by show 2 ≤ sizeLine; decide), fun b hb => ?_⟩
      have T1 := Same.upd (o := .tup [.str t, .str cols[j]]) hb
      have e1 : (upd H' b (.tup [.str t, .str cols[j]])) b = some (.tup [.str t, .str cols[j]]) := upd_same
      generalize upd H' b (.tup [.str t, .str cols[j]]) = H1 at *
      have hV1 := hV'.same (sm.trans T1)
      have lx := hV1.2.2 x hx
      rw [ex1, ex2] at lx
      refine ⟨d, .ref x.2, rfl, hV1.get hx (by rw [ex1, ex2]; exact e1), x.2, _, rfl, .inl (SqL.of lx), _, _, rfl, ⟨by omega, by omega⟩, fun dm hdm => ?_⟩
      rw [← Int.natCast_ediv, ← Int.natCast_emod]
      have T2 := Same.upd (o := .tup [.int ((p / (wl t cols[j]).length : Nat) : Int), .int ((p % (wl t cols[j]).length : Nat) : Int)]) hdm
      have e2 : (upd H1 dm (.tup [.int ((p / (wl t cols[j]).length : Nat) : Int), .int ((p % (wl t cols[j]).length : Nat) : Int)])) dm = some (.tup [.int ((p / (wl t cols[j]).length : Nat) : Int), .int ((p % (wl t cols[j]).length : Nat) : Int)]) := upd_same
      generalize upd H1 dm (.tup [.int ((p / (wl t cols[j]).length : Nat) : Int), .int ((p % (wl t cols[j]).length : Nat) : Int)]) = H2 at *
      refine ⟨dm, _, rfl, SqT.of e2, rfl, _, _, rfl, _, _, rfl, rfl, ?_⟩
      refine ⟨_, rfl, _, rfl, _, rfl, (by show 2 ≤ sizeLine; decide), fun b' hb' => ?_⟩
      have T3 := Same.upd (o := .tup [.str t, .str cols[j]]) hb'
      have e3 : (upd H2 b' (.tup [.str t, .str cols[j]])) b' = some (.tup [.str t, .str cols[j]]) := upd_same
      generalize upd H2 b' (.tup [.str t, .str cols[j]]) = H3 at *
      have T13 := T1.trans (T2.trans T3)
      have hV3 := hV1.same (T2.trans T3)
      have lx3 := (T2.trans T3) _ _ lx
      refine ⟨d, .ref x.2, rfl, hV3.get hx (by rw [ex1, ex2]; exact e3), _, rfl, x.2, _, _, v, rfl, rfl, SqL.of lx3, atI_nat g2, ?_⟩
      have hr3 := T13 _ _ hr'
      have hnew : valV (rK sr.reverse) (.inr cols[j]) = none := valV_key fun hm => by
        obtain ⟨y, hy, ey⟩ := List.mem_map.mp hm
        obtain ⟨c, hc, rfl⟩ := List.mem_map.mp hy
        injection ey with ey
        have : c.1 ∈ sr.map (·.1) := List.mem_map.mpr ⟨c, List.mem_reverse.mp hc, rfl⟩
        rw [hsr, ey] at this
        have nd := cnd
        rw [← List.take_append_drop (j + 1) cols, List.nodup_append] at nd
        exact nd.2.2 cols[j] (by rw [take_last hjl]; exact List.mem_append_right _ List.mem_cons_self) _ this rfl
      have srl : sr.length ≤ 2 := by
        have := congrArg List.length hsr
        rw [List.length_map, List.length_drop] at this
        omega
      refine ⟨_, rfl, _, rfl, r, _, rfl, .inl ⟨_, .inr cols[j], hr3, rfl, (by unfold rK; rw [List.length_map, List.length_reverse, sizeLine_eq]; omega), rfl⟩, ?_⟩
      rw [putK_new _ hnew]
      refine ⟨(sm.trans T13).put hr0, _, (cols[j], v) :: sr, ra, _, _, rfl, ?_, ?_, g1, ?_⟩
      · rw [upd_same, List.reverse_cons]
        unfold rK
        rw [List.map_append]
        rfl
      · rw [List.map_cons, hsr, List.drop_eq_getElem_cons hjl]
      · rw [er, List.append_assoc]
        rfl
    · rintro σ H' ⟨sm, p, sr, row0, u5, u6, rfl, hr', hsr, hp, er⟩
      rw [cl, Nat.sub_self, List.take_zero] at hp
      have e0 : row0 = [] := by
        have : smallW wl t [] = [[]] := rfl
        rw [this] at hp
        match p, hp with
        | 0, hp => cases hp; rfl
      rw [e0, List.nil_append] at er
      subst er
      exact ⟨_, rfl, q r H' sm (cut_at hr0 hr')⟩
end
end My

namespace My
open PySem L2 PyProof.Rows
seal L2.PE L2.PT L2.PW L2.PS L2.PSs L2.PA L2.PI L2.PG L2.PGs L2.OpR L2.UnR L2.CallR L2.IxR L2.SlR L2.MtR L2.PIf L2.PO L2.MtM L2.PC
theorem cut_mv {H0 H1 H2 H3 : Hp} (h0 : ∀ b, H1 b = none → H0 b = none) (h : ∀ b o, H1 b = none → H2 b = some o → H3 b = some o) : Same (cut H1 H2) (cut H0 H3) := fun b o e => cut_at (h0 b (cut_new e)) (h b o (cut_new e) (cut_sub _ _ e))
def chP (so : Str) (n : Nat) : Nat := if so = "many" then n - 1 else n
theorem choices_get {α : Type} {so : Str} {ws : List α} {n : Nat} {rows : List α} (hs : so ∈ sorts) (h : (choicesG so ws)[n]? = some rows) :
    (so = "many" ∧ n = 0 ∧ rows = []) ∨ ((so = "many" → 1 ≤ n) ∧ ((chP so n < ws.length ∧ ∃ a, ws[chP so n]? = some a ∧ rows = [a]) ∨ (ws.length ≤ chP so n ∧ 0 < ws.length ∧ ∃ a b, ws[(chP so n - ws.length) / ws.length]? = some a ∧ ws[(chP so n - ws.length) % ws.length]? = some b ∧ rows = [a, b]))) := by
  have one : ∀ p : Nat, p < ws.length → (ws.map fun a => [a])[p]? = some rows → ∃ a, ws[p]? = some a ∧ rows = [a] := fun p hp e => by
    rw [List.getElem?_map, List.getElem?_eq_getElem hp] at e
    exact ⟨_, List.getElem?_eq_getElem hp, (Option.some.inj e).symm⟩
  have tail : ∀ p : Nat, ((ws.map fun a => [a]) ++ ws.flatMap fun a => ws.map fun b => [a, b])[p]? = some rows → ((p < ws.length ∧ ∃ a, ws[p]? = some a ∧ rows = [a]) ∨ (ws.length ≤ p ∧ 0 < ws.length ∧ ∃ a b, ws[(p - ws.length) / ws.length]? = some a ∧ ws[(p - ws.length) % ws.length]? = some b ∧ rows = [a, b])) := fun p e => by
    by_cases hp : p < ws.length
    · rw [List.getElem?_append_left (by rw [List.length_map]; exact hp)] at e
      exact .inl ⟨hp, one p hp e⟩
    · rw [List.getElem?_append_right (by rw [List.length_map]; omega), List.length_map] at e
      have hl : p - ws.length < ws.length * ws.length := by
        have := (List.getElem?_eq_some_iff.mp e).1
        have e2 : (ws.flatMap fun a => ws.map fun b => [a, b]).length = ws.length * ws.length := by
          have : ∀ r : List α, (r.flatMap fun a => ws.map fun b => [a, b]).length = r.length * ws.length := fun r => by
            induction r with
            | nil => simp
            | cons a r ih => rw [List.flatMap_cons, List.length_append, ih, List.length_cons, Nat.succ_mul, List.length_map]; omega
          exact this ws
        rwa [e2] at this
      obtain ⟨a, b, g1, g2, g3⟩ := flat_get (fun a b : α => [a, b]) ws ws _ hl
      rw [g3] at e
      refine .inr ⟨by omega, ?_, a, b, g1, g2, (Option.some.inj e).symm⟩
      rcases Nat.eq_zero_or_pos ws.length with z | z
      · rw [z] at hl; omega
      · exact z
  have hc : so = "head" ∨ so = "twin" ∨ so = "many" ∨ so = "some" := by simpa [sorts] using hs
  unfold choicesG at h
  unfold chP
  rcases hc with rfl | rfl | rfl | rfl
  · rw [if_pos (by decide +kernel)] at h
    rw [if_neg (by decide +kernel)]
    have hn : n < ws.length := by have := (List.getElem?_eq_some_iff.mp h).1; rwa [List.length_map] at this
    exact .inr ⟨fun e => absurd e (by decide +kernel), .inl ⟨hn, one n hn h⟩⟩
  · rw [if_pos (by decide +kernel)] at h
    rw [if_neg (by decide +kernel)]
    have hn : n < ws.length := by have := (List.getElem?_eq_some_iff.mp h).1; rwa [List.length_map] at this
    exact .inr ⟨fun e => absurd e (by decide +kernel), .inl ⟨hn, one n hn h⟩⟩
  · rw [if_neg (by decide +kernel), if_pos rfl, List.append_assoc] at h
    rw [if_pos rfl]
    cases n with
    | zero => exact .inl ⟨rfl, rfl, (Option.some.inj h).symm⟩
    | succ n => exact .inr ⟨fun _ => by omega, tail n h⟩
  · rw [if_neg (by decide +kernel), if_neg (by decide +kernel), List.nil_append] at h
    rw [if_neg (by decide +kernel)]
    exact .inr ⟨fun e => absurd e (by decide +kernel), tail n h⟩
def revR (rows : List Rw) : List Rw := rows.map List.reverse
def spLRows (K : PySem.W.Frag) : Sp := fun vs H Q _ => ∃ (lc d : Addr) (t so : Str) (cols : List Str) (n : Nat) (rows : List Rw) (W : List ((Str × Str) × Addr)) (wl : Str → Str → List V), vs = [.ref d, .str t, .str so, .ref lc, .int (n : Nat)] ∧ SqL K H lc (cols.map V.str) ∧ VlAt H d W wl ∧ (∀ c ∈ cols, (t, c) ∈ W.map (·.1) ∧ (wl t c).length ≤ 3) ∧ cols.length ≤ 2 ∧ cols.Nodup ∧ so ∈ sorts ∧ (choicesG so (smallW wl t cols))[n]? = some rows ∧ ∀ r H', Same H H' → RowsAt (cut H H') r (revR rows) → Q (.ref r) H'
section
variable {P : Program} {w : World} {K : PySem.W.Frag} {mg : Str → Option Value} {base : Heap}
theorem ok_lrows {f fC fR : Addr} {fd fdC fdR : FuncData} (F : Fun K "_law_rows" "_law_rows" (top 30) f fd) (B : Bl mg) (hV : mg "reversed" = none) (hD : mg "divmod" = none) (DC : Df K mg "_law_choices" (top 27) fC fdC) (DR : Df K mg "_law_row" (top 29) fR fdR) : FnOk P w K mg base CX0 2 f fd ["_law_values_here", "_law_name", "_law_sort", "_law_columns", "_law_place"] (spLRows K) := by
  have sc : FnScope ["_law_values_here", "_law_name", "_law_sort", "_law_columns", "_law_place", "_law_many", "_law_first", "_law_second"] ["_law_values_here", "_law_name", "_law_sort", "_law_columns", "_law_place"] (defScope (top 30)) := ⟨rfl, rfl, rfl, by decide +kernel, rfl, by decide +kernel, by decide +kernel⟩
  have GC : FnOk P w K mg base CX0 1 fC fdC ["_law_values_here", "_law_name", "_law_columns"] (spChL K) := ok_chL DC.fn B
  have bC := DC.fn.binds (ps := ["_law_values_here", "_law_name", "_law_columns"]) fun _ _ _ _ _ _ us hl => by obtain ⟨v0, v1, v2, rfl⟩ := L2.ln3 hl; rfl
  have GR : FnOk P w K mg base CX0 1 fR fdR ["_law_values_here", "_law_name", "_law_columns", "_law_place"] (spLRow K) := ok_lrow DR.fn B hV hD
  have bR := DR.fn.binds (ps := ["_law_values_here", "_law_name", "_law_columns", "_law_place"]) fun _ _ _ _ _ _ us hl => by obtain ⟨v0, v1, v2, v3, rfl⟩ := L2.ln4 hl; rfl
  refine F.ok sc (fun vs H Q E h => ?_) (fun cdv A outer s H vs Q E hr h => ?_)
  · obtain ⟨lc, d, t, so, cols, n, rows, W, wl, rfl, _⟩ := h
    rfl
  · obtain ⟨lc, d, t, so, cols, n, rows, W, wl, rfl, hl, hV', hin, h2, cnd, hso, hrows, q⟩ := h
    refine ⟨_, pss_cons (ps_set (i := 5) sc.nd rfl (Or.inl rfl) (pe_call GC hr (by rfl) DC.mg DC.fn.kp bC .nil pass0 (pa_cons (pv 0) (pa_cons (pv 1) (pa_cons (pv 3) pa_nil)))))
      (pss_cons (ps_if (pt_cmpR op_eq (pv 2) pe_str (nomark _)) (pss_cons (ps_if (pt_cmpR op_eq (pv 4) pe_int (nomark _)) (pss_one (ps_ret (pe_lst pa_nil))) pss_nil) (pss_one (ps_set (i := 4) sc.nd rfl (Or.inl rfl) (pe_op op_sub (pv 4) pe_int)))) pss_nil)
      (pss_cons (ps_if (pt_cmpR op_lt (pv 4) (pv 5) (nomark _)) (pss_one (ps_ret (pe_lst (pa_cons (pe_call GR hr (by rfl) DR.mg DR.fn.kp bR .nil pass0 (pa_cons (pv 0) (pa_cons (pv 1) (pa_cons (pv 3) (pa_cons (pv 4) pa_nil))))) pa_nil)))) pss_nil)
      (pss_cons (ps_asg (pe_callB call_divmod (by rfl) hD PyProof.Rows.boot_divmod (pa_cons (pe_op op_sub (pv 4) (pv 5)) (pa_cons (pv 5) pa_nil))) (pg_tup rfl (pgs_cons (pg_name (i := 6) sc.nd rfl (Or.inl rfl)) (pgs_cons (pg_name (i := 7) sc.nd rfl (Or.inl rfl)) pgs_nil))))
      (pss_one (ps_ret (pe_lst (pa_cons (pe_call GR hr (by rfl) DR.mg DR.fn.kp bR .nil pass0 (pa_cons (pv 0) (pa_cons (pv 1) (pa_cons (pv 3) (pa_cons (pv 6) pa_nil))))) (pa_cons (pe_call GR hr (by rfl) DR.mg DR.fn.kp bR .nil pass0 (pa_cons (pv 0) (pa_cons (pv 1) (pa_cons (pv 3) (pa_cons (pv 7) pa_nil))))) pa_nil)))))))), ?_⟩
    refine ⟨_, rfl, _, rfl, _, rfl, lc, d, t, cols, W, wl, rfl, hl, hV', hin, h2, fun H1 s1 => ?_⟩
    have hV1 := hV'.same s1
    have hl1 := s1.seq hl
    have m9 : manyR wl t cols ≤ 9 := by
      have := manyR_le (wl := wl) (t := t) cols 1 fun c hc => (hin c hc).2
      unfold manyR
      refine Nat.le_trans this ?_
      rw [Nat.one_mul]
      exact Nat.pow_le_pow_right (by decide) h2
    rcases choices_get hso hrows with ⟨rfl, rfl, rfl⟩ | ⟨hn1, hc⟩
    · refine ⟨_, rfl, rfl, _, rfl, iteB (by decide +kernel) ⟨_, rfl, rfl, _, rfl, iteB (by decide +kernel) ⟨Nat.zero_le _, fun l hl0 => ?_⟩⟩⟩
      exact q l _ (s1.trans (Same.upd hl0)) ⟨[], cut_at (none_of s1 hl0) upd_same, rfl, fun j r row h => nomatch h⟩
    rw [smallW_len] at hc
    by_cases hm : so = "many"
    · have e1 : (n : Int) - 1 = ((chP so n : Nat) : Int) := by unfold chP; rw [if_pos hm]; have := hn1 hm; omega
      refine ⟨_, rfl, rfl, _, rfl, iteB (by rw [hm]; decide +kernel) ⟨_, rfl, rfl, _, rfl, iteC (decide_eq_false fun e => by injection e with e; have := hn1 hm; omega) ⟨_, rfl, _, _, rfl, rfl, ?_⟩⟩⟩
      dsimp only
      rw [e1]
      generalize chP so n = p at hc
      rcases hc with ⟨hp, a, ha, rfl⟩ | ⟨hp, m0, a, b, ha, hb, rfl⟩
      · refine ⟨_, rfl, _, rfl, _, _, rfl, rfl, _, rfl, iteB (decide_eq_true (by omega)) ⟨_, rfl, _, rfl, _, rfl, _, rfl, lc, d, t, cols, p, a, W, wl, rfl, hl1, hV1, hin, h2, cnd, ha, fun r H2 s2 g2 => ⟨(by show 1 ≤ sizeLine; decide), fun l hl0 => ?_⟩⟩⟩
        refine q l _ (s1.trans (s2.trans (Same.upd hl0))) ⟨[r], cut_at (none_of (s1.trans s2) hl0) upd_same, rfl, fun j r' row h1 h2 => ?_⟩
        match j, h1, h2 with
        | 0, h1, h2 => cases h1; cases h2; exact cut_at (none_of s1 (cut_new g2)) ((Same.upd hl0) _ _ (cut_sub _ _ g2))
      · refine ⟨_, rfl, _, rfl, _, _, rfl, rfl, _, rfl, iteC (decide_eq_false (by omega)) ⟨_, rfl, _, rfl, _, _, rfl, rfl, _, rfl, _, _, rfl, ⟨by omega, by omega⟩, fun dm hdm => ?_⟩⟩
        rw [show (p : Int) - (manyR wl t cols : Nat) = ((p - manyR wl t cols : Nat) : Int) by omega, ← Int.natCast_ediv, ← Int.natCast_emod]
        generalize hA : (p - manyR wl t cols) / manyR wl t cols = pa at *
        generalize hB : (p - manyR wl t cols) % manyR wl t cols = pb at *
        have T2 := Same.upd (o := .tup [.int (pa : Nat), .int (pb : Nat)]) hdm
        have e2 : (upd H1 dm (.tup [.int (pa : Nat), .int (pb : Nat)])) dm = some (.tup [.int (pa : Nat), .int (pb : Nat)]) := upd_same
        generalize upd H1 dm (.tup [.int (pa : Nat), .int (pb : Nat)]) = H2 at *
        have S2 := s1.trans T2
        refine ⟨dm, _, rfl, SqT.of e2, rfl, _, _, rfl, _, _, rfl, rfl, ?_⟩
        refine ⟨_, rfl, _, rfl, _, rfl, _, rfl, lc, d, t, cols, pa, a, W, wl, rfl, S2.seq hl, hV'.same S2, hin, h2, cnd, ha, fun r1 H3 s3 g3 => ?_⟩
        have S3 := S2.trans s3
        refine ⟨_, rfl, _, rfl, _, rfl, _, rfl, lc, d, t, cols, pb, b, W, wl, rfl, S3.seq hl, hV'.same S3, hin, h2, cnd, hb, fun r2 H4 s4 g4 => ⟨(by show 2 ≤ sizeLine; decide), fun l hl0 => ?_⟩⟩
        have T5 := Same.upd (o := .lst [V.ref r1, V.ref r2]) hl0
        refine q l _ (S3.trans (s4.trans T5)) ⟨[r1, r2], cut_at (none_of (S3.trans s4) hl0) upd_same, rfl, fun j r' row h1 h2 => ?_⟩
        match j, h1, h2 with
        | 0, h1, h2 => cases h1; cases h2; exact cut_at (none_of S2 (cut_new g3)) ((s4.trans T5) _ _ (cut_sub _ _ g3))
        | 1, h1, h2 => cases h1; cases h2; exact cut_at (none_of S3 (cut_new g4)) (T5 _ _ (cut_sub _ _ g4))
    · have e1 : chP so n = n := if_neg hm
      refine ⟨_, rfl, rfl, _, rfl, iteC (decide_eq_false fun e => hm (by injection e)) ?_⟩
      rw [e1] at hc
      clear e1 hn1 hrows
      obtain ⟨p, hpn⟩ : ∃ p, p = n := ⟨n, rfl⟩
      subst hpn
      rcases hc with ⟨hp, a, ha, rfl⟩ | ⟨hp, m0, a, b, ha, hb, rfl⟩
      · refine ⟨_, rfl, _, rfl, _, _, rfl, rfl, _, rfl, iteB (decide_eq_true (by omega)) ⟨_, rfl, _, rfl, _, rfl, _, rfl, lc, d, t, cols, p, a, W, wl, rfl, hl1, hV1, hin, h2, cnd, ha, fun r H2 s2 g2 => ⟨(by show 1 ≤ sizeLine; decide), fun l hl0 => ?_⟩⟩⟩
        refine q l _ (s1.trans (s2.trans (Same.upd hl0))) ⟨[r], cut_at (none_of (s1.trans s2) hl0) upd_same, rfl, fun j r' row h1 h2 => ?_⟩
        match j, h1, h2 with
        | 0, h1, h2 => cases h1; cases h2; exact cut_at (none_of s1 (cut_new g2)) ((Same.upd hl0) _ _ (cut_sub _ _ g2))
      · refine ⟨_, rfl, _, rfl, _, _, rfl, rfl, _, rfl, iteC (decide_eq_false (by omega)) ⟨_, rfl, _, rfl, _, _, rfl, rfl, _, rfl, _, _, rfl, ⟨by omega, by omega⟩, fun dm hdm => ?_⟩⟩
        rw [show (p : Int) - (manyR wl t cols : Nat) = ((p - manyR wl t cols : Nat) : Int) by omega, ← Int.natCast_ediv, ← Int.natCast_emod]
        generalize hA : (p - manyR wl t cols) / manyR wl t cols = pa at *
        generalize hB : (p - manyR wl t cols) % manyR wl t cols = pb at *
        have T2 := Same.upd (o := .tup [.int (pa : Nat), .int (pb : Nat)]) hdm
        have e2 : (upd H1 dm (.tup [.int (pa : Nat), .int (pb : Nat)])) dm = some (.tup [.int (pa : Nat), .int (pb : Nat)]) := upd_same
        generalize upd H1 dm (.tup [.int (pa : Nat), .int (pb : Nat)]) = H2 at *
        have S2 := s1.trans T2
        refine ⟨dm, _, rfl, SqT.of e2, rfl, _, _, rfl, _, _, rfl, rfl, ?_⟩
        refine ⟨_, rfl, _, rfl, _, rfl, _, rfl, lc, d, t, cols, pa, a, W, wl, rfl, S2.seq hl, hV'.same S2, hin, h2, cnd, ha, fun r1 H3 s3 g3 => ?_⟩
        have S3 := S2.trans s3
        refine ⟨_, rfl, _, rfl, _, rfl, _, rfl, lc, d, t, cols, pb, b, W, wl, rfl, S3.seq hl, hV'.same S3, hin, h2, cnd, hb, fun r2 H4 s4 g4 => ⟨(by show 2 ≤ sizeLine; decide), fun l hl0 => ?_⟩⟩
        have T5 := Same.upd (o := .lst [V.ref r1, V.ref r2]) hl0
        refine q l _ (S3.trans (s4.trans T5)) ⟨[r1, r2], cut_at (none_of (S3.trans s4) hl0) upd_same, rfl, fun j r' row h1 h2 => ?_⟩
        match j, h1, h2 with
        | 0, h1, h2 => cases h1; cases h2; exact cut_at (none_of S2 (cut_new g3)) ((s4.trans T5) _ _ (cut_sub _ _ g3))
        | 1, h1, h2 => cases h1; cases h2; exact cut_at (none_of S3 (cut_new g4)) (T5 _ _ (cut_sub _ _ g4))
end
end My

namespace My
open PySem L2 PyProof.Rows
seal L2.PE L2.PT L2.PW L2.PS L2.PSs L2.PA L2.PI L2.PG L2.PGs L2.OpR L2.UnR L2.CallR L2.IxR L2.SlR L2.MtR L2.PIf L2.PO L2.MtM L2.PC
/-! ### the sheets, and a piece by its place -/
def ShtAt (H : Hp) (y : Addr) (T : Ts) : Prop := ∃ lc, H y = some (.tup [.str T.name, .str T.sort, .ref lc]) ∧ H lc = some (.lst (T.cols.map V.str))
def ShsAt (H : Hp) (l : Addr) (ts : List Ts) : Prop := ∃ ys : List Addr, H l = some (.lst (ys.map V.ref)) ∧ F2 (ShtAt H) ys ts
theorem ShtAt.same {H H' : Hp} {y : Addr} {T : Ts} (h : ShtAt H y T) (s : Same H H') : ShtAt H' y T := let ⟨lc, a, b⟩ := h; ⟨lc, s _ _ a, s _ _ b⟩
theorem ShsAt.same {H H' : Hp} {l : Addr} {ts : List Ts} (h : ShsAt H l ts) (s : Same H H') : ShsAt H' l ts := let ⟨ys, a, b⟩ := h; ⟨ys, s _ _ a, b.imp fun _ _ r => r.same s⟩
structure ShOk (l : List Ts) : Prop where
  le : l.length ≤ 3
  ne : 1 ≤ l.length
  nd : (l.map (·.name)).Nodup
  cl : ∀ T ∈ l, T.cols.length ≤ 2
  cn : ∀ T ∈ l, T.cols.Nodup
  so : ∀ T ∈ l, T.sort ∈ sorts
  nl : ∀ T ∈ l, T.name.length ≤ 8
def revP (pc : Pc) : Pc := (pc.map fun t => (t.1, revR t.2)).reverse
theorem revP_cons (t : Str × List Rw) (pc : Pc) : revP (t :: pc) = revP pc ++ [(t.1, revR t.2)] := by
  unfold revP
  rw [List.map_cons, List.reverse_cons]
theorem manyP_snoc (wl : Str → Str → List V) (l : List Ts) (T : Ts) : manyP wl (l ++ [T]) = manyP wl l * manyC T.sort (manyR wl T.name T.cols) := by
  unfold manyP
  rw [List.foldl_append]
  rfl
theorem manyC_le {so : Str} {n : Nat} (h : n ≤ 9) : manyC so n ≤ 100 := by
  have hq : n * n ≤ 9 * 9 := Nat.mul_le_mul h h
  unfold manyC
  split
  · omega
  · split <;> omega
def spLPiece (K : PySem.W.Frag) : Sp := fun vs H Q _ => ∃ (ls d : Addr) (l : List Ts) (n : Nat) (pc : Pc) (W : List ((Str × Str) × Addr)) (wl : Str → Str → List V), vs = [.ref d, .ref ls, .int (n : Nat)] ∧ ShsAt H ls l ∧ ShOk l ∧ VlAt H d W wl ∧ WOk l W wl ∧ (piecesC wl l)[n]? = some pc ∧ ∀ r H', Same H H' → PcAt (cut H H') r (revP pc) → Q (.ref r) H'
section
variable {P : Program} {w : World} {K : PySem.W.Frag} {mg : Str → Option Value} {base : Heap}
theorem ok_lpiece {f fC fR fL fO : Addr} {fd fdC fdR fdL fdO : FuncData} (F : Fun K "_law_piece" "_law_piece" (top 31) f fd) (B : Bl mg) (hV : mg "reversed" = none) (hD : mg "divmod" = none) (DC : Df K mg "_law_choices" (top 27) fC fdC) (DR : Df K mg "_law_row" (top 29) fR fdR) (DL : Df K mg "_law_lists" (top 28) fL fdL) (DO : Df K mg "_law_rows" (top 30) fO fdO) : FnOk P w K mg base CX0 3 f fd ["_law_values_here", "_law_sheets_here", "_law_place"] (spLPiece K) := by
  have sc : FnScope ["_law_values_here", "_law_sheets_here", "_law_place", "_law_piece_here", "_law_name", "_law_sort", "_law_columns", "_law_digit"] ["_law_values_here", "_law_sheets_here", "_law_place"] (defScope (top 31)) := ⟨rfl, rfl, rfl, by decide +kernel, rfl, by decide +kernel, by decide +kernel⟩
  have GC : FnOk P w K mg base CX0 1 fC fdC ["_law_values_here", "_law_name", "_law_columns"] (spChL K) := ok_chL DC.fn B
  have bC := DC.fn.binds (ps := ["_law_values_here", "_law_name", "_law_columns"]) fun _ _ _ _ _ _ us hl => by obtain ⟨v0, v1, v2, rfl⟩ := L2.ln3 hl; rfl
  have GL : FnOk P w K mg base CX0 1 fL fdL ["_law_sort", "_law_many"] spLists := ok_lists DL.fn
  have bL := DL.fn.binds (ps := ["_law_sort", "_law_many"]) fun _ _ _ _ _ _ us hl => by obtain ⟨v0, v1, rfl⟩ := L2.ln2 hl; rfl
  have GO : FnOk P w K mg base CX0 2 fO fdO ["_law_values_here", "_law_name", "_law_sort", "_law_columns", "_law_place"] (spLRows K) := ok_lrows DO.fn B hV hD DC DR
  have bO := DO.fn.binds (ps := ["_law_values_here", "_law_name", "_law_sort", "_law_columns", "_law_place"]) fun _ _ _ _ _ _ us hl => match us, hl with | [_, _, _, _, _], _ => rfl
  refine F.ok sc (fun vs H Q E h => ?_) (fun cdv A outer s H vs Q E hr h => ?_)
  · obtain ⟨ls, d, l, n, pc, W, wl, rfl, _⟩ := h
    rfl
  · obtain ⟨lsh, d, l, n, pc, W, wl, rfl, ⟨ys, hsl, hys⟩, ok, hV', wok, hpc, q⟩ := h
    have hu : (A.deeper (envOfC "_law_piece" (defScope (top 31)) s.heap.objs.size f cdv)).units + 1 < cLine := hu_of hr
    have hr1 : Room 1 _ := hr.mono (by decide)
    refine ⟨_, pss_cons (ps_set (i := 3) sc.nd rfl (Or.inl rfl) pe_dnewK)
      (pss_cons (ps_for PassesOwn.never rfl (pi_rev (by rfl) hV (pa_cons (pv 1) pa_nil)) (pg_tup rfl (pgs_cons (pg_name (i := 4) sc.nd rfl (Or.inl rfl)) (pgs_cons (pg_name (i := 5) sc.nd rfl (Or.inl rfl)) (pgs_cons (pg_name (i := 6) sc.nd rfl (Or.inl rfl)) pgs_nil))))
        (pss_cons (ps_asg (pe_callB call_divmod (by rfl) hD PyProof.Rows.boot_divmod (pa_cons (pv 2) (pa_cons (pe_call GL hr1 (by rfl) DL.mg DL.fn.kp bL .nil pass0 (pa_cons (pv 5) (pa_cons (pe_call GC hr1 (by rfl) DC.mg DC.fn.kp bC .nil pass0 (pa_cons (pv 0) (pa_cons (pv 4) (pa_cons (pv 6) pa_nil)))) pa_nil))) pa_nil))) (pg_tup rfl (pgs_cons (pg_name (i := 2) sc.nd rfl (Or.inl rfl)) (pgs_cons (pg_name (i := 7) sc.nd rfl (Or.inl rfl)) pgs_nil))))
        (pss_one (ps_dput hu (pv 3) (pv 4) (pe_call GO hr (by rfl) DO.mg DO.fn.kp bO .nil pass0 (pa_cons (pv 0) (pa_cons (pv 4) (pa_cons (pv 5) (pa_cons (pv 6) (pa_cons (pv 7) pa_nil)))))) rfl))))
      (pss_one (ps_ret (pv 3)))), ?_⟩
    refine fun r hr0 => ?_
    have S0 := Same.upd (o := .dK []) hr0
    have e0 : (upd H r (.dK [])) r = some (.dK []) := upd_same
    have en : ∀ b, b ≠ r → (upd H r (.dK [])) b = H b := fun b hb => upd_ne hb
    generalize upd H r (.dK []) = H0 at *
    have yl : (ys.map V.ref).length = l.length := by rw [List.length_map, hys.len]
    refine ⟨_, rfl, lsh, _, rfl, SqL.of (S0 _ _ hsl), for_rev (K := K) (a := lsh) (xs := ys.map V.ref) (fun i σ H' => Same H H' ∧ ∃ (p : Nat) (sp pc0 : Pc) (ll : List Addr) (u4 u5 u6 u7 : Option V), σ = [some (.ref d), some (.ref lsh), some (.int (p : Nat)), some (.ref r), u4, u5, u6, u7] ∧ H' r = some (.dK (zK ((revP sp).map (·.1)) ll)) ∧ PLs (cut H0 H') ((revP sp).map (·.1)) ll (revP sp) ∧ sp.map (·.1) = (l.drop (l.length - i)).map (·.name) ∧ (piecesC wl (l.take (l.length - i)))[p]? = some pc0 ∧ pc = pc0 ++ sp) ⟨S0, n, [], pc, [], _, _, _, _, rfl, e0, ⟨rfl, .nil⟩, by rw [Nat.sub_zero, List.drop_length]; rfl, by rw [Nat.sub_zero, List.take_length]; exact hpc, by rw [List.append_nil]⟩ (fun i σ H' _ p => SqL.of (p.1 _ _ hsl)) ?_ ?_⟩
    · rintro i x σ H' hi hx ⟨sm, p, sp, pc0, ll, u4, u5, u6, u7, rfl, hr', hpl, hsp, hp, er⟩
      rw [yl] at hi hx
      obtain ⟨j, hj⟩ : ∃ j, l.length - i = j + 1 := ⟨l.length - i - 1, by omega⟩
      have hjl : j < l.length := by omega
      have hjy : j < ys.length := by rw [hys.len]; exact hjl
      rw [show l.length - 1 - i = j by omega, List.getElem?_map, List.getElem?_eq_getElem hjy] at hx
      cases hx
      rw [hj] at hsp hp
      rw [show l.length - (i + 1) = j by omega]
      have hT : l[j] ∈ l := List.getElem_mem hjl
      obtain ⟨lc, t1, t2⟩ := hys.get j ys[j] l[j] (List.getElem?_eq_getElem hjy) (List.getElem?_eq_getElem hjl)
      generalize hTj : l[j] = T at *
      have etk : l.take (j + 1) = l.take j ++ [T] := by rw [take_last hjl, hTj]
      rw [etk, piecesC_snoc] at hp
      have m9 := manyR_9 wok hT
      have hc1 := manyC_le (so := T.sort) m9
      have hpl' : p < (piecesC wl (l.take j)).length * (choicesG T.sort (smallW wl T.name T.cols)).length := by
        have := (List.getElem?_eq_some_iff.mp hp).1
        rwa [growP_len] at this
      obtain ⟨pa, rows, g1, g2, g3⟩ := flat_get (fun (pc : Pc) rows => pc ++ [(T.name, rows)]) (choicesG T.sort (smallW wl T.name T.cols)) _ p hpl'
      have hp' : (growP (piecesC wl (l.take j)) T.name (choicesG T.sort (smallW wl T.name T.cols)))[p]? = some (pa ++ [(T.name, rows)]) := g3
      rw [hp'] at hp
      cases hp
      rw [choices_len, smallW_len] at g1 g2 hpl'
      have m0 : 0 < manyC T.sort (manyR wl T.name T.cols) := by
        rcases Nat.eq_zero_or_pos (manyC T.sort (manyR wl T.name T.cols)) with e | e
        · rw [e, Nat.mul_zero] at hpl'; omega
        · exact e
      refine ⟨ys[j], _, rfl, SqT.of (sm _ _ t1), rfl, _, _, rfl, _, _, rfl, _, _, rfl, rfl, ?_⟩
      refine ⟨_, rfl, _, rfl, _, rfl, _, rfl, _, rfl, lc, d, T.name, T.cols, W, wl, rfl, SqL.of (sm _ _ t2), hV'.same sm, wok.vl _ hT, wok.cl _ hT, fun H1 s1 => ⟨T.sort, manyR wl T.name T.cols, rfl, ok.so _ hT, by omega, _, _, rfl, ⟨by omega, by omega⟩, fun dm hdm => ?_⟩⟩
      rw [← Int.natCast_ediv, ← Int.natCast_emod]
      generalize hA : p / manyC T.sort (manyR wl T.name T.cols) = qa at *
      generalize hB : p % manyC T.sort (manyR wl T.name T.cols) = qb at *
      have T2 := Same.upd (o := .tup [.int (qa : Nat), .int (qb : Nat)]) hdm
      have e2 : (upd H1 dm (.tup [.int (qa : Nat), .int (qb : Nat)])) dm = some (.tup [.int (qa : Nat), .int (qb : Nat)]) := upd_same
      generalize upd H1 dm (.tup [.int (qa : Nat), .int (qb : Nat)]) = H2 at *
      have S2 := sm.trans (s1.trans T2)
      refine ⟨dm, _, rfl, SqT.of e2, rfl, _, _, rfl, _, _, rfl, rfl, ?_⟩
      refine ⟨_, rfl, _, rfl, _, rfl, _, rfl, _, rfl, lc, d, T.name, T.sort, T.cols, qb, rows, W, wl, rfl, SqL.of (S2 _ _ t2), hV'.same S2, wok.vl _ hT, wok.cl _ hT, ok.cn _ hT, ok.so _ hT, g2, fun lr H3 s3 hR => ?_⟩
      have T03 := s1.trans (T2.trans s3)
      have hr3 := T03 _ _ hr'
      have hnn : T.name ∉ (revP sp).map (·.1) := fun hm => by
        unfold revP at hm
        rw [List.map_reverse, List.mem_reverse, List.map_map] at hm
        have hm' : T.name ∈ sp.map (·.1) := hm
        rw [hsp] at hm'
        have nd := ok.nd
        rw [← List.take_append_drop (j + 1) l, List.map_append, List.nodup_append, etk, List.map_append] at nd
        exact nd.2.2 T.name (List.mem_append_right _ List.mem_cons_self) _ hm' rfl
      have lll : ((revP sp).map (·.1)).length ≤ 3 := by
        have := congrArg List.length hsp
        rw [List.length_map, List.length_map, List.length_drop] at this
        unfold revP
        rw [List.length_map, List.length_reverse, List.length_map]
        have := ok.le
        omega
      refine ⟨_, rfl, _, rfl, r, _, rfl, .inl ⟨_, .inr T.name, hr3, rfl, (by rw [zK_len hpl.len, sizeLine_eq]; omega), rfl⟩, ?_⟩
      rw [putK_new _ (zK_new hnn), ← zK_snoc hpl.len]
      have ek : (revP ((T.name, rows) :: sp)).map (·.1) = (revP sp).map (·.1) ++ [T.name] := by
        rw [revP_cons, List.map_append]
        rfl
      refine ⟨(sm.trans T03).put hr0, _, (T.name, rows) :: sp, pa, ll ++ [lr], _, _, _, _, rfl, by rw [upd_same, ek], ?_, by rw [List.map_cons, hsp, List.drop_eq_getElem_cons hjl, List.map_cons, hTj], g1, by rw [er, List.append_assoc]; rfl⟩
      rw [ek, revP_cons]
      refine PLs.snoc (hpl.same (cut_mv (fun b hb => hb) fun b o hb e => ?_)) (hR.same (cut_mv (fun b hb => ?_) fun b o hb e => ?_))
      · have nb : b ≠ r := fun e2 => by rw [e2, e0] at hb; cases hb
        rw [upd_ne nb]
        exact T03 _ _ e
      · have h' := none_of (s1.trans T2) hb
        have nb : b ≠ r := fun e2 => by rw [e2, hr'] at h'; cases h'
        rw [en b nb]
        exact none_of sm h'
      · have h' := none_of (s1.trans T2) hb
        have nb : b ≠ r := fun e2 => by rw [e2, hr'] at h'; cases h'
        rw [upd_ne nb]
        exact e
    · rintro σ H' ⟨sm, p, sp, pc0, ll, u4, u5, u6, u7, rfl, hr', hpl, hsp, hp, er⟩
      rw [yl, Nat.sub_self, List.take_zero] at hp
      have e0 : pc0 = [] := by
        have : piecesC wl [] = [[]] := rfl
        rw [this] at hp
        match p, hp with
        | 0, hp => cases hp; rfl
      rw [e0, List.nil_append] at er
      subst er
      exact ⟨_, rfl, q r H' sm ((hpl.same (cut_dn S0)).pc (cut_at hr0 hr'))⟩
end
end My

namespace L2
open PySem PySem.Spec PyProof.Rows
/-- what comes behind a statement, said once -/
def sCut (t : TS) : TS := fun D σ H => ∃ R : St → Hp → Prop, t { D with nx := R } σ H ∧ ∀ σ' H', R σ' H' → D.nx σ' H'
theorem ps_cut {X : Cx} {st : Stmt} {t : TS} (h : PS X st t) : PS X st (sCut t) := by
  intro pins s σ H D I hq
  obtain ⟨R, h1, h2⟩ := hq
  refine thn (h pins s σ H _ I h1) fun f s' hs => ?_
  cases f with
  | next => obtain ⟨σ', H', I', z⟩ := hs; exact ⟨σ', H', I', h2 _ _ z⟩
  | brk => exact hs
  | cont => exact hs
  | ret u => exact hs
theorem sIx_at {n d : Nat} {k : Int} (h0 : 0 ≤ k) (h1 : k ≤ n) : HT.sIx n d (some k) = k.toNat := by
  have e := HT.clip_eq k n d
  rw [if_neg (by omega)] at e
  omega
theorem cut_to {xs : List V} {k : Int} (h0 : 0 ≤ k) (h1 : k ≤ xs.length) : cutV xs none (some k) = xs.take k.toNat := by
  unfold cutV
  rw [sIx_at h0 h1, HT.sIx_none, List.drop_zero, Nat.sub_zero]
theorem cut_from {xs : List V} {k : Int} (h0 : 0 ≤ k) (h1 : k ≤ xs.length) : cutV xs (some k) none = xs.drop k.toNat := by
  unfold cutV
  rw [sIx_at h0 h1, HT.sIx_none]
  refine List.take_of_length_le ?_
  rw [List.length_drop]
  omega
end L2
namespace My
open PySem L2 PyProof.Rows
seal L2.PE L2.PT L2.PW L2.PS L2.PSs L2.PA L2.PI L2.PG L2.PGs L2.OpR L2.UnR L2.CallR L2.IxR L2.SlR L2.MtR L2.PIf L2.PO L2.MtM L2.PC
theorem F2.take {α β : Type} {R : α → β → Prop} {as : List α} {bs : List β} (h : F2 R as bs) : ∀ n, F2 R (as.take n) (bs.take n) := by
  induction h with
  | nil => intro n; rw [List.take_nil, List.take_nil]; exact .nil
  | cons h _ ih => intro n; cases n with
    | zero => exact .nil
    | succ n => exact .cons h (ih n)
theorem F2.drop {α β : Type} {R : α → β → Prop} {as : List α} {bs : List β} (h : F2 R as bs) : ∀ n, F2 R (as.drop n) (bs.drop n) := by
  induction h with
  | nil => intro n; rw [List.drop_nil, List.drop_nil]; exact .nil
  | cons h t ih => intro n; cases n with
    | zero => exact .cons h t
    | succ n => exact ih n
/-- the tuples stay -/
def STup (H H' : Hp) : Prop := ∀ b xs, H b = some (.tup xs) → H' b = some (.tup xs)
theorem Same.st {H H' : Hp} (s : Same H H') : STup H H' := fun b xs e => s _ _ e
theorem STup.put {H : Hp} {b : Addr} {o : HO} (h : ∀ xs, H b ≠ some (.tup xs)) : STup H (upd H b o) := fun c xs e => by
  have nb : c ≠ b := fun z => h xs (by rw [← z]; exact e)
  rw [upd_ne nb]
  exact e
/-- a value of a column, and what it stands for -/
inductive El (H : Hp) : Dp → V → Prop
  | fl {v : V} (h : flt v = true) : El H (.fl v) v
  | tup {a : Addr} (vs : List V) (ha : H a = some (.tup vs)) (hf : ∀ v ∈ vs, flt v = true) : El H (.tup (vs.map .fl)) (.ref a)
theorem El.st {H H' : Hp} {d : Dp} {v : V} (h : El H d v) (s : STup H H') : El H' d v := by
  cases h with
  | fl h => exact .fl h
  | tup vs ha hf => exact .tup vs (s _ _ ha) hf
theorem El.dv {H : Hp} {d : Dp} {v : V} (h : El H d v) : Dv H 1 d v := by
  cases h with
  | fl h => exact .fl h
  | tup vs ha hf =>
    refine .tup ha (by rw [List.length_map]) fun i v d a b => ?_
    rw [List.getElem?_map, a] at b
    cases b
    exact .fl (hf v (List.mem_of_getElem? a))
theorem El.val {H : Hp} {d : Dp} {v : V} (h : El H d v) : flt v = true ∨ ∃ a xs, v = .ref a ∧ H a = some (.tup xs) := by
  cases h with
  | fl h => exact .inl h
  | tup vs ha hf => exact .inr ⟨_, _, rfl, ha⟩
def knm : List Str := ["whole", "word", "key", "list", "once"]
def spKind : Sp := fun vs H Q _ => ∃ k : Int, vs = [.int k] ∧ ∀ a us H', Same H H' → H' a = some (.tup (.str (knm.getD (k % 5).toNat "") :: us)) → Q (.ref a) H'
theorem emod_nat (x : Int) (n : Nat) (h : 0 < n) : ∃ m : Nat, x % (n : Int) = (m : Int) ∧ m < n := by
  have n0 := Int.emod_nonneg x (show (n : Int) ≠ 0 by omega)
  have n1 := Int.emod_lt_of_pos x (show (0 : Int) < n by omega)
  obtain ⟨m, hm⟩ := Int.eq_ofNat_of_zero_le n0
  exact ⟨m, hm, by omega⟩
/-- what the lists of values hold -/
def pk0 (b : Int) : List Dp := [.fl (.int (b + 3)), .fl (.int b), .fl (.int (b + 7))]
def pk1 (m : Nat) (b : Int) : List Dp := if m = 1 then [.fl (.str "b a"), .fl (.str ""), .fl (.str "b")] else pk0 b
def pk2 (m : Nat) (b : Int) : List Dp := if m = 2 then [.fl (.int 3), .fl .non, .fl (.int 0)] else pk1 m b
def pk3 (m : Nat) (b : Int) : List Dp := if m = 3 then [.tup [.fl (.int b), .fl (.int b)], .tup [], .tup [.fl (.int b)]] else pk2 m b
theorem pk_len (m : Nat) (b : Int) : (pk3 m b).length = 3 := by
  unfold pk3 pk2 pk1
  repeat' split
  all_goals rfl
def baseV (ns : List Int) (k : Int) : Int := cellV ns (6 + k) / 15 * 48271 % 10 ^ 40
def valD (ns : List Int) (k m : Int) : List Dp := ((pk3 ((k + cellV ns 5) % 5).toNat (baseV ns k)).drop (cellV ns (6 + k) / 3 % 3).toNat ++ (pk3 ((k + cellV ns 5) % 5).toNat (baseV ns k)).take (cellV ns (6 + k) / 3 % 3).toNat).take m.toNat
def spVals (K : PySem.W.Frag) : Sp := fun vs H Q _ => ∃ (a : Addr) (ns : List Int) (k m : Int), vs = [.ref a, .int k, .int m] ∧ SqL K H a (ns.map V.int) ∧ 0 ≤ k ∧ 1 ≤ m ∧ m ≤ 3 ∧ ∀ l vs H', Same H H' → cut H H' l = some (.lst vs) → F2 (El H') (valD ns k m) vs → Q (.ref l) H'
section
variable {P : Program} {w : World} {K : PySem.W.Frag} {mg : Str → Option Value} {base : Heap}
theorem ok_kind {f : Addr} {fd : FuncData} (F : Fun K "_law_kind" "_law_kind" (top 21) f fd) : FnOk P w K mg base CX0 1 f fd ["_law_k"] spKind := by
  have sc : FnScope ["_law_k"] ["_law_k"] (defScope (top 21)) := ⟨rfl, rfl, rfl, by decide +kernel, rfl, by decide +kernel, by decide +kernel⟩
  refine F.ok sc (fun vs H Q E h => ?_) (fun cdv A outer s H vs Q E hr h => ?_)
  · obtain ⟨k, rfl, _⟩ := h
    rfl
  · obtain ⟨k, rfl, q⟩ := h
    refine ⟨_, pss_one (ps_ret (pe_ix ix_list (pe_lst (pa_cons (pe_tup (pa_cons pe_str pa_nil)) (pa_cons (pe_tup (pa_cons pe_str pa_nil)) (pa_cons (pe_tup (pa_cons pe_str pa_nil)) (pa_cons (pe_tup (pa_cons pe_str (pa_cons (pe_tup (pa_cons pe_str pa_nil)) pa_nil))) (pa_cons (pe_tup (pa_cons pe_str (pa_cons (pe_tup (pa_cons pe_str pa_nil)) pa_nil))) pa_nil)))))) (pe_op op_mod (pv 0) pe_int) (fun _ _ => rfl))), ?_⟩
    refine ⟨(by show 1 ≤ sizeLine; decide), fun a0 h0 => ⟨(by show 1 ≤ sizeLine; decide), fun a1 h1 => ⟨(by show 1 ≤ sizeLine; decide), fun a2 h2 => ⟨(by show 1 ≤ sizeLine; decide), fun a3 h3 => ⟨(by show 2 ≤ sizeLine; decide), fun a4 h4 => ⟨(by show 1 ≤ sizeLine; decide), fun a5 h5 => ⟨(by show 2 ≤ sizeLine; decide), fun a6 h6 => ⟨(by show 5 ≤ sizeLine; decide), fun l hl => ?_⟩⟩⟩⟩⟩⟩⟩⟩
    obtain ⟨m, hm, m5⟩ := emod_nat k 5 (by decide)
    have e0 := upd_same (H := H) (a := a0) (o := .tup [.str "whole"])
    have S0 := Same.upd (o := .tup [.str "whole"]) h0
    generalize upd H a0 (.tup [.str "whole"]) = H0 at *
    have e1 := upd_same (H := H0) (a := a1) (o := .tup [.str "word"])
    have S1 := Same.upd (o := .tup [.str "word"]) h1
    generalize upd H0 a1 (.tup [.str "word"]) = H1 at *
    have e2 := upd_same (H := H1) (a := a2) (o := .tup [.str "key"])
    have S2 := Same.upd (o := .tup [.str "key"]) h2
    generalize upd H1 a2 (.tup [.str "key"]) = H2 at *
    have S3 := Same.upd (o := .tup [.str "whole"]) h3
    generalize upd H2 a3 (.tup [.str "whole"]) = H3 at *
    have e4 := upd_same (H := H3) (a := a4) (o := .tup [.str "list", .ref a3])
    have S4 := Same.upd (o := .tup [.str "list", .ref a3]) h4
    generalize upd H3 a4 (.tup [.str "list", .ref a3]) = H4 at *
    have S5 := Same.upd (o := .tup [.str "whole"]) h5
    generalize upd H4 a5 (.tup [.str "whole"]) = H5 at *
    have e6 := upd_same (H := H5) (a := a6) (o := .tup [.str "once", .ref a5])
    have S6 := Same.upd (o := .tup [.str "once", .ref a5]) h6
    generalize upd H5 a6 (.tup [.str "once", .ref a5]) = H6 at *
    have S7 := Same.upd (o := .lst [.ref a0, .ref a1, .ref a2, .ref a4, .ref a6]) hl
    have e7 := upd_same (H := H6) (a := l) (o := .lst [.ref a0, .ref a1, .ref a2, .ref a4, .ref a6])
    generalize upd H6 l (.lst [.ref a0, .ref a1, .ref a2, .ref a4, .ref a6]) = H7 at *
    have S := S0.trans (S1.trans (S2.trans (S3.trans (S4.trans (S5.trans (S6.trans S7))))))
    have em : (k % 5).toNat = m := by omega
    refine ⟨_, rfl, _, _, rfl, rfl, (pos rfl), l, _, _, _, rfl, rfl, SqL.of e7, (by rw [show k % 5 = (m : Int) from hm]; exact atI_nat (List.getElem?_eq_getElem (show m < 5 from m5))), ?_⟩
    rcases (show m = 0 ∨ m = 1 ∨ m = 2 ∨ m = 3 ∨ m = 4 by omega) with rfl | rfl | rfl | rfl | rfl
    · exact q a0 [] _ S (by rw [em]; exact (S1.trans (S2.trans (S3.trans (S4.trans (S5.trans (S6.trans S7)))))) _ _ e0)
    · exact q a1 [] _ S (by rw [em]; exact (S2.trans (S3.trans (S4.trans (S5.trans (S6.trans S7))))) _ _ e1)
    · exact q a2 [] _ S (by rw [em]; exact (S3.trans (S4.trans (S5.trans (S6.trans S7)))) _ _ e2)
    · exact q a4 [.ref a3] _ S (by rw [em]; exact (S5.trans (S6.trans S7)) _ _ e4)
    · exact q a6 [.ref a5] _ S (by rw [em]; exact S7 _ _ e6)
def vlN : List Str := ["_law_script", "_law_k", "_law_many", "_law_cell_here", "_law_base", "_law_some", "_law_kind_here", "_law_start", "_law_turned"]
theorem ok_vals {f fC fK : Addr} {fd fdC fdK : FuncData} (F : Fun K "_law_values" "_law_values" (top 24) f fd) (B : Bl mg) (DC : Df K mg "_law_cell" (top 18) fC fdC) (DK : Df K mg "_law_kind" (top 21) fK fdK) : FnOk P w K mg base CX0 2 f fd ["_law_script", "_law_k", "_law_many"] (spVals K) := by
  have sc : FnScope vlN ["_law_script", "_law_k", "_law_many"] (defScope (top 24)) := ⟨rfl, rfl, rfl, by decide +kernel, rfl, by decide +kernel, by decide +kernel⟩
  have GC : FnOk P w K mg base CX0 1 fC fdC ["_law_script", "_law_k"] (spCelD K) := ok_celD DC.fn B
  have bC := DC.fn.binds (ps := ["_law_script", "_law_k"]) fun _ _ _ _ _ _ us hl => by obtain ⟨v0, v1, rfl⟩ := L2.ln2 hl; rfl
  have GK : FnOk P w K mg base CX0 1 fK fdK ["_law_k"] spKind := ok_kind DK.fn
  have bK := DK.fn.binds (ps := ["_law_k"]) fun _ _ _ _ _ _ us hl => by obtain ⟨v0, rfl⟩ := L2.ln1 hl; rfl
  refine F.ok sc (fun vs H Q E h => ?_) (fun cdv A outer s H vs Q E hr h => ?_)
  · obtain ⟨a, ns, k, m, rfl, _⟩ := h
    rfl
  · obtain ⟨a, ns, k, m, rfl, hS, k0, m1, m3, q⟩ := h
    refine ⟨_, pss_cons (ps_set (i := 3) sc.nd rfl (Or.inl rfl) (pe_call GC hr (by rfl) DC.mg DC.fn.kp bC .nil pass0 (pa_cons (pv 0) (pa_cons (pe_op op_add pe_int (pv 1)) pa_nil))))
      (pss_cons (ps_set (i := 4) sc.nd rfl (Or.inl rfl) (pe_op op_mod (pe_op op_mul (pe_op op_fdiv (pv 3) pe_int) pe_int) (pe_op op_pow pe_int pe_int)))
      (pss_cons (ps_set (i := 5) sc.nd rfl (Or.inl rfl) (pe_lst (pa_cons (pe_op op_add (pv 4) pe_int) (pa_cons (pv 4) (pa_cons (pe_op op_add (pv 4) pe_int) pa_nil)))))
      (pss_cons (ps_set (i := 6) sc.nd rfl (Or.inl rfl) (pe_call GK hr (by rfl) DK.mg DK.fn.kp bK .nil pass0 (pa_cons (pe_op op_add (pv 1) (pe_call GC hr (by rfl) DC.mg DC.fn.kp bC .nil pass0 (pa_cons (pv 0) (pa_cons pe_int pa_nil)))) pa_nil)))
      (pss_cons (ps_cut (ps_if (pt_cmpR op_eq (pe_ix ix_tup (pv 6) pe_int (fun _ _ => rfl)) pe_str (nomark _)) (pss_one (ps_set (i := 5) sc.nd rfl (Or.inl rfl) (pe_lst (pa_cons pe_str (pa_cons pe_str (pa_cons pe_str pa_nil)))))) pss_nil))
      (pss_cons (ps_cut (ps_if (pt_cmpR op_eq (pe_ix ix_tup (pv 6) pe_int (fun _ _ => rfl)) pe_str (nomark _)) (pss_one (ps_set (i := 5) sc.nd rfl (Or.inl rfl) (pe_lst (pa_cons pe_int (pa_cons pe_non (pa_cons pe_int pa_nil)))))) pss_nil))
      (pss_cons (ps_cut (ps_if (pt_cmpR op_eq (pe_ix ix_tup (pv 6) pe_int (fun _ _ => rfl)) pe_str (nomark _)) (pss_one (ps_set (i := 5) sc.nd rfl (Or.inl rfl) (pe_lst (pa_cons (pe_tup (pa_cons (pv 4) (pa_cons (pv 4) pa_nil))) (pa_cons (pe_tup pa_nil) (pa_cons (pe_tup (pa_cons (pv 4) pa_nil)) pa_nil)))))) pss_nil))
      (pss_cons (ps_set (i := 7) sc.nd rfl (Or.inl rfl) (pe_op op_mod (pe_op op_fdiv (pv 3) pe_int) pe_int))
      (pss_cons (ps_set (i := 8) sc.nd rfl (Or.inl rfl) (pe_op op_cat (pe_slice sl_list (pv 5) (po_some (pv 7)) po_none) (pe_slice sl_list (pv 5) po_none (po_some (pv 7)))))
      (pss_one (ps_ret (pe_slice sl_list (pv 8) po_none (po_some (pv 2)))))))))))))  , ?_⟩
    refine ⟨_, rfl, _, rfl, _, _, rfl, rfl, a, ns, _, rfl, hS, (by omega), ?_⟩
    refine ⟨_, rfl, _, _, rfl, rfl, ⟨by decide, by decide⟩, _, _, rfl, rfl, .inr ⟨by decide, by decide⟩, _, _, rfl, rfl, ⟨by decide, by decide, by decide⟩, _, _, rfl, rfl, (show (0 : Int) < 10 ^ Int.toNat 40 by decide), ?_⟩
    have eb : cellV ns (6 + k) / 15 * 48271 % 10 ^ (40 : Int).toNat = baseV ns k := rfl
    dsimp only
    rw [eb]
    generalize hb : baseV ns k = b
    refine ⟨_, rfl, _, _, rfl, rfl, _, rfl, _, rfl, _, _, rfl, rfl, (by show 3 ≤ sizeLine; decide), fun l0 h0 => ?_⟩
    have S0 := Same.upd (o := .lst [.int (b + 3), .int b, .int (b + 7)]) h0
    have e0 := upd_same (H := H) (a := l0) (o := .lst [.int (b + 3), .int b, .int (b + 7)])
    generalize upd H l0 (.lst [.int (b + 3), .int b, .int (b + 7)]) = H0 at *
    refine ⟨_, rfl, _, rfl, a, ns, _, rfl, S0.seq hS, (by decide), _, _, rfl, rfl, _, rfl, fun kd us H1 s1 hk => ?_⟩
    have ej : (k + cellV ns 5) % 5 = (((k + cellV ns 5) % 5).toNat : Nat) := by
      obtain ⟨j, hj, _⟩ := emod_nat (k + cellV ns 5) 5 (by decide)
      omega
    have j5 : ((k + cellV ns 5) % 5).toNat < 5 := by
      obtain ⟨j, hj, _⟩ := emod_nat (k + cellV ns 5) 5 (by decide)
      omega
    unfold valD at q
    rw [hb] at q
    generalize ((k + cellV ns 5) % 5).toNat = j at *
    generalize cellV ns (6 + k) = c at *
    have S1 := S0.trans s1
    have kk : (.str (knm.getD j "") : V) = (.str "word" : V) ↔ j = 1 := by
      rcases (show j = 0 ∨ j = 1 ∨ j = 2 ∨ j = 3 ∨ j = 4 by omega) with rfl | rfl | rfl | rfl | rfl <;> decide +kernel
    have kk2 : (.str (knm.getD j "") : V) = (.str "key" : V) ↔ j = 2 := by
      rcases (show j = 0 ∨ j = 1 ∨ j = 2 ∨ j = 3 ∨ j = 4 by omega) with rfl | rfl | rfl | rfl | rfl <;> decide +kernel
    have kk3 : (.str (knm.getD j "") : V) = (.str "list" : V) ↔ j = 3 := by
      rcases (show j = 0 ∨ j = 1 ∨ j = 2 ∨ j = 3 ∨ j = 4 by omega) with rfl | rfl | rfl | rfl | rfl <;> decide +kernel
    have base3 : F2 (El H1) (pk0 b) [.int (b + 3), .int b, .int (b + 7)] := .cons (.fl rfl) (.cons (.fl rfl) (.cons (.fl rfl) .nil))
    refine ⟨fun σ H' => Same H H' ∧ ∃ (ls : Addr) (vs : List V), σ = [some (.ref a), some (.int k), some (.int m), some (.int c), some (.int b), some (.ref ls), some (.ref kd), none, none] ∧ H' ls = some (.lst vs) ∧ F2 (El H') (pk1 j b) vs ∧ H' kd = some (.tup (.str (knm.getD j "") :: us)), ?_, ?_⟩
    · refine ⟨_, rfl, kd, _, 0, .str (knm.getD j ""), rfl, rfl, SqT.of hk, atI_nat (j := 0) rfl, rfl, _, rfl, ?_⟩
      by_cases h : j = 1
      · refine iteB (decide_eq_true (kk.mpr h)) ⟨(by show 3 ≤ sizeLine; decide), fun l1 h1 => ?_⟩
        have T := Same.upd (o := .lst [.str "b a", .str "", .str "b"]) h1
        exact ⟨S1.trans T, l1, _, rfl, upd_same, by unfold pk1; rw [if_pos h]; exact .cons (.fl rfl) (.cons (.fl rfl) (.cons (.fl rfl) .nil)), T _ _ hk⟩
      · exact iteC (decide_eq_false fun e => h (kk.mp e)) ⟨S1, l0, _, rfl, s1 _ _ e0, by unfold pk1; rw [if_neg h]; exact base3, hk⟩
    rintro σ H2 ⟨S2, ls, vs, rfl, g1, g2, g3⟩
    refine ⟨fun σ H' => Same H H' ∧ ∃ (ls : Addr) (vs : List V), σ = [some (.ref a), some (.int k), some (.int m), some (.int c), some (.int b), some (.ref ls), some (.ref kd), none, none] ∧ H' ls = some (.lst vs) ∧ F2 (El H') (pk2 j b) vs ∧ H' kd = some (.tup (.str (knm.getD j "") :: us)), ?_, ?_⟩
    · refine ⟨_, rfl, kd, _, 0, .str (knm.getD j ""), rfl, rfl, SqT.of g3, atI_nat (j := 0) rfl, rfl, _, rfl, ?_⟩
      by_cases h : j = 2
      · refine iteB (decide_eq_true (kk2.mpr h)) ⟨(by show 3 ≤ sizeLine; decide), fun l1 h1 => ?_⟩
        have T := Same.upd (o := .lst [.int 3, .non, .int 0]) h1
        exact ⟨S2.trans T, l1, _, rfl, upd_same, by unfold pk2; rw [if_pos h]; exact .cons (.fl rfl) (.cons (.fl rfl) (.cons (.fl rfl) .nil)), T _ _ g3⟩
      · exact iteC (decide_eq_false fun e => h (kk2.mp e)) ⟨S2, ls, _, rfl, g1, by unfold pk2; rw [if_neg h]; exact g2, g3⟩
    rintro σ H2 ⟨S2, ls, vs, rfl, g1, g2, g3⟩
    refine ⟨fun σ H' => Same H H' ∧ ∃ (ls : Addr) (vs : List V), σ = [some (.ref a), some (.int k), some (.int m), some (.int c), some (.int b), some (.ref ls), some (.ref kd), none, none] ∧ H' ls = some (.lst vs) ∧ F2 (El H') (pk3 j b) vs, ?_, ?_⟩
    · refine ⟨_, rfl, kd, _, 0, .str (knm.getD j ""), rfl, rfl, SqT.of g3, atI_nat (j := 0) rfl, rfl, _, rfl, ?_⟩
      by_cases h : j = 3
      · refine iteB (decide_eq_true (kk3.mpr h)) ⟨_, rfl, _, rfl, (by show 2 ≤ sizeLine; decide), fun t0 ht0 => ⟨(by show 0 ≤ sizeLine; decide), fun t1 ht1 => ⟨_, rfl, (by show 1 ≤ sizeLine; decide), fun t2 ht2 => ⟨(by show 3 ≤ sizeLine; decide), fun l1 h1 => ?_⟩⟩⟩⟩
        have T0 := Same.upd (o := .tup [.int b, .int b]) ht0
        have d0 := upd_same (H := H2) (a := t0) (o := .tup [.int b, .int b])
        generalize upd H2 t0 (.tup [.int b, .int b]) = Ha at *
        have T1 := Same.upd (o := .tup []) ht1
        have d1 := upd_same (H := Ha) (a := t1) (o := .tup [])
        generalize upd Ha t1 (.tup []) = Hb at *
        have T2 := Same.upd (o := .tup [.int b]) ht2
        have d2 := upd_same (H := Hb) (a := t2) (o := .tup [.int b])
        generalize upd Hb t2 (.tup [.int b]) = Hc at *
        have T3 := Same.upd (o := .lst [.ref t0, .ref t1, .ref t2]) h1
        refine ⟨S2.trans (T0.trans (T1.trans (T2.trans T3))), l1, _, rfl, upd_same, ?_⟩
        unfold pk3
        rw [if_pos h]
        exact .cons (.tup [.int b, .int b] ((T1.trans (T2.trans T3)) _ _ d0) (by simp [flt])) (.cons (.tup [] ((T2.trans T3) _ _ d1) (fun v h => nomatch h)) (.cons (.tup [.int b] (T3 _ _ d2) (by simp [flt])) .nil))
      · exact iteC (decide_eq_false fun e => h (kk3.mp e)) ⟨S2, ls, _, rfl, g1, by unfold pk3; rw [if_neg h]; exact g2⟩
    rintro σ H2 ⟨S2, ls, vs, rfl, g1, g2⟩
    obtain ⟨st, hst, st3⟩ := emod_nat (c / 3) 3 (by decide)
    have hst' : c / 3 % 3 = (st : Int) := hst
    have vl : vs.length = 3 := by rw [← g2.len, pk_len]
    refine ⟨_, rfl, _, _, rfl, rfl, ⟨by decide, by decide⟩, _, _, rfl, rfl, (pos rfl), ?_⟩
    dsimp only
    rw [hst'] at q ⊢
    refine ⟨_, rfl, _, rfl, _, rfl, ls, _, rfl, SqL.of g1, fun p1 hp1 => ?_⟩
    rw [cut_from (by omega) (by omega)]
    have T1 := Same.upd (o := .lst (vs.drop ((st : Int)).toNat)) hp1
    have d1 := upd_same (H := H2) (a := p1) (o := .lst (vs.drop ((st : Int)).toNat))
    generalize upd H2 p1 (.lst (vs.drop ((st : Int)).toNat)) = Ha at *
    refine ⟨_, rfl, _, rfl, _, rfl, ls, _, rfl, SqL.of (T1 _ _ g1), fun p2 hp2 => ?_⟩
    rw [cut_to (by omega) (by omega)]
    have T2 := Same.upd (o := .lst (vs.take ((st : Int)).toNat)) hp2
    have d2 := upd_same (H := Ha) (a := p2) (o := .lst (vs.take ((st : Int)).toNat))
    generalize upd Ha p2 (.lst (vs.take ((st : Int)).toNat)) = Hb at *
    have ll : (vs.drop ((st : Int)).toNat).length + (vs.take ((st : Int)).toNat).length = 3 := by rw [List.length_drop, List.length_take]; omega
    refine ⟨p1, p2, _, _, rfl, rfl, T2 _ _ d1, d2, (by rw [ll]; decide), fun p3 hp3 => ?_⟩
    have T3 := Same.upd (o := .lst (vs.drop ((st : Int)).toNat ++ vs.take ((st : Int)).toNat)) hp3
    have d3 := upd_same (H := Hb) (a := p3) (o := .lst (vs.drop ((st : Int)).toNat ++ vs.take ((st : Int)).toNat))
    generalize upd Hb p3 (.lst (vs.drop ((st : Int)).toNat ++ vs.take ((st : Int)).toNat)) = Hc at *
    have l3 : (vs.drop ((st : Int)).toNat ++ vs.take ((st : Int)).toNat).length = 3 := by rw [List.length_append]; exact ll
    refine ⟨_, rfl, _, rfl, _, rfl, p3, _, rfl, SqL.of d3, fun p4 hp4 => ?_⟩
    rw [cut_to (by omega) (by rw [l3]; omega)]
    have T4 := Same.upd (o := .lst ((vs.drop ((st : Int)).toNat ++ vs.take ((st : Int)).toNat).take m.toNat)) hp4
    have T14 := T1.trans (T2.trans (T3.trans T4))
    have g2' := g2.imp fun _ _ r => r.st (Same.st T14)
    exact q p4 _ _ (S2.trans T14) (cut_at (none_of (S2.trans (T1.trans (T2.trans T3))) hp4) upd_same) (((g2'.drop _).app (g2'.take _)).take _)
end
end My

namespace L2
open PySem PySem.Spec PyProof.Rows
theorem cut_mid {xs : List V} {a b : Int} (a0 : 0 ≤ a) (a1 : a ≤ xs.length) (b0 : 0 ≤ b) (b1 : b ≤ xs.length) : cutV xs (some a) (some b) = (xs.drop a.toNat).take (b.toNat - a.toNat) := by
  unfold cutV
  rw [sIx_at a0 a1, sIx_at b0 b1]
end L2
namespace My
open PySem L2 PyProof.Rows
seal L2.PE L2.PT L2.PW L2.PS L2.PSs L2.PA L2.PI L2.PG L2.PGs L2.OpR L2.UnR L2.CallR L2.IxR L2.SlR L2.MtR L2.PIf L2.PO L2.MtM L2.PC
theorem F2.snoc {α β : Type} {R : α → β → Prop} {as : List α} {bs : List β} {a : α} {b : β} (h : F2 R as bs) (r : R a b) : F2 R (as ++ [a]) (bs ++ [b]) := h.app (.cons r .nil)
def spShs (K : PySem.W.Frag) : Sp := fun vs H Q _ => ∃ (a : Addr) (ns : List Int), vs = [.ref a] ∧ SqL K H a (ns.map V.int) ∧ ∀ l ts H', Same H H' → ShsAt H' l ts → ShOk ts → Q (.ref l) H'
def shN : List Str := ["_law_script", "_law_names_here", "_law_columns", "_law_cell_here", "_law_sheets_here", "_law_sides", "_law_k", "_law_part", "_law_start"]
section
variable {P : Program} {w : World} {K : PySem.W.Frag} {mg : Str → Option Value} {base : Heap}
theorem ok_shs {f fC fN : Addr} {fd fdC fdN : FuncData} (F : Fun K "_law_sheets" "_law_sheets" (top 20) f fd) (B : Bl mg) (DC : Df K mg "_law_cell" (top 18) fC fdC) (DN : Df K mg "_law_names" (top 19) fN fdN) : FnOk P w K mg base CX0 2 f fd ["_law_script"] (spShs K) := by
  have sc : FnScope shN ["_law_script"] (defScope (top 20)) := ⟨rfl, rfl, rfl, by decide +kernel, rfl, by decide +kernel, by decide +kernel⟩
  have GC : FnOk P w K mg base CX0 1 fC fdC ["_law_script", "_law_k"] (spCel K) := ok_cel DC.fn B
  have bC := DC.fn.binds (ps := ["_law_script", "_law_k"]) fun _ _ _ _ _ _ us hl => by obtain ⟨v0, v1, rfl⟩ := L2.ln2 hl; rfl
  have GN : FnOk P w K mg base CX0 1 fN fdN ["_law_cell_here", "_law_many"] spNames := ok_names DN.fn B
  have bN := DN.fn.binds (ps := ["_law_cell_here", "_law_many"]) fun _ _ _ _ _ _ us hl => by obtain ⟨v0, v1, rfl⟩ := L2.ln2 hl; rfl
  refine F.ok sc (fun vs H Q E h => ?_) (fun cdv A outer s H vs Q E hr h => ?_)
  · obtain ⟨a, ns, rfl, _⟩ := h
    rfl
  · obtain ⟨a, ns, rfl, hS, q⟩ := h
    refine ⟨_, pss_cons (ps_set (i := 1) sc.nd rfl (Or.inl rfl) (pe_call GN hr (by rfl) DN.mg DN.fn.kp bN .nil pass0 (pa_cons (pe_call GC hr (by rfl) DC.mg DC.fn.kp bC .nil pass0 (pa_cons (pv 0) (pa_cons pe_int pa_nil))) (pa_cons pe_int pa_nil))))
      (pss_cons (ps_set (i := 2) sc.nd rfl (Or.inl rfl) (pe_call GN hr (by rfl) DN.mg DN.fn.kp bN .nil pass0 (pa_cons (pe_call GC hr (by rfl) DC.mg DC.fn.kp bC .nil pass0 (pa_cons (pv 0) (pa_cons pe_int pa_nil))) (pa_cons pe_int pa_nil))))
      (pss_cons (ps_set (i := 3) sc.nd rfl (Or.inl rfl) (pe_call GC hr (by rfl) DC.mg DC.fn.kp bC .nil pass0 (pa_cons (pv 0) (pa_cons pe_int pa_nil))))
      (pss_cons (ps_set (i := 4) sc.nd rfl (Or.inl rfl) (pe_lst (pa_cons (pe_tup (pa_cons (pe_ix ix_list (pv 1) (pe_op op_mod (pv 3) pe_int) (fun _ _ => rfl)) (pa_cons pe_str (pa_cons (pe_slice sl_list (pv 2) po_none (po_some (pe_op op_mod (pe_op op_fdiv (pv 3) pe_int) pe_int))) pa_nil)))) pa_nil)))
      (pss_cons (ps_set (i := 5) sc.nd rfl (Or.inl rfl) (pe_op op_cat (pe_slice sl_list (pv 1) po_none (po_some (pe_op op_mod (pv 3) pe_int))) (pe_slice sl_list (pv 1) (po_some (pe_op op_add (pe_op op_mod (pv 3) pe_int) pe_int)) po_none)))
      (pss_cons (ps_for PassesOwn.never rfl (pi_range1 rfl B.range (pa_cons (pe_op op_mod (pe_op op_fdiv (pv 3) pe_int) pe_int) pa_nil)) (pg_name (i := 6) sc.nd rfl (Or.inl rfl))
        (pss_cons (ps_set (i := 7) sc.nd rfl (Or.inl rfl) (pe_call GC hr (by rfl) DC.mg DC.fn.kp bC .nil pass0 (pa_cons (pv 0) (pa_cons (pe_op op_add pe_int (pv 6)) pa_nil))))
        (pss_cons (ps_set (i := 8) sc.nd rfl (Or.inl rfl) (pe_op op_mod (pe_op op_fdiv (pv 7) pe_int) pe_int))
        (pss_one (ps_expr (pe_bm PySem.F.plainAttrs_list PySem.F.slot_list_append PySem.F.type_list_append mt_app (pv 4) (pa_cons (pe_tup (pa_cons (pe_ix ix_list (pv 5) (pv 6) (fun _ _ => rfl)) (pa_cons (pe_ix ix_list (pe_lst (pa_cons pe_str (pa_cons pe_str (pa_cons pe_str pa_nil)))) (pe_op op_mod (pv 7) pe_int) (fun _ _ => rfl)) (pa_cons (pe_slice sl_list (pv 2) (po_some (pv 8)) (po_some (pe_op op_add (pv 8) (pe_op op_mod (pe_op op_fdiv (pv 7) pe_int) pe_int)))) pa_nil)))) pa_nil)))))))
      (pss_one (ps_ret (pv 4)))))))), ?_⟩
    refine ⟨_, rfl, a, ns, 0, rfl, hS, by decide, fun c0 => ⟨c0, 3, rfl, by decide, by decide, fun nl zs H1 s1 n1 nlen nnd nok => ?_⟩⟩
    refine ⟨_, rfl, a, ns, 1, rfl, s1.seq hS, by decide, fun c1 => ⟨c1, 3, rfl, by decide, by decide, fun cl ks H2 s2 k1 klen knd kok => ?_⟩⟩
    have S2 := s1.trans s2
    refine ⟨_, rfl, a, ns, 2, rfl, S2.seq hS, by decide, fun c => ?_⟩
    have nl2 := s2 _ _ (cut_sub _ _ n1)
    have cl2 := cut_sub _ _ k1
    obtain ⟨n, hn, n3⟩ := emod_nat c 3 (by decide)
    have hn' : c % 3 = (n : Int) := hn
    obtain ⟨o, ho, o3⟩ := emod_nat (c / 3) 3 (by decide)
    have ho' : c / 3 % 3 = (o : Int) := ho
    obtain ⟨t, ht, t3⟩ := emod_nat (c / 9) 3 (by decide)
    have ht' : c / 9 % 3 = (t : Int) := ht
    have zl : (zs.map V.str).length = 3 := by rw [List.length_map]; omega
    have kl : (ks.map V.str).length = 3 := by rw [List.length_map]; omega
    have hnz : n < zs.length := by omega
    refine ⟨_, rfl, _, rfl, _, _, rfl, rfl, (pos rfl), nl, _, _, .str zs[n], rfl, rfl, SqL.of nl2, (by rw [hn']; exact atI_nat (by rw [List.getElem?_map, List.getElem?_eq_getElem hnz]; rfl)), _, rfl, _, rfl, _, _, rfl, rfl, ⟨by decide, by decide⟩, _, _, rfl, rfl, (pos rfl), _, rfl, cl, _, rfl, SqL.of cl2, fun p0 hp0 => ?_⟩
    rw [ho', cut_to (by omega) (by omega), ← List.map_take]
    have T1 := Same.upd (o := .lst ((ks.take ((o : Int)).toNat).map V.str)) hp0
    have d1 := upd_same (H := H2) (a := p0) (o := .lst ((ks.take ((o : Int)).toNat).map V.str))
    generalize upd H2 p0 (.lst ((ks.take ((o : Int)).toNat).map V.str)) = H3 at *
    refine ⟨(by show 3 ≤ sizeLine; decide), fun y0 hy0 => ?_⟩
    have T2 := Same.upd (o := .tup [.str zs[n], .str "head", .ref p0]) hy0
    have d2 := upd_same (H := H3) (a := y0) (o := .tup [.str zs[n], .str "head", .ref p0])
    generalize upd H3 y0 (.tup [.str zs[n], .str "head", .ref p0]) = H4 at *
    refine ⟨(by show 1 ≤ sizeLine; decide), fun sl hsl => ?_⟩
    have T3 := Same.upd (o := .lst [.ref y0]) hsl
    have d3 := upd_same (H := H4) (a := sl) (o := .lst [.ref y0])
    generalize upd H4 sl (.lst [.ref y0]) = H5 at *
    have T13 := T1.trans (T2.trans T3)
    have nl5 := T13 _ _ nl2
    refine ⟨_, rfl, _, rfl, _, _, rfl, rfl, (pos rfl), _, rfl, nl, _, rfl, SqL.of nl5, fun p1 h1 => ?_⟩
    rw [hn', cut_to (by omega) (by rw [zl]; omega), ← List.map_take]
    have T5 := Same.upd (o := .lst ((zs.take ((n : Int)).toNat).map V.str)) h1
    have e5 := upd_same (H := H5) (a := p1) (o := .lst ((zs.take ((n : Int)).toNat).map V.str))
    generalize upd H5 p1 (.lst ((zs.take ((n : Int)).toNat).map V.str)) = H6 at *
    refine ⟨_, rfl, _, rfl, _, _, rfl, rfl, (pos rfl), _, _, rfl, rfl, _, rfl, nl, _, rfl, SqL.of (T5 _ _ nl5), fun p2 h2 => ?_⟩
    rw [hn', cut_from (by omega) (by rw [zl]; omega), ← List.map_drop]
    have T6 := Same.upd (o := .lst ((zs.drop ((n : Int) + 1).toNat).map V.str)) h2
    have e6 := upd_same (H := H6) (a := p2) (o := .lst ((zs.drop ((n : Int) + 1).toNat).map V.str))
    generalize upd H6 p2 (.lst ((zs.drop ((n : Int) + 1).toNat).map V.str)) = H7 at *
    refine ⟨p1, p2, _, _, rfl, rfl, T6 _ _ e5, e6, (by rw [List.length_map, List.length_map, List.length_take, List.length_drop, sizeLine_eq]; omega), fun p3 h3 => ?_⟩
    rw [← List.map_append]
    obtain ⟨rest, hrest⟩ : ∃ rest, rest = zs.take ((n : Int)).toNat ++ zs.drop ((n : Int) + 1).toNat := ⟨_, rfl⟩
    rw [← hrest]
    have rlen : rest.length = 2 := by
      rw [hrest, List.length_append, List.length_take, List.length_drop]
      omega
    have hperm : (zs[n] :: rest).Perm zs := by
      rw [hrest, show ((n : Int)).toNat = n by omega, show ((n : Int) + 1).toNat = n + 1 by omega]
      have : zs = zs.take n ++ zs[n] :: zs.drop (n + 1) := by rw [← List.drop_eq_getElem_cons hnz, List.take_append_drop]
      conv => rhs; rw [this]
      exact List.perm_middle.symm
    have T7 := Same.upd (o := .lst (rest.map V.str)) h3
    have e7 := upd_same (H := H7) (a := p3) (o := .lst (rest.map V.str))
    generalize upd H7 p3 (.lst (rest.map V.str)) = H8 at *
    have T57 := T5.trans (T6.trans T7)
    have S8 := S2.trans (T13.trans T57)
    have hsl0 : H sl = none := none_of (S2.trans (T1.trans T2)) hsl
    have sh0 : ShtAt H8 y0 ⟨zs[n], "head", ks.take ((o : Int)).toNat⟩ := ⟨p0, (T3.trans T57) _ _ d2, (T2.trans (T3.trans T57)) _ _ d1⟩
    have np3 : p3 ≠ sl := fun e => by rw [e, (T5.trans T6) _ _ d3] at h3; cases h3
    have ncl : cl ≠ sl := fun e => by rw [e] at cl2; rw [(T1.trans T2) _ _ cl2] at hsl; cases hsl
    refine ⟨_, rfl, _, _, rfl, rfl, ⟨by decide, by decide⟩, _, _, rfl, rfl, (pos rfl), _, rfl, (by rw [ht']; omega), (by rw [ht']; omega), ?_⟩
    refine for_range (fun i σ H' => Same H H' ∧ H' p3 = some (.lst (rest.map V.str)) ∧ H' cl = some (.lst (ks.map V.str)) ∧ ∃ (u6 u7 u8 : Option V) (ys : List Addr) (tl : List Ts), σ = [some (.ref a), some (.ref nl), some (.ref cl), some (.int c), some (.ref sl), some (.ref p3), u6, u7, u8] ∧ H' sl = some (.lst ((y0 :: ys).map V.ref)) ∧ F2 (ShtAt H') (y0 :: ys) (⟨zs[n], "head", ks.take ((o : Int)).toNat⟩ :: tl) ∧ tl.map (·.name) = rest.take i ∧ ∀ T ∈ tl, T.cols.length ≤ 2 ∧ T.cols.Nodup ∧ T.sort ∈ sorts) ⟨S8, e7, (T13.trans T57) _ _ cl2, _, _, _, [], [], rfl, T57 _ _ d3, .cons sh0 .nil, rfl, fun T h => nomatch h⟩ ?_ ?_
    · rintro i σ H' hi ⟨sm, g3, gc, u6, u7, u8, ys, tl, rfl, gs, gf, gn, gt⟩
      have hi2 : i < rest.length := by omega
      refine ⟨_, rfl, _, rfl, _, _, rfl, rfl, a, ns, _, rfl, sm.seq hS, (by omega), fun pt => ?_⟩
      obtain ⟨st, hst, st2⟩ := emod_nat (pt / 3) 2 (by decide)
      have hst' : pt / 3 % 2 = (st : Int) := hst
      obtain ⟨ex, hex, ex3⟩ := emod_nat (pt / 6) 3 (by decide)
      have hex' : pt / 6 % 3 = (ex : Int) := hex
      obtain ⟨m, hm, m3⟩ := emod_nat pt 3 (by decide)
      have hm' : pt % 3 = (m : Int) := hm
      refine ⟨_, rfl, _, _, rfl, rfl, ⟨by decide, by decide⟩, _, _, rfl, rfl, (pos rfl), ?_⟩
      dsimp only
      rw [hst']
      refine ⟨_, rfl, .inl ⟨rfl, _, SqL.of gs⟩, _, rfl, _, rfl, p3, _, _, .str rest[i], rfl, rfl, SqL.of g3, (by rw [Int.zero_add]; exact atI_nat (by rw [List.getElem?_map, List.getElem?_eq_getElem hi2]; rfl)), (by show 3 ≤ sizeLine; decide), fun q1 hq1 => ?_⟩
      have U1 := Same.upd (o := .lst [.str "many", .str "some", .str "twin"]) hq1
      have f1 := upd_same (H := H') (a := q1) (o := .lst [.str "many", .str "some", .str "twin"])
      generalize upd H' q1 (.lst [.str "many", .str "some", .str "twin"]) = Ha at *
      obtain ⟨so, hat, hso⟩ : ∃ so : Str, atI [V.str "many", V.str "some", V.str "twin"] (m : Int) = some (.str so) ∧ so ∈ sorts := by
        rcases (show m = 0 ∨ m = 1 ∨ m = 2 by omega) with rfl | rfl | rfl
        · exact ⟨"many", rfl, by decide +kernel⟩
        · exact ⟨"some", rfl, by decide +kernel⟩
        · exact ⟨"twin", rfl, by decide +kernel⟩
      refine ⟨_, rfl, _, _, rfl, rfl, (pos rfl), q1, _, _, .str so, rfl, rfl, SqL.of f1, (by rw [hm']; exact hat), _, rfl, _, rfl, _, rfl, _, rfl, _, rfl, _, _, rfl, rfl, ⟨by decide, by decide⟩, _, _, rfl, rfl, (pos rfl), _, _, rfl, rfl, _, rfl, cl, _, rfl, SqL.of (U1 _ _ gc), fun p4 hp4 => ?_⟩
      rw [hex', cut_mid (by omega) (by omega) (by omega) (by omega), ← List.map_drop, ← List.map_take]
      obtain ⟨cs, hcs⟩ : ∃ cs, cs = (ks.drop ((st : Int)).toNat).take (((st : Int) + (ex : Int)).toNat - ((st : Int)).toNat) := ⟨_, rfl⟩
      rw [← hcs]
      have U2 := Same.upd (o := .lst (cs.map V.str)) hp4
      have f2 := upd_same (H := Ha) (a := p4) (o := .lst (cs.map V.str))
      generalize upd Ha p4 (.lst (cs.map V.str)) = Hb at *
      refine ⟨(by show 3 ≤ sizeLine; decide), fun y hy => ?_⟩
      have U3 := Same.upd (o := .tup [.str rest[i], .str so, .ref p4]) hy
      have f3 := upd_same (H := Hb) (a := y) (o := .tup [.str rest[i], .str so, .ref p4])
      generalize upd Hb y (.tup [.str rest[i], .str so, .ref p4]) = Hc at *
      have U13 := U1.trans (U2.trans U3)
      have gsc := U13 _ _ gs
      have tll : tl.length = i := by
        have := congrArg List.length gn
        rw [List.length_map, List.length_take] at this
        omega
      have yl : ys.length = tl.length := by have := gf.len; simpa using this
      refine ⟨sl, _, _, rfl, rfl, gsc, (by rw [List.length_map, List.length_cons, sizeLine_eq]; omega), ?_⟩
      have nsl : ∀ {lc : Addr} {co : List Str}, Hc lc = some (.lst (co.map V.str)) → lc ≠ sl := fun {lc co} h e => by
        rw [e, gsc] at h
        injection h with h
        injection h with h
        cases co with
        | nil => cases h
        | cons z r => rw [List.map_cons, List.map_cons] at h; injection h with h; cases h
      have nst : ∀ {x : Addr} {xs : List V}, Hc x = some (.tup xs) → x ≠ sl := fun {x xs} h e => by rw [e, gsc] at h; cases h
      have mv : ∀ {x : Addr} {T : Ts} {o : HO}, ShtAt Hc x T → ShtAt (upd Hc sl o) x T := fun {x T o} ⟨lc, b1, b2⟩ => ⟨lc, by rw [upd_ne (nst b1)]; exact b1, by rw [upd_ne (nsl b2)]; exact b2⟩
      refine ⟨(sm.trans U13).put hsl0, by rw [upd_ne np3]; exact U13 _ _ g3, by rw [upd_ne ncl]; exact U13 _ _ gc, _, _, _, ys ++ [y], tl ++ [⟨rest[i], so, cs⟩], rfl, by rw [upd_same, ← List.cons_append, List.map_append]; rfl, ?_, ?_, fun T hT => ?_⟩
      · rw [← List.cons_append, ← List.cons_append]
        exact (gf.imp fun _ _ r => mv (r.same U13)).snoc (mv ⟨p4, f3, U3 _ _ f2⟩)
      · rw [List.map_append, gn, List.take_succ, List.getElem?_eq_getElem hi2]
        rfl
      · rcases List.mem_append.mp hT with hT | hT
        · exact gt T hT
        · rw [List.mem_singleton.mp hT]
          refine ⟨?_, ?_, hso⟩
          · show cs.length ≤ 2
            rw [hcs, List.length_take]
            omega
          · show cs.Nodup
            rw [hcs]
            exact knd.sublist ((List.take_sublist _ _).trans (List.drop_sublist _ _))
    · rintro σ H' ⟨sm, g3, gc, u6, u7, u8, ys, tl, rfl, gs, gf, gn, gt⟩
      have tll : tl.length ≤ 2 := by
        have := congrArg List.length gn
        rw [List.length_map, List.length_take] at this
        omega
      have hnm : (zs[n] :: tl.map (·.name)).Nodup := by
        have := hperm.nodup_iff.mpr nnd
        rw [gn]
        exact this.sublist ((List.take_sublist _ _).cons₂ _)
      refine ⟨_, rfl, q sl _ H' sm ⟨_, gs, gf⟩ ⟨by rw [List.length_cons]; omega, by rw [List.length_cons]; omega, hnm, fun T hT => ?_, fun T hT => ?_, fun T hT => ?_, fun T hT => ?_⟩⟩
      · rcases List.mem_cons.mp hT with rfl | hT
        · show (ks.take ((o : Int)).toNat).length ≤ 2
          rw [List.length_take]
          omega
        · exact (gt T hT).1
      · rcases List.mem_cons.mp hT with rfl | hT
        · exact knd.sublist (List.take_sublist _ _)
        · exact (gt T hT).2.1
      · rcases List.mem_cons.mp hT with rfl | hT
        · show ("head" : Str) ∈ sorts
          decide +kernel
        · exact (gt T hT).2.2
      · refine (nok _ (hperm.mem_iff.mp ?_)).2
        rcases List.mem_cons.mp hT with rfl | hT
        · exact List.mem_cons_self
        · refine List.mem_cons_of_mem _ ?_
          have hm : T.name ∈ tl.map (·.name) := List.mem_map.mpr ⟨T, hT, rfl⟩
          rw [gn] at hm
          exact List.mem_of_mem_take hm
end
end My

namespace My
open PySem L2 PyProof.Rows
seal L2.PE L2.PT L2.PW L2.PS L2.PSs L2.PA L2.PI L2.PG L2.PGs L2.OpR L2.UnR L2.CallR L2.IxR L2.SlR L2.MtR L2.PIf L2.PO L2.MtM L2.PC
def ncols (l : List Ts) : Nat := (l.map (·.cols.length)).sum
theorem ncols_le {l : List Ts} (h : ∀ T ∈ l, T.cols.length ≤ 2) : ncols l ≤ 2 * l.length := by
  unfold ncols
  induction l with
  | nil => exact Nat.zero_le _
  | cons T r ih =>
    have := ih fun T hT => h T (List.mem_cons_of_mem _ hT)
    have h0 := h T List.mem_cons_self
    rw [List.map_cons, List.sum_cons, List.length_cons]
    omega
structure DrOk (H : Hp) (r l sz : Addr) (ts : List Ts) (ss : List Int) : Prop where
  r : H r = some (.lst [.ref l, .ref sz])
  sh : ShsAt H l ts
  ok : ShOk ts
  sz : H sz = some (.lst (ss.map V.int))
  s3 : ∀ s ∈ ss, 1 ≤ s ∧ s ≤ 3
  nc : ncols ts ≤ ss.length
  sl : ss.length ≤ 6
def spEdge (K : PySem.W.Frag) : Sp := fun vs H Q _ => ∃ (a nl cl : Addr) (ns : List Int) (zs ks : List Str), vs = [.ref a, .ref nl, .ref cl] ∧ SqL K H a (ns.map V.int) ∧ H nl = some (.lst (zs.map V.str)) ∧ H cl = some (.lst (ks.map V.str)) ∧ zs.length = 3 ∧ ks.length = 3 ∧ zs.Nodup ∧ ks.Nodup ∧ (∀ z ∈ zs, z.length ≤ 8) ∧ ∀ r l sz ts ss H', Same H H' → DrOk H' r l sz ts ss → Q (.ref r) H'
def spDrawn (K : PySem.W.Frag) : Sp := fun vs H Q _ => ∃ (a : Addr) (ns : List Int), vs = [.ref a] ∧ SqL K H a (ns.map V.int) ∧ ∀ r l sz ts ss H', Same H H' → DrOk H' r l sz ts ss → Q (.ref r) H'
section
variable {P : Program} {w : World} {K : PySem.W.Frag} {mg : Str → Option Value} {base : Heap}
theorem ok_edge {f fC : Addr} {fd fdC : FuncData} (F : Fun K "_law_edge" "_law_edge" (top 22) f fd) (B : Bl mg) (DC : Df K mg "_law_cell" (top 18) fC fdC) : FnOk P w K mg base CX0 2 f fd ["_law_script", "_law_names_here", "_law_columns"] (spEdge K) := by
  have sc : FnScope ["_law_script", "_law_names_here", "_law_columns", "_law_sheets_here"] ["_law_script", "_law_names_here", "_law_columns"] (defScope (top 22)) := ⟨rfl, rfl, rfl, by decide +kernel, rfl, by decide +kernel, by decide +kernel⟩
  have GC : FnOk P w K mg base CX0 1 fC fdC ["_law_script", "_law_k"] (spCel K) := ok_cel DC.fn B
  have bC := DC.fn.binds (ps := ["_law_script", "_law_k"]) fun _ _ _ _ _ _ us hl => by obtain ⟨v0, v1, rfl⟩ := L2.ln2 hl; rfl
  refine F.ok sc (fun vs H Q E h => ?_) (fun cdv A outer s H vs Q E hr h => ?_)
  · obtain ⟨a, nl, cl, ns, zs, ks, rfl, _⟩ := h
    rfl
  · obtain ⟨a, nl, cl, ns, zs, ks, rfl, hS, hn, hc, zl, kl, znd, knd, z8, q⟩ := h
    obtain ⟨z0, z1, z2, rfl⟩ : ∃ z0 z1 z2, zs = [z0, z1, z2] := by
      match zs, zl with
      | [z0, z1, z2], _ => exact ⟨z0, z1, z2, rfl⟩
    obtain ⟨k0, k1, k2, rfl⟩ : ∃ k0 k1 k2, ks = [k0, k1, k2] := by
      match ks, kl with
      | [k0, k1, k2], _ => exact ⟨k0, k1, k2, rfl⟩
    have kk : k0 ≠ k1 ∧ k0 ≠ k2 ∧ k1 ≠ k2 := by
      simp only [List.nodup_cons, List.mem_cons, List.not_mem_nil, or_false, not_or] at knd
      exact ⟨knd.1.1, knd.1.2, knd.2.1⟩
    refine ⟨_, pss_cons (ps_if (pt_cmpR op_eq (pe_op op_mod (pe_op op_fdiv (pe_call GC hr (by rfl) DC.mg DC.fn.kp bC .nil pass0 (pa_cons (pv 0) (pa_cons pe_int pa_nil))) pe_int) pe_int) pe_int (nomark _)) (pss_cons (ps_set (i := 3) sc.nd rfl (Or.inl rfl) (pe_lst (pa_cons (pe_tup (pa_cons (pe_ix ix_list (pv 1) pe_int (fun _ _ => rfl)) (pa_cons pe_str (pa_cons (pe_slice sl_list (pv 2) po_none (po_some pe_int)) pa_nil)))) (pa_cons (pe_tup (pa_cons (pe_ix ix_list (pv 1) pe_int (fun _ _ => rfl)) (pa_cons pe_str (pa_cons (pe_slice sl_list (pv 2) po_none (po_some pe_int)) pa_nil)))) (pa_cons (pe_tup (pa_cons (pe_ix ix_list (pv 1) pe_int (fun _ _ => rfl)) (pa_cons pe_str (pa_cons (pe_slice sl_list (pv 2) (po_some pe_int) (po_some pe_int)) pa_nil)))) pa_nil))))) (pss_one (ps_ret (pe_lst (pa_cons (pv 3) (pa_cons (pe_lst (pa_cons pe_int (pa_cons pe_int (pa_cons pe_int (pa_cons pe_int pa_nil))))) pa_nil)))))) pss_nil)
      (pss_cons (ps_set (i := 3) sc.nd rfl (Or.inl rfl) (pe_lst (pa_cons (pe_tup (pa_cons (pe_ix ix_list (pv 1) pe_int (fun _ _ => rfl)) (pa_cons pe_str (pa_cons (pe_lst pa_nil) pa_nil)))) (pa_cons (pe_tup (pa_cons (pe_ix ix_list (pv 1) pe_int (fun _ _ => rfl)) (pa_cons pe_str (pa_cons (pe_slice sl_list (pv 2) po_none (po_some pe_int)) pa_nil)))) (pa_cons (pe_tup (pa_cons (pe_ix ix_list (pv 1) pe_int (fun _ _ => rfl)) (pa_cons pe_str (pa_cons (pe_slice sl_list (pv 2) (po_some pe_int) po_none) pa_nil)))) pa_nil))))) (pss_one (ps_ret (pe_lst (pa_cons (pv 3) (pa_cons (pe_lst (pa_cons pe_int (pa_cons pe_int (pa_cons pe_int pa_nil)))) pa_nil)))))), ?_⟩
    refine ⟨_, rfl, a, ns, 2, rfl, hS, by decide, fun c => ⟨_, _, rfl, rfl, ⟨by decide, by decide⟩, _, _, rfl, rfl, (pos rfl), rfl, _, rfl, ?_⟩⟩
    refine ite2 (fun _ => ?_) (fun _ => ?_)
    · refine ⟨_, rfl, nl, _, 0, .str z0, rfl, rfl, SqL.of hn, rfl, _, rfl, _, rfl, cl, _, rfl, SqL.of hc, fun p0 hp0 => ?_⟩
      rw [show cutV ([k0, k1, k2].map V.str) none (some 2) = [k0, k1].map V.str from rfl]
      have T1 := Same.upd (o := .lst ([k0, k1].map V.str)) hp0
      have d1 := upd_same (H := H) (a := p0) (o := .lst ([k0, k1].map V.str))
      generalize upd H p0 (.lst ([k0, k1].map V.str)) = G1 at *
      refine ⟨(by show 3 ≤ sizeLine; decide), fun y0 hy0 => ?_⟩
      have T2 := Same.upd (o := .tup [.str z0, .str "head", .ref p0]) hy0
      have d2 := upd_same (H := G1) (a := y0) (o := .tup [.str z0, .str "head", .ref p0])
      generalize upd G1 y0 (.tup [.str z0, .str "head", .ref p0]) = G2 at *
      refine ⟨_, rfl, nl, _, 1, .str z1, rfl, rfl, SqL.of ((T1.trans (T2)) _ _ hn), rfl, _, rfl, _, rfl, cl, _, rfl, SqL.of ((T1.trans (T2)) _ _ hc), fun p1 hp1 => ?_⟩
      rw [show cutV ([k0, k1, k2].map V.str) none (some 1) = [k0].map V.str from rfl]
      have T3 := Same.upd (o := .lst ([k0].map V.str)) hp1
      have d3 := upd_same (H := G2) (a := p1) (o := .lst ([k0].map V.str))
      generalize upd G2 p1 (.lst ([k0].map V.str)) = G3 at *
      refine ⟨(by show 3 ≤ sizeLine; decide), fun y1 hy1 => ?_⟩
      have T4 := Same.upd (o := .tup [.str z1, .str "many", .ref p1]) hy1
      have d4 := upd_same (H := G3) (a := y1) (o := .tup [.str z1, .str "many", .ref p1])
      generalize upd G3 y1 (.tup [.str z1, .str "many", .ref p1]) = G4 at *
      refine ⟨_, rfl, nl, _, 2, .str z2, rfl, rfl, SqL.of ((T1.trans (T2.trans (T3.trans (T4)))) _ _ hn), rfl, _, rfl, _, rfl, _, rfl, cl, _, rfl, SqL.of ((T1.trans (T2.trans (T3.trans (T4)))) _ _ hc), fun p2 hp2 => ?_⟩
      rw [show cutV ([k0, k1, k2].map V.str) (some 1) (some 2) = [k1].map V.str from rfl]
      have T5 := Same.upd (o := .lst ([k1].map V.str)) hp2
      have d5 := upd_same (H := G4) (a := p2) (o := .lst ([k1].map V.str))
      generalize upd G4 p2 (.lst ([k1].map V.str)) = G5 at *
      refine ⟨(by show 3 ≤ sizeLine; decide), fun y2 hy2 => ?_⟩
      have T6 := Same.upd (o := .tup [.str z2, .str "many", .ref p2]) hy2
      have d6 := upd_same (H := G5) (a := y2) (o := .tup [.str z2, .str "many", .ref p2])
      generalize upd G5 y2 (.tup [.str z2, .str "many", .ref p2]) = G6 at *
      refine ⟨(by show 3 ≤ sizeLine; decide), fun sl hsl => ?_⟩
      have T7 := Same.upd (o := .lst [.ref y0, .ref y1, .ref y2]) hsl
      have d7 := upd_same (H := G6) (a := sl) (o := .lst [.ref y0, .ref y1, .ref y2])
      generalize upd G6 sl (.lst [.ref y0, .ref y1, .ref y2]) = G7 at *
      refine ⟨_, rfl, (by show 4 ≤ sizeLine; decide), fun sz hsz => ?_⟩
      have ez : (upd G7 sz (.lst [.int 2, .int 3, .int 2, .int 2])) = upd G7 sz (.lst (([2, 3, 2, 2] : List Int).map V.int)) := rfl
      rw [ez]
      clear ez
      have T8 := Same.upd (o := .lst (([2, 3, 2, 2] : List Int).map V.int)) hsz
      have d8 := upd_same (H := G7) (a := sz) (o := .lst (([2, 3, 2, 2] : List Int).map V.int))
      generalize upd G7 sz (.lst (([2, 3, 2, 2] : List Int).map V.int)) = G8 at *
      refine ⟨(by show 2 ≤ sizeLine; decide), fun r hr0 => ?_⟩
      have T9 := Same.upd (o := .lst [.ref sl, .ref sz]) hr0
      have d9 := upd_same (H := G8) (a := r) (o := .lst [.ref sl, .ref sz])
      generalize upd G8 r (.lst [.ref sl, .ref sz]) = G9 at *
      have hts : ∀ T ∈ ([⟨z0, "head", [k0, k1]⟩, ⟨z1, "many", [k0]⟩, ⟨z2, "many", [k1]⟩] : List Ts), T.cols.length ≤ 2 ∧ T.cols.Nodup ∧ T.sort ∈ sorts ∧ T.name.length ≤ 8 := by
        intro T hT
        simp only [List.mem_cons, List.not_mem_nil, or_false] at hT
        rcases hT with rfl | rfl | rfl
        · exact ⟨by show 2 ≤ 2; decide, by simp [kk.1, kk.2.1, kk.2.2], by show ("head" : Str) ∈ sorts; decide +kernel, z8 z0 (by simp)⟩
        · exact ⟨by show 1 ≤ 2; decide, by simp [kk.1, kk.2.1, kk.2.2], by show ("many" : Str) ∈ sorts; decide +kernel, z8 z1 (by simp)⟩
        · exact ⟨by show 1 ≤ 2; decide, by simp [kk.1, kk.2.1, kk.2.2], by show ("many" : Str) ∈ sorts; decide +kernel, z8 z2 (by simp)⟩
      exact q r sl sz [⟨z0, "head", [k0, k1]⟩, ⟨z1, "many", [k0]⟩, ⟨z2, "many", [k1]⟩] [2, 3, 2, 2] _ (T1.trans (T2.trans (T3.trans (T4.trans (T5.trans (T6.trans (T7.trans (T8.trans (T9))))))))) ⟨d9, ⟨[y0, y1, y2], ((T8.trans (T9)) _ _ d7), .cons ⟨p0, ((T3.trans (T4.trans (T5.trans (T6.trans (T7.trans (T8.trans (T9))))))) _ _ d2), ((T2.trans (T3.trans (T4.trans (T5.trans (T6.trans (T7.trans (T8.trans (T9)))))))) _ _ d1)⟩ (.cons ⟨p1, ((T5.trans (T6.trans (T7.trans (T8.trans (T9))))) _ _ d4), ((T4.trans (T5.trans (T6.trans (T7.trans (T8.trans (T9)))))) _ _ d3)⟩ (.cons ⟨p2, ((T7.trans (T8.trans (T9))) _ _ d6), ((T6.trans (T7.trans (T8.trans (T9)))) _ _ d5)⟩ (.nil)))⟩, ⟨by show 3 ≤ 3; decide, by show 1 ≤ 3; decide, znd, fun T hT => (hts T hT).1, fun T hT => (hts T hT).2.1, fun T hT => (hts T hT).2.2.1, fun T hT => (hts T hT).2.2.2⟩, ((T9) _ _ d8), by decide, Nat.le_refl _, by decide⟩
    · refine ⟨_, rfl, nl, _, 0, .str z0, rfl, rfl, SqL.of hn, rfl, Nat.zero_le _, fun p0 hp0 => ?_⟩
      have e0 : (upd H p0 (.lst [])) = upd H p0 (.lst (([] : List Str).map V.str)) := rfl
      rw [e0]
      clear e0
      have T1 := Same.upd (o := .lst (([] : List Str).map V.str)) hp0
      have d1 := upd_same (H := H) (a := p0) (o := .lst (([] : List Str).map V.str))
      generalize upd H p0 (.lst (([] : List Str).map V.str)) = G1 at *
      refine ⟨(by show 3 ≤ sizeLine; decide), fun y0 hy0 => ?_⟩
      have T2 := Same.upd (o := .tup [.str z0, .str "head", .ref p0]) hy0
      have d2 := upd_same (H := G1) (a := y0) (o := .tup [.str z0, .str "head", .ref p0])
      generalize upd G1 y0 (.tup [.str z0, .str "head", .ref p0]) = G2 at *
      refine ⟨_, rfl, nl, _, 1, .str z1, rfl, rfl, SqL.of ((T1.trans (T2)) _ _ hn), rfl, _, rfl, _, rfl, cl, _, rfl, SqL.of ((T1.trans (T2)) _ _ hc), fun p1 hp1 => ?_⟩
      rw [show cutV ([k0, k1, k2].map V.str) none (some 2) = [k0, k1].map V.str from rfl]
      have T3 := Same.upd (o := .lst ([k0, k1].map V.str)) hp1
      have d3 := upd_same (H := G2) (a := p1) (o := .lst ([k0, k1].map V.str))
      generalize upd G2 p1 (.lst ([k0, k1].map V.str)) = G3 at *
      refine ⟨(by show 3 ≤ sizeLine; decide), fun y1 hy1 => ?_⟩
      have T4 := Same.upd (o := .tup [.str z1, .str "many", .ref p1]) hy1
      have d4 := upd_same (H := G3) (a := y1) (o := .tup [.str z1, .str "many", .ref p1])
      generalize upd G3 y1 (.tup [.str z1, .str "many", .ref p1]) = G4 at *
      refine ⟨_, rfl, nl, _, 2, .str z2, rfl, rfl, SqL.of ((T1.trans (T2.trans (T3.trans (T4)))) _ _ hn), rfl, _, rfl, _, rfl, cl, _, rfl, SqL.of ((T1.trans (T2.trans (T3.trans (T4)))) _ _ hc), fun p2 hp2 => ?_⟩
      rw [show cutV ([k0, k1, k2].map V.str) (some 2) none = [k2].map V.str from rfl]
      have T5 := Same.upd (o := .lst ([k2].map V.str)) hp2
      have d5 := upd_same (H := G4) (a := p2) (o := .lst ([k2].map V.str))
      generalize upd G4 p2 (.lst ([k2].map V.str)) = G5 at *
      refine ⟨(by show 3 ≤ sizeLine; decide), fun y2 hy2 => ?_⟩
      have T6 := Same.upd (o := .tup [.str z2, .str "many", .ref p2]) hy2
      have d6 := upd_same (H := G5) (a := y2) (o := .tup [.str z2, .str "many", .ref p2])
      generalize upd G5 y2 (.tup [.str z2, .str "many", .ref p2]) = G6 at *
      refine ⟨(by show 3 ≤ sizeLine; decide), fun sl hsl => ?_⟩
      have T7 := Same.upd (o := .lst [.ref y0, .ref y1, .ref y2]) hsl
      have d7 := upd_same (H := G6) (a := sl) (o := .lst [.ref y0, .ref y1, .ref y2])
      generalize upd G6 sl (.lst [.ref y0, .ref y1, .ref y2]) = G7 at *
      refine ⟨_, rfl, (by show 3 ≤ sizeLine; decide), fun sz hsz => ?_⟩
      have ez : (upd G7 sz (.lst [.int 3, .int 2, .int 2])) = upd G7 sz (.lst (([3, 2, 2] : List Int).map V.int)) := rfl
      rw [ez]
      clear ez
      have T8 := Same.upd (o := .lst (([3, 2, 2] : List Int).map V.int)) hsz
      have d8 := upd_same (H := G7) (a := sz) (o := .lst (([3, 2, 2] : List Int).map V.int))
      generalize upd G7 sz (.lst (([3, 2, 2] : List Int).map V.int)) = G8 at *
      refine ⟨(by show 2 ≤ sizeLine; decide), fun r hr0 => ?_⟩
      have T9 := Same.upd (o := .lst [.ref sl, .ref sz]) hr0
      have d9 := upd_same (H := G8) (a := r) (o := .lst [.ref sl, .ref sz])
      generalize upd G8 r (.lst [.ref sl, .ref sz]) = G9 at *
      have hts : ∀ T ∈ ([⟨z0, "head", []⟩, ⟨z1, "many", [k0, k1]⟩, ⟨z2, "many", [k2]⟩] : List Ts), T.cols.length ≤ 2 ∧ T.cols.Nodup ∧ T.sort ∈ sorts ∧ T.name.length ≤ 8 := by
        intro T hT
        simp only [List.mem_cons, List.not_mem_nil, or_false] at hT
        rcases hT with rfl | rfl | rfl
        · exact ⟨by show 0 ≤ 2; decide, by simp [kk.1, kk.2.1, kk.2.2], by show ("head" : Str) ∈ sorts; decide +kernel, z8 z0 (by simp)⟩
        · exact ⟨by show 2 ≤ 2; decide, by simp [kk.1, kk.2.1, kk.2.2], by show ("many" : Str) ∈ sorts; decide +kernel, z8 z1 (by simp)⟩
        · exact ⟨by show 1 ≤ 2; decide, by simp [kk.1, kk.2.1, kk.2.2], by show ("many" : Str) ∈ sorts; decide +kernel, z8 z2 (by simp)⟩
      exact q r sl sz [⟨z0, "head", []⟩, ⟨z1, "many", [k0, k1]⟩, ⟨z2, "many", [k2]⟩] [3, 2, 2] _ (T1.trans (T2.trans (T3.trans (T4.trans (T5.trans (T6.trans (T7.trans (T8.trans (T9))))))))) ⟨d9, ⟨[y0, y1, y2], ((T8.trans (T9)) _ _ d7), .cons ⟨p0, ((T3.trans (T4.trans (T5.trans (T6.trans (T7.trans (T8.trans (T9))))))) _ _ d2), ((T2.trans (T3.trans (T4.trans (T5.trans (T6.trans (T7.trans (T8.trans (T9)))))))) _ _ d1)⟩ (.cons ⟨p1, ((T5.trans (T6.trans (T7.trans (T8.trans (T9))))) _ _ d4), ((T4.trans (T5.trans (T6.trans (T7.trans (T8.trans (T9)))))) _ _ d3)⟩ (.cons ⟨p2, ((T7.trans (T8.trans (T9))) _ _ d6), ((T6.trans (T7.trans (T8.trans (T9)))) _ _ d5)⟩ (.nil)))⟩, ⟨by show 3 ≤ 3; decide, by show 1 ≤ 3; decide, znd, fun T hT => (hts T hT).1, fun T hT => (hts T hT).2.1, fun T hT => (hts T hT).2.2.1, fun T hT => (hts T hT).2.2.2⟩, ((T9) _ _ d8), by decide, Nat.le_refl _, by decide⟩
theorem ok_drawn {f fC fN fS fE : Addr} {fd fdC fdN fdS fdE : FuncData} (F : Fun K "_law_drawn" "_law_drawn" (top 23) f fd) (B : Bl mg) (DC : Df K mg "_law_cell" (top 18) fC fdC) (DN : Df K mg "_law_names" (top 19) fN fdN) (DS : Df K mg "_law_sheets" (top 20) fS fdS) (DE : Df K mg "_law_edge" (top 22) fE fdE) : FnOk P w K mg base CX0 3 f fd ["_law_script"] (spDrawn K) := by
  have sc : FnScope ["_law_script", "_law_names_here", "_law_columns"] ["_law_script"] (defScope (top 23)) := ⟨rfl, rfl, rfl, by decide +kernel, rfl, by decide +kernel, by decide +kernel⟩
  have GC : FnOk P w K mg base CX0 1 fC fdC ["_law_script", "_law_k"] (spCel K) := ok_cel DC.fn B
  have bC := DC.fn.binds (ps := ["_law_script", "_law_k"]) fun _ _ _ _ _ _ us hl => by obtain ⟨v0, v1, rfl⟩ := L2.ln2 hl; rfl
  have GN : FnOk P w K mg base CX0 1 fN fdN ["_law_cell_here", "_law_many"] spNames := ok_names DN.fn B
  have bN := DN.fn.binds (ps := ["_law_cell_here", "_law_many"]) fun _ _ _ _ _ _ us hl => by obtain ⟨v0, v1, rfl⟩ := L2.ln2 hl; rfl
  have GS : FnOk P w K mg base CX0 2 fS fdS ["_law_script"] (spShs K) := ok_shs DS.fn B DC DN
  have bS := DS.fn.binds (ps := ["_law_script"]) fun _ _ _ _ _ _ us hl => by obtain ⟨v0, rfl⟩ := L2.ln1 hl; rfl
  have GE : FnOk P w K mg base CX0 2 fE fdE ["_law_script", "_law_names_here", "_law_columns"] (spEdge K) := ok_edge DE.fn B DC
  have bE := DE.fn.binds (ps := ["_law_script", "_law_names_here", "_law_columns"]) fun _ _ _ _ _ _ us hl => by obtain ⟨v0, v1, v2, rfl⟩ := L2.ln3 hl; rfl
  refine F.ok sc (fun vs H Q E h => ?_) (fun cdv A outer s H vs Q E hr h => ?_)
  · obtain ⟨a, ns, rfl, _⟩ := h
    rfl
  · obtain ⟨a, ns, rfl, hS, q⟩ := h
    have hr1 : Room 1 _ := hr.mono (by decide)
    have ndA : (["_law_k", "_law_script"] : List Str).Nodup := by decide +kernel
    refine ⟨_, pss_cons (ps_set (i := 1) sc.nd rfl (Or.inl rfl) (pe_call GN hr1 (by rfl) DN.mg DN.fn.kp bN .nil pass0 (pa_cons (pe_call GC hr1 (by rfl) DC.mg DC.fn.kp bC .nil pass0 (pa_cons (pv 0) (pa_cons pe_int pa_nil))) (pa_cons pe_int pa_nil))))
      (pss_cons (ps_set (i := 2) sc.nd rfl (Or.inl rfl) (pe_call GN hr1 (by rfl) DN.mg DN.fn.kp bN .nil pass0 (pa_cons (pe_call GC hr1 (by rfl) DC.mg DC.fn.kp bC .nil pass0 (pa_cons (pv 0) (pa_cons pe_int pa_nil))) (pa_cons pe_int pa_nil))))
      (pss_cons (ps_if (pt_cmpR op_in_seq (pe_op op_mod (pe_op op_fdiv (pe_call GC hr1 (by rfl) DC.mg DC.fn.kp bC .nil pass0 (pa_cons (pv 0) (pa_cons pe_int pa_nil))) pe_int) pe_int) (pe_tup (pa_cons pe_int (pa_cons pe_int pa_nil))) (by with_unfolding_all rfl)) (pss_one (ps_ret (pe_call GE hr (by rfl) DE.mg DE.fn.kp bE .nil pass0 (pa_cons (pv 0) (pa_cons (pv 1) (pa_cons (pv 2) pa_nil)))))) pss_nil)
      (pss_one (ps_ret (pe_lst (pa_cons (pe_call GS hr (by rfl) DS.mg DS.fn.kp bS .nil pass0 (pa_cons (pv 0) pa_nil)) (pa_cons (pe_comp (osc := defScope (top 23)) (N0 := ["_law_script", "_law_names_here", "_law_columns"]) (xs := ["_law_k"]) (fr := [0]) ⟨rfl, by decide +kernel, by decide +kernel, by decide +kernel, (fun j hj => by
              have e : j = 0 := by simpa using hj
              subst e
              exact ⟨_, rfl, by decide +kernel⟩), by decide +kernel⟩ rfl rfl rfl (pi_range1 rfl B.range (pa_cons pe_int pa_nil))
            (fun s H fp => pg_name (i := 0) ndA rfl (Or.inl rfl)) (fun s H fp => pif_nil)
            (fun s H fp => pe_op op_add pe_int (pe_op op_mod (pe_call GC hr1 (by rfl) DC.mg DC.fn.kp bC .nil pass0 (pa_cons (pv 1) (pa_cons (pe_op op_add pe_int (pv 0)) pa_nil))) pe_int))) pa_nil))))))), ?_⟩
    refine ⟨_, rfl, a, ns, 0, rfl, hS, by decide, fun c0 => ⟨c0, 3, rfl, by decide, by decide, fun nl zs H1 s1 n1 nlen nnd nok => ?_⟩⟩
    refine ⟨_, rfl, a, ns, 1, rfl, s1.seq hS, by decide, fun c1 => ⟨c1, 3, rfl, by decide, by decide, fun cl ks H2 s2 k1 klen knd kok => ?_⟩⟩
    have S2 := s1.trans s2
    refine ⟨_, rfl, a, ns, 2, rfl, S2.seq hS, by decide, fun c => ⟨_, _, rfl, rfl, ⟨by decide, by decide⟩, _, _, rfl, rfl, (pos rfl), (by show 2 ≤ sizeLine; decide), fun b hb => ?_⟩⟩
    have T3 := Same.upd (o := .tup [.int 1, .int 2]) hb
    have e3 := upd_same (H := H2) (a := b) (o := .tup [.int 1, .int 2])
    generalize upd H2 b (.tup [.int 1, .int 2]) = H3 at *
    have S3 := S2.trans T3
    refine ⟨b, _, rfl, .inr (SqT.of e3), rfl, (by decide), _, rfl, ?_⟩
    refine ite2 (fun _ => ?_) (fun _ => ?_)
    · exact ⟨_, rfl, _, rfl, _, rfl, a, nl, cl, ns, zs, ks, rfl, S3.seq hS, (s2.trans T3) _ _ (cut_sub _ _ n1), T3 _ _ (cut_sub _ _ k1), by omega, by omega, nnd, knd, (fun z hz => (nok z hz).2), fun r l sz ts ss H' s4 d => q r l sz ts ss H' (S3.trans s4) d⟩
    · refine ⟨_, rfl, a, ns, rfl, S3.seq hS, fun l ts H4 s4 hsh hok => ?_⟩
      have S4 := S3.trans s4
      refine ⟨_, rfl, (by decide), (by decide), fun D hD => ?_⟩
      refine compW_idx 6 (fun i ys σ' Hc => (∃ t0, σ' = [t0, some (.ref a)]) ∧ Same H4 Hc ∧ ∃ ss : List Int, ys = ss.map V.int ∧ ss.length = i ∧ ∀ s ∈ ss, 1 ≤ s ∧ s ≤ 3) (by decide) ⟨⟨none, rfl⟩, Same.upd hD, [], rfl, rfl, fun s h => nomatch h⟩ upd_same ?_ ?_
      · rintro i σ' Hc ys hi ⟨⟨t0, rfl⟩, sc', ss, rfl, sl, s3⟩ hyl hD'
        refine ⟨hi, ?_⟩
        rintro x H'' ⟨rfl, rfl⟩
        refine ⟨_, rfl, _, rfl, _, _, rfl, rfl, a, ns, _, rfl, (S4.trans sc').seq hS, (by omega), fun d => ⟨_, _, rfl, rfl, (pos rfl), _, _, rfl, rfl, ?_⟩⟩
        have d0 := Int.emod_nonneg d (show (3 : Int) ≠ 0 by decide)
        have d3 := Int.emod_lt_of_pos d (show (0 : Int) < 3 by decide)
        refine ⟨hD', ⟨_, rfl⟩, sc'.put hD, ss ++ [1 + d % 3], by rw [List.map_append]; rfl, by rw [List.length_append, sl]; rfl, fun s hs => ?_⟩
        rcases List.mem_append.mp hs with hs | hs
        · exact s3 s hs
        · rw [List.mem_singleton.mp hs]
          omega
      · rintro σ' Hc ys ⟨_, sc', ss, rfl, sl, s3⟩ hDn hyl
        refine ⟨Nat.le_refl _, (by show 2 ≤ sizeLine; decide), fun r hr0 => ?_⟩
        have T6 := Same.upd (o := .lst [.ref l, .ref D]) hr0
        exact q r l D ts ss _ (S4.trans (sc'.trans T6)) ⟨upd_same, hsh.same (sc'.trans T6), hok, T6 _ _ hDn, s3, by have := ncols_le hok.cl; have := hok.le; omega, by omega⟩
end
end My

namespace My
open PySem L2 PyProof.Rows
seal L2.PE L2.PT L2.PW L2.PS L2.PSs L2.PA L2.PI L2.PG L2.PGs L2.OpR L2.UnR L2.CallR L2.IxR L2.SlR L2.MtR L2.PIf L2.PO L2.MtM L2.PC
theorem CoAt.st {H H' : Hp} {e : Addr} {T : List Str} (h : CoAt H e T) (s : STup H H') : CoAt H' e T := by
  obtain ⟨ps, h1, h2, h3⟩ := h
  exact ⟨ps, s _ _ h1, h2, fun j p c a b => let ⟨k, e⟩ := h3 j p c a b; ⟨k, s _ _ e⟩⟩
theorem EnAt.st {H H' : Hp} {e : Addr} {T : Ts} (h : EnAt H e T) (s : STup H H') : EnAt H' e T := by
  obtain ⟨ct, h1, h2⟩ := h
  exact ⟨ct, s _ _ h1, h2.st s⟩
def spFormL (K : PySem.W.Frag) : Sp := fun vs H Q _ => ∃ (a ls : Addr) (ns : List Int) (l : List Ts), vs = [.ref a, .ref ls] ∧ SqL K H a (ns.map V.int) ∧ ShsAt H ls l ∧ ShOk l ∧ ∀ f H', Same H H' → FmS H' f l → Q (.ref f) H'
def keysC (l : List Ts) : List (Str × Str) := l.flatMap fun T => T.cols.map fun c => (T.name, c)
def worldC (ns ss : List Int) (n : Nat) : List (List Dp) := (List.range n).map fun k => valD ns (k : Nat) (ss.getD k 0)
theorem worldC_snoc (ns ss : List Int) (n : Nat) : worldC ns ss (n + 1) = worldC ns ss n ++ [valD ns (n : Nat) (ss.getD n 0)] := by
  unfold worldC
  rw [List.range_succ, List.map_append]
  rfl
def dtE (W : List ((Str × Str) × Addr)) : List (List Key × V) := W.map fun x => ([.inr x.1.1, .inr x.1.2], .ref x.2)
/-- a list of values, new since H -/
def LvAt (H H' : Hp) (x : (Str × Str) × Addr) (ds : List Dp) : Prop := ∃ vs, cut H H' x.2 = some (.lst vs) ∧ F2 (El H') ds vs
def spWorld (K : PySem.W.Frag) : Sp := fun vs H Q _ => ∃ (a ls sz : Addr) (ns ss : List Int) (l : List Ts), vs = [.ref a, .ref ls, .ref sz] ∧ SqL K H a (ns.map V.int) ∧ ShsAt H ls l ∧ ShOk l ∧ H sz = some (.lst (ss.map V.int)) ∧ (∀ s ∈ ss, 1 ≤ s ∧ s ≤ 3) ∧ ncols l ≤ ss.length ∧ ss.length ≤ 6 ∧ ∀ d W H', Same H H' → cut H H' d = some (.dT (dtE W)) → W.map (·.1) = keysC l → F2 (LvAt H H') W (worldC ns ss W.length) → Q (.ref d) H'
def foN : List Str := ["_law_script", "_law_sheets_here", "_law_tables", "_law_k", "_law_name", "_law_sort", "_law_columns", "_law_shape", "_law_column"]
def woN : List Str := ["_law_script", "_law_sheets_here", "_law_sizes", "_law_values_here", "_law_k", "_law_name", "_law_sort", "_law_columns", "_law_column"]
section
variable {P : Program} {w : World} {K : PySem.W.Frag} {mg : Str → Option Value} {base : Heap}
theorem ok_formL {f fC fK : Addr} {fd fdC fdK : FuncData} (F : Fun K "_law_form" "_law_form" (top 25) f fd) (B : Bl mg) (DC : Df K mg "_law_cell" (top 18) fC fdC) (DK : Df K mg "_law_kind" (top 21) fK fdK) : FnOk P w K mg base CX0 2 f fd ["_law_script", "_law_sheets_here"] (spFormL K) := by
  have sc : FnScope foN ["_law_script", "_law_sheets_here"] (defScope (top 25)) := ⟨rfl, rfl, rfl, by decide +kernel, rfl, by decide +kernel, by decide +kernel⟩
  have GC : FnOk P w K mg base CX0 1 fC fdC ["_law_script", "_law_k"] (spCel K) := ok_cel DC.fn B
  have bC := DC.fn.binds (ps := ["_law_script", "_law_k"]) fun _ _ _ _ _ _ us hl => by obtain ⟨v0, v1, rfl⟩ := L2.ln2 hl; rfl
  have GK : FnOk P w K mg base CX0 1 fK fdK ["_law_k"] spKind := ok_kind DK.fn
  have bK := DK.fn.binds (ps := ["_law_k"]) fun _ _ _ _ _ _ us hl => by obtain ⟨v0, rfl⟩ := L2.ln1 hl; rfl
  refine F.ok sc (fun vs H Q E h => ?_) (fun cdv A outer s H vs Q E hr h => ?_)
  · obtain ⟨a, ls, ns, l, rfl, _⟩ := h
    rfl
  · obtain ⟨a, ls, ns, l, rfl, hS, ⟨ys, hsl, hys⟩, ok, q⟩ := h
    refine ⟨_, pss_cons (ps_set (i := 2) sc.nd rfl (Or.inl rfl) (pe_lst pa_nil))
      (pss_cons (ps_set (i := 3) sc.nd rfl (Or.inl rfl) pe_int)
      (pss_cons (ps_for PassesOwn.never rfl (pi_list (pv 1)) (pg_tup rfl (pgs_cons (pg_name (i := 4) sc.nd rfl (Or.inl rfl)) (pgs_cons (pg_name (i := 5) sc.nd rfl (Or.inl rfl)) (pgs_cons (pg_name (i := 6) sc.nd rfl (Or.inl rfl)) pgs_nil))))
        (pss_cons (ps_set (i := 7) sc.nd rfl (Or.inl rfl) (pe_lst pa_nil))
        (pss_cons (ps_for PassesOwn.never rfl (pi_list (pv 6)) (pg_name (i := 8) sc.nd rfl (Or.inl rfl))
          (pss_cons (ps_expr (pe_bm PySem.F.plainAttrs_list PySem.F.slot_list_append PySem.F.type_list_append mt_app (pv 7) (pa_cons (pe_tup (pa_cons (pv 8) (pa_cons (pe_call GK hr (by rfl) DK.mg DK.fn.kp bK .nil pass0 (pa_cons (pe_op op_add (pv 3) (pe_call GC hr (by rfl) DC.mg DC.fn.kp bC .nil pass0 (pa_cons (pv 0) (pa_cons pe_int pa_nil)))) pa_nil)) pa_nil))) pa_nil)))
          (pss_one (ps_set (i := 3) sc.nd rfl (Or.inl rfl) (pe_op op_add (pv 3) pe_int)))))
        (pss_one (ps_expr (pe_bm PySem.F.plainAttrs_list PySem.F.slot_list_append PySem.F.type_list_append mt_app (pv 2) (pa_cons (pe_tup (pa_cons (pv 4) (pa_cons (pv 5) (pa_cons (pe_callTy call_tuple_of (by rfl) B.tuple boot_tuple (pa_cons (pv 7) pa_nil)) pa_nil)))) pa_nil)))))))
      (pss_one (ps_ret (pe_tup (pa_cons (pe_op op_add pe_int (pe_op op_mod (pe_call GC hr (by rfl) DC.mg DC.fn.kp bC .nil pass0 (pa_cons (pv 0) (pa_cons pe_int pa_nil))) pe_int)) (pa_cons (pe_callTy call_tuple_of (by rfl) B.tuple boot_tuple (pa_cons (pv 2) pa_nil)) pa_nil))))))), ?_⟩
    refine ⟨Nat.zero_le _, fun tl htl => ?_⟩
    have S0 := Same.upd (o := .lst []) htl
    have e0 := upd_same (H := H) (a := tl) (o := .lst [])
    generalize upd H tl (.lst []) = H0 at *
    have yl : ys.length = l.length := hys.len
    refine ⟨_, rfl, ls, rfl, ⟨_, SqL.of (S0 _ _ hsl)⟩, for_list (K := K) (a := ls) (xs := ys.map V.ref) (fun i σ H' => Same H H' ∧ ∃ (es : List Addr) (k : Int) (u4 u5 u6 u7 u8 : Option V), σ = [some (.ref a), some (.ref ls), some (.ref tl), some (.int k), u4, u5, u6, u7, u8] ∧ H' tl = some (.lst (es.map V.ref)) ∧ F2 (EnAt H') es (l.take i)) ⟨S0, [], 0, _, _, _, _, _, rfl, e0, .nil⟩ (fun i σ H' _ p => SqL.of (p.1 _ _ hsl)) ?_ ?_⟩
    · rintro i x σ H1 hx ⟨sm, es, k, u4, u5, u6, u7, u8, rfl, ht, hes⟩
      have hi : i < ys.length := by
        have := (List.getElem?_eq_some_iff.mp hx).1
        rwa [List.length_map] at this
      have hil : i < l.length := by omega
      rw [List.getElem?_map, List.getElem?_eq_getElem hi] at hx
      cases hx
      obtain ⟨lc, t1, t2⟩ := hys.get i ys[i] l[i] (List.getElem?_eq_getElem hi) (List.getElem?_eq_getElem hil)
      have hT : l[i] ∈ l := List.getElem_mem hil
      have c2 := ok.cl _ hT
      have etk := take_last hil
      generalize l[i] = T at *
      refine ⟨ys[i], _, rfl, SqT.of (sm _ _ t1), rfl, _, _, rfl, _, _, rfl, _, _, rfl, rfl, ?_⟩
      refine ⟨Nat.zero_le _, fun sh hsh => ?_⟩
      have S1 := Same.upd (o := .lst []) hsh
      have e1 := upd_same (H := H1) (a := sh) (o := .lst [])
      generalize upd H1 sh (.lst []) = H2 at *
      refine ⟨_, rfl, lc, rfl, ⟨_, SqL.of (S1 _ _ (sm _ _ t2))⟩, for_list (K := K) (a := lc) (xs := T.cols.map V.str) (fun j σ H' => Same H1 H' ∧ ∃ (ps : List Addr) (k : Int) (u8 : Option V), σ = [some (.ref a), some (.ref ls), some (.ref tl), some (.int k), some (.str T.name), some (.str T.sort), some (.ref lc), some (.ref sh), u8] ∧ H' sh = some (.lst (ps.map V.ref)) ∧ F2 (fun p c => ∃ k, H' p = some (.tup [.str c, k])) ps (T.cols.take j)) ⟨S1, [], _, _, rfl, e1, .nil⟩ (fun j σ H' _ p => SqL.of (p.1 _ _ (sm _ _ t2))) ?_ ?_⟩
      · rintro j x σ H3 hx ⟨sm3, ps, k3, v8, rfl, hs3, hps⟩
        have hj : j < T.cols.length := by
          have := (List.getElem?_eq_some_iff.mp hx).1
          rwa [List.length_map] at this
        rw [List.getElem?_map, List.getElem?_eq_getElem hj] at hx
        cases hx
        refine ⟨_, rfl, .inl ⟨rfl, _, SqL.of hs3⟩, _, rfl, _, rfl, _, rfl, a, ns, 5, rfl, (sm.trans sm3).seq hS, by decide, fun c5 => ⟨_, _, rfl, rfl, _, rfl, fun kd us H4 s4 hk => ⟨(by show 2 ≤ sizeLine; decide), fun p hp => ?_⟩⟩⟩
        have T5 := Same.upd (o := .tup [.str T.cols[j], .ref kd]) hp
        have e5 := upd_same (H := H4) (a := p) (o := .tup [.str T.cols[j], .ref kd])
        generalize upd H4 p (.tup [.str T.cols[j], .ref kd]) = H5 at *
        have hs5 := (s4.trans T5) _ _ hs3
        have pl : ps.length ≤ 2 := by rw [hps.len, List.length_take]; omega
        refine ⟨sh, _, _, rfl, rfl, hs5, (by rw [List.length_map, sizeLine_eq]; omega), ?_⟩
        have st : STup H5 (upd H5 sh (.lst (ps.map V.ref ++ [.ref p]))) := STup.put fun xs h => by rw [hs5] at h; cases h
        refine ⟨_, rfl, _, _, rfl, rfl, (sm3.trans (s4.trans T5)).put hsh, ps ++ [p], _, _, rfl, by rw [upd_same, List.map_append]; rfl, ?_⟩
        rw [take_last hj]
        exact (hps.imp fun _ _ ⟨k, e⟩ => ⟨k, st _ _ ((s4.trans T5) _ _ e)⟩).snoc ⟨_, st _ _ e5⟩
      · rintro σ H3 ⟨sm3, ps, k3, v8, rfl, hs3, hps⟩
        rw [List.length_map, List.take_length] at hps
        have ht3 := sm3 _ _ ht
        refine ⟨_, rfl, .inl ⟨rfl, _, SqL.of ht3⟩, _, rfl, _, rfl, _, rfl, sh, _, rfl, .inl ⟨SqL.of hs3, fun ct hct => ⟨(by show 3 ≤ sizeLine; decide), fun e he => ?_⟩⟩⟩
        have T4 := Same.upd (o := .tup (ps.map V.ref)) hct
        have e4 := upd_same (H := H3) (a := ct) (o := .tup (ps.map V.ref))
        generalize upd H3 ct (.tup (ps.map V.ref)) = H4 at *
        have T5 := Same.upd (o := .tup [.str T.name, .str T.sort, .ref ct]) he
        have e5 := upd_same (H := H4) (a := e) (o := .tup [.str T.name, .str T.sort, .ref ct])
        generalize upd H4 e (.tup [.str T.name, .str T.sort, .ref ct]) = H5 at *
        have T45 := T4.trans T5
        have ht5 := T45 _ _ ht3
        have el : es.length ≤ 3 := by rw [hes.len, List.length_take]; have := ok.le; omega
        refine ⟨tl, _, _, rfl, rfl, ht5, (by rw [List.length_map, sizeLine_eq]; omega), ?_⟩
        have st : STup H5 (upd H5 tl (.lst (es.map V.ref ++ [.ref e]))) := STup.put fun xs h => by rw [ht5] at h; cases h
        refine ⟨(sm.trans (sm3.trans T45)).put htl, es ++ [e], _, _, _, _, _, _, rfl, by rw [upd_same, List.map_append]; rfl, ?_⟩
        rw [etk]
        refine (hes.imp fun _ _ r => (r.same (sm3.trans T45)).st st).snoc ⟨ct, st _ _ e5, ps, st _ _ (T5 _ _ e4), hps.len, fun j p c a b => ?_⟩
        obtain ⟨k, e⟩ := hps.get j p c a b
        exact ⟨k, st _ _ (T45 _ _ e)⟩
    · rintro σ H1 ⟨sm, es, k, u4, u5, u6, u7, u8, rfl, ht, hes⟩
      rw [List.length_map, yl, List.take_length] at hes
      refine ⟨_, rfl, a, ns, 4, rfl, sm.seq hS, by decide, fun c4 => ⟨_, _, rfl, rfl, (pos rfl), _, _, rfl, rfl, _, rfl, tl, _, rfl, .inl ⟨SqL.of ht, fun tt htt => ⟨(by show 2 ≤ sizeLine; decide), fun f hf => ?_⟩⟩⟩⟩
      have T1 := Same.upd (o := .tup (es.map V.ref)) htt
      have e1 := upd_same (H := H1) (a := tt) (o := .tup (es.map V.ref))
      generalize upd H1 tt (.tup (es.map V.ref)) = H2 at *
      have T2 := Same.upd (o := .tup [.int (4 + c4 % 1000), .ref tt]) hf
      exact q f _ (sm.trans (T1.trans T2)) ⟨_, tt, es, upd_same, T2 _ _ e1, hes.len, fun j e T a b => (hes.get j e T a b).same (T1.trans T2)⟩
theorem ok_world {f fC fK fV : Addr} {fd fdC fdK fdV : FuncData} (F : Fun K "_law_world" "_law_world" (top 26) f fd) (B : Bl mg) (DC : Df K mg "_law_cell" (top 18) fC fdC) (DK : Df K mg "_law_kind" (top 21) fK fdK) (DV : Df K mg "_law_values" (top 24) fV fdV) : FnOk P w K mg base CX0 3 f fd ["_law_script", "_law_sheets_here", "_law_sizes"] (spWorld K) := by
  have sc : FnScope woN ["_law_script", "_law_sheets_here", "_law_sizes"] (defScope (top 26)) := ⟨rfl, rfl, rfl, by decide +kernel, rfl, by decide +kernel, by decide +kernel⟩
  have GV : FnOk P w K mg base CX0 2 fV fdV ["_law_script", "_law_k", "_law_many"] (spVals K) := ok_vals DV.fn B DC DK
  have bV := DV.fn.binds (ps := ["_law_script", "_law_k", "_law_many"]) fun _ _ _ _ _ _ us hl => by obtain ⟨v0, v1, v2, rfl⟩ := L2.ln3 hl; rfl
  refine F.ok sc (fun vs H Q E h => ?_) (fun cdv A outer s H vs Q E hr h => ?_)
  · obtain ⟨a, ls, sz, ns, ss, l, rfl, _⟩ := h
    rfl
  · obtain ⟨a, ls, sz, ns, ss, l, rfl, hS, ⟨ys, hsl, hys⟩, ok, hz, s3, nc, s6, q⟩ := h
    have hu : (A.deeper (envOfC "_law_world" (defScope (top 26)) s.heap.objs.size f cdv)).units + 1 < cLine := hu_of hr
    refine ⟨_, pss_cons (ps_set (i := 3) sc.nd rfl (Or.inl rfl) pe_dnewT)
      (pss_cons (ps_set (i := 4) sc.nd rfl (Or.inl rfl) pe_int)
      (pss_cons (ps_for PassesOwn.never rfl (pi_list (pv 1)) (pg_tup rfl (pgs_cons (pg_name (i := 5) sc.nd rfl (Or.inl rfl)) (pgs_cons (pg_name (i := 6) sc.nd rfl (Or.inl rfl)) (pgs_cons (pg_name (i := 7) sc.nd rfl (Or.inl rfl)) pgs_nil))))
        (pss_one (ps_for PassesOwn.never rfl (pi_list (pv 7)) (pg_name (i := 8) sc.nd rfl (Or.inl rfl))
          (pss_cons (ps_dput hu (pv 3) (pe_tup (pa_cons (pv 5) (pa_cons (pv 8) pa_nil))) (pe_call GV hr (by rfl) DV.mg DV.fn.kp bV .nil pass0 (pa_cons (pv 0) (pa_cons (pv 4) (pa_cons (pe_ix ix_list (pv 2) (pv 4) (fun _ _ => rfl)) pa_nil)))) rfl)
          (pss_one (ps_set (i := 4) sc.nd rfl (Or.inl rfl) (pe_op op_add (pv 4) pe_int)))))))
      (pss_one (ps_ret (pv 3))))), ?_⟩
    refine fun d hd => ?_
    have S0 := Same.upd (o := .dT []) hd
    have e0 := upd_same (H := H) (a := d) (o := .dT [])
    generalize upd H d (.dT []) = H0 at *
    have yl : ys.length = l.length := hys.len
    have kln : ∀ i, (keysC (l.take i)).length ≤ ncols l := fun i => by
      have e : ∀ r : List Ts, (keysC r).length = ncols r := fun r => by
        induction r with
        | nil => rfl
        | cons T r ih =>
          unfold keysC ncols at *
          rw [List.flatMap_cons, List.length_append, ih, List.length_map, List.map_cons, List.sum_cons]
      have h2 : (keysC l).length = (keysC (l.take i)).length + (keysC (l.drop i)).length := by
        conv => lhs; rw [← List.take_append_drop i l]
        unfold keysC
        rw [List.flatMap_append, List.length_append]
      have := e l
      omega
    have knd : (keysC l).Nodup := by
      have hn := ok.nd
      have hc := ok.cn
      clear hys yl hsl nc kln ok q
      induction l with
      | nil => exact List.nodup_nil
      | cons T r ih =>
        rw [List.map_cons, List.nodup_cons] at hn
        unfold keysC
        rw [List.flatMap_cons, List.nodup_append]
        refine ⟨?_, ih hn.2 fun T hT => hc T (List.mem_cons_of_mem _ hT), fun x hx y hy e => ?_⟩
        · exact List.Pairwise.map _ (fun a b h e => h (congrArg Prod.snd e)) (hc T List.mem_cons_self)
        · obtain ⟨c, _, rfl⟩ := List.mem_map.mp hx
          obtain ⟨T', hT', hy⟩ := List.mem_flatMap.mp hy
          obtain ⟨c', _, rfl⟩ := List.mem_map.mp hy
          exact hn.1 (List.mem_map.mpr ⟨T', hT', (congrArg Prod.fst e).symm⟩)
    refine ⟨_, rfl, ls, rfl, ⟨_, SqL.of (S0 _ _ hsl)⟩, for_list (K := K) (a := ls) (xs := ys.map V.ref) (fun i σ H' => Same H H' ∧ ∃ (W : List ((Str × Str) × Addr)) (u5 u6 u7 u8 : Option V), σ = [some (.ref a), some (.ref ls), some (.ref sz), some (.ref d), some (.int (W.length : Nat)), u5, u6, u7, u8] ∧ H' d = some (.dT (dtE W)) ∧ W.map (·.1) = keysC (l.take i) ∧ F2 (LvAt H H') W (worldC ns ss W.length)) ⟨S0, [], _, _, _, _, rfl, e0, rfl, .nil⟩ (fun i σ H' _ p => SqL.of (p.1 _ _ hsl)) ?_ ?_⟩
    · rintro i x σ H1 hx ⟨sm, W, u5, u6, u7, u8, rfl, hd1, hW, hF⟩
      have hi : i < ys.length := by
        have := (List.getElem?_eq_some_iff.mp hx).1
        rwa [List.length_map] at this
      have hil : i < l.length := by omega
      rw [List.getElem?_map, List.getElem?_eq_getElem hi] at hx
      cases hx
      obtain ⟨lc, t1, t2⟩ := hys.get i ys[i] l[i] (List.getElem?_eq_getElem hi) (List.getElem?_eq_getElem hil)
      have etk := take_last hil
      have kk : ∀ j, j < l[i].cols.length → ((keysC (l.take i)) ++ (l[i].cols.take j).map fun c => (l[i].name, c)).length < ss.length ∧ ((keysC (l.take i) ++ (l[i].cols.take j).map fun c => (l[i].name, c)) ++ [(l[i].name, l[i].cols[j]!)]).Nodup := fun j hj => by
        have hsub : ((keysC (l.take i) ++ (l[i].cols.take j).map fun c => (l[i].name, c)) ++ [(l[i].name, l[i].cols[j]!)]).Sublist (keysC l) := by
          have e2 : keysC l = keysC (l.take i) ++ ((l[i].cols.map fun c => (l[i].name, c)) ++ keysC (l.drop (i + 1))) := by
            conv => lhs; rw [← List.take_append_drop i l, List.drop_eq_getElem_cons hil]
            unfold keysC
            rw [List.flatMap_append, List.flatMap_cons]
          rw [e2, List.append_assoc]
          refine List.Sublist.append_left ?_ _
          refine List.Sublist.trans ?_ (List.sublist_append_left _ _)
          have e3 : (l[i].cols.take j).map (fun c => (l[i].name, c)) ++ [(l[i].name, l[i].cols[j]!)] = (l[i].cols.take (j + 1)).map fun c => (l[i].name, c) := by
            rw [take_last hj, List.map_append, getElem!_pos l[i].cols j hj]
            rfl
          rw [e3]
          exact (List.take_sublist _ _).map _
        refine ⟨?_, knd.sublist hsub⟩
        have := hsub.length_le
        have h3 := kln l.length
        rw [List.take_length] at h3
        rw [List.length_append] at this
        simp only [List.length_cons, List.length_nil] at this
        omega
      generalize l[i] = T at *
      refine ⟨ys[i], _, rfl, SqT.of (sm _ _ t1), rfl, _, _, rfl, _, _, rfl, _, _, rfl, rfl, ?_⟩
      refine ⟨_, rfl, lc, rfl, ⟨_, SqL.of (sm _ _ t2)⟩, for_list (K := K) (a := lc) (xs := T.cols.map V.str) (fun j σ H' => Same H H' ∧ ∃ (W : List ((Str × Str) × Addr)) (u8 : Option V), σ = [some (.ref a), some (.ref ls), some (.ref sz), some (.ref d), some (.int (W.length : Nat)), some (.str T.name), some (.str T.sort), some (.ref lc), u8] ∧ H' d = some (.dT (dtE W)) ∧ W.map (·.1) = keysC (l.take i) ++ (T.cols.take j).map (fun c => (T.name, c)) ∧ F2 (LvAt H H') W (worldC ns ss W.length)) ⟨sm, W, _, rfl, hd1, by rw [hW, List.take_zero, List.map_nil, List.append_nil], hF⟩ (fun j σ H' _ p => SqL.of (p.1 _ _ t2)) ?_ ?_⟩
      · rintro j x σ H3 hx ⟨sm3, W, v8, rfl, hd3, hW, hF⟩
        have hj : j < T.cols.length := by
          have := (List.getElem?_eq_some_iff.mp hx).1
          rwa [List.length_map] at this
        rw [List.getElem?_map, List.getElem?_eq_getElem hj] at hx
        cases hx
        obtain ⟨hlt, hnd⟩ := kk j hj
        rw [← hW, getElem!_pos T.cols j hj] at hnd
        rw [← hW, List.length_map] at hlt
        have hs := s3 _ (List.getElem_mem hlt)
        refine ⟨_, rfl, _, rfl, _, rfl, _, rfl, sz, _, _, .int ss[W.length], rfl, rfl, SqL.of (sm3 _ _ hz), atI_nat (by rw [List.getElem?_map, List.getElem?_eq_getElem hlt]; rfl), a, ns, _, _, rfl, sm3.seq hS, (by omega), hs.1, hs.2, fun lv vs H4 s4 g1 g2 => ?_⟩
        refine ⟨_, rfl, _, rfl, _, rfl, (by show 2 ≤ sizeLine; decide), fun kt hkt => ?_⟩
        have T5 := Same.upd (o := .tup [.str T.name, .str T.cols[j]]) hkt
        have e5 := upd_same (H := H4) (a := kt) (o := .tup [.str T.name, .str T.cols[j]])
        generalize upd H4 kt (.tup [.str T.name, .str T.cols[j]]) = H5 at *
        have S5 := s4.trans T5
        have hd5 := S5 _ _ hd3
        have hnew : valV (dtE W) ([.inr T.name, .inr T.cols[j]] : List Key) = none := by
          cases ev : valV (dtE W) ([.inr T.name, .inr T.cols[j]] : List Key) with
          | none => rfl
          | some v =>
            have := valV_in ev
            unfold dtE at this
            rw [List.map_map] at this
            obtain ⟨x, hx, ex⟩ := List.mem_map.mp this
            injection ex with ex1 ex2
            injection ex2 with ex2
            injection ex1 with ex1
            injection ex2 with ex2
            rw [List.nodup_append] at hnd
            exact absurd rfl (hnd.2.2 (T.name, T.cols[j]) (List.mem_map.mpr ⟨x, hx, Prod.ext ex1 ex2⟩) _ List.mem_cons_self)
        have wl6 : W.length < 6 := by omega
        refine ⟨d, _, rfl, .inr ⟨_, [.inr T.name, .inr T.cols[j]], kt, hd5, rfl, e5, (by unfold dtE; rw [List.length_map, sizeLine_eq]; omega), rfl⟩, ?_⟩
        rw [putK_new _ hnew]
        have st : STup H5 (upd H5 d (.dT (dtE W ++ [([.inr T.name, .inr T.cols[j]], .ref lv)]))) := STup.put fun xs h => by rw [hd5] at h; cases h
        refine ⟨_, rfl, _, _, rfl, rfl, (sm3.trans S5).put hd, W ++ [((T.name, T.cols[j]), lv)], some (.str T.cols[j]), ?_, ?_, ?_, ?_⟩
        · rw [List.length_append]
          rfl
        · rw [upd_same]
          unfold dtE
          rw [List.map_append]
          rfl
        · rw [List.map_append, hW, take_last hj, List.map_append, List.append_assoc]
          rfl
        · have mv : ∀ x ds, LvAt H H3 x ds → LvAt H (upd H5 d (.dT (dtE W ++ [([.inr T.name, .inr T.cols[j]], .ref lv)]))) x ds := fun x ds ⟨vs, b1, b2⟩ => by
            have nb : x.2 ≠ d := fun e => by have := cut_sub _ _ b1; rw [e, hd3] at this; cases this
            exact ⟨vs, cut_at (cut_new b1) (by rw [upd_ne nb]; exact S5 _ _ (cut_sub _ _ b1)), b2.imp fun _ _ r => (r.st (Same.st S5)).st st⟩
          rw [List.length_append]
          show F2 _ _ (worldC ns ss (W.length + 1))
          rw [worldC_snoc]
          refine (hF.imp mv).snoc ⟨vs, ?_, ?_⟩
          · have nb : lv ≠ d := fun e => by have := cut_new g1; rw [e, hd3] at this; cases this
            exact cut_at (none_of sm3 (cut_new g1)) (by rw [upd_ne nb]; exact T5 _ _ (cut_sub _ _ g1))
          · rw [List.getD_eq_getElem?_getD, List.getElem?_eq_getElem hlt]
            exact g2.imp fun _ _ r => (r.st (Same.st T5)).st st
      · rintro σ H3 ⟨sm3, W, v8, rfl, hd3, hW, hF⟩
        rw [List.length_map, List.take_length] at hW
        refine ⟨sm3, W, _, _, _, _, rfl, hd3, ?_, hF⟩
        rw [hW, etk]
        unfold keysC
        rw [List.flatMap_append, List.flatMap_singleton]
    · rintro σ H1 ⟨sm, W, u5, u6, u7, u8, rfl, hd1, hW, hF⟩
      rw [List.length_map, yl, List.take_length] at hW
      exact ⟨_, rfl, q d W H1 sm (cut_at hd hd1) hW hF⟩
end
end My

namespace L2
open PySem PySem.Spec PyProof.Rows
theorem boot_verr : bootBuiltins "ValueError" = some (.type "ValueError") := by decide +kernel
theorem mt_clr {X : Cx} : MtR X "list.clear" rClear := mt_clear
theorem sIx_p {n d : Nat} {k : Int} (h0 : 0 ≤ k) : HT.sIx n d (some k) = min k.toNat n := by
  have e := HT.clip_eq k n d
  rw [if_neg (by omega)] at e
  omega
theorem sIx_m {n d : Nat} : HT.sIx n d (some (-1)) = n - 1 := by
  have e := HT.clip_eq (-1) n d
  rw [if_pos (by decide)] at e
  omega
theorem cut_to1 {xs : List V} : cutV xs none (some 1) = xs.take 1 := by
  unfold cutV
  rw [sIx_p (by decide), HT.sIx_none, List.drop_zero, Nat.sub_zero]
  cases xs with
  | nil => rfl
  | cons x r => rw [show min (1 : Int).toNat (x :: r).length = 1 by rw [List.length_cons]; omega]
theorem cut_fr1 {xs : List V} : cutV xs (some 1) none = xs.drop 1 := by
  unfold cutV
  rw [sIx_p (by decide), HT.sIx_none]
  cases xs with
  | nil => rfl
  | cons x r =>
    rw [show min (1 : Int).toNat (x :: r).length = 1 by rw [List.length_cons]; omega]
    exact List.take_of_length_le (by rw [List.length_drop]; omega)
theorem cut_las {xs : List V} : cutV xs (some (-1)) none = xs.drop (xs.length - 1) := by
  unfold cutV
  rw [sIx_m, HT.sIx_none]
  exact List.take_of_length_le (by rw [List.length_drop]; omega)
theorem cut_inn {xs : List V} : cutV xs (some 1) (some (-1)) = (xs.drop 1).take (xs.length - 2) := by
  unfold cutV
  rw [sIx_m, sIx_p (by decide)]
  cases xs with
  | nil => rfl
  | cons x r => rw [show min (1 : Int).toNat (x :: r).length = 1 by rw [List.length_cons]; omega, show (x :: r).length - 1 - 1 = (x :: r).length - 2 by omega]
theorem atI_las {xs : List V} (h : 0 < xs.length) : atI xs (-1) = xs[xs.length - 1]? := by
  unfold atI ixN
  rw [if_neg (by omega), if_pos (by omega)]
  show xs[((xs.length : Int) + -1).toNat]? = _
  congr 1
  omega
end L2
namespace My
open PySem L2 PyProof.Rows
seal L2.PE L2.PT L2.PW L2.PS L2.PSs L2.PA L2.PI L2.PG L2.PGs L2.OpR L2.UnR L2.CallR L2.IxR L2.SlR L2.MtR L2.PIf L2.PO L2.MtM L2.PC
structure Rf (K : PySem.W.Frag) (mg : Str → Option Value) (CT CS CM : Addr) : Prop where
  mT : mg "TableError" = some (.ref CT)
  mS : mg "StepError" = some (.ref CS)
  mM : mg "TooMany" = some (.ref CM)
  nV : mg "ValueError" = none
  x : XMkB K CM
  xi : XIs K CM
  un : Under K CM CM
  isT : PySem.W.kitOne K (.ref CM) (.ref CT) = some true
  isV : PySem.W.kitOne K (.ref CM) (.type "ValueError") = some true
  isS : PySem.W.kitOne K (.ref CM) (.ref CS) = some false
theorem kit1 {K : PySem.W.Frag} {C D : Addr} {b : Bool} (h : PySem.W.kitOne K (.ref C) (.ref D) = some b) : ∀ u, RelV (.ref D) u → PySem.W.kitOne K (.ref C) u = some b := fun u r => by cases (show u = Value.ref D from r); exact h
theorem kitV {K : PySem.W.Frag} {C : Addr} {b : Bool} (h : PySem.W.kitOne K (.ref C) (.type "ValueError") = some b) : ∀ u, RelV (.ty "ValueError") u → PySem.W.kitOne K (.ref C) u = some b := fun u r => by cases (show u = Value.type "ValueError" from r); exact h
theorem dq_bs {H : Hp} {n : Nat} (i : Nat) (x y : V) (h1 : [V.bl true, V.bl true, V.bl false][i]? = some x) (h2 : [V.bl true, V.bl true, V.bl false][i]? = some y) : Dq H n x y := by
  rw [h1] at h2
  cases h2
  match i, h1 with
  | 0, h1 => cases h1; exact .bl
  | 1, h1 => cases h1; exact .bl
  | 2, h1 => cases h1; exact .bl
def spRefd : Sp := fun vs H Q _ => ∃ (f d : Addr) (l : List Ts) (W : List ((Str × Str) × Addr)) (wl : Str → Str → List V), vs = [.ref f, .ref d] ∧ FmS H f l ∧ VlAt H d W wl ∧ WOk l W wl ∧ 300 < manyP wl l ∧ ∀ H', Q (.bl true) H'
section
variable {P : Program} {w : World} {K : PySem.W.Frag} {mg : Str → Option Value} {base : Heap} {CT CS CM : Addr}
theorem ok_refd {f fP : Addr} {fd fdP : FuncData} (F : Fun K "_law_refused" "_law_refused" (top 32) f fd) (B : Bl mg) (R : Rf K mg CT CS CM) (DP : Df K mg "pieces_of" (top 9) fP fdP) (GP : FnOk P w K mg base (CX1 P w) 3 fP fdP ["form", "values"] (spPiecesX CM)) : FnOk P w K mg base CX0 4 f fd ["_law_form_here", "_law_values_here"] spRefd := by
  have sc : FnScope ["_law_form_here", "_law_values_here", "_law_found", "e"] ["_law_form_here", "_law_values_here"] (defScope (top 32)) := ⟨rfl, rfl, rfl, by decide +kernel, rfl, by decide +kernel, by decide +kernel⟩
  have bP := DP.fn.binds (ps := ["form", "values"]) fun _ _ _ _ _ _ us hl => by obtain ⟨v0, v1, rfl⟩ := L2.ln2 hl; rfl
  refine F.ok sc (fun vs H Q E h => ?_) (fun cdv A outer s H vs Q E hr h => ?_)
  · obtain ⟨f, d, l, W, wl, rfl, _⟩ := h
    rfl
  · obtain ⟨fo, d, l, W, wl, rfl, hf, hV, ok, h3, q⟩ := h
    have hu3 : (A.deeper (envOfC "_law_refused" (defScope (top 32)) s.heap.objs.size f cdv)).units + 0 + 1 < cLine := by have := hr.un; omega
    refine ⟨_, pss_cons (ps_set (i := 2) sc.nd rfl (Or.inl rfl) pe_non)
      (pss_cons (ps_tryU1 (on := none) (i := 3) rfl rfl sc.nd rfl rfl (by rfl) R.mM R.x.cl
        (fun D pn XE L => pss_one (ps_expr (pe_callX GP hr (by rfl) DP.mg DP.fn.kp bP .nil L (pa_cons (pv 0) (pa_cons (pv 1) pa_nil)))))
        (fun x C => pss_one (ps_set (i := 2) sc.nd rfl (Or.inl rfl) (pe_lst (pa_cons (pe_callB call_isX (by rfl) B.isi boot_isi (pa_cons (pv 3) (pa_cons (pe_glob (v := .ref CT) (by rfl) R.mT rfl) pa_nil))) (pa_cons (pe_callB call_isX (by rfl) B.isi boot_isi (pa_cons (pv 3) (pa_cons (pe_bltn (v := .ty "ValueError") (by rfl) R.nV boot_verr rfl) pa_nil))) (pa_cons (pe_callB call_isX (by rfl) B.isi boot_isi (pa_cons (pv 3) (pa_cons (pe_glob (v := .ref CS) (by rfl) R.mS rfl) pa_nil))) pa_nil)))))))
      (pss_one (ps_ret (pe_cmpR op_eqL (pv 2) (pe_lst (pa_cons pe_bl (pa_cons pe_bl (pa_cons pe_bl pa_nil)))) (nomark _))))), ?_⟩
    refine ⟨_, rfl, _, rfl, fo, d, l, W, wl, rfl, hf, hV, ok, h3, fun H1 s1 => ⟨_, rfl, R.un, fun x hx => ?_⟩⟩
    have hx9 : (upd H1 x (.ext (gotP x CM none))) x = some (.ext (gotP x CM none)) := upd_same
    generalize upd H1 x (.ext (gotP x CM none)) = H9 at *
    have hdd : ∀ dx', (none : Option Addr) = some dx' → ∃ fs, H9 dx' = some (.ext (dctP dx' fs)) := fun dx' e => by cases e
    refine ⟨_, rfl, x, CM, none, _, true, rfl, hx9, hdd, R.xi, kit1 R.isT, _, rfl, x, CM, none, _, true, rfl, hx9, hdd, R.xi, kitV R.isV, _, rfl, x, CM, none, _, false, rfl, hx9, hdd, R.xi, kit1 R.isS, (by show 3 ≤ sizeLine; decide), fun l1 h1 => ⟨_, rfl, (by show 3 ≤ sizeLine; decide), ?_⟩⟩
    refine fun l2 h2 => ?_
    exact ⟨0, l1, l2, _, _, rfl, rfl, SqL.of ((Same.upd h2) _ _ upd_same), SqL.of upd_same, rfl, dq_bs, hu3, q _⟩
end
end My

namespace My
open PySem L2 PyProof.Rows
seal L2.PE L2.PT L2.PW L2.PS L2.PSs L2.PA L2.PI L2.PG L2.PGs L2.OpR L2.UnR L2.CallR L2.IxR L2.SlR L2.MtR L2.PIf L2.PO L2.MtM L2.PC
/-! ### alike, the columns and tables in the other order -/
theorem dq_self {H : Hp} {n : Nat} {v : V} (h : flt v = true ∨ ∃ a, v = .ref a) : Dq H n v v := by
  rcases h with h | ⟨a, rfl⟩
  · cases v with
    | non => exact .non
    | bl b => exact .bl
    | int i => exact .int
    | str z => exact .str
    | _ => cases h
  · exact .ref
theorem rK_val {row : Rw} (nd : (row.map (·.1)).Nodup) {c : Str × V} (hc : c ∈ row) : valV (rK row) (.inr c.1) = some c.2 := by
  induction row with
  | nil => cases hc
  | cons a r ih =>
    rw [List.map_cons, List.nodup_cons] at nd
    unfold rK
    rw [List.map_cons]
    rcases List.mem_cons.mp hc with rfl | hc
    · exact valV_pos rfl
    · rw [valV_neg (p := ((Sum.inr a.1 : Key), a.2)) (fun e => by
        injection e with e
        exact nd.1 (by rw [e]; exact List.mem_map.mpr ⟨c, hc, rfl⟩))]
      exact ih nd.2 hc
theorem row_dq {H G : Hp} {r r' : Addr} {row : Rw} (ok : RwOk G row) (h1 : H r = some (.dK (rK row))) (h2 : H r' = some (.dK (rK row.reverse))) : Dq H 1 (.ref r) (.ref r') := by
  have val : ∀ (k : Key) (v : V), (k, v) ∈ rK row → valV (rK row) k = some v ∧ (k, v) ∈ rK row.reverse ∧ (flt v = true ∨ ∃ a, v = .ref a) := fun k v h => by
    obtain ⟨c, hc, e⟩ := List.mem_map.mp h
    cases e
    exact ⟨rK_val ok.1 hc, List.mem_map.mpr ⟨c, List.mem_reverse.mpr hc, rfl⟩, (ok.2 c hc).imp id fun ⟨a, _, e, _⟩ => ⟨a, e⟩⟩
  refine .dct (fun k => (valV (rK row) k).getD .non) (.inl h1) (.inl h2) (by unfold rK; rw [List.length_map, List.length_map, List.length_reverse]) (fun k v h => ?_) (fun k v h => ?_) fun k v h => ?_
  · obtain ⟨c, _, e⟩ := List.mem_map.mp h
    cases e
    exact ⟨_, rfl⟩
  · obtain ⟨a, b, _⟩ := val k v h
    rw [a]
    exact b
  · obtain ⟨a, _, c⟩ := val k v h
    rw [a]
    exact dq_self c
theorem rows_dq1 {H G : Hp} {rs rs' : List Addr} {rows : List Rw} (ok : ∀ row ∈ rows, RwOk G row) (h1 : F2 (fun r row => H r = some (.dK (rK row))) rs rows) (h2 : F2 (fun r row => H r = some (.dK (rK row))) rs' (revR rows)) : ∀ (i : Nat) (x y : V), (rs.map V.ref)[i]? = some x → (rs'.map V.ref)[i]? = some y → Dq H 1 x y := fun i x y e1 e2 => by
  rw [List.getElem?_map] at e1 e2
  cases a1 : rs[i]? with
  | none => rw [a1] at e1; cases e1
  | some r =>
    cases a2 : rs'[i]? with
    | none => rw [a2] at e2; cases e2
    | some r' =>
      rw [a1] at e1
      rw [a2] at e2
      cases e1
      cases e2
      have hi : i < rows.length := by rw [← h1.len]; exact (List.getElem?_eq_some_iff.mp a1).1
      exact row_dq (ok _ (List.getElem_mem hi)) (h1.get i r _ a1 (List.getElem?_eq_getElem hi)) (h2.get i r' _ a2 (by unfold revR; rw [List.getElem?_map, List.getElem?_eq_getElem hi]; rfl))
theorem RowsAt.f2 {H : Hp} {l : Addr} {rows : List Rw} (h : RowsAt H l rows) : ∃ rs : List Addr, H l = some (.lst (rs.map V.ref)) ∧ F2 (fun r row => H r = some (.dK (rK row))) rs rows := let ⟨rs, a, b, c⟩ := h; ⟨rs, a, F2.of b c⟩
theorem rows_dq {H G : Hp} {l l' : Addr} {rows : List Rw} (ok : ∀ row ∈ rows, RwOk G row) (h1 : RowsAt H l rows) (h2 : RowsAt H l' (revR rows)) : Dq H 2 (.ref l) (.ref l') := by
  obtain ⟨rs, a1, b1⟩ := h1.f2
  obtain ⟨rs', a2, b2⟩ := h2.f2
  exact .lst a1 a2 (by rw [List.length_map, List.length_map, b1.len, b2.len]; unfold revR; rw [List.length_map]) (rows_dq1 ok b1 b2)
theorem pc_dq {H G : Hp} {p p' : Addr} {pc : Pc} (nd : (pc.map (·.1)).Nodup) (ok : ∀ t ∈ pc, ∀ row ∈ t.2, RwOk G row) (h1 : PcAt H p pc) (h2 : PcAt H p' (revP pc)) : Dq H 3 (.ref p) (.ref p') := by
  obtain ⟨ls, a1, b1, c1⟩ := h1
  obtain ⟨ls', a2, b2, c2⟩ := h2
  have rn : (revP pc).map (·.1) = (pc.map (·.1)).reverse := by
    unfold revP
    rw [List.map_reverse, List.map_map]
    rfl
  have rl : (revP pc).length = pc.length := by unfold revP; rw [List.length_reverse, List.length_map]
  have nd' : ((revP pc).map (·.1)).Nodup := by rw [rn]; exact List.pairwise_reverse.mpr (nd.imp fun h => h.symm)
  have val : ∀ (k : Key) (v : V), (k, v) ∈ zK (pc.map (·.1)) ls → ∃ v', valV (zK ((revP pc).map (·.1)) ls') k = some v' ∧ (k, v') ∈ zK ((revP pc).map (·.1)) ls' ∧ Dq H 2 v v' := fun k v h => by
    obtain ⟨i, hi⟩ := List.getElem?_of_mem h
    obtain ⟨z, l, hz, hl, rfl, rfl⟩ := zK_get hi
    have hil : i < pc.length := by rw [← b1]; exact (List.getElem?_eq_some_iff.mp hl).1
    have hj : pc.length - 1 - i < ls'.length := by omega
    have er : (revP pc)[pc.length - 1 - i]? = some (pc[i].1, revR pc[i].2) := by
      unfold revP
      rw [List.getElem?_reverse (by rw [List.length_map]; omega), List.length_map, show pc.length - 1 - (pc.length - 1 - i) = i by omega, List.getElem?_map, List.getElem?_eq_getElem hil]
      rfl
    have ez : z = pc[i].1 := by
      rw [List.getElem?_map, List.getElem?_eq_getElem hil] at hz
      exact (Option.some.inj hz).symm
    have en : ((revP pc).map (·.1))[pc.length - 1 - i]? = some z := by rw [List.getElem?_map, er, ez]; rfl
    have el : ls'[pc.length - 1 - i]? = some ls'[pc.length - 1 - i] := List.getElem?_eq_getElem hj
    refine ⟨.ref ls'[pc.length - 1 - i], zw_val nd' en (by rw [List.getElem?_map, el]; rfl), zK_mem en el, ?_⟩
    exact rows_dq (ok _ (List.getElem_mem hil)) (c1 i l pc[i] hl (List.getElem?_eq_getElem hil)) (c2 _ _ _ el er)
  refine .dct (fun k => (valV (zK ((revP pc).map (·.1)) ls') k).getD .non) (.inl a1) (.inl a2) ?_ (fun k v h => ?_) (fun k v h => ?_) fun k v h => ?_
  · rw [zK_len (by rw [List.length_map]; exact b1), zK_len (by rw [List.length_map]; exact b2), List.length_map, List.length_map, rl]
  · obtain ⟨i, hi⟩ := List.getElem?_of_mem h
    obtain ⟨z, l, hz, hl, rfl, rfl⟩ := zK_get hi
    exact ⟨z, rfl⟩
  · obtain ⟨v', e1, e2, _⟩ := val k v h
    rw [e1]
    exact e2
  · obtain ⟨v', e1, _, e3⟩ := val k v h
    rw [e1]
    exact e3
/-- a table of a piece -/
theorem PcD.tab {G : Hp} {p : Addr} {pc : Pc} {nm : Str} (h : PcD G p pc) (nd : (pc.map (·.1)).Nodup) (hn : nm ∈ pc.map (·.1)) : ∃ (kvs : List (Key × V)) (l : Addr) (rows : List Rw) (rs : List Addr), G p = some (.dK kvs) ∧ valV kvs (.inr nm) = some (.ref l) ∧ (nm, rows) ∈ pc ∧ G l = some (.lst (rs.map V.ref)) ∧ rs.Nodup ∧ F2 (fun r row => G r = some (.dK (rK row))) rs rows := by
  obtain ⟨ls, a, b, c⟩ := h
  obtain ⟨i, hi⟩ := List.getElem?_of_mem hn
  have hil : i < pc.length := by have := (List.getElem?_eq_some_iff.mp hi).1; rwa [List.length_map] at this
  have hl : ls[i]? = some ls[i] := List.getElem?_eq_getElem (by omega)
  have e : pc[i].1 = nm := by
    rw [List.getElem?_map, List.getElem?_eq_getElem hil] at hi
    exact Option.some.inj hi
  obtain ⟨rs, r1, r2, r3, r4⟩ := c i _ pc[i] hl (List.getElem?_eq_getElem hil)
  refine ⟨_, ls[i], pc[i].2, rs, a, zw_val nd hi (by rw [List.getElem?_map, hl]; rfl), ?_, r1, r3, F2.of r2 r4⟩
  rw [← e]
  exact List.getElem_mem hil
theorem PcAt.tab {G : Hp} {p : Addr} {pc : Pc} {nm : Str} (h : PcAt G p pc) (nd : (pc.map (·.1)).Nodup) {rows : List Rw} (hn : (nm, rows) ∈ pc) : ∃ (kvs : List (Key × V)) (l : Addr) (rs : List Addr), G p = some (.dK kvs) ∧ valV kvs (.inr nm) = some (.ref l) ∧ G l = some (.lst (rs.map V.ref)) ∧ F2 (fun r row => G r = some (.dK (rK row))) rs rows := by
  obtain ⟨ls, a, b, c⟩ := h
  obtain ⟨i, hi⟩ := List.getElem?_of_mem hn
  have hil : i < pc.length := (List.getElem?_eq_some_iff.mp hi).1
  have hl : ls[i]? = some ls[i] := List.getElem?_eq_getElem (by omega)
  obtain ⟨rs, r1, r2, r4⟩ := c i _ _ hl hi
  exact ⟨_, ls[i], rs, a, zw_val nd (by rw [List.getElem?_map, hi]; rfl) (by rw [List.getElem?_map, hl]; rfl), r1, F2.of r2 r4⟩
structure PsOk (H : Hp) (pcs : List Pc) (nm : Str) : Prop where
  nd : ∀ pc ∈ pcs, (pc.map (·.1)).Nodup
  nm : ∀ pc ∈ pcs, nm ∈ pc.map (·.1)
  rl : ∀ pc ∈ pcs, ∀ t ∈ pc, t.2.length ≤ 2
  cl : ∀ pc ∈ pcs, ∀ t ∈ pc, ∀ row ∈ t.2, row.length ≤ 2
  fl : ∀ pc ∈ pcs, ∀ t ∈ pc, ∀ row ∈ t.2, RwOk H row
/-- what stays where the first and the last piece are spoilt -/
structure Splt (H0 H' : Hp) (lp : Addr) (ps : List Addr) (pcs : List Pc) (nm : Str) : Prop where
  s : Same H0 H'
  lp : H' lp = some (.lst (ps.map V.ref))
  mid : ∀ (j : Nat) (p : Addr) (pc : Pc), 0 < j → j + 1 < ps.length → ps[j]? = some p → pcs[j]? = some pc → PcAt (cut H0 H') p pc
  las : 2 ≤ ps.length → ∃ (p : Addr) (pc : Pc) (kvs : List (Key × V)) (l : Addr) (rows : List Rw) (rs : List Addr), ps[ps.length - 1]? = some p ∧ pcs[ps.length - 1]? = some pc ∧ H' p = some (.dK kvs) ∧ valV kvs (.inr nm) = some (.ref l) ∧ (nm, rows) ∈ pc ∧ H' l = some (.lst (rs.map V.ref)) ∧ F2 (fun r row => H' r = some (.dK (rK row))) (rs.drop 1) (rows.drop 1)
def spSpoil : Sp := fun vs H Q _ => ∃ (lp : Addr) (nm : Str) (H0 : Hp) (ps : List Addr) (pcs : List Pc), vs = [.ref lp, .str nm] ∧ Same H0 H ∧ cut H0 H lp = some (.lst (ps.map V.ref)) ∧ PcsD (cut (upd H0 lp (.lst [])) H) ps pcs ∧ 0 < ps.length ∧ ps.length ≤ 300 ∧ PsOk H pcs nm ∧ ∀ H', Splt H0 H' lp ps pcs nm → Q .non H'
end My

namespace My
open PySem L2 PyProof.Rows
seal L2.PE L2.PT L2.PW L2.PS L2.PSs L2.PA L2.PI L2.PG L2.PGs L2.OpR L2.UnR L2.CallR L2.IxR L2.SlR L2.MtR L2.PIf L2.PO L2.MtM L2.PC
theorem valV_mem {kv : Kv} {k : Key} {v : V} (h : valV kv k = some v) : (k, v) ∈ kv := by
  induction kv with
  | nil => cases h
  | cons a r ih =>
    by_cases e : a.1 = k
    · rw [valV_pos e] at h
      cases h
      rw [← e]
      exact List.mem_cons_self
    · rw [valV_neg e] at h
      exact List.mem_cons_of_mem _ (ih h)
theorem drop_last {α : Type} {xs : List α} (h : 0 < xs.length) : xs.drop (xs.length - 1) = [xs[xs.length - 1]] := by
  rw [List.drop_eq_getElem_cons (by omega), show xs.length - 1 + 1 = xs.length by omega, List.drop_length]
/-- a piece whose rows may be anything -/
def Lo (H : Hp) (p l : Addr) (nm : Str) (rs : List Addr) : Prop := ∃ kvs, H p = some (.dK kvs) ∧ valV kvs (.inr nm) = some (.ref l) ∧ H l = some (.lst (rs.map V.ref)) ∧ rs.length ≤ 3 ∧ ∀ r ∈ rs, ∃ kv, H r = some (.dK kv)
section
variable {P : Program} {w : World} {K : PySem.W.Frag} {mg : Str → Option Value} {base : Heap}
theorem ok_spoil {f : Addr} {fd : FuncData} (F : Fun K "_law_spoil" "_law_spoil" (top 33) f fd) : FnOk P w K mg base CX0 1 f fd ["_law_pieces", "_law_name"] spSpoil := by
  have sc : FnScope ["_law_pieces", "_law_name", "_law_piece_here", "_law_row_here"] ["_law_pieces", "_law_name"] (defScope (top 33)) := ⟨rfl, rfl, rfl, by decide +kernel, rfl, by decide +kernel, by decide +kernel⟩
  refine F.ok sc (fun vs H Q E h => ?_) (fun cdv A outer s H vs Q E hr h => ?_)
  · obtain ⟨lp, nm, H0, ps, pcs, rfl, _⟩ := h
    rfl
  · obtain ⟨lp, nm, H0, ps, pcs, rfl, s0, hlp, ⟨hpl, g, hg⟩, n0, n3, ok, q⟩ := h
    have hu : (A.deeper (envOfC "_law_spoil" (defScope (top 33)) s.heap.objs.size f cdv)).units + 1 < cLine := hu_of hr
    refine ⟨_, pss_cons (ps_for PassesOwn.never rfl (pi_list (pe_slice sl_list (pv 0) po_none (po_some pe_int))) (pg_name (i := 2) sc.nd rfl (Or.inl rfl))
        (pss_cons (ps_for PassesOwn.never rfl (pi_list (pe_slice sl_list (pe_dget hu (pv 2) (pv 1) (fun _ _ => rfl)) po_none (po_some pe_int))) (pg_name (i := 3) sc.nd rfl (Or.inl rfl)) (pss_one (ps_dput hu (pv 3) (pv 1) pe_int rfl)))
        (pss_one (ps_expr (pe_bm PySem.F.plainAttrs_list PySem.F.slot_list_append PySem.F.type_list_append mt_app (pe_dget hu (pv 2) (pv 1) (fun _ _ => rfl)) (pa_cons pe_dnewK pa_nil))))))
      (pss_one (ps_for PassesOwn.never rfl (pi_list (pe_slice sl_list (pv 0) (po_some (pe_un un_neg pe_int)) po_none)) (pg_name (i := 2) sc.nd rfl (Or.inl rfl))
        (pss_one (ps_for PassesOwn.never rfl (pi_list (pe_slice sl_list (pe_dget hu (pv 2) (pv 1) (fun _ _ => rfl)) po_none (po_some pe_int))) (pg_name (i := 3) sc.nd rfl (Or.inl rfl)) (pss_one (ps_expr (pe_bm0 PySem.F.plainAttrs_dict PySem.F.slot_dict_clear PySem.F.type_dict_clear mt_dclear (pv 3)))))))), ?_⟩
    have hlpH := cut_sub _ _ hlp
    have nB : ∀ {b : Addr} {k : Nat} {o : HO}, reg g k (cut (upd H0 lp (.lst [])) H) b = some o → H b = some o ∧ H0 b = none ∧ b ≠ lp ∧ g b = k := fun {b k o} e => by
      have e1 := reg_sub _ _ e
      have e2 := cut_new e1
      have nb : b ≠ lp := fun z => by rw [z, upd_same] at e2; cases e2
      rw [upd_ne nb] at e2
      exact ⟨cut_sub _ _ e1, e2, nb, reg_num e⟩
    have h0p : ps[0]? = some ps[0] := List.getElem?_eq_getElem n0
    have h0c : pcs[0]? = some (pcs[0]'(by omega)) := List.getElem?_eq_getElem (by omega)
    have m0 := List.mem_of_getElem? h0c
    obtain ⟨kvs, l0, rows0, rs0, b1, b2, b3, b4, b5, b6⟩ := (hg 0 _ _ h0p h0c).tab (ok.nd _ m0) (ok.nm _ m0)
    obtain ⟨b1', c1, d1, e1⟩ := nB b1
    obtain ⟨b4', c4, d4, e4⟩ := nB b4
    have b6' : ∀ r ∈ rs0, ∃ row ∈ rows0, H r = some (.dK (rK row)) ∧ H0 r = none ∧ r ≠ lp ∧ g r = 0 := fun r hr' => by
      obtain ⟨row, hrow, e⟩ := b6.mem hr'
      obtain ⟨a, b, c, d⟩ := nB e
      exact ⟨row, hrow, a, b, c, d⟩
    have rl0 : rs0.length ≤ 2 := by rw [b6.len]; exact ok.rl _ m0 _ b3
    have rp0 : ∀ r ∈ rs0, r ≠ ps[0] := fun r hr' e => by
      obtain ⟨row, hrow, a, _⟩ := b6' r hr'
      rw [e, b1'] at a
      injection a with a
      injection a with a
      have := valV_mem b2
      rw [a] at this
      exact rK_flat (ok.fl _ m0 _ b3 row hrow) (fun xs h => by rw [b4'] at h; cases h) this
    refine ⟨_, rfl, _, rfl, lp, _, rfl, SqL.of hlpH, fun q1 hq1 => ?_⟩
    rw [cut_to1, ← List.map_take]
    have T1 := Same.upd (o := .lst ((ps.take 1).map V.ref)) hq1
    have f1 := upd_same (H := H) (a := q1) (o := .lst ((ps.take 1).map V.ref))
    generalize upd H q1 (.lst ((ps.take 1).map V.ref)) = H1 at *
    have tk1 : ps.take 1 = [ps[0]] := by
      match ps, n0 with
      | p :: r, _ => rfl
    refine ⟨q1, rfl, ⟨_, SqL.of f1⟩, for_list (K := K) (a := q1) (xs := (ps.take 1).map V.ref) (fun i σ H' => (∃ u2 u3, σ = [some (.ref lp), some (.str nm), u2, u3]) ∧ H' q1 = some (.lst ((ps.take 1).map V.ref)) ∧ (i = 0 → H' = H1) ∧ (∀ b o, H b = some o → ¬ (H0 b = none ∧ b ≠ lp ∧ g b = 0) → H' b = some o) ∧ ∃ rs, Lo H' ps[0] l0 nm rs ∧ ∀ r ∈ rs, H0 r = none) ⟨⟨_, _, rfl⟩, f1, fun _ => rfl, fun b o e _ => T1 _ _ e, rs0, ⟨kvs, T1 _ _ b1', b2, T1 _ _ b4', by omega, fun r hr' => let ⟨row, _, e, _⟩ := b6' r hr'; ⟨_, T1 _ _ e⟩⟩, fun r hr' => let ⟨row, _, _, e, _⟩ := b6' r hr'; e⟩ (fun i σ H' _ p => SqL.of p.2.1) ?_ ?_⟩
    · rintro i x σ H' hx ⟨⟨u2, u3, rfl⟩, hq', hH, _, _⟩
      have hi : i = 0 := by
        have := (List.getElem?_eq_some_iff.mp hx).1
        rw [tk1] at this
        simpa using this
      subst hi
      have hH' := hH rfl
      subst hH'
      rw [tk1] at hx
      cases hx
      have dg : ∀ {G : Hp}, G ps[0] = some (.dK kvs) → DGet G ps[0] (.str nm) (some (.ref l0)) := fun {G} e => .inl ⟨kvs, .inr nm, .inl e, rfl, b2.symm⟩
      refine ⟨_, rfl, _, rfl, ps[0], .ref l0, rfl, dg (T1 _ _ b1'), _, rfl, l0, _, rfl, SqL.of (T1 _ _ b4'), fun q2 hq2 => ?_⟩
      rw [cut_to1, ← List.map_take]
      have T2 := Same.upd (o := .lst ((rs0.take 1).map V.ref)) hq2
      have f2 := upd_same (H := H') (a := q2) (o := .lst ((rs0.take 1).map V.ref))
      generalize upd H' q2 (.lst ((rs0.take 1).map V.ref)) = H2 at *
      have T12 := T1.trans T2
      refine ⟨q2, rfl, ⟨_, SqL.of f2⟩, for_list (K := K) (a := q2) (xs := (rs0.take 1).map V.ref) (fun j σ H3 => (∃ u3, σ = [some (.ref lp), some (.str nm), some (.ref ps[0]), u3]) ∧ (∀ b o, H2 b = some o → b ∉ rs0 → H3 b = some o) ∧ ∀ r ∈ rs0, ∃ kv : Kv, H3 r = some (.dK kv) ∧ kv.length ≤ 2 + j) ⟨⟨_, rfl⟩, fun b o e _ => e, fun r hr' => ?_⟩ (fun j σ H3 _ p => SqL.of (p.2.1 _ _ f2 fun hm => ?_)) ?_ ?_⟩
      · obtain ⟨row, hrow, e, _⟩ := b6' r hr'
        exact ⟨_, T12 _ _ e, by unfold rK; rw [List.length_map]; exact ok.cl _ m0 _ b3 row hrow⟩
      · obtain ⟨row, _, e, _⟩ := b6' q2 hm
        rw [T1 _ _ e] at hq2
        cases hq2
      · rintro j x σ H3 hx ⟨⟨v3, rfl⟩, k1, k2⟩
        rw [List.getElem?_map] at hx
        cases hr' : (rs0.take 1)[j]? with
        | none => rw [hr'] at hx; cases hx
        | some r =>
          rw [hr'] at hx
          cases hx
          have hm : r ∈ rs0 := List.mem_of_mem_take (List.mem_of_getElem? hr')
          have hj : j < 1 := by
            have := (List.getElem?_eq_some_iff.mp hr').1
            rw [List.length_take] at this
            omega
          obtain ⟨kv, e, el⟩ := k2 r hm
          refine ⟨_, rfl, _, rfl, r, _, rfl, .inl ⟨kv, .inr nm, e, rfl, (by rw [sizeLine_eq]; omega), rfl⟩, ⟨_, rfl⟩, fun b o hb nb => ?_, fun r' hr2 => ?_⟩
          · have nb1 : b ≠ r := fun z => nb (by rw [z]; exact hm)
            rw [upd_ne nb1]
            exact k1 b o hb nb
          · by_cases z : r' = r
            · subst z
              exact ⟨_, upd_same, by have := length_putK kv (.inr nm) (.int 5); omega⟩
            · obtain ⟨kv', e', el'⟩ := k2 r' hr2
              exact ⟨kv', by rw [upd_ne z]; exact e', by omega⟩
      · rintro σ H3 ⟨⟨v3, rfl⟩, k1, k2⟩
        have p3 := k1 _ _ (T12 _ _ b1') fun hm => rp0 _ hm rfl
        have nl0 : l0 ∉ rs0 := fun hm => by
          obtain ⟨row, _, e, _⟩ := b6' l0 hm
          rw [b4'] at e
          cases e
        have l3 := k1 _ _ (T12 _ _ b4') nl0
        refine ⟨_, rfl, _, rfl, ps[0], .ref l0, rfl, dg p3, .inl ⟨rfl, _, SqL.of l3⟩, fun e he => ?_⟩
        have T4 := Same.upd (o := .dK []) he
        have f4 := upd_same (H := H3) (a := e) (o := .dK [])
        generalize upd H3 e (.dK []) = H4 at *
        have nel : e ≠ l0 := fun z => by rw [z, l3] at he; cases he
        have fr : ∀ b o, H b = some o → ¬ (H0 b = none ∧ b ≠ lp ∧ g b = 0) → (upd H4 l0 (.lst (rs0.map V.ref ++ [.ref e]))) b = some o := fun b o hb nb => by
          have n1 : b ≠ l0 := fun z => nb (by rw [z]; exact ⟨c4, d4, e4⟩)
          rw [upd_ne n1]
          refine T4 _ _ (k1 _ _ (T12 _ _ hb) fun hm => nb ?_)
          obtain ⟨row, _, _, a2, a3, a4⟩ := b6' b hm
          exact ⟨a2, a3, a4⟩
        have nq1 : q1 ∉ rs0 := fun hm => by
          obtain ⟨row, _, e, _⟩ := b6' q1 hm
          rw [hq1] at e
          cases e
        have nq1l : q1 ≠ l0 := fun z => by rw [z, b4'] at hq1; cases hq1
        have e0 : H0 e = none := by
          cases z : H0 e with
          | none => rfl
          | some o =>
            have h1 := s0 _ _ z
            have := k1 _ _ (T12 _ _ h1) fun hm => by
              obtain ⟨row, _, _, a2, _⟩ := b6' e hm
              rw [z] at a2
              cases a2
            rw [he] at this
            cases this
        refine ⟨l0, _, _, rfl, rfl, T4 _ _ l3, (by rw [List.length_map, sizeLine_eq]; omega), ⟨_, _, rfl⟩, by rw [upd_ne nq1l]; exact T4 _ _ (k1 _ _ (T2 _ _ f1) nq1), (fun z => by cases z), fr, rs0 ++ [e], ⟨kvs, ?_, b2, by rw [upd_same, List.map_append]; rfl, by rw [List.length_append]; show _ + 1 ≤ _; omega, fun r hr' => ?_⟩, fun r hr' => ?_⟩
        · rw [upd_ne (fun z => by rw [z, b4'] at b1'; cases b1')]
          exact T4 _ _ p3
        · rcases List.mem_append.mp hr' with hm | hm
          · obtain ⟨kv, k3, _⟩ := k2 r hm
            have nb1 : r ≠ l0 := fun z => nl0 (by rw [← z]; exact hm)
            exact ⟨kv, by rw [upd_ne nb1]; exact T4 _ _ k3⟩
          · rw [List.mem_singleton.mp hm]
            exact ⟨[], by rw [upd_ne nel]; exact f4⟩
        · rcases List.mem_append.mp hr' with hm | hm
          · obtain ⟨row, _, _, a2, _⟩ := b6' r hm
            exact a2
          · rw [List.mem_singleton.mp hm]
            exact e0
    · rintro σ H5 ⟨⟨u2, u3, rfl⟩, _, _, fr, rsA, hLo, hrA⟩
      have lp5 : H5 lp = some (.lst (ps.map V.ref)) := fr _ _ hlpH fun z => z.2.1 rfl
      refine ⟨_, rfl, _, rfl, _, rfl, lp, _, rfl, SqL.of lp5, fun q3 hq3 => ?_⟩
      rw [cut_las, List.length_map, ← List.map_drop, drop_last n0]
      have T6 := Same.upd (o := .lst ([ps[ps.length - 1]].map V.ref)) hq3
      have f6 := upd_same (H := H5) (a := q3) (o := .lst ([ps[ps.length - 1]].map V.ref))
      generalize upd H5 q3 (.lst ([ps[ps.length - 1]].map V.ref)) = H6 at *
      -- the last piece, and what is known of it
      have hlast : ∃ (l : Addr) (rs : List Addr), Lo H6 ps[ps.length - 1] l nm rs ∧ (∀ r ∈ rs, H0 r = none) ∧ (2 ≤ ps.length → ∃ (pc : Pc) (rows : List Rw), pcs[ps.length - 1]? = some pc ∧ (nm, rows) ∈ pc ∧ rs.Nodup ∧ ps[ps.length - 1] ∉ rs ∧ (∀ r ∈ rs, g r = ps.length - 1) ∧ F2 (fun r row => H6 r = some (.dK (rK row))) rs rows) := by
        by_cases h2 : 2 ≤ ps.length
        · have hnp : ps[ps.length - 1]? = some ps[ps.length - 1] := List.getElem?_eq_getElem (by omega)
          have hnc : pcs[ps.length - 1]? = some (pcs[ps.length - 1]'(by omega)) := List.getElem?_eq_getElem (by omega)
          have mn := List.mem_of_getElem? hnc
          obtain ⟨kw, ln, rowsn, rsn, a1, a2, a3, a4, a5, a6⟩ := (hg _ _ _ hnp hnc).tab (ok.nd _ mn) (ok.nm _ mn)
          have mv : ∀ {b : Addr} {o : HO}, reg g (ps.length - 1) (cut (upd H0 lp (.lst [])) H) b = some o → H6 b = some o := fun {b o} e => by
            obtain ⟨x1, _, _, x4⟩ := nB e
            exact T6 _ _ (fr _ _ x1 fun z => by have := z.2.2; omega)
          have a6' := a6.imp fun r row e => mv e
          refine ⟨ln, rsn, ⟨kw, mv a1, a2, mv a4, by rw [a6.len]; have : rowsn.length ≤ 2 := ok.rl _ mn _ a3; omega, fun r hr' => let ⟨row, _, e⟩ := a6'.mem hr'; ⟨_, e⟩⟩, fun r hr' => let ⟨row, _, e⟩ := a6.mem hr'; (nB e).2.1, fun _ => ⟨_, rowsn, hnc, a3, a5, ?_, fun r hr' => let ⟨row, _, e⟩ := a6.mem hr'; (nB e).2.2.2, a6'⟩⟩
          intro hm
          obtain ⟨row, hrow, e⟩ := a6'.mem hm
          rw [mv a1] at e
          injection e with e
          injection e with e
          have := valV_mem a2
          rw [e] at this
          refine rK_flat (ok.fl _ mn _ a3 row hrow) (fun xs h => ?_) this
          rw [(nB a4).1] at h
          cases h
        · have en : ps.length - 1 = 0 := by omega
          refine ⟨l0, rsA, ?_, hrA, fun z => absurd z h2⟩
          obtain ⟨kw, y1, y2, y3, y4, y5⟩ := hLo
          have ee : ps[ps.length - 1] = ps[0] := by congr 1
          rw [ee]
          exact ⟨kw, T6 _ _ y1, y2, T6 _ _ y3, y4, fun r hr' => let ⟨kv, e⟩ := y5 r hr'; ⟨kv, T6 _ _ e⟩⟩
      obtain ⟨ln, rs, ⟨kw, y1, y2, y3, y4, y5⟩, hr0, hl2⟩ := hlast
      generalize hpn : ps[ps.length - 1] = pn at *
      refine ⟨q3, rfl, ⟨_, SqL.of f6⟩, for_list (K := K) (a := q3) (xs := [pn].map V.ref) (fun i σ H' => (∃ u2 u3, σ = [some (.ref lp), some (.str nm), u2, u3]) ∧ H' q3 = some (.lst ([pn].map V.ref)) ∧ (i = 0 → H' = H6) ∧ (i = 1 → Splt H0 H' lp ps pcs nm)) ⟨⟨_, _, rfl⟩, f6, fun _ => rfl, fun z => by cases z⟩ (fun i σ H' _ p => SqL.of p.2.1) ?_ ?_⟩
      · rintro i x σ H' hx ⟨⟨w2, w3, rfl⟩, hq', hH, _⟩
        have hi : i = 0 := by
          have := (List.getElem?_eq_some_iff.mp hx).1
          simpa using this
        subst hi
        have hH' := hH rfl
        subst hH'
        cases hx
        refine ⟨_, rfl, _, rfl, pn, .ref ln, rfl, .inl ⟨kw, .inr nm, .inl y1, rfl, y2.symm⟩, _, rfl, ln, _, rfl, SqL.of y3, fun q4 hq4 => ?_⟩
        rw [cut_to1, ← List.map_take]
        have T7 := Same.upd (o := .lst ((rs.take 1).map V.ref)) hq4
        have f7 := upd_same (H := H') (a := q4) (o := .lst ((rs.take 1).map V.ref))
        generalize upd H' q4 (.lst ((rs.take 1).map V.ref)) = H7 at *
        have notin : ∀ {b : Addr} {xs : List V}, H' b = some (.lst xs) → b ∉ rs := fun {b xs} h hm => by
          obtain ⟨kv, e⟩ := y5 b hm
          rw [h] at e
          cases e
        refine ⟨q4, rfl, ⟨_, SqL.of f7⟩, for_list (K := K) (a := q4) (xs := (rs.take 1).map V.ref) (fun j σ H8 => (∃ u2 u3, σ = [some (.ref lp), some (.str nm), u2, u3]) ∧ (∀ b o, H7 b = some o → b ∉ rs.take 1 → H8 b = some o) ∧ ∀ r ∈ rs, ∃ kv, H8 r = some (.dK kv)) ⟨⟨_, _, rfl⟩, fun b o e _ => e, fun r hr' => let ⟨kv, e⟩ := y5 r hr'; ⟨kv, T7 _ _ e⟩⟩ (fun j σ H8 _ p => SqL.of (p.2.1 _ _ f7 fun hm => ?_)) ?_ ?_⟩
        · obtain ⟨kv, e⟩ := y5 q4 (List.mem_of_mem_take hm)
          rw [hq4] at e
          cases e
        · rintro j x σ H8 hx ⟨⟨w4, w5, rfl⟩, k1, k2⟩
          rw [List.getElem?_map] at hx
          cases hr' : (rs.take 1)[j]? with
          | none => rw [hr'] at hx; cases hx
          | some r =>
            rw [hr'] at hx
            cases hx
            have hm1 := List.mem_of_getElem? hr'
            have hm : r ∈ rs := List.mem_of_mem_take hm1
            obtain ⟨kv, e⟩ := k2 r hm
            refine ⟨_, rfl, .inr (.inr (.inl ⟨rfl, .inl ⟨_, e⟩⟩)), r, kv, rfl, rfl, e, ⟨_, _, rfl⟩, fun b o hb nb => ?_, fun r' hr2 => ?_⟩
            · have nb1 : b ≠ r := fun z => nb (by rw [z]; exact hm1)
              rw [upd_ne nb1]
              exact k1 b o hb nb
            · by_cases z : r' = r
              · subst z
                exact ⟨_, upd_same⟩
              · obtain ⟨kv', e'⟩ := k2 r' hr2
                exact ⟨kv', by rw [upd_ne z]; exact e'⟩
        · rintro σ H8 ⟨⟨w4, w5, rfl⟩, k1, k2⟩
          have out : ∀ {b : Addr} {o : HO}, H' b = some o → b ∉ rs.take 1 → H8 b = some o := fun {b o} h nb => k1 _ _ (T7 _ _ h) nb
          have sub : ∀ {b : Addr}, b ∈ rs.take 1 → b ∈ rs := fun {b} h => List.mem_of_mem_take h
          refine ⟨⟨_, _, rfl⟩, out f6 fun z => notin f6 (sub z), (fun z => by cases z), fun _ => ⟨fun b o e => ?_, ?_, fun j p pc j0 j1 hp hc => ?_, fun h2 => ?_⟩⟩
          · refine out (T6 _ _ (fr _ _ (s0 _ _ e) fun z => ?_)) fun z => ?_
            · rw [z.1] at e; cases e
            · have := hr0 b (sub z); rw [this] at e; cases e
          · exact out (T6 _ _ lp5) fun z => notin (T6 _ _ lp5) (sub z)
          · refine (hg j p pc hp hc).pc.same fun b o e => ?_
            obtain ⟨x1, x2, x3, x4⟩ := nB e
            refine cut_at x2 (out (T6 _ _ (fr _ _ x1 fun z => by have := z.2.2; omega)) fun z => ?_)
            obtain ⟨_, _, _, _, _, _, hgn, _⟩ := hl2 (by omega)
            have := hgn b (sub z)
            omega
          · obtain ⟨pc, rows, z1, z2, z3, z4, z5, z6⟩ := hl2 h2
            refine ⟨pn, pc, kw, ln, rows, rs, by rw [← hpn]; exact List.getElem?_eq_getElem (by omega), z1, out y1 fun z => z4 (sub z), y2, z2, out y3 fun z => notin y3 (sub z), ?_⟩
            have hd : ∀ r ∈ rs.drop 1, r ∉ rs.take 1 := fun r h1 h2 => by
              have nd := z3
              rw [← List.take_append_drop 1 rs, List.nodup_append] at nd
              exact nd.2.2 r h2 r h1 rfl
            have z6' := z6.drop 1
            refine F2.of z6'.len fun j r row a b => out (z6'.get j r row a b) (hd r (List.mem_of_getElem? a))
      · rintro σ H8 ⟨_, _, _, hfin⟩
        exact q H8 (hfin rfl)
end
end My

namespace My
open PySem L2 PyProof.Rows
seal L2.PE L2.PT L2.PW L2.PS L2.PSs L2.PA L2.PI L2.PG L2.PGs L2.OpR L2.UnR L2.CallR L2.IxR L2.SlR L2.MtR L2.PIf L2.PO L2.MtM L2.PC
theorem inn_get {α : Type} {xs : List α} {i : Nat} {x : α} (h : ((xs.drop 1).take (xs.length - 2))[i]? = some x) : xs[i + 1]? = some x ∧ i + 2 < xs.length := by
  rw [List.getElem?_take] at h
  split at h
  · rw [List.getElem?_drop, Nat.add_comm] at h
    exact ⟨h, by omega⟩
  · cases h
theorem inn_dq {H G : Hp} {ps ds : List Addr} {pcs : List Pc} (hl : ps.length = pcs.length) (nd : ∀ pc ∈ pcs, (pc.map (·.1)).Nodup) (ok : ∀ pc ∈ pcs, ∀ t ∈ pc, ∀ row ∈ t.2, RwOk G row) (h1 : ∀ (j : Nat) (p : Addr) (pc : Pc), 0 < j → j + 1 < ps.length → ps[j]? = some p → pcs[j]? = some pc → PcAt H p pc) (h2 : F2 (fun q pc => PcAt H q (revP pc)) ds pcs) :
    ∀ (i : Nat) (x y : V), (((ps.map V.ref).drop 1).take ((ps.map V.ref).length - 2))[i]? = some x → (((ds.map V.ref).drop 1).take ((ds.map V.ref).length - 2))[i]? = some y → Dq H 3 x y := fun i x y e1 e2 => by
  obtain ⟨e1, i1⟩ := inn_get e1
  obtain ⟨e2, _⟩ := inn_get e2
  rw [List.length_map] at i1
  have hp : ps[i + 1]? = some ps[i + 1] := List.getElem?_eq_getElem (by omega)
  have hc : pcs[i + 1]? = some pcs[i + 1] := List.getElem?_eq_getElem (by omega)
  have hd : ds[i + 1]? = some (ds[i + 1]'(by rw [h2.len]; omega)) := List.getElem?_eq_getElem _
  rw [List.getElem?_map, hp] at e1
  rw [List.getElem?_map, hd] at e2
  cases e1
  cases e2
  have mc := List.mem_of_getElem? hc
  exact pc_dq (nd _ mc) (ok _ mc) (h1 (i + 1) _ _ (by omega) (by omega) hp hc) (h2.get _ _ _ hd hc)
theorem inn_len {xs ys : List V} (h : xs.length = ys.length) : ((xs.drop 1).take (xs.length - 2)).length = ((ys.drop 1).take (ys.length - 2)).length := by
  rw [List.length_take, List.length_take, List.length_drop, List.length_drop, h]
def spSpoilt : Sp := fun vs H Q _ => ∃ (lp ld : Addr) (nm : Str) (H0 G : Hp) (ps ds : List Addr) (pcs : List Pc), vs = [.ref lp, .ref ld, .str nm, .int (ps.length : Nat)] ∧ Splt H0 H lp ps pcs nm ∧ H ld = some (.lst (ds.map V.ref)) ∧ F2 (fun q pc => PcAt H q (revP pc)) ds pcs ∧ 0 < ps.length ∧ ps.length = pcs.length ∧ PsOk G pcs nm ∧ ∀ H', Same H H' → Q (.bl true) H'
section
variable {P : Program} {w : World} {K : PySem.W.Frag} {mg : Str → Option Value} {base : Heap}
theorem ok_spoilt {f : Addr} {fd : FuncData} (F : Fun K "_law_spoilt" "_law_spoilt" (top 34) f fd) : FnOk P w K mg base CX0 1 f fd ["_law_pieces", "_law_due", "_law_name", "_law_many"] spSpoilt := by
  have sc : FnScope ["_law_pieces", "_law_due", "_law_name", "_law_many"] ["_law_pieces", "_law_due", "_law_name", "_law_many"] (defScope (top 34)) := ⟨rfl, rfl, rfl, by decide +kernel, rfl, by decide +kernel, by decide +kernel⟩
  refine F.ok sc (fun vs H Q E h => ?_) (fun cdv A outer s H vs Q E hr h => ?_)
  · obtain ⟨lp, ld, nm, H0, G, ps, ds, pcs, rfl, _⟩ := h
    rfl
  · obtain ⟨lp, ld, nm, H0, G, ps, ds, pcs, rfl, sp, hld, hds, n0, hl, ok, q⟩ := h
    have hu : (A.deeper (envOfC "_law_spoilt" (defScope (top 34)) s.heap.objs.size f cdv)).units + 1 < cLine := hu_of hr
    have hu4 : (A.deeper (envOfC "_law_spoilt" (defScope (top 34)) s.heap.objs.size f cdv)).units + 3 + 1 < cLine := by have := hr.un; omega
    have hu2 : (A.deeper (envOfC "_law_spoilt" (defScope (top 34)) s.heap.objs.size f cdv)).units + 1 + 1 < cLine := by have := hr.un; omega
    refine ⟨_, pss_cons (ps_if (pt_cmpR op_neL (pe_slice sl_list (pv 0) (po_some pe_int) (po_some (pe_un un_neg pe_int))) (pe_slice sl_list (pv 1) (po_some pe_int) (po_some (pe_un un_neg pe_int))) (nomark _)) pss_never pss_nil)
      (pss_cons (ps_if (pt_cmpR op_lt (pv 3) pe_int (nomark _)) (pss_one (ps_ret pe_bl)) pss_nil)
      (pss_one (ps_ret (pe_cmpR op_eqL (pe_slice sl_list (pe_dget hu (pe_ix ix_list (pv 0) (pe_un un_neg pe_int) (fun _ _ => rfl)) (pv 2) (fun _ _ => rfl)) (po_some pe_int) po_none) (pe_slice sl_list (pe_dget hu (pe_ix ix_list (pv 1) (pe_un un_neg pe_int) (fun _ _ => rfl)) (pv 2) (fun _ _ => rfl)) (po_some pe_int) po_none) (nomark _))))), ?_⟩
    refine ⟨_, rfl, _, rfl, _, rfl, _, rfl, lp, _, rfl, SqL.of sp.lp, fun q1 hq1 => ?_⟩
    rw [cut_inn]
    have T1 := Same.upd (o := .lst (((ps.map V.ref).drop 1).take ((ps.map V.ref).length - 2))) hq1
    have f1 := upd_same (H := H) (a := q1) (o := .lst (((ps.map V.ref).drop 1).take ((ps.map V.ref).length - 2)))
    generalize upd H q1 (.lst (((ps.map V.ref).drop 1).take ((ps.map V.ref).length - 2))) = H1 at *
    refine ⟨_, rfl, _, rfl, _, rfl, _, rfl, ld, _, rfl, SqL.of (T1 _ _ hld), fun q2 hq2 => ?_⟩
    rw [cut_inn]
    have T2 := Same.upd (o := .lst (((ds.map V.ref).drop 1).take ((ds.map V.ref).length - 2))) hq2
    have f2 := upd_same (H := H1) (a := q2) (o := .lst (((ds.map V.ref).drop 1).take ((ds.map V.ref).length - 2)))
    generalize upd H1 q2 (.lst (((ds.map V.ref).drop 1).take ((ds.map V.ref).length - 2))) = H2 at *
    have S2 := T1.trans T2
    have dl : ds.length = pcs.length := hds.len
    refine ⟨3, q1, q2, _, _, rfl, rfl, SqL.of (T2 _ _ f1), SqL.of f2, inn_len (by rw [List.length_map, List.length_map]; omega), inn_dq hl ok.nd ok.fl (fun j p pc j0 j1 a b => ((sp.mid j p pc j0 j1 a b).same cut_sub).same S2) (hds.imp fun _ _ r => r.same S2), hu4, false, rfl, iteF ?_⟩
    refine ⟨_, rfl, _, _, rfl, rfl, _, rfl, ?_⟩
    by_cases h2 : 2 ≤ ps.length
    · refine iteC (decide_eq_false (by omega)) ?_
      obtain ⟨p, pc, kvs, l, rows, rs, a1, a2, a3, a4, a5, a6, a7⟩ := sp.las h2
      have mc := List.mem_of_getElem? a2
      have hdn : ds[ps.length - 1]? = some (ds[ps.length - 1]'(by omega)) := List.getElem?_eq_getElem _
      obtain ⟨kw, l', rs', c1, c2, c3, c4⟩ := (hds.get _ _ _ hdn a2).tab (nm := nm) (rows := revR rows) (by
        have e : (revP pc).map (·.1) = (pc.map (·.1)).reverse := by unfold revP; rw [List.map_reverse, List.map_map]; rfl
        rw [e]
        exact List.pairwise_reverse.mpr ((ok.nd _ mc).imp fun h => h.symm)) (by
        unfold revP
        rw [List.mem_reverse]
        exact List.mem_map.mpr ⟨_, a5, rfl⟩)
      refine ⟨_, rfl, _, rfl, lp, _, _, .ref p, rfl, rfl, SqL.of (S2 _ _ sp.lp), (by rw [show (-(1 : Int)) = -1 from rfl, atI_las (by rw [List.length_map]; exact n0), List.length_map, List.getElem?_map, a1]; rfl), _, rfl, p, .ref l, rfl, .inl ⟨kvs, .inr nm, .inl (S2 _ _ a3), rfl, a4.symm⟩, _, rfl, l, _, rfl, SqL.of (S2 _ _ a6), fun q3 hq3 => ?_⟩
      rw [cut_fr1, ← List.map_drop]
      have T3 := Same.upd (o := .lst ((rs.drop 1).map V.ref)) hq3
      have f3 := upd_same (H := H2) (a := q3) (o := .lst ((rs.drop 1).map V.ref))
      generalize upd H2 q3 (.lst ((rs.drop 1).map V.ref)) = H3 at *
      have S3 := S2.trans T3
      refine ⟨_, rfl, _, rfl, ld, _, _, .ref ds[ps.length - 1], rfl, rfl, SqL.of (S3 _ _ hld), (by rw [show (-(1 : Int)) = -1 from rfl, atI_las (by rw [List.length_map]; omega), List.length_map, List.getElem?_map, show ds.length - 1 = ps.length - 1 by omega, hdn]; rfl), _, rfl, _, .ref l', rfl, .inl ⟨kw, .inr nm, .inl (S3 _ _ c1), rfl, c2.symm⟩, _, rfl, l', _, rfl, SqL.of (S3 _ _ c3), fun q4 hq4 => ?_⟩
      rw [cut_fr1, ← List.map_drop]
      have T4 := Same.upd (o := .lst ((rs'.drop 1).map V.ref)) hq4
      have f4 := upd_same (H := H3) (a := q4) (o := .lst ((rs'.drop 1).map V.ref))
      generalize upd H3 q4 (.lst ((rs'.drop 1).map V.ref)) = H4 at *
      have S4 := S3.trans T4
      have er : (revR rows).drop 1 = revR (rows.drop 1) := by unfold revR; rw [List.map_drop]
      have c4' := c4.drop 1
      rw [er] at c4'
      refine ⟨1, q3, q4, _, _, rfl, rfl, SqL.of (T4 _ _ f3), SqL.of f4, ?_, rows_dq1 (G := G) (fun row hrow => ok.fl _ mc _ a5 row (List.mem_of_mem_drop hrow)) (a7.imp fun _ _ e => S4 _ _ e) (c4'.imp fun _ _ e => S4 _ _ e), hu2, q H4 S4⟩
      rw [List.length_map, List.length_map, a7.len, c4'.len]
      unfold revR
      rw [List.length_map]
    · exact iteB (decide_eq_true (by omega)) (q H2 S2)
end
end My

namespace My
open PySem L2 PyProof.Rows
/-! ### the world as pieces_of asks it -/
def LvA (H : Hp) (x : (Str × Str) × Addr) (ds : List Dp) : Prop := ∃ vs, H x.2 = some (.lst vs) ∧ F2 (El H) ds vs
theorem LvA.same {H H' : Hp} {x : (Str × Str) × Addr} {ds : List Dp} (h : LvA H x ds) (s : Same H H') : LvA H' x ds := let ⟨vs, a, b⟩ := h; ⟨vs, s _ _ a, b.imp fun _ _ r => r.st (Same.st s)⟩
theorem LvAt.lv {H H' : Hp} {x : (Str × Str) × Addr} {ds : List Dp} (h : LvAt H H' x ds) : LvA H' x ds := let ⟨vs, a, b⟩ := h; ⟨vs, cut_sub _ _ a, b⟩
def wlOf (H : Hp) (W : List ((Str × Str) × Addr)) (t c : Str) : List V := match W.find? (fun x => decide (x.1 = (t, c))) with
  | some x => (match H x.2 with | some (.lst vs) => vs | _ => [])
  | none => []
theorem find_key {W : List ((Str × Str) × Addr)} (nd : (W.map (·.1)).Nodup) {x : (Str × Str) × Addr} (hx : x ∈ W) : W.find? (fun y => decide (y.1 = x.1)) = some x := by
  induction W with
  | nil => cases hx
  | cons a r ih =>
    rw [List.map_cons, List.nodup_cons] at nd
    rcases List.mem_cons.mp hx with rfl | hx
    · rw [List.find?_cons, decide_eq_true rfl]
    · rw [List.find?_cons, decide_eq_false fun e => nd.1 (by rw [e]; exact List.mem_map.mpr ⟨x, hx, rfl⟩)]
      exact ih nd.2 hx
theorem wl_at {H : Hp} {W : List ((Str × Str) × Addr)} (nd : (W.map (·.1)).Nodup) {x : (Str × Str) × Addr} (hx : x ∈ W) {vs : List V} (h : H x.2 = some (.lst vs)) : wlOf H W x.1.1 x.1.2 = vs := by
  unfold wlOf
  rw [show (x.1.1, x.1.2) = x.1 from rfl, find_key nd hx]
  dsimp only
  rw [h]
theorem wl_mem {H : Hp} {W : List ((Str × Str) × Addr)} {t c : Str} {v : V} (h : v ∈ wlOf H W t c) : ∃ x ∈ W, ∃ vs, H x.2 = some (.lst vs) ∧ v ∈ vs := by
  unfold wlOf at h
  split at h
  · rename_i x hf
    split at h
    · rename_i vs hv
      exact ⟨x, List.mem_of_find?_eq_some hf, vs, hv, h⟩
    · cases h
  · cases h
theorem keys_mem {l : List Ts} {T : Ts} (hT : T ∈ l) {c : Str} (hc : c ∈ T.cols) : (T.name, c) ∈ keysC l := List.mem_flatMap.mpr ⟨T, hT, List.mem_map.mpr ⟨c, hc, rfl⟩⟩
theorem valD_len {ns : List Int} {k m : Int} (h1 : 1 ≤ m) (h3 : m ≤ 3) : (valD ns k m).length = m.toNat := by
  have st := emod_nat (cellV ns (6 + k) / 3) 3 (by decide)
  obtain ⟨j, hj, j3⟩ := st
  have hj' : cellV ns (6 + k) / 3 % 3 = (j : Int) := hj
  unfold valD
  rw [List.length_take, List.length_append, List.length_drop, List.length_take, pk_len, hj']
  omega
theorem keysC_len : ∀ r : List Ts, (keysC r).length = ncols r
  | [] => rfl
  | T :: r => by
    have ih := keysC_len r
    unfold keysC ncols at *
    rw [List.flatMap_cons, List.length_append, ih, List.length_map, List.map_cons, List.sum_cons]
theorem keysC_nd {l : List Ts} (hn : (l.map (·.name)).Nodup) (hc : ∀ T ∈ l, T.cols.Nodup) : (keysC l).Nodup := by
  induction l with
  | nil => exact List.nodup_nil
  | cons T r ih =>
    rw [List.map_cons, List.nodup_cons] at hn
    unfold keysC
    rw [List.flatMap_cons, List.nodup_append]
    refine ⟨?_, ih hn.2 fun T hT => hc T (List.mem_cons_of_mem _ hT), fun x hx y hy e => ?_⟩
    · exact List.Pairwise.map _ (fun a b h e => h (congrArg Prod.snd e)) (hc T List.mem_cons_self)
    · obtain ⟨c, _, rfl⟩ := List.mem_map.mp hx
      obtain ⟨T', hT', hy⟩ := List.mem_flatMap.mp hy
      obtain ⟨c', _, rfl⟩ := List.mem_map.mp hy
      exact hn.1 (List.mem_map.mpr ⟨T', hT', (congrArg Prod.fst e).symm⟩)
theorem keys_name {l : List Ts} {k : Str × Str} (h : k ∈ keysC l) : k.1 ∈ l.map (·.name) := by
  obtain ⟨T, hT, h⟩ := List.mem_flatMap.mp h
  obtain ⟨c, _, rfl⟩ := List.mem_map.mp h
  exact List.mem_map.mpr ⟨T, hT, rfl⟩
/-- the lists of the law's world, and the one more -/
def worldD (ns ss : List Int) (n : Nat) : List (List Dp) := worldC ns ss n ++ [[.fl (.int 1), .fl (.int 2)]]
theorem worldD_len {ns ss : List Int} {n : Nat} (s3 : ∀ s ∈ ss, 1 ≤ s ∧ s ≤ 3) (hn : n ≤ ss.length) : ∀ ds ∈ worldD ns ss n, 1 ≤ ds.length ∧ ds.length ≤ 3 := fun ds h => by
  rcases List.mem_append.mp h with h | h
  · obtain ⟨k, hk, rfl⟩ := List.mem_map.mp h
    have hk' : k < ss.length := by have := List.mem_range.mp hk; omega
    have hs := s3 _ (List.getElem_mem hk')
    rw [List.getD_eq_getElem?_getD, List.getElem?_eq_getElem hk']
    show 1 ≤ (valD ns k ss[k]).length ∧ _
    rw [valD_len hs.1 hs.2]
    show 1 ≤ _ ∧ (valD ns k ss[k]).length ≤ 3
    rw [valD_len hs.1 hs.2]
    omega
  · rw [List.mem_singleton.mp h]
    exact ⟨by show 1 ≤ 2; decide, by show 2 ≤ 3; decide⟩
structure WdOk (H : Hp) (d : Addr) (W : List ((Str × Str) × Addr)) (l : List Ts) (C : List (List Dp)) (e : Str × Str) : Prop where
  d : H d = some (.dT (dtE W))
  k : W.map (·.1) = keysC l ++ [e]
  nd : (W.map (·.1)).Nodup
  v : F2 (LvA H) W C
theorem WdOk.same {H H' : Hp} {d : Addr} {W : List ((Str × Str) × Addr)} {l : List Ts} {C : List (List Dp)} {e : Str × Str} (h : WdOk H d W l C e) (s : Same H H') : WdOk H' d W l C e := ⟨s _ _ h.d, h.k, h.nd, h.v.imp fun _ _ r => r.same s⟩
theorem WdOk.vl {H : Hp} {d : Addr} {W : List ((Str × Str) × Addr)} {l : List Ts} {C : List (List Dp)} {e : Str × Str} (h : WdOk H d W l C e) : VlAt H d W (wlOf H W) := ⟨h.d, h.nd, fun x hx => by
  obtain ⟨ds, _, vs, a, _⟩ := h.v.mem hx
  rw [wl_at h.nd hx a]
  exact a⟩
theorem WdOk.len {H : Hp} {d : Addr} {W : List ((Str × Str) × Addr)} {l : List Ts} {C : List (List Dp)} {e : Str × Str} (h : WdOk H d W l C e) (hC : ∀ ds ∈ C, 1 ≤ ds.length ∧ ds.length ≤ 3) {T : Ts} (hT : T ∈ l) {c : Str} (hc : c ∈ T.cols) : (T.name, c) ∈ W.map (·.1) ∧ 1 ≤ (wlOf H W T.name c).length ∧ (wlOf H W T.name c).length ≤ 3 := by
  have hm : (T.name, c) ∈ W.map (·.1) := by rw [h.k]; exact List.mem_append_left _ (keys_mem hT hc)
  obtain ⟨x, hx, ex⟩ := List.mem_map.mp hm
  obtain ⟨ds, hds, vs, a, b⟩ := h.v.mem hx
  have e2 := wl_at h.nd hx a
  rw [ex] at e2
  refine ⟨hm, ?_⟩
  show 1 ≤ (wlOf H W T.name c).length ∧ _
  rw [show wlOf H W T.name c = vs from e2, ← b.len]
  exact hC ds hds
theorem WdOk.fl {H : Hp} {d : Addr} {W : List ((Str × Str) × Addr)} {l : List Ts} {C : List (List Dp)} {e : Str × Str} (h : WdOk H d W l C e) : ∀ t c, ∀ v ∈ wlOf H W t c, flt v = true ∨ ∃ a xs, v = .ref a ∧ H a = some (.tup xs) := fun t c v hv => by
  obtain ⟨x, hx, vs, a, hv⟩ := wl_mem hv
  obtain ⟨ds, _, vs', a', b⟩ := h.v.mem hx
  rw [a] at a'
  cases a'
  obtain ⟨i, hi⟩ := List.getElem?_of_mem hv
  have : i < ds.length := by rw [b.len]; exact (List.getElem?_eq_some_iff.mp hi).1
  exact (b.get i _ v (List.getElem?_eq_getElem this) hi).val
theorem manyR_pos {wl : Str → Str → List V} {t : Str} : ∀ (cols : List Str) (n : Nat), 1 ≤ n → (∀ c ∈ cols, 1 ≤ (wl t c).length) → 1 ≤ cols.foldl (fun n c => n * (wl t c).length) n
  | [], n, h, _ => h
  | c :: r, n, h, hc => manyR_pos r _ (Nat.le_trans (by decide : 1 ≤ 1 * 1) (Nat.mul_le_mul h (hc c List.mem_cons_self))) fun x hx => hc x (List.mem_cons_of_mem _ hx)
theorem manyC_pos {so : Str} {n : Nat} (h : 1 ≤ n) : 1 ≤ manyC so n := by
  unfold manyC
  split
  · exact h
  · omega
theorem manyP_take {wl : Str → Str → List V} {l : List Ts} (h : ∀ T ∈ l, 1 ≤ manyC T.sort (manyR wl T.name T.cols)) : ∀ i, manyP wl (l.take i) ≤ manyP wl l := by
  have step : ∀ k i, i + k = l.length → manyP wl (l.take i) ≤ manyP wl l := by
    intro k
    induction k with
    | zero => intro i e; rw [show i = l.length by omega, List.take_length]; exact Nat.le_refl _
    | succ k ih =>
      intro i e
      have := ih (i + 1) (by omega)
      rw [take_last (show i < l.length by omega), manyP_snoc] at this
      exact Nat.le_trans (Nat.le_trans (by rw [Nat.mul_one]; exact Nat.le_refl _) (Nat.mul_le_mul_left _ (h _ (List.getElem_mem (show i < l.length by omega))))) this
  intro i
  by_cases hi : i ≤ l.length
  · exact step (l.length - i) i (by omega)
  · rw [List.take_of_length_le (by omega)]
    exact Nat.le_refl _
theorem manyP_pos {wl : Str → Str → List V} {l : List Ts} (h : ∀ T ∈ l, 1 ≤ manyC T.sort (manyR wl T.name T.cols)) : 1 ≤ manyP wl l := manyP_take h 0
theorem pieces_row {wl : Str → Str → List V} {l : List Ts} (c2 : ∀ T ∈ l, T.cols.length ≤ 2) : ∀ pc ∈ piecesC wl l, ∀ t ∈ pc, ∀ row ∈ t.2, row.length ≤ 2 := by
  have : ∀ (l : List Ts) (pcs : List Pc), (∀ T ∈ l, T.cols.length ≤ 2) → (∀ pc ∈ pcs, ∀ t ∈ pc, ∀ row ∈ t.2, row.length ≤ 2) → ∀ pc ∈ l.foldl (fun pcs T => growP pcs T.name (choicesG T.sort (smallW wl T.name T.cols))) pcs, ∀ t ∈ pc, ∀ row ∈ t.2, row.length ≤ 2 := by
    intro l
    induction l with
    | nil => intro pcs _ h; exact h
    | cons T r ih =>
      intro pcs hc h
      refine ih _ (fun U hU => hc U (List.mem_cons_of_mem _ hU)) fun pc hp t ht row hrow => ?_
      unfold growP at hp
      obtain ⟨p0, hp0, hp⟩ := List.mem_flatMap.mp hp
      obtain ⟨rows, hr, rfl⟩ := List.mem_map.mp hp
      rcases List.mem_append.mp ht with ht | ht
      · exact h p0 hp0 t ht row hrow
      · rw [List.mem_singleton.mp ht] at hrow
        have hk := smallR_keys (wl := wl) (t := T.name) T.cols (rK row) (by rw [smallW_K]; exact List.mem_map.mpr ⟨row, (choices_sub hr).2 row hrow, rfl⟩)
        have := congrArg List.length hk
        unfold rK at this
        rw [List.length_map, List.length_map, List.length_map] at this
        have := hc T List.mem_cons_self
        omega
  exact this l [[]] c2 fun pc hp t ht => by rw [List.mem_singleton.mp hp] at ht; cases ht
theorem dtE_val {W : List ((Str × Str) × Addr)} (nd : (W.map (·.1)).Nodup) {x : (Str × Str) × Addr} (hx : x ∈ W) : valV (dtE W) ([.inr x.1.1, .inr x.1.2] : List Key) = some (.ref x.2) := by
  unfold dtE
  induction W with
  | nil => cases hx
  | cons a r ih =>
    rw [List.map_cons, List.nodup_cons] at nd
    rw [List.map_cons]
    rcases List.mem_cons.mp hx with rfl | hx
    · exact valV_pos (κ := List Key) (p := (([Sum.inr x.1.1, Sum.inr x.1.2] : List Key), V.ref x.2)) (k := [Sum.inr x.1.1, Sum.inr x.1.2]) rfl
    · rw [valV_neg (κ := List Key) (fun e => ?_)]
      · exact ih nd.2 hx
      · have e' : ([Sum.inr a.1.1, Sum.inr a.1.2] : List Key) = [Sum.inr x.1.1, Sum.inr x.1.2] := e
        injection e' with e1 e2
        injection e2 with e2
        injection e1 with e1
        injection e2 with e2
        exact nd.1 (by rw [show a.1 = x.1 from Prod.ext e1 e2]; exact List.mem_map.mpr ⟨x, hx, rfl⟩)
/-- two worlds alike -/
theorem worlds_dq {H : Hp} {d d' : Addr} {W W' : List ((Str × Str) × Addr)} {l : List Ts} {C : List (List Dp)} {e : Str × Str} (h : WdOk H d W l C e) (h' : WdOk H d' W' l C e) : (dtE W).length = (dtE W').length ∧ ∀ (k : List Key) (v : V), (k, v) ∈ dtE W → ∃ v', (k, v') ∈ dtE W' ∧ Dq H 2 v v' := by
  have lw : W.length = W'.length := by rw [h.v.len, h'.v.len]
  refine ⟨by unfold dtE; rw [List.length_map, List.length_map, lw], fun k v hk => ?_⟩
  obtain ⟨x, hx, ex⟩ := List.mem_map.mp hk
  cases ex
  obtain ⟨i, hi⟩ := List.getElem?_of_mem hx
  have hil : i < W.length := (List.getElem?_eq_some_iff.mp hi).1
  have hi' : W'[i]? = some W'[i] := List.getElem?_eq_getElem (by omega)
  have hic : C[i]? = some (C[i]'(by rw [← h.v.len]; exact hil)) := List.getElem?_eq_getElem _
  have ek : x.1 = W'[i].1 := by
    have a : (W.map (·.1))[i]? = some x.1 := by rw [List.getElem?_map, hi]; rfl
    have b : (W'.map (·.1))[i]? = some W'[i].1 := by rw [List.getElem?_map, hi']; rfl
    rw [h.k] at a
    rw [h'.k, a] at b
    exact Option.some.inj b
  obtain ⟨vs, a1, a2⟩ := h.v.get i x _ hi hic
  obtain ⟨us, b1, b2⟩ := h'.v.get i _ _ hi' hic
  refine ⟨.ref W'[i].2, List.mem_map.mpr ⟨W'[i], List.mem_of_getElem? hi', by rw [← ek]⟩, ?_⟩
  have la := a2.len
  have lb := b2.len
  refine .lst a1 b1 (by omega) fun j p q e1 e2 => ?_
  have hj : j < (C[i]'(by rw [← h.v.len]; exact hil)).length := by rw [la]; exact (List.getElem?_eq_some_iff.mp e1).1
  exact (a2.get j _ p (List.getElem?_eq_getElem hj) e1).dv.dq (b2.get j _ q (List.getElem?_eq_getElem hj) e2).dv
end My

namespace My
open PySem L2 PyProof.Rows
seal L2.PE L2.PT L2.PW L2.PS L2.PSs L2.PA L2.PI L2.PG L2.PGs L2.OpR L2.UnR L2.CallR L2.IxR L2.SlR L2.MtR L2.PIf L2.PO L2.MtM L2.PC
def lwN : List Str := ["_law_script", "_law_sheets_here", "_law_sizes", "_law_form_here", "_law_values_here", "_law_names_here", "_law_many", "_law_name", "_law_sort", "_law_columns", "_law_due", "_law_found", "_law_same", "_law_spot"]
theorem dtE_snoc {W : List ((Str × Str) × Addr)} {k : Str × Str} {p : Addr} : dtE (W ++ [(k, p)]) = dtE W ++ [([.inr k.1, .inr k.2], .ref p)] := by
  unfold dtE
  rw [List.map_append]
  rfl
theorem dtE_new {W : List ((Str × Str) × Addr)} {k : Str × Str} (h : k ∉ W.map (·.1)) : valV (dtE W) ([.inr k.1, .inr k.2] : List Key) = none := by
  cases ev : valV (dtE W) ([.inr k.1, .inr k.2] : List Key) with
  | none => rfl
  | some v =>
    have := valV_in ev
    unfold dtE at this
    rw [List.map_map] at this
    obtain ⟨x, hx, ex⟩ := List.mem_map.mp this
    injection ex with ex1 ex2
    injection ex2 with ex2
    injection ex1 with ex1
    injection ex2 with ex2
    exact absurd (List.mem_map.mpr ⟨x, hx, Prod.ext ex1 ex2⟩) h
/-- the one entry more -/
theorem wd_add {H5 : Hp} {d p : Addr} {W : List ((Str × Str) × Addr)} {l : List Ts} {C : List (List Dp)} {z : Str} (hd : H5 d = some (.dT (dtE W))) (hk : W.map (·.1) = keysC l) (nd : (keysC l).Nodup) (hz : z ∉ l.map (·.name)) (hv : F2 (LvA H5) W C) (hp : H5 p = some (.lst [.int 1, .int 2])) :
    WdOk (upd H5 d (.dT (putK (dtE W) ([.inr z, .inr "a"] : List Key) (.ref p)))) d (W ++ [((z, ("a" : Str)), p)]) l (C ++ [[.fl (.int 1), .fl (.int 2)]]) (z, "a") := by
  have hnew : (z, ("a" : Str)) ∉ W.map (·.1) := fun hm => by rw [hk] at hm; exact hz (keys_name hm)
  rw [putK_new _ (dtE_new hnew), ← dtE_snoc (k := (z, ("a" : Str)))]
  have st : STup H5 (upd H5 d (.dT (dtE (W ++ [((z, ("a" : Str)), p)])))) := STup.put fun xs h => by rw [hd] at h; cases h
  refine ⟨upd_same, by rw [List.map_append, hk]; rfl, ?_, F2.snoc (hv.imp fun x ds ⟨vs, a, b⟩ => ⟨vs, ?_, b.imp fun _ _ r => r.st st⟩) ⟨_, ?_, .cons (.fl rfl) (.cons (.fl rfl) .nil)⟩⟩
  · rw [List.map_append, List.nodup_append]
    refine ⟨by rw [hk]; exact nd, List.nodup_cons.mpr ⟨List.not_mem_nil, List.nodup_nil⟩, fun x hx y hy e => ?_⟩
    rw [List.mem_singleton.mp hy] at e
    exact hnew (by rw [← show x = (z, ("a" : Str)) from e]; exact hx)
  · have nb : x.2 ≠ d := fun e => by rw [e, hd] at a; cases a
    rw [upd_ne nb]
    exact a
  · have nb : p ≠ d := fun e => by rw [e, hd] at hp; cases hp
    rw [upd_ne nb]
    exact hp
theorem max_new {zs : List Str} {z : Str} (h : ∀ y ∈ zs, ¬ z.cps.toList < y.cps.toList) : (z ++ ("a" : Str)) ∉ zs := fun hm => by
  refine h _ hm ?_
  have e2 : (z ++ ("a" : Str)).cps.toList = z.cps.toList ++ [97] := by
    show (z.cps ++ _).toList = _
    rw [Array.toList_append]
    rfl
  rw [e2]
  exact lt_more _ _
section
variable {P : Program} {w : World} {K : PySem.W.Frag} {mg : Str → Option Value} {base : Heap} {CT CS CM : Addr}
theorem ok_law {f fD fF fW fCh fLi fRf fPi fPo fSo fSt : Addr} {fd fdD fdF fdW fdCh fdLi fdRf fdPi fdPo fdSo fdSt : FuncData} (F : Fun K "law" "law" (top 35) f fd) (B : Bl mg) (hMx : mg "max" = none)
    (DD : Df K mg "_law_drawn" (top 23) fD fdD) (GD : FnOk P w K mg base CX0 3 fD fdD ["_law_script"] (spDrawn K))
    (DF : Df K mg "_law_form" (top 25) fF fdF) (GF : FnOk P w K mg base CX0 2 fF fdF ["_law_script", "_law_sheets_here"] (spFormL K))
    (DW : Df K mg "_law_world" (top 26) fW fdW) (GW : FnOk P w K mg base CX0 3 fW fdW ["_law_script", "_law_sheets_here", "_law_sizes"] (spWorld K))
    (DCh : Df K mg "_law_choices" (top 27) fCh fdCh) (GCh : FnOk P w K mg base CX0 1 fCh fdCh ["_law_values_here", "_law_name", "_law_columns"] (spChL K))
    (DLi : Df K mg "_law_lists" (top 28) fLi fdLi) (GLi : FnOk P w K mg base CX0 1 fLi fdLi ["_law_sort", "_law_many"] spLists)
    (DRf : Df K mg "_law_refused" (top 32) fRf fdRf) (GRf : FnOk P w K mg base CX0 4 fRf fdRf ["_law_form_here", "_law_values_here"] spRefd)
    (DPi : Df K mg "_law_piece" (top 31) fPi fdPi) (GPi : FnOk P w K mg base CX0 3 fPi fdPi ["_law_values_here", "_law_sheets_here", "_law_place"] (spLPiece K))
    (DPo : Df K mg "pieces_of" (top 9) fPo fdPo) (GPo : FnOk P w K mg base CX0 3 fPo fdPo ["form", "values"] spPieces)
    (DSo : Df K mg "_law_spoil" (top 33) fSo fdSo) (GSo : FnOk P w K mg base CX0 1 fSo fdSo ["_law_pieces", "_law_name"] spSpoil)
    (DSt : Df K mg "_law_spoilt" (top 34) fSt fdSt) (GSt : FnOk P w K mg base CX0 1 fSt fdSt ["_law_pieces", "_law_due", "_law_name", "_law_many"] spSpoilt) :
    FnOk P w K mg base CX0 5 f fd ["_law_script"] (spLaw K) := by
  have sc : FnScope lwN ["_law_script"] (defScope (top 35)) := ⟨rfl, rfl, rfl, by decide +kernel, rfl, by decide +kernel, by decide +kernel⟩
  have bD := DD.fn.binds (ps := ["_law_script"]) fun _ _ _ _ _ _ us hl => by obtain ⟨v0, rfl⟩ := L2.ln1 hl; rfl
  have bF := DF.fn.binds (ps := ["_law_script", "_law_sheets_here"]) fun _ _ _ _ _ _ us hl => by obtain ⟨v0, v1, rfl⟩ := L2.ln2 hl; rfl
  have bW := DW.fn.binds (ps := ["_law_script", "_law_sheets_here", "_law_sizes"]) fun _ _ _ _ _ _ us hl => by obtain ⟨v0, v1, v2, rfl⟩ := L2.ln3 hl; rfl
  have bCh := DCh.fn.binds (ps := ["_law_values_here", "_law_name", "_law_columns"]) fun _ _ _ _ _ _ us hl => by obtain ⟨v0, v1, v2, rfl⟩ := L2.ln3 hl; rfl
  have bLi := DLi.fn.binds (ps := ["_law_sort", "_law_many"]) fun _ _ _ _ _ _ us hl => by obtain ⟨v0, v1, rfl⟩ := L2.ln2 hl; rfl
  have bRf := DRf.fn.binds (ps := ["_law_form_here", "_law_values_here"]) fun _ _ _ _ _ _ us hl => by obtain ⟨v0, v1, rfl⟩ := L2.ln2 hl; rfl
  have bPi := DPi.fn.binds (ps := ["_law_values_here", "_law_sheets_here", "_law_place"]) fun _ _ _ _ _ _ us hl => by obtain ⟨v0, v1, v2, rfl⟩ := L2.ln3 hl; rfl
  have bPo := DPo.fn.binds (ps := ["form", "values"]) fun _ _ _ _ _ _ us hl => by obtain ⟨v0, v1, rfl⟩ := L2.ln2 hl; rfl
  have bSo := DSo.fn.binds (ps := ["_law_pieces", "_law_name"]) fun _ _ _ _ _ _ us hl => by obtain ⟨v0, v1, rfl⟩ := L2.ln2 hl; rfl
  have bSt := DSt.fn.binds (ps := ["_law_pieces", "_law_due", "_law_name", "_law_many"]) fun _ _ _ _ _ _ us hl => by obtain ⟨v0, v1, v2, v3, rfl⟩ := L2.ln4 hl; rfl
  refine F.ok sc (fun vs H Q E h => ?_) (fun cdv A outer s H vs Q E hr h => ?_)
  · obtain ⟨a, ns, rfl, _⟩ := h
    rfl
  · obtain ⟨a, ns, rfl, hS, _, q⟩ := h
    have hr1 : Room 1 _ := hr.mono (by decide)
    have hr2 : Room 2 _ := hr.mono (by decide)
    have hr3 : Room 3 _ := hr.mono (by decide)
    have hu : (A.deeper (envOfC "law" (defScope (top 35)) s.heap.objs.size f cdv)).units + 1 < cLine := hu_of hr
    have hu4 : (A.deeper (envOfC "law" (defScope (top 35)) s.heap.objs.size f cdv)).units + 3 + 1 < cLine := by have := hr.un; omega
    have hu3 : (A.deeper (envOfC "law" (defScope (top 35)) s.heap.objs.size f cdv)).units + 2 + 1 < cLine := by have := hr.un; omega
    have ndA : (["_law_sheet"] : List Str).Nodup := by decide +kernel
    have ndB : (["_law_place", "_law_values_here", "_law_sheets_here"] : List Str).Nodup := by decide +kernel
    refine ⟨_, pss_cons (ps_asg (pe_call GD hr3 (by rfl) DD.mg DD.fn.kp bD .nil pass0 (pa_cons (pv 0) pa_nil)) (pg_tupL rfl (pgs_cons (pg_name (i := 1) sc.nd rfl (Or.inr rfl)) (pgs_cons (pg_name (i := 2) sc.nd rfl (Or.inl rfl)) pgs_nil))))
      (pss_cons (ps_set (i := 3) sc.nd rfl (Or.inl rfl) (pe_call GF hr2 (by rfl) DF.mg DF.fn.kp bF .nil pass0 (pa_cons (pv 0) (pa_cons (pv 1) pa_nil))))
      (pss_cons (ps_set (i := 4) sc.nd rfl (Or.inr rfl) (pe_call GW hr3 (by rfl) DW.mg DW.fn.kp bW .nil pass0 (pa_cons (pv 0) (pa_cons (pv 1) (pa_cons (pv 2) pa_nil)))))
      (pss_cons (ps_comp (i := 5) (osc := defScope (top 35)) (N0 := lwN) (xs := ["_law_sheet"]) (fr := []) ⟨rfl, by decide +kernel, by decide +kernel, by decide +kernel, by decide, by decide +kernel⟩ rfl rfl rfl (pi_list (pv 1))
          (fun s H fp => pg_name (i := 0) ndA rfl (Or.inl rfl)) (fun s H fp => pif_nil) (fun s H fp => pe_ix (r := rIxT K) ix_tup (pv 0) pe_int (fun _ _ => rfl)) sc.nd rfl (Or.inl rfl))
      (pss_cons (ps_dput hu (pv 4) (pe_tup (pa_cons (pe_op op_add_str (pe_callB (call_maxT rfl) (by rfl) hMx PyProof.Rows.boot_max (pa_cons (pv 5) pa_nil)) pe_str) (pa_cons pe_str pa_nil))) (pe_lst (pa_cons pe_int (pa_cons pe_int pa_nil))) rfl)
      (pss_cons (ps_set (i := 6) sc.nd rfl (Or.inl rfl) pe_int)
      (pss_cons (ps_for PassesOwn.never rfl (pi_list (pv 1)) (pg_tup rfl (pgs_cons (pg_name (i := 7) sc.nd rfl (Or.inl rfl)) (pgs_cons (pg_name (i := 8) sc.nd rfl (Or.inl rfl)) (pgs_cons (pg_name (i := 9) sc.nd rfl (Or.inl rfl)) pgs_nil))))
        (pss_one (ps_set (i := 6) sc.nd rfl (Or.inl rfl) (pe_op op_mul (pv 6) (pe_call GLi hr1 (by rfl) DLi.mg DLi.fn.kp bLi .nil pass0 (pa_cons (pv 8) (pa_cons (pe_call GCh hr1 (by rfl) DCh.mg DCh.fn.kp bCh .nil pass0 (pa_cons (pv 4) (pa_cons (pv 7) (pa_cons (pv 9) pa_nil)))) pa_nil)))))))
      (pss_cons (ps_if (pt_cmpR op_gt (pv 6) pe_int (nomark _)) (pss_one (ps_ret (pe_call GRf hr (by rfl) DRf.mg DRf.fn.kp bRf .nil pass0 (pa_cons (pv 3) (pa_cons (pv 4) pa_nil))))) pss_nil)
      (pss_cons (ps_comp (i := 10) (osc := defScope (top 35)) (N0 := lwN) (xs := ["_law_place"]) (fr := [4, 1]) ⟨rfl, by decide +kernel, by decide +kernel, by decide +kernel, (fun j hj => by
              have e : j = 4 ∨ j = 1 := by simpa using hj
              rcases e with rfl | rfl
              · exact ⟨_, rfl, by decide +kernel⟩
              · exact ⟨_, rfl, by decide +kernel⟩), by decide +kernel⟩ rfl rfl rfl (pi_range1 rfl B.range (pa_cons (pv 6) pa_nil))
          (fun s H fp => pg_name (i := 0) ndB rfl (Or.inl rfl)) (fun s H fp => pif_nil) (fun s H fp => pe_call GPi hr3 (by rfl) DPi.mg DPi.fn.kp bPi .nil pass0 (pa_cons (pv 1) (pa_cons (pv 2) (pa_cons (pv 0) pa_nil)))) sc.nd rfl (Or.inl rfl))
      (pss_cons (ps_set (i := 11) sc.nd rfl (Or.inl rfl) (pe_call GPo hr3 (by rfl) DPo.mg DPo.fn.kp bPo .nil pass0 (pa_cons (pv 3) (pa_cons (pv 4) pa_nil))))
      (pss_cons (ps_if (PW.pt (pw_or (pt_not (pt_val (pe_callB call_isi (by rfl) B.isi boot_isi (pa_cons (pv 11) (pa_cons (pe_bltn (v := .ty "list") (by rfl) B.list boot_list rfl) pa_nil))))) (pw_or1 (pt_cmpR op_neL (pv 11) (pv 10) (nomark _))))) pss_never pss_nil)
      (pss_cons (ps_expr (pe_call GSo hr1 (by rfl) DSo.mg DSo.fn.kp bSo .nil pass0 (pa_cons (pv 11) (pa_cons (pe_ix ix_list (pv 5) (pe_un un_neg pe_int) (fun _ _ => rfl)) pa_nil))))
      (pss_cons (ps_if (pt_not (pt_val (pe_call GSt hr1 (by rfl) DSt.mg DSt.fn.kp bSt .nil pass0 (pa_cons (pv 11) (pa_cons (pv 10) (pa_cons (pe_ix ix_list (pv 5) (pe_un un_neg pe_int) (fun _ _ => rfl)) (pa_cons (pv 6) pa_nil))))))) pss_never pss_nil)
      (pss_cons (ps_set (i := 12) sc.nd rfl (Or.inl rfl) (pe_call GW hr3 (by rfl) DW.mg DW.fn.kp bW .nil pass0 (pa_cons (pv 0) (pa_cons (pv 1) (pa_cons (pv 2) pa_nil)))))
      (pss_cons (ps_dput hu (pv 12) (pe_tup (pa_cons (pe_op op_add_str (pe_callB (call_maxT rfl) (by rfl) hMx PyProof.Rows.boot_max (pa_cons (pv 5) pa_nil)) pe_str) (pa_cons pe_str pa_nil))) (pe_lst (pa_cons pe_int (pa_cons pe_int pa_nil))) rfl)
      (pss_cons (ps_if (PW.pt (pw_or (pt_cmpR op_neTT (pv 4) (pv 12) (nomark _)) (pw_or1 (pt_cmpR op_neL (pe_call GPo hr3 (by rfl) DPo.mg DPo.fn.kp bPo .nil pass0 (pa_cons (pv 3) (pa_cons (pv 4) pa_nil))) (pv 10) (nomark _))))) pss_never pss_nil)
      (pss_cons (ps_frzT (ps_for PassesOwn.never rfl (pi_dT (pv 4)) (pg_name (i := 13) sc.nd rfl (Or.inl rfl)) (pss_one (ps_expr (pe_bm0 PySem.F.plainAttrs_list PySem.F.slot_list_clear PySem.F.type_list_clear mt_clr (pe_dget hu (pv 4) (pv 13) (fun _ _ => rfl)))))))
      (pss_one (ps_ret (pe_cmpR op_eqL (pe_slice sl_list (pv 11) (po_some pe_int) (po_some (pe_un un_neg pe_int))) (pe_slice sl_list (pv 10) (po_some pe_int) (po_some (pe_un un_neg pe_int))) (nomark _)))))))))))))))))))), ?_⟩
    refine ⟨_, rfl, a, ns, rfl, hS, fun r ls sz l ss H1 s1 dr => ?_⟩
    obtain ⟨dr1, dsh, dok, dsz, ds3, dnc, ds6⟩ := dr
    refine ⟨r, _, rfl, SqL.of dr1, rfl, _, _, rfl, _, _, rfl, rfl, ?_⟩
    refine ⟨_, rfl, _, rfl, a, ls, ns, l, rfl, s1.seq hS, dsh, dok, fun fo H2 s2 hfo => ?_⟩
    have S2 := s1.trans s2
    refine ⟨_, rfl, _, rfl, _, rfl, a, ls, sz, ns, ss, l, rfl, S2.seq hS, dsh.same s2, dok, s2 _ _ dsz, ds3, dnc, ds6, fun d W H3 s3 hd hW hF => ?_⟩
    have S13 := s2.trans s3
    have S3 := s1.trans S13
    have dsh3 := dsh.same S13
    have hdW := cut_sub _ _ hd
    have hFl := hF.imp fun _ _ r => r.lv
    have Wl : W.length ≤ ss.length := by
      have := congrArg List.length hW
      rw [List.length_map, keysC_len] at this
      omega
    have knd := keysC_nd dok.nd dok.cn
    obtain ⟨ys, y1, y2⟩ := id dsh3
    have lw : (l.map (·.name)).length = l.length := List.length_map ..
    refine ⟨_, rfl, ls, rfl, ⟨_, SqL.of y1⟩, fun D hD => ?_⟩
    have yl : ys.length = l.length := y2.len
    refine compW_map l.length (fun i => .str ((l.map (·.name)).getD i "")) (fun i σ' Hc => (∃ t, σ' = [t]) ∧ Same H3 Hc) (by rw [sizeLine_eq]; have := dok.le; omega) ⟨⟨none, rfl⟩, Same.upd hD⟩ upd_same ?_ ?_
    · rintro i σ' Hc hi ⟨⟨t, rfl⟩, sm⟩ hD'
      have hiy : i < ys.length := by omega
      refine ⟨⟨_, V.ref ys[i], SqL.of (sm _ _ y1), by rw [List.getElem?_map, List.getElem?_eq_getElem hiy]; rfl⟩, ?_⟩
      rintro x H' ⟨rfl, hx'⟩
      have ex := hx' _ (SqL.of (sm _ _ y1))
      rw [List.getElem?_map, List.getElem?_eq_getElem hiy] at ex
      cases ex
      obtain ⟨lc, t1, t2⟩ := y2.get i _ l[i] (List.getElem?_eq_getElem hiy) (List.getElem?_eq_getElem hi)
      refine ⟨_, rfl, ys[i], _, 0, .str l[i].name, rfl, rfl, SqT.of (sm _ _ t1), rfl, ?_, hD', ⟨_, rfl⟩, sm.put hD⟩
      rw [List.getD_eq_getElem?_getD, List.getElem?_map, List.getElem?_eq_getElem hi]
      rfl
    rintro σ' H4 ⟨_, s4⟩ hDn
    refine ⟨⟨_, SqL.of (s4 _ _ y1), by rw [List.length_map]; omega⟩, ?_⟩
    rw [show (List.range l.length).map (fun i => V.str ((l.map (·.name)).getD i "")) = (l.map (·.name)).map V.str from by
      apply List.ext_getElem?
      intro i
      rw [List.getElem?_map, List.getElem?_map, List.getElem?_map]
      by_cases hi : i < l.length
      · rw [List.getElem?_range hi, List.getElem?_eq_getElem hi]
        show some (V.str ((l.map (·.name)).getD i "")) = _
        rw [List.getD_eq_getElem?_getD, List.getElem?_map, List.getElem?_eq_getElem hi]
        rfl
      · rw [List.getElem?_eq_none (by rw [List.length_range]; omega), List.getElem?_eq_none (by omega)]
        rfl] at hDn
    generalize hzs : l.map (·.name) = zs at *
    have z8 : ∀ z ∈ zs, z.length ≤ 8 := fun z hz => by
      rw [← hzs] at hz
      obtain ⟨T, hT, rfl⟩ := List.mem_map.mp hz
      exact dok.nl T hT
    have zpos : 0 < zs.length := by have := dok.ne; omega
    have a1 : (("a" : Str).length) = 1 := by decide +kernel
    -- the one entry more
    refine ⟨(by show 2 ≤ sizeLine; decide), fun p hp => ?_⟩
    have T5 := Same.upd (o := .lst [.int 1, .int 2]) hp
    have e5 := upd_same (H := H4) (a := p) (o := .lst [.int 1, .int 2])
    generalize upd H4 p (.lst [.int 1, .int 2]) = H5a at *
    refine ⟨_, rfl, _, rfl, D, _, rfl, SqL.of (T5 _ _ hDn), zpos, fun z hz hmax => ?_⟩
    refine ⟨_, _, rfl, rfl, (by have := z8 z hz; rw [sizeLine_eq]; omega), (by show 2 ≤ sizeLine; decide), fun kt hkt => ?_⟩
    have T6 := Same.upd (o := .tup [.str (z ++ ("a" : Str)), .str "a"]) hkt
    have e6 := upd_same (H := H5a) (a := kt) (o := .tup [.str (z ++ ("a" : Str)), .str "a"])
    generalize upd H5a kt (.tup [.str (z ++ ("a" : Str)), .str "a"]) = H5 at *
    have T56 := T5.trans T6
    have S35 := s4.trans T56
    have hd5 := S35 _ _ hdW
    have W6 : W.length ≤ 6 := by omega
    refine ⟨d, _, rfl, .inr ⟨_, [.inr (z ++ ("a" : Str)), .inr "a"], kt, hd5, rfl, e6, (by unfold dtE; rw [List.length_map, sizeLine_eq]; omega), rfl⟩, ?_⟩
    have wd := wd_add (C := worldC ns ss W.length) (z := z ++ ("a" : Str)) (p := p) hd5 hW knd (by rw [hzs]; exact max_new hmax) (hFl.imp fun _ _ r => r.same S35) (T6 _ _ e5)
    have nd0 : H2 d = none := cut_new hd
    have S26 : Same H2 (upd H5 d (.dT (putK (dtE W) ([.inr (z ++ ("a" : Str)), .inr "a"] : List Key) (.ref p)))) := (s3.trans S35).put nd0
    have hD6 : (upd H5 d (.dT (putK (dtE W) ([.inr (z ++ ("a" : Str)), .inr "a"] : List Key) (.ref p)))) D = some (.lst (zs.map V.str)) := by
      have nb : D ≠ d := fun e => by rw [e, hdW] at hD; cases hD
      rw [upd_ne nb]
      exact T56 _ _ hDn
    generalize upd H5 d (.dT (putK (dtE W) ([.inr (z ++ ("a" : Str)), .inr "a"] : List Key) (.ref p))) = H6 at *
    generalize hW' : W ++ [((z ++ ("a" : Str), ("a" : Str)), p)] = W' at *
    have hC : ∀ ds ∈ worldC ns ss W.length ++ [[.fl (.int 1), .fl (.int 2)]], 1 ≤ ds.length ∧ ds.length ≤ 3 := worldD_len ds3 Wl
    generalize hCC : worldC ns ss W.length ++ [[Dp.fl (.int 1), Dp.fl (.int 2)]] = C at *
    generalize hwl : wlOf H6 W' = wl
    have vl6 : VlAt H6 d W' wl := hwl ▸ wd.vl
    have len6 : ∀ T ∈ l, ∀ c ∈ T.cols, (T.name, c) ∈ W'.map (·.1) ∧ 1 ≤ (wl T.name c).length ∧ (wl T.name c).length ≤ 3 := hwl ▸ fun T hT c hc => wd.len hC hT hc
    have fl6 : ∀ t c, ∀ v ∈ wl t c, flt v = true ∨ ∃ a xs, v = .ref a ∧ H6 a = some (.tup xs) := hwl ▸ wd.fl
    have wok : WOk l W' wl := ⟨dok.le, dok.cl, fun T hT c hc => ⟨(len6 T hT c hc).1, (len6 T hT c hc).2.2⟩⟩
    have pos1 : ∀ T ∈ l, 1 ≤ manyC T.sort (manyR wl T.name T.cols) := fun T hT => manyC_pos (manyR_pos T.cols 1 (by decide) fun c hc => (len6 T hT c hc).2.1)
    have S06 := S2.trans S26
    have dsh6 := dsh.same (s2.trans S26)
    obtain ⟨ys6, y61, y62⟩ := id dsh6
    have y6l : ys6.length = l.length := y62.len
    refine ⟨_, rfl, ls, rfl, ⟨_, SqL.of y61⟩, for_list (K := K) (a := ls) (xs := ys6.map V.ref) (fun i σ H' => Same H6 H' ∧ ∃ u7 u8 u9, σ = [some (.ref a), some (.ref ls), some (.ref sz), some (.ref fo), some (.ref d), some (.ref D), some (.int (manyP wl (l.take i) : Nat)), u7, u8, u9, none, none, none, none]) ⟨Same.refl _, _, _, _, rfl⟩ (fun i σ H' _ p => SqL.of (p.1 _ _ y61)) ?_ ?_⟩
    · rintro i x σ H' hx ⟨sm, u7, u8, u9, rfl⟩
      have hi : i < ys6.length := by
        have := (List.getElem?_eq_some_iff.mp hx).1
        rwa [List.length_map] at this
      have hil : i < l.length := by omega
      rw [List.getElem?_map, List.getElem?_eq_getElem hi] at hx
      cases hx
      obtain ⟨lc, t1, t2⟩ := y62.get i _ l[i] (List.getElem?_eq_getElem hi) (List.getElem?_eq_getElem hil)
      have hT : l[i] ∈ l := List.getElem_mem hil
      have en : manyP wl (l.take (i + 1)) = manyP wl (l.take i) * manyC l[i].sort (manyR wl l[i].name l[i].cols) := by rw [take_last hil, manyP_snoc]
      generalize l[i] = T at *
      have m9 := manyR_9 wok hT
      have mc := manyC_le (so := T.sort) m9
      refine ⟨ys6[i], _, rfl, SqT.of (sm _ _ t1), rfl, _, _, rfl, _, _, rfl, _, _, rfl, rfl, ?_⟩
      refine ⟨_, rfl, _, rfl, _, rfl, _, rfl, _, rfl, lc, d, T.name, T.cols, W', wl, rfl, SqL.of (sm _ _ t2), vl6.same sm, wok.vl _ hT, dok.cl _ hT, fun H8 s8 => ⟨T.sort, manyR wl T.name T.cols, rfl, dok.so _ hT, by omega, _, _, rfl, rfl, .inr ⟨by omega, by omega⟩, sm.trans s8, some (.str T.name), some (.str T.sort), some (.ref lc), ?_⟩⟩
      rw [en, Int.natCast_mul]
      rfl
    rintro σ H7 ⟨s7, u7, u8, u9, rfl⟩
    rw [List.length_map, y6l, List.take_length]
    have S27 := S26.trans s7
    have S07 := S06.trans s7
    have vl7 := vl6.same s7
    have mpos := manyP_pos pos1
    refine ⟨_, rfl, _, _, rfl, rfl, _, rfl, ?_⟩
    by_cases h300 : 300 < manyP wl l
    · exact iteB (decide_eq_true (by omega)) ⟨_, rfl, _, rfl, fo, d, l, W', wl, rfl, hfo.same S27, vl7, wok, h300, fun H' => q H'⟩
    refine iteC (decide_eq_false (by omega)) ?_
    have wok2 : ∀ {G : Hp}, Same H6 G → WOk2 G l W' wl := fun {G} sg => ⟨wok, by rw [hzs]; exact hzs ▸ dok.nd, dok.cn, fun i => by have := manyP_take pos1 i; omega, fun t c v hv => (fl6 t c v hv).imp id fun ⟨a, xs, e1, e2⟩ => ⟨a, xs, e1, sg _ _ e2⟩⟩
    have pcl := piecesC_len wl l
    -- the pieces due
    have dsh7 := dsh.same (s2.trans S27)
    refine ⟨_, rfl, _, rfl, (by omega), (by omega), fun D2 hD2 => ?_⟩
    refine compW_idx (manyP wl l) (fun i ys σ' Hc => (∃ t, σ' = [t, some (.ref d), some (.ref ls)]) ∧ Same H7 Hc ∧ ∃ qs : List Addr, ys = qs.map V.ref ∧ F2 (fun q pc => PcAt (cut (upd H7 D2 (.lst [])) Hc) q (revP pc)) qs ((piecesC wl l).take i)) (by rw [sizeLine_eq]; omega) ⟨⟨none, rfl⟩, Same.upd hD2, [], rfl, .nil⟩ upd_same ?_ ?_
    · rintro i σ' Hc ys hi ⟨⟨t, rfl⟩, sc', qs, rfl, hq⟩ hyl hD'
      have hip : i < (piecesC wl l).length := by omega
      refine ⟨hi, ?_⟩
      rintro x H'' ⟨rfl, rfl⟩
      refine ⟨_, rfl, _, rfl, _, rfl, ls, d, l, i, (piecesC wl l)[i], W', wl, (by rw [Int.zero_add]; rfl), dsh7.same sc', dok, vl7.same sc', wok, List.getElem?_eq_getElem hip, fun p' H3' s3' hp' => ?_⟩
      refine ⟨s3' _ _ hD', ⟨_, rfl⟩, (sc'.trans s3').put hD2, qs ++ [p'], by rw [List.map_append]; rfl, ?_⟩
      rw [take_last hip]
      refine F2.snoc (hq.imp fun p pc r => r.same fun b o e => ?_) (hp'.same fun b o e => ?_)
      · have nb : b ≠ D2 := fun e2 => by have := cut_new e; rw [e2, upd_same] at this; cases this
        exact cut_at (cut_new e) (by rw [upd_ne nb]; exact s3' _ _ (cut_sub _ _ e))
      · have b2 := cut_new e
        have nb : b ≠ D2 := fun e2 => by rw [e2, hD'] at b2; cases b2
        exact cut_at (by rw [upd_ne nb]; exact none_of sc' b2) (by rw [upd_ne nb]; exact cut_sub _ _ e)
    rintro σ' H8 ys' ⟨_, s8, ds, rfl, hds⟩ hD8 hyl
    refine ⟨by rw [Int.toNat_natCast]; exact Nat.le_refl _, ?_⟩
    rw [← pcl, List.take_length] at hds
    have hds8 : F2 (fun q pc => PcAt (cut H7 H8) q (revP pc)) ds (piecesC wl l) := hds.imp fun q pc r => r.same fun b o e => by
      have b2 := cut_new e
      have nb : b ≠ D2 := fun e2 => by rw [e2, upd_same] at b2; cases b2
      rw [upd_ne nb] at b2
      exact cut_at b2 (cut_sub _ _ e)
    clear hds
    have S28 := S27.trans s8
    have S68 := s7.trans s8
    -- the pieces told
    refine ⟨_, rfl, _, rfl, fo, d, l, W', wl, rfl, hfo.same S28, vl7.same s8, wok2 S68, by omega, fun lp ps H9 s9 hlp hps => ?_⟩
    obtain ⟨psl, hpg⟩ := id hps
    have hlp9 := cut_sub _ _ hlp
    have S69 := S68.trans s9
    have psn : ps.length = manyP wl l := by rw [psl, pcl]
    have n0 : 0 < ps.length := by omega
    have pok9 : ∀ {G : Hp}, Same H6 G → ∀ pc ∈ piecesC wl l, pc.map (·.1) = l.map (·.name) ∧ ∀ t ∈ pc, t.2.length ≤ 2 ∧ ∀ row ∈ t.2, RwOk G row := fun {G} sg => pieces_ok (wok2 sg).fl dok.cn
    have dl : ds.length = (piecesC wl l).length := hds8.len
    -- all alike
    have alike : ∀ {G : Hp} {qs : List Addr}, Same H6 G → qs.length = (piecesC wl l).length → (∀ (j : Nat) (p : Addr) (pc : Pc), qs[j]? = some p → (piecesC wl l)[j]? = some pc → PcAt G p pc) → F2 (fun q pc => PcAt G q (revP pc)) ds (piecesC wl l) → ∀ (i : Nat) (x y : V), (qs.map V.ref)[i]? = some x → (ds.map V.ref)[i]? = some y → Dq G 3 x y := fun {G qs} sg hq h1 h2 i x y e1 e2 => by
      rw [List.getElem?_map] at e1 e2
      cases a1 : qs[i]? with
      | none => rw [a1] at e1; cases e1
      | some p =>
        cases a2 : ds[i]? with
        | none => rw [a2] at e2; cases e2
        | some p' =>
          rw [a1] at e1
          rw [a2] at e2
          cases e1
          cases e2
          have hi : i < (piecesC wl l).length := by rw [← hq]; exact (List.getElem?_eq_some_iff.mp a1).1
          have hc := List.getElem?_eq_getElem hi
          obtain ⟨o1, o2⟩ := pok9 sg _ (List.getElem_mem hi)
          exact pc_dq (by rw [o1, hzs]; exact hzs ▸ dok.nd) (fun t ht => (o2 t ht).2) (h1 i p _ a1 hc) (h2.get i p' _ a2 hc)
    have hds9 : F2 (fun q pc => PcAt H9 q (revP pc)) ds (piecesC wl l) := hds8.imp fun _ _ r => (r.same cut_sub).same s9
    have D9 := s9 _ _ hD8
    refine ⟨_, rfl, .ref lp, "list", .type "list", true, rfl, .lst hlp9, kit_eq.trans (by decide +kernel), true, rfl, iteF ⟨_, rfl, _, rfl, 3, lp, D2, _, _, rfl, rfl, SqL.of hlp9, SqL.of D9, (by rw [List.length_map, List.length_map]; omega), alike S69 psl (fun j p pc a b => ?_) hds9, hu4, false, rfl, iteF ?_⟩⟩
    · obtain ⟨g, hg⟩ := hpg
      exact ((hg j p pc a b).pc.same reg_sub).same cut_sub
    -- spoilt
    have znm : (zs.map V.str)[(zs.map V.str).length - 1]? = some (.str zs[zs.length - 1]) := by
      rw [List.length_map, List.getElem?_map, List.getElem?_eq_getElem (by omega)]
      rfl
    have atz : atI (zs.map V.str) (-1) = some (.str zs[zs.length - 1]) := by
      rw [atI_las (by rw [List.length_map]; exact zpos)]
      exact znm
    have psok : ∀ {G : Hp}, Same H6 G → PsOk G (piecesC wl l) zs[zs.length - 1] := fun {G} sg => ⟨fun pc hpc => by rw [(pok9 sg pc hpc).1, hzs]; exact hzs ▸ dok.nd, fun pc hpc => by rw [(pok9 sg pc hpc).1, hzs]; exact List.getElem_mem _, fun pc hpc t ht => ((pok9 sg pc hpc).2 t ht).1, pieces_row dok.cl, fun pc hpc t ht => ((pok9 sg pc hpc).2 t ht).2⟩
    have S89 := s8.trans s9
    refine ⟨_, rfl, _, rfl, _, rfl, D, _, _, .str zs[zs.length - 1], rfl, rfl, SqL.of (S69 _ _ hD6), atz, lp, zs[zs.length - 1], H8, ps, piecesC wl l, rfl, s9, hlp, hps, n0, by omega, psok S69, fun H10 sp => ?_⟩
    have S6t := S68.trans sp.s
    have hds10 : F2 (fun q pc => PcAt H10 q (revP pc)) ds (piecesC wl l) := hds8.imp fun _ _ r => (r.same cut_sub).same sp.s
    have D10 := sp.s _ _ hD8
    refine ⟨_, rfl, _, rfl, _, rfl, _, rfl, D, _, _, .str zs[zs.length - 1], rfl, rfl, SqL.of (S6t _ _ hD6), atz, _, rfl, lp, D2, zs[zs.length - 1], H8, H10, ps, ds, piecesC wl l, (by rw [psn]; rfl), sp, D10, hds10, n0, psl, psok S6t, fun H11 s11 => ⟨true, rfl, iteF ?_⟩⟩
    have S611 := S6t.trans s11
    have S211 := S26.trans S611
    have S011 := S2.trans S211
    -- the second world
    refine ⟨_, rfl, _, rfl, _, rfl, a, ls, sz, ns, ss, l, rfl, S011.seq hS, dsh.same (s2.trans S211), dok, (s2.trans S211) _ _ dsz, ds3, dnc, ds6, fun d2 W2 H12 s12 hd2 hW2 hF2 => ?_⟩
    refine ⟨(by show 2 ≤ sizeLine; decide), fun p2 hp2 => ?_⟩
    have U5 := Same.upd (o := .lst [.int 1, .int 2]) hp2
    have f5 := upd_same (H := H12) (a := p2) (o := .lst [.int 1, .int 2])
    generalize upd H12 p2 (.lst [.int 1, .int 2]) = H13a at *
    have S612 := S611.trans s12
    refine ⟨_, rfl, _, rfl, D, _, rfl, SqL.of (U5 _ _ (S612 _ _ hD6)), zpos, fun z' hz' hmax' => ?_⟩
    have ezz : z' = z := str_ext (List.le_antisymm (hmax' z hz) (hmax z' hz')).symm
    subst ezz
    refine ⟨_, _, rfl, rfl, (by have := z8 z' hz; rw [sizeLine_eq]; omega), (by show 2 ≤ sizeLine; decide), fun kt2 hkt2 => ?_⟩
    have U6 := Same.upd (o := .tup [.str (z' ++ ("a" : Str)), .str "a"]) hkt2
    have f6 := upd_same (H := H13a) (a := kt2) (o := .tup [.str (z' ++ ("a" : Str)), .str "a"])
    generalize upd H13a kt2 (.tup [.str (z' ++ ("a" : Str)), .str "a"]) = H13 at *
    have U56 := U5.trans U6
    have hdW2 := cut_sub _ _ hd2
    have hd13 := U56 _ _ hdW2
    have W2l : W2.length = W.length := by
      have e1 := congrArg List.length hW2
      have e2 := congrArg List.length hW
      rw [List.length_map] at e1 e2
      omega
    refine ⟨d2, _, rfl, .inr ⟨_, [.inr (z' ++ ("a" : Str)), .inr "a"], kt2, hd13, rfl, f6, (by unfold dtE; rw [List.length_map, sizeLine_eq]; omega), rfl⟩, ?_⟩
    have wd2 := wd_add (C := worldC ns ss W2.length) (z := z' ++ ("a" : Str)) (p := p2) hd13 hW2 knd (by rw [hzs]; exact max_new hmax) (hF2.imp fun _ _ r => r.lv.same U56) (U6 _ _ f5)
    rw [W2l, hCC] at wd2
    have n2 : H11 d2 = none := cut_new hd2
    have S1114 : Same H11 (upd H13 d2 (.dT (putK (dtE W2) ([.inr (z' ++ ("a" : Str)), .inr "a"] : List Key) (.ref p2)))) := (s12.trans U56).put n2
    generalize upd H13 d2 (.dT (putK (dtE W2) ([.inr (z' ++ ("a" : Str)), .inr "a"] : List Key) (.ref p2))) = H14 at *
    have S614 := S611.trans S1114
    have wd14 := wd.same S614
    obtain ⟨wl1, wl2⟩ := worlds_dq wd14 wd2
    have S1014 := s11.trans S1114
    have hds14 : F2 (fun q pc => PcAt (cut H7 H14) q (revP pc)) ds (piecesC wl l) := hds8.imp fun _ _ r => r.same (cut_up (sp.s.trans S1014))
    refine ⟨_, rfl, _, rfl, 2, d, d2, _, _, rfl, rfl, .inl wd14.d, .inl wd2.d, wl1, wl2, hu3, false, rfl, iteF ?_⟩
    refine ⟨_, rfl, _, rfl, fo, d, l, W', wl, rfl, hfo.same (S26.trans S614), vl6.same S614, wok2 S614, by omega, fun lp2 ps2 H16 s16 hlp2 hps2 => ?_⟩
    obtain ⟨ps2l, hpg2⟩ := id hps2
    have S616 := S614.trans s16
    have D16 := (S1014.trans s16) _ _ D10
    have hds16 : F2 (fun q pc => PcAt (cut H7 H16) q (revP pc)) ds (piecesC wl l) := hds14.imp fun _ _ r => r.same (cut_up s16)
    refine ⟨_, rfl, 3, lp2, D2, _, _, rfl, rfl, SqL.of (cut_sub _ _ hlp2), SqL.of D16, (by rw [List.length_map, List.length_map]; omega), alike S616 ps2l (fun j p pc a b => ?_) (hds16.imp fun _ _ r => r.same cut_sub), hu4, false, rfl, iteF ?_⟩
    · obtain ⟨g, hg⟩ := hpg2
      exact ((hg j p pc a b).pc.same reg_sub).same cut_sub
    -- all lists cleared
    have wd16 := wd.same S616
    have wd7 := wd.same s7
    refine ⟨d, dtE W', wd16.d, fun o => ?_⟩
    have g0 := upd_same (H := H16) (a := d) (o := .frz o (.dT (dtE W')))
    have gn : ∀ {b : Addr}, b ≠ d → (upd H16 d (.frz o (.dT (dtE W')))) b = H16 b := fun {b} nb => upd_ne nb
    generalize upd H16 d (.frz o (.dT (dtE W'))) = H17 at *
    refine ⟨_, rfl, d, o, _, rfl, g0, for_dT (a := d) (o := o) (kvs := dtE W') (fun i σ H' => H' d = some (.frz o (.dT (dtE W'))) ∧ (∃ u13, σ = [some (.ref a), some (.ref ls), some (.ref sz), some (.ref fo), some (.ref d), some (.ref D), some (.int (manyP wl l : Nat)), u7, u8, u9, some (.ref D2), some (.ref lp), some (.ref d2), u13]) ∧ (∀ b o', H16 b = some o' → b ≠ d → b ∉ W'.map (·.2) → H' b = some o') ∧ ∀ x ∈ W', ∃ vs, H' x.2 = some (.lst vs)) ⟨g0, ⟨_, rfl⟩, fun b o' e nb _ => by rw [gn nb]; exact e, fun x hx => ?_⟩ (fun i σ H' _ p => p.1) ?_ ?_⟩
    · obtain ⟨ds', _, vs, e, _⟩ := wd16.v.mem hx
      have nb : x.2 ≠ d := fun z => by rw [z, wd16.d] at e; cases e
      exact ⟨vs, by rw [gn nb]; exact e⟩
    · rintro i k v b σ H' hk hb ⟨hf, ⟨u13, rfl⟩, fr, fv⟩
      unfold dtE at hk
      rw [List.getElem?_map] at hk
      cases hx : W'[i]? with
      | none => rw [hx] at hk; cases hk
      | some x =>
        rw [hx] at hk
        cases hk
        have mx := List.mem_of_getElem? hx
        obtain ⟨vs, ev⟩ := fv x mx
        have nd : x.2 ≠ d := fun z => by rw [z, hf] at ev; cases ev
        refine ⟨_, rfl, _, rfl, d, .ref x.2, rfl, .inr ⟨dtE W', _, b, .inr ⟨o, hf⟩, rfl, hb, (dtE_val wd16.nd mx).symm⟩, .inl ⟨rfl, _, SqL.of ev⟩, x.2, vs, rfl, rfl, ev, by rw [upd_ne nd.symm]; exact hf, ⟨_, rfl⟩, fun b' o' e nb nm => ?_, fun y hy => ?_⟩
        · have n1 : b' ≠ x.2 := fun z => nm (by rw [z]; exact List.mem_map.mpr ⟨x, mx, rfl⟩)
          rw [upd_ne n1]
          exact fr b' o' e nb nm
        · by_cases e : y.2 = x.2
          · exact ⟨[], by rw [e, upd_same]⟩
          · obtain ⟨vs', e'⟩ := fv y hy
            exact ⟨vs', by rw [upd_ne e]; exact e'⟩
    rintro σ H18 ⟨hf, ⟨u13, rfl⟩, fr, fv⟩
    refine ⟨hf, ?_⟩
    have fin : ∀ {b : Addr} {o' : HO}, H7 b = none → H16 b = some o' → (upd H18 d (.dT (dtE W'))) b = some o' := fun {b o'} h7 e => by
      have nb : b ≠ d := fun z => by rw [z, wd7.d] at h7; cases h7
      rw [upd_ne nb]
      refine fr b o' e nb fun hm => ?_
      obtain ⟨x, hx, rfl⟩ := List.mem_map.mp hm
      obtain ⟨_, _, vs, e2, _⟩ := wd7.v.mem hx
      rw [h7] at e2
      cases e2
    generalize upd H18 d (.dT (dtE W')) = H19 at *
    have S1016 := S1014.trans s16
    have lp19 : H19 lp = some (.lst (ps.map V.ref)) := fin (none_of s8 (cut_new hlp)) (S1016 _ _ sp.lp)
    have D19 : H19 D2 = some (.lst (ds.map V.ref)) := fin hD2 D16
    have hds19 : F2 (fun q pc => PcAt H19 q (revP pc)) ds (piecesC wl l) := hds16.imp fun _ _ r => r.same fun b o' e => fin (cut_new e) (cut_sub _ _ e)
    have mid19 : ∀ (j : Nat) (p : Addr) (pc : Pc), 0 < j → j + 1 < ps.length → ps[j]? = some p → (piecesC wl l)[j]? = some pc → PcAt H19 p pc := fun j p pc j0 j1 a b => (sp.mid j p pc j0 j1 a b).same fun b o' e => fin (none_of s8 (cut_new e)) (S1016 _ _ (cut_sub _ _ e))
    have pk := psok (G := H16) S616
    refine ⟨_, rfl, _, rfl, _, rfl, _, rfl, lp, _, rfl, SqL.of lp19, fun q1 hq1 => ?_⟩
    rw [cut_inn]
    have V1 := Same.upd (o := .lst (((ps.map V.ref).drop 1).take ((ps.map V.ref).length - 2))) hq1
    have f1 := upd_same (H := H19) (a := q1) (o := .lst (((ps.map V.ref).drop 1).take ((ps.map V.ref).length - 2)))
    generalize upd H19 q1 (.lst (((ps.map V.ref).drop 1).take ((ps.map V.ref).length - 2))) = H20 at *
    refine ⟨_, rfl, _, rfl, _, rfl, _, rfl, D2, _, rfl, SqL.of (V1 _ _ D19), fun q2 hq2 => ?_⟩
    rw [cut_inn]
    have V2 := Same.upd (o := .lst (((ds.map V.ref).drop 1).take ((ds.map V.ref).length - 2))) hq2
    have f2 := upd_same (H := H20) (a := q2) (o := .lst (((ds.map V.ref).drop 1).take ((ds.map V.ref).length - 2)))
    generalize upd H20 q2 (.lst (((ds.map V.ref).drop 1).take ((ds.map V.ref).length - 2))) = H21 at *
    have V12 := V1.trans V2
    exact ⟨3, q1, q2, _, _, rfl, rfl, SqL.of (V2 _ _ f1), SqL.of f2, inn_len (by rw [List.length_map, List.length_map]; omega), inn_dq psl pk.nd pk.fl (fun j p pc j0 j1 a b => (mid19 j p pc j0 j1 a b).same V12) (hds19.imp fun _ _ r => r.same V12), hu4, q _⟩
end
end My

namespace My
open PySem L2
theorem all_mk {l : PySem.W.OpenLaw} {w : World} {K : PySem.W.Frag} {h : Heap} {mg : Str → Option Value} {fa CT CS CM sA : Addr} {tw tm tk : Tok} {nK : Nat} {odS : Option Addr} {slS : Array (Option Value)} (X : K.In h) (G : h.Ns mainGlobals mg) (hfa : mg "law" = some (.ref fa))
    (aT : PySem.W.nsIn K mainGlobals "TableError" = some (some (.ref CT)))
    (aM : PySem.W.nsIn K mainGlobals "TooMany" = some (some (.ref CM)))
    (aS : PySem.W.nsIn K mainGlobals "StepError" = some (some (.ref CS)))
    (xM : XCl K CM)
    (nj : PySem.W.findIn K (.ref CM) "__init__" = some (some (.builtin "ValueError.__init__")))
    (u2 : PySem.W.mroIn K CM (.ref CM) = some true)
    (ha2 : PySem.W.findIn K (.ref CM) "__class__" = some (some (.builtin "object.__class__")))
    (hn : PySem.W.specialIn K (.builtin "object.__class__") "__get__" = some (some (.builtin "getset_descriptor.__get__")))
    (htk : PySem.W.takesIn K (.builtin "object.__class__") = some true)
    (pT : PySem.W.kitOne K (.ref CM) (.ref CT) = some true)
    (pV : PySem.W.kitOne K (.ref CM) (.type "ValueError") = some true)
    (pS : PySem.W.kitOne K (.ref CM) (.ref CS) = some false)
    (gS : PySem.W.nsIn K mainGlobals "LONE_SORTS" = some (some (.ref sA)))
    (lS : K.lookup sA = some ⟨.type "tuple", odS, .seq #[.str "head" tw, .str "twin" tm] nK, slS⟩)
    (gM : PySem.W.nsIn K mainGlobals "MOST_PIECES" = some (some (.int 300 tk)))
    (zv : PySem.W.nsIn K mainGlobals "reversed" = some none)
    (zd : PySem.W.nsIn K mainGlobals "divmod" = some none)
    (zm : PySem.W.nsIn K mainGlobals "max" = some none)
    (ze : PySem.W.nsIn K mainGlobals "ValueError" = some none)
    (d6 : DefIn K "copied" (top 6))
    (d9 : DefIn K "pieces_of" (top 9))
    (d10 : DefIn K "many_pieces" (top 10))
    (d11 : DefIn K "many_rows" (top 11))
    (d12 : DefIn K "many_choices" (top 12))
    (d13 : DefIn K "small_rows" (top 13))
    (d14 : DefIn K "choices_of" (top 14))
    (d15 : DefIn K "pairs_of" (top 15))
    (d16 : DefIn K "grown" (top 16))
    (d18 : DefIn K "_law_cell" (top 18))
    (d19 : DefIn K "_law_names" (top 19))
    (d20 : DefIn K "_law_sheets" (top 20))
    (d21 : DefIn K "_law_kind" (top 21))
    (d22 : DefIn K "_law_edge" (top 22))
    (d23 : DefIn K "_law_drawn" (top 23))
    (d24 : DefIn K "_law_values" (top 24))
    (d25 : DefIn K "_law_form" (top 25))
    (d26 : DefIn K "_law_world" (top 26))
    (d27 : DefIn K "_law_choices" (top 27))
    (d28 : DefIn K "_law_lists" (top 28))
    (d29 : DefIn K "_law_row" (top 29))
    (d30 : DefIn K "_law_rows" (top 30))
    (d31 : DefIn K "_law_piece" (top 31))
    (d32 : DefIn K "_law_refused" (top 32))
    (d33 : DefIn K "_law_spoil" (top 33))
    (d34 : DefIn K "_law_spoilt" (top 34))
    (d35 : DefIn K "law" (top 35))
    (zb : BlK K) :
    ∃ fd : FuncData, (∀ (s : Shared) (v : Value), BindsTo s fd ⟨[v], []⟩ [("_law_script", v)]) ∧ ∀ base : Heap, K.In base → base.Ns mainGlobals mg → FnOk l.prog w K mg base CX0 5 fa fd ["_law_script"] (spLaw K) := by
  have B : Bl mg := zb.bl X G
  have hV : mg "reversed" = none := PySem.W.mg_none_of X G zv
  have hD : mg "divmod" = none := PySem.W.mg_none_of X G zd
  have hM : mg "max" = none := PySem.W.mg_none_of X G zm
  have R : Rf K mg CT CS CM := ⟨PySem.W.mg_of X G aT, PySem.W.mg_of X G aS, PySem.W.mg_of X G aM, PySem.W.mg_none_of X G ze, ⟨xM, nj⟩, ⟨xM, ha2, hn, htk⟩, ⟨xM, u2⟩, pT, pV, pS⟩
  have LN : Ln K mg sA := ⟨PySem.W.mg_of X G gS, fun H => .inr ⟨_, _, _, lS, rfl, rfl, (by show 2 ≤ sizeLine; decide), .cons ⟨tw, rfl⟩ (.cons ⟨tm, rfl⟩ .nil)⟩⟩
  have mM : mg "MOST_PIECES" = some (.int 300 tk) := PySem.W.mg_of X G gM
  obtain ⟨f6, fd6, D6⟩ := d6.df X G
  obtain ⟨f9, fd9, D9⟩ := d9.df X G
  obtain ⟨f10, fd10, D10⟩ := d10.df X G
  obtain ⟨f11, fd11, D11⟩ := d11.df X G
  obtain ⟨f12, fd12, D12⟩ := d12.df X G
  obtain ⟨f13, fd13, D13⟩ := d13.df X G
  obtain ⟨f14, fd14, D14⟩ := d14.df X G
  obtain ⟨f15, fd15, D15⟩ := d15.df X G
  obtain ⟨f16, fd16, D16⟩ := d16.df X G
  obtain ⟨f18, fd18, D18⟩ := d18.df X G
  obtain ⟨f19, fd19, D19⟩ := d19.df X G
  obtain ⟨f20, fd20, D20⟩ := d20.df X G
  obtain ⟨f21, fd21, D21⟩ := d21.df X G
  obtain ⟨f22, fd22, D22⟩ := d22.df X G
  obtain ⟨f23, fd23, D23⟩ := d23.df X G
  obtain ⟨f24, fd24, D24⟩ := d24.df X G
  obtain ⟨f25, fd25, D25⟩ := d25.df X G
  obtain ⟨f26, fd26, D26⟩ := d26.df X G
  obtain ⟨f27, fd27, D27⟩ := d27.df X G
  obtain ⟨f28, fd28, D28⟩ := d28.df X G
  obtain ⟨f29, fd29, D29⟩ := d29.df X G
  obtain ⟨f30, fd30, D30⟩ := d30.df X G
  obtain ⟨f31, fd31, D31⟩ := d31.df X G
  obtain ⟨f32, fd32, D32⟩ := d32.df X G
  obtain ⟨f33, fd33, D33⟩ := d33.df X G
  obtain ⟨f34, fd34, D34⟩ := d34.df X G
  obtain ⟨f, oc, od, kV, doc, pm, an, cdv, ct, osl, a, lk, c, k⟩ := d35
  have e := hfa.symm.trans (PySem.W.mg_of X G a)
  cases e
  refine ⟨PySem.W.fnOf "law" "law" (defArgs (top 35)) (defBody (top 35)) (defScope (top 35)) .none kV doc pm an cdv ct, fun s v => .of_eq rfl, fun base _ _ => ?_⟩
  exact ok_law (fun_mk lk c k) B hM D23 (ok_drawn D23.fn B D18 D19 D20 D22) D25 (ok_formL D25.fn B D18 D21) D26 (ok_world D26.fn B D18 D21 D24) D27 (ok_chL D27.fn B) D28 (ok_lists D28.fn) D32 (ok_refd D32.fn B R D9 (ok_piecesX D9.fn B LN mM R.mM R.x D10 D11 D12)) D31 (ok_lpiece D31.fn B hV hD D27 D29 D28 D30) D9 (ok_pieces D9.fn B LN mM D10 D11 D12 D13 D14 D15 D16 D6) D33 (ok_spoil D33.fn) D34 (ok_spoilt D34.fn)
end My

open PySem PySem.W PyProof.Rows
set_option maxRecDepth 100000 in
set_option maxHeartbeats 0 in
theorem PySem.Challenge.cw_halfmoved_k51_small_pieces_holds : PySem.Challenge.rw_halfmoved_k51_small_pieces.Holds := by
  w_on; o_law; k_head; (case hw => w_witness2)
  k_fill
  refine My.walk 5 (l := PySem.Challenge.rw_halfmoved_k51_small_pieces) ⟨rfl, by decide, by decide⟩ rfl rfl (fun w h Y => PySem.W.kIn_of Y) ?F
  case F =>
    intro w mg fa h KX G hmg
    refine' My.all_mk KX G hmg ?aT ?aM ?aS ?xM ?nj ?u2 ?ha2 ?hn ?htk ?pT ?pV ?pS ?gS ?lS ?gM ?zv ?zd ?zm ?ze ?d6 ?d9 ?d10 ?d11 ?d12 ?d13 ?d14 ?d15 ?d16 ?d18 ?d19 ?d20 ?d21 ?d22 ?d23 ?d24 ?d25 ?d26 ?d27 ?d28 ?d29 ?d30 ?d31 ?d32 ?d33 ?d34 ?d35 ?zb
    (case aT => k_is)
    (case aM => k_is)
    (case aS => k_is)
    (case xM => refine' L2.xcl_mk ?l ?t ?ga ?gx ?sa ?kp; (case l => k_is); (case t => decide +kernel); (case ga => k_is); (case gx => k_is); (case sa => k_is); (case kp => k_is))
    (case nj => k_is)
    (case u2 => k_is)
    (case ha2 => k_is)
    (case hn => k_is)
    (case htk => k_is)
    (case pT => first | k_is | rfl | decide +kernel)
    (case pV => first | k_is | rfl | decide +kernel)
    (case pS => first | k_is | rfl | decide +kernel)
    (case gS => k_is)
    (case lS => k_is)
    (case gM => k_is)
    (case zv => k_is)
    (case zd => k_is)
    (case zm => k_is)
    (case ze => k_is)
    (case d6 => refine' L2.defIn_mk ?a ?l ?c ?k; (case a => k_is); (case l => k_is); (case c => k_is); (case k => k_is))
    (case d9 => refine' L2.defIn_mk ?a ?l ?c ?k; (case a => k_is); (case l => k_is); (case c => k_is); (case k => k_is))
    (case d10 => refine' L2.defIn_mk ?a ?l ?c ?k; (case a => k_is); (case l => k_is); (case c => k_is); (case k => k_is))
    (case d11 => refine' L2.defIn_mk ?a ?l ?c ?k; (case a => k_is); (case l => k_is); (case c => k_is); (case k => k_is))
    (case d12 => refine' L2.defIn_mk ?a ?l ?c ?k; (case a => k_is); (case l => k_is); (case c => k_is); (case k => k_is))
    (case d13 => refine' L2.defIn_mk ?a ?l ?c ?k; (case a => k_is); (case l => k_is); (case c => k_is); (case k => k_is))
    (case d14 => refine' L2.defIn_mk ?a ?l ?c ?k; (case a => k_is); (case l => k_is); (case c => k_is); (case k => k_is))
    (case d15 => refine' L2.defIn_mk ?a ?l ?c ?k; (case a => k_is); (case l => k_is); (case c => k_is); (case k => k_is))
    (case d16 => refine' L2.defIn_mk ?a ?l ?c ?k; (case a => k_is); (case l => k_is); (case c => k_is); (case k => k_is))
    (case d18 => refine' L2.defIn_mk ?a ?l ?c ?k; (case a => k_is); (case l => k_is); (case c => k_is); (case k => k_is))
    (case d19 => refine' L2.defIn_mk ?a ?l ?c ?k; (case a => k_is); (case l => k_is); (case c => k_is); (case k => k_is))
    (case d20 => refine' L2.defIn_mk ?a ?l ?c ?k; (case a => k_is); (case l => k_is); (case c => k_is); (case k => k_is))
    (case d21 => refine' L2.defIn_mk ?a ?l ?c ?k; (case a => k_is); (case l => k_is); (case c => k_is); (case k => k_is))
    (case d22 => refine' L2.defIn_mk ?a ?l ?c ?k; (case a => k_is); (case l => k_is); (case c => k_is); (case k => k_is))
    (case d23 => refine' L2.defIn_mk ?a ?l ?c ?k; (case a => k_is); (case l => k_is); (case c => k_is); (case k => k_is))
    (case d24 => refine' L2.defIn_mk ?a ?l ?c ?k; (case a => k_is); (case l => k_is); (case c => k_is); (case k => k_is))
    (case d25 => refine' L2.defIn_mk ?a ?l ?c ?k; (case a => k_is); (case l => k_is); (case c => k_is); (case k => k_is))
    (case d26 => refine' L2.defIn_mk ?a ?l ?c ?k; (case a => k_is); (case l => k_is); (case c => k_is); (case k => k_is))
    (case d27 => refine' L2.defIn_mk ?a ?l ?c ?k; (case a => k_is); (case l => k_is); (case c => k_is); (case k => k_is))
    (case d28 => refine' L2.defIn_mk ?a ?l ?c ?k; (case a => k_is); (case l => k_is); (case c => k_is); (case k => k_is))
    (case d29 => refine' L2.defIn_mk ?a ?l ?c ?k; (case a => k_is); (case l => k_is); (case c => k_is); (case k => k_is))
    (case d30 => refine' L2.defIn_mk ?a ?l ?c ?k; (case a => k_is); (case l => k_is); (case c => k_is); (case k => k_is))
    (case d31 => refine' L2.defIn_mk ?a ?l ?c ?k; (case a => k_is); (case l => k_is); (case c => k_is); (case k => k_is))
    (case d32 => refine' L2.defIn_mk ?a ?l ?c ?k; (case a => k_is); (case l => k_is); (case c => k_is); (case k => k_is))
    (case d33 => refine' L2.defIn_mk ?a ?l ?c ?k; (case a => k_is); (case l => k_is); (case c => k_is); (case k => k_is))
    (case d34 => refine' L2.defIn_mk ?a ?l ?c ?k; (case a => k_is); (case l => k_is); (case c => k_is); (case k => k_is))
    (case d35 => refine' L2.defIn_mk ?a ?l ?c ?k; (case a => k_is); (case l => k_is); (case c => k_is); (case k => k_is))
    (case zb => refine' My.BlK.mk ?b0 ?b1 ?b2 ?b3 ?b4 ?b5 ?b6 ?b7 ?b8 ?b9 ?b10 ?b11 ?b12 ?b13 ?b14 ?b15; (case b0 => k_is); (case b1 => k_is); (case b2 => k_is); (case b3 => k_is); (case b4 => k_is); (case b5 => k_is); (case b6 => k_is); (case b7 => k_is); (case b8 => k_is); (case b9 => k_is); (case b10 => k_is); (case b11 => k_is); (case b12 => k_is); (case b13 => k_is); (case b14 => k_is); (case b15 => k_is))
#print axioms PySem.Challenge.cw_halfmoved_k51_small_pieces_holds

