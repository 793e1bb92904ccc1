import PyProof.Rows.All
import Wide.All
import OpenK.AllK
import Wide.FinOn
import Lean
import PyProof.EqAt
import PyProof.EqKinds
import PyProof.TupleCall
import PyProof.StationsW
import PyProof.RulesTry
import PyProof.InstStoreFacts
import PyProof.ExcBaseAll.ValueError
import PyProof.ExcAttrAll.ValueError
import PyProof.NsDelKeeps
import PyProof.ZipIter
import PyProof.TupleIter
import PyProof.ListRange
import KE.KPar
import PyProof.StrBlock
import PyProof.StrBlockL
import PyProof.Rows.StrJoin2
import KE.KIntText
import PyProof.StrCalls6
import KE.KTabLook
import PyProof.MeetsStr
import PyProof.StrLawsTight
import PyProof.MeetsStr2
import PyProof.Rows.StrPartPair
import PyProof.NeKinds
import PyProof.StrLawsNeg
import PySem.Challenge.RW_halfmoved_k43_texts_that_are_no_values
set_option Elab.async false
set_option linter.all false
set_option maxRecDepth 100000
set_option maxHeartbeats 4000000

/-! THE HAND LAYER, for ints, bools, texts, own classes, LISTS and tuples (index, slices, in, append, pop ..), calls, loops. Paste it whole ahead of your own text; what your proof does not reach may be deleted. -/
namespace L2
theorem ln0 {α : Type} {l : List α} (h : l.length = 0) : l = [] := List.eq_nil_of_length_eq_zero h
theorem ln1 {α : Type} {l : List α} (h : l.length = 1) : ∃ a, l = [a] := List.length_eq_one_iff.mp h
theorem ln2 {α : Type} {l : List α} (h : l.length = 2) : ∃ a b, l = [a, b] := by
  cases l with
  | nil => cases h
  | cons a r => obtain ⟨b, rfl⟩ := ln1 (Nat.succ.inj h); exact ⟨a, b, rfl⟩
theorem ln3 {α : Type} {l : List α} (h : l.length = 3) : ∃ a b c, l = [a, b, c] := by
  cases l with
  | nil => cases h
  | cons a r => obtain ⟨b, c, rfl⟩ := ln2 (Nat.succ.inj h); exact ⟨a, b, c, rfl⟩
theorem ln4 {α : Type} {l : List α} (h : l.length = 4) : ∃ a b c d, l = [a, b, c, d] := by
  cases l with
  | nil => cases h
  | cons a r => obtain ⟨b, c, d, rfl⟩ := ln3 (Nat.succ.inj h); exact ⟨a, b, c, d, rfl⟩
end L2
namespace L2
open PySem PySem.Spec PyProof.Rows

/-- a key: an int or a str -/
abbrev Key := Sum Int Str
def keyIs : Key → Value → Bool
  | .inl k, v => Value.isInt k v
  | .inr x, v => Value.isStrOf x v
def keyH (w : World) : Key → Int
  | .inl k => hashInt k
  | .inr x => hashStr w x
theorem keyIs_shape : ∀ {k : Key} {v : Value}, keyIs k v = true → (∃ i t, k = Sum.inl i ∧ v = Value.int i t) ∨ (∃ x t, k = Sum.inr x ∧ v = Value.str x t)
  | .inl i, v, h => by
    obtain ⟨t, e⟩ := Value.isInt_shape (k := i) (v := v) h
    exact .inl ⟨i, t, rfl, e⟩
  | .inr x, v, h => by
    obtain ⟨t, e⟩ := Value.isStrOf_shape (x := x) (v := v) h
    exact .inr ⟨x, t, rfl, e⟩
theorem key_ll (a b : Int) : decide ((Sum.inl a : Key) = Sum.inl b) = (a == b) := by
  by_cases e : a = b
  · subst e; simp
  · have h : ¬ (Sum.inl a : Key) = Sum.inl b := fun q => e (Sum.inl.inj q)
    rw [decide_eq_false h]
    exact (beq_eq_false_iff_ne.mpr e).symm
theorem key_rr (a b : Str) : decide ((Sum.inr a : Key) = Sum.inr b) = decide (a = b) := by
  by_cases e : a = b
  · subst e; simp
  · have h : ¬ (Sum.inr a : Key) = Sum.inr b := fun q => e (Sum.inr.inj q)
    rw [decide_eq_false h, decide_eq_false e]
theorem key_lr (a : Int) (b : Str) : decide ((Sum.inl a : Key) = Sum.inr b) = false := decide_eq_false (fun q => nomatch q)
theorem key_rl (a : Str) (b : Int) : decide ((Sum.inr a : Key) = Sum.inl b) = false := decide_eq_false (fun q => nomatch q)

def mixKind (prog : Program) (w : World) : PySem.KeyKind prog w Key where
  is := keyIs
  hash := keyH w
  inj := fun v a b ha hb => by
    rcases keyIs_shape ha with ⟨i, t, rfl, rfl⟩ | ⟨x, t, rfl, rfl⟩
    · rcases keyIs_shape hb with ⟨j, u, rfl, e⟩ | ⟨y, u, rfl, e⟩
      · injection e with e1 _; rw [e1]
      · exact nomatch e
    · rcases keyIs_shape hb with ⟨j, u, rfl, e⟩ | ⟨y, u, rfl, e⟩
      · exact nomatch e
      · injection e with e1 _; rw [e1]
  byValue := fun k v h => by
    rcases keyIs_shape h with ⟨i, t, rfl, rfl⟩ | ⟨x, t, rfl, rfl⟩ <;> rfl
  pyHash := fun hv h => by
    rcases keyIs_shape hv with ⟨i, t, rfl, rfl⟩ | ⟨x, t, rfl, rfl⟩
    · exact wpAny_pyHash_int h
    · exact wpAny_pyHash_str h
  eqBool := fun hu hv h => by
    rcases keyIs_shape hu with ⟨i, t, rfl, rfl⟩ | ⟨x, t, rfl, rfl⟩
    · rcases keyIs_shape hv with ⟨j, u, rfl, rfl⟩ | ⟨y, u, rfl, rfl⟩
      · rw [key_ll] at h; exact wpAny_eqBool_int h
      · rw [key_lr] at h; exact SeqAt.EqAt.int_str i t y u _ _ _ _ h
    · rcases keyIs_shape hv with ⟨j, u, rfl, rfl⟩ | ⟨y, u, rfl, rfl⟩
      · rw [key_rl] at h; exact SeqAt.EqAt.str_int x t j u _ _ _ _ h
      · rw [key_rr] at h; exact wpAny_eqBool_str h
  «strs» := fun k x t v h => by
    rcases keyIs_shape h with ⟨i, u, rfl, e⟩ | ⟨y, u, rfl, e⟩
    · exact nomatch e
    · injection e with e1 _
      subst e1
      cases v <;> rfl

end L2

namespace L2
open PySem PySem.Spec PyProof.Rows

/-- a value, without the heap -/
inductive V where
  | non | bl (b : Bool) | int (i : Int) | str (x : Str) | byt (b : Array UInt8) | flt (b : UInt64) | ref (a : Addr) | ty (n : String)
  deriving DecidableEq

def RelV : V → Value → Prop
  | .non, u => u = Value.none
  | .bl b, u => u = Value.bool b
  | .int i, u => ∃ t, u = Value.int i t
  | .str x, u => ∃ t, u = Value.str x t
  | .byt b, u => ∃ t, u = Value.bytes b t
  | .flt b, u => ∃ t, u = Value.float b t
  | .ref a, u => u = Value.ref a
  | .ty n, u => u = Value.type n

abbrev Vals : List V → List Value → Prop := Paired RelV
theorem Vals.length {xs : List V} {us : List Value} (r : Vals xs us) : xs.length = us.length := Paired.length r
theorem Vals.get : ∀ {xs : List V} {us : List Value} {i : Nat} {x : V}, Vals xs us → xs[i]? = some x → ∃ u, us[i]? = some u ∧ RelV x u
  | _, _, _, _, .nil, e => by simp at e
  | _, _, 0, _, .cons r _, e => by simp at e; subst e; exact ⟨_, rfl, r⟩
  | _, _, i + 1, x, .cons _ t, e => by
    obtain ⟨u, h1, h2⟩ := Vals.get (i := i) (x := x) t (by simpa using e)
    exact ⟨u, by simpa using h1, h2⟩
theorem Vals.append : ∀ {xs ys : List V} {us ws : List Value}, Vals xs us → Vals ys ws → Vals (xs ++ ys) (us ++ ws)
  | _, _, _, _, .nil, s => s
  | _, _, _, _, .cons r t, s => .cons r (Vals.append t s)
theorem Vals.take : ∀ {xs : List V} {us : List Value} (n : Nat), Vals xs us → Vals (xs.take n) (us.take n)
  | _, _, 0, _ => .nil
  | _, _, _ + 1, .nil => .nil
  | _, _, n + 1, .cons r t => .cons r (Vals.take n t)
theorem Vals.drop : ∀ {xs : List V} {us : List Value} (n : Nat), Vals xs us → Vals (xs.drop n) (us.drop n)
  | _, _, 0, r => r
  | _, _, _ + 1, .nil => .nil
  | _, _, n + 1, .cons _ t => Vals.drop n t
def RelO : Option V → Option Value → Prop
  | some v, some u => RelV v u
  | none, none => True
  | _, _ => False
def KV {κ : Type} : List (κ × V) → List (κ × Value) → Prop := Paired fun (p : κ × V) (q : κ × Value) => p.1 = q.1 ∧ RelV p.2 q.2

/-- a key of a dict (00_mix): an int or a text -/
def kV : Key → V
  | .inl i => .int i
  | .inr x => .str x

/-- what stands at a tracked address -/
inductive HO where
  /-- a list -/
  | lst (xs : List V)
  /-- a tuple (never changes) -/
  | tup (xs : List V)
  /-- a dict whose keys are ints and texts; one whose keys are tuples of ints and texts (the empty one is both) -/
  | dK (kvs : List (Key × V)) | dT (kvs : List (List Key × V))
  /-- a set of ints: its members, its size -/
  | set (S : Int → Bool) (n : Nat)
  /-- an instance of the class at C, its dict at dx, its attributes -/
  | ins (C dx : Addr) (fs : List (Str × V))
  /-- the dict of the instance at x -/
  | own (x : Addr)
  /-- the dict of an exception -/
  | xd (fs : List (Str × V))
  /-- a bound method, f of x -/
  | met (f x : Addr)
  /-- a range object lo, lo + 1, .. below hi -/
  | rng (lo hi : Int)
  /-- a thing that is known to the object (the script; a dict while a loop walks it): read, never written while it is so -/
  | frz (o : Obj) (u : HO)
  /-- a code object's table -/
  | tbl (ps : Array Value)
  /-- any other thing, by what is true of its one object (a def of one's own: SetO a S n := HO.ext fun h => ..) -/
  | ext (φ : Heap → Prop)

abbrev Hp := Addr → Option HO
def upd (H : Hp) (a : Addr) (o : HO) : Hp := fun b => if b = a then some o else H b
theorem upd_same {H : Hp} {a : Addr} {o : HO} : upd H a o a = some o := by unfold upd; rw [if_pos rfl]
theorem upd_ne {H : Hp} {a b : Addr} {o : HO} (h : b ≠ a) : upd H a o b = H b := by unfold upd; rw [if_neg h]
theorem upd_upd {H : Hp} {a : Addr} {o u : HO} : upd (upd H a o) a u = upd H a u := by
  funext b; unfold upd; split <;> rfl
theorem ne_of_none {H : Hp} {a b : Addr} {o : HO} (h : H a = some o) (h' : H b = none) : a ≠ b := by
  intro e; subst e; rw [h] at h'; cases h'

section
variable (P : Program) (w : World)
def ObjOk (H : Hp) (h : Heap) (a : Addr) : HO → Prop
  | .lst xs => xs.length ≤ sizeLine ∧ ∃ (its : List Value) (n : Nat), Vals xs its ∧ h.get? a = some { cls := .type "list", data := .seq its.toArray n }
  | .tup xs => xs.length ≤ sizeLine ∧ ∃ its : List Value, Vals xs its ∧ IsTup h a its.toArray
  | .dK kvs => kvs.length ≤ sizeLine ∧ (a == sysModules) = false ∧ ∃ vs, KV kvs vs ∧ h.DictOf (mixKind P w) a vs
  | .dT kvs => kvs.length ≤ sizeLine ∧ (a == sysModules) = false ∧ ∃ xs : List (List Key × Addr × Value),
      Paired (fun (p : List Key × V) (q : List Key × Addr × Value) => p.1 = q.1 ∧ H q.2.1 = some (.tup (p.1.map kV)) ∧ RelV p.2 q.2.2) kvs xs ∧
      ∃ o es ep, h.get? a = some o ∧ o.ExactDict ∧ o.data = .dict es ep ∧ es.toList = xs.map (entryOfKey (tupleKind (mixKind P w))) ∧ (xs.map (·.1)).Nodup
  | .set S n => h.SetOf (intKind P w) a S n
  | .ins C dx fs => H dx = some (.own a) ∧ fs.length ≤ 1000 ∧ dx ≠ a ∧ h.get? a = some (PySem.W.instObj C dx) ∧
      ∃ mA, h.Ns1 dx mA ∧ (∀ f, RelO (fs.lookup f) (mA f)) ∧ PySem.Within mA (fs.map (·.1))
  | .own _ => ∃ o, h.get? a = some o
  | .xd fs => ∃ mA, h.Ns1 a mA ∧ ∀ f, RelO (fs.lookup f) (mA f)
  | .rng lo hi => ∃ t u v, h.get? a = some { cls := .type "range", data := .fields #[.int lo t, .int hi u, .int 1 v] }
  | .frz o u => h.get? a = some o ∧ ObjOk H h a u
  | .tbl ps => h.get? a = some { cls := .none, data := .fields ps }
  | .met f x => h.get? a = some (PySem.W.methodObj (.ref f) (.ref x))
  | .ext φ => φ h ∧ (∃ o, h.get? a = some o) ∧ ∀ h1 h2 : Heap, φ h1 → (∀ o, h1.get? a = some o → h2.get? a = some o) → φ h2
/-- the abstract heap is held -/
def HOk (H : Hp) (h : Heap) : Prop := ∀ a o, H a = some o → ObjOk P w H h a o
end

section
variable {P : Program} {w : World} {H H' : Hp} {h h' : Heap} {a : Addr} {o : HO}
theorem ObjOk.lt (x : ObjOk P w H h a o) : a < h.objs.size := by
  cases o with
  | lst xs => obtain ⟨_, _, _, _, e⟩ := x; exact Heap.lt_size e
  | tup xs => obtain ⟨_, _, _, p⟩ := x; exact p.lt
  | dK kvs => obtain ⟨_, _, _, _, o, _, _, e, _⟩ := x; exact Heap.lt_size e
  | dT kvs => obtain ⟨_, _, _, _, o, _, _, e, _⟩ := x; exact Heap.lt_size e
  | set S n => obtain ⟨o, _, _, _, e, _⟩ := x; exact Heap.lt_size e
  | ins C dx fs => obtain ⟨_, _, _, e, _⟩ := x; exact Heap.lt_size e
  | own y => obtain ⟨_, e⟩ := x; exact Heap.lt_size e
  | xd fs => obtain ⟨_, ⟨_, _, _, e, _⟩, _⟩ := x; exact Heap.lt_size e
  | rng lo hi => obtain ⟨_, _, _, e⟩ := x; exact Heap.lt_size e
  | frz ob u => obtain ⟨e, _⟩ := x; exact Heap.lt_size e
  | tbl ps => exact Heap.lt_size (show h.get? a = some _ from x)
  | met f y => exact Heap.lt_size (show h.get? a = some _ from x)
  | ext φ => obtain ⟨_, ⟨_, e⟩, _⟩ := x; exact Heap.lt_size e
theorem Paired.mapP {α β : Type} {F G : α → β → Prop} : ∀ {l₁ : List α} {l₂ : List β}, Paired F l₁ l₂ → (∀ a b, F a b → G a b) → Paired G l₁ l₂
  | _, _, .nil, _ => .nil
  | _, _, .cons r t, f => .cons (f _ _ r) (Paired.mapP t f)
/-- what an object's description leans on: its own object, its own dict, the tuples -/
theorem ObjOk.stay (x : ObjOk P w H h a o) (k : ∀ b u, (b = a ∨ H b = some (.own a)) → h.get? b = some u → h'.get? b = some u)
    (ho : ∀ b, H b = some (.own a) → H' b = some (.own a)) (ht : ∀ b xs, H b = some (.tup xs) → H' b = some (.tup xs)) : ObjOk P w H' h' a o := by
  induction o with
  | lst xs => obtain ⟨z, its, n, r, e⟩ := x; exact ⟨z, its, n, r, k _ _ (.inl rfl) e⟩
  | tup xs => obtain ⟨z, its, r, ob, e, c⟩ := x; exact ⟨z, its, r, ob, k _ _ (.inl rfl) e, c⟩
  | dK kvs => obtain ⟨z, y, vs, r, ob, es, ep, e, c⟩ := x; exact ⟨z, y, vs, r, ob, es, ep, k _ _ (.inl rfl) e, c⟩
  | dT kvs =>
    obtain ⟨z, y, xs, r, ob, es, ep, e, c⟩ := x
    exact ⟨z, y, xs, Paired.mapP r fun p q z => ⟨z.1, ht _ _ z.2.1, z.2.2⟩, ob, es, ep, k _ _ (.inl rfl) e, c⟩
  | set S n => obtain ⟨ob, es, ep, t, e, c⟩ := x; exact ⟨ob, es, ep, t, k _ _ (.inl rfl) e, c⟩
  | ins C dx fs =>
    obtain ⟨d, z, ne, e, mA, ⟨od, es, ep, e2, c⟩, r⟩ := x
    exact ⟨ho _ d, z, ne, k _ _ (.inl rfl) e, mA, ⟨od, es, ep, k _ _ (.inr d) e2, c⟩, r⟩
  | own y => obtain ⟨ob, e⟩ := x; exact ⟨ob, k _ _ (.inl rfl) e⟩
  | xd fs => obtain ⟨mA, ⟨od, es, ep, e, c⟩, r⟩ := x; exact ⟨mA, ⟨od, es, ep, k _ _ (.inl rfl) e, c⟩, r⟩
  | rng lo hi => obtain ⟨t, u, v, e⟩ := x; exact ⟨t, u, v, k _ _ (.inl rfl) e⟩
  | frz ob u ih => obtain ⟨e, q⟩ := x; exact ⟨k _ _ (.inl rfl) e, ih q⟩
  | tbl ps =>
    have e : h.get? a = some { cls := .none, data := .fields ps } := x
    show h'.get? a = some { cls := .none, data := .fields ps }
    exact k a _ (.inl rfl) e
  | met f y =>
    have e : h.get? a = some (PySem.W.methodObj (.ref f) (.ref y)) := x
    show h'.get? a = some (PySem.W.methodObj (.ref f) (.ref y))
    exact k a _ (.inl rfl) e
  | ext φ => obtain ⟨p, ⟨o, e⟩, st⟩ := x; exact ⟨st _ _ p fun o q => k _ _ (.inl rfl) q, ⟨o, k _ _ (.inl rfl) e⟩, st⟩
theorem HOk.lt (x : HOk P w H h) (e : H a = some o) : a < h.objs.size := (x a o e).lt
theorem HOk.fresh (x : HOk P w H h) (e : h.objs.size ≤ a) : H a = none := by
  cases q : H a with
  | none => rfl
  | some u => exact absurd (Nat.lt_of_lt_of_le (x.lt q) e) (Nat.lt_irrefl _)
/-- every object of the heap is kept -/
theorem HOk.kept (x : HOk P w H h) (k : ∀ b u, h.get? b = some u → h'.get? b = some u) : HOk P w H h' := fun a o e =>
  (x a o e).stay (fun b u _ q => k b u q) (fun _ q => q) fun _ _ q => q
/-- a new object is laid and tracked -/
theorem HOk.laid (x : HOk P w H h) (k : ∀ b u, h.get? b = some u → h'.get? b = some u) (hp : h.objs.size ≤ a) (new : ObjOk P w (upd H a o) h' a o) : HOk P w (upd H a o) h' := fun b u e => by
  have hn := x.fresh hp
  by_cases hb : b = a
  · subst hb; rw [upd_same] at e; cases e; exact new
  · rw [upd_ne hb] at e
    exact (x b u e).stay (fun c v _ q => k c v q) (fun c q => by rw [upd_ne (ne_of_none q hn)]; exact q) fun c xs q => by rw [upd_ne (ne_of_none q hn)]; exact q
end

/-- what may be read as u: it is u, or a known u -/
def Rd (H : Hp) (a : Addr) (u : HO) : Prop := H a = some u ∨ ∃ o, H a = some (.frz o u)
theorem Rd.ok {P : Program} {w : World} {H : Hp} {h : Heap} {a : Addr} {u : HO} (r : Rd H a u) (x : HOk P w H h) : ObjOk P w H h a u := by
  rcases r with r | ⟨o, r⟩
  · exact x a u r
  · obtain ⟨_, q⟩ := x a _ r
    exact q
/-- what may be written -/
def Mut : Option HO → Prop
  | some (.lst _) => True
  | some (.dK _) => True
  | some (.dT _) => True
  | some (.set _ _) => True
  | some (.ins _ _ _) => True
  | some (.ext _) => True
  | _ => False
section
variable {P : Program} {w : World} {H : Hp} {h h' : Heap} {x e : Addr} {o' : HO}
/-- the object at e is changed: x itself, or the dict of the instance x -/
theorem HOk.write (ok : HOk P w H h) (mu : Mut (H x)) (he : e = x ∨ H e = some (.own x)) (k : ∀ b u, b ≠ e → h.get? b = some u → h'.get? b = some u) (heo : ∃ u, h'.get? e = some u)
    (new : ObjOk P w (upd H x o') h' x o') : HOk P w (upd H x o') h' := fun b u q => by
  have nown : ∀ c y, H c = some (.own y) → c ≠ x := fun c y r z => by subst z; rw [r] at mu; exact mu
  have ntup : ∀ c xs, H c = some (.tup xs) → c ≠ x := fun c xs r z => by subst z; rw [r] at mu; exact mu
  by_cases hb : b = x
  · subst hb; rw [upd_same] at q; cases q; exact new
  · rw [upd_ne hb] at q
    by_cases hbe : b = e
    · have q' : H b = some (.own x) := by
        rcases he with z | z
        · exact absurd (hbe.trans z) hb
        · rw [hbe]; exact z
      rw [q] at q'; cases q'
      obtain ⟨v, hv⟩ := heo
      exact ⟨v, by rw [hbe]; exact hv⟩
    · refine (ok b u q).stay (fun c v hc r => k c v ?_ r) (fun c r => by rw [upd_ne (nown c b r)]; exact r) fun c xs r => by rw [upd_ne (ntup c xs r)]; exact r
      rcases hc with rfl | hc
      · exact hbe
      · rintro rfl
        rcases he with z | z
        · exact nown c b hc z
        · rw [hc] at z; cases z; exact hb rfl
end

/-! ### kept unless tracked; of the frames at fs (the callers') the slots may change (an exception that passes writes there); of the records at ex (iterators) nothing is said -/
structure Un (fs ex : List Addr) (H H' : Hp) (h h' : Heap) : Prop where
  keep : ∀ b o, h.get? b = some o → H b = none → b ∉ fs → b ∉ ex → h'.get? b = some o
  slot : ∀ b o, h.get? b = some o → H b = none → b ∈ fs → b ∉ ex → ∃ sl, h'.get? b = some { o with slots := sl }
  free : ∀ b o, h.get? b = some o → H b = none → b ∉ ex → H' b = none
  there : ∀ b o, h.get? b = some o → b ∉ ex → ∃ o', h'.get? b = some o'
  tups : ∀ b xs, H b = some (.tup xs) → H' b = some (.tup xs)
  frzs : ∀ b o u, H b = some (.frz o u) → H' b = some (.frz o u)
  tbls : ∀ b ps, H b = some (.tbl ps) → ∃ more, H' b = some (.tbl (ps ++ more))
section
variable {fs fs' ex ex' : List Addr} {H H1 H2 : Hp} {h h1 h2 h' : Heap} {a x e : Addr} {o : HO}
theorem Un.any (u : Un fs ex H H1 h h1) {b : Addr} {ob : Obj} (q : h.get? b = some ob) (n : H b = none) (hx : b ∉ ex) : ∃ sl, h1.get? b = some { ob with slots := sl } := by
  by_cases hb : b ∈ fs
  · exact u.slot b ob q n hb hx
  · exact ⟨ob.slots, u.keep b ob q n hb hx⟩
theorem Un.kept (k : ∀ b u, h.get? b = some u → h'.get? b = some u) : Un fs ex H H h h' :=
  ⟨fun b ob q _ _ _ => k b ob q, fun b ob q _ _ _ => ⟨ob.slots, k b ob q⟩, fun _ _ _ n _ => n, fun b ob q _ => ⟨ob, k b ob q⟩, fun _ _ q => q, fun _ _ _ q => q, fun _ ps q => ⟨#[], by rw [q]; simp⟩⟩
theorem Un.refl : Un fs ex H H h h := Un.kept fun _ _ q => q
theorem Un.laid (k : ∀ b u, h.get? b = some u → h'.get? b = some u) (hp : h.objs.size ≤ a) (hn : H a = none) : Un fs ex H (upd H a o) h h' where
  keep := fun b u q _ _ _ => k b u q
  slot := fun b u q _ _ _ => ⟨u.slots, k b u q⟩
  free := fun b u q n _ => by rw [upd_ne (Nat.ne_of_lt (Nat.lt_of_lt_of_le (Heap.lt_size q) hp))]; exact n
  there := fun b u q _ => ⟨u, k b u q⟩
  tups := fun b xs q => by rw [upd_ne (ne_of_none q hn)]; exact q
  frzs := fun b u xs q => by rw [upd_ne (ne_of_none q hn)]; exact q
  tbls := fun b ps q => ⟨#[], by rw [upd_ne (ne_of_none q hn), q]; simp⟩
theorem Un.write (mu : Mut (H x)) (he : e = x ∨ H e = some (.own x)) (k : ∀ b u, b ≠ e → h.get? b = some u → h'.get? b = some u) (heo : ∃ u, h'.get? e = some u) : Un fs ex H (upd H x o) h h' := by
  have hx : ∀ b, H b = none → b ≠ x := fun b n z => by subst z; rw [n] at mu; exact mu
  have hb : ∀ b, H b = none → b ≠ e := fun b n z => by
    subst z
    rcases he with r | r
    · exact hx b n r
    · rw [n] at r; cases r
  have hm : ∀ b u, H b = some u → ¬ Mut (some u) → b ≠ x := fun b u q nm z => by subst z; rw [q] at mu; exact nm mu
  refine ⟨fun b u q n _ _ => k b u (hb b n) q, fun b u q n _ _ => ⟨u.slots, k b u (hb b n) q⟩, fun b u q n _ => by rw [upd_ne (hx b n)]; exact n, fun b u q _ => ?_,
    fun b xs q => by rw [upd_ne (hm b _ q fun z => z)]; exact q, fun b u xs q => by rw [upd_ne (hm b _ q fun z => z)]; exact q, fun b ps q => ⟨#[], by rw [upd_ne (hm b _ q fun z => z), q]; simp⟩⟩
  by_cases hbe : b = e
  · subst hbe; exact heo
  · exact ⟨u, k b u hbe q⟩
end

/-! ### the heap without what is tracked -/
def trk (h : Heap) (H : Hp) : List Addr := (List.range h.objs.size).filter fun a => (H a).isSome
def hidT (h : Heap) (H : Hp) : Heap := PySem.W.hideAll h (trk h H)
theorem hidT_size (h : Heap) (H : Hp) : (hidT h H).objs.size = h.objs.size := PySem.W.hideAll_size _ _
theorem hidT_get {h : Heap} {H : Hp} {b : Addr} {o : Obj} (e : h.get? b = some o) (n : H b = none) : (hidT h H).get? b = some o :=
  PySem.W.hideAll_get _ e fun hm => by
    have q : (H b).isSome = true := (List.mem_filter.mp hm).2
    rw [n] at q; simp at q
theorem of_hidT {h : Heap} {H : Hp} {b : Addr} {o : Obj} (e : (hidT h H).get? b = some o) : h.get? b = some o ∧ H b = none := by
  have e' : h.get? b = some o := PySem.W.of_hideAll (trk h H) e
  refine ⟨e', ?_⟩
  cases q : H b with
  | none => rfl
  | some x =>
    have hm : b ∈ trk h H := List.mem_filter.mpr ⟨List.mem_range.mpr (Heap.lt_size e'), by simp [q]⟩
    have z : (hidT h H).get? b = none := PySem.W.hideAll_none (trk h H) hm
    rw [z] at e; cases e

/-! ### OpenK's ledger, filled with every new object but one -/
def allNews (g h : Heap) (L : Addr) : List (Addr × Obj) := (List.range h.objs.size).filterMap fun a => if a = L ∨ (g.get? a).isSome = true then none else (h.get? a).map fun o => (a, o)
def rest (g h : Heap) (L d : Addr) : List (Addr × Obj) := (allNews g h L).filter fun p => decide (p.1 ≠ d)
end L2

namespace L2
open PySem PySem.Spec PyProof.Rows

/-- the module's facts, over the base: the heap at the law's entry without what is tracked there -/
structure Mod (K : PySem.W.Frag) (mg : Str → Option Value) (base : Heap) : Prop where
  kin : K.In base
  glob : base.Ns mainGlobals mg
  blt : ∃ mb, base.Ns builtinsNs mb ∧ ∀ x : Str, x ≠ "__name__" → mb x = bootBuiltins x
  nolimit : base.NoLimit

/-- the context: a def's body (or a comprehension's block) running. base: fixed through the whole law; s₀, H₀: the entry; outer: the frames whose slots others may change (a def's callers); stack: all frames that run;
   ex: iterators that were made ahead of the entry and are walked here (a comprehension's); fn: the names whose cells were made at the entry (a def: all; a comprehension's block: its own); calm: not within an except suite; pn: pins that every state bears; xe: what is wanted of an exception that leaves the code -/
structure Cx where
  prog : Program
  w : World
  K : PySem.W.Frag
  mg : Str → Option Value
  base : Heap
  A : Around
  N : List Str
  s₀ : Shared
  H₀ : Hp
  env : Env
  outer : List Env
  stack : List Env
  ex : List Addr
  fn : Str → Bool
  calm : Bool
  pn : List (Addr × Obj)
  xe : Value → Shared → Prop
/-- the callers' frames -/
def frs (l : List Env) : List Addr := l.filterMap (·.frame)
abbrev Cx.fs (X : Cx) : List Addr := frs X.outer

def Vis (sc : Scope) (x : Str) : Prop := sc.names.lookup x = some .local ∨ sc.names.lookup x = some .cell ∨ sc.names.lookup x = some .free
def Loc (sc : Scope) (x : Str) : Prop := sc.names.lookup x = some .local ∨ sc.names.lookup x = some .cell
def Look (env : Env) (h : Heap) (m : Str → Option Value) (x : Str) (u : Value) : Prop :=
  (env.kindOf x = some .local ∧ m x = some u) ∨ ((env.kindOf x = some .cell ∨ env.kindOf x = some .free) ∧ ∃ c, env.cells.lookup x = some c ∧ h.IsCell c (some u))

structure Cx.Ok (X : Cx) : Prop where
  mod : Mod X.K X.mg X.base
  kind : X.env.scope.kind = .function
  glob : X.env.globals = mainGlobals
  blt : X.env.builtins = builtinsNs
  above : X.s₀.heap.objs.size ≤ X.env.locals
  inj : ∀ x y c, X.env.cells.lookup x = some c → X.env.cells.lookup y = some c → x = y
  has : ∀ x, (X.env.kindOf x = some .cell ∨ X.env.kindOf x = some .free) → ∃ c, X.env.cells.lookup x = some c
  cab : ∀ x c, X.fn x = true → X.env.cells.lookup x = some c → X.s₀.heap.objs.size ≤ c
  hd : X.calm = true → X.A.handled = none
  frames : X.A.frames = some X.stack
  stk : X.stack = X.outer ∨ (X.stack = X.env :: X.outer ∧ X.env.frame = some X.env.locals)
  exf : ∀ b ∈ X.ex, b ≠ X.env.locals ∧ ∀ x c, X.env.cells.lookup x = some c → c ≠ b
  bs : ∀ b o, X.base.get? b = some o → X.s₀.heap.get? b = some o ∧ X.H₀ b = none
  bsz : X.base.objs.size ≤ X.s₀.heap.objs.size
  noex : ∀ b o, X.base.get? b = some o → b ∉ X.ex
  exfs : ∀ b ∈ X.ex, b ∉ X.fs
  funs : X.s₀.heap.FunFrames X.base X.outer
  frf : ∀ b ∈ X.fs, X.H₀ b = none

structure Inv (X : Cx) (pins : List (Addr × Obj)) (σ : List (Option V)) (H : Hp) (s : Shared) : Prop where
  ok : X.Ok
  os : s.os = X.s₀.os
  bare : AllBare s.gens
  base : Un X.fs X.ex X.H₀ H X.s₀.heap s.heap
  loc : ∃ m, s.heap.Ns X.env.locals m ∧ ∀ (i : Nat) (x : Str) (v : V), X.N[i]? = some x → σ[i]? = some (some v) → Vis X.env.scope x → ∃ u, RelV v u ∧ Look X.env s.heap m x u
  cell : ∀ x c, X.env.cells.lookup x = some c → ∃ v, s.heap.IsCell c v
  free : H X.env.locals = none
  freeC : ∀ x c, X.env.cells.lookup x = some c → H c = none
  pin : ∀ p ∈ X.pn ++ pins, s.heap.get? p.1 = some p.2 ∧ H p.1 = none ∧ p.1 ≠ X.env.locals ∧ p.1 ∉ X.fs ∧ ∀ v, p.2.data ≠ .cell v
  hok : HOk X.prog X.w H s.heap
  len : σ.length = X.N.length

section
variable {X : Cx} {pins : List (Addr × Obj)} {σ : List (Option V)} {H H' : Hp} {s : Shared} {h' : Heap}

theorem Cx.Ok.nofr (ok : X.Ok) {b : Addr} {o : Obj} (e : X.base.get? b = some o) : b ∉ X.fs := fun hb => by
  have := (ok.funs.mem hb).1
  rw [e] at this; cases this
theorem Inv.bs (I : Inv X pins σ H s) : ∀ b o, X.base.get? b = some o → s.heap.get? b = some o ∧ H b = none := fun b o e =>
  ⟨I.base.keep b o (I.ok.bs b o e).1 (I.ok.bs b o e).2 (I.ok.nofr e) (I.ok.noex b o e), I.base.free b o (I.ok.bs b o e).1 (I.ok.bs b o e).2 (I.ok.noex b o e)⟩
theorem Inv.bk (I : Inv X pins σ H s) : ∀ b o, X.base.get? b = some o → s.heap.get? b = some o := fun b o e => (I.bs b o e).1
theorem Inv.mod (I : Inv X pins σ H s) : Mod X.K X.mg X.base := I.ok.mod
theorem Inv.kIn (I : Inv X pins σ H s) : X.K.In s.heap := I.ok.mod.kin.keeps I.bk
theorem Inv.lt (I : Inv X pins σ H s) : X.env.locals < s.heap.objs.size := let ⟨_, hn, _⟩ := I.loc; hn.lt
theorem Inv.sz (I : Inv X pins σ H s) : X.s₀.heap.objs.size ≤ s.heap.objs.size := Nat.le_trans I.ok.above (Nat.le_of_lt I.lt)
theorem Inv.nofs (I : Inv X pins σ H s) {a : Addr} (h : s.heap.objs.size ≤ a) : a ∉ X.fs := fun hb => by
  obtain ⟨_, o, ho, _⟩ := I.ok.funs.mem hb
  exact absurd (Nat.lt_of_lt_of_le (Heap.lt_size ho) (Nat.le_trans I.sz h)) (Nat.lt_irrefl _)
theorem Inv.cne (I : Inv X pins σ H s) : ∀ x c, X.env.cells.lookup x = some c → c ≠ X.env.locals := fun x c e z => by
  obtain ⟨v, o, ho, hd⟩ := I.cell x c e
  obtain ⟨m, ⟨o', es, ep, ho', hd', _⟩, _⟩ := I.loc
  rw [z, ho'] at ho; cases ho; rw [hd'] at hd; cases hd
theorem Inv.funs (I : Inv X pins σ H s) : s.heap.FunFrames X.base X.outer := by
  have all : ∀ (l : List Env), (∀ b ∈ frs l, b ∈ X.fs) → X.s₀.heap.FunFrames X.base l → s.heap.FunFrames X.base l := by
    intro l
    induction l with
    | nil => intro _ _; trivial
    | cons env r ih =>
      intro hs hl
      obtain ⟨hk, ⟨L, o, hf, hn, ho, hd⟩, hr⟩ := hl
      have hL : L ∈ X.fs := hs L (by unfold frs; rw [List.filterMap_cons, hf]; exact List.mem_cons_self)
      obtain ⟨sl, e⟩ := I.base.slot L o ho (I.ok.frf L hL) hL fun z => I.ok.exfs L z hL
      exact ⟨hk, ⟨L, _, hf, hn, e, hd⟩, ih (fun b hb => hs b (by unfold frs; rw [List.filterMap_cons, hf]; exact List.mem_cons_of_mem _ hb)) hr⟩
  exact all X.outer (fun _ hb => hb) I.ok.funs

/-- the frames that run, for a call -/
theorem Inv.stack (I : Inv X pins σ H s) : s.heap.FunFrames X.base X.stack := by
  rcases I.ok.stk with e | ⟨e, hf⟩
  · rw [e]; exact I.funs
  · rw [e]
    obtain ⟨m, hn, _⟩ := I.loc
    refine .cons (by rw [I.ok.kind]; decide) hf hn ?_ I.funs
    exact Heap.get?_none_of_le (Nat.le_trans I.ok.bsz I.ok.above)
theorem Inv.stkSub (I : Inv X pins σ H s) : ∀ b ∈ frs X.stack, b ∈ X.env.locals :: X.fs := fun b hb => by
  rcases I.ok.stk with e | ⟨e, hf⟩
  · rw [e] at hb; exact List.mem_cons_of_mem _ hb
  · rw [e] at hb
    unfold frs at hb
    rw [List.filterMap_cons, hf] at hb
    exact hb
theorem Inv.stkFree (I : Inv X pins σ H s) : ∀ b ∈ frs X.stack, H b = none := fun b hb => by
  rcases List.mem_cons.mp (I.stkSub b hb) with e | hb
  · rw [e]; exact I.free
  · obtain ⟨_, o, ho, _⟩ := I.ok.funs.mem hb
    exact I.base.free b o ho (I.ok.frf b hb) fun z => I.ok.exfs b z hb

/-- THE STEP: the untracked objects but the frame and the records at ch are kept (the callers' frames up to slots), the frame's map is kept, the new abstract heap is held -/
theorem Inv.step {g' : Array GenState} {t' : Nat} {d' : Drawn} {ch : List Addr} (I : Inv X pins σ H s)
    (hch : ∀ b ∈ ch, (b ∈ X.ex ∨ X.s₀.heap.objs.size ≤ b) ∧ b ≠ X.env.locals ∧ (∀ x c, X.env.cells.lookup x = some c → c ≠ b) ∧ ∀ p ∈ X.pn ++ pins, p.1 ≠ b)
    (keep : ∀ b o, b ≠ X.env.locals → b ∉ X.fs → b ∉ ch → s.heap.get? b = some o → H b = none → h'.get? b = some o)
    (slot : ∀ b o, b ≠ X.env.locals → b ∈ X.fs → b ∉ ch → s.heap.get? b = some o → H b = none → ∃ sl, h'.get? b = some { o with slots := sl }) (free : ∀ b o, b ∉ ch → s.heap.get? b = some o → H b = none → H' b = none)
    (there : ∀ b o, b ∉ ch → s.heap.get? b = some o → ∃ o', h'.get? b = some o')
    (tups : ∀ b xs, H b = some (.tup xs) → H' b = some (.tup xs)) (frzs : ∀ b o u, H b = some (.frz o u) → H' b = some (.frz o u)) (tbls : ∀ b ps, H b = some (.tbl ps) → ∃ more, H' b = some (.tbl (ps ++ more)))
    (ns : ∀ m, s.heap.Ns X.env.locals m → h'.Ns X.env.locals m) (hok : HOk X.prog X.w H' h') (hg : AllBare g') :
    Inv X pins σ H' { s with heap := h', gens := g', drawn := d', toks := t' } := by
  have neL : ∀ b o, X.s₀.heap.get? b = some o → b ≠ X.env.locals := fun b o e => Nat.ne_of_lt (Nat.lt_of_lt_of_le (Heap.lt_size e) I.ok.above)
  have neC : ∀ b o, X.s₀.heap.get? b = some o → b ∉ X.ex → b ∉ ch := fun b o e hx hb => by
    rcases (hch b hb).1 with z | z
    · exact hx z
    · exact absurd (Nat.lt_of_lt_of_le (Heap.lt_size e) z) (Nat.lt_irrefl _)
  have cellK : ∀ x c, X.env.cells.lookup x = some c → ∀ v, s.heap.IsCell c v → h'.IsCell c v := fun x c e v ⟨o, ho, hd⟩ => by
    have nch : c ∉ ch := fun z => (hch c z).2.2.1 x c e rfl
    by_cases hc : c ∈ X.fs
    · obtain ⟨sl, q⟩ := slot c o (I.cne x c e) hc nch ho (I.freeC x c e)
      exact ⟨_, q, hd⟩
    · exact ⟨o, keep c o (I.cne x c e) hc nch ho (I.freeC x c e), hd⟩
  refine ⟨I.ok, I.os, hg, ⟨fun b o e n hb hx => ?_, fun b o e n hb hx => ?_, fun b o e n hx => ?_, fun b o e hx => ?_, fun b xs e => tups b xs (I.base.tups b xs e), fun b o xs e => frzs b o xs (I.base.frzs b o xs e), fun b ps e => ?_⟩, ?_, fun x c e => ?_, ?_, fun x c e => ?_, fun p hp => ?_, hok, I.len⟩
  · exact keep b o (neL b o e) hb (neC b o e hx) (I.base.keep b o e n hb hx) (I.base.free b o e n hx)
  · obtain ⟨sl, e1⟩ := I.base.slot b o e n hb hx
    obtain ⟨sl', e2⟩ := slot b _ (neL b o e) hb (neC b o e hx) e1 (I.base.free b o e n hx)
    exact ⟨sl', e2⟩
  · obtain ⟨o', e1⟩ := I.base.there b o e hx
    exact free b o' (neC b o e hx) e1 (I.base.free b o e n hx)
  · obtain ⟨o', e1⟩ := I.base.there b o e hx
    exact there b o' (neC b o e hx) e1
  · obtain ⟨m1, e1⟩ := I.base.tbls b ps e
    obtain ⟨m2, e2⟩ := tbls b _ e1
    exact ⟨m1 ++ m2, by rw [e2, Array.append_assoc]⟩
  · obtain ⟨m, hn, hl⟩ := I.loc
    refine ⟨m, ns m hn, fun i x v e1 e2 e3 => ?_⟩
    obtain ⟨u, r, l⟩ := hl i x v e1 e2 e3
    refine ⟨u, r, ?_⟩
    rcases l with l | ⟨k, c, e, z⟩
    · exact .inl l
    · exact .inr ⟨k, c, e, cellK x c e _ z⟩
  · obtain ⟨v, z⟩ := I.cell x c e
    exact ⟨v, cellK x c e v z⟩
  · obtain ⟨m, ⟨o, _, _, ho, _⟩, _⟩ := I.loc
    exact free _ o (fun z => (hch _ z).2.1 rfl) ho I.free
  · obtain ⟨v, o, ho, hd⟩ := I.cell x c e
    exact free c o (fun z => (hch c z).2.2.1 x c e rfl) ho (I.freeC x c e)
  · obtain ⟨e, n, ne, nf, d⟩ := I.pin p hp
    have nch : p.1 ∉ ch := fun z => (hch p.1 z).2.2.2 p hp rfl
    exact ⟨keep p.1 p.2 ne nf nch e n, free p.1 p.2 nch e n, ne, nf, d⟩
/-- .. where the frame's own object is kept too -/
theorem Inv.un {t' : Nat} (I : Inv X pins σ H s) (u : Un X.fs [] H H' s.heap h') (hok : HOk X.prog X.w H' h') : Inv X pins σ H' { s with heap := h', toks := t' } := by
  obtain ⟨m, ⟨o, es, ep, ho, r⟩, _⟩ := id I.loc
  obtain ⟨sl, hL⟩ := u.any ho I.free (by simp)
  exact I.step (g' := s.gens) (d' := s.drawn) (ch := []) (fun _ z => nomatch z) (fun b o _ hb _ e n => u.keep b o e n hb (by simp)) (fun b o _ hb _ e n => u.slot b o e n hb (by simp)) (fun b o _ e n => u.free b o e n (by simp)) (fun b o _ e => u.there b o e (by simp)) u.tups u.frzs u.tbls (fun m' hm => by
    obtain ⟨o', es', ep', ho', r'⟩ := hm
    rw [ho] at ho'; cases ho'
    exact ⟨_, es', ep', hL, r'⟩) hok I.bare
/-- behind a call (or a comprehension's block): the slots of this frame may have changed too, the records at ch may have turned -/
theorem Inv.call {g' : Array GenState} {t' : Nat} {d' : Drawn} {ch : List Addr} (I : Inv X pins σ H s) (u : Un (frs X.stack) ch H H' s.heap h') (hok : HOk X.prog X.w H' h') (hg : AllBare g')
    (hch : ∀ b ∈ ch, (b ∈ X.ex ∨ X.s₀.heap.objs.size ≤ b) ∧ b ≠ X.env.locals ∧ (∀ x c, X.env.cells.lookup x = some c → c ≠ b) ∧ ∀ p ∈ X.pn ++ pins, p.1 ≠ b) :
    Inv X pins σ H' { s with heap := h', gens := g', drawn := d', toks := t' } := by
  obtain ⟨m, ⟨o, es, ep, ho, r⟩, _⟩ := id I.loc
  obtain ⟨sl, hL⟩ := u.any ho I.free fun z => (hch _ z).2.1 rfl
  exact I.step (ch := ch) hch (fun b o hL hb hc e n => u.keep b o e n (fun z => (List.mem_cons.mp (I.stkSub b z)).elim hL hb) hc) (fun b o _ _ hc e n => u.any e n hc) (fun b o hc e n => u.free b o e n hc) (fun b o hc e => u.there b o e hc) u.tups u.frzs u.tbls (fun m' hm => by
    obtain ⟨o', es', ep', ho', r'⟩ := hm
    rw [ho] at ho'; cases ho'
    exact ⟨_, es', ep', hL, r'⟩) hok hg
/-- an untracked record of ours (an iterator) has turned -/
theorem Inv.turned {t' : Nat} {it : Addr} (I : Inv X pins σ H s) (k : ∀ b o, b ≠ it → s.heap.get? b = some o → h'.get? b = some o) (hn : H it = none) (hL : it ≠ X.env.locals)
    (h1 : it ∈ X.ex ∨ X.s₀.heap.objs.size ≤ it) (h2 : ∀ x c, X.env.cells.lookup x = some c → c ≠ it) (h3 : ∀ p ∈ X.pn ++ pins, p.1 ≠ it) : Inv X pins σ H { s with heap := h', toks := t' } := by
  have nit : ∀ b u, H b = some u → b ≠ it := fun b u e z => by rw [z, hn] at e; cases e
  refine I.step (g' := s.gens) (d' := s.drawn) (ch := [it]) (fun b hb => ?_) (fun b o _ _ hc e _ => k b o (fun z => hc (by simp [z])) e) (fun b o _ _ hc e _ => ⟨o.slots, k b o (fun z => hc (by simp [z])) e⟩) (fun _ _ _ _ n => n)
    (fun b o hc e => ⟨o, k b o (fun z => hc (by simp [z])) e⟩) (fun _ _ e => e) (fun _ _ _ e => e) (fun b ps e => ⟨#[], by rw [e]; simp⟩) (fun m hm => ?_) (fun b u e => ?_) I.bare
  · have e : b = it := by simpa using hb
    subst e
    exact ⟨h1, hL, h2, h3⟩
  · obtain ⟨o, es, ep, ho, r⟩ := hm
    exact ⟨o, es, ep, k _ o (Ne.symm hL) ho, r⟩
  · refine (I.hok b u e).stay (fun c v hc q => k c v ?_ q) (fun _ q => q) fun _ _ q => q
    rcases hc with z | z
    · rw [z]; exact nit b u e
    · exact nit c _ z
theorem Inv.tok (I : Inv X pins σ H s) (t : Nat) : Inv X pins σ H { s with toks := t } := I.un (h' := s.heap) (t' := t) Un.refl I.hok
/-- all objects kept -/
theorem Inv.kept {t' : Nat} (I : Inv X pins σ H s) (k : ∀ b u, s.heap.get? b = some u → h'.get? b = some u) : Inv X pins σ H { s with heap := h', toks := t' } := I.un (Un.kept k) (I.hok.kept k)
/-- a new object laid and tracked -/
theorem Inv.laid {a : Addr} {o : HO} {t' : Nat} (I : Inv X pins σ H s) (k : ∀ b u, s.heap.get? b = some u → h'.get? b = some u) (hp : s.heap.objs.size ≤ a) (new : ObjOk X.prog X.w (upd H a o) h' a o) :
    Inv X pins σ (upd H a o) { s with heap := h', toks := t' } := I.un (Un.laid k hp (I.hok.fresh hp)) (I.hok.laid k hp new)
/-- an object written -/
theorem Inv.write {x e : Addr} {o : HO} {t' : Nat} (I : Inv X pins σ H s) (mu : Mut (H x)) (he : e = x ∨ H e = some (.own x)) (k : ∀ b u, b ≠ e → s.heap.get? b = some u → h'.get? b = some u) (heo : ∃ u, h'.get? e = some u)
    (new : ObjOk X.prog X.w (upd H x o) h' x o) : Inv X pins σ (upd H x o) { s with heap := h', toks := t' } := I.un (Un.write mu he k heo) (I.hok.write mu he k heo new)
theorem Inv.pins_of {pins' : List (Addr × Obj)} (I : Inv X pins σ H s) (h : ∀ p ∈ pins', s.heap.get? p.1 = some p.2 ∧ H p.1 = none ∧ p.1 ≠ X.env.locals ∧ p.1 ∉ X.fs ∧ ∀ v, p.2.data ≠ .cell v) : Inv X pins' σ H s :=
  ⟨I.ok, I.os, I.bare, I.base, I.loc, I.cell, I.free, I.freeC, fun p hp => (List.mem_append.mp hp).elim (fun z => I.pin p (List.mem_append_left _ z)) (h p), I.hok, I.len⟩

theorem nodup_ix {N : List Str} (hN : N.Nodup) {i j : Nat} {x : Str} (a : N[i]? = some x) (b : N[j]? = some x) : i = j := by
  obtain ⟨h1, e1⟩ := List.getElem?_eq_some_iff.mp a
  obtain ⟨h2, e2⟩ := List.getElem?_eq_some_iff.mp b
  exact (List.getElem_inj hN).mp (e1.trans e2.symm)

/-- a name is stored; what changed -/
theorem store_ok2 {M : Model} {A : Around} {E : Value → Shared → Prop} {i : Nat} {x : Str} {v : V} {u : Value} {Q : Unit → Shared → Prop} (I : Inv X pins σ H s) (hN : X.N.Nodup) (hi : X.N[i]? = some x) (hx : Loc X.env.scope x) (r : RelV v u)
    (h : ∀ s', Inv X pins (σ.set i (some v)) H s' → (∃ a, Heap.SameBut a s.heap s'.heap ∧ (a = X.env.locals ∨ X.env.cells.lookup x = some a)) → Q () s') (hf : X.fn x = true ∨ X.env.scope.names.lookup x = some .local := by first | exact .inl rfl | exact .inr rfl | assumption) : wpAny M A (storeName X.env x u) Q E s := by
  obtain ⟨m, hn, hl⟩ := id I.loc
  have hcls : (X.env.scope.kind == .class || (X.env.scope.kind == .module && X.env.locals != X.env.globals)) = false := by rw [I.ok.kind]; rfl
  have hiσ : i < σ.length := by rw [I.len]; exact (List.getElem?_eq_some_iff.mp hi).1
  have cne := I.cne
  have tracked : ∀ {a : Addr} {h' : Heap}, (∃ o, s.heap.get? a = some o ∧ H a = none) → Heap.SameBut a s.heap h' → HOk X.prog X.w H h' := fun {a h'} ha hs b ob e => by
    obtain ⟨_, _, hfree⟩ := ha
    refine (I.hok b ob e).stay (fun c w' hc q => (hs.2 c ?_).trans q) (fun _ q => q) fun _ _ q => q
    rintro rfl
    rcases hc with rfl | hc
    · rw [hfree] at e; cases e
    · rw [hfree] at hc; cases hc
  rcases hx with hk | hk
  · refine wpAny_storeName_local hk hn (fun h' hn' hs => ?_) hcls
    obtain ⟨oL, _, _, hoL, _⟩ := id hn
    refine h _ ⟨I.ok, I.os, I.bare, ⟨fun b o e n hb hx => ?_, fun b o e n hb hx => ?_, I.base.free, fun b o e hx => ?_, I.base.tups, I.base.frzs, I.base.tbls⟩, ⟨_, hn', fun j y v' e1 e2 e3 => ?_⟩, fun y c e => ?_, I.free, I.freeC, fun p hp => ?_, tracked ⟨oL, hoL, I.free⟩ hs, by simpa using I.len⟩ ⟨_, hs, .inl rfl⟩
    · exact (hs.2 b (Nat.ne_of_lt (Nat.lt_of_lt_of_le (Heap.lt_size e) I.ok.above))).trans (I.base.keep b o e n hb hx)
    · obtain ⟨sl, e1⟩ := I.base.slot b o e n hb hx
      exact ⟨sl, (hs.2 b (Nat.ne_of_lt (Nat.lt_of_lt_of_le (Heap.lt_size e) I.ok.above))).trans e1⟩
    · obtain ⟨o', e1⟩ := I.base.there b o e hx
      exact ⟨o', (hs.2 b (Nat.ne_of_lt (Nat.lt_of_lt_of_le (Heap.lt_size e) I.ok.above))).trans e1⟩
    · by_cases hj : j = i
      · subst hj
        rw [hi] at e1; cases e1
        rw [List.getElem?_set_self hiσ] at e2
        cases e2
        exact ⟨u, r, .inl ⟨hk, by simp⟩⟩
      · rw [List.getElem?_set_ne (Ne.symm hj)] at e2
        obtain ⟨u', r', q⟩ := hl j y v' e1 e2 e3
        refine ⟨u', r', ?_⟩
        rcases q with ⟨k, e⟩ | ⟨k, c, e, z⟩
        · refine .inl ⟨k, ?_⟩
          have : y ≠ x := fun e => hj (nodup_ix hN e1 (e ▸ hi))
          simp [this, e]
        · exact .inr ⟨k, c, e, z.sameBut hs (cne y c e)⟩
    · obtain ⟨w', z⟩ := I.cell y c e
      exact ⟨w', z.sameBut hs (cne y c e)⟩
    · obtain ⟨e, n, ne, nf, d⟩ := I.pin p hp
      exact ⟨(hs.2 p.1 ne).trans e, n, ne, nf, d⟩
  · have hfn : X.fn x = true := by
      rcases hf with z | z
      · exact z
      · rw [z] at hk; cases hk
    obtain ⟨c, hc⟩ := I.ok.has x (.inl hk)
    obtain ⟨w', z⟩ := I.cell x c hc
    refine wpAny_storeName_cell I.ok.kind hk hc z (fun h' hc' hs => ?_)
    obtain ⟨oc, hoc, hocd⟩ := id z
    refine h { s with heap := h' } ⟨I.ok, I.os, I.bare, ⟨fun b o e n hb hx => ?_, fun b o e n hb hx => ?_, I.base.free, fun b o e hx => ?_, I.base.tups, I.base.frzs, I.base.tbls⟩, ⟨m, hn.sameBut hs (Ne.symm (cne x c hc)), fun j y v' e1 e2 e3 => ?_⟩, fun y c' e => ?_, I.free, I.freeC, fun p hp => ?_, tracked ⟨oc, hoc, I.freeC x c hc⟩ hs, by simpa using I.len⟩ ⟨c, hs, .inr hc⟩
    · exact (hs.2 b (Nat.ne_of_lt (Nat.lt_of_lt_of_le (Heap.lt_size e) (I.ok.cab x c hfn hc)))).trans (I.base.keep b o e n hb hx)
    · obtain ⟨sl, e1⟩ := I.base.slot b o e n hb hx
      exact ⟨sl, (hs.2 b (Nat.ne_of_lt (Nat.lt_of_lt_of_le (Heap.lt_size e) (I.ok.cab x c hfn hc)))).trans e1⟩
    · obtain ⟨o', e1⟩ := I.base.there b o e hx
      exact ⟨o', (hs.2 b (Nat.ne_of_lt (Nat.lt_of_lt_of_le (Heap.lt_size e) (I.ok.cab x c hfn hc)))).trans e1⟩
    · by_cases hj : j = i
      · subst hj
        rw [hi] at e1; cases e1
        rw [List.getElem?_set_self hiσ] at e2
        cases e2
        exact ⟨u, r, .inr ⟨.inl hk, c, hc, hc'⟩⟩
      · rw [List.getElem?_set_ne (Ne.symm hj)] at e2
        obtain ⟨u', r', q⟩ := hl j y v' e1 e2 e3
        refine ⟨u', r', ?_⟩
        rcases q with q | ⟨k, c', e, z'⟩
        · exact .inl q
        · refine .inr ⟨k, c', e, z'.sameBut hs ?_⟩
          rintro rfl
          exact hj (nodup_ix hN e1 (I.ok.inj _ _ _ e hc ▸ hi))
    · by_cases hcc : c' = c
      · subst hcc; exact ⟨_, hc'⟩
      · obtain ⟨w2, z2⟩ := I.cell y c' e
        exact ⟨w2, z2.sameBut hs hcc⟩
    · obtain ⟨e, n, ne, nf, d⟩ := I.pin p hp
      refine ⟨(hs.2 p.1 ?_).trans e, n, ne, nf, d⟩
      intro q
      rw [q, hoc] at e
      have q' : oc = p.2 := Option.some.inj e
      exact d w' (by rw [← q']; exact hocd)
theorem store_ok {M : Model} {A : Around} {E : Value → Shared → Prop} {i : Nat} {x : Str} {v : V} {u : Value} {Q : Unit → Shared → Prop} (I : Inv X pins σ H s) (hN : X.N.Nodup) (hi : X.N[i]? = some x) (hx : Loc X.env.scope x) (r : RelV v u)
    (h : ∀ s', Inv X pins (σ.set i (some v)) H s' → Q () s') (hf : X.fn x = true ∨ X.env.scope.names.lookup x = some .local := by first | exact .inl rfl | exact .inr rfl | assumption) : wpAny M A (storeName X.env x u) Q E s :=
  store_ok2 I hN hi hx r (fun s' I' _ => h s' I') hf
/-- behind a call or a block, the state as it is -/
theorem Inv.call' {s' : Shared} {ch : List Addr} (I : Inv X pins σ H s) (ho : s'.os = s.os) (u : Un (frs X.stack) ch H H' s.heap s'.heap) (hok : HOk X.prog X.w H' s'.heap) (hg : AllBare s'.gens)
    (hch : ∀ b ∈ ch, (b ∈ X.ex ∨ X.s₀.heap.objs.size ≤ b) ∧ b ≠ X.env.locals ∧ (∀ x c, X.env.cells.lookup x = some c → c ≠ b) ∧ ∀ p ∈ X.pn ++ pins, p.1 ≠ b) : Inv X pins σ H' s' := by
  obtain ⟨h', g', d', t', o'⟩ := s'
  have e : o' = s.os := ho
  subst e
  exact I.call (g' := g') (t' := t') (d' := d') u hok hg hch
end

/-! ### the judgements -/
/-- an exception: its class, its own dict's address (where it has one), the abstract heap behind it -/
abbrev XK := Value → Option Addr → Hp → Prop
abbrev St := List (Option V)
abbrev VK := V → Hp → Prop
/-- an expression's reading; a test's; an argument list's -/
abbrev TE := St → Hp → VK → Prop
abbrev TT := St → Hp → (Bool → Hp → Prop) → Prop
abbrev TA := St → Hp → (List V → Hp → Prop) → Prop
/-- what is wanted behind a statement -/
structure Ends where
  nx : St → Hp → Prop
  rt : VK
  bk : St → Hp → Prop := fun _ _ => False
  ct : St → Hp → Prop := fun _ _ => False
abbrev TS := Ends → St → Hp → Prop

def EP (X : Cx) (pins : List (Addr × Obj)) (σ : St) (Q : VK) (u : Value) (s' : Shared) : Prop := ∃ v H', Inv X pins σ H' s' ∧ RelV v u ∧ Q v H'
def TP (X : Cx) (pins : List (Addr × Obj)) (σ : St) (Q : Bool → Hp → Prop) (b : Bool) (s' : Shared) : Prop := ∃ H', Inv X pins σ H' s' ∧ Q b H'
def AP (X : Cx) (pins : List (Addr × Obj)) (σ : St) (Q : List V → Hp → Prop) (us : List Value) (s' : Shared) : Prop := ∃ vs H', Inv X pins σ H' s' ∧ Vals vs us ∧ Q vs H'
def SP (X : Cx) (pins : List (Addr × Obj)) (D : Ends) (f : Flow) (s' : Shared) : Prop :=
  match f with
  | .next => ∃ σ' H', Inv X pins σ' H' s' ∧ D.nx σ' H'
  | .brk => ∃ σ' H', Inv X pins σ' H' s' ∧ D.bk σ' H'
  | .cont => ∃ σ' H', Inv X pins σ' H' s' ∧ D.ct σ' H'
  | .ret u => ∃ v σ' H', Inv X pins σ' H' s' ∧ RelV v u ∧ D.rt v H'

def PE (X : Cx) (e : Expr) (t : TE) : Prop :=
  ∀ (pins : List (Addr × Obj)) (s : Shared) (σ : St) (H : Hp) (Q : VK), Inv X pins σ H s → t σ H Q → wpAny (model X.prog X.w) X.A (eval e X.env) (EP X pins σ Q) X.xe s
def PT (X : Cx) (e : Expr) (t : TT) : Prop :=
  ∀ (pins : List (Addr × Obj)) (s : Shared) (σ : St) (H : Hp) (Q : Bool → Hp → Prop), Inv X pins σ H s → t σ H Q → wpAny (model X.prog X.w) X.A (isTrue e X.env (eval e X.env)) (TP X pins σ Q) X.xe s
/-- a test whatever its 'whole' is (and, or) -/
def PW (X : Cx) (e : Expr) (t : TT) : Prop :=
  ∀ (whole : Sem Value) (pins : List (Addr × Obj)) (s : Shared) (σ : St) (H : Hp) (Q : Bool → Hp → Prop), Inv X pins σ H s → t σ H Q → wpAny (model X.prog X.w) X.A (isTrue e X.env whole) (TP X pins σ Q) X.xe s
theorem PW.pt {X : Cx} {e : Expr} {t : TT} (h : PW X e t) : PT X e t := h _
/-- an argument list (no star), from the left -/
def PA (X : Cx) (es : List Expr) (t : TA) : Prop :=
  ∀ (pos : Pos) (pins : List (Addr × Obj)) (s : Shared) (σ : St) (H : Hp) (Q : List V → Hp → Prop), Inv X pins σ H s → t σ H Q → wpAny (model X.prog X.w) X.A (spliced (backTo pos (starEach es X.env))) (AP X pins σ Q) X.xe s
def PS (X : Cx) (st : Stmt) (t : TS) : Prop :=
  ∀ (pins : List (Addr × Obj)) (s : Shared) (σ : St) (H : Hp) (D : Ends), Inv X pins σ H s → t D σ H → wpAny (model X.prog X.w) X.A (exec st X.env) (SP X pins D) X.xe s
def PSs (X : Cx) (st : List Stmt) (t : TS) : Prop :=
  ∀ (pins : List (Addr × Obj)) (s : Shared) (σ : St) (H : Hp) (D : Ends), Inv X pins σ H s → t D σ H → wpAny (model X.prog X.w) X.A (execs st X.env) (SP X pins D) X.xe s
/-- weaken the end -/
theorem thn {α : Type} {t : Sem α} {Q Q' : α → Shared → Prop} {M : Model} {A : Around} {E : Value → Shared → Prop} {s : Shared} (h : wpAny M A t Q E s) (hQ : ∀ a s, Q a s → Q' a s) : wpAny M A t Q' E s := wpAny_mono h hQ fun _ _ x => x
end L2

namespace L2
open PySem PySem.Spec PyProof.Rows
section
variable {X : Cx}

/-- two expressions in a row -/
theorem bin {a b : Expr} {ta tb : TE} (ha : PE X a ta) (hb : PE X b tb) {pins : List (Addr × Obj)} {s : Shared} {σ : St} {H : Hp} {R : V → V → Hp → Prop} (I : Inv X pins σ H s) (h : ta σ H fun x H1 => tb σ H1 fun y H2 => R x y H2)
    {α : Type} {Q : α → Shared → Prop} {f : Value → Value → Sem α}
    (hf : ∀ v u s2 x y H2, Inv X pins σ H2 s2 → RelV x v → RelV y u → R x y H2 → wpAny (model X.prog X.w) X.A (f v u) Q X.xe s2) :
    wpAny (model X.prog X.w) X.A (eval a X.env) (fun v s₁ => wpAny (model X.prog X.w) X.A (eval b X.env) (fun u s₂ => wpAny (model X.prog X.w) X.A (f v u) Q X.xe s₂) X.xe s₁) X.xe s := by
  refine thn (ha pins s σ H _ I h) fun v s1 ⟨x, H1, I1, r1, q1⟩ => ?_
  refine thn (hb pins s1 σ H1 _ I1 q1) fun u s2 ⟨y, H2, I2, r2, q2⟩ => ?_
  exact hf v u s2 x y H2 I2 r1 r2 q2

/-! ### names and constants -/
def tVar (i : Nat) : TE := fun σ H Q => ∃ v, σ[i]? = some (some v) ∧ Q v H
def tC (v : V) : TE := fun _ H Q => Q v H
theorem pe_var {i : Nat} {x : Str} {pos : Pos} (hN : X.N[i]? = some x) (hv : Vis X.env.scope x) (hd : (x == ("__debug__" : Str)) = false := by decide) (hcd : (x == ("__classdict__" : Str)) = false := by decide) : PE X (.Name x pos) (tVar i) := by
  intro pins s σ H Q I h
  obtain ⟨v, e, h⟩ := h
  obtain ⟨m, hn, hl⟩ := I.loc
  obtain ⟨u, r, l⟩ := hl i x v hN e hv
  have fin : EP X pins σ Q u s := ⟨v, H, I, r, h⟩
  rcases l with ⟨hk, hm⟩ | ⟨hk, c, hc, hcell⟩
  · exact wpAny_Name (wpAny_loadName_local I.ok.kind hk hn hm fin) hd
  · rcases hk with hk | hk
    · exact wpAny_Name (wpAny_loadName_cell I.ok.kind hk hc hcell fin) hd
    · exact wpAny_Name (wpAny_loadName_free I.ok.kind hk hc hcell fin hcd) hd
theorem pe_int {i j pos} : PE X (.Constant (.int i) j pos) (tC (.int i)) := fun _ _ _ H _ I h => wpAny_Constant_int ⟨.int i, H, I.tok _, ⟨_, rfl⟩, h⟩
theorem pe_bl {b j pos} : PE X (.Constant (.bool b) j pos) (tC (.bl b)) := fun _ _ _ H _ I h => Constant_bool ⟨.bl b, H, I, rfl, h⟩
theorem pe_non {j pos} : PE X (.Constant .none j pos) (tC .non) := fun _ _ _ H _ I h => Constant_none ⟨.non, H, I, rfl, h⟩
theorem pe_str {x j pos} : PE X (.Constant (.str x) j pos) (tC (.str x)) := fun _ _ _ H _ I h => Calls.Constant_str ⟨.str x, H, I.tok _, ⟨_, rfl⟩, h⟩

/-- a global name of the def -/
def Gl (X : Cx) (x : Str) : Prop := X.env.kindOf x = some .globalImplicit
theorem ld_glob {E : Value → Shared → Prop} {pins : List (Addr × Obj)} {s : Shared} {σ : St} {H : Hp} {x : Str} {u : Value} {pos : Pos} {Q : Value → Shared → Prop} (I : Inv X pins σ H s) (hg : Gl X x) (hm : X.mg x = some u) (h : Q u s)
    (hd : (x == ("__debug__" : Str)) = false := by decide) : wpAny (model X.prog X.w) X.A (eval (.Name x pos) X.env) Q E s :=
  Calls.Name_function_global I.ok.kind hg (Calls.loadGlobal_global (by rw [I.ok.glob]; exact I.mod.glob.keeps I.bk) hm h) hd
theorem ld_blt {E : Value → Shared → Prop} {pins : List (Addr × Obj)} {s : Shared} {σ : St} {H : Hp} {x : Str} {u : Value} {pos : Pos} {Q : Value → Shared → Prop} (I : Inv X pins σ H s) (hg : Gl X x) (hm : X.mg x = none) (hv : bootBuiltins x = some u) (h : Q u s)
    (hn : x ≠ "__name__" := by decide) (hd : (x == ("__debug__" : Str)) = false := by decide) : wpAny (model X.prog X.w) X.A (eval (.Name x pos) X.env) Q E s := by
  obtain ⟨mb, h1, h2⟩ := I.mod.blt
  exact Calls.Name_function_global I.ok.kind hg (Calls.loadGlobal_builtin (by rw [I.ok.glob]; exact I.mod.glob.keeps I.bk) hm (by rw [I.ok.blt]; exact h1.keeps I.bk) ((h2 x hn).trans hv) h) hd
/-- a module's constant, a class, a function, as a value -/
theorem pe_glob {x : Str} {v : V} {u : Value} {pos : Pos} (hg : Gl X x) (hm : X.mg x = some u) (r : RelV v u) (hd : (x == ("__debug__" : Str)) = false := by decide) : PE X (.Name x pos) (tC v) :=
  fun _ _ _ H _ I h => ld_glob I hg hm ⟨v, H, I, r, h⟩ hd
theorem pe_bltn {x : Str} {v : V} {u : Value} {pos : Pos} (hg : Gl X x) (hm : X.mg x = none) (hv : bootBuiltins x = some u) (r : RelV v u) (hn : x ≠ "__name__" := by decide) (hd : (x == ("__debug__" : Str)) = false := by decide) : PE X (.Name x pos) (tC v) :=
  fun _ _ _ H _ I h => ld_blt I hg hm hv ⟨v, H, I, r, h⟩ hn hd

/-! ### arithmetic -/
/-- two ints -/
def t2I (ta tb : TE) (k : Int → Int → Hp → Prop) : St → Hp → Prop := fun σ H => ta σ H fun x H1 => tb σ H1 fun y H2 => ∃ i j, x = .int i ∧ y = .int j ∧ k i j H2
def tAdd (ta tb : TE) : TE := fun σ H Q => t2I ta tb (fun i j H2 => Q (.int (i + j)) H2) σ H
def tSub (ta tb : TE) : TE := fun σ H Q => t2I ta tb (fun i j H2 => Q (.int (i - j)) H2) σ H
/-- the left factor below 2^64 -/
def tMul (ta tb : TE) : TE := fun σ H Q => t2I ta tb (fun i j H2 => (-(2 ^ 64) < i ∧ i < 2 ^ 64) ∧ Q (.int (i * j)) H2) σ H
variable {a b : Expr} {ta tb : TE} {pos : Pos}
/-! ### comparisons -/
def PC (X : Cx) (op : CmpOp) (a b : Expr) (t : TE) : Prop :=
  ∀ (pins : List (Addr × Obj)) (s : Shared) (σ : St) (H : Hp) (Q : VK), Inv X pins σ H s → t σ H Q →
    wpAny (model X.prog X.w) X.A (eval a X.env) (fun v s₁ => wpAny (model X.prog X.w) X.A (eval b X.env) (fun u s₂ => wpAny (model X.prog X.w) X.A (compareOp op v u) (EP X pins σ Q) X.xe s₂) X.xe s₁) X.xe s
def tCmp (p : Int → Int → Bool) (ta tb : TE) : TE := fun σ H Q => t2I ta tb (fun i j H2 => Q (.bl (p i j)) H2) σ H
abbrev tLt : TE → TE → TE := tCmp fun i j => decide (i < j)
abbrev tLe : TE → TE → TE := tCmp fun i j => decide (i ≤ j)
abbrev tGt : TE → TE → TE := tCmp fun i j => decide (j < i)
abbrev tGe : TE → TE → TE := tCmp fun i j => decide (j ≤ i)
abbrev tEqI : TE → TE → TE := tCmp fun i j => decide (i = j)
abbrev tNeI : TE → TE → TE := tCmp fun i j => !decide (i = j)
/-- is None -/
def tIsN (ta : TE) : TE := fun σ H Q => ta σ H fun x H1 => Q (.bl (decide (x = .non))) H1
def tNotN (ta : TE) : TE := fun σ H Q => ta σ H fun x H1 => Q (.bl (!decide (x = .non))) H1
/-- a comparison as a value, as a test -/
def tB (t : TE) : TT := fun σ H Q => t σ H fun x H1 => ∃ c, x = .bl c ∧ Q c H1
theorem pt_cmp {op : CmpOp} {t : TE} (h : PC X op a b t) (h1 : behindInMarks op b = false := by first | exact nobehind _ (by decide) (by decide) | rfl) : PT X (.Compare a [op] [b] pos) (tB t) := by
  intro pins s σ H Q I hw
  refine wpAny_isTrue_Compare1 (thn (h pins s σ H _ I hw) fun v s1 h1 => thn h1 fun u s2 h2 => thn h2 fun c s3 ⟨x, H1, I1, r1, q1⟩ => ?_) h1
  obtain ⟨d, rfl, q⟩ := q1
  cases r1
  exact wpAny_truthy_bool ⟨H1, I1, q⟩
/-- an expression whose value is a bool, as a test -/
theorem pt_val {e : Expr} {t : TE} (h : PE X e t) (he : ∀ whole, isTrue e X.env whole = (do let v ← whole; standAt e.pos; holding [v] (truthy v)) := by intro _; rfl) : PT X e (tB t) := by
  intro pins s σ H Q I hw
  refine isTrue_plain (thn (h pins s σ H _ I hw) fun v s1 ⟨x, H1, I1, r1, q1⟩ => ?_) (he _)
  obtain ⟨d, rfl, q⟩ := q1
  cases r1
  exact wpAny_truthy_bool ⟨H1, I1, q⟩

/-! ### and, or, not -/
variable {tA tB' : TT} {rest : List Expr}
def tAnd (t u : TT) : TT := fun σ H Q => t σ H fun c H1 => if c = true then u σ H1 Q else Q false H1
def tOr (t u : TT) : TT := fun σ H Q => t σ H fun c H1 => if c = true then Q true H1 else u σ H1 Q
def tNot (t : TT) : TT := fun σ H Q => t σ H fun c H1 => Q (!c) H1
theorem pw_and1 (ha : PT X a tA) : PW X (.BoolOp .And [a] pos) tA := by
  intro wh pins s σ H Q I h
  refine isTrue_and (thn (ha pins s σ H Q I h) fun c s1 e => ?_)
  cases c with
  | true => exact isTrue_and_nil e
  | false => exact e
theorem pw_or1 (ha : PT X a tA) : PW X (.BoolOp .Or [a] pos) tA := by
  intro wh pins s σ H Q I h
  refine isTrue_or (thn (ha pins s σ H Q I h) fun c s1 e => ?_)
  cases c with
  | false => exact isTrue_or_nil e
  | true => exact e
theorem pw_and (ha : PT X a tA) (hb : PW X (.BoolOp .And (b :: rest) pos) tB') : PW X (.BoolOp .And (a :: b :: rest) pos) (tAnd tA tB') := by
  intro wh pins s σ H Q I h
  refine isTrue_and (thn (ha pins s σ H _ I h) fun c s1 ⟨H1, I1, q1⟩ => ?_)
  cases c with
  | true => exact hb wh pins s1 σ H1 Q I1 q1
  | false => exact ⟨H1, I1, q1⟩
theorem pw_or (ha : PT X a tA) (hb : PW X (.BoolOp .Or (b :: rest) pos) tB') : PW X (.BoolOp .Or (a :: b :: rest) pos) (tOr tA tB') := by
  intro wh pins s σ H Q I h
  refine isTrue_or (thn (ha pins s σ H _ I h) fun c s1 ⟨H1, I1, q1⟩ => ?_)
  cases c with
  | true => exact ⟨H1, I1, q1⟩
  | false => exact hb wh pins s1 σ H1 Q I1 q1
theorem pt_not (ha : PT X a tA) : PT X (.UnaryOp .Not a pos) (tNot tA) := by
  intro pins s σ H Q I h
  exact isTrue_not (ha pins s σ H (fun c H1 => Q (!c) H1) I h)
/-- .. as values (bools) -/
def tAndV (ta tb : TE) : TE := fun σ H Q => ta σ H fun x H1 => ∃ c, x = .bl c ∧ if c = true then tb σ H1 Q else Q (.bl false) H1
def tOrV (ta tb : TE) : TE := fun σ H Q => ta σ H fun x H1 => ∃ c, x = .bl c ∧ if c = true then Q (.bl true) H1 else tb σ H1 Q
def tNotV (ta : TE) : TE := fun σ H Q => ta σ H fun x H1 => ∃ c, x = .bl c ∧ Q (.bl (!c)) H1
theorem pe_one {op} {t : TE} (h : PE X a t) : PE X (.BoolOp op [a] pos) t := fun pins s σ H Q I hw => BoolOp_one (h pins s σ H Q I hw)
theorem pe_and (ha : PE X a ta) (hb : PE X (.BoolOp .And (b :: rest) pos) tb) : PE X (.BoolOp .And (a :: b :: rest) pos) (tAndV ta tb) := by
  intro pins s σ H Q I h
  refine BoolOp_and (thn (ha pins s σ H _ I h) fun v s1 ⟨x, H1, I1, r1, q1⟩ => ?_)
  obtain ⟨c, rfl, q1⟩ := q1
  cases r1
  refine wpAny_truthy_bool ?_
  cases c with
  | true => exact hb pins s1 σ H1 Q I1 q1
  | false => exact ⟨.bl false, H1, I1, rfl, q1⟩
theorem pe_or (ha : PE X a ta) (hb : PE X (.BoolOp .Or (b :: rest) pos) tb) : PE X (.BoolOp .Or (a :: b :: rest) pos) (tOrV ta tb) := by
  intro pins s σ H Q I h
  refine BoolOp_or (thn (ha pins s σ H _ I h) fun v s1 ⟨x, H1, I1, r1, q1⟩ => ?_)
  obtain ⟨c, rfl, q1⟩ := q1
  cases r1
  refine wpAny_truthy_bool ?_
  cases c with
  | false => exact hb pins s1 σ H1 Q I1 q1
  | true => exact ⟨.bl true, H1, I1, rfl, q1⟩
theorem pe_not (ha : PE X a ta) : PE X (.UnaryOp .Not a pos) (tNotV ta) := by
  intro pins s σ H Q I h
  refine UnaryOp_ (thn (ha pins s σ H _ I h) fun v s1 ⟨x, H1, I1, r1, q1⟩ => ?_)
  obtain ⟨c, rfl, q1⟩ := q1
  cases r1
  exact not_of (wpAny_truthy_bool ⟨.bl (!c), H1, I1, rfl, q1⟩)
/-- a if t else b -/
def tIf (t : TT) (ta tb : TE) : TE := fun σ H Q => t σ H fun c H1 => if c = true then ta σ H1 Q else tb σ H1 Q
theorem pe_ifExp {c : Expr} (hc : PT X c tA) (ha : PE X a ta) (hb : PE X b tb) : PE X (.IfExp c a b pos) (tIf tA ta tb) := by
  intro pins s σ H Q I h
  refine wpAny_IfExp (thn (hc pins s σ H _ I h) fun d s1 ⟨H1, I1, q1⟩ => ?_)
  cases d with
  | true => exact ha pins s1 σ H1 Q I1 q1
  | false => exact hb pins s1 σ H1 Q I1 q1
end
end L2

namespace L2
open PySem PySem.Spec PyProof.Rows

/-! ### a list, a tuple that is read: tracked, frozen, or an object of the module -/
def SqL (K : PySem.W.Frag) (H : Hp) (a : Addr) (xs : List V) : Prop :=
  Rd H a (.lst xs) ∨
    ∃ (o : Obj) (its : Array Value) (n : Nat), K.lookup a = some o ∧ o.cls = .type "list" ∧ o.dict = none ∧ o.data = .seq its n ∧ its.size ≤ sizeLine ∧ Vals xs its.toList
def SqT (K : PySem.W.Frag) (H : Hp) (a : Addr) (xs : List V) : Prop :=
  Rd H a (.tup xs) ∨
    ∃ (o : Obj) (its : Array Value) (n : Nat), K.lookup a = some o ∧ o.cls = .type "tuple" ∧ o.data = .seq its n ∧ its.size ≤ sizeLine ∧ Vals xs its.toList
def absV : Value → Option V
  | .none => some .non
  | .bool b => some (.bl b)
  | .int i _ => some (.int i)
  | .str x _ => some (.str x)
  | .bytes b _ => some (.byt b)
  | .float b _ => some (.flt b)
  | .ref a => some (.ref a)
  | .type n => some (.ty n)
  | _ => none
theorem RelV.abs {x : V} {u : Value} (r : RelV x u) : absV u = some x := by
  cases x with
  | non => cases r; rfl
  | bl _ => cases r; rfl
  | int _ => obtain ⟨t, rfl⟩ := r; rfl
  | str _ => obtain ⟨t, rfl⟩ := r; rfl
  | byt _ => obtain ⟨t, rfl⟩ := r; rfl
  | flt _ => obtain ⟨t, rfl⟩ := r; rfl
  | ref _ => cases r; rfl
  | ty _ => cases r; rfl
theorem RelV.inj {x y : V} {u : Value} (r : RelV x u) (q : RelV y u) : x = y := Option.some.inj (r.abs.symm.trans q.abs)
theorem Vals.inj : ∀ {xs ys : List V} {us : List Value}, Vals xs us → Vals ys us → xs = ys
  | _, _, _, .nil, .nil => rfl
  | _, _, _, .cons r t, .cons r' t' => by rw [r.inj r', Vals.inj t t']
section
variable {X : Cx} {pins : List (Addr × Obj)} {σ : St} {H : Hp} {s : Shared} {a : Addr} {xs ys : List V}
theorem SqL.of {K : PySem.W.Frag} (h : H a = some (.lst xs)) : SqL K H a xs := .inl (.inl h)
theorem SqT.of {K : PySem.W.Frag} (h : H a = some (.tup xs)) : SqT K H a xs := .inl (.inl h)
theorem Inv.list (I : Inv X pins σ H s) (h : SqL X.K H a xs) : ∃ its : List Value, Vals xs its ∧ PlainL s.heap a its.toArray ∧ xs.length ≤ sizeLine := by
  rcases h with h | ⟨o, its, n, hk, hc, hd, hs, hz, r⟩
  · obtain ⟨z, its, n, r, e⟩ := h.ok I.hok
    exact ⟨its, r, ⟨_, n, e, rfl, rfl, rfl⟩, z⟩
  · refine ⟨its.toList, r, ⟨o, n, I.kIn a o hk, hc, hd, by simpa using hs⟩, ?_⟩
    have e := r.length
    simp only [Array.length_toList] at e
    omega
theorem Inv.tuple (I : Inv X pins σ H s) (h : SqT X.K H a xs) : ∃ its : List Value, Vals xs its ∧ IsTup s.heap a its.toArray ∧ xs.length ≤ sizeLine := by
  rcases h with h | ⟨o, its, n, hk, hc, hs, hz, r⟩
  · obtain ⟨z, its, r, p⟩ := h.ok I.hok
    exact ⟨its, r, p, z⟩
  · refine ⟨its.toList, r, ⟨o, I.kIn a o hk, hc, n, by simpa using hs⟩, ?_⟩
    have e := r.length
    simp only [Array.length_toList] at e
    omega
theorem Inv.list_inj (I : Inv X pins σ H s) (h : SqL X.K H a xs) (h' : SqL X.K H a ys) : xs = ys := by
  obtain ⟨its, r, ⟨o, n, e, _, _, d⟩, _⟩ := I.list h
  obtain ⟨its', r', ⟨o', n', e', _, _, d'⟩, _⟩ := I.list h'
  rw [e] at e'; cases e'
  rw [d] at d'
  injection d' with d1 _
  have : its = its' := by simpa using congrArg Array.toList d1
  subst this
  exact r.inj r'
theorem Inv.tuple_inj (I : Inv X pins σ H s) (h : SqT X.K H a xs) (h' : SqT X.K H a ys) : xs = ys := by
  obtain ⟨its, r, ⟨o, e, _, n, d⟩, _⟩ := I.tuple h
  obtain ⟨its', r', ⟨o', e', _, n', d'⟩, _⟩ := I.tuple h'
  rw [e] at e'; cases e'
  rw [d] at d'
  injection d' with d1 _
  have : its = its' := by simpa using congrArg Array.toList d1
  subst this
  exact r.inj r'
end

/-! ### another wish about exceptions -/
abbrev Cx.wish (X : Cx) (E : Value → Shared → Prop) : Cx := { X with xe := E }
/-- no exception leaves -/
abbrev Cx.nox (X : Cx) : Cx := X.wish fun _ _ => False
theorem Cx.Ok.wish {X : Cx} (ok : X.Ok) (E : Value → Shared → Prop) : (X.wish E).Ok :=
  ⟨ok.mod, ok.kind, ok.glob, ok.blt, ok.above, ok.inj, ok.has, ok.cab, ok.hd, ok.frames, ok.stk, ok.exf, ok.bs, ok.bsz, ok.noex, ok.exfs, ok.funs, ok.frf⟩
theorem Cx.Ok.unwish {X : Cx} {E : Value → Shared → Prop} (ok : (X.wish E).Ok) : X.Ok :=
  ⟨ok.mod, ok.kind, ok.glob, ok.blt, ok.above, ok.inj, ok.has, ok.cab, ok.hd, ok.frames, ok.stk, ok.exf, ok.bs, ok.bsz, ok.noex, ok.exfs, ok.funs, ok.frf⟩
section
variable {X : Cx} {pins : List (Addr × Obj)} {σ : St} {H : Hp} {s : Shared} {E : Value → Shared → Prop}
theorem Inv.wish (I : Inv X pins σ H s) (E : Value → Shared → Prop) : Inv (X.wish E) pins σ H s := ⟨I.ok.wish E, I.os, I.bare, I.base, I.loc, I.cell, I.free, I.freeC, I.pin, I.hok, I.len⟩
theorem Inv.unwish (I : Inv (X.wish E) pins σ H s) : Inv X pins σ H s := ⟨I.ok.unwish, I.os, I.bare, I.base, I.loc, I.cell, I.free, I.freeC, I.pin, I.hok, I.len⟩
theorem SP.unwish {D : Ends} {f : Flow} {s' : Shared} (h : SP (X.wish E) pins D f s') : SP X pins D f s' := by
  cases f with
  | next => obtain ⟨σ', H', I, q⟩ := h; exact ⟨σ', H', I.unwish, q⟩
  | brk => obtain ⟨σ', H', I, q⟩ := h; exact ⟨σ', H', I.unwish, q⟩
  | cont => obtain ⟨σ', H', I, q⟩ := h; exact ⟨σ', H', I.unwish, q⟩
  | ret u => obtain ⟨v, σ', H', I, r, q⟩ := h; exact ⟨v, σ', H', I.unwish, r, q⟩
theorem PSs.nox {st : List Stmt} {t : TS} (h : PSs X.nox st t) : PSs X st t := fun pins s σ H D I hw =>
  wpAny_mono (h pins s σ H D (I.wish _) hw) (fun _ _ q => q.unwish) fun _ _ z => False.elim z
end

/-! ### blocks and small statements -/
section
variable {X : Cx} {st : Stmt} {rest : List Stmt} {t u : TS} {e : Expr} {te : TE} {pos : Pos}
def tNext : TS := fun D σ H => D.nx σ H
def tSeq (t u : TS) : TS := fun D σ H => t { D with nx := u D } σ H
theorem pss_nil : PSs X [] tNext := fun _ _ σ H _ I h => wpAny_execs_nil ⟨σ, H, I, h⟩
theorem pss_cons (h1 : PS X st t) (h2 : PSs X rest u) : PSs X (st :: rest) (tSeq t u) := by
  intro pins s σ H D I h
  refine wpAny_execs_cons (thn (h1 pins s σ H { D with nx := u D } I h) fun f s1 q => ?_)
  cases f with
  | next =>
    obtain ⟨σ', H', I', q⟩ := q
    exact h2 pins s1 σ' H' D I' q
  | ret v => exact q
  | brk => exact q
  | cont => exact q
theorem pss_one (h1 : PS X st t) : PSs X [st] t := by
  intro pins s σ H D I h
  refine wpAny_execs_cons (thn (h1 pins s σ H D I h) fun f s1 q => ?_)
  cases f with
  | next => exact wpAny_execs_nil q
  | ret v => exact q
  | brk => exact q
  | cont => exact q
def tBreak : TS := fun D σ H => D.bk σ H
def tCont : TS := fun D σ H => D.ct σ H
/-- in a def's body nothing is shown -/
theorem Inv.quiet {pins : List (Addr × Obj)} {σ : St} {H : Hp} {s : Shared} (I : Inv X pins σ H s) : interactive X.env = false := by simp [interactive, I.ok.kind]
/-- an expression whose value is dropped -/
def tDrop (te : TE) : TS := fun D σ H => te σ H fun _ H1 => D.nx σ H1
theorem ps_expr (he : PE X e te) (hs : swapsWith e none pos.line X.env = pure false := by rfl) : PS X (.Expr e pos) (tDrop te) := by
  intro pins s σ H D I h
  exact wpAny_Expr_any (thn (he pins s σ H _ I h) fun v s1 ⟨x, H1, I1, r1, q1⟩ => ⟨σ, H1, I1, q1⟩) I.quiet hs
def tRet (te : TE) : TS := fun D σ H => te σ H D.rt
theorem ps_ret (he : PE X e te) : PS X (.Return (some e) pos) (tRet te) := by
  intro pins s σ H D I h
  exact wpAny_Return_some (thn (he pins s σ H _ I h) fun v s1 ⟨x, H1, I1, r1, q1⟩ => ⟨x, σ, H1, I1, r1, q1⟩)
def tRetN : TS := fun D _ H => D.rt .non H
def tIfS (c : TT) (t u : TS) : TS := fun D σ H => c σ H fun b H1 => if b = true then t D σ H1 else u D σ H1
theorem ps_if {c : Expr} {a b : List Stmt} {tc : TT} (hc : PT X c tc) (ha : PSs X a t) (hb : PSs X b u) : PS X (.If c a b pos) (tIfS tc t u) := by
  intro pins s σ H D I h
  refine wpAny_If (thn (hc pins s σ H _ I h) fun d s1 ⟨H1, I1, q1⟩ => ?_)
  cases d with
  | true => exact ha pins s1 σ H1 D I1 q1
  | false => exact hb pins s1 σ H1 D I1 q1
/-- code that the proof never comes to -/
def tNever : TS := fun _ _ _ => False
theorem pss_never {sts : List Stmt} : PSs X sts tNever := fun _ _ _ _ _ _ h => h.elim
end

/-! ### targets -/
abbrev TG := V → St → Hp → (St → Hp → Prop) → Prop
abbrev TGs := List V → St → Hp → (St → Hp → Prop) → Prop
def PG (X : Cx) (target : Expr) (t : TG) : Prop :=
  ∀ (pins : List (Addr × Obj)) (s : Shared) (σ : St) (H : Hp) (v : V) (u : Value) (Q : St → Hp → Prop), Inv X pins σ H s → RelV v u → t v σ H Q →
    wpAny (model X.prog X.w) X.A (assign target X.env u) (fun _ s' => ∃ σ' H', Inv X pins σ' H' s' ∧ Q σ' H') X.xe s
/-- several targets, one after another -/
def PGs (X : Cx) (ts : List Expr) (t : TGs) : Prop :=
  ∀ (pins : List (Addr × Obj)) (s : Shared) (σ : St) (H : Hp) (vs : List V) (us : List Value) (Q : St → Hp → Prop), Inv X pins σ H s → Vals vs us → t vs σ H Q →
    wpAny (model X.prog X.w) X.A (assignInOrder ((assignEach ts X.env).map (·.2)) us) (fun _ s' => ∃ σ' H', Inv X pins σ' H' s' ∧ Q σ' H') X.xe s
/-- o[i] = v, by values -/
abbrev TSet := V → V → V → Hp → (Hp → Prop) → Prop
def PSet (X : Cx) (t : TSet) : Prop :=
  ∀ (pins : List (Addr × Obj)) (s : Shared) (σ : St) (H : Hp) (o i v : V) (ov iv u : Value) (Q : Hp → Prop), Inv X pins σ H s → RelV o ov → RelV i iv → RelV v u → t o i v H Q →
    wpAny (model X.prog X.w) X.A (setItem ov iv u) (fun _ s' => ∃ H', Inv X pins σ H' s' ∧ Q H') X.xe s
/-- a op= b, by values -/
abbrev TIp := V → V → Hp → VK → Prop
def PIp (X : Cx) (op : Operator) (t : TIp) : Prop :=
  ∀ (pins : List (Addr × Obj)) (s : Shared) (σ : St) (H : Hp) (x y : V) (v u : Value) (Q : VK), Inv X pins σ H s → RelV x v → RelV y u → t x y H Q →
    wpAny (model X.prog X.w) X.A (inplaceOp op v u) (EP X pins σ Q) X.xe s
section
variable {X : Cx} {pos : Pos}
def gName (i : Nat) : TG := fun v σ H Q => Q (σ.set i (some v)) H
theorem pg_name {i : Nat} {x : Str} (hN : X.N.Nodup) (hi : X.N[i]? = some x) (hx : Loc X.env.scope x) (hf : X.fn x = true ∨ X.env.scope.names.lookup x = some .local := by first | exact .inl rfl | exact .inr rfl | assumption) : PG X (.Name x pos) (gName i) := by
  intro pins s σ H v u Q I r h
  exact wpAny_assign_Name (store_ok I hN hi hx r (fun s' I' => ⟨_, H, I', h⟩) hf)
def gNil : TGs := fun vs σ H Q => vs = [] ∧ Q σ H
def gCons (t : TG) (u : TGs) : TGs := fun vs σ H Q => ∃ v r, vs = v :: r ∧ t v σ H fun σ' H' => u r σ' H' Q
theorem pgs_nil : PGs X [] gNil := by
  intro pins s σ H vs us Q I r h
  obtain ⟨e, h⟩ := h
  subst e
  cases r
  exact assignInOrder_nil ⟨σ, H, I, h⟩
theorem pgs_cons {e : Expr} {es : List Expr} {t : TG} {u : TGs} (h1 : PG X e t) (h2 : PGs X es u)
    (hs : (assignEach (e :: es) X.env).map (·.2) = assign e X.env :: (assignEach es X.env).map (·.2) := by rfl) : PGs X (e :: es) (gCons t u) := by
  intro pins s σ H vs us Q I r h
  obtain ⟨v, vr, e1, h⟩ := h
  subst e1
  cases r with
  | cons r rr =>
    rw [hs]
    refine assignInOrder_cons (thn (h1 pins s σ H _ _ _ I r h) fun _ s1 ⟨σ1, H1, I1, q1⟩ => ?_)
    exact h2 pins s1 σ1 H1 _ _ Q I1 rr q1
/-- (a, b, ..) = a tuple of that length -/
def gTup (K : PySem.W.Frag) (n : Nat) (t : TGs) : TG := fun v σ H Q => ∃ a xs, v = .ref a ∧ SqT K H a xs ∧ xs.length = n ∧ t xs σ H Q
theorem pg_tup {es : List Expr} {k : Nat} {t : TGs} {n : Nat} (hc : X.calm = true) (h : PGs X es t)
    (hn : (assignEach es X.env).length = n := by rfl) (hst : (assignEach es X.env).findIdx? (·.1) = none := by rfl) : PG X (.Tuple es k pos) (gTup X.K n t) := by
  intro pins s σ H v u Q I r hw
  obtain ⟨a, xs, e1, hq, hl, hw⟩ := hw
  subst e1
  cases r
  obtain ⟨its, rv, ht, hz⟩ := I.tuple hq
  refine assign_Tuple_tuple (I.ok.hd hc) ht (by simp [hn, ← hl, rv.length]) hst fun h' hx => ?_
  have I1 : Inv X pins σ H { s with heap := h' } := I.kept (t' := s.toks) fun b o e => hx b o (Nat.ne_of_lt (Heap.lt_size e)) e
  exact h pins _ σ H xs _ Q I1 (by simpa using rv) hw
/-- o[i] = .. -/
def gSub (to ti : TE) (t : TSet) : TG := fun v σ H Q => to σ H fun o H1 => ti σ H1 fun i H2 => t o i v H2 fun H3 => Q σ H3
/-- target = value -/
def tAsg (te : TE) (g : TG) : TS := fun D σ H => te σ H fun x H1 => g x σ H1 D.nx
/-- name = value -/
theorem ps_set {i : Nat} {x : Str} {e : Expr} {te : TE} {pos' : Pos} (hN : X.N.Nodup) (hi : X.N[i]? = some x) (hx : Loc X.env.scope x) (he : PE X e te) (hs : swapsWith e (some (.Name x pos')) pos.line X.env = pure false := by rfl) (hf : X.fn x = true ∨ X.env.scope.names.lookup x = some .local := by first | exact .inl rfl | exact .inr rfl | assumption) :
    PS X (.Assign [.Name x pos'] e pos) (tAsg te (gName i)) := by
  intro pins s σ H D I h
  refine wpAny_Assign_Name (thn (he pins s σ H _ I h) fun v s1 ⟨y, H1, I1, r1, q1⟩ => ?_) hs
  exact store_ok I1 hN hi hx r1 (fun s2 I2 => ⟨_, H1, I2, q1⟩) hf
/-- a, b = x, y with plain local names: stored from the right; the pair itself is not tracked (the opening rows as in PyProof/Rows/TupAssign.lean:23) -/
def tPar (i j : Nat) (ta : TA) : TS := fun D σ H => ta σ H fun vs H1 => ∃ v w, vs = [v, w] ∧ D.nx ((σ.set i (some v)).set j (some w)) H1
/-- name op= e -/
def tAug (i : Nat) (te : TE) (ti : TIp) : TS := fun D σ H => ∃ x, σ[i]? = some (some x) ∧ te σ H fun y H1 => ti x y H1 fun z H2 => D.nx (σ.set i (some z)) H2
/-- o[i] op= e -/
def tAugS (to ti te : TE) (tget : V → V → Hp → VK → Prop) (tip : TIp) (tset : TSet) : TS := fun D σ H => to σ H fun o H1 => ti σ H1 fun i H2 => tget o i H2 fun x H3 => te σ H3 fun y H4 => tip x y H4 fun z H5 => tset o i z H5 fun H6 => D.nx σ H6
/-- o[i], by values -/
def PGet (X : Cx) (t : V → V → Hp → VK → Prop) : Prop :=
  ∀ (pins : List (Addr × Obj)) (s : Shared) (σ : St) (H : Hp) (o i : V) (ov iv : Value) (Q : VK), Inv X pins σ H s → RelV o ov → RelV i iv → t o i H Q →
    wpAny (model X.prog X.w) X.A (getItem ov iv) (EP X pins σ Q) X.xe s
/-- ints -/
def ipI (f : Int → Int → Int) : TIp := fun x y H Q => ∃ i j, x = .int i ∧ y = .int j ∧ Q (.int (f i j)) H
end

/-! ### while -/
section
variable {X : Cx} {pos : Pos}
/-- the invariant W with its measure -/
def tWhile (c : TT) (tb : TS) : TS := fun D σ H => ∃ W : Nat → St → Hp → Prop, (∃ m, W m σ H) ∧ ∀ m σ H, W m σ H →
  c σ H fun b H1 => if b = true then ∃ N : St → Hp → Prop, (∀ σ' H', N σ' H' → ∃ m', m' < m ∧ W m' σ' H') ∧ tb { D with nx := N, ct := N, bk := D.nx } σ H1 else D.nx σ H1
end

/-! ### what a loop or a comprehension walks -/
/-- at turn i: it yields x (the heap may grow), or it stops -/
structure It where
  go : Nat → Hp → Prop
  yld : Nat → Hp → V → Hp → Prop
  stop : Nat → Hp → Prop
/-- the iterator's own objects may turn: they are not the frame's, not pinned, younger than the entry (or a comprehension's own) -/
def FpOk (X : Cx) (pins : List (Addr × Obj)) (H : Hp) (b : Addr) : Prop :=
  H b = none ∧ b ≠ X.env.locals ∧ b ∉ X.fs ∧ (b ∈ X.ex ∨ X.s₀.heap.objs.size ≤ b) ∧ (∀ x c, X.env.cells.lookup x = some c → c ≠ b) ∧ ∀ p ∈ X.pn ++ pins, p.1 ≠ b
theorem Inv.fpOk {X : Cx} {pins : List (Addr × Obj)} {σ : St} {H H' : Hp} {s : Shared} {b : Addr} (I : Inv X pins σ H s) (hb : s.heap.objs.size ≤ b) (hn : H' b = none) : FpOk X pins H' b := by
  refine ⟨hn, Nat.ne_of_gt (Nat.lt_of_lt_of_le I.lt hb), I.nofs hb, .inr (Nat.le_trans I.sz hb), fun x c e z => ?_, fun p hp z => ?_⟩
  · obtain ⟨v, q⟩ := I.cell x c e
    exact absurd (Nat.lt_of_lt_of_le q.lt (by rw [z]; exact hb)) (Nat.lt_irrefl _)
  · exact absurd (Nat.lt_of_lt_of_le (Heap.lt_size (I.pin p hp).1) (by rw [z]; exact hb)) (Nat.lt_irrefl _)
structure Turn (P : Program) (w : World) (K : PySem.W.Frag) (tg : Expr) (J : It) (fp : List Addr) (it : Addr) (tn : Nat → Heap → Prop) : Prop where
  mem : it ∈ fp
  obj : ∀ i h, tn i h → ∀ b ∈ fp, ∃ o, h.get? b = some o ∧ ∀ v, o.data ≠ .cell v
  keep : ∀ i h h', tn i h → (∀ b ∈ fp, ∀ o, h.get? b = some o → h'.get? b = some o) → tn i h'
  item : ∀ (X : Cx), X.prog = P → X.w = w → X.K = K → X.calm = true → ∀ (i : Nat) (pins : List (Addr × Obj)) (s : Shared) (σ : St) (H : Hp) (E : Value → Shared → Prop), Inv X pins σ H s → (∀ b ∈ fp, FpOk X pins H b) → tn i s.heap → J.go i H →
    wpAny (model P w) X.A (pyNext (.ref it)) (fun r s1 => ∃ u, r = some u ∧
      wpAny (model P w) X.A (letOwnedTupleGo tg (.ref it) u) (fun _ s2 => ∃ x H', Inv X pins σ H' s2 ∧ RelV x u ∧ J.yld i H x H' ∧ tn (i + 1) s2.heap ∧ ∀ b ∈ fp, H' b = none) E s1) E s
  done : ∀ (X : Cx), X.prog = P → X.w = w → X.K = K → X.calm = true → ∀ (i : Nat) (pins : List (Addr × Obj)) (s : Shared) (σ : St) (H : Hp) (E : Value → Shared → Prop), Inv X pins σ H s → (∀ b ∈ fp, FpOk X pins H b) → tn i s.heap → J.stop i H →
    wpAny (model P w) X.A (pyNext (.ref it)) (fun r s1 => r = none ∧ Inv X pins σ H s1) E s
  self : ∀ (A : Around) (i : Nat) (s : Shared) (Q : Value → Shared → Prop) (E : Value → Shared → Prop), tn i s.heap → Q (.ref it) s → wpAny (model P w) A (pyIter (.ref it)) Q E s
abbrev TI := St → Hp → (It → Hp → Prop) → Prop
/-- an iterator has come -/
def PIE (X : Cx) (pins : List (Addr × Obj)) (σ : St) (tg : Expr) (R : It → Hp → Prop) (itv : Value) (s2 : Shared) : Prop :=
  ∃ (it : Addr) (fp : List Addr) (tn : Nat → Heap → Prop) (J : It) (H' : Hp), itv = .ref it ∧ Inv X pins σ H' s2 ∧ Turn X.prog X.w X.K tg J fp it tn ∧ tn 0 s2.heap ∧ (∀ b ∈ fp, FpOk X pins H' b) ∧ R J H'
def PI (X : Cx) (tg iter : Expr) (wi : TI) : Prop :=
  ∀ (pins : List (Addr × Obj)) (s : Shared) (σ : St) (H : Hp) (R : It → Hp → Prop), Inv X pins σ H s → wi σ H R →
    wpAny (model X.prog X.w) X.A (eval iter X.env) (fun v s1 => wpAny (model X.prog X.w) X.A (pyIter v) (PIE X pins σ tg R) X.xe s1) X.xe s

/-- the step ahead of the store is nothing for an iterator that keeps no tuple -/
theorem go_of {M : Model} {A : Around} {E : Value → Shared → Prop} {s : Shared} {tg : Expr} {it : Addr} {u : Value} {o : Obj} {n : String} {vs : Array Value} {Q : Unit → Shared → Prop} (ho : s.heap.get? it = some o) (hc : o.cls = .type n) (hd : o.data = .fields vs)
    (hn : ["enumerate", "zip", "dict_itemiterator", "dict_reverseitemiterator", "odict_iterator", "itertools.zip_longest", "itertools.pairwise"].contains n = false) (hQ : Q () s) : wpAny M A (letOwnedTupleGo tg (.ref it) u) Q E s := by
  unfold letOwnedTupleGo
  cases tg <;> first
    | exact wpAny_pure hQ
    | (cases u <;> first
        | exact wpAny_pure hQ
        | (refine wpAny_bind (wpAny_load ho ?_)
           rw [hc, hd]
           show wpAny M A (if (["enumerate", "zip", "dict_itemiterator", "dict_reverseitemiterator", "odict_iterator", "itertools.zip_longest", "itertools.pairwise"].contains n && vs[0]? == some (rawInt _)) = true then _ else _) Q E s
           rw [if_neg (by intro h; rw [hn, Bool.false_and] at h; cases h)]
           exact wpAny_pure hQ))

/-- the list at a, as it stands at each turn (a loop may append to it) -/
def Itl (K : PySem.W.Frag) (a : Addr) : It :=
  ⟨fun i H => ∃ xs x, SqL K H a xs ∧ xs[i]? = some x, fun i H x H' => H' = H ∧ ∀ xs, SqL K H a xs → xs[i]? = some x, fun i H => ∃ xs, SqL K H a xs ∧ xs.length ≤ i⟩
def Itt (K : PySem.W.Frag) (a : Addr) : It :=
  ⟨fun i H => ∃ xs x, SqT K H a xs ∧ xs[i]? = some x, fun i H x H' => H' = H ∧ ∀ xs, SqT K H a xs → xs[i]? = some x, fun i H => ∃ xs, SqT K H a xs ∧ xs.length ≤ i⟩
/-- lo, lo + 1, .. (n of them) -/
def Itr (lo : Int) (n : Nat) : It := ⟨fun i _ => i < n, fun i H x H' => H' = H ∧ x = .int (lo + i), fun i _ => n ≤ i⟩
theorem turn_list {P : Program} {w : World} {K : PySem.W.Frag} {tg : Expr} (a it : Addr) : Turn P w K tg (Itl K a) [it] it (fun i h => h.IsListIter it a i) where
  mem := by simp
  obj := fun i h st b hb => by
    have e : b = it := by simpa using hb
    subst e
    obtain ⟨o, e, c, d⟩ := st
    exact ⟨o, e, fun v z => by rw [d] at z; cases z⟩
  keep := fun i h h' st k => st.at fun o e => k it (by simp) o e
  item := by
    intro X hP hw hK hc i pins s σ H E I hf st hg
    subst hP hw hK
    obtain ⟨xs, x, hq, hx⟩ := hg
    obtain ⟨its, rv, p, hz⟩ := I.list hq
    obtain ⟨u, hu, ru⟩ := rv.get hx
    obtain ⟨f0, f1, f2, f3, f4, f5⟩ := hf it (by simp)
    refine wpAny_pyNext_list_item st p.isList (x := u) (by simpa using hu) fun h' st' sb => ?_
    have I1 : Inv X pins σ H { s with heap := h' } := I.turned (t' := s.toks) (fun b o hb e => (sb.2 b hb).trans e) f0 f1 f3 f4 f5
    obtain ⟨o, e, c, d⟩ := id st'
    exact ⟨u, rfl, go_of (s := { s with heap := h' }) e c d (by decide) ⟨x, H, I1, ru, ⟨rfl, fun ys hy => by rw [I.list_inj hy hq]; exact hx⟩, st', fun b hb => (hf b hb).1⟩⟩
  done := by
    intro X hP hw hK hc i pins s σ H E I hf st hg
    subst hP hw hK
    obtain ⟨xs, hq, hx⟩ := hg
    obtain ⟨its, rv, p, hz⟩ := I.list hq
    obtain ⟨f0, f1, f2, f3, f4, f5⟩ := hf it (by simp)
    have hl := rv.length
    exact wpAny_pyNext_list_end (I.ok.hd hc) st p.isList (by simp; omega) fun h' eb => ⟨rfl, I.turned (t' := s.toks) (fun b o hb e => eb b o hb e) f0 f1 f3 f4 f5⟩
  self := fun _ _ _ _ _ st h => wpAny_pyIter_listiter st h
theorem turn_tuple {P : Program} {w : World} {K : PySem.W.Frag} {tg : Expr} (a it : Addr) : Turn P w K tg (Itt K a) [it] it (fun i h => h.IsTupleIter it a i) where
  mem := by simp
  obj := fun i h st b hb => by
    have e : b = it := by simpa using hb
    subst e
    obtain ⟨o, e, c, d⟩ := st
    exact ⟨o, e, fun v z => by rw [d] at z; cases z⟩
  keep := fun i h h' st k => st.at fun o e => k it (by simp) o e
  item := by
    intro X hP hw hK hc i pins s σ H E I hf st hg
    subst hP hw hK
    obtain ⟨xs, x, hq, hx⟩ := hg
    obtain ⟨its, rv, p, hz⟩ := I.tuple hq
    obtain ⟨u, hu, ru⟩ := rv.get hx
    obtain ⟨f0, f1, f2, f3, f4, f5⟩ := hf it (by simp)
    refine wpAny_pyNext_tuple_item st (show s.heap.IsTuple a its.toArray from p) (x := u) (by simpa using hu) fun h' st' sb => ?_
    have I1 : Inv X pins σ H { s with heap := h' } := I.turned (t' := s.toks) (fun b o hb e => (sb.2 b hb).trans e) f0 f1 f3 f4 f5
    obtain ⟨o, e, c, d⟩ := id st'
    exact ⟨u, rfl, go_of (s := { s with heap := h' }) e c d (by decide) ⟨x, H, I1, ru, ⟨rfl, fun ys hy => by rw [I.tuple_inj hy hq]; exact hx⟩, st', fun b hb => (hf b hb).1⟩⟩
  done := by
    intro X hP hw hK hc i pins s σ H E I hf st hg
    subst hP hw hK
    obtain ⟨xs, hq, hx⟩ := hg
    obtain ⟨its, rv, p, hz⟩ := I.tuple hq
    obtain ⟨f0, f1, f2, f3, f4, f5⟩ := hf it (by simp)
    have hl := rv.length
    exact wpAny_pyNext_tuple_end (I.ok.hd hc) st (show s.heap.IsTuple a its.toArray from p) (by simp; omega) fun h' eb => ⟨rfl, I.turned (t' := s.toks) (fun b o hb e => eb b o hb e) f0 f1 f3 f4 f5⟩
  self := fun _ _ _ _ _ st h => wpAny_pyIter_tupleiter st h
theorem turn_range {P : Program} {w : World} {K : PySem.W.Frag} {tg : Expr} (it : Addr) (lo : Int) (n : Nat) : Turn P w K tg (Itr lo n) [it] it (fun i h => IsRangeIter h it (lo + (i : Nat) * 1) ((n : Int) - (i : Nat)) 1) where
  mem := by simp
  obj := fun i h st b hb => by
    have e : b = it := by simpa using hb
    subst e
    exact ⟨_, st, fun v z => by
      have z' : Data.fields _ = Data.cell v := z
      cases z'⟩
  keep := fun i h h' st k => k it (by simp) _ st
  item := by
    intro X hP hw hK hc i pins s σ H E I hf st hg
    subst hP hw hK
    obtain ⟨f0, f1, f2, f3, f4, f5⟩ := hf it (by simp)
    have W := Walks.range (prog := X.prog) (w := X.w) (I.ok.hd hc) it lo 1 n
    refine W.item i s _ _ hg st fun v h' tk hv st' kk => ?_
    obtain ⟨t, rfl⟩ := hv
    have I1 : Inv X pins σ H { s with heap := h', toks := tk } := I.turned (fun b o hb e => kk b o (by simpa using hb) e) f0 f1 f3 f4 f5
    refine ⟨_, rfl, go_of (s := { s with heap := h', toks := tk }) (n := "range_iterator") st' rfl rfl (by decide) ⟨.int (lo + i), H, I1, ⟨t, ?_⟩, ⟨rfl, rfl⟩, st', fun b hb => (hf b hb).1⟩⟩
    rw [Int.mul_one]
  done := by
    intro X hP hw hK hc i pins s σ H E I hf st hg
    subst hP hw hK
    obtain ⟨f0, f1, f2, f3, f4, f5⟩ := hf it (by simp)
    exact wpAny_pyNext_range_end (I.ok.hd hc) st (by have : n ≤ i := hg; omega) fun h' eb => ⟨rfl, I.turned (t' := s.toks) (fun b o hb e => eb b o hb e) f0 f1 f3 f4 f5⟩
  self := fun _ _ _ _ _ st h => wpAny_pyIter_rangeiter st h
end L2

namespace L2
open PySem PySem.Spec PyProof.Rows
section
variable {X : Cx} {tg : Expr}
def iList (K : PySem.W.Frag) (tl : TE) : TI := fun σ H R => tl σ H fun x H1 => ∃ a, x = .ref a ∧ (∃ xs, SqL K H1 a xs) ∧ R (Itl K a) H1
def iTup (K : PySem.W.Frag) (tl : TE) : TI := fun σ H R => tl σ H fun x H1 => ∃ a, x = .ref a ∧ (∃ xs, SqT K H1 a xs) ∧ R (Itt K a) H1
theorem pi_list {l : Expr} {tl : TE} (hl : PE X l tl) : PI X tg l (iList X.K tl) := by
  intro pins s σ H R I h
  refine thn (hl pins s σ H _ I h) fun v s1 ⟨x, H1, I1, r1, q1⟩ => ?_
  obtain ⟨a, e, ⟨xs, hq⟩, q⟩ := q1
  subst e
  cases r1
  obtain ⟨its, rv, p, hz⟩ := I1.list hq
  refine wpAny_pyIter_list p.isList ?_
  refine ⟨s1.heap.objs.size, [s1.heap.objs.size], _, _, H1, rfl, I1.kept (t' := s1.toks) fun b o e => Heap.get?_push_of_some _ e, turn_list a _, ⟨_, Heap.get?_push_size _ rfl, rfl, rfl⟩, fun b hb => ?_, q⟩
  have e : b = s1.heap.objs.size := by simpa using hb
  subst e
  exact I1.fpOk (Nat.le_refl _) (I1.hok.fresh (Nat.le_refl _))
theorem pi_tup {l : Expr} {tl : TE} (hl : PE X l tl) : PI X tg l (iTup X.K tl) := by
  intro pins s σ H R I h
  refine thn (hl pins s σ H _ I h) fun v s1 ⟨x, H1, I1, r1, q1⟩ => ?_
  obtain ⟨a, e, ⟨xs, hq⟩, q⟩ := q1
  subst e
  cases r1
  obtain ⟨its, rv, p, hz⟩ := I1.tuple hq
  refine wpAny_pyIter_tuple (show s1.heap.IsTuple a its.toArray from p) ?_
  refine ⟨s1.heap.objs.size, [s1.heap.objs.size], _, _, H1, rfl, I1.kept (t' := s1.toks) fun b o e => Heap.get?_push_of_some _ e, turn_tuple a _, ⟨_, Heap.get?_push_size _ rfl, rfl, rfl⟩, fun b hb => ?_, q⟩
  have e : b = s1.heap.objs.size := by simpa using hb
  subst e
  exact I1.fpOk (Nat.le_refl _) (I1.hok.fresh (Nat.le_refl _))
/-- a range object just made, walked -/
theorem range_it {pins : List (Addr × Obj)} {σ : St} {H : Hp} {s : Shared} {R : It → Hp → Prop} {E : Value → Shared → Prop} {lo hi : Int} {t u v : Tok} {tk : Nat} (I : Inv X pins σ H s) (h1 : -(2 ^ 62) ≤ lo) (h2 : lo < 2 ^ 62) (h3 : -(2 ^ 62) ≤ hi) (h4 : hi < 2 ^ 62)
    (q : R (Itr lo (hi - lo).toNat) H) : wpAny (model X.prog X.w) X.A (pyIter (.ref s.heap.objs.size)) (PIE X pins σ tg R) E { s with heap := s.heap.push { cls := .type "range", data := .fields #[.int lo t, .int hi u, .int 1 v] }, toks := tk } := by
  refine wpAny_pyIter_range (IsRange.new ..) (small_one h1 h2 h3 h4) ?_
  have I1 : Inv X pins σ H { s with heap := s.heap.push { cls := .type "range", data := .fields #[.int lo t, .int hi u, .int 1 v] }, toks := tk } := I.kept fun b o e => Heap.get?_push_of_some _ e
  refine ⟨(s.heap.push { cls := .type "range", data := .fields #[.int lo t, .int hi u, .int 1 v] }).objs.size, [(s.heap.push { cls := .type "range", data := .fields #[.int lo t, .int hi u, .int 1 v] }).objs.size], _, _, H, rfl,
    I1.kept (t' := tk) fun b o e => Heap.get?_push_of_some _ e, turn_range _ lo (hi - lo).toNat, ?_, fun b hb => ?_, q⟩
  · have e1 : lo + ((0 : Nat) : Int) * 1 = lo := by simp
    have e2 : (((hi - lo).toNat : Nat) : Int) - ((0 : Nat) : Int) = Builtin.Range.rangeSize lo hi 1 := by rw [rangeSize_one]; split <;> omega
    show IsRangeIter _ _ (lo + ((0 : Nat) : Int) * 1) ((((hi - lo).toNat : Nat) : Int) - ((0 : Nat) : Int)) 1
    rw [e1, e2]
    exact Heap.get?_push_size _ rfl
  · have e : b = (s.heap.push { cls := .type "range", data := .fields #[.int lo t, .int hi u, .int 1 v] }).objs.size := by simpa using hb
    subst e
    exact I1.fpOk (Nat.le_refl _) (I1.hok.fresh (Nat.le_refl _))
def iRng1 (ta : TA) : TI := fun σ H R => ta σ H fun vs H1 => ∃ j : Int, vs = [.int j] ∧ -(2 ^ 62) ≤ j ∧ j < 2 ^ 62 ∧ R (Itr 0 j.toNat) H1
def iRng2 (ta : TA) : TI := fun σ H R => ta σ H fun vs H1 => ∃ i j : Int, vs = [.int i, .int j] ∧ (-(2 ^ 62) ≤ i ∧ i < 2 ^ 62 ∧ -(2 ^ 62) ≤ j ∧ j < 2 ^ 62) ∧ R (Itr i (j - i).toNat) H1
theorem pi_range1 {a : Expr} {ta : TA} {p pos : Pos} (hg : Gl X "range") (hm : X.mg "range" = none) (ha : PA X [a] ta) (hs : starEach [a] X.env = [(false, eval a X.env)] := by rfl) : PI X tg (.Call (.Name "range" p) [a] [] pos) (iRng1 ta) := by
  intro pins s σ H R I h
  refine Call_ (ld_blt I hg hm boot_range (PyProof.Rows.callWith_type1 (thn (ha pos pins s σ H _ I h) fun us s1 ⟨vs, H1, I1, r1, q1⟩ => ?_) hs rfl))
  obtain ⟨j, e, q1, q2, q⟩ := q1
  subst e
  cases r1 with
  | cons r rr =>
    cases rr
    obtain ⟨t, rfl⟩ := r
    exact call_range_1 (range_it I1 (by omega) (by omega) q1 q2 (by simpa using q))
/-! ### for -/
/-- W: the invariant by the turn and a measure; N: what the body is to reach -/
def tFor (wi : TI) (g : TG) (tb : TS) : TS := fun D σ H => wi σ H fun J H1 => ∃ W : Nat → Nat → St → Hp → Prop, (∃ m, W 0 m σ H1) ∧ ∀ i m σ H, W i m σ H →
  (J.stop i H ∧ D.nx σ H) ∨ (J.go i H ∧ ∃ N : St → Hp → Prop, (∀ σ' H', N σ' H' → ∃ m', m' < m ∧ W (i + 1) m' σ' H') ∧ ∀ x H', J.yld i H x H' → g x σ H' fun σ2 H2 => tb { D with nx := N, ct := N, bk := D.nx } σ2 H2)
/-- the records at fp as they stand -/
def pinsAt (fp : List Addr) (h : Heap) : List (Addr × Obj) := fp.filterMap fun b => (h.get? b).map fun o => (b, o)
theorem mem_pinsAt {fp : List Addr} {h : Heap} {b : Addr} {o : Obj} (hb : b ∈ fp) (e : h.get? b = some o) : (b, o) ∈ pinsAt fp h := List.mem_filterMap.mpr ⟨b, hb, by rw [e]; rfl⟩
theorem of_pinsAt {fp : List Addr} {h : Heap} {p : Addr × Obj} (hp : p ∈ pinsAt fp h) : p.1 ∈ fp ∧ h.get? p.1 = some p.2 := by
  obtain ⟨b, hb, e⟩ := List.mem_filterMap.mp hp
  cases q : h.get? b with
  | none => rw [q] at e; cases e
  | some o =>
    rw [q] at e
    have e' : (b, o) = p := Option.some.inj e
    subst e'
    exact ⟨hb, q⟩
theorem Inv.pinned {pins : List (Addr × Obj)} {σ : St} {H : Hp} {s : Shared} {fp : List Addr} (I : Inv X pins σ H s) (hf : ∀ b ∈ fp, FpOk X pins H b) (ho : ∀ b ∈ fp, ∃ o, s.heap.get? b = some o ∧ ∀ v, o.data ≠ .cell v) : Inv X (pins ++ pinsAt fp s.heap) σ H s :=
  I.pins_of fun p hp => (List.mem_append.mp hp).elim (fun z => I.pin p (List.mem_append_right _ z)) fun z => by
    obtain ⟨hb, e⟩ := of_pinsAt z
    obtain ⟨f0, f1, f2, _⟩ := hf p.1 hb
    obtain ⟨o, e', d⟩ := ho p.1 hb
    rw [e] at e'; cases e'
    exact ⟨e, f0, f1, f2, d⟩
theorem Inv.unpinned {pins pl : List (Addr × Obj)} {σ : St} {H : Hp} {s : Shared} (I : Inv X (pins ++ pl) σ H s) : Inv X pins σ H s := I.pins_of fun p hp => I.pin p (List.mem_append_right _ (List.mem_append_left _ hp))
theorem ps_for {iter : Expr} {body : List Stmt} {wi : TI} {g : TG} {tb : TS} {pos : Pos} (hp : PassesOwn (model X.prog X.w) X.A X.env X.xe) (hc : X.calm = true) (hi : PI X tg iter wi) (hg : PG X tg g) (hb : PSs X body tb)
    (hs : ∀ x, foldedSetIterable iter X.env x = pure x := by intro _; rfl) : PS X (.For tg iter body [] pos) (tFor wi g tb) := by
  intro pins s σ H D I h
  refine wpAny_For (thn (hi pins s σ H _ I h) fun v s1 h1 => thn h1 fun itv s2 h2 => ?_) hs
  obtain ⟨it, fp, tn, J, H2, e, I2, T, st2, f2, W, ⟨m0, w0⟩, turn⟩ := h2
  subst e
  -- what stays true of the iterator's objects through the loop
  have stat : ∀ {H' : Hp}, (∀ b ∈ fp, H' b = none) → ∀ b ∈ fp, FpOk X pins H' b := fun hn b hb => ⟨hn b hb, (f2 b hb).2⟩
  refine codeAny_forLoop_any (fun n s' => ∃ i σ' H', Inv X pins σ' H' s' ∧ tn i s'.heap ∧ (∀ b ∈ fp, H' b = none) ∧ W i n σ' H') ?_ m0 ⟨0, σ, H2, I2, st2, fun b hb => (f2 b hb).1, w0⟩
  rintro n s3 ⟨i, σ3, H3, I3, st3, fr3, w3⟩
  rcases turn i n σ3 H3 w3 with ⟨stop, qn⟩ | ⟨go, N, hN, step⟩
  · refine wpAny_passesOwn hp (thn (T.done X rfl rfl rfl hc i pins s3 σ3 H3 X.xe I3 (stat fr3) st3 stop) fun r s4 ⟨hr, I4⟩ => ?_)
    subst hr
    exact wpAny_execs_nil ⟨σ3, H3, I4, qn⟩
  · refine wpAny_passesOwn hp (thn (T.item X rfl rfl rfl hc i pins s3 σ3 H3 X.xe I3 (stat fr3) st3 go) fun r s4 ⟨u, hr, h4⟩ => ?_)
    subst hr
    refine wpAny_passesOwn hp (thn h4 fun _ s5 ⟨x, H5, I5, r5, y5, st5, fr5⟩ => ?_)
    have I5' := I5.pinned (stat fr5) (T.obj _ _ st5)
    refine wpAny_passesOwn hp (thn (hg _ s5 σ3 H5 x u _ I5' r5 (step x H5 y5)) fun _ s6 ⟨σ6, H6, I6, q6⟩ => ?_)
    refine wpAny_passesOwn hp (thn (hb _ s6 σ6 H6 _ I6 q6) fun f s7 q7 => ?_)
    have again : ∀ {σ7 : St} {H7 : Hp}, Inv X (pins ++ pinsAt fp s5.heap) σ7 H7 s7 → N σ7 H7 → ∃ m, m < n ∧ ∃ i σ' H', Inv X pins σ' H' s7 ∧ tn i s7.heap ∧ (∀ b ∈ fp, H' b = none) ∧ W i m σ' H' := fun {σ7 H7} I7 n7 => by
      obtain ⟨m', hm, w7⟩ := hN σ7 H7 n7
      refine ⟨m', hm, i + 1, σ7, H7, I7.unpinned, T.keep _ _ _ st5 fun b hb o e => (I7.pin (b, o) (List.mem_append_right _ (List.mem_append_right _ (mem_pinsAt hb e)))).1, fun b hb => ?_, w7⟩
      obtain ⟨o, e, d⟩ := T.obj _ _ st5 b hb
      exact (I7.pin (b, o) (List.mem_append_right _ (List.mem_append_right _ (mem_pinsAt hb e)))).2.1
    cases f with
    | next => obtain ⟨σ7, H7, I7, n7⟩ := q7; exact again I7 n7
    | cont => obtain ⟨σ7, H7, I7, n7⟩ := q7; exact again I7 n7
    | brk => obtain ⟨σ7, H7, I7, q7⟩ := q7; exact ⟨σ7, H7, I7.unpinned, q7⟩
    | ret v => obtain ⟨x7, σ7, H7, I7, r7, q7⟩ := q7; exact ⟨x7, σ7, H7, I7.unpinned, r7, q7⟩
end

/-! ### the forms one uses -/
/-- over a list that the body leaves as it is -/
theorem for_list {K : PySem.W.Frag} {a : Addr} {xs : List V} {g : TG} {tb : TS} {D : Ends} {σ : St} {H : Hp} (Pv : Nat → St → Hp → Prop) (h0 : Pv 0 σ H) (hl : ∀ i σ H, i ≤ xs.length → Pv i σ H → SqL K H a xs)
    (hs : ∀ i x σ H, xs[i]? = some x → Pv i σ H → g x σ H fun σ2 H2 => tb { D with nx := Pv (i + 1), ct := Pv (i + 1), bk := D.nx } σ2 H2) (hd : ∀ σ H, Pv xs.length σ H → D.nx σ H) :
    ∃ W : Nat → Nat → St → Hp → Prop, (∃ m, W 0 m σ H) ∧ ∀ i m σ H, W i m σ H →
      ((Itl K a).stop i H ∧ D.nx σ H) ∨ ((Itl K a).go i H ∧ ∃ N : St → Hp → Prop, (∀ σ' H', N σ' H' → ∃ m', m' < m ∧ W (i + 1) m' σ' H') ∧ ∀ x H', (Itl K a).yld i H x H' → g x σ H' fun σ2 H2 => tb { D with nx := N, ct := N, bk := D.nx } σ2 H2) := by
  refine ⟨fun i m σ H => m = xs.length - i ∧ i ≤ xs.length ∧ Pv i σ H, ⟨xs.length, by simp, Nat.zero_le _, h0⟩, ?_⟩
  rintro i m σ H ⟨rfl, hi, p⟩
  have q := hl i σ H hi p
  by_cases hlt : i < xs.length
  · refine .inr ⟨⟨xs, xs[i], q, by simp [hlt]⟩, Pv (i + 1), fun σ' H' p' => ⟨xs.length - (i + 1), by omega, rfl, hlt, p'⟩, fun x H' y => ?_⟩
    obtain ⟨e, y⟩ := y
    subst e
    exact hs i x σ _ (y xs q) p
  · have e : i = xs.length := by omega
    subst e
    exact .inl ⟨⟨xs, q, Nat.le_refl _⟩, hd σ H p⟩
theorem for_range {lo : Int} {n : Nat} {g : TG} {tb : TS} {D : Ends} {σ : St} {H : Hp} (Pv : Nat → St → Hp → Prop) (h0 : Pv 0 σ H)
    (hs : ∀ i σ H, i < n → Pv i σ H → g (.int (lo + i)) σ H fun σ2 H2 => tb { D with nx := Pv (i + 1), ct := Pv (i + 1), bk := D.nx } σ2 H2) (hd : ∀ σ H, Pv n σ H → D.nx σ H) :
    ∃ W : Nat → Nat → St → Hp → Prop, (∃ m, W 0 m σ H) ∧ ∀ i m σ H, W i m σ H →
      ((Itr lo n).stop i H ∧ D.nx σ H) ∨ ((Itr lo n).go i H ∧ ∃ N : St → Hp → Prop, (∀ σ' H', N σ' H' → ∃ m', m' < m ∧ W (i + 1) m' σ' H') ∧ ∀ x H', (Itr lo n).yld i H x H' → g x σ H' fun σ2 H2 => tb { D with nx := N, ct := N, bk := D.nx } σ2 H2) := by
  refine ⟨fun i m σ H => m = n - i ∧ i ≤ n ∧ Pv i σ H, ⟨n, by simp, Nat.zero_le _, h0⟩, ?_⟩
  rintro i m σ H ⟨rfl, hi, p⟩
  by_cases hlt : i < n
  · refine .inr ⟨hlt, Pv (i + 1), fun σ' H' p' => ⟨n - (i + 1), by omega, rfl, hlt, p'⟩, fun x H' y => ?_⟩
    obtain ⟨e, y⟩ := y
    subst e y
    exact hs i σ _ hlt p
  · have e : i = n := by omega
    subst e
    exact .inl ⟨Nat.le_refl _, hd σ H p⟩
end L2

namespace L2
open PySem PySem.Spec PyProof.Rows

abbrev R2 := V → V → Hp → VK → Prop
/-- a two-place operation on values: f is binaryOp op, inplaceOp op or compareOp op -/
def OpR (X : Cx) (f : Value → Value → Sem Value) (r : R2) : Prop :=
  ∀ (pins : List (Addr × Obj)) (s : Shared) (σ : St) (H : Hp) (x y : V) (v u : Value) (Q : VK), Inv X pins σ H s → RelV x v → RelV y u → r x y H Q →
    wpAny (model X.prog X.w) X.A (f v u) (EP X pins σ Q) X.xe s
/-- a one-place operation -/
def UnR (X : Cx) (f : Value → Sem Value) (r : V → Hp → VK → Prop) : Prop :=
  ∀ (pins : List (Addr × Obj)) (s : Shared) (σ : St) (H : Hp) (x : V) (v : Value) (Q : VK), Inv X pins σ H s → RelV x v → r x H Q →
    wpAny (model X.prog X.w) X.A (f v) (EP X pins σ Q) X.xe s
/-- a call of a value that is known (a builtin, a type) with values -/
def CallR (X : Cx) (f : Value) (r : List V → Hp → VK → Prop) : Prop :=
  ∀ (pins : List (Addr × Obj)) (s : Shared) (σ : St) (H : Hp) (xs : List V) (us : List Value) (Q : VK), Inv X pins σ H s → Vals xs us → r xs H Q →
    wpAny (model X.prog X.w) X.A (call f us) (EP X pins σ Q) X.xe s
/-- a value's truth -/
def TruR (X : Cx) (r : V → Hp → (Bool → Hp → Prop) → Prop) : Prop :=
  ∀ (pins : List (Addr × Obj)) (s : Shared) (σ : St) (H : Hp) (x : V) (v : Value) (Q : Bool → Hp → Prop), Inv X pins σ H s → RelV x v → r x H Q →
    wpAny (model X.prog X.w) X.A (truthy v) (TP X pins σ Q) X.xe s

def tOp (r : R2) (ta tb : TE) : TE := fun σ H Q => ta σ H fun x H1 => tb σ H1 fun y H2 => r x y H2 Q
def tUn (r : V → Hp → VK → Prop) (ta : TE) : TE := fun σ H Q => ta σ H fun x H1 => r x H1 Q
/-- ints in, under C, and a value out -/
def rI (C : Int → Int → Prop) (g : Int → Int → V) : R2 := fun x y H Q => ∃ i j, x = .int i ∧ y = .int j ∧ C i j ∧ Q (g i j) H
def rI0 (g : Int → Int → V) : R2 := fun x y H Q => ∃ i j, x = .int i ∧ y = .int j ∧ Q (g i j) H
def rU (g : Int → V) : V → Hp → VK → Prop := fun x H Q => ∃ i, x = .int i ∧ Q (g i) H

section
variable {X : Cx} {a b c : Expr} {ta tb tc : TE} {pos : Pos}

theorem binT (ha : PE X a ta) (hb : PE X b tb) {pins : List (Addr × Obj)} {s : Shared} {σ : St} {H : Hp} {R : V → V → Hp → Prop} (I : Inv X pins σ H s)
    (h : ta σ H fun x H1 => tb σ H1 fun y H2 => R x y H2) {Q : Value → Shared → Prop} {f : Value → Value → Sem Value}
    (hf : ∀ v u s2 x y H2, Inv X pins σ H2 s2 → RelV x v → RelV y u → R x y H2 → wpAny (model X.prog X.w) X.A (f v u) Q X.xe s2) :
    wpAny (model X.prog X.w) X.A (eval a X.env) (fun v s₁ => wpAny (model X.prog X.w) X.A (eval b X.env) (fun u s₂ => wpAny (model X.prog X.w) X.A (f v u) Q X.xe s₂) X.xe s₁) X.xe s := by
  refine thn (ha pins s σ H _ I h) fun v s1 ⟨x, H1, I1, r1, q1⟩ => ?_
  refine thn (hb pins s1 σ H1 _ I1 q1) fun u s2 ⟨y, H2, I2, r2, q2⟩ => ?_
  exact hf v u s2 x y H2 I2 r1 r2 q2

theorem pe_op {op : Operator} {r : R2} (ho : OpR X (binaryOp op) r) (ha : PE X a ta) (hb : PE X b tb) : PE X (.BinOp a op b pos) (tOp r ta tb) := by
  intro pins s σ H Q I h
  exact wpAny_BinOp (binT ha hb I h fun v u s2 x y H2 I2 rx ry q => ho pins s2 σ H2 x y v u Q I2 rx ry q)
theorem pe_un {op : UnaryOp} {r : V → Hp → VK → Prop} (ho : UnR X (unaryOp op) r) (ha : PE X a ta) : PE X (.UnaryOp op a pos) (tUn r ta) := by
  intro pins s σ H Q I h
  exact UnaryOp_ (thn (ha pins s σ H _ I h) fun v s1 ⟨x, H1, I1, r1, q1⟩ => ho pins s1 σ H1 x v Q I1 r1 q1)
/-! ### ints -/
theorem opI {f : Value → Value → Sem Value} {C : Int → Int → Prop} {g : Int → Int → Int}
    (rule : ∀ (i j : Int) (t u : Tok) (s : Shared) (Q : Value → Shared → Prop) (E : Value → Shared → Prop), C i j → Q (.int (g i j) s.toks) { s with toks := s.toks + 1 } → wpAny (model X.prog X.w) X.A (f (.int i t) (.int j u)) Q E s) :
    OpR X f (rI C fun i j => .int (g i j)) := by
  intro pins s σ H x y v u Q I rx ry h
  obtain ⟨i, j, rfl, rfl, hc, q⟩ := h
  obtain ⟨t, rfl⟩ := rx
  obtain ⟨t', rfl⟩ := ry
  exact rule i j t t' s _ _ hc ⟨.int (g i j), H, I.tok _, ⟨_, rfl⟩, q⟩
theorem opI0 {f : Value → Value → Sem Value} {g : Int → Int → Int}
    (rule : ∀ (i j : Int) (t u : Tok) (s : Shared) (Q : Value → Shared → Prop) (E : Value → Shared → Prop), Q (.int (g i j) s.toks) { s with toks := s.toks + 1 } → wpAny (model X.prog X.w) X.A (f (.int i t) (.int j u)) Q E s) :
    OpR X f (rI0 fun i j => .int (g i j)) := by
  intro pins s σ H x y v u Q I rx ry h
  obtain ⟨i, j, rfl, rfl, q⟩ := h
  obtain ⟨t, rfl⟩ := rx
  obtain ⟨t', rfl⟩ := ry
  exact rule i j t t' s _ _ ⟨.int (g i j), H, I.tok _, ⟨_, rfl⟩, q⟩
theorem opB0 {f : Value → Value → Sem Value} {g : Int → Int → Bool}
    (rule : ∀ (i j : Int) (t u : Tok) (s : Shared) (Q : Value → Shared → Prop) (E : Value → Shared → Prop), Q (.bool (g i j)) s → wpAny (model X.prog X.w) X.A (f (.int i t) (.int j u)) Q E s) :
    OpR X f (rI0 fun i j => .bl (g i j)) := by
  intro pins s σ H x y v u Q I rx ry h
  obtain ⟨i, j, rfl, rfl, q⟩ := h
  obtain ⟨t, rfl⟩ := rx
  obtain ⟨t', rfl⟩ := ry
  exact rule i j t t' s _ _ ⟨.bl (g i j), H, I, rfl, q⟩

def CDiv (i j : Int) : Prop := 0 < j ∧ j < 1073741824
def CDivN (i j : Int) : Prop := j ≠ 0 ∧ j.natAbs < 1073741824
def CPow (i j : Int) : Prop := 0 ≤ j ∧ j ≤ 1000000 ∧ i.natAbs < 2 ^ 64
def CMul (i j : Int) : Prop := (-(2 ^ 64) < i ∧ i < 2 ^ 64) ∨ (-(2 ^ 64) < j ∧ j < 2 ^ 64)
theorem CMul.ok {i j : Int} (h : CMul i j) : IntMulOk i j := by
  rcases h with ⟨h1, h2⟩ | ⟨h1, h2⟩
  · exact .of_left (intBits_le_64 h1 h2)
  · exact .of_right (intBits_le_64 h1 h2)
theorem op_add : OpR X (binaryOp .Add) (rI0 fun i j => .int (i + j)) := opI0 fun _ _ _ _ _ _ _ q => add_int q
theorem op_sub : OpR X (binaryOp .Sub) (rI0 fun i j => .int (i - j)) := opI0 fun _ _ _ _ _ _ _ q => sub_int q
theorem op_mul : OpR X (binaryOp .Mult) (rI CMul fun i j => .int (i * j)) := opI fun _ _ _ _ _ _ _ hc q => mul_int q hc.ok
/-- // by a positive divisor -/
theorem op_fdiv : OpR X (binaryOp .FloorDiv) (rI CDiv fun i j => .int (i / j)) := opI fun i j _ _ _ _ _ hc q => by
  have h1 : (0 : Int) < j := hc.1
  have h2 : j < 1073741824 := hc.2
  exact floordiv_int (by omega) (by rw [Int.fdiv_eq_ediv_of_nonneg i (by omega)]; exact q) (.inl (PyProof.noPylong_small (by omega)))
/-- % by a positive divisor of any size -/
theorem op_mod : OpR X (binaryOp .Mod) (rI (fun _ j => 0 < j) fun i j => .int (i % j)) := opI fun i j _ _ _ _ _ hc q => by
  have h1 : (0 : Int) < j := hc
  exact mod_int' (by omega) (by rw [Int.fmod_eq_emod_of_nonneg i (by omega)]; exact q)
theorem op_pow : OpR X (binaryOp .Pow) (rI CPow fun i j => .int (i ^ j.toNat)) := opI fun _ _ _ _ _ _ _ hc q => pow_int_small hc.1 hc.2.1 hc.2.2 q
theorem unI {f : Value → Sem Value} {g : Int → Int}
    (rule : ∀ (i : Int) (t : Tok) (s : Shared) (Q : Value → Shared → Prop) (E : Value → Shared → Prop), Q (.int (g i) s.toks) { s with toks := s.toks + 1 } → wpAny (model X.prog X.w) X.A (f (.int i t)) Q E s) :
    UnR X f (rU fun i => .int (g i)) := by
  intro pins s σ H x v Q I rx h
  obtain ⟨i, rfl, q⟩ := h
  obtain ⟨t, rfl⟩ := rx
  exact rule i t s _ _ ⟨.int (g i), H, I.tok _, ⟨_, rfl⟩, q⟩
theorem un_neg : UnR X (unaryOp .USub) (rU fun i => .int (-i)) := unI fun _ _ _ _ _ q => neg_int q
/-! ### bools among ints: n += (a < b) -/
end

/-! ### comparisons -/
/-- the scalars that == tells apart as data does -/
def scal : V → V → Bool
  | .non, .non => true | .non, .int _ => true | .int _, .non => true | .non, .bl _ => true | .bl _, .non => true | .non, .str _ => true | .str _, .non => true
  | .int _, .int _ => true | .bl _, .bl _ => true | .str _, .str _ => true | .byt _, .byt _ => true
  | .int _, .str _ => true | .str _, .int _ => true | .bl _, .str _ => true | .str _, .bl _ => true
  | _, _ => false
def rEq : R2 := fun x y H Q => scal x y = true ∧ Q (.bl (decide (x = y))) H
def rNe : R2 := fun x y H Q => scal x y = true ∧ Q (.bl (!decide (x = y))) H

theorem dec_int {i j : Int} : decide (V.int i = V.int j) = (i == j) := by
  rw [Bool.eq_iff_iff]
  simp
theorem dec_bl {i j : Bool} : decide (V.bl i = V.bl j) = (i == j) := by
  rw [Bool.eq_iff_iff]
  simp
theorem dec_str {i j : Str} : decide (V.str i = V.str j) = (i == j) := by
  rw [Bool.eq_iff_iff]
  simp
theorem dec_byt {i j : Array UInt8} : decide (V.byt i = V.byt j) = (i.toList == j.toList) := by
  rw [Bool.eq_iff_iff]
  cases i
  cases j
  simp

section
variable {X : Cx} {a b c : Expr} {ta tb tc : TE} {pos : Pos}
theorem fin_bl {pins : List (Addr × Obj)} {σ : St} {H : Hp} {s : Shared} {Q : VK} {k k' : Bool} (I : Inv X pins σ H s) (q : Q (.bl k) H) (e : k = k') : EP X pins σ Q (.bool k') s := by
  subst e
  exact ⟨.bl k, H, I, rfl, q⟩
theorem op_eq : OpR X (compareOp .Eq) rEq := by
  intro pins s σ H x y v u Q I rx ry h
  obtain ⟨hs, q⟩ := h
  cases x with
  | non =>
    cases rx
    cases y with
    | non => cases ry; exact PySem.EqNone.eq_none_none (fin_bl I q (by simp))
    | bl j => cases ry; exact PySem.EqNone.eq_none_bool (fin_bl I q (by simp))
    | int j => obtain ⟨t', rfl⟩ := ry; exact PySem.EqNone.eq_none_int (fin_bl I q (by simp))
    | str j => obtain ⟨t', rfl⟩ := ry; exact PySem.EqNone.eq_none_str (fin_bl I q (by simp))
    | _ => exact absurd (show false = true from hs) Bool.false_ne_true
  | bl i =>
    cases rx
    cases y with
    | non => cases ry; exact PySem.EqNone.eq_bool_none (fin_bl I q (by simp))
    | bl j => cases ry; exact eq_bool (fin_bl I q dec_bl)
    | str j => obtain ⟨t', rfl⟩ := ry; exact PySem.EqMixed.eq_bool_str (fin_bl I q (by simp))
    | _ => exact absurd (show false = true from hs) Bool.false_ne_true
  | int i =>
    obtain ⟨t, rfl⟩ := rx
    cases y with
    | non => cases ry; exact PySem.EqNone.eq_int_none (fin_bl I q (by simp))
    | int j => obtain ⟨t', rfl⟩ := ry; exact eq_int (fin_bl I q dec_int)
    | str j => obtain ⟨t', rfl⟩ := ry; exact PySem.EqMixed.eq_int_str (fin_bl I q (by simp))
    | _ => exact absurd (show false = true from hs) Bool.false_ne_true
  | str i =>
    obtain ⟨t, rfl⟩ := rx
    cases y with
    | non => cases ry; exact PySem.EqNone.eq_str_none (fin_bl I q (by simp))
    | bl j => cases ry; exact PySem.EqMixed.eq_str_bool (fin_bl I q (by simp))
    | int j => obtain ⟨t', rfl⟩ := ry; exact PySem.EqMixed.eq_str_int (fin_bl I q (by simp))
    | str j => obtain ⟨t', rfl⟩ := ry; exact eq_str (fin_bl I q dec_str)
    | _ => exact absurd (show false = true from hs) Bool.false_ne_true
  | byt i =>
    obtain ⟨t, rfl⟩ := rx
    cases y with
    | byt j => obtain ⟨t', rfl⟩ := ry; exact PySem.W.eq_bytes (fin_bl I q dec_byt)
    | _ => exact absurd (show false = true from hs) Bool.false_ne_true
  | _ => cases y <;> exact absurd (show false = true from hs) Bool.false_ne_true
theorem op_ne : OpR X (compareOp .NotEq) rNe := by
  intro pins s σ H x y v u Q I rx ry h
  obtain ⟨hs, q⟩ := h
  cases x with
  | non =>
    cases rx
    cases y with
    | non => cases ry; exact PySem.EqNone.ne_none_none (fin_bl I q (by simp))
    | bl j => cases ry; exact PySem.EqNone.ne_none_bool (fin_bl I q (by simp))
    | int j => obtain ⟨t', rfl⟩ := ry; exact PySem.EqNone.ne_none_int (fin_bl I q (by simp))
    | str j => obtain ⟨t', rfl⟩ := ry; exact PySem.EqNone.ne_none_str (fin_bl I q (by simp))
    | _ => exact absurd (show false = true from hs) Bool.false_ne_true
  | bl i =>
    cases rx
    cases y with
    | non => cases ry; exact PySem.EqNone.ne_bool_none (fin_bl I q (by simp))
    | bl j => cases ry; exact ne_bool (fin_bl I q (congrArg not dec_bl))
    | str j => obtain ⟨t', rfl⟩ := ry; exact PySem.EqMixed.ne_bool_str (fin_bl I q (by simp))
    | _ => exact absurd (show false = true from hs) Bool.false_ne_true
  | int i =>
    obtain ⟨t, rfl⟩ := rx
    cases y with
    | non => cases ry; exact PySem.EqNone.ne_int_none (fin_bl I q (by simp))
    | int j => obtain ⟨t', rfl⟩ := ry; exact ne_int (fin_bl I q (congrArg not dec_int))
    | str j => obtain ⟨t', rfl⟩ := ry; exact PySem.EqMixed.ne_int_str (fin_bl I q (by simp))
    | _ => exact absurd (show false = true from hs) Bool.false_ne_true
  | str i =>
    obtain ⟨t, rfl⟩ := rx
    cases y with
    | non => cases ry; exact PySem.EqNone.ne_str_none (fin_bl I q (by simp))
    | bl j => cases ry; exact PySem.EqMixed.ne_str_bool (fin_bl I q (by simp))
    | int j => obtain ⟨t', rfl⟩ := ry; exact PySem.EqMixed.ne_str_int (fin_bl I q (by simp))
    | str j => obtain ⟨t', rfl⟩ := ry; exact ne_str (fin_bl I q (congrArg not dec_str))
    | _ => exact absurd (show false = true from hs) Bool.false_ne_true
  | byt i =>
    obtain ⟨t, rfl⟩ := rx
    cases y with
    | byt j => obtain ⟨t', rfl⟩ := ry; exact PySem.W.ne_bytes (fin_bl I q (congrArg not dec_byt))
    | _ => exact absurd (show false = true from hs) Bool.false_ne_true
  | _ => cases y <;> exact absurd (show false = true from hs) Bool.false_ne_true

theorem op_lt : OpR X (compareOp .Lt) (rI0 fun i j => .bl (decide (i < j))) := opB0 fun _ _ _ _ _ _ _ q => lt_int q
theorem op_le : OpR X (compareOp .LtE) (rI0 fun i j => .bl (decide (i ≤ j))) := opB0 fun _ _ _ _ _ _ _ q => le_int q
theorem op_gt : OpR X (compareOp .Gt) (rI0 fun i j => .bl (decide (j < i))) := opB0 fun _ _ _ _ _ _ _ q => gt_int q
theorem op_ge : OpR X (compareOp .GtE) (rI0 fun i j => .bl (decide (j ≤ i))) := opB0 fun _ _ _ _ _ _ _ q => ge_int q
/-- the one string within the other -/
theorem op_in_str : OpR X (compareOp .In) (fun x y H Q => ∃ i j, x = .str i ∧ y = .str j ∧ Q (.bl (!(Builtin.Str.occurrences j i 0 j.length 1).isEmpty)) H) := by
  intro pins s σ H x y v u Q I rx ry h
  obtain ⟨i, j, rfl, rfl, q⟩ := h
  obtain ⟨t, rfl⟩ := rx
  obtain ⟨t', rfl⟩ := ry
  exact in_str (fin_bl I q rfl)

/-- is None, is not None: the right side a value none -/
theorem op_isN : OpR X (compareOp .Is) (fun x y H Q => y = .non ∧ Q (.bl (decide (x = .non))) H) := by
  intro pins s σ H x y v u Q I rx ry h
  obtain ⟨rfl, q⟩ := h
  cases ry
  refine is_none_gen (fin_bl I q ?_)
  cases x <;> first
    | (cases rx; rfl)
    | (obtain ⟨t, rfl⟩ := rx; rfl)
theorem op_notin_str : OpR X (compareOp .NotIn) (fun x y H Q => ∃ i j, x = .str i ∧ y = .str j ∧ Q (.bl (!(!(Builtin.Str.occurrences j i 0 j.length 1).isEmpty))) H) := by
  intro pins s σ H x y v u Q I rx ry h
  obtain ⟨i, j, rfl, rfl, q⟩ := h
  obtain ⟨t, rfl⟩ := rx
  obtain ⟨t', rfl⟩ := ry
  exact notIn_str (fin_bl I q rfl)
/-- is, is not of two objects that are tracked lists or instances -/
def isObj : HO → Bool
  | .lst _ => true
  | .ins _ _ _ => true
  | _ => false
theorem nomark (b : Expr) {op : CmpOp} (h : op ≠ .In := by decide) (h2 : op ≠ .NotIn := by decide) : behindInMarks op b = false := by
  have e1 : (op == CmpOp.In) = false := by cases op <;> first | rfl | exact absurd rfl h
  have e2 : (op == CmpOp.NotIn) = false := by cases op <;> first | rfl | exact absurd rfl h2
  cases b <;> simp [behindInMarks, e1, e2]
/-- a comparison as a value; hm: nomark b, or (for in, not in) by with_unfolding_all rfl -/
theorem pe_cmpR {op : CmpOp} {r : R2} (ho : OpR X (compareOp op) r) (ha : PE X a ta) (hb : PE X b tb) (hm : behindInMarks op b = false) : PE X (.Compare a [op] [b] pos) (tOp r ta tb) := by
  intro pins s σ H Q I h
  exact wpAny_Compare1 (binT ha hb I h fun v u s2 x y H2 I2 rx ry q => ho pins s2 σ H2 x y v u Q I2 rx ry q) hm
/-- a reading of a value as a test -/
def tTest (t : TE) : TT := fun σ H Q => t σ H fun x H' => ∃ k, x = .bl k ∧ Q k H'
theorem pt_cmpR {op : CmpOp} {r : R2} (ho : OpR X (compareOp op) r) (ha : PE X a ta) (hb : PE X b tb) (hm : behindInMarks op b = false) : PT X (.Compare a [op] [b] pos) (tTest (tOp r ta tb)) := by
  intro pins s σ H Q I h
  refine wpAny_isTrue_Compare1 (thn (ha pins s σ H _ I h) fun v s1 ⟨x, H1, I1, r1, q1⟩ => thn (hb pins s1 σ H1 _ I1 q1) fun u s2 ⟨y, H2, I2, r2, q2⟩ =>
    thn (ho pins s2 σ H2 x y v u _ I2 r1 r2 q2) fun c s3 ⟨z, H3, I3, r3, k, e, q3⟩ => ?_) hm
  subst e
  cases r3
  exact wpAny_truthy_bool ⟨H3, I3, q3⟩
/-- a op1 b op2 c -/
def tChain (r r' : R2) (ta tb tc : TE) : TE := fun σ H Q => ta σ H fun x H1 => tb σ H1 fun y H2 => r x y H2 fun z H3 => ∃ k, z = .bl k ∧
  (if k = true then tc σ H3 fun w' H4 => r' y w' H4 Q else Q (.bl false) H3)
theorem pe_chain {op op' : CmpOp} {r r' : R2} (ho : OpR X (compareOp op) r) (ho' : OpR X (compareOp op') r') (ha : PE X a ta) (hb : PE X b tb) (hc : PE X c tc)
    (hm : lastMarks [op, op'] [b, c] = false := by with_unfolding_all rfl) : PE X (.Compare a [op, op'] [b, c] pos) (tChain r r' ta tb tc) := by
  intro pins s σ H Q I h
  refine Compare_chain (thn (ha pins s σ H _ I h) fun v s1 ⟨x, H1, I1, r1, q1⟩ => chain_link (thn (hb pins s1 σ H1 _ I1 q1) fun u s2 ⟨y, H2, I2, r2, q2⟩ =>
    thn (ho pins s2 σ H2 x y v u _ I2 r1 r2 q2) fun d s3 ⟨z, H3, I3, r3, k, e, q3⟩ => ?_)) hm
  subst e
  cases r3
  refine wpAny_truthy_bool ?_
  cases k with
  | false => exact ite_ff ⟨.bl false, H3, I3, rfl, q3⟩
  | true => exact ite_tt (chain_last (thn (hc pins s3 σ H3 _ I3 q3) fun w' s4 ⟨z', H4, I4, r4, q4⟩ => ho' pins s4 σ H4 y z' u w' Q I4 r2 r4 q4))
/-! ### truth -/
/-- a value's truth by the abstract heap -/
def TruV (K : PySem.W.Frag) (x : V) (H : Hp) (k : Bool) : Prop :=
  match x with
  | .non => k = false
  | .bl b => k = b
  | .int i => k = (i != 0)
  | .str y => y.length ≤ sizeLine ∧ k = ((y.length : Int) != 0)
  | .byt y => y.size ≤ sizeLine ∧ k = ((y.size : Int) != 0)
  | .ref p => (∃ xs, SqL K H p xs ∧ k = !xs.isEmpty) ∨ (∃ xs, SqT K H p xs ∧ k = !xs.isEmpty) ∨ ∃ kvs, H p = some (.dK kvs) ∧ k = !kvs.isEmpty
  | _ => False
theorem line63 : (sizeLine : Nat) < 2 ^ 63 := by rw [sizeLine_eq]; decide
/-! ### strs and bytes -/
theorem op_add_str : OpR X (binaryOp .Add) (fun x y H Q => ∃ i j, x = .str i ∧ y = .str j ∧ i.length + j.length ≤ sizeLine ∧ Q (.str (i ++ j)) H) := by
  intro pins s σ H x y v u Q I rx ry h
  obtain ⟨i, j, rfl, rfl, hz, q⟩ := h
  obtain ⟨t, rfl⟩ := rx
  obtain ⟨t', rfl⟩ := ry
  exact add_str (fun t' tk => ⟨.str (i ++ j), H, I.tok _, ⟨_, rfl⟩, q⟩) hz
def PlainIxT (b : Expr) : Prop := ∀ o i, subscripted b false o i = operate [o, i] (getItem o i)
/-! ### scalar builtins, by CallR -/
theorem vals1 {x : V} {us : List Value} (r : Vals [x] us) : ∃ u, us = [u] ∧ RelV x u := by
  cases r with
  | cons r1 r2 => cases r2; exact ⟨_, rfl, r1⟩
theorem vals2 {x y : V} {us : List Value} (r : Vals [x, y] us) : ∃ u w', us = [u, w'] ∧ RelV x u ∧ RelV y w' := by
  cases r with
  | cons r1 r2 =>
    cases r2 with
    | cons r3 r4 => cases r4; exact ⟨_, _, rfl, r1, r3⟩
theorem call_abs : CallR X (.builtin "abs") (fun xs H Q => ∃ i, xs = [.int i] ∧ Q (.int (if i < 0 then -i else i)) H) := by
  intro pins s σ H xs us Q I r h
  obtain ⟨i, rfl, q⟩ := h
  obtain ⟨u, rfl, t, rfl⟩ := vals1 r
  exact call_abs_int fun u tk => ⟨.int (if i < 0 then -i else i), H, I.tok _, ⟨_, rfl⟩, q⟩
theorem call_str_int : CallR X (.type "str") (fun xs H Q => ∃ i, xs = [.int i] ∧ i.natAbs.log2 < 1920 ∧ Q (.str (toString i)) H) := by
  intro pins s σ H xs us Q I r h
  obtain ⟨i, rfl, hz, q⟩ := h
  obtain ⟨u, rfl, t, rfl⟩ := vals1 r
  exact PySem.P.str_of_int hz ⟨.str _, H, I.tok _, ⟨_, rfl⟩, q⟩
theorem call_ord : CallR X (.builtin "ord") (fun xs H Q => ∃ x, xs = [.str x] ∧ x.length = 1 ∧ Q (.int (x.cps.getD 0 0 : Nat)) H) := by
  intro pins s σ H xs us Q I r h
  obtain ⟨x, rfl, hz, q⟩ := h
  obtain ⟨u, rfl, t, rfl⟩ := vals1 r
  exact ord_of_one hz ⟨.int _, H, I.tok _, ⟨_, rfl⟩, q⟩
/-- len of a str, a bytes, a list, a tuple -/
def LenV (K : PySem.W.Frag) (x : V) (H : Hp) (n : Nat) : Prop :=
  match x with
  | .str y => y.length ≤ sizeLine ∧ n = y.length
  | .byt y => y.size ≤ sizeLine ∧ n = y.size
  | .ref p => (∃ xs, SqL K H p xs ∧ n = xs.length) ∨ ∃ xs, SqT K H p xs ∧ n = xs.length
  | _ => False
end
end L2

namespace L2
open PySem PySem.Spec PyProof.Rows

/-! ### an instance, its attributes a map -/
structure ObjM (h : Heap) (x dx C : Addr) (mA : Str → Option Value) : Prop where
  obj : h.get? x = some (PySem.W.instObj C dx)
  ns : h.Ns1 dx mA
  ne : dx ≠ x

theorem lookIn_ns {h : Heap} {dx : Addr} {mA : Str → Option Value} (n : h.Ns1 dx mA) : ∃ od, h.get? dx = some od ∧ ∀ name, PySem.W.lookIn name od = some (mA name) := by
  obtain ⟨o, es, ep, ho, hd, hk, _, hm⟩ := n
  refine ⟨o, ho, fun name => ?_⟩
  have e := hm name
  unfold nsFind findBy at e
  rw [← Array.find?_toList] at e
  unfold PySem.W.lookIn
  rw [hd]
  dsimp only
  split
  · rename_i y q
    rw [q] at e
    exact congrArg some e
  · rename_i q
    rw [q] at e
    have a : es.toList.any (·.refKey) = false := by
      rw [List.any_eq_false]
      intro y hy
      obtain ⟨z, t, hkey⟩ := hk y (Array.mem_toList_iff.mp hy)
      simp [DictEntry.refKey, hkey]
    have a' : ¬ es.toList.any (·.refKey) = true := by rw [a]; exact Bool.false_ne_true
    rw [if_neg a']
    exact congrArg some e

theorem ObjM.look {h : Heap} {x dx C : Addr} {mA : Str → Option Value} (I : ObjM h x dx C mA) : ∃ od, PySem.W.InstAt h x (PySem.W.instObj C dx) C (some od) ∧ ∀ name, PySem.W.lookIn name od = some (mA name) :=
  let ⟨od, ho, hl⟩ := lookIn_ns I.ns
  ⟨od, ⟨I.obj, rfl, rfl, ho⟩, hl⟩

section
variable {prog : Program} {w : World} {A : Around} {E : Value → Shared → Prop} {s : Shared} {K : PySem.W.Frag} {x dx C f : Addr} {mA : Str → Option Value} {name : Str} {v : Value}

end

/-! ### the attributes as a list of pairs -/
def putF (f : Str) (v : V) : List (Str × V) → List (Str × V)
  | [] => [(f, v)]
  | (g, x) :: r => if g = f then (g, v) :: r else (g, x) :: putF f v r
section
variable {P : Program} {w : World} {H H' : Hp} {h h' : Heap} {a C dx : Addr} {fs fs' : List (Str × V)}
theorem ins_get (hok : HOk P w H h) (e : H a = some (.ins C dx fs)) : ∃ mA, ObjM h a dx C mA ∧ (∀ f, RelO (fs.lookup f) (mA f)) ∧ PySem.Within mA (fs.map (·.1)) ∧ fs.length ≤ 1000 ∧ H dx = some (.own a) := by
  obtain ⟨d, z, ne, ob, mA, n, r, q⟩ := (show ObjOk P w H h a (.ins C dx fs) from hok a _ e)
  exact ⟨mA, ⟨ob, n, ne⟩, r, q, z, d⟩
end

/-! ### what of the text a class must have -/
structure Cls (K : PySem.W.Frag) (C : Addr) : Prop where
  pg : PySem.W.plainGet K C Str.empty = true
  hd : PySem.W.hasDictIn K C = true
  po : PySem.W.plainOver K C = true
  sa : PySem.W.findIn K (.ref C) "__setattr__" = some (some (.builtin "object.__setattr__"))
theorem Cls.get {K : PySem.W.Frag} {C : Addr} (c : Cls K C) (f : Str) : PySem.W.plainGet K C f = true := c.pg
/-- no class of it has the name -/
def NoAttr (K : PySem.W.Frag) (C : Addr) (f : Str) : Prop := PySem.W.findIn K (.ref C) f = some none
/-- a constant of the class -/
structure Con (K : PySem.W.Frag) (C : Addr) (f : Str) (v : V) (u : Value) : Prop where
  at_ : PySem.W.findIn K (.ref C) f = some (some u)
  rel : RelV v u
  get : PySem.W.specialIn K u "__get__" = some none
  cp : PySem.W.copiedNames.contains f = false
/-- a method: a plain def of the class or of one above it -/
structure Meth (K : PySem.W.Frag) (C : Addr) (m : Str) (f : Addr) : Prop where
  at_ : PySem.W.findIn K (.ref C) m = some (some (.ref f))
  fn : PySem.W.isFn K (.ref f) = true
  kp : PySem.W.keepIn K (.ref f) = true

section
variable {X : Cx} {pins : List (Addr × Obj)} {σ : St} {H : Hp} {s : Shared} {a C dx : Addr} {fs : List (Str × V)} {f : Str} {v : V} {A : Around} {E : Value → Shared → Prop}

end

/-! ### readings and rules -/
/-- e.f, an attribute of the instance -/
def tFld (K : PySem.W.Frag) (ta : TE) (f : Str) : TE := fun σ H Q => ta σ H fun x H1 => ∃ a C dx fs v, x = .ref a ∧ H1 a = some (.ins C dx fs) ∧ Cls K C ∧ NoAttr K C f ∧ fs.lookup f = some v ∧ Q v H1
/-- e.f, a constant of the class -/
def tCon (K : PySem.W.Frag) (ta : TE) (f : Str) : TE := fun σ H Q => ta σ H fun x H1 => ∃ a C dx fs v u, x = .ref a ∧ H1 a = some (.ins C dx fs) ∧ Cls K C ∧ Con K C f v u ∧ fs.lookup f = none ∧ Q v H1
/-- e.f = value -/
def sFld (K : PySem.W.Frag) (ta tv : TE) (f : Str) : TS := fun D σ H => tv σ H fun y H1 => ta σ H1 fun x H2 => ∃ a C dx fs, x = .ref a ∧ H2 a = some (.ins C dx fs) ∧ Cls K C ∧ NoAttr K C f ∧ fs.length < 1000 ∧
  D.nx σ (upd H2 a (.ins C dx (putF f y fs)))
/-- an augmented operator on two values -/
def InOp (X : Cx) (op : Operator) (rd : V → V → Hp → VK → Prop) : Prop :=
  ∀ (pins : List (Addr × Obj)) (s : Shared) (σ : St) (H : Hp) (x y : V) (u v : Value) (Q : VK), Inv X pins σ H s → RelV x u → RelV y v → rd x y H Q → wpAny (model X.prog X.w) X.A (inplaceOp op u v) (EP X pins σ Q) X.xe s
/-- e.f op= value -/
def sFldAug (K : PySem.W.Frag) (ta tv : TE) (rd : V → V → Hp → VK → Prop) (f : Str) : TS := fun D σ H => ta σ H fun x H1 => ∃ a C dx fs v, x = .ref a ∧ H1 a = some (.ins C dx fs) ∧ Cls K C ∧ NoAttr K C f ∧ fs.lookup f = some v ∧
  tv σ H1 fun y H2 => rd v y H2 fun z H3 => ∃ dx' fs', H3 a = some (.ins C dx' fs') ∧ fs'.length < 1000 ∧ D.nx σ (upd H3 a (.ins C dx' (putF f z fs')))

section
variable {X : Cx} {o e value : Expr} {f : Str} {pos pos' tpos : Pos} {ta tv : TE}
def rAdd : V → V → Hp → VK → Prop := fun x y H Q => ∃ i j, x = .int i ∧ y = .int j ∧ Q (.int (i + j)) H
def rSub : V → V → Hp → VK → Prop := fun x y H Q => ∃ i j, x = .int i ∧ y = .int j ∧ Q (.int (i - j)) H
end

/-! ### isinstance -/
section
variable {X : Cx} {pins : List (Addr × Obj)} {σ : St} {H : Hp} {s : Shared} {A : Around} {E : Value → Shared → Prop} {Q : Value → Shared → Prop} {c : Value} {b : Bool}
/-- the type of a value, as the fragment's deciders take it; for an instance its class -/
inductive TyOf (K : PySem.W.Frag) (H : Hp) : V → Value → Prop where
  | non : TyOf K H .non (.type "NoneType")
  | bl (x : Bool) : TyOf K H (.bl x) (.type "bool")
  | int (i : Int) : TyOf K H (.int i) (.type "int")
  | str (x : Str) : TyOf K H (.str x) (.type "str")
  | flt (x : UInt64) : TyOf K H (.flt x) (.type "float")
  | lst {a : Addr} {xs : List V} (e : H a = some (.lst xs)) : TyOf K H (.ref a) (.type "list")
  | frz {a : Addr} {o : Obj} {xs : List V} (e : H a = some (.frz o (.lst xs))) : TyOf K H (.ref a) (.type "list")
  | tup {a : Addr} {xs : List V} (e : H a = some (.tup xs)) : TyOf K H (.ref a) (.type "tuple")
  | dK {a : Addr} {kvs : List (Key × V)} (e : H a = some (.dK kvs)) : TyOf K H (.ref a) (.type "dict")
  | dT {a : Addr} {kvs : List (List Key × V)} (e : H a = some (.dT kvs)) : TyOf K H (.ref a) (.type "dict")
  | ins {a C dx : Addr} {fs : List (Str × V)} (e : H a = some (.ins C dx fs)) (cl : Cls K C) (ha : PySem.W.findIn K (.ref C) "__class__" = some (some (.builtin "object.__class__")))
      (hn : PySem.W.specialIn K (.builtin "object.__class__") "__get__" = some (some (.builtin "getset_descriptor.__get__"))) (htk : PySem.W.takesIn K (.builtin "object.__class__") = some true)
      (hm : PySem.W.mroIn K C (.type "object") = some true) : TyOf K H (.ref a) (.ref C)
/-- isinstance(x, c) for one class c, a built-in or an own one: kitOne's answer -/
theorem isinst_ok {x : V} {u t : Value} (I : Inv X pins σ H s) (rx : RelV x u) (ty : TyOf X.K H x t) (e : PySem.W.kitOne X.K t c = some b) (h : ∀ tk, Q (.bool b) { s with toks := tk }) :
    wpAny (model X.prog X.w) A (call (.builtin "isinstance") [u, c]) Q E s := by
  cases ty with
  | non => cases (show u = Value.none from rx); exact PySem.W.kia_one PySem.W.kitx_none I.kIn True.intro e (fun z => nomatch z) h
  | bl y => cases (show u = Value.bool y from rx); exact PySem.W.kia_one PySem.W.kitx_bool I.kIn True.intro e (fun z => nomatch z) h
  | int i => obtain ⟨t, q⟩ := (show ∃ t, u = Value.int i t from rx); cases q; exact PySem.W.kia_one PySem.W.kitx_int I.kIn True.intro e (fun z => nomatch z) h
  | str y => obtain ⟨t, q⟩ := (show ∃ t, u = Value.str y t from rx); cases q; exact PySem.W.kia_one PySem.W.kitx_str I.kIn True.intro e (fun z => nomatch z) h
  | flt y => obtain ⟨t, q⟩ := (show ∃ t, u = Value.float y t from rx); cases q; exact PySem.W.kia_one PySem.W.kitx_float I.kIn True.intro e (fun z => nomatch z) h
  | @lst a xs ea =>
    cases (show u = Value.ref a from rx)
    obtain ⟨_, _, n, _, h1⟩ := (show ObjOk X.prog X.w H s.heap a (.lst xs) from I.hok a _ ea)
    exact PySem.W.kia_one PySem.W.kitx_list I.kIn ⟨_, h1, rfl⟩ e (fun z => nomatch z) h
  | @frz a ob xs ea =>
    cases (show u = Value.ref a from rx)
    obtain ⟨_, _, _, n, _, h1⟩ := (show ObjOk X.prog X.w H s.heap a (.frz ob (.lst xs)) from I.hok a _ ea)
    exact PySem.W.kia_one PySem.W.kitx_list I.kIn ⟨_, h1, rfl⟩ e (fun z => nomatch z) h
  | @tup a xs ea =>
    cases (show u = Value.ref a from rx)
    obtain ⟨_, _, _, p⟩ := (show ObjOk X.prog X.w H s.heap a (.tup xs) from I.hok a _ ea)
    obtain ⟨o, h1, h2, _⟩ := p
    exact PySem.W.kia_one PySem.W.kitx_tuple I.kIn ⟨o, h1, h2⟩ e (fun z => nomatch z) h
  | @dK a kvs ea =>
    cases (show u = Value.ref a from rx)
    obtain ⟨_, _, vs, _, p⟩ := (show ObjOk X.prog X.w H s.heap a (.dK kvs) from I.hok a _ ea)
    obtain ⟨o, es, ep, h1, h2, _⟩ := p
    exact PySem.W.kia_one PySem.W.kitx_dict I.kIn ⟨o, h1, h2.1⟩ e (fun z => nomatch z) h
  | @dT a kvs ea =>
    cases (show u = Value.ref a from rx)
    obtain ⟨_, _, xs, _, o, es, ep, h1, h2, _⟩ := (show ObjOk X.prog X.w H s.heap a (.dT kvs) from I.hok a _ ea)
    exact PySem.W.kia_one PySem.W.kitx_dict I.kIn ⟨o, h1, h2.1⟩ e (fun z => nomatch z) h
  | @ins a C dx fs ea cl ha hn htk hm =>
    cases (show u = Value.ref a from rx)
    obtain ⟨mA, O, _⟩ := ins_get I.hok ea
    obtain ⟨od, J, _⟩ := O.look
    exact PySem.W.kia_one (PySem.W.kitx_own (cl.get _) cl.hd ha hn htk hm) I.kIn J e (fun z => nomatch z) h
end
end L2

namespace L2
open PySem PySem.Spec PyProof.Rows

/-! ### room -/
structure Room (k : Nat) (A : Around) : Prop where
  hd : A.handled = none
  dp : A.depth + 3 * k + 5 < recursionLimit
  un : A.units + 16 * k + 200 < cLine
theorem Room.mono {j k : Nat} {A : Around} (r : Room k A) (h : j ≤ k) : Room j A := ⟨r.hd, by have := r.dp; omega, by have := r.un; omega⟩
theorem Room.deeper {k : Nat} {A : Around} (r : Room (k + 1) A) (env : Env) : Room k (A.deeper env) :=
  ⟨r.hd, by have := r.dp; show A.depth + 1 + 3 * k + 5 < _; omega, by have := r.un; show A.units + 3 + 16 * k + 200 < _; omega⟩
theorem Room.depth {k : Nat} {A : Around} (r : Room k A) : A.depth < recursionLimit := by have := r.dp; omega
theorem Room.units {k : Nat} {A : Around} (r : Room k A) : A.units + 64 < cLine := by have := r.un; omega
/-! ### argument lists and displays -/
def tNil : TA := fun _ H Q => Q [] H
def tCons (ta : TE) (tr : TA) : TA := fun σ H Q => ta σ H fun x H1 => tr σ H1 fun xs H2 => Q (x :: xs) H2
section
variable {X : Cx} {e : Expr} {es : List Expr} {te : TE} {t : TA} {pos : Pos}
theorem pa_nil : PA X [] tNil := fun _ _ _ _ H Q I h => Calls.spliced_nil ⟨[], H, I, .nil, h⟩
theorem pa_cons (ha : PE X e te) (hr : PA X es t) (hs : starEach (e :: es) X.env = (false, eval e X.env) :: starEach es X.env := by rfl) : PA X (e :: es) (tCons te t) := by
  intro pos pins s σ H Q I h
  rw [hs]
  show wpAny _ _ (spliced ((false, eval e X.env) :: backTo pos (starEach es X.env))) _ _ s
  refine Calls.spliced_cons (thn (ha pins s σ H _ I h) fun u s1 ⟨x, H1, I1, r1, q1⟩ => ?_)
  exact thn (hr pos pins s1 σ H1 _ I1 q1) fun us s2 ⟨xs, H2, I2, r2, q2⟩ => ⟨x :: xs, H2, I2, .cons r1 r2, q2⟩

/-- a tuple, a list of written items -/
def tTup (t : TA) : TE := fun σ H Q => t σ H fun xs H1 => xs.length ≤ sizeLine ∧ ∀ p, H1 p = none → Q (.ref p) (upd H1 p (.tup xs))
def tLst (t : TA) : TE := fun σ H Q => t σ H fun xs H1 => xs.length ≤ sizeLine ∧ ∀ p, H1 p = none → Q (.ref p) (upd H1 p (.lst xs))
theorem pe_tup {x1} (h : PA X es t) : PE X (.Tuple es x1 pos) (tTup t) := by
  intro pins s σ H Q I hq
  refine wpAny_Tuple_spliced (thn (h pos pins s σ H _ I hq) fun us s1 ⟨xs, H1, I1, r, z, q⟩ => ⟨by rw [← r.length]; exact z, ?_⟩)
  have hf : H1 s1.heap.objs.size = none := I1.hok.fresh (Nat.le_refl _)
  refine ⟨.ref s1.heap.objs.size, upd H1 s1.heap.objs.size (.tup xs), I1.laid (t' := s1.toks) (fun b u e => Heap.get?_push_of_some _ e) (Nat.le_refl _) ?_, rfl, q _ hf⟩
  exact ⟨z, us, r, ⟨_, Heap.get?_push_size _ rfl, rfl, _, rfl⟩⟩
theorem pe_lst (h : PA X es t) : PE X (.List es pos) (tLst t) := by
  intro pins s σ H Q I hq
  refine wpAny_List_spliced (thn (h pos pins s σ H _ I hq) fun us s1 ⟨xs, H1, I1, r, z, q⟩ => ⟨by rw [← r.length]; exact z, ?_⟩)
  have hf : H1 s1.heap.objs.size = none := I1.hok.fresh (Nat.le_refl _)
  refine ⟨.ref s1.heap.objs.size, upd H1 s1.heap.objs.size (.lst xs), I1.laid (t' := s1.toks) (fun b u e => Heap.get?_push_of_some _ e) (Nat.le_refl _) ?_, rfl, q _ hf⟩
  exact ⟨z, us, 0, r, Heap.get?_push_size _ rfl⟩
end

/-! ### what a def promises -/
/-- a def's promise: the bound arguments in the parameters' order, the heap, the wanted end, the wanted exception -/
abbrev Sp := List V → Hp → VK → XK → Prop
/-- how an exception lies behind a call (file 08 gives it): the callers' frames, abstract heap and state ahead of the call, the wish, the exception, the state -/
abbrev CXT := List Env → Hp → Shared → XK → Value → Shared → Prop

/-- the state at a call -/
structure Env0 (P : Program) (w : World) (K : PySem.W.Frag) (mg : Str → Option Value) (base : Heap) (A : Around) (outer : List Env) (s : Shared) (H : Hp) : Prop where
  frames : A.frames = some outer
  mod : Mod K mg base
  bs : ∀ b o, base.get? b = some o → s.heap.get? b = some o ∧ H b = none
  bsz : base.objs.size ≤ s.heap.objs.size
  funs : s.heap.FunFrames base outer
  frf : ∀ b ∈ frs outer, H b = none
  hok : HOk P w H s.heap
  bare : AllBare s.gens
/-- a call's end -/
def CE (outer : List Env) (P : Program) (w : World) (H : Hp) (s : Shared) (Q : VK) (u : Value) (s' : Shared) : Prop :=
  ∃ v H', s'.os = s.os ∧ AllBare s'.gens ∧ Un (frs outer) [] H H' s.heap s'.heap ∧ HOk P w H' s'.heap ∧ RelV v u ∧ Q v H'
def CR (CX : CXT) (outer : List Env) (P : Program) (w : World) (H : Hp) (s : Shared) (Q : VK) (E : XK) (r : Result) (s' : Shared) : Prop :=
  match r with
  | .ok (.ret u) => CE outer P w H s Q u s'
  | .ok _ => False
  | .error e => CX outer H s E e s'
structure FnOk (P : Program) (w : World) (K : PySem.W.Frag) (mg : Str → Option Value) (base : Heap) (CX : CXT) (k : Nat) (f : Addr) (fd : FuncData) (ps : List Str) (sp : Sp) : Prop where
  len : ∀ vs H Q E, sp vs H Q E → vs.length = ps.length
  run : ∀ (A : Around) (outer : List Env) (s : Shared) (H : Hp) (args : Args) (us : List Value) (vs : List V) (Q : VK) (E : XK), Room k A → Env0 P w K mg base A outer s H → BindsTo s fd args (ps.zip us) → Vals vs us → sp vs H Q E →
    codeAny (model P w) A (.call (.ref f) args) (CR CX outer P w H s Q E) s
section
variable {X : Cx} {pins : List (Addr × Obj)} {σ : St} {H : Hp} {s s' : Shared}
/-- from a body: what a callee wants -/
theorem Inv.env0 (I : Inv X pins σ H s) : Env0 X.prog X.w X.K X.mg X.base X.A X.stack s H :=
  ⟨I.ok.frames, I.ok.mod, I.bs, Nat.le_trans I.ok.bsz I.sz, I.stack, I.stkFree, I.hok, I.bare⟩
/-- behind a call -/
theorem Inv.after {Q : VK} {u : Value} (I : Inv X pins σ H s) (h : CE X.stack X.prog X.w H s Q u s') : EP X pins σ Q u s' := by
  obtain ⟨v, H', os, bare, un, hok, r, q⟩ := h
  obtain ⟨hh, g, d, t, os'⟩ := s'
  obtain rfl : os' = s.os := os
  exact ⟨v, H', I.call (h' := hh) (g' := g) (d' := d) (t' := t) (ch := []) un hok bare (fun b z => absurd z (by simp)), r, q⟩
end

/-! ### calls -/
/-- f(..): the written arguments, then the defaults dvs; E: what is wanted of an exception -/
def tCall (sp : Sp) (dvs : List V) (E : XK) (t : TA) : TE := fun σ H Q => t σ H fun vs H1 => sp (vs ++ dvs) H1 Q E
/-- o.m(..) of an instance of the class at C -/
def tMeth (C : Addr) (m : Str) (sp : Sp) (dvs : List V) (E : XK) (ta : TE) (t : TA) : TE := fun σ H Q => ta σ H fun x H1 => ∃ a dx fs, x = .ref a ∧ H1 a = some (.ins C dx fs) ∧ fs.lookup m = none ∧
  t σ H1 fun vs H2 => sp (x :: (vs ++ dvs)) H2 Q E
/-- C(..): a new instance and its dict, then __init__ -/
def tMake (C : Addr) (sp : Sp) (dvs : List V) (E : XK) (t : TA) : TE := fun σ H Q => t σ H fun vs H1 => ∀ x dx, H1 x = none → H1 dx = none → dx ≠ x →
  sp (.ref x :: (vs ++ dvs)) (upd (upd H1 dx (.own x)) x (.ins C dx [])) (fun v H2 => v = .non ∧ Q (.ref x) H2) E

/-- how the parameters are bound: us the positional arguments, kw the keywords' values by name, ds the defaults that fill up -/
def Binds (K : PySem.W.Frag) (fd : FuncData) (ps : List Str) (ds : List Value) : Prop :=
  ∀ (s : Shared) (us : List Value), K.In s.heap → (us ++ ds).length = ps.length → BindsTo s fd ⟨us, []⟩ (ps.zip (us ++ ds))
/-- every parameter is given -/
theorem Binds.all {K : PySem.W.Frag} {fd : FuncData} {ps : List Str} (h : ∀ us : List Value, us.length = ps.length → bindArgs fd ⟨us, []⟩ = pure (ps.zip us)) : Binds K fd ps [] := fun s us _ hl => by
  rw [List.append_nil] at hl ⊢
  exact .of_eq (h us hl)

/-- an exception of a callee reaches what this body wants of exceptions -/
def Passes (CX : CXT) (X : Cx) (E : XK) : Prop := ∀ (pins : List (Addr × Obj)) (σ : St) (H : Hp) (s : Shared) (e : Value) (s' : Shared), Inv X pins σ H s → CX X.stack H s E e s' → X.xe e s'

section
variable {X : Cx} {CX : CXT} {k : Nat} {f C : Addr} {fd : FuncData} {ps : List Str} {sp : Sp} {dvs : List V} {ds : List Value} {E : XK} {x m : Str} {p pos apos : Pos} {e o : Expr} {es : List Expr} {ta : TE} {t : TA}

/-- the callee runs -/
theorem run_fn {pins : List (Addr × Obj)} {σ : St} {H : Hp} {s : Shared} {Q : VK} {us : List Value} {vs : List V} (F : FnOk X.prog X.w X.K X.mg X.base CX k f fd ps sp) (hr : Room k X.A) (hb : Binds X.K fd ps ds) (hd : Vals dvs ds) (hx : Passes CX X E)
    (I : Inv X pins σ H s) (r : Vals vs us) (h : sp (vs ++ dvs) H Q E) : wpAny (model X.prog X.w) X.A (call (.ref f) us) (EP X pins σ Q) X.xe s := by
  have r2 : Vals (vs ++ dvs) (us ++ ds) := r.append hd
  have hl : (us ++ ds).length = ps.length := by rw [← r2.length]; exact F.len _ _ _ _ h
  refine wpAny_call (codeAny_mono (F.run X.A X.stack s H ⟨us, []⟩ (us ++ ds) (vs ++ dvs) Q E hr I.env0 (hb s us I.kIn hl) r2 h) fun r s' hq => ?_)
  cases r with
  | error e => exact hx pins σ H s e s' I hq
  | ok fl =>
    cases fl with
    | ret u => exact I.after hq
    | next => exact False.elim hq
    | brk => exact False.elim hq
    | cont => exact False.elim hq

theorem pe_call (F : FnOk X.prog X.w X.K X.mg X.base CX k f fd ps sp) (hr : Room k X.A) (hg : Gl X x) (hm : X.mg x = some (.ref f)) (hk : PySem.W.keepIn X.K (.ref f) = true) (hb : Binds X.K fd ps ds) (hd : Vals dvs ds) (hx : Passes CX X E)
    (ha : PA X (e :: es) t) (hdb : (x == ("__debug__" : Str)) = false := by decide) (he : starEach (e :: es) X.env = (false, eval e X.env) :: starEach es X.env := by rfl) (hpl : (backTo pos (starEach es X.env)).any (·.1) = false := by rfl) :
    PE X (.Call (.Name x p) (e :: es) [] pos) (tCall sp dvs E t) := by
  intro pins s σ H Q I h
  refine wpAny_Call_Name_kw (ld_glob I hg hm ?_ hdb)
  refine PySem.W.callWith_K (h₀ := X.base) I.ok.mod.kin hk (thn (ha pos pins s σ H _ I h) fun us s1 ⟨vs, H1, I1, r, q⟩ => ⟨I1.kIn, ?_⟩) he hpl
  exact run_fn F hr hb hd hx I1 r q
/-- what a class must have to be made -/
structure Mk (K : PySem.W.Frag) (C f : Addr) : Prop where
  makes : PySem.W.makesIn K C = true
  init : PySem.W.findIn K (.ref C) "__init__" = some (some (.ref f))
  fn : PySem.W.isFn K (.ref f) = true
  kp : PySem.W.keepIn K (.ref C) = true

end

/-! ### keywords -/
/-- the values of the keywords, from the left -/
def PK (X : Cx) (kws : List Keyword) (t : TA) : Prop :=
  ∀ (pos : Pos) (pins : List (Addr × Obj)) (s : Shared) (σ : St) (H : Hp) (Q : List V → Hp → Prop), Inv X pins σ H s → t σ H Q → wpAny (model X.prog X.w) X.A (evalAll ((backToKw pos (keywordEach kws X.env)).map (·.2))) (AP X pins σ Q) X.xe s
section
variable {X : Cx} {CX : CXT} {k : Nat} {f C : Addr} {fd : FuncData} {ps ks : List Str} {sp : Sp} {E : XK} {x m : Str} {p pos apos kpos : Pos} {e o : Expr} {es : List Expr} {kws : List Keyword} {te ta : TE} {t tk : TA} {nm : Option Str}
/-- how a call with keywords binds: g puts the positional values us and the keywords' values ws (names ks) in the parameters' order, defaults among them -/
structure KBinds (K : PySem.W.Frag) (fd : FuncData) (ps ks : List Str) (g : List Value → List Value → List Value) (gV : List V → List V → List V) : Prop where
  to : ∀ (s : Shared) (us ws : List Value), K.In s.heap → (g us ws).length = ps.length → BindsTo s fd ⟨us, ks.zip ws⟩ (ps.zip (g us ws))
  rel : ∀ {vs : List V} {us : List Value} {zs : List V} {ws : List Value}, Vals vs us → Vals zs ws → Vals (gV vs zs) (g us ws)
def tCallK (sp : Sp) (gV : List V → List V → List V) (E : XK) (t tk : TA) : TE := fun σ H Q => t σ H fun vs H1 => tk σ H1 fun zs H2 => sp (gV vs zs) H2 Q E
variable {g : List Value → List Value → List Value} {gV : List V → List V → List V}
end

/-! ### a def's body keeps its promise -/
/-- names: the parameters first -/
structure FnScope (N P : List Str) (sc : Scope) : Prop where
  kind : sc.kind = .function
  co : sc.isCoroutine = false
  gen : sc.isGenerator = false
  nd : N.Nodup
  pre : N.take P.length = P
  par : ∀ x ∈ P, sc.names.lookup x = some .local ∨ sc.names.lookup x = some .cell
  nofree : ∀ y ∈ sc.names, y.2 ≠ .free

theorem bindL_out {kindOf : Str → Option NameKind} {x : Str} : ∀ {binds : List (Str × Value)} {m : Str → Option Value}, (∀ v, (x, v) ∉ binds) → bindL kindOf binds m x = m x
  | [], _, _ => rfl
  | (n, v) :: r, m, h => by
    unfold bindL
    rw [bindL_out fun w hw => h w (List.mem_cons_of_mem _ hw)]
    split
    · have : x ≠ n := by rintro rfl; exact h v List.mem_cons_self
      simp [this]
    · rfl
theorem bindC_out {kindOf : Str → Option NameKind} {x : Str} : ∀ {binds : List (Str × Value)} {m : Str → Option Value}, (∀ v, (x, v) ∉ binds) → bindC kindOf binds m x = m x
  | [], _, _ => rfl
  | (n, v) :: r, m, h => by
    unfold bindC
    rw [bindC_out fun w hw => h w (List.mem_cons_of_mem _ hw)]
    split
    · rfl
    · have : x ≠ n := by rintro rfl; exact h v List.mem_cons_self
      simp [this]
theorem bindL_get {kindOf : Str → Option NameKind} {x : Str} {v : Value} : ∀ {P : List Str} {vs : List Value} {i : Nat} {m : Str → Option Value}, P.Nodup → P[i]? = some x → vs[i]? = some v → kindOf x = some .local →
    bindL kindOf (P.zip vs) m x = some v
  | [], _, _, _, _, h, _, _ => by simp at h
  | _ :: _, [], _, _, _, _, h, _ => by simp at h
  | p :: P, w :: vs, 0, m, nd, h1, h2, hk => by
    simp at h1 h2; subst h1; subst h2
    show bindL kindOf ((p, w) :: P.zip vs) m p = _
    unfold bindL
    rw [bindL_out fun v hv => (List.nodup_cons.mp nd).1 (List.of_mem_zip hv).1, if_pos hk]
    simp
  | p :: P, w :: vs, i + 1, m, nd, h1, h2, hk => by
    show bindL kindOf ((p, w) :: P.zip vs) m x = _
    unfold bindL
    exact bindL_get (i := i) (List.nodup_cons.mp nd).2 (by simpa using h1) (by simpa using h2) hk
theorem bindC_get {kindOf : Str → Option NameKind} {x : Str} {v : Value} : ∀ {P : List Str} {vs : List Value} {i : Nat} {m : Str → Option Value}, P.Nodup → P[i]? = some x → vs[i]? = some v → kindOf x ≠ some .local →
    bindC kindOf (P.zip vs) m x = some v
  | [], _, _, _, _, h, _, _ => by simp at h
  | _ :: _, [], _, _, _, _, h, _ => by simp at h
  | p :: P, w :: vs, 0, m, nd, h1, h2, hk => by
    simp at h1 h2; subst h1; subst h2
    show bindC kindOf ((p, w) :: P.zip vs) m p = _
    unfold bindC
    rw [bindC_out fun v hv => (List.nodup_cons.mp nd).1 (List.of_mem_zip hv).1, if_neg hk]
    simp
  | p :: P, w :: vs, i + 1, m, nd, h1, h2, hk => by
    show bindC kindOf ((p, w) :: P.zip vs) m x = _
    unfold bindC
    exact bindC_get (i := i) (List.nodup_cons.mp nd).2 (by simpa using h1) (by simpa using h2) hk

/-- the names' values at the entry -/
def start (N : List Str) (vs : List V) : St := vs.map some ++ List.replicate (N.length - vs.length) none

/-- the context of a def's body, at its entry; an exception leaves the frame, then lies as CX says -/
def cxOf (CX : CXT) (P : Program) (w : World) (K : PySem.W.Frag) (mg : Str → Option Value) (base : Heap) (N : List Str) (qual : Str) (scope : Scope) (f : Addr) (cd : Value) (A : Around) (outer : List Env) (s : Shared) (H : Hp) (E : XK) : Cx where
  prog := P
  w := w
  K := K
  mg := mg
  base := base
  A := A.deeper (envOfC qual scope s.heap.objs.size f cd)
  N := N
  s₀ := s
  H₀ := H
  env := envOfC qual scope s.heap.objs.size f cd
  outer := outer
  stack := envOfC qual scope s.heap.objs.size f cd :: outer
  ex := []
  calm := true
  fn := fun _ => true
  pn := []
  xe := fun e s' => wpAny (model P w) (A.deeper (envOfC qual scope s.heap.objs.size f cd)) (leaving (envOfC qual scope s.heap.objs.size f cd) e) (fun _ s'' => CX outer H s E e s'') (fun e' s'' => CX outer H s E e' s'') s'

theorem cell_has {sc : Scope} {n : Nat} {x : Str} (h : sc.names.lookup x = some .cell) : ∃ c, (cellsFrom n sc.names []).lookup x = some c := by
  have q := PySem.W.cellsFrom_some sc.names n [] (.inl h)
  exact Option.isSome_iff_exists.mp q

theorem inv_start {CX : CXT} {P : Program} {w : World} {K : PySem.W.Frag} {mg : Str → Option Value} {base : Heap} {N ps : List Str} {qual : Str} {scope : Scope} {f : Addr} {cd : Value} {A : Around} {outer : List Env} {s s1 : Shared} {H : Hp} {E : XK} {us : List Value} {vs : List V}
    (S : FnScope N ps scope) (hd : A.handled = none) (e0 : Env0 P w K mg base A outer s H) (hl : vs.length = ps.length) (r : Vals vs us)
    (x : InCallC s s.heap.objs.size (bindL (envOfC qual scope s.heap.objs.size f cd).kindOf (ps.zip us) fun _ => none) (cellsFrom (s.heap.objs.size + 1) scope.names []) (bindC (envOfC qual scope s.heap.objs.size f cd).kindOf (ps.zip us) fun _ => none) s1) :
    Inv (cxOf CX P w K mg base N qual scope f cd A outer s H E) [] (start N vs) H s1 := by
  have hpl : ps.length ≤ N.length := by have := congrArg List.length S.pre; rw [List.length_take] at this; omega
  obtain ⟨h1, tk, rfl, hk⟩ := x.done
  have noA : ∀ b : Addr, b ∉ (cxOf CX P w K mg base N qual scope f cd A outer s H E).ex := fun b z => absurd (show b ∈ ([] : List Addr) from z) (by simp)
  refine ⟨⟨e0.mod, S.kind, rfl, rfl, Nat.le_refl _, fun y z c h1 h2 => ?_, fun y hy => ?_, fun y c _ h => ?_, fun _ => hd, Around.frames_deeper e0.frames, .inr ⟨rfl, rfl⟩, fun b z => absurd z (noA b), e0.bs, e0.bsz, fun b _ _ => noA b, fun b z => absurd z (noA b), e0.funs, e0.frf⟩,
    rfl, e0.bare, Un.kept hk, ⟨_, x.toInCall.ns, fun i y v h1 h2 h3 => ?_⟩, fun y c h => ⟨_, x.cell y c h⟩, e0.hok.fresh (Nat.le_refl _), fun y c h => ?_, fun p hp => absurd (show p ∈ ([] : List (Addr × Obj)) from hp) (by simp), e0.hok.kept hk, ?_⟩
  · exact name_of_addr x.apart (PySem.mem_of_lookup h1) (PySem.mem_of_lookup h2)
  · have hy : scope.names.lookup y = some .cell ∨ scope.names.lookup y = some .free := hy
    rcases hy with hy | hy
    · exact cell_has hy
    · exact absurd rfl (S.nofree _ (PySem.mem_of_lookup hy))
  · exact Nat.le_of_lt (x.above y c (PySem.mem_of_lookup h))
  · have hi : i < vs.length := by
      unfold start at h2
      by_cases hi : i < vs.length
      · exact hi
      · rw [List.getElem?_append_right (by simpa using hi)] at h2
        rw [List.getElem?_replicate] at h2
        split at h2 <;> cases h2
    have ha : vs[i]? = some v := by
      unfold start at h2
      rw [List.getElem?_append_left (by simpa using hi), List.getElem?_map] at h2
      cases e : vs[i]? with
      | none => rw [e] at h2; cases h2
      | some a => rw [e] at h2; cases h2; rfl
    obtain ⟨u, hu, rv⟩ := r.get ha
    have hp : ps[i]? = some y := by
      rw [← S.pre, List.getElem?_take_of_lt (by omega)]; exact h1
    have ndP : ps.Nodup := by rw [← S.pre]; exact S.nd.sublist (List.take_sublist _ _)
    refine ⟨u, rv, ?_⟩
    rcases S.par y (List.mem_of_getElem? hp) with k | k
    · exact .inl ⟨k, bindL_get ndP hp hu k⟩
    · obtain ⟨c, e⟩ := cell_has (n := s.heap.objs.size + 1) k
      refine .inr ⟨.inl k, c, e, ?_⟩
      have q := x.cell y c e
      rw [bindC_get ndP hp hu (by show scope.names.lookup y ≠ _; rw [k]; decide)] at q
      exact q
  · exact e0.hok.fresh (Nat.le_of_lt (x.above y c (PySem.mem_of_lookup h)))
  · unfold start
    show _ = N.length
    rw [List.length_append, List.length_map, List.length_replicate]
    omega

/-- THE RULE: a def (or a method) of the text, by its body. The body's reading t is chosen for each entry; it is run at the parameters' values -/
theorem fn_of {CX : CXT} {P : Program} {w : World} {K : PySem.W.Frag} {mg : Str → Option Value} {base : Heap} {k : Nat} {f : Addr} {name qual : Str} {params : Arguments} {body : List Stmt} {scope : Scope} {dV kV doc pm cdv ct oc : Value} {an od : Option Addr}
    {osl : Array (Option Value)} {N ps : List Str} {sp : Sp} (lk : K.lookup f = some ⟨oc, od, .func (PySem.W.fnOf name qual params body scope dV kV doc pm an cdv ct), osl⟩) (hcd : PySem.W.codeIn K cdv qual = true) (S : FnScope N ps scope)
    (len : ∀ vs H Q E, sp vs H Q E → vs.length = ps.length)
    (hbody : ∀ (A : Around) (outer : List Env) (s : Shared) (H : Hp) (vs : List V) (Q : VK) (E : XK), Room k (A.deeper (envOfC qual scope s.heap.objs.size f cdv)) → sp vs H Q E →
      ∃ t, PSs (cxOf CX P w K mg base N qual scope f cdv A outer s H E) body t ∧ t { nx := fun _ H' => Q .non H', rt := Q } (start N vs) H) :
    FnOk P w K mg base CX (k + 1) f (PySem.W.fnOf name qual params body scope dV kV doc pm an cdv ct) ps sp := by
  refine ⟨len, fun A outer s H args us vs Q E hr e0 hb r hsp => ?_⟩
  have hl := len _ _ _ _ hsp
  have KX : K.In s.heap := e0.mod.kin.keeps fun b o e => (e0.bs b o e).1
  have lim : s.heap.NoLimit := e0.mod.nolimit.keeps fun b o e => (e0.bs b o e).1
  have hkind : ∀ y ∈ ps.zip us, scope.names.lookup y.1 = some .local ∨ (scope.names.lookup y.1 = some .cell ∧ ((cellsFrom (s.heap.objs.size + 1) scope.names []).lookup y.1).isSome = true) := fun ⟨n, v⟩ hy => by
    rcases S.par n (List.of_mem_zip hy).1 with q | q
    · exact .inl q
    · exact .inr ⟨q, PySem.W.cellsFrom_some _ _ _ (.inl q)⟩
  refine codeAny_call_function hr.depth (KX _ _ lk) rfl S.co S.gen rfl (PySem.W.codeRec_of KX hcd) (hb _ _ _ _ ?_)
  refine wpAny_newFunctionEnv_cells S.kind hkind fun env he s1 x => ?_
  subst he
  refine ⟨lim.keeps x.toInCall.keep, codeAny_func ?_⟩
  obtain ⟨t, ht, hq⟩ := hbody A outer s H vs Q E (hr.deeper _) hsp
  have I : Inv (cxOf CX P w K mg base N qual scope f cdv A outer s H E) [] (start N vs) H s1 := inv_start S hr.hd e0 hl r x
  refine wpAny_mono (ht [] s1 (start N vs) H _ I hq) (fun fl s' hs => ?_) fun e s' hs => hs
  have fin : ∀ {σ' : St} {H' : Hp} {v : V} {u : Value}, Inv (cxOf CX P w K mg base N qual scope f cdv A outer s H E) [] σ' H' s' → RelV v u → Q v H' → CE outer P w H s Q u s' :=
    fun {σ' H' v u} J rv q => ⟨v, H', J.os, J.bare, J.base, J.hok, rv, q⟩
  cases fl with
  | ret u =>
    obtain ⟨v, σ', H', J, rv, q⟩ := hs
    exact fin J rv q
  | next =>
    obtain ⟨σ', H', J, q⟩ := hs
    exact fin (v := V.non) (u := Value.none) J rfl q
  | brk =>
    obtain ⟨_, _, _, q⟩ := hs
    exact False.elim q
  | cont =>
    obtain ⟨_, _, _, q⟩ := hs
    exact False.elim q
end L2

namespace L2
open PySem PySem.Spec PyProof.Rows
section
variable {X : Cx} {x : Str} {p pos : Pos} {e : Expr} {es : List Expr} {t : TA} {id T : String} {r : List V → Hp → VK → Prop}

def tCB (r : List V → Hp → VK → Prop) (t : TA) : TE := fun σ H Q => t σ H fun vs H1 => r vs H1 Q
/-- f(e, ..), f a built-in function -/
theorem pe_callB (hc : CallR X (.builtin id) r) (hg : Gl X x) (hm : X.mg x = none) (hv : bootBuiltins x = some (.builtin id)) (ha : PA X (e :: es) t) (hn : x ≠ "__name__" := by decide) (hdb : (x == ("__debug__" : Str)) = false := by decide)
    (he : starEach (e :: es) X.env = (false, eval e X.env) :: starEach es X.env := by rfl) (hpl : (backTo pos (starEach es X.env)).any (·.1) = false := by rfl) : PE X (.Call (.Name x p) (e :: es) [] pos) (tCB r t) := by
  intro pins s σ H Q I h
  refine wpAny_Call_Name_kw (ld_blt I hg hm hv ?_ hn hdb)
  exact PyProof.Rows.callWith_builtin1 (thn (ha pos pins s σ H _ I h) fun us s1 ⟨vs, H1, I1, r1, q1⟩ => hc pins s1 σ H1 vs us Q I1 r1 q1) he hpl
/-- T(e, ..), T a built-in type -/
theorem pe_callTy (hc : CallR X (.type T) r) (hg : Gl X x) (hm : X.mg x = none) (hv : bootBuiltins x = some (.type T)) (ha : PA X (e :: es) t) (hn : x ≠ "__name__" := by decide) (hdb : (x == ("__debug__" : Str)) = false := by decide)
    (he : starEach (e :: es) X.env = (false, eval e X.env) :: starEach es X.env := by rfl) (hpl : (backTo pos (starEach es X.env)).any (·.1) = false := by rfl) : PE X (.Call (.Name x p) (e :: es) [] pos) (tCB r t) := by
  intro pins s σ H Q I h
  refine wpAny_Call_Name_kw (ld_blt I hg hm hv ?_ hn hdb)
  exact PyProof.Rows.callWith_type1 (thn (ha pos pins s σ H _ I h) fun us s1 ⟨vs, H1, I1, r1, q1⟩ => hc pins s1 σ H1 vs us Q I1 r1 q1) he hpl
end
end L2

namespace HT
open PySem PyProof.Rows

/-- t < u of tuples of ints -/
def lexLt : List Int → List Int → Bool
  | [], [] => false
  | [], _ :: _ => true
  | _ :: _, [] => false
  | x :: xs, y :: ys => if x = y then lexLt xs ys else decide (x < y)
section
open PySem.SeqAt
open PySem.AutoSeq1 (wpAny_loadPart')
open PySem.MeetsSeq PySem.MeetsSeq2 PySem.MeetsSeq3

end

section
variable {prog : Program} {w : World} {A : Around} {E : Value → Shared → Prop} {s : Shared}

/-! ### t[a:b], not the whole -/
/-- a slice's bound as a place among n (d where it is left out) -/
def sIx (n d : Nat) : Option Int → Nat
  | none => d
  | some v => if v < 0 then (v + (n : Int)).toNat else min v.toNat n
theorem sIx_none (n d : Nat) : sIx n d none = d := rfl
theorem clip_eq (v : Int) (n d : Nat) : (if v < 0 then max (v + (n : Int)) 0 else min v (n : Int)) = ((sIx n d (some v) : Nat) : Int) := by
  show (if v < 0 then max (v + (n : Int)) 0 else min v (n : Int)) = (((if v < 0 then (v + (n : Int)).toNat else min v.toNat n) : Nat) : Int)
  by_cases hv : v < 0
  · simp only [if_pos hv]; omega
  · simp only [if_neg hv]; omega
end
end HT

namespace L2
open PySem PySem.Spec PyProof.Rows

/-! ### the parts of a slice -/
abbrev TO := St → Hp → (Option Int → Hp → Prop) → Prop
/-- a slice's part (left out, or an int) -/
def PO (X : Cx) (e : Option Expr) (t : TO) : Prop :=
  ∀ (pins : List (Addr × Obj)) (s : Shared) (σ : St) (H : Hp) (Q : Option Int → Hp → Prop), Inv X pins σ H s → t σ H Q →
    wpAny (model X.prog X.w) X.A (evalPart e X.env) (fun u s' => ∃ o H', Inv X pins σ H' s' ∧ IsPart u o ∧ Q o H') X.xe s
def tNoPart : TO := fun _ H Q => Q none H
def tPart (t : TE) : TO := fun σ H Q => t σ H fun x H1 => ∃ i, x = .int i ∧ Q (some i) H1

section
variable {X : Cx} {e : Expr} {te : TE} {lo hi : Option Expr} {tl th : TO} {pos p2 : Pos}

theorem po_none : PO X none tNoPart := by
  intro pins s σ H Q I h
  rw [evalPart_none]
  exact wpAny_pure ⟨none, H, I, .none, h⟩
theorem po_some (h : PE X e te) : PO X (some e) (tPart te) := by
  intro pins s σ H Q I hw
  rw [evalPart_some]
  refine thn (h pins s σ H _ I hw) fun u s1 ⟨x, H1, I1, r1, q1⟩ => ?_
  obtain ⟨i, rfl, q⟩ := q1
  obtain ⟨t, rfl⟩ := r1
  exact ⟨some i, H1, I1, .int i t, q⟩

/-- what a slice of a value is, by values: the slice object stands at sl -/
def SlR (X : Cx) (r : V → Option Int → Option Int → Hp → VK → Prop) : Prop :=
  ∀ (pins : List (Addr × Obj)) (s : Shared) (σ : St) (H : Hp) (x : V) (v vl vu : Value) (lo hi : Option Int) (sl : Addr) (Q : VK), Inv X pins σ H s → RelV x v → s.heap.IsSliceOf sl vl vu .none → IsPart vl lo → IsPart vu hi → r x lo hi H Q →
    ∃ T id, typeLookup (.type T) "__getitem__" = pure (some (.builtin id)) ∧ s.TypeIs v T ∧ wpAny (model X.prog X.w) X.A (getItem v (.ref sl)) (EP X pins σ Q) X.xe s
def tSl (r : V → Option Int → Option Int → Hp → VK → Prop) (te : TE) (tl th : TO) : TE := fun σ H Q => te σ H fun x H1 => tl σ H1 fun l H2 => th σ H2 fun u H3 => r x l u H3 Q
/-- a[lo:hi], any a -/
theorem pe_slice {r : V → Option Int → Option Int → Hp → VK → Prop} (hr : SlR X r) (he : PE X e te) (hl : PO X lo tl) (hu : PO X hi th) : PE X (.Subscript e (.Slice lo hi none p2) pos) (tSl r te tl th) := by
  intro pins s σ H Q I h
  refine Subscript_ (thn (he pins s σ H _ I h) fun v s1 ⟨x, H1, I1, r1, q1⟩ => ?_)
  refine wpAny_Slice (thn (hl pins s1 σ H1 _ I1 q1) fun vl s2 ⟨l, H2, I2, pl, q2⟩ => thn (hu pins s2 σ H2 _ I2 q2) fun vu s3 ⟨u, H3, I3, pu, q3⟩ => ?_)
  rw [evalPart_none]
  refine wpAny_pure ?_
  have I4 : Inv X pins σ H3 { s3 with heap := s3.heap.push { cls := .type "slice", data := .fields #[vl, vu, .none] } } := I3.kept (t' := s3.toks) fun b ob q => Heap.get?_push_of_some _ q
  obtain ⟨T, id, hT, ht, hg⟩ := hr pins { s3 with heap := s3.heap.push { cls := .type "slice", data := .fields #[vl, vu, .none] } } σ H3 x v vl vu l u s3.heap.objs.size Q I4 r1 (Heap.IsSliceOf.new ..) pl pu q3
  show wpAny (model X.prog X.w) X.A (subscriptTail e (.Slice lo hi none p2) v (.ref s3.heap.objs.size)) (EP X pins σ Q) X.xe { s3 with heap := s3.heap.push { cls := .type "slice", data := .fields #[vl, vu, .none] } }
  exact tail_any (ops := [.ref s3.heap.objs.size, v]) ht hT hg (by with_unfolding_all rfl)

/-- the items of xs[lo:hi] -/
def cutV (xs : List V) (lo hi : Option Int) : List V := (xs.drop (HT.sIx xs.length 0 lo)).take (HT.sIx xs.length xs.length hi - HT.sIx xs.length 0 lo)
theorem cutV_length (xs : List V) (lo hi : Option Int) : (cutV xs lo hi).length ≤ xs.length := by
  unfold cutV
  rw [List.length_take, List.length_drop]
  omega
/-- t[lo:hi], not the whole of it (the whole would be t itself) -/
def rSlT (K : PySem.W.Frag) : V → Option Int → Option Int → Hp → VK → Prop := fun x lo hi H Q => ∃ a xs, x = .ref a ∧ SqT K H a xs ∧
  ¬ (HT.sIx xs.length 0 lo = 0 ∧ HT.sIx xs.length xs.length hi = xs.length) ∧ ∀ p, H p = none → Q (.ref p) (upd H p (.tup (cutV xs lo hi)))
/-! ### t < u, t + u -/
def rLtT (K : PySem.W.Frag) : R2 := fun x y H Q => ∃ a b ns ms, x = .ref a ∧ y = .ref b ∧ SqT K H a (ns.map V.int) ∧ SqT K H b (ms.map V.int) ∧ Q (.bl (HT.lexLt ns ms)) H
/-- t + u, t not empty: u empty gives t itself -/
def rCatT (K : PySem.W.Frag) : R2 := fun x y H Q => ∃ a b xs ys, x = .ref a ∧ y = .ref b ∧ SqT K H a xs ∧ SqT K H b ys ∧ xs ≠ [] ∧ xs.length + ys.length ≤ sizeLine ∧
  (ys = [] → Q (.ref a) H) ∧ (ys ≠ [] → ∀ p, H p = none → Q (.ref p) (upd H p (.tup (xs ++ ys))))
end
end L2

namespace L2
open PySem PySem.Spec PyProof.Rows

/-! ### places -/
/-- the place that an index of any sign means -/
def ixN (n : Nat) (i : Int) : Option Nat := if 0 ≤ i then (if i < n then some i.toNat else none) else if -(n : Int) ≤ i then some (i + n).toNat else none
def atI {α : Type} (xs : List α) (i : Int) : Option α := (ixN xs.length i).bind fun j => xs[j]?
theorem ixN_seq {n : Nat} {i : Int} {j : Nat} (h : ixN n i = some j) : seqIndex? i n = some j ∧ j < n ∧ -(n : Int) ≤ i ∧ i < n := by
  unfold ixN at h
  by_cases h0 : 0 ≤ i
  · rw [if_pos h0] at h
    by_cases h1 : i < n
    · rw [if_pos h1] at h
      have e : i.toNat = j := Option.some.inj h
      exact ⟨by rw [seqIndex_of h0 h1, e], by omega, by omega, h1⟩
    · rw [if_neg h1] at h; cases h
  · rw [if_neg h0] at h
    by_cases h1 : -(n : Int) ≤ i
    · rw [if_pos h1] at h
      have e : (i + n).toNat = j := Option.some.inj h
      exact ⟨by rw [seqIndex_neg (by omega) h1, e], by omega, h1, by omega⟩
    · rw [if_neg h1] at h; cases h
theorem atI_get {α : Type} {xs : List α} {i : Int} {v : α} (h : atI xs i = some v) : ∃ j, seqIndex? i xs.length = some j ∧ xs[j]? = some v ∧ j < xs.length ∧ -(xs.length : Int) ≤ i ∧ i < xs.length := by
  unfold atI at h
  cases e : ixN xs.length i with
  | none => rw [e] at h; cases h
  | some j =>
    rw [e] at h
    obtain ⟨h1, h2, h3, h4⟩ := ixN_seq e
    exact ⟨j, h1, h, h2, h3, h4⟩
theorem atI_nat {α : Type} {xs : List α} {j : Nat} {v : α} (h : xs[j]? = some v) : atI xs (j : Int) = some v := by
  have hj : j < xs.length := (List.getElem?_eq_some_iff.mp h).1
  have e : ixN xs.length (j : Int) = some j := by
    unfold ixN
    rw [if_pos (by omega), if_pos (by omega)]; simp
  unfold atI; rw [e]; exact h
theorem atI_last {α : Type} (xs : List α) (v : α) : atI (xs ++ [v]) (-1) = some v := by
  have hl : (xs ++ [v]).length = xs.length + 1 := by simp
  have e : ixN (xs ++ [v]).length (-1) = some xs.length := by
    unfold ixN
    rw [hl, if_neg (by decide), if_pos (by omega)]
    congr 1
    omega
  unfold atI
  rw [e]
  show (xs ++ [v])[xs.length]? = some v
  simp

/-! ### what may be subscripted -/
/-- what stands as an index of a plain subscript -/
def PlainIx (b : Expr) : Prop := ∀ o i, subscripted b false o i = operate [o, i] (getItem o i)
/-- a subscript by values -/
def IxR (X : Cx) (r : R2) : Prop :=
  ∀ (value slice : Expr) (pins : List (Addr × Obj)) (s : Shared) (σ : St) (H : Hp) (x y : V) (v u : Value) (Q : VK), Inv X pins σ H s → RelV x v → RelV y u → r x y H Q →
    subscripted slice false v u = operate [v, u] (getItem v u) → wpAny (model X.prog X.w) X.A (subscriptTail value slice v u) (EP X pins σ Q) X.xe s
/-- a call of a builtin's method by values: the receiver, the arguments -/
def MtR (X : Cx) (id : String) (r : V → List V → Hp → VK → Prop) : Prop :=
  ∀ (pins : List (Addr × Obj)) (s : Shared) (σ : St) (H : Hp) (x : V) (xs : List V) (v : Value) (us : List Value) (Q : VK), Inv X pins σ H s → RelV x v → Vals xs us → r x xs H Q →
    wpAny (model X.prog X.w) X.A (call (.builtin id) (v :: us)) (EP X pins σ Q) X.xe s
section
variable {X : Cx} {a b : Expr} {ta tb : TE} {pos : Pos}
/-- a[b] -/
theorem pe_ix {r : R2} (hr : IxR X r) (ha : PE X a ta) (hb : PE X b tb) (hs : PlainIx b) : PE X (.Subscript a b pos) (tOp r ta tb) := by
  intro pins s σ H Q I h
  exact Subscript_ (binT ha hb I h fun v u s2 x y H2 I2 rx ry q => hr a b pins s2 σ H2 x y v u Q I2 rx ry q (hs _ _))

def rIxL (K : PySem.W.Frag) : R2 := fun x y H Q => ∃ p xs i v, x = .ref p ∧ y = .int i ∧ SqL K H p xs ∧ atI xs i = some v ∧ Q v H
def rIxT (K : PySem.W.Frag) : R2 := fun x y H Q => ∃ p xs i v, x = .ref p ∧ y = .int i ∧ SqT K H p xs ∧ atI xs i = some v ∧ Q v H
def rIxS : R2 := fun x y H Q => ∃ z i c, x = .str z ∧ y = .int i ∧ z.length ≤ sizeLine ∧ atI z.cps.toList i = some c ∧ Q (.str ⟨#[c]⟩) H
theorem ix_list : IxR X (rIxL X.K) := by
  intro value slice pins s σ H x y v u Q I rx ry h hs
  obtain ⟨p, xs, i, z, rfl, rfl, hq, he, q⟩ := h
  cases rx
  obtain ⟨t, rfl⟩ := ry
  obtain ⟨its, r, pl, hz⟩ := I.list hq
  obtain ⟨j, h1, h2, h3, h4, h5⟩ := atI_get he
  obtain ⟨w, ew, rw'⟩ := r.get h2
  have hl := r.length
  have hn := line63
  have fin : EP X pins σ Q w s := ⟨z, H, I, rw', q⟩
  by_cases h0 : 0 ≤ i
  · have hj : i.toNat = j := by
      rw [seqIndex_of h0 h5] at h1
      exact Option.some.inj h1
    exact item_listR pl.isList h0 (by omega) (by rw [hj]; simpa using ew) fin hs
  · have hj : (i + (its.toArray.size : Int)).toNat = j := by
      rw [seqIndex_neg (by omega) h4] at h1
      rw [List.size_toArray, ← hl]
      exact Option.some.inj h1
    exact subscriptTail_builtinR (x := w) pl.isList.typeIs slot_list_getitem.lookup
      (wpAny_getItem_list_neg (Q := fun r s' => r = w ∧ EP X pins σ Q r s') pl.isList (by omega) (by rw [List.size_toArray] <;> omega) (by omega) (by rw [hj]; simpa using ew) ⟨rfl, fin⟩) hs
theorem ix_tup : IxR X (rIxT X.K) := by
  intro value slice pins s σ H x y v u Q I rx ry h hs
  obtain ⟨p, xs, i, z, rfl, rfl, hq, he, q⟩ := h
  cases rx
  obtain ⟨t, rfl⟩ := ry
  obtain ⟨its, r, pl, hz⟩ := I.tuple hq
  obtain ⟨j, h1, h2, h3, h4, h5⟩ := atI_get he
  obtain ⟨w, ew, rw'⟩ := r.get h2
  have hl := r.length
  have hn := line63
  have fin : EP X pins σ Q w s := ⟨z, H, I, rw', q⟩
  exact subscriptTail_builtinR (x := w) pl.typeIs slot_tuple_getitem.lookup
    (getItem_tuple (j := j) (Q := fun r s' => r = w ∧ EP X pins σ Q r s') pl (by omega) (by omega) (by rw [List.size_toArray, ← hl]; exact h1) (by simpa using ew) ⟨rfl, fin⟩) hs
theorem ix_str : IxR X rIxS := by
  intro value slice pins s σ H x y v u Q I rx ry h hs
  obtain ⟨z, i, c, rfl, rfl, hz, he, q⟩ := h
  obtain ⟨t, rfl⟩ := rx
  obtain ⟨t', rfl⟩ := ry
  obtain ⟨j, h1, h2, h3, h4, h5⟩ := atI_get he
  have hl : z.cps.toList.length = z.length := by simp [Str.length]
  rw [hl] at h1 h4 h5
  have hn := line63
  exact tail_any (typeIs_str s z t) slot_str_getitem.lookup (getItem_str (c := c) (by
    have e1 : decide (i < -(2 ^ 63 : Int)) = false := decide_eq_false (by omega)
    have e2 : decide (i ≥ 2 ^ 63) = false := decide_eq_false (by omega)
    rw [e1, e2, Bool.or_false]) (by rw [h1]; simpa using h2) ⟨.str ⟨#[c]⟩, H, I.tok _, ⟨_, rfl⟩, q⟩) hs
/-- list, tuple or str -/
def rIx (K : PySem.W.Frag) : R2 := fun x y H Q => rIxL K x y H Q ∨ rIxT K x y H Q ∨ rIxS x y H Q
/-! ### xs[i] = v, any sign -/
def rSetL : V → V → V → Hp → (Hp → Prop) → Prop := fun o i v H Q => ∃ p xs k j, o = .ref p ∧ i = .int k ∧ H p = some (.lst xs) ∧ ixN xs.length k = some j ∧ Q (upd H p (.lst (xs.set j v)))
/-! ### slices -/
theorem slice_bounds (lo hi : Option Int) (n : Nat) : (sliceBounds lo hi none n).1 = ((HT.sIx n 0 lo : Nat) : Int) ∧ (sliceBounds lo hi none n).2.1 = ((HT.sIx n n hi : Nat) : Int) ∧ (sliceBounds lo hi none n).2.2 = 1 := by
  refine ⟨?_, ?_, rfl⟩
  · cases lo with
    | none => simp [sliceBounds, HT.sIx]
    | some i =>
      simp only [sliceBounds, HT.sIx, Option.getD_none, show (1 : Int) > 0 by decide, if_true]
      by_cases h : i < 0
      · simp only [h, if_true] <;> omega
      · simp only [h, if_false] <;> omega
  · cases hi with
    | none => simp [sliceBounds, HT.sIx]
    | some i =>
      simp only [sliceBounds, HT.sIx, Option.getD_none, show (1 : Int) > 0 by decide, if_true]
      by_cases h : i < 0
      · simp only [h, if_true] <;> omega
      · simp only [h, if_false] <;> omega
theorem slicePick_cut (its : List Value) (lo hi : Option Int) : slicePick its.toArray lo hi none = ((its.drop (HT.sIx its.length 0 lo)).take (HT.sIx its.length its.length hi - HT.sIx its.length 0 lo)).toArray := by
  obtain ⟨h1, h2, h3⟩ := slice_bounds lo hi its.toArray.size
  unfold slicePick
  rw [h1, h2, h3]
  simp only [sliceRange_one, pick_run, List.size_toArray] <;> rfl
/-- xs[lo:hi] of a list: a new list -/
def rSlL (K : PySem.W.Frag) : V → Option Int → Option Int → Hp → VK → Prop := fun x lo hi H Q => ∃ a xs, x = .ref a ∧ SqL K H a xs ∧ ∀ p, H p = none → Q (.ref p) (upd H p (.lst (cutV xs lo hi)))
theorem sl_list : SlR X (rSlL X.K) := by
  intro pins s σ H x v vl vu lo hi sl Q I rx hs pl pu h
  obtain ⟨a, xs, rfl, hx, q⟩ := h
  cases rx
  obtain ⟨its, r, ht, hz⟩ := I.list hx
  have hlen := r.length
  refine ⟨"list", _, slot_list_getitem.lookup, ht.isList.typeIs, ?_⟩
  refine wpAny_getItem_list_slice ht.isList hs pl pu .none (by simp) ?_ (by rw [List.size_toArray] <;> omega)
  rw [slicePick_cut, ← hlen]
  refine ⟨.ref s.heap.objs.size, _, I.laid (t' := s.toks) (o := .lst (cutV xs lo hi)) (fun b ob q => Heap.get?_push_of_some _ q) (Nat.le_refl _) ?_, rfl, q _ (I.hok.fresh (Nat.le_refl _))⟩
  exact ⟨Nat.le_trans (cutV_length xs lo hi) hz, _, 0, (r.drop (HT.sIx xs.length 0 lo)).take (HT.sIx xs.length xs.length hi - HT.sIx xs.length 0 lo), Heap.get?_push_size _ rfl⟩

/-! ### in, not in: flat items -/
def flatV : V → Bool
  | .non => true
  | .bl _ => true
  | .int _ => true
  | .str _ => true
  | _ => false
/-- == of flat values -/
def eqV : V → V → Bool
  | .non, .non => true
  | .bl a, .bl b => a == b
  | .bl a, .int b => (if a then 1 else 0) == b
  | .int a, .bl b => a == (if b then 1 else 0)
  | .int a, .int b => a == b
  | .str a, .str b => a == b
  | _, _ => false
/-- the items' answers, read off the values (a value's own answer does not lean on its token) -/
def eqU (x : V) (u : Value) : Bool := match u with
  | .none => eqV .non x
  | .bool b => eqV (.bl b) x
  | .int i _ => eqV (.int i) x
  | .str z _ => eqV (.str z) x
  | _ => false
def inV (x : V) (xs : List V) : Bool := xs.any fun y => eqV y x
/-- x in a list or tuple of flat items -/
def rIn (K : PySem.W.Frag) (neg : Bool) : R2 := fun x y H Q => ∃ p xs, y = .ref p ∧ (SqL K H p xs ∨ SqT K H p xs) ∧ flatV x = true ∧ xs.all flatV = true ∧ Q (.bl (if neg then !inV x xs else inV x xs)) H
theorem op_notIn_str : OpR X (compareOp .NotIn) (fun x y H Q => ∃ i j, x = .str i ∧ y = .str j ∧ Q (.bl (!(!(Builtin.Str.occurrences j i 0 j.length 1).isEmpty))) H) := by
  intro pins s σ H x y v u Q I rx ry h
  obtain ⟨i, j, rfl, rfl, q⟩ := h
  obtain ⟨t, rfl⟩ := rx
  obtain ⟨t', rfl⟩ := ry
  exact notIn_str ⟨.bl _, H, I, rfl, q⟩

/-! ### len, list(x), tuple(x) of any list or tuple that is read -/
theorem call_len_seq : CallR X (.builtin "len") (fun xs H Q => ∃ p ys, xs = [.ref p] ∧ (SqL X.K H p ys ∨ SqT X.K H p ys) ∧ Q (.int ys.length) H) := by
  intro pins s σ H xs us Q I r h
  obtain ⟨p, ys, rfl, hq, q⟩ := h
  obtain ⟨u, rfl, rx⟩ := vals1 r
  cases rx
  have hn := line63
  rcases hq with hq | hq
  · obtain ⟨its, r', pl, hz⟩ := I.list hq
    have hlen := r'.length
    exact Calls.call_len_list pl.isList (by simp only [List.size_toArray] <;> omega) ⟨.int ys.length, H, I.tok _, ⟨s.toks + 1, by rw [List.size_toArray, hlen]⟩, q⟩
  · obtain ⟨its, r', pl, hz⟩ := I.tuple hq
    have hlen := r'.length
    exact len_tuple pl (by simp only [List.size_toArray] <;> omega) ⟨.int ys.length, H, I.tok _, ⟨s.toks + 1, by rw [List.size_toArray, hlen]⟩, q⟩
theorem call_len_str : CallR X (.builtin "len") (fun xs H Q => ∃ z, xs = [.str z] ∧ z.length ≤ sizeLine ∧ Q (.int z.length) H) := by
  intro pins s σ H xs us Q I r h
  obtain ⟨z, rfl, hz, q⟩ := h
  obtain ⟨u, rfl, t, rfl⟩ := vals1 r
  have hn := line63
  exact len_str (by omega) ⟨.int z.length, H, I.tok _, ⟨_, rfl⟩, q⟩
theorem call_tuple_of : CallR X (.type "tuple") (fun xs H Q => ∃ p ys, xs = [.ref p] ∧ ((SqL X.K H p ys ∧ ∀ l, H l = none → Q (.ref l) (upd H l (.tup ys))) ∨ (SqT X.K H p ys ∧ Q (.ref p) H))) := by
  intro pins s σ H xs us Q I r h
  obtain ⟨p, ys, rfl, h⟩ := h
  obtain ⟨u, rfl, rx⟩ := vals1 r
  cases rx
  rcases h with ⟨hq, q⟩ | ⟨hq, q⟩
  · obtain ⟨its, r', pl, hz⟩ := I.list hq
    have hlen := r'.length
    refine call_tuple_list pl.isList (fun h' kp => ?_) (by simp only [List.size_toArray] <;> omega)
    have I1 : Inv X pins σ H { s with heap := h' } := I.kept (t' := s.toks) kp
    have I2 : Inv X pins σ (upd H h'.objs.size (.tup ys)) { s with heap := h'.push { cls := .type "tuple", data := .seq its.toArray } } :=
      I1.laid (t' := s.toks) (fun b o e => Heap.get?_push_of_some _ e) (Nat.le_refl _) (show ObjOk X.prog X.w _ _ _ (.tup ys) from ⟨hz, its, r', IsTup.new _ _⟩)
    exact ⟨.ref h'.objs.size, _, I2, rfl, q _ (I1.hok.fresh (Nat.le_refl _))⟩
  · obtain ⟨its, r', pl, hz⟩ := I.tuple hq
    exact call_tuple_same pl ⟨.ref p, H, I, rfl, q⟩

/-! ### the call of a builtin's method: o.m(..) -/
/-- the value is of that builtin type -/
def tyV (K : PySem.W.Frag) (T : String) (x : V) (H : Hp) : Prop := match x with
  | .str _ => T = "str"
  | .int _ => T = "int"
  | .ref p => (T = "list" ∧ ∃ xs, SqL K H p xs) ∨ (T = "tuple" ∧ ∃ o, K.lookup p = some o ∧ o.cls = .type "tuple" ∧ o.dict = none) ∨
      (T = "dict" ∧ ((∃ kvs, H p = some (.dK kvs)) ∨ ∃ kvs, H p = some (.dT kvs))) ∨ (T = "set" ∧ ∃ S n, H p = some (.set S n))
  | _ => False
theorem tyV_is {pins : List (Addr × Obj)} {σ : St} {H : Hp} {s : Shared} {T : String} {x : V} {v : Value} (I : Inv X pins σ H s) (r : RelV x v) (ty : tyV X.K T x H) :
    s.TypeIs v T ∧ ∀ a, v = .ref a → ∃ ob, s.heap.get? a = some ob ∧ ob.dict = none := by
  cases x with
  | str z =>
    obtain ⟨t, rfl⟩ := r
    cases (show T = "str" from ty)
    exact ⟨typeIs_str s z t, fun _ e => nomatch e⟩
  | int i =>
    obtain ⟨t, rfl⟩ := r
    cases (show T = "int" from ty)
    exact ⟨typeIs_int s i t, fun _ e => nomatch e⟩
  | ref p =>
    cases r
    rcases ty with ⟨rfl, xs, hq⟩ | ⟨rfl, o, hk, hc, hd⟩ | ⟨rfl, hk⟩ | ⟨rfl, S, n, hk⟩
    · obtain ⟨its, _, pl, _⟩ := I.list hq
      refine ⟨pl.isList.typeIs, fun a e => ?_⟩
      cases e
      obtain ⟨o, n, e, c, hd, _⟩ := pl
      exact ⟨o, e, hd⟩
    · refine ⟨⟨o, I.kIn p o hk, hc⟩, fun a e => ?_⟩
      cases e
      exact ⟨o, I.kIn _ o hk, hd⟩
    · have z : ∃ o, s.heap.get? p = some o ∧ o.ExactDict := by
        rcases hk with ⟨kvs, hk⟩ | ⟨kvs, hk⟩
        · obtain ⟨_, _, _, _, o, _, _, e, ex, _⟩ := I.hok p _ hk
          exact ⟨o, e, ex⟩
        · obtain ⟨_, _, _, _, o, _, _, e, ex, _⟩ := I.hok p _ hk
          exact ⟨o, e, ex⟩
      obtain ⟨o, e, ex⟩ := z
      refine ⟨⟨o, e, ex.1⟩, fun a e2 => ?_⟩
      cases e2
      exact ⟨o, e, ex.2.1⟩
    · obtain ⟨o, _, _, _, e, ex, _⟩ := I.hok p _ hk
      refine ⟨⟨o, e, ex.1⟩, fun a e2 => ?_⟩
      cases e2
      exact ⟨o, e, ex.2.1⟩
  | _ => exact False.elim ty
def tBM0 (K : PySem.W.Frag) (T : String) (r : V → List V → Hp → VK → Prop) (to : TE) : TE := fun σ H Q => to σ H fun x H1 => tyV K T x H1 ∧ r x [] H1 Q
def tBM (K : PySem.W.Frag) (T : String) (r : V → List V → Hp → VK → Prop) (to : TE) (t : TA) : TE := fun σ H Q => to σ H fun x H1 => tyV K T x H1 ∧ t σ H1 fun xs H2 => r x xs H2 Q
variable {o e : Expr} {es : List Expr} {to : TE} {t : TA} {name : Str} {apos cpos : Pos} {T id : String} {r : V → List V → Hp → VK → Prop}
theorem pe_bm (pa : PlainAttrs T) (slot : Slot T name id) (hty : typeOf (.builtin id) = pure (.type "method_descriptor")) (hm : MtR X id r) (ho : PE X o to) (ha : PA X (e :: es) t)
    (hbase : attributeBase o name X.env (eval o X.env) = eval o X.env := by rfl)
    (hfew : ((backTo cpos (starEach (e :: es) X.env)).all (fun x => !x.1) && (backToKw cpos (keywordEach [] X.env)).all (fun x => x.1.isSome)
      && decide ((e :: es).length + ([] : List Keyword).length + (if ([] : List Keyword).isEmpty then 0 else 1) < 30)) = true := by rfl)
    (hline : (apos.endLine == cpos.line) = true := by rfl) (hs : starEach (e :: es) X.env = (false, eval e X.env) :: starEach es X.env := by rfl) (hplain : (backTo cpos (starEach es X.env)).any (·.1) = false := by rfl) :
    PE X (.Call (.Attribute o name apos) (e :: es) [] cpos) (tBM X.K T r to t) := by
  intro pins s σ H Q I h
  refine wpAny_Call_method_late hbase hfew hline rfl (thn (ho pins s σ H _ I h) fun v s1 ⟨x, H1, I1, r1, ty, q1⟩ => ?_)
  obtain ⟨h1, h2⟩ := tyV_is I1 r1 ty
  refine ⟨T, id, pa, slot, hty, h1, h2, ?_⟩
  have hA := ha cpos pins s1 σ H1 _ I1 q1
  rw [hs] at hA ⊢
  refine Calls.callWith_builtin (by show (false || (backTo cpos (starEach es X.env)).any (·.1)) = false; rw [hplain] <;> rfl) (Calls.evalArgs_plain ?_)
  exact thn hA fun us s2 ⟨vs, H2, I2, r2, q2⟩ => hm pins s2 σ H2 x vs v us Q I2 r1 r2 q2
/- xs.append(e), list.index on a module's tuple .. are MtR facts of 06m -/
end
end L2

namespace L2
open PySem PySem.Spec PyProof.Rows

def MtM (X : Cx) (id : String) (r : V → List V → Hp → VK → Prop) : Prop :=
  ∀ (pins : List (Addr × Obj)) (s : Shared) (σ : St) (H : Hp) (x : V) (xs : List V) (v : Value) (us : List Value) (Q : VK), Inv X pins σ H s → RelV x v → Vals xs us → r x xs H Q →
    wpAny (model X.prog X.w) X.A (call (.builtin id) (v :: us)) (EP X pins σ Q) X.xe s

/-! ### lists of values -/
theorem Vals.one : ∀ {x : V} {us : List Value}, Vals [x] us → ∃ u, us = [u] ∧ RelV x u
  | _, _, .cons r .nil => ⟨_, rfl, r⟩
section
variable {X : Cx} {pins : List (Addr × Obj)} {σ : St} {H : Hp} {s : Shared} {l b : Addr} {xs ys zs : List V}

/-! ### the two steps: a tracked list is rewritten, a new list is laid -/
theorem Inv.lset {its its' : List Value} {n : Nat} {f : Array Value → Array Value} {t' : Nat} (I : Inv X pins σ H s) (hH : H l = some (.lst xs))
    (e : s.heap.get? l = some { cls := .type "list", data := .seq its.toArray n }) (hf : f its.toArray = its'.toArray) (hv : Vals ys its') (hz : ys.length ≤ sizeLine) :
    Inv X pins σ (upd H l (.lst ys)) { s with heap := s.heap.update l (Obj.mapSeq f), toks := t' } := by
  have q := PySem.IsL.update e f
  rw [hf] at q
  refine I.write (x := l) (e := l) (by rw [hH]; exact trivial) (.inl rfl) (fun b' u hb hu => (Heap.get?_update_other s.heap (Obj.mapSeq f) (Ne.symm hb)).trans hu) ⟨_, q⟩ ?_
  exact ⟨hz, its', _, hv, q⟩
theorem Inv.lnew {its : List Value} {t' : Nat} (I : Inv X pins σ H s) (hv : Vals ys its) (hz : ys.length ≤ sizeLine) :
    Inv X pins σ (upd H s.heap.objs.size (.lst ys)) { s with heap := s.heap.push { cls := .type "list", data := .seq its.toArray }, toks := t' } :=
  I.laid (fun _ _ q => Heap.get?_push_of_some _ q) (Nat.le_refl _) ⟨hz, its, 0, hv, Heap.get?_push_size _ rfl⟩
theorem Inv.fresh (I : Inv X pins σ H s) : H s.heap.objs.size = none := I.hok.fresh (Nat.le_refl _)
theorem Inv.lstM (I : Inv X pins σ H s) (hH : H l = some (.lst xs)) : xs.length ≤ sizeLine ∧ ∃ (its : List Value) (n : Nat), Vals xs its ∧ xs.length = its.length ∧ s.heap.get? l = some { cls := .type "list", data := .seq its.toArray n } := by
  obtain ⟨z, its, n, r, e⟩ := I.hok l _ hH
  exact ⟨z, its, n, r, r.length, e⟩

theorem notLongL {n : Nat} (h : n ≤ sizeLine) : Builtin.List.listTooLong n = false := by
  unfold Builtin.List.listTooLong
  exact decide_eq_false (by omega)
end

section
variable {X : Cx}

/-! ### methods -/
def rAppend : V → List V → Hp → VK → Prop := fun x vs H Q => ∃ l xs y, x = .ref l ∧ vs = [y] ∧ H l = some (.lst xs) ∧ xs.length < sizeLine ∧ Q .non (upd H l (.lst (xs ++ [y])))
theorem mt_append : MtM X "list.append" rAppend := by
  intro pins s σ H x vs v us Q I rx rv h
  obtain ⟨l, xs, y, rfl, rfl, hH, hz, q⟩ := h
  cases rx
  obtain ⟨u, rfl, ru⟩ := rv.one
  obtain ⟨z, its, n, r, hl, e⟩ := I.lstM hH
  refine call_meets F.slot_list_append ⟨_, e, rfl⟩ F.entry_list_append (F.args_list_append_2 _ _) (PySem.list_append l its.toArray n u (by rw [List.size_toArray]; omega)) ⟨e, ?_⟩
  refine ⟨.non, _, I.lset (its' := its ++ [u]) hH e (by simp) (r.append (.cons ru .nil)) ?_, rfl, q⟩
  rw [List.length_append, List.length_singleton]
  omega

def rExtend : V → List V → Hp → VK → Prop := fun x vs H Q => ∃ l b xs zs, x = .ref l ∧ vs = [.ref b] ∧ H l = some (.lst xs) ∧ H b = some (.lst zs) ∧ xs.length + zs.length ≤ sizeLine ∧ Q .non (upd H l (.lst (xs ++ zs)))
theorem mt_extend : MtM X "list.extend" rExtend := by
  intro pins s σ H x vs v us Q I rx rv h
  obtain ⟨l, b, xs, zs, rfl, rfl, hH, hB, hz, q⟩ := h
  cases rx
  obtain ⟨u, rfl, ru⟩ := rv.one
  cases ru
  obtain ⟨z, its, n, r, hl, e⟩ := I.lstM hH
  obtain ⟨z2, its2, n2, r2, hl2, e2⟩ := I.lstM hB
  have hsz : its.toArray.size + its2.toArray.size ≤ sizeLine := by rw [List.size_toArray, List.size_toArray]; omega
  have hlong : ¬ (!its.toArray.isEmpty && Builtin.List.listTooLong (its.toArray.size + its2.toArray.size)) = true := by
    rw [notLongL hsz, Bool.and_false]
    exact Bool.false_ne_true
  refine call_meets F.slot_list_extend ⟨_, e, rfl⟩ F.entry_list_extend (F.args_list_extend_2 _ _)
    (AutoSeq1.list_extend_list_list_0 l its.toArray n b its2.toArray n2 hlong (by rw [List.size_toArray]; omega) (by omega)) ⟨e, e2, ?_⟩
  refine ⟨.non, _, I.lset (its' := its ++ its2) hH e (by simp) (r.append r2) ?_, rfl, q⟩
  rw [List.length_append]
  omega

def rPop : V → List V → Hp → VK → Prop := fun x vs H Q => ∃ l xs y, x = .ref l ∧ vs = [] ∧ H l = some (.lst xs) ∧ xs[xs.length - 1]? = some y ∧ Q y (upd H l (.lst xs.dropLast))
def rPopAt : V → List V → Hp → VK → Prop := fun x vs H Q => ∃ l xs i k y, x = .ref l ∧ vs = [.int i] ∧ H l = some (.lst xs) ∧ -(2 ^ 63) ≤ i ∧ i < 2 ^ 63 ∧ seqIndex? i xs.length = some k ∧ xs[k]? = some y ∧ Q y (upd H l (.lst (xs.eraseIdx k)))
def rReverse : V → List V → Hp → VK → Prop := fun x vs H Q => ∃ l xs, x = .ref l ∧ vs = [] ∧ H l = some (.lst xs) ∧ Q .non (upd H l (.lst xs.reverse))
def rClear : V → List V → Hp → VK → Prop := fun x vs H Q => ∃ l xs, x = .ref l ∧ vs = [] ∧ H l = some (.lst xs) ∧ Q .non (upd H l (.lst []))
/-! ### list + list, list += list, list * int -/
def rCat : R2 := fun x y H Q => ∃ l b xs zs, x = .ref l ∧ y = .ref b ∧ H l = some (.lst xs) ∧ H b = some (.lst zs) ∧ xs.length + zs.length ≤ sizeLine ∧ ∀ p, H p = none → Q (.ref p) (upd H p (.lst (xs ++ zs)))
theorem op_cat : OpR X (binaryOp .Add) rCat := by
  intro pins s σ H x y v u Q I rx ry h
  obtain ⟨l, b, xs, zs, rfl, rfl, hH, hB, hz, q⟩ := h
  cases rx
  cases ry
  obtain ⟨z, its, n, r, hl, e⟩ := I.lstM hH
  obtain ⟨z2, its2, n2, r2, hl2, e2⟩ := I.lstM hB
  refine PySem.P.add_list e e2 ?_ (by rw [List.size_toArray, List.size_toArray]; omega)
  have ea : its.toArray ++ its2.toArray = (its ++ its2).toArray := by simp
  rw [ea]
  exact ⟨.ref _, _, I.lnew (t' := s.toks) (r.append r2) (by rw [List.length_append]; omega), rfl, q _ I.fresh⟩
/-- a list times an int (a negative one is nothing) -/
def rRep : R2 := fun x y H Q => ∃ l k xs, x = .ref l ∧ y = .int k ∧ H l = some (.lst xs) ∧ -(2 ^ 63) ≤ k ∧ k < 2 ^ 63 ∧ xs.length * k.toNat ≤ sizeLine ∧
  ∀ p, H p = none → Q (.ref p) (upd H p (.lst (List.replicate k.toNat xs).flatten))
/-! ### del xs[i] -/
end

/-! ### xs[a:b] = ys -/
section
variable {prog : Program} {w : World} {A : Around} {E : Value → Shared → Prop} {s : Shared}
set_option maxRecDepth 100000 in
end

section
variable {X : Cx}
end
end L2

namespace L2
open PySem PySem.Spec PyProof.Rows

/-! ### lists of pairs as tables -/
section
variable {κ : Type} [DecidableEq κ]
def valV (kvs : List (κ × V)) (k : κ) : Option V := (kvs.find? fun kv => decide (kv.1 = k)).map (·.2)
/-- in its place, or at the end -/
def putK (kvs : List (κ × V)) (k : κ) (v : V) : List (κ × V) :=
  if (kvs.any fun kv => decide (kv.1 = k)) = true then kvs.map (fun kv => if kv.1 = k then (kv.1, v) else kv) else kvs ++ [(k, v)]
def dropK (kvs : List (κ × V)) (k : κ) : List (κ × V) := kvs.filter fun kv => decide (kv.1 ≠ k)

end

/-! ### a tracked dict, its keys ints and texts or tuples of these -/
/-- raw entries of a dict with tuple keys -/
abbrev KT (H : Hp) : List (List Key × V) → List (List Key × Addr × Value) → Prop := Paired fun p q => p.1 = q.1 ∧ H q.2.1 = some (.tup (p.1.map kV)) ∧ RelV p.2 q.2.2
section
variable {P : Program} {w : World} {H : Hp} {h : Heap} {a : Addr}
theorem rd_of {u : HO} (ok : HOk P w H h) (e : Rd H a u) : ObjOk P w H h a u := e.ok ok
theorem dk_rd {kvs : List (Key × V)} (ok : HOk P w H h) (e : Rd H a (.dK kvs)) : kvs.length ≤ sizeLine ∧ (a == sysModules) = false ∧ ∃ vs, KV kvs vs ∧ h.DictOf (mixKind P w) a vs :=
  show ObjOk P w H h a (.dK kvs) from rd_of ok e
theorem dk_of {kvs : List (Key × V)} (ok : HOk P w H h) (e : H a = some (.dK kvs)) : kvs.length ≤ sizeLine ∧ (a == sysModules) = false ∧ ∃ vs, KV kvs vs ∧ h.DictOf (mixKind P w) a vs := dk_rd ok (.inl e)
end

/-- what the dict at a holds at the key y -/
def DGet (H : Hp) (a : Addr) (y : V) (r : Option V) : Prop :=
  (∃ kvs k, Rd H a (.dK kvs) ∧ y = kV k ∧ r = valV kvs k) ∨ ∃ kvs k b, Rd H a (.dT kvs) ∧ y = .ref b ∧ H b = some (.tup (k.map kV)) ∧ r = valV kvs k
/-- the heap behind a[y] = v -/
def DPut (H : Hp) (a : Addr) (y v : V) (H' : Hp) : Prop :=
  (∃ kvs k, H a = some (.dK kvs) ∧ y = kV k ∧ kvs.length < sizeLine ∧ H' = upd H a (.dK (putK kvs k v))) ∨
  ∃ kvs k b, H a = some (.dT kvs) ∧ y = .ref b ∧ H b = some (.tup (k.map kV)) ∧ kvs.length < sizeLine ∧ H' = upd H a (.dT (putK kvs k v))
section
variable {X : Cx} {pins : List (Addr × Obj)} {σ : St} {H : Hp} {s : Shared} {a : Addr} {y v : V} {u r : Value} {o : Option V} {A : Around} {E : Value → Shared → Prop}

end

section
variable {X : Cx} {pins : List (Addr × Obj)} {σ : St} {H : Hp} {s : Shared} {a : Addr} {kvs : List (Key × V)} {k : Key} {u : Value} {A : Around} {E : Value → Shared → Prop}
end

/-! ### readings and rules -/
/-- the element of a subscription, not a slice -/
def NoSl (i : Expr) : Prop := ∀ ov iv, subscripted i false ov iv = operate [ov, iv] (getItem ov iv)
/-- d[y] -/
def tDGet (td ty : TE) : TE := fun σ H Q => td σ H fun x H1 => ty σ H1 fun y H2 => ∃ a v, x = .ref a ∧ DGet H2 a y (some v) ∧ Q v H2
/-- y in d, y not in d -/
def tDIn (ty td : TE) : TE := fun σ H Q => ty σ H fun y H1 => td σ H1 fun x H2 => ∃ a o, x = .ref a ∧ DGet H2 a y o ∧ Q (.bl o.isSome) H2
def tDNotIn (ty td : TE) : TE := fun σ H Q => ty σ H fun y H1 => td σ H1 fun x H2 => ∃ a o, x = .ref a ∧ DGet H2 a y o ∧ Q (.bl (!o.isSome)) H2
/-- d[y] = v -/
def sDPut (td ty tv : TE) : TS := fun D σ H => tv σ H fun v H1 => td σ H1 fun x H2 => ty σ H2 fun y H3 => ∃ a H4, x = .ref a ∧ DPut H3 a y v H4 ∧ D.nx σ H4
/-- d[y] op= v -/
def sDAug (td ty tv : TE) (rd : V → V → Hp → VK → Prop) : TS := fun D σ H => td σ H fun x H1 => ty σ H1 fun y H2 => ∃ a v, x = .ref a ∧ DGet H2 a y (some v) ∧
  tv σ H2 fun y2 H3 => rd v y2 H3 fun z H4 => ∃ H5, DPut H4 a y z H5 ∧ D.nx σ H5
/-- del d[y] -/
def sDDel (td ty : TE) : TS := fun D σ H => td σ H fun x H1 => ty σ H1 fun y H2 => ∃ a kvs k, x = .ref a ∧ H2 a = some (.dK kvs) ∧ y = kV k ∧ (valV kvs k).isSome = true ∧ D.nx σ (upd H2 a (.dK (dropK kvs k)))

section
variable {X : Cx} {o i e value : Expr} {pos pos' tpos : Pos} {td ty tv : TE}
end

/-! ### displays -/
/-- {}, to be a dict of the kind that is wanted -/
def tDNewK : TE := fun _ H Q => ∀ p, H p = none → Q (.ref p) (upd H p (.dK []))
def tDNewT : TE := fun _ H Q => ∀ p, H p = none → Q (.ref p) (upd H p (.dT []))
section
variable {X : Cx} {pos : Pos}
end

/-- the pairs of a display, from the left -/
def tPairs : List (TE × TE) → St → Hp → (List (V × V) → Hp → Prop) → Prop
  | [], _, H, Q => Q [] H
  | (tk, tv) :: r, σ, H, Q => tk σ H fun x H1 => tv σ H1 fun y H2 => tPairs r σ H2 fun ps H3 => Q ((x, y) :: ps) H3
abbrev VV : List (V × V) → List (Value × Value) → Prop := Paired fun p q => RelV p.1 q.1 ∧ RelV p.2 q.2
def PPs (X : Cx) (pos : Pos) (keys : List (Option Expr)) (values : List Expr) (trs : List (TE × TE)) : Prop :=
  ∀ (pins : List (Addr × Obj)) (s : Shared) (σ : St) (H : Hp) (Q : List (V × V) → Hp → Prop), Inv X pins σ H s → tPairs trs σ H Q →
    wpAny (model X.prog X.w) X.A (evalPairs (pairTrees keys values X.env pos)) (fun vs s' => ∃ ps H', Inv X pins σ H' s' ∧ VV ps vs ∧ Q ps H') X.xe s
def mergeK (kvs more : List (Key × V)) : List (Key × V) := more.foldl (fun acc kv => putK acc kv.1 kv.2) kvs
/-- {k: v, ..} with keys ints and texts; the new dict stands empty while the pairs are made -/
def tDisp (trs : List (TE × TE)) : TE := fun σ H Q => ∀ p, H p = none → tPairs trs σ (upd H p (.dK [])) fun ps H2 => H2 p = some (.dK []) ∧ ∃ kvs : List (Key × V), ps = kvs.map (fun kv => (kV kv.1, kv.2)) ∧ kvs.length ≤ 15 ∧ Q (.ref p) (upd H2 p (.dK (mergeK [] kvs)))
/-! ### methods -/
/-- a method call o.m(e) of a built-in, with one argument: what must be seen of the text -/
structure M1 (X : Cx) (o : Expr) (m : Str) (apos : Pos) (e : Expr) (cpos : Pos) : Prop where
  base : attributeBase o m X.env (eval o X.env) = eval o X.env
  few : ((backTo cpos (starEach [e] X.env)).all (fun x => !x.1) && (backToKw cpos (keywordEach [] X.env)).all (fun x => x.1.isSome)
    && decide (([e] : List Expr).length + ([] : List Keyword).length + (if ([] : List Keyword).isEmpty then 0 else 1) < 30)) = true
  line : (apos.endLine == cpos.line) = true
  trees : backTo cpos (starEach [e] X.env) = [(false, eval e X.env)]
structure M2 (X : Cx) (o : Expr) (m : Str) (apos : Pos) (e f : Expr) (cpos : Pos) : Prop where
  base : attributeBase o m X.env (eval o X.env) = eval o X.env
  few : ((backTo cpos (starEach [e, f] X.env)).all (fun x => !x.1) && (backToKw cpos (keywordEach [] X.env)).all (fun x => x.1.isSome)
    && decide (([e, f] : List Expr).length + ([] : List Keyword).length + (if ([] : List Keyword).isEmpty then 0 else 1) < 30)) = true
  line : (apos.endLine == cpos.line) = true
  trees : backTo cpos (starEach [e, f] X.env) = [(false, eval e X.env), (false, eval f X.env)]

/-- a is a dict, whatever its keys -/
def IsD (H : Hp) (a : Addr) : Prop := (∃ kvs, Rd H a (.dK kvs)) ∨ ∃ kvs, Rd H a (.dT kvs)
section
variable {X : Cx} {pins : List (Addr × Obj)} {σ : St} {H : Hp} {s : Shared} {a : Addr} {y d : V} {u r : Value} {o : Option V} {A : Around} {E : Value → Shared → Prop}
end

def tDGet1 (td ty : TE) : TE := fun σ H Q => td σ H fun x H1 => ∃ a, x = .ref a ∧ IsD H1 a ∧ ty σ H1 fun y H2 => ∃ o, DGet H2 a y o ∧ Q (o.getD .non) H2
def tDGet2 (td ty tx : TE) : TE := fun σ H Q => td σ H fun x H1 => ∃ a, x = .ref a ∧ IsD H1 a ∧ ty σ H1 fun y H2 => tx σ H2 fun z H3 => ∃ o, DGet H3 a y o ∧ Q (o.getD z) H3
/-- d.pop(k): there; d.pop(k, x): there or not -/
def tDPop1 (td ty : TE) : TE := fun σ H Q => td σ H fun x H1 => ∃ a, x = .ref a ∧ IsD H1 a ∧ ty σ H1 fun y H2 => ∃ kvs k v, H2 a = some (.dK kvs) ∧ y = kV k ∧ valV kvs k = some v ∧ Q v (upd H2 a (.dK (dropK kvs k)))
def tDPop2 (td ty tx : TE) : TE := fun σ H Q => td σ H fun x H1 => ∃ a, x = .ref a ∧ IsD H1 a ∧ ty σ H1 fun y H2 => tx σ H2 fun z H3 => ∃ kvs k, H3 a = some (.dK kvs) ∧ y = kV k ∧
  (∀ v, valV kvs k = some v → Q v (upd H3 a (.dK (dropK kvs k)))) ∧ (valV kvs k = none → Q z H3)
section
variable {X : Cx} {o e f : Expr} {apos cpos : Pos} {td ty tx : TE}
end

/-! ### dict(d): a copy -/
section
variable {X : Cx} {pins : List (Addr × Obj)} {σ : St} {H : Hp} {s : Shared} {a : Addr} {kvs : List (Key × V)} {A : Around} {E : Value → Shared → Prop}
end

section
variable {X : Cx} {pins : List (Addr × Obj)} {σ : St} {H : Hp} {s : Shared} {a : Addr} {y : V} {u : Value} {A : Around} {E : Value → Shared → Prop}
end
end L2

namespace Att
open PySem PySem.W PySem.Calls PyProof.Rows

/-! ### the script -/
theorem ints_of_wellAll {P : Params} {h : Heap} : ∀ (ns : List Int) (vs : List Value), WellAll P h vs (ns.map WData.int) → IntsAre vs ns := by
  intro ns
  induction ns with
  | nil =>
    intro vs w
    rw [List.map_nil] at w
    cases w
    exact .nil
  | cons n ns ih =>
    intro vs w
    rw [List.map_cons] at w
    cases w with
    | cons a b =>
      cases a
      exact .cons _ _ (ih _ b)

theorem script_of {l : OpenLaw} {n : Nat} (hn : l.most = some n) {P : Params} {h : Heap} {args : List WData} {vals : List Value}
    (hpre : l.row.toRowW.claim.pre args = true) (hwl : WellAll P h vals args) :
    ∃ a vs ns, vals = [Value.ref a] ∧ args = [WData.list (ns.map WData.int)] ∧ h.get? a = some { cls := .type "list", data := .seq vs.toArray } ∧ IntsAre vs ns ∧ ns.length ≤ n := by
  have hsh : WShape.hasAll [] args [.list .int] = true := (pre_splitW hpre).1
  have hc : l.pre.holds [] { args := args } = true := (pre_splitW hpre).2
  obtain ⟨d, r, rfl, h1, h2⟩ := hasAllW_cons hsh
  obtain rfl := hasAllW_nil h2
  obtain ⟨xs, rfl, h3⟩ := hasW_list h1
  obtain ⟨ns, rfl⟩ := items_int h3
  have hlen : ns.length ≤ n := by
    unfold OpenLaw.pre at hc
    have h4 : (WTm.not (.lt (.lit (.int (n : Int))) (.len (.arg 0)))).holds [] { args := [.list (ns.map .int)] } = true := by
      have h4 := (holds_andW hc).1
      rw [hn] at h4
      exact h4
    have h5 := condW_of h4 (w_not (w_lt w_lit (w_len_list (w_arg rfl))))
    rw [List.length_map] at h5
    refine Nat.le_of_not_lt fun q => ?_
    have q' : (n : Int) < ((ns.length : Nat) : Int) := by omega
    first
      | (rw [decide_eq_true q'] at h5; exact absurd h5 (by decide))
      | (simp at h5; omega)
  cases hwl with
  | cons w1 w2 =>
    cases w2
    cases w1 with
    | list ho hall => exact ⟨_, _, ns, rfl, rfl, ho, ints_of_wellAll ns _ hall, hlen⟩

theorem post_true (l : OpenLaw) (args : List WData) : l.row.toRowW.claim.post args (.bool true) args = true :=
  postW_of (r := l.row.toRowW) (X := (true == true))
    (show WShape.has [] (.bool true) .bool = true by first | rfl | decide | simp [WShape.has, WShape.arms, WShape.armsAll])
    (show (WTm.eq .res (.lit (.bool true))).value [] { args := args, res := some (.bool true), after := args } = some (.bool (true == true)) from w_eq_bool (w_res rfl) w_lit) rfl

/-! ### the attachment: holds_open's last premise (the goal 'hc' behind k_head) from a wpAny of the law's body -/
/-- the same from a codeAny of the CALL (for a layer whose function contracts speak of calls) -/
theorem attach_call {l : OpenLaw} {n : Nat} {q : Program} {loose : List Str} {XP : (Str → Option Value) → Heap → Prop} {YP : World → Heap → Prop} {d : DefRec}
    (hn : l.most = some n) (hdf : d.params.defaults = [])
    (call : ∀ (w : World) (s₀ s₁ : Shared) (mg mb : Str → Option Value) (fa : Addr) (o : Obj) (pm cd doc : Value) (a : Addr) (vs : List Value) (ns : List Int),
      Ground q loose [] XP w s₀ mg mb s₁.heap → YP w s₁.heap →
      s₁.heap.get? fa = some o → o.data = .func (docDef d.name d.params d.body d.scope pm cd doc) → s₁.heap.CodeRec cd d.name → mg d.name = some (.ref fa) →
      s₁.heap.get? a = some { cls := .type "list", data := .seq vs.toArray } → IntsAre vs ns → ns.length ≤ n → s₁.gens = #[] →
      codeAny (model l.prog w) callerA (.call (.ref fa) ⟨[.ref a], []⟩) (fun r s' => r = .ok (.ret (.bool true)) ∧ OldK s₁.heap s'.heap ∧ s'.os = s₁.os ∧ AllBare s'.gens) s₁) :
    WalkO q loose XP YP l.row.toRowW d [] (fun f vs => PySem.call f vs) := by
  intro w s₀ s₁ mg mb G Y fa o pm cd doc dV kV ho hd hcd hD hmg hg args vals as hpre hlay hrd hwl hlo
  obtain rfl : dV = .none := Dflts.none hD hdf
  obtain rfl : kV = .none := Dflts.noKw hD
  obtain ⟨a, vs, ns, rfl, rfl, hobj, hints, hlen⟩ := script_of hn hpre hwl
  refine enter_call (codeAny_mono (call w s₀ s₁ mg mb fa o pm cd doc a vs ns G Y ho (fd_plain hd) hcd hmg hobj hints hlen hg) fun r s' hq => ?_)
  obtain ⟨rfl, h2, h3, h4⟩ := hq
  exact ⟨.inl ⟨.bool true, .bool true, [], rfl, fun _ => rfl, .bool true, post_true l _, fun _ => ⟨List.Pairwise.nil, fun _ hm => (nomatch hm)⟩⟩, h2, h3, h4⟩

/-! ### rules over ANY heap (no ledger) from facts about the written part K: the library's own take a ledger (News) for what they write -/
section
variable {prog : Program} {w : World} {A : Around} {E : Value → Shared → Prop} {s : Shared} {K : Frag}

/-! the whole heap as the ledger: makes every rule that writes through a ledger a rule over any heap -/
def noObjs (h : Heap) : Heap := { h with objs := #[] }
def ledger (h : Heap) (L d : Addr) : List (Addr × Obj) := (List.range h.objs.size).filterMap fun a => if a = L ∨ a = d then none else (h.get? a).map fun o => (a, o)
end
end Att

namespace L2
open PySem PySem.Spec PyProof.Rows

theorem vals_ints : ∀ {vs : List Value} {ns : List Int}, IntsAre vs ns → Vals (ns.map V.int) vs
  | _, _, .nil => .nil
  | _, _, .cons n t h => .cons ⟨t, rfl⟩ (vals_ints h)

/-- nothing is tracked but the script, known to the object (or it is an object of the module) -/
def Only (H : Hp) : Prop := ∀ b, H b = none ∨ ∃ o xs, H b = some (.frz o (.lst xs))

/-- THE HEAD: the law's promise, at the heap behind the top. F, the promise of the law's def, may use that base is part of the heap (so K.In base, base.Ns mainGlobals mg stand in Mod) -/
theorem law_call {P : Program} {w : World} {K : PySem.W.Frag} {mg mb : Str → Option Value} {CX : CXT} {k : Nat} {fa a : Addr} {fd : FuncData} {x : Str} {sp : Sp} {s₁ : Shared} {vs : List Value} {ns : List Int}
    (KX : K.In s₁.heap) (hns : s₁.heap.Ns mainGlobals mg) (hb : s₁.heap.Ns builtinsNs mb) (hbb : ∀ x : Str, x ≠ "__name__" → mb x = bootBuiltins x) (hlim : s₁.heap.NoLimit) (hg : s₁.gens = #[])
    (ha : s₁.heap.get? a = some { cls := .type "list", data := .seq vs.toArray }) (hi : IntsAre vs ns) (hl : ns.length ≤ sizeLine) (hr : Room k callerA)
    (F : ∀ base : Heap, K.In base → base.Ns mainGlobals mg → FnOk P w K mg base CX k fa fd [x] sp) (hbind : ∀ (s : Shared) (u : Value), BindsTo s fd ⟨[u], []⟩ [(x, u)])
    (hsp : ∀ H : Hp, Only H → SqL K H a (ns.map V.int) → sp [.ref a] H (fun v _ => v = .bl true) fun _ _ _ => False)
    (hCX : ∀ H e s', CX [] H s₁ (fun _ _ _ => False) e s' → False) :
    codeAny (model P w) callerA (.call (.ref fa) ⟨[.ref a], []⟩) (fun r s' => r = .ok (.ret (.bool true)) ∧ OldK s₁.heap s'.heap ∧ s'.os = s₁.os ∧ AllBare s'.gens) s₁ := by
  have rv := vals_ints hi
  have lenV := hi.length
  -- from an abstract heap in which nothing but the script may be tracked
  have core : ∀ H : Hp, Only H → SqL K H a (ns.map V.int) → HOk P w H s₁.heap → (∀ b, H b ≠ none → b = a) → (H a ≠ none → K.lookup a = none) →
      codeAny (model P w) callerA (.call (.ref fa) ⟨[.ref a], []⟩) (fun r s' => r = .ok (.ret (.bool true)) ∧ OldK s₁.heap s'.heap ∧ s'.os = s₁.os ∧ AllBare s'.gens) s₁ := by
    intro H hO hS hok hA hK
    have base_of : ∀ {b : Addr} {o : Obj}, s₁.heap.get? b = some o → H b = none → (hidT s₁.heap H).get? b = some o := fun e n => hidT_get e n
    have noA : ∀ {b : Addr} {o : Obj} {es : Array DictEntry} {ep : Nat}, s₁.heap.get? b = some o → o.data = .dict es ep → H b = none := fun {b o es ep} e d => by
      cases q : H b with
      | none => rfl
      | some u =>
        have e' : b = a := hA b (by rw [q]; simp)
        subst e'
        rw [ha] at e; cases e
        have d' : Data.seq vs.toArray _ = Data.dict es ep := d
        cases d'
    have nsK : ∀ {b : Addr} {m : Str → Option Value}, s₁.heap.Ns b m → (hidT s₁.heap H).Ns b m := fun {b m} ⟨o, es, ep, e, d, r⟩ => ⟨o, es, ep, base_of e (noA e d), d, r⟩
    have hKb : K.In (hidT s₁.heap H) := fun b o e => base_of (KX b o e) (by
      cases q : H b with
      | none => rfl
      | some u =>
        have e' : b = a := hA b (by rw [q]; simp)
        subst e'
        rw [hK (by rw [q]; simp)] at e; cases e)
    have hM : Mod K mg (hidT s₁.heap H) := ⟨hKb, nsK hns, ⟨mb, nsK hb, hbb⟩, let ⟨mc, h1, h2⟩ := hlim; ⟨mc, nsK h1, h2⟩⟩
    have e0 : Env0 P w K mg (hidT s₁.heap H) callerA [] s₁ H := ⟨rfl, hM, fun b o e => of_hidT e, Nat.le_of_eq (hidT_size _ _), trivial, fun b hb => absurd (show b ∈ ([] : List Addr) from hb) (by simp), hok, .of_eq hg⟩
    refine codeAny_mono ((F _ hKb (nsK hns)).run callerA [] s₁ H ⟨[.ref a], []⟩ [.ref a] [.ref a] _ _ hr e0 (hbind s₁ (.ref a)) (.cons rfl .nil) (hsp H hO hS)) fun r s' h => ?_
    cases r with
    | error e => exact (hCX H e s' h).elim
    | ok fl =>
      cases fl with
      | next => exact False.elim h
      | brk => exact False.elim h
      | cont => exact False.elim h
      | ret u =>
        obtain ⟨v, H', os, bare, un, hok', r', q⟩ := h
        have q' : v = .bl true := q
        subst q'
        obtain rfl : u = Value.bool true := r'
        refine ⟨rfl, OldK.of_keep fun b o e => ?_, os, bare⟩
        cases q : H b with
        | none => exact un.keep b o e q (by intro z; exact absurd (show b ∈ ([] : List Addr) from z) (by simp)) (by simp)
        | some u =>
          rcases hO b with z | ⟨ob, xs, z⟩
          · rw [q] at z; cases z
          · have z2 := un.frzs b ob _ z
            obtain ⟨e1, _⟩ := hok b _ z
            obtain ⟨e2, _⟩ := hok' b _ z2
            rw [e] at e1; cases e1
            exact e2
  cases hk : K.lookup a with
  | some o =>
    -- the script is one of the module's own objects
    have e := KX a o hk
    rw [ha] at e
    cases e
    refine core (fun _ => none) (fun _ => .inl rfl) (.inr ⟨_, vs.toArray, _, hk, rfl, rfl, rfl, by rw [List.size_toArray, lenV]; exact hl, by simpa using rv⟩) (fun b u z => by have z' : (none : Option HO) = some u := z; cases z') (fun b z => absurd rfl z) fun z => absurd rfl z
  | none =>
    refine core (fun b => if b = a then some (.frz { cls := .type "list", data := .seq vs.toArray } (.lst (ns.map V.int))) else none) (fun b => ?_) (.inl (.inr ⟨{ cls := .type "list", data := .seq vs.toArray }, if_pos rfl⟩)) (fun b u z => ?_) (fun b z => ?_) fun _ => hk
    · by_cases hb : b = a
      · exact .inr ⟨_, _, if_pos hb⟩
      · exact .inl (if_neg hb)
    · by_cases hb : b = a
      · have z' := (if_pos hb).symm.trans z
        cases z'
        subst hb
        exact ⟨ha, by rw [List.length_map]; exact hl, vs, _, rv, ha⟩
      · have z' := (if_neg hb).symm.trans z
        cases z'
    · by_cases hb : b = a
      · exact hb
      · exact absurd (if_neg hb) z
end L2

namespace L2
open PySem PySem.Spec PyProof.Rows

abbrev KOf {K : PySem.W.Frag} {h : Heap} (_ : K.In h) : PySem.W.Frag := K

/-- the goal that k_head leaves (case hc), from the law's promise. F gives the function object fd (K's own) once, then the promise over every base -/
theorem walk_of {l : PySem.W.OpenLaw} {n k : Nat} {q : Program} {loose : List Str} {XP : (Str → Option Value) → Heap → Prop} {YP : World → Heap → Prop} {d : DefRec} {K : Params → PySem.W.Frag} {CX : World → CXT} {sp : World → Sp} {x : Str}
    (hn : l.most = some n) (hn2 : n ≤ sizeLine) (hdf : d.params.defaults = []) (hr : Room k callerA)
    (hY : ∀ (w : World) (h : Heap), YP w h → (K w.params).In h)
    (F : ∀ (w : World) (mg : Str → Option Value) (fa : Addr) (h : Heap), (K w.params).In h → h.Ns mainGlobals mg → mg d.name = some (.ref fa) →
      ∃ fd : FuncData, (∀ (s : Shared) (u : Value), BindsTo s fd ⟨[u], []⟩ [(x, u)]) ∧
        ∀ base : Heap, (K w.params).In base → base.Ns mainGlobals mg → FnOk l.prog w (K w.params) mg base (CX w) k fa fd [x] (sp w))
    (hsp : ∀ (w : World) (H : Hp) (a : Addr) (ns : List Int), ns.length ≤ n → Only H → SqL (K w.params) H a (ns.map V.int) → sp w [.ref a] H (fun v _ => v = .bl true) fun _ _ _ => False)
    (hCX : ∀ (w : World) (H : Hp) (s : Shared) (e : Value) (s' : Shared), CX w [] H s (fun _ _ _ => False) e s' → False) :
    PySem.W.WalkO q loose XP YP l.row.toRowW d [] (fun f vs => PySem.call f vs) := by
  refine Att.attach_call hn hdf fun w s₀ s₁ mg mb fa o pm cd doc a vs ns G Y ho hd hcd hmg hobj hints hlen hg => ?_
  have KX := hY w _ Y
  obtain ⟨fd, hb, hF⟩ := F w mg fa _ KX G.T.g hmg
  exact law_call KX G.T.g G.T.b G.T.builtins G.T.nolimit hg hobj hints (Nat.le_trans hlen hn2) hr hF hb (fun H hO hS => hsp w H a ns hlen hO hS) fun H e s' => hCX w H s₁ e s'
end L2

/- THE LAST THEOREM (shape; LID, My.* are yours):
   My.Adr: a structure of the addresses that your layer names (classes, functions); My.Txt K t: a structure (Prop) of the equations over K;
   My.txt_mk : {K} {implicit addresses ..} (e1 : nsIn K mainGlobals "law" = some (some (.ref f))) (e2 : K.lookup f = some ⟨oc, od, .func (fnOf "law" "law" params body scope dV kV doc pm an cdv ct), sl⟩) (e3 : codeIn K cdv "law" = true) .. : ∃ t, My.Txt K t

set_option maxRecDepth 100000 in
set_option maxHeartbeats 0 in
theorem PySem.Challenge.cw_LID_holds : PySem.Challenge.rw_LID.Holds := by
  w_on; o_law; k_head; (case hw => w_witness2)
  k_fill
  refine L2.walk_of (l := PySem.Challenge.rw_LID) (n := 63) (k := 40) (x := "script") (CX := fun w => ..) (sp := fun _ => My.sp_law) rfl (by decide) rfl ⟨rfl, by decide, by decide⟩ (fun w h Y => PySem.W.kIn_of Y) ?F ?S ?C
  case F =>
    intro w mg fa h KX G hmg
    have T : ∃ t, My.Txt (L2.KOf KX) t := by
      dsimp only [L2.KOf]                          -- K must stand as «<heap const> w.params» for k_is
      refine' My.txt_mk ?e1 ?e2 ?e3 ..
      (case e1 => PySem.W.k_is)                    -- in the order: a name -> its address -> its object -> its parts
      (case e2 => PySem.W.k_is)
      ..
    obtain ⟨t, T⟩ := T
    have e0 := hmg.symm.trans (PySem.W.mg_of KX G T.law)
    cases e0                                       -- fa is the law's own address
    exact ⟨_, fun s u => .of_eq rfl, fun base kb nb => My.law_fn T kb nb⟩     -- if «.of_eq rfl» comes too early: refine' ⟨_, ?b, fun base kb nb => My.law_fn T kb nb⟩; exact fun s u => .of_eq rfl
  case S => exact fun w H a ns hl hO hS => ..
  case C => exact ..
(the tactic k_is has no namespace: write k_is) -/

/-! SHORT WORDS over the layer: a def of the text, its body, what a loop and a test want. -/
namespace L2
open PySem PySem.Spec PyProof.Rows

/-! ### the text by places -/
/-- the j-th statement of a class's body -/
def inClass (s : Stmt) (j : Nat) : Stmt := match s with
  | .ClassDef _ _ _ body _ _ _ _ _ _ _ => body.getD j (.Pass ⟨0, 0, 0, 0⟩)
  | _ => .Pass ⟨0, 0, 0, 0⟩
def defArgs (s : Stmt) : Arguments := match s with
  | .FunctionDef _ a _ _ _ _ _ _ _ _ => a
  | _ => { posonlyargs := [], args := [], vararg := none, kwonlyargs := [], kw_defaults := [], kwarg := none, defaults := [] }
def defBody (s : Stmt) : List Stmt := match s with
  | .FunctionDef _ _ b _ _ _ _ _ _ _ => b
  | _ => []
def defScope (s : Stmt) : Scope := match s with
  | .FunctionDef _ _ _ _ _ _ sc _ _ _ => sc
  | _ => { kind := .function, names := [], isGenerator := false, isCoroutine := false }

/-! ### no exception leaves a def -/
abbrev CX0 : CXT := fun _ _ _ _ _ _ => False
abbrev E0 : XK := fun _ _ _ => False
theorem pass0 {X : Cx} : Passes CX0 X E0 := fun _ _ _ _ _ _ _ h => h.elim

/-! ### a def (or method) of the text as it stands behind the top -/
structure Fun (K : PySem.W.Frag) (x qual : Str) (st : Stmt) (f : Addr) (fd : FuncData) : Prop where
  ex : ∃ (oc : Value) (od : Option Addr) (kV doc pm : Value) (an : Option Addr) (cdv ct : Value) (osl : Array (Option Value)),
    fd = PySem.W.fnOf x qual (defArgs st) (defBody st) (defScope st) .none kV doc pm an cdv ct ∧ K.lookup f = some ⟨oc, od, .func fd, osl⟩ ∧ PySem.W.codeIn K cdv qual = true
  kp : PySem.W.keepIn K (.ref f) = true
section
variable {P : Program} {w : World} {K : PySem.W.Frag} {mg : Str → Option Value} {base : Heap}
/-- THE RULE for a def: its body as a term of rules, and the reading of that term -/
theorem Fun.ok {x qual : Str} {st : Stmt} {f : Addr} {fd : FuncData} {N ps : List Str} {k : Nat} {sp : Sp} (F : Fun K x qual st f fd) (S : FnScope N ps (defScope st)) (len : ∀ vs H Q E, sp vs H Q E → vs.length = ps.length)
    (hbody : ∀ (cdv : Value) (A : Around) (outer : List Env) (s : Shared) (H : Hp) (vs : List V) (Q : VK) (E : XK), Room k (A.deeper (envOfC qual (defScope st) s.heap.objs.size f cdv)) → sp vs H Q E →
      ∃ t, PSs (cxOf CX0 P w K mg base N qual (defScope st) f cdv A outer s H E).nox (defBody st) t ∧ t { nx := fun _ H' => Q .non H', rt := Q } (start N vs) H) : FnOk P w K mg base CX0 (k + 1) f fd ps sp := by
  obtain ⟨oc, od, kV, doc, pm, an, cdv, ct, osl, rfl, lk, hcd⟩ := F.ex
  refine fn_of lk hcd S len fun A outer s H vs Q E hr hsp => ?_
  obtain ⟨t, h, q⟩ := hbody cdv A outer s H vs Q E hr hsp
  exact ⟨t, h.nox, q⟩
/-- how its arguments bind (no defaults): h is «fun _ _ _ _ _ _ us hl => by obtain ⟨v0, v1, rfl⟩ := L2.ln2 hl; rfl», one _ a parameter -/
theorem Fun.binds {x qual : Str} {st : Stmt} {f : Addr} {fd : FuncData} {ps : List Str} (F : Fun K x qual st f fd)
    (h : ∀ (kV doc pm : Value) (an : Option Addr) (cdv ct : Value) (us : List Value), us.length = ps.length → bindArgs (PySem.W.fnOf x qual (defArgs st) (defBody st) (defScope st) .none kV doc pm an cdv ct) ⟨us, []⟩ = pure (ps.zip us)) : Binds K fd ps [] := by
  obtain ⟨oc, od, kV, doc, pm, an, cdv, ct, osl, rfl, lk, hcd⟩ := F.ex
  exact .all (h kV doc pm an cdv ct)
theorem fun_mk {x qual : Str} {st : Stmt} {f : Addr} {oc : Value} {od an : Option Addr} {osl : Array (Option Value)} {kV doc pm cdv ct : Value} (l : K.lookup f = some ⟨oc, od, .func (PySem.W.fnOf x qual (defArgs st) (defBody st) (defScope st) .none kV doc pm an cdv ct), osl⟩)
    (c : PySem.W.codeIn K cdv qual = true) (k : PySem.W.keepIn K (.ref f) = true) : Fun K x qual st f (PySem.W.fnOf x qual (defArgs st) (defBody st) (defScope st) .none kV doc pm an cdv ct) := ⟨⟨oc, od, kV, doc, pm, an, cdv, ct, osl, rfl, l, c⟩, k⟩
end
theorem hu_of {A : Around} {k : Nat} (hr : Room k A) : A.units + 1 < cLine := Nat.lt_of_le_of_lt (Nat.add_le_add_left (by decide : 1 ≤ 64) _) hr.units
/-! ### expressions in short: the name that stands in the i-th slot -/
section
variable {X : Cx}
theorem pv (i : Nat) {x : Str} {pos : Pos} (hN : X.N[i]? = some x := by rfl) (hv : Vis X.env.scope x := by first | exact Or.inl rfl | exact Or.inr (Or.inl rfl) | exact Or.inr (Or.inr rfl)) (hd : (x == ("__debug__" : Str)) = false := by decide)
    (hcd : (x == ("__classdict__" : Str)) = false := by decide) : PE X (.Name x pos) (tVar i) := pe_var hN hv hd hcd
end

/-! ### tests -/
theorem iteF {A B : Prop} (h : B) : if false = true then A else B := by
  rw [if_neg Bool.false_ne_true]
  exact h
theorem iteT {A B : Prop} (h : A) : if true = true then A else B := by
  rw [if_pos rfl]
  exact h
theorem ite2 {c A B : Prop} [Decidable c] (h1 : c → A) (h2 : ¬ c → B) : if c then A else B := by
  by_cases h : c
  · rw [if_pos h]
    exact h1 h
  · rw [if_neg h]
    exact h2 h
theorem iteNS {c A B : Prop} [Decidable c] (hc : c) (h : B) : if (!decide c) = true then A else B := by
  rw [decide_eq_true hc]
  exact iteF h

/-! ### heaps -/
/-- all that was tracked is as it was -/
def Same (H H' : Hp) : Prop := ∀ b o, H b = some o → H' b = some o
theorem Same.refl (H : Hp) : Same H H := fun _ _ h => h
theorem Same.trans {H H1 H2 : Hp} (a : Same H H1) (b : Same H1 H2) : Same H H2 := fun c o h => b c o (a c o h)
theorem Same.seq {K : PySem.W.Frag} {H H' : Hp} {a : Addr} {xs : List V} (e : Same H H') (h : SqL K H a xs) : SqL K H' a xs := by
  rcases h with (h | ⟨o, h⟩) | h
  · exact .inl (.inl (e _ _ h))
  · exact .inl (.inr ⟨o, e _ _ h⟩)
  · exact .inr h

section
variable {X : Cx}
end
/-! ### a dict's pairs: keys that differ -/
section
variable {κ : Type} [DecidableEq κ]
end
end L2

/-! MORE OF THE HAND LAYER (own work): comprehensions, texts walked and sliced, all, any, isinstance. -/
namespace L2
open PySem PySem.Spec PyProof.Rows

/-! ### the cells that a comprehension's block takes over -/
def closF (env : Env) (cs : List (Str × Addr)) (y : Str × NameKind) : List (Str × Addr) :=
  if (y.2 == NameKind.free) = true then (y.1, (env.cells.lookup y.1).getD 0) :: cs else cs
def closL (env : Env) (names : List (Str × NameKind)) : List (Str × Addr) := names.foldl (closF env) []
theorem clos_from {env : Env} : ∀ (names : List (Str × NameKind)) (cs : List (Str × Addr)), (∀ y ∈ names, y.2 = .free → ∃ c, env.cells.lookup y.1 = some c) →
    (forIn names cs fun y r => (if (y.2 == NameKind.free) = true then do let a ← cellOf env y.1; pure (ForInStep.yield ((y.1, a) :: r)) else pure (ForInStep.yield r) : Sem (ForInStep (List (Str × Addr))))) = pure (names.foldl (closF env) cs)
  | [], cs, _ => rfl
  | y :: r, cs, h => by
    rw [List.forIn_cons, List.foldl_cons]
    by_cases hy : (y.2 == NameKind.free) = true
    · obtain ⟨c, hc⟩ := h y List.mem_cons_self (eq_of_beq hy)
      have e : cellOf env y.1 = pure c := by unfold cellOf; rw [hc]
      rw [if_pos hy, e, pure_bind, pure_bind]
      have e2 : closF env cs y = (y.1, c) :: cs := by unfold closF; rw [if_pos hy, hc]; rfl
      rw [e2]
      exact clos_from r _ fun z hz => h z (List.mem_cons_of_mem _ hz)
    · rw [if_neg hy, pure_bind]
      have e2 : closF env cs y = cs := by unfold closF; rw [if_neg hy]
      rw [e2]
      exact clos_from r _ fun z hz => h z (List.mem_cons_of_mem _ hz)
theorem clos_ok {env : Env} {scope : Scope} (h : ∀ y ∈ scope.names, y.2 = .free → ∃ c, env.cells.lookup y.1 = some c) : closureFor scope env = pure (closL env scope.names) := by
  have e := clos_from (env := env) scope.names [] h
  unfold closL
  rw [← e]
  simp only [closureFor, bind_pure_comp, map_pure, bind_pure]
theorem clos_sub {env : Env} : ∀ (names : List (Str × NameKind)) (cs : List (Str × Addr)), (∀ y ∈ names, y.2 = .free → ∃ c, env.cells.lookup y.1 = some c) → (∀ x c, cs.lookup x = some c → env.cells.lookup x = some c) →
    ∀ x c, (names.foldl (closF env) cs).lookup x = some c → env.cells.lookup x = some c
  | [], cs, _, hc, x, c, e => hc x c e
  | y :: r, cs, h, hc, x, c, e => by
    rw [List.foldl_cons] at e
    refine clos_sub r _ (fun z hz => h z (List.mem_cons_of_mem _ hz)) (fun z d q => ?_) x c e
    unfold closF at q
    by_cases hy : (y.2 == NameKind.free) = true
    · obtain ⟨c', hc'⟩ := h y List.mem_cons_self (eq_of_beq hy)
      rw [if_pos hy, List.lookup_cons, hc'] at q
      cases hz : z == y.1 with
      | true =>
        rw [hz] at q
        have q' : c' = d := Option.some.inj q
        rw [eq_of_beq hz, hc', q']
      | false =>
        rw [hz] at q
        exact hc z d q
    · rw [if_neg hy] at q
      exact hc z d q
theorem clos_has {env : Env} : ∀ (names : List (Str × NameKind)) (cs : List (Str × Addr)) (x : Str), ((x, NameKind.free) ∈ names ∨ ∃ c, cs.lookup x = some c) → ∃ c, (names.foldl (closF env) cs).lookup x = some c
  | [], cs, x, h => by
    rcases h with h | h
    · cases h
    · exact h
  | y :: r, cs, x, h => by
    rw [List.foldl_cons]
    refine clos_has r _ x ?_
    rcases h with h | ⟨c, h⟩
    · rcases List.mem_cons.mp h with e | e
      · subst e
        refine .inr ⟨(env.cells.lookup x).getD 0, ?_⟩
        unfold closF
        rw [if_pos (show ((x, NameKind.free).2 == NameKind.free) = true from rfl), List.lookup_cons, beq_self_eq_true]
      · exact .inl e
    · refine .inr ?_
      unfold closF
      by_cases hy : (y.2 == NameKind.free) = true
      · rw [if_pos hy, List.lookup_cons]
        cases hz : x == y.1 with
        | true => exact ⟨_, rfl⟩
        | false => exact ⟨c, h⟩
      · rw [if_neg hy]
        exact ⟨c, h⟩

/-! ### a comprehension's block -/
/-- the context in which its element and its tests run -/
abbrev cxComp (X : Cx) (scope : Scope) (N : List Str) (s : Shared) (H : Hp) (fp : List Addr) : Cx where
  prog := X.prog
  w := X.w
  K := X.K
  mg := X.mg
  base := X.base
  A := X.A
  N := N
  s₀ := s
  H₀ := H
  env := compEnvC scope (closL X.env scope.names) s.heap.objs.size X.env
  outer := X.stack
  stack := X.stack
  ex := fp
  fn := fun _ => false
  calm := X.calm
  pn := []
  xe := fun _ _ => False

/-- what of the text of a comprehension must be seen: xs its own names, fr the places of the names that it reads from around -/
structure CompTx (osc scope : Scope) (N0 : List Str) (xs : List Str) (fr : List Nat) : Prop where
  kind : scope.kind = .function
  nocell : ∀ y ∈ scope.names, y.2 ≠ .cell
  names : ∀ y ∈ scope.names, y.2 = .local → scope.names.lookup y.1 = some .local
  free : ∀ y ∈ scope.names, y.2 = .free → osc.names.lookup y.1 = some .cell ∨ osc.names.lookup y.1 = some .free
  fro : ∀ j ∈ fr, ∃ x, N0[j]? = some x ∧ scope.names.lookup x = some .free
  nd : (xs ++ fr.map fun j => N0.getD j "").Nodup

def compN (N0 : List Str) (xs : List Str) (fr : List Nat) : List Str := xs ++ fr.map fun j => N0.getD j ""
def compSt (xs : List Str) (fr : List Nat) (σ : St) : St := xs.map (fun _ => none) ++ fr.map fun j => (σ[j]?).join

theorem mem_of_lookup' {κ : Type} : ∀ {l : List (Str × κ)} {x : Str} {k : κ}, l.lookup x = some k → (x, k) ∈ l
  | [], _, _, h => by cases h
  | (n, k') :: r, x, k, h => by
    rw [List.lookup_cons] at h
    cases hx : x == n with
    | true =>
      rw [hx] at h
      have h' : k' = k := Option.some.inj h
      rw [eq_of_beq hx, h']
      exact List.mem_cons_self
    | false =>
      rw [hx] at h
      exact List.mem_cons_of_mem _ (mem_of_lookup' h)
/-- what a name of the block is -/
theorem relabel_look {env : Env} : ∀ {names : List (Str × NameKind)} {x : Str} {k : NameKind},
    (names.map fun (n, k) => if (k == NameKind.free && env.scope.kind == .function && env.kindOf n == some .cell) then (n, NameKind.cell) else (n, k)).lookup x = some k →
    names.lookup x = some k ∨ (k = .cell ∧ names.lookup x = some .free)
  | [], _, _, h => by cases h
  | (n, k') :: r, x, k, h => by
    have ih := @relabel_look env r x k
    rw [List.map_cons] at h
    rw [List.lookup_cons]
    by_cases hc : (k' == NameKind.free && env.scope.kind == .function && env.kindOf n == some .cell) = true
    · have h' : List.lookup x ((n, NameKind.cell) :: (r.map fun (n, k) => if (k == NameKind.free && env.scope.kind == .function && env.kindOf n == some .cell) then (n, NameKind.cell) else (n, k))) = some k := by
        rw [← h]; simp only [hc, if_true]
      rw [List.lookup_cons] at h'
      cases hx : x == n with
      | true =>
        rw [hx] at h'
        have h2 : NameKind.cell = k := Option.some.inj h'
        rw [Bool.and_eq_true, Bool.and_eq_true] at hc
        exact .inr ⟨h2.symm, congrArg some (eq_of_beq hc.1.1)⟩
      | false =>
        rw [hx] at h'
        exact ih h'
    · have h' : List.lookup x ((n, k') :: (r.map fun (n, k) => if (k == NameKind.free && env.scope.kind == .function && env.kindOf n == some .cell) then (n, NameKind.cell) else (n, k))) = some k := by
        rw [← h]; simp only [hc]; rfl
      rw [List.lookup_cons] at h'
      cases hx : x == n with
      | true =>
        rw [hx] at h'
        exact .inl h'
      | false =>
        rw [hx] at h'
        exact ih h'
theorem relabel_free {env : Env} : ∀ {names : List (Str × NameKind)} {x : Str}, names.lookup x = some .free →
    (names.map fun (n, k) => if (k == NameKind.free && env.scope.kind == .function && env.kindOf n == some .cell) then (n, NameKind.cell) else (n, k)).lookup x = some .cell ∨
    (names.map fun (n, k) => if (k == NameKind.free && env.scope.kind == .function && env.kindOf n == some .cell) then (n, NameKind.cell) else (n, k)).lookup x = some .free
  | [], _, h => by cases h
  | (n, k') :: r, x, h => by
    have ih := @relabel_free env r x
    rw [List.lookup_cons] at h
    rw [List.map_cons]
    by_cases hc : (k' == NameKind.free && env.scope.kind == .function && env.kindOf n == some .cell) = true
    · have e : (match (n, k') with | (n, k) => if (k == NameKind.free && env.scope.kind == .function && env.kindOf n == some .cell) then (n, NameKind.cell) else (n, k)) = (n, NameKind.cell) := by
        simp only [hc, if_true]
      rw [e, List.lookup_cons]
      cases hx : x == n with
      | true => exact .inl rfl
      | false => rw [hx] at h; exact ih h
    · have e : (match (n, k') with | (n, k) => if (k == NameKind.free && env.scope.kind == .function && env.kindOf n == some .cell) then (n, NameKind.cell) else (n, k)) = (n, k') := by
        simp only [hc]; rfl
      rw [e, List.lookup_cons]
      cases hx : x == n with
      | true =>
        rw [hx] at h
        exact .inr h
      | false => rw [hx] at h; exact ih h

section
variable {X : Cx}
theorem comp_free {osc scope : Scope} {N0 xs : List Str} {fr : List Nat} {pins : List (Addr × Obj)} {σ : St} {H : Hp} {s : Shared} (C : CompTx osc scope N0 xs fr) (ho : X.env.scope = osc) (I : Inv X pins σ H s) :
    ∀ y ∈ scope.names, y.2 = .free → ∃ c, X.env.cells.lookup y.1 = some c := fun y hy e => by
  refine I.ok.has y.1 ?_
  rw [← ho] at C
  exact C.free y hy e

/-- the block's entry -/
theorem comp_start {osc scope : Scope} {N0 xs : List Str} {fr : List Nat} {pins : List (Addr × Obj)} {σ : St} {H : Hp} {s : Shared} {fp : List Addr} {h₁ : Heap} {tk : Nat} (C : CompTx osc scope N0 xs fr) (ho : X.env.scope = osc) (hN0 : X.N = N0) (I : Inv X pins σ H s)
    (hf : ∀ b ∈ fp, FpOk X pins H b) (hlt : ∀ b ∈ fp, b < s.heap.objs.size) (hn : h₁.Ns s.heap.objs.size fun _ => none) (hk : ∀ b o, s.heap.get? b = some o → h₁.get? b = some o) :
    Inv (cxComp X scope (compN N0 xs fr) s H fp) [] (compSt xs fr σ) H { s with heap := h₁, toks := tk } := by
  subst hN0
  have hfree := comp_free C ho I
  have sub := clos_sub (env := X.env) scope.names [] hfree (fun x c e => by cases e)
  have nC : ∀ x c, X.env.cells.lookup x = some c → c ≠ s.heap.objs.size := fun x c e z => by
    obtain ⟨v, q⟩ := I.cell x c e
    exact absurd q.lt (by rw [z]; exact Nat.lt_irrefl _)
  refine ⟨⟨I.ok.mod, C.kind, I.ok.glob, I.ok.blt, Nat.le_refl _, fun x y c h1 h2 => I.ok.inj x y c (sub x c h1) (sub y c h2), fun x hx => ?_, fun x c h _ => (Bool.false_ne_true h).elim, I.ok.hd, I.ok.frames, .inl rfl, fun b hb => ?_, I.bs, Nat.le_trans I.ok.bsz I.sz, fun b o e hb => ?_, fun b hb hz => ?_, I.stack, I.stkFree⟩,
    rfl, I.bare, Un.kept hk, ⟨_, hn, fun i x v h1 h2 h3 => ?_⟩, fun x c h => ?_, I.hok.fresh (Nat.le_refl _), fun x c h => I.freeC x c (sub x c h), fun p hp => absurd (show p ∈ ([] : List (Addr × Obj)) from hp) (by simp), I.hok.kept hk, ?_⟩
  · have hx' : (relabel scope X.env).names.lookup x = some .cell ∨ (relabel scope X.env).names.lookup x = some .free := hx
    refine clos_has (env := X.env) scope.names [] x (.inl ?_)
    rcases hx' with q | q
    · rcases relabel_look q with z | ⟨_, z⟩
      · exact absurd rfl (C.nocell _ (mem_of_lookup' z))
      · exact mem_of_lookup' z
    · rcases relabel_look q with z | ⟨z, _⟩
      · exact mem_of_lookup' z
      · cases z
  · exact ⟨Nat.ne_of_lt (hlt b hb), fun x c h => (hf b hb).2.2.2.2.1 x c (sub x c h)⟩
  · rcases (hf b hb).2.2.2.1 with z | z
    · exact I.ok.noex b o e z
    · exact absurd (Nat.lt_of_lt_of_le (Heap.lt_size e) (Nat.le_trans I.ok.bsz z)) (Nat.lt_irrefl _)
  · rcases List.mem_cons.mp (I.stkSub b hz) with z | z
    · exact (hf b hb).2.1 z
    · exact (hf b hb).2.2.1 z
  · -- a name that is set stands behind the block's own ones
    have hi : ¬ i < xs.length := fun hi => by
      unfold compSt at h2
      rw [List.getElem?_append_left (by rw [List.length_map]; exact hi), List.getElem?_map] at h2
      cases q : xs[i]? with
      | none => rw [q] at h2; cases h2
      | some y => rw [q] at h2; cases h2
    have hi' : xs.length ≤ i := Nat.le_of_not_lt hi
    have e2 : (fr.map fun j => (σ[j]?).join)[i - xs.length]? = some (some v) := by
      have := h2
      unfold compSt at this
      rw [List.getElem?_append_right (by rw [List.length_map]; exact hi'), List.length_map] at this
      exact this
    rw [List.getElem?_map] at e2
    cases q : fr[i - xs.length]? with
    | none => rw [q] at e2; cases e2
    | some j =>
      rw [q] at e2
      have e3 : (σ[j]?).join = some v := Option.some.inj e2
      have e4 : σ[j]? = some (some v) := by
        cases z : σ[j]? with
        | none => rw [z] at e3; cases e3
        | some u => rw [z] at e3; rw [show u = some v from e3]
      obtain ⟨y, hy, hyf⟩ := C.fro j (List.mem_of_getElem? q)
      have ex : x = y := by
        have h1' : (compN X.N xs fr)[i]? = some x := h1
        unfold compN at h1'
        rw [List.getElem?_append_right hi', List.getElem?_map, q] at h1'
        have h5 : X.N.getD j "" = x := Option.some.inj h1'
        rw [← h5, List.getD_eq_getElem?_getD, hy]
        rfl
      subst ex
      obtain ⟨m, _, hl⟩ := I.loc
      have kf := C.free _ (mem_of_lookup' hyf) rfl
      rw [← ho] at kf
      have vis : Vis X.env.scope x := by
        rcases kf with z | z
        · exact .inr (.inl z)
        · exact .inr (.inr z)
      obtain ⟨u, r, l⟩ := hl j x v hy e4 vis
      refine ⟨u, r, .inr ⟨relabel_free hyf, ?_⟩⟩
      rcases l with ⟨z, _⟩ | ⟨_, c, hc, hcell⟩
      · have z' : X.env.scope.names.lookup x = some .local := z
        rcases kf with w | w
        · rw [z'] at w; cases w
        · rw [z'] at w; cases w
      · obtain ⟨c', hc'⟩ := clos_has (env := X.env) scope.names [] x (.inl (mem_of_lookup' hyf))
        have e5 := sub x c' hc'
        rw [hc] at e5
        cases e5
        refine ⟨c, hc', ?_⟩
        obtain ⟨o, ho', hd⟩ := hcell
        exact ⟨o, hk _ _ ho', hd⟩
  · obtain ⟨v, o, ho', hd⟩ := I.cell x c (sub x c h)
    exact ⟨v, o, hk _ _ ho', hd⟩
  · show (compSt xs fr σ).length = (compN X.N xs fr).length
    unfold compSt compN
    simp
end
end L2

namespace L2
open PySem PySem.Spec PyProof.Rows

/-! ### the tests of a comprehension: none, or one -/
def PIf (X : Cx) (ifs : List Expr) (t : TT) : Prop :=
  ∀ (pins : List (Addr × Obj)) (s : Shared) (σ : St) (H : Hp) (Q : Bool → Hp → Prop), Inv X pins σ H s → t σ H Q →
    wpAny (model X.prog X.w) X.A (forIn ifs true fun c r => if r = true then do let ok ← isTrue c X.env (eval c X.env); pure (ForInStep.yield ok) else pure (ForInStep.yield r)) (TP X pins σ Q) X.xe s
def tYes : TT := fun _ H Q => Q true H
theorem pif_nil {X : Cx} : PIf X [] tYes := fun _ _ σ H Q I h => wpAny_tests_nil ⟨H, I, h⟩
/-- what is wanted of a comprehension's walk over J: W by the turn, a measure, the block's names, the heap; D the list; N behind an element that is kept, M behind one that is left out -/
def CompW (J : It) (g : TG) (tt : TT) (te : TE) (R : Addr → Hp → Prop) (D : Addr) (σ0 : St) (H0 : Hp) : Prop :=
  ∃ W : Nat → Nat → St → Hp → Prop, (∃ m, W 0 m σ0 H0) ∧ ∀ i m σ H, W i m σ H →
    (J.stop i H ∧ R D H) ∨
    (J.go i H ∧ ∃ (N : St → V → Hp → Prop) (M : St → Hp → Prop), (∀ σ2 y H4, N σ2 y H4 → ∃ ys, H4 D = some (.lst ys) ∧ ys.length < sizeLine ∧ ∃ m', m' < m ∧ W (i + 1) m' σ2 (upd H4 D (.lst (ys ++ [y])))) ∧
      (∀ σ2 H3, M σ2 H3 → ∃ m', m' < m ∧ W (i + 1) m' σ2 H3) ∧
      ∀ x H', J.yld i H x H' → g x σ H' fun σ2 H2 => tt σ2 H2 fun b H3 => if b = true then te σ2 H3 (N σ2) else M σ2 H3)
/-- [elt for tg in iter if ..] -/
def tComp (xs : List Str) (fr : List Nat) (wi : TI) (g : TG) (tt : TT) (te : TE) : TE := fun σ H Q => wi σ H fun J H1 => ∀ D, H1 D = none → CompW J g tt te (fun D H2 => Q (.ref D) H2) D (compSt xs fr σ) (upd H1 D (.lst []))
/-- x = [elt for tg in iter if ..], x in the i-th slot -/
def sComp (i : Nat) (xs : List Str) (fr : List Nat) (wi : TI) (g : TG) (tt : TT) (te : TE) : TS := fun E σ H => wi σ H fun J H1 => ∀ D, H1 D = none → CompW J g tt te (fun D H2 => E.nx (σ.set i (some (.ref D))) H2) D (compSt xs fr σ) (upd H1 D (.lst []))

section
variable {X : Cx}
theorem comp_block {osc scope : Scope} {N0 xs : List Str} {fr : List Nat} {pins : List (Addr × Obj)} {σ : St} {H2 : Hp} {s2 : Shared} {fp : List Addr} {it : Addr} {tn : Nat → Heap → Prop} {J : It} {elt tg iter : Expr} {ifs : List Expr} {pos : Pos}
    {g : TG} {tt : TT} {te : TE} {E : Value → Shared → Prop} {R : Addr → Hp → Prop} {RR : Value → Addr → Result → Shared → Prop} (C : CompTx osc scope N0 xs fr) (ho : X.env.scope = osc) (hN0 : X.N = N0) (hc : X.calm = true)
    (hg : ∀ s H fp, PG (cxComp X scope (compN N0 xs fr) s H fp) tg g) (ht : ∀ s H fp, PIf (cxComp X scope (compN N0 xs fr) s H fp) ifs tt) (he : ∀ s H fp, PE (cxComp X scope (compN N0 xs fr) s H fp) elt te)
    (I2 : Inv X pins σ H2 s2) (T : Turn X.prog X.w X.K tg J fp it tn) (st2 : tn 0 s2.heap) (f2 : ∀ b ∈ fp, FpOk X pins H2 b)
    (hR : ∀ D, H2 D = none → CompW J g tt te R D (compSt xs fr σ) (upd H2 D (.lst [])))
    (hRR : ∀ (D C : Addr) (s' : Shared) (H' : Hp) (m : Str → Option Value), Inv X pins σ H' s' → s'.heap.Ns C m → FpOk X pins H' C → R D H' → RR (.ref D) C (.ok .next) s') :
    wpAny (model X.prog X.w) X.A (newList []) (fun acc s₃ => wpAny (model X.prog X.w) X.A (newFunctionEnv scope X.env.globals (closL X.env scope.names) [] X.env.qual none .none (some X.env)) (fun cenv s₄ =>
      codeAny (model X.prog X.w) X.A (.compStart (.ListComp elt [⟨tg, iter, ifs, 0⟩] scope pos) 0 (.ref it) acc { cenv with scope := relabel scope X.env }) (RR acc cenv.locals) s₄) E s₃) E s2 := by
  refine wpAny_newObj_type (wpAny_newFunctionEnv C.nocell (by intro y hy; simp at hy) (fun h₁ hns₁ hsb₁ => ?_) C.kind)
  dsimp only at hns₁ hsb₁ ⊢
  have I3 : Inv X pins σ (upd H2 s2.heap.objs.size (.lst [])) { s2 with heap := s2.heap.push { cls := .type "list", data := .seq ([] : List Value).toArray } } := I2.lnew (its := []) (t' := s2.toks) .nil (by simp)
  have flt : ∀ b ∈ fp, b < s2.heap.objs.size := fun b hb => by
    obtain ⟨o, e, _⟩ := T.obj 0 _ st2 b hb
    exact Heap.lt_size e
  have f3 : ∀ b ∈ fp, FpOk X pins (upd H2 s2.heap.objs.size (.lst [])) b := fun b hb => ⟨by rw [upd_ne (Nat.ne_of_lt (flt b hb))]; exact (f2 b hb).1, (f2 b hb).2⟩
  have flt3 : ∀ b ∈ fp, b < (s2.heap.push { cls := .type "list", data := .seq ([] : List Value).toArray }).objs.size := fun b hb => by
    rw [Heap.size_push]
    exact Nat.lt_succ_of_lt (flt b hb)
  obtain ⟨W, ⟨m0, w0⟩, turn⟩ := hR s2.heap.objs.size I2.fresh
  generalize hD : s2.heap.objs.size = D at *
  generalize hs3 : s2.heap.push { cls := .type "list", data := .seq ([] : List Value).toArray } = h3 at *
  have up2 : ∀ b o, s2.heap.get? b = some o → h3.get? b = some o := fun b o e => by rw [← hs3]; exact Heap.get?_push_of_some _ e
  have old : ∀ b o, h3.get? b = some o → h₁.get? b = some o := fun b o e => hsb₁.extBut b o (Nat.ne_of_lt (Heap.lt_size e)) (Heap.get?_push_of_some _ e)
  have Ic := comp_start (tk := s2.toks + ([] : List (Str × Value)).length) C ho hN0 I3 f3 flt3 hns₁ old
  have st4 : tn 0 h₁ := T.keep 0 _ _ st2 fun b hb o e => old b o (up2 b o e)
  have stat : ∀ {H' : Hp}, (∀ b ∈ fp, H' b = none) → ∀ b ∈ fp, FpOk (cxComp X scope (compN N0 xs fr) { s2 with heap := h3 } (upd H2 D (.lst [])) fp) [] H' b := fun hn b hb =>
    ⟨hn b hb, Nat.ne_of_lt (flt3 b hb), fun z => by
      rcases List.mem_cons.mp (I3.stkSub b z) with q | q
      · exact (f3 b hb).2.1 q
      · exact (f3 b hb).2.2.1 q, .inl hb, fun x c h => (Ic.ok.exf b hb).2 x c h, fun p hp => absurd (show p ∈ ([] : List (Addr × Obj)) from hp) (by simp)⟩
  have fin : ∀ {σ' : St} {H' : Hp} {s' : Shared}, Inv (cxComp X scope (compN N0 xs fr) { s2 with heap := h3 } (upd H2 D (.lst [])) fp) [] σ' H' s' → R D H' → RR (.ref D) h3.objs.size (.ok .next) s' := fun {σ' H' s'} I' q => by
    obtain ⟨m, hm, _⟩ := I'.loc
    refine hRR D h3.objs.size s' H' m (I3.call' I'.os I'.base I'.hok I'.bare fun b hb => ?_) hm (I3.fpOk (Nat.le_refl _) I'.free) q
    exact ⟨(f3 b hb).2.2.2.1, (f3 b hb).2.1, (f3 b hb).2.2.2.2.1, (f3 b hb).2.2.2.2.2⟩
  have loop : codeAny (model X.prog X.w) X.A (.compLoop (.ListComp elt [⟨tg, iter, ifs, 0⟩] scope pos) 0 (.ref it) (.ref D) (compEnvC scope (closL X.env scope.names) h3.objs.size X.env)) (RR (.ref D) h3.objs.size) { s2 with heap := h₁, toks := s2.toks + ([] : List (Str × Value)).length } := by
    refine codeAny_loop rfl (fun n s' => ∃ i σ' H', Inv (cxComp X scope (compN N0 xs fr) { s2 with heap := h3 } (upd H2 D (.lst [])) fp) [] σ' H' s' ∧ tn i s'.heap ∧ (∀ b ∈ fp, H' b = none) ∧ W i n σ' H') (fun n s' hI => ?_) m0 ⟨0, _, _, Ic, st4, fun b hb => (f3 b hb).1, w0⟩
    show wpAny _ X.A ((compTurn (.ListComp elt [⟨tg, iter, ifs, 0⟩] scope pos) 0 (.ref it) (.ref D) (compEnvC scope (closL X.env scope.names) h3.objs.size X.env)).onRaise (fun x => do noteFrame x (compEnvC scope (closL X.env scope.names) h3.objs.size X.env); theTreesLotGoes x)) _ _ s'
    refine wpAny_noted ?_
    rw [compTurn_list]
    obtain ⟨i, σ', H', I', st', fr', w'⟩ := hI
    refine wpAny_bind (wpAny_standAt (wpAny_bind ?_))
    rcases turn i n σ' H' w' with ⟨stop, q⟩ | ⟨go, N, M, hN, hM, step⟩
    · refine thn (T.done (cxComp X scope (compN N0 xs fr) { s2 with heap := h3 } (upd H2 D (.lst [])) fp) rfl rfl rfl hc i [] s' σ' H' _ I' (stat fr') st' stop) fun r s4 ⟨hr, I4⟩ => ?_
      subst hr
      exact wpAny_pure (fin I4 q)
    · refine thn (T.item (cxComp X scope (compN N0 xs fr) { s2 with heap := h3 } (upd H2 D (.lst [])) fp) rfl rfl rfl hc i [] s' σ' H' _ I' (stat fr') st' go) fun r s4 ⟨u, hr, h4⟩ => ?_
      subst hr
      refine wpAny_bind (thn h4 fun _ s5 ⟨x, H5, I5, r5, y5, st5, fr5⟩ => ?_)
      have I5' := I5.pinned (stat fr5) (T.obj _ _ st5)
      have again : ∀ {σ7 : St} {H7 : Hp} {s7 : Shared}, Inv (cxComp X scope (compN N0 xs fr) { s2 with heap := h3 } (upd H2 D (.lst [])) fp) ([] ++ pinsAt fp s5.heap) σ7 H7 s7 → (∃ m', m' < n ∧ W (i + 1) m' σ7 H7) →
          ∃ m, m < n ∧ ∃ i σ' H', Inv (cxComp X scope (compN N0 xs fr) { s2 with heap := h3 } (upd H2 D (.lst [])) fp) [] σ' H' s7 ∧ tn i s7.heap ∧ (∀ b ∈ fp, H' b = none) ∧ W i m σ' H' := fun {σ7 H7 s7} I7 n7 => by
        obtain ⟨m', hm, w7⟩ := n7
        refine ⟨m', hm, i + 1, σ7, H7, I7.unpinned, T.keep _ _ _ st5 fun b hb o e => (I7.pin (b, o) (List.mem_append_right _ (List.mem_append_right _ (mem_pinsAt hb e)))).1, fun b hb => ?_, w7⟩
        obtain ⟨o, e, d⟩ := T.obj _ _ st5 b hb
        exact (I7.pin (b, o) (List.mem_append_right _ (List.mem_append_right _ (mem_pinsAt hb e)))).2.1
      refine wpAny_bind (wpAny_mono (hg _ _ _ _ s5 σ' H5 x u _ I5' r5 (step x H5 y5)) (fun _ s6 ⟨σ6, H6, I6, q6⟩ => ?_) fun _ _ z => False.elim z)
      refine wpAny_bind (wpAny_mono (ht _ _ _ _ s6 σ6 H6 _ I6 q6) (fun ok s7 ⟨H7, I7, q7⟩ => ?_) fun _ _ z => False.elim z)
      cases ok with
      | false =>
        rw [if_neg Bool.false_ne_true] at q7
        exact wpAny_pure ⟨rfl, again I7 (hM _ _ q7)⟩
      | true =>
        rw [if_pos rfl] at q7
        refine wpAny_bind (wpAny_bind (wpAny_mono (he _ _ _ _ s7 σ6 H7 _ I7 q7) (fun y s8 ⟨v, H8, I8, r8, q8⟩ => ?_) fun _ _ z => False.elim z))
        obtain ⟨ys, eD, hz, q8⟩ := hN _ _ _ q8
        refine wpAny_bind (wpAny_mono (mt_append (X := cxComp X scope (compN N0 xs fr) { s2 with heap := h3 } (upd H2 D (.lst [])) fp) _ s8 σ6 H8 (.ref D) [v] (.ref D) [y] (fun _ H9 => ∃ m', m' < n ∧ W (i + 1) m' σ6 H9) I8 rfl (.cons r8 .nil) ⟨D, ys, v, rfl, rfl, eD, hz, q8⟩) (fun _ s9 ⟨_, H9, I9, _, q9⟩ => ?_) fun _ _ z => False.elim z)
        exact wpAny_pure (wpAny_pure ⟨rfl, again I9 q9⟩)
  exact codeAny_compStart_list loop (T.self X.A 0 _ _ _ st4 loop)

variable {osc scope : Scope} {N0 xs : List Str} {fr : List Nat} {elt tg iter : Expr} {ifs : List Expr} {pos : Pos} {wi : TI} {g : TG} {tt : TT} {te : TE}
theorem pe_comp (C : CompTx osc scope N0 xs fr) (ho : X.env.scope = osc) (hN0 : X.N = N0) (hc : X.calm = true) (hi : PI X tg iter wi)
    (hg : ∀ s H fp, PG (cxComp X scope (compN N0 xs fr) s H fp) tg g) (ht : ∀ s H fp, PIf (cxComp X scope (compN N0 xs fr) s H fp) ifs tt) (he : ∀ s H fp, PE (cxComp X scope (compN N0 xs fr) s H fp) elt te)
    (hs : ∀ x, foldedSetIterable iter X.env x = pure x := by intro _; rfl) : PE X (.ListComp elt [⟨tg, iter, ifs, 0⟩] scope pos) (tComp xs fr wi g tt te) := by
  intro pins s σ H Q I h
  rw [eval_ListComp]
  refine wpAny_comprehension_free (use := none) rfl hs (clos_ok (comp_free C ho I)) C.kind C.names (thn (hi pins s σ H _ I h) fun v s1 h1 => thn h1 fun itv s2 h2 => ?_)
  obtain ⟨it, fp, tn, J, H2, e, I2, T, st2, f2, hR⟩ := h2
  subst e
  refine comp_block C ho hN0 hc hg ht he I2 T st2 f2 hR fun D C s' H' m I' hm fC q => ?_
  refine ⟨m, hm, fun h' sb => ⟨.ref D, H', ?_, rfl, q⟩⟩
  exact I'.turned (t' := s'.toks) (fun b o hb e => (sb.2 b hb).trans e) fC.1 fC.2.1 fC.2.2.2.1 fC.2.2.2.2.1 fC.2.2.2.2.2
theorem ps_comp {i : Nat} {y : Str} {py spos : Pos} (C : CompTx osc scope N0 xs fr) (ho : X.env.scope = osc) (hN0 : X.N = N0) (hc : X.calm = true) (hi : PI X tg iter wi)
    (hg : ∀ s H fp, PG (cxComp X scope (compN N0 xs fr) s H fp) tg g) (ht : ∀ s H fp, PIf (cxComp X scope (compN N0 xs fr) s H fp) ifs tt) (he : ∀ s H fp, PE (cxComp X scope (compN N0 xs fr) s H fp) elt te)
    (hN : X.N.Nodup) (hy : X.N[i]? = some y) (hx : Loc X.env.scope y)
    (hsw : swapsWith (.ListComp elt [⟨tg, iter, ifs, 0⟩] scope pos) (some (.Name y py)) spos.line X.env = pure true := by rfl)
    (hf : X.fn y = true ∨ X.env.scope.names.lookup y = some .local := by first | exact .inl rfl | exact .inr rfl | assumption)
    (hs : ∀ x, foldedSetIterable iter X.env x = pure x := by intro _; rfl) : PS X (.Assign [.Name y py] (.ListComp elt [⟨tg, iter, ifs, 0⟩] scope pos) spos) (sComp i xs fr wi g tt te) := by
  intro pins s σ H D I h
  rw [exec_Assign_Name_used _ _ _ _ hsw]
  refine wpAny_bind (wpAny_standAt (wpAny_bind ?_))
  show wpAny _ X.A (do let _ ← comprehension (.ListComp elt [⟨tg, iter, ifs, 0⟩] scope pos) scope X.env _ (newList []) false (eval iter X.env) (some (assign (.Name y py) X.env))) _ _ s
  refine wpAny_bind (wpAny_mono (wpAny_comprehension_free (use := some (assign (.Name y py) X.env)) (Q := fun _ s' => SP X pins D .next s') rfl hs (clos_ok (comp_free C ho I)) C.kind C.names
    (thn (hi pins s σ H _ I h) fun v s1 h1 => thn h1 fun itv s2 h2 => ?_)) (fun _ s' hq => wpAny_pure (wpAny_pure hq)) fun _ _ e => e)
  obtain ⟨it, fp, tn, J, H2, e, I2, T, st2, f2, hR⟩ := h2
  subst e
  refine comp_block C ho hN0 hc hg ht he I2 T st2 f2 hR fun Dl C s' H' m I' hm fC q => ?_
  refine wpAny_assign_Name (store_ok2 I' hN hy hx (show RelV (.ref Dl) (.ref Dl) from rfl) (fun s3 I3 hsb => ?_) hf)
  obtain ⟨a, sb, ha⟩ := hsb
  have hCa : C ≠ a := by
    rcases ha with z | z
    · rw [z]; exact fC.2.1
    · exact fun w => fC.2.2.2.2.1 y a z w.symm
  refine ⟨m, hm.sameBut sb hCa, fun h' sb' => ⟨_, H', ?_, q⟩⟩
  exact I3.turned (t' := s3.toks) (fun b o hb e => (sb'.2 b hb).trans e) fC.1 fC.2.1 fC.2.2.2.1 fC.2.2.2.2.1 fC.2.2.2.2.2
end

/-! ### a text, walked sign by sign -/
def Its (x : Str) : It := ⟨fun i _ => i < x.cps.size, fun i H v H' => H' = H ∧ ∃ c, x.cps[i]? = some c ∧ v = .str ⟨#[c]⟩, fun i _ => x.cps.size ≤ i⟩
theorem strIter_ty (x : Str) : strIterType x = "str_ascii_iterator" ∨ strIterType x = "str_iterator" := by
  unfold strIterType
  split
  · exact .inl rfl
  · exact .inr rfl
theorem turn_str {P : Program} {w : World} {K : PySem.W.Frag} {tg : Expr} (x : Str) (t : Tok) (it : Addr) : Turn P w K tg (Its x) [it] it (fun i h => h.IsStrIter it (strIterType x) x t i) where
  mem := by simp
  obj := fun i h st b hb => by
    have e : b = it := by simpa using hb
    subst e
    obtain ⟨o, e, c, d⟩ := st
    exact ⟨o, e, fun v z => by rw [d] at z; cases z⟩
  keep := fun i h h' st k => by
    obtain ⟨o, e, r⟩ := st
    exact ⟨o, k it (by simp) o e, r⟩
  item := by
    intro X hP hw hK hc i pins s σ H E I hf st hg
    subst hP hw hK
    have hg' : i < x.cps.size := hg
    obtain ⟨f0, f1, f2, f3, f4, f5⟩ := hf it (by simp)
    have key : ∀ h', h'.IsStrIter it (strIterType x) x t (i + 1) → Heap.SameBut it s.heap h' → ∃ u, some (Value.str ⟨#[x.cps[i]]⟩ s.toks) = some u ∧
      wpAny (model X.prog X.w) X.A (letOwnedTupleGo tg (.ref it) u) (fun _ s2 => ∃ v H', Inv X pins σ H' s2 ∧ RelV v u ∧ (Its x).yld i H v H' ∧ s2.heap.IsStrIter it (strIterType x) x t (i + 1) ∧ ∀ b ∈ [it], H' b = none) E { s with heap := h', toks := s.toks + 1 } := fun h' st' sb => by
      have I1 : Inv X pins σ H { s with heap := h', toks := s.toks + 1 } := I.turned (t' := s.toks + 1) (fun b o hb e => (sb.2 b hb).trans e) f0 f1 f3 f4 f5
      obtain ⟨o, e, c, d⟩ := id st'
      refine ⟨_, rfl, go_of (s := { s with heap := h', toks := s.toks + 1 }) e c d ?_ ⟨.str ⟨#[x.cps[i]]⟩, H, I1, ⟨_, rfl⟩, ⟨rfl, _, by simp [hg'], rfl⟩, st', fun b hb => (hf b hb).1⟩⟩
      rcases strIter_ty x with z | z <;> rw [z] <;> decide
    rcases strIter_ty x with z | z
    · rw [z] at st key
      rw [z]
      exact wpAny_pyNext_ascii_item st (c := x.cps[i]) (by simp [hg']) fun h' a b => key h' a b
    · rw [z] at st key
      rw [z]
      exact wpAny_pyNext_wide_item st (c := x.cps[i]) (by simp [hg']) fun h' a b => key h' a b
  done := by
    intro X hP hw hK hc i pins s σ H E I hf st hg
    subst hP hw hK
    have hg' : x.cps.size ≤ i := hg
    obtain ⟨f0, f1, f2, f3, f4, f5⟩ := hf it (by simp)
    have hx : x.cps[i]? = none := by simp [hg']
    rcases strIter_ty x with z | z
    · rw [z] at st
      exact wpAny_pyNext_ascii_end (I.ok.hd hc) st hx fun h' eb => ⟨rfl, I.turned (t' := s.toks) (fun b o hb e => eb b o hb e) f0 f1 f3 f4 f5⟩
    · rw [z] at st
      exact wpAny_pyNext_wide_end (I.ok.hd hc) st hx fun h' eb => ⟨rfl, I.turned (t' := s.toks) (fun b o hb e => eb b o hb e) f0 f1 f3 f4 f5⟩
  self := fun A i s Q E st h => by
    rcases strIter_ty x with z | z
    · rw [z] at st
      exact wpAny_pyIter_striter_ascii st h
    · rw [z] at st
      exact wpAny_pyIter_striter_wide st h
section
variable {X : Cx} {tg : Expr}
def iStr (tl : TE) : TI := fun σ H R => tl σ H fun x H1 => ∃ z, x = .str z ∧ R (Its z) H1
theorem pi_str {l : Expr} {tl : TE} (hl : PE X l tl) : PI X tg l (iStr tl) := by
  intro pins s σ H R I h
  refine thn (hl pins s σ H _ I h) fun v s1 ⟨x, H1, I1, r1, q1⟩ => ?_
  obtain ⟨z, e, q⟩ := q1
  subst e
  obtain ⟨t, rfl⟩ := r1
  refine wpAny_pyIter_strU ?_
  refine ⟨s1.heap.objs.size, [s1.heap.objs.size], _, _, H1, rfl, I1.kept (t' := s1.toks) fun b o e => Heap.get?_push_of_some _ e, turn_str z t _, ⟨_, Heap.get?_push_size _ rfl, rfl, rfl⟩, fun b hb => ?_, q⟩
  have e : b = s1.heap.objs.size := by simpa using hb
  subst e
  exact I1.fpOk (Nat.le_refl _) (I1.hok.fresh (Nat.le_refl _))

/-! ### all, any of a list of truths -/
theorem bools_of : ∀ {bs : List Bool} {us : List Value}, Vals (bs.map V.bl) us → LSm.BoolsAre us bs
  | [], _, r => by rw [List.map_nil] at r; cases r; exact .nil
  | b :: bs, _, r => by
    rw [List.map_cons] at r
    cases r with
    | cons h t =>
      cases h
      exact .cons b (bools_of t)
theorem call_all (hc : X.calm = true) : CallR X (.builtin "all") (fun xs H Q => ∃ (p : Addr) (bs : List Bool), xs = [.ref p] ∧ SqL X.K H p (bs.map V.bl) ∧ Q (.bl (bs.all id)) H) := by
  intro pins s σ H xs us Q I r h
  obtain ⟨l, bs, rfl, hq, q⟩ := h
  obtain ⟨u, rfl, rx⟩ := vals1 r
  cases rx
  obtain ⟨vs, r', pl, hz⟩ := I.list hq
  have hb : LSm.BoolsAre vs bs := bools_of r'
  have hl := pl.isList
  have hlt : l < s.heap.objs.size := by obtain ⟨_, e, _⟩ := hl; exact Heap.lt_size e
  refine call_all_walk (wpAny_pyIter_list hl ?_)
  refine ⟨s.heap.objs.size, [s.heap.objs.size, l], [s.heap.objs.size], vs.toArray.size, _, _, fun i => (bs[i]?).getD true, rfl, Walks.list (A := X.A.in1) (I.ok.hd hc) _ l (Nat.ne_of_lt hlt) vs.toArray,
    ⟨⟨_, Heap.get?_push_size _ rfl, rfl, rfl⟩, hl.push _⟩, fun i v s' Q' E' hP hQ => ?_, fun h' tk hk => ?_⟩
  · obtain ⟨b, e, rfl⟩ := hb.get i v (by simpa using hP)
    simp only [e, Option.getD_some] at hQ
    exact wpAny_truthy_bool hQ
  · have e : ((List.range vs.toArray.size).all fun i => (bs[i]?).getD true) = bs.all id := by
      rw [List.size_toArray, hb.length]; exact LSm.range_all bs
    rw [e]
    exact ⟨.bl (bs.all id), H, I.kept (LSm.kept_iter hk), rfl, q⟩
/-! ### isinstance(x, T), T a built-in type -/
theorem call_isi : CallR X (.builtin "isinstance") (fun xs H Q => ∃ x n t b, xs = [x, .ty n] ∧ TyOf X.K H x t ∧ PySem.W.kitOne X.K t (.type n) = some b ∧ Q (.bl b) H) := by
  intro pins s σ H xs us Q I r h
  obtain ⟨x, n, t, b, rfl, ty, e, q⟩ := h
  obtain ⟨u, w', rfl, rx, rc⟩ := vals2 r
  cases (show w' = Value.type n from rc)
  exact isinst_ok I rx ty e fun tk => ⟨.bl b, H, I.tok tk, rfl, q⟩

/-! ### products of any two ints that the model multiplies -/
end

/-! ### slices of a text -/
section
variable {X : Cx}
theorem sl_str : SlR X (fun x lo hi H Q => ∃ z, x = .str z ∧ z.length ≤ sizeLine ∧ Q (.str (Txt.slice z lo hi)) H) := by
  intro pins s σ H x v vl vu lo hi sl Q I rx hs pl pu h
  obtain ⟨z, rfl, hz, q⟩ := h
  obtain ⟨t, rfl⟩ := rx
  refine ⟨"str", _, F.slot_str_getitem.lookup, typeIs_str _ _ _, ?_⟩
  obtain ⟨o, e1, e2, e3⟩ := hs
  have fin : ∀ (l u : Option (Int × Tok)), vl = partValue l → vu = partValue u → l.map (·.1) = lo → u.map (·.1) = hi → wpAny (model X.prog X.w) X.A (getItem (.str z t) (.ref sl)) (EP X pins σ Q) X.xe s := by
    intro l u h1 h2 h3 h4
    subst h1 h2 h3 h4
    refine wpAny_getItem_str_slice (l := l) (u := u) (st := none) ⟨o, e1, e2, e3⟩ rfl (post_val_or_str ⟨Nat.le_trans (Txt.slice_le z (l.map (·.1)) (u.map (·.1))) hz, fun t' k => ?_⟩)
    exact ⟨.str (Txt.slice z (l.map (·.1)) (u.map (·.1))), H, I.tok k, ⟨t', rfl⟩, q⟩
  cases pl with
  | none =>
    cases pu with
    | none => exact fin none none rfl rfl rfl rfl
    | int j tj => exact fin none (some (j, tj)) rfl rfl rfl rfl
  | int i ti =>
    cases pu with
    | none => exact fin (some (i, ti)) none rfl rfl rfl rfl
    | int j tj => exact fin (some (i, ti)) (some (j, tj)) rfl rfl rfl rfl
end
theorem slice_from (x : Str) {k : Int} (h0 : 0 ≤ k) (h1 : k ≤ x.length) : (Txt.slice x (some k) none).cps.toList = x.cps.toList.drop k.toNat := by
  have e : Txt.slice x (some k) none = StrLaws.sliceText x (some k) none := rfl
  rw [e, StrLaws.sliceText_from ⟨h0, by simpa [Str.length] using h1⟩]
  show (((x.cps.toList.drop k.toNat).take ((x.cps.toList.length : Int) - k).toNat).toArray).toList = _
  rw [List.toList_toArray]
  refine List.take_of_length_le ?_
  rw [List.length_drop]
  omega

/-! ### a comprehension without tests whose i-th item is ev i -/
theorem compW_map {J : It} {g : TG} {te : TE} {R : Addr → Hp → Prop} {D : Addr} {σ0 : St} {H0 : Hp} (n : Nat) (ev : Nat → V) (Pv : Nat → St → Hp → Prop) (hn : n ≤ sizeLine) (h0 : Pv 0 σ0 H0) (hD0 : H0 D = some (.lst []))
    (hs : ∀ i σ H, i < n → Pv i σ H → H D = some (.lst ((List.range i).map ev)) → J.go i H ∧ ∀ x H', J.yld i H x H' → g x σ H' fun σ2 H2 => te σ2 H2 fun y H4 => y = ev i ∧ H4 D = some (.lst ((List.range i).map ev)) ∧ Pv (i + 1) σ2 (upd H4 D (.lst ((List.range (i + 1)).map ev))))
    (hd : ∀ σ H, Pv n σ H → H D = some (.lst ((List.range n).map ev)) → J.stop n H ∧ R D H) : CompW J g tYes te R D σ0 H0 := by
  refine ⟨fun i m σ H => m = n - i ∧ i ≤ n ∧ Pv i σ H ∧ H D = some (.lst ((List.range i).map ev)), ⟨n, by omega, Nat.zero_le _, h0, hD0⟩, ?_⟩
  rintro i m σ H ⟨rfl, hi, p, hD⟩
  by_cases hlt : i < n
  · obtain ⟨go, st⟩ := hs i σ H hlt p hD
    refine .inr ⟨go, fun σ2 y H4 => y = ev i ∧ H4 D = some (.lst ((List.range i).map ev)) ∧ Pv (i + 1) σ2 (upd H4 D (.lst ((List.range (i + 1)).map ev))), fun _ _ => False, ?_, fun _ _ z => z.elim, st⟩
    rintro σ2 y H4 ⟨rfl, e, p'⟩
    refine ⟨_, e, by simp; omega, n - (i + 1), by omega, rfl, hlt, ?_, ?_⟩
    · rw [List.range_succ, List.map_append] at p'
      exact p'
    · rw [upd_same, List.range_succ, List.map_append]
      rfl
  · have e : i = n := by omega
    subst e
    exact .inl (hd σ H p hD)
theorem range_map_getD {α β : Type} (l : List α) (d : α) (f : α → β) : ((List.range l.length).map fun i => f (l.getD i d)) = l.map f := by
  apply List.ext_getElem?
  intro i
  rw [List.getElem?_map, List.getElem?_map]
  by_cases h : i < l.length
  · rw [List.getElem?_range h, List.getElem?_eq_getElem h]
    simp [List.getD_eq_getElem?_getD, List.getElem?_eq_getElem h]
  · rw [List.getElem?_eq_none (by simpa using h), List.getElem?_eq_none (by simpa using h)]
    rfl

/-! ### types under a grown heap -/
theorem TyOf.same {K : PySem.W.Frag} {H H' : Hp} {v : V} {t : Value} (e : Same H H') (h : TyOf K H v t) : TyOf K H' v t := by
  cases h with
  | non => exact .non
  | bl x => exact .bl x
  | int i => exact .int i
  | str x => exact .str x
  | flt x => exact .flt x
  | lst q => exact .lst (e _ _ q)
  | frz q => exact .frz (e _ _ q)
  | tup q => exact .tup (e _ _ q)
  | dK q => exact .dK (e _ _ q)
  | dT q => exact .dT (e _ _ q)
  | ins q cl ha hn htk hm => exact .ins (e _ _ q) cl ha hn htk hm
theorem Same.upd {H : Hp} {D : Addr} {o : HO} (h : H D = none) : Same H (L2.upd H D o) := fun b u e => by
  rw [upd_ne (ne_of_none e h)]
  exact e
theorem Same.seqT {K : PySem.W.Frag} {H H' : Hp} {a : Addr} {xs : List V} (e : Same H H') (h : SqT K H a xs) : SqT K H' a xs := by
  rcases h with (h | ⟨o, h⟩) | h
  · exact .inl (.inl (e _ _ h))
  · exact .inl (.inr ⟨o, e _ _ h⟩)
  · exact .inr h

/-! ### a block in two parts -/
theorem execs_app {env : Env} : ∀ (a b : List Stmt), execs (a ++ b) env = execs a env >>= fun f => match f with | .next => execs b env | f => pure f
  | [], b => by
    show execs b env = (pure Flow.next : Sem Flow) >>= _
    rw [pure_bind]
  | st :: r, b => by
    rw [List.cons_append, execs_cons, execs_cons, bind_assoc]
    congr
    funext f
    cases f with
    | next => exact execs_app r b
    | ret v => rw [pure_bind]
    | brk => rw [pure_bind]
    | cont => rw [pure_bind]
/-- the first k statements lead to Mid, the others go on from any Mid -/
theorem split_all {X : Cx} {l : List Stmt} (k : Nat) {D : Ends} {Pre : St → Hp → Prop} (Mid : St → Hp → Prop) (h1 : ∃ t, PSs X (l.take k) t ∧ ∀ σ H, Pre σ H → t { D with nx := Mid } σ H) (h2 : ∃ t, PSs X (l.drop k) t ∧ ∀ σ H, Mid σ H → t D σ H) :
    ∃ t, PSs X l t ∧ ∀ σ H, Pre σ H → t D σ H := by
  obtain ⟨t1, p1, q1⟩ := h1
  obtain ⟨t2, p2, q2⟩ := h2
  refine ⟨fun D' σ H => D' = D ∧ Pre σ H, ?_, fun σ H p => ⟨rfl, p⟩⟩
  rintro pins s σ H D' I ⟨rfl, p⟩
  have e : execs l X.env = execs (l.take k) X.env >>= fun f => match f with | .next => execs (l.drop k) X.env | f => pure f := by
    rw [← execs_app, List.take_append_drop]
  rw [e]
  refine wpAny_bind (thn (p1 pins s σ H _ I (q1 σ H p)) fun f s1 z => ?_)
  cases f with
  | next =>
    obtain ⟨σ', H', I', m⟩ := z
    exact p2 pins s1 σ' H' _ I' (q2 σ' H' m)
  | ret v => exact wpAny_pure z
  | brk => exact wpAny_pure z
  | cont => exact wpAny_pure z
theorem split_at {X : Cx} {l : List Stmt} (k : Nat) {D : Ends} {σ0 : St} {H0 : Hp} (Mid : St → Hp → Prop) (h1 : ∃ t, PSs X (l.take k) t ∧ t { D with nx := Mid } σ0 H0) (h2 : ∃ t, PSs X (l.drop k) t ∧ ∀ σ H, Mid σ H → t D σ H) :
    ∃ t, PSs X l t ∧ t D σ0 H0 := by
  obtain ⟨t1, p1, q1⟩ := h1
  obtain ⟨t, p, q⟩ := split_all k (Pre := fun σ H => σ = σ0 ∧ H = H0) Mid ⟨t1, p1, fun σ H e => by rw [e.1, e.2]; exact q1⟩ h2
  exact ⟨t, p, q σ0 H0 ⟨rfl, rfl⟩⟩
/-- i <= j <= k -/
theorem chain_le {σ : St} {H : Hp} {Q : VK} {i j k : Int} (h : Q (.bl (decide (i ≤ j ∧ j ≤ k))) H) :
    rI0 (fun i j => .bl (decide (i ≤ j))) (.int i) (.int j) H fun z H3 => ∃ c, z = .bl c ∧ (if c = true then tC (.int k) σ H3 fun w' H4 => rI0 (fun i j => .bl (decide (i ≤ j))) (.int j) w' H4 Q else Q (.bl false) H3) := by
  refine ⟨i, j, rfl, rfl, _, rfl, ?_⟩
  by_cases c1 : i ≤ j
  · rw [if_pos (decide_eq_true c1)]
    refine ⟨j, k, rfl, rfl, ?_⟩
    have e : decide (i ≤ j ∧ j ≤ k) = decide (j ≤ k) := by
      by_cases c2 : j ≤ k
      · rw [decide_eq_true c2, decide_eq_true ⟨c1, c2⟩]
      · rw [decide_eq_false c2, decide_eq_false fun z => c2 z.2]
    rw [e] at h
    exact h
  · rw [if_neg (fun z => c1 (of_decide_eq_true z))]
    rw [decide_eq_false fun z => c1 z.1] at h
    exact h
end L2

/-! EXCEPTIONS WITH A DICT OF THEIR OWN (own work): what a frame that is left writes. -/
namespace L2
open PySem
/-- the head of a traceback: none, or a record of ours -/
def Tb (h : Heap) (P : Addr → Prop) (x : Addr) (fl v : Value) : Prop :=
  (v = .none ∧ fl = .none) ∨ ∃ T oT ts, v = .ref T ∧ P T ∧ T ≠ x ∧ h.get? T = some oT ∧ oT.data = .fields ts ∧ ts[3]? = some fl
/-- an exception: its class, its own dict, its traceback's mark of flight -/
def XAt (h : Heap) (P : Addr → Prop) (x : Addr) (C : Value) (od : Option Addr) (fl : Value) : Prop :=
  ∃ vs sl v1, h.get? x = some ⟨C, od, .fields vs, sl⟩ ∧ vs[1]? = some v1 ∧ Tb h P x fl v1
/-- what noting a frame may change: the exception, its records, the slots of frames -/
structure Nt (P : Addr → Prop) (fr : List Addr) (x : Addr) (h h' : Heap) : Prop where
  chg : ∃ ch : List Addr, (∀ b ∈ ch, b = x ∨ P b ∧ ∃ o vs, h.get? b = some o ∧ o.data = .fields vs) ∧ ∀ b o, h.get? b = some o → b ∉ fr → b ∉ ch → h'.get? b = some o
  frm : ∀ b o, h.get? b = some o → b ∈ fr → ∃ sl, h'.get? b = some { o with slots := sl }
  thr : ∀ b o, h.get? b = some o → ∃ o', h'.get? b = some o'
theorem Nt.refl {P : Addr → Prop} {fr : List Addr} {x : Addr} {h : Heap} : Nt P fr x h h := ⟨⟨[], (fun _ z => absurd z (by simp)), fun _ _ e _ _ => e⟩, fun _ o e _ => ⟨o.slots, e⟩, fun _ o e => ⟨o, e⟩⟩
section
variable {M : Model} {A : Around} {E : Value → Shared → Prop} {s : Shared} {base : Heap} {env : Env} {outer : List Env} {L x : Addr} {P : Addr → Prop} {C : Value} {od : Option Addr}
/-- a new record is laid ahead of the head -/
theorem entry_ok {vs : Array Value} {sl : Array (Option Value)} {head : Value} {had : Bool} {Q : Unit → Shared → Prop} (hfr : A.frames = some (env :: outer)) (hl : s.heap.FunFrames base (env :: outer)) (hf : env.frame = some L)
    (hx : s.heap.get? x = some ⟨C, od, .fields vs, sl⟩) (hsz : 1 < vs.size) (hP : ∀ T, s.heap.objs.size ≤ T → P T)
    (h : ∀ h', Nt P ((env :: outer).filterMap (·.frame)) x s.heap h' → XAt h' P x C od (rawInt L) → Q () { s with heap := h' }) :
    wpAny M A (do let a ← frameOf env; let pl ← entryPlaceOf L had; let b ← EntryCells.newEntry head a .none (rawInt L) .none pl; setField (.ref x) 1 b) Q E s := by
  have nx : x ∉ (env :: outer).filterMap (·.frame) := fun hm => by
    obtain ⟨_, o, ho, hnf⟩ := hl.mem hm
    rw [hx] at ho
    cases ho
    exact hnf vs rfl
  refine wpAny_bind (wpAny_frameOf_fun hfr hl hf fun h1 k1 => ?_)
  refine wpAny_bind (wpAny_entryPlaceOf fun pl hpl => ?_)
  unfold EntryCells.newEntry newFields
  refine wpAny_bind (wpAny_newObj_type ?_ (hpl.sizeOk5 _ _ _ _ _))
  generalize ho : (⟨.type "traceback", none, .fields ([head, .ref L, .none, rawInt L, .none] ++ (if pl.isEmpty then List.replicate 6 Value.none else pl)).toArray, #[]⟩ : Obj) = ob
  have x1 : h1.get? x = some ⟨C, od, .fields vs, sl⟩ := (k1.2.1 x nx).trans hx
  have x2 : (h1.push ob).get? x = some ⟨C, od, .fields vs, sl⟩ := Heap.get?_push_of_some _ x1
  have sz : h1.objs.size = s.heap.objs.size := k1.1
  refine wpAny_setField x2 rfl hsz (h _ ?_ ?_)
  · have other : ∀ b o, b ≠ x → h1.get? b = some o → ((h1.push ob).update x (Obj.mapFields (·.setIfInBounds 1 (.ref h1.objs.size)))).get? b = some o := fun b o hb e => by
      rw [Heap.get?_update_other _ _ (Ne.symm hb)]
      exact Heap.get?_push_of_some _ e
    refine ⟨⟨[x], fun b hb => .inl (List.mem_singleton.mp hb), fun b o e hb hc => ?_⟩, fun b o e hb => ?_, fun b o e => ?_⟩
    · exact other b o (fun z => hc (by rw [z]; exact List.mem_singleton.mpr rfl)) ((k1.2.1 b hb).trans e)
    · obtain ⟨sl', e1⟩ := k1.2.2 b o e
      exact ⟨sl', other b _ (fun z => nx (z ▸ hb)) e1⟩
    · by_cases hb : b = x
      · subst hb
        exact ⟨_, Heap.get?_update_self _ x2 rfl⟩
      · obtain ⟨sl', e1⟩ := k1.2.2 b o e
        exact ⟨_, other b _ hb e1⟩
  · have ne : h1.objs.size ≠ x := Nat.ne_of_gt (Heap.lt_size x1)
    refine ⟨_, _, .ref h1.objs.size, Heap.get?_update_self _ x2 rfl, (by show (vs.setIfInBounds 1 _)[1]? = _; simp [hsz]), .inr ⟨h1.objs.size, ob, _, rfl, hP _ (by rw [sz]; exact Nat.le_refl _), ne, ?_, (by rw [← ho]), ?_⟩⟩
    · rw [Heap.get?_update_other _ _ (Ne.symm ne)]
      exact Heap.get?_push_size h1 (by rw [← ho]; rfl)
    · first | (simp; done) | (rcases hpl with rfl | ⟨_, _, _, _, _, _, _, rfl⟩ <;> simp)
theorem Nt.trans {fr : List Addr} {h h1 h2 : Heap} (n1 : Nt P fr x h h1) (n2 : Nt P fr x h1 h2) (fresh : ∀ b o, h.get? b = some o → b ∈ fr → ∀ vs, o.data ≠ .fields vs) : Nt P fr x h h2 := by
  obtain ⟨c1, p1, k1⟩ := n1.chg
  obtain ⟨c2, p2, k2⟩ := n2.chg
  refine ⟨⟨c1 ++ c2.filter (fun b => (h.get? b).isSome), fun b hb => ?_, fun b o e hb hc => ?_⟩, fun b o e hb => ?_, fun b o e => ?_⟩
  · rcases List.mem_append.mp hb with z | z
    · exact p1 b z
    · obtain ⟨z1, z2⟩ := List.mem_filter.mp z
      by_cases hb1 : b ∈ c1
      · exact p1 b hb1
      rcases p2 b z1 with q | ⟨q, o1, vs, e1, d1⟩
      · exact .inl q
      · refine .inr ⟨q, ?_⟩
        cases g : h.get? b with
        | none => rw [g] at z2; cases z2
        | some o =>
          by_cases hfr : b ∈ fr
          · obtain ⟨sl, e2⟩ := n1.frm b o g hfr
            rw [e1] at e2
            cases e2
            exact absurd d1 (fresh b o g hfr vs)
          · have e2 := k1 b o g hfr hb1
            rw [e1] at e2
            cases e2
            exact ⟨_, vs, rfl, d1⟩
  · have m1 : b ∉ c1 := fun z => hc (List.mem_append_left _ z)
    have m2 : b ∉ c2 := fun z => hc (List.mem_append_right _ (List.mem_filter.mpr ⟨z, by rw [e]; rfl⟩))
    exact k2 b o (k1 b o e hb m1) hb m2
  · obtain ⟨sl, e1⟩ := n1.frm b o e hb
    obtain ⟨sl2, e2⟩ := n2.frm _ _ e1 hb
    exact ⟨sl2, e2⟩
  · obtain ⟨o1, e1⟩ := n1.thr b o e
    exact n2.thr _ _ e1
/-- noteFrame: the frame is written down -/
theorem note_ok {Q : Unit → Shared → Prop} (hfr : A.frames = some (env :: outer)) (hl : s.heap.FunFrames base (env :: outer)) (hf : env.frame = some L)
    (hx : XAt s.heap P x C od .none) (hP : ∀ T, s.heap.objs.size ≤ T → P T)
    (h : ∀ h', Nt P ((env :: outer).filterMap (·.frame)) x s.heap h' → XAt h' P x C od (rawInt L) → Q () { s with heap := h' }) : wpAny M A (noteFrame (.ref x) env) Q E s := by
  obtain ⟨vs, sl, v1, ex, e1, tb⟩ := hx
  have hsz : 1 < vs.size := (Array.getElem?_eq_some_iff.mp e1).1
  unfold noteFrame
  simp only [hf]
  refine wpAny_bind (wpAny_field ex rfl e1 ?_)
  rcases tb with ⟨rfl, _⟩ | ⟨T, oT, ts, rfl, pT, nT, eT, dT, fT⟩
  · rw [if_neg (by decide)]
    exact entry_ok hfr hl hf ex hsz hP h
  · rw [if_pos (show (Value.ref T != Value.none) = true from by simp)]
    refine wpAny_bind (wpAny_field eT dT fT ?_)
    rw [if_neg (show ¬ ((Value.none == rawInt L) = true) from by simp [rawInt])]
    refine wpAny_bind (wpAny_setField eT dT (Array.getElem?_eq_some_iff.mp fT).1 ?_)
    have oth : ∀ b, b ≠ T → (s.heap.update T (Obj.mapFields (·.setIfInBounds 3 Value.none))).get? b = s.heap.get? b := fun b hb => Heap.get?_update_other _ _ (Ne.symm hb)
    have nrec : ∀ b o, s.heap.get? b = some o → (∀ vs, o.data ≠ .fields vs) → b ≠ T := fun b o hb hn q => by
      rw [q, eT] at hb
      cases hb
      exact hn ts dT
    have hl' := hl.of_keeps (h' := s.heap.update T (Obj.mapFields (·.setIfInBounds 3 Value.none))) fun b o hb hn => ⟨o, (oth b (nrec b o hb hn)).trans hb, rfl⟩
    have frn : ∀ b o, s.heap.get? b = some o → b ∈ (env :: outer).filterMap (·.frame) → ∀ vs, o.data ≠ .fields vs := fun b o e hb => by
      obtain ⟨_, o', ho', hn⟩ := hl.mem hb
      rw [e] at ho'
      cases ho'
      exact hn
    have N1 : Nt P ((env :: outer).filterMap (·.frame)) x s.heap (s.heap.update T (Obj.mapFields (·.setIfInBounds 3 Value.none))) := by
      refine ⟨⟨[T], fun b hb => .inr ?_, fun b o e _ hc => ?_⟩, fun b o e hb => ⟨o.slots, ?_⟩, fun b o e => ?_⟩
      · rw [List.mem_singleton.mp hb]
        exact ⟨pT, oT, ts, eT, dT⟩
      · exact (oth b fun z => hc (by rw [z]; exact List.mem_singleton.mpr rfl)).trans e
      · exact (oth b (nrec b o e (frn b o e hb))).trans e
      · by_cases hb : b = T
        · rw [hb]
          exact ⟨_, Heap.get?_update_self _ eT (Obj.isFreed_of_fields (Obj.data_mapFields dT _))⟩
        · exact ⟨o, (oth b hb).trans e⟩
    refine entry_ok (s := { s with heap := s.heap.update T (Obj.mapFields (·.setIfInBounds 3 Value.none)) }) hfr hl' hf ((oth x (Ne.symm nT)).trans ex) hsz (fun T' hT' => hP T' (by rw [← Heap.size_after_update s.heap T]; exact hT')) fun h' n' x' => h h' (N1.trans n' frn) x'
/-- setFlight: the mark is taken away -/
theorem land_ok {fl : Value} {fr : List Addr} {Q : Unit → Shared → Prop} (hx : XAt s.heap P x C od fl) (frn : ∀ b o, s.heap.get? b = some o → b ∈ fr → ∀ vs, o.data ≠ .fields vs)
    (h : ∀ h', Nt P fr x s.heap h' → XAt h' P x C od .none → Q () { s with heap := h' }) : wpAny M A (setFlight (.ref x) none) Q E s := by
  obtain ⟨vs, sl, v1, ex, e1, tb⟩ := hx
  unfold setFlight
  refine wpAny_bind (wpAny_field ex rfl e1 ?_)
  rcases tb with ⟨rfl, _⟩ | ⟨T, oT, ts, rfl, pT, nT, eT, dT, fT⟩
  · rw [if_neg (by decide)]
    exact wpAny_pure (h s.heap .refl ⟨vs, sl, _, ex, e1, .inl ⟨rfl, rfl⟩⟩)
  · rw [if_pos (show (Value.ref T != Value.none) = true from by simp)]
    refine wpAny_setField eT dT (Array.getElem?_eq_some_iff.mp fT).1 (h _ ?_ ?_)
    · refine ⟨⟨[T], fun b hb => .inr ?_, fun b o e _ hc => ?_⟩, fun b o e hb => ⟨o.slots, ?_⟩, fun b o e => ?_⟩
      · rw [List.mem_singleton.mp hb]
        exact ⟨pT, oT, ts, eT, dT⟩
      · rw [Heap.get?_update_other _ _ fun z => hc (by rw [z]; exact List.mem_singleton.mpr rfl)]
        exact e
      · rw [Heap.get?_update_other _ _ fun z => ?_]
        · exact e
        · subst z
          rw [eT] at e
          cases e
          exact frn T oT eT hb ts dT
      · by_cases hb : b = T
        · rw [hb]
          exact ⟨_, Heap.get?_update_self _ eT (Obj.isFreed_of_fields (Obj.data_mapFields dT _))⟩
        · exact ⟨o, by rw [Heap.get?_update_other _ _ (Ne.symm hb)]; exact e⟩
    · refine ⟨vs, sl, .ref T, by rw [Heap.get?_update_other _ _ nT]; exact ex, e1, .inr ⟨T, _, _, rfl, pT, nT, Heap.get?_update_self _ eT (Obj.isFreed_of_fields (Obj.data_mapFields dT _)), Obj.data_mapFields dT _, ?_⟩⟩
      have := (Array.getElem?_eq_some_iff.mp fT).1
      simp [this]
/-- leaving -/
theorem leave_ok {Q : Unit → Shared → Prop} (hfr : A.frames = some (env :: outer)) (hl : s.heap.FunFrames base (env :: outer)) (hf : env.frame = some L)
    (hx : XAt s.heap P x C od .none) (hP : ∀ T, s.heap.objs.size ≤ T → P T)
    (h : ∀ h', Nt P ((env :: outer).filterMap (·.frame)) x s.heap h' → XAt h' P x C od .none → Q () { s with heap := h' }) : wpAny M A (leaving env (.ref x)) Q E s := by
  have frn : ∀ b o, s.heap.get? b = some o → b ∈ (env :: outer).filterMap (·.frame) → ∀ vs, o.data ≠ .fields vs := fun b o e hb => by
    obtain ⟨_, o', ho', hn⟩ := hl.mem hb
    rw [e] at ho'
    cases ho'
    exact hn
  unfold leaving
  refine wpAny_bind (note_ok hfr hl hf hx hP fun h1 n1 x1 => ?_)
  refine land_ok (s := { s with heap := h1 }) (fr := (env :: outer).filterMap (·.frame)) x1 (fun b o e hb => ?_) fun h2 n2 x2 => h h2 (n1.trans n2 frn) x2
  obtain ⟨_, o', ho', hn⟩ := hl.mem hb
  obtain ⟨sl, e1⟩ := n1.frm b o' ho' hb
  have e' : h1.get? b = some o := e
  rw [e1] at e'
  cases e'
  exact hn
end
end L2

/-! EXCEPTIONS IN THE LAYER (own work): how one lies behind a call, how it passes, raise, try. -/
namespace L2
open PySem PySem.Spec PyProof.Rows
theorem Tb.imp {h : Heap} {P P' : Addr → Prop} {x : Addr} {fl v : Value} (t : Tb h P x fl v) (k : ∀ b, P b → P' b) : Tb h P' x fl v := by
  rcases t with z | ⟨T, oT, ts, a, b, c⟩
  · exact .inl z
  · exact .inr ⟨T, oT, ts, a, k T b, c⟩
theorem XAt.imp {h : Heap} {P P' : Addr → Prop} {x : Addr} {C : Value} {od : Option Addr} {fl : Value} (t : XAt h P x C od fl) (k : ∀ b, P b → P' b) : XAt h P' x C od fl := by
  obtain ⟨vs, sl, v1, a, b, c⟩ := t
  exact ⟨vs, sl, v1, a, b, c.imp k⟩
/-- an address of ours: new since the entry, no name's, no pin's, untracked -/
structure Our (X : Cx) (pins : List (Addr × Obj)) (H : Hp) (b : Addr) : Prop where
  new : X.s₀.heap.objs.size ≤ b
  loc : b ≠ X.env.locals
  cel : ∀ y c, X.env.cells.lookup y = some c → c ≠ b
  pin : ∀ p ∈ X.pn ++ pins, p.1 ≠ b
  unt : H b = none
section
variable {X : Cx} {pins : List (Addr × Obj)} {σ : St} {H H' : Hp} {s s' : Shared} {x b : Addr} {C : Value} {od : Option Addr}
theorem Inv.our' (I : Inv X pins σ H s) (h : s.heap.objs.size ≤ b) (hn : H' b = none) : Our X pins H' b := by
  have lt : ∀ c o, s.heap.get? c = some o → c ≠ b := fun c o e z => by
    subst z
    exact absurd (Nat.lt_of_lt_of_le (Heap.lt_size e) h) (Nat.lt_irrefl _)
  refine ⟨Nat.le_trans I.sz h, fun z => ?_, fun y c e => ?_, fun p hp => ?_, hn⟩
  · obtain ⟨m, ⟨o, _, _, ho, _⟩, _⟩ := I.loc
    exact lt _ o ho z.symm
  · obtain ⟨v, o, ho, _⟩ := I.cell y c e
    exact lt c o ho
  · exact lt p.1 _ (I.pin p hp).1
theorem Inv.our (I : Inv X pins σ H s) (h : s.heap.objs.size ≤ b) : Our X pins H b := I.our' h (I.hok.fresh h)
/-- noting frames leaves what we know -/
theorem Inv.noted {h' : Heap} (I : Inv X pins σ H s) (hx : Our X pins H x) (n : Nt (Our X pins H) (frs X.stack) x s.heap h') : Inv X pins σ H { s with heap := h' } := by
  obtain ⟨ch, pc, kc⟩ := n.chg
  have oc : ∀ b ∈ ch, Our X pins H b := fun b hb => by
    rcases pc b hb with z | z
    · rw [z]; exact hx
    · exact z.1
  have nfs : ∀ b, b ≠ X.env.locals → b ∉ X.fs → b ∉ frs X.stack := fun b h1 h2 z => by
    rcases List.mem_cons.mp (I.stkSub b z) with q | q
    · exact h1 q
    · exact h2 q
  refine I.step (g' := s.gens) (d' := s.drawn) (t' := s.toks) (ch := ch) (fun b hb => ⟨.inr (oc b hb).new, (oc b hb).loc, (oc b hb).cel, (oc b hb).pin⟩) (fun b o h1 h2 h3 e _ => kc b o e (nfs b h1 h2) h3) (fun b o _ _ h3 e _ => ?_) (fun _ _ _ _ z => z)
    (fun b o _ e => n.thr b o e) (fun _ _ e => e) (fun _ _ _ e => e) (fun b ps e => ⟨#[], by rw [e]; simp⟩) (fun m hm => ?_) (fun a o e => ?_) I.bare
  · by_cases hf : b ∈ frs X.stack
    · exact n.frm b o e hf
    · exact ⟨o.slots, kc b o e hf h3⟩
  · obtain ⟨o, es, ep, ho, hd, r⟩ := hm
    by_cases hf : X.env.locals ∈ frs X.stack
    · obtain ⟨sl, e⟩ := n.frm _ o ho hf
      exact ⟨_, es, ep, e, hd, r⟩
    · exact ⟨o, es, ep, kc _ o ho hf (fun z => (oc _ z).loc rfl), hd, r⟩
  · refine (I.hok a o e).stay (fun c u hc q => kc c u q ?_ ?_) (fun _ q => q) fun _ _ q => q
    · intro z
      have := I.stkFree c z
      rcases hc with rfl | hc
      · rw [this] at e; cases e
      · rw [this] at hc; cases hc
    · intro z
      have := (oc c z).unt
      rcases hc with rfl | hc
      · rw [this] at e; cases e
      · rw [this] at hc; cases hc
theorem Inv.leave {M : Model} {E : Value → Shared → Prop} {Q : Unit → Shared → Prop} (I : Inv X pins σ H s) (hst : X.stack = X.env :: X.outer) (hf : X.env.frame = some X.env.locals) (hx : Our X pins H x) (xa : XAt s.heap (Our X pins H) x C od .none)
    (h : ∀ s', Inv X pins σ H s' → XAt s'.heap (Our X pins H) x C od .none → Q () s') : wpAny M X.A (leaving X.env (.ref x)) Q E s :=
  leave_ok (base := X.base) (by rw [I.ok.frames, hst]) (by rw [← hst]; exact I.stack) hf xa (fun T hT => I.our hT) fun h' n xa' => h _ (I.noted hx (by rw [hst]; exact n)) xa'
end
/-- how an exception lies behind a call -/
def CX1 (P : Program) (w : World) : CXT := fun outer H s E e s' => ∃ x C od H', e = .ref x ∧ s'.os = s.os ∧ AllBare s'.gens ∧ Un (frs outer) [] H H' s.heap s'.heap ∧ HOk P w H' s'.heap ∧ s.heap.objs.size ≤ x ∧ H' x = none ∧
  XAt s'.heap (fun T => s.heap.objs.size ≤ T ∧ H' T = none) x C od .none ∧ E C od H'
/-- what is wanted where an exception of a class, with its own dict, is raised: also of the names -/
abbrev XS := Value → Option Addr → St → Hp → Prop
/-- an exception of which E holds is what the context wants -/
def Lands (X : Cx) (E : XS) : Prop := ∀ (pins : List (Addr × Obj)) (σ : St) (H : Hp) (s : Shared) (x : Addr) (C : Value) (od : Option Addr), Inv X pins σ H s → Our X pins H x → XAt s.heap (Our X pins H) x C od .none → E C od σ H → X.xe (.ref x) s
theorem lands_cx {P : Program} {w : World} {K : PySem.W.Frag} {mg : Str → Option Value} {base : Heap} {N : List Str} {qual : Str} {scope : Scope} {f : Addr} {cd : Value} {A : Around} {outer : List Env} {s₀ : Shared} {H₀ : Hp} {E : XK} :
    Lands (cxOf (CX1 P w) P w K mg base N qual scope f cd A outer s₀ H₀ E) (fun C od _ H => E C od H) := by
  intro pins σ H s x C od I hx xa q
  exact I.leave (Q := fun _ s'' => CX1 P w outer H₀ s₀ E (.ref x) s'') rfl rfl hx xa fun s' I' xa' => ⟨x, C, od, H, rfl, I'.os, I'.bare, I'.base, I'.hok, hx.new, hx.unt, xa'.imp fun T o => ⟨o.new, o.unt⟩, q⟩
/-- a callee's exception -/
theorem Lands.pass {X : Cx} {E : XS} (L : Lands X E) {pins : List (Addr × Obj)} {σ : St} {H : Hp} {s s' : Shared} {e : Value} (I : Inv X pins σ H s) (h : CX1 X.prog X.w X.stack H s (fun C od H' => E C od σ H') e s') : X.xe e s' := by
  obtain ⟨x, C, od, H', rfl, os, bare, un, hok, nx, hx, xa, q⟩ := h
  have I' : Inv X pins σ H' s' := I.call' os un hok bare (fun b z => absurd z (by simp))
  exact L pins σ H' s' x C od I' (I.our' nx hx) (xa.imp fun T z => I.our' z.1 z.2) q
section
variable {X : Cx} {k : Nat} {f C : Addr} {fd : FuncData} {ps : List Str} {sp : Sp} {dvs : List V} {ds : List Value} {E : XS} {x m : Str} {p pos apos : Pos} {e o : Expr} {es : List Expr} {ta : TE} {t : TA}
/-- the callee runs, and may raise -/
theorem run_fnX {pins : List (Addr × Obj)} {σ : St} {H : Hp} {s : Shared} {Q : VK} {us : List Value} {vs : List V} (F : FnOk X.prog X.w X.K X.mg X.base (CX1 X.prog X.w) k f fd ps sp) (hr : Room k X.A) (hb : Binds X.K fd ps ds) (hd : Vals dvs ds) (L : Lands X E)
    (I : Inv X pins σ H s) (r : Vals vs us) (h : sp (vs ++ dvs) H Q (fun C od H' => E C od σ H')) : wpAny (model X.prog X.w) X.A (call (.ref f) us) (EP X pins σ Q) X.xe s := by
  have r2 : Vals (vs ++ dvs) (us ++ ds) := r.append hd
  have hl : (us ++ ds).length = ps.length := by rw [← r2.length]; exact F.len _ _ _ _ h
  refine wpAny_call (codeAny_mono (F.run X.A X.stack s H ⟨us, []⟩ (us ++ ds) (vs ++ dvs) Q _ hr I.env0 (hb s us I.kIn hl) r2 h) fun r s' hq => ?_)
  cases r with
  | error e => exact L.pass I hq
  | ok fl =>
    cases fl with
    | ret u => exact I.after hq
    | next => exact False.elim hq
    | brk => exact False.elim hq
    | cont => exact False.elim hq
def tCallX (sp : Sp) (dvs : List V) (E : XS) (t : TA) : TE := fun σ H Q => t σ H fun vs H1 => sp (vs ++ dvs) H1 Q (fun C od H' => E C od σ H')
def tMethX (C : Addr) (m : Str) (sp : Sp) (dvs : List V) (E : XS) (ta : TE) (t : TA) : TE := fun σ H Q => ta σ H fun x H1 => ∃ a dx fs, x = .ref a ∧ H1 a = some (.ins C dx fs) ∧ fs.lookup m = none ∧
  t σ H1 fun vs H2 => sp (x :: (vs ++ dvs)) H2 Q (fun C od H' => E C od σ H')
/-- f(e, ..) that may raise -/
theorem pe_callX (F : FnOk X.prog X.w X.K X.mg X.base (CX1 X.prog X.w) k f fd ps sp) (hr : Room k X.A) (hg : Gl X x) (hm : X.mg x = some (.ref f)) (hk : PySem.W.keepIn X.K (.ref f) = true) (hb : Binds X.K fd ps ds) (hd : Vals dvs ds) (L : Lands X E)
    (ha : PA X (e :: es) t) (hdb : (x == ("__debug__" : Str)) = false := by decide) (he : starEach (e :: es) X.env = (false, eval e X.env) :: starEach es X.env := by rfl) (hpl : (backTo pos (starEach es X.env)).any (·.1) = false := by rfl) :
    PE X (.Call (.Name x p) (e :: es) [] pos) (tCallX sp dvs E t) := by
  intro pins s σ H Q I h
  refine wpAny_Call_Name_kw (ld_glob I hg hm ?_ hdb)
  refine PySem.W.callWith_K (h₀ := X.base) I.ok.mod.kin hk (thn (ha pos pins s σ H _ I h) fun us s1 ⟨vs, H1, I1, r, q⟩ => ⟨I1.kIn, ?_⟩) he hpl
  exact run_fnX F hr hb hd L I1 r q
end
end L2

/-! OWN EXCEPTIONS OVER ValueError (own work): made with an __init__ of the text's, with fields. -/
namespace L2
open PySem PySem.Spec PyProof.Rows Builtin Builtin.ObjectAttr
abbrev bmV : List Value := [.type "ValueError", .type "Exception", .type "BaseException", .type "object"]
/-- own classes ahead of ValueError's line -/
def tailV : List Value → Bool
  | [] => false
  | v :: r => (v :: r) == bmV || match v with | .ref _ => tailV r | _ => false
theorem tailV_has {X : String} {b : Bool} (hb : bmV.contains (.type X) = b) : ∀ {l : List Value}, tailV l = true → l.contains (.type X) = b
  | [], e => by cases e
  | v :: r, e => by
    unfold tailV at e
    rcases Bool.or_eq_true_iff.mp e with q | q
    · rw [beq_iff_eq.mp q]; exact hb
    · cases v with
      | ref a =>
        have q' : tailV r = true := q
        rw [List.contains_cons, tailV_has hb q']
        rfl
      | _ => exact Bool.noConfusion q
/-- what of the text an exception's class must have -/
structure XCl (K : PySem.W.Frag) (C : Addr) : Prop where
  at_ : ∃ (nm q : Str) (N : Addr) (bs bm : List Value) (sn : List Str) (sub : List Value) (ab : Bool) (col : Option Bool) (dd : Option Addr) (k0 k1 k2 k3 k5 : Option Value), K.lookup C = some (excClassObj nm q C N bs bm true sn sub ab col dd k0 k1 k2 k3 k5 "ValueError.__new__") ∧ tailV bm = true
  ga : PySem.W.findIn K (.ref C) "__getattribute__" = some (some (.builtin "BaseException.__getattribute__"))
  gx : PySem.W.findIn K (.ref C) "__getattr__" = some none
  sa : PySem.W.findIn K (.ref C) "__setattr__" = some (some (.builtin "object.__setattr__"))
  kp : PySem.W.keepIn K (.ref C) = true
theorem xcl_mk {K : PySem.W.Frag} {C N : Addr} {nm q : Str} {bs bm : List Value} {sn : List Str} {sub : List Value} {ab : Bool} {col : Option Bool} {dd : Option Addr} {k0 k1 k2 k3 k5 : Option Value}
    (l : K.lookup C = some (excClassObj nm q C N bs bm true sn sub ab col dd k0 k1 k2 k3 k5 "ValueError.__new__")) (t : tailV bm = true) (ga : PySem.W.findIn K (.ref C) "__getattribute__" = some (some (.builtin "BaseException.__getattribute__")))
    (gx : PySem.W.findIn K (.ref C) "__getattr__" = some none) (sa : PySem.W.findIn K (.ref C) "__setattr__" = some (some (.builtin "object.__setattr__"))) (kp : PySem.W.keepIn K (.ref C) = true) : XCl K C :=
  ⟨⟨nm, q, N, bs, bm, sn, sub, ab, col, dd, k0, k1, k2, k3, k5, l, t⟩, ga, gx, sa, kp⟩
section
variable {prog : Program} {w : World} {A : Around} {E : Value → Shared → Prop} {h : Heap} {g : Array GenState} {d : Drawn} {t : Nat} {os : OsState}
variable {nm q : Str} {C N : Addr} {bs bm : List Value} {sn : List Str} {sub : List Value} {ab : Bool} {col : Option Bool} {dd : Option Addr} {k0 k1 k2 k3 k5 : Option Value}
theorem xck_new {M : Model} {rest : List Value} {Q : Unit → Shared → Prop} (tv : tailV bm = true) (hC : h.get? C = some (excClassObj nm q C N bs bm true sn sub ab col dd k0 k1 k2 k3 k5 "ValueError.__new__"))
    (hq : Q () ⟨h, g, d, t, os⟩) : wpAny M A (checkBuiltinCall "ValueError.__new__" ⟨.ref C :: rest, []⟩) Q E ⟨h, g, d, t, os⟩ := by
  have F := PySem.F.excBase_ValueError
  have hc : (Value.ref C :: bm).contains (.type "ValueError") = true := by rw [List.contains_cons, tailV_has (X := "ValueError") rfl tv]; rfl
  have ns := F.noStar
  simp only [checkBuiltinCall, F.newKind, F.newSplit, F.newRow]
  repeat (first | refine wpAny_loadPart_at hC ?_ | (refine wpAny_isSubtype_exc hC ?_; rw [hc]) | refine wpAny_staticBase_exc hC ?_ | refine wpAny_madeBy_exc hC ?_ | simp only [bne_self_eq_false, Bool.false_eq_true, if_false] | wp_step)
  exact hq
abbrev xTup (rest : List Value) : Obj := { cls := .type "tuple", data := .seq rest.toArray }
abbrev xObj (C : Addr) (od : Option Addr) (t : Addr) : Obj := ⟨.ref C, od, .fields #[.ref t, .none, .none, .none, .bool false, .none], #[]⟩
theorem xnew {R : Result → Shared → Prop} {rest : List Value} (tv : tailV bm = true) (hC : h.get? C = some (excClassObj nm q C N bs bm true sn sub ab col dd k0 k1 k2 k3 k5 "ValueError.__new__"))
    (hq : R (.ok (.ret (.ref (h.objs.size + 1)))) ⟨(h.push (xTup rest)).push (xObj C none h.objs.size), g, d, t, os⟩) (hrest : rest.length ≤ sizeLine) :
    codeAny (model prog w) A (.builtin "ValueError.__new__" ⟨.ref C :: rest, []⟩) R ⟨h, g, d, t, os⟩ := by
  have F := PySem.F.excBase_ValueError
  have fe := F.ends
  have c1 : (Value.ref C :: bm).contains (.type "ValueError") = true := by rw [List.contains_cons, tailV_has (X := "ValueError") rfl tv]; rfl
  have c2 : (Value.ref C :: bm).contains (.type "AttributeError") = false := by rw [List.contains_cons, tailV_has (X := "AttributeError") rfl tv]; rfl
  have c3 : (Value.ref C :: bm).contains (.type "NameError") = false := by rw [List.contains_cons, tailV_has (X := "NameError") rfl tv]; rfl
  refine codeAny_builtinAt F.entry ?_
  unfold Builtin.«BaseException.__new__»
  refine PySem.wpAt_bind ?_
  show PySem.wpAt _ _ _ (stack >>= _) _ _ _
  refine PySem.wpAt_bind (PySem.wpAt_stack fun p below => PySem.wpAt_of_wpAny ?_)
  wp_walk
  refine PySem.wpAt_of_wpAny ?_
  rw [F.owner]
  repeat (first | with_reducible refine wpAny_madeHere_exc F.canon hC ?_ | with_reducible refine wpAny_loadPart_at hC ?_ | (with_reducible refine wpAny_isSubtype_exc hC ?_; first | rw [c1] | rw [c2] | rw [c3]) | wp_step)
  show R _ _
  rw [Heap.size_push]
  exact hq
/-- raise of an exception that is there -/
theorem xraise {M : Model} {s : Shared} {env : Env} {x : Sem Value} {Q : Flow → Shared → Prop} (hh : A.handled = none)
    (hx : wpAny M A x (fun v s₁ => ∃ e C nm q N bs bm sn sub ab col dd k0 k1 k2 k3 k5 od t0, v = .ref e ∧ s₁.heap.get? C = some (excClassObj nm q C N bs bm true sn sub ab col dd k0 k1 k2 k3 k5 "ValueError.__new__") ∧ tailV bm = true ∧ s₁.heap.get? e = some (xObj C od t0) ∧ E (.ref e) s₁) E s) :
    wpAny M A (raiseStmt env (some x) none) Q E s := by
  unfold raiseStmt
  refine wpAny_bind (wpAny_mono hx (fun v s₁ h₁ => ?_) fun _ _ z => z)
  obtain ⟨e, C, nm, q, N, bs, bm, sn, sub, ab, col, dd, k0, k1, k2, k3, k5, od, t0, rfl, hC, tv, he, hE⟩ := h₁
  obtain ⟨hp, g, d, tk, os⟩ := s₁
  have hb : (Value.ref C :: bm).contains (.type "BaseException") = true := by rw [List.contains_cons, tailV_has (X := "BaseException") rfl tv]; rfl
  repeat (first | with_reducible refine wpAny_loadPart_at he ?_ | with_reducible refine wpAny_loadPart_at hC ?_ | (with_reducible refine wpAny_isSubtype_exc hC ?_; rw [hb]) | wp_step)
  exact wpAny_raiseNew_none hh hE
end
section
variable {prog : Program} {w : World} {A : Around} {E : Value → Shared → Prop} {s : Shared} {K : PySem.W.Frag} {x C dx t0 : Addr} {name : Str} {v : Value}
theorem XCl.cls (c : XCl K C) : ∃ cd bm, PySem.W.clsIn K C = some cd ∧ cd.mro = .ref C :: bm ∧ tailV bm = true ∧ cd.hasDict = true := by
  obtain ⟨nm, q, N, bs, bm, sn, sub, ab, col, dd, k0, k1, k2, k3, k5, l, tv⟩ := c.at_
  have e : PySem.W.clsIn K C = some ⟨nm, bs, .ref C :: bm, N, q, true, sn, sub, ab, col, false⟩ := by
    unfold PySem.W.clsIn
    rw [l]
  exact ⟨_, bm, e, rfl, tv, rfl⟩
end
end L2

/-! RAISE, TRY, FIELDS OF EXCEPTIONS (own work). -/
namespace L2
open PySem PySem.Spec PyProof.Rows Builtin Builtin.ObjectAttr
/-- a new exception; a caught one; its own dict -/
def excP (x C : Addr) (od : Option Addr) (h : Heap) : Prop := ∃ t, h.get? x = some (xObj C od t)
def gotP (x C : Addr) (od : Option Addr) (h : Heap) : Prop := ∃ vs sl, h.get? x = some ⟨.ref C, od, .fields vs, sl⟩
def dctP (dx : Addr) (fs : List (Str × V)) (h : Heap) : Prop := ∃ mA, h.Ns1 dx mA ∧ (∀ f, RelO (fs.lookup f) (mA f)) ∧ Within mA (fs.map (·.1))
section
variable {P : Program} {w : World} {H : Hp} {h : Heap} {x C dx t : Addr} {od : Option Addr}
theorem excP_ok (e : h.get? x = some (xObj C od t)) : ObjOk P w H h x (.ext (excP x C od)) := ⟨⟨t, e⟩, ⟨_, e⟩, fun _ _ ⟨t, e⟩ k => ⟨t, k _ e⟩⟩
theorem gotP_ok {vs : Array Value} {sl : Array (Option Value)} (e : h.get? x = some ⟨.ref C, od, .fields vs, sl⟩) : ObjOk P w H h x (.ext (gotP x C od)) := ⟨⟨vs, sl, e⟩, ⟨_, e⟩, fun _ _ ⟨vs, sl, e⟩ k => ⟨vs, sl, k _ e⟩⟩
end
def dropH (H : Hp) (x : Addr) : Hp := fun b => if b = x then none else H b
theorem dropH_ne {H : Hp} {x b : Addr} (h : b ≠ x) : dropH H x b = H b := if_neg h
theorem dropH_same {H : Hp} {x : Addr} : dropH H x x = none := if_pos rfl
section
variable {X : Cx} {pins : List (Addr × Obj)} {σ : St} {H : Hp} {s : Shared} {x dx C : Addr} {φ : Heap → Prop} {od : Option Addr}
/-- it is no longer looked after -/
theorem Inv.drop (I : Inv X pins σ H s) (e : H x = some (.ext φ)) : Inv X pins σ (dropH H x) s := by
  have ne : ∀ b u, H b = some u → (∀ ψ, u ≠ .ext ψ) → b ≠ x := fun b u q hu z => by
    rw [z, e] at q
    cases q
    exact hu φ rfl
  have nn : ∀ b, H b = none → dropH H x b = none := fun b q => by
    by_cases z : b = x
    · rw [z, dropH_same]
    · rw [dropH_ne z, q]
  refine ⟨I.ok, I.os, I.bare, ⟨I.base.keep, I.base.slot, fun b o q n hx => nn b (I.base.free b o q n hx), I.base.there, fun b xs q => ?_, fun b o u q => ?_, fun b ps q => ?_⟩, I.loc, I.cell, nn _ I.free, fun y c q => nn c (I.freeC y c q), fun p hp => ?_, fun a o q => ?_, I.len⟩
  · have z := I.base.tups b xs q
    rw [dropH_ne (ne b _ z fun ψ q => by cases q)]
    exact z
  · have z := I.base.frzs b o u q
    rw [dropH_ne (ne b _ z fun ψ q => by cases q)]
    exact z
  · obtain ⟨m, z⟩ := I.base.tbls b ps q
    exact ⟨m, by rw [dropH_ne (ne b _ z fun ψ q => by cases q)]; exact z⟩
  · obtain ⟨a, b, c⟩ := I.pin p hp
    exact ⟨a, nn _ b, c⟩
  · have na : a ≠ x := fun z => by rw [z, dropH_same] at q; cases q
    rw [dropH_ne na] at q
    exact (I.hok a o q).stay (fun _ _ _ r => r) (fun c r => by rw [dropH_ne (ne c _ r fun ψ q => by cases q)]; exact r) fun c xs r => by rw [dropH_ne (ne c _ r fun ψ q => by cases q)]; exact r
/-- something of ours is looked after from now on -/
theorem Inv.track {o : HO} (I : Inv X pins σ H s) (hx : Our X pins H x) (new : ObjOk X.prog X.w (upd H x o) s.heap x o) : Inv X pins σ (upd H x o) s := by
  have ne : ∀ b u, H b = some u → b ≠ x := fun b u q z => by rw [z, hx.unt] at q; cases q
  refine I.step (h' := s.heap) (g' := s.gens) (d' := s.drawn) (t' := s.toks) (ch := [x]) (fun b hb => ?_) (fun b o _ _ _ e _ => e) (fun b o _ _ _ e _ => ⟨o.slots, e⟩) (fun b o hc e n => ?_) (fun b o _ e => ⟨o, e⟩) (fun b xs e => ?_) (fun b u xs e => ?_) (fun b ps e => ⟨#[], ?_⟩) (fun m hm => hm) (fun b u q => ?_) I.bare
  · rw [List.mem_singleton.mp hb]
    exact ⟨.inr hx.new, hx.loc, hx.cel, hx.pin⟩
  · rw [upd_ne fun z => hc (by rw [z]; exact List.mem_singleton.mpr rfl)]
    exact n
  · rw [upd_ne (ne b _ e)]; exact e
  · rw [upd_ne (ne b _ e)]; exact e
  · rw [upd_ne (ne b _ e), e]; simp
  · by_cases hb : b = x
    · subst hb
      rw [upd_same] at q
      cases q
      exact new
    · rw [upd_ne hb] at q
      exact (I.hok b u q).stay (fun _ _ _ r => r) (fun c r => by rw [upd_ne (ne c _ r)]; exact r) fun c xs r => by rw [upd_ne (ne c _ r)]; exact r
end
/-- what of the text is asked to make one -/
structure XMk (K : PySem.W.Frag) (C f : Addr) : Prop where
  cl : XCl K C
  init : PySem.W.findIn K (.ref C) "__init__" = some (some (.ref f))
  fn : PySem.W.isFn K (.ref f) = true
/-- C(..), C an own exception: the wanted sees an address that is new since the entry -/
def tXMake (n : Nat) (C : Addr) (sp : Sp) (dvs : List V) (t : TA) : TE := fun σ H Q => t σ H fun vs H1 => vs.length ≤ sizeLine ∧ ∀ x, n ≤ x → H1 x = none → sp (.ref x :: (vs ++ dvs)) (upd H1 x (.ext (excP x C none))) (fun v H2 => v = .non ∧ Q (.ref x) H2) E0
def tRaise (n : Nat) (K : PySem.W.Frag) (E : XS) (te : TE) : TS := fun _ σ H => te σ H fun v H1 => ∃ x C od, v = .ref x ∧ H1 x = some (.ext (excP x C od)) ∧ n ≤ x ∧ XCl K C ∧ E (.ref C) od σ (dropH H1 x)
section
variable {X : Cx} {k : Nat} {f C : Addr} {fd : FuncData} {ps : List Str} {sp : Sp} {dvs : List V} {ds : List Value} {E : XS} {x m : Str} {p pos apos : Pos} {e o : Expr} {es : List Expr} {ta te : TE} {t : TA}
/-- raise e -/
theorem ps_raise (hc : X.calm = true) (he : PE X e te) (L : Lands X E) : PS X (.Raise (some e) none pos) (tRaise X.s₀.heap.objs.size X.K E te) := by
  intro pins s σ H D I h
  rw [arm_exec_Raise]
  have go : wpAny (model X.prog X.w) X.A (eval e X.env) (fun v s₁ => ∃ x C nm q N bs bm sn sub ab col dd k0 k1 k2 k3 k5 od t0, v = .ref x ∧ s₁.heap.get? C = some (excClassObj nm q C N bs bm true sn sub ab col dd k0 k1 k2 k3 k5 "ValueError.__new__") ∧ tailV bm = true ∧ s₁.heap.get? x = some (xObj C od t0) ∧ X.xe (.ref x) s₁) X.xe s := by
    refine thn (he pins s σ H _ I h) fun v s1 ⟨y, H1, I1, rv, x, C, od, ey, hx, nx, c, q⟩ => ?_
    subst ey
    obtain rfl : v = Value.ref x := rv
    obtain ⟨nm, qn, N, bs, bm, sn, sub, ab, col, dd, k0, k1, k2, k3, k5, lk, tv⟩ := c.at_
    obtain ⟨⟨t0, ex⟩, _⟩ := I1.hok x _ hx
    have I2 := I1.drop hx
    have our : Our X pins (dropH H1 x) x := ⟨nx, (fun z => by rw [z, I1.free] at hx; cases hx), (fun y c e z => by rw [← z, I1.freeC y c e] at hx; cases hx), (fun p hp z => by rw [← z, (I1.pin p hp).2.1] at hx; cases hx), dropH_same⟩
    exact ⟨x, C, nm, qn, N, bs, bm, sn, sub, ab, col, dd, k0, k1, k2, k3, k5, od, t0, rfl, I1.kIn _ _ lk, tv, ex, L pins σ _ s1 x _ od I2 our ⟨_, _, .none, ex, rfl, .inl ⟨rfl, rfl⟩⟩ q⟩
  first
    | exact wpAny_bind (wpAny_standAt (xraise (I.ok.hd hc) (wpAny_bind (wpAny_mono go (fun v s₃ h₃ => wpAny_bind (wpAny_standAt (wpAny_pure h₃))) fun _ _ z => z))))
    | (simp only [evalOpt, Option.map]; exact wpAny_bind (wpAny_standAt (xraise (I.ok.hd hc) (wpAny_bind (wpAny_mono go (fun v s₃ h₃ => wpAny_bind (wpAny_standAt (wpAny_pure h₃))) fun _ _ z => z)))))
end
end L2

/-! FIELDS OF EXCEPTIONS, THEIR BASE'S __init__, TRY (own work). -/
namespace L2
open PySem PySem.Spec PyProof.Rows Builtin Builtin.ObjectAttr
/-- self.f = value: the first field, a further one -/
def sX1 (K : PySem.W.Frag) (ta tv : TE) (f : Str) : TS := fun D σ H => tv σ H fun y H1 => ta σ H1 fun x H2 => ∃ a C, x = .ref a ∧ H2 a = some (.ext (excP a C none)) ∧ XCl K C ∧ NoAttr K C f ∧
  ∀ dx, H2 dx = none → dx ≠ a → D.nx σ (upd (upd H2 dx (.ext (dctP dx [(f, y)]))) a (.ext (excP a C (some dx))))
def sX2 (K : PySem.W.Frag) (ta tv : TE) (f : Str) : TS := fun D σ H => tv σ H fun y H1 => ta σ H1 fun x H2 => ∃ a C dx fs, x = .ref a ∧ H2 a = some (.ext (excP a C (some dx))) ∧ H2 dx = some (.ext (dctP dx fs)) ∧ dx ≠ a ∧ XCl K C ∧ NoAttr K C f ∧ fs.length < 1000 ∧
  D.nx σ (upd H2 dx (.ext (dctP dx (putF f y fs))))
/-- e.f of a caught exception -/
def tXFld (K : PySem.W.Frag) (ta : TE) (f : Str) : TE := fun σ H Q => ta σ H fun x H1 => ∃ a C dx fs v, x = .ref a ∧ H1 a = some (.ext (gotP a C (some dx))) ∧ H1 dx = some (.ext (dctP dx fs)) ∧ XCl K C ∧ NoAttr K C f ∧ fs.lookup f = some v ∧ Q v H1
section
variable {X : Cx} {o e value : Expr} {f : Str} {pos pos' tpos : Pos} {ta tv : TE}
end
/-! ### B.__init__(self, ..), B an own class whose __init__ is ValueError's -/
structure BIn (K : PySem.W.Frag) (B : Addr) : Prop where
  sp : PySem.W.specialIn K (.ref B) "__getattribute__" = some (some (.builtin "type.__getattribute__"))
  rd : PySem.W.readsIn K B (.type "type") = true
  fc : PySem.W.findCls K (.ref B) (.type "type") "__init__" = some (.val (.builtin "ValueError.__init__"))
section
variable {prog : Program} {w : World} {A : Around} {E : Value → Shared → Prop} {h : Heap} {g : Array GenState} {d : Drawn} {t : Nat} {os : OsState}
variable {nm q : Str} {C N x t0 : Addr} {bs bm : List Value} {sn : List Str} {sub : List Value} {ab : Bool} {col : Option Bool} {dd : Option Addr} {k0 k1 k2 k3 k5 : Option Value}
theorem xck_init {M : Model} {oe : Obj} {rest : List Value} {Q : Unit → Shared → Prop} (tv : tailV bm = true) (hC : h.get? C = some (excClassObj nm q C N bs bm true sn sub ab col dd k0 k1 k2 k3 k5 "ValueError.__new__")) (hx : h.get? x = some oe) (hc : oe.cls = .ref C)
    (hq : Q () ⟨h, g, d, t, os⟩) : wpAny M A (checkBuiltinCall "ValueError.__init__" ⟨.ref x :: rest, []⟩) Q E ⟨h, g, d, t, os⟩ := by
  have F := PySem.F.excBase_ValueError
  have c1 : (Value.ref C :: bm).contains (.type "ValueError") = true := by rw [List.contains_cons, tailV_has (X := "ValueError") rfl tv]; rfl
  have ns := F.noStar
  simp only [checkBuiltinCall, F.initKind, F.initSplit, F.initRow]
  repeat (first | (with_reducible refine wpAny_loadPart_at hx ?_; rw [hc]) | with_reducible refine wpAny_loadPart_at hC ?_ | (with_reducible refine wpAny_isSubtype_exc hC ?_; rw [c1]) | wp_step)
  refine wpAny_onRaise ?_
  rw [show ∀ (a b : String) (n : Nat), Bind.check ⟨.positional, "*", "ValueError", .self, [⟨"args", .varPos, false⟩]⟩ a b n (List.map (fun y => y.fst) ({ pos := Value.ref x :: rest } : Args).kw) = pure () from fun a b n => check_star_args _ _ _ _ _ _]
  exact wpAny_pure hq
theorem xinit {rest : List Value} {od : Option Addr} {Q : Value → Shared → Prop} (tv : tailV bm = true) (hC : h.get? C = some (excClassObj nm q C N bs bm true sn sub ab col dd k0 k1 k2 k3 k5 "ValueError.__new__")) (hx : h.get? x = some (xObj C od t0)) (hz : rest.length ≤ sizeLine)
    (hq : ∀ h' t1 tk', h'.get? x = some (xObj C od t1) → (∀ b o, b ≠ x → h.get? b = some o → h'.get? b = some o) → Q .none ⟨h', g, d, tk', os⟩) :
    wpAny (model prog w) A (call (.builtin "ValueError.__init__") (.ref x :: rest)) Q E ⟨h, g, d, t, os⟩ := by
  have F := PySem.F.excBase_ValueError
  refine wpAny_call (codeAny_call_builtin F.init.plain F.initEntry (xck_init tv hC hx rfl ?_))
  wp_walk
  refine hq _ h.objs.size _ ?_ fun b o hb e => ?_
  · rw [Heap.get?_update_self _ (Heap.get?_push_of_some _ hx) rfl]
    rfl
  · rw [Heap.get?_update_other _ _ (Ne.symm hb)]
    exact Heap.get?_push_of_some _ e
end
def tBIn (K : PySem.W.Frag) (t : TA) : TE := fun σ H Q => t σ H fun vs H1 => ∃ x C od rest, vs = .ref x :: rest ∧ H1 x = some (.ext (excP x C od)) ∧ XCl K C ∧ rest.length ≤ sizeLine ∧ Q .non H1
section
variable {X : Cx} {B : Addr} {y : Str} {p pos apos : Pos} {e : Expr} {es : List Expr} {t : TA}
end
/-! ### try .. except C as n -/
abbrev Cx.caught (X : Cx) (x : Addr) : Cx := { X with A := X.A.mark (some (.ref x)), calm := false, xe := fun _ _ => False }
abbrev Cx.within (X : Cx) (pn : List (Addr × Obj)) (E : Value → Shared → Prop) : Cx := { X with pn := pn, xe := E }
section
variable {X : Cx} {pins : List (Addr × Obj)} {σ : St} {H : Hp} {s : Shared} {x : Addr} {E : Value → Shared → Prop}
theorem Inv.caught (I : Inv X pins σ H s) : Inv (X.caught x) pins σ H s :=
  ⟨⟨I.ok.mod, I.ok.kind, I.ok.glob, I.ok.blt, I.ok.above, I.ok.inj, I.ok.has, I.ok.cab, fun h => Bool.noConfusion h, I.ok.frames, I.ok.stk, I.ok.exf, I.ok.bs, I.ok.bsz, I.ok.noex, I.ok.exfs, I.ok.funs, I.ok.frf⟩, I.os, I.bare, I.base, I.loc, I.cell, I.free, I.freeC, I.pin, I.hok, I.len⟩
theorem Inv.uncaught (ok : X.Ok) (I : Inv (X.caught x) pins σ H s) : Inv X pins σ H s := ⟨ok, I.os, I.bare, I.base, I.loc, I.cell, I.free, I.freeC, I.pin, I.hok, I.len⟩
theorem Inv.within (I : Inv X pins σ H s) : Inv (X.within (X.pn ++ pins) E) [] σ H s :=
  ⟨⟨I.ok.mod, I.ok.kind, I.ok.glob, I.ok.blt, I.ok.above, I.ok.inj, I.ok.has, I.ok.cab, I.ok.hd, I.ok.frames, I.ok.stk, I.ok.exf, I.ok.bs, I.ok.bsz, I.ok.noex, I.ok.exfs, I.ok.funs, I.ok.frf⟩, I.os, I.bare, I.base, I.loc, I.cell, I.free, I.freeC, (by intro p hp; exact I.pin p (by simpa using hp)), I.hok, I.len⟩
theorem Inv.out {pins' : List (Addr × Obj)} (ok : X.Ok) (I : Inv (X.within (X.pn ++ pins) E) pins' σ H s) : Inv X pins σ H s := ⟨ok, I.os, I.bare, I.base, I.loc, I.cell, I.free, I.freeC, fun p hp => I.pin p (List.mem_append_left _ hp), I.hok, I.len⟩
theorem SP.out {D : Ends} {f : Flow} {pins' : List (Addr × Obj)} (ok : X.Ok) (h : SP (X.within (X.pn ++ pins) E) pins' D f s) : SP X pins D f s := by
  cases f with
  | next => obtain ⟨σ', H', I, q⟩ := h; exact ⟨σ', H', I.out ok, q⟩
  | brk => obtain ⟨σ', H', I, q⟩ := h; exact ⟨σ', H', I.out ok, q⟩
  | cont => obtain ⟨σ', H', I, q⟩ := h; exact ⟨σ', H', I.out ok, q⟩
  | ret u => obtain ⟨v, σ', H', I, r, q⟩ := h; exact ⟨v, σ', H', I.out ok, r, q⟩
theorem Our.out {pins' : List (Addr × Obj)} {b : Addr} (o : Our (X.within (X.pn ++ pins) E) pins' H b) : Our X pins H b := ⟨o.new, o.loc, o.cel, fun p hp => o.pin p (List.mem_append_left _ hp), o.unt⟩
/-- a name goes -/
theorem Inv.unname {i : Nat} {n : Str} {h' : Heap} {v : Option Value} {m : Str → Option Value} {t' : Nat} (I : Inv X pins σ H s) (hN : X.N.Nodup) (hi : X.N[i]? = some n) (hn : h'.Ns X.env.locals (fun y => if y = n then v else m y))
    (hm : ∀ (i : Nat) (x : Str) (v : V), X.N[i]? = some x → σ[i]? = some (some v) → Vis X.env.scope x → ∃ u, RelV v u ∧ Look X.env s.heap m x u) (sb : Heap.SameBut X.env.locals s.heap h') :
    Inv X pins (σ.set i none) H { s with heap := h', toks := t' } := by
  have cne := I.cne
  have neL : ∀ b o, X.s₀.heap.get? b = some o → b ≠ X.env.locals := fun b o e => Nat.ne_of_lt (Nat.lt_of_lt_of_le (Heap.lt_size e) I.ok.above)
  refine ⟨I.ok, I.os, I.bare, ⟨fun b o e n' hb hx => (sb.2 b (neL b o e)).trans (I.base.keep b o e n' hb hx), fun b o e n' hb hx => ?_, I.base.free, fun b o e hx => ?_, I.base.tups, I.base.frzs, I.base.tbls⟩, ⟨_, hn, fun j y w e1 e2 e3 => ?_⟩, fun y c e => ?_, I.free, I.freeC, fun p hp => ?_, fun b ob e => ?_, by simpa using I.len⟩
  · obtain ⟨sl, e1⟩ := I.base.slot b o e n' hb hx
    exact ⟨sl, (sb.2 b (neL b o e)).trans e1⟩
  · obtain ⟨o', e1⟩ := I.base.there b o e hx
    exact ⟨o', (sb.2 b (neL b o e)).trans e1⟩
  · by_cases hj : j = i
    · subst hj
      have : (σ.set j none)[j]? = some (some w) := e2
      rw [List.getElem?_set] at this
      simp at this
    · rw [List.getElem?_set_ne (Ne.symm hj)] at e2
      obtain ⟨u, r, q⟩ := hm j y w e1 e2 e3
      refine ⟨u, r, ?_⟩
      rcases q with ⟨k, e⟩ | ⟨k, c, e, z⟩
      · refine .inl ⟨k, ?_⟩
        have : y ≠ n := fun e => hj (nodup_ix hN e1 (e ▸ hi))
        show (if y = n then v else m y) = some u
        rw [if_neg this]
        exact e
      · exact .inr ⟨k, c, e, z.sameBut sb (cne y c e)⟩
  · obtain ⟨w', z⟩ := I.cell y c e
    exact ⟨w', z.sameBut sb (cne y c e)⟩
  · obtain ⟨e, n', ne, nf, d⟩ := I.pin p hp
    exact ⟨(sb.2 p.1 ne).trans e, n', ne, nf, d⟩
  · refine (I.hok b ob e).stay (fun c w' hc q => (sb.2 c ?_).trans q) (fun _ q => q) fun _ _ q => q
    rintro rfl
    rcases hc with rfl | hc
    · rw [I.free] at e; cases e
    · rw [I.free] at hc; cases hc
end
def offName (i : Nat) (D : Ends) : Ends := { nx := fun σ' H' => D.nx (σ'.set i none) H', rt := D.rt, bk := fun σ' H' => D.bk (σ'.set i none) H', ct := fun σ' H' => D.ct (σ'.set i none) H' }
/-- what the body of a try must see to where it raises: the class, and the suite's reading -/
def EXh (CN : Addr) (i : Nat) (ts : Addr → TS) (D : Ends) : XS := fun C od σ H => C = .ref CN ∧ ∀ x, H x = none → ts x (offName i D) (σ.set i (some (.ref x))) (upd H x (.ext (gotP x CN od)))
def tTry (tb : Ends → TS) : TS := fun D σ H => tb D D σ H
section
variable {X : Cx} {body : List Stmt} {cx n : Str} {b₀ : Stmt} {suite : List Stmt} {np hp pos : Pos} {CN : Addr} {i : Nat} {tb : Ends → TS} {ts : Addr → TS}
end
end L2

/-! COMPREHENSIONS WHOSE ITEMS RAISE (own work). -/
namespace L2
open PySem PySem.Spec PyProof.Rows
theorem note_frame_eq {e : Value} {env env' : Env} (h : env.frame = env'.frame) : noteFrame e env = noteFrame e env' := by
  unfold noteFrame PySem.frameOf
  rw [h]
/-- a traceback is there -/
def XTb (h : Heap) (x : Addr) : Prop := ∃ c od vs sl T, h.get? x = some ⟨c, od, .fields vs, sl⟩ ∧ vs[1]? = some (.ref T)
section
variable {M : Model} {A : Around} {E : Value → Shared → Prop} {s : Shared} {base : Heap} {env : Env} {outer : List Env} {L x : Addr} {P : Addr → Prop} {C : Value} {od : Option Addr}
theorem XAt.tb {h : Heap} {fl : Value} (hx : XAt h P x C od fl) (hf : fl ≠ .none) : XTb h x := by
  obtain ⟨vs, sl, v1, ex, e1, tb⟩ := hx
  rcases tb with ⟨_, z⟩ | ⟨T, oT, ts, rfl, _⟩
  · exact absurd z hf
  · exact ⟨_, _, vs, sl, T, ex, e1⟩
/-- setFlight, whatever the mark -/
theorem flight_any {fl : Value} {fr : List Addr} {f : Option Addr} {Q : Unit → Shared → Prop} (hx : XAt s.heap P x C od fl) (frn : ∀ b o, s.heap.get? b = some o → b ∈ fr → ∀ vs, o.data ≠ .fields vs)
    (h : ∀ h' fl', Nt P fr x s.heap h' → XAt h' P x C od fl' → Q () { s with heap := h' }) : wpAny M A (setFlight (.ref x) f) Q E s := by
  obtain ⟨vs, sl, v1, ex, e1, tb⟩ := hx
  unfold setFlight
  refine wpAny_bind (wpAny_field ex rfl e1 ?_)
  rcases tb with ⟨rfl, _⟩ | ⟨T, oT, ts, rfl, pT, nT, eT, dT, fT⟩
  · rw [if_neg (by decide)]
    exact wpAny_pure (h s.heap .none .refl ⟨vs, sl, _, ex, e1, .inl ⟨rfl, rfl⟩⟩)
  · rw [if_pos (show (Value.ref T != Value.none) = true from by simp)]
    refine wpAny_setField eT dT (Array.getElem?_eq_some_iff.mp fT).1 (h _ (f.elim .none fun f => rawInt f) ?_ ?_)
    · refine ⟨⟨[T], fun b hb => .inr ?_, fun b o e _ hc => ?_⟩, fun b o e hb => ⟨o.slots, ?_⟩, fun b o e => ?_⟩
      · rw [List.mem_singleton.mp hb]
        exact ⟨pT, oT, ts, eT, dT⟩
      · rw [Heap.get?_update_other _ _ fun z => hc (by rw [z]; exact List.mem_singleton.mpr rfl)]
        exact e
      · rw [Heap.get?_update_other _ _ fun z => ?_]
        · exact e
        · subst z
          rw [eT] at e
          cases e
          exact frn T oT eT hb ts dT
      · by_cases hb : b = T
        · rw [hb]
          exact ⟨_, Heap.get?_update_self _ eT (Obj.isFreed_of_fields (Obj.data_mapFields dT _))⟩
        · exact ⟨o, by rw [Heap.get?_update_other _ _ (Ne.symm hb)]; exact e⟩
    · refine ⟨vs, sl, .ref T, by rw [Heap.get?_update_other _ _ nT]; exact ex, e1, .inr ⟨T, _, _, rfl, pT, nT, Heap.get?_update_self _ eT (Obj.isFreed_of_fields (Obj.data_mapFields dT _)), Obj.data_mapFields dT _, ?_⟩⟩
      have := (Array.getElem?_eq_some_iff.mp fT).1
      simp [this]
/-- noteFrame, whatever the mark -/
theorem note_any {fl : Value} {Q : Unit → Shared → Prop} (hfr : A.frames = some (env :: outer)) (hl : s.heap.FunFrames base (env :: outer)) (hf : env.frame = some L)
    (hx : XAt s.heap P x C od fl) (hP : ∀ T, s.heap.objs.size ≤ T → P T)
    (h : ∀ h' fl', Nt P ((env :: outer).filterMap (·.frame)) x s.heap h' → XAt h' P x C od fl' → XTb h' x → Q () { s with heap := h' }) : wpAny M A (noteFrame (.ref x) env) Q E s := by
  have hx0 := hx
  obtain ⟨vs, sl, v1, ex, e1, tb⟩ := hx
  have hsz : 1 < vs.size := (Array.getElem?_eq_some_iff.mp e1).1
  have rn : rawInt L ≠ Value.none := by simp [rawInt]
  rcases tb with ⟨rfl, rfl⟩ | ⟨T, oT, ts, rfl, pT, nT, eT, dT, fT⟩
  · exact note_ok hfr hl hf hx0 hP fun h' n' x' => h h' _ n' x' (x'.tb rn)
  · by_cases hfl : (fl == rawInt L) = true
    · unfold noteFrame
      simp only [hf]
      refine wpAny_bind (wpAny_field ex rfl e1 ?_)
      rw [if_pos (show (Value.ref T != Value.none) = true from by simp)]
      refine wpAny_bind (wpAny_field eT dT fT ?_)
      rw [if_pos hfl]
      exact wpAny_pure (h s.heap fl .refl hx0 ⟨_, _, vs, sl, T, ex, e1⟩)
    · unfold noteFrame
      simp only [hf]
      refine wpAny_bind (wpAny_field ex rfl e1 ?_)
      rw [if_pos (show (Value.ref T != Value.none) = true from by simp)]
      refine wpAny_bind (wpAny_field eT dT fT ?_)
      rw [if_neg hfl]
      refine wpAny_bind (wpAny_setField eT dT (Array.getElem?_eq_some_iff.mp fT).1 ?_)
      have oth : ∀ b, b ≠ T → (s.heap.update T (Obj.mapFields (·.setIfInBounds 3 Value.none))).get? b = s.heap.get? b := fun b hb => Heap.get?_update_other _ _ (Ne.symm hb)
      have nrec : ∀ b o, s.heap.get? b = some o → (∀ vs, o.data ≠ .fields vs) → b ≠ T := fun b o hb hn q => by
        rw [q, eT] at hb
        cases hb
        exact hn ts dT
      have hl' := hl.of_keeps (h' := s.heap.update T (Obj.mapFields (·.setIfInBounds 3 Value.none))) fun b o hb hn => ⟨o, (oth b (nrec b o hb hn)).trans hb, rfl⟩
      have frn : ∀ b o, s.heap.get? b = some o → b ∈ (env :: outer).filterMap (·.frame) → ∀ vs, o.data ≠ .fields vs := fun b o e hb => by
        obtain ⟨_, o', ho', hn⟩ := hl.mem hb
        rw [e] at ho'
        cases ho'
        exact hn
      have N1 : Nt P ((env :: outer).filterMap (·.frame)) x s.heap (s.heap.update T (Obj.mapFields (·.setIfInBounds 3 Value.none))) := by
        refine ⟨⟨[T], fun b hb => .inr ?_, fun b o e _ hc => ?_⟩, fun b o e hb => ⟨o.slots, ?_⟩, fun b o e => ?_⟩
        · rw [List.mem_singleton.mp hb]
          exact ⟨pT, oT, ts, eT, dT⟩
        · exact (oth b fun z => hc (by rw [z]; exact List.mem_singleton.mpr rfl)).trans e
        · exact (oth b (nrec b o e (frn b o e hb))).trans e
        · by_cases hb : b = T
          · rw [hb]
            exact ⟨_, Heap.get?_update_self _ eT (Obj.isFreed_of_fields (Obj.data_mapFields dT _))⟩
          · exact ⟨o, (oth b hb).trans e⟩
      refine entry_ok (s := { s with heap := s.heap.update T (Obj.mapFields (·.setIfInBounds 3 Value.none)) }) hfr hl' hf ((oth x (Ne.symm nT)).trans ex) hsz (fun T' hT' => hP T' (by rw [← Heap.size_after_update s.heap T]; exact hT')) fun h' n' x' => h h' _ (N1.trans n' frn) x' (x'.tb rn)
/-- leaving, whatever the mark -/
theorem leave_any {fl : Value} {Q : Unit → Shared → Prop} (hfr : A.frames = some (env :: outer)) (hl : s.heap.FunFrames base (env :: outer)) (hf : env.frame = some L)
    (hx : XAt s.heap P x C od fl) (hP : ∀ T, s.heap.objs.size ≤ T → P T)
    (h : ∀ h', Nt P ((env :: outer).filterMap (·.frame)) x s.heap h' → XAt h' P x C od .none → Q () { s with heap := h' }) : wpAny M A (leaving env (.ref x)) Q E s := by
  have frn : ∀ b o, s.heap.get? b = some o → b ∈ (env :: outer).filterMap (·.frame) → ∀ vs, o.data ≠ .fields vs := fun b o e hb => by
    obtain ⟨_, o', ho', hn⟩ := hl.mem hb
    rw [e] at ho'
    cases ho'
    exact hn
  unfold leaving
  refine wpAny_bind (note_any hfr hl hf hx hP fun h1 fl1 n1 x1 _ => ?_)
  refine land_ok (s := { s with heap := h1 }) (fr := (env :: outer).filterMap (·.frame)) x1 (fun b o e hb => ?_) fun h2 n2 x2 => h h2 (n1.trans n2 frn) x2
  obtain ⟨_, o', ho', hn⟩ := hl.mem hb
  obtain ⟨sl, e1⟩ := n1.frm b o' ho' hb
  have e' : h1.get? b = some o := e
  rw [e1] at e'
  cases e'
  exact hn
end
/-- an exception of which E holds is what the context wants, whatever its mark -/
def LandsA (X : Cx) (E : XS) : Prop := ∀ (pins : List (Addr × Obj)) (σ : St) (H : Hp) (s : Shared) (x : Addr) (C : Value) (od : Option Addr) (fl : Value), Inv X pins σ H s → Our X pins H x → XAt s.heap (Our X pins H) x C od fl → E C od σ H → X.xe (.ref x) s
theorem lands_cxA {P : Program} {w : World} {K : PySem.W.Frag} {mg : Str → Option Value} {base : Heap} {N : List Str} {qual : Str} {scope : Scope} {f : Addr} {cd : Value} {A : Around} {outer : List Env} {s₀ : Shared} {H₀ : Hp} {E : XK} :
    LandsA (cxOf (CX1 P w) P w K mg base N qual scope f cd A outer s₀ H₀ E) (fun C od _ H => E C od H) := by
  intro pins σ H s x C od fl I hx xa q
  refine leave_any (base := base) (Q := fun _ s'' => CX1 P w outer H₀ s₀ E (.ref x) s'') I.ok.frames I.stack rfl xa (fun T hT => I.our hT) fun h' n xa' => ?_
  have I' := I.noted hx n
  exact ⟨x, C, od, H, rfl, I'.os, I'.bare, I'.base, I'.hok, hx.new, hx.unt, xa'.imp fun T o => ⟨o.new, o.unt⟩, q⟩
end L2

/-! COMPREHENSIONS WHOSE ITEMS RAISE, the block (own work). -/
namespace L2
open PySem PySem.Spec PyProof.Rows
/-- how an item's exception lies -/
def CompX (X : Cx) (scope : Scope) (N : List Str) (s : Shared) (H : Hp) (fp : List Addr) (EX : XK) : Value → Shared → Prop := fun e s' => ∃ (pl : List (Addr × Obj)) (σ' : St) (H' : Hp) (x : Addr) (cl : Value) (od : Option Addr), e = .ref x ∧ Inv (cxComp X scope N s H fp) pl σ' H' s' ∧ Our (cxComp X scope N s H fp) pl H' x ∧ XAt s'.heap (Our (cxComp X scope N s H fp) pl H') x cl od .none ∧ EX cl od H'
abbrev cxCompX (X : Cx) (scope : Scope) (N : List Str) (s : Shared) (H : Hp) (fp : List Addr) (EX : XK) : Cx := (cxComp X scope N s H fp).wish (CompX X scope N s H fp EX)
theorem lands_comp {X : Cx} {scope : Scope} {N : List Str} {s : Shared} {H : Hp} {fp : List Addr} {EX : XK} : Lands (cxCompX X scope N s H fp EX) (fun C od _ H => EX C od H) :=
  fun pins σ H' s' x C od I o xa q => ⟨pins, σ, H', x, C, od, rfl, I.unwish, ⟨o.new, o.loc, o.cel, o.pin, o.unt⟩, xa.imp fun T o => ⟨o.new, o.loc, o.cel, o.pin, o.unt⟩, q⟩
section
variable {X : Cx}
theorem comp_blockX {osc scope : Scope} {N0 xs : List Str} {fr : List Nat} {pins : List (Addr × Obj)} {σ : St} {H2 : Hp} {s2 : Shared} {fp : List Addr} {it : Addr} {tn : Nat → Heap → Prop} {J : It} {elt tg iter : Expr} {ifs : List Expr} {pos : Pos}
    {g : TG} {tt : TT} {te : TE} {E : Value → Shared → Prop} {R : Addr → Hp → Prop} {RR : Value → Addr → Result → Shared → Prop} {EX : XK} {L : Addr} (hst : X.stack = X.env :: X.outer) (hfx : X.env.frame = some L) (C : CompTx osc scope N0 xs fr) (ho : X.env.scope = osc) (hN0 : X.N = N0) (hc : X.calm = true)
    (hg : ∀ s H fp, PG (cxComp X scope (compN N0 xs fr) s H fp) tg g) (ht : ∀ s H fp, PIf (cxComp X scope (compN N0 xs fr) s H fp) ifs tt) (he : ∀ s H fp, PE (cxCompX X scope (compN N0 xs fr) s H fp EX) elt te)
    (I2 : Inv X pins σ H2 s2) (T : Turn X.prog X.w X.K tg J fp it tn) (st2 : tn 0 s2.heap) (f2 : ∀ b ∈ fp, FpOk X pins H2 b)
    (hR : ∀ D, H2 D = none → CompW J g tt te R D (compSt xs fr σ) (upd H2 D (.lst [])))
    (hRR : ∀ (D C : Addr) (s' : Shared) (H' : Hp) (m : Str → Option Value), Inv X pins σ H' s' → s'.heap.Ns C m → FpOk X pins H' C → R D H' → RR (.ref D) C (.ok .next) s')
    (hRX : ∀ (D C : Addr) (s' : Shared) (H' : Hp) (m : Str → Option Value) (x : Addr) (cl : Value) (od : Option Addr) (fl : Value), Inv X pins σ H' s' → s'.heap.Ns C m → FpOk X pins H' C → Our X pins H' x → XAt s'.heap (Our X pins H') x cl od fl → XTb s'.heap x → EX cl od H' → RR (.ref D) C (.error (.ref x)) s') :
    wpAny (model X.prog X.w) X.A (newList []) (fun acc s₃ => wpAny (model X.prog X.w) X.A (newFunctionEnv scope X.env.globals (closL X.env scope.names) [] X.env.qual none .none (some X.env)) (fun cenv s₄ =>
      codeAny (model X.prog X.w) X.A (.compStart (.ListComp elt [⟨tg, iter, ifs, 0⟩] scope pos) 0 (.ref it) acc { cenv with scope := relabel scope X.env }) (RR acc cenv.locals) s₄) E s₃) E s2 := by
  refine wpAny_newObj_type (wpAny_newFunctionEnv C.nocell (by intro y hy; simp at hy) (fun h₁ hns₁ hsb₁ => ?_) C.kind)
  dsimp only at hns₁ hsb₁ ⊢
  have I3 : Inv X pins σ (upd H2 s2.heap.objs.size (.lst [])) { s2 with heap := s2.heap.push { cls := .type "list", data := .seq ([] : List Value).toArray } } := I2.lnew (its := []) (t' := s2.toks) .nil (by simp)
  have flt : ∀ b ∈ fp, b < s2.heap.objs.size := fun b hb => by
    obtain ⟨o, e, _⟩ := T.obj 0 _ st2 b hb
    exact Heap.lt_size e
  have f3 : ∀ b ∈ fp, FpOk X pins (upd H2 s2.heap.objs.size (.lst [])) b := fun b hb => ⟨by rw [upd_ne (Nat.ne_of_lt (flt b hb))]; exact (f2 b hb).1, (f2 b hb).2⟩
  have flt3 : ∀ b ∈ fp, b < (s2.heap.push { cls := .type "list", data := .seq ([] : List Value).toArray }).objs.size := fun b hb => by
    rw [Heap.size_push]
    exact Nat.lt_succ_of_lt (flt b hb)
  obtain ⟨W, ⟨m0, w0⟩, turn⟩ := hR s2.heap.objs.size I2.fresh
  generalize hD : s2.heap.objs.size = D at *
  generalize hs3 : s2.heap.push { cls := .type "list", data := .seq ([] : List Value).toArray } = h3 at *
  have up2 : ∀ b o, s2.heap.get? b = some o → h3.get? b = some o := fun b o e => by rw [← hs3]; exact Heap.get?_push_of_some _ e
  have old : ∀ b o, h3.get? b = some o → h₁.get? b = some o := fun b o e => hsb₁.extBut b o (Nat.ne_of_lt (Heap.lt_size e)) (Heap.get?_push_of_some _ e)
  have Ic := comp_start (tk := s2.toks + ([] : List (Str × Value)).length) C ho hN0 I3 f3 flt3 hns₁ old
  have st4 : tn 0 h₁ := T.keep 0 _ _ st2 fun b hb o e => old b o (up2 b o e)
  have stat : ∀ {H' : Hp}, (∀ b ∈ fp, H' b = none) → ∀ b ∈ fp, FpOk (cxComp X scope (compN N0 xs fr) { s2 with heap := h3 } (upd H2 D (.lst [])) fp) [] H' b := fun hn b hb =>
    ⟨hn b hb, Nat.ne_of_lt (flt3 b hb), fun z => by
      rcases List.mem_cons.mp (I3.stkSub b z) with q | q
      · exact (f3 b hb).2.1 q
      · exact (f3 b hb).2.2.1 q, .inl hb, fun x c h => (Ic.ok.exf b hb).2 x c h, fun p hp => absurd (show p ∈ ([] : List (Addr × Obj)) from hp) (by simp)⟩
  have fin : ∀ {σ' : St} {H' : Hp} {s' : Shared}, Inv (cxComp X scope (compN N0 xs fr) { s2 with heap := h3 } (upd H2 D (.lst [])) fp) [] σ' H' s' → R D H' → RR (.ref D) h3.objs.size (.ok .next) s' := fun {σ' H' s'} I' q => by
    obtain ⟨m, hm, _⟩ := I'.loc
    refine hRR D h3.objs.size s' H' m (I3.call' I'.os I'.base I'.hok I'.bare fun b hb => ?_) hm (I3.fpOk (Nat.le_refl _) I'.free) q
    exact ⟨(f3 b hb).2.2.2.1, (f3 b hb).2.1, (f3 b hb).2.2.2.2.1, (f3 b hb).2.2.2.2.2⟩
  have caught : ∀ {e : Value} {s' : Shared}, CompX X scope (compN N0 xs fr) { s2 with heap := h3 } (upd H2 D (.lst [])) fp EX e s' → notedBy (model X.prog X.w) X.A (compEnvC scope (closL X.env scope.names) h3.objs.size X.env) (fun e s'' => RR (.ref D) h3.objs.size (.error e) s'') e s' := fun {e s'} z => by
    obtain ⟨pl, σ', H', x, cl, od, rfl, I', o', xa, q⟩ := z
    show wpAny _ _ (noteFrame (.ref x) _) _ _ _
    rw [note_frame_eq (env := compEnvC scope (closL X.env scope.names) h3.objs.size X.env) (env' := X.env) rfl]
    have hfr : X.A.frames = some (X.env :: X.outer) := by rw [← hst]; exact I2.ok.frames
    have hfl : s'.heap.FunFrames X.base (X.env :: X.outer) := by rw [← hst]; exact I'.stack
    refine note_any (base := X.base) hfr hfl hfx xa (fun T hT => I'.our hT) fun h' fl' n' xa' tb' => ?_
    have n'' : Nt (Our (cxComp X scope (compN N0 xs fr) { s2 with heap := h3 } (upd H2 D (.lst [])) fp) pl H') (frs X.stack) x s'.heap h' := by rw [hst]; exact n'
    have I'' := I'.noted o' n''
    obtain ⟨m, hm, _⟩ := I''.loc
    have IX : Inv X pins σ H' { s' with heap := h' } := I3.call' I''.os I''.base I''.hok I''.bare fun b hb => ⟨(f3 b hb).2.2.2.1, (f3 b hb).2.1, (f3 b hb).2.2.2.2.1, (f3 b hb).2.2.2.2.2⟩
    have up : ∀ T, Our (cxComp X scope (compN N0 xs fr) { s2 with heap := h3 } (upd H2 D (.lst [])) fp) pl H' T → Our X pins H' T := fun T o => I3.our' o.new o.unt
    exact hRX D h3.objs.size _ H' m x cl od fl' IX hm (I3.fpOk (Nat.le_refl _) I''.free) (up x o') (xa'.imp up) tb' q
  have loop : codeAny (model X.prog X.w) X.A (.compLoop (.ListComp elt [⟨tg, iter, ifs, 0⟩] scope pos) 0 (.ref it) (.ref D) (compEnvC scope (closL X.env scope.names) h3.objs.size X.env)) (RR (.ref D) h3.objs.size) { s2 with heap := h₁, toks := s2.toks + ([] : List (Str × Value)).length } := by
    refine codeAny_loop rfl (fun n s' => ∃ i σ' H', Inv (cxComp X scope (compN N0 xs fr) { s2 with heap := h3 } (upd H2 D (.lst [])) fp) [] σ' H' s' ∧ tn i s'.heap ∧ (∀ b ∈ fp, H' b = none) ∧ W i n σ' H') (fun n s' hI => ?_) m0 ⟨0, _, _, Ic, st4, fun b hb => (f3 b hb).1, w0⟩
    show wpAny _ X.A ((compTurn (.ListComp elt [⟨tg, iter, ifs, 0⟩] scope pos) 0 (.ref it) (.ref D) (compEnvC scope (closL X.env scope.names) h3.objs.size X.env)).onRaise (fun x => do noteFrame x (compEnvC scope (closL X.env scope.names) h3.objs.size X.env); theTreesLotGoes x)) _ _ s'
    refine wpAny_noted ?_
    rw [compTurn_list]
    obtain ⟨i, σ', H', I', st', fr', w'⟩ := hI
    refine wpAny_bind (wpAny_standAt (wpAny_bind ?_))
    rcases turn i n σ' H' w' with ⟨stop, q⟩ | ⟨go, N, M, hN, hM, step⟩
    · refine thn (T.done (cxComp X scope (compN N0 xs fr) { s2 with heap := h3 } (upd H2 D (.lst [])) fp) rfl rfl rfl hc i [] s' σ' H' _ I' (stat fr') st' stop) fun r s4 ⟨hr, I4⟩ => ?_
      subst hr
      exact wpAny_pure (fin I4 q)
    · refine thn (T.item (cxComp X scope (compN N0 xs fr) { s2 with heap := h3 } (upd H2 D (.lst [])) fp) rfl rfl rfl hc i [] s' σ' H' _ I' (stat fr') st' go) fun r s4 ⟨u, hr, h4⟩ => ?_
      subst hr
      refine wpAny_bind (thn h4 fun _ s5 ⟨x, H5, I5, r5, y5, st5, fr5⟩ => ?_)
      have I5' := I5.pinned (stat fr5) (T.obj _ _ st5)
      have again : ∀ {σ7 : St} {H7 : Hp} {s7 : Shared}, Inv (cxComp X scope (compN N0 xs fr) { s2 with heap := h3 } (upd H2 D (.lst [])) fp) ([] ++ pinsAt fp s5.heap) σ7 H7 s7 → (∃ m', m' < n ∧ W (i + 1) m' σ7 H7) →
          ∃ m, m < n ∧ ∃ i σ' H', Inv (cxComp X scope (compN N0 xs fr) { s2 with heap := h3 } (upd H2 D (.lst [])) fp) [] σ' H' s7 ∧ tn i s7.heap ∧ (∀ b ∈ fp, H' b = none) ∧ W i m σ' H' := fun {σ7 H7 s7} I7 n7 => by
        obtain ⟨m', hm, w7⟩ := n7
        refine ⟨m', hm, i + 1, σ7, H7, I7.unpinned, T.keep _ _ _ st5 fun b hb o e => (I7.pin (b, o) (List.mem_append_right _ (List.mem_append_right _ (mem_pinsAt hb e)))).1, fun b hb => ?_, w7⟩
        obtain ⟨o, e, d⟩ := T.obj _ _ st5 b hb
        exact (I7.pin (b, o) (List.mem_append_right _ (List.mem_append_right _ (mem_pinsAt hb e)))).2.1
      refine wpAny_bind (wpAny_mono (hg _ _ _ _ s5 σ' H5 x u _ I5' r5 (step x H5 y5)) (fun _ s6 ⟨σ6, H6, I6, q6⟩ => ?_) fun _ _ z => False.elim z)
      refine wpAny_bind (wpAny_mono (ht _ _ _ _ s6 σ6 H6 _ I6 q6) (fun ok s7 ⟨H7, I7, q7⟩ => ?_) fun _ _ z => False.elim z)
      cases ok with
      | false =>
        rw [if_neg Bool.false_ne_true] at q7
        exact wpAny_pure ⟨rfl, again I7 (hM _ _ q7)⟩
      | true =>
        rw [if_pos rfl] at q7
        refine wpAny_bind (wpAny_bind (wpAny_mono (he _ _ _ _ s7 σ6 H7 _ (I7.wish _) q7) (fun y s8 ⟨v, H8, I8', r8, q8⟩ => ?_) fun _ _ z => caught z))
        have I8 := I8'.unwish
        obtain ⟨ys, eD, hz, q8⟩ := hN _ _ _ q8
        refine wpAny_bind (wpAny_mono (mt_append (X := cxComp X scope (compN N0 xs fr) { s2 with heap := h3 } (upd H2 D (.lst [])) fp) _ s8 σ6 H8 (.ref D) [v] (.ref D) [y] (fun _ H9 => ∃ m', m' < n ∧ W (i + 1) m' σ6 H9) I8 rfl (.cons r8 .nil) ⟨D, ys, v, rfl, rfl, eD, hz, q8⟩) (fun _ s9 ⟨_, H9, I9, _, q9⟩ => ?_) fun _ _ z => False.elim z)
        exact wpAny_pure (wpAny_pure ⟨rfl, again I9 q9⟩)
  exact codeAny_compStart_list loop (T.self X.A 0 _ _ _ st4 loop)

variable {osc scope : Scope} {N0 xs : List Str} {fr : List Nat} {elt tg iter : Expr} {ifs : List Expr} {pos : Pos} {wi : TI} {g : TG} {tt : TT} {te : TE}
theorem pe_compX {EX : XK} {L : Addr} (hst : X.stack = X.env :: X.outer) (hfx : X.env.frame = some L) (LA : LandsA X (fun C od _ H => EX C od H)) (C : CompTx osc scope N0 xs fr) (ho : X.env.scope = osc) (hN0 : X.N = N0) (hc : X.calm = true) (hi : PI X tg iter wi)
    (hg : ∀ s H fp, PG (cxComp X scope (compN N0 xs fr) s H fp) tg g) (ht : ∀ s H fp, PIf (cxComp X scope (compN N0 xs fr) s H fp) ifs tt) (he : ∀ s H fp, PE (cxCompX X scope (compN N0 xs fr) s H fp EX) elt te)
    (hs : ∀ x, foldedSetIterable iter X.env x = pure x := by intro _; rfl) : PE X (.ListComp elt [⟨tg, iter, ifs, 0⟩] scope pos) (tComp xs fr wi g tt te) := by
  intro pins s σ H Q I h
  rw [eval_ListComp]
  refine wpAny_comprehension_free (use := none) rfl hs (clos_ok (comp_free C ho I)) C.kind C.names (thn (hi pins s σ H _ I h) fun v s1 h1 => thn h1 fun itv s2 h2 => ?_)
  obtain ⟨it, fp, tn, J, H2, e, I2, T, st2, f2, hR⟩ := h2
  subst e
  refine comp_blockX (EX := EX) hst hfx C ho hN0 hc hg ht he I2 T st2 f2 hR (fun D C s' H' m I' hm fC q => ?_) (fun D C s' H' m x cl od fl I' hm fC ox xa tb q => ?_)
  · refine ⟨m, hm, fun h' sb => ⟨.ref D, H', ?_, rfl, q⟩⟩
    exact I'.turned (t' := s'.toks) (fun b o hb e => (sb.2 b hb).trans e) fC.1 fC.2.1 fC.2.2.2.1 fC.2.2.2.2.1 fC.2.2.2.2.2
  · refine ⟨m, hm, fun h' sb cenv hce => ?_⟩
    have I'' : Inv X pins σ H' { s' with heap := h' } := I'.turned (t' := s'.toks) (fun b o hb e => (sb.2 b hb).trans e) fC.1 fC.2.1 fC.2.2.2.1 fC.2.2.2.2.1 fC.2.2.2.2.2
    obtain ⟨oC, es, ep, eC, dC, _⟩ := hm
    have nC : ∀ (b : Addr) (o : Obj) (vs : Array Value), s'.heap.get? b = some o → o.data = .fields vs → b ≠ C := fun b o vs e d z => by
      rw [z, eC] at e
      cases e
      rw [dC] at d
      cases d
    obtain ⟨_, _, vs0, sl0, T0, ex0, e10⟩ := tb
    obtain ⟨vs, sl, v1, ex, e1, tb⟩ := xa
    have ex' : h'.get? x = some ⟨cl, od, .fields vs, sl⟩ := (sb.2 x (nC x _ vs ex rfl)).trans ex
    rw [ex0] at ex
    cases ex
    rw [e10] at e1
    cases e1
    have xa' : XAt h' (Our X pins H') x cl od fl := by
      refine ⟨_, _, _, ex', e10, ?_⟩
      rcases tb with ⟨z, _⟩ | ⟨T, oT, ts, z, pT, nT, eT, dT, fT⟩
      · cases z
      · exact .inr ⟨T, oT, ts, z, pT, nT, (sb.2 T (nC T oT ts eT dT)).trans eT, dT, fT⟩
    unfold PySem.passOn
    refine wpAny_bind (wpAny_field ex' rfl e10 ?_)
    rw [if_neg (show ¬ ((Value.ref T0 == Value.none) = true) from by simp)]
    refine wpAny_bind (flight_any (fr := frs X.stack) xa' (fun b o e hb => ?_) fun h2 fl2 n2 xa2 => ?_)
    · obtain ⟨_, o', ho', hn⟩ := I''.stack.mem hb
      have e' : h'.get? b = some o := e
      have ho'' : h'.get? b = some o' := ho'
      rw [e'] at ho''
      cases ho''
      exact hn
    · exact wpAny_throw (LA pins σ H' _ x cl od fl2 (I''.noted ox n2) ox xa2 q)
end
end L2

/-! zip OF TWO TUPLES (own work, on the pattern of the library's zip of two lists). -/
namespace L2
open PySem
section
variable {prog : Program} {w : World} {A : Around} {E : Value → Shared → Prop} {s : Shared}
/-- the state of a zip of the tuples t1, t2 at place k -/
structure ZT (h : Heap) (z TI TO i1 i2 t1 t2 : Addr) (k : Nat) (xs ys : Array Value) (f0 : Value) : Prop where
  zp : IsZip h z TI TO f0
  ti : IsPair h TI (.ref i1) (.ref i2)
  to : ∃ a b, IsPair h TO a b
  j1 : h.IsTupleIter i1 t1 k
  j2 : h.IsTupleIter i2 t2 k
  l1 : h.IsTuple t1 xs
  l2 : h.IsTuple t2 ys
end
abbrev zT1 (h : Heap) (l1 : Addr) : Heap := h.push { cls := .type "tuple_iterator", data := .fields #[.ref l1, .int 0 0] }
abbrev zT2 (h : Heap) (l1 l2 : Addr) : Heap := (zT1 h l1).push { cls := .type "tuple_iterator", data := .fields #[.ref l2, .int 0 0] }
abbrev zT3 (h : Heap) (l1 l2 : Addr) : Heap := (zT2 h l1 l2).push { cls := .type "tuple", data := .seq #[.ref h.objs.size, .ref (zT1 h l1).objs.size] }
abbrev zT4 (h : Heap) (l1 l2 : Addr) : Heap := (zT3 h l1 l2).push { cls := .type "tuple", data := .seq #[.none, .none] }
abbrev zT5 (h : Heap) (l1 l2 : Addr) : Heap := (zT4 h l1 l2).push { cls := .type "zip", data := .fields #[.none, .bool false, .bool false, .ref (zT2 h l1 l2).objs.size, .ref (zT3 h l1 l2).objs.size] }
end L2

/-! for (x, y) in zip(t, u), t and u tuples (own work). -/
namespace L2
open PySem PySem.Spec PyProof.Rows
section
variable {X : Cx} {pins : List (Addr × Obj)} {σ : St} {H : Hp} {s : Shared} {h' : Heap}
end
/-- the records of a zip at place k -/
structure ZM (h : Heap) (z TI TO i1 i2 a b : Addr) (k : Nat) : Prop where
  zp : IsZip h z TI TO .none
  ti : IsPair h TI (.ref i1) (.ref i2)
  to : ∃ u v, IsPair h TO u v
  j1 : h.IsTupleIter i1 a k
  j2 : h.IsTupleIter i2 b k
def ItZ (K : PySem.W.Frag) (a b : Addr) : It :=
  ⟨fun i H => ∃ xs ys x y, SqT K H a xs ∧ SqT K H b ys ∧ xs[i]? = some x ∧ ys[i]? = some y, fun i H x H' => ∃ u v p, (∀ xs ys, SqT K H a xs → SqT K H b ys → xs[i]? = some u ∧ ys[i]? = some v) ∧ x = .ref p ∧ H p = none ∧ H' = upd H p (.tup [u, v]), fun i H => ∃ xs ys, SqT K H a xs ∧ SqT K H b ys ∧ xs.length ≤ i⟩
section
variable {X : Cx}
def iZipT (K : PySem.W.Frag) (ta : TA) : TI := fun σ H R => ta σ H fun vs H1 => ∃ a b, vs = [.ref a, .ref b] ∧ (∃ xs, SqT K H1 a xs) ∧ (∃ ys, SqT K H1 b ys) ∧ R (ItZ K a b) H1
end
end L2

/-! range(n) as a value, list(range(n)); defs with defaults; defs that raise (own work). -/
namespace L2
open PySem PySem.Spec PyProof.Rows
section
variable {X : Cx}
end
/-- a def of the text, perhaps with defaults -/
structure FunX (K : PySem.W.Frag) (x qual : Str) (st : Stmt) (f : Addr) (fd : FuncData) : Prop where
  ex : ∃ (oc : Value) (od : Option Addr) (dV kV doc pm : Value) (an : Option Addr) (cdv ct : Value) (osl : Array (Option Value)),
    fd = PySem.W.fnOf x qual (defArgs st) (defBody st) (defScope st) dV kV doc pm an cdv ct ∧ K.lookup f = some ⟨oc, od, .func fd, osl⟩ ∧ PySem.W.codeIn K cdv qual = true
  kp : PySem.W.keepIn K (.ref f) = true
section
variable {P : Program} {w : World} {K : PySem.W.Frag} {mg : Str → Option Value} {base : Heap}
/-- .. that may raise -/
theorem FunX.okX {x qual : Str} {st : Stmt} {f : Addr} {fd : FuncData} {N ps : List Str} {k : Nat} {sp : Sp} (F : FunX K x qual st f fd) (S : FnScope N ps (defScope st)) (len : ∀ vs H Q E, sp vs H Q E → vs.length = ps.length)
    (hbody : ∀ (cdv : Value) (A : Around) (outer : List Env) (s : Shared) (H : Hp) (vs : List V) (Q : VK) (E : XK), Room k (A.deeper (envOfC qual (defScope st) s.heap.objs.size f cdv)) → sp vs H Q E →
      ∃ t, PSs (cxOf (CX1 P w) P w K mg base N qual (defScope st) f cdv A outer s H E) (defBody st) t ∧ t { nx := fun _ H' => Q .non H', rt := Q } (start N vs) H) : FnOk P w K mg base (CX1 P w) (k + 1) f fd ps sp := by
  obtain ⟨oc, od, dV, kV, doc, pm, an, cdv, ct, osl, rfl, lk, hcd⟩ := F.ex
  exact fn_of lk hcd S len fun A outer s H vs Q E hr hsp => hbody cdv A outer s H vs Q E hr hsp
theorem Fun.x {x qual : Str} {st : Stmt} {f : Addr} {fd : FuncData} (F : Fun K x qual st f fd) : FunX K x qual st f fd := by
  obtain ⟨oc, od, kV, doc, pm, an, cdv, ct, osl, e, lk, hcd⟩ := F.ex
  exact ⟨⟨oc, od, .none, kV, doc, pm, an, cdv, ct, osl, e, lk, hcd⟩, F.kp⟩
end
end L2

namespace L2
open PySem PySem.Spec PyProof.Rows
/-! ### isinstance by two built-in types -/
def kitTy (a b : String) : Option Bool := if (Value.type a == Value.type b) = true then some true else if PySem.W.kitMeta b = true then (fastBuiltinMro a).map (·.contains (.type b)) else none
theorem kit_eq {K : PySem.W.Frag} {a b : String} : PySem.W.kitOne K (.type a) (.type b) = kitTy a b := rfl
/-- the kinds of values that the laws hand in -/
def tyNames : List String := ["NoneType", "bool", "int", "str", "list", "tuple", "dict"]
theorem kit_int : ∀ n ∈ tyNames, kitTy n "int" = some (n == "int" || n == "bool") := by decide +kernel
theorem kit_bool : ∀ n ∈ tyNames, kitTy n "bool" = some (n == "bool") := by decide +kernel
theorem kit_str : ∀ n ∈ tyNames, kitTy n "str" = some (n == "str") := by decide +kernel
theorem kit_tuple : ∀ n ∈ tyNames, kitTy n "tuple" = some (n == "tuple") := by decide +kernel
/-- v is of the built-in type n, one of those -/
def Is (K : PySem.W.Frag) (H : Hp) (v : V) (n : String) : Prop := TyOf K H v (.type n) ∧ n ∈ tyNames
theorem Is.same {K : PySem.W.Frag} {H H' : Hp} {v : V} {n : String} (e : Same H H') (h : Is K H v n) : Is K H' v n := ⟨h.1.same e, h.2⟩
theorem Is.non {K : PySem.W.Frag} {H : Hp} : Is K H .non "NoneType" := ⟨.non, by decide⟩
theorem Is.bl {K : PySem.W.Frag} {H : Hp} {b : Bool} : Is K H (.bl b) "bool" := ⟨.bl b, by decide⟩
theorem Is.int {K : PySem.W.Frag} {H : Hp} {i : Int} : Is K H (.int i) "int" := ⟨.int i, by decide⟩
theorem Is.str {K : PySem.W.Frag} {H : Hp} {x : Str} : Is K H (.str x) "str" := ⟨.str x, by decide⟩
theorem Is.lst {K : PySem.W.Frag} {H : Hp} {a : Addr} {xs : List V} (h : H a = some (.lst xs)) : Is K H (.ref a) "list" := ⟨.lst h, by decide⟩
theorem Is.tup {K : PySem.W.Frag} {H : Hp} {a : Addr} {xs : List V} (h : H a = some (.tup xs)) : Is K H (.ref a) "tuple" := ⟨.tup h, by decide⟩
theorem Is.dK {K : PySem.W.Frag} {H : Hp} {a : Addr} {kvs : List (Key × V)} (h : H a = some (.dK kvs)) : Is K H (.ref a) "dict" := ⟨.dK h, by decide⟩
theorem Is.str_of {K : PySem.W.Frag} {H : Hp} {v : V} (h : Is K H v "str") : ∃ x, v = .str x := by
  obtain ⟨t, _⟩ := h
  generalize e : Value.type "str" = u at t
  cases t <;> first | exact ⟨_, rfl⟩ | exact absurd (Value.type.inj e) (by decide) | cases e
theorem Is.str_ty {K : PySem.W.Frag} {H : Hp} {z : Str} {n : String} (h : Is K H (.str z) n) : n = "str" := by
  obtain ⟨t, _⟩ := h
  generalize e : Value.type n = u at t
  cases t
  exact Value.type.inj e
/-! ### a def of the top -/
def DefIn (K : PySem.W.Frag) (x : Str) (st : Stmt) : Prop := ∃ (f : Addr) (oc : Value) (od : Option Addr) (kV doc pm : Value) (an : Option Addr) (cdv ct : Value) (osl : Array (Option Value)),
  PySem.W.nsIn K mainGlobals x = some (some (.ref f)) ∧ K.lookup f = some ⟨oc, od, .func (PySem.W.fnOf x x (defArgs st) (defBody st) (defScope st) .none kV doc pm an cdv ct), osl⟩ ∧ PySem.W.codeIn K cdv x = true ∧ PySem.W.keepIn K (.ref f) = true
theorem defIn_mk {K : PySem.W.Frag} {x : Str} {st : Stmt} {f : Addr} {oc : Value} {od an : Option Addr} {osl : Array (Option Value)} {kV doc pm cdv ct : Value} (a : PySem.W.nsIn K mainGlobals x = some (some (.ref f)))
    (l : K.lookup f = some ⟨oc, od, .func (PySem.W.fnOf x x (defArgs st) (defBody st) (defScope st) .none kV doc pm an cdv ct), osl⟩) (c : PySem.W.codeIn K cdv x = true) (k : PySem.W.keepIn K (.ref f) = true) : DefIn K x st :=
  ⟨f, oc, od, kV, doc, pm, an, cdv, ct, osl, a, l, c, k⟩
/-- .. as a body that calls it sees it -/
structure Df (K : PySem.W.Frag) (mg : Str → Option Value) (x : Str) (st : Stmt) (f : Addr) (fd : FuncData) : Prop where
  fn : Fun K x x st f fd
  mg : mg x = some (.ref f)
theorem DefIn.df {K : PySem.W.Frag} {h : Heap} {mg : Str → Option Value} {x : Str} {st : Stmt} (d : DefIn K x st) (X : K.In h) (G : h.Ns mainGlobals mg) : ∃ f fd, Df K mg x st f fd := by
  obtain ⟨f, oc, od, kV, doc, pm, an, cdv, ct, osl, a, l, c, k⟩ := d
  exact ⟨f, _, fun_mk l c k, PySem.W.mg_of X G a⟩
end L2

namespace PySem.SeqAt
open MeetsSeq
open AutoSeq1 (wpAny_loadPart')
/-! ### a dict and a text are never equal -/
theorem dict_eq_declines_str (l : Addr) (es : Array DictEntry) (ep : Nat) (dd : Option Addr) (sl : Array (Option Value)) (b : Str) (u : Tok) :
    Meets (Builtin.«dict.__eq__» ⟨[.ref l, .str b u], []⟩) (fun _ R s => s.heap.get? l = some { cls := .type "dict", dict := dd, data := .dict es ep, slots := sl } ∧ R (.ok (.ret .notImplemented)) s) :=
  .of_wp fun prog w A R s h => by obtain ⟨hp, g, d, tk, os⟩ := s; obtain ⟨hl, h⟩ := h; have f1 := F.sub_str_dict; wp_walk using wpAny_loadPart' hl; exact ⟨_, rfl, h⟩
theorem str_eq_declines_dict (b : Str) (u : Tok) (l : Addr) (c : Value) (es : Array DictEntry) (ep : Nat) (dd : Option Addr) (sl : Array (Option Value)) :
    Meets (Builtin.«str.__eq__» ⟨[.str b u, .ref l], []⟩) (fun _ R s => s.heap.get? l = some { cls := c, dict := dd, data := .dict es ep, slots := sl } ∧ R (.ok (.ret .notImplemented)) s) :=
  .of_wp fun prog w A R s h => by obtain ⟨hp, g, d, tk, os⟩ := s; obtain ⟨hl, h⟩ := h; wp_walk using wpAny_loadPart' hl, wpAny_load hl; exact ⟨_, rfl, h⟩
section
variable {A : Around} {s : Shared}
theorem EqAt.str_dict {l : Addr} {o : Obj} {es : Array DictEntry} {ep : Nat} (b : Str) (u : Tok) (ho : s.heap.get? l = some o) (hc : o.cls = .type "dict") (hd : o.data = .dict es ep) (hu : A.units < cLine) : EqAt A s (.str b u) (.ref l) false := fun prog w E Q h => by
  obtain ⟨cls, dd, data, sl⟩ := o
  simp only at hc hd
  subst hc hd
  unfold eqBool
  refine wpAny_holding ?_
  refine wpAny_ite_split (fun hab => absurd (eq_of_beq hab) nofun) (fun _ => ?_)
  refine wpAny_bind (rc_eq_decline_or (k := false) (typeIs_str s b u) ⟨_, ho, rfl⟩ (by decide) F.sub_dict_str F.slot_str_eq F.slot_dict_eq_refl
    (fun _ hq => call_meets F.slot_str_eq (typeIs_str s b u) F.entry_str_eq (F.args_str_eq_2 _ _) (str_eq_declines_dict b u l (.type "dict") es ep dd sl) ⟨ho, hq⟩)
    (fun _ hq => call_meets F.slot_dict_eq_refl ⟨_, ho, rfl⟩ F.entry_dict_eq (F.args_dict_eq_2 _ _) (dict_eq_declines_str l es ep dd sl b u) ⟨ho, hq⟩)
    (fun _ hq => wpAny_of_eq (rfl : isSame (.str b u) (.ref l) = pure false) hq) (.inr hu) (wpAny_truthy_bool h))
end
end PySem.SeqAt

namespace L2
open PySem PySem.Spec PyProof.Rows
/-! ### things, without the heap -/
inductive Dt where
  | non | bl (b : Bool) | int (i : Int) | str (z : Str) | tup (ds : List Dt) | lst (ds : List Dt) | dct
mutual
/-- the value v is the thing d -/
def Rep (H : Hp) : Dt → V → Prop
  | .non, v => v = .non
  | .bl b, v => v = .bl b
  | .int i, v => v = .int i
  | .str z, v => v = .str z ∧ z.length ≤ 1000
  | .tup ds, v => ∃ a xs, v = .ref a ∧ H a = some (.tup xs) ∧ Reps H ds xs
  | .lst ds, v => ∃ a xs, v = .ref a ∧ H a = some (.lst xs) ∧ Reps H ds xs
  | .dct, v => ∃ a kvs, v = .ref a ∧ H a = some (.dK kvs)
def Reps (H : Hp) : List Dt → List V → Prop
  | [], xs => xs = []
  | d :: ds, xs => ∃ v vs, xs = v :: vs ∧ Rep H d v ∧ Reps H ds vs
end
mutual
theorem Rep.same {H H' : Hp} (e : Same H H') : ∀ {d : Dt} {v : V}, Rep H d v → Rep H' d v
  | .non, v, h => by unfold Rep at h ⊢; exact h
  | .bl b, v, h => by unfold Rep at h ⊢; exact h
  | .int i, v, h => by unfold Rep at h ⊢; exact h
  | .str z, v, h => by unfold Rep at h ⊢; exact h
  | .tup ds, v, h => by
    unfold Rep at h ⊢
    obtain ⟨a, xs, h1, h2, h3⟩ := h
    exact ⟨a, xs, h1, e _ _ h2, Reps.same e h3⟩
  | .lst ds, v, h => by
    unfold Rep at h ⊢
    obtain ⟨a, xs, h1, h2, h3⟩ := h
    exact ⟨a, xs, h1, e _ _ h2, Reps.same e h3⟩
  | .dct, v, h => by
    unfold Rep at h ⊢
    obtain ⟨a, xs, h1, h2⟩ := h
    exact ⟨a, xs, h1, e _ _ h2⟩
theorem Reps.same {H H' : Hp} (e : Same H H') : ∀ {ds : List Dt} {vs : List V}, Reps H ds vs → Reps H' ds vs
  | [], vs, h => by unfold Reps at h ⊢; exact h
  | d :: ds, vs, h => by
    unfold Reps at h ⊢
    obtain ⟨v, ws, h1, h2, h3⟩ := h
    exact ⟨v, ws, h1, Rep.same e h2, Reps.same e h3⟩
end
def tyD : Dt → String
  | .non => "NoneType" | .bl _ => "bool" | .int _ => "int" | .str _ => "str" | .tup _ => "tuple" | .lst _ => "list" | .dct => "dict"
theorem Rep.is {K : PySem.W.Frag} {H : Hp} : ∀ {d : Dt} {v : V}, Rep H d v → Is K H v (tyD d)
  | .non, v, h => by unfold Rep at h; subst h; exact .non
  | .bl b, v, h => by unfold Rep at h; subst h; exact .bl
  | .int i, v, h => by unfold Rep at h; subst h; exact .int
  | .str z, v, h => by unfold Rep at h; obtain ⟨rfl, _⟩ := h; exact .str
  | .tup ds, v, h => by unfold Rep at h; obtain ⟨a, xs, rfl, h2, _⟩ := h; exact .tup h2
  | .lst ds, v, h => by unfold Rep at h; obtain ⟨a, xs, rfl, h2, _⟩ := h; exact .lst h2
  | .dct, v, h => by unfold Rep at h; obtain ⟨a, xs, rfl, h2⟩ := h; exact .dK h2
theorem rep_str {H : Hp} {z : Str} (h : z.length ≤ 1000) : Rep H (.str z) (.str z) := by unfold Rep; exact ⟨rfl, h⟩
/-- the thing is this text -/
def strIs : Dt → Str → Bool
  | .str y, z => y == z
  | _, _ => false
section
variable {X : Cx} {pins : List (Addr × Obj)} {σ : St} {H : Hp} {s : Shared}
theorem eqAt_D {A : Around} {d : Dt} {x : V} {v : Value} (hu : A.units < cLine) (I : Inv X pins σ H s) (hd : Rep H d x) (rx : RelV x v) (z : Str) (t : Tok) : SeqAt.EqAt A s (.str z t) v (strIs d z) := by
  cases d with
  | non =>
    unfold Rep at hd
    subst hd
    cases rx
    exact SeqAt.EqAt.str_none z t
  | bl b =>
    unfold Rep at hd
    subst hd
    cases rx
    exact SeqAt.EqAt.str_bool z t b
  | int i =>
    unfold Rep at hd
    subst hd
    obtain ⟨t', rfl⟩ := rx
    exact SeqAt.EqAt.str_int z t i t'
  | str y =>
    unfold Rep at hd
    obtain ⟨rfl, _⟩ := hd
    obtain ⟨t', rfl⟩ := rx
    have e : strIs (.str y) z = (z == y) := by
      show (y == z) = (z == y)
      rw [Bool.eq_iff_iff, beq_iff_eq, beq_iff_eq]
      exact ⟨Eq.symm, Eq.symm⟩
    rw [e]
    exact SeqAt.EqAt.str_str z t y t'
  | tup ds =>
    unfold Rep at hd
    obtain ⟨a, xs, rfl, ha, _⟩ := hd
    cases rx
    obtain ⟨its, _, p, _⟩ := I.tuple (SqT.of ha)
    exact SeqAt.EqAt.str_tuple z t p hu
  | lst ds =>
    unfold Rep at hd
    obtain ⟨a, xs, rfl, ha, _⟩ := hd
    cases rx
    obtain ⟨its, _, p, _⟩ := I.list (SqL.of ha)
    exact SeqAt.EqAt.str_list z t p.isList hu
  | dct =>
    unfold Rep at hd
    obtain ⟨a, kvs, rfl, ha⟩ := hd
    cases rx
    obtain ⟨_, _, vs, _, o, es, ep, h1, h2, h3, _⟩ := dk_of I.hok ha
    exact SeqAt.EqAt.str_dict z t h1 h2.1 h3 hu
/-- what of the values of texts is this thing -/
def strU (d : Dt) : Value → Bool
  | .str z _ => strIs d z
  | _ => false
theorem any_strU {d : Dt} : ∀ {zs : List Str} {us : List Value}, Vals (zs.map V.str) us → us.any (strU d) = zs.any (strIs d)
  | [], _, r => by rw [List.map_nil] at r; cases r; rfl
  | z :: zs, _, r => by
    rw [List.map_cons] at r
    cases r with
    | cons h t =>
      obtain ⟨t', rfl⟩ := h
      rw [List.any_cons, List.any_cons, any_strU t]
      rfl
theorem mem_strU {zs : List Str} {us : List Value} (r : Vals (zs.map V.str) us) : ∀ u ∈ us, ∃ z t, u = .str z t := by
  intro u hu
  obtain ⟨i, hi, e⟩ := List.getElem_of_mem hu
  have hl := r.length
  have : (zs.map V.str)[i]? = some (.str (zs[i]'(by rw [List.length_map] at hl; omega))) := by
    rw [List.getElem?_map, List.getElem?_eq_getElem (by rw [List.length_map] at hl; omega)]
    rfl
  obtain ⟨w, hw, rw'⟩ := r.get this
  rw [List.getElem?_eq_getElem hi, e] at hw
  cases hw
  obtain ⟨t, rfl⟩ := rw'
  exact ⟨_, t, rfl⟩
/-- any thing in a tuple of texts -/
theorem op_inD (hu : X.A.units + 1 < cLine) : OpR X (compareOp .In) (fun x y H Q => ∃ (d : Dt) (p : Addr) (zs : List Str), Rep H d x ∧ y = .ref p ∧ H p = some (.tup (zs.map V.str)) ∧ Q (.bl (zs.any (strIs d))) H) := by
  intro pins s σ H x y v u Q I rx ry h
  obtain ⟨d, p, zs, hd, rfl, hp, q⟩ := h
  cases ry
  obtain ⟨its, r, pl, _⟩ := I.tuple (SqT.of hp)
  refine SeqAt.in_tupleAt (strU d) pl (fun w' hw => ?_) ⟨.bl _, H, I, rfl, ?_⟩
  · obtain ⟨z, t, rfl⟩ := mem_strU r w' (by simpa using hw)
    exact eqAt_D (A := X.A.in1) hu I hd rx z t
  · rw [show its.toArray.any (strU d) = its.any (strU d) by simp, any_strU r]
    exact q
/-- x <= y of texts -/
theorem op_le_str : OpR X (compareOp .LtE) (fun x y H Q => ∃ i j, x = .str i ∧ y = .str j ∧ Q (.bl (!decide (j.cps.toList < i.cps.toList))) H) := by
  intro pins s σ H x y v u Q I rx ry h
  obtain ⟨i, j, rfl, rfl, q⟩ := h
  obtain ⟨t, rfl⟩ := rx
  obtain ⟨t', rfl⟩ := ry
  exact PySem.P.le_str ⟨.bl _, H, I, rfl, q⟩
end
end L2

namespace My
open PySem L2 PyProof.Rows
theorem pos {j : Int} (h : decide ((0 : Int) < j) = true) : 0 < j := of_decide_eq_true h
/-! ### the law's cells -/
def cellF (ns : List Int) (k : Int) : Int :=
  if k < ns.length then ns.getD k.toNat 0 else (k * 7919 + 5 + (if 0 < ns.length then ns.getD (k % ns.length).toNat 0 % 2147483647 * 48271 else 0)) % 2147483647
def spCell (K : PySem.W.Frag) : Sp := fun vs H Q _ => ∃ (a : Addr) (ns : List Int) (k : Int), vs = [.ref a, .int k] ∧ SqL K H a (ns.map V.int) ∧ 0 ≤ k ∧ k ≤ 1000000 ∧ ns.length ≤ 63 ∧ Q (.int (cellF ns k)) H
def spTold : Sp := fun vs H Q _ => ∃ (f d : Bool), vs = [.bl f, .bl d] ∧ Q (.bl (decide (f = d))) H
def spWhole (K : PySem.W.Frag) : Sp := fun vs H Q _ => ∃ (v : V) (n : String), vs = [v] ∧ Is K H v n ∧ Q (.bl (n == "int")) H
theorem item_ints {ns : List Int} {k : Int} (h0 : 0 ≤ k) (h1 : k < ns.length) : atI (ns.map V.int) k = some (.int (ns.getD k.toNat 0)) := by
  obtain ⟨j, rfl⟩ := Int.eq_ofNat_of_zero_le h0
  refine atI_nat ?_
  have hj : j < ns.length := by omega
  rw [List.getElem?_map, List.getElem?_eq_getElem hj]
  simp [List.getD_eq_getElem?_getD, List.getElem?_eq_getElem hj]

theorem boot_isi : bootBuiltins "isinstance" = some (.builtin "isinstance") := by decide +kernel
theorem boot_int : bootBuiltins "int" = some (.type "int") := by decide +kernel
theorem boot_bool : bootBuiltins "bool" = some (.type "bool") := by decide +kernel
theorem boot_str : bootBuiltins "str" = some (.type "str") := by decide +kernel
theorem boot_tuple : bootBuiltins "tuple" = some (.type "tuple") := by decide +kernel
theorem boot_abs : bootBuiltins "abs" = some (.builtin "abs") := by decide +kernel
theorem boot_ord : bootBuiltins "ord" = some (.builtin "ord") := by decide +kernel
/-- the built-ins are not the text's own -/
structure Bl (mg : Str → Option Value) : Prop where
  len : mg "len" = none
  isi : mg "isinstance" = none
  int : mg "int" = none
  bool : mg "bool" = none
  str : mg "str" = none
  all : mg "all" = none
  range : mg "range" = none
  abs : mg "abs" = none
  ord : mg "ord" = none
  list : mg "list" = none
  tuple : mg "tuple" = none
  dict : mg "dict" = none
  any : mg "any" = none
  sorted : mg "sorted" = none
  set : mg "set" = none
  enum : mg "enumerate" = none

/-- .. as the top has left them -/
structure BlK (K : PySem.W.Frag) : Prop where
  len : PySem.W.nsIn K mainGlobals "len" = some none
  isi : PySem.W.nsIn K mainGlobals "isinstance" = some none
  int : PySem.W.nsIn K mainGlobals "int" = some none
  bool : PySem.W.nsIn K mainGlobals "bool" = some none
  str : PySem.W.nsIn K mainGlobals "str" = some none
  all : PySem.W.nsIn K mainGlobals "all" = some none
  range : PySem.W.nsIn K mainGlobals "range" = some none
  abs : PySem.W.nsIn K mainGlobals "abs" = some none
  ord : PySem.W.nsIn K mainGlobals "ord" = some none
  list : PySem.W.nsIn K mainGlobals "list" = some none
  tuple : PySem.W.nsIn K mainGlobals "tuple" = some none
  dict : PySem.W.nsIn K mainGlobals "dict" = some none
  any : PySem.W.nsIn K mainGlobals "any" = some none
  sorted : PySem.W.nsIn K mainGlobals "sorted" = some none
  set : PySem.W.nsIn K mainGlobals "set" = some none
  enum : PySem.W.nsIn K mainGlobals "enumerate" = some none

theorem BlK.bl {K : PySem.W.Frag} {h : Heap} {mg : Str → Option Value} (b : BlK K) (X : K.In h) (G : h.Ns mainGlobals mg) : Bl mg :=
  ⟨PySem.W.mg_none_of X G b.len, PySem.W.mg_none_of X G b.isi, PySem.W.mg_none_of X G b.int, PySem.W.mg_none_of X G b.bool, PySem.W.mg_none_of X G b.str, PySem.W.mg_none_of X G b.all, PySem.W.mg_none_of X G b.range, PySem.W.mg_none_of X G b.abs, PySem.W.mg_none_of X G b.ord, PySem.W.mg_none_of X G b.list, PySem.W.mg_none_of X G b.tuple, PySem.W.mg_none_of X G b.dict, PySem.W.mg_none_of X G b.any, PySem.W.mg_none_of X G b.sorted, PySem.W.mg_none_of X G b.set, PySem.W.mg_none_of X G b.enum⟩
/-- an item of a list at a place within it -/
theorem at_mem {l : List V} {i : Int} (h0 : 0 ≤ i) (h1 : i < l.length) : ∃ v, atI l i = some v ∧ v ∈ l := by
  obtain ⟨j, rfl⟩ := Int.eq_ofNat_of_zero_le h0
  have hj : j < l.length := by omega
  exact ⟨l[j], atI_nat (List.getElem?_eq_getElem hj), List.getElem_mem hj⟩
theorem atN_mem {l : List Nat} {i : Int} (h0 : 0 ≤ i) (h1 : i < l.length) : ∃ c, atI l i = some c ∧ c ∈ l := by
  obtain ⟨j, rfl⟩ := Int.eq_ofNat_of_zero_le h0
  have hj : j < l.length := by omega
  exact ⟨l[j], atI_nat (List.getElem?_eq_getElem hj), List.getElem_mem hj⟩
theorem iteB {b : Bool} {A B : Prop} (h : b = true) (a : A) : if b = true then A else B := by rw [if_pos h]; exact a
theorem iteC {b : Bool} {A B : Prop} (h : b = false) (a : B) : if b = true then A else B := by rw [h, if_neg Bool.false_ne_true]; exact a
theorem lenEq {n k : Nat} : decide (V.int (n : Int) = V.int (k : Int)) = decide (n = k) := by
  rw [Bool.eq_iff_iff, decide_eq_true_iff, decide_eq_true_iff]
  constructor
  · intro e; injection e with e; omega
  · intro e; rw [e]
def spLaw (K : PySem.W.Frag) : Sp := fun vs H Q _ => ∃ (a : Addr) (ns : List Int), vs = [.ref a] ∧ SqL K H a (ns.map V.int) ∧ ns.length ≤ 63 ∧ ∀ H', Q (.bl true) H'
theorem walk (k : Nat) {l : PySem.W.OpenLaw} {q : Program} {loose : List Str} {XP : (Str → Option Value) → Heap → Prop} {YP : World → Heap → Prop} {d : DefRec} {K : Params → PySem.W.Frag} (hk : Room k callerA) (hn : l.most = some 63) (hdf : d.params.defaults = [])
    (hY : ∀ (w : World) (h : Heap), YP w h → (K w.params).In h)
    (F : ∀ (w : World) (mg : Str → Option Value) (fa : Addr) (h : Heap), (K w.params).In h → h.Ns mainGlobals mg → mg d.name = some (.ref fa) →
      ∃ fd : FuncData, (∀ (s : Shared) (u : Value), BindsTo s fd ⟨[u], []⟩ [("_law_script", u)]) ∧ ∀ base : Heap, (K w.params).In base → base.Ns mainGlobals mg → FnOk l.prog w (K w.params) mg base CX0 k fa fd ["_law_script"] (spLaw (K w.params))) :
    PySem.W.WalkO q loose XP YP l.row.toRowW d [] (fun f vs => PySem.call f vs) :=
  L2.walk_of (n := 63) (k := k) (x := "_law_script") (CX := fun _ => CX0) (sp := fun w => spLaw (K w.params)) hn (by decide) hdf hk hY F (fun _ _ a ns hl _ hS => ⟨a, ns, rfl, hS, hl, fun _ => rfl⟩) fun _ _ _ _ _ z => z
end My

namespace L2
open PySem PySem.Spec PyProof.Rows
theorem strsOf : ∀ {zs : List Str} {us : List Value}, Vals (zs.map V.str) us → StrsAre us zs
  | [], _, .nil => .nil
  | z :: _, _, .cons r1 r2 => by
    obtain ⟨t, rfl⟩ := r1
    exact .cons z t (strsOf r2)
section
variable {X : Cx}
/-- x.find(y) -/
theorem mt_find : MtR X "str.find" (fun x xs H Q => ∃ (z y : Str), x = .str z ∧ xs = [.str y] ∧ Q (.int (Txt.find z y)) H) := by
  intro pins s σ H x xs v us Q I rx r h
  obtain ⟨z, y, rfl, rfl, q⟩ := h
  obtain ⟨t, rfl⟩ := rx
  obtain ⟨u, rfl, t', rfl⟩ := vals1 r
  exact call_gives F.slot_str_find (typeIs_str _ _ _) F.entry_str_find (F.args_str_find_2 _ _) (gives_str_find z y t t') ⟨.int (Txt.find z y), H, I.tok _, ⟨_, rfl⟩, q⟩
/-- x.startswith(y) -/
theorem mt_startswith : MtR X "str.startswith" (fun x xs H Q => ∃ (z y : Str), x = .str z ∧ xs = [.str y] ∧ Q (.bl (Txt.startswith z y)) H) := by
  intro pins s σ H x xs v us Q I rx r h
  obtain ⟨z, y, rfl, rfl, q⟩ := h
  obtain ⟨t, rfl⟩ := rx
  obtain ⟨u, rfl, t', rfl⟩ := vals1 r
  exact call_gives F.slot_str_startswith (typeIs_str _ _ _) F.entry_str_startswith (F.args_str_startswith_2 _ _) (gives_str_startswith z y t t') ⟨.bl (Txt.startswith z y), H, I, rfl, q⟩
/-- sep.join(a list of texts) -/
theorem mt_joinL : MtR X "str.join" (fun x xs H Q => ∃ (z : Str) (p : Addr) (ys : List Str), x = .str z ∧ xs = [.ref p] ∧ SqL X.K H p (ys.map V.str) ∧ (ys.map (·.length)).sum + ys.length * z.length ≤ 16777216 ∧ Q (.str (Txt.join z ys)) H) := by
  intro pins s σ H x xs v us Q I rx r h
  obtain ⟨z, p, ys, rfl, rfl, hp, hz, q⟩ := h
  obtain ⟨t, rfl⟩ := rx
  obtain ⟨u, rfl, r1⟩ := vals1 r
  cases r1
  obtain ⟨its, r', pl, _⟩ := I.list hp
  exact join_list pl.isList (by simpa using strsOf r') hz fun t' k => ⟨.str (Txt.join z ys), H, I.tok _, ⟨_, rfl⟩, q⟩
/-- int(text) -/
theorem call_intX : CallR X (.type "int") (fun xs H Q => ∃ (x : Str) (n : Int), xs = [.str x] ∧ PySem.intText? x = some n ∧ x.length ≤ 640 ∧ Q (.int n) H) := by
  intro pins s σ H xs us Q I r h
  obtain ⟨x, n, rfl, hn, hl, q⟩ := h
  obtain ⟨u, rfl, t, rfl⟩ := vals1 r
  exact PySem.W.KIN.call_text hn hl ⟨.int n, H, I.tok _, ⟨_, rfl⟩, q⟩
/-- text * n, n from 2 on -/
theorem op_mulSI : OpR X (binaryOp .Mult) (fun x y H Q => ∃ (z : Str) (n : Nat), x = .str z ∧ y = .int n ∧ 1 < n ∧ n < 1000 ∧ 0 < z.length ∧ z.length ≤ 10000 ∧ Q (.str ⟨(List.replicate n z.cps).foldl (· ++ ·) #[]⟩) H) := by
  intro pins s σ H x y v u Q I rx ry h
  obtain ⟨z, n, rfl, rfl, h1, h2, h3, h4, q⟩ := h
  obtain ⟨t, rfl⟩ := rx
  obtain ⟨t', rfl⟩ := ry
  have e1 : ¬ ((n : Int) < 1) := by omega
  have e2 : ((n : Int) == 1 || z.length == 0) = false := by
    rw [Bool.or_eq_false_iff, beq_eq_false_iff_ne, beq_eq_false_iff_ne]
    exact ⟨by omega, by omega⟩
  have hT : Builtin.Str.tooLong (z.length * (n : Int).toNat) = false := by
    have hm : z.length * (n : Int).toNat ≤ 10000 * 1000 := Nat.mul_le_mul h4 (by omega)
    have hs : sizeLine = 16777216 := sizeLine_eq
    unfold PySem.Builtin.Str.tooLong
    exact decide_eq_false (by omega)
  refine P.mul_str (by rw [decide_eq_false (by omega), decide_eq_false (by omega)]; rfl) (fun _ _ => ?_) (fun _ _ => ?_) ?_
  · have : (1000 : Int) ≤ (2 ^ 63 - 1) / (n : Int) / 10 := by
      rw [Int.ediv_ediv_of_nonneg (by omega)]
      apply Int.le_ediv_of_mul_le (by omega)
      omega
    omega
  · exact hT
  · rw [if_neg e1, if_neg (by rw [e2]; decide)]
    refine ⟨fits_reps ?_, .str _, H, I.tok _, ⟨_, rfl⟩, q⟩
    exact hT
end
end L2

namespace Nm
open PySem PySem.NumText PySem.W PyProof.Rows
/-- the figures of a number -/
def figs (m : Nat) : List Nat := (Nat.toDigits 10 m).map Char.toNat
/-- a number as it is written -/
def tx (i : Int) : Str := Str.ofString (toString i)
theorem figs_digits (m : Nat) : AllDigits (figs m) := by
  intro c hc
  obtain ⟨ch, hch, rfl⟩ := List.mem_map.mp hc
  exact PyProof.Rows.digit_range (Nat.isDigit_of_mem_toDigits (by decide) (by decide) hch)
theorem figs_ne (m : Nat) : figs m ≠ [] := by
  intro e
  exact Nat.toDigits_ne_nil (List.map_eq_nil_iff.mp e)
theorem figs_len {m k : Nat} (hk : 0 < k) : (figs m).length ≤ k ↔ m < 10 ^ k := by
  rw [figs, List.length_map]
  exact Nat.length_toDigits_le_iff (by decide) hk
theorem figs_val (m : Nat) : digitsVal (figs m) = m := KIN.val_back m
theorem tx_nat (m : Nat) : (tx (m : Int)).cps.toList = figs m := KIN.signs_num m
theorem tx_neg (m : Nat) : (tx (-((m + 1 : Nat) : Int))).cps.toList = 45 :: figs (m + 1) := by
  rw [tx, signs_ofString]
  show ("-" ++ Nat.repr (m + 1)).toList.map Char.toNat = _
  rw [String.toList_append, List.map_append, Nat.toList_repr]
  rfl
theorem tx_cases (i : Int) : (∃ m : Nat, i = m ∧ (tx i).cps.toList = figs m) ∨ ∃ m : Nat, 0 < m ∧ i = -(m : Int) ∧ (tx i).cps.toList = 45 :: figs m := by
  rcases Int.lt_or_le i 0 with h | h
  · refine .inr ⟨i.natAbs, by omega, by omega, ?_⟩
    obtain ⟨m, hm⟩ : ∃ m, i.natAbs = m + 1 := ⟨i.natAbs - 1, by omega⟩
    have e : i = -((m + 1 : Nat) : Int) := by omega
    rw [hm, e]
    exact tx_neg m
  · refine .inl ⟨i.natAbs, by omega, ?_⟩
    have e : i = (i.natAbs : Int) := by omega
    conv => lhs; rw [e]
    exact tx_nat _
/-- no noughts ahead -/
theorem figs_head {m : Nat} {cs : List Nat} (h : figs m = 48 :: cs) : cs = [] ∧ m = 0 := by
  have hd := figs_digits m
  have hv := figs_val m
  have e := toDigits_all (figs m) hd
  rw [hv, h, List.dropWhile_cons, if_pos (by decide)] at e
  have hl : (figs m).length = cs.length + 1 := by rw [h]; rfl
  rw [figs, List.length_map] at hl
  have hs := (List.dropWhile_sublist (l := cs) (p := (· == 48))).length_le
  cases hq : cs.dropWhile (· == 48) with
  | nil =>
    rw [hq] at e
    rw [e] at hl
    have : cs = [] := List.length_eq_zero_iff.mp (by have hl' : 1 = cs.length + 1 := hl; omega)
    subst this
    exact ⟨rfl, by rw [← hv, h]; rfl⟩
  | cons c r =>
    rw [hq] at e hs
    rw [e] at hl
    simp at hl hs
    omega
end Nm

/-! TOKENS (own work): rules that know that the count of tokens has reached n, and calls that show the value itself. -/
namespace L2
open PySem PySem.Spec PyProof.Rows

theorem thnk {α : Type} {t : Sem α} {Q Q' : α → Shared → Prop} {M : Model} {A : Around} {E : Value → Shared → Prop} {s : Shared} {n : Nat} (hn : n ≤ s.toks) (h : wpAny M A t Q E s) (hQ : ∀ a s', n ≤ s'.toks → Q a s' → Q' a s') : wpAny M A t Q' E s :=
  wpAny_mono (wpAny_toks_of hn h) (fun a s' x => hQ a s' x.1 x.2) fun _ _ x => x.2

def PEk (n : Nat) (X : Cx) (e : Expr) (t : TE) : Prop :=
  ∀ (pins : List (Addr × Obj)) (s : Shared) (σ : St) (H : Hp) (Q : VK), n ≤ s.toks → Inv X pins σ H s → t σ H Q → wpAny (model X.prog X.w) X.A (eval e X.env) (EP X pins σ Q) X.xe s
def PSk (n : Nat) (X : Cx) (st : Stmt) (t : TS) : Prop :=
  ∀ (pins : List (Addr × Obj)) (s : Shared) (σ : St) (H : Hp) (D : Ends), n ≤ s.toks → Inv X pins σ H s → t D σ H → wpAny (model X.prog X.w) X.A (exec st X.env) (SP X pins D) X.xe s
def PSsk (n : Nat) (X : Cx) (st : List Stmt) (t : TS) : Prop :=
  ∀ (pins : List (Addr × Obj)) (s : Shared) (σ : St) (H : Hp) (D : Ends), n ≤ s.toks → Inv X pins σ H s → t D σ H → wpAny (model X.prog X.w) X.A (execs st X.env) (SP X pins D) X.xe s
section
variable {n : Nat} {X : Cx} {st : Stmt} {rest : List Stmt} {t u : TS} {e a b : Expr} {te ta tb : TE} {pos : Pos}
theorem PS.k (h : PS X st t) : PSk n X st t := fun pins s σ H Q _ I q => h pins s σ H Q I q
theorem PSs.k (h : PSs X rest t) : PSsk n X rest t := fun pins s σ H Q _ I q => h pins s σ H Q I q
theorem pssk_cons (h1 : PSk n X st t) (h2 : PSsk n X rest u) : PSsk n X (st :: rest) (tSeq t u) := by
  intro pins s σ H D hn I h
  refine wpAny_execs_cons (thnk hn (h1 pins s σ H { D with nx := u D } hn I h) fun f s1 hn1 q => ?_)
  cases f with
  | next =>
    obtain ⟨σ', H', I', q⟩ := q
    exact h2 pins s1 σ' H' D hn1 I' q
  | ret v => exact q
  | brk => exact q
  | cont => exact q
theorem pssk_one (h1 : PSk n X st t) : PSsk n X [st] t := by
  intro pins s σ H D hn I h
  refine wpAny_execs_cons (thn (h1 pins s σ H D hn I h) fun f s1 q => ?_)
  cases f with
  | next => exact wpAny_execs_nil q
  | ret v => exact q
  | brk => exact q
  | cont => exact q
theorem psk_if {c : Expr} {xs ys : List Stmt} {tc : TT} (hc : PT X c tc) (ha : PSsk n X xs t) (hb : PSsk n X ys u) : PSk n X (.If c xs ys pos) (tIfS tc t u) := by
  intro pins s σ H D hn I h
  refine wpAny_If (thnk hn (hc pins s σ H _ I h) fun d s1 hn1 ⟨H1, I1, q1⟩ => ?_)
  cases d with
  | true => exact ha pins s1 σ H1 D hn1 I1 q1
  | false => exact hb pins s1 σ H1 D hn1 I1 q1
theorem psk_set {i : Nat} {x : Str} {pos' : Pos} (hN : X.N.Nodup) (hi : X.N[i]? = some x) (hx : Loc X.env.scope x) (he : PEk n X e te) (hs : swapsWith e (some (.Name x pos')) pos.line X.env = pure false := by rfl) (hf : X.fn x = true ∨ X.env.scope.names.lookup x = some .local := by first | exact .inl rfl | exact .inr rfl | assumption) :
    PSk n X (.Assign [.Name x pos'] e pos) (tAsg te (gName i)) := by
  intro pins s σ H D hn I h
  refine wpAny_Assign_Name (thn (he pins s σ H _ hn I h) fun v s1 ⟨y, H1, I1, r1, q1⟩ => ?_) hs
  exact store_ok I1 hN hi hx r1 (fun s2 I2 => ⟨_, H1, I2, q1⟩) hf
end

/-! ### defs -/
/-- what is wanted behind a call: the value, the count of tokens, the value as it is seen, the heap -/
abbrev WK := Value → Nat → V → Hp → Prop
abbrev SpW := List V → Hp → WK → Prop
def CRW (outer : List Env) (P : Program) (w : World) (H : Hp) (s : Shared) (Q : WK) (r : Result) (s' : Shared) : Prop :=
  match r with
  | .ok (.ret u) => ∃ v H', s'.os = s.os ∧ AllBare s'.gens ∧ Un (frs outer) [] H H' s.heap s'.heap ∧ HOk P w H' s'.heap ∧ RelV v u ∧ Q u s'.toks v H'
  | _ => False
structure FnOkW (n : Nat) (P : Program) (w : World) (K : PySem.W.Frag) (mg : Str → Option Value) (base : Heap) (k : Nat) (f : Addr) (fd : FuncData) (ps : List Str) (sp : SpW) : Prop where
  len : ∀ vs H Q, sp vs H Q → vs.length = ps.length
  run : ∀ (A : Around) (outer : List Env) (s : Shared) (H : Hp) (args : Args) (us : List Value) (vs : List V) (Q : WK), n ≤ s.toks → Room k A → Env0 P w K mg base A outer s H → BindsTo s fd args (ps.zip us) → Vals vs us → sp vs H Q →
    codeAny (model P w) A (.call (.ref f) args) (CRW outer P w H s Q) s
/-- what is wanted behind a body -/
def SPW (X : Cx) (pins : List (Addr × Obj)) (Q : WK) (f : Flow) (s' : Shared) : Prop :=
  match f with
  | .ret u => ∃ v σ' H', Inv X pins σ' H' s' ∧ RelV v u ∧ Q u s'.toks v H'
  | _ => False
section
variable {P : Program} {w : World} {K : PySem.W.Frag} {mg : Str → Option Value} {base : Heap}
theorem Fun.okW {x qual : Str} {st : Stmt} {f : Addr} {fd : FuncData} {N ps : List Str} {n k : Nat} {sp : SpW} (F : Fun K x qual st f fd) (S : FnScope N ps (defScope st)) (len : ∀ vs H Q, sp vs H Q → vs.length = ps.length)
    (hbody : ∀ (cdv : Value) (A : Around) (outer : List Env) (s : Shared) (H : Hp) (vs : List V) (Q : WK) (s1 : Shared), Room k (A.deeper (envOfC qual (defScope st) s.heap.objs.size f cdv)) → sp vs H Q → n ≤ s1.toks →
      Inv (cxOf CX0 P w K mg base N qual (defScope st) f cdv A outer s H (fun _ _ _ => False)).nox [] (start N vs) H s1 →
      wpAny (model P w) (A.deeper (envOfC qual (defScope st) s.heap.objs.size f cdv)) (execs (defBody st) (envOfC qual (defScope st) s.heap.objs.size f cdv)) (SPW (cxOf CX0 P w K mg base N qual (defScope st) f cdv A outer s H (fun _ _ _ => False)).nox [] Q) (fun _ _ => False) s1) :
    FnOkW n P w K mg base (k + 1) f fd ps sp := by
  obtain ⟨oc, od, kV, doc, pm, an, cdv, ct, osl, rfl, lk, hcd⟩ := F.ex
  refine ⟨len, fun A outer s H args us vs Q hn hr e0 hb r hsp => ?_⟩
  have hl := len _ _ _ hsp
  have KX : K.In s.heap := e0.mod.kin.keeps fun b o e => (e0.bs b o e).1
  have lim : s.heap.NoLimit := e0.mod.nolimit.keeps fun b o e => (e0.bs b o e).1
  have hkind : ∀ y ∈ ps.zip us, (defScope st).names.lookup y.1 = some .local ∨ ((defScope st).names.lookup y.1 = some .cell ∧ ((cellsFrom (s.heap.objs.size + 1) (defScope st).names []).lookup y.1).isSome = true) := fun ⟨n, v⟩ hy => by
    rcases S.par n (List.of_mem_zip hy).1 with q | q
    · exact .inl q
    · exact .inr ⟨q, PySem.W.cellsFrom_some _ _ _ (.inl q)⟩
  refine codeAny_call_function hr.depth (KX _ _ lk) rfl S.co S.gen rfl (PySem.W.codeRec_of KX hcd) (hb _ _ _ _ ?_)
  refine wpAny_with_toks hn ?_
  refine wpAny_newFunctionEnv_cells S.kind hkind fun env he s1 x hn1 => ?_
  subst he
  refine ⟨lim.keeps x.toInCall.keep, codeAny_func ?_⟩
  have I : Inv (cxOf CX0 P w K mg base N qual (defScope st) f cdv A outer s H (fun _ _ _ => False)) [] (start N vs) H s1 := inv_start S hr.hd e0 hl r x
  refine wpAny_mono (hbody cdv A outer s H vs Q s1 (hr.deeper _) hsp hn1 (I.wish _)) (fun fl s' hs => ?_) fun e s' hs => False.elim hs
  cases fl with
  | ret u =>
    obtain ⟨v, σ', H', J, rv, q⟩ := hs
    exact ⟨v, H', J.os, J.bare, J.base, J.hok, rv, q⟩
  | next => exact False.elim hs
  | brk => exact False.elim hs
  | cont => exact False.elim hs
end

/-- behind an expression: the value itself too -/
def EW (X : Cx) (pins : List (Addr × Obj)) (σ : St) (Q : WK) (u : Value) (s' : Shared) : Prop := ∃ v H', Inv X pins σ H' s' ∧ RelV v u ∧ Q u s'.toks v H'
section
variable {n : Nat} {X : Cx} {k : Nat} {f : Addr} {fd : FuncData} {ps : List Str} {sp : SpW} {x : Str} {p pos : Pos} {e : Expr} {es : List Expr} {t : TA}
theorem run_fnW {pins : List (Addr × Obj)} {σ : St} {H : Hp} {s : Shared} {Q : WK} {us : List Value} {vs : List V} (F : FnOkW n X.prog X.w X.K X.mg X.base k f fd ps sp) (hr : Room k X.A) (hb : Binds X.K fd ps []) (hn : n ≤ s.toks)
    (I : Inv X pins σ H s) (r : Vals vs us) (h : sp vs H Q) : wpAny (model X.prog X.w) X.A (call (.ref f) us) (EW X pins σ Q) X.xe s := by
  have hl : us.length = ps.length := by rw [← r.length]; exact F.len _ _ _ h
  have hb' := hb s us I.kIn (by rw [List.append_nil]; exact hl)
  rw [List.append_nil] at hb'
  refine wpAny_call (codeAny_mono (F.run X.A X.stack s H ⟨us, []⟩ us vs Q hn hr I.env0 hb' r h) fun r s' hq => ?_)
  cases r with
  | error e => exact False.elim hq
  | ok fl =>
    cases fl with
    | ret u =>
      obtain ⟨v, H', os, bare, un, hok, rv, q⟩ := hq
      exact ⟨v, H', I.call' (ch := []) os un hok bare (fun b z => absurd z (by simp)), rv, q⟩
    | next => exact False.elim hq
    | brk => exact False.elim hq
    | cont => exact False.elim hq
theorem ev_callW (F : FnOkW n X.prog X.w X.K X.mg X.base k f fd ps sp) (hr : Room k X.A) (hg : Gl X x) (hm : X.mg x = some (.ref f)) (hk : PySem.W.keepIn X.K (.ref f) = true) (hb : Binds X.K fd ps [])
    (ha : PA X (e :: es) t) {pins : List (Addr × Obj)} {s : Shared} {σ : St} {H : Hp} {Q : WK} (hn : n ≤ s.toks) (I : Inv X pins σ H s) (h : t σ H fun vs H1 => sp vs H1 Q)
    (hdb : (x == ("__debug__" : Str)) = false := by decide) (he : starEach (e :: es) X.env = (false, eval e X.env) :: starEach es X.env := by rfl) (hpl : (backTo pos (starEach es X.env)).any (·.1) = false := by rfl) :
    wpAny (model X.prog X.w) X.A (eval (.Call (.Name x p) (e :: es) [] pos) X.env) (EW X pins σ Q) X.xe s := by
  refine wpAny_Call_Name_kw (ld_glob I hg hm ?_ hdb)
  refine PySem.W.callWith_K (h₀ := X.base) I.ok.mod.kin hk (thnk hn (ha pos pins s σ H _ I h) fun us s1 hn1 ⟨vs, H1, I1, r, q⟩ => ⟨I1.kIn, ?_⟩) he hpl
  exact run_fnW F hr hb hn1 I1 r q
def tCallW (sp : SpW) (t : TA) : TE := fun σ H Q => t σ H fun vs H1 => sp vs H1 fun _ _ v H2 => Q v H2
theorem pek_callW (F : FnOkW n X.prog X.w X.K X.mg X.base k f fd ps sp) (hr : Room k X.A) (hg : Gl X x) (hm : X.mg x = some (.ref f)) (hk : PySem.W.keepIn X.K (.ref f) = true) (hb : Binds X.K fd ps [])
    (ha : PA X (e :: es) t) (hdb : (x == ("__debug__" : Str)) = false := by decide) (he : starEach (e :: es) X.env = (false, eval e X.env) :: starEach es X.env := by rfl) (hpl : (backTo pos (starEach es X.env)).any (·.1) = false := by rfl) :
    PEk n X (.Call (.Name x p) (e :: es) [] pos) (tCallW sp t) := by
  intro pins s σ H Q hn I h
  exact thn (ev_callW F hr hg hm hk hb ha hn I h hdb he hpl) fun u s' ⟨v, H', I', r', q'⟩ => ⟨v, H', I', r', q'⟩
end
end L2

namespace L2
open PySem PySem.Spec PyProof.Rows
theorem thnk' {α : Type} {t : Sem α} {Q Q' : α → Shared → Prop} {M : Model} {A : Around} {E : Value → Shared → Prop} {s : Shared} {n : Nat} (hn : n ≤ s.toks) (h : wpAny M A t Q (fun _ _ => False) s) (hQ : ∀ a s', n ≤ s'.toks → Q a s' → Q' a s') : wpAny M A t Q' E s :=
  wpAny_mono (wpAny_toks_of hn h) (fun a s' x => hQ a s' x.1 x.2) fun _ _ x => x.2.elim
/-! ### a comprehension whose element asks the count of tokens -/
section
variable {n : Nat} {X : Cx}
theorem comp_blockK {osc scope : Scope} {N0 xs : List Str} {fr : List Nat} {pins : List (Addr × Obj)} {σ : St} {H2 : Hp} {s2 : Shared} {fp : List Addr} {it : Addr} {tn : Nat → Heap → Prop} {J : It} {elt tg iter : Expr} {ifs : List Expr} {pos : Pos}
    {g : TG} {tt : TT} {te : TE} {E : Value → Shared → Prop} {R : Addr → Hp → Prop} {RR : Value → Addr → Result → Shared → Prop} (C : CompTx osc scope N0 xs fr) (ho : X.env.scope = osc) (hN0 : X.N = N0) (hc : X.calm = true)
    (hg : ∀ s H fp, PG (cxComp X scope (compN N0 xs fr) s H fp) tg g) (ht : ∀ s H fp, PIf (cxComp X scope (compN N0 xs fr) s H fp) ifs tt) (he : ∀ s H fp, PEk n (cxComp X scope (compN N0 xs fr) s H fp) elt te)
    (hn2 : n ≤ s2.toks) (I2 : Inv X pins σ H2 s2) (T : Turn X.prog X.w X.K tg J fp it tn) (st2 : tn 0 s2.heap) (f2 : ∀ b ∈ fp, FpOk X pins H2 b)
    (hR : ∀ D, H2 D = none → CompW J g tt te R D (compSt xs fr σ) (upd H2 D (.lst [])))
    (hRR : ∀ (D C : Addr) (s' : Shared) (H' : Hp) (m : Str → Option Value), Inv X pins σ H' s' → s'.heap.Ns C m → FpOk X pins H' C → R D H' → RR (.ref D) C (.ok .next) s') :
    wpAny (model X.prog X.w) X.A (newList []) (fun acc s₃ => wpAny (model X.prog X.w) X.A (newFunctionEnv scope X.env.globals (closL X.env scope.names) [] X.env.qual none .none (some X.env)) (fun cenv s₄ =>
      codeAny (model X.prog X.w) X.A (.compStart (.ListComp elt [⟨tg, iter, ifs, 0⟩] scope pos) 0 (.ref it) acc { cenv with scope := relabel scope X.env }) (RR acc cenv.locals) s₄) E s₃) E s2 := by
  refine wpAny_newObj_type (wpAny_newFunctionEnv C.nocell (by intro y hy; simp at hy) (fun h₁ hns₁ hsb₁ => ?_) C.kind)
  dsimp only at hns₁ hsb₁ ⊢
  have I3 : Inv X pins σ (upd H2 s2.heap.objs.size (.lst [])) { s2 with heap := s2.heap.push { cls := .type "list", data := .seq ([] : List Value).toArray } } := I2.lnew (its := []) (t' := s2.toks) .nil (by simp)
  have flt : ∀ b ∈ fp, b < s2.heap.objs.size := fun b hb => by
    obtain ⟨o, e, _⟩ := T.obj 0 _ st2 b hb
    exact Heap.lt_size e
  have f3 : ∀ b ∈ fp, FpOk X pins (upd H2 s2.heap.objs.size (.lst [])) b := fun b hb => ⟨by rw [upd_ne (Nat.ne_of_lt (flt b hb))]; exact (f2 b hb).1, (f2 b hb).2⟩
  have flt3 : ∀ b ∈ fp, b < (s2.heap.push { cls := .type "list", data := .seq ([] : List Value).toArray }).objs.size := fun b hb => by
    rw [Heap.size_push]
    exact Nat.lt_succ_of_lt (flt b hb)
  obtain ⟨W, ⟨m0, w0⟩, turn⟩ := hR s2.heap.objs.size I2.fresh
  generalize hD : s2.heap.objs.size = D at *
  generalize hs3 : s2.heap.push { cls := .type "list", data := .seq ([] : List Value).toArray } = h3 at *
  have up2 : ∀ b o, s2.heap.get? b = some o → h3.get? b = some o := fun b o e => by rw [← hs3]; exact Heap.get?_push_of_some _ e
  have old : ∀ b o, h3.get? b = some o → h₁.get? b = some o := fun b o e => hsb₁.extBut b o (Nat.ne_of_lt (Heap.lt_size e)) (Heap.get?_push_of_some _ e)
  have Ic := comp_start (tk := s2.toks + ([] : List (Str × Value)).length) C ho hN0 I3 f3 flt3 hns₁ old
  have st4 : tn 0 h₁ := T.keep 0 _ _ st2 fun b hb o e => old b o (up2 b o e)
  have stat : ∀ {H' : Hp}, (∀ b ∈ fp, H' b = none) → ∀ b ∈ fp, FpOk (cxComp X scope (compN N0 xs fr) { s2 with heap := h3 } (upd H2 D (.lst [])) fp) [] H' b := fun hn b hb =>
    ⟨hn b hb, Nat.ne_of_lt (flt3 b hb), fun z => by
      rcases List.mem_cons.mp (I3.stkSub b z) with q | q
      · exact (f3 b hb).2.1 q
      · exact (f3 b hb).2.2.1 q, .inl hb, fun x c h => (Ic.ok.exf b hb).2 x c h, fun p hp => absurd (show p ∈ ([] : List (Addr × Obj)) from hp) (by simp)⟩
  have fin : ∀ {σ' : St} {H' : Hp} {s' : Shared}, Inv (cxComp X scope (compN N0 xs fr) { s2 with heap := h3 } (upd H2 D (.lst [])) fp) [] σ' H' s' → R D H' → RR (.ref D) h3.objs.size (.ok .next) s' := fun {σ' H' s'} I' q => by
    obtain ⟨m, hm, _⟩ := I'.loc
    refine hRR D h3.objs.size s' H' m (I3.call' I'.os I'.base I'.hok I'.bare fun b hb => ?_) hm (I3.fpOk (Nat.le_refl _) I'.free) q
    exact ⟨(f3 b hb).2.2.2.1, (f3 b hb).2.1, (f3 b hb).2.2.2.2.1, (f3 b hb).2.2.2.2.2⟩
  have loop : codeAny (model X.prog X.w) X.A (.compLoop (.ListComp elt [⟨tg, iter, ifs, 0⟩] scope pos) 0 (.ref it) (.ref D) (compEnvC scope (closL X.env scope.names) h3.objs.size X.env)) (RR (.ref D) h3.objs.size) { s2 with heap := h₁, toks := s2.toks + ([] : List (Str × Value)).length } := by
    refine codeAny_loop rfl (fun mm s' => n ≤ s'.toks ∧ ∃ i σ' H', Inv (cxComp X scope (compN N0 xs fr) { s2 with heap := h3 } (upd H2 D (.lst [])) fp) [] σ' H' s' ∧ tn i s'.heap ∧ (∀ b ∈ fp, H' b = none) ∧ W i mm σ' H') (fun mm s' hI => ?_) m0 ⟨hn2, 0, _, _, Ic, st4, fun b hb => (f3 b hb).1, w0⟩
    show wpAny _ X.A ((compTurn (.ListComp elt [⟨tg, iter, ifs, 0⟩] scope pos) 0 (.ref it) (.ref D) (compEnvC scope (closL X.env scope.names) h3.objs.size X.env)).onRaise (fun x => do noteFrame x (compEnvC scope (closL X.env scope.names) h3.objs.size X.env); theTreesLotGoes x)) _ _ s'
    refine wpAny_noted ?_
    rw [compTurn_list]
    obtain ⟨hn', i, σ', H', I', st', fr', w'⟩ := hI
    refine wpAny_bind (wpAny_standAt (wpAny_bind ?_))
    rcases turn i mm σ' H' w' with ⟨stop, q⟩ | ⟨go, N, M, hN, hM, step⟩
    · refine thn (T.done (cxComp X scope (compN N0 xs fr) { s2 with heap := h3 } (upd H2 D (.lst [])) fp) rfl rfl rfl hc i [] s' σ' H' _ I' (stat fr') st' stop) fun r s4 ⟨hr, I4⟩ => ?_
      subst hr
      exact wpAny_pure (fin I4 q)
    · refine thnk hn' (T.item (cxComp X scope (compN N0 xs fr) { s2 with heap := h3 } (upd H2 D (.lst [])) fp) rfl rfl rfl hc i [] s' σ' H' _ I' (stat fr') st' go) fun r s4 hn4 ⟨u, hr, h4⟩ => ?_
      subst hr
      refine wpAny_bind (thnk hn4 h4 fun _ s5 hn5 ⟨x, H5, I5, r5, y5, st5, fr5⟩ => ?_)
      have I5' := I5.pinned (stat fr5) (T.obj _ _ st5)
      have again : ∀ {σ7 : St} {H7 : Hp} {s7 : Shared}, Inv (cxComp X scope (compN N0 xs fr) { s2 with heap := h3 } (upd H2 D (.lst [])) fp) ([] ++ pinsAt fp s5.heap) σ7 H7 s7 → n ≤ s7.toks → (∃ m', m' < mm ∧ W (i + 1) m' σ7 H7) →
          ∃ m, m < mm ∧ n ≤ s7.toks ∧ ∃ i σ' H', Inv (cxComp X scope (compN N0 xs fr) { s2 with heap := h3 } (upd H2 D (.lst [])) fp) [] σ' H' s7 ∧ tn i s7.heap ∧ (∀ b ∈ fp, H' b = none) ∧ W i m σ' H' := fun {σ7 H7 s7} I7 hn7 n7 => by
        obtain ⟨m', hm, w7⟩ := n7
        refine ⟨m', hm, hn7, i + 1, σ7, H7, I7.unpinned, T.keep _ _ _ st5 fun b hb o e => (I7.pin (b, o) (List.mem_append_right _ (List.mem_append_right _ (mem_pinsAt hb e)))).1, fun b hb => ?_, w7⟩
        obtain ⟨o, e, d⟩ := T.obj _ _ st5 b hb
        exact (I7.pin (b, o) (List.mem_append_right _ (List.mem_append_right _ (mem_pinsAt hb e)))).2.1
      refine wpAny_bind (thnk' hn5 (hg _ _ _ _ s5 σ' H5 x u _ I5' r5 (step x H5 y5)) (fun _ s6 hn6 ⟨σ6, H6, I6, q6⟩ => ?_))
      refine wpAny_bind (thnk' hn6 (ht _ _ _ _ s6 σ6 H6 _ I6 q6) (fun ok s7 hn7 ⟨H7, I7, q7⟩ => ?_))
      cases ok with
      | false =>
        rw [if_neg Bool.false_ne_true] at q7
        exact wpAny_pure ⟨rfl, again I7 hn7 (hM _ _ q7)⟩
      | true =>
        rw [if_pos rfl] at q7
        refine wpAny_bind (wpAny_bind (thnk' hn7 (he _ _ _ _ s7 σ6 H7 _ hn7 I7 q7) (fun y s8 hn8 ⟨v, H8, I8, r8, q8⟩ => ?_)))
        obtain ⟨ys, eD, hz, q8⟩ := hN _ _ _ q8
        refine wpAny_bind (thnk' hn8 (mt_append (X := cxComp X scope (compN N0 xs fr) { s2 with heap := h3 } (upd H2 D (.lst [])) fp) _ s8 σ6 H8 (.ref D) [v] (.ref D) [y] (fun _ H9 => ∃ m', m' < mm ∧ W (i + 1) m' σ6 H9) I8 rfl (.cons r8 .nil) ⟨D, ys, v, rfl, rfl, eD, hz, q8⟩) (fun _ s9 hn9 ⟨_, H9, I9, _, q9⟩ => ?_))
        exact wpAny_pure (wpAny_pure ⟨rfl, again I9 hn9 q9⟩)
  exact codeAny_compStart_list loop (T.self X.A 0 _ _ _ st4 loop)

variable {osc scope : Scope} {N0 xs : List Str} {fr : List Nat} {elt tg iter : Expr} {ifs : List Expr} {pos : Pos} {wi : TI} {g : TG} {tt : TT} {te : TE}
theorem psk_comp {i : Nat} {y : Str} {py spos : Pos} (C : CompTx osc scope N0 xs fr) (ho : X.env.scope = osc) (hN0 : X.N = N0) (hc : X.calm = true) (hi : PI X tg iter wi)
    (hg : ∀ s H fp, PG (cxComp X scope (compN N0 xs fr) s H fp) tg g) (ht : ∀ s H fp, PIf (cxComp X scope (compN N0 xs fr) s H fp) ifs tt) (he : ∀ s H fp, PEk n (cxComp X scope (compN N0 xs fr) s H fp) elt te)
    (hN : X.N.Nodup) (hy : X.N[i]? = some y) (hx : Loc X.env.scope y)
    (hsw : swapsWith (.ListComp elt [⟨tg, iter, ifs, 0⟩] scope pos) (some (.Name y py)) spos.line X.env = pure true := by rfl)
    (hf : X.fn y = true ∨ X.env.scope.names.lookup y = some .local := by first | exact .inl rfl | exact .inr rfl | assumption)
    (hs : ∀ x, foldedSetIterable iter X.env x = pure x := by intro _; rfl) : PSk n X (.Assign [.Name y py] (.ListComp elt [⟨tg, iter, ifs, 0⟩] scope pos) spos) (sComp i xs fr wi g tt te) := by
  intro pins s σ H D hn I h
  rw [exec_Assign_Name_used _ _ _ _ hsw]
  refine wpAny_bind (wpAny_standAt (wpAny_bind ?_))
  show wpAny _ X.A (do let _ ← comprehension (.ListComp elt [⟨tg, iter, ifs, 0⟩] scope pos) scope X.env _ (newList []) false (eval iter X.env) (some (assign (.Name y py) X.env))) _ _ s
  refine wpAny_bind (wpAny_mono (wpAny_comprehension_free (use := some (assign (.Name y py) X.env)) (Q := fun _ s' => SP X pins D .next s') rfl hs (clos_ok (comp_free C ho I)) C.kind C.names
    (thnk hn (hi pins s σ H _ I h) fun v s1 hn1 h1 => thnk hn1 h1 fun itv s2 hn2 h2 => ?_)) (fun _ s' hq => wpAny_pure (wpAny_pure hq)) fun _ _ e => e)
  obtain ⟨it, fp, tn, J, H2, e, I2, T, st2, f2, hR⟩ := h2
  subst e
  refine comp_blockK C ho hN0 hc hg ht he hn2 I2 T st2 f2 hR fun Dl C s' H' m I' hm fC q => ?_
  refine wpAny_assign_Name (store_ok2 I' hN hy hx (show RelV (.ref Dl) (.ref Dl) from rfl) (fun s3 I3 hsb => ?_) hf)
  obtain ⟨a, sb, ha⟩ := hsb
  have hCa : C ≠ a := by
    rcases ha with z | z
    · rw [z]; exact fC.2.1
    · exact fun w => fC.2.2.2.2.1 y a z w.symm
  refine ⟨m, hm.sameBut sb hCa, fun h' sb' => ⟨_, H', ?_, q⟩⟩
  exact I3.turned (t' := s3.toks) (fun b o hb e => (sb'.2 b hb).trans e) fC.1 fC.2.1 fC.2.2.2.1 fC.2.2.2.2.1 fC.2.2.2.2.2
end

end L2

namespace L2
open PySem PySem.Spec PyProof.Rows
section
variable {n : Nat} {X : Cx} {pins : List (Addr × Obj)} {s : Shared} {σ : St} {H : Hp}
/-! ### texts with known tokens -/
/-- name = a written text: a token has been spent -/
theorem set_const {i : Nat} {x : Str} {z : Str} {j : Nat} {pos pos' cp : Pos} {D : Ends} (I : Inv X pins σ H s) (hN : X.N.Nodup) (hi : X.N[i]? = some x) (hx : Loc X.env.scope x) (h : D.nx (σ.set i (some (.str z))) H)
    (hs : swapsWith (.Constant (.str z) j cp) (some (.Name x pos')) pos.line X.env = pure false := by rfl) (hf : X.fn x = true ∨ X.env.scope.names.lookup x = some .local := by first | exact .inl rfl | exact .inr rfl | assumption) :
    wpAny (model X.prog X.w) X.A (exec (.Assign [.Name x pos'] (.Constant (.str z) j cp) pos) X.env) (fun f s' => 1 ≤ s'.toks ∧ SP X pins D f s') X.xe s := by
  refine wpAny_Assign_Name (wpAny_Constant_str ?_) hs
  refine thnk (n := 1) (show 1 ≤ s.toks + 1 by omega) (store_ok (I.tok (s.toks + 1)) hN hi hx (show RelV (.str z) (.str z s.toks) from ⟨_, rfl⟩) (Q := fun _ s' => SP X pins D .next s') (fun s2 I2 => ⟨_, H, I2, h⟩) hf) fun _ s' hn q => ⟨hn, q⟩
/-- z[i]: the sign's token is the newest one -/
theorem ev_ixs {a b : Expr} {ta tb : TE} {pos : Pos} {Q : WK} (ha : PE X a ta) (hb : PE X b tb) (hs : PlainIx b) (hn : n ≤ s.toks) (I : Inv X pins σ H s)
    (h : ta σ H fun x H1 => tb σ H1 fun y H2 => ∃ z i c, x = .str z ∧ y = .int i ∧ z.length ≤ sizeLine ∧ atI z.cps.toList i = some c ∧ ∀ tk, n ≤ tk → Q (.str ⟨#[c]⟩ tk) (tk + 1) (.str ⟨#[c]⟩) H2) :
    wpAny (model X.prog X.w) X.A (eval (.Subscript a b pos) X.env) (EW X pins σ Q) X.xe s := by
  refine Subscript_ ?_
  refine thnk hn (ha pins s σ H _ I h) fun v s1 hn1 ⟨x, H1, I1, r1, q1⟩ => ?_
  refine thnk hn1 (hb pins s1 σ H1 _ I1 q1) fun u s2 hn2 ⟨y, H2, I2, r2, q2⟩ => ?_
  obtain ⟨z, i, c, rfl, rfl, hz, he, q⟩ := q2
  obtain ⟨t, rfl⟩ := r1
  obtain ⟨t', rfl⟩ := r2
  obtain ⟨j, h1, h2, h3, h4, h5⟩ := atI_get he
  have hl : z.cps.toList.length = z.length := by simp [Str.length]
  rw [hl] at h1 h4 h5
  have hn := line63
  exact tail_any (typeIs_str s2 z t) slot_str_getitem.lookup (getItem_str (c := c) (by
    have e1 : decide (i < -(2 ^ 63 : Int)) = false := decide_eq_false (by omega)
    have e2 : decide (i ≥ 2 ^ 63) = false := decide_eq_false (by omega)
    rw [e1, e2, Bool.or_false]) (by rw [h1]; simpa using h2) ⟨.str ⟨#[c]⟩, H2, I2.tok _, ⟨_, rfl⟩, q s2.toks hn2⟩) (hs _ _)
/-- a pair ("..", text) whose second text's token is known -/
def TokPair (H : Hp) (a : Addr) (y z : Str) (u : Tok) : Prop := ∃ o u0 m, H a = some (.frz o (.tup [.str y, .str z])) ∧ o.data = .seq #[u0, .str z u] m
theorem TokPair.same {H H' : Hp} {a : Addr} {y z : Str} {u : Tok} (h : TokPair H a y z u) (e : Same H H') : TokPair H' a y z u := by
  obtain ⟨o, u0, m, h1, h2⟩ := h
  exact ⟨o, u0, m, e _ _ h1, h2⟩
theorem TokPair.sq {K : PySem.W.Frag} {H : Hp} {a : Addr} {y z : Str} {u : Tok} (h : TokPair H a y z u) : SqT K H a [.str y, .str z] := by
  obtain ⟨o, u0, m, h1, h2⟩ := h
  exact .inl (.inr ⟨o, h1⟩)
/-- ("..", e) -/
theorem ev_pair {y : Str} {j : Nat} {cp pos : Pos} {x1 : Nat} {e : Expr} {Q : WK} (I : Inv X pins σ H s) (hn : n ≤ s.toks)
    (he : ∀ s1, Inv X pins σ H s1 → n ≤ s1.toks → wpAny (model X.prog X.w) X.A (eval e X.env) (EW X pins σ fun u k v H1 => ∃ z t, u = .str z t ∧ v = .str z ∧ ∀ p (H2 : Hp), H1 p = none → Same H1 H2 → TokPair H2 p y z t → Q (.ref p) k (.ref p) H2) X.xe s1)
    (hs : starEach [.Constant (.str y) j cp, e] X.env = [(false, eval (.Constant (.str y) j cp) X.env), (false, eval e X.env)] := by rfl) :
    wpAny (model X.prog X.w) X.A (eval (.Tuple [.Constant (.str y) j cp, e] x1 pos) X.env) (EW X pins σ Q) X.xe s := by
  refine wpAny_Tuple_spliced ?_
  rw [hs]
  show wpAny _ _ (spliced [(false, eval (.Constant (.str y) j cp) X.env), (false, _)]) _ _ s
  refine Calls.spliced_cons (wpAny_Constant_str (Calls.spliced_cons ?_))
  show wpAny _ _ (eval e X.env) _ _ _
  refine thn (he _ (I.tok (s.toks + 1)) (Nat.le_succ_of_le hn)) fun u s1 ⟨v, H1, I1, r1, z, t, e1, e2, q⟩ => Calls.spliced_nil ⟨(show 2 ≤ sizeLine by decide), ?_⟩
  subst e1 e2
  have hf : H1 s1.heap.objs.size = none := I1.hok.fresh (Nat.le_refl _)
  refine ⟨.ref s1.heap.objs.size, upd H1 s1.heap.objs.size (.frz { cls := .type "tuple", data := .seq #[.str y s.toks, .str z t] } (.tup [.str y, .str z])), I1.laid (t' := s1.toks) (fun b u e => Heap.get?_push_of_some _ e) (Nat.le_refl _) ?_, rfl, q _ _ hf (Same.upd hf) ⟨_, _, _, upd_same, rfl⟩⟩
  refine ⟨Heap.get?_push_size _ rfl, (show 2 ≤ sizeLine by decide), [.str y s.toks, .str z t], .cons ⟨_, rfl⟩ (.cons ⟨_, rfl⟩ .nil), ⟨_, Heap.get?_push_size _ rfl, rfl, _, rfl⟩⟩
/-- .. its second thing -/
theorem ev_second {a : Expr} {ta : TE} {pos cp : Pos} {j : Nat} {p : Addr} {y z : Str} {t : Tok} (ha : PE X a ta) (I : Inv X pins σ H s) (h : ta σ H fun x H1 => x = .ref p ∧ H1 = H) (hp : TokPair H p y z t) (hs : PlainIx (.Constant (.int 1) j cp)) :
    wpAny (model X.prog X.w) X.A (eval (.Subscript a (.Constant (.int 1) j cp) pos) X.env) (fun u s' => u = .str z t ∧ Inv X pins σ H s') X.xe s := by
  refine Subscript_ ?_
  refine thn (ha pins s σ H _ I h) fun v s1 ⟨x, H1, I1, r1, e1, e2⟩ => ?_
  subst e1 e2
  cases r1
  refine thn (pe_int pins s1 σ H1 (fun y H2 => y = .int 1 ∧ H2 = H1) I1 ⟨rfl, rfl⟩) fun u s2 ⟨y2, H2, I2, r2, e3, e4⟩ => ?_
  subst e3 e4
  obtain ⟨t', rfl⟩ := r2
  obtain ⟨o, u0, m, h1, h2⟩ := hp
  obtain ⟨g, _, its, r, o', g', c', m', d'⟩ := I2.hok p _ h1
  have pl : IsTup s2.heap p #[u0, .str z t] := ⟨o, g, (by rw [g] at g'; cases g'; exact c'), m, h2⟩
  exact subscriptTail_builtinR (x := .str z t) pl.typeIs slot_tuple_getitem.lookup
    (getItem_tuple (j := 1) (Q := fun r s' => r = .str z t ∧ r = .str z t ∧ Inv X pins σ H2 s') pl (by decide) (by decide) (by rfl) (by rfl) ⟨rfl, rfl, I2⟩) (hs _ _)
/-- o.replace(pair[1], "") -/
def tStrike (p : Addr) (z : Str) (to : TE) : TE := fun σ H Q => to σ H fun x H1 => H1 = H ∧ ∃ w, x = .str w ∧ w.length ≤ 1048576 ∧ Q (.str (Txt.replace w z ⟨#[]⟩)) H1
theorem pek_strike {o a : Expr} {to ta : TE} {apos cpos sp cp cp2 : Pos} {j j2 : Nat} {p : Addr} {y z : Str} {t : Tok} {C : St → Hp → Prop} (hz : (z == (⟨#[]⟩ : Str)) = false) (ht : t ≠ 0) (htn : t < n) (ho : PE X o to) (ha : PE X a ta)
    (hC : ∀ σ H, C σ H → TokPair H p y z t ∧ ta σ H fun x H1 => x = .ref p ∧ H1 = H) (hs : PlainIx (.Constant (.int 1) j cp))
    (hbase : attributeBase o "replace" X.env (eval o X.env) = eval o X.env := by rfl)
    (hfew : ((backTo cpos (starEach [.Subscript a (.Constant (.int 1) j cp) sp, .Constant (.str "") j2 cp2] X.env)).all (fun x => !x.1) && (backToKw cpos (keywordEach [] X.env)).all (fun x => x.1.isSome)
      && decide (([.Subscript a (.Constant (.int 1) j cp) sp, .Constant (.str "") j2 cp2] : List Expr).length + ([] : List Keyword).length + (if ([] : List Keyword).isEmpty then 0 else 1) < 30)) = true := by rfl)
    (hline : (apos.endLine == cpos.line) = true := by rfl)
    (hse : starEach [.Subscript a (.Constant (.int 1) j cp) sp, .Constant (.str "") j2 cp2] X.env = [(false, eval (.Subscript a (.Constant (.int 1) j cp) sp) X.env), (false, eval (.Constant (.str "") j2 cp2) X.env)] := by rfl) :
    PEk n X (.Call (.Attribute o "replace" apos) [.Subscript a (.Constant (.int 1) j cp) sp, .Constant (.str "") j2 cp2] [] cpos) (fun σ H Q => C σ H ∧ tStrike p z to σ H Q) := by
  intro pins s σ H Q hn I ⟨hc, h⟩
  obtain ⟨hp, hta⟩ := hC σ H hc
  refine wpAny_Call_method_late hbase hfew hline rfl (thnk hn (ho pins s σ H _ I h) fun v s1 hn1 ⟨x, H1, I1, r1, e1, w, e2, hw, q⟩ => ?_)
  subst e1 e2
  obtain ⟨tw, rfl⟩ := r1
  refine ⟨"str", "str.replace", F.plainAttrs_str, F.slot_str_replace, F.type_str_replace, typeIs_str _ _ _, (fun _ e => nomatch e), ?_⟩
  rw [hse]
  refine Calls.callWith_builtin rfl (Calls.evalArgs_plain ?_)
  show wpAny _ _ (spliced [(false, eval (.Subscript a (.Constant (.int 1) j cp) sp) X.env), (false, eval (.Constant (.str "") j2 cp2) X.env)]) _ _ s1
  refine Calls.spliced_cons (thnk hn1 (ev_second ha I1 hta hp hs) fun u s2 hn2 ⟨e3, I2⟩ => Calls.spliced_cons (wpAny_Constant_str (Calls.spliced_nil ?_)))
  subst e3
  refine SC.replaceW ht (Nat.ne_of_gt (Nat.lt_of_le_of_lt (Nat.zero_le t) (Nat.lt_of_lt_of_le htn hn2))) (Nat.ne_of_lt (Nat.lt_of_lt_of_le htn hn2)) hz hw (by decide) fun t' k => ⟨.str (Txt.replace w z ⟨#[]⟩), H1, (I2.tok _).tok k, ⟨t', rfl⟩, q⟩
end
theorem pssk_run {n : Nat} {X : Cx} {st : List Stmt} {t : TS} (h : PSsk n X st t) {pins : List (Addr × Obj)} {s : Shared} {σ : St} {H : Hp} {D : Ends} (hn : n ≤ s.toks) (I : Inv X pins σ H s) (q : t D σ H) : wpAny (model X.prog X.w) X.A (execs st X.env) (SP X pins D) X.xe s := h pins s σ H D hn I q
end L2

namespace L2
open PySem PySem.Spec PyProof.Rows
section
variable {P : Program} {w : World} {K : PySem.W.Frag} {mg : Str → Option Value} {base : Heap}
abbrev SpK := List V → Hp → VK → Prop
def toW (sp : SpK) : SpW := fun vs H Q => sp vs H fun v H' => ∀ u tk, Q u tk v H'
/-- a def whose body asks the count of tokens -/
theorem Fun.okK {x qual : Str} {st : Stmt} {f : Addr} {fd : FuncData} {N ps : List Str} {n k : Nat} {sp : SpK} (F : Fun K x qual st f fd) (S : FnScope N ps (defScope st)) (len : ∀ vs H Q, sp vs H Q → vs.length = ps.length)
    (hbody : ∀ (cdv : Value) (A : Around) (outer : List Env) (s : Shared) (H : Hp) (vs : List V) (Q : VK), Room k (A.deeper (envOfC qual (defScope st) s.heap.objs.size f cdv)) → sp vs H Q →
      ∃ t, PSsk n (cxOf CX0 P w K mg base N qual (defScope st) f cdv A outer s H (fun _ _ _ => False)).nox (defBody st) t ∧ t { nx := fun _ _ => False, rt := Q } (start N vs) H) :
    FnOkW n P w K mg base (k + 1) f fd ps (toW sp) := by
  refine F.okW S (fun vs H Q h => len _ _ _ h) (fun cdv A outer s H vs Q s1 hr h hn I => ?_)
  obtain ⟨t, ht, hq⟩ := hbody cdv A outer s H vs _ hr h
  refine thn (ht [] s1 _ H _ hn I hq) fun fl s' hs => ?_
  cases fl with
  | ret u =>
    obtain ⟨v, σ', H', J, rv, q⟩ := hs
    exact ⟨v, σ', H', J, rv, q u _⟩
  | next => obtain ⟨_, _, _, z⟩ := hs; exact z.elim
  | brk => obtain ⟨_, _, _, z⟩ := hs; exact z.elim
  | cont => obtain ⟨_, _, _, z⟩ := hs; exact z.elim
end
end L2

namespace L2
open PySem PySem.Spec PyProof.Rows
/-- a block's first k statements, then the rest; W what is wanted behind all -/
theorem run_block {n : Nat} {X : Cx} {l : List Stmt} (k : Nat) {Q : WK} {pins : List (Addr × Obj)} {s : Shared} {σ : St} {H : Hp} (Mid : St → Hp → Prop) (hn : n ≤ s.toks) (I : Inv X pins σ H s)
    (h1 : ∃ t, PSsk n X (l.take k) t ∧ t { nx := Mid, rt := fun v H' => ∀ u tk, Q u tk v H' } σ H)
    (h2 : ∀ (s' : Shared) (σ' : St) (H' : Hp), n ≤ s'.toks → Inv X pins σ' H' s' → Mid σ' H' → wpAny (model X.prog X.w) X.A (execs (l.drop k) X.env) (SPW X pins Q) X.xe s') :
    wpAny (model X.prog X.w) X.A (execs l X.env) (SPW X pins Q) X.xe s := by
  obtain ⟨t, pt, qt⟩ := h1
  have e : l = l.take k ++ l.drop k := (List.take_append_drop k l).symm
  rw [e, execs_app]
  refine wpAny_bind (thnk hn (pt pins s σ H _ hn I qt) fun fl s2 n2 hq => ?_)
  cases fl with
  | next =>
    obtain ⟨σ2, H2, I2, m⟩ := hq
    exact h2 s2 σ2 H2 n2 I2 m
  | ret u =>
    obtain ⟨v, σ2, H2, I2, r, q⟩ := hq
    exact wpAny_pure ⟨v, σ2, H2, I2, r, q u _⟩
  | brk => obtain ⟨_, _, _, z⟩ := hq; exact z.elim
  | cont => obtain ⟨_, _, _, z⟩ := hq; exact z.elim
/-- a comprehension whose items are not told but by a word -/
theorem compW_any {J : It} {g : TG} {te : TE} {R : Addr → Hp → Prop} {D : Addr} {σ0 : St} {H0 : Hp} (n : Nat) (Pv : Nat → St → Hp → Prop) (Px : V → Prop) (hn : n ≤ sizeLine) (h0 : Pv 0 σ0 H0) (hD0 : H0 D = some (.lst []))
    (hs : ∀ i σ H ys, i < n → Pv i σ H → H D = some (.lst ys) → J.go i H ∧ ∀ x H', J.yld i H x H' → g x σ H' fun σ2 H2 => te σ2 H2 fun y H4 => Px y ∧ H4 D = some (.lst ys) ∧ ∀ zs, Pv (i + 1) σ2 (upd H4 D (.lst zs)))
    (hd : ∀ σ H ys, Pv n σ H → H D = some (.lst ys) → ys.length = n → (∀ y ∈ ys, Px y) → J.stop n H ∧ R D H) : CompW J g tYes te R D σ0 H0 := by
  refine ⟨fun i m σ H => m = n - i ∧ i ≤ n ∧ Pv i σ H ∧ ∃ ys, H D = some (.lst ys) ∧ ys.length = i ∧ ∀ y ∈ ys, Px y, ⟨n, by omega, Nat.zero_le _, h0, [], hD0, rfl, fun y hy => nomatch hy⟩, ?_⟩
  rintro i m σ H ⟨rfl, hi, p, ys, hD, hl, hp⟩
  by_cases hlt : i < n
  · obtain ⟨go, st⟩ := hs i σ H ys hlt p hD
    refine .inr ⟨go, fun σ2 y H4 => Px y ∧ H4 D = some (.lst ys) ∧ ∀ zs, Pv (i + 1) σ2 (upd H4 D (.lst zs)), fun _ _ => False, ?_, fun _ _ z => z.elim, st⟩
    rintro σ2 y H4 ⟨py, e, p'⟩
    refine ⟨_, e, by rw [hl]; omega, n - (i + 1), by omega, rfl, hlt, p' _, _, upd_same, by simp [hl], fun x hx => ?_⟩
    rcases List.mem_append.mp hx with h | h
    · exact hp x h
    · have e : x = y := by simpa using h
      rw [e]
      exact py
  · have e : i = n := by omega
    subst e
    exact .inl (hd σ H ys p hD hl hp)
end L2

/-! OWN EXCEPTIONS WITHOUT AN __init__ OF THEIR OWN (own work). -/
namespace L2
open PySem PySem.Spec PyProof.Rows Builtin Builtin.ObjectAttr
section
variable {prog : Program} {w : World} {A : Around} {E : Value → Shared → Prop} {h : Heap} {g : Array GenState} {d : Drawn} {t : Nat} {os : OsState}
variable {nm q : Str} {C N : Addr} {bs bm : List Value} {sn : List Str} {sub : List Value} {ab : Bool} {col : Option Bool} {dd : Option Addr} {k0 k1 k2 k3 k5 : Option Value}
theorem xtype_callB {rest : List Value} {Q : Fin → Shared → Prop} (tv : tailV bm = true) (hC : h.get? C = some (excClassObj nm q C N bs bm true sn sub ab col dd k0 k1 k2 k3 k5 "ValueError.__new__"))
    (hi : PySem.W.Looks (model prog w) h (typeLookup (.ref C) "__init__") (some (.builtin "ValueError.__init__"))) (hrest : rest.length ≤ sizeLine)
    (hq : ∀ h' t1 tk', h'.get? (h.objs.size + 1) = some (xObj C none t1) → (∀ b o, h.get? b = some o → h'.get? b = some o) → Q (.done (.ret (.ref (h.objs.size + 1)))) ⟨h', g, d, tk', os⟩) :
    wpAny (model prog w) A (Builtin.«type.__call__» ⟨.ref C :: rest, []⟩) Q E ⟨h, g, d, t, os⟩ := by
  have F := PySem.F.excBase_ValueError
  repeat (first | with_reducible refine wpAny_loadPart_at hC ?_ | with_reducible refine wpAny_madeBy_exc hC ?_ | wp_step)
  refine codeAny_call_builtin_code (Code.quiet_builtin _ F.quiet) (xck_new tv hC ?_)
  refine xnew tv hC ?_ hrest
  show wpAny _ _ _ _ _ _
  have kp : ∀ b o, h.get? b = some o → ((h.push (xTup rest)).push (xObj C none h.objs.size)).get? b = some o := fun b o e => Heap.get?_push_of_some _ (Heap.get?_push_of_some _ e)
  have hg2 : ((h.push (xTup rest)).push (xObj C none h.objs.size)).get? (h.objs.size + 1) = some (xObj C none h.objs.size) := by
    have := Heap.get?_push_size (h.push (xTup rest)) (o := xObj C none h.objs.size) rfl
    rwa [Heap.size_push] at this
  have hcC : (Value.ref C :: bm).contains (.ref C) = true := by simp
  unfold isInstance
  repeat (first | with_reducible refine wpAny_loadPart_at hg2 ?_ | (with_reducible refine wpAny_isSubtype_exc (kp _ _ hC) ?_; rw [hcC]) | wp_step)
  show wpAny _ _ (typeLookup (.ref C) _) _ _ _
  refine hi _ _ _ _ kp ?_
  refine wpAny_holding (wpAny_bind (wpAny_of_eq (F.init.bind _) ?_))
  refine wpAny_bind (xinit tv (kp _ _ hC) hg2 hrest fun h' t1 tk' e1 kk => ?_)
  wp_walk
  exact hq h' t1 _ e1 fun b o e => kk b o (Nat.ne_of_lt (Nat.lt_succ_of_lt (Heap.lt_size e))) (kp b o e)
theorem xcallB {rest : List Value} {Q : Value → Shared → Prop} (tv : tailV bm = true) (hC : h.get? C = some (excClassObj nm q C N bs bm true sn sub ab col dd k0 k1 k2 k3 k5 "ValueError.__new__"))
    (hi : PySem.W.Looks (model prog w) h (typeLookup (.ref C) "__init__") (some (.builtin "ValueError.__init__"))) (hrest : rest.length ≤ sizeLine)
    (hq : ∀ h' t1 tk', h'.get? (h.objs.size + 1) = some (xObj C none t1) → (∀ b o, h.get? b = some o → h'.get? b = some o) → Q (.ref (h.objs.size + 1)) ⟨h', g, d, tk', os⟩) :
    wpAny (model prog w) A (call (.ref C) rest) Q E ⟨h, g, d, t, os⟩ := by
  have f1 := tc_lookup
  have f2 := tc_bind (.ref C)
  have hT : (⟨h, g, d, t, os⟩ : Shared).TypeIs (.ref C) "type" := ⟨_, hC, rfl⟩
  refine wpAny_call (codeAny_of_tree ?_)
  show wpAny _ _ (callAny (.ref C) _) _ _ _
  repeat (any_goals (first | assumption | with_reducible refine wpAny_loadPart_at hC ?_ | wp_step))
  refine ⟨rfl, ?_⟩
  exact codeAny_call_builtin_at (Code.quiet_builtin _ (by decide +kernel)) entry_typeCall (wpAny_check_type_call_sub hC (xtype_callB tv hC hi hrest hq))
end
/-- what of the text is asked to make one -/
structure XMkB (K : PySem.W.Frag) (C : Addr) : Prop where
  cl : XCl K C
  init : PySem.W.findIn K (.ref C) "__init__" = some (some (.builtin "ValueError.__init__"))
def tXMakeB (n : Nat) (C : Addr) (t : TA) : TE := fun σ H Q => t σ H fun vs H1 => vs.length ≤ sizeLine ∧ ∀ x, n ≤ x → H1 x = none → Q (.ref x) (upd H1 x (.ext (excP x C none)))
section
variable {X : Cx} {C : Addr} {x : Str} {p pos : Pos} {e : Expr} {es : List Expr} {t : TA}
theorem run_xmakeB {pins : List (Addr × Obj)} {σ : St} {H : Hp} {s : Shared} {Q : VK} {us : List Value} {vs : List V} (M : XMkB X.K C)
    (I : Inv X pins σ H s) (r : Vals vs us) (hz : vs.length ≤ sizeLine) (h : ∀ x, X.s₀.heap.objs.size ≤ x → H x = none → Q (.ref x) (upd H x (.ext (excP x C none)))) :
    wpAny (model X.prog X.w) X.A (call (.ref C) us) (EP X pins σ Q) X.xe s := by
  obtain ⟨nm, q, N, bs, bm, sn, sub, ab, col, dd, k0, k1, k2, k3, k5, lk, tv⟩ := M.cl.at_
  have hq := h (s.heap.objs.size + 1) (Nat.le_succ_of_le I.sz) (I.hok.fresh (Nat.le_succ _))
  obtain ⟨hh, g, d, tk, os⟩ := s
  refine xcallB tv (I.kIn _ _ lk) (PySem.W.looks_findIn I.kIn M.init) (by rw [← r.length]; exact hz) fun h' t1 tk' e1 kk => ?_
  exact ⟨V.ref (hh.objs.size + 1), _, I.laid (a := hh.objs.size + 1) (t' := tk') kk (Nat.le_succ _) (excP_ok e1), rfl, hq⟩
theorem pe_xmakeB (M : XMkB X.K C) (hg : Gl X x) (hm : X.mg x = some (.ref C)) (ha : PA X (e :: es) t) (hdb : (x == ("__debug__" : Str)) = false := by decide)
    (he : starEach (e :: es) X.env = (false, eval e X.env) :: starEach es X.env := by rfl) (hpl : (backTo pos (starEach es X.env)).any (·.1) = false := by rfl) :
    PE X (.Call (.Name x p) (e :: es) [] pos) (tXMakeB X.s₀.heap.objs.size C t) := by
  intro pins s σ H Q I h
  refine wpAny_Call_Name_kw (ld_glob I hg hm ?_ hdb)
  refine PySem.W.callWith_K (h₀ := X.base) I.ok.mod.kin M.cl.kp (thn (ha pos pins s σ H _ I h) fun us s1 ⟨vs, H1, I1, r, q⟩ => ⟨I1.kIn, ?_⟩) he hpl
  exact run_xmakeB M I1 r q.1 q.2
end
end L2

/-! isinstance OF EXCEPTIONS, except OF A CLASS ABOVE (own work). -/
namespace L2
open PySem PySem.Spec PyProof.Rows Builtin Builtin.ObjectAttr
/-- what of the text isinstance asks of an exception's class -/
structure XIs (K : PySem.W.Frag) (C : Addr) : Prop where
  cl : XCl K C
  ha : PySem.W.findIn K (.ref C) "__class__" = some (some (.builtin "object.__class__"))
  hn : PySem.W.specialIn K (.builtin "object.__class__") "__get__" = some (some (.builtin "getset_descriptor.__get__"))
  htk : PySem.W.takesIn K (.builtin "object.__class__") = some true
section
variable {prog : Program} {w : World} {A : Around} {E : Value → Shared → Prop} {s : Shared} {K : PySem.W.Frag} {x C : Addr} {ox : Obj} {od : Option Obj}
theorem xmro (c : XCl K C) (T : String) (b : Bool) (hb : bmV.contains (.type T) = b) : PySem.W.mroIn K C (.type T) = some b := by
  obtain ⟨cd, bm, hc, hm, tv, hd⟩ := c.cls
  unfold PySem.W.mroIn
  rw [hc, Option.bind_some, hm]
  show some (List.contains _ _) = _
  rw [List.contains_cons, tailV_has (X := T) hb tv]
  rfl
theorem xclass {Q : Option Value → Shared → Prop} (Xk : K.In s.heap) (c : XIs K C) (J : PySem.W.InstAt s.heap x ox C od) (hq : Q (some (.ref C)) { s with toks := s.toks + 1 }) : wpAny (model prog w) A (getAttr? (.ref x) "__class__") Q E s := by
  obtain ⟨h, g, d, t, os⟩ := s
  obtain ⟨cd, bm, hc, hm, tv, hd⟩ := c.cl.cls
  have hf : PySem.W.findObj K C od "__class__" = some (.bind (.builtin "getset_descriptor.__get__") (.builtin "object.__class__")) := by
    unfold PySem.W.findObj
    rw [hc, Option.bind_some, c.ha, Option.bind_some]
    simp [c.hn, c.htk]
  have FX := PySem.F.attr_ValueError
  have L0 := J.type (M := model prog w)
  have L1 := PySem.W.looks_find (M := model prog w) Xk J hf
  have sub : PySem.W.Looks (model prog w) h (isInstance (.ref x) (.type "BaseException")) true := L0.andThen (PySem.W.looks_mroIn Xk (xmro c.cl "BaseException" true rfl))
  have nq : (onTheHeap (Value.ref C) && Value.builtin "BaseException.__getattribute__" == Value.builtin "object.__getattribute__") = false := by
    rw [show (Value.builtin "BaseException.__getattribute__" == Value.builtin "object.__getattribute__") = false from by decide +kernel, Bool.and_false]
  unfold getAttr? getAttrBy? getAttrBy
  refine wpAny_bind (wpAny_mkText (wpAny_bind (wpAny_attempt (wpAny_holding (wpAny_bind (L0.at (wpAny_bind ((PySem.W.looks_findIn (M := model prog w) Xk c.cl.ga).at ?_))))))))
  show wpAny _ _ (if _ = true then _ else _) _ _ _
  rw [nq, if_neg (by decide)]
  unfold getAttrByItsOwn hookBefore
  refine wpAny_bind (PySem.W.Looks.at (t := if onTheHeap (Value.ref C) = true then typeLookup (.ref C) "__getattr__" else pure none) (r := none) (PySem.W.looks_findIn (M := model prog w) Xk c.cl.gx) (wpAny_bind (wpAny_attempt (wpAny_holding ?_))))
  unfold callGetattribute
  rw [show (false && onTheHeap (Value.builtin "BaseException.__getattribute__")) = false from rfl, if_neg (by decide)]
  unfold boundAndCalled
  rw [FX.ga.bind]
  refine wpAny_bind (wpAny_pure ?_)
  show wpAny _ _ (call (.builtin "BaseException.__getattribute__") [.ref x, .str "__class__" t]) _ _ _
  refine wpAny_call ?_
  refine codeAny_call_builtin FX.ga.plain PySem.F.entry_bexc_ga ?_
  refine @PySem.W.check_slot (model prog w) _ _ ⟨h, g, d, t + 1, os⟩ "BaseException.__getattribute__" "BaseException" "__getattribute__" (.ref x) [.str "__class__" t] [] _ (by decide +kernel) (by decide +kernel) sub (PySem.F.args_bexc_ga (.ref x) (.str "__class__" t)) ?_
  unfold Builtin.«object.__getattribute__»
  refine wpAny_bind (wpAny_pure (wpAny_bind (wpAny_pure (wpAny_bind (L0.at (wpAny_bind (L1.at ?_)))))))
  show wpAny _ _ (holding [Value.builtin "object.__class__"] (call (.builtin "getset_descriptor.__get__") [.builtin "object.__class__", .ref x, .ref C]) >>= ret) _ _ _
  refine wpAny_bind (wpAny_holding (wpAny_call (PySem.W.class_get (s := ⟨h, g, d, t + 1, os⟩) (ox := ox) (od := od) Xk J (xmro c.cl "object" true rfl) ?_)))
  refine wpAny_pure ?_
  show wpAny _ _ (handedOut (.ref C)) _ _ _
  exact PySem.W.handed_on rfl (wpAny_pure hq)
theorem kitx_exc (c : XIs K C) : PySem.W.KitX K (.ref x) (.ref C) (fun h => PySem.W.InstAt h x ox C od) where
  ty := fun _ _ _ I => I.type
  it := fun _ _ Xk _ => by
    obtain ⟨cd, bm, hc, hm, tv, hd⟩ := c.cl.cls
    unfold PySem.W.clsIn at hc
    split at hc
    · rename_i c' d' cd' sl' ho
      intro A' Q' E' s' k q
      unfold isType loadHead
      exact wpAny_bind (wpAny_loadPart (k _ _ (Xk _ _ ho)) (wpAny_pure q))
    · cases hc
  ne := fun h tp dd its n sl Xk htp => by
    obtain ⟨cd, bm, hc, hm, tv, hd⟩ := c.cl.cls
    refine Bool.eq_false_iff.mpr fun q => ?_
    have e : C = tp := Value.ref.inj (beq_iff_eq.mp q)
    subst e
    unfold PySem.W.clsIn at hc
    split at hc
    · rename_i c' d' cd' sl' ho
      have z := (Xk _ _ ho).symm.trans htp
      cases z
    · cases hc
  ca := fun Xk I k => xclass Xk c I k
end
section
variable {X : Cx} {pins : List (Addr × Obj)} {σ : St} {H : Hp} {s : Shared} {a C : Addr} {od : Option Addr}
/-- a caught exception, as isinstance sees it -/
theorem Inv.gotAt (I : Inv X pins σ H s) (ea : H a = some (.ext (gotP a C od))) (ed : ∀ dx, od = some dx → ∃ fs, H dx = some (.ext (dctP dx fs))) : ∃ ox o, PySem.W.InstAt s.heap a ox C o := by
  obtain ⟨⟨vs, sl, eo⟩, _⟩ := I.hok a _ ea
  cases od with
  | none => exact ⟨_, none, eo, rfl, rfl, trivial⟩
  | some dx =>
    obtain ⟨fs, e⟩ := ed dx rfl
    obtain ⟨_, ⟨ob, e2⟩, _⟩ := I.hok dx _ e
    exact ⟨_, some ob, eo, rfl, rfl, e2⟩
/-- isinstance(e, D), e a caught exception, D a built-in class or an own one -/
theorem call_isX : CallR X (.builtin "isinstance") (fun xs H Q => ∃ a C od x b, xs = [.ref a, x] ∧ H a = some (.ext (gotP a C od)) ∧ (∀ dx, od = some dx → ∃ fs, H dx = some (.ext (dctP dx fs))) ∧ XIs X.K C ∧
    (∀ u, RelV x u → PySem.W.kitOne X.K (.ref C) u = some b) ∧ Q (.bl b) H) := by
  intro pins s σ H xs us Q I r h
  obtain ⟨a, C, od, x, b, rfl, ea, ed, c, e, q⟩ := h
  obtain ⟨u, w', rfl, rx, rc⟩ := vals2 r
  cases (show u = Value.ref a from rx)
  obtain ⟨ox, o, J⟩ := I.gotAt ea ed
  exact PySem.W.kia_one (kitx_exc c) I.kIn J (e w' rc) (fun z => nomatch z) fun tk => ⟨.bl b, H, I.tok tk, rfl, q⟩
/-- isinstance(e, (D, ..)) -/
theorem call_isXT : CallR X (.builtin "isinstance") (fun xs H Q => ∃ a C od p cs b, xs = [.ref a, .ref p] ∧ H a = some (.ext (gotP a C od)) ∧ (∀ dx, od = some dx → ∃ fs, H dx = some (.ext (dctP dx fs))) ∧ XIs X.K C ∧ SqT X.K H p cs ∧
    (∀ us, Vals cs us → PySem.W.kitAny X.K (.ref C) us = some b) ∧ Q (.bl b) H) := by
  intro pins s σ H xs us Q I r h
  obtain ⟨a, C, od, p, cs, b, rfl, ea, ed, c, hp, e, q⟩ := h
  obtain ⟨u, w', rfl, rx, rc⟩ := vals2 r
  cases (show u = Value.ref a from rx)
  cases (show w' = Value.ref p from rc)
  obtain ⟨ox, o, J⟩ := I.gotAt ea ed
  obtain ⟨its, r', ⟨ot, ho, hc, n, hd⟩, _⟩ := I.tuple hp
  obtain ⟨c0, d0, dt0, sl0⟩ := ot
  simp only at hc hd
  subst hc hd
  exact PySem.W.kia_tup (kitx_exc c) I.kIn J ho (e its r') (fun z => nomatch z) fun tk => ⟨.bl b, H, I.tok tk, rfl, q⟩
end
/-! ### except of a class above -/
section
variable {M : Model} {A : Around} {E : Value → Shared → Prop} {h : Heap} {g : Array GenState} {d : Drawn} {t : Nat} {os : OsState}
variable {nm q : Str} {C N : Addr} {bs bm : List Value} {sn : List Str} {sub : List Value} {ab : Bool} {col : Option Bool} {dd : Option Addr} {k0 k1 k2 k3 k5 : Option Value}
variable {nm' q' : Str} {D N' : Addr} {bs' bm' : List Value} {sn' : List Str} {sub' : List Value} {ab' : Bool} {col' : Option Bool} {dd' : Option Addr} {j0 j1 j2 j3 j5 : Option Value}
theorem xmatch {e : Addr} {oe : Obj} {b : Bool} {Q : Bool → Shared → Prop} (hC : h.get? C = some (excClassObj nm q C N bs bm true sn sub ab col dd k0 k1 k2 k3 k5 "ValueError.__new__"))
    (hD : h.get? D = some (excClassObj nm' q' D N' bs' bm' true sn' sub' ab' col' dd' j0 j1 j2 j3 j5 "ValueError.__new__")) (tD : tailV bm' = true) (he : h.get? e = some oe) (hcls : oe.cls = .ref C)
    (hb : (Value.ref C :: bm).contains (.ref D) = b) (hq : Q b ⟨h, g, d, t, os⟩) : wpAny M A (excMatches (.ref e) (.ref D)) Q E ⟨h, g, d, t, os⟩ := by
  have hcB : (Value.ref D :: bm').contains (.type "BaseException") = true := by rw [List.contains_cons, tailV_has (X := "BaseException") rfl tD]; rfl
  have f := tc_notTuple
  unfold excMatches
  repeat (first | (with_reducible refine wpAny_loadPart_at he ?_; rw [hcls]) | with_reducible refine wpAny_loadPart_at hD ?_ | (with_reducible refine wpAny_isSubtype_exc hD ?_; rw [hcB]) | (with_reducible refine wpAny_isSubtype_exc hC ?_; rw [hb]) | wp_step)
  cases b <;> (wp_walk; exact hq)
end
/-- C stands under D -/
def Under (K : PySem.W.Frag) (C D : Addr) : Prop := XCl K C ∧ PySem.W.mroIn K C (.ref D) = some true
theorem Under.has {K : PySem.W.Frag} {C D : Addr} (u : Under K C D) {nm q : Str} {N : Addr} {bs bm : List Value} {sn : List Str} {sub : List Value} {ab : Bool} {col : Option Bool} {dd : Option Addr} {k0 k1 k2 k3 k5 : Option Value}
    (lk : K.lookup C = some (excClassObj nm q C N bs bm true sn sub ab col dd k0 k1 k2 k3 k5 "ValueError.__new__")) : (Value.ref C :: bm).contains (.ref D) = true := by
  have e : PySem.W.clsIn K C = some ⟨nm, bs, .ref C :: bm, N, q, true, sn, sub, ab, col, false⟩ := by
    unfold PySem.W.clsIn
    rw [lk]
  have h := u.2
  unfold PySem.W.mroIn at h
  rw [e, Option.bind_some] at h
  exact Option.some.inj h
/-- what the body of a try must see to where it raises a class under CN: named, nameless -/
def EXu (K : PySem.W.Frag) (CN : Addr) (i : Nat) (ts : Addr → Addr → TS) (D : Ends) : XS := fun C od σ H => ∃ Cx, C = .ref Cx ∧ Under K Cx CN ∧ ∀ x, H x = none → ts x Cx (offName i D) (σ.set i (some (.ref x))) (upd H x (.ext (gotP x Cx od)))
def EXn (K : PySem.W.Frag) (CN : Addr) (ts : Addr → TS) (D : Ends) : XS := fun C od σ H => ∃ Cx, C = .ref Cx ∧ Under K Cx CN ∧ ∀ x, H x = none → ts x D σ (upd H x (.ext (gotP x Cx od)))
section
variable {X : Cx} {body : List Stmt} {cx n : Str} {b₀ : Stmt} {suite : List Stmt} {np hp pos : Pos} {CN : Addr} {i : Nat} {tb : Ends → TS} {tc : Addr → Addr → TS} {ts : Addr → TS}
theorem ps_tryU (hst : X.stack = X.env :: X.outer) (hfr : X.env.frame = some X.env.locals) (hN : X.N.Nodup) (hi : X.N[i]? = some n) (hk : X.env.scope.names.lookup n = some .local) (hg : Gl X cx) (hm : X.mg cx = some (.ref CN)) (c : XCl X.K CN)
    (hb : ∀ D pn XE, Lands (X.within pn XE) (EXu X.K CN i tc D) → PSs (X.within pn XE) body (tb D)) (hs : ∀ x C, PSs (X.caught x) (b₀ :: suite) (tc x C)) (hdb : (cx == ("__debug__" : Str)) = false := by decide) :
    PS X (.Try body [.ExceptHandler (some (.Name cx np)) (some n) (b₀ :: suite) hp] [] [] pos) (tTry tb) := by
  intro pins s σ H D I h
  refine wpAny_Try_except ?_
  refine wpAny_mono (hb D (X.pn ++ pins) (fun e s₁ => wpAny (model X.prog X.w) X.A (noteFrame e X.env) (fun _ s₂ => wpAny (model X.prog X.w) X.A (setFlight e none) (fun _ s₃ => wpAny (model X.prog X.w) X.A (handleBy e X.env [.ExceptHandler (some (.Name cx np)) (some n) (b₀ :: suite) hp]) (SP X pins D) X.xe s₃) X.xe s₂) X.xe s₁) ?_ [] s σ H D I.within h) (fun f s₁ hf => ?_) fun e s₁ z => z
  · intro pins' σ1 H1 s1 x C od I1' hx' xa' q
    have I1 : Inv X pins σ1 H1 s1 := I1'.out I.ok
    have hx : Our X pins H1 x := hx'.out
    have xa : XAt s1.heap (Our X pins H1) x C od .none := xa'.imp fun _ o => o.out
    obtain ⟨Cx, rfl, un, q⟩ := q
    have hfl : X.A.frames = some (X.env :: X.outer) := by rw [I.ok.frames, hst]
    have frn : ∀ {s' : Shared} {σ' : St} {H' : Hp}, Inv X pins σ' H' s' → ∀ b o, s'.heap.get? b = some o → b ∈ frs X.stack → ∀ vs, o.data ≠ .fields vs := fun {s' σ' H'} J b o e hb => by
      obtain ⟨_, o', ho', hn⟩ := J.stack.mem hb
      rw [e] at ho'
      cases ho'
      exact hn
    refine note_ok (base := X.base) hfl (by rw [← hst]; exact I1.stack) hfr xa (fun T hT => I1.our hT) fun h1 n1 xa1 => ?_
    have I2 := I1.noted hx (by rw [hst]; exact n1)
    refine land_ok (s := { s1 with heap := h1 }) (fr := frs X.stack) xa1 (frn I2) fun h2 n2 xa2 => ?_
    have I3 := I2.noted hx n2
    obtain ⟨nm, qn, N, bs, bm, sn, sub, ab, col, dd, k0, k1, k2, k3, k5, lk, tv⟩ := c.at_
    obtain ⟨nm', qn', N', bs', bm', sn', sub', ab', col', dd', j0, j1, j2, j3, j5, lk', tv'⟩ := un.1.at_
    refine wpAny_handleBy_cons (codeAny_handlers_test ?_) (by intro q; cases q)
    refine ld_glob (X := X.caught x) I3.caught hg hm ?_ hdb
    obtain ⟨vs, sl, v1, ex, ev1, tb2⟩ := id xa2
    refine xmatch (g := s1.gens) (d := s1.drawn) (t := s1.toks) (os := s1.os) (I3.kIn _ _ lk') (I3.kIn _ _ lk) tv ex rfl (un.has lk') ?_
    refine codeAny_handlers_suite_as ?_
    refine land_ok (s := { s1 with heap := h2 }) (fr := frs X.stack) xa2 (frn I3) fun h3 n3 xa3 => ?_
    have I4 := I3.noted hx n3
    obtain ⟨vs3, sl3, v3, ex3, _, _⟩ := id xa3
    have I5 : Inv X pins σ1 (upd H1 x (.ext (gotP x Cx od))) { s1 with heap := h3 } := I4.track hx (gotP_ok ex3)
    refine store_ok (X := X.caught x) I5.caught hN hi (.inl hk) (show RelV (.ref x) (.ref x) from rfl) (fun s6 I6 => ?_) (.inr hk)
    refine wpAny_mono (hs x Cx pins s6 _ _ (offName i D) I6 (q x hx.unt)) (fun f s7 hf => ?_) fun _ _ z => False.elim z
    have fin : ∀ {σ' : St} {H' : Hp} {Q : Unit → Shared → Prop}, Inv (X.caught x) pins σ' H' s7 → (∀ s', Inv X pins (σ'.set i none) H' s' → Q () s') → wpAny (model X.prog X.w) X.A (do bindName X.env n .none; unbindBehindTheSuite X.env n hp) Q X.xe s7 := fun {σ' H' Q} J kq => by
      have J' : Inv X pins σ' H' s7 := J.uncaught I.ok
      obtain ⟨m, hmn, hml⟩ := id J'.loc
      exact wpAny_nameGoes_keeps hk hmn (by rw [I.ok.kind]; rfl) fun h' v hn' sb => kq _ (J'.unname hN hi hn' hml sb)
    cases f with
    | next => obtain ⟨σ', H', J, z⟩ := hf; exact fin J fun s' J' => ⟨_, H', J', z⟩
    | brk => obtain ⟨σ', H', J, z⟩ := hf; exact fin J fun s' J' => ⟨_, H', J', z⟩
    | cont => obtain ⟨σ', H', J, z⟩ := hf; exact fin J fun s' J' => ⟨_, H', J', z⟩
    | ret u => obtain ⟨v, σ', H', J, r, z⟩ := hf; exact fin J fun s' J' => ⟨v, _, H', J', r, z⟩
  · have hf' := hf.out I.ok
    cases f with
    | next => exact wpAny_pure hf'
    | brk => exact hf'
    | cont => exact hf'
    | ret u => exact hf'
end
end L2

namespace L2
open PySem PySem.Spec PyProof.Rows
section
variable {X : Cx}
/-! ### a module's table of texts -/
def KTab (K : PySem.W.Frag) (a : Addr) (D : List (Str × KTD.Dat)) : Prop := KTD.tabLook (KTD.datLooks fun a => List.lookup a K) (fun a => List.lookup a K) a D = true
theorem ktab_here {pins : List (Addr × Obj)} {s : Shared} {σ : St} {H : Hp} {a : Addr} {D : List (Str × KTD.Dat)} (I : Inv X pins σ H s) (h : KTab X.K a D) : KTD.Here s.heap s.heap a D :=
  ⟨KTD.text_of_look (fun a o e => I.kIn a o e) h, fun _ _ e => e⟩
theorem op_in_tab : OpR X (compareOp .In) (fun x y H Q => ∃ z a D, x = .str z ∧ y = .ref a ∧ KTab X.K a D ∧ Q (.bl (KTD.inKeys z D)) H) := by
  intro pins s σ H x y v u Q I rx ry h
  obtain ⟨z, a, D, rfl, rfl, hk, q⟩ := h
  obtain ⟨t, rfl⟩ := rx
  cases ry
  exact KTD.in_text (ktab_here I hk) ⟨.bl _, H, I.tok _, rfl, q⟩
/-- .. whose values are texts -/
theorem ix_tab : IxR X (fun x y H Q => ∃ (z : Str) (a : Addr) (D : List (Str × Str)) (c : Str), x = .ref a ∧ y = .str z ∧ KTab X.K a (D.map fun p => (p.1, KTD.Dat.flat (.str p.2))) ∧ D.lookup z = some c ∧ Q (.str c) H) := by
  intro value slice pins s σ H x y v u Q I rx ry h hs
  obtain ⟨z, a, D, c, rfl, rfl, hk, hc, q⟩ := h
  cases rx
  obtain ⟨t, rfl⟩ := ry
  have hm : ∀ (D : List (Str × Str)), D.lookup z = some c → KTD.inKeys z (D.map fun p => (p.1, KTD.Dat.flat (PyData.str p.2))) = true ∧ ∀ P : Value → Prop, (∀ t, P (.str c t)) → KTD.EachL s.heap z P (D.map fun p => (p.1, KTD.Dat.flat (PyData.str p.2))) := by
    intro D
    induction D with
    | nil => intro h; cases h
    | cons p D ih =>
      intro h
      by_cases e : z = p.1
      · have hp : p.2 = c := by
          rw [List.lookup_cons, beq_iff_eq.mpr e] at h
          exact Option.some.inj h
        refine ⟨?_, fun P hP => KTD.eachL_hit e ?_⟩
        · show (decide (z = p.1) || _) = true
          rw [decide_eq_true e]; rfl
        · rw [hp]
          exact KTD.opened_str hP
      · have h' : D.lookup z = some c := by
          rw [List.lookup_cons, beq_eq_false_iff_ne.mpr e] at h
          exact h
        refine ⟨?_, fun P hP => KTD.eachL_miss e ((ih h').2 P hP)⟩
        show (decide (z = p.1) || _) = true
        rw [(ih h').1]; simp
  have hpl : ∀ D : List (Str × Str), ((D.map fun p => (p.1, KTD.Dat.flat (PyData.str p.2))).all fun p => KTD.plain p.2) = true := by
    intro D
    induction D with
    | nil => rfl
    | cons p D ih => rw [List.map_cons, List.all_cons, ih]; rfl
  exact KTD.item_textA (ktab_here I hk) (hpl D) (hm D hc).1 ((hm D hc).2 _ fun t => ⟨.str c, H, I.tok _, ⟨t, rfl⟩, q⟩) hs
/-! ### replace of written texts -/
variable {n : Nat}
def tRep (y z : Str) (to : TE) : TE := fun σ H Q => to σ H fun x H1 => ∃ w, x = .str w ∧ w.length ≤ 1048576 ∧ Q (.str (Txt.replace w y z)) H1
/-! ### a test that spends a token -/
def PT1 (X : Cx) (e : Expr) (t : TT) : Prop :=
  ∀ (pins : List (Addr × Obj)) (s : Shared) (σ : St) (H : Hp) (Q : Bool → Hp → Prop), Inv X pins σ H s → t σ H Q → wpAny (model X.prog X.w) X.A (isTrue e X.env (eval e X.env)) (fun b s' => 1 ≤ s'.toks ∧ TP X pins σ Q b s') X.xe s
end
end L2

/-! replace OF ONE SIGN, sign by sign (own work). -/
namespace Rp
open PySem PySem.StrLaws PySem.Builtin PySem.Builtin.Str
def sw (c : Nat) (m : List Nat) (d : Nat) : List Nat := if d = c then m else [d]
theorem sw_free {c : Nat} {m : List Nat} : ∀ {l : List Nat}, c ∉ l → l.flatMap (sw c m) = l
  | [], _ => rfl
  | d :: l, h => by
    have h1 : ¬ d = c := fun e => h (by rw [e]; exact List.mem_cons_self)
    have h2 : c ∉ l := fun e => h (List.mem_cons_of_mem _ e)
    rw [List.flatMap_cons, sw_free h2]
    unfold sw
    rw [if_neg h1]
    rfl
theorem glued_one (z p : Str) : (glued z [p]).cps.toList = p.cps.toList := rfl
theorem fold_glue (z : Str) : ∀ (l : List Str) (a : Array Nat), (l.foldl (fun acc p => acc ++ z.cps ++ p.cps) a).toList = a.toList ++ (l.foldl (fun acc p => acc ++ z.cps ++ p.cps) #[]).toList
  | [], a => by simp
  | p :: l, a => by
    rw [List.foldl_cons, List.foldl_cons, fold_glue z l (a ++ z.cps ++ p.cps), fold_glue z l (#[] ++ z.cps ++ p.cps)]
    simp
theorem glued_two (z p q : Str) (r : List Str) : (glued z (p :: q :: r)).cps.toList = p.cps.toList ++ (z.cps.toList ++ (glued z (q :: r)).cps.toList) := by
  show ((q :: r).foldl (fun acc p => acc ++ z.cps ++ p.cps) p.cps).toList = p.cps.toList ++ (z.cps.toList ++ (r.foldl (fun acc p => acc ++ z.cps ++ p.cps) q.cps).toList)
  rw [List.foldl_cons, fold_glue, fold_glue z r q.cps]
  simp
theorem run (x z : Str) (c : Nat) : ∀ (cuts : List Nat) (a f : Nat), a ≤ x.length → ChainG x ⟨#[c]⟩ x.length a cuts f → (∀ k, f ≤ k → ¬ At x ⟨#[c]⟩ x.length k) →
    (glued z (partsFrom x 1 a cuts)).cps.toList = (x.cps.toList.drop a).flatMap (sw c z.cps.toList)
  | [], a, f, ha, h, hn => by
    have e : f = a := h
    subst e
    show (glued z [strSub x f x.length]).cps.toList = _
    rw [glued_one]
    have hf := part_free x c f x.length (Nat.le_refl _) fun k h1 _ => hn k h1
    have hl : x.cps.toList.length = x.length := by simp [Str.length]
    rw [strSub_toList] at hf ⊢
    rw [List.take_of_length_le (by rw [List.length_drop, hl]; exact Nat.le_refl _)] at hf ⊢
    rw [sw_free hf]
  | d :: r, a, f, ha, h, hn => by
    have hd1 : d + 1 ≤ x.length := h.2.1.1
    have hc := (subAt_one x c d).mp h.2.1
    have hf := part_free x c a d (by omega) h.2.2.1
    have ih := run x z c r (d + 1) f hd1 h.2.2.2 hn
    obtain ⟨q, r', e⟩ := partsFrom_ne x 1 (d + 1) r
    show (glued z (strSub x a d :: partsFrom x 1 (d + 1) r)).cps.toList = _
    rw [e] at ih ⊢
    rw [glued_two, ih]
    rw [strSub_toList] at hf ⊢
    have hl : x.cps.toList.length = x.length := by simp [Str.length]
    have e2 : x.cps.toList.drop a = (x.cps.toList.drop a).take (d - a) ++ c :: x.cps.toList.drop (d + 1) := by
      conv => lhs; rw [← List.take_append_drop (d - a) (x.cps.toList.drop a)]
      rw [List.drop_drop]
      have e3 : a + (d - a) = d := by have := h.1; omega
      rw [e3]
      obtain ⟨hlt, ec⟩ := List.getElem?_eq_some_iff.mp hc
      rw [List.drop_eq_getElem_cons hlt, ec]
    conv => rhs; rw [e2]
    rw [List.flatMap_append, sw_free hf, List.flatMap_cons]
    congr 1
    unfold sw
    rw [if_pos rfl]
theorem replace_one (x z : Str) (c : Nat) : (Txt.replace x ⟨#[c]⟩ z).cps.toList = x.cps.toList.flatMap (sw c z.cps.toList) := by
  obtain ⟨f, h1, h2⟩ := occ_tight x ⟨#[c]⟩ (by show 1 ≤ 1; exact Nat.le_refl _)
  have hr := run x z c _ 0 f (Nat.zero_le _) h1 h2
  rw [List.drop_zero] at hr
  unfold Txt.replace
  split
  · rename_i h
    have h0 : (occurrences x ⟨#[c]⟩ 0 x.length (x.length + 1)).isEmpty = true := by
      have e1 : ((⟨#[c]⟩ : Str).length == 0) = false := rfl
      rw [e1, Bool.false_and, Bool.or_false] at h
      exact h
    rw [List.isEmpty_iff] at h0
    rw [h0] at h1 hr
    rw [← hr]
    show x.cps.toList = (strSub x 0 x.length).cps.toList
    rw [strSub_toList]
    have hl : x.cps.toList.length = x.length := by simp [Str.length]
    rw [List.drop_zero, List.take_of_length_le (by rw [hl]; omega)]
  · rw [partsBetween_eq]
    exact hr
end Rp

/-! COMPREHENSIONS AND CALLS THAT ASK TOKENS, split (own work). -/
namespace L2
open PySem PySem.Spec PyProof.Rows
section
variable {X : Cx} {n : Nat}
section
variable {osc scope : Scope} {N0 xs : List Str} {fr : List Nat} {elt tg iter : Expr} {ifs : List Expr} {pos : Pos} {wi : TI} {g : TG} {tt : TT} {te : TE}
end
theorem vals_strsFrom : ∀ (xs : List Str) (k : Nat), Vals (xs.map V.str) (strsFrom k xs)
  | [], _ => .nil
  | x :: xs, k => .cons ⟨k, rfl⟩ (vals_strsFrom xs (k + 1))
/-- x.split(y) -/
theorem mt_split : MtR X "str.split" (fun x xs H Q => ∃ (z y : Str), x = .str z ∧ xs = [.str y] ∧ (y.length == 0) = false ∧ z.length < sizeLine ∧ (Txt.split z y).length ≤ sizeLine ∧
    ∀ p, H p = none → Q (.ref p) (upd H p (.lst ((Txt.split z y).map V.str)))) := by
  intro pins s σ H x xs v us Q I rx r h
  obtain ⟨z, y, rfl, rfl, hy, hz, hl, q⟩ := h
  obtain ⟨t, rfl⟩ := rx
  obtain ⟨u, rfl, t', rfl⟩ := vals1 r
  have hf := I.hok.fresh (Nat.le_refl s.heap.objs.size)
  have q' := q _ hf
  have one : ∀ tk : Nat, Txt.split z y = [z] → EP X pins σ Q (.ref s.heap.objs.size) { s with heap := s.heap.push { cls := .type "list", data := .seq [Value.str z t].toArray }, toks := tk } := fun tk e => by
    rw [e] at q'
    exact ⟨.ref s.heap.objs.size, _, I.lnew (its := [.str z t]) (ys := [.str z]) (t' := tk) (.cons ⟨t, rfl⟩ .nil) (by show 1 ≤ sizeLine; decide), rfl, q'⟩
  cases h1 : (decide (z.length < y.length) || decide (Builtin.Str.strKind z < Builtin.Str.strKind y))
  · cases hf2 : (Builtin.Str.occurrences z y 0 z.length (z.length + 1)).isEmpty
    · have e : Txt.split z y = Builtin.Str.partsBetween z (Builtin.Str.occurrences z y 0 z.length (z.length + 1)) y.length := by
        unfold Txt.split
        rw [h1, if_neg Bool.false_ne_true, hf2, if_neg Bool.false_ne_true]
      rw [e] at q' hl
      refine call_meets F.slot_str_split (typeIs_str _ _ _) F.entry_str_split (F.args_str_split_2 _ _) (meets_str_split_sep z y t t' h1 hy hf2 (Nat.le_of_lt hz) hl) ?_
      exact ⟨.ref s.heap.objs.size, _, I.lnew (vals_strsFrom _ _) (by rw [List.length_map]; exact hl), rfl, q'⟩
    · refine call_meets F.slot_str_split (typeIs_str _ _ _) F.entry_str_split (F.args_str_split_2 _ _) (meets_str_split_not_found z y t t' h1 hy hf2) ?_
      exact one s.toks (by unfold Txt.split; rw [h1, if_neg Bool.false_ne_true, hf2, if_pos rfl])
  · refine call_meets F.slot_str_split (typeIs_str _ _ _) F.entry_str_split (F.args_str_split_2 _ _) (meets_str_split_cannot_occur z y t t' h1) ?_
    exact one s.toks (by unfold Txt.split; rw [h1, if_pos rfl])
end
end L2
namespace Rp
open PySem PySem.StrLaws PySem.Builtin PySem.Builtin.Str
/-- cut at each c -/
def cutAt (c : Nat) : List Nat → List (List Nat)
  | [] => [[]]
  | d :: l => if d = c then [] :: cutAt c l else match cutAt c l with
    | h :: t => (d :: h) :: t
    | [] => [[d]]
theorem cut_free {c : Nat} : ∀ {l : List Nat}, c ∉ l → cutAt c l = [l]
  | [], _ => rfl
  | d :: l, h => by
    have h1 : ¬ d = c := fun e => h (by rw [e]; exact List.mem_cons_self)
    have h2 : c ∉ l := fun e => h (List.mem_cons_of_mem _ e)
    unfold cutAt
    rw [if_neg h1, cut_free h2]
theorem cut_app {c : Nat} : ∀ {p : List Nat} (q : List Nat), c ∉ p → cutAt c (p ++ c :: q) = p :: cutAt c q
  | [], q, _ => by
    show (if c = c then [] :: cutAt c q else _) = _
    rw [if_pos rfl]
  | d :: p, q, h => by
    have h1 : ¬ d = c := fun e => h (by rw [e]; exact List.mem_cons_self)
    have h2 : c ∉ p := fun e => h (List.mem_cons_of_mem _ e)
    rw [List.cons_append]
    show (if d = c then [] :: cutAt c (p ++ c :: q) else match cutAt c (p ++ c :: q) with
      | h :: t => (d :: h) :: t
      | [] => [[d]]) = _
    rw [if_neg h1, cut_app q h2]
theorem cut_run (x : Str) (c : Nat) : ∀ (cuts : List Nat) (a f : Nat), a ≤ x.length → ChainG x ⟨#[c]⟩ x.length a cuts f → (∀ k, f ≤ k → ¬ At x ⟨#[c]⟩ x.length k) →
    (partsFrom x 1 a cuts).map (fun p => p.cps.toList) = cutAt c (x.cps.toList.drop a)
  | [], a, f, ha, h, hn => by
    have e : f = a := h
    subst e
    have hf := part_free x c f x.length (Nat.le_refl _) fun k h1 _ => hn k h1
    have hl : x.cps.toList.length = x.length := by simp [Str.length]
    show [(strSub x f x.length).cps.toList] = _
    rw [strSub_toList] at hf ⊢
    rw [List.take_of_length_le (by rw [List.length_drop, hl]; exact Nat.le_refl _)] at hf ⊢
    rw [cut_free hf]
  | d :: r, a, f, ha, h, hn => by
    have hd1 : d + 1 ≤ x.length := h.2.1.1
    have hc := (subAt_one x c d).mp h.2.1
    have hf := part_free x c a d (by omega) h.2.2.1
    have ih := cut_run x c r (d + 1) f hd1 h.2.2.2 hn
    show (strSub x a d).cps.toList :: (partsFrom x 1 (d + 1) r).map (fun p => p.cps.toList) = _
    rw [ih]
    rw [strSub_toList] at hf ⊢
    have e2 : x.cps.toList.drop a = (x.cps.toList.drop a).take (d - a) ++ c :: x.cps.toList.drop (d + 1) := by
      conv => lhs; rw [← List.take_append_drop (d - a) (x.cps.toList.drop a)]
      rw [List.drop_drop]
      have e3 : a + (d - a) = d := by have := h.1; omega
      rw [e3]
      obtain ⟨hlt, ec⟩ := List.getElem?_eq_some_iff.mp hc
      rw [List.drop_eq_getElem_cons hlt, ec]
    conv => rhs; rw [e2]
    rw [cut_app _ hf]
theorem split_one (x : Str) {c : Nat} (hc : c < 256) : (Txt.split x ⟨#[c]⟩).map (fun p => p.cps.toList) = cutAt c x.cps.toList := by
  obtain ⟨f, h1, h2⟩ := occ_tight x ⟨#[c]⟩ (by show 1 ≤ 1; exact Nat.le_refl _)
  have hr := cut_run x c _ 0 f (Nat.zero_le _) h1 h2
  rw [List.drop_zero] at hr
  have hl : x.cps.toList.length = x.length := by simp [Str.length]
  have k1 : PySem.Builtin.Str.strKind (⟨#[c]⟩ : Str) = 1 := by
    unfold PySem.Builtin.Str.strKind
    rw [if_pos]
    simp [hc]
  have k2 : decide (PySem.Builtin.Str.strKind x < PySem.Builtin.Str.strKind (⟨#[c]⟩ : Str)) = false := by
    rw [k1]
    refine decide_eq_false ?_
    unfold PySem.Builtin.Str.strKind
    split
    · decide
    · split <;> decide
  unfold Txt.split
  rw [k2, Bool.or_false]
  by_cases h0 : x.length < (⟨#[c]⟩ : Str).length
  · rw [if_pos (decide_eq_true h0)]
    have e0 : x.cps.toList = [] := List.eq_nil_of_length_eq_zero (by rw [hl]; have : x.length < 1 := h0; omega)
    show [x.cps.toList] = _
    rw [e0]
    rfl
  · rw [if_neg (fun z => h0 (of_decide_eq_true z))]
    split
    · rename_i h
      rw [List.isEmpty_iff] at h
      rw [h] at hr
      rw [← hr]
      show [x.cps.toList] = [(strSub x 0 x.length).cps.toList]
      rw [strSub_toList, List.drop_zero, List.take_of_length_le (by rw [hl]; omega)]
    · rw [partsBetween_eq]
      exact hr
end Rp

namespace Kx
open Nm PySem.NumText
/-! ### kinds as texts, without the program: texts are lists of signs -/
def dig (c : Nat) : Bool := decide (48 ≤ c) && decide (c ≤ 57)
def sgn (c : Nat) : Bool := decide (32 ≤ c) && decide (c ≤ 126) && !decide (c = 37)
/-- a number as it is written -/
def nl (n : Int) : List Nat := if n < 0 then 45 :: figs n.natAbs else figs n.natAbs
/-- what stands behind a minus -/
def fg (l : List Nat) : List Nat := match l with
  | [] => []
  | c :: r => if c = 45 then r else c :: r
def negd (l : List Nat) : Bool := match l with
  | [] => false
  | c :: _ => decide (c = 45)
def numOf (l : List Nat) : Int := if negd l = true then -(digitsVal (fg l) : Int) else (digitsVal (fg l) : Int)
def wholeOf (l : List Nat) : Option Int := if (fg l).length < 1 ∨ 400 < (fg l).length then none else if (fg l).all dig = true then if nl (numOf l) = l then some (numOf l) else none else none
def esc1 (c : Nat) : Option Nat := if c = 92 then some 92 else if c = 95 then some 32 else if c = 99 then some 44 else if c = 115 then some 59 else none
def bare (c : Nat) : Bool := sgn c && !(decide (c = 32) || decide (c = 44) || decide (c = 59))
/-- a written text read: a backslash was ahead or not -/
def wd : Bool → List Nat → Option (List Nat)
  | false, [] => some []
  | true, [] => none
  | true, c :: r => match esc1 c with
    | some d => (wd false r).map (d :: ·)
    | none => none
  | false, c :: r => if c = 92 then wd true r else if bare c = true then (wd false r).map (c :: ·) else none
def wordOf (l : List Nat) : Option (List Nat) := wd false l
/-- ahead of the first colon, and behind it -/
def hd (l : List Nat) : List Nat := l.takeWhile fun c => !decide (c = 58)
def bk (l : List Nat) : List Nat := (l.dropWhile fun c => !decide (c = 58)).drop 1
inductive In1 where
  | one (s : List Nat) | num (s : List Nat) (n : Int) | txt (s x : List Nat)
  deriving DecidableEq
inductive Kd where
  | pl (i : In1) | key | sub (s : List Nat) (i : In1)
  deriving DecidableEq
def sWhole : List Nat := [119, 104, 111, 108, 101]
def sWord : List Nat := [119, 111, 114, 100]
def sBelow : List Nat := [98, 101, 108, 111, 119]
def sUpto : List Nat := [117, 112, 116, 111]
def sWithout : List Nat := [119, 105, 116, 104, 111, 117, 116]
def sKey : List Nat := [107, 101, 121]
def sList : List Nat := [108, 105, 115, 116]
def sSome : List Nat := [115, 111, 109, 101]
def sOnce : List Nat := [111, 110, 99, 101]
def inSub (s : List Nat) : Bool := decide (s = sList) || decide (s = sSome) || decide (s = sOnce)
def hasC (l : List Nat) : Bool := l.any fun c => decide (c = 58)
def innerOf (l : List Nat) : Option In1 := if hasC l = true then if hd l = sWithout then (wordOf (bk l)).map (In1.txt (hd l)) else (wholeOf (bk l)).map (In1.num (hd l)) else some (.one l)
def plainI : In1 → Bool
  | .one s => decide (s = sWhole) || decide (s = sWord)
  | .num s n => (decide (s = sBelow) && decide (1 ≤ n)) || decide (s = sUpto)
  | .txt s x => decide (s = sWithout) && (match x with | [c] => sgn c | _ => false)
def plainOf (l : List Nat) : Option In1 := (innerOf l).filter plainI
def kindOf (l : List Nat) : Option Kd := if inSub (hd l) = true then (plainOf (bk l)).map (Kd.sub (hd l)) else if l = sKey then some .key else (plainOf l).map Kd.pl
/-! ### numbers -/
theorem dig_of {l : List Nat} (h : AllDigits l) : l.all dig = true := by
  rw [List.all_eq_true]
  intro c hc
  have := h c hc
  simp [dig, this.1, this.2]
theorem fg_nl (n : Int) : fg (nl n) = figs n.natAbs ∧ negd (nl n) = decide (n < 0) := by
  unfold nl
  split
  · rename_i h
    exact ⟨rfl, by rw [decide_eq_true h]; rfl⟩
  · rename_i h
    have hn := figs_ne n.natAbs
    have hd := figs_digits n.natAbs
    cases e : figs n.natAbs with
    | nil => exact absurd e hn
    | cons c r =>
      have h1 := hd c (by rw [e]; exact List.mem_cons_self)
      have h2 : ¬ c = 45 := by omega
      exact ⟨by simp [fg, h2], by simp [negd, h2, h]⟩
theorem numOf_nl (n : Int) : numOf (nl n) = n := by
  obtain ⟨h1, h2⟩ := fg_nl n
  unfold numOf
  rw [h1, h2, figs_val]
  by_cases h : n < 0
  · simp [h]; omega
  · simp [h]; omega
theorem whole_nl {n : Int} (h : n.natAbs < 10 ^ 400) : wholeOf (nl n) = some n := by
  have hl : (figs n.natAbs).length ≤ 400 := (figs_len (by decide)).mpr h
  have h0 : 0 < (figs n.natAbs).length := List.length_pos_iff.mpr (figs_ne _)
  unfold wholeOf
  rw [(fg_nl n).1, numOf_nl, if_neg (by omega), if_pos (dig_of (figs_digits _)), if_pos rfl]
theorem whole_bad {l : List Nat} {c : Nat} (hc : c ∈ l) (hd : dig c = false) (h45 : c ≠ 45) : wholeOf l = none := by
  have hm : c ∈ fg l := by
    cases l with
    | nil => cases hc
    | cons a r =>
      show c ∈ (if a = 45 then r else a :: r)
      by_cases e : a = 45
      · rw [if_pos e]
        rcases List.mem_cons.mp hc with h | h
        · exact absurd (h.trans e) h45
        · exact h
      · rw [if_neg e]; exact hc
  have hn : ¬ (fg l).all dig = true := fun h => by
    have := (List.all_eq_true.mp h) c hm
    rw [hd] at this; cases this
  unfold wholeOf
  by_cases e : (fg l).length < 1 ∨ 400 < (fg l).length
  · rw [if_pos e]
  · rw [if_neg e, if_neg hn]
/-! ### the drawn plain kinds -/
inductive Pk where
  | whole | word | below (n : Int) | upto (n : Int) | without (c : Nat)
def escd (c : Nat) : List Nat := if c = 92 then [92, 92] else if c = 32 then [92, 95] else if c = 44 then [92, 99] else if c = 59 then [92, 115] else [c]
def Pk.text : Pk → List Nat
  | .whole => sWhole
  | .word => sWord
  | .below n => sBelow ++ 58 :: nl n
  | .upto n => sUpto ++ 58 :: nl n
  | .without c => sWithout ++ 58 :: escd c
def Pk.inn : Pk → In1
  | .whole => .one sWhole
  | .word => .one sWord
  | .below n => .num sBelow n
  | .upto n => .num sUpto n
  | .without c => .txt sWithout [c]
def signs : List Nat := (List.range 127).filter sgn
def Pk.Ok : Pk → Prop
  | .whole => True
  | .word => True
  | .below n => 1 ≤ n ∧ n.natAbs < 10 ^ 400
  | .upto n => n.natAbs < 10 ^ 400
  | .without c => c ∈ signs
def ins (k : Nat) (l : List Nat) : List Nat := l.take k ++ 81 :: l.drop k
def sufs : List (List Nat) := [[58, 81], [32], [44]]
/-! ### the drawn kinds -/
inductive Dk where
  | pl (p : Pk) | key | sub (s : Fin 3) (p : Pk)
def sSub (s : Fin 3) : List Nat := match s with | 0 => sList | 1 => sSome | 2 => sOnce
def Dk.text : Dk → List Nat
  | .pl p => p.text
  | .key => sKey
  | .sub s p => sSub s ++ 58 :: p.text
def Dk.kd : Dk → Kd
  | .pl p => .pl p.inn
  | .key => .key
  | .sub s p => .sub (sSub s) p.inn
def Dk.Ok : Dk → Prop
  | .pl p => p.Ok
  | .key => True
  | .sub _ p => p.Ok
def odd : List (List Nat) := [[], [98, 101, 108, 111, 119, 58, 48], [98, 101, 108, 111, 119, 58, 45, 51], [98, 101, 108, 111, 119, 58], [98, 101, 108, 111, 119], [117, 112, 116, 111, 58], [117, 112, 116, 111, 58, 43, 49], [117, 112, 116, 111, 58, 48, 49], [117, 112, 116, 111, 58, 45, 48], [117, 112, 116, 111, 58, 49, 32], [119, 105, 116, 104, 111, 117, 116, 58], [119, 105, 116, 104, 111, 117, 116, 58, 97, 98], [119, 105, 116, 104, 111, 117, 116, 58, 32], [119, 105, 116, 104, 111, 117, 116, 58, 44], [119, 105, 116, 104, 111, 117, 116, 58, 92], [119, 105, 116, 104, 111, 117, 116, 58, 92, 97], [119, 105, 116, 104, 111, 117, 116], [108, 105, 115, 116, 58], [108, 105, 115, 116, 58, 107, 101, 121], [108, 105, 115, 116, 58, 108, 105, 115, 116, 58, 119, 104, 111, 108, 101], [115, 111, 109, 101, 58, 111, 110, 99, 101, 58, 119, 111, 114, 100], [111, 110, 99, 101, 58, 107, 101, 121], [108, 105, 115, 116], [87, 104, 111, 108, 101], [98, 101, 108, 111, 119, 32, 51], [119, 111, 114, 100, 115], [107, 101, 121, 58], [58, 119, 104, 111, 108, 101], [119, 104, 111, 108, 101, 58, 119, 111, 114, 100], [108, 105, 115, 116, 58, 119, 104, 111, 108, 101, 58]]
end Kx

namespace My
open PySem L2 PyProof.Rows
seal L2.PE L2.PT L2.PW L2.PS L2.PSs L2.PA L2.PI L2.PG L2.PGs L2.OpR L2.UnR L2.CallR L2.IxR L2.SlR L2.MtR L2.PIf L2.PO L2.MtM L2.PC L2.PIp L2.PSet L2.PGet L2.TruR L2.InOp L2.PK
def top (i : Nat) : Stmt := PySem.Challenge.pw_halfmoved_k43_texts_that_are_no_values.main.body.getD i (.Pass ⟨0, 0, 0, 0⟩)
section
variable {P : Program} {w : World} {K : PySem.W.Frag} {mg : Str → Option Value} {base : Heap}
theorem ok_cell {f : Addr} {fd : FuncData} (F : Fun K "_law_cell" "_law_cell" (top 31) f fd) (B : Bl mg) : FnOk P w K mg base CX0 1 f fd ["_law_script", "_law_k"] (spCell K) := by
  have sc : FnScope ["_law_script", "_law_k", "_law_number"] ["_law_script", "_law_k"] (defScope (top 31)) := ⟨rfl, rfl, rfl, by decide +kernel, rfl, by decide +kernel, by decide +kernel⟩
  refine F.ok sc (fun vs H Q E h => ?_) (fun cdv A outer s H vs Q E hr h => ?_)
  · obtain ⟨a, ns, k, rfl, _⟩ := h
    rfl
  · obtain ⟨a, ns, k, rfl, hS, h0, h1, h63, q⟩ := h
    have hl : (ns.map V.int).length = ns.length := List.length_map ..
    refine ⟨_, pss_cons (ps_if (pt_cmpR op_lt (pv 1) (pe_callB call_len_seq (by rfl) B.len PySem.boot_len (pa_cons (pv 0) pa_nil)) (nomark _)) (pss_one (ps_ret (pe_ix ix_list (pv 0) (pv 1) (fun _ _ => rfl)))) pss_nil)
      (pss_cons (ps_set (i := 2) sc.nd rfl (Or.inl rfl) (pe_op op_add (pe_op op_mul (pv 1) pe_int) pe_int))
      (pss_cons (ps_if (pt_cmpR op_gt (pe_callB call_len_seq (by rfl) B.len PySem.boot_len (pa_cons (pv 0) pa_nil)) pe_int (nomark _))
        (pss_one (ps_set (i := 2) sc.nd rfl (Or.inl rfl) (pe_op op_add (pv 2) (pe_op op_mul (pe_op op_mod (pe_ix ix_list (pv 0) (pe_op op_mod (pv 1) (pe_callB call_len_seq (by rfl) B.len PySem.boot_len (pa_cons (pv 0) pa_nil))) (fun _ _ => rfl)) pe_int) pe_int)))) pss_nil)
      (pss_one (ps_ret (pe_op op_mod (pv 2) pe_int))))), ?_⟩
    refine ⟨_, rfl, _, rfl, _, _, rfl, .inl hS, _, _, rfl, rfl, _, rfl, ?_⟩
    refine ite2 (fun c => ?_) (fun c => ?_)
    · have c' : k < ns.length := by rw [← hl]; exact of_decide_eq_true c
      refine ⟨_, rfl, _, rfl, _, _, _, _, rfl, rfl, hS, item_ints h0 c', ?_⟩
      have e : cellF ns k = ns.getD k.toNat 0 := by unfold cellF; rw [if_pos c']
      rw [e] at q
      exact q
    · have c' : ¬ k < ns.length := fun z => c (decide_eq_true (by rw [hl]; exact z))
      refine ⟨_, rfl, _, _, rfl, rfl, .inr ⟨by decide, by decide⟩, _, _, rfl, rfl, ?_⟩
      refine ⟨_, rfl, _, _, rfl, .inl hS, _, _, rfl, rfl, _, rfl, ?_⟩
      refine ite2 (fun c2 => ?_) (fun c2 => ?_)
      · have c3 : (0 : Int) < ns.length := by rw [← hl]; exact of_decide_eq_true c2
        have m0 : 0 ≤ k % (ns.length : Int) := Int.emod_nonneg _ (by omega)
        have m1 : k % (ns.length : Int) < ns.length := Int.emod_lt_of_pos _ c3
        refine ⟨_, rfl, _, rfl, _, rfl, _, rfl, _, _, rfl, .inl hS, _, _, rfl, rfl, (by rw [hl]; exact c3), _, _, _, _, rfl, rfl, hS, (by rw [hl]; exact item_ints m0 m1), _, _, rfl, rfl, (pos rfl), _, _, rfl, rfl, .inr ⟨by decide, by decide⟩, _, _, rfl, rfl, ?_⟩
        refine ⟨_, rfl, _, _, rfl, rfl, (pos rfl), ?_⟩
        have e : cellF ns k = (k * 7919 + 5 + ns.getD (k % ns.length).toNat 0 % 2147483647 * 48271) % 2147483647 := by
          unfold cellF
          rw [if_neg c', if_pos (by omega)]
        rw [e] at q
        exact q
      · have c3 : ¬ 0 < ns.length := fun z => c2 (decide_eq_true (by rw [hl]; omega))
        refine ⟨_, rfl, _, _, rfl, rfl, (pos rfl), ?_⟩
        have e : cellF ns k = (k * 7919 + 5) % 2147483647 := by
          unfold cellF
          rw [if_neg c', if_neg c3, Int.add_zero]
        rw [e] at q
        exact q

theorem ok_whole {f : Addr} {fd : FuncData} (F : Fun K "is_whole" "is_whole" (top 11) f fd) (B : Bl mg) : FnOk P w K mg base CX0 1 f fd ["thing"] (spWhole K) := by
  have sc : FnScope ["thing"] ["thing"] (defScope (top 11)) := ⟨rfl, rfl, rfl, by decide +kernel, rfl, by decide +kernel, by decide +kernel⟩
  refine F.ok sc (fun vs H Q E h => ?_) (fun cdv A outer s H vs Q E hr h => ?_)
  · obtain ⟨v, n, rfl, _⟩ := h
    rfl
  · obtain ⟨v, n, rfl, ⟨ty, hn⟩, q⟩ := h
    refine ⟨_, pss_one (ps_ret (pe_and (pe_callB call_isi (by rfl) B.isi boot_isi (pa_cons (pv 0) (pa_cons (pe_bltn (v := .ty "int") (by rfl) B.int boot_int rfl) pa_nil)))
      (pe_one (pe_not (pe_callB call_isi (by rfl) B.isi boot_isi (pa_cons (pv 0) (pa_cons (pe_bltn (v := .ty "bool") (by rfl) B.bool boot_bool rfl) pa_nil))))))), ?_⟩
    refine ⟨_, rfl, _, _, _, _, rfl, ty, kit_eq.trans (kit_int n hn), _, rfl, ?_⟩
    refine ite2 (fun c => ?_) (fun c => ?_)
    · refine ⟨_, rfl, _, _, _, _, rfl, ty, kit_eq.trans (kit_bool n hn), _, rfl, ?_⟩
      have e : (!(n == "bool")) = (n == "int") := by
        revert c hn
        clear ty q
        revert n
        decide +kernel
      rw [e]
      exact q
    · have e : (n == "int") = false := by
        cases z : n == "int" with
        | false => rfl
        | true => rw [z] at c; exact (c rfl).elim
      rw [e] at q
      exact q

/-! ### kinds and values, as the law sees them -/
inductive Pk where
  | whole | below (n : Int) | upto (n : Int) | word | without (c : Nat)
def Pk.name : Pk → Str
  | .whole => "whole"
  | .below _ => "below"
  | .upto _ => "upto"
  | .word => "word"
  | .without _ => "without"
def Pk.vs : Pk → List V
  | .whole => [.str "whole"]
  | .below n => [.str "below", .int n]
  | .upto n => [.str "upto", .int n]
  | .word => [.str "word"]
  | .without c => [.str "without", .str ⟨#[c]⟩]
def Pk.txt : Pk → Bool
  | .word => true
  | .without _ => true
  | _ => false
theorem at0 : ∀ κ : Pk, atI κ.vs 0 = some (.str κ.name)
  | .whole => rfl
  | .below _ => rfl
  | .upto _ => rfl
  | .word => rfl
  | .without _ => rfl
theorem name_len : ∀ κ : Pk, κ.name.length ≤ 1000
  | .whole => by decide
  | .below _ => (by decide : ("below" : Str).length ≤ 1000)
  | .upto _ => (by decide : ("upto" : Str).length ≤ 1000)
  | .word => by decide
  | .without _ => (by decide : ("without" : Str).length ≤ 1000)
def wT : List Str := ["word", "without"]
theorem txt_in : ∀ κ : Pk, wT.any (strIs (.str κ.name)) = κ.txt
  | .whole => (by decide +kernel : wT.any (strIs (.str "whole")) = false)
  | .below _ => (by decide +kernel : wT.any (strIs (.str "below")) = false)
  | .upto _ => (by decide +kernel : wT.any (strIs (.str "upto")) = false)
  | .word => (by decide +kernel : wT.any (strIs (.str "word")) = true)
  | .without _ => (by decide +kernel : wT.any (strIs (.str "without")) = true)
def fitP : Pk → V → Bool
  | .word, .str _ => true
  | .without c, .str z => !decide (c ∈ z.cps.toList)
  | .whole, .int _ => true
  | .below n, .int i => decide (0 ≤ i) && decide (i < n)
  | .upto n, .int i => decide (i ≤ n)
  | _, _ => false
/-- a value of a built-in type, a text not too long -/
def ValP (K : PySem.W.Frag) (H : Hp) (v : V) : Prop := ∃ n, Is K H v n ∧ ∀ z, v = .str z → z.length ≤ 1000
theorem ValP.same {H H' : Hp} {v : V} (h : ValP K H v) (e : Same H H') : ValP K H' v := by
  obtain ⟨n, a, b⟩ := h
  exact ⟨n, a.same e, b⟩
theorem is_int_of {H : Hp} {v : V} (h : Is K H v "int") : ∃ i, v = .int i := by
  obtain ⟨t, _⟩ := h
  generalize e : Value.type "int" = u at t
  cases t <;> first | exact ⟨_, rfl⟩ | exact absurd (Value.type.inj e) (by decide) | cases e
theorem is_int_ty {H : Hp} {i : Int} {n : String} (h : Is K H (.int i) n) : n = "int" := by
  obtain ⟨t, _⟩ := h
  generalize e : Value.type n = u at t
  cases t
  exact Value.type.inj e
theorem decStr {a b : Str} : decide (V.str a = V.str b) = decide (a = b) := by
  rw [Bool.eq_iff_iff, decide_eq_true_iff, decide_eq_true_iff]
  constructor
  · intro e; injection e
  · intro e; rw [e]
def spFp (K : PySem.W.Frag) : Sp := fun vs H Q _ => ∃ (a : Addr) (v : V) (κ : Pk), vs = [.ref a, v] ∧ SqT K H a κ.vs ∧ ValP K H v ∧ ∀ H', Same H H' → Q (.bl (fitP κ v)) H'
theorem fit_not_str {κ : Pk} {v : V} (h : κ.txt = true) (hv : ∀ z, v ≠ .str z) : fitP κ v = false := by
  cases κ with
  | word => cases v <;> first | rfl | exact (hv _ rfl).elim
  | without c => cases v <;> first | rfl | exact (hv _ rfl).elim
  | _ => exact (Bool.false_ne_true h).elim
theorem fit_not_int {κ : Pk} {v : V} (h : κ.txt = false) (hv : ∀ i, v ≠ .int i) : fitP κ v = false := by
  cases κ with
  | word => exact (Bool.noConfusion h)
  | without c => exact (Bool.noConfusion h)
  | _ => cases v <;> first | rfl | exact (hv _ rfl).elim
theorem ok_fp {f fW : Addr} {fd fdW : FuncData} (F : Fun K "fits_plain" "fits_plain" (top 15) f fd) (B : Bl mg) (DW : Df K mg "is_whole" (top 11) fW fdW) : FnOk P w K mg base CX0 2 f fd ["kind", "value"] (spFp K) := by
  have sc : FnScope ["kind", "value"] ["kind", "value"] (defScope (top 15)) := ⟨rfl, rfl, rfl, by decide +kernel, rfl, by decide +kernel, by decide +kernel⟩
  have GW : FnOk P w K mg base CX0 1 fW fdW ["thing"] (spWhole K) := ok_whole DW.fn B
  have bW := DW.fn.binds (ps := ["thing"]) fun _ _ _ _ _ _ us hl => by obtain ⟨v0, rfl⟩ := L2.ln1 hl; rfl
  refine F.ok sc (fun vs H Q E h => ?_) (fun cdv A outer s H vs Q E hr h => ?_)
  · obtain ⟨a, v, κ, rfl, _⟩ := h
    rfl
  · obtain ⟨a, v, κ, rfl, hk, ⟨n, hi, hz⟩, q⟩ := h
    have hu : (A.deeper (envOfC "fits_plain" (defScope (top 15)) s.heap.objs.size f cdv)).units + 1 < cLine := hu_of hr
    refine ⟨_, pss_cons (ps_if (pt_cmpR (op_inD hu) (pe_ix ix_tup (pv 0) pe_int (fun _ _ => rfl)) (pe_tup (pa_cons pe_str (pa_cons pe_str pa_nil))) (by with_unfolding_all rfl))
        (pss_one (ps_ret (pe_and (pe_callB call_isi (by rfl) B.isi boot_isi (pa_cons (pv 1) (pa_cons (pe_bltn (v := .ty "str") (by rfl) B.str boot_str rfl) pa_nil)))
          (pe_one (pe_or (pe_cmpR op_eq (pe_ix ix_tup (pv 0) pe_int (fun _ _ => rfl)) pe_str (nomark _)) (pe_one (pe_cmpR op_notIn_str (pe_ix ix_tup (pv 0) pe_int (fun _ _ => rfl)) (pv 1) (by with_unfolding_all rfl)))))))) pss_nil)
      (pss_cons (ps_if (pt_not (pt_val (pe_call GW hr (by rfl) DW.mg DW.fn.kp bW .nil pass0 (pa_cons (pv 1) pa_nil)))) (pss_one (ps_ret pe_bl)) pss_nil)
      (pss_cons (ps_if (pt_cmpR op_eq (pe_ix ix_tup (pv 0) pe_int (fun _ _ => rfl)) pe_str (nomark _)) (pss_one (ps_ret (pe_chain op_le op_lt pe_int (pv 1) (pe_ix ix_tup (pv 0) pe_int (fun _ _ => rfl))))) pss_nil)
      (pss_one (ps_ret (pe_or (pe_cmpR op_eq (pe_ix ix_tup (pv 0) pe_int (fun _ _ => rfl)) pe_str (nomark _)) (pe_one (pe_cmpR op_le (pv 1) (pe_ix ix_tup (pv 0) pe_int (fun _ _ => rfl)) (nomark _)))))))), ?_⟩
    refine ⟨_, rfl, _, _, _, _, rfl, rfl, hk, at0 κ, ?_⟩
    refine ⟨(by decide), fun p hp => ?_⟩
    have sm := Same.upd (o := .tup [.str "word", .str "without"]) hp
    refine ⟨.str κ.name, p, wT, rep_str (name_len κ), rfl, upd_same, _, rfl, ?_⟩
    have hk' := sm.seqT hk
    have hi' := hi.same sm
    cases hx : κ.txt with
    | true =>
      refine iteB ((txt_in κ).trans hx) ?_
      refine ⟨_, rfl, _, _, _, _, rfl, hi'.1, kit_eq.trans (kit_str _ hi.2), _, rfl, ?_⟩
      by_cases hs : n = "str"
      · subst hs
        obtain ⟨z, rfl⟩ := hi.str_of
        refine iteB (by decide) ?_
        refine ⟨_, rfl, _, _, _, _, rfl, rfl, hk', at0 κ, ?_⟩
        refine ⟨rfl, _, rfl, ?_⟩
        cases κ with
        | word => exact iteB (by decide) (q _ sm)
        | without c =>
          refine iteC (show decide (V.str "without" = V.str "word") = false by decide) ?_
          refine ⟨_, rfl, _, _, _, _, rfl, rfl, hk', rfl, _, rfl, _, _, rfl, rfl, ?_⟩
          rw [StrLaws.found_one]
          exact q _ sm
        | whole => exact absurd hx (by decide)
        | below _ => exact Bool.noConfusion hx
        | upto _ => exact Bool.noConfusion hx
      · refine iteC (beq_eq_false_iff_ne.mpr hs) ?_
        have e : fitP κ v = false := fit_not_str hx fun z e => hs (by subst e; exact hi.str_ty)
        have := q _ sm
        rw [e] at this
        exact this
    | false =>
      refine iteC ((txt_in κ).trans hx) ?_
      refine ⟨_, rfl, v, n, rfl, hi', _, rfl, ?_⟩
      by_cases hs : n = "int"
      · subst hs
        obtain ⟨i, rfl⟩ := is_int_of hi
        refine iteF ?_
        refine ⟨_, rfl, _, _, _, _, rfl, rfl, hk', at0 κ, rfl, _, rfl, ?_⟩
        cases κ with
        | below m =>
          refine iteB (show decide (V.str "below" = V.str "below") = true by decide) ?_
          refine ⟨_, rfl, _, _, rfl, rfl, _, rfl, ?_⟩
          have q' : Q (.bl (decide (0 ≤ i) && decide (i < m))) _ := q _ sm
          refine ite2 (fun c => ?_) (fun c => ?_)
          · rw [c, Bool.true_and] at q'
            exact ⟨_, rfl, _, _, _, _, rfl, rfl, hk', rfl, _, _, rfl, rfl, q'⟩
          · rw [(by simpa using c : decide ((0 : Int) ≤ i) = false), Bool.false_and] at q'
            exact q'
        | whole =>
          refine iteC (by decide) ?_
          exact ⟨_, rfl, _, _, _, _, rfl, rfl, hk', at0 _, rfl, _, rfl, iteB (by decide) (q _ sm)⟩
        | upto m =>
          refine iteC (show decide (V.str "upto" = V.str "below") = false by decide) ?_
          refine ⟨_, rfl, _, _, _, _, rfl, rfl, hk', at0 _, rfl, _, rfl, iteC (show decide (V.str "upto" = V.str "whole") = false by decide) ?_⟩
          exact ⟨_, rfl, _, rfl, _, _, _, _, rfl, rfl, hk', rfl, _, _, rfl, rfl, q _ sm⟩
        | word => exact absurd hx (by decide)
        | without _ => exact Bool.noConfusion hx
      · have e : fitP κ v = false := fit_not_int hx fun z e => hs (by subst e; exact is_int_ty hi)
        refine iteB (by rw [beq_eq_false_iff_ne.mpr hs]; rfl) ?_
        have := q _ sm
        rw [e] at this
        exact this
end
end My

namespace My
open PySem L2 PyProof.Rows
seal L2.PE L2.PT L2.PW L2.PS L2.PSs L2.PA L2.PI L2.PG L2.PGs L2.OpR L2.UnR L2.CallR L2.IxR L2.SlR L2.MtR L2.PIf L2.PO L2.MtM L2.PC L2.PIp L2.PSet L2.PGet L2.TruR L2.InOp L2.PK
theorem same_updN {H1 H2 : Hp} {D : Addr} {o : HO} (e : Same H1 H2) (h : H1 D = none) : Same H1 (L2.upd H2 D o) := fun b u q => by
  rw [upd_ne (ne_of_none q h)]
  exact e b u q
/-- what a value is: by itself, or a tuple of things -/
inductive Dv where
  | one | tup (xs : List V)
section
variable {P : Program} {w : World} {K : PySem.W.Frag} {mg : Str → Option Value} {base : Heap}
def Val (K : PySem.W.Frag) (H : Hp) (v : V) : Dv → Prop
  | .one => ∃ n, Is K H v n ∧ n ≠ "tuple" ∧ ∀ z, v = .str z → z.length ≤ 1000
  | .tup xs => ∃ p, v = .ref p ∧ SqT K H p xs ∧ Is K H v "tuple" ∧ xs.length ≤ 1000 ∧ ∀ x ∈ xs, ValP K H x
theorem Val.p {H : Hp} {v : V} {d : Dv} (h : Val K H v d) : ValP K H v := by
  cases d with
  | one =>
    obtain ⟨n, a, _, b⟩ := h
    exact ⟨n, a, b⟩
  | tup xs =>
    obtain ⟨p, rfl, _, a, _⟩ := h
    exact ⟨_, a, fun z e => nomatch e⟩
theorem Val.same {H H' : Hp} {v : V} {d : Dv} (h : Val K H v d) (e : Same H H') : Val K H' v d := by
  cases d with
  | one =>
    obtain ⟨n, a, b, c⟩ := h
    exact ⟨n, a.same e, b, c⟩
  | tup xs =>
    obtain ⟨p, h1, h2, h3, h4, h5⟩ := h
    exact ⟨p, h1, e.seqT h2, h3.same e, h4, fun x hx => (h5 x hx).same e⟩
def fitT (sort : Str) (κ : Pk) : Dv → Bool
  | .one => false
  | .tup xs => if (decide (sort = "some") && decide (xs.length = 0)) = true then false else xs.all (fitP κ)
def wLS : List Str := ["list", "some"]
def spFt (K : PySem.W.Frag) : Sp := fun vs H Q _ => ∃ (a b : Addr) (v : V) (κ : Pk) (sort : Str) (d : Dv), vs = [.ref a, v] ∧ SqT K H a [.str sort, .ref b] ∧ SqT K H b κ.vs ∧ Val K H v d ∧ ∀ H', Same H H' → Q (.bl (fitT sort κ d)) H'
theorem ok_ft {f fP : Addr} {fd fdP : FuncData} (F : Fun K "fits_tuple" "fits_tuple" (top 14) f fd) (B : Bl mg) (DP : Df K mg "fits_plain" (top 15) fP fdP) (GP : FnOk P w K mg base CX0 2 fP fdP ["kind", "value"] (spFp K)) :
    FnOk P w K mg base CX0 3 f fd ["kind", "value"] (spFt K) := by
  have sc : FnScope ["kind", "value"] ["kind", "value"] (defScope (top 14)) := ⟨rfl, rfl, rfl, by decide +kernel, rfl, by decide +kernel, by decide +kernel⟩
  have bP := DP.fn.binds (ps := ["kind", "value"]) fun _ _ _ _ _ _ us hl => by obtain ⟨v0, v1, rfl⟩ := L2.ln2 hl; rfl
  refine F.ok sc (fun vs H Q E h => ?_) (fun cdv A outer s H vs Q E hr h => ?_)
  · obtain ⟨a, b, v, κ, sort, d, rfl, _⟩ := h
    rfl
  · obtain ⟨a, b, v, κ, sort, d, rfl, hk, hb, hv, q⟩ := h
    refine ⟨_, pss_cons (ps_if (pt_not (pt_val (pe_callB call_isi (by rfl) B.isi boot_isi (pa_cons (pv 1) (pa_cons (pe_bltn (v := .ty "tuple") (by rfl) B.tuple boot_tuple rfl) pa_nil))))) (pss_one (ps_ret pe_bl)) pss_nil)
      (pss_cons (ps_if (PW.pt (pw_and (pt_cmpR op_eq (pe_ix ix_tup (pv 0) pe_int (fun _ _ => rfl)) pe_str (nomark _)) (pw_and1 (pt_cmpR op_eq (pe_callB call_len_seq (by rfl) B.len PySem.boot_len (pa_cons (pv 1) pa_nil)) pe_int (nomark _))))) (pss_one (ps_ret pe_bl)) pss_nil)
      (pss_one (ps_ret (pe_callB (call_all rfl) (by rfl) B.all boot_all (pa_cons (pe_comp (osc := defScope (top 14)) (N0 := ["kind", "value"]) (xs := ["thing"]) (fr := [0]) ⟨rfl, by decide +kernel, by decide +kernel, by decide +kernel, (fun j hj => by
          have e : j = 0 := by simpa using hj
          subst e
          exact ⟨_, rfl, by decide +kernel⟩), by decide +kernel⟩ rfl rfl rfl (pi_tup (pv 1))
        (fun s H fp => pg_name (i := 0) (show (["thing", "kind"] : List Str).Nodup by decide +kernel) rfl (Or.inl rfl)) (fun s H fp => pif_nil)
        (fun s H fp => pe_call GP hr (by rfl) DP.mg DP.fn.kp bP .nil pass0 (pa_cons (pe_ix (r := rIxT K) ix_tup (pv 1) pe_int (fun _ _ => rfl)) (pa_cons (pv 0) pa_nil)))) pa_nil))))), ?_⟩
    cases d with
    | one =>
      obtain ⟨n, hi, hn, _⟩ := hv
      refine ⟨_, rfl, _, _, _, _, rfl, hi.1, kit_eq.trans (kit_tuple _ hi.2), _, rfl, ?_⟩
      exact iteB (by rw [beq_eq_false_iff_ne.mpr hn]; rfl) (q H (Same.refl H))
    | tup xs =>
      obtain ⟨p, rfl, hp, hi, hl, hx⟩ := hv
      refine ⟨_, rfl, _, _, _, _, rfl, hi.1, kit_eq.trans (show kitTy "tuple" "tuple" = some true by decide +kernel), _, rfl, ?_⟩
      refine iteF ?_
      refine ⟨_, rfl, _, _, _, _, rfl, rfl, hk, rfl, rfl, _, rfl, ?_⟩
      have e0 : decide (V.int (xs.length : Int) = V.int 0) = decide (xs.length = 0) := lenEq (k := 0)
      have go : (decide (sort = "some") && decide (xs.length = 0)) = false → ∀ D, H D = none → CompW (Itt K p) (gName 0) tYes (tCall (spFp K) [] E0 (tCons (tOp (rIxT K) (tVar 1) (tC (.int 1))) (tCons (tVar 0) tNil)))
          (fun D H2 => ∃ (p : Addr) (bs : List Bool), [V.ref D] = [.ref p] ∧ SqL K H2 p (bs.map V.bl) ∧ Q (.bl (bs.all id)) H2) D (compSt ["thing"] [0] [some (.ref a), some (.ref p)]) (upd H D (.lst [])) := by
        intro hc D hD
        refine compW_map xs.length (fun i => .bl (fitP κ (xs.getD i .non))) (fun i σ' Hc => (∃ t, σ' = [t, some (.ref a)]) ∧ Same H Hc) (by rw [sizeLine_eq]; omega) ⟨⟨none, rfl⟩, Same.upd hD⟩ upd_same ?_ ?_
        · rintro i σ' Hc hi' ⟨⟨t, rfl⟩, sm⟩ hD'
          refine ⟨⟨xs, xs[i], sm.seqT hp, by simp [hi']⟩, ?_⟩
          rintro x H' ⟨rfl, hx'⟩
          have ex := hx' xs (sm.seqT hp)
          have eg : xs.getD i .non = x := by rw [List.getD_eq_getElem?_getD, ex]; rfl
          refine ⟨_, rfl, _, _, _, _, rfl, rfl, sm.seqT hk, rfl, _, rfl, b, x, κ, rfl, sm.seqT hb, (hx x (List.mem_of_getElem? ex)).same sm, fun H4 s4 => ⟨by rw [eg], s4 _ _ hD', ⟨_, rfl⟩, same_updN (sm.trans s4) hD⟩⟩
        · rintro σ' Hc ⟨_, sm⟩ hDn
          refine ⟨⟨xs, sm.seqT hp, Nat.le_refl _⟩, D, xs.map (fitP κ), rfl, SqL.of ?_, ?_⟩
          · rw [hDn, range_map_getD xs .non (fun x => V.bl (fitP κ x)), List.map_map]
            rfl
          · have := q Hc sm
            have e : fitT sort κ (.tup xs) = xs.all (fitP κ) := by
              show (if (decide (sort = "some") && decide (xs.length = 0)) = true then false else xs.all (fitP κ)) = _
              rw [hc, if_neg Bool.false_ne_true]
            rw [e] at this
            rw [List.all_map]
            exact this
      by_cases c1 : sort = "some"
      · refine iteB (decStr.trans (decide_eq_true c1)) ?_
        refine ⟨_, rfl, _, _, rfl, .inr hp, rfl, _, rfl, ?_⟩
        by_cases c2 : xs.length = 0
        · refine iteB (e0.trans (decide_eq_true c2)) ?_
          have := q H (Same.refl H)
          have e : fitT sort κ (.tup xs) = false := by
            show (if (decide (sort = "some") && decide (xs.length = 0)) = true then false else xs.all (fitP κ)) = _
            rw [decide_eq_true c1, decide_eq_true c2]
            rfl
          rw [e] at this
          exact this
        · refine iteC (e0.trans (decide_eq_false c2)) ?_
          exact ⟨_, rfl, _, rfl, ⟨_, hp⟩, go (by rw [decide_eq_false c2, Bool.and_false])⟩
      · refine iteC (decStr.trans (decide_eq_false c1)) ?_
        refine iteC rfl ?_
        exact ⟨_, rfl, _, rfl, ⟨_, hp⟩, go (by rw [decide_eq_false c1, Bool.false_and])⟩
/-! ### fits -/
inductive Kk where
  | pl (κ : Pk) | key | onc (κ : Pk) | lst (κ : Pk) | som (κ : Pk)
def KkOk (K : PySem.W.Frag) (H : Hp) (a : Addr) : Kk → Prop
  | .pl κ => SqT K H a κ.vs
  | .key => SqT K H a [.str "key"]
  | .onc κ => ∃ b, SqT K H a [.str "once", .ref b] ∧ SqT K H b κ.vs
  | .lst κ => ∃ b, SqT K H a [.str "list", .ref b] ∧ SqT K H b κ.vs
  | .som κ => ∃ b, SqT K H a [.str "some", .ref b] ∧ SqT K H b κ.vs
def fitKey (sz : Int) : V → Bool
  | .non => true
  | .int i => decide (0 ≤ i) && decide (i < sz)
  | _ => false
def fitD (kk : Kk) (sz : Int) (v : V) (d : Dv) : Bool := match kk with
  | .pl κ => fitP κ v
  | .onc κ => fitP κ v
  | .key => fitKey sz v
  | .lst κ => fitT "list" κ d
  | .som κ => fitT "some" κ d
def spFits (K : PySem.W.Frag) : Sp := fun vs H Q _ => ∃ (a : Addr) (v : V) (sz : Int) (kk : Kk) (d : Dv), vs = [.ref a, v, .int sz] ∧ KkOk K H a kk ∧ Val K H v d ∧ ∀ H', Same H H' → Q (.bl (fitD kk sz v d)) H'
theorem pname_ne : ∀ κ : Pk, decide (V.str κ.name = V.str "key") = false ∧ decide (V.str κ.name = V.str "once") = false ∧ wLS.any (strIs (.str κ.name)) = false
  | .whole => (by decide +kernel : decide (V.str "whole" = V.str "key") = false ∧ decide (V.str "whole" = V.str "once") = false ∧ wLS.any (strIs (.str "whole")) = false)
  | .below _ => (by decide +kernel : decide (V.str "below" = V.str "key") = false ∧ decide (V.str "below" = V.str "once") = false ∧ wLS.any (strIs (.str "below")) = false)
  | .upto _ => (by decide +kernel : decide (V.str "upto" = V.str "key") = false ∧ decide (V.str "upto" = V.str "once") = false ∧ wLS.any (strIs (.str "upto")) = false)
  | .word => (by decide +kernel : decide (V.str "word" = V.str "key") = false ∧ decide (V.str "word" = V.str "once") = false ∧ wLS.any (strIs (.str "word")) = false)
  | .without _ => (by decide +kernel : decide (V.str "without" = V.str "key") = false ∧ decide (V.str "without" = V.str "once") = false ∧ wLS.any (strIs (.str "without")) = false)
theorem ok_fits {f fP fT fW : Addr} {fd fdP fdT fdW : FuncData} (F : Fun K "fits" "fits" (top 13) f fd) (B : Bl mg) (DW : Df K mg "is_whole" (top 11) fW fdW) (DP : Df K mg "fits_plain" (top 15) fP fdP) (DT : Df K mg "fits_tuple" (top 14) fT fdT) :
    FnOk P w K mg base CX0 4 f fd ["kind", "value", "size"] (spFits K) := by
  have sc : FnScope ["kind", "value", "size", "sort"] ["kind", "value", "size"] (defScope (top 13)) := ⟨rfl, rfl, rfl, by decide +kernel, rfl, by decide +kernel, by decide +kernel⟩
  have GW : FnOk P w K mg base CX0 1 fW fdW ["thing"] (spWhole K) := ok_whole DW.fn B
  have GP : FnOk P w K mg base CX0 2 fP fdP ["kind", "value"] (spFp K) := ok_fp DP.fn B DW
  have GT : FnOk P w K mg base CX0 3 fT fdT ["kind", "value"] (spFt K) := ok_ft DT.fn B DP GP
  have bW := DW.fn.binds (ps := ["thing"]) fun _ _ _ _ _ _ us hl => by obtain ⟨v0, rfl⟩ := L2.ln1 hl; rfl
  have bP := DP.fn.binds (ps := ["kind", "value"]) fun _ _ _ _ _ _ us hl => by obtain ⟨v0, v1, rfl⟩ := L2.ln2 hl; rfl
  have bT := DT.fn.binds (ps := ["kind", "value"]) fun _ _ _ _ _ _ us hl => by obtain ⟨v0, v1, rfl⟩ := L2.ln2 hl; rfl
  refine F.ok sc (fun vs H Q E h => ?_) (fun cdv A outer s H vs Q E hr h => ?_)
  · obtain ⟨a, v, sz, kk, d, rfl, _⟩ := h
    rfl
  · obtain ⟨a, v, sz, kk, d, rfl, hk, hv, q⟩ := h
    have hu : (A.deeper (envOfC "fits" (defScope (top 13)) s.heap.objs.size f cdv)).units + 1 < cLine := hu_of hr
    have hr1 : Room 1 _ := hr.mono (by decide)
    have hr2 : Room 2 _ := hr.mono (by decide)
    refine ⟨_, pss_cons (ps_set (i := 3) sc.nd rfl (Or.inl rfl) (pe_ix ix_tup (pv 0) pe_int (fun _ _ => rfl)))
      (pss_cons (ps_if (pt_cmpR op_eq (pv 3) pe_str (nomark _)) (pss_one (ps_ret (pe_or (pe_cmpR op_isN (pv 1) pe_non (nomark _)) (pe_one (pe_and (pe_call GW hr1 (by rfl) DW.mg DW.fn.kp bW .nil pass0 (pa_cons (pv 1) pa_nil)) (pe_one (pe_chain op_le op_lt pe_int (pv 1) (pv 2)))))))) pss_nil)
      (pss_cons (ps_if (pt_cmpR op_eq (pv 3) pe_str (nomark _)) (pss_one (ps_ret (pe_call GP hr2 (by rfl) DP.mg DP.fn.kp bP .nil pass0 (pa_cons (pe_ix ix_tup (pv 0) pe_int (fun _ _ => rfl)) (pa_cons (pv 1) pa_nil))))) pss_nil)
      (pss_cons (ps_if (pt_cmpR (op_inD hu) (pv 3) (pe_tup (pa_cons pe_str (pa_cons pe_str pa_nil))) (by with_unfolding_all rfl)) (pss_one (ps_ret (pe_call GT hr (by rfl) DT.mg DT.fn.kp bT .nil pass0 (pa_cons (pv 0) (pa_cons (pv 1) pa_nil))))) pss_nil)
      (pss_one (ps_ret (pe_call GP hr2 (by rfl) DP.mg DP.fn.kp bP .nil pass0 (pa_cons (pv 0) (pa_cons (pv 1) pa_nil)))))))), ?_⟩
    cases kk with
    | key =>
      have hk : SqT K H a [.str "key"] := hk
      refine ⟨_, rfl, _, _, _, _, rfl, rfl, hk, rfl, ?_⟩
      refine ⟨_, rfl, rfl, _, rfl, ?_⟩
      refine iteB (show decide (V.str "key" = V.str "key") = true by decide) ?_
      refine ⟨_, rfl, rfl, _, rfl, ?_⟩
      obtain ⟨n, hi, _⟩ := hv.p
      have q0 := q H (Same.refl H)
      refine ite2 (fun c => ?_) (fun c => ?_)
      · have e : v = .non := of_decide_eq_true c
        subst e
        exact q0
      · refine ⟨_, rfl, v, n, rfl, hi, _, rfl, ?_⟩
        by_cases hs : n = "int"
        · subst hs
          obtain ⟨i, rfl⟩ := is_int_of hi
          refine iteB (by decide) ?_
          refine ⟨_, rfl, _, _, rfl, rfl, _, rfl, ?_⟩
          have q' : Q (.bl (decide (0 ≤ i) && decide (i < sz))) H := q0
          refine ite2 (fun c => ?_) (fun c => ?_)
          · rw [c, Bool.true_and] at q'
            exact ⟨_, rfl, _, _, rfl, rfl, q'⟩
          · rw [(by simpa using c : decide ((0 : Int) ≤ i) = false), Bool.false_and] at q'
            exact q'
        · refine iteC (beq_eq_false_iff_ne.mpr hs) ?_
          have e : fitD .key sz v d = false := by
            show fitKey sz v = false
            cases v <;> first | rfl | exact absurd (is_int_ty hi) hs | exact absurd (decide_eq_true rfl) c
          rw [e] at q0
          exact q0
    | onc κ =>
      obtain ⟨b, hk, hb⟩ := hk
      refine ⟨_, rfl, _, _, _, _, rfl, rfl, hk, rfl, ?_⟩
      refine ⟨_, rfl, rfl, _, rfl, ?_⟩
      refine iteC (show decide (V.str "once" = V.str "key") = false by decide) ?_
      refine ⟨_, rfl, rfl, _, rfl, ?_⟩
      refine iteB (show decide (V.str "once" = V.str "once") = true by decide) ?_
      exact ⟨_, rfl, _, _, _, _, rfl, rfl, hk, rfl, _, rfl, b, v, κ, rfl, hb, hv.p, q⟩
    | pl κ =>
      have hk : SqT K H a κ.vs := hk
      obtain ⟨n1, n2, n3⟩ := pname_ne κ
      refine ⟨_, rfl, _, _, _, _, rfl, rfl, hk, at0 κ, ?_⟩
      refine ⟨_, rfl, rfl, _, rfl, ?_⟩
      refine iteC n1 ?_
      refine ⟨_, rfl, rfl, _, rfl, ?_⟩
      refine iteC n2 ?_
      refine ⟨_, rfl, (by decide), fun p hp => ?_⟩
      have sm := Same.upd (o := .tup [.str "list", .str "some"]) hp
      refine ⟨.str κ.name, p, wLS, rep_str (name_len κ), rfl, upd_same, _, rfl, ?_⟩
      refine iteC n3 ?_
      exact ⟨_, rfl, _, rfl, a, v, κ, rfl, sm.seqT hk, hv.p.same sm, fun H' s' => q H' (sm.trans s')⟩
    | lst κ =>
      obtain ⟨b, hk, hb⟩ := hk
      refine ⟨_, rfl, _, _, _, _, rfl, rfl, hk, rfl, ?_⟩
      refine ⟨_, rfl, rfl, _, rfl, ?_⟩
      refine iteC (show decide (V.str "list" = V.str "key") = false by decide) ?_
      refine ⟨_, rfl, rfl, _, rfl, ?_⟩
      refine iteC (show decide (V.str "list" = V.str "once") = false by decide) ?_
      refine ⟨_, rfl, (by decide), fun p hp => ?_⟩
      have sm := Same.upd (o := .tup [.str "list", .str "some"]) hp
      refine ⟨.str "list", p, wLS, rep_str (by decide), rfl, upd_same, _, rfl, ?_⟩
      refine iteB (by decide +kernel) ?_
      exact ⟨_, rfl, _, rfl, a, b, v, κ, "list", d, rfl, sm.seqT hk, sm.seqT hb, hv.same sm, fun H' s' => q H' (sm.trans s')⟩
    | som κ =>
      obtain ⟨b, hk, hb⟩ := hk
      refine ⟨_, rfl, _, _, _, _, rfl, rfl, hk, rfl, ?_⟩
      refine ⟨_, rfl, rfl, _, rfl, ?_⟩
      refine iteC (show decide (V.str "some" = V.str "key") = false by decide) ?_
      refine ⟨_, rfl, rfl, _, rfl, ?_⟩
      refine iteC (show decide (V.str "some" = V.str "once") = false by decide) ?_
      refine ⟨_, rfl, (by decide), fun p hp => ?_⟩
      have sm := Same.upd (o := .tup [.str "list", .str "some"]) hp
      refine ⟨.str "some", p, wLS, rep_str (by decide), rfl, upd_same, _, rfl, ?_⟩
      refine iteB (by decide +kernel) ?_
      exact ⟨_, rfl, _, rfl, a, b, v, κ, "some", d, rfl, sm.seqT hk, sm.seqT hb, hv.same sm, fun H' s' => q H' (sm.trans s')⟩
end
end My
namespace L2
open PySem PySem.Spec PyProof.Rows
/-- over the signs of a text -/
theorem for_str {z : Str} {g : TG} {tb : TS} {D : Ends} {σ : St} {H : Hp} (Pv : Nat → St → Hp → Prop) (h0 : Pv 0 σ H)
    (hs : ∀ i c σ H, z.cps[i]? = some c → Pv i σ H → g (.str ⟨#[c]⟩) σ H fun σ2 H2 => tb { D with nx := Pv (i + 1), ct := Pv (i + 1), bk := D.nx } σ2 H2) (hd : ∀ σ H, Pv z.cps.size σ H → D.nx σ H) :
    ∃ W : Nat → Nat → St → Hp → Prop, (∃ m, W 0 m σ H) ∧ ∀ i m σ H, W i m σ H →
      ((Its z).stop i H ∧ D.nx σ H) ∨ ((Its z).go i H ∧ ∃ N : St → Hp → Prop, (∀ σ' H', N σ' H' → ∃ m', m' < m ∧ W (i + 1) m' σ' H') ∧ ∀ x H', (Its z).yld i H x H' → g x σ H' fun σ2 H2 => tb { D with nx := N, ct := N, bk := D.nx } σ2 H2) := by
  refine ⟨fun i m σ H => m = z.cps.size - i ∧ i ≤ z.cps.size ∧ Pv i σ H, ⟨z.cps.size, by simp, Nat.zero_le _, h0⟩, ?_⟩
  rintro i m σ H ⟨rfl, hi, p⟩
  by_cases hlt : i < z.cps.size
  · refine .inr ⟨hlt, Pv (i + 1), fun σ' H' p' => ⟨z.cps.size - (i + 1), by omega, rfl, hlt, p'⟩, fun x H' y => ?_⟩
    obtain ⟨rfl, c, hc, rfl⟩ := y
    exact hs i c σ _ hc p
  · have e : i = z.cps.size := by omega
    subst e
    exact .inl ⟨Nat.le_refl _, hd σ H p⟩
theorem Same.put {H H' : Hp} {d : Addr} {o : HO} (s : Same H H') (h : H d = none) : Same H (L2.upd H' d o) := fun b u e => by
  rw [upd_ne (ne_of_none e h)]
  exact s b u e
end L2
namespace My
open PySem L2 PyProof.Rows
/-! ### texts as lists of signs -/
def S (l : List Nat) : Str := ⟨l.toArray⟩
theorem S_cps (z : Str) : S z.cps.toList = z := rfl
theorem S_list (l : List Nat) : (S l).cps.toList = l := rfl
theorem S_len (l : List Nat) : (S l).length = l.length := by simp [S, Str.length]
theorem z_len (z : Str) : z.cps.toList.length = z.length := by simp [Str.length]
theorem one_eq {c d : Nat} : ((⟨#[c]⟩ : Str) = ⟨#[d]⟩) ↔ c = d := ⟨fun h => by
  have := congrArg (fun z : Str => z.cps.toList) h
  simpa using this, fun h => by rw [h]⟩
def escL : List (Str × Str) := [("\\", "\\"), ("_", " "), ("c", ","), ("s", ";")]
def escT : List (Str × KTD.Dat) := escL.map fun p => (p.1, KTD.Dat.flat (PyData.str p.2))
theorem e92 : ("\\" : Str) = ⟨#[92]⟩ := by decide +kernel
theorem e95 : ("_" : Str) = ⟨#[95]⟩ := by decide +kernel
theorem e99 : ("c" : Str) = ⟨#[99]⟩ := by decide +kernel
theorem e115 : ("s" : Str) = ⟨#[115]⟩ := by decide +kernel
theorem e32 : (" " : Str) = ⟨#[32]⟩ := by decide +kernel
theorem e44 : ("," : Str) = ⟨#[44]⟩ := by decide +kernel
theorem e59 : (";" : Str) = ⟨#[59]⟩ := by decide +kernel
theorem e45 : ("-" : Str) = ⟨#[45]⟩ := by decide +kernel
theorem esc_look (c : Nat) : escL.lookup ⟨#[c]⟩ = (Kx.esc1 c).map fun d => (⟨#[d]⟩ : Str) := by
  unfold escL Kx.esc1
  rw [e92, e95, e99, e115, e32, e44, e59]
  by_cases h1 : c = 92
  · subst h1; rfl
  rw [List.lookup_cons, beq_eq_false_iff_ne.mpr (fun e => h1 (one_eq.mp e)), if_neg h1]
  by_cases h2 : c = 95
  · subst h2; rfl
  simp only
  rw [List.lookup_cons, beq_eq_false_iff_ne.mpr (fun e => h2 (one_eq.mp e)), if_neg h2]
  by_cases h3 : c = 99
  · subst h3; rfl
  simp only
  rw [List.lookup_cons, beq_eq_false_iff_ne.mpr (fun e => h3 (one_eq.mp e)), if_neg h3]
  by_cases h4 : c = 115
  · subst h4; rfl
  simp only
  rw [List.lookup_cons, beq_eq_false_iff_ne.mpr (fun e => h4 (one_eq.mp e)), if_neg h4]
  rfl
theorem esc_keys (c : Nat) : KTD.inKeys (⟨#[c]⟩ : Str) escT = (Kx.esc1 c).isSome := by
  have h : ∀ (z : Str) (D : List (Str × Str)), KTD.inKeys z (D.map fun p => (p.1, KTD.Dat.flat (PyData.str p.2))) = (D.lookup z).isSome := by
    intro z D
    induction D with
    | nil => rfl
    | cons p D ih =>
      show (decide (z = p.1) || KTD.inKeys z _) = _
      rw [ih, List.lookup_cons]
      by_cases e : z = p.1
      · rw [decide_eq_true e, beq_iff_eq.mpr e]; rfl
      · rw [decide_eq_false e, beq_eq_false_iff_ne.mpr e]; rfl
  show KTD.inKeys (⟨#[c]⟩ : Str) (escL.map _) = _
  rw [h, esc_look]
  cases Kx.esc1 c <;> rfl
theorem starts_neg (z : Str) : Txt.startswith z "-" = Kx.negd z.cps.toList := by
  unfold Txt.startswith
  rw [e45, Bool.eq_iff_iff, Bool.and_eq_true, decide_eq_true_iff]
  rw [show (0 + (⟨#[45]⟩ : Str).length ≤ z.length ∧ Builtin.Str.subAt z ⟨#[45]⟩ 0 = true) ↔ z.cps.toList[0]? = some 45 from StrLaws.subAt_one z 45 0]
  cases z.cps.toList with
  | nil => simp [Kx.negd]
  | cons c r => simp [Kx.negd]
theorem slice_neg {z : Str} (h : Kx.negd z.cps.toList = true) : (Txt.slice z (some 1) none).cps.toList = Kx.fg z.cps.toList := by
  have hl := z_len z
  cases e : z.cps.toList with
  | nil => rw [e] at h; cases h
  | cons c r =>
    rw [e] at h hl
    have hc : c = 45 := by simpa [Kx.negd] using h
    rw [slice_from z (by decide) (by rw [← hl]; simp; omega), e]
    subst hc
    rfl
theorem fg_pos {l : List Nat} (h : ¬ Kx.negd l = true) : Kx.fg l = l := by
  cases l with
  | nil => rfl
  | cons c r =>
    have hc : ¬ c = 45 := by simpa [Kx.negd] using h
    show (if c = 45 then r else c :: r) = c :: r
    rw [if_neg hc]
/-! ### the first colon -/
theorem join_ones : ∀ (l : List Nat), Txt.join "" (l.map fun c => (⟨#[c]⟩ : Str)) = S l := by
  have e0 : ("" : Str) = ⟨#[]⟩ := by decide +kernel
  have h : ∀ (l : List Nat) (a : Array Nat), ((l.map fun c => (⟨#[c]⟩ : Str)).foldl (fun acc p => acc ++ (#[] : Array Nat) ++ p.cps) a).toList = a.toList ++ l := by
    intro l
    induction l with
    | nil => intro a; simp
    | cons c l ih => intro a; rw [List.map_cons, List.foldl_cons, ih]; simp
  intro l
  rw [e0]
  apply Str.ext'
  apply Array.toList_inj.mp
  show (((l.map fun c => (⟨#[c]⟩ : Str)).drop 1).foldl (fun acc p => acc ++ (#[] : Array Nat) ++ p.cps) ((l.map fun c => (⟨#[c]⟩ : Str)).headD Str.empty).cps).toList = l
  cases l with
  | nil => rfl
  | cons c l =>
    show ((l.map fun c => (⟨#[c]⟩ : Str)).foldl (fun acc p => acc ++ (#[] : Array Nat) ++ p.cps) #[c]).toList = c :: l
    rw [h]
    rfl
end My

namespace L2
theorem mt_app {X : Cx} : MtR X "list.append" rAppend := mt_append
end L2
namespace My
open PySem L2 PyProof.Rows
seal L2.PE L2.PT L2.PW L2.PS L2.PSs L2.PA L2.PI L2.PG L2.PGs L2.OpR L2.UnR L2.CallR L2.IxR L2.SlR L2.MtR L2.PIf L2.PO L2.MtM L2.PC L2.PIp L2.PSet L2.PGet L2.TruR L2.InOp L2.PK
theorem boot_all : bootBuiltins "all" = some (.builtin "all") := by decide +kernel
def sign1 (l : List Nat) : Bool := match l with
  | [c] => decide (32 ≤ c) && (decide (c ≤ 126) && !decide (c = 37))
  | _ => false
def signD : Dt → Bool
  | .str z => sign1 z.cps.toList
  | _ => false
section
variable {P : Program} {w : World} {K : PySem.W.Frag} {mg : Str → Option Value} {base : Heap}
theorem ok_sign {f : Addr} {fd : FuncData} (F : Fun K "is_sign" "is_sign" (top 12) f fd) (B : Bl mg) {uP : Value} (hP : mg "PERCENT" = some uP) (rP : RelV (.int 37) uP) :
    FnOk P w K mg base CX0 1 f fd ["thing"] (fun vs H Q _ => ∃ (v : V) (d : Dt), vs = [v] ∧ Rep H d v ∧ Q (.bl (signD d)) H) := by
  have sc : FnScope ["thing"] ["thing"] (defScope (top 12)) := ⟨rfl, rfl, rfl, by decide +kernel, rfl, by decide +kernel, by decide +kernel⟩
  refine F.ok sc (fun vs H Q E h => ?_) (fun cdv A outer s H vs Q E hr h => ?_)
  · obtain ⟨v, d, rfl, _⟩ := h
    rfl
  · obtain ⟨v, d, rfl, hd, q⟩ := h
    refine ⟨_, pss_cons (ps_if (PW.pt (pw_or (pt_not (pt_val (pe_callB call_isi (by rfl) B.isi boot_isi (pa_cons (pv 0) (pa_cons (pe_bltn (v := .ty "str") (by rfl) B.str boot_str rfl) pa_nil)))))
        (pw_or1 (pt_cmpR op_ne (pe_callB call_len_str (by rfl) B.len PySem.boot_len (pa_cons (pv 0) pa_nil)) pe_int (nomark _))))) (pss_one (ps_ret pe_bl)) pss_nil)
      (pss_one (ps_ret (pe_and (pe_chain op_le_str op_le_str pe_str (pv 0) pe_str) (pe_one (pe_cmpR op_ne (pe_callB call_ord (by rfl) B.ord boot_ord (pa_cons (pv 0) pa_nil)) (pe_glob (by rfl) hP rP) (nomark _)))))), ?_⟩
    by_cases hs : tyD d = "str"
    · obtain ⟨z, rfl⟩ : ∃ z, d = .str z := by
        cases d <;> first | exact ⟨_, rfl⟩ | (simp [tyD] at hs)
      unfold Rep at hd
      obtain ⟨rfl, hz⟩ := hd
      have hzs : z.length ≤ sizeLine := by rw [sizeLine_eq]; omega
      refine ⟨_, rfl, _, _, _, _, rfl, .str z, kit_eq.trans (show kitTy "str" "str" = some true by decide +kernel), _, rfl, ?_⟩
      refine iteF ?_
      refine ⟨_, rfl, _, rfl, hzs, rfl, _, rfl, ?_⟩
      have hl : z.cps.toList.length = z.length := by simp [Str.length]
      by_cases h1 : z.length = 1
      · obtain ⟨c, hc⟩ : ∃ c, z.cps.toList = [c] := by
          rw [h1] at hl
          match h : z.cps.toList, hl with
          | [c], _ => exact ⟨c, rfl⟩
        have hg : z.cps.getD 0 0 = c := by
          have : z.cps = #[c] := by rw [← Array.toArray_toList (xs := z.cps), hc]
          rw [this]
          rfl
        refine iteC (by rw [h1]; rfl) ?_
        have hq : signD (.str z) = (decide (32 ≤ c) && (decide (c ≤ 126) && !decide (c = 37))) := by
          show sign1 z.cps.toList = _
          rw [hc]
          rfl
        rw [hq] at q
        have e32 : (" " : Str).cps.toList = [32] := by decide +kernel
        have e126 : ("~" : Str).cps.toList = [126] := by decide +kernel
        have l1 : (!decide (z.cps.toList < (" " : Str).cps.toList)) = decide (32 ≤ c) := by
          rw [hc, e32, StrLaws.lt_cons_cons, StrLaws.lt_nil_nil, Bool.and_false, Bool.or_false]
          by_cases h : 32 ≤ c
          · rw [decide_eq_true h, decide_eq_false (by omega)]; rfl
          · rw [decide_eq_false h, decide_eq_true (by omega)]; rfl
        have l2 : (!decide (("~" : Str).cps.toList < z.cps.toList)) = decide (c ≤ 126) := by
          rw [hc, e126, StrLaws.lt_cons_cons, StrLaws.lt_nil_nil, Bool.and_false, Bool.or_false]
          by_cases h : c ≤ 126
          · rw [decide_eq_true h, decide_eq_false (by omega)]; rfl
          · rw [decide_eq_false h, decide_eq_true (by omega)]; rfl
        refine ⟨_, rfl, _, _, rfl, rfl, _, rfl, ?_⟩
        by_cases h32 : 32 ≤ c
        · refine iteB (l1.trans (decide_eq_true h32)) ?_
          refine ⟨_, _, rfl, rfl, _, rfl, ?_⟩
          rw [decide_eq_true h32, Bool.true_and] at q
          by_cases h126 : c ≤ 126
          · refine iteB (l2.trans (decide_eq_true h126)) ?_
            rw [decide_eq_true h126, Bool.true_and] at q
            refine ⟨_, rfl, _, rfl, h1, rfl, ?_⟩
            have e : decide (V.int (z.cps.getD 0 0 : Nat) = V.int 37) = decide (c = 37) := by
              rw [hg]
              exact lenEq (k := 37)
            rw [e]
            exact q
          · refine iteC (l2.trans (decide_eq_false h126)) ?_
            rw [decide_eq_false h126, Bool.false_and] at q
            exact q
        · refine iteC (l1.trans (decide_eq_false h32)) ?_
          rw [decide_eq_false h32, Bool.false_and] at q
          exact ⟨_, rfl, iteF q⟩
      · refine iteB ?_ ?_
        · have e : decide (V.int (z.length : Int) = V.int 1) = decide (z.length = 1) := lenEq (k := 1)
          rw [e, decide_eq_false h1]
          rfl
        · have hq : signD (.str z) = false := by
            show sign1 z.cps.toList = _
            rw [← hl] at h1
            match h : z.cps.toList, h1 with
            | [], _ => rfl
            | [c], h1 => exact (h1 rfl).elim
            | _ :: _ :: _, _ => rfl
          rw [hq] at q
          exact q
    · have e : (tyD d == "str") = false := beq_eq_false_iff_ne.mpr hs
      have hi := hd.is (K := K)
      refine ⟨_, rfl, _, _, _, _, rfl, hi.1, kit_eq.trans ((kit_str _ hi.2).trans (congrArg some e)), _, rfl, ?_⟩
      refine iteT ?_
      have hq : signD d = false := by
        cases d <;> first | rfl | exact (hs rfl).elim
      rw [hq] at q
      exact q
end
/-- what of the text the texts' functions ask -/
structure Tx (K : PySem.W.Frag) (mg : Str → Option Value) (CN : Addr) : Prop where
  mN : mg "NoText" = some (.ref CN)
  xm : XMkB K CN
  gF : ∃ u, mg "FIGURES" = some u ∧ RelV (.str "0123456789") u
  gM : ∃ u, mg "MOST_FIGURES" = some u ∧ RelV (.int 400) u
  gB : ∃ u, mg "NEVER_BARE" = some u ∧ RelV (.str " ,;") u
  gP : ∃ u, mg "PERCENT" = some u ∧ RelV (.int 37) u
  gE : ∃ a, mg "ESCAPED" = some (.ref a) ∧ KTab K a escT
def spAsk (CN : Addr) : Sp := fun vs H Q E => ∃ (b : Bool) (y : Str), vs = [.bl b, .str y] ∧ (b = true → Q .non H) ∧ (b = false → ∀ H', Same H H' → E (.ref CN) none H')
def spWholeOf (CN : Addr) : Sp := fun vs H Q E => ∃ z : Str, vs = [.str z] ∧ z.length ≤ 900 ∧ (∀ n H', Same H H' → Kx.wholeOf z.cps.toList = some n → Q (.int n) H') ∧ (∀ H', Same H H' → Kx.wholeOf z.cps.toList = none → E (.ref CN) none H')
def spWordOf (CN : Addr) : Sp := fun vs H Q E => ∃ z : Str, vs = [.str z] ∧ z.length ≤ 900 ∧ (∀ x H', Same H H' → Kx.wordOf z.cps.toList = some x → x.length ≤ z.length → Q (.str (S x)) H') ∧ (∀ H', Same H H' → Kx.wordOf z.cps.toList = none → E (.ref CN) none H')
section
variable {P : Program} {w : World} {K : PySem.W.Frag} {mg : Str → Option Value} {base : Heap} {CN : Addr}
theorem ok_ask {f : Addr} {fd : FuncData} (F : Fun K "ask_text" "ask_text" (top 29) f fd) (T : Tx K mg CN) : FnOk P w K mg base (CX1 P w) 1 f fd ["fine", "why"] (spAsk CN) := by
  have sc : FnScope ["fine", "why"] ["fine", "why"] (defScope (top 29)) := ⟨rfl, rfl, rfl, by decide +kernel, rfl, by decide +kernel, by decide +kernel⟩
  refine F.x.okX sc (fun vs H Q E h => ?_) (fun cdv A outer s H vs Q E hr h => ?_)
  · obtain ⟨b, y, rfl, _⟩ := h
    rfl
  · obtain ⟨b, y, rfl, qt, qf⟩ := h
    refine ⟨_, pss_one (ps_if (pt_not (pt_val (pv 0))) (pss_one (ps_raise rfl (pe_xmakeB T.xm (by rfl) T.mN (pa_cons (pv 1) pa_nil)) lands_cx)) pss_nil), ?_⟩
    refine ⟨_, rfl, b, rfl, ?_⟩
    cases b with
    | true => exact iteF (qt rfl)
    | false =>
      refine iteT ⟨_, rfl, (by show 1 ≤ sizeLine; decide), fun x nx hx => ⟨x, CN, none, rfl, upd_same, nx, T.xm.cl, qf rfl _ fun b o e => ?_⟩⟩
      have nb : b ≠ x := ne_of_none e hx
      rw [dropH_ne nb, upd_ne nb]
      exact e
theorem digs_eq (c : Nat) : decide (c ∈ ("0123456789" : Str).cps.toList) = Kx.dig c := by
  have e : ("0123456789" : Str).cps.toList = [48, 49, 50, 51, 52, 53, 54, 55, 56, 57] := by decide +kernel
  rw [e, Bool.eq_iff_iff]
  simp only [decide_eq_true_eq, List.mem_cons, List.not_mem_nil, or_false, Kx.dig, Bool.and_eq_true]
  omega
theorem nl_tx (i : Int) : (Nm.tx i).cps.toList = Kx.nl i := by
  unfold Kx.nl
  rcases Nm.tx_cases i with ⟨m, rfl, e⟩ | ⟨m, h0, rfl, e⟩
  · rw [if_neg (by omega), e]
    simp
  · rw [if_pos (by omega), e]
    simp
theorem all_dig {l : List Nat} (h : l.all Kx.dig = true) : PySem.NumText.AllDigits l := fun c hc => by
  have := List.all_eq_true.mp h c hc
  simp only [Kx.dig, Bool.and_eq_true, decide_eq_true_eq] at this
  exact this
/-- int of a text of figures -/
theorem reads {z : Str} (h1 : 1 ≤ (Kx.fg z.cps.toList).length) (h2 : (Kx.fg z.cps.toList).length ≤ 400) (hd : (Kx.fg z.cps.toList).all Kx.dig = true) : PySem.intText? z = some (Kx.numOf z.cps.toList) ∧ z.length ≤ 401 := by
  have hn : Kx.fg z.cps.toList ≠ [] := fun e => by rw [e] at h1; cases h1
  have hl := z_len z
  unfold Kx.numOf
  by_cases h : Kx.negd z.cps.toList = true
  · cases e : z.cps.toList with
    | nil => rw [e] at h; cases h
    | cons c r =>
      have hc : c = 45 := by rw [e] at h; simpa [Kx.negd] using h
      subst hc
      have ef : Kx.fg (45 :: r) = r := rfl
      rw [e, ef] at h1 h2 hd hn
      rw [e, List.length_cons] at hl
      have r1 := intText_neg (x := z) (cs := r) e (all_dig hd) hn (by omega)
      rw [r1, ef, if_pos (show Kx.negd (45 :: r) = true from rfl)]
      exact ⟨rfl, by omega⟩
  · have ef := fg_pos h
    rw [ef] at h1 h2 hd hn ⊢
    rw [if_neg h]
    exact ⟨intText_digits (x := z) (all_dig hd) hn (by omega), by omega⟩
theorem fold_lt : ∀ (l : List Nat) (a : Nat), (∀ c ∈ l, 48 ≤ c ∧ c ≤ 57) → l.foldl (fun v c => v * 10 + (c - 48)) a < (a + 1) * 10 ^ l.length
  | [], a, _ => by simp
  | c :: r, a, h => by
    have h1 := h c List.mem_cons_self
    have ih := fold_lt r (a * 10 + (c - 48)) fun d hd => h d (List.mem_cons_of_mem _ hd)
    rw [List.foldl_cons, List.length_cons, Nat.pow_succ]
    refine Nat.lt_of_lt_of_le ih ?_
    have e : (a + 1) * (10 ^ r.length * 10) = (a * 10 + 10) * 10 ^ r.length := by
      rw [Nat.mul_comm (10 ^ r.length) 10, ← Nat.mul_assoc, Nat.add_mul, Nat.one_mul]
    rw [e]
    exact Nat.mul_le_mul_right _ (by omega)
theorem lg {n : Nat} (h : n < 10 ^ 400) : n.log2 < 1920 := by
  by_cases h0 : n = 0
  · subst h0; decide
  · rw [Nat.log2_lt h0]
    exact Nat.lt_trans h (by decide +kernel)
theorem num_log {l : List Nat} (h : (Kx.fg l).length ≤ 400) (hd : (Kx.fg l).all Kx.dig = true) : (Kx.numOf l).natAbs.log2 < 1920 := by
  have h1 : PySem.NumText.digitsVal (Kx.fg l) < 10 ^ 400 := by
    have := fold_lt (Kx.fg l) 0 (all_dig hd)
    rw [Nat.zero_add, Nat.one_mul] at this
    exact Nat.lt_of_lt_of_le this (Nat.pow_le_pow_right (by decide) h)
  have h2 : (Kx.numOf l).natAbs = PySem.NumText.digitsVal (Kx.fg l) := by
    unfold Kx.numOf
    split <;> simp
  rw [h2]
  exact lg h1
theorem tx_eq {z : Str} {i : Int} : decide (V.str (toString i : String) = V.str z) = decide (Kx.nl i = z.cps.toList) := by
  have e : ((toString i : String) : Str) = Nm.tx i := rfl
  rw [e, Bool.eq_iff_iff, decide_eq_true_iff, decide_eq_true_iff, ← nl_tx]
  constructor
  · intro h
    injection h with h
    rw [h]
  · intro h
    have : Nm.tx i = z := by
      apply Str.ext'
      exact Array.toList_inj.mp h
    rw [this]
theorem ok_wholeOf {f fA : Addr} {fd fdA : FuncData} (F : Fun K "whole_of" "whole_of" (top 27) f fd) (T : Tx K mg CN) (B : Bl mg) (DA : Df K mg "ask_text" (top 29) fA fdA) : FnOk P w K mg base (CX1 P w) 2 f fd ["text"] (spWholeOf CN) := by
  have sc : FnScope ["text", "figures", "number"] ["text"] (defScope (top 27)) := ⟨rfl, rfl, rfl, by decide +kernel, rfl, by decide +kernel, by decide +kernel⟩
  have GA : FnOk P w K mg base (CX1 P w) 1 fA fdA ["fine", "why"] (spAsk CN) := ok_ask DA.fn T
  have bA := DA.fn.binds (ps := ["fine", "why"]) fun _ _ _ _ _ _ us hl => by obtain ⟨v0, v1, rfl⟩ := L2.ln2 hl; rfl
  obtain ⟨uF, mF, rF⟩ := T.gF
  obtain ⟨uM, mM, rM⟩ := T.gM
  refine F.x.okX sc (fun vs H Q E h => ?_) (fun cdv A outer s H vs Q E hr h => ?_)
  · obtain ⟨z, rfl, _⟩ := h
    rfl
  · obtain ⟨z, rfl, hz, q, qe⟩ := h
    have hzs : z.length ≤ sizeLine := by rw [sizeLine_eq]; omega
    refine split_at 1 (fun σ H' => H' = H ∧ ∃ y : Str, σ = [some (.str z), some (.str y), none] ∧ y.cps.toList = Kx.fg z.cps.toList ∧ y.length ≤ 900)
      ⟨_, pss_one (ps_set (i := 1) sc.nd rfl (Or.inl rfl) (pe_ifExp (pt_val (pe_bm PySem.F.plainAttrs_str PySem.F.slot_str_startswith PySem.F.type_str_startswith mt_startswith (pv 0) (pa_cons pe_str pa_nil))) (pe_slice sl_str (pv 0) (po_some pe_int) po_none) (pv 0))), ?_⟩
      ⟨_, pss_cons (ps_expr (pe_callX GA hr (by rfl) DA.mg DA.fn.kp bA .nil lands_cx (pa_cons (pe_chain op_le op_le pe_int (pe_callB call_len_str (by rfl) B.len PySem.boot_len (pa_cons (pv 1) pa_nil)) (pe_glob (by rfl) mM rM)) (pa_cons pe_str pa_nil))))
      (pss_cons (ps_expr (pe_callX GA hr (by rfl) DA.mg DA.fn.kp bA .nil lands_cx (pa_cons (pe_callB (call_all rfl) (by rfl) B.all boot_all (pa_cons (pe_comp (osc := defScope (top 27)) (N0 := ["text", "figures", "number"]) (xs := ["figure"]) (fr := []) ⟨rfl, by decide +kernel, by decide +kernel, by decide +kernel, by decide, by decide +kernel⟩ rfl rfl rfl (pi_str (pv 1))
        (fun s H fp => pg_name (i := 0) (show (["figure"] : List Str).Nodup by decide +kernel) rfl (Or.inl rfl)) (fun s H fp => pif_nil) (fun s H fp => pe_cmpR op_in_str (pv 0) (pe_glob (by rfl) mF rF) (by with_unfolding_all rfl))) pa_nil)) (pa_cons pe_str pa_nil))))
      (pss_cons (ps_set (i := 2) sc.nd rfl (Or.inl rfl) (pe_callTy call_intX (by rfl) B.int boot_int (pa_cons (pv 0) pa_nil)))
      (pss_cons (ps_expr (pe_callX GA hr (by rfl) DA.mg DA.fn.kp bA .nil lands_cx (pa_cons (pe_cmpR op_eq (pe_callTy call_str_int (by rfl) B.str boot_str (pa_cons (pv 2) pa_nil)) (pv 0) (nomark _)) (pa_cons pe_str pa_nil))))
      (pss_one (ps_ret (pv 2)))))), ?_⟩
    · refine ⟨_, rfl, rfl, z, _, rfl, rfl, _, rfl, ?_⟩
      refine ite2 (fun c => ?_) (fun c => ?_)
      · have c' : Kx.negd z.cps.toList = true := by rw [← starts_neg]; exact c
        exact ⟨_, rfl, _, rfl, _, rfl, hzs, rfl, _, rfl, slice_neg c', Nat.le_trans (Txt.slice_le _ _ _) hz⟩
      · have c' : ¬ Kx.negd z.cps.toList = true := by rw [← starts_neg]; exact c
        exact ⟨_, rfl, rfl, _, rfl, (fg_pos c').symm, hz⟩
    · rintro σ H' ⟨rfl, y, rfl, hy, hyl⟩
      have hys : y.length ≤ sizeLine := by rw [sizeLine_eq]; omega
      have hly : (Kx.fg z.cps.toList).length = y.length := by rw [← hy]; exact z_len y
      refine ⟨_, rfl, _, rfl, hys, chain_le ?_⟩
      refine ⟨_, _, rfl, fun h1 => ?_, fun h1 H2 s2 => ?_⟩
      · have hb : (1 : Int) ≤ y.length ∧ (y.length : Int) ≤ 400 := of_decide_eq_true h1
        refine ⟨_, rfl, _, rfl, fun D hD => ?_⟩
        have hlen : y.cps.toList.length = y.cps.size := Array.length_toList
        refine compW_map y.cps.size (fun i => .bl (Kx.dig (y.cps.toList.getD i 0))) (fun i σ' Hc => (∃ a, σ' = [a]) ∧ Hc = upd H' D (.lst ((List.range i).map fun i => .bl (Kx.dig (y.cps.toList.getD i 0))))) hys ⟨⟨none, rfl⟩, rfl⟩ upd_same ?_ ?_
        · rintro i σ' Hc hi ⟨⟨a, rfl⟩, rfl⟩ hD'
          refine ⟨hi, ?_⟩
          rintro x H' ⟨rfl, c, hc, rfl⟩
          refine ⟨_, rfl, _, _, rfl, rfl, ?_, hD', ⟨_, rfl⟩, upd_upd⟩
          have ec : y.cps.toList.getD i 0 = c := by
            rw [List.getD_eq_getElem?_getD, Array.getElem?_toList, hc]
            rfl
          rw [ec, ← digs_eq]
          exact congrArg V.bl (StrLaws.found_one "0123456789" c)
        · rintro σ' Hc ⟨_, rfl⟩ hDn
          refine ⟨Nat.le_refl _, ?_⟩
          refine ⟨D, y.cps.toList.map Kx.dig, rfl, SqL.of ?_, ?_⟩
          · rw [upd_same, ← hlen, range_map_getD y.cps.toList 0 (fun c => V.bl (Kx.dig c)), List.map_map]
            rfl
          · have ea : (y.cps.toList.map Kx.dig).all id = (Kx.fg z.cps.toList).all Kx.dig := by
              rw [hy, List.all_map]
              rfl
            rw [ea]
            have sD := Same.upd (o := .lst ((List.range y.cps.size).map fun i => .bl (Kx.dig (y.cps.toList.getD i 0)))) hD
            refine ⟨_, _, rfl, fun h2 => ?_, fun h2 H2 s2 => ?_⟩
            · obtain ⟨r1, r2⟩ := reads (z := z) (by rw [hly]; omega) (by rw [hly]; omega) h2
              refine ⟨_, rfl, _, _, rfl, r1, (by omega), ?_⟩
              refine ⟨_, rfl, _, rfl, num_log (by rw [hly]; omega) h2, _, rfl, rfl, ?_⟩
              rw [tx_eq]
              have ew : Kx.wholeOf z.cps.toList = if Kx.nl (Kx.numOf z.cps.toList) = z.cps.toList then some (Kx.numOf z.cps.toList) else none := by
                unfold Kx.wholeOf
                rw [if_neg (by rw [hly]; omega), if_pos h2]
              refine ⟨_, _, rfl, fun h3 => ?_, fun h3 H3 s3 => ?_⟩
              · refine ⟨_, rfl, ?_⟩
                exact q _ _ sD (by rw [ew, if_pos (of_decide_eq_true h3)])
              · exact qe _ (sD.trans s3) (by rw [ew, if_neg (of_decide_eq_false h3)])
            · refine qe _ (sD.trans s2) ?_
              unfold Kx.wholeOf
              rw [if_neg (by rw [hly]; omega), if_neg (by rw [h2]; decide)]
      · refine qe _ s2 ?_
        have hb : ¬ ((1 : Int) ≤ y.length ∧ (y.length : Int) ≤ 400) := of_decide_eq_false h1
        unfold Kx.wholeOf
        rw [if_pos (by rw [hly]; omega)]
theorem bare_eq (c : Nat) : (Kx.sgn c && !decide (c ∈ (" ,;" : Str).cps.toList)) = Kx.bare c := by
  have e : (" ,;" : Str).cps.toList = [32, 44, 59] := by decide +kernel
  rw [e]
  unfold Kx.bare
  congr 2
  simp [Bool.or_assoc]
theorem sign1_eq (c : Nat) : sign1 [c] = Kx.sgn c := by
  show (decide (32 ≤ c) && (decide (c ≤ 126) && !decide (c = 37))) = _
  unfold Kx.sgn
  rw [Bool.and_assoc]
theorem wd_len : ∀ (b : Bool) (l x : List Nat), Kx.wd b l = some x → x.length ≤ l.length
  | false, [], x, h => by cases h; exact Nat.le_refl _
  | true, [], x, h => by cases h
  | true, c :: r, x, h => by
    unfold Kx.wd at h
    cases e : Kx.esc1 c with
    | none => rw [e] at h; cases h
    | some d =>
      rw [e] at h
      cases e2 : Kx.wd false r with
      | none => rw [e2] at h; cases h
      | some y =>
        rw [e2] at h
        cases h
        have := wd_len false r y e2
        simp only [List.length_cons]
        omega
  | false, c :: r, x, h => by
    unfold Kx.wd at h
    by_cases h1 : c = 92
    · rw [if_pos h1] at h
      have := wd_len true r x h
      simp only [List.length_cons]
      omega
    · rw [if_neg h1] at h
      by_cases h2 : Kx.bare c = true
      · rw [if_pos h2] at h
        cases e2 : Kx.wd false r with
        | none => rw [e2] at h; cases h
        | some y =>
          rw [e2] at h
          cases h
          have := wd_len false r y e2
          simp only [List.length_cons]
          omega
      · rw [if_neg h2] at h; cases h
theorem sum_ones (l : List Nat) : ((l.map fun c => (⟨#[c]⟩ : Str)).map (·.length)).sum = l.length := by
  induction l with
  | nil => rfl
  | cons c l ih =>
    rw [List.map_cons, List.map_cons, List.sum_cons, ih, List.length_cons]
    show 1 + l.length = _
    omega
theorem ok_wordOf {f fA fS : Addr} {fd fdA fdS : FuncData} (F : Fun K "word_of" "word_of" (top 28) f fd) (T : Tx K mg CN) (B : Bl mg) (DA : Df K mg "ask_text" (top 29) fA fdA) (DS : Df K mg "is_sign" (top 12) fS fdS) : FnOk P w K mg base (CX1 P w) 2 f fd ["text"] (spWordOf CN) := by
  have sc : FnScope ["text", "signs", "escaped", "sign"] ["text"] (defScope (top 28)) := ⟨rfl, rfl, rfl, by decide +kernel, rfl, by decide +kernel, by decide +kernel⟩
  have GA : FnOk P w K mg base (CX1 P w) 1 fA fdA ["fine", "why"] (spAsk CN) := ok_ask DA.fn T
  have bA := DA.fn.binds (ps := ["fine", "why"]) fun _ _ _ _ _ _ us hl => by obtain ⟨v0, v1, rfl⟩ := L2.ln2 hl; rfl
  obtain ⟨uP, mP, rP⟩ := T.gP
  obtain ⟨uB, mB, rB⟩ := T.gB
  obtain ⟨aE, mE, kE⟩ := T.gE
  have GS := ok_sign (P := P) (w := w) (base := base) DS.fn B mP rP
  have bS := DS.fn.binds (ps := ["thing"]) fun _ _ _ _ _ _ us hl => by obtain ⟨v0, rfl⟩ := L2.ln1 hl; rfl
  refine F.x.okX sc (fun vs H Q E h => ?_) (fun cdv A outer s H vs Q E hr h => ?_)
  · obtain ⟨z, rfl, _⟩ := h
    rfl
  · obtain ⟨z, rfl, hz, q, qe⟩ := h
    refine ⟨_, pss_cons (ps_set (i := 1) sc.nd rfl (Or.inl rfl) (pe_lst pa_nil)) (pss_cons (ps_set (i := 2) sc.nd rfl (Or.inl rfl) pe_bl)
      (pss_cons (ps_for PassesOwn.leaving rfl (pi_str (pv 0)) (pg_name (i := 3) sc.nd rfl (Or.inl rfl))
        (pss_one (ps_if (pt_val (pv 2))
          (pss_cons (ps_expr (pe_callX GA hr (by rfl) DA.mg DA.fn.kp bA .nil lands_cx (pa_cons (pe_cmpR op_in_tab (pv 3) (pe_glob (v := .ref aE) (by rfl) mE rfl) (by with_unfolding_all rfl)) (pa_cons pe_str pa_nil))))
          (pss_cons (ps_expr (pe_bm PySem.F.plainAttrs_list PySem.F.slot_list_append PySem.F.type_list_append mt_app (pv 1) (pa_cons (pe_ix ix_tab (pe_glob (v := .ref aE) (by rfl) mE rfl) (pv 3) (fun _ _ => rfl)) pa_nil)))
          (pss_one (ps_set (i := 2) sc.nd rfl (Or.inl rfl) pe_bl))))
          (pss_one (ps_if (pt_cmpR op_eq (pv 3) pe_str (nomark _)) (pss_one (ps_set (i := 2) sc.nd rfl (Or.inl rfl) pe_bl))
            (pss_cons (ps_expr (pe_callX GA hr (by rfl) DA.mg DA.fn.kp bA .nil lands_cx (pa_cons (pe_and (pe_call GS hr (by rfl) DS.mg DS.fn.kp bS .nil pass0 (pa_cons (pv 3) pa_nil)) (pe_one (pe_cmpR op_notin_str (pv 3) (pe_glob (by rfl) mB rB) (by with_unfolding_all rfl)))) (pa_cons pe_str pa_nil))))
            (pss_one (ps_expr (pe_bm PySem.F.plainAttrs_list PySem.F.slot_list_append PySem.F.type_list_append mt_app (pv 1) (pa_cons (pv 3) pa_nil))))))))))
      (pss_cons (ps_expr (pe_callX GA hr (by rfl) DA.mg DA.fn.kp bA .nil lands_cx (pa_cons (pe_not (pv 2)) (pa_cons pe_str pa_nil))))
      (pss_one (ps_ret (pe_bm PySem.F.plainAttrs_str PySem.F.slot_str_join PySem.F.type_str_join mt_joinL pe_str (pa_cons (pv 1) pa_nil))))))), ?_⟩
    refine ⟨Nat.zero_le _, fun d hd => ?_⟩
    have hl := z_len z
    refine ⟨_, rfl, _, rfl, for_str (fun i σ H' => ∃ (acc : List Nat) (b : Bool) (u : Option V), σ = [some (.str z), some (.ref d), some (.bl b), u] ∧ Same H H' ∧ H' d = some (.lst (acc.map fun c => V.str ⟨#[c]⟩)) ∧ acc.length ≤ i ∧ i ≤ z.length ∧
        Kx.wordOf z.cps.toList = (Kx.wd b (z.cps.toList.drop i)).map (acc ++ ·)) ⟨[], false, none, rfl, Same.upd hd, upd_same, Nat.le_refl _, Nat.zero_le _, ?_⟩ ?_ ?_⟩
    · show Kx.wd false z.cps.toList = _
      rw [List.drop_zero]
      cases Kx.wd false z.cps.toList <;> rfl
    · rintro i c σ H' hc ⟨acc, b, u, rfl, s1, h1, ha, hi, hw⟩
      have hi' : i < z.length := by
        have := (Array.getElem?_eq_some_iff.mp hc).1
        exact this
      have hdrop : z.cps.toList.drop i = c :: z.cps.toList.drop (i + 1) := by
        have hc' : z.cps.toList[i]? = some c := by rw [Array.getElem?_toList]; exact hc
        obtain ⟨hlt, e⟩ := List.getElem?_eq_some_iff.mp hc'
        rw [List.drop_eq_getElem_cons hlt, e]
      rw [hdrop] at hw
      have hsz : (acc.map fun c => V.str ⟨#[c]⟩).length < sizeLine := by rw [List.length_map, sizeLine_eq]; omega
      have put : ∀ d', (acc.map fun c => V.str ⟨#[c]⟩) ++ [V.str ⟨#[d']⟩] = (acc ++ [d']).map fun c => V.str ⟨#[c]⟩ := fun d' => by rw [List.map_append]; rfl
      refine ⟨_, rfl, b, rfl, ?_⟩
      cases b with
      | true =>
        refine iteT ?_
        refine ⟨_, rfl, _, aE, escT, rfl, rfl, kE, ?_⟩
        rw [esc_keys]
        refine ⟨_, _, rfl, fun h2 => ?_, fun h2 H2 s2 => ?_⟩
        · obtain ⟨e, he⟩ := Option.isSome_iff_exists.mp h2
          refine ⟨_, rfl, .inl ⟨rfl, _, SqL.of h1⟩, _, rfl, _, aE, escL, ⟨#[e]⟩, rfl, rfl, kE, ?_, d, _, _, rfl, rfl, h1, hsz, ?_⟩
          · rw [esc_look, he]; rfl
          · refine ⟨acc ++ [e], false, _, rfl, s1.put hd, ?_, (by rw [List.length_append]; simp; omega), hi', ?_⟩
            · rw [put]; exact upd_same
            · rw [hw]
              conv => lhs; unfold Kx.wd
              rw [he]
              show ((Kx.wd false _).map (e :: ·)).map (acc ++ ·) = _
              rw [Option.map_map]
              congr 1
              funext x
              show acc ++ e :: x = (acc ++ [e]) ++ x
              rw [List.append_assoc]
              rfl
        · refine qe _ (s1.trans s2) ?_
          rw [hw]
          unfold Kx.wd
          have : Kx.esc1 c = none := by
            cases e : Kx.esc1 c with
            | none => rfl
            | some d => rw [e] at h2; cases h2
          rw [this]
          rfl
      | false =>
        refine iteF ?_
        refine ⟨_, rfl, rfl, _, rfl, ?_⟩
        have e9 : decide (V.str ⟨#[c]⟩ = V.str "\\") = decide (c = 92) := by
          rw [e92, Bool.eq_iff_iff, decide_eq_true_iff, decide_eq_true_iff]
          exact ⟨fun h => one_eq.mp (V.str.inj h), fun h => by rw [h]⟩
        by_cases h9 : c = 92
        · refine iteB (e9.trans (decide_eq_true h9)) ?_
          refine ⟨acc, true, _, rfl, s1, h1, by omega, hi', ?_⟩
          rw [hw]
          conv => lhs; unfold Kx.wd
          rw [if_pos h9]
        · refine iteC (e9.trans (decide_eq_false h9)) ?_
          refine ⟨_, rfl, _, .str ⟨#[c]⟩, rfl, rep_str (by show 1 ≤ 1000; decide), _, rfl, ?_⟩
          have es : signD (.str ⟨#[c]⟩) = Kx.sgn c := sign1_eq c
          rw [es]
          have hask : ∀ b : Bool, b = Kx.bare c → spAsk CN ([V.bl b, V.str "a sign that does not stand by itself"] ++ []) H' (fun _ H1 => ∃ v, [some (V.str z), some (V.ref d), some (V.bl false), some (V.str ⟨#[c]⟩)][1]? = some (some v) ∧ tyV K "list" v H1 ∧ ∃ v2, [some (V.str z), some (V.ref d), some (V.bl false), some (V.str ⟨#[c]⟩)][3]? = some (some v2) ∧ rAppend v [v2] H1 fun _ H2 => ∃ (acc : List Nat) (b : Bool) (u : Option V), [some (V.str z), some (V.ref d), some (V.bl false), some (V.str ⟨#[c]⟩)] = [some (.str z), some (.ref d), some (.bl b), u] ∧ Same H H2 ∧ H2 d = some (.lst (acc.map fun c => V.str ⟨#[c]⟩)) ∧ acc.length ≤ i + 1 ∧ i + 1 ≤ z.length ∧
              Kx.wordOf z.cps.toList = (Kx.wd b (z.cps.toList.drop (i + 1))).map (acc ++ ·)) E := by
            intro b hb
            refine ⟨b, _, rfl, fun h2 => ?_, fun h2 H2 s2 => ?_⟩
            · rw [hb] at h2
              refine ⟨_, rfl, .inl ⟨rfl, _, SqL.of h1⟩, _, rfl, d, _, _, rfl, rfl, h1, hsz, ?_⟩
              refine ⟨acc ++ [c], false, _, rfl, s1.put hd, ?_, (by rw [List.length_append]; simp; omega), hi', ?_⟩
              · rw [put]; exact upd_same
              · rw [hw]
                conv => lhs; unfold Kx.wd
                rw [if_neg h9, if_pos h2, Option.map_map]
                congr 1
                funext x
                show acc ++ c :: x = (acc ++ [c]) ++ x
                rw [List.append_assoc]
                rfl
            · rw [hb] at h2
              refine qe _ (s1.trans s2) ?_
              rw [hw]
              unfold Kx.wd
              rw [if_neg h9, if_neg (by rw [h2]; decide)]
              rfl
          by_cases h3 : Kx.sgn c = true
          · refine iteB h3 ?_
            refine ⟨_, rfl, _, _, rfl, rfl, ?_⟩
            rw [StrLaws.found_one]
            exact hask _ (by rw [← bare_eq, h3, Bool.true_and])
          · refine iteC (by simpa using h3) ?_
            exact hask _ (by rw [← bare_eq, (by simpa using h3 : Kx.sgn c = false)]; rfl)
    · rintro σ H' ⟨acc, b, u, rfl, s1, h1, ha, hi, hw⟩
      have hw' : Kx.wordOf z.cps.toList = (Kx.wd b []).map (acc ++ ·) := by
        rw [hw, List.drop_of_length_le (by rw [hl]; exact Nat.le_refl _)]
      refine ⟨_, rfl, b, rfl, _, _, rfl, fun h2 => ?_, fun h2 H2 s2 => ?_⟩
      · have hb : b = false := by cases b <;> first | rfl | cases h2
        subst hb
        have hx : Kx.wordOf z.cps.toList = some acc := by
          rw [hw']
          show some (acc ++ []) = _
          rw [List.append_nil]
        refine ⟨rfl, _, rfl, _, d, acc.map fun c => (⟨#[c]⟩ : Str), rfl, rfl, SqL.of (by rw [h1, List.map_map]; rfl), ?_, ?_⟩
        · rw [sum_ones, List.length_map]
          have e0 : ("" : Str).length = 0 := by decide +kernel
          rw [e0]
          omega
        · rw [join_ones]
          exact q _ _ s1 hx (by rw [← hl]; exact wd_len false _ _ hx)
      · have hb : b = true := by cases b <;> first | rfl | cases h2
        subst hb
        exact qe _ (s1.trans s2) hw'
end
end My

namespace L2
open PySem PySem.Spec PyProof.Rows
section
variable {X : Cx}
theorem lands_no : Lands X (fun _ _ _ _ => False) := fun _ _ _ _ _ _ _ _ _ _ q => q.elim
/-- == of a tuple with a text ahead and a tuple of one text -/
theorem op_eqT1 (hu : X.A.units < cLine) : OpR X (compareOp .Eq) (fun x y H Q => ∃ (a b : Addr) (s t : Str) (xs : List V), x = .ref a ∧ y = .ref b ∧ SqT X.K H a (.str s :: xs) ∧ SqT X.K H b [.str t] ∧ Q (.bl (decide (s = t) && xs.isEmpty)) H) := by
  intro pins st σ H x y v u Q I rx ry h
  obtain ⟨a, b, s, t, xs, rfl, rfl, ha, hb, q⟩ := h
  cases rx
  cases ry
  obtain ⟨its, r1, pl, _⟩ := I.tuple ha
  obtain ⟨jts, r2, ql, _⟩ := I.tuple hb
  cases r1 with
  | @cons _ i1 _ ir ri rr =>
    cases r2 with
    | @cons _ j1 _ jr rj rs =>
      cases rs
      obtain ⟨tk, rfl⟩ := ri
      obtain ⟨tk', rfl⟩ := rj
      have hlen : xs.length = ir.length := rr.length
      have hpl : IsTup st.heap a (Value.str s tk :: ir).toArray := pl
      obtain ⟨oa, ea, ca, na, da⟩ := hpl
      obtain ⟨ob, eb, cb, nb, db⟩ := ql
      refine SeqAt.eq_tupleAt (e := fun _ => decide (s = t)) ⟨oa, ea, ca, na, da⟩ ⟨ob, eb, cb, nb, db⟩ hu (fun j g1 g2 => ?_) ?_
      · have g2' : j < 1 := g2
        have e0 : j = 0 := by omega
        subst e0
        have := SeqAt.EqAt.str_str (A := X.A.in1) (s := st) s tk t tk'
        have e : (s == t) = decide (s = t) := by
          by_cases h : s = t
          · subst h; simp
          · rw [decide_eq_false h]; exact beq_eq_false_iff_ne.mpr h
        rw [e] at this
        exact this
      · refine ⟨.bl _, H, I, rfl, ?_⟩
        have e1 : ((List.range (min (Value.str s tk :: ir).toArray.size [Value.str t tk'].toArray.size)).all (fun _ => decide (s = t)) && (Value.str s tk :: ir).toArray.size == [Value.str t tk'].toArray.size) = (decide (s = t) && xs.isEmpty) := by
          have m1 : min (Value.str s tk :: ir).toArray.size [Value.str t tk'].toArray.size = 1 := by simp
          rw [m1]
          have e2 : ((Value.str s tk :: ir).toArray.size == [Value.str t tk'].toArray.size) = xs.isEmpty := by
            cases xs with
            | nil =>
              have : ir.length = 0 := hlen.symm
              simp [this]
            | cons y ys =>
              have : ir.length = ys.length + 1 := hlen.symm
              simp [this]
          rw [e2]
          simp
        rw [e1]
        exact q
/-- name = f(..), then a block that goes on -/
theorem psc_callW {n : Nat} {k : Nat} {f : Addr} {fd : FuncData} {ps : List Str} {sp : SpW} {x y : Str} {p pos spos py : Pos} {e : Expr} {r : List Stmt} {t : TA} {i : Nat} {ex : List Expr} (F : FnOkW n X.prog X.w X.K X.mg X.base k f fd ps sp) (hr : Room k X.A) (hg : Gl X x) (hm : X.mg x = some (.ref f)) (hk : PySem.W.keepIn X.K (.ref f) = true) (hb : Binds X.K fd ps [])
    (ha : PA X (e :: ex) t) {pins : List (Addr × Obj)} {s : Shared} {σ : St} {H : Hp} {D : Ends} {R : WK} (hn : n ≤ s.toks) (I : Inv X pins σ H s) (h : t σ H fun vs H1 => sp vs H1 R) (hN : X.N.Nodup) (hi : X.N[i]? = some y) (hx : Loc X.env.scope y)
    (nx : ∀ (s' : Shared) (u : Value) (j : Nat) (v : V) (H' : Hp), j ≤ s'.toks → R u j v H' → Inv X pins (σ.set i (some v)) H' s' → wpAny (model X.prog X.w) X.A (execs r X.env) (SP X pins D) X.xe s')
    (hdb : (x == ("__debug__" : Str)) = false := by decide) (he : starEach (e :: ex) X.env = (false, eval e X.env) :: starEach ex X.env := by rfl) (hpl : (backTo pos (starEach ex X.env)).any (·.1) = false := by rfl)
    (hs : swapsWith (.Call (.Name x p) (e :: ex) [] pos) (some (.Name y py)) spos.line X.env = pure false := by rfl) (hf : X.fn y = true ∨ X.env.scope.names.lookup y = some .local := by first | exact .inl rfl | exact .inr rfl | assumption) :
    wpAny (model X.prog X.w) X.A (execs (.Assign [.Name y py] (.Call (.Name x p) (e :: ex) [] pos) spos :: r) X.env) (SP X pins D) X.xe s := by
  refine wpAny_execs_cons (wpAny_Assign_Name (thn (ev_callW F hr hg hm hk hb ha hn I h hdb he hpl) fun u s1 ⟨v, H1, I1, r1, q1⟩ => ?_) hs)
  exact thnk (Nat.le_refl s1.toks) (store_ok (Q := fun _ s' => Inv X pins (σ.set i (some v)) H1 s') I1 hN hi hx r1 (fun s2 I2 => I2) hf) fun _ s2 hj I2 => nx s2 u _ v H1 hj q1 I2
end
end L2
namespace My
open PySem L2 PyProof.Rows
seal L2.PE L2.PT L2.PW L2.PS L2.PSs L2.PA L2.PI L2.PG L2.PGs L2.OpR L2.UnR L2.CallR L2.IxR L2.SlR L2.MtR L2.PIf L2.PO L2.MtM L2.PC L2.PIp L2.PSet L2.PGet L2.TruR L2.InOp L2.PK
/-! ### texts written -/
def escs (l : List Nat) : List Nat := l.flatMap Kx.escd
def r1 (z : Str) : Str := Txt.replace z "\\" "\\\\"
def r2 (z : Str) : Str := Txt.replace (r1 z) " " "\\_"
def r3 (z : Str) : Str := Txt.replace (r2 z) "," "\\c"
def r4 (z : Str) : Str := Txt.replace (r3 z) ";" "\\s"
/-- what is written of a value -/
def TextV (v : V) (l : List Nat) : Prop := (∃ i : Int, v = .int i ∧ i.natAbs < 10 ^ 400 ∧ l = Kx.nl i) ∨ ∃ z : Str, v = .str z ∧ z.length ≤ 1000 ∧ l = escs z.cps.toList
theorem tx_S (n : Int) : Nm.tx n = S (Kx.nl n) := by
  rw [← nl_tx]
  exact (S_cps _).symm
def spPlainText : SpK := fun vs H Q => ∃ v l, vs = [v] ∧ TextV v l ∧ Q (.str (S l)) H
def spVT (K : PySem.W.Frag) : Sp := fun vs H Q _ => ∃ (a : Addr) (v : V) (l : List Nat) (s : Str) (xs : List V), vs = [.ref a, v] ∧ SqT K H a (.str s :: xs) ∧ s.length ≤ 1000 ∧ wLS.any (strIs (.str s)) = false ∧ TextV v l ∧ ∀ H', Same H H' → Q (.str (S l)) H'
def spPlainOf (K : PySem.W.Frag) (CN : Addr) : Sp := fun vs H Q E => ∃ (a : Addr) (z : Str) (κ : Pk), vs = [.ref a, .str z] ∧ SqT K H a κ.vs ∧ z.length ≤ 900 ∧
  (κ.txt = true → (∀ x H', Same H H' → Kx.wordOf z.cps.toList = some x → x.length ≤ z.length → Q (.str (S x)) H') ∧ (∀ H', Same H H' → Kx.wordOf z.cps.toList = none → E (.ref CN) none H')) ∧
  (κ.txt = false → (∀ n H', Same H H' → Kx.wholeOf z.cps.toList = some n → Q (.int n) H') ∧ (∀ H', Same H H' → Kx.wholeOf z.cps.toList = none → E (.ref CN) none H'))
section
variable {P : Program} {w : World} {K : PySem.W.Frag} {mg : Str → Option Value} {base : Heap} {CN : Addr}
theorem ok_plainOf {f fN fW : Addr} {fd fdN fdW : FuncData} (F : Fun K "plain_of" "plain_of" (top 26) f fd) (DN : Df K mg "whole_of" (top 27) fN fdN) (GN : FnOk P w K mg base (CX1 P w) 2 fN fdN ["text"] (spWholeOf CN)) (DW : Df K mg "word_of" (top 28) fW fdW) (GW : FnOk P w K mg base (CX1 P w) 2 fW fdW ["text"] (spWordOf CN)) :
    FnOk P w K mg base (CX1 P w) 3 f fd ["kind", "text"] (spPlainOf K CN) := by
  have sc : FnScope ["kind", "text"] ["kind", "text"] (defScope (top 26)) := ⟨rfl, rfl, rfl, by decide +kernel, rfl, by decide +kernel, by decide +kernel⟩
  have bN := DN.fn.binds (ps := ["text"]) fun _ _ _ _ _ _ us hl => by obtain ⟨v0, rfl⟩ := L2.ln1 hl; rfl
  have bW := DW.fn.binds (ps := ["text"]) fun _ _ _ _ _ _ us hl => by obtain ⟨v0, rfl⟩ := L2.ln1 hl; rfl
  refine F.x.okX sc (fun vs H Q E h => ?_) (fun cdv A outer s H vs Q E hr h => ?_)
  · obtain ⟨a, z, κ, rfl, _⟩ := h
    rfl
  · obtain ⟨a, z, κ, rfl, ha, hz, q1, q2⟩ := h
    have hu : (A.deeper (envOfC "plain_of" (defScope (top 26)) s.heap.objs.size f cdv)).units + 1 < cLine := hu_of hr
    refine ⟨_, pss_one (ps_ret (pe_ifExp (pt_cmpR (op_inD hu) (pe_ix ix_tup (pv 0) pe_int (fun _ _ => rfl)) (pe_tup (pa_cons pe_str (pa_cons pe_str pa_nil))) (by with_unfolding_all rfl)) (pe_callX GW hr (by rfl) DW.mg DW.fn.kp bW .nil lands_cx (pa_cons (pv 1) pa_nil)) (pe_callX GN hr (by rfl) DN.mg DN.fn.kp bN .nil lands_cx (pa_cons (pv 1) pa_nil)))), ?_⟩
    refine ⟨_, rfl, _, _, 0, _, rfl, rfl, ha, at0 κ, (by show 2 ≤ sizeLine; decide), fun p hp => ?_⟩
    have sm := Same.upd (o := .tup [.str "word", .str "without"]) hp
    refine ⟨.str κ.name, p, wT, rep_str (name_len κ), rfl, upd_same, _, rfl, ?_⟩
    rw [txt_in]
    cases hx : κ.txt with
    | true =>
      refine iteT ?_
      exact ⟨_, rfl, z, rfl, hz, (fun x H' s1 => (q1 hx).1 x H' (sm.trans s1)), fun H' s1 => (q1 hx).2 H' (sm.trans s1)⟩
    | false =>
      refine iteF ?_
      exact ⟨_, rfl, z, rfl, hz, (fun x H' s1 => (q2 hx).1 x H' (sm.trans s1)), fun H' s1 => (q2 hx).2 H' (sm.trans s1)⟩
end
end My

namespace My
open PySem L2 PyProof.Rows
seal L2.PE L2.PT L2.PW L2.PS L2.PSs L2.PA L2.PI L2.PG L2.PGs L2.OpR L2.UnR L2.CallR L2.IxR L2.SlR L2.MtR L2.PIf L2.PO L2.MtM L2.PC L2.PIp L2.PSet L2.PGet L2.TruR L2.InOp L2.PK
/-! ### the law's own writing -/
def fnd (c : Nat) : Int := if c = 92 then 0 else if c = 32 then 1 else if c = 44 then 2 else if c = 59 then 3 else -1
def ecd (c : Nat) : Nat := if c = 92 then 92 else if c = 32 then 95 else if c = 44 then 99 else if c = 59 then 115 else 0
theorem fnd_all : ∀ c ∈ Kx.signs, Txt.find "\\ ,;" ⟨#[c]⟩ = fnd c := by decide +kernel
theorem fnd_cases : ∀ c ∈ Kx.signs, (fnd c < 0 ∧ Kx.escd c = [c]) ∨ (¬ fnd c < 0 ∧ atI ("\\_cs" : Str).cps.toList (fnd c) = some (ecd c) ∧ Kx.escd c = [92, ecd c]) := by decide +kernel
def spSignL : Sp := fun vs H Q _ => ∃ c : Int, vs = [.int c] ∧ ∀ ch, ch ∈ Kx.signs → Q (.str ⟨#[ch]⟩) H
def AllS (z : Str) : Prop := ∀ c ∈ z.cps.toList, c ∈ Kx.signs
def spUnits : Sp := fun vs H Q _ => ∃ z : Str, vs = [.str z] ∧ AllS z ∧ z.length ≤ 1000 ∧ ∀ d H', Same H H' → H' d = some (.lst (z.cps.toList.map fun c => V.str (S (Kx.escd c)))) → Q (.ref d) H'
def spWritten : Sp := fun vs H Q _ => ∃ z : Str, vs = [.str z] ∧ AllS z ∧ z.length ≤ 1000 ∧ ∀ H', Same H H' → Q (.str (S (escs z.cps.toList))) H'
theorem glue_all : ∀ (l : List (List Nat)), Txt.join "" (l.map S) = S l.flatten := by
  have e0 : ("" : Str) = ⟨#[]⟩ := by decide +kernel
  have h : ∀ (l : List (List Nat)) (a : Array Nat), ((l.map S).foldl (fun acc p => acc ++ (#[] : Array Nat) ++ p.cps) a).toList = a.toList ++ l.flatten := by
    intro l
    induction l with
    | nil => intro a; simp
    | cons c l ih =>
      intro a
      rw [List.map_cons, List.foldl_cons, ih]
      simp [S]
  intro l
  rw [e0]
  apply Str.ext'
  apply Array.toList_inj.mp
  show (((l.map S).drop 1).foldl (fun acc p => acc ++ (#[] : Array Nat) ++ p.cps) ((l.map S).headD Str.empty).cps).toList = l.flatten
  cases l with
  | nil => rfl
  | cons c l =>
    show ((l.map S).foldl (fun acc p => acc ++ (#[] : Array Nat) ++ p.cps) (S c).cps).toList = (c :: l).flatten
    rw [h]
    rfl
theorem escd_le (c : Nat) : (Kx.escd c).length ≤ 2 := by
  unfold Kx.escd
  repeat' split
  all_goals first | decide | (show 1 ≤ 2; decide)
theorem escs_len : ∀ l : List Nat, ((l.map Kx.escd).map fun x => (S x).length).sum ≤ 2 * l.length
  | [] => Nat.le_refl _
  | c :: l => by
    rw [List.map_cons, List.map_cons, List.sum_cons, List.length_cons, S_len]
    have := escs_len l
    have := escd_le c
    omega
section
variable {P : Program} {w : World} {K : PySem.W.Frag} {mg : Str → Option Value} {base : Heap} {CN : Addr}
theorem ok_signL {f : Addr} {fd : FuncData} (F : Fun K "_law_sign" "_law_sign" (top 33) f fd) : FnOk P w K mg base CX0 1 f fd ["_law_number"] spSignL := by
  have sc : FnScope ["_law_number", "_law_some"] ["_law_number"] (defScope (top 33)) := ⟨rfl, rfl, rfl, by decide +kernel, rfl, by decide +kernel, by decide +kernel⟩
  refine F.ok sc (fun vs H Q E h => ?_) (fun cdv A outer s H vs Q E hr h => ?_)
  · obtain ⟨c, rfl, _⟩ := h
    rfl
  · obtain ⟨c, rfl, q⟩ := h
    refine ⟨_, pss_cons (ps_set (i := 1) sc.nd rfl (Or.inl rfl) pe_str) (pss_cons (ps_set (i := 1) sc.nd rfl (Or.inl rfl) (pe_op op_add_str (pv 1) pe_str))
      (pss_cons (ps_if (pt_cmpR op_eq (pe_op op_mod (pv 0) pe_int) pe_int (nomark _)) (pss_one (ps_ret (pe_ix ix_str pe_str (pe_op op_mod (pe_op op_fdiv (pv 0) pe_int) pe_int) (fun _ _ => rfl)))) pss_nil)
      (pss_one (ps_ret (pe_ix ix_str (pv 1) (pe_op op_mod (pe_op op_fdiv (pv 0) pe_int) pe_int) (fun _ _ => rfl)))))), ?_⟩
    have go : ∀ (z : Str) (n : Nat), z.cps.toList.length = n → 0 < n → n ≤ 94 → (∀ ch ∈ z.cps.toList, ch ∈ Kx.signs) → rIxS (.str z) (.int (c / 3 % (n : Int))) H Q := fun z n h1 h0 hn h2 => by
      obtain ⟨ch, e1, e2⟩ := atN_mem (l := z.cps.toList) (i := c / 3 % (n : Int)) (Int.emod_nonneg _ (by omega)) (by rw [h1]; exact Int.emod_lt_of_pos _ (by omega))
      refine ⟨z, _, ch, rfl, rfl, ?_, e1, q ch (h2 ch e2)⟩
      have : z.length = z.cps.toList.length := by simp [Str.length]
      rw [this, h1, sizeLine_eq]
      omega
    refine ⟨_, rfl, _, _, rfl, rfl, (by decide +kernel), ?_⟩
    refine ⟨_, rfl, _, _, rfl, rfl, (pos rfl), rfl, _, rfl, ?_⟩
    refine ite2 (fun _ => ?_) (fun _ => ?_)
    · refine ⟨_, rfl, _, _, rfl, rfl, ⟨by decide, by decide⟩, _, _, rfl, rfl, (pos rfl), ?_⟩
      exact go _ 4 (by decide +kernel) (by decide) (by decide) (by decide +kernel)
    · refine ⟨_, rfl, _, rfl, _, _, rfl, rfl, ⟨by decide, by decide⟩, _, _, rfl, rfl, (pos rfl), ?_⟩
      exact go _ 94 (by decide +kernel) (by decide) (by decide) (by decide +kernel)
theorem ok_units {f : Addr} {fd : FuncData} (F : Fun K "_law_units" "_law_units" (top 34) f fd) : FnOk P w K mg base CX0 1 f fd ["_law_text_here"] spUnits := by
  have sc : FnScope ["_law_text_here", "_law_units_here", "_law_sign_here", "_law_at"] ["_law_text_here"] (defScope (top 34)) := ⟨rfl, rfl, rfl, by decide +kernel, rfl, by decide +kernel, by decide +kernel⟩
  refine F.ok sc (fun vs H Q E h => ?_) (fun cdv A outer s H vs Q E hr h => ?_)
  · obtain ⟨z, rfl, _⟩ := h
    rfl
  · obtain ⟨z, rfl, hs, hz, q⟩ := h
    refine ⟨_, pss_cons (ps_set (i := 1) sc.nd rfl (Or.inl rfl) (pe_lst pa_nil))
      (pss_cons (ps_for PassesOwn.never rfl (pi_str (pv 0)) (pg_name (i := 2) sc.nd rfl (Or.inl rfl))
        (pss_cons (ps_set (i := 3) sc.nd rfl (Or.inl rfl) (pe_bm PySem.F.plainAttrs_str PySem.F.slot_str_find PySem.F.type_str_find mt_find pe_str (pa_cons (pv 2) pa_nil)))
        (pss_one (ps_if (pt_cmpR op_lt (pv 3) pe_int (nomark _)) (pss_one (ps_expr (pe_bm PySem.F.plainAttrs_list PySem.F.slot_list_append PySem.F.type_list_append mt_app (pv 1) (pa_cons (pv 2) pa_nil))))
          (pss_one (ps_expr (pe_bm PySem.F.plainAttrs_list PySem.F.slot_list_append PySem.F.type_list_append mt_app (pv 1) (pa_cons (pe_op op_add_str pe_str (pe_ix ix_str pe_str (pv 3) (fun _ _ => rfl))) pa_nil))))))))
      (pss_one (ps_ret (pv 1)))), ?_⟩
    have hl := z_len z
    refine ⟨Nat.zero_le _, fun d hd => ?_⟩
    refine ⟨_, rfl, _, rfl, for_str (fun i σ H' => ∃ (u v : Option V), σ = [some (.str z), some (.ref d), u, v] ∧ Same H H' ∧ H' d = some (.lst ((z.cps.toList.take i).map fun c => V.str (S (Kx.escd c))))) ⟨none, none, rfl, Same.upd hd, upd_same⟩ ?_ ?_⟩
    · rintro i c σ H' hc ⟨u, v, rfl, s1, h1⟩
      have hc' : z.cps.toList[i]? = some c := by rw [Array.getElem?_toList]; exact hc
      have hm : c ∈ Kx.signs := hs c (List.mem_of_getElem? hc')
      have hi := (List.getElem?_eq_some_iff.mp hc').1
      have nx : ((z.cps.toList.take i).map fun c => V.str (S (Kx.escd c))) ++ [V.str (S (Kx.escd c))] = (z.cps.toList.take (i + 1)).map fun c => V.str (S (Kx.escd c)) := by
        rw [List.take_succ, hc', List.map_append]
        rfl
      have hsz : ((z.cps.toList.take i).map fun c => V.str (S (Kx.escd c))).length < sizeLine := by
        rw [List.length_map, List.length_take, sizeLine_eq]
        omega
      refine ⟨rfl, _, rfl, _, _, rfl, rfl, ?_⟩
      rw [fnd_all c hm]
      refine ⟨_, rfl, _, _, rfl, rfl, _, rfl, ?_⟩
      rcases fnd_cases c hm with ⟨h2, e⟩ | ⟨h2, h3, e⟩
      · refine iteB (decide_eq_true h2) ?_
        refine ⟨_, rfl, .inl ⟨rfl, _, SqL.of h1⟩, _, rfl, d, _, _, rfl, rfl, h1, hsz, _, _, rfl, s1.put hd, ?_⟩
        rw [upd_same, ← nx, e]
        rfl
      · refine iteC (decide_eq_false h2) ?_
        refine ⟨_, rfl, .inl ⟨rfl, _, SqL.of h1⟩, _, rfl, _, _, _, rfl, rfl, (by decide +kernel), h3, _, _, rfl, rfl, (by rw [e92]; show 1 + 1 ≤ sizeLine; decide), d, _, _, rfl, rfl, h1, hsz, _, _, rfl, s1.put hd, ?_⟩
        rw [upd_same, ← nx, e]
        have : ("\\" : Str) ++ (⟨#[ecd c]⟩ : Str) = S [92, ecd c] := by
          rw [e92]
          rfl
        rw [this]
    · rintro σ H' ⟨u, v, rfl, s1, h1⟩
      refine ⟨_, rfl, q d H' s1 ?_⟩
      rw [h1, List.take_of_length_le (by rw [hl]; exact Nat.le_refl _)]
theorem ok_written {f fU : Addr} {fd fdU : FuncData} (F : Fun K "_law_written" "_law_written" (top 35) f fd) (DU : Df K mg "_law_units" (top 34) fU fdU) : FnOk P w K mg base CX0 2 f fd ["_law_text_here"] spWritten := by
  have sc : FnScope ["_law_text_here"] ["_law_text_here"] (defScope (top 35)) := ⟨rfl, rfl, rfl, by decide +kernel, rfl, by decide +kernel, by decide +kernel⟩
  have GU : FnOk P w K mg base CX0 1 fU fdU ["_law_text_here"] spUnits := ok_units DU.fn
  have bU := DU.fn.binds (ps := ["_law_text_here"]) fun _ _ _ _ _ _ us hl => by obtain ⟨v0, rfl⟩ := L2.ln1 hl; rfl
  refine F.ok sc (fun vs H Q E h => ?_) (fun cdv A outer s H vs Q E hr h => ?_)
  · obtain ⟨z, rfl, _⟩ := h
    rfl
  · obtain ⟨z, rfl, hs, hz, q⟩ := h
    refine ⟨_, pss_one (ps_ret (pe_bm PySem.F.plainAttrs_str PySem.F.slot_str_join PySem.F.type_str_join mt_joinL pe_str (pa_cons (pe_call GU hr (by rfl) DU.mg DU.fn.kp bU .nil pass0 (pa_cons (pv 0) pa_nil)) pa_nil))), ?_⟩
    refine ⟨rfl, _, rfl, z, rfl, hs, hz, fun d H' s1 h1 => ?_⟩
    have hl := z_len z
    refine ⟨_, d, (z.cps.toList.map Kx.escd).map S, rfl, rfl, SqL.of ?_, ?_, ?_⟩
    · rw [h1, List.map_map, List.map_map]
      rfl
    · have e0 : ("" : Str).length = 0 := by decide +kernel
      rw [e0, List.map_map]
      have := escs_len z.cps.toList
      have e : ((z.cps.toList.map Kx.escd).map ((fun x : Str => x.length) ∘ S)).sum = ((z.cps.toList.map Kx.escd).map fun x => (S x).length).sum := rfl
      rw [e]
      omega
    · rw [glue_all]
      have : (z.cps.toList.map Kx.escd).flatten = escs z.cps.toList := by
        unfold escs
        rw [List.flatMap_def]
      rw [this]
      exact q H' s1
end
end My

namespace My
open PySem L2 PyProof.Rows
seal L2.PE L2.PT L2.PW L2.PS L2.PSs L2.PA L2.PI L2.PG L2.PGs L2.OpR L2.UnR L2.CallR L2.IxR L2.SlR L2.MtR L2.PIf L2.PO L2.MtM L2.PC L2.PIp L2.PSet L2.PGet L2.TruR L2.InOp L2.PK
/-! ### a value read -/
def rawP (κ : Pk) (l : List Nat) : Option V := if κ.txt = true then (Kx.wordOf l).map fun x => V.str (S x) else (Kx.wholeOf l).map V.int
def readP (κ : Pk) (l : List Nat) : Option V := (rawP κ l).filter (fitP κ)
/-- what of the text value_of asks besides -/
structure Ky (K : PySem.W.Frag) (mg : Str → Option Value) (kA : Addr) : Prop where
  mK : mg "KEY" = some (.ref kA)
  sq : ∀ H : Hp, SqT K H kA [.str "key"]
/-- a plain kind, or once of one -/
def KP (K : PySem.W.Frag) (H : Hp) (a : Addr) (κ : Pk) (kk : Kk) : Prop := KkOk K H a kk ∧ (kk = .pl κ ∨ kk = .onc κ)
def spVO (K : PySem.W.Frag) (CN : Addr) : Sp := fun vs H Q E => ∃ (a : Addr) (z : Str) (κ : Pk) (kk : Kk), vs = [.ref a, .str z] ∧ KP K H a κ kk ∧ z.length ≤ 900 ∧ (∀ v H', Same H H' → readP κ z.cps.toList = some v → Q v H') ∧ (∀ H', Same H H' → readP κ z.cps.toList = none → E (.ref CN) none H')
theorem vs_ne (κ : Pk) : ∃ xs, κ.vs = .str κ.name :: xs ∧ (decide (κ.name = ("key" : Str)) && xs.isEmpty) = false := by
  cases κ with
  | whole => exact ⟨_, rfl, by decide +kernel⟩
  | below n => exact ⟨_, rfl, by show (decide (("below" : Str) = "key") && false) = false; rw [Bool.and_false]⟩
  | upto n => exact ⟨_, rfl, by show (decide (("upto" : Str) = "key") && false) = false; rw [Bool.and_false]⟩
  | word => exact ⟨_, rfl, by decide +kernel⟩
  | without c => exact ⟨_, rfl, by show (decide (("without" : Str) = "key") && false) = false; rw [Bool.and_false]⟩
section
variable {P : Program} {w : World} {K : PySem.W.Frag} {mg : Str → Option Value} {base : Heap} {CN kA : Addr}
theorem KkOk.same {H H' : Hp} {a : Addr} {kk : Kk} (e : Same H H') (h : KkOk K H a kk) : KkOk K H' a kk := by
  cases kk with
  | pl κ => exact e.seqT h
  | key => exact e.seqT h
  | onc κ => obtain ⟨b, h1, h2⟩ := h; exact ⟨b, e.seqT h1, e.seqT h2⟩
  | lst κ => obtain ⟨b, h1, h2⟩ := h; exact ⟨b, e.seqT h1, e.seqT h2⟩
  | som κ => obtain ⟨b, h1, h2⟩ := h; exact ⟨b, e.seqT h1, e.seqT h2⟩
theorem KP.same {H H' : Hp} {a : Addr} {κ : Pk} {kk : Kk} (h : KP K H a κ kk) (e : Same H H') : KP K H' a κ kk := ⟨KkOk.same e h.1, h.2⟩
theorem ok_valueOf {f fP fA fF fW fL fT : Addr} {fd fdP fdA fdF fdW fdL fdT : FuncData} (F : Fun K "value_of" "value_of" (top 23) f fd) (T : Tx K mg CN) (Y : Ky K mg kA) (B : Bl mg) (DA : Df K mg "ask_text" (top 29) fA fdA) (DP : Df K mg "plain_of" (top 26) fP fdP) (GP : FnOk P w K mg base (CX1 P w) 3 fP fdP ["kind", "text"] (spPlainOf K CN))
    (DF : Df K mg "fits" (top 13) fF fdF) (DW : Df K mg "is_whole" (top 11) fW fdW) (DL : Df K mg "fits_plain" (top 15) fL fdL) (DT : Df K mg "fits_tuple" (top 14) fT fdT) : FnOk P w K mg base (CX1 P w) 5 f fd ["kind", "text"] (spVO K CN) := by
  have sc : FnScope ["kind", "text", "value"] ["kind", "text"] (defScope (top 23)) := ⟨rfl, rfl, rfl, by decide +kernel, rfl, by decide +kernel, by decide +kernel⟩
  have GA : FnOk P w K mg base (CX1 P w) 1 fA fdA ["fine", "why"] (spAsk CN) := ok_ask DA.fn T
  have GF : FnOk P w K mg base CX0 4 fF fdF ["kind", "value", "size"] (spFits K) := ok_fits DF.fn B DW DL DT
  have bA := DA.fn.binds (ps := ["fine", "why"]) fun _ _ _ _ _ _ us hl => by obtain ⟨v0, v1, rfl⟩ := L2.ln2 hl; rfl
  have bP := DP.fn.binds (ps := ["kind", "text"]) fun _ _ _ _ _ _ us hl => by obtain ⟨v0, v1, rfl⟩ := L2.ln2 hl; rfl
  have bF := DF.fn.binds (ps := ["kind", "value", "size"]) fun _ _ _ _ _ _ us hl => by obtain ⟨v0, v1, v2, rfl⟩ := L2.ln3 hl; rfl
  refine F.x.okX sc (fun vs H Q E h => ?_) (fun cdv A outer s H vs Q E hr h => ?_)
  · obtain ⟨a, z, κ, kk, rfl, _⟩ := h
    rfl
  · obtain ⟨a, z, κ, kk, rfl, hk, hz, q, qe⟩ := h
    have hr1 : Room 1 _ := hr.mono (by decide)
    have hr3 : Room 3 _ := hr.mono (by decide)
    have hu : (A.deeper (envOfC "value_of" (defScope (top 23)) s.heap.objs.size f cdv)).units + 1 < cLine := hu_of hr
    have hl := z_len z
    -- how the kind begins
    have shape : ∃ (nm : Str) (xs : List V), SqT K H a (.str nm :: xs) ∧ nm.length ≤ 1000 ∧ (decide (nm = ("key" : Str)) && xs.isEmpty) = false ∧ wLS.any (strIs (.str nm)) = false ∧ ((kk = .pl κ ∧ decide (V.str nm = V.str "once") = false ∧ SqT K H a κ.vs) ∨ (kk = .onc κ ∧ nm = "once" ∧ ∃ b, xs = [.ref b] ∧ SqT K H b κ.vs)) := by
      rcases hk with ⟨h1, rfl | rfl⟩
      · obtain ⟨xs, e1, e2⟩ := vs_ne κ
        have h1' : SqT K H a κ.vs := h1
        refine ⟨κ.name, xs, by rw [← e1]; exact h1', name_len κ, e2, (pname_ne κ).2.2, .inl ⟨rfl, (pname_ne κ).2.1, h1'⟩⟩
      · obtain ⟨b, h2, h3⟩ := h1
        exact ⟨"once", [.ref b], h2, by decide, by rw [show ([V.ref b] : List V).isEmpty = false from rfl, Bool.and_false], by decide +kernel, .inr ⟨rfl, rfl, b, rfl, h3⟩⟩
    obtain ⟨nm, xs, hs, hn, hkey, hls, hcase⟩ := shape
    refine split_at 2 (fun σ H' => Same H H' ∧ ∃ v, σ = [some (.ref a), some (.str z), some v] ∧ rawP κ z.cps.toList = some v ∧ (∀ y, v = .str y → y.length ≤ 1000) ∧ (∃ n, Is K H' v n ∧ n ≠ "tuple"))
      ⟨_, pss_cons (ps_if (pt_cmpR (op_eqT1 (Nat.lt_of_succ_lt hu)) (pv 0) (pe_glob (v := .ref kA) (by rfl) Y.mK rfl) (nomark _)) pss_never pss_nil)
        (pss_one (ps_if (pt_cmpR (op_inD hu) (pe_ix ix_tup (pv 0) pe_int (fun _ _ => rfl)) (pe_tup (pa_cons pe_str (pa_cons pe_str pa_nil))) (by with_unfolding_all rfl)) pss_never
          (pss_one (ps_if (pt_cmpR op_eq (pe_ix ix_tup (pv 0) pe_int (fun _ _ => rfl)) pe_str (nomark _))
            (pss_one (ps_set (i := 2) sc.nd rfl (Or.inl rfl) (pe_callX GP hr3 (by rfl) DP.mg DP.fn.kp bP .nil lands_cx (pa_cons (pe_ix ix_tup (pv 0) pe_int (fun _ _ => rfl)) (pa_cons (pv 1) pa_nil)))))
            (pss_one (ps_set (i := 2) sc.nd rfl (Or.inl rfl) (pe_callX GP hr3 (by rfl) DP.mg DP.fn.kp bP .nil lands_cx (pa_cons (pv 0) (pa_cons (pv 1) pa_nil))))))))), ?_⟩
      ⟨_, pss_cons (ps_expr (pe_callX GA hr1 (by rfl) DA.mg DA.fn.kp bA .nil lands_cx (pa_cons (pe_call GF hr (by rfl) DF.mg DF.fn.kp bF .nil pass0 (pa_cons (pv 0) (pa_cons (pv 2) (pa_cons pe_int pa_nil)))) (pa_cons pe_str pa_nil)))) (pss_one (ps_ret (pv 2))), ?_⟩
    · refine ⟨_, rfl, a, kA, nm, "key", xs, rfl, rfl, hs, Y.sq H, _, rfl, ?_⟩
      refine iteC hkey ?_
      refine ⟨_, rfl, _, _, 0, _, rfl, rfl, hs, atI_nat (j := 0) rfl, (by show 2 ≤ sizeLine; decide), fun p hp => ?_⟩
      have sm := Same.upd (o := .tup [.str "list", .str "some"]) hp
      refine ⟨.str nm, p, wLS, rep_str hn, rfl, upd_same, _, rfl, ?_⟩
      refine iteC hls ?_
      have hs' := sm.seqT hs
      refine ⟨_, rfl, _, _, 0, _, rfl, rfl, hs', atI_nat (j := 0) rfl, rfl, _, rfl, ?_⟩
      have fin : ∀ (b : Addr), SqT K H b κ.vs → spPlainOf K CN [.ref b, .str z] (upd H p (.tup [.str "list", .str "some"])) (fun v H' => Same H H' ∧ ∃ v', [some (V.ref a), some (V.str z), some v] = [some (.ref a), some (.str z), some v'] ∧ rawP κ z.cps.toList = some v' ∧ (∀ y, v' = .str y → y.length ≤ 1000) ∧ (∃ n, Is K H' v' n ∧ n ≠ "tuple")) E := by
        intro b hb
        refine ⟨b, z, κ, rfl, sm.seqT hb, hz, fun ht => ⟨fun x H' s1 hx hxl => ?_, fun H' s1 hx => ?_⟩, fun ht => ⟨fun n H' s1 hx => ?_, fun H' s1 hx => ?_⟩⟩
        · refine ⟨sm.trans s1, _, rfl, by unfold rawP; rw [if_pos ht, hx]; rfl, fun y e => ?_, ⟨"str", .str, by decide⟩⟩
          injection e with e
          rw [← e, S_len]
          omega
        · exact qe _ (sm.trans s1) (by unfold readP rawP; rw [if_pos ht, hx]; rfl)
        · refine ⟨sm.trans s1, _, rfl, by unfold rawP; rw [if_neg (by rw [ht]; decide), hx]; rfl, (fun y e => nomatch e), ⟨"int", .int, by decide⟩⟩
        · exact qe _ (sm.trans s1) (by unfold readP rawP; rw [if_neg (by rw [ht]; decide), hx]; rfl)
      rcases hcase with ⟨rfl, h1, h2⟩ | ⟨rfl, rfl, b, rfl, h2⟩
      · refine iteC h1 ?_
        exact ⟨_, rfl, _, rfl, fin a h2⟩
      · refine iteB (by decide) ?_
        exact ⟨_, rfl, _, _, 1, _, rfl, rfl, hs', atI_nat (j := 1) rfl, _, rfl, fin b h2⟩
    · rintro σ H' ⟨s1, v, rfl, hraw, hvl, n, hin, hnt⟩
      have hk' := hk.same s1
      refine ⟨_, rfl, _, rfl, a, v, 1, kk, .one, rfl, hk'.1, ⟨n, hin, hnt, hvl⟩, fun H2 s2 => ?_⟩
      have hfd : fitD kk 1 v .one = fitP κ v := by
        rcases hk.2 with rfl | rfl <;> rfl
      rw [hfd]
      have er : readP κ z.cps.toList = if fitP κ v = true then some v else none := by
        unfold readP
        rw [hraw]
        rfl
      refine ⟨_, _, rfl, fun h1 => ?_, fun h1 H3 s3 => ?_⟩
      · exact ⟨_, rfl, q v _ (s1.trans s2) (by rw [er, if_pos h1])⟩
      · exact qe _ ((s1.trans s2).trans s3) (by rw [er, if_neg (by rw [h1]; decide)])
end
end My

namespace L2
open PySem PySem.Spec PyProof.Rows
theorem pt_run {X : Cx} {c : Expr} {t : TT} (h : PT X c t) {pins : List (Addr × Obj)} {s : Shared} {σ : St} {H : Hp} {Q : Bool → Hp → Prop} (I : Inv X pins σ H s) (q : t σ H Q) : wpAny (model X.prog X.w) X.A (isTrue c X.env (eval c X.env)) (TP X pins σ Q) X.xe s := h pins s σ H Q I q
/-- a block's first k statements that ask tokens, then the rest -/
theorem sp_block {n : Nat} {X : Cx} {l : List Stmt} (k : Nat) {D : Ends} {pins : List (Addr × Obj)} {s : Shared} {σ : St} {H : Hp} (Mid : St → Hp → Prop) (hn : n ≤ s.toks) (I : Inv X pins σ H s)
    (h1 : ∃ t, PSsk n X (l.take k) t ∧ t { D with nx := Mid } σ H) (h2 : ∃ t, PSs X (l.drop k) t ∧ ∀ σ H, Mid σ H → t D σ H) : wpAny (model X.prog X.w) X.A (execs l X.env) (SP X pins D) X.xe s := by
  obtain ⟨t, pt, qt⟩ := h1
  obtain ⟨t2, p2, q2⟩ := h2
  have e : l = l.take k ++ l.drop k := (List.take_append_drop k l).symm
  rw [e, execs_app]
  refine wpAny_bind (thn (pt pins s σ H _ hn I qt) fun fl s2 hq => ?_)
  cases fl with
  | next =>
    obtain ⟨σ2, H2, I2, m⟩ := hq
    exact p2 pins s2 σ2 H2 D I2 (q2 σ2 H2 m)
  | ret u => exact wpAny_pure hq
  | brk => exact wpAny_pure hq
  | cont => exact wpAny_pure hq
end L2
namespace My
open PySem L2 PyProof.Rows
seal L2.PE L2.PT L2.PW L2.PS L2.PSs L2.PA L2.PI L2.PG L2.PGs L2.OpR L2.UnR L2.CallR L2.IxR L2.SlR L2.MtR L2.PIf L2.PO L2.MtM L2.PC L2.PIp L2.PSet L2.PGet L2.TruR L2.InOp L2.PK
/-! ### the law's kinds and values -/
def PkB : Pk → Prop
  | .below n => 1 ≤ n ∧ n ≤ 10 ^ 10
  | .upto n => -1000 ≤ n ∧ n ≤ 1000
  | .without c => c ∈ Kx.signs
  | _ => True
def spSignW : SpW := fun vs H Q => ∃ c : Int, vs = [.int c] ∧ ∀ ch t k, ch ∈ Kx.signs → 1 ≤ t → t < k → Q (.str ⟨#[ch]⟩ t) k (.str ⟨#[ch]⟩) H
def spPl (K : PySem.W.Frag) : Sp := fun vs H Q _ => ∃ wy c : Int, vs = [.int wy, .int c] ∧ 0 ≤ wy ∧ wy ≤ 3 ∧ ∀ (κ : Pk) (a : Addr) (H' : Hp), Same H H' → PkB κ → (wy < 3 → κ.txt = false) → (wy = 3 → κ = .word) → SqT K H' a κ.vs → Q (.ref a) H'
def spPlW : SpW := fun vs H Q => ∃ c : Int, vs = [.int 4, .int c] ∧ ∀ (p : Addr) (ch : Nat) (t : Tok) (k : Nat) (H' : Hp), Same H H' → ch ∈ Kx.signs → TokPair H' p "without" ⟨#[ch]⟩ t → 1 ≤ t → t < k → Q (.ref p) k (.ref p) H'
def spPV (K : PySem.W.Frag) : Sp := fun vs H Q _ => ∃ (a : Addr) (c : Int) (κ : Pk), vs = [.ref a, .int c] ∧ SqT K H a κ.vs ∧ κ.txt = false ∧ PkB κ ∧ 0 ≤ c ∧ c < 2147483647 ∧ ∀ (i : Int) (H' : Hp), Same H H' → fitP κ (.int i) = true → i.natAbs < 10 ^ 60 → Q (.int i) H'
def spLT (K : PySem.W.Frag) : Sp := fun vs H Q _ => ∃ (a : Addr) (ns : List Int), vs = [.ref a] ∧ SqL K H a (ns.map V.int) ∧ ns.length ≤ 63 ∧ ∀ z : Str, AllS z → z.length ≤ 150 → Q (.str z) H
section
variable {P : Program} {w : World} {K : PySem.W.Frag} {mg : Str → Option Value} {base : Heap} {CN kA : Addr}
theorem ok_signW {f : Addr} {fd : FuncData} (F : Fun K "_law_sign" "_law_sign" (top 33) f fd) : FnOkW 0 P w K mg base 1 f fd ["_law_number"] spSignW := by
  have sc : FnScope ["_law_number", "_law_some"] ["_law_number"] (defScope (top 33)) := ⟨rfl, rfl, rfl, by decide +kernel, rfl, by decide +kernel, by decide +kernel⟩
  refine F.okW sc (fun vs H Q h => ?_) (fun cdv A outer s H vs Q s1 hr h _ I => ?_)
  · obtain ⟨c, rfl, _⟩ := h
    rfl
  · obtain ⟨c, rfl, q⟩ := h
    refine wpAny_execs_cons (thn (set_const (i := 1) (D := { nx := fun σ' H' => σ' = [some (.int c), some (.str " !\"#$&'()*+,-./0123456789:;<=>?@ABCDEFGHIJKLMNOPQRSTUVWXYZ[\\]^_`")] ∧ H' = H, rt := fun _ _ => False }) I sc.nd rfl (Or.inl rfl) ⟨rfl, rfl⟩) fun fl s2 ⟨n2, h2⟩ => ?_)
    cases fl with
    | next =>
      obtain ⟨σ2, H2, I2, rfl, rfl⟩ := h2
      show wpAny _ _ (execs ((defBody (top 33)).drop 1) _) _ _ s2
      refine run_block (n := 1) 1 (fun σ H' => (∃ z : Str, σ = [some (.int c), some (.str z)] ∧ z.cps.toList.length = 94 ∧ ∀ ch ∈ z.cps.toList, ch ∈ Kx.signs) ∧ H' = H2) n2 I2 ?_ ?_
      · refine ⟨_, PSs.k (pss_one (ps_set (i := 1) sc.nd rfl (Or.inl rfl) (pe_op op_add_str (pv 1) pe_str))), ?_⟩
        exact ⟨_, rfl, _, _, rfl, rfl, (by decide +kernel), ⟨_, rfl, (by decide +kernel), (by decide +kernel)⟩, rfl⟩
      · rintro s3 σ3 H3 n3 I3 ⟨⟨z, rfl, hz, ho⟩, rfl⟩
        have go : ∀ (y : Str) (n : Nat), y.cps.toList.length = n → 0 < n → n ≤ 94 → (∀ ch ∈ y.cps.toList, ch ∈ Kx.signs) → ∃ ch, ch ∈ Kx.signs ∧ y.length ≤ sizeLine ∧ atI y.cps.toList (c / 3 % (n : Int)) = some ch := fun y n h1 h0 hn h2 => by
          obtain ⟨ch, e1, e2⟩ := atN_mem (l := y.cps.toList) (i := c / 3 % (n : Int)) (Int.emod_nonneg _ (by omega)) (by rw [h1]; exact Int.emod_lt_of_pos _ (by omega))
          refine ⟨ch, h2 ch e2, ?_, e1⟩
          rw [← z_len, h1, sizeLine_eq]
          omega
        show wpAny _ _ (execs ((defBody (top 33)).drop 2) _) _ _ s3
        refine wpAny_execs_cons (wpAny_If (thnk n3 (pt_run (pt_cmpR op_eq (pe_op op_mod (pv 0) pe_int) pe_int (nomark _)) (Q := fun _ H' => H' = H3) I3 ⟨_, rfl, _, _, rfl, rfl, (pos rfl), rfl, _, rfl, rfl⟩) fun b s4 n4 ⟨H4, I4, e4⟩ => ?_))
        subst e4
        cases b with
        | true =>
          refine wpAny_execs_cons (wpAny_Return_some (thn (ev_ixs (n := 1) (Q := Q) pe_str (pe_op op_mod (pe_op op_fdiv (pv 0) pe_int) pe_int) (fun _ _ => rfl) n4 I4 ?_) fun u s5 ⟨v, H5, I5, r5, q5⟩ => ⟨v, _, H5, I5, r5, q5⟩))
          obtain ⟨ch, h1, h2, h3⟩ := go ("\\ ,;" : Str) 4 (by decide +kernel) (by decide) (by decide) (by decide +kernel)
          exact ⟨_, rfl, _, _, rfl, rfl, ⟨by decide, by decide⟩, _, _, rfl, rfl, (pos rfl), _, _, ch, rfl, rfl, h2, h3, fun tk hk => q ch tk (tk + 1) h1 hk (Nat.lt_succ_self _)⟩
        | false =>
          refine wpAny_execs_nil ?_
          refine wpAny_execs_cons (wpAny_Return_some (thn (ev_ixs (n := 1) (Q := Q) (pv 1) (pe_op op_mod (pe_op op_fdiv (pv 0) pe_int) pe_int) (fun _ _ => rfl) n4 I4 ?_) fun u s5 ⟨v, H5, I5, r5, q5⟩ => ⟨v, _, H5, I5, r5, q5⟩))
          obtain ⟨ch, h1, h2, h3⟩ := go z 94 hz (by decide) (by decide) ho
          exact ⟨_, rfl, _, rfl, _, _, rfl, rfl, ⟨by decide, by decide⟩, _, _, rfl, rfl, (pos rfl), _, _, ch, rfl, rfl, h2, h3, fun tk hk => q ch tk (tk + 1) h1 hk (Nat.lt_succ_self _)⟩
    | ret v => obtain ⟨_, _, _, _, _, z⟩ := h2; exact z.elim
    | brk => obtain ⟨_, _, _, z⟩ := h2; exact z.elim
    | cont => obtain ⟨_, _, _, z⟩ := h2; exact z.elim
theorem ok_pl {f : Addr} {fd : FuncData} (F : Fun K "_law_plain" "_law_plain" (top 36) f fd) : FnOk P w K mg base CX0 2 f fd ["_law_way", "_law_number"] (spPl K) := by
  have sc : FnScope ["_law_way", "_law_number"] ["_law_way", "_law_number"] (defScope (top 36)) := ⟨rfl, rfl, rfl, by decide +kernel, rfl, by decide +kernel, by decide +kernel⟩
  refine F.ok sc (fun vs H Q E h => ?_) (fun cdv A outer s H vs Q E hr h => ?_)
  · obtain ⟨wy, c, rfl, _⟩ := h
    rfl
  · obtain ⟨wy, c, rfl, h0, h4, q⟩ := h
    refine ⟨_, pss_cons (ps_if (pt_cmpR op_eq (pv 0) pe_int (nomark _)) (pss_one (ps_ret (pe_tup (pa_cons pe_str pa_nil)))) pss_nil)
      (pss_cons (ps_if (pt_cmpR op_eq (pv 0) pe_int (nomark _)) (pss_one (ps_ret (pe_tup (pa_cons pe_str (pa_cons (pe_op op_add pe_int (pe_op op_mod (pv 1) (pe_ix ix_list (pe_lst (pa_cons pe_int (pa_cons (pe_op op_pow pe_int pe_int) (pa_cons (pe_op op_add (pe_op op_pow pe_int pe_int) pe_int) pa_nil)))) (pe_op op_mod (pe_op op_fdiv (pv 1) pe_int) pe_int) (fun _ _ => rfl)))) pa_nil))))) pss_nil)
      (pss_cons (ps_if (pt_cmpR op_eq (pv 0) pe_int (nomark _)) (pss_one (ps_ret (pe_tup (pa_cons pe_str (pa_cons (pe_op op_sub (pe_op op_mod (pv 1) pe_int) pe_int) pa_nil))))) pss_nil)
      (pss_cons (ps_if (pt_cmpR op_eq (pv 0) pe_int (nomark _)) (pss_one (ps_ret (pe_tup (pa_cons pe_str pa_nil)))) pss_nil) pss_never))), ?_⟩
    have eqi : ∀ {k : Int}, decide (V.int wy = V.int k) = decide (wy = k) := fun {k} => by
      rw [dec_int, Bool.eq_iff_iff]; simp
    refine ⟨_, rfl, rfl, _, rfl, ?_⟩
    by_cases c0 : wy = 0
    · refine iteB (eqi.trans (decide_eq_true c0)) ?_
      refine ⟨(by decide), fun p hp => ?_⟩
      exact q .whole p _ (Same.upd hp) trivial (fun _ => rfl) (fun e => by omega) (SqT.of upd_same)
    refine iteC (eqi.trans (decide_eq_false c0)) ?_
    refine ⟨_, rfl, rfl, _, rfl, ?_⟩
    by_cases c1 : wy = 1
    · refine iteB (eqi.trans (decide_eq_true c1)) ?_
      have p6 : CPow 10 6 := ⟨by decide, by decide, by decide⟩
      have p9 : CPow 10 9 := ⟨by decide, by decide, by decide⟩
      refine ⟨_, rfl, _, _, rfl, rfl, p6, _, _, rfl, rfl, p9, _, _, rfl, rfl, (by show 3 ≤ sizeLine; decide), fun l hl => ?_⟩
      have s1 := Same.upd (o := .lst [.int 5, .int ((10 : Int) ^ (6 : Int).toNat), .int ((10 : Int) ^ (9 : Int).toNat + 7)]) hl
      obtain ⟨v, hv, hm⟩ := at_mem (l := [V.int 5, .int ((10 : Int) ^ (6 : Int).toNat), .int ((10 : Int) ^ (9 : Int).toNat + 7)]) (i := c / 7 % 3) (Int.emod_nonneg _ (by decide)) (by show c / 7 % 3 < 3; exact Int.emod_lt_of_pos _ (by decide))
      obtain ⟨m, rfl, m0, m1⟩ : ∃ m : Int, v = .int m ∧ 0 < m ∧ m ≤ 1000000007 := by
        simp only [List.mem_cons, List.not_mem_nil, or_false] at hm
        rcases hm with rfl | rfl | rfl
        · exact ⟨_, rfl, by decide, by decide⟩
        · exact ⟨_, rfl, by decide +kernel, by decide +kernel⟩
        · exact ⟨_, rfl, by decide +kernel, by decide +kernel⟩
      have q0 := Int.emod_nonneg c (show m ≠ 0 by omega)
      have q1 := Int.emod_lt_of_pos c m0
      refine ⟨_, rfl, _, _, rfl, rfl, ⟨by decide, by decide⟩, _, _, rfl, rfl, (pos rfl), _, _, _, _, rfl, rfl, SqL.of upd_same, hv, _, _, rfl, rfl, m0, _, _, rfl, rfl, (show 2 ≤ sizeLine by decide), fun p hp => ?_⟩
      exact q (.below (1 + c % m)) p _ (s1.trans (Same.upd hp)) ⟨by omega, by omega⟩ (fun _ => rfl) (fun e => by omega) (SqT.of upd_same)
    refine iteC (eqi.trans (decide_eq_false c1)) ?_
    refine ⟨_, rfl, rfl, _, rfl, ?_⟩
    by_cases c2 : wy = 2
    · refine iteB (eqi.trans (decide_eq_true c2)) ?_
      have q0 := Int.emod_nonneg c (show (2001 : Int) ≠ 0 by decide)
      have q1 := Int.emod_lt_of_pos c (show (0 : Int) < 2001 by decide)
      refine ⟨_, rfl, _, _, rfl, rfl, (pos rfl), _, _, rfl, rfl, (show 2 ≤ sizeLine by decide), fun p hp => ?_⟩
      exact q (.upto (c % 2001 - 1000)) p _ (Same.upd hp) ⟨by omega, by omega⟩ (fun _ => rfl) (fun e => by omega) (SqT.of upd_same)
    refine iteC (eqi.trans (decide_eq_false c2)) ?_
    refine ⟨_, rfl, rfl, _, rfl, ?_⟩
    have c3 : wy = 3 := by omega
    refine iteB (eqi.trans (decide_eq_true c3)) ?_
    refine ⟨(by decide), fun p hp => ?_⟩
    exact q .word p _ (Same.upd hp) trivial (fun e => by omega) (fun _ => rfl) (SqT.of upd_same)
theorem ok_plW {f fS : Addr} {fd fdS : FuncData} (F : Fun K "_law_plain" "_law_plain" (top 36) f fd) (DS : Df K mg "_law_sign" (top 33) fS fdS) : FnOkW 0 P w K mg base 2 f fd ["_law_way", "_law_number"] spPlW := by
  have sc : FnScope ["_law_way", "_law_number"] ["_law_way", "_law_number"] (defScope (top 36)) := ⟨rfl, rfl, rfl, by decide +kernel, rfl, by decide +kernel, by decide +kernel⟩
  have GS : FnOkW 0 P w K mg base 1 fS fdS ["_law_number"] spSignW := ok_signW DS.fn
  have bS := DS.fn.binds (ps := ["_law_number"]) fun _ _ _ _ _ _ us hl => by obtain ⟨v0, rfl⟩ := L2.ln1 hl; rfl
  refine F.okW sc (fun vs H Q h => ?_) (fun cdv A outer s H vs Q s1 hr h _ I => ?_)
  · obtain ⟨c, rfl, _⟩ := h
    rfl
  · obtain ⟨c, rfl, q⟩ := h
    refine run_block (n := 0) 4 (fun σ' H' => σ' = [some (.int 4), some (.int c)] ∧ H' = H) (Nat.zero_le _) I ?_ ?_
    · refine ⟨_, PSs.k (pss_cons (ps_if (pt_cmpR op_eq (pv 0) pe_int (nomark _)) pss_never pss_nil) (pss_cons (ps_if (pt_cmpR op_eq (pv 0) pe_int (nomark _)) pss_never pss_nil) (pss_cons (ps_if (pt_cmpR op_eq (pv 0) pe_int (nomark _)) pss_never pss_nil) (pss_one (ps_if (pt_cmpR op_eq (pv 0) pe_int (nomark _)) pss_never pss_nil))))), ?_⟩
      exact ⟨_, rfl, rfl, _, rfl, iteC (by decide) ⟨_, rfl, rfl, _, rfl, iteC (by decide) ⟨_, rfl, rfl, _, rfl, iteC (by decide) ⟨_, rfl, rfl, _, rfl, iteC (by decide) ⟨rfl, rfl⟩⟩⟩⟩⟩
    · rintro s2 σ2 H2 _ I2 ⟨rfl, rfl⟩
      show wpAny _ _ (execs ((defBody (top 36)).drop 4) _) _ _ s2
      refine wpAny_execs_cons (wpAny_Return_some (thn (ev_pair (n := 0) (Q := Q) I2 (Nat.zero_le _) (fun s3 I3 _ => thn (ev_callW (Q := fun u k v H1 => ∃ ch t, ch ∈ Kx.signs ∧ 1 ≤ t ∧ t < k ∧ u = .str ⟨#[ch]⟩ t ∧ v = .str ⟨#[ch]⟩ ∧ H1 = H2) GS hr (by rfl) DS.mg DS.fn.kp bS (pa_cons (pv 1) pa_nil) (Nat.zero_le _) I3 ?_) fun u s4 ⟨v, H4, I4, r4, ch, t, o1, o2, o3, e1, e2, e3⟩ => ?_)) fun u s5 ⟨v, H5, I5, r5, q5⟩ => ⟨v, _, H5, I5, r5, q5⟩))
      · exact ⟨_, rfl, _, rfl, fun ch t k o1 o2 o3 => ⟨ch, t, o1, o2, o3, rfl, rfl, rfl⟩⟩
      · subst e3
        exact ⟨v, H4, I4, r4, _, t, e1, e2, fun p H6 hp s6 tp => q p ch t _ H6 s6 o1 tp o2 o3⟩
end
end My

namespace L2
open PySem PySem.Spec PyProof.Rows
theorem cut_last (xs : List V) (v : V) : cutV (xs ++ [v]) none (some (-1)) = xs := by
  have e := HT.clip_eq (-1) (xs ++ [v]).length (xs ++ [v]).length
  have hl : (xs ++ [v]).length = xs.length + 1 := by simp
  have e1 : HT.sIx (xs ++ [v]).length (xs ++ [v]).length (some (-1)) = xs.length := by
    rw [if_pos (by decide), hl] at e
    rw [hl]
    omega
  unfold cutV
  rw [e1, HT.sIx_none, List.drop_zero, Nat.sub_zero]
  simp
end L2
namespace My
open PySem L2 PyProof.Rows
seal L2.PE L2.PT L2.PW L2.PS L2.PSs L2.PA L2.PI L2.PG L2.PGs L2.OpR L2.UnR L2.CallR L2.IxR L2.SlR L2.MtR L2.PIf L2.PO L2.MtM L2.PC L2.PIp L2.PSet L2.PGet L2.TruR L2.InOp L2.PK
/-! ### tuples written and read -/
def tv : V → List Nat
  | .int i => Kx.nl i
  | .str z => escs z.cps.toList
  | _ => []
def GoodV (x : V) : Prop := (∃ i : Int, x = .int i ∧ i.natAbs < 10 ^ 400) ∨ ∃ z : Str, x = .str z ∧ z.length ≤ 200
theorem escs_le (l : List Nat) : (escs l).length ≤ 2 * l.length := by
  induction l with
  | nil => exact Nat.le_refl _
  | cons c l ih =>
    show ((c :: l).flatMap Kx.escd).length ≤ _
    rw [List.flatMap_cons, List.length_append, List.length_cons]
    have : (l.flatMap Kx.escd).length ≤ 2 * l.length := ih
    have := escd_le c
    omega
def commas (xs : List V) : List Nat := (xs.map fun x => tv x ++ [44]).flatten
def spVTl (K : PySem.W.Frag) : Sp := fun vs H Q _ => ∃ (a b p : Addr) (sort : Str) (xs : List V), vs = [.ref a, .ref p] ∧ SqT K H a [.str sort, .ref b] ∧ (sort = "list" ∨ sort = "some") ∧ SqT K H p xs ∧ xs.length ≤ 100 ∧ (∀ x ∈ xs, GoodV x) ∧ ∀ H', Same H H' → Q (.str (S (commas xs))) H'
/-- a pointer -/
def spVTk (K : PySem.W.Frag) : Sp := fun vs H Q _ => ∃ (a : Addr) (v : V), vs = [.ref a, v] ∧ SqT K H a [.str "key"] ∧ ((v = .non ∧ ∀ H', Same H H' → Q (.str "-") H') ∨ ∃ i : Int, v = .int i ∧ i.natAbs < 10 ^ 400 ∧ ∀ H', Same H H' → Q (.str (S (Kx.nl i))) H')
theorem s_comma : ("," : Str) = S [44] := by decide +kernel
theorem S_app (a b : List Nat) : S a ++ S b = S (a ++ b) := by
  apply Str.ext'
  apply Array.toList_inj.mp
  rw [Str.cps_append, Array.toList_append]
  rfl
theorem sum_le {l : List Nat} {m : Nat} (h : ∀ x ∈ l, x ≤ m) : l.sum ≤ l.length * m := by
  induction l with
  | nil => exact Nat.zero_le _
  | cons a l ih =>
    rw [List.sum_cons, List.length_cons, Nat.succ_mul]
    have := ih fun x hx => h x (List.mem_cons_of_mem _ hx)
    have := h a List.mem_cons_self
    omega
section
variable {P : Program} {w : World} {K : PySem.W.Frag} {mg : Str → Option Value} {base : Heap} {CN kA : Addr}
end
end My

namespace My
open PySem L2 PyProof.Rows
seal L2.PE L2.PT L2.PW L2.PS L2.PSs L2.PA L2.PI L2.PG L2.PGs L2.OpR L2.UnR L2.CallR L2.IxR L2.SlR L2.MtR L2.PIf L2.PO L2.MtM L2.PC L2.PIp L2.PSet L2.PGet L2.TruR L2.InOp L2.PK
/-- things that are read as they are written -/
def GoodT (κ : Pk) (xs : List V) : Prop := xs.length ≤ 100 ∧ ∀ x ∈ xs, GoodV x ∧ rawP κ (tv x) = some x ∧ 44 ∉ tv x
def spTO (K : PySem.W.Frag) : Sp := fun vs H Q _ => ∃ (b : Addr) (z : Str) (κ : Pk) (xs : List V), vs = [.ref b, .str z] ∧ SqT K H b κ.vs ∧ z.cps.toList = commas xs ∧ GoodT κ xs ∧ ∀ t H', Same H H' → H' t = some (.tup xs) → Q (.ref t) H'
def spPO (K : PySem.W.Frag) : Sp := fun vs H Q _ => ∃ z : Str, vs = [.str z] ∧ ((z = "-" ∧ ∀ H', Same H H' → Q .non H') ∨ ∃ i : Int, z.cps.toList = Kx.nl i ∧ 0 ≤ i ∧ i.natAbs < 10 ^ 400 ∧ ∀ H', Same H H' → Q (.int i) H')
def spVOl (K : PySem.W.Frag) : Sp := fun vs H Q _ => ∃ (a b : Addr) (z : Str) (κ : Pk) (sort : Str) (xs : List V), vs = [.ref a, .str z] ∧ SqT K H a [.str sort, .ref b] ∧ SqT K H b κ.vs ∧ ((sort = "list") ∨ (sort = "some" ∧ xs ≠ [])) ∧ z.cps.toList = commas xs ∧ GoodT κ xs ∧ (∀ x ∈ xs, fitP κ x = true) ∧ ∀ t H', Same H H' → H' t = some (.tup xs) → Q (.ref t) H'
def spVOk (K : PySem.W.Frag) : Sp := fun vs H Q _ => ∃ (a : Addr) (z : Str), vs = [.ref a, .str z] ∧ SqT K H a [.str "key"] ∧ ((z = "-" ∧ ∀ H', Same H H' → Q .non H') ∨ ∃ i : Int, z.cps.toList = Kx.nl i ∧ 0 ≤ i ∧ i.natAbs < 10 ^ 400 ∧ ∀ H', Same H H' → Q (.int i) H')
section
variable {P : Program} {w : World} {K : PySem.W.Frag} {mg : Str → Option Value} {base : Heap} {CN kA : Addr}
end
end My

namespace My
open PySem L2 PyProof.Rows
seal L2.PE L2.PT L2.PW L2.PS L2.PSs L2.PA L2.PI L2.PG L2.PGs L2.OpR L2.UnR L2.CallR L2.IxR L2.SlR L2.MtR L2.PIf L2.PO L2.MtM L2.PC L2.PIp L2.PSet L2.PGet L2.TruR L2.InOp L2.PK
section
variable {P : Program} {w : World} {K : PySem.W.Frag} {mg : Str → Option Value} {base : Heap} {CN kA : Addr}
theorem alls_nil : AllS "" := fun c hc => by
  have e0 : ("" : Str).cps.toList = [] := by decide +kernel
  rw [e0] at hc
  cases hc
theorem sm60 {i : Int} (h0 : -(10 ^ 59) ≤ i) (h1 : i ≤ 10 ^ 59) : i.natAbs < 10 ^ 60 := by omega
theorem pow4 {c : Int} (h0 : 0 ≤ c) (h1 : c < 2147483647) : 0 ≤ c ^ 4 ∧ c ^ 4 ≤ 10 ^ 40 := by
  obtain ⟨n, rfl⟩ := Int.eq_ofNat_of_zero_le h0
  have hn : n ≤ 2147483647 := by omega
  have := Nat.pow_le_pow_left hn 4
  have e : ((n : Int) ^ 4) = ((n ^ 4 : Nat) : Int) := by rw [Int.natCast_pow]
  rw [e]
  have : (2147483647 : Nat) ^ 4 ≤ 10 ^ 40 := by decide
  omega
/-- the stream's numbers -/
def spStream : Sp := fun vs H Q _ => ∃ c n : Int, vs = [.int c, .int n] ∧ 0 ≤ n ∧ n ≤ 60 ∧ ∀ (p : Addr) (H' : Hp) (l : List Int), Same H H' → H' p = some (.lst (l.map V.int)) → (l.length : Int) = n → (∀ x ∈ l, 0 ≤ x ∧ x < 2147483647) → Q (.ref p) H'
def spTextL : Sp := fun vs H Q _ => ∃ c : Int, vs = [.int c] ∧ ∀ (z : Str) (H' : Hp), Same H H' → AllS z → z.length ≤ 10 → Q (.str z) H'
theorem ok_stream {f : Addr} {fd : FuncData} (F : Fun K "_law_stream" "_law_stream" (top 32) f fd) (B : Bl mg) : FnOk P w K mg base CX0 1 f fd ["_law_cell_here", "_law_many"] spStream := by
  have sc : FnScope ["_law_cell_here", "_law_many", "_law_found", "_law_number", "_law_k"] ["_law_cell_here", "_law_many"] (defScope (top 32)) := ⟨rfl, rfl, rfl, by decide +kernel, rfl, by decide +kernel, by decide +kernel⟩
  refine F.ok sc (fun vs H Q E h => ?_) (fun cdv A outer s H vs Q E hr h => ?_)
  · obtain ⟨c, n, rfl, _⟩ := h
    rfl
  · obtain ⟨c, n, rfl, n0, n1, q⟩ := h
    refine ⟨_, pss_cons (ps_set (i := 2) sc.nd rfl (Or.inl rfl) (pe_lst pa_nil))
      (pss_cons (ps_set (i := 3) sc.nd rfl (Or.inl rfl) (pe_op op_add (pe_op op_mod (pv 0) pe_int) pe_int))
      (pss_cons (ps_for PassesOwn.never rfl (pi_range1 rfl B.range (pa_cons (pv 1) pa_nil)) (pg_name (i := 4) sc.nd rfl (Or.inl rfl))
        (pss_cons (ps_set (i := 3) sc.nd rfl (Or.inl rfl) (pe_op op_mod (pe_op op_add (pe_op op_add (pe_op op_mul (pv 3) (pv 3)) (pe_op op_mul pe_int (pv 3))) (pv 4)) pe_int))
        (pss_one (ps_expr (pe_bm PySem.F.plainAttrs_list PySem.F.slot_list_append PySem.F.type_list_append mt_app (pv 2) (pa_cons (pv 3) pa_nil))))))
      (pss_one (ps_ret (pv 2))))), ?_⟩
    refine ⟨Nat.zero_le _, fun d hd => ?_⟩
    refine ⟨_, rfl, _, _, rfl, rfl, (pos rfl), _, _, rfl, rfl, ?_⟩
    have c0 := Int.emod_nonneg c (show (2147483647 : Int) ≠ 0 by decide)
    have c1 := Int.emod_lt_of_pos c (show (0 : Int) < 2147483647 by decide)
    refine ⟨_, rfl, _, rfl, (by omega), (by omega), for_range (fun i σ H' => ∃ (l : List Int) (m : Int) (u : Option V), σ = [some (.int c), some (.int n), some (.ref d), some (.int m), u] ∧ Same H H' ∧ H' d = some (.lst (l.map V.int)) ∧ l.length = i ∧ 0 ≤ m ∧ m < 2147583647 ∧ ∀ x ∈ l, 0 ≤ x ∧ x < 2147483647) ⟨[], _, none, rfl, Same.upd hd, upd_same, rfl, by omega, by omega, fun x hx => nomatch hx⟩ ?_ ?_⟩
    · rintro i σ H' hi ⟨l, m, u, rfl, s1, h1, hl, m0, m1, hx⟩
      have hi' : i < 60 := by omega
      refine ⟨_, rfl, _, rfl, _, _, rfl, rfl, .inl ⟨by omega, by omega⟩, _, rfl, _, _, rfl, rfl, .inl ⟨by decide, by decide⟩, _, _, rfl, rfl, _, rfl, _, _, rfl, rfl, _, _, rfl, rfl, (pos rfl), ?_⟩
      have r0 : 0 ≤ ((m * m + 48271 * m + (0 + (i : Int))) % 2147483647) := Int.emod_nonneg _ (by decide)
      have r1 : ((m * m + 48271 * m + (0 + (i : Int))) % 2147483647) < 2147483647 := Int.emod_lt_of_pos _ (by decide)
      refine ⟨_, rfl, .inl ⟨rfl, _, SqL.of h1⟩, _, rfl, d, _, _, rfl, rfl, h1, ?_, ?_⟩
      · rw [List.length_map, hl, sizeLine_eq]; omega
      · refine ⟨l ++ [((m * m + 48271 * m + (0 + (i : Int))) % 2147483647)], _, _, rfl, s1.put hd, ?_, by simp [hl], r0, Int.lt_trans r1 (by decide), fun x hx' => ?_⟩
        · rw [upd_same, List.map_append]
          rfl
        · rcases List.mem_append.mp hx' with h | h
          · exact hx x h
          · have : x = ((m * m + 48271 * m + (0 + (i : Int))) % 2147483647) := by simpa using h
            rw [this]
            exact ⟨r0, r1⟩
    · rintro σ H' ⟨l, m, u, rfl, s1, h1, hl, m0, m1, hx⟩
      exact ⟨_, rfl, q d H' l s1 h1 (by omega) hx⟩
theorem ok_textL {f fT fS : Addr} {fd fdT fdS : FuncData} (F : Fun K "_law_text" "_law_text" (top 37) f fd) (B : Bl mg) (DT : Df K mg "_law_stream" (top 32) fT fdT) (DS : Df K mg "_law_sign" (top 33) fS fdS) : FnOk P w K mg base CX0 2 f fd ["_law_number"] spTextL := by
  have sc : FnScope ["_law_number", "_law_text_here", "_law_one"] ["_law_number"] (defScope (top 37)) := ⟨rfl, rfl, rfl, by decide +kernel, rfl, by decide +kernel, by decide +kernel⟩
  have GT : FnOk P w K mg base CX0 1 fT fdT ["_law_cell_here", "_law_many"] spStream := ok_stream DT.fn B
  have GS : FnOk P w K mg base CX0 1 fS fdS ["_law_number"] spSignL := ok_signL DS.fn
  have bT := DT.fn.binds (ps := ["_law_cell_here", "_law_many"]) fun _ _ _ _ _ _ us hl => by obtain ⟨v0, v1, rfl⟩ := L2.ln2 hl; rfl
  have bS := DS.fn.binds (ps := ["_law_number"]) fun _ _ _ _ _ _ us hl => by obtain ⟨v0, rfl⟩ := L2.ln1 hl; rfl
  refine F.ok sc (fun vs H Q E h => ?_) (fun cdv A outer s H vs Q E hr h => ?_)
  · obtain ⟨c, rfl, _⟩ := h
    rfl
  · obtain ⟨c, rfl, q⟩ := h
    refine ⟨_, pss_cons (ps_set (i := 1) sc.nd rfl (Or.inl rfl) pe_str)
      (pss_cons (ps_for PassesOwn.never rfl (pi_list (pe_call GT hr (by rfl) DT.mg DT.fn.kp bT .nil pass0 (pa_cons (pe_op op_fdiv (pv 0) pe_int) (pa_cons (pe_op op_mod (pv 0) pe_int) pa_nil)))) (pg_name (i := 2) sc.nd rfl (Or.inl rfl))
        (pss_one (ps_set (i := 1) sc.nd rfl (Or.inl rfl) (pe_op op_add_str (pv 1) (pe_call GS hr (by rfl) DS.mg DS.fn.kp bS .nil pass0 (pa_cons (pv 2) pa_nil))))))
      (pss_one (ps_ret (pv 1)))), ?_⟩
    have c0 := Int.emod_nonneg c (show (8 : Int) ≠ 0 by decide)
    have c1 := Int.emod_lt_of_pos c (show (0 : Int) < 8 by decide)
    refine ⟨_, rfl, _, _, rfl, rfl, ⟨by decide, by decide⟩, _, rfl, _, _, rfl, rfl, (pos rfl), _, _, rfl, c0, (by omega), fun p H' l s1 h1 hl hx => ?_⟩
    refine ⟨p, rfl, ⟨_, SqL.of h1⟩, ?_⟩
    refine for_list (xs := l.map V.int) (fun i σ H2 => H2 = H' ∧ ∃ (z : Str) (u : Option V), σ = [some (.int c), some (.str z), u] ∧ AllS z ∧ z.length = i) ⟨rfl, _, _, rfl, alls_nil, by decide⟩ (fun i σ H2 _ pp => by rw [pp.1]; exact SqL.of h1) ?_ ?_
    · rintro i x σ H2 hi ⟨rfl, z, u, rfl, hz, hlz⟩
      have hi' : i < l.length := by
        have := (List.getElem?_eq_some_iff.mp hi).1
        rwa [List.length_map] at this
      obtain ⟨n, -, rfl⟩ : ∃ n : Int, n ∈ l ∧ V.int n = x := List.mem_map.mp (List.mem_of_getElem? hi)
      refine ⟨_, rfl, _, rfl, _, rfl, fun ch hch => ?_⟩
      refine ⟨_, _, rfl, rfl, (by rw [sizeLine_eq]; show z.length + 1 ≤ _; omega), rfl, _, _, rfl, ?_, ?_⟩
      · intro c hc
        rw [Str.cps_append, Array.toList_append] at hc
        rcases List.mem_append.mp hc with h | h
        · exact hz c h
        · have : c = ch := by simpa using h
          rw [this]
          exact hch
      · rw [Str.length_append, hlz]
        rfl
    · rintro σ H2 ⟨rfl, z, u, rfl, hz, hlz⟩
      rw [List.length_map] at hlz
      exact ⟨_, rfl, q z H2 s1 hz (by omega)⟩
end
end My

namespace My
open PySem L2 PyProof.Rows
seal L2.PE L2.PT L2.PW L2.PS L2.PSs L2.PA L2.PI L2.PG L2.PGs L2.OpR L2.UnR L2.CallR L2.IxR L2.SlR L2.MtR L2.PIf L2.PO L2.MtM L2.PC L2.PIp L2.PSet L2.PGet L2.TruR L2.InOp L2.PK
theorem wd_cases : ∀ c ∈ Kx.signs, (Kx.escd c = [c] ∧ ¬ c = 92 ∧ Kx.bare c = true) ∨ (Kx.escd c = [92, ecd c] ∧ Kx.esc1 (ecd c) = some c) := by decide +kernel
theorem word_escs : ∀ l : List Nat, (∀ c ∈ l, c ∈ Kx.signs) → Kx.wordOf (escs l) = some l
  | [], _ => rfl
  | c :: l, h => by
    have ih := word_escs l fun d hd => h d (List.mem_cons_of_mem _ hd)
    have ih' : Kx.wd false (escs l) = some l := ih
    show Kx.wd false ((c :: l).flatMap Kx.escd) = _
    rw [List.flatMap_cons]
    rcases wd_cases c (h c List.mem_cons_self) with ⟨e, h1, h2⟩ | ⟨e, h1⟩
    · rw [e]
      show (if c = 92 then Kx.wd true (escs l) else if Kx.bare c = true then (Kx.wd false (escs l)).map (c :: ·) else none) = _
      rw [if_neg h1, if_pos h2, ih']
      rfl
    · rw [e]
      show (match Kx.esc1 (ecd c) with | some d => (Kx.wd false (escs l)).map (d :: ·) | none => none) = _
      rw [h1, ih']
      rfl
theorem one_ne {c : Nat} (e : (⟨#[c]⟩ : Str) = ⟨#[]⟩) : False := by
  have := congrArg (fun z : Str => z.cps.toList) e
  simp at this
theorem strike_facts {z : Str} {ch : Nat} (hz : AllS z) : AllS (Txt.replace z ⟨#[ch]⟩ ⟨#[]⟩) ∧ (Txt.replace z ⟨#[ch]⟩ ⟨#[]⟩).length ≤ z.length ∧ ch ∉ (Txt.replace z ⟨#[ch]⟩ ⟨#[]⟩).cps.toList := by
  have e := Rp.replace_one z ⟨#[]⟩ ch
  have mem : ∀ d, d ∈ (Txt.replace z ⟨#[ch]⟩ ⟨#[]⟩).cps.toList → d ∈ z.cps.toList ∧ d ≠ ch := fun d hd => by
    rw [e] at hd
    obtain ⟨x, hx, hdx⟩ := List.mem_flatMap.mp hd
    unfold Rp.sw at hdx
    by_cases h : x = ch
    · rw [if_pos h] at hdx; cases hdx
    · rw [if_neg h] at hdx
      have : d = x := by simpa using hdx
      rw [this]
      exact ⟨hx, h⟩
  refine ⟨fun d hd => hz d (mem d hd).1, ?_, fun h => (mem ch h).2 rfl⟩
  rw [← z_len, ← z_len z, e]
  have len : ∀ l : List Nat, (l.flatMap (Rp.sw ch [])).length ≤ l.length := fun l => by
    induction l with
    | nil => exact Nat.le_refl _
    | cons x l ih =>
      rw [List.flatMap_cons, List.length_append, List.length_cons]
      have : (Rp.sw ch [] x).length ≤ 1 := by
        unfold Rp.sw
        split
        · exact Nat.zero_le _
        · exact Nat.le_refl _
      omega
  exact len _
theorem esc44 : ∀ c ∈ Kx.signs, 44 ∉ Kx.escd c := by decide +kernel
theorem no44s {l : List Nat} (h : ∀ c ∈ l, c ∈ Kx.signs) : 44 ∉ escs l := fun hm => by
  obtain ⟨c, hc, h2⟩ := List.mem_flatMap.mp hm
  exact esc44 c (h c hc) h2
theorem no44d {m : Nat} : 44 ∉ Nm.figs m := fun h => by
  have := Nm.figs_digits m 44 h
  omega
theorem no44n (i : Int) : 44 ∉ Kx.nl i := by
  unfold Kx.nl
  split
  · intro h
    rcases List.mem_cons.mp h with e | e
    · cases e
    · exact no44d e
  · exact no44d
theorem raw_int {κ : Pk} {i : Int} (hx : κ.txt = false) (hi : i.natAbs < 10 ^ 400) : rawP κ (Kx.nl i) = some (.int i) := by
  unfold rawP
  rw [if_neg (by rw [hx]; decide), Kx.whole_nl hi]
  rfl
theorem raw_str {κ : Pk} {z : Str} (hx : κ.txt = true) (hz : AllS z) : rawP κ (escs z.cps.toList) = some (.str z) := by
  unfold rawP
  rw [if_pos hx, word_escs _ hz]
  show some (V.str (S z.cps.toList)) = _
  rw [S_cps]
/-- a value of the kind, as the law draws it -/
def PvOk (κ : Pk) (v : V) : Prop := fitP κ v = true ∧ ((κ.txt = false ∧ ∃ i : Int, v = .int i ∧ i.natAbs < 10 ^ 60) ∨ (κ.txt = true ∧ ∃ z : Str, v = .str z ∧ AllS z ∧ z.length ≤ 10))
theorem PvOk.good {κ : Pk} {v : V} (h : PvOk κ v) : GoodV v ∧ rawP κ (tv v) = some v ∧ 44 ∉ tv v := by
  obtain ⟨hf, ⟨hx, i, rfl, hi⟩ | ⟨hx, z, rfl, hz, hl⟩⟩ := h
  · have hi4 : i.natAbs < 10 ^ 400 := Nat.lt_of_lt_of_le hi (Nat.pow_le_pow_right (by decide) (by decide))
    exact ⟨.inl ⟨i, rfl, hi4⟩, raw_int hx hi4, no44n i⟩
  · exact ⟨.inr ⟨z, rfl, by omega⟩, raw_str hx hz, no44s hz⟩
def KTok (n : Nat) (H : Hp) (b : Addr) : Pk → Prop
  | .without ch => ∃ t, TokPair H b "without" ⟨#[ch]⟩ t ∧ 1 ≤ t ∧ t < n
  | _ => True
theorem KTok.same {n : Nat} {H H' : Hp} {b : Addr} {κ : Pk} (h : KTok n H b κ) (e : Same H H') : KTok n H' b κ := by
  cases κ with
  | without ch =>
    obtain ⟨t, h1, h2⟩ := h
    exact ⟨t, h1.same e, h2⟩
  | _ => exact trivial
def spPVk (K : PySem.W.Frag) (n : Nat) : SpK := fun vs H Q => ∃ (a : Addr) (c : Int) (κ : Pk), vs = [.ref a, .int c] ∧ SqT K H a κ.vs ∧ KTok n H a κ ∧ PkB κ ∧ 0 ≤ c ∧ c < 2147483647 ∧ ∀ (v : V) (H' : Hp), Same H H' → PvOk κ v → Q v H'
section
variable {P : Program} {w : World} {K : PySem.W.Frag} {mg : Str → Option Value} {base : Heap} {CN kA : Addr}
theorem ok_pvW {n : Nat} {f fT fM fS : Addr} {fd fdT fdM fdS : FuncData} (F : Fun K "_law_plain_value" "_law_plain_value" (top 38) f fd) (B : Bl mg) (DT : Df K mg "_law_text" (top 37) fT fdT) (DM : Df K mg "_law_stream" (top 32) fM fdM) (DS : Df K mg "_law_sign" (top 33) fS fdS) : FnOkW n P w K mg base 3 f fd ["_law_kind", "_law_number"] (toW (spPVk K n)) := by
  have sc : FnScope ["_law_kind", "_law_number", "_law_text_here"] ["_law_kind", "_law_number"] (defScope (top 38)) := ⟨rfl, rfl, rfl, by decide +kernel, rfl, by decide +kernel, by decide +kernel⟩
  have GT : FnOk P w K mg base CX0 2 fT fdT ["_law_number"] spTextL := ok_textL DT.fn B DM DS
  have bT := DT.fn.binds (ps := ["_law_number"]) fun _ _ _ _ _ _ us hl => by obtain ⟨v0, rfl⟩ := L2.ln1 hl; rfl
  refine F.okK sc (fun vs H Q h => ?_) (fun cdv A outer s H vs Q hr h => ?_)
  · obtain ⟨a, c, κ, rfl, _⟩ := h
    rfl
  · obtain ⟨a, c, κ, rfl, ha, htok, hb, c0, c1, q⟩ := h
    have m0 := Int.emod_nonneg c (show (3 : Int) ≠ 0 by decide)
    have m1 := Int.emod_lt_of_pos c (show (0 : Int) < 3 by decide)
    have p30 : CPow 10 30 := ⟨by decide, by decide, by decide⟩
    have p40 : CPow 10 40 := ⟨by decide, by decide, by decide⟩
    have e30 : (10 : Int) ^ (30 : Int).toNat = 1000000000000000000000000000000 := by decide +kernel
    have e40 : (10 : Int) ^ (40 : Int).toNat = 10000000000000000000000000000000000000000 := by decide +kernel
    cases κ with
    | word =>
      have ha' : SqT K H a [.str "word"] := ha
      refine ⟨_, PSs.k (pss_cons (ps_if (pt_cmpR op_eq (pe_ix ix_tup (pv 0) pe_int (fun _ _ => rfl)) pe_str (nomark _)) pss_never pss_nil) (pss_cons (ps_if (pt_cmpR op_eq (pe_ix ix_tup (pv 0) pe_int (fun _ _ => rfl)) pe_str (nomark _)) pss_never pss_nil) (pss_cons (ps_if (pt_cmpR op_eq (pe_ix ix_tup (pv 0) pe_int (fun _ _ => rfl)) pe_str (nomark _)) pss_never pss_nil) (pss_cons (ps_set (i := 2) sc.nd rfl (Or.inl rfl) (pe_call GT hr (by rfl) DT.mg DT.fn.kp bT .nil pass0 (pa_cons (pv 1) pa_nil))) (pss_cons (ps_if (pt_cmpR op_eq (pe_ix ix_tup (pv 0) pe_int (fun _ _ => rfl)) pe_str (nomark _)) pss_never pss_nil) (pss_one (ps_ret (pv 2)))))))), ?_⟩
      refine ⟨_, rfl, _, _, 0, _, rfl, rfl, ha', rfl, rfl, _, rfl, iteC (by decide) ?_⟩
      refine ⟨_, rfl, _, _, 0, _, rfl, rfl, ha', rfl, rfl, _, rfl, iteC (by decide) ?_⟩
      refine ⟨_, rfl, _, _, 0, _, rfl, rfl, ha', rfl, rfl, _, rfl, iteC (by decide) ?_⟩
      refine ⟨_, rfl, c, rfl, fun z H1 s1 hz hl => ?_⟩
      refine ⟨_, rfl, _, _, 0, _, rfl, rfl, s1.seqT ha', rfl, rfl, _, rfl, iteC (by decide) ?_⟩
      exact ⟨_, rfl, q _ H1 s1 ⟨rfl, .inr ⟨rfl, z, rfl, hz, hl⟩⟩⟩
    | without ch =>
      obtain ⟨t, tp, t1, tn⟩ := htok
      have ha' : SqT K H a [.str "without", .str ⟨#[ch]⟩] := ha
      refine ⟨_, (pssk_cons (PS.k (ps_if (pt_cmpR op_eq (pe_ix ix_tup (pv 0) pe_int (fun _ _ => rfl)) pe_str (nomark _)) pss_never pss_nil)) (pssk_cons (PS.k (ps_if (pt_cmpR op_eq (pe_ix ix_tup (pv 0) pe_int (fun _ _ => rfl)) pe_str (nomark _)) pss_never pss_nil)) (pssk_cons (PS.k (ps_if (pt_cmpR op_eq (pe_ix ix_tup (pv 0) pe_int (fun _ _ => rfl)) pe_str (nomark _)) pss_never pss_nil)) (pssk_cons (PS.k (ps_set (i := 2) sc.nd rfl (Or.inl rfl) (pe_call GT hr (by rfl) DT.mg DT.fn.kp bT .nil pass0 (pa_cons (pv 1) pa_nil))))
        (pssk_cons (psk_if (pt_cmpR op_eq (pe_ix ix_tup (pv 0) pe_int (fun _ _ => rfl)) pe_str (nomark _)) (pssk_one (psk_set (i := 2) sc.nd rfl (Or.inl rfl)
            (pek_strike (C := fun σ H' => σ[0]? = some (some (.ref a)) ∧ TokPair H' a "without" ⟨#[ch]⟩ t) (z := ⟨#[ch]⟩) (beq_eq_false_iff_ne.mpr (fun e => one_ne e)) (Nat.ne_of_gt t1) tn (pv 2) (pv 0) (fun σ H' hc => ⟨hc.2, _, hc.1, rfl, rfl⟩) (fun _ _ => rfl)))) (PSs.k pss_nil))
        (PSs.k (pss_one (ps_ret (pv 2))))))))), ?_⟩
      refine ⟨_, rfl, _, _, 0, _, rfl, rfl, ha', rfl, rfl, _, rfl, iteC (show decide (V.str "without" = V.str "below") = false by decide) ?_⟩
      refine ⟨_, rfl, _, _, 0, _, rfl, rfl, ha', rfl, rfl, _, rfl, iteC (show decide (V.str "without" = V.str "upto") = false by decide) ?_⟩
      refine ⟨_, rfl, _, _, 0, _, rfl, rfl, ha', rfl, rfl, _, rfl, iteC (show decide (V.str "without" = V.str "whole") = false by decide) ?_⟩
      refine ⟨_, rfl, c, rfl, fun z H1 s1 hz hl => ?_⟩
      refine ⟨_, rfl, _, _, 0, _, rfl, rfl, s1.seqT ha', rfl, rfl, _, rfl, iteB (show decide (V.str "without" = V.str "without") = true by decide) ?_⟩
      obtain ⟨z1, z2, z3⟩ := strike_facts (ch := ch) hz
      refine ⟨⟨rfl, tp.same s1⟩, _, rfl, rfl, _, rfl, (by omega), ?_⟩
      have hf : fitP (.without ch) (.str (Txt.replace z ⟨#[ch]⟩ ⟨#[]⟩)) = true := by
        show (!decide (ch ∈ _)) = true
        rw [decide_eq_false z3]
        rfl
      exact ⟨_, rfl, q _ H1 s1 ⟨hf, .inr ⟨rfl, _, rfl, z1, by omega⟩⟩⟩
    | below n =>
      have n0 : 1 ≤ n := hb.1
      have n1 : n ≤ 10 ^ 10 := hb.2
      have ha' : SqT K H a [.str "below", .int n] := ha
      refine ⟨_, PSs.k (pss_cons (ps_if (pt_cmpR op_eq (pe_ix ix_tup (pv 0) pe_int (fun _ _ => rfl)) pe_str (nomark _))
        (pss_one (ps_ret (pe_ix ix_list (pe_lst (pa_cons pe_int (pa_cons (pe_op op_sub (pe_ix ix_tup (pv 0) pe_int (fun _ _ => rfl)) pe_int) (pa_cons (pe_op op_mod (pe_op op_fdiv (pv 1) pe_int) (pe_ix ix_tup (pv 0) pe_int (fun _ _ => rfl))) pa_nil)))) (pe_op op_mod (pv 1) pe_int) (fun _ _ => rfl)))) pss_nil)
      (pss_cons (ps_if (pt_cmpR op_eq (pe_ix ix_tup (pv 0) pe_int (fun _ _ => rfl)) pe_str (nomark _))
        (pss_one (ps_ret (pe_op op_sub (pe_ix ix_tup (pv 0) pe_int (fun _ _ => rfl)) (pe_ix ix_list (pe_lst (pa_cons pe_int (pa_cons (pe_op op_mod (pe_op op_fdiv (pv 1) pe_int) pe_int) (pa_cons (pe_op op_mul (pv 1) (pe_op op_pow pe_int pe_int)) pa_nil)))) (pe_op op_mod (pv 1) pe_int) (fun _ _ => rfl))))) pss_nil)
      (pss_cons (ps_if (pt_cmpR op_eq (pe_ix ix_tup (pv 0) pe_int (fun _ _ => rfl)) pe_str (nomark _))
        (pss_one (ps_ret (pe_ix ix_list (pe_lst (pa_cons (pe_op op_sub (pe_op op_mod (pe_op op_fdiv (pv 1) pe_int) pe_int) pe_int) (pa_cons (pe_op op_add (pe_op op_mul (pv 1) (pe_op op_pow pe_int pe_int)) pe_int) (pa_cons (pe_op op_sub pe_int (pe_op op_pow (pv 1) pe_int)) pa_nil)))) (pe_op op_mod (pv 1) pe_int) (fun _ _ => rfl)))) pss_nil)
      pss_never))), ?_⟩
      have d0 := Int.emod_nonneg (c / 3) (show n ≠ 0 by omega)
      have d1 := Int.emod_lt_of_pos (c / 3) (show 0 < n by omega)
      refine ⟨_, rfl, _, _, 0, _, rfl, rfl, ha', rfl, rfl, _, rfl, iteB (by decide) ?_⟩
      refine ⟨_, rfl, _, _, 1, _, rfl, rfl, ha', rfl, _, _, rfl, rfl, _, rfl, _, _, rfl, rfl, ⟨by decide, by decide⟩, _, rfl, _, _, 1, _, rfl, rfl, ha', rfl, _, _, rfl, rfl, (by omega), (by show 3 ≤ sizeLine; decide), fun l hl => ?_⟩
      obtain ⟨v, hv, hm⟩ := at_mem (l := [V.int 0, .int (n - 1), .int (c / 3 % n)]) (i := c % 3) m0 (by show c % 3 < 3; exact m1)
      refine ⟨_, rfl, _, _, rfl, rfl, (pos rfl), _, _, _, v, rfl, rfl, SqL.of upd_same, hv, ?_⟩
      obtain ⟨i, rfl, i0, i1⟩ : ∃ i : Int, v = .int i ∧ 0 ≤ i ∧ i < n := by
        simp only [List.mem_cons, List.not_mem_nil, or_false] at hm
        rcases hm with rfl | rfl | rfl
        · exact ⟨_, rfl, by omega, by omega⟩
        · exact ⟨_, rfl, by omega, by omega⟩
        · exact ⟨_, rfl, d0, d1⟩
      refine q _ _ (Same.upd hl) ⟨?_, .inl ⟨rfl, i, rfl, sm60 (by omega) (by omega)⟩⟩
      show (decide (0 ≤ i) && decide (i < n)) = true
      rw [decide_eq_true i0, decide_eq_true i1]
      rfl
    | upto n =>
      have n0 : -1000 ≤ n := hb.1
      have n1 : n ≤ 1000 := hb.2
      have ha' : SqT K H a [.str "upto", .int n] := ha
      refine ⟨_, PSs.k (pss_cons (ps_if (pt_cmpR op_eq (pe_ix ix_tup (pv 0) pe_int (fun _ _ => rfl)) pe_str (nomark _))
        (pss_one (ps_ret (pe_ix ix_list (pe_lst (pa_cons pe_int (pa_cons (pe_op op_sub (pe_ix ix_tup (pv 0) pe_int (fun _ _ => rfl)) pe_int) (pa_cons (pe_op op_mod (pe_op op_fdiv (pv 1) pe_int) (pe_ix ix_tup (pv 0) pe_int (fun _ _ => rfl))) pa_nil)))) (pe_op op_mod (pv 1) pe_int) (fun _ _ => rfl)))) pss_nil)
      (pss_cons (ps_if (pt_cmpR op_eq (pe_ix ix_tup (pv 0) pe_int (fun _ _ => rfl)) pe_str (nomark _))
        (pss_one (ps_ret (pe_op op_sub (pe_ix ix_tup (pv 0) pe_int (fun _ _ => rfl)) (pe_ix ix_list (pe_lst (pa_cons pe_int (pa_cons (pe_op op_mod (pe_op op_fdiv (pv 1) pe_int) pe_int) (pa_cons (pe_op op_mul (pv 1) (pe_op op_pow pe_int pe_int)) pa_nil)))) (pe_op op_mod (pv 1) pe_int) (fun _ _ => rfl))))) pss_nil)
      (pss_cons (ps_if (pt_cmpR op_eq (pe_ix ix_tup (pv 0) pe_int (fun _ _ => rfl)) pe_str (nomark _))
        (pss_one (ps_ret (pe_ix ix_list (pe_lst (pa_cons (pe_op op_sub (pe_op op_mod (pe_op op_fdiv (pv 1) pe_int) pe_int) pe_int) (pa_cons (pe_op op_add (pe_op op_mul (pv 1) (pe_op op_pow pe_int pe_int)) pe_int) (pa_cons (pe_op op_sub pe_int (pe_op op_pow (pv 1) pe_int)) pa_nil)))) (pe_op op_mod (pv 1) pe_int) (fun _ _ => rfl)))) pss_nil)
      pss_never))), ?_⟩
      have d0 := Int.emod_nonneg (c / 3) (show (3000 : Int) ≠ 0 by decide)
      have d1 := Int.emod_lt_of_pos (c / 3) (show (0 : Int) < 3000 by decide)
      refine ⟨_, rfl, _, _, 0, _, rfl, rfl, ha', rfl, rfl, _, rfl, iteC (by decide) ?_⟩
      refine ⟨_, rfl, _, _, 0, _, rfl, rfl, ha', rfl, rfl, _, rfl, iteB (by decide) ?_⟩
      refine ⟨_, rfl, _, _, 1, _, rfl, rfl, ha', rfl, _, rfl, _, _, rfl, rfl, ⟨by decide, by decide⟩, _, _, rfl, rfl, (pos rfl), _, rfl, _, _, rfl, rfl, p30, _, _, rfl, rfl, .inl ⟨by omega, by omega⟩, (by show 3 ≤ sizeLine; decide), fun l hl => ?_⟩
      obtain ⟨v, hv, hm⟩ := at_mem (l := [V.int 0, .int (c / 3 % 3000), .int (c * (10 : Int) ^ (30 : Int).toNat)]) (i := c % 3) m0 (by show c % 3 < 3; exact m1)
      obtain ⟨i, rfl, i0, i1⟩ : ∃ i : Int, v = .int i ∧ 0 ≤ i ∧ i ≤ 10 ^ 50 := by
        simp only [List.mem_cons, List.not_mem_nil, or_false] at hm
        rcases hm with rfl | rfl | rfl
        · exact ⟨_, rfl, by omega, by omega⟩
        · exact ⟨_, rfl, by omega, by omega⟩
        · refine ⟨_, rfl, ?_, ?_⟩
          · rw [e30]; omega
          · rw [e30]; omega
      refine ⟨_, rfl, _, _, rfl, rfl, (pos rfl), _, _, _, _, rfl, rfl, SqL.of upd_same, hv, _, _, rfl, rfl, ?_⟩
      refine q _ _ (Same.upd hl) ⟨?_, .inl ⟨rfl, n - i, rfl, sm60 (by omega) (by omega)⟩⟩
      show decide (n - i ≤ n) = true
      exact decide_eq_true (by omega)
    | whole =>
      have ha' : SqT K H a [.str "whole"] := ha
      refine ⟨_, PSs.k (pss_cons (ps_if (pt_cmpR op_eq (pe_ix ix_tup (pv 0) pe_int (fun _ _ => rfl)) pe_str (nomark _))
        (pss_one (ps_ret (pe_ix ix_list (pe_lst (pa_cons pe_int (pa_cons (pe_op op_sub (pe_ix ix_tup (pv 0) pe_int (fun _ _ => rfl)) pe_int) (pa_cons (pe_op op_mod (pe_op op_fdiv (pv 1) pe_int) (pe_ix ix_tup (pv 0) pe_int (fun _ _ => rfl))) pa_nil)))) (pe_op op_mod (pv 1) pe_int) (fun _ _ => rfl)))) pss_nil)
      (pss_cons (ps_if (pt_cmpR op_eq (pe_ix ix_tup (pv 0) pe_int (fun _ _ => rfl)) pe_str (nomark _))
        (pss_one (ps_ret (pe_op op_sub (pe_ix ix_tup (pv 0) pe_int (fun _ _ => rfl)) (pe_ix ix_list (pe_lst (pa_cons pe_int (pa_cons (pe_op op_mod (pe_op op_fdiv (pv 1) pe_int) pe_int) (pa_cons (pe_op op_mul (pv 1) (pe_op op_pow pe_int pe_int)) pa_nil)))) (pe_op op_mod (pv 1) pe_int) (fun _ _ => rfl))))) pss_nil)
      (pss_cons (ps_if (pt_cmpR op_eq (pe_ix ix_tup (pv 0) pe_int (fun _ _ => rfl)) pe_str (nomark _))
        (pss_one (ps_ret (pe_ix ix_list (pe_lst (pa_cons (pe_op op_sub (pe_op op_mod (pe_op op_fdiv (pv 1) pe_int) pe_int) pe_int) (pa_cons (pe_op op_add (pe_op op_mul (pv 1) (pe_op op_pow pe_int pe_int)) pe_int) (pa_cons (pe_op op_sub pe_int (pe_op op_pow (pv 1) pe_int)) pa_nil)))) (pe_op op_mod (pv 1) pe_int) (fun _ _ => rfl)))) pss_nil)
      pss_never))), ?_⟩
      have d0 := Int.emod_nonneg (c / 3) (show (21 : Int) ≠ 0 by decide)
      have d1 := Int.emod_lt_of_pos (c / 3) (show (0 : Int) < 21 by decide)
      obtain ⟨w0, w1⟩ := pow4 c0 c1
      have e4 : c ^ (4 : Int).toNat = c ^ 4 := rfl
      refine ⟨_, rfl, _, _, 0, _, rfl, rfl, ha', rfl, rfl, _, rfl, iteC (by decide) ?_⟩
      refine ⟨_, rfl, _, _, 0, _, rfl, rfl, ha', rfl, rfl, _, rfl, iteC (by decide) ?_⟩
      refine ⟨_, rfl, _, _, 0, _, rfl, rfl, ha', rfl, rfl, _, rfl, iteB (by decide) ?_⟩
      refine ⟨_, rfl, _, _, rfl, rfl, ⟨by decide, by decide⟩, _, _, rfl, rfl, (pos rfl), _, _, rfl, rfl, _, rfl, _, _, rfl, rfl, p40, _, _, rfl, rfl, .inl ⟨by omega, by omega⟩, _, _, rfl, rfl, _, rfl, _, _, rfl, rfl, ⟨by decide, by decide, by omega⟩, _, _, rfl, rfl, (by show 3 ≤ sizeLine; decide), fun l hl => ?_⟩
      obtain ⟨v, hv, hm⟩ := at_mem (l := [V.int (c / 3 % 21 - 10), .int (c * (10 : Int) ^ (40 : Int).toNat + 1), .int (0 - c ^ (4 : Int).toNat)]) (i := c % 3) m0 (by show c % 3 < 3; exact m1)
      obtain ⟨i, rfl, i0, i1⟩ : ∃ i : Int, v = .int i ∧ -(10 ^ 59) ≤ i ∧ i ≤ 10 ^ 59 := by
        simp only [List.mem_cons, List.not_mem_nil, or_false] at hm
        rcases hm with rfl | rfl | rfl
        · exact ⟨_, rfl, by omega, by omega⟩
        · refine ⟨_, rfl, ?_, ?_⟩
          · rw [e40]; omega
          · rw [e40]; omega
        · refine ⟨_, rfl, ?_, ?_⟩
          · rw [e4]; omega
          · rw [e4]; omega
      refine ⟨_, rfl, _, _, rfl, rfl, (pos rfl), _, _, _, _, rfl, rfl, SqL.of upd_same, hv, ?_⟩
      exact q _ _ (Same.upd hl) ⟨rfl, .inl ⟨rfl, i, rfl, sm60 i0 i1⟩⟩
end
end My

namespace My
open PySem L2 PyProof.Rows
seal L2.PE L2.PT L2.PW L2.PS L2.PSs L2.PA L2.PI L2.PG L2.PGs L2.OpR L2.UnR L2.CallR L2.IxR L2.SlR L2.MtR L2.PIf L2.PO L2.MtM L2.PC L2.PIp L2.PSet L2.PGet L2.TruR L2.InOp L2.PK
/-- all parts read -/
def allR (κ : Pk) : List (List Nat) → Option (List V)
  | [] => some []
  | p :: r => match rawP κ p with
    | none => none
    | some v => (allR κ r).map (v :: ·)
theorem allR_none {κ : Pk} {p : List Nat} : ∀ {ps : List (List Nat)}, p ∈ ps → rawP κ p = none → allR κ ps = none
  | q :: r, h, e => by
    unfold allR
    rcases List.mem_cons.mp h with rfl | h
    · rw [e]
    · rw [allR_none h e]
      cases rawP κ q <;> rfl
theorem allR_some {κ : Pk} : ∀ {ps : List (List Nat)}, (∀ p ∈ ps, rawP κ p ≠ none) → allR κ ps = some (ps.map fun p => (rawP κ p).getD .non)
  | [], _ => rfl
  | q :: r, h => by
    unfold allR
    rw [allR_some fun p hp => h p (List.mem_cons_of_mem _ hp)]
    cases e : rawP κ q with
    | none => exact absurd e (h q List.mem_cons_self)
    | some v => simp [e]
/-- a text of things as tuple_of reads it -/
def spTOg (K : PySem.W.Frag) (CN : Addr) : Sp := fun vs H Q E => ∃ (b : Addr) (z : Str) (κ : Pk) (ps : List (List Nat)) (q : List Nat), vs = [.ref b, .str z] ∧ SqT K H b κ.vs ∧ z.length ≤ 900 ∧ Rp.cutAt 44 z.cps.toList = ps ++ [q] ∧ (∀ p ∈ ps, p.length ≤ 900) ∧ ps.length ≤ 901 ∧
  (∀ t H' xs, Same H H' → q = [] → allR κ ps = some xs → H' t = some (.tup xs) → Q (.ref t) H') ∧ (∀ H', Same H H' → q ≠ [] ∨ allR κ ps = none → E (.ref CN) none H')
section
variable {P : Program} {w : World} {K : PySem.W.Frag} {mg : Str → Option Value} {base : Heap} {CN kA : Addr}
theorem split_parts {z : Str} {ps : List (List Nat)} {q : List Nat} (h : Rp.cutAt 44 z.cps.toList = ps ++ [q]) : (Txt.split z ",").map V.str = (ps.map fun p => V.str (S p)) ++ [V.str (S q)] := by
  have e := Rp.split_one z (c := 44) (by decide)
  rw [h] at e
  have e2 : Txt.split z ⟨#[44]⟩ = ((Txt.split z ⟨#[44]⟩).map fun p => p.cps.toList).map S := by
    rw [List.map_map]
    exact (List.map_id _).symm
  rw [e44, e2, e, List.map_map, List.map_append]
  rfl
theorem ok_tupleOfG {f fA fP : Addr} {fd fdA fdP : FuncData} (F : Fun K "tuple_of" "tuple_of" (top 25) f fd) (T : Tx K mg CN) (B : Bl mg) (DA : Df K mg "ask_text" (top 29) fA fdA) (DP : Df K mg "plain_of" (top 26) fP fdP) (GP : FnOk P w K mg base (CX1 P w) 3 fP fdP ["kind", "text"] (spPlainOf K CN)) :
    FnOk P w K mg base (CX1 P w) 4 f fd ["kind", "text"] (spTOg K CN) := by
  have sc : FnScope ["kind", "text", "parts"] ["kind", "text"] (defScope (top 25)) := ⟨rfl, rfl, rfl, by decide +kernel, rfl, by decide +kernel, by decide +kernel⟩
  have GA : FnOk P w K mg base (CX1 P w) 1 fA fdA ["fine", "why"] (spAsk CN) := ok_ask DA.fn T
  have bA := DA.fn.binds (ps := ["fine", "why"]) fun _ _ _ _ _ _ us hl => by obtain ⟨v0, v1, rfl⟩ := L2.ln2 hl; rfl
  have bP := DP.fn.binds (ps := ["kind", "text"]) fun _ _ _ _ _ _ us hl => by obtain ⟨v0, v1, rfl⟩ := L2.ln2 hl; rfl
  refine F.x.okX sc (fun vs H Q E h => ?_) (fun cdv A outer s H vs Q E hr h => ?_)
  · obtain ⟨b, z, κ, ps, q, rfl, _⟩ := h
    rfl
  · obtain ⟨b, z, κ, ps, q0, rfl, hb, hz9, ecut, hpl, hlen, q, qe⟩ := h
    have hr1 : Room 1 _ := hr.mono (by decide)
    refine ⟨_, pss_cons (ps_set (i := 2) sc.nd rfl (Or.inl rfl) (pe_bm PySem.F.plainAttrs_str PySem.F.slot_str_split PySem.F.type_str_split mt_split (pv 1) (pa_cons pe_str pa_nil)))
      (pss_cons (ps_expr (pe_callX GA hr1 (by rfl) DA.mg DA.fn.kp bA .nil lands_cx (pa_cons (pe_cmpR op_eq (pe_ix ix_list (pv 2) (pe_un un_neg pe_int) (fun _ _ => rfl)) pe_str (nomark _)) (pa_cons pe_str pa_nil))))
      (pss_one (ps_ret (pe_callTy call_tuple_of (by rfl) B.tuple boot_tuple (pa_cons (pe_compX (EX := E) rfl rfl lands_cxA (osc := defScope (top 25)) (N0 := ["kind", "text", "parts"]) (xs := ["part"]) (fr := [0]) ⟨rfl, by decide +kernel, by decide +kernel, by decide +kernel, (fun j hj => by
          have e : j = 0 := by simpa using hj
          subst e
          exact ⟨_, rfl, by decide +kernel⟩), by decide +kernel⟩ rfl rfl rfl (pi_list (pe_slice sl_list (pv 2) po_none (po_some (pe_un un_neg pe_int))))
        (fun s H fp => pg_name (i := 0) (show (["part", "kind"] : List Str).Nodup by decide +kernel) rfl (Or.inl rfl)) (fun s H fp => pif_nil)
        (fun s H fp => pe_callX GP hr (by rfl) DP.mg DP.fn.kp bP .nil lands_comp (pa_cons (pv 1) (pa_cons (pv 0) pa_nil)))) pa_nil))))), ?_⟩
    have es := split_parts ecut
    have hsl : (Txt.split z ",").length ≤ 902 := by
      have := congrArg List.length es
      rw [List.length_map, List.length_append, List.length_map] at this
      simp only [List.length_cons, List.length_nil] at this
      omega
    refine ⟨_, rfl, rfl, z, ",", rfl, rfl, (by decide +kernel), (by rw [sizeLine_eq]; omega), (by rw [sizeLine_eq]; omega), fun p hp => ?_⟩
    rw [es]
    have s1 := Same.upd (o := .lst ((ps.map fun x => V.str (S x)) ++ [V.str (S q0)])) hp
    refine ⟨_, rfl, _, rfl, _, _, _, _, rfl, rfl, SqL.of upd_same, atI_last _ _, rfl, ?_⟩
    refine ⟨_, _, rfl, (fun e2 => ?_), (fun e2 H5 s5 => ?_)⟩
    · have hq : q0 = [] := by
        have e3 : V.str (S q0) = V.str "" := of_decide_eq_true e2
        have e4 : S q0 = "" := by injection e3
        have := congrArg (fun z : Str => z.cps.toList) e4
        have e5 : ("" : Str).cps.toList = [] := by decide +kernel
        rw [S_list, e5] at this
        exact this
      refine ⟨_, rfl, _, rfl, _, rfl, p, _, rfl, SqL.of upd_same, fun p3 hp3 => ?_⟩
      rw [cut_last]
      have s3 := Same.upd (o := .lst (ps.map fun x => V.str (S x))) hp3
      refine ⟨p3, rfl, ⟨_, SqL.of upd_same⟩, fun D hD => ?_⟩
      have s13 := s1.trans s3
      have hD0 : H D = none := by
        cases e : H D with
        | none => rfl
        | some o => rw [s13 _ _ e] at hD; cases hD
      have np : p3 ≠ D := fun e => by rw [← e, upd_same] at hD; cases hD
      refine compW_map ps.length (fun i => (rawP κ (ps.getD i [])).getD .non) (fun i σ' Hc => (∃ t, σ' = [t, some (.ref b)]) ∧ Same H Hc ∧ Hc p3 = some (.lst (ps.map fun x => V.str (S x))) ∧ ∀ j, j < i → rawP κ (ps.getD j []) ≠ none) (by rw [sizeLine_eq]; omega) ⟨⟨none, rfl⟩, s13.trans (Same.upd hD), (Same.upd hD) _ _ upd_same, fun j hj => absurd hj (Nat.not_lt_zero _)⟩ upd_same ?_ ?_
      · rintro i σ' Hc hi' ⟨⟨t, rfl⟩, sm, hl3, hok⟩ hD'
        refine ⟨⟨_, V.str (S ps[i]), SqL.of hl3, by simp [hi']⟩, ?_⟩
        rintro x H' ⟨rfl, hx'⟩
        have ex := hx' _ (SqL.of hl3)
        have hxi : ps[i]? = some ps[i] := List.getElem?_eq_getElem hi'
        have ex2 : x = V.str (S ps[i]) := by
          rw [List.getElem?_map, hxi] at ex
          exact (Option.some.inj ex).symm
        subst ex2
        have eg : ps.getD i [] = ps[i] := by rw [List.getD_eq_getElem?_getD, hxi]; rfl
        have hll := hpl ps[i] (List.getElem_mem hi')
        have go : ∀ v H4, Same H' H4 → rawP κ ps[i] = some v → v = (rawP κ (ps.getD i [])).getD .non ∧ H4 D = some (.lst ((List.range i).map fun i => (rawP κ (ps.getD i [])).getD .non)) ∧ (∃ t_1, [some (V.str (S ps[i])), some (V.ref b)] = [t_1, some (.ref b)]) ∧ Same H (upd H4 D (.lst ((List.range (i + 1)).map fun i => (rawP κ (ps.getD i [])).getD .non))) ∧ upd H4 D (.lst ((List.range (i + 1)).map fun i => (rawP κ (ps.getD i [])).getD .non)) p3 = some (.lst (ps.map fun x => V.str (S x))) ∧ ∀ j, j < i + 1 → rawP κ (ps.getD j []) ≠ none := fun v H4 s4 e => by
          refine ⟨by rw [eg, e]; rfl, s4 _ _ hD', ⟨_, rfl⟩, same_updN (sm.trans s4) hD0, by rw [upd_ne np]; exact s4 _ _ hl3, fun j hj => ?_⟩
          by_cases hji : j = i
          · rw [hji, eg, e]
            exact fun z => nomatch z
          · exact hok j (by omega)
        have no : ∀ H4, Same H' H4 → rawP κ ps[i] = none → E (.ref CN) none H4 := fun H4 s4 e => qe H4 (sm.trans s4) (.inr (allR_none (List.getElem_mem hi') e))
        refine ⟨_, rfl, _, rfl, b, S ps[i], κ, rfl, sm.seqT hb, (by rw [S_len]; exact hll), fun ht => ⟨fun y H4 s4 ey _ => ?_, fun H4 s4 ey => ?_⟩, fun ht => ⟨fun n H4 s4 ey => ?_, fun H4 s4 ey => ?_⟩⟩
        · rw [S_list] at ey
          exact go _ H4 s4 (by unfold rawP; rw [if_pos ht, ey]; rfl)
        · rw [S_list] at ey
          exact no H4 s4 (by unfold rawP; rw [if_pos ht, ey]; rfl)
        · rw [S_list] at ey
          exact go _ H4 s4 (by unfold rawP; rw [if_neg (by rw [ht]; decide), ey]; rfl)
        · rw [S_list] at ey
          exact no H4 s4 (by unfold rawP; rw [if_neg (by rw [ht]; decide), ey]; rfl)
      · rintro σ' Hc ⟨_, sm, hl3, hok⟩ hDn
        refine ⟨⟨_, SqL.of hl3, by rw [List.length_map]; exact Nat.le_refl _⟩, ?_⟩
        have all : allR κ ps = some (ps.map fun p => (rawP κ p).getD .non) := allR_some fun p hp => by
          obtain ⟨j, hj, rfl⟩ := List.mem_iff_getElem.mp hp
          have := hok j hj
          rw [List.getD_eq_getElem?_getD, List.getElem?_eq_getElem hj] at this
          exact this
        refine ⟨D, ps.map fun p => (rawP κ p).getD .non, rfl, .inl ⟨SqL.of ?_, fun l hl => q l _ _ (sm.trans (Same.upd hl)) hq all upd_same⟩⟩
        rw [hDn, range_map_getD ps [] (fun p => (rawP κ p).getD .non)]
    · refine qe H5 (s1.trans s5) (.inl fun e => ?_)
      rw [e] at e2
      exact absurd e2 (by decide +kernel)
end
end My

namespace My
open PySem L2 PyProof.Rows
seal L2.PE L2.PT L2.PW L2.PS L2.PSs L2.PA L2.PI L2.PG L2.PGs L2.OpR L2.UnR L2.CallR L2.IxR L2.SlR L2.MtR L2.PIf L2.PO L2.MtM L2.PC L2.PIp L2.PSet L2.PGet L2.TruR L2.InOp L2.PK
/-- a text that is no pointer -/
def spPOx (CN : Addr) : Sp := fun vs H _ E => ∃ z : Str, vs = [.str z] ∧ z.length ≤ 900 ∧ z ≠ "-" ∧ (∀ n, Kx.wholeOf z.cps.toList = some n → n < 0) ∧ ∀ H', Same H H' → E (.ref CN) none H'
def spVOkx (K : PySem.W.Frag) (CN : Addr) : Sp := fun vs H _ E => ∃ (a : Addr) (z : Str), vs = [.ref a, .str z] ∧ SqT K H a [.str "key"] ∧ z.length ≤ 900 ∧ z ≠ "-" ∧ (∀ n, Kx.wholeOf z.cps.toList = some n → n < 0) ∧ ∀ H', Same H H' → E (.ref CN) none H'
section
variable {P : Program} {w : World} {K : PySem.W.Frag} {mg : Str → Option Value} {base : Heap} {CN kA : Addr}
theorem ok_pointerNo {f fA fN : Addr} {fd fdA fdN : FuncData} (F : Fun K "pointer_of" "pointer_of" (top 24) f fd) (T : Tx K mg CN) {uN : Value} (mN : mg "NOWHERE" = some uN) (rN : RelV (.str "-") uN) (DA : Df K mg "ask_text" (top 29) fA fdA) (DN : Df K mg "whole_of" (top 27) fN fdN) (GN : FnOk P w K mg base (CX1 P w) 2 fN fdN ["text"] (spWholeOf CN)) :
    FnOk P w K mg base (CX1 P w) 3 f fd ["text"] (spPOx CN) := by
  have sc : FnScope ["text", "key"] ["text"] (defScope (top 24)) := ⟨rfl, rfl, rfl, by decide +kernel, rfl, by decide +kernel, by decide +kernel⟩
  have GA : FnOk P w K mg base (CX1 P w) 1 fA fdA ["fine", "why"] (spAsk CN) := ok_ask DA.fn T
  have bA := DA.fn.binds (ps := ["fine", "why"]) fun _ _ _ _ _ _ us hl => by obtain ⟨v0, v1, rfl⟩ := L2.ln2 hl; rfl
  have bN := DN.fn.binds (ps := ["text"]) fun _ _ _ _ _ _ us hl => by obtain ⟨v0, rfl⟩ := L2.ln1 hl; rfl
  refine F.x.okX sc (fun vs H Q E h => ?_) (fun cdv A outer s H vs Q E hr h => ?_)
  · obtain ⟨z, rfl, _⟩ := h
    rfl
  · obtain ⟨z, rfl, hl, hne, hn, q⟩ := h
    have hr1 : Room 1 _ := hr.mono (by decide)
    refine ⟨_, pss_cons (ps_if (pt_cmpR op_eq (pv 0) (pe_glob (by rfl) mN rN) (nomark _)) (pss_one (ps_ret pe_non)) pss_nil)
      (pss_cons (ps_set (i := 1) sc.nd rfl (Or.inl rfl) (pe_callX GN hr (by rfl) DN.mg DN.fn.kp bN .nil lands_cx (pa_cons (pv 0) pa_nil)))
      (pss_cons (ps_expr (pe_callX GA hr1 (by rfl) DA.mg DA.fn.kp bA .nil lands_cx (pa_cons (pe_cmpR op_ge (pv 1) pe_int (nomark _)) (pa_cons pe_str pa_nil))))
      (pss_one (ps_ret (pv 1))))), ?_⟩
    refine ⟨_, rfl, rfl, _, rfl, ?_⟩
    refine iteC (decide_eq_false fun e => hne (V.str.inj e)) ?_
    refine ⟨_, rfl, z, rfl, hl, (fun n H1 s1 e1 => ?_), (fun H1 s1 e1 => q H1 s1)⟩
    have n0 := hn n e1
    refine ⟨_, rfl, _, _, rfl, rfl, _, _, rfl, (fun e2 => ?_), (fun e2 H2 s2 => q H2 (s1.trans s2))⟩
    rw [decide_eq_false (by omega)] at e2
    cases e2
theorem ok_valueNoK {f fP : Addr} {fd fdP : FuncData} (F : Fun K "value_of" "value_of" (top 23) f fd) (Y : Ky K mg kA) (DP : Df K mg "pointer_of" (top 24) fP fdP) (GP : FnOk P w K mg base (CX1 P w) 3 fP fdP ["text"] (spPOx CN)) : FnOk P w K mg base (CX1 P w) 4 f fd ["kind", "text"] (spVOkx K CN) := by
  have sc : FnScope ["kind", "text", "value"] ["kind", "text"] (defScope (top 23)) := ⟨rfl, rfl, rfl, by decide +kernel, rfl, by decide +kernel, by decide +kernel⟩
  have bP := DP.fn.binds (ps := ["text"]) fun _ _ _ _ _ _ us hl => by obtain ⟨v0, rfl⟩ := L2.ln1 hl; rfl
  refine F.x.okX sc (fun vs H Q E h => ?_) (fun cdv A outer s H vs Q E hr h => ?_)
  · obtain ⟨a, z, rfl, _⟩ := h
    rfl
  · obtain ⟨a, z, rfl, ha, h⟩ := h
    have hu : (A.deeper (envOfC "value_of" (defScope (top 23)) s.heap.objs.size f cdv)).units + 1 < cLine := hu_of hr
    refine ⟨_, pss_cons (ps_if (pt_cmpR (op_eqT1 (Nat.lt_of_succ_lt hu)) (pv 0) (pe_glob (v := .ref kA) (by rfl) Y.mK rfl) (nomark _)) (pss_one (ps_ret (pe_callX GP hr (by rfl) DP.mg DP.fn.kp bP .nil lands_cx (pa_cons (pv 1) pa_nil)))) pss_nil) pss_never, ?_⟩
    refine ⟨_, rfl, a, kA, "key", "key", [], rfl, rfl, ha, Y.sq H, _, rfl, ?_⟩
    refine iteB (by decide) ?_
    exact ⟨_, rfl, z, rfl, h⟩
end
end My

namespace My
open PySem L2 PyProof.Rows
seal L2.PE L2.PT L2.PW L2.PS L2.PSs L2.PA L2.PI L2.PG L2.PGs L2.OpR L2.UnR L2.CallR L2.IxR L2.SlR L2.MtR L2.PIf L2.PO L2.MtM L2.PC L2.PIp L2.PSet L2.PGet L2.TruR L2.InOp L2.PK
/-- value_of for list and some, with what it refuses -/
def spVOlg (K : PySem.W.Frag) (CN : Addr) : Sp := fun vs H Q E => ∃ (a b : Addr) (z : Str) (κ : Pk) (sort : Str) (ps : List (List Nat)) (q : List Nat), vs = [.ref a, .str z] ∧ SqT K H a [.str sort, .ref b] ∧ SqT K H b κ.vs ∧ (sort = "list" ∨ sort = "some") ∧ z.length ≤ 900 ∧ Rp.cutAt 44 z.cps.toList = ps ++ [q] ∧ (∀ p ∈ ps, p.length ≤ 900) ∧ ps.length ≤ 901 ∧
  (∀ xs, allR κ ps = some xs → xs.length ≤ 1000 ∧ ∀ x ∈ xs, ∀ H', ValP K H' x) ∧
  (∀ t H' xs, Same H H' → q = [] → allR κ ps = some xs → fitT sort κ (.tup xs) = true → H' t = some (.tup xs) → Q (.ref t) H') ∧ (∀ H', Same H H' → q ≠ [] ∨ allR κ ps = none ∨ (∃ xs, allR κ ps = some xs ∧ fitT sort κ (.tup xs) = false) → E (.ref CN) none H')
section
variable {P : Program} {w : World} {K : PySem.W.Frag} {mg : Str → Option Value} {base : Heap} {CN kA : Addr}
theorem ok_valueOfG {f fA fF fW fL fT fU : Addr} {fd fdA fdF fdW fdL fdT fdU : FuncData} (F : Fun K "value_of" "value_of" (top 23) f fd) (T : Tx K mg CN) (Y : Ky K mg kA) (B : Bl mg) (DA : Df K mg "ask_text" (top 29) fA fdA) (DU : Df K mg "tuple_of" (top 25) fU fdU) (GU : FnOk P w K mg base (CX1 P w) 4 fU fdU ["kind", "text"] (spTOg K CN))
    (DF : Df K mg "fits" (top 13) fF fdF) (DW : Df K mg "is_whole" (top 11) fW fdW) (DL : Df K mg "fits_plain" (top 15) fL fdL) (DT : Df K mg "fits_tuple" (top 14) fT fdT) : FnOk P w K mg base (CX1 P w) 5 f fd ["kind", "text"] (spVOlg K CN) := by
  have sc : FnScope ["kind", "text", "value"] ["kind", "text"] (defScope (top 23)) := ⟨rfl, rfl, rfl, by decide +kernel, rfl, by decide +kernel, by decide +kernel⟩
  have GA : FnOk P w K mg base (CX1 P w) 1 fA fdA ["fine", "why"] (spAsk CN) := ok_ask DA.fn T
  have GF : FnOk P w K mg base CX0 4 fF fdF ["kind", "value", "size"] (spFits K) := ok_fits DF.fn B DW DL DT
  have bA := DA.fn.binds (ps := ["fine", "why"]) fun _ _ _ _ _ _ us hl => by obtain ⟨v0, v1, rfl⟩ := L2.ln2 hl; rfl
  have bU := DU.fn.binds (ps := ["kind", "text"]) fun _ _ _ _ _ _ us hl => by obtain ⟨v0, v1, rfl⟩ := L2.ln2 hl; rfl
  have bF := DF.fn.binds (ps := ["kind", "value", "size"]) fun _ _ _ _ _ _ us hl => by obtain ⟨v0, v1, v2, rfl⟩ := L2.ln3 hl; rfl
  refine F.x.okX sc (fun vs H Q E h => ?_) (fun cdv A outer s H vs Q E hr h => ?_)
  · obtain ⟨a, b, z, κ, sort, ps, q0, rfl, _⟩ := h
    rfl
  · obtain ⟨a, b, z, κ, sort, ps, q0, rfl, ha, hb, hs, hz, ec, hpl, hpn, hval, q, qe⟩ := h
    have hr1 : Room 1 _ := hr.mono (by decide)
    have hu : (A.deeper (envOfC "value_of" (defScope (top 23)) s.heap.objs.size f cdv)).units + 1 < cLine := hu_of hr
    refine ⟨_, pss_cons (ps_if (pt_cmpR (op_eqT1 (Nat.lt_of_succ_lt hu)) (pv 0) (pe_glob (v := .ref kA) (by rfl) Y.mK rfl) (nomark _)) pss_never pss_nil)
      (pss_cons (ps_if (pt_cmpR (op_inD hu) (pe_ix ix_tup (pv 0) pe_int (fun _ _ => rfl)) (pe_tup (pa_cons pe_str (pa_cons pe_str pa_nil))) (by with_unfolding_all rfl))
        (pss_one (ps_set (i := 2) sc.nd rfl (Or.inl rfl) (pe_callX GU hr (by rfl) DU.mg DU.fn.kp bU .nil lands_cx (pa_cons (pe_ix ix_tup (pv 0) pe_int (fun _ _ => rfl)) (pa_cons (pv 1) pa_nil))))) pss_never)
      (pss_cons (ps_expr (pe_callX GA hr1 (by rfl) DA.mg DA.fn.kp bA .nil lands_cx (pa_cons (pe_call GF hr (by rfl) DF.mg DF.fn.kp bF .nil pass0 (pa_cons (pv 0) (pa_cons (pv 2) (pa_cons pe_int pa_nil)))) (pa_cons pe_str pa_nil)))) (pss_one (ps_ret (pv 2))))), ?_⟩
    have hsn : sort.length ≤ 1000 ∧ wLS.any (strIs (.str sort)) = true := by
      rcases hs with rfl | rfl
      · exact ⟨by decide, by decide +kernel⟩
      · exact ⟨by decide, by decide +kernel⟩
    refine ⟨_, rfl, a, kA, sort, "key", [.ref b], rfl, rfl, ha, Y.sq H, _, rfl, ?_⟩
    refine iteC (by rw [show ([V.ref b] : List V).isEmpty = false from rfl, Bool.and_false]) ?_
    refine ⟨_, rfl, _, _, 0, _, rfl, rfl, ha, atI_nat (j := 0) rfl, (by show 2 ≤ sizeLine; decide), fun p hp => ?_⟩
    have sm := Same.upd (o := .tup [.str "list", .str "some"]) hp
    refine ⟨.str sort, p, wLS, rep_str hsn.1, rfl, upd_same, _, rfl, ?_⟩
    refine iteB hsn.2 ?_
    refine ⟨_, rfl, _, _, 1, _, rfl, rfl, sm.seqT ha, atI_nat (j := 1) rfl, _, rfl, b, z, κ, ps, q0, rfl, sm.seqT hb, hz, ec, hpl, hpn, (fun t H1 xs s1 e0 ea ht => ?_), (fun H1 s1 e => qe H1 (sm.trans s1) (e.imp id .inl))⟩
    have s2 := sm.trans s1
    obtain ⟨hx1, hx2⟩ := hval xs ea
    have hv : Val K H1 (.ref t) (.tup xs) := ⟨t, rfl, SqT.of ht, Is.tup ht, hx1, fun x hx => hx2 x hx H1⟩
    have hkk : ∃ kk : Kk, KkOk K H1 a kk ∧ fitD kk 1 (.ref t) (.tup xs) = fitT sort κ (.tup xs) := by
      rcases hs with rfl | rfl
      · exact ⟨.lst κ, ⟨b, s2.seqT ha, s2.seqT hb⟩, rfl⟩
      · exact ⟨.som κ, ⟨b, s2.seqT ha, s2.seqT hb⟩, rfl⟩
    obtain ⟨kk, hk, ek⟩ := hkk
    refine ⟨_, rfl, _, rfl, a, .ref t, 1, kk, .tup xs, rfl, hk, hv, fun H2 s3 => ?_⟩
    rw [ek]
    exact ⟨_, _, rfl, (fun e => ⟨_, rfl, q t _ xs (s2.trans s3) e0 ea e (s3 _ _ ht)⟩), fun e H3 s4 => qe H3 ((s2.trans s3).trans s4) (.inr (.inr ⟨xs, ea, e⟩))⟩
end
end My

namespace L2
open PySem PySem.Spec PyProof.Rows
/-- != of a list and an empty one -/
theorem op_neLE {X : Cx} (hu : X.A.units < cLine) : OpR X (compareOp .NotEq) (fun x y H Q => ∃ (a b : Addr) (xs : List V), x = .ref a ∧ y = .ref b ∧ SqL X.K H a xs ∧ SqL X.K H b [] ∧ Q (.bl (!xs.isEmpty)) H) := by
  intro pins st σ H x y v u Q I rx ry h
  obtain ⟨a, b, xs, rfl, rfl, ha, hb, q⟩ := h
  cases rx
  cases ry
  obtain ⟨its, r1, pl, _⟩ := I.list ha
  obtain ⟨jts, r2, ql, _⟩ := I.list hb
  cases r2
  have hl := r1.length
  cases xs with
  | nil =>
    cases r1
    have h1 := SeqAt.RcNeAt.lists (A := X.A) (e := fun _ => true) pl.isList ql.isList rfl hu (fun j g1 => absurd g1 (by simp))
    exact h1 X.prog X.w X.xe _ ⟨.bl false, H, I, rfl, q⟩
  | cons x xs =>
    have h1 := SeqAt.RcNeAt.lists_lengths (A := X.A) pl.isList ql.isList (by
      cases its with
      | nil => cases hl
      | cons a r => simp) hu
    exact h1 X.prog X.w X.xe _ ⟨.bl true, H, I, rfl, q⟩
end L2
namespace Kx
open Nm PySem.NumText
theorem whole_fg {l : List Nat} {c : Nat} (hc : c ∈ fg l) (hd : dig c = false) : wholeOf l = none := by
  have hn : ¬ (fg l).all dig = true := fun h => by
    have := (List.all_eq_true.mp h) c hc
    rw [hd] at this; cases this
  unfold wholeOf
  by_cases e : (fg l).length < 1 ∨ 400 < (fg l).length
  · rw [if_pos e]
  · rw [if_neg e, if_neg hn]
theorem whole_not {l : List Nat} (h : nl (numOf l) ≠ l) : wholeOf l = none := by
  unfold wholeOf
  by_cases e : (fg l).length < 1 ∨ 400 < (fg l).length
  · rw [if_pos e]
  · rw [if_neg e, if_neg h]
    split <;> rfl
theorem whole_long {l : List Nat} (h : 400 < (fg l).length) : wholeOf l = none := by
  unfold wholeOf
  rw [if_pos (.inr h)]
theorem val0 (l : List Nat) : digitsVal (48 :: l) = digitsVal l := by
  simp [digitsVal]
/-- 0 ahead of figures -/
theorem whole_0 (m : Nat) : wholeOf (48 :: figs m) = none := by
  refine whole_not fun e => ?_
  have e1 : numOf (48 :: figs m) = (m : Int) := by
    show (if decide (48 = 45) = true then _ else _) = _
    rw [if_neg (by decide)]
    show ((digitsVal (if 48 = 45 then figs m else 48 :: figs m) : Nat) : Int) = _
    rw [if_neg (by decide), val0, figs_val]
  rw [e1] at e
  have e2 : nl (m : Int) = figs m := by
    unfold nl
    rw [if_neg (by omega)]
    rfl
  rw [e2] at e
  have := congrArg List.length e
  simp at this
/-- -0 ahead of figures -/
theorem whole_m0 (m : Nat) : wholeOf (45 :: 48 :: figs m) = none := by
  refine whole_not fun e => ?_
  have e1 : numOf (45 :: 48 :: figs m) = -(m : Int) := by
    show (if decide (45 = 45) = true then _ else _) = _
    rw [if_pos (by decide)]
    show -((digitsVal (if 45 = 45 then 48 :: figs m else 45 :: 48 :: figs m) : Nat) : Int) = _
    rw [if_pos rfl, val0, figs_val]
  rw [e1] at e
  have := congrArg List.length e
  unfold nl at this
  have e3 : (-(m : Int)).natAbs = m := by omega
  rw [e3] at this
  split at this <;> simp at this <;> omega
theorem whole_minus (m : Nat) : wholeOf (45 :: 45 :: figs m) = none := by
  refine whole_fg (c := 45) ?_ (by decide)
  show 45 ∈ (if 45 = 45 then 45 :: figs m else 45 :: 45 :: figs m)
  rw [if_pos rfl]
  exact List.mem_cons_self
theorem whole_tail (n : Int) : wholeOf (nl n ++ [45]) = none := by
  refine whole_fg (c := 45) ?_ (by decide)
  unfold nl
  split
  · show 45 ∈ (if 45 = 45 then figs n.natAbs ++ [45] else 45 :: (figs n.natAbs ++ [45]))
    rw [if_pos rfl]
    simp
  · have hne := figs_ne n.natAbs
    cases hf : figs n.natAbs with
    | nil => exact absurd hf hne
    | cons a r =>
      have ha := figs_digits n.natAbs a (by rw [hf]; exact List.mem_cons_self)
      show 45 ∈ (if a = 45 then r ++ [45] else a :: (r ++ [45]))
      rw [if_neg (by omega)]
      simp
theorem wd_bad (c : Nat) (r : List Nat) (h1 : ¬ c = 92) (h2 : bare c = false) : wd false (c :: r) = none := by
  show (if c = 92 then _ else if bare c = true then _ else none) = none
  rw [if_neg h1, if_neg (by rw [h2]; decide)]
theorem wd_esc (c : Nat) (r : List Nat) (h : esc1 c = none) : wd false (92 :: c :: r) = none := by
  show (if 92 = 92 then (match esc1 c with | some d => (wd false r).map (d :: ·) | none => none) else _) = none
  rw [if_pos rfl, h]
end Kx
namespace My
open PySem L2 PyProof.Rows
seal L2.PE L2.PT L2.PW L2.PS L2.PSs L2.PA L2.PI L2.PG L2.PGs L2.OpR L2.UnR L2.CallR L2.IxR L2.SlR L2.MtR L2.PIf L2.PO L2.MtM L2.PC L2.PIp L2.PSet L2.PGet L2.TruR L2.InOp L2.PK
theorem word_app (r : List Nat) : ∀ l : List Nat, (∀ c ∈ l, c ∈ Kx.signs) → Kx.wordOf (escs l ++ r) = (Kx.wordOf r).map (l ++ ·)
  | [], _ => by
    show Kx.wordOf r = (Kx.wordOf r).map fun x => x
    cases Kx.wordOf r <;> rfl
  | c :: l, h => by
    have ih : Kx.wd false (escs l ++ r) = (Kx.wd false r).map (l ++ ·) := word_app r l fun d hd => h d (List.mem_cons_of_mem _ hd)
    show Kx.wd false ((c :: l).flatMap Kx.escd ++ r) = (Kx.wd false r).map _
    rw [List.flatMap_cons]
    rcases wd_cases c (h c List.mem_cons_self) with ⟨e, h1, h2⟩ | ⟨e, h1⟩
    · rw [e]
      show (if c = 92 then Kx.wd true (escs l ++ r) else if Kx.bare c = true then (Kx.wd false (escs l ++ r)).map (c :: ·) else none) = _
      rw [if_neg h1, if_pos h2, ih]
      cases Kx.wd false r <;> rfl
    · rw [e]
      show (match Kx.esc1 (ecd c) with | some d => (Kx.wd false (escs l ++ r)).map (d :: ·) | none => none) = _
      rw [h1, ih]
      cases Kx.wd false r <;> rfl
/-- a text read at a plain kind: none -/
theorem read_none_n {κ : Pk} {l : List Nat} (hx : κ.txt = false) (h : Kx.wholeOf l = none) : readP κ l = none := by
  unfold readP rawP
  rw [hx, if_neg Bool.false_ne_true, h]
  rfl
theorem read_none_w {κ : Pk} {l : List Nat} (hx : κ.txt = true) (h : Kx.wordOf l = none) : readP κ l = none := by
  unfold readP rawP
  rw [hx, if_pos rfl, h]
  rfl
theorem read_unfit_n {κ : Pk} {n : Int} (hx : κ.txt = false) (hn : n.natAbs < 10 ^ 400) (h : fitP κ (.int n) = false) : readP κ (Kx.nl n) = none := by
  unfold readP
  rw [raw_int hx hn]
  show (if fitP κ (.int n) = true then _ else _) = _
  rw [h]
  rfl
theorem read_fit {κ : Pk} {v : V} (h : PvOk κ v) : readP κ (tv v) = some v := by
  unfold readP
  rw [h.good.2.1]
  show (if fitP κ v = true then _ else _) = _
  rw [h.1, if_pos rfl]
/-- what of the text the law asks of refusals -/
structure Rf (K : PySem.W.Frag) (mg : Str → Option Value) (CN CT c1 c2 c3 c4 c5 c6 : Addr) : Prop where
  mT : mg "TableError" = some (.ref CT)
  xT : XCl K CT
  un : Under K CN CT
  xi : XIs K CN
  isN : PySem.W.kitOne K (.ref CN) (.ref CN) = some true
  isV : PySem.W.kitOne K (.ref CN) (.type "ValueError") = some true
  isO : PySem.W.kitAny K (.ref CN) [.ref c1, .ref c2, .ref c3, .ref c4, .ref c5, .ref c6] = some false
  m1 : mg "NoForm" = some (.ref c1)
  m2 : mg "NoMove" = some (.ref c2)
  m3 : mg "NoRow" = some (.ref c3)
  m4 : mg "NotDone" = some (.ref c4)
  m5 : mg "StepError" = some (.ref c5)
  m6 : mg "TooMany" = some (.ref c6)
  nV : mg "ValueError" = none
theorem boot_verr : bootBuiltins "ValueError" = some (.type "ValueError") := by decide +kernel
def spNoText (CN : Addr) : Sp := fun vs H Q _ => ∃ x, vs = [.ref x] ∧ H x = some (.ext (gotP x CN none)) ∧ ∀ H', Same H H' → Q (.bl true) H'
/-- what refuses by value_of's promise -/
def spRef (sp : Sp) (CN : Addr) : Sp := fun vs H Q _ => ∃ (a : Addr) (z : Str), vs = [.ref a, .str z] ∧ (∀ (H1 : Hp) (Q' : VK) E', Same H H1 → (∀ H', Same H1 H' → E' (.ref CN) none H') → sp [.ref a, .str z] H1 Q' E') ∧ ∀ H', Same H H' → Q (.bl true) H'
section
variable {P : Program} {w : World} {K : PySem.W.Frag} {mg : Str → Option Value} {base : Heap} {CN CT c1 c2 c3 c4 c5 c6 : Addr}
theorem ok_noText {f : Addr} {fd : FuncData} (F : Fun K "_law_no_text" "_law_no_text" (top 39) f fd) (B : Bl mg) (T : Tx K mg CN) (R : Rf K mg CN CT c1 c2 c3 c4 c5 c6) : FnOk P w K mg base CX0 1 f fd ["_law_caught"] (spNoText CN) := by
  have sc : FnScope ["_law_caught"] ["_law_caught"] (defScope (top 39)) := ⟨rfl, rfl, rfl, by decide +kernel, rfl, by decide +kernel, by decide +kernel⟩
  refine F.ok sc (fun vs H Q E h => ?_) (fun cdv A outer s H vs Q E hr h => ?_)
  · obtain ⟨x, rfl, _⟩ := h
    rfl
  · obtain ⟨x, rfl, hx, q⟩ := h
    refine ⟨_, pss_cons (ps_if (PW.pt (pw_or (pt_not (pt_val (pe_callB call_isX (by rfl) B.isi boot_isi (pa_cons (pv 0) (pa_cons (pe_glob (v := .ref CN) (by rfl) T.mN rfl) pa_nil)))))
        (pw_or1 (pt_not (pt_val (pe_callB call_isX (by rfl) B.isi boot_isi (pa_cons (pv 0) (pa_cons (pe_bltn (v := .ty "ValueError") (by rfl) R.nV boot_verr rfl) pa_nil)))))))) (pss_one (ps_ret pe_bl)) pss_nil)
      (pss_one (ps_ret (pe_not (pe_callB call_isXT (by rfl) B.isi boot_isi (pa_cons (pv 0) (pa_cons (pe_tup (pa_cons (pe_glob (v := .ref c1) (by rfl) R.m1 rfl) (pa_cons (pe_glob (v := .ref c2) (by rfl) R.m2 rfl) (pa_cons (pe_glob (v := .ref c3) (by rfl) R.m3 rfl) (pa_cons (pe_glob (v := .ref c4) (by rfl) R.m4 rfl) (pa_cons (pe_glob (v := .ref c5) (by rfl) R.m5 rfl) (pa_cons (pe_glob (v := .ref c6) (by rfl) R.m6 rfl) pa_nil))))))) pa_nil)))))), ?_⟩
    have nd : ∀ dx, (none : Option Addr) = some dx → ∃ fs, H dx = some (.ext (dctP dx fs)) := fun _ e => nomatch e
    refine ⟨_, rfl, x, CN, none, _, true, rfl, hx, nd, R.xi, (fun u r => by cases (show u = Value.ref CN from r); exact R.isN), _, rfl, ?_⟩
    refine iteF ?_
    refine ⟨_, rfl, x, CN, none, _, true, rfl, hx, nd, R.xi, (fun u r => by cases (show u = Value.type "ValueError" from r); exact R.isV), _, rfl, ?_⟩
    refine iteF ?_
    refine ⟨_, rfl, (by show 6 ≤ sizeLine; decide), fun p hp => ?_⟩
    have np : x ≠ p := ne_of_none hx hp
    refine ⟨x, CN, none, p, _, false, rfl, (by rw [upd_ne np]; exact hx), (fun _ e => nomatch e), R.xi, SqT.of upd_same, (fun us r => ?_), _, rfl, q _ (Same.upd hp)⟩
    cases r with
    | cons r1 r => cases r with
      | cons r2 r => cases r with
        | cons r3 r => cases r with
          | cons r4 r => cases r with
            | cons r5 r => cases r with
              | cons r6 r =>
                cases r
                cases r1; cases r2; cases r3; cases r4; cases r5; cases r6
                exact R.isO
theorem ok_refused {n : Nat} {sp : Sp} {f fK fN : Addr} {fd fdK fdN : FuncData} (hn : 1 ≤ n) (F : Fun K "_law_refused" "_law_refused" (top 40) f fd) (B : Bl mg) (T : Tx K mg CN) (R : Rf K mg CN CT c1 c2 c3 c4 c5 c6) (DK : Df K mg "value_of" (top 23) fK fdK) (GK : FnOk P w K mg base (CX1 P w) n fK fdK ["kind", "text"] sp)
    (DN : Df K mg "_law_no_text" (top 39) fN fdN) : FnOk P w K mg base CX0 (n + 1) f fd ["_law_kind", "_law_text_here"] (spRef sp CN) := by
  have sc : FnScope ["_law_kind", "_law_text_here", "_law_caught", "e"] ["_law_kind", "_law_text_here"] (defScope (top 40)) := ⟨rfl, rfl, rfl, by decide +kernel, rfl, by decide +kernel, by decide +kernel⟩
  have GN : FnOk P w K mg base CX0 1 fN fdN ["_law_caught"] (spNoText CN) := ok_noText DN.fn B T R
  have bK := DK.fn.binds (ps := ["kind", "text"]) fun _ _ _ _ _ _ us hl => by obtain ⟨v0, v1, rfl⟩ := L2.ln2 hl; rfl
  have bN := DN.fn.binds (ps := ["_law_caught"]) fun _ _ _ _ _ _ us hl => by obtain ⟨v0, rfl⟩ := L2.ln1 hl; rfl
  refine F.ok sc (fun vs H Q E h => ?_) (fun cdv A outer s H vs Q E hr h => ?_)
  · obtain ⟨a, z, rfl, _⟩ := h
    rfl
  · obtain ⟨a, z, rfl, hk, q⟩ := h
    have hr1 : Room 1 _ := hr.mono hn
    refine ⟨_, pss_cons (ps_set (i := 2) sc.nd rfl (Or.inl rfl) pe_non)
      (pss_cons (ps_tryU (i := 3) rfl rfl sc.nd rfl rfl (by rfl) R.mT R.xT
        (fun D pn XE L => pss_one (ps_expr (pe_callX GK hr (by rfl) DK.mg DK.fn.kp bK .nil L (pa_cons (pv 0) (pa_cons (pv 1) pa_nil)))))
        (fun x C => pss_one (ps_set (i := 2) sc.nd rfl (Or.inl rfl) (pv 3))))
      (pss_one (ps_ret (pe_call GN hr1 (by rfl) DN.mg DN.fn.kp bN .nil pass0 (pa_cons (pv 2) pa_nil))))), ?_⟩
    refine ⟨_, rfl, _, rfl, hk H _ _ (Same.refl H) fun H' s1 => ⟨CN, rfl, R.un, fun x hx => ?_⟩⟩
    refine ⟨_, rfl, ?_⟩
    refine ⟨_, rfl, x, rfl, upd_same, fun H2 s2 => q _ ((s1.trans (Same.upd hx)).trans s2)⟩
end
end My

namespace My
open PySem L2 PyProof.Rows
seal L2.PE L2.PT L2.PW L2.PS L2.PSs L2.PA L2.PI L2.PG L2.PGs L2.OpR L2.UnR L2.CallR L2.IxR L2.SlR L2.MtR L2.PIf L2.PO L2.MtM L2.PC L2.PIp L2.PSet L2.PGet L2.TruR L2.InOp L2.PK
def spNN (K : PySem.W.Frag) : Sp := fun vs H Q _ => ∃ (a : Addr) (v c : Int) (κ : Pk), vs = [.ref a, .int v, .int c] ∧ SqT K H a κ.vs ∧ κ.txt = false ∧ PkB κ ∧ v.natAbs < 10 ^ 60 ∧ 0 ≤ c ∧ c < 2147483647 ∧ ∀ (z : Str) (H' : Hp), Same H H' → readP κ z.cps.toList = none → z.length ≤ 200 → Q (.str z) H'
theorem big {n : Nat} (h : n < 10 ^ 60) : n < 10 ^ 400 := Nat.lt_of_lt_of_le h (Nat.pow_le_pow_right (by decide) (by decide))
theorem at_memG {α : Type} {l : List α} {i : Int} (h0 : 0 ≤ i) (h1 : i < l.length) : ∃ v, atI l i = some v ∧ v ∈ l := by
  obtain ⟨n, rfl⟩ := Int.eq_ofNat_of_zero_le h0
  have hn : n < l.length := by omega
  exact ⟨l[n], atI_nat (List.getElem?_eq_getElem hn), List.getElem_mem hn⟩
theorem lens {x y : Nat} (h1 : x ≤ 200) (h2 : y ≤ 200) : x + y ≤ sizeLine := by rw [sizeLine_eq]; omega
def absI (i : Int) : Int := if i < 0 then -i else i
theorem abs_nl (i : Int) : Kx.nl (absI i) = Nm.figs i.natAbs := by
  unfold Kx.nl absI
  split
  · rw [if_neg (by omega)]
    congr 1
    omega
  · rfl
theorem s_mi : ("-" : Str) = S [45] := by decide +kernel
theorem s_pl : ("+" : Str) = S [43] := by decide +kernel
theorem s_ze : ("0" : Str) = S [48] := by decide +kernel
theorem s_mz : ("-0" : Str) = S [45, 48] := by decide +kernel
theorem s_mm : ("--" : Str) = S [45, 45] := by decide +kernel
theorem s_mo : ("-1" : Str) = S (Kx.nl (-1)) := by decide +kernel
def oddN : List Nat := [97, 90, 95, 46, 44, 59, 32, 43, 58, 92]
theorem oddN_is : ("aZ_.,; +:\\" : Str).cps.toList = oddN := by decide +kernel
theorem oddN_bad : ∀ c ∈ oddN, Kx.dig c = false ∧ c ≠ 45 := by decide +kernel
theorem tstr (i : Int) : ((toString i : String) : Str) = S (Kx.nl i) := tx_S i
def its (v at_ : Int) (oc : Nat) : List V := [.str "", .str "-", .str ("+" ++ ((toString (absI v) : String) : Str)), .str ("0" ++ ((toString (absI v) : String) : Str)), .str "-0", .str ("-0" ++ ((toString (absI v) : String) : Str))] ++ [.str "", .str ("--" ++ ((toString (absI v) : String) : Str)), .str (Txt.slice ((toString (absI v) : String) : Str) none (some at_) ++ ⟨#[oc]⟩ ++ Txt.slice ((toString (absI v) : String) : Str) (some at_) none)]
theorem items_bad {κ : Pk} {v at_ : Int} {oc : Nat} (hx : κ.txt = false) (hv : v.natAbs < 10 ^ 60) (a0 : 0 ≤ at_) (a1 : at_ ≤ ((toString (absI v) : String) : Str).length) (ho : oc ∈ oddN) : ∀ x ∈ its v at_ oc, ∃ z : Str, x = .str z ∧ readP κ z.cps.toList = none ∧ z.length ≤ 200 := by
  intro x hm
  have eF : ((toString (absI v) : String) : Str).length ≤ 60 := by
    rw [tstr, S_len, abs_nl]
    exact (Nm.figs_len (by decide)).mpr hv
  have l1 := Txt.slice_le ((toString (absI v) : String) : Str) none (some at_)
  have l2 := Txt.slice_le ((toString (absI v) : String) : Str) (some at_) none
  have eP1 : ("+" : Str).length = 1 := by decide +kernel
  have eZ1 : ("0" : Str).length = 1 := by decide +kernel
  have eM2 : ("-0" : Str).length = 2 := by decide +kernel
  have eM3 : ("--" : Str).length = 2 := by decide +kernel
  have eO : (⟨#[oc]⟩ : Str).length = 1 := rfl
  unfold its at hm
  simp only [List.mem_append, List.mem_cons, List.not_mem_nil, or_false] at hm
  rcases hm with (rfl | rfl | rfl | rfl | rfl | rfl) | rfl | rfl | rfl
  · exact ⟨_, rfl, read_none_n hx (by decide +kernel), by decide⟩
  · exact ⟨_, rfl, read_none_n hx (by decide +kernel), by decide⟩
  · refine ⟨_, rfl, read_none_n hx ?_, (by rw [Str.length_append, eP1]; omega)⟩
    rw [tstr, s_pl, S_app, S_list, abs_nl]
    exact Kx.whole_bad (c := 43) List.mem_cons_self (by decide) (by decide)
  · refine ⟨_, rfl, read_none_n hx ?_, (by rw [Str.length_append, eZ1]; omega)⟩
    rw [tstr, s_ze, S_app, S_list, abs_nl]
    exact Kx.whole_0 _
  · exact ⟨_, rfl, read_none_n hx (by decide +kernel), by decide⟩
  · refine ⟨_, rfl, read_none_n hx ?_, (by rw [Str.length_append, eM2]; omega)⟩
    rw [tstr, s_mz, S_app, S_list, abs_nl]
    exact Kx.whole_m0 _
  · exact ⟨_, rfl, read_none_n hx (by decide +kernel), by decide⟩
  · refine ⟨_, rfl, read_none_n hx ?_, (by rw [Str.length_append, eM3]; omega)⟩
    rw [tstr, s_mm, S_app, S_list, abs_nl]
    exact Kx.whole_minus _
  · refine ⟨_, rfl, read_none_n hx ?_, (by rw [Str.length_append, Str.length_append, eO]; omega)⟩
    obtain ⟨h1, h2⟩ := oddN_bad oc ho
    refine Kx.whole_bad (c := oc) ?_ h1 h2
    rw [Str.cps_append, Str.cps_append, Array.toList_append, Array.toList_append]
    exact List.mem_append_left _ (List.mem_append_right _ List.mem_cons_self)
section
variable {P : Program} {w : World} {K : PySem.W.Frag} {mg : Str → Option Value} {base : Heap} {CN : Addr}
theorem ok_noNumber {f : Addr} {fd : FuncData} (F : Fun K "_law_no_number" "_law_no_number" (top 41) f fd) (B : Bl mg) : FnOk P w K mg base CX0 1 f fd ["_law_kind", "_law_value", "_law_number"] (spNN K) := by
  have sc : FnScope ["_law_kind", "_law_value", "_law_number", "_law_figures", "_law_at", "_law_way", "_law_odd", "_law_some"] ["_law_kind", "_law_value", "_law_number"] (defScope (top 41)) := ⟨rfl, rfl, rfl, by decide +kernel, rfl, by decide +kernel, by decide +kernel⟩
  refine F.ok sc (fun vs H Q E h => ?_) (fun cdv A outer s H vs Q E hr h => ?_)
  · obtain ⟨a, v, c, κ, rfl, _⟩ := h
    rfl
  · obtain ⟨a, v, c, κ, rfl, ha, hx, hb, hv60, c0, c1, q⟩ := h
    refine ⟨_, pss_cons (ps_set (i := 3) sc.nd rfl (Or.inl rfl) (pe_callTy call_str_int (by rfl) B.str boot_str (pa_cons (pe_callB call_abs (by rfl) B.abs boot_abs (pa_cons (pv 1) pa_nil)) pa_nil)))
      (pss_cons (ps_set (i := 4) sc.nd rfl (Or.inl rfl) (pe_op op_mod (pe_op op_fdiv (pv 2) pe_int) (pe_op op_add (pe_callB call_len_str (by rfl) B.len PySem.boot_len (pa_cons (pv 3) pa_nil)) pe_int)))
      (pss_cons (ps_set (i := 5) sc.nd rfl (Or.inl rfl) (pe_op op_mod (pv 2) pe_int))
      (pss_cons (ps_if (PW.pt (pw_and (pt_cmpR op_eq (pv 5) pe_int (nomark _)) (pw_and1 (pt_cmpR op_eq (pe_ix ix_tup (pv 0) pe_int (fun _ _ => rfl)) pe_str (nomark _)))))
        (pss_one (ps_ret (pe_ix ix_list (pe_lst (pa_cons (pe_callTy call_str_int (by rfl) B.str boot_str (pa_cons (pe_ix ix_tup (pv 0) pe_int (fun _ _ => rfl)) pa_nil)) (pa_cons pe_str (pa_cons (pe_callTy call_str_int (by rfl) B.str boot_str (pa_cons (pe_op op_add (pe_ix ix_tup (pv 0) pe_int (fun _ _ => rfl)) (pv 2)) pa_nil)) pa_nil)))) (pe_op op_mod (pe_op op_fdiv (pv 2) pe_int) pe_int) (fun _ _ => rfl)))) pss_nil)
      (pss_cons (ps_if (PW.pt (pw_and (pt_cmpR op_eq (pv 5) pe_int (nomark _)) (pw_and1 (pt_cmpR op_eq (pe_ix ix_tup (pv 0) pe_int (fun _ _ => rfl)) pe_str (nomark _)))))
        (pss_one (ps_ret (pe_callTy call_str_int (by rfl) B.str boot_str (pa_cons (pe_op op_add (pe_op op_add (pe_ix ix_tup (pv 0) pe_int (fun _ _ => rfl)) pe_int) (pe_ix ix_list (pe_lst (pa_cons pe_int (pa_cons (pv 2) pa_nil))) (pe_op op_mod (pe_op op_fdiv (pv 2) pe_int) pe_int) (fun _ _ => rfl))) pa_nil)))) pss_nil)
      (pss_cons (ps_if (pt_cmpR op_eq (pv 5) pe_int (nomark _)) (pss_one (ps_ret (pe_op op_add_str (pe_callTy call_str_int (by rfl) B.str boot_str (pa_cons (pv 1) pa_nil)) pe_str))) pss_nil)
      (pss_cons (ps_set (i := 6) sc.nd rfl (Or.inl rfl) (pe_ix ix_str pe_str (pe_op op_mod (pe_op op_fdiv (pe_op op_fdiv (pv 2) pe_int) pe_int) pe_int) (fun _ _ => rfl)))
      (pss_cons (ps_set (i := 7) sc.nd rfl (Or.inl rfl) (pe_lst (pa_cons pe_str (pa_cons pe_str (pa_cons (pe_op op_add_str pe_str (pv 3)) (pa_cons (pe_op op_add_str pe_str (pv 3)) (pa_cons pe_str (pa_cons (pe_op op_add_str pe_str (pv 3)) pa_nil))))))))
      (pss_one (ps_ret (pe_ix ix_list (pe_op op_cat (pv 7) (pe_lst (pa_cons pe_str (pa_cons (pe_op op_add_str pe_str (pv 3)) (pa_cons (pe_op op_add_str (pe_op op_add_str (pe_slice sl_str (pv 3) po_none (po_some (pv 4))) (pv 6)) (pe_slice sl_str (pv 3) (po_some (pv 4)) po_none)) pa_nil))))) (pv 5) (fun _ _ => rfl))))))))))), ?_⟩
    have w0 := Int.emod_nonneg c (show (9 : Int) ≠ 0 by decide)
    have w1 := Int.emod_lt_of_pos c (show (0 : Int) < 9 by decide)
    have eF : ((toString (absI v) : String) : Str).length ≤ 60 := by
      rw [tstr, S_len, abs_nl]
      exact (Nm.figs_len (by decide)).mpr hv60
    have sV := tstr v
    have eV : ((toString v : String) : Str).length ≤ 61 := by
      rw [tstr, S_len]
      have := (Nm.figs_len (m := v.natAbs) (k := 60) (by decide)).mpr hv60
      unfold Kx.nl
      split
      · rw [List.length_cons]; omega
      · omega
    have hzs : ((toString (absI v) : String) : Str).length ≤ sizeLine := by rw [sizeLine_eq]; omega
    have m0 : 0 ≤ c / 9 % (((toString (absI v) : String) : Str).length + 1 : Int) := Int.emod_nonneg _ (by omega)
    have m1 : c / 9 % (((toString (absI v) : String) : Str).length + 1 : Int) < (((toString (absI v) : String) : Str).length + 1 : Int) := Int.emod_lt_of_pos _ (by omega)
    have k1 := Txt.slice_le ((toString (absI v) : String) : Str) none (some (c / 9 % (((toString (absI v) : String) : Str).length + 1 : Int)))
    have k2 := Txt.slice_le ((toString (absI v) : String) : Str) (some (c / 9 % (((toString (absI v) : String) : Str).length + 1 : Int))) none
    have eP1 : ("+" : Str).length = 1 := by decide +kernel
    have eZ1 : ("0" : Str).length = 1 := by decide +kernel
    have eM1 : ("-" : Str).length = 1 := by decide +kernel
    have eM2 : ("-0" : Str).length = 2 := by decide +kernel
    have eM3 : ("--" : Str).length = 2 := by decide +kernel
    obtain ⟨oc, oh, om⟩ := at_memG (l := ("aZ_.,; +:\\" : Str).cps.toList) (i := c / 9 / 13 % 10) (Int.emod_nonneg _ (by decide)) (by rw [oddN_is]; exact Int.emod_lt_of_pos _ (by decide))
    rw [oddN_is] at om
    have eO : (⟨#[oc]⟩ : Str).length = 1 := rfl
    have av : (absI v).natAbs < 10 ^ 400 := by
      have := big hv60
      unfold absI
      split
      · rw [Int.natAbs_neg]; exact this
      · exact this
    refine ⟨_, rfl, _, rfl, _, rfl, lg av, ?_⟩
    refine ⟨_, rfl, _, _, rfl, rfl, ⟨by decide, by decide⟩, _, rfl, _, rfl, hzs, _, _, rfl, rfl, _, _, rfl, rfl, (by omega), ?_⟩
    refine ⟨_, rfl, _, _, rfl, rfl, (pos rfl), ?_⟩
    by_cases h7 : c % 9 = 7
    · have t7 : decide (V.int (c % 9) = V.int 7) = true := by rw [h7]; decide
      cases κ with
      | word => cases hx
      | without ch => cases hx
      | below n =>
        have n0 : 1 ≤ n := hb.1
        have n1 : n ≤ 10 ^ 10 := hb.2
        have ha' : SqT K H a [.str "below", .int n] := ha
        refine ⟨_, rfl, rfl, _, rfl, iteB t7 ?_⟩
        refine ⟨_, rfl, _, _, 0, _, rfl, rfl, ha', rfl, rfl, _, rfl, iteB (show decide (V.str "below" = V.str "below") = true by decide) ?_⟩
        have b1 : n.natAbs < 10 ^ 400 := Nat.lt_of_lt_of_le (show _ < 10 ^ 11 by omega) (Nat.pow_le_pow_right (by decide) (by decide))
        have b2 : (n + c).natAbs < 10 ^ 400 := Nat.lt_of_lt_of_le (show _ < 10 ^ 11 by omega) (Nat.pow_le_pow_right (by decide) (by decide))
        refine ⟨_, rfl, _, _, 1, _, rfl, rfl, ha', rfl, _, rfl, lg b1, _, rfl, _, _, 1, _, rfl, rfl, ha', rfl, _, rfl, _, _, rfl, rfl, _, rfl, lg b2, (by show 3 ≤ sizeLine; decide), fun l hl => ?_⟩
        obtain ⟨x, hv, hm⟩ := at_mem (l := [V.str (toString n : String), .str "-1", .str (toString (n + c) : String)]) (i := c / 9 % 3) (Int.emod_nonneg _ (by decide)) (by show c / 9 % 3 < 3; exact Int.emod_lt_of_pos _ (by decide))
        refine ⟨_, rfl, _, _, rfl, rfl, ⟨by decide, by decide⟩, _, _, rfl, rfl, (pos rfl), _, _, _, x, rfl, rfl, SqL.of upd_same, hv, ?_⟩
        have ln : ∀ i : Int, i.natAbs < 10 ^ 11 → (S (Kx.nl i)).length ≤ 200 := fun i hi => by
          rw [S_len]
          have := (Nm.figs_len (m := i.natAbs) (k := 11) (by decide)).mpr hi
          unfold Kx.nl
          split
          · rw [List.length_cons]; omega
          · omega
        simp only [List.mem_cons, List.not_mem_nil, or_false] at hm
        rcases hm with rfl | rfl | rfl
        · refine q _ _ (Same.upd hl) ?_ ?_
          · rw [tstr, S_list]
            exact read_unfit_n rfl b1 (by show (decide (0 ≤ n) && decide (n < n)) = false; simp)
          · rw [tstr]
            exact ln n (by omega)
        · refine q _ _ (Same.upd hl) ?_ (by decide)
          rw [s_mo, S_list]
          exact read_unfit_n rfl (by decide) (by show (decide ((0 : Int) ≤ -1) && decide (-1 < n)) = false; rfl)
        · refine q _ _ (Same.upd hl) ?_ ?_
          · rw [tstr, S_list]
            exact read_unfit_n rfl b2 (by
              show (decide (0 ≤ n + c) && decide (n + c < n)) = false
              rw [decide_eq_false (show ¬ n + c < n by omega), Bool.and_false])
          · rw [tstr]
            exact ln _ (by omega)
      | upto n =>
        have n0 : -1000 ≤ n := hb.1
        have n1 : n ≤ 1000 := hb.2
        have ha' : SqT K H a [.str "upto", .int n] := ha
        refine ⟨_, rfl, rfl, _, rfl, iteB t7 ?_⟩
        refine ⟨_, rfl, _, _, 0, _, rfl, rfl, ha', rfl, rfl, _, rfl, iteC (show decide (V.str "upto" = V.str "below") = false by decide) ?_⟩
        refine ⟨_, rfl, rfl, _, rfl, iteB t7 ?_⟩
        refine ⟨_, rfl, _, _, 0, _, rfl, rfl, ha', rfl, rfl, _, rfl, iteB (show decide (V.str "upto" = V.str "upto") = true by decide) ?_⟩
        refine ⟨_, rfl, _, _, 1, _, rfl, rfl, ha', rfl, _, _, rfl, rfl, _, rfl, (by show 2 ≤ sizeLine; decide), fun l hl => ?_⟩
        obtain ⟨x, hv, hm⟩ := at_mem (l := [V.int 0, .int c]) (i := c / 9 % 2) (Int.emod_nonneg _ (by decide)) (by show c / 9 % 2 < 2; exact Int.emod_lt_of_pos _ (by decide))
        obtain ⟨i, rfl, i0, i1⟩ : ∃ i : Int, x = .int i ∧ 0 ≤ i ∧ i < 2147483647 := by
          simp only [List.mem_cons, List.not_mem_nil, or_false] at hm
          rcases hm with rfl | rfl
          · exact ⟨_, rfl, by decide, by decide⟩
          · exact ⟨_, rfl, c0, c1⟩
        have b2 : (n + 1 + i).natAbs < 10 ^ 400 := Nat.lt_of_lt_of_le (show _ < 10 ^ 11 by omega) (Nat.pow_le_pow_right (by decide) (by decide))
        refine ⟨_, rfl, _, _, rfl, rfl, ⟨by decide, by decide⟩, _, _, rfl, rfl, (pos rfl), _, _, _, _, rfl, rfl, SqL.of upd_same, hv, _, _, rfl, rfl, _, rfl, lg b2, ?_⟩
        refine q _ _ (Same.upd hl) ?_ ?_
        · rw [tstr, S_list]
          exact read_unfit_n rfl b2 (by show decide (n + 1 + i ≤ n) = false; rw [decide_eq_false (show ¬ n + 1 + i ≤ n by omega)])
        · rw [tstr, S_len]
          have := (Nm.figs_len (m := (n + 1 + i).natAbs) (k := 11) (by decide)).mpr (by omega)
          unfold Kx.nl
          split
          · rw [List.length_cons]; omega
          · omega
      | whole =>
        have ha' : SqT K H a [.str "whole"] := ha
        refine ⟨_, rfl, rfl, _, rfl, iteB t7 ?_⟩
        refine ⟨_, rfl, _, _, 0, _, rfl, rfl, ha', rfl, rfl, _, rfl, iteC (show decide (V.str "whole" = V.str "below") = false by decide) ?_⟩
        refine ⟨_, rfl, rfl, _, rfl, iteB t7 ?_⟩
        refine ⟨_, rfl, _, _, 0, _, rfl, rfl, ha', rfl, rfl, _, rfl, iteC (show decide (V.str "whole" = V.str "upto") = false by decide) ?_⟩
        refine ⟨_, rfl, rfl, _, rfl, ?_⟩
        refine ite2 (fun _ => ?_) (fun _ => ?_)
        · refine ⟨_, rfl, _, rfl, lg (big hv60), _, _, rfl, rfl, (lens (Nat.le_trans eV (by decide)) (by decide)), q _ _ (Same.refl H) ?_ ?_⟩
          · rw [sV, s_mi, S_app, S_list]
            exact read_none_n hx (Kx.whole_tail v)
          · rw [Str.length_append, eM1]
            exact Nat.le_trans (Nat.add_le_add eV (Nat.le_refl 1)) (by decide)
        · refine ⟨_, rfl, _, _, rfl, rfl, ⟨by decide, by decide⟩, _, _, rfl, rfl, ⟨by decide, by decide⟩, _, _, rfl, rfl, (pos rfl), _, _, oc, rfl, rfl, (by decide), oh, ?_⟩
          refine ⟨_, rfl, _, _, rfl, rfl, (lens (by decide) (Nat.le_trans eF (by decide))), _, rfl, _, _, rfl, rfl, (lens (by decide) (Nat.le_trans eF (by decide))), _, rfl, _, _, rfl, rfl, (lens (by decide) (Nat.le_trans eF (by decide))), (by show 6 ≤ sizeLine; decide), fun l1 h1 => ?_⟩
          refine ⟨_, rfl, _, rfl, _, _, rfl, rfl, (lens (by decide) (Nat.le_trans eF (by decide))), _, rfl, _, rfl, _, rfl, _, rfl, hzs, _, rfl, _, _, rfl, rfl, (lens (Nat.le_trans k1 (Nat.le_trans eF (by decide))) (show 1 ≤ 200 by decide)), _, rfl, _, rfl, _, rfl, _, rfl, hzs, _, _, rfl, rfl, (lens (by rw [Str.length_append]; exact Nat.le_trans (Nat.add_le_add (Nat.le_trans k1 eF) (Nat.le_refl 1)) (by decide)) (Nat.le_trans k2 (Nat.le_trans eF (by decide)))), (by show 3 ≤ sizeLine; decide), fun l2 h2 => ?_⟩
          refine ⟨l1, l2, _, _, rfl, rfl, (Same.upd h2) _ _ upd_same, upd_same, (by show 9 ≤ sizeLine; decide), fun l3 h3 => ?_⟩
          obtain ⟨x, hv, hm⟩ := at_mem (l := its v (c / 9 % (((toString (absI v) : String) : Str).length + 1 : Int)) oc) (i := c % 9) w0 (by show c % 9 < 9; exact w1)
          refine ⟨_, rfl, _, _, _, x, rfl, rfl, SqL.of upd_same, hv, ?_⟩
          obtain ⟨z, rfl, hz1, hz2⟩ := items_bad hx hv60 m0 (by omega) om x hm
          exact q z _ (((Same.upd h1).trans (Same.upd h2)).trans (Same.upd h3)) hz1 hz2
    · have e7 : decide (V.int (c % 9) = V.int 7) = false := decide_eq_false fun e => h7 (by injection e)
      refine ⟨_, rfl, rfl, _, rfl, iteC e7 ?_⟩
      refine iteF ?_
      refine ⟨_, rfl, rfl, _, rfl, iteC e7 ?_⟩
      refine iteF ?_
      refine ⟨_, rfl, rfl, _, rfl, ?_⟩
      refine ite2 (fun _ => ?_) (fun _ => ?_)
      · refine ⟨_, rfl, _, rfl, lg (big hv60), _, _, rfl, rfl, (lens (Nat.le_trans eV (by decide)) (by decide)), q _ _ (Same.refl H) ?_ ?_⟩
        · rw [sV, s_mi, S_app, S_list]
          exact read_none_n hx (Kx.whole_tail v)
        · rw [Str.length_append, eM1]
          exact Nat.le_trans (Nat.add_le_add eV (Nat.le_refl 1)) (by decide)
      · refine ⟨_, rfl, _, _, rfl, rfl, ⟨by decide, by decide⟩, _, _, rfl, rfl, ⟨by decide, by decide⟩, _, _, rfl, rfl, (pos rfl), _, _, oc, rfl, rfl, (by decide), oh, ?_⟩
        refine ⟨_, rfl, _, _, rfl, rfl, (lens (by decide) (Nat.le_trans eF (by decide))), _, rfl, _, _, rfl, rfl, (lens (by decide) (Nat.le_trans eF (by decide))), _, rfl, _, _, rfl, rfl, (lens (by decide) (Nat.le_trans eF (by decide))), (by show 6 ≤ sizeLine; decide), fun l1 h1 => ?_⟩
        refine ⟨_, rfl, _, rfl, _, _, rfl, rfl, (lens (by decide) (Nat.le_trans eF (by decide))), _, rfl, _, rfl, _, rfl, _, rfl, hzs, _, rfl, _, _, rfl, rfl, (lens (Nat.le_trans k1 (Nat.le_trans eF (by decide))) (show 1 ≤ 200 by decide)), _, rfl, _, rfl, _, rfl, _, rfl, hzs, _, _, rfl, rfl, (lens (by rw [Str.length_append]; exact Nat.le_trans (Nat.add_le_add (Nat.le_trans k1 eF) (Nat.le_refl 1)) (by decide)) (Nat.le_trans k2 (Nat.le_trans eF (by decide)))), (by show 3 ≤ sizeLine; decide), fun l2 h2 => ?_⟩
        refine ⟨l1, l2, _, _, rfl, rfl, (Same.upd h2) _ _ upd_same, upd_same, (by show 9 ≤ sizeLine; decide), fun l3 h3 => ?_⟩
        obtain ⟨x, hv, hm⟩ := at_mem (l := its v (c / 9 % (((toString (absI v) : String) : Str).length + 1 : Int)) oc) (i := c % 9) w0 (by show c % 9 < 9; exact w1)
        refine ⟨_, rfl, _, _, _, x, rfl, rfl, SqL.of upd_same, hv, ?_⟩
        obtain ⟨z, rfl, hz1, hz2⟩ := items_bad hx hv60 m0 (by omega) om x hm
        exact q z _ (((Same.upd h1).trans (Same.upd h2)).trans (Same.upd h3)) hz1 hz2
end
end My

namespace L2
open PySem PySem.Spec PyProof.Rows
theorem sIx_at {n d : Nat} {k : Int} (h0 : 0 ≤ k) (h1 : k ≤ n) : HT.sIx n d (some k) = k.toNat := by
  have e := HT.clip_eq k n d
  rw [if_neg (by omega)] at e
  omega
theorem cut_to {xs : List V} {k : Int} (h0 : 0 ≤ k) (h1 : k ≤ xs.length) : cutV xs none (some k) = xs.take k.toNat := by
  unfold cutV
  rw [sIx_at h0 h1, HT.sIx_none, List.drop_zero, Nat.sub_zero]
theorem cut_from {xs : List V} {k : Int} (h0 : 0 ≤ k) (h1 : k ≤ xs.length) : cutV xs (some k) none = xs.drop k.toNat := by
  unfold cutV
  rw [sIx_at h0 h1, HT.sIx_none]
  refine List.take_of_length_le ?_
  rw [List.length_drop]
  omega
end L2
namespace My
open PySem L2 PyProof.Rows
/-- ''.join of written signs -/
theorem mt_joinU {X : Cx} : MtR X "str.join" (fun x xs H Q => ∃ (p : Addr) (l : List Nat), x = .str "" ∧ xs = [.ref p] ∧ SqL X.K H p (l.map fun c => V.str (S (Kx.escd c))) ∧ l.length ≤ 1000 ∧ Q (.str (S (escs l))) H) := by
  intro pins s σ H x xs v us Q I rx r h
  obtain ⟨p, l, rfl, rfl, hp, hl, q⟩ := h
  refine mt_joinL pins s σ H _ _ v us Q I rx r ⟨_, p, (l.map Kx.escd).map S, rfl, rfl, ?_, ?_, ?_⟩
  · rw [List.map_map, List.map_map]
    exact hp
  · have e0 : ("" : Str).length = 0 := by decide +kernel
    rw [e0, List.map_map]
    have := escs_len l
    have e : ((l.map Kx.escd).map ((fun x : Str => x.length) ∘ S)).sum = ((l.map Kx.escd).map fun x => (S x).length).sum := rfl
    rw [e]
    omega
  · rw [glue_all]
    have : (l.map Kx.escd).flatten = escs l := by
      unfold escs
      rw [List.flatMap_def]
    rw [this]
    exact q
seal L2.PE L2.PT L2.PW L2.PS L2.PSs L2.PA L2.PI L2.PG L2.PGs L2.OpR L2.UnR L2.CallR L2.IxR L2.SlR L2.MtR L2.PIf L2.PO L2.MtM L2.PC L2.PIp L2.PSet L2.PGet L2.TruR L2.InOp L2.PK
def spNW (K : PySem.W.Frag) : Sp := fun vs H Q _ => ∃ (a : Addr) (z : Str) (c : Int) (κ : Pk), vs = [.ref a, .str z, .int c] ∧ SqT K H a κ.vs ∧ κ.txt = true ∧ PkB κ ∧ AllS z ∧ z.length ≤ 10 ∧ 0 ≤ c ∧ c < 2147483647 ∧ ∀ (t : Str) (H' : Hp), Same H H' → readP κ t.cps.toList = none → t.length ≤ 200 → Q (.str t) H'
def oddW : List V := [.str " ", .str ",", .str ";", .str "\\q", .str "\\C", .str "\\ ", .str "\\-", .str "\\n", .str "\\,", .str "", .str ";"]
theorem oddW_bad {j : Int} (h0 : 0 ≤ j) (h1 : j < 11) (h9 : j ≠ 9) : ∃ o : List Nat, atI oddW j = some (.str (S o)) ∧ o.length ≤ 2 ∧ ∀ r, Kx.wordOf (o ++ r) = none := by
  have hj : j = 0 ∨ j = 1 ∨ j = 2 ∨ j = 3 ∨ j = 4 ∨ j = 5 ∨ j = 6 ∨ j = 7 ∨ j = 8 ∨ j = 10 := by omega
  rcases hj with rfl | rfl | rfl | rfl | rfl | rfl | rfl | rfl | rfl | rfl
  · exact ⟨[32], by decide +kernel, by decide, fun r => Kx.wd_bad 32 r (by decide) (by decide)⟩
  · exact ⟨[44], by decide +kernel, by decide, fun r => Kx.wd_bad 44 r (by decide) (by decide)⟩
  · exact ⟨[59], by decide +kernel, by decide, fun r => Kx.wd_bad 59 r (by decide) (by decide)⟩
  · exact ⟨[92, 113], by decide +kernel, by decide, fun r => Kx.wd_esc 113 r (by decide)⟩
  · exact ⟨[92, 67], by decide +kernel, by decide, fun r => Kx.wd_esc 67 r (by decide)⟩
  · exact ⟨[92, 32], by decide +kernel, by decide, fun r => Kx.wd_esc 32 r (by decide)⟩
  · exact ⟨[92, 45], by decide +kernel, by decide, fun r => Kx.wd_esc 45 r (by decide)⟩
  · exact ⟨[92, 110], by decide +kernel, by decide, fun r => Kx.wd_esc 110 r (by decide)⟩
  · exact ⟨[92, 44], by decide +kernel, by decide, fun r => Kx.wd_esc 44 r (by decide)⟩
  · exact ⟨[59], by decide +kernel, by decide, fun r => Kx.wd_bad 59 r (by decide) (by decide)⟩
theorem s_bs : ("\\" : Str) = S [92] := by decide +kernel
section
variable {P : Program} {w : World} {K : PySem.W.Frag} {mg : Str → Option Value} {base : Heap} {CN : Addr}
theorem ok_noWord {f fU fR : Addr} {fd fdU fdR : FuncData} (F : Fun K "_law_no_word" "_law_no_word" (top 42) f fd) (B : Bl mg) (DU : Df K mg "_law_units" (top 34) fU fdU) (DR : Df K mg "_law_written" (top 35) fR fdR) : FnOk P w K mg base CX0 3 f fd ["_law_kind", "_law_value", "_law_number"] (spNW K) := by
  have sc : FnScope ["_law_kind", "_law_value", "_law_number", "_law_units_here", "_law_at", "_law_way", "_law_odd"] ["_law_kind", "_law_value", "_law_number"] (defScope (top 42)) := ⟨rfl, rfl, rfl, by decide +kernel, rfl, by decide +kernel, by decide +kernel⟩
  have GU : FnOk P w K mg base CX0 1 fU fdU ["_law_text_here"] spUnits := ok_units DU.fn
  have GR : FnOk P w K mg base CX0 2 fR fdR ["_law_text_here"] spWritten := ok_written DR.fn DU
  have bU := DU.fn.binds (ps := ["_law_text_here"]) fun _ _ _ _ _ _ us hl => by obtain ⟨v0, rfl⟩ := L2.ln1 hl; rfl
  have bR := DR.fn.binds (ps := ["_law_text_here"]) fun _ _ _ _ _ _ us hl => by obtain ⟨v0, rfl⟩ := L2.ln1 hl; rfl
  refine F.ok sc (fun vs H Q E h => ?_) (fun cdv A outer s H vs Q E hr h => ?_)
  · obtain ⟨a, z, c, κ, rfl, _⟩ := h
    rfl
  · obtain ⟨a, z, c, κ, rfl, ha, hx, hb, hz, hl10, c0, c1, q⟩ := h
    have hr1 : Room 1 _ := hr.mono (by decide)
    refine ⟨_, pss_cons (ps_set (i := 3) sc.nd rfl (Or.inl rfl) (pe_call GU hr1 (by rfl) DU.mg DU.fn.kp bU .nil pass0 (pa_cons (pv 1) pa_nil)))
      (pss_cons (ps_set (i := 4) sc.nd rfl (Or.inl rfl) (pe_op op_mod (pe_op op_fdiv (pv 2) pe_int) (pe_op op_add (pe_callB call_len_seq (by rfl) B.len PySem.boot_len (pa_cons (pv 3) pa_nil)) pe_int)))
      (pss_cons (ps_set (i := 5) sc.nd rfl (Or.inl rfl) (pe_op op_mod (pv 2) pe_int))
      (pss_cons (ps_if (pt_cmpR op_eq (pv 5) pe_int (nomark _)) (pss_one (ps_ret (pe_op op_add_str (pe_bm PySem.F.plainAttrs_str PySem.F.slot_str_join PySem.F.type_str_join mt_joinU pe_str (pa_cons (pv 3) pa_nil)) pe_str))) pss_nil)
      (pss_cons (ps_if (PW.pt (pw_and (pt_cmpR op_eq (pv 5) pe_int (nomark _)) (pw_and1 (pt_cmpR op_eq (pe_ix ix_tup (pv 0) pe_int (fun _ _ => rfl)) pe_str (nomark _)))))
        (pss_one (ps_ret (pe_op op_add_str (pe_op op_add_str (pe_bm PySem.F.plainAttrs_str PySem.F.slot_str_join PySem.F.type_str_join mt_joinU pe_str (pa_cons (pe_slice sl_list (pv 3) po_none (po_some (pv 4))) pa_nil)) (pe_call GR hr (by rfl) DR.mg DR.fn.kp bR .nil pass0 (pa_cons (pe_ix ix_tup (pv 0) pe_int (fun _ _ => rfl)) pa_nil))) (pe_bm PySem.F.plainAttrs_str PySem.F.slot_str_join PySem.F.type_str_join mt_joinU pe_str (pa_cons (pe_slice sl_list (pv 3) (po_some (pv 4)) po_none) pa_nil))))) pss_nil)
      (pss_cons (ps_set (i := 6) sc.nd rfl (Or.inl rfl) (pe_ix ix_list (pe_lst (pa_cons pe_str (pa_cons pe_str (pa_cons pe_str (pa_cons pe_str (pa_cons pe_str (pa_cons pe_str (pa_cons pe_str (pa_cons pe_str (pa_cons pe_str (pa_cons pe_str (pa_cons pe_str pa_nil)))))))))))) (pv 5) (fun _ _ => rfl)))
      (pss_one (ps_ret (pe_op op_add_str (pe_op op_add_str (pe_bm PySem.F.plainAttrs_str PySem.F.slot_str_join PySem.F.type_str_join mt_joinU pe_str (pa_cons (pe_slice sl_list (pv 3) po_none (po_some (pv 4))) pa_nil)) (pv 6)) (pe_bm PySem.F.plainAttrs_str PySem.F.slot_str_join PySem.F.type_str_join mt_joinU pe_str (pa_cons (pe_slice sl_list (pv 3) (po_some (pv 4)) po_none) pa_nil)))))))))), ?_⟩
    have w0 := Int.emod_nonneg c (show (11 : Int) ≠ 0 by decide)
    have w1 := Int.emod_lt_of_pos c (show (0 : Int) < 11 by decide)
    have zl := z_len z
    refine ⟨_, rfl, z, rfl, hz, (by omega), fun d H1 s1 hd => ?_⟩
    have eln : ((z.cps.toList.map fun c => V.str (S (Kx.escd c))).length) = z.cps.toList.length := List.length_map ..
    refine ⟨_, rfl, _, _, rfl, rfl, ⟨by decide, by decide⟩, _, rfl, d, _, rfl, .inl (SqL.of hd), _, _, rfl, rfl, _, _, rfl, rfl, (by omega), ?_⟩
    have m0 : 0 ≤ c / 11 % (((z.cps.toList.map fun c => V.str (S (Kx.escd c))).length : Int) + 1) := Int.emod_nonneg _ (by omega)
    have m1 : c / 11 % (((z.cps.toList.map fun c => V.str (S (Kx.escd c))).length : Int) + 1) < ((z.cps.toList.map fun c => V.str (S (Kx.escd c))).length : Int) + 1 := Int.emod_lt_of_pos _ (by omega)
    refine ⟨_, rfl, _, _, rfl, rfl, (pos rfl), ?_⟩
    show tSeq _ _ _ [some (.ref a), some (.str z), some (.int c), some (.ref d), some (.int (c / 11 % (((z.cps.toList.map fun c => V.str (S (Kx.escd c))).length : Int) + 1))), some (.int (c % 11)), none] H1
    generalize c / 11 % (((z.cps.toList.map fun c => V.str (S (Kx.escd c))).length : Int) + 1) = k at m0 m1 ⊢
    have tkS : ∀ x ∈ z.cps.toList.take k.toNat, x ∈ Kx.signs := fun x hx => hz x (List.mem_of_mem_take hx)
    have drS : ∀ x ∈ z.cps.toList.drop k.toNat, x ∈ Kx.signs := fun x hx => hz x (List.mem_of_mem_drop hx)
    have tkl : (z.cps.toList.take k.toNat).length ≤ 10 := by rw [List.length_take]; omega
    have drl : (z.cps.toList.drop k.toNat).length ≤ 10 := by rw [List.length_drop]; omega
    have e1 : cutV (z.cps.toList.map fun c => V.str (S (Kx.escd c))) none (some k) = (z.cps.toList.take k.toNat).map fun c => V.str (S (Kx.escd c)) := by rw [cut_to m0 (by omega), List.map_take]
    have e2 : cutV (z.cps.toList.map fun c => V.str (S (Kx.escd c))) (some k) none = (z.cps.toList.drop k.toNat).map fun c => V.str (S (Kx.escd c)) := by rw [cut_from m0 (by omega), List.map_drop]
    have x0 : (S (escs z.cps.toList)).length ≤ 20 := by rw [S_len]; have := escs_le z.cps.toList; omega
    have x1 : (S (escs (z.cps.toList.take k.toNat))).length ≤ 20 := by rw [S_len]; have := escs_le (z.cps.toList.take k.toNat); omega
    have x2 : (S (escs (z.cps.toList.drop k.toNat))).length ≤ 20 := by rw [S_len]; have := escs_le (z.cps.toList.drop k.toNat); omega
    have eB : ("\\" : Str).length = 1 := by decide +kernel
    refine ⟨_, rfl, rfl, _, rfl, ?_⟩
    by_cases h9 : c % 11 = 9
    · refine iteB (by rw [h9]; decide) ?_
      refine ⟨rfl, _, rfl, d, _, rfl, rfl, SqL.of hd, (by omega), _, _, rfl, rfl, (lens (Nat.le_trans x0 (by decide)) (by decide)), q _ _ s1 ?_ ?_⟩
      · rw [s_bs, S_app, S_list]
        refine read_none_w hx ?_
        rw [word_app _ _ hz]
        rfl
      · rw [Str.length_append, eB]
        omega
    · refine iteC (decide_eq_false fun e => h9 (by injection e)) ?_
      refine ⟨_, rfl, rfl, _, rfl, ?_⟩
      by_cases hT : c % 11 = 10 ∧ κ.name = "without"
      · obtain ⟨h10, hn⟩ := hT
        refine iteB (by rw [h10]; decide) ?_
        cases κ with
        | whole => cases hx
        | below n => cases hx
        | upto n => cases hx
        | word => exact absurd hn (by decide +kernel)
        | without ch =>
          have hs : ch ∈ Kx.signs := hb
          have ha' : SqT K H1 a [.str "without", .str ⟨#[ch]⟩] := s1.seqT ha
          refine ⟨_, rfl, _, _, 0, _, rfl, rfl, ha', rfl, rfl, _, rfl, iteB (show decide (V.str "without" = V.str "without") = true by decide) ?_⟩
          refine ⟨rfl, _, rfl, _, rfl, _, rfl, d, _, rfl, SqL.of hd, fun p3 g3 => ?_⟩
          have T3 := Same.upd (o := .lst (cutV (z.cps.toList.map fun c => V.str (S (Kx.escd c))) none (some k))) g3
          refine ⟨p3, _, rfl, rfl, SqL.of (by rw [upd_same, e1]), (by omega), _, rfl, _, _, 1, _, rfl, rfl, T3.seqT ha', rfl, ⟨#[ch]⟩, rfl, ?_, (show 1 ≤ 1000 by decide), fun H4 s4 => ?_⟩
          · intro c' hc'
            have : c' = ch := by simpa using hc'
            rw [this]
            exact hs
          have y1 : (S (escs [ch])).length ≤ 2 := by rw [S_len]; have := escs_le [ch]; simpa using this
          refine ⟨_, _, rfl, rfl, (lens (Nat.le_trans x1 (by decide)) (Nat.le_trans y1 (by decide))), ?_⟩
          have hd4 := s4 _ _ (T3 _ _ hd)
          refine ⟨rfl, _, rfl, _, rfl, _, rfl, d, _, rfl, SqL.of hd4, fun p5 g5 => ?_⟩
          have T5 := Same.upd (o := .lst (cutV (z.cps.toList.map fun c => V.str (S (Kx.escd c))) (some k) none)) g5
          refine ⟨p5, _, rfl, rfl, SqL.of (by rw [upd_same, e2]), (by omega), _, _, rfl, rfl, ?_, ?_⟩
          · refine lens ?_ (Nat.le_trans x2 (by decide))
            rw [Str.length_append]
            exact Nat.le_trans (Nat.add_le_add x1 y1) (by decide)
          refine q _ _ (s1.trans (T3.trans (s4.trans T5))) ?_ ?_
          · show readP _ (S (escs (z.cps.toList.take k.toNat)) ++ S (escs [ch]) ++ S (escs (z.cps.toList.drop k.toNat))).cps.toList = none
            rw [S_app, S_app, S_list]
            have e : escs (z.cps.toList.take k.toNat) ++ escs [ch] ++ escs (z.cps.toList.drop k.toNat) = escs (z.cps.toList.take k.toNat ++ [ch] ++ z.cps.toList.drop k.toNat) := by
              unfold escs
              rw [List.flatMap_append, List.flatMap_append]
            rw [e]
            have hw := word_escs (z.cps.toList.take k.toNat ++ [ch] ++ z.cps.toList.drop k.toNat) (fun x hx' => by
              rcases List.mem_append.mp hx' with h | h
              · rcases List.mem_append.mp h with h | h
                · exact tkS x h
                · have : x = ch := by simpa using h
                  rw [this]
                  exact hs
              · exact drS x h)
            unfold readP rawP
            rw [show (Pk.without ch).txt = true from rfl, if_pos rfl, hw]
            show (if (!decide (ch ∈ (z.cps.toList.take k.toNat ++ [ch] ++ z.cps.toList.drop k.toNat))) = true then _ else _) = _
            rw [decide_eq_true (by simp)]
            rfl
          · show (S (escs (z.cps.toList.take k.toNat)) ++ S (escs [ch]) ++ S (escs (z.cps.toList.drop k.toNat))).length ≤ 200
            rw [Str.length_append, Str.length_append]
            omega
      · obtain ⟨o, ho1, ho2, ho3⟩ := oddW_bad w0 w1 h9
        have y1 : (S o).length ≤ 2 := by rw [S_len]; exact ho2
        refine ite2 (fun h => ?_) (fun h => ?_)
        · have h10 : c % 11 = 10 := by
            have := of_decide_eq_true h
            injection this
          refine ⟨_, rfl, _, _, 0, _, rfl, rfl, s1.seqT ha, at0 κ, rfl, _, rfl, iteC (decide_eq_false fun e => hT ⟨h10, by injection e⟩) ?_⟩
          refine ⟨(by show 11 ≤ sizeLine; decide), fun l6 h6 => ?_⟩
          have T6 := Same.upd (o := .lst oddW) h6
          refine ⟨_, rfl, _, _, _, _, rfl, rfl, SqL.of upd_same, ho1, ?_⟩
          refine ⟨rfl, _, rfl, _, rfl, _, rfl, d, _, rfl, SqL.of (T6 _ _ hd), fun p3 g3 => ?_⟩
          have T3 := Same.upd (o := .lst (cutV (z.cps.toList.map fun c => V.str (S (Kx.escd c))) none (some k))) g3
          refine ⟨p3, _, rfl, rfl, SqL.of (by rw [upd_same, e1]), (by omega), _, rfl, _, _, rfl, rfl, (lens (Nat.le_trans x1 (by decide)) (Nat.le_trans y1 (by decide))), ?_⟩
          refine ⟨rfl, _, rfl, _, rfl, _, rfl, d, _, rfl, SqL.of (T3 _ _ (T6 _ _ hd)), fun p5 g5 => ?_⟩
          have T5 := Same.upd (o := .lst (cutV (z.cps.toList.map fun c => V.str (S (Kx.escd c))) (some k) none)) g5
          refine ⟨p5, _, rfl, rfl, SqL.of (by rw [upd_same, e2]), (by omega), _, _, rfl, rfl, ?_, ?_⟩
          · refine lens ?_ (Nat.le_trans x2 (by decide))
            rw [Str.length_append]
            exact Nat.le_trans (Nat.add_le_add x1 y1) (by decide)
          refine q _ _ (s1.trans (T6.trans (T3.trans T5))) ?_ ?_
          · show readP _ (S (escs (z.cps.toList.take k.toNat)) ++ S o ++ S (escs (z.cps.toList.drop k.toNat))).cps.toList = none
            rw [S_app, S_app, S_list, List.append_assoc]
            refine read_none_w hx ?_
            rw [word_app _ _ tkS, ho3]
            rfl
          · show (S (escs (z.cps.toList.take k.toNat)) ++ S o ++ S (escs (z.cps.toList.drop k.toNat))).length ≤ 200
            rw [Str.length_append, Str.length_append]
            omega
        · refine iteF ?_
          refine ⟨(by show 11 ≤ sizeLine; decide), fun l6 h6 => ?_⟩
          have T6 := Same.upd (o := .lst oddW) h6
          refine ⟨_, rfl, _, _, _, _, rfl, rfl, SqL.of upd_same, ho1, ?_⟩
          refine ⟨rfl, _, rfl, _, rfl, _, rfl, d, _, rfl, SqL.of (T6 _ _ hd), fun p3 g3 => ?_⟩
          have T3 := Same.upd (o := .lst (cutV (z.cps.toList.map fun c => V.str (S (Kx.escd c))) none (some k))) g3
          refine ⟨p3, _, rfl, rfl, SqL.of (by rw [upd_same, e1]), (by omega), _, rfl, _, _, rfl, rfl, (lens (Nat.le_trans x1 (by decide)) (Nat.le_trans y1 (by decide))), ?_⟩
          refine ⟨rfl, _, rfl, _, rfl, _, rfl, d, _, rfl, SqL.of (T3 _ _ (T6 _ _ hd)), fun p5 g5 => ?_⟩
          have T5 := Same.upd (o := .lst (cutV (z.cps.toList.map fun c => V.str (S (Kx.escd c))) (some k) none)) g5
          refine ⟨p5, _, rfl, rfl, SqL.of (by rw [upd_same, e2]), (by omega), _, _, rfl, rfl, ?_, ?_⟩
          · refine lens ?_ (Nat.le_trans x2 (by decide))
            rw [Str.length_append]
            exact Nat.le_trans (Nat.add_le_add x1 y1) (by decide)
          refine q _ _ (s1.trans (T6.trans (T3.trans T5))) ?_ ?_
          · show readP _ (S (escs (z.cps.toList.take k.toNat)) ++ S o ++ S (escs (z.cps.toList.drop k.toNat))).cps.toList = none
            rw [S_app, S_app, S_list, List.append_assoc]
            refine read_none_w hx ?_
            rw [word_app _ _ tkS, ho3]
            rfl
          · show (S (escs (z.cps.toList.take k.toNat)) ++ S o ++ S (escs (z.cps.toList.drop k.toNat))).length ≤ 200
            rw [Str.length_append, Str.length_append]
            omega
end
end My

namespace My
open PySem L2 PyProof.Rows
def cml (ls : List (List Nat)) : List Nat := (ls.map (· ++ [44])).flatten
theorem cml_cons (l : List Nat) (r : List (List Nat)) : cml (l :: r) = l ++ 44 :: cml r := by
  show (l ++ [44]) ++ _ = _
  rw [List.append_assoc]
  rfl
theorem cml_app (a b : List (List Nat)) : cml (a ++ b) = cml a ++ cml b := by
  unfold cml
  rw [List.map_append, List.flatten_append]
theorem cut_cml {q : List Nat} (hq : 44 ∉ q) : ∀ ls : List (List Nat), (∀ l ∈ ls, 44 ∉ l) → Rp.cutAt 44 (cml ls ++ q) = ls ++ [q]
  | [], _ => Rp.cut_free hq
  | l :: r, h => by
    rw [cml_cons, List.append_assoc, List.cons_append, Rp.cut_app _ (h l List.mem_cons_self), cut_cml hq r fun y hy => h y (List.mem_cons_of_mem _ hy)]
    rfl
theorem cut_cml0 (ls : List (List Nat)) (h : ∀ l ∈ ls, 44 ∉ l) : Rp.cutAt 44 (cml ls) = ls ++ [[]] := by
  have := cut_cml (q := []) (fun h => nomatch h) ls h
  rw [List.append_nil] at this
  exact this
theorem cml_len {m : Nat} : ∀ ls : List (List Nat), (∀ l ∈ ls, l.length ≤ m) → (cml ls).length ≤ ls.length * (m + 1)
  | [], _ => Nat.zero_le _
  | l :: r, h => by
    have h1 := h l List.mem_cons_self
    have h2 := cml_len r fun y hy => h y (List.mem_cons_of_mem _ hy)
    rw [cml_cons, List.length_append, List.length_cons, List.length_cons, Nat.add_mul]
    omega
/-- ''.join of texts with commas -/
theorem mt_joinC {X : Cx} : MtR X "str.join" (fun x xs H Q => ∃ (p : Addr) (ls : List (List Nat)), x = .str "" ∧ xs = [.ref p] ∧ SqL X.K H p (ls.map fun l => V.str (S (l ++ [44]))) ∧ ls.length ≤ 20 ∧ (∀ l ∈ ls, l.length ≤ 300) ∧ Q (.str (S (cml ls))) H) := by
  intro pins s σ H x xs v us Q I rx r h
  obtain ⟨p, ls, rfl, rfl, hp, hl, hll, q⟩ := h
  refine mt_joinL pins s σ H _ _ v us Q I rx r ⟨_, p, (ls.map (· ++ [44])).map S, rfl, rfl, ?_, ?_, ?_⟩
  · rw [List.map_map, List.map_map]
    exact hp
  · have e0 : ("" : Str).length = 0 := by decide +kernel
    rw [e0, Nat.mul_zero, Nat.add_zero]
    have hle : ∀ y ∈ (((ls.map (· ++ [44])).map S).map (·.length)), y ≤ 301 := by
      intro y hy
      obtain ⟨z, hz, rfl⟩ := List.mem_map.mp hy
      obtain ⟨t, ht, rfl⟩ := List.mem_map.mp hz
      obtain ⟨l, hl, rfl⟩ := List.mem_map.mp ht
      show (S (l ++ [44])).length ≤ 301
      rw [S_len, List.length_append]
      have := hll l hl
      simp only [List.length_cons, List.length_nil]
      omega
    have := sum_le hle
    rw [List.length_map, List.length_map, List.length_map] at this
    omega
  · rw [glue_all]
    exact q
theorem slice_init (l : List Nat) (c : Nat) : Txt.slice (S (l ++ [c])) none (some (-1)) = S l := by
  have e : Txt.slice (S (l ++ [c])) none (some (-1)) = StrLaws.sliceText (S (l ++ [c])) none (some (-1)) := rfl
  have hl : (S (l ++ [c])).length = l.length + 1 := by rw [S_len]; simp
  rw [e, StrLaws.sliceText_to_neg (by decide) (by rw [hl]; omega), hl, List.drop_zero, S_list]
  have e2 : ((-1 : Int) + ((l.length + 1 : Nat) : Int) - 0).toNat = l.length := by omega
  rw [e2]
  simp [S]
theorem allR_eq {κ : Pk} {ps : List (List Nat)} {xs : List V} (h : allR κ ps = some xs) : xs = ps.map (fun p => (rawP κ p).getD .non) ∧ ∀ p ∈ ps, rawP κ p ≠ none := by
  have hn : ∀ p ∈ ps, rawP κ p ≠ none := fun p hp e => by rw [allR_none hp e] at h; cases h
  rw [allR_some hn] at h
  injection h with h
  exact ⟨h.symm, hn⟩
theorem allR_bad {κ : Pk} {ps : List (List Nat)} {bad : List Nat} {sort : Str} (hb : readP κ bad = none) (hm : bad ∈ ps) {xs : List V} (h : allR κ ps = some xs) : fitT sort κ (.tup xs) = false := by
  obtain ⟨e, hn⟩ := allR_eq h
  cases hr : rawP κ bad with
  | none => exact absurd hr (hn bad hm)
  | some x =>
    have hf : fitP κ x = false := by
      unfold readP at hb
      rw [hr] at hb
      cases hf : fitP κ x with
      | false => rfl
      | true =>
        have : (if fitP κ x = true then some x else none) = none := hb
        rw [hf, if_pos rfl] at this
        cases this
    have hx : x ∈ xs := by
      rw [e]
      exact List.mem_map.mpr ⟨bad, hm, by rw [hr]; rfl⟩
    show (if _ then false else xs.all (fitP κ)) = false
    split
    · rfl
    · cases ha : xs.all (fitP κ) with
      | false => rfl
      | true =>
        have := (List.all_eq_true.mp ha) x hx
        rw [hf] at this
        cases this
theorem raw_valP {K : PySem.W.Frag} {κ : Pk} {l : List Nat} {x : V} (hl : l.length ≤ 900) (h : rawP κ l = some x) (H : Hp) : ValP K H x := by
  unfold rawP at h
  split at h
  · cases hw : Kx.wordOf l with
    | none => rw [hw] at h; cases h
    | some y =>
      rw [hw] at h
      injection h with h
      subst h
      have := wd_len false l y hw
      exact ⟨"str", .str, fun z e => by injection e with e; rw [← e, S_len]; omega⟩
  · cases hw : Kx.wholeOf l with
    | none => rw [hw] at h; cases h
    | some y =>
      rw [hw] at h
      injection h with h
      subst h
      exact ⟨"int", .int, fun z e => nomatch e⟩
theorem allR_val {K : PySem.W.Frag} {κ : Pk} {ps : List (List Nat)} (hl : ∀ p ∈ ps, p.length ≤ 900) (hn : ps.length ≤ 901) : ∀ xs, allR κ ps = some xs → xs.length ≤ 1000 ∧ ∀ x ∈ xs, ∀ H', ValP K H' x := by
  intro xs h
  obtain ⟨e, hne⟩ := allR_eq h
  refine ⟨by rw [e, List.length_map]; omega, fun x hx H' => ?_⟩
  rw [e] at hx
  obtain ⟨p, hp, rfl⟩ := List.mem_map.mp hx
  cases hr : rawP κ p with
  | none => exact absurd hr (hne p hp)
  | some y => exact raw_valP (hl p hp) hr H'
theorem PvOk.len {κ : Pk} {v : V} (h : PvOk κ v) : (tv v).length ≤ 61 := by
  obtain ⟨hf, ⟨hx, i, rfl, hi⟩ | ⟨hx, z, rfl, hz, hl⟩⟩ := h
  · show (Kx.nl i).length ≤ 61
    have := (Nm.figs_len (m := i.natAbs) (k := 60) (by decide)).mpr hi
    unfold Kx.nl
    split
    · rw [List.length_cons]; omega
    · omega
  · show (escs z.cps.toList).length ≤ 61
    have h1 := escs_le z.cps.toList
    have h2 := z_len z
    omega
seal L2.PE L2.PT L2.PW L2.PS L2.PSs L2.PA L2.PI L2.PG L2.PGs L2.OpR L2.UnR L2.CallR L2.IxR L2.SlR L2.MtR L2.PIf L2.PO L2.MtM L2.PC L2.PIp L2.PSet L2.PGet L2.TruR L2.InOp L2.PK
theorem cutF {G : Prop} {T : Hp → Prop} (R : Hp → Prop) (h : (∀ H8, R H8 → T H8) → G) (fin : ∀ H8, R H8 → T H8) : G := h fin
def spTup (K : PySem.W.Frag) : Sp := fun vs H Q _ => ∃ (a l : Addr) (bad : Str) (c : Int) (κ : Pk) (xs : List V), vs = [.ref a, .ref l, .str bad, .int c] ∧ SqT K H a κ.vs ∧ H l = some (.lst ((xs.map tv).map fun t => V.str (S t))) ∧ xs.length ≤ 6 ∧ (∀ x ∈ xs, PvOk κ x) ∧ readP κ bad.cps.toList = none ∧ bad.length ≤ 200 ∧ ∀ H', Same H H' → Q (.bl true) H'
/-- a comprehension over texts: each with a comma -/
theorem refL {K : PySem.W.Frag} {CN : Addr} {p a : Addr} {sort : Str} {κ : Pk} {H : Hp} {z : Str} {ps : List (List Nat)} {q : List Nat} (hp : SqT K H p [.str sort, .ref a]) (ha : SqT K H a κ.vs) (hs : sort = "list" ∨ sort = "some") (hz : z.length ≤ 900) (hc : Rp.cutAt 44 z.cps.toList = ps ++ [q]) (hl : ∀ l ∈ ps, l.length ≤ 900) (hn : ps.length ≤ 901)
    (hbad : q ≠ [] ∨ ∀ xs, allR κ ps = some xs → fitT sort κ (.tup xs) = false) : ∀ (H1 : Hp) (Q' : VK) E', Same H H1 → (∀ H', Same H1 H' → E' (.ref CN) none H') → spVOlg K CN [.ref p, .str z] H1 Q' E' := by
  intro H1 Q' E' s1 hE
  refine ⟨p, a, z, κ, sort, ps, q, rfl, s1.seqT hp, s1.seqT ha, hs, hz, hc, hl, hn, allR_val hl hn, (fun t H' xs _ e1 e2 e3 _ => ?_), fun H' s' _ => hE H' s'⟩
  rcases hbad with h | h
  · exact absurd e1 h
  · rw [h xs e2] at e3
    cases e3
section
variable {P : Program} {w : World} {K : PySem.W.Frag} {mg : Str → Option Value} {base : Heap} {CN : Addr}
theorem ok_tuples {f fR fO : Addr} {fd fdR fdO : FuncData} (F : Fun K "_law_tuples" "_law_tuples" (top 43) f fd) (B : Bl mg) (DR : Df K mg "_law_refused" (top 40) fR fdR) (GR : FnOk P w K mg base CX0 6 fR fdR ["_law_kind", "_law_text_here"] (spRef (spVOlg K CN) CN))
    (DO : Df K mg "value_of" (top 23) fO fdO) (GO : FnOk P w K mg base (CX1 P w) 5 fO fdO ["kind", "text"] (spVOlg K CN)) : FnOk P w K mg base CX0 7 f fd ["_law_kind", "_law_texts", "_law_bad", "_law_number"] (spTup K) := by
  have sc : FnScope ["_law_kind", "_law_texts", "_law_bad", "_law_number", "_law_good", "_law_at", "_law_spoiled"] ["_law_kind", "_law_texts", "_law_bad", "_law_number"] (defScope (top 43)) := ⟨rfl, rfl, rfl, by decide +kernel, rfl, by decide +kernel, by decide +kernel⟩
  have bR := DR.fn.binds (ps := ["_law_kind", "_law_text_here"]) fun _ _ _ _ _ _ us hl => by obtain ⟨v0, v1, rfl⟩ := L2.ln2 hl; rfl
  have bO := DO.fn.binds (ps := ["kind", "text"]) fun _ _ _ _ _ _ us hl => by obtain ⟨v0, v1, rfl⟩ := L2.ln2 hl; rfl
  refine F.ok sc (fun vs H Q E h => ?_) (fun cdv A outer s H vs Q E hr h => ?_)
  · obtain ⟨a, l, bad, c, κ, xs, rfl, _⟩ := h
    rfl
  · obtain ⟨a, l, bad, c, κ, xs, rfl, ha, hl, hl6, hx, hb, hbl, q⟩ := h
    have hr5 : Room 5 _ := hr.mono (by decide)
    have hu : (A.deeper (envOfC "_law_tuples" (defScope (top 43)) s.heap.objs.size f cdv)).units + 1 < cLine := hu_of hr
    have l2 : 2 ≤ sizeLine := by decide
    refine ⟨_, pss_cons (ps_set (i := 4) sc.nd rfl (Or.inl rfl) (pe_bm PySem.F.plainAttrs_str PySem.F.slot_str_join PySem.F.type_str_join mt_joinC pe_str (pa_cons
        (pe_comp (osc := defScope (top 43)) (N0 := ["_law_kind", "_law_texts", "_law_bad", "_law_number", "_law_good", "_law_at", "_law_spoiled"]) (xs := ["_law_text_here"]) (fr := []) ⟨rfl, by decide +kernel, by decide +kernel, by decide +kernel, by decide, by decide +kernel⟩ rfl rfl rfl (pi_list (pv 1))
          (fun s H fp => pg_name (i := 0) (show (["_law_text_here"] : List Str).Nodup by decide +kernel) rfl (Or.inl rfl)) (fun s H fp => pif_nil)
          (fun s H fp => pe_op op_add_str (pv 0) pe_str)) pa_nil)))
      (pss_cons (ps_set (i := 5) sc.nd rfl (Or.inl rfl) (pe_op op_mod (pv 3) (pe_op op_add (pe_callB call_len_seq (by rfl) B.len PySem.boot_len (pa_cons (pv 1) pa_nil)) pe_int)))
      (pss_cons (ps_set (i := 6) sc.nd rfl (Or.inl rfl) (pe_bm PySem.F.plainAttrs_str PySem.F.slot_str_join PySem.F.type_str_join mt_joinC pe_str (pa_cons
        (pe_comp (osc := defScope (top 43)) (N0 := ["_law_kind", "_law_texts", "_law_bad", "_law_number", "_law_good", "_law_at", "_law_spoiled"]) (xs := ["_law_text_here"]) (fr := []) ⟨rfl, by decide +kernel, by decide +kernel, by decide +kernel, by decide, by decide +kernel⟩ rfl rfl rfl (pi_list (pe_op op_cat (pe_op op_cat (pe_slice sl_list (pv 1) po_none (po_some (pv 5))) (pe_lst (pa_cons (pv 2) pa_nil))) (pe_slice sl_list (pv 1) (po_some (pv 5)) po_none)))
          (fun s H fp => pg_name (i := 0) (show (["_law_text_here"] : List Str).Nodup by decide +kernel) rfl (Or.inl rfl)) (fun s H fp => pif_nil)
          (fun s H fp => pe_op op_add_str (pv 0) pe_str)) pa_nil)))
      (pss_cons (ps_if (pt_cmpR op_notIn_str pe_str (pv 2) rfl)
        (pss_one (ps_if (PW.pt (pw_or (pt_not (pt_val (pe_call GR hr (by rfl) DR.mg DR.fn.kp bR .nil pass0 (pa_cons (pe_tup (pa_cons pe_str (pa_cons (pv 0) pa_nil))) (pa_cons (pv 6) pa_nil))))) (pw_or1 (pt_not (pt_val (pe_call GR hr (by rfl) DR.mg DR.fn.kp bR .nil pass0 (pa_cons (pe_tup (pa_cons pe_str (pa_cons (pv 0) pa_nil))) (pa_cons (pv 6) pa_nil)))))))) (pss_one (ps_ret pe_bl)) pss_nil)) pss_nil)
      (pss_cons (ps_if (PW.pt (pw_and (pt_cmpR (op_neLE (Nat.lt_of_succ_lt hu)) (pv 1) (pe_lst pa_nil) (nomark _)) (pw_and1 (pt_cmpR op_ne (pe_ix ix_list (pv 1) (pe_un un_neg pe_int) (fun _ _ => rfl)) pe_str (nomark _)))))
        (pss_one (ps_if (PW.pt (pw_or (pt_not (pt_val (pe_call GR hr (by rfl) DR.mg DR.fn.kp bR .nil pass0 (pa_cons (pe_tup (pa_cons pe_str (pa_cons (pv 0) pa_nil))) (pa_cons (pe_slice sl_str (pv 4) po_none (po_some (pe_un un_neg pe_int))) pa_nil))))) (pw_or1 (pt_not (pt_val (pe_call GR hr (by rfl) DR.mg DR.fn.kp bR .nil pass0 (pa_cons (pe_tup (pa_cons pe_str (pa_cons (pv 0) pa_nil))) (pa_cons (pe_slice sl_str (pv 4) po_none (po_some (pe_un un_neg pe_int))) pa_nil)))))))) (pss_one (ps_ret pe_bl)) pss_nil)) pss_nil)
      (pss_one (ps_ret (pe_and (pe_call GR hr (by rfl) DR.mg DR.fn.kp bR .nil pass0 (pa_cons (pe_tup (pa_cons pe_str (pa_cons (pv 0) pa_nil))) (pa_cons pe_str pa_nil)))
        (pe_one (pe_cmpR op_eq (pe_callB call_len_seq (by rfl) B.len PySem.boot_len (pa_cons (pe_callX GO hr5 (by rfl) DO.mg DO.fn.kp bO .nil lands_no (pa_cons (pe_tup (pa_cons pe_str (pa_cons (pv 0) pa_nil))) (pa_cons (pv 4) pa_nil))) pa_nil)) (pe_callB call_len_seq (by rfl) B.len PySem.boot_len (pa_cons (pv 1) pa_nil)) (nomark _)))))))))), ?_⟩
    have ls6 : (xs.map tv).length ≤ 6 := by rw [List.length_map]; exact hl6
    have lsl : ∀ t ∈ xs.map tv, t.length ≤ 61 ∧ 44 ∉ t := fun t ht => by
      obtain ⟨x, hx', rfl⟩ := List.mem_map.mp ht
      exact ⟨(hx x hx').len, (hx x hx').good.2.2⟩
    have hraw : allR κ (xs.map tv) = some xs := by
      have hn : ∀ p ∈ xs.map tv, rawP κ p ≠ none := fun p hp e => by
        obtain ⟨x, hx', rfl⟩ := List.mem_map.mp hp
        rw [(hx x hx').good.2.1] at e
        cases e
      rw [allR_some hn, List.map_map]
      congr 1
      have : ∀ x ∈ xs, ((fun p => (rawP κ p).getD V.non) ∘ tv) x = x := fun x hx' => by
        show (rawP κ (tv x)).getD V.non = x
        rw [(hx x hx').good.2.1]
        rfl
      rw [List.map_congr_left this, List.map_id']
    have hfit : fitT "list" κ (.tup xs) = true := by
      show (if (decide (("list" : Str) = "some") && decide (xs.length = 0)) = true then false else xs.all (fitP κ)) = true
      rw [show decide (("list" : Str) = "some") = false by decide +kernel, Bool.false_and, if_neg Bool.false_ne_true]
      exact List.all_eq_true.mpr fun x hx' => (hx x hx').1
    have elx : (xs.map tv).length = xs.length := List.length_map ..
    generalize xs.map tv = ls at *
    refine ⟨rfl, _, rfl, l, rfl, ⟨_, SqL.of hl⟩, fun D1 hD1 => ?_⟩
    refine compW_map ls.length (fun i => .str (S (ls.getD i [] ++ [44]))) (fun i σ' Hc => (∃ t, σ' = [t]) ∧ Same H Hc) (by rw [sizeLine_eq]; omega) ⟨⟨none, rfl⟩, Same.upd hD1⟩ upd_same ?_ ?_
    · rintro i σ' Hc hi' ⟨⟨t, rfl⟩, sm⟩ hD'
      refine ⟨⟨_, V.str (S ls[i]), SqL.of (sm _ _ hl), by simp [hi']⟩, ?_⟩
      rintro x H' ⟨rfl, hx'⟩
      have ex := hx' _ (SqL.of (sm _ _ hl))
      have ex2 : x = V.str (S (ls.getD i [])) := by
        rw [List.getElem?_map, List.getElem?_eq_getElem hi'] at ex
        rw [List.getD_eq_getElem?_getD, List.getElem?_eq_getElem hi']
        injection ex with ex
        exact ex.symm
      subst ex2
      have hll : (ls.getD i []).length ≤ 61 := by
        rw [List.getD_eq_getElem?_getD, List.getElem?_eq_getElem hi']
        exact (lsl _ (List.getElem_mem hi')).1
      refine ⟨_, rfl, _, _, rfl, rfl, ?_, ?_⟩
      · refine lens ?_ (by decide)
        rw [S_len]
        omega
      · exact ⟨by rw [s_comma, S_app], hD', ⟨_, rfl⟩, same_updN sm hD1⟩
    · rintro σ' H1 ⟨_, s1⟩ hDn
      have hl1 := s1 _ _ hl
      refine ⟨⟨_, SqL.of hl1, by rw [List.length_map]; exact Nat.le_refl _⟩, ?_⟩
      refine ⟨D1, ls, rfl, rfl, SqL.of ?_, (by omega), (fun t ht => Nat.le_trans (lsl t ht).1 (by decide)), ?_⟩
      · rw [hDn, range_map_getD ls [] (fun x => V.str (S (x ++ [44])))]
      have glen : (S (cml ls)).length ≤ 372 := by
        rw [S_len]
        have := cml_len ls fun t ht => (lsl t ht).1
        have h2 : ls.length * (61 + 1) ≤ 6 * 62 := Nat.mul_le_mul_right _ ls6
        omega
      have eln : ((ls.map fun t => V.str (S t)).length) = ls.length := List.length_map ..
      refine ⟨_, rfl, _, rfl, l, _, rfl, .inl (SqL.of hl1), _, _, rfl, rfl, _, _, rfl, rfl, (by omega), ?_⟩
      have m0 : 0 ≤ c % (((ls.map fun t => V.str (S t)).length : Int) + 1) := Int.emod_nonneg _ (by omega)
      have m1 : c % (((ls.map fun t => V.str (S t)).length : Int) + 1) < ((ls.map fun t => V.str (S t)).length : Int) + 1 := Int.emod_lt_of_pos _ (by omega)
      show tSeq _ _ _ [some (.ref a), some (.ref l), some (.str bad), some (.int c), some (.str (S (cml ls))), some (.int (c % (((ls.map fun t => V.str (S t)).length : Int) + 1))), none] H1
      generalize c % (((ls.map fun t => V.str (S t)).length : Int) + 1) = k at m0 m1 ⊢
      refine ⟨rfl, _, rfl, _, rfl, _, rfl, l, _, rfl, SqL.of hl1, fun p2 e2 => ?_⟩
      rw [cut_to m0 (by omega), ← List.map_take]
      have T2 := Same.upd (o := .lst ((ls.take k.toNat).map fun t => V.str (S t))) e2
      refine ⟨_, rfl, (by show 1 ≤ sizeLine; decide), fun p3 e3 => ?_⟩
      have T3 := Same.upd (o := .lst [.str bad]) e3
      refine ⟨p2, p3, _, _, rfl, rfl, T3 _ _ upd_same, upd_same, ?_, fun p4 e4 => ?_⟩
      · rw [List.length_map, List.length_take, sizeLine_eq]
        simp only [List.length_cons, List.length_nil]
        omega
      have T4 := Same.upd (o := .lst (((ls.take k.toNat).map fun t => V.str (S t)) ++ [.str bad])) e4
      refine ⟨_, rfl, _, rfl, _, rfl, l, _, rfl, SqL.of (T4 _ _ (T3 _ _ (T2 _ _ hl1))), fun p5 e5 => ?_⟩
      rw [cut_from m0 (by omega), ← List.map_drop]
      have T5 := Same.upd (o := .lst ((ls.drop k.toNat).map fun t => V.str (S t))) e5
      refine ⟨p4, p5, _, _, rfl, rfl, T5 _ _ upd_same, upd_same, ?_, fun p6 e6 => ?_⟩
      · rw [List.length_append, List.length_map, List.length_map, List.length_take, List.length_drop, sizeLine_eq]
        simp only [List.length_cons, List.length_nil]
        omega
      have em : (((ls.take k.toNat).map fun t => V.str (S t)) ++ [.str bad]) ++ ((ls.drop k.toNat).map fun t => V.str (S t)) = (ls.take k.toNat ++ [bad.cps.toList] ++ ls.drop k.toNat).map fun t => V.str (S t) := by
        rw [List.map_append, List.map_append]
        rfl
      rw [em]
      have mlen : (ls.take k.toNat ++ [bad.cps.toList] ++ ls.drop k.toNat).length ≤ 7 := by
        rw [List.length_append, List.length_append, List.length_take, List.length_drop]
        simp only [List.length_cons, List.length_nil]
        omega
      have zb := z_len bad
      have mll : ∀ t ∈ ls.take k.toNat ++ [bad.cps.toList] ++ ls.drop k.toNat, t ∈ ls ∨ t = bad.cps.toList := fun t ht => by
        rcases List.mem_append.mp ht with h | h
        · rcases List.mem_append.mp h with h | h
          · exact .inl (List.mem_of_mem_take h)
          · exact .inr (by simpa using h)
        · exact .inl (List.mem_of_mem_drop h)
      have hmb : bad.cps.toList ∈ ls.take k.toNat ++ [bad.cps.toList] ++ ls.drop k.toNat := by simp
      have slen : (S (cml (ls.take k.toNat ++ [bad.cps.toList] ++ ls.drop k.toNat))).length ≤ 900 := by
        rw [S_len, cml_app, cml_app, List.length_append, List.length_append]
        have h1 := cml_len (ls.take k.toNat) fun t ht => (lsl t (List.mem_of_mem_take ht)).1
        have h2 := cml_len (ls.drop k.toNat) fun t ht => (lsl t (List.mem_of_mem_drop ht)).1
        have h3 : (ls.take k.toNat).length * (61 + 1) ≤ 6 * 62 := Nat.mul_le_mul_right _ (by rw [List.length_take]; omega)
        have h4 : (ls.drop k.toNat).length * (61 + 1) ≤ 6 * 62 := Nat.mul_le_mul_right _ (by rw [List.length_drop]; omega)
        have h5 : (ls.take k.toNat).length + (ls.drop k.toNat).length ≤ 6 := by rw [List.length_take, List.length_drop]; omega
        have h6 : (cml [bad.cps.toList]).length ≤ 1 * (200 + 1) := cml_len _ fun t ht => by
          have : t = bad.cps.toList := by simpa using ht
          rw [this]
          omega
        have h7 : (ls.take k.toNat).length * (61 + 1) + (ls.drop k.toNat).length * (61 + 1) ≤ 6 * 62 := by
          rw [← Nat.add_mul]
          exact Nat.mul_le_mul_right _ h5
        omega
      generalize hms : ls.take k.toNat ++ [bad.cps.toList] ++ ls.drop k.toNat = ms at *
      have T6 := Same.upd (o := .lst (ms.map fun t => V.str (S t))) e6
      refine ⟨p6, rfl, ⟨_, SqL.of upd_same⟩, fun D7 hD7 => ?_⟩
      have s6 := s1.trans ((T2.trans T3).trans ((T4.trans T5).trans T6))
      have mle : ∀ t ∈ ms, t.length ≤ 200 := fun t ht => by
        rcases mll t ht with h | h
        · have := (lsl t h).1; omega
        · rw [h]; omega
      have hp6 : (upd (upd _ p6 (.lst (ms.map fun t => V.str (S t)))) D7 (.lst [])) p6 = some (.lst (ms.map fun t => V.str (S t))) := (Same.upd hD7) _ _ upd_same
      refine compW_map ms.length (fun i => .str (S (ms.getD i [] ++ [44]))) (fun i σ' Hc => (∃ t, σ' = [t]) ∧ Same H Hc ∧ Hc p6 = some (.lst (ms.map fun t => V.str (S t)))) (by rw [sizeLine_eq]; omega) ⟨⟨none, rfl⟩, s6.trans (Same.upd hD7), (Same.upd hD7) _ _ upd_same⟩ upd_same ?_ ?_
      · rintro i σ' Hc hi' ⟨⟨t, rfl⟩, sm, hp6'⟩ hD'
        refine ⟨⟨_, V.str (S ms[i]), SqL.of hp6', by simp [hi']⟩, ?_⟩
        rintro x H' ⟨rfl, hx'⟩
        have ex := hx' _ (SqL.of hp6')
        have ex2 : x = V.str (S (ms.getD i [])) := by
          rw [List.getElem?_map, List.getElem?_eq_getElem hi'] at ex
          rw [List.getD_eq_getElem?_getD, List.getElem?_eq_getElem hi']
          injection ex with ex
          exact ex.symm
        subst ex2
        have hll : (ms.getD i []).length ≤ 200 := by
          rw [List.getD_eq_getElem?_getD, List.getElem?_eq_getElem hi']
          exact mle _ (List.getElem_mem hi')
        have hD0 : H D7 = none := by
          cases e : H D7 with
          | none => rfl
          | some o => rw [s6 _ _ e] at hD7; cases hD7
        have np : p6 ≠ D7 := fun e => by rw [← e, upd_same] at hD7; cases hD7
        refine ⟨_, rfl, _, _, rfl, rfl, ?_, ?_⟩
        · refine lens ?_ (by decide)
          rw [S_len]
          omega
        · exact ⟨by rw [s_comma, S_app], hD', ⟨_, rfl⟩, same_updN sm hD0, by rw [upd_ne np]; exact hp6'⟩
      · rintro σ' H7 ⟨_, s7, hp67⟩ hDn7
        refine ⟨⟨_, SqL.of hp67, by rw [List.length_map]; exact Nat.le_refl _⟩, ?_⟩
        refine ⟨D7, ms, rfl, rfl, SqL.of ?_, (by omega), (fun t ht => Nat.le_trans (mle t ht) (by decide)), ?_⟩
        · rw [hDn7, range_map_getD ms [] (fun x => V.str (S (x ++ [44])))]
        have ha7 := s7.seqT ha
        have hl7 := s7 _ _ hl
        have ml900 : ∀ t ∈ ms, t.length ≤ 900 := fun t ht => Nat.le_trans (mle t ht) (by decide)
        have ll900 : ∀ t ∈ ls, t.length ≤ 900 := fun t ht => Nat.le_trans (lsl t ht).1 (by decide)
        have l44 : ∀ t ∈ ls, 44 ∉ t := fun t ht => (lsl t ht).2
        apply cutF (Same H)
        · intro fin
          apply cutF (Same H)
          · intro mid
            refine ⟨_, rfl, _, _, rfl, rfl, _, rfl, ?_⟩
            rw [e44, StrLaws.found_one]
            refine ite2 (fun h => ?_) (fun _ => mid H7 s7)
            have n44 : 44 ∉ bad.cps.toList := by simpa using h
            have m44 : ∀ t ∈ ms, 44 ∉ t := fun t ht => by
              rcases mll t ht with h | h
              · exact l44 t h
              · rw [h]; exact n44
            have hcut : Rp.cutAt 44 (S (cml ms)).cps.toList = ms ++ [[]] := cut_cml0 ms m44
            refine ⟨_, rfl, l2, fun p8 e8 => ?_⟩
            have T8 := Same.upd (o := .tup [.str "list", .ref a]) e8
            refine ⟨_, rfl, p8, _, rfl, refL (SqT.of upd_same) (T8.seqT ha7) (.inl rfl) slen hcut ml900 (by omega) (.inr fun ys hys => allR_bad hb hmb hys), fun H9 s9 => ⟨_, rfl, ?_⟩⟩
            refine iteF ?_
            have S9 := s7.trans (T8.trans s9)
            refine ⟨_, rfl, l2, fun p10 e10 => ?_⟩
            have T10 := Same.upd (o := .tup [.str "some", .ref a]) e10
            refine ⟨_, rfl, p10, _, rfl, refL (SqT.of upd_same) (T10.seqT (S9.seqT ha)) (.inr rfl) slen hcut ml900 (by omega) (.inr fun ys hys => allR_bad hb hmb hys), fun H11 s11 => ⟨_, rfl, ?_⟩⟩
            refine iteF ?_
            exact mid H11 (S9.trans (T10.trans s11))
          · intro H8 s8
            have ha8 := s8.seqT ha
            have hl8 := s8 _ _ hl
            refine ⟨_, rfl, Nat.zero_le _, fun p9 e9 => ?_⟩
            have T9 := Same.upd (o := .lst []) e9
            refine ⟨l, p9, _, rfl, rfl, SqL.of (T9 _ _ hl8), SqL.of upd_same, _, rfl, ?_⟩
            have S9 := s8.trans T9
            rcases List.eq_nil_or_concat ls with hls | ⟨l0, la, hls⟩
            · rw [hls]
              refine iteC rfl ?_
              refine iteF ?_
              rw [← hls]
              exact fin _ S9
            · rw [List.concat_eq_append] at hls
              have ene : (!(ls.map fun t => V.str (S t)).isEmpty) = true := by
                rw [hls, List.map_append]
                simp
              refine iteB ene ?_
              have eat : atI (ls.map fun t => V.str (S t)) (-1) = some (.str (S la)) := by
                rw [hls, List.map_append]
                exact atI_last _ _
              refine ⟨_, rfl, _, rfl, _, _, _, _, rfl, rfl, SqL.of (S9 _ _ hl), eat, rfl, _, rfl, ?_⟩
              refine ite2 (fun h => ?_) (fun _ => fin _ S9)
              have hla : la ≠ [] := fun e => by
                rw [e] at h
                revert h
                decide +kernel
              have esl : Txt.slice (S (cml ls)) none (some (-1)) = S (cml l0 ++ la) := by
                have : cml ls = (cml l0 ++ la) ++ [44] := by
                  rw [hls, cml_app, cml_cons]
                  show cml l0 ++ (la ++ [44]) = _
                  rw [List.append_assoc]
                rw [this]
                exact slice_init _ _
              have h0 : ∀ t ∈ l0, t ∈ ls := fun t ht => by rw [hls]; exact List.mem_append_left _ ht
              have h1 : la ∈ ls := by rw [hls]; exact List.mem_append_right _ List.mem_cons_self
              have hcut : Rp.cutAt 44 (S (cml l0 ++ la)).cps.toList = l0 ++ [la] := cut_cml (l44 la h1) l0 fun t ht => l44 t (h0 t ht)
              have hgl : (S (cml l0 ++ la)).length ≤ 900 := by
                have e : cml ls = (cml l0 ++ la) ++ [44] := by
                  rw [hls, cml_app, cml_cons]
                  show cml l0 ++ (la ++ [44]) = _
                  rw [List.append_assoc]
                have := glen
                rw [S_len, e, List.length_append] at this
                rw [S_len]
                omega
              have h0n : l0.length ≤ 901 := by
                have := congrArg List.length hls
                rw [List.length_append] at this
                omega
              have gsz : (S (cml ls)).length ≤ sizeLine := by rw [sizeLine_eq]; omega
              refine ⟨_, rfl, l2, fun p10 e10 => ?_⟩
              have T10 := Same.upd (o := .tup [.str "list", .ref a]) e10
              refine ⟨_, rfl, _, rfl, _, rfl, _, rfl, gsz, ?_⟩
              rw [esl]
              refine ⟨p10, _, rfl, refL (SqT.of upd_same) (T10.seqT (S9.seqT ha)) (.inl rfl) hgl hcut (fun t ht => ll900 t (h0 t ht)) h0n (.inl hla), fun H11 s11 => ⟨_, rfl, ?_⟩⟩
              refine iteF ?_
              have S11 := S9.trans (T10.trans s11)
              refine ⟨_, rfl, l2, fun p12 e12 => ?_⟩
              have T12 := Same.upd (o := .tup [.str "some", .ref a]) e12
              refine ⟨_, rfl, _, rfl, _, rfl, _, rfl, gsz, ?_⟩
              rw [esl]
              refine ⟨p12, _, rfl, refL (SqT.of upd_same) (T12.seqT (S11.seqT ha)) (.inr rfl) hgl hcut (fun t ht => ll900 t (h0 t ht)) h0n (.inl hla), fun H13 s13 => ⟨_, rfl, ?_⟩⟩
              refine iteF ?_
              exact fin H13 (S11.trans (T12.trans s13))
        · intro H8 s8
          refine ⟨_, rfl, l2, fun p9 e9 => ?_⟩
          have T9 := Same.upd (o := .tup [.str "some", .ref a]) e9
          refine ⟨p9, _, rfl, refL (ps := []) (q := []) (SqT.of upd_same) (T9.seqT (s8.seqT ha)) (.inr rfl) (by decide) (by decide +kernel) (fun t ht => nomatch ht) (by decide) (.inr fun ys hys => by cases hys; rfl), fun H10 s10 => ⟨_, rfl, ?_⟩⟩
          refine iteT ?_
          have S10 := s8.trans (T9.trans s10)
          refine ⟨_, rfl, l2, fun p11 e11 => ?_⟩
          have T11 := Same.upd (o := .tup [.str "list", .ref a]) e11
          refine ⟨_, rfl, p11, a, _, κ, "list", ls, [], rfl, SqT.of upd_same, T11.seqT (S10.seqT ha), .inl rfl, Nat.le_trans glen (by decide), cut_cml0 ls l44, ll900, (by omega), allR_val ll900 (by omega), (fun t H12 ys s12 _ e2 _ ht => ?_), (fun H12 s12 e => ?_)⟩
          · rw [hraw] at e2
            cases e2
            have S12 := S10.trans (T11.trans s12)
            refine ⟨t, _, rfl, .inr (SqT.of ht), _, rfl, l, _, rfl, .inl (SqL.of (S12 _ _ hl)), rfl, ?_⟩
            rw [lenEq, eln, elx, decide_eq_true rfl]
            exact q H12 S12
          · rcases e with e | e | ⟨ys, e1, e2⟩
            · exact absurd rfl e
            · rw [hraw] at e
              cases e
            · rw [hraw] at e1
              cases e1
              rw [hfit] at e2
              cases e2
end
end My

namespace My
open PySem L2 PyProof.Rows
theorem cutF3 {G : Prop} {T : Str → Addr → Hp → Prop} (R : Str → Addr → Hp → Prop) (h : (∀ z t H8, R z t H8 → T z t H8) → G) (fin : ∀ z t H8, R z t H8 → T z t H8) : G := h fin
theorem cutP {G T : Prop} (h : T → G) (t : T) : G := h t
seal L2.PE L2.PT L2.PW L2.PS L2.PSs L2.PA L2.PI L2.PG L2.PGs L2.OpR L2.UnR L2.CallR L2.IxR L2.SlR L2.MtR L2.PIf L2.PO L2.MtM L2.PC L2.PIp L2.PSet L2.PGet L2.TruR L2.InOp L2.PK
def spKL (K : PySem.W.Frag) (n : Nat) : SpK := fun vs H Q => ∃ (a : Addr) (c m : Int) (κ : Pk), vs = [.ref a, .int c, .int m] ∧ SqT K H a κ.vs ∧ KTok n H a κ ∧ PkB κ ∧ 0 ≤ m ∧ m ≤ 6 ∧ ∀ H', Same H H' → Q (.bl true) H'
def kN : List Str := ["_law_kind", "_law_cell_here", "_law_many", "_law_xs", "_law_row", "_law_value", "_law_bad", "_law_texts", "_law_good"]
theorem kname_w : ∀ κ : Pk, (decide (V.str κ.name = V.str "word") || decide (V.str κ.name = V.str "without")) = κ.txt
  | .whole => by decide +kernel
  | .below _ => by show (decide (V.str "below" = V.str "word") || decide (V.str "below" = V.str "without")) = false; decide +kernel
  | .upto _ => by show (decide (V.str "upto" = V.str "word") || decide (V.str "upto" = V.str "without")) = false; decide +kernel
  | .word => by decide +kernel
  | .without _ => by show (decide (V.str "without" = V.str "word") || decide (V.str "without" = V.str "without")) = true; decide +kernel
theorem scal_ok {κ : Pk} {v : V} (h : PvOk κ v) : scal v v = true := by
  obtain ⟨_, ⟨_, i, rfl, _⟩ | ⟨_, z, rfl, _, _⟩⟩ := h
  · rfl
  · rfl
section
variable {P : Program} {w : World} {K : PySem.W.Frag} {mg : Str → Option Value} {base : Heap} {CN : Addr}
theorem ok_kindLaw {n : Nat} {f fM fV fU fR fW fN fF fT fO : Addr} {fd fdM fdV fdU fdR fdW fdN fdF fdT fdO : FuncData} (F : Fun K "_law_kind_law" "_law_kind_law" (top 44) f fd) (B : Bl mg) (DM : Df K mg "_law_stream" (top 32) fM fdM)
    (DV : Df K mg "_law_plain_value" (top 38) fV fdV) (GV : FnOkW n P w K mg base 3 fV fdV ["_law_kind", "_law_number"] (toW (spPVk K n))) (DU : Df K mg "_law_units" (top 34) fU fdU) (DR : Df K mg "_law_written" (top 35) fR fdR)
    (DW : Df K mg "_law_no_word" (top 42) fW fdW) (DN : Df K mg "_law_no_number" (top 41) fN fdN) (DF : Df K mg "_law_refused" (top 40) fF fdF) (GF : FnOk P w K mg base CX0 6 fF fdF ["_law_kind", "_law_text_here"] (spRef (spVO K CN) CN))
    (DT : Df K mg "_law_tuples" (top 43) fT fdT) (GT : FnOk P w K mg base CX0 7 fT fdT ["_law_kind", "_law_texts", "_law_bad", "_law_number"] (spTup K)) (DO : Df K mg "value_of" (top 23) fO fdO) (GO : FnOk P w K mg base (CX1 P w) 5 fO fdO ["kind", "text"] (spVO K CN)) :
    FnOkW n P w K mg base 8 f fd ["_law_kind", "_law_cell_here", "_law_many"] (toW (spKL K n)) := by
  have sc : FnScope kN ["_law_kind", "_law_cell_here", "_law_many"] (defScope (top 44)) := ⟨rfl, rfl, rfl, by decide +kernel, rfl, by decide +kernel, by decide +kernel⟩
  have GM : FnOk P w K mg base CX0 1 fM fdM ["_law_cell_here", "_law_many"] spStream := ok_stream DM.fn B
  have GR : FnOk P w K mg base CX0 2 fR fdR ["_law_text_here"] spWritten := ok_written DR.fn DU
  have GW : FnOk P w K mg base CX0 3 fW fdW ["_law_kind", "_law_value", "_law_number"] (spNW K) := ok_noWord DW.fn B DU DR
  have GN : FnOk P w K mg base CX0 1 fN fdN ["_law_kind", "_law_value", "_law_number"] (spNN K) := ok_noNumber DN.fn B
  have bM := DM.fn.binds (ps := ["_law_cell_here", "_law_many"]) fun _ _ _ _ _ _ us hl => by obtain ⟨v0, v1, rfl⟩ := L2.ln2 hl; rfl
  have bV := DV.fn.binds (ps := ["_law_kind", "_law_number"]) fun _ _ _ _ _ _ us hl => by obtain ⟨v0, v1, rfl⟩ := L2.ln2 hl; rfl
  have bR := DR.fn.binds (ps := ["_law_text_here"]) fun _ _ _ _ _ _ us hl => by obtain ⟨v0, rfl⟩ := L2.ln1 hl; rfl
  have bW := DW.fn.binds (ps := ["_law_kind", "_law_value", "_law_number"]) fun _ _ _ _ _ _ us hl => by obtain ⟨v0, v1, v2, rfl⟩ := L2.ln3 hl; rfl
  have bN := DN.fn.binds (ps := ["_law_kind", "_law_value", "_law_number"]) fun _ _ _ _ _ _ us hl => by obtain ⟨v0, v1, v2, rfl⟩ := L2.ln3 hl; rfl
  have bF := DF.fn.binds (ps := ["_law_kind", "_law_text_here"]) fun _ _ _ _ _ _ us hl => by obtain ⟨v0, v1, rfl⟩ := L2.ln2 hl; rfl
  have bT := DT.fn.binds (ps := ["_law_kind", "_law_texts", "_law_bad", "_law_number"]) fun _ _ _ _ _ _ us hl => by obtain ⟨v0, v1, v2, v3, rfl⟩ := L2.ln4 hl; rfl
  have bO := DO.fn.binds (ps := ["kind", "text"]) fun _ _ _ _ _ _ us hl => by obtain ⟨v0, v1, rfl⟩ := L2.ln2 hl; rfl
  refine F.okK sc (fun vs H Q h => ?_) (fun cdv A outer s H vs Q hr h => ?_)
  · obtain ⟨a, c, m, κ, rfl, _⟩ := h
    rfl
  · obtain ⟨a, c, m, κ, rfl, ha, htok, hb, m0, m6, q⟩ := h
    have hr1 : Room 1 _ := hr.mono (by decide)
    have hr2 : Room 2 _ := hr.mono (by decide)
    have hr3 : Room 3 _ := hr.mono (by decide)
    have hr5 : Room 5 _ := hr.mono (by decide)
    have hr6 : Room 6 _ := hr.mono (by decide)
    have l2 : 2 ≤ sizeLine := by decide
    refine ⟨_, pssk_cons (PS.k (ps_set (i := 3) sc.nd rfl (Or.inl rfl) (pe_call GM hr1 (by rfl) DM.mg DM.fn.kp bM .nil pass0 (pa_cons (pv 1) (pa_cons pe_int pa_nil)))))
      (pssk_cons (psk_comp (i := 4) (osc := defScope (top 44)) (N0 := kN) (xs := ["_law_one"]) (fr := [0]) (te := tCallW (toW (spPVk K n)) (tCons (tVar 1) (tCons (tVar 0) tNil))) ⟨rfl, by decide +kernel, by decide +kernel, by decide +kernel, (fun j hj => by
              have e : j = 0 := by simpa using hj
              subst e
              exact ⟨_, rfl, by decide +kernel⟩), by decide +kernel⟩ rfl rfl rfl (pi_list (pe_slice sl_list (pv 3) po_none (po_some (pv 2))))
            (fun s H fp => pg_name (i := 0) (show (["_law_one", "_law_kind"] : List Str).Nodup by decide +kernel) rfl (Or.inl rfl)) (fun s H fp => pif_nil)
            (fun s H fp => pek_callW GV hr3 (by rfl) DV.mg DV.fn.kp bV (pa_cons (pv 1) (pa_cons (pv 0) pa_nil))) sc.nd rfl (Or.inl rfl))
      (pssk_cons (psk_set (i := 5) sc.nd rfl (Or.inl rfl) (pek_callW GV hr3 (by rfl) DV.mg DV.fn.kp bV (pa_cons (pv 0) (pa_cons (pe_ix ix_list (pv 3) pe_int (fun _ _ => rfl)) pa_nil))))
      (PSs.k (pss_cons (ps_if (PW.pt (pw_or (pt_cmpR op_eq (pe_ix ix_tup (pv 0) pe_int (fun _ _ => rfl)) pe_str (nomark _)) (pw_or1 (pt_cmpR op_eq (pe_ix ix_tup (pv 0) pe_int (fun _ _ => rfl)) pe_str (nomark _)))))
          (pss_cons (ps_set (i := 6) sc.nd rfl (Or.inl rfl) (pe_call GW hr3 (by rfl) DW.mg DW.fn.kp bW .nil pass0 (pa_cons (pv 0) (pa_cons (pv 5) (pa_cons (pe_ix ix_list (pv 3) pe_int (fun _ _ => rfl)) pa_nil)))))
          (pss_cons (ps_comp (i := 7) (osc := defScope (top 44)) (N0 := kN) (xs := ["_law_one"]) (fr := []) ⟨rfl, by decide +kernel, by decide +kernel, by decide +kernel, by decide, by decide +kernel⟩ rfl rfl rfl (pi_list (pv 4))
              (fun s H fp => pg_name (i := 0) (show (["_law_one"] : List Str).Nodup by decide +kernel) rfl (Or.inl rfl)) (fun s H fp => pif_nil)
              (fun s H fp => pe_call GR hr2 (by rfl) DR.mg DR.fn.kp bR .nil pass0 (pa_cons (pv 0) pa_nil)) sc.nd rfl (Or.inl rfl))
          (pss_one (ps_set (i := 8) sc.nd rfl (Or.inl rfl) (pe_call GR hr2 (by rfl) DR.mg DR.fn.kp bR .nil pass0 (pa_cons (pv 5) pa_nil))))))
          (pss_cons (ps_set (i := 6) sc.nd rfl (Or.inl rfl) (pe_call GN hr1 (by rfl) DN.mg DN.fn.kp bN .nil pass0 (pa_cons (pv 0) (pa_cons (pv 5) (pa_cons (pe_ix ix_list (pv 3) pe_int (fun _ _ => rfl)) pa_nil)))))
          (pss_cons (ps_comp (i := 7) (osc := defScope (top 44)) (N0 := kN) (xs := ["_law_one"]) (fr := []) ⟨rfl, by decide +kernel, by decide +kernel, by decide +kernel, by decide, by decide +kernel⟩ rfl rfl rfl (pi_list (pv 4))
              (fun s H fp => pg_name (i := 0) (show (["_law_one"] : List Str).Nodup by decide +kernel) rfl (Or.inl rfl)) (fun s H fp => pif_nil)
              (fun s H fp => pe_callTy call_str_int (by rfl) B.str boot_str (pa_cons (pv 0) pa_nil)) sc.nd rfl (Or.inl rfl))
          (pss_one (ps_set (i := 8) sc.nd rfl (Or.inl rfl) (pe_callTy call_str_int (by rfl) B.str boot_str (pa_cons (pv 5) pa_nil)))))))
        (pss_cons (ps_if (PW.pt (pw_or (pt_cmpR op_ne (pe_callX GO hr5 (by rfl) DO.mg DO.fn.kp bO .nil lands_no (pa_cons (pv 0) (pa_cons (pv 8) pa_nil))) (pv 5) (nomark _)) (pw_or (pt_not (pt_val (pe_call GF hr6 (by rfl) DF.mg DF.fn.kp bF .nil pass0 (pa_cons (pv 0) (pa_cons (pv 6) pa_nil))))) (pw_or1 (pt_not (pt_val (pe_call GF hr6 (by rfl) DF.mg DF.fn.kp bF .nil pass0 (pa_cons (pe_tup (pa_cons pe_str (pa_cons (pv 0) pa_nil))) (pa_cons (pv 6) pa_nil))))))))) (pss_one (ps_ret pe_bl)) pss_nil)
        (pss_cons (ps_if (pt_not (pt_val (pe_call GT hr (by rfl) DT.mg DT.fn.kp bT .nil pass0 (pa_cons (pv 0) (pa_cons (pv 7) (pa_cons (pv 6) (pa_cons (pe_ix ix_list (pv 3) pe_int (fun _ _ => rfl)) pa_nil))))))) (pss_one (ps_ret pe_bl)) pss_nil)
        (pss_one (ps_ret (pe_cmpR op_eq (pe_callX GO hr5 (by rfl) DO.mg DO.fn.kp bO .nil lands_no (pa_cons (pv 0) (pa_cons (pv 8) pa_nil))) (pv 5) (nomark _)))))))))), ?_⟩
    refine ⟨_, rfl, c, 12, rfl, (by decide), (by decide), fun x H1 l s1 hx hl12 hl => ?_⟩
    have hl12' : l.length = 12 := by omega
    have eln : (l.map V.int).length = 12 := by rw [List.length_map]; exact hl12'
    refine ⟨_, rfl, _, rfl, _, rfl, x, _, rfl, SqL.of hx, fun p2 e2 => ?_⟩
    rw [cut_to m0 (by rw [eln]; omega), ← List.map_take]
    have tkl : (l.take m.toNat).length = m.toNat := by rw [List.length_take, hl12']; omega
    have T2 := Same.upd (o := .lst ((l.take m.toNat).map V.int)) e2
    refine ⟨p2, rfl, ⟨_, SqL.of upd_same⟩, fun D3 hD3 => ?_⟩
    have s2 := s1.trans T2
    have hD0 : H D3 = none := by
      cases e : H D3 with
      | none => rfl
      | some o => rw [s2 _ _ e] at hD3; cases hD3
    have hDx : x ≠ D3 := fun e => by
      have := T2 _ _ hx
      rw [e, hD3] at this
      cases this
    have np : p2 ≠ D3 := fun e => by rw [← e, upd_same] at hD3; cases hD3
    refine compW_any (l.take m.toNat).length (fun i σ' Hc => (∃ t, σ' = [t, some (.ref a)]) ∧ Same H Hc ∧ Hc p2 = some (.lst ((l.take m.toNat).map V.int)) ∧ Hc x = some (.lst (l.map V.int))) (fun v => PvOk κ v) (by rw [sizeLine_eq]; omega) ⟨⟨none, rfl⟩, s2.trans (Same.upd hD3), (Same.upd hD3) _ _ upd_same, (Same.upd hD3) _ _ (T2 _ _ hx)⟩ upd_same ?_ ?_
    · rintro j σ' Hc ys hj ⟨⟨t, rfl⟩, sm, hp2, hxc⟩ hL'
      refine ⟨⟨_, V.int ((l.take m.toNat)[j]), SqL.of hp2, by rw [List.getElem?_map, List.getElem?_eq_getElem hj]; rfl⟩, ?_⟩
      rintro y H' ⟨rfl, hx'⟩
      have ex := hx' _ (SqL.of hp2)
      obtain ⟨e, he, rfl⟩ : ∃ e : Int, e ∈ l.take m.toNat ∧ V.int e = y := List.mem_map.mp (List.mem_of_getElem? ex)
      obtain ⟨c0, c1⟩ := hl e (List.mem_of_mem_take he)
      refine ⟨_, rfl, _, rfl, a, e, κ, rfl, sm.seqT ha, htok.same sm, hb, c0, c1, fun v H4 s4 hv u tk => ⟨hv, s4 _ _ hL', fun zs => ⟨⟨_, rfl⟩, same_updN (sm.trans s4) hD0, ?_, ?_⟩⟩⟩
      · rw [upd_ne np]; exact s4 _ _ hp2
      · rw [upd_ne hDx]; exact s4 _ _ hxc
    · rintro σ' H3 ys ⟨_, s3, hp3, hx3⟩ hL3 hly hpy
      refine ⟨⟨_, SqL.of hp3, by rw [List.length_map]; exact Nat.le_refl _⟩, ?_⟩
      have at8 : ∀ j : Nat, j < 12 → ∃ e : Int, atI (l.map V.int) (j : Int) = some (.int e) ∧ 0 ≤ e ∧ e < 2147483647 := fun j hj => by
        have hj' : j < l.length := by omega
        refine ⟨l[j], atI_nat (by rw [List.getElem?_map, List.getElem?_eq_getElem hj']; rfl), hl _ (List.getElem_mem hj')⟩
      obtain ⟨x8, a8, x80, x81⟩ := at8 8 (by decide)
      obtain ⟨x9, a9, x90, x91⟩ := at8 9 (by decide)
      obtain ⟨x10, a10, _, _⟩ := at8 10 (by decide)
      refine ⟨_, rfl, _, rfl, _, _, 8, _, rfl, rfl, SqL.of hx3, a8, a, x8, κ, rfl, s3.seqT ha, htok.same s3, hb, x80, x81, fun v H4 s4 hv u tk => ?_⟩
      have S4 := s3.trans s4
      have hL4 := s4 _ _ hL3
      have hx4 := s4 _ _ hx3
      have ha4 := S4.seqT ha
      have ly6 : ys.length ≤ 6 := by omega
      have hgl : (S (tv v)).length ≤ 900 := by rw [S_len]; have := hv.len; omega
      apply cutF3 (fun z t H8 => Same H4 H8 ∧ readP κ z.cps.toList = none ∧ z.length ≤ 200 ∧ H8 t = some (.lst ((ys.map tv).map fun t => V.str (S t))))
      · intro fin
        refine ⟨_, rfl, _, _, 0, _, rfl, rfl, ha4, at0 κ, rfl, _, rfl, ?_⟩
        cases hk : κ.txt with
        | true =>
          obtain ⟨z0, ev, hz0, hz0l⟩ : ∃ z0 : Str, v = .str z0 ∧ AllS z0 ∧ z0.length ≤ 10 := by
            obtain ⟨_, ⟨h0, _⟩ | ⟨_, zx, e, h1, h2⟩⟩ := hv
            · rw [hk] at h0; cases h0
            · exact ⟨zx, e, h1, h2⟩
          apply cutP
          · intro th
            refine ite2 (fun _ => iteT th) (fun h1 => ?_)
            refine ⟨_, rfl, _, _, 0, _, rfl, rfl, ha4, at0 κ, rfl, _, rfl, ?_⟩
            refine iteB ?_ th
            have := kname_w κ
            rw [hk, Bool.eq_false_iff.mpr h1, Bool.false_or] at this
            exact this
          · refine ⟨_, rfl, _, rfl, _, rfl, _, _, 9, _, rfl, rfl, SqL.of hx4, a9, a, z0, x9, κ, (by rw [ev]; rfl), ha4, hk, hb, hz0, hz0l, x90, x91, fun z H5 s5 hz1 hz2 => ?_⟩
            have hL5 := s5 _ _ hL4
            refine ⟨_, rfl, D3, rfl, ⟨_, SqL.of hL5⟩, fun D6 hD6 => ?_⟩
            refine compW_map ys.length (fun i => .str (S (tv (ys.getD i .non)))) (fun i σ' Hc => (∃ t, σ' = [t]) ∧ Same H5 Hc) (by rw [sizeLine_eq]; omega) ⟨⟨none, rfl⟩, Same.upd hD6⟩ upd_same ?_ ?_
            · rintro i σ' Hc hi' ⟨⟨t, rfl⟩, sm⟩ hD'
              refine ⟨⟨_, ys[i], SqL.of (sm _ _ hL5), List.getElem?_eq_getElem hi'⟩, ?_⟩
              rintro y H' ⟨rfl, hx'⟩
              have ex := hx' _ (SqL.of (sm _ _ hL5))
              have eg : ys.getD i .non = y := by rw [List.getD_eq_getElem?_getD, ex]; rfl
              have py := hpy y (List.mem_of_getElem? ex)
              obtain ⟨zx, exz, hzx, hzl⟩ : ∃ zx : Str, y = .str zx ∧ AllS zx ∧ zx.length ≤ 10 := by
                obtain ⟨_, ⟨h0, _⟩ | ⟨_, zx, e, h1, h2⟩⟩ := py
                · rw [hk] at h0; cases h0
                · exact ⟨zx, e, h1, h2⟩
              refine ⟨_, rfl, zx, (by rw [exz]; rfl), hzx, by omega, fun H2 s2' => ⟨?_, s2' _ _ hD', ⟨_, rfl⟩, same_updN (sm.trans s2') hD6⟩⟩
              rw [eg, exz]
              rfl
            · rintro σ' H6 ⟨_, sm⟩ hDn
              refine ⟨⟨_, SqL.of (sm _ _ hL5), Nat.le_refl _⟩, ?_⟩
              have hD6' : H6 D6 = some (.lst ((ys.map tv).map fun t => V.str (S t))) := by
                rw [hDn, range_map_getD ys .non (fun x => V.str (S (tv x))), List.map_map]
                rfl
              refine ⟨_, rfl, z0, (by rw [ev]; rfl), hz0, by omega, fun H7 s7 => ?_⟩
              have eg : S (escs z0.cps.toList) = S (tv v) := by rw [ev]; rfl
              rw [eg]
              exact fin z D6 H7 ⟨(s5.trans sm).trans s7, hz1, hz2, s7 _ _ hD6'⟩
        | false =>
          obtain ⟨i0, ev, hi0⟩ : ∃ ix : Int, v = .int ix ∧ ix.natAbs < 10 ^ 60 := by
            obtain ⟨_, ⟨_, ix, e, h1⟩ | ⟨h0, _⟩⟩ := hv
            · exact ⟨ix, e, h1⟩
            · rw [hk] at h0; cases h0
          have kw := kname_w κ
          rw [hk] at kw
          obtain ⟨k1, k2⟩ := Bool.or_eq_false_iff.mp kw
          refine iteC k1 ?_
          refine ⟨_, rfl, _, _, 0, _, rfl, rfl, ha4, at0 κ, rfl, _, rfl, iteC k2 ?_⟩
          refine ⟨_, rfl, _, rfl, _, rfl, _, _, 9, _, rfl, rfl, SqL.of hx4, a9, a, i0, x9, κ, (by rw [ev]; rfl), ha4, hk, hb, hi0, x90, x91, fun z H5 s5 hz1 hz2 => ?_⟩
          have hL5 := s5 _ _ hL4
          refine ⟨_, rfl, D3, rfl, ⟨_, SqL.of hL5⟩, fun D6 hD6 => ?_⟩
          refine compW_map ys.length (fun i => .str (S (tv (ys.getD i .non)))) (fun i σ' Hc => (∃ t, σ' = [t]) ∧ Same H5 Hc) (by rw [sizeLine_eq]; omega) ⟨⟨none, rfl⟩, Same.upd hD6⟩ upd_same ?_ ?_
          · rintro i σ' Hc hi' ⟨⟨t, rfl⟩, sm⟩ hD'
            refine ⟨⟨_, ys[i], SqL.of (sm _ _ hL5), List.getElem?_eq_getElem hi'⟩, ?_⟩
            rintro y H' ⟨rfl, hx'⟩
            have ex := hx' _ (SqL.of (sm _ _ hL5))
            have eg : ys.getD i .non = y := by rw [List.getD_eq_getElem?_getD, ex]; rfl
            have py := hpy y (List.mem_of_getElem? ex)
            obtain ⟨ix, exz, hix⟩ : ∃ ix : Int, y = .int ix ∧ ix.natAbs < 10 ^ 60 := by
              obtain ⟨_, ⟨_, ix, e, h1⟩ | ⟨h0, _⟩⟩ := py
              · exact ⟨ix, e, h1⟩
              · rw [hk] at h0; cases h0
            refine ⟨_, rfl, ix, (by rw [exz]), lg (big hix), ?_, hD', ⟨_, rfl⟩, same_updN sm hD6⟩
            rw [eg, exz, tstr]
            rfl
          · rintro σ' H6 ⟨_, sm⟩ hDn
            refine ⟨⟨_, SqL.of (sm _ _ hL5), Nat.le_refl _⟩, ?_⟩
            have hD6' : H6 D6 = some (.lst ((ys.map tv).map fun t => V.str (S t))) := by
              rw [hDn, range_map_getD ys .non (fun x => V.str (S (tv x))), List.map_map]
              rfl
            refine ⟨_, rfl, i0, (by rw [ev]), lg (big hi0), ?_⟩
            have eg : ((toString i0 : String) : Str) = S (tv v) := by rw [ev, tstr]; rfl
            rw [eg]
            exact fin z D6 H6 ⟨s5.trans sm, hz1, hz2, hD6'⟩
      · rintro z t H8 ⟨s8, hz1, hz2, ht⟩
        have S8 := S4.trans s8
        have ha8 := S8.seqT ha
        have rf := read_fit hv
        refine ⟨_, rfl, _, rfl, a, _, κ, .pl κ, rfl, ⟨ha8, .inl rfl⟩, hgl, (fun v' H9 s9 hv' => ?_), (fun H9 _ hn => by rw [S_list, rf] at hn; cases hn)⟩
        rw [S_list, rf] at hv'
        cases hv'
        refine ⟨_, rfl, scal_ok hv, _, rfl, ?_⟩
        refine iteNS rfl ?_
        have S9 := S8.trans s9
        have ha9 := S9.seqT ha
        have no : ∀ (H0 : Hp) (p : Addr) (kk : Kk), KP K H0 p κ kk → ∀ (H1 : Hp) (Q' : VK) E', Same H0 H1 → (∀ H', Same H1 H' → E' (.ref CN) none H') → spVO K CN [.ref p, .str z] H1 Q' E' := fun H0 p kk hk H1 Q' E' sm hE =>
          ⟨p, z, κ, kk, rfl, hk.same sm, by omega, (fun v' H' _ e => by rw [hz1] at e; cases e), fun H' s' _ => hE H' s'⟩
        refine ⟨_, rfl, _, rfl, a, z, rfl, no H9 a (.pl κ) ⟨ha9, .inl rfl⟩, fun H10 s10 => ⟨_, rfl, ?_⟩⟩
        refine iteF ?_
        have S10 := S9.trans s10
        refine ⟨_, rfl, l2, fun p11 e11 => ?_⟩
        have T11 := Same.upd (o := .tup [.str "once", .ref a]) e11
        refine ⟨_, rfl, p11, z, rfl, no _ p11 (.onc κ) ⟨⟨a, SqT.of upd_same, T11.seqT (S10.seqT ha)⟩, .inr rfl⟩, fun H12 s12 => ⟨_, rfl, ?_⟩⟩
        refine iteF ?_
        have R12 := s9.trans (s10.trans (T11.trans s12))
        have S12 := S8.trans R12
        refine ⟨_, rfl, _, rfl, _, rfl, _, rfl, _, _, 10, _, rfl, rfl, SqL.of (R12 _ _ (s8 _ _ hx4)), a10, ?_⟩
        refine ⟨a, t, z, x10, κ, ys, rfl, S12.seqT ha, R12 _ _ ht, ly6, hpy, hz1, hz2, fun H13 s13 => ⟨_, rfl, ?_⟩⟩
        refine iteF ?_
        have S13 := S12.trans s13
        refine ⟨_, rfl, _, rfl, a, _, κ, .pl κ, rfl, ⟨S13.seqT ha, .inl rfl⟩, hgl, (fun v' H14 s14 hv' => ?_), (fun H14 _ hn => by rw [S_list, rf] at hn; cases hn)⟩
        rw [S_list, rf] at hv'
        cases hv'
        refine ⟨_, rfl, scal_ok hv, ?_⟩
        rw [decide_eq_true rfl]
        exact q H14 (S13.trans s14)
end
end My

namespace L2
open PySem PySem.Spec PyProof.Rows
theorem pss_mk {X : Cx} {st : List Stmt} {t : TS} (h : ∀ (pins : List (Addr × Obj)) (s : Shared) (σ : St) (H : Hp) (D : Ends), Inv X pins σ H s → t D σ H → wpAny (model X.prog X.w) X.A (execs st X.env) (SP X pins D) X.xe s) : PSs X st t := h
def forBody : Stmt → List Stmt
  | .For _ _ b _ _ => b
  | _ => []
/-- a test that asks tokens -/
def PTk (n : Nat) (X : Cx) (e : Expr) (t : TT) : Prop :=
  ∀ (pins : List (Addr × Obj)) (s : Shared) (σ : St) (H : Hp) (Q : Bool → Hp → Prop), n ≤ s.toks → Inv X pins σ H s → t σ H Q → wpAny (model X.prog X.w) X.A (isTrue e X.env (eval e X.env)) (TP X pins σ Q) X.xe s
theorem ptk_val {n : Nat} {X : Cx} {e : Expr} {t : TE} (h : PEk n X e t) (he : ∀ whole, isTrue e X.env whole = (do let v ← whole; standAt e.pos; holding [v] (truthy v)) := by intro _; rfl) : PTk n X e (tB t) := by
  intro pins s σ H Q hn I hw
  refine isTrue_plain (thn (h pins s σ H _ hn I hw) fun v s1 ⟨x, H1, I1, r1, q1⟩ => ?_) (he _)
  obtain ⟨d, rfl, q⟩ := q1
  cases r1
  exact wpAny_truthy_bool ⟨H1, I1, q⟩
theorem ptk_not {n : Nat} {X : Cx} {a : Expr} {tA : TT} {pos : Pos} (ha : PTk n X a tA) : PTk n X (.UnaryOp .Not a pos) (tNot tA) := by
  intro pins s σ H Q hn I h
  exact isTrue_not (ha pins s σ H (fun c H1 => Q (!c) H1) hn I h)
theorem psk_ifk {n : Nat} {X : Cx} {c : Expr} {xs ys : List Stmt} {tc : TT} {t u : TS} {pos : Pos} (hc : PTk n X c tc) (ha : PSs X xs t) (hb : PSs X ys u) : PSk n X (.If c xs ys pos) (tIfS tc t u) := by
  intro pins s σ H D hn I h
  refine wpAny_If (thn (hc pins s σ H _ hn I h) fun d s1 ⟨H1, I1, q1⟩ => ?_)
  cases d with
  | true => exact ha pins s1 σ H1 D I1 q1
  | false => exact hb pins s1 σ H1 D I1 q1
end L2
namespace My
open PySem L2 PyProof.Rows
seal L2.PE L2.PT L2.PTk L2.PW L2.PS L2.PSs L2.PA L2.PI L2.PG L2.PGs L2.OpR L2.UnR L2.CallR L2.IxR L2.SlR L2.MtR L2.PIf L2.PO L2.MtM L2.PC L2.PIp L2.PSet L2.PGet L2.TruR L2.InOp L2.PK
theorem fold_rep (a : Array Nat) : ∀ (n : Nat) (b : Array Nat), ((List.replicate n a).foldl (· ++ ·) b).toList = b.toList ++ (List.replicate n a.toList).flatten
  | 0, b => by simp
  | n + 1, b => by
    rw [List.replicate_succ, List.foldl_cons, fold_rep a n, List.replicate_succ, List.flatten_cons]
    simp
/-- the figures of a number of twenty, twenty times -/
theorem long_facts {n : Int} (h0 : 10 ^ 19 ≤ n) (h1 : n < 2 * 10 ^ 19) : ∃ c r, Kx.nl n = c :: r ∧ 49 ≤ c ∧ (Kx.nl n).all Kx.dig = true ∧ (Kx.nl n).length = 20 := by
  have e : Kx.nl n = Nm.figs n.natAbs := by
    unfold Kx.nl
    rw [if_neg (by omega)]
  have hd := Nm.figs_digits n.natAbs
  have l1 : (Nm.figs n.natAbs).length ≤ 20 := (Nm.figs_len (by decide)).mpr (by omega)
  have l2 : ¬ (Nm.figs n.natAbs).length ≤ 19 := fun z => by
    have := (Nm.figs_len (m := n.natAbs) (k := 19) (by decide)).mp z
    omega
  rw [e]
  cases ef : Nm.figs n.natAbs with
  | nil => exact absurd ef (Nm.figs_ne _)
  | cons c r =>
    rw [ef] at hd l1 l2
    have hc := hd c List.mem_cons_self
    have h48 : c ≠ 48 := fun z => by
      rw [z] at ef
      have := (Nm.figs_head ef).2
      omega
    exact ⟨c, r, rfl, by omega, Kx.dig_of hd, by omega⟩
theorem rep_facts {x : List Nat} {c : Nat} {r : List Nat} (e : x = c :: r) (hd : x.all Kx.dig = true) (hl : x.length = 20) : ∃ r2, (List.replicate 20 x).flatten = c :: r2 ∧ ((List.replicate 20 x).flatten).all Kx.dig = true ∧ ((List.replicate 20 x).flatten).length = 400 := by
  refine ⟨r ++ (List.replicate 19 x).flatten, ?_, ?_, ?_⟩
  · rw [show (20 : Nat) = 19 + 1 from rfl, List.replicate_succ, List.flatten_cons]
    generalize (List.replicate 19 x).flatten = y
    rw [e]
    rfl
  · rw [List.all_eq_true]
    intro d hd'
    obtain ⟨y, hy, hdy⟩ := List.mem_flatten.mp hd'
    rw [List.eq_of_mem_replicate hy] at hdy
    exact List.all_eq_true.mp hd d hdy
  · rw [List.length_flatten, List.map_replicate, List.sum_replicate_nat, hl]
def lN : List Str := ["_law_script", "_law_way", "_law_kind", "_law_long", "_law_text_here"]
def lawBody : List Stmt := forBody ((defBody (top 45)).getD 0 (.Pass ⟨0, 0, 0, 0⟩))
def tBody (H : Hp) (a : Addr) : TS := fun D σ H1 => ∃ (i : Nat) (u2 u3 u4 : Option V), i < 5 ∧ σ = [some (.ref a), some (.int (0 + (i : Int))), u2, u3, u4] ∧ Same H H1 ∧ ∀ (H' : Hp) (u2 u3 u4 : Option V), Same H H' → D.nx [some (.ref a), some (.int (0 + (i : Int))), u2, u3, u4] H'
def keyT : List V := [.str "", .str "-1", .str "--", .str "None", .str "+1", .str "01", .str "-0", .str "1 ", .str "1,", .str "a"]
theorem keyT_bad : ∀ x ∈ keyT, ∃ z : Str, x = .str z ∧ z.length ≤ 900 ∧ z ≠ "-" ∧ ∀ n, Kx.wholeOf z.cps.toList = some n → n < 0 := by
  intro x hm
  unfold keyT at hm
  simp only [List.mem_cons, List.not_mem_nil, or_false] at hm
  have no : ∀ {z : Str}, Kx.wholeOf z.cps.toList = none → ∀ n, Kx.wholeOf z.cps.toList = some n → n < 0 := fun h n e => by rw [h] at e; cases e
  rcases hm with rfl | rfl | rfl | rfl | rfl | rfl | rfl | rfl | rfl | rfl
  · exact ⟨_, rfl, by decide, by decide +kernel, no (by decide +kernel)⟩
  · refine ⟨_, rfl, by decide, by decide +kernel, fun n e => ?_⟩
    have h : Kx.wholeOf ("-1" : Str).cps.toList = some (-1) := by decide +kernel
    rw [h] at e
    cases e
    decide
  all_goals exact ⟨_, rfl, by decide, by decide +kernel, no (by decide +kernel)⟩
section
variable {P : Program} {w : World} {K : PySem.W.Frag} {mg : Str → Option Value} {base : Heap} {CN kA : Addr}
theorem ok_law {f fC fP fS fK fR : Addr} {fd fdC fdP fdS fdK fdR : FuncData} (F : Fun K "law" "law" (top 45) f fd) (B : Bl mg) (DC : Df K mg "_law_cell" (top 31) fC fdC) (DP : Df K mg "_law_plain" (top 36) fP fdP) (DS : Df K mg "_law_sign" (top 33) fS fdS)
    (DK : Df K mg "_law_kind_law" (top 44) fK fdK) (GK : ∀ n, FnOkW n P w K mg base 8 fK fdK ["_law_kind", "_law_cell_here", "_law_many"] (toW (spKL K n))) (DR : Df K mg "_law_refused" (top 40) fR fdR) (GR : FnOk P w K mg base CX0 6 fR fdR ["_law_kind", "_law_text_here"] (spRef (spVO K CN) CN))
    (GRl : FnOk P w K mg base CX0 6 fR fdR ["_law_kind", "_law_text_here"] (spRef (spVOlg K CN) CN)) (GRk : FnOk P w K mg base CX0 5 fR fdR ["_law_kind", "_law_text_here"] (spRef (spVOkx K CN) CN)) : FnOk P w K mg base CX0 9 f fd ["_law_script"] (spLaw K) := by
  have sc : FnScope lN ["_law_script"] (defScope (top 45)) := ⟨rfl, rfl, rfl, by decide +kernel, rfl, by decide +kernel, by decide +kernel⟩
  have GC : FnOk P w K mg base CX0 1 fC fdC ["_law_script", "_law_k"] (spCell K) := ok_cell DC.fn B
  have GP : FnOk P w K mg base CX0 2 fP fdP ["_law_way", "_law_number"] (spPl K) := ok_pl DP.fn
  have GPW : FnOkW 0 P w K mg base 2 fP fdP ["_law_way", "_law_number"] spPlW := ok_plW DP.fn DS
  have bC := DC.fn.binds (ps := ["_law_script", "_law_k"]) fun _ _ _ _ _ _ us hl => by obtain ⟨v0, v1, rfl⟩ := L2.ln2 hl; rfl
  have bP := DP.fn.binds (ps := ["_law_way", "_law_number"]) fun _ _ _ _ _ _ us hl => by obtain ⟨v0, v1, rfl⟩ := L2.ln2 hl; rfl
  have bK := DK.fn.binds (ps := ["_law_kind", "_law_cell_here", "_law_many"]) fun _ _ _ _ _ _ us hl => by obtain ⟨v0, v1, v2, rfl⟩ := L2.ln3 hl; rfl
  have bR := DR.fn.binds (ps := ["_law_kind", "_law_text_here"]) fun _ _ _ _ _ _ us hl => by obtain ⟨v0, v1, rfl⟩ := L2.ln2 hl; rfl
  refine F.ok sc (fun vs H Q E h => ?_) (fun cdv A outer s H vs Q E hr h => ?_)
  · obtain ⟨a, ns, rfl, _⟩ := h
    rfl
  · obtain ⟨a, ns, rfl, hS, h63, q⟩ := h
    have hr1 : Room 1 _ := hr.mono (by decide)
    have hr2 : Room 2 _ := hr.mono (by decide)
    have hr5 : Room 5 _ := hr.mono (by decide)
    have hr6 : Room 6 _ := hr.mono (by decide)
    have l1 : 1 ≤ sizeLine := by decide
    have l2 : 2 ≤ sizeLine := by decide
    -- the kind being there
    have row : ∀ (m i : Nat) (D : Ends) (H1 : Hp) (p : Addr) (κ : Pk) (u3 u4 : Option V), i < 5 → Same H H1 → SqT K H1 p κ.vs → KTok m H1 p κ → PkB κ → (∀ (H' : Hp) (u2 u3 u4 : Option V), Same H H' → D.nx [some (.ref a), some (.int (0 + (i : Int))), u2, u3, u4] H') →
        ∃ t, PSsk m (cxOf CX0 P w K mg base lN "law" (defScope (top 45)) f cdv A outer s H E).nox (lawBody.drop 1) t ∧ t D [some (.ref a), some (.int (0 + (i : Int))), some (.ref p), u3, u4] H1 := by
      intro m i D H1 p κ u3 u4 hi S1 hp htok hb nx
      have hS1 := S1.seq hS
      refine ⟨_, pssk_one (psk_ifk (ptk_not (ptk_val (pek_callW (GK m) hr (by rfl) DK.mg DK.fn.kp bK (pa_cons (pv 2) (pa_cons (pe_call GC hr1 (by rfl) DC.mg DC.fn.kp bC .nil pass0 (pa_cons (pv 0) (pa_cons (pe_op op_add (pe_op op_mul pe_int (pv 1)) pe_int) pa_nil))) (pa_cons (pe_op op_mod (pe_call GC hr1 (by rfl) DC.mg DC.fn.kp bC .nil pass0 (pa_cons (pv 0) (pa_cons (pe_op op_add (pe_op op_mul pe_int (pv 1)) pe_int) pa_nil))) pe_int) pa_nil)))))) (pss_one (ps_ret pe_bl)) pss_nil), ?_⟩
      refine ⟨_, rfl, _, rfl, _, rfl, _, _, rfl, rfl, .inl ⟨by decide, by decide⟩, _, _, rfl, rfl, a, ns, _, rfl, hS1, (by omega), (by omega), h63, ?_⟩
      refine ⟨_, rfl, _, rfl, _, _, rfl, rfl, .inl ⟨by decide, by decide⟩, _, _, rfl, rfl, a, ns, _, rfl, hS1, (by omega), (by omega), h63, _, _, rfl, rfl, (pos rfl), ?_⟩
      refine ⟨p, _, _, κ, rfl, hp, htok, hb, Int.emod_nonneg _ (by decide), Int.le_of_lt (Int.emod_lt_of_pos _ (by decide)), fun H2 s2 u tk => ⟨_, rfl, ?_⟩⟩
      refine iteF ?_
      exact nx H2 _ _ _ (S1.trans s2)
    have body : PSs (cxOf CX0 P w K mg base lN "law" (defScope (top 45)) f cdv A outer s H E).nox lawBody (tBody H a) := by
      refine pss_mk ?_
      rintro pins s' σ H1 D I ⟨i, u2, u3, u4, hi, rfl, s1, nx⟩
      have hS1 := s1.seq hS
      by_cases i4 : i = 4
      · subst i4
        refine psc_callW (r := lawBody.drop 1) (i := 2) (D := D) (R := fun u k v H3 => ∃ p ch t, v = .ref p ∧ Same H1 H3 ∧ ch ∈ Kx.signs ∧ TokPair H3 p "without" ⟨#[ch]⟩ t ∧ 1 ≤ t ∧ t < k) GPW hr2 (by rfl) DP.mg DP.fn.kp bP
          (pa_cons (pv 1) (pa_cons (pe_op op_mod (pe_call GC hr1 (by rfl) DC.mg DC.fn.kp bC .nil pass0 (pa_cons (pv 0) (pa_cons (pe_op op_mul pe_int (pv 1)) pa_nil))) pe_int) pa_nil)) (Nat.zero_le _) I ?_ sc.nd rfl (Or.inl rfl) ?_
        · refine ⟨_, rfl, _, rfl, _, rfl, _, _, rfl, rfl, .inl ⟨by decide, by decide⟩, a, ns, _, rfl, hS1, (by decide), (by decide), h63, _, _, rfl, rfl, (pos rfl), _, rfl, ?_⟩
          exact fun p ch t k H3 s3 o tp t1 tk => ⟨p, ch, t, rfl, s3, o, tp, t1, tk⟩
        · rintro s3 u j v H3 hj ⟨p, ch, t, rfl, s3', o, tp, t1, tk⟩ I3
          obtain ⟨t', pt, qt⟩ := row j 4 D H3 p (.without ch) u3 u4 (by decide) (s1.trans s3') tp.sq ⟨t, tp, t1, tk⟩ o nx
          exact pssk_run pt hj I3 qt
      · have hi4 : i < 4 := by omega
        refine sp_block (n := 0) 1 (fun σ H' => Same H H' ∧ ∃ (p : Addr) (κ : Pk), σ = [some (.ref a), some (.int (0 + (i : Int))), some (.ref p), u3, u4] ∧ SqT K H' p κ.vs ∧ PkB κ ∧ KTok 0 H' p κ) (Nat.zero_le _) I
          ⟨_, pssk_one (PS.k (ps_set (i := 2) sc.nd rfl (Or.inl rfl) (pe_call GP hr2 (by rfl) DP.mg DP.fn.kp bP .nil pass0 (pa_cons (pv 1) (pa_cons (pe_op op_mod (pe_call GC hr1 (by rfl) DC.mg DC.fn.kp bC .nil pass0 (pa_cons (pv 0) (pa_cons (pe_op op_mul pe_int (pv 1)) pa_nil))) pe_int) pa_nil))))), ?_⟩ ?_
        · refine ⟨_, rfl, _, rfl, _, rfl, _, _, rfl, rfl, .inl ⟨by decide, by decide⟩, a, ns, _, rfl, hS1, (by omega), (by omega), h63, _, _, rfl, rfl, (pos rfl), ?_⟩
          refine ⟨_, _, rfl, (by omega), (by omega), fun κ p H2 s2 hb hx1 hx2 hp => ?_⟩
          refine ⟨s1.trans s2, p, κ, rfl, hp, hb, ?_⟩
          cases κ with
          | without ch =>
            by_cases i3 : i = 3
            · subst i3
              exact nomatch hx2 rfl
            · exact nomatch hx1 (by omega)
          | _ => exact trivial
        · refine ⟨fun D' σ H' => D' = D ∧ Same H H' ∧ ∃ (p : Addr) (κ : Pk), σ = [some (.ref a), some (.int (0 + (i : Int))), some (.ref p), u3, u4] ∧ SqT K H' p κ.vs ∧ PkB κ ∧ KTok 0 H' p κ, pss_mk ?_, fun σ H' hm => ⟨rfl, hm⟩⟩
          rintro pins s3 σ H3 D' I3 ⟨rfl, s3', p, κ, rfl, hp, hb, htok⟩
          obtain ⟨t', pt, qt⟩ := row 0 i D' H3 p κ u3 u4 hi s3' hp htok hb nx
          exact pssk_run pt (Nat.zero_le _) I3 qt
    refine ⟨_, pss_cons (ps_for PassesOwn.never rfl (pi_range1 rfl B.range (pa_cons pe_int pa_nil)) (pg_name (i := 1) sc.nd rfl (Or.inl rfl)) body)
      (pss_cons (ps_set (i := 3) sc.nd rfl (Or.inl rfl) (pe_op op_add_str (pe_op op_mulSI (pe_callTy call_str_int (by rfl) B.str boot_str (pa_cons (pe_op op_add (pe_op op_pow pe_int pe_int) (pe_op op_mod (pe_call GC hr1 (by rfl) DC.mg DC.fn.kp bC .nil pass0 (pa_cons (pv 0) (pa_cons pe_int pa_nil))) (pe_op op_pow pe_int pe_int))) pa_nil)) pe_int) (pe_callTy call_str_int (by rfl) B.str boot_str (pa_cons (pe_op op_mod (pe_call GC hr1 (by rfl) DC.mg DC.fn.kp bC .nil pass0 (pa_cons (pv 0) (pa_cons pe_int pa_nil))) pe_int) pa_nil))))
      (pss_cons (ps_for PassesOwn.never rfl (pi_list (pe_lst (pa_cons (pe_tup (pa_cons (pe_tup (pa_cons pe_str pa_nil)) (pa_cons (pv 3) pa_nil))) (pa_cons (pe_tup (pa_cons (pe_tup (pa_cons pe_str pa_nil)) (pa_cons (pe_op op_add_str pe_str (pv 3)) pa_nil))) (pa_cons (pe_tup (pa_cons (pe_tup (pa_cons pe_str (pa_cons pe_int pa_nil))) (pa_cons (pe_op op_add_str pe_str (pv 3)) pa_nil))) pa_nil)))))
          (pg_tup rfl (pgs_cons (pg_name (i := 2) sc.nd rfl (Or.inl rfl)) (pgs_cons (pg_name (i := 4) sc.nd rfl (Or.inl rfl)) pgs_nil)))
        (pss_one (ps_if (PW.pt (pw_or (pt_not (pt_val (pe_call GR hr6 (by rfl) DR.mg DR.fn.kp bR .nil pass0 (pa_cons (pv 2) (pa_cons (pv 4) pa_nil))))) (pw_or1 (pt_not (pt_val (pe_call GRl hr6 (by rfl) DR.mg DR.fn.kp bR .nil pass0 (pa_cons (pe_tup (pa_cons pe_str (pa_cons (pv 2) pa_nil))) (pa_cons (pe_op op_add_str (pv 4) pe_str) pa_nil)))))))) (pss_one (ps_ret pe_bl)) pss_nil)))
      (pss_cons (ps_if (pt_not (pt_val (pe_call GRk hr5 (by rfl) DR.mg DR.fn.kp bR .nil pass0 (pa_cons (pe_tup (pa_cons pe_str pa_nil)) (pa_cons (pv 3) pa_nil))))) (pss_one (ps_ret pe_bl)) pss_nil)
      (pss_cons (ps_for PassesOwn.never rfl (pi_list (pe_lst (pa_cons pe_str (pa_cons pe_str (pa_cons pe_str (pa_cons pe_str (pa_cons pe_str (pa_cons pe_str (pa_cons pe_str (pa_cons pe_str (pa_cons pe_str (pa_cons pe_str pa_nil)))))))))))) (pg_name (i := 4) sc.nd rfl (Or.inl rfl))
        (pss_one (ps_if (pt_not (pt_val (pe_call GRk hr5 (by rfl) DR.mg DR.fn.kp bR .nil pass0 (pa_cons (pe_tup (pa_cons pe_str pa_nil)) (pa_cons (pv 4) pa_nil))))) (pss_one (ps_ret pe_bl)) pss_nil)))
      (pss_one (ps_ret pe_bl)))))), ?_⟩
    refine ⟨_, rfl, (by decide), (by decide), for_range (fun i σ H' => Same H H' ∧ ∃ u1 u2 u3 u4, σ = [some (.ref a), u1, u2, u3, u4]) ⟨Same.refl H, _, _, _, _, rfl⟩ ?_ ?_⟩
    · rintro i σ H' hi ⟨s1, u1, u2, u3, u4, rfl⟩
      have hi5 : i < 5 := hi
      exact ⟨i, _, _, _, hi5, rfl, s1, fun H2 v2 v3 v4 s2 => ⟨s2, _, _, _, _, rfl⟩⟩
    · rintro σ H' ⟨s1, u1, u2, u3, u4, rfl⟩
      have p19 : CPow 10 19 := ⟨by decide, by decide, by decide⟩
      have e19 : (10 : Int) ^ (19 : Int).toNat = 10000000000000000000 := by decide +kernel
      have hS1 := s1.seq hS
      have hm0 := Int.emod_nonneg (cellF ns 1) (show (10 : Int) ^ (19 : Int).toNat ≠ 0 by rw [e19]; decide)
      have hm1 := Int.emod_lt_of_pos (cellF ns 1) (show (0 : Int) < (10 : Int) ^ (19 : Int).toNat by rw [e19]; decide)
      obtain ⟨N, eN⟩ : ∃ N : Int, N = (10 : Int) ^ (19 : Int).toNat + cellF ns 1 % (10 : Int) ^ (19 : Int).toNat := ⟨_, rfl⟩
      have N0 : 10 ^ 19 ≤ N := by rw [eN]; rw [e19] at hm0 hm1 ⊢; omega
      have N1 : N < 2 * 10 ^ 19 := by rw [eN]; rw [e19] at hm0 hm1 ⊢; omega
      obtain ⟨c, r, ec, hc, hd, hl⟩ := long_facts N0 N1
      obtain ⟨r2, e2, hd2, hl2⟩ := rep_facts ec hd hl
      have htx : (Nm.tx N).length = 20 := by rw [tx_S, S_len, hl]
      refine ⟨_, _, rfl, rfl, p19, _, rfl, a, ns, 1, rfl, hS1, (by decide), (by decide), h63, _, _, rfl, rfl, p19, _, _, rfl, rfl, (by show (0 : Int) < (10 : Int) ^ (19 : Int).toNat; rw [e19]; decide), _, _, rfl, rfl, ?_⟩
      refine ⟨N, congrArg (fun n => [V.int n]) eN.symm, lg (Nat.lt_of_lt_of_le (show N.natAbs < 10 ^ 20 by omega) (Nat.pow_le_pow_right (by decide) (by decide))), ?_⟩
      refine ⟨Nm.tx N, 20, rfl, rfl, (by decide), (by decide), (by rw [htx]; decide), (by rw [htx]; decide), ?_⟩
      obtain ⟨fig, efig⟩ : ∃ fig : Str, fig = ⟨(List.replicate 20 (Nm.tx N).cps).foldl (· ++ ·) #[]⟩ := ⟨_, rfl⟩
      have lfig : fig.cps.toList = (List.replicate 20 (Kx.nl N)).flatten := by
        rw [efig]
        show ((List.replicate 20 (Nm.tx N).cps).foldl (· ++ ·) #[]).toList = _
        rw [fold_rep, nl_tx]
        rfl
      rw [← efig]
      have zfig : fig.length = 400 := by rw [← z_len, lfig, hl2]
      have d0 := Int.emod_nonneg (cellF ns 4) (show (10 : Int) ≠ 0 by decide)
      have d1 := Int.emod_lt_of_pos (cellF ns 4) (show (0 : Int) < 10 by decide)
      refine ⟨_, rfl, a, ns, 4, rfl, hS1, (by decide), (by decide), h63, _, _, rfl, rfl, (pos rfl), _, rfl, lg (Nat.lt_of_lt_of_le (show (cellF ns 4 % 10).natAbs < 10 ^ 1 by omega) (Nat.pow_le_pow_right (by decide) (by decide))), ?_⟩
      obtain ⟨lt, elt⟩ : ∃ lt : Str, lt = fig ++ ((toString (cellF ns 4 % 10) : String) : Str) := ⟨_, rfl⟩
      have edl : Kx.nl (cellF ns 4 % 10) = Nm.figs (cellF ns 4 % 10).natAbs := by
        unfold Kx.nl
        rw [if_neg (by omega)]
      have ed1 : (Nm.figs (cellF ns 4 % 10).natAbs).length = 1 := by
        have h1 : (Nm.figs (cellF ns 4 % 10).natAbs).length ≤ 1 := (Nm.figs_len (by decide)).mpr (by omega)
        have h2 := List.length_pos_iff.mpr (Nm.figs_ne (cellF ns 4 % 10).natAbs)
        omega
      have ell : lt.cps.toList = (List.replicate 20 (Kx.nl N)).flatten ++ Nm.figs (cellF ns 4 % 10).natAbs := by
        rw [elt, Str.cps_append, Array.toList_append, lfig, tstr, edl]
        rfl
      have eln : lt.length = 401 := by rw [← z_len, ell, List.length_append, hl2, ed1]
      have edig : lt.cps.toList.all Kx.dig = true := by
        rw [ell, List.all_append, hd2, Kx.dig_of (Nm.figs_digits _)]
        rfl
      have h44 : 44 ∉ lt.cps.toList := fun h => by
        have := (List.all_eq_true.mp edig) 44 h
        revert this
        decide
      have elc : lt.cps.toList = c :: (r2 ++ Nm.figs (cellF ns 4 % 10).natAbs) := by rw [ell, e2]; rfl
      have w1 : Kx.wholeOf lt.cps.toList = none := by
        refine Kx.whole_long ?_
        rw [elc]
        show 400 < (if c = 45 then _ else c :: (r2 ++ Nm.figs (cellF ns 4 % 10).natAbs)).length
        rw [if_neg (by omega), ← elc, z_len, eln]
        decide
      have emi : ("-" ++ lt).cps.toList = 45 :: lt.cps.toList := by
        rw [s_mi, Str.cps_append, Array.toList_append]
        rfl
      have w2 : Kx.wholeOf ("-" ++ lt).cps.toList = none := by
        refine Kx.whole_long ?_
        rw [emi]
        show 400 < (if 45 = 45 then lt.cps.toList else 45 :: lt.cps.toList).length
        rw [if_pos rfl, z_len, eln]
        decide
      have emn : ("-" : Str).length = 1 := by decide +kernel
      have eml : ("-" ++ lt).length = 402 := by rw [Str.length_append, emn, eln]
      have h44m : 44 ∉ ("-" ++ lt).cps.toList := fun h => by
        rw [emi] at h
        rcases List.mem_cons.mp h with h | h
        · cases h
        · exact h44 h
      have esz : fig.length + ((toString (cellF ns 4 % 10) : String) : Str).length ≤ sizeLine := by
        have := congrArg Str.length elt
        rw [eln, Str.length_append] at this
        rw [← this, sizeLine_eq]
        decide
      refine ⟨_, _, rfl, rfl, esz, ?_⟩
      rw [← elt]
      have lsz : ("-" : Str).length + lt.length ≤ sizeLine := by rw [emn, eln, sizeLine_eq]; decide
      refine ⟨l1, fun p1 e1 => ⟨_, rfl, l2, fun p2 e2 => ⟨l1, fun p3 e3 => ⟨_, rfl, _, _, rfl, rfl, lsz, l2, fun p4 e4 => ⟨l2, fun p5 e5 => ⟨_, rfl, _, _, rfl, rfl, lsz, l2, fun p6 e6 => ⟨(by show 3 ≤ sizeLine; decide), fun p7 e7 => ?_⟩⟩⟩⟩⟩⟩⟩
      have T1 := Same.upd (o := .tup [.str "whole"]) e1
      have T2 := Same.upd (o := .tup [.ref p1, .str lt]) e2
      have T3 := Same.upd (o := .tup [.str "whole"]) e3
      have T4 := Same.upd (o := .tup [.ref p3, .str ("-" ++ lt)]) e4
      have T5 := Same.upd (o := .tup [.str "upto", .int 5]) e5
      have T6 := Same.upd (o := .tup [.ref p5, .str ("-" ++ lt)]) e6
      have T7 := Same.upd (o := .lst [.ref p2, .ref p4, .ref p6]) e7
      have t57 := T5.trans (T6.trans T7)
      have t37 := T3.trans (T4.trans t57)
      have t17 := T1.trans (T2.trans t37)
      refine ⟨p7, rfl, ⟨_, SqL.of upd_same⟩, for_list (K := K) (a := p7) (xs := [.ref p2, .ref p4, .ref p6]) (fun j σ H8 => Same _ H8 ∧ ∃ u2 u4, σ = [some (.ref a), u1, u2, some (.str lt), u4]) ⟨Same.refl _, _, _, rfl⟩ (fun j σ H8 _ p => SqL.of (p.1 _ _ upd_same)) ?_ ?_⟩
      · rintro j x σ H8 hx ⟨s8, v2, v4, rfl⟩
        obtain ⟨pp, pk, z, κ, rfl, hpp, hpk, hx0, hw, h4, hzl⟩ : ∃ (pp pk : Addr) (z : Str) (κ : Pk), x = .ref pp ∧ SqT K H8 pp [.ref pk, .str z] ∧ SqT K H8 pk κ.vs ∧ κ.txt = false ∧ Kx.wholeOf z.cps.toList = none ∧ 44 ∉ z.cps.toList ∧ z.length ≤ 402 := by
          have hm := List.mem_of_getElem? hx
          simp only [List.mem_cons, List.not_mem_nil, or_false] at hm
          rcases hm with rfl | rfl | rfl
          · exact ⟨p2, p1, lt, .whole, rfl, SqT.of (s8 _ _ (t37 _ _ upd_same)), SqT.of (s8 _ _ (t37 _ _ (T2 _ _ upd_same))), rfl, w1, h44, by omega⟩
          · exact ⟨p4, p3, _, .whole, rfl, SqT.of (s8 _ _ (t57 _ _ upd_same)), SqT.of (s8 _ _ (t57 _ _ (T4 _ _ upd_same))), rfl, w2, h44m, by omega⟩
          · exact ⟨p6, p5, _, .upto 5, rfl, SqT.of (s8 _ _ (T7 _ _ upd_same)), SqT.of (s8 _ _ (T7 _ _ (T6 _ _ upd_same))), rfl, w2, h44m, by omega⟩
        have hrd := read_none_n hx0 hw
        refine ⟨pp, _, rfl, hpp, rfl, _, _, rfl, _, _, rfl, rfl, ?_⟩
        refine ⟨_, rfl, _, rfl, pk, z, rfl, (fun H1 Q' E' sm hE => ⟨pk, z, κ, .pl κ, rfl, ⟨sm.seqT hpk, .inl rfl⟩, by omega, (fun v' H' _ e => by rw [hrd] at e; cases e), fun H' s' _ => hE H' s'⟩), fun H9 s9 => ⟨_, rfl, ?_⟩⟩
        refine iteF ?_
        refine ⟨_, rfl, l2, fun p10 e10 => ?_⟩
        have T10 := Same.upd (o := .tup [.str "list", .ref pk]) e10
        have ecm : (z ++ ",").cps.toList = cml [z.cps.toList] := by
          rw [s_comma, Str.cps_append, Array.toList_append, S_list, cml_cons]
          rfl
        have ecl : ("," : Str).length = 1 := by decide +kernel
        refine ⟨_, rfl, _, _, rfl, rfl, (by rw [ecl, sizeLine_eq]; omega), ?_⟩
        refine ⟨p10, _, rfl, refL (ps := [z.cps.toList]) (q := []) (SqT.of upd_same) (T10.seqT (s9.seqT hpk)) (.inl rfl) (by rw [Str.length_append, ecl]; omega) ?_ (fun t ht => ?_) (show 1 ≤ 901 by decide) (.inr fun ys hys => allR_bad hrd List.mem_cons_self hys), fun H11 s11 => ⟨_, rfl, ?_⟩⟩
        · rw [ecm]
          exact cut_cml0 _ fun t ht => by
            have : t = z.cps.toList := by simpa using ht
            rw [this]
            exact h4
        · have : t = z.cps.toList := by simpa using ht
          rw [this, z_len]
          omega
        refine iteF ?_
        exact ⟨s8.trans (s9.trans (T10.trans s11)), _, _, rfl⟩
      · rintro σ H8 ⟨s8, v2, v4, rfl⟩
        refine ⟨l1, fun p9 e9 => ?_⟩
        have nmi : lt ≠ "-" := fun e => by
          have := congrArg Str.length e
          rw [eln, emn] at this
          cases this
        refine ⟨_, rfl, p9, lt, rfl, (fun H1 Q' E' sm hE => ⟨p9, lt, rfl, SqT.of (sm _ _ upd_same), by omega, nmi, (fun n e => by rw [w1] at e; cases e), hE⟩), fun H10 s10 => ⟨_, rfl, ?_⟩⟩
        refine iteF ?_
        refine ⟨(by show 10 ≤ sizeLine; decide), fun p11 e11 => ?_⟩
        refine ⟨p11, rfl, ⟨_, SqL.of upd_same⟩, for_list (K := K) (a := p11) (xs := keyT) (fun j σ H12 => Same _ H12 ∧ ∃ u4, σ = [some (.ref a), u1, v2, some (.str lt), u4]) ⟨Same.refl _, _, rfl⟩ (fun j σ H12 _ p => SqL.of (p.1 _ _ upd_same)) ?_ ?_⟩
        · rintro j x σ H12 hx ⟨s12, w4, rfl⟩
          obtain ⟨z, rfl, hz1, hz2, hz3⟩ := keyT_bad x (List.mem_of_getElem? hx)
          refine ⟨l1, fun p13 e13 => ?_⟩
          have T13 := Same.upd (o := .tup [.str "key"]) e13
          refine ⟨_, rfl, p13, z, rfl, (fun H1 Q' E' sm hE => ⟨p13, z, rfl, SqT.of (sm _ _ upd_same), hz1, hz2, hz3, hE⟩), fun H14 s14 => ⟨_, rfl, ?_⟩⟩
          refine iteF ?_
          exact ⟨s12.trans (T13.trans s14), _, rfl⟩
        · rintro σ H12 ⟨s12, w4, rfl⟩
          exact q H12
end
end My

namespace My
open PySem L2
theorem all_mk {l : PySem.W.OpenLaw} {w : World} {K : PySem.W.Frag} {h : Heap} {mg : Str → Option Value} {fa CN CT c1 c2 c3 c4 c5 c6 aE kA : Addr} {tF tM tB tP tK tN : Tok} {od : Option Addr} {nK : Nat} {sl : Array (Option Value)} (X : K.In h) (G : h.Ns mainGlobals mg) (hfa : mg "law" = some (.ref fa))
    (gF : PySem.W.nsIn K mainGlobals "FIGURES" = some (some (.str "0123456789" tF))) (gM : PySem.W.nsIn K mainGlobals "MOST_FIGURES" = some (some (.int 400 tM))) (gB : PySem.W.nsIn K mainGlobals "NEVER_BARE" = some (some (.str " ,;" tB))) (gP : PySem.W.nsIn K mainGlobals "PERCENT" = some (some (.int 37 tP))) (gE : PySem.W.nsIn K mainGlobals "ESCAPED" = some (some (.ref aE))) (kE : KTab K aE escT)
    (gK : PySem.W.nsIn K mainGlobals "KEY" = some (some (.ref kA))) (lK : K.lookup kA = some ⟨.type "tuple", od, .seq #[.str "key" tK] nK, sl⟩)
    (gN : PySem.W.nsIn K mainGlobals "NOWHERE" = some (some (.str "-" tN)))
    (aN : PySem.W.nsIn K mainGlobals "NoText" = some (some (.ref CN))) (aT : PySem.W.nsIn K mainGlobals "TableError" = some (some (.ref CT)))
    (a1 : PySem.W.nsIn K mainGlobals "NoForm" = some (some (.ref c1)))
    (a2 : PySem.W.nsIn K mainGlobals "NoMove" = some (some (.ref c2)))
    (a3 : PySem.W.nsIn K mainGlobals "NoRow" = some (some (.ref c3)))
    (a4 : PySem.W.nsIn K mainGlobals "NotDone" = some (some (.ref c4)))
    (a5 : PySem.W.nsIn K mainGlobals "StepError" = some (some (.ref c5)))
    (a6 : PySem.W.nsIn K mainGlobals "TooMany" = some (some (.ref c6)))
    (xN : XCl K CN) (xT : XCl K CT) (iN : PySem.W.findIn K (.ref CN) "__init__" = some (some (.builtin "ValueError.__init__"))) (un : PySem.W.mroIn K CN (.ref CT) = some true)
    (ha : PySem.W.findIn K (.ref CN) "__class__" = some (some (.builtin "object.__class__"))) (hn : PySem.W.specialIn K (.builtin "object.__class__") "__get__" = some (some (.builtin "getset_descriptor.__get__"))) (htk : PySem.W.takesIn K (.builtin "object.__class__") = some true)
    (isN : PySem.W.kitOne K (.ref CN) (.ref CN) = some true) (isV : PySem.W.kitOne K (.ref CN) (.type "ValueError") = some true) (isO : PySem.W.kitAny K (.ref CN) [.ref c1, .ref c2, .ref c3, .ref c4, .ref c5, .ref c6] = some false)
    (d11 : DefIn K "is_whole" (top 11))
    (d12 : DefIn K "is_sign" (top 12))
    (d13 : DefIn K "fits" (top 13))
    (d14 : DefIn K "fits_tuple" (top 14))
    (d15 : DefIn K "fits_plain" (top 15))
    (d23 : DefIn K "value_of" (top 23))
    (d24 : DefIn K "pointer_of" (top 24))
    (d25 : DefIn K "tuple_of" (top 25))
    (d26 : DefIn K "plain_of" (top 26))
    (d27 : DefIn K "whole_of" (top 27))
    (d28 : DefIn K "word_of" (top 28))
    (d29 : DefIn K "ask_text" (top 29))
    (d31 : DefIn K "_law_cell" (top 31))
    (d32 : DefIn K "_law_stream" (top 32))
    (d33 : DefIn K "_law_sign" (top 33))
    (d34 : DefIn K "_law_units" (top 34))
    (d35 : DefIn K "_law_written" (top 35))
    (d36 : DefIn K "_law_plain" (top 36))
    (d37 : DefIn K "_law_text" (top 37))
    (d38 : DefIn K "_law_plain_value" (top 38))
    (d39 : DefIn K "_law_no_text" (top 39))
    (d40 : DefIn K "_law_refused" (top 40))
    (d41 : DefIn K "_law_no_number" (top 41))
    (d42 : DefIn K "_law_no_word" (top 42))
    (d43 : DefIn K "_law_tuples" (top 43))
    (d44 : DefIn K "_law_kind_law" (top 44))
    (d45 : DefIn K "law" (top 45))
    (zb : BlK K) (zv : PySem.W.nsIn K mainGlobals "ValueError" = some none) :
    ∃ fd : FuncData, (∀ (s : Shared) (v : Value), BindsTo s fd ⟨[v], []⟩ [("_law_script", v)]) ∧ ∀ base : Heap, K.In base → base.Ns mainGlobals mg → FnOk l.prog w K mg base CX0 9 fa fd ["_law_script"] (spLaw K) := by
  have B : Bl mg := zb.bl X G
  have T : Tx K mg CN := ⟨PySem.W.mg_of X G aN, ⟨xN, iN⟩, ⟨_, PySem.W.mg_of X G gF, ⟨tF, rfl⟩⟩, ⟨_, PySem.W.mg_of X G gM, ⟨tM, rfl⟩⟩, ⟨_, PySem.W.mg_of X G gB, ⟨tB, rfl⟩⟩, ⟨_, PySem.W.mg_of X G gP, ⟨tP, rfl⟩⟩, ⟨aE, PySem.W.mg_of X G gE, kE⟩⟩
  have R : Rf K mg CN CT c1 c2 c3 c4 c5 c6 := ⟨PySem.W.mg_of X G aT, xT, ⟨xN, un⟩, ⟨xN, ha, hn, htk⟩, isN, isV, isO, PySem.W.mg_of X G a1, PySem.W.mg_of X G a2, PySem.W.mg_of X G a3, PySem.W.mg_of X G a4, PySem.W.mg_of X G a5, PySem.W.mg_of X G a6, PySem.W.mg_none_of X G zv⟩
  have Y : Ky K mg kA := ⟨PySem.W.mg_of X G gK, fun H => .inr ⟨_, _, _, lK, rfl, rfl, (by show 1 ≤ sizeLine; decide), .cons ⟨tK, rfl⟩ .nil⟩⟩
  obtain ⟨f11, fd11, D11⟩ := d11.df X G
  obtain ⟨f12, fd12, D12⟩ := d12.df X G
  obtain ⟨f13, fd13, D13⟩ := d13.df X G
  obtain ⟨f14, fd14, D14⟩ := d14.df X G
  obtain ⟨f15, fd15, D15⟩ := d15.df X G
  obtain ⟨f23, fd23, D23⟩ := d23.df X G
  obtain ⟨f24, fd24, D24⟩ := d24.df X G
  obtain ⟨f25, fd25, D25⟩ := d25.df X G
  obtain ⟨f26, fd26, D26⟩ := d26.df X G
  obtain ⟨f27, fd27, D27⟩ := d27.df X G
  obtain ⟨f28, fd28, D28⟩ := d28.df X G
  obtain ⟨f29, fd29, D29⟩ := d29.df X G
  obtain ⟨f31, fd31, D31⟩ := d31.df X G
  obtain ⟨f32, fd32, D32⟩ := d32.df X G
  obtain ⟨f33, fd33, D33⟩ := d33.df X G
  obtain ⟨f34, fd34, D34⟩ := d34.df X G
  obtain ⟨f35, fd35, D35⟩ := d35.df X G
  obtain ⟨f36, fd36, D36⟩ := d36.df X G
  obtain ⟨f37, fd37, D37⟩ := d37.df X G
  obtain ⟨f38, fd38, D38⟩ := d38.df X G
  obtain ⟨f39, fd39, D39⟩ := d39.df X G
  obtain ⟨f40, fd40, D40⟩ := d40.df X G
  obtain ⟨f41, fd41, D41⟩ := d41.df X G
  obtain ⟨f42, fd42, D42⟩ := d42.df X G
  obtain ⟨f43, fd43, D43⟩ := d43.df X G
  obtain ⟨f44, fd44, D44⟩ := d44.df X G
  obtain ⟨f, oc, od, kV, doc, pm, an, cdv, ct, osl, a, lk, c, k⟩ := d45
  have e := hfa.symm.trans (PySem.W.mg_of X G a)
  cases e
  refine ⟨PySem.W.fnOf "law" "law" (defArgs (top 45)) (defBody (top 45)) (defScope (top 45)) .none kV doc pm an cdv ct, fun s v => .of_eq rfl, fun base _ _ => ?_⟩
  have GN : FnOk l.prog w K mg base (CX1 l.prog w) 2 f27 fd27 ["text"] (spWholeOf CN) := ok_wholeOf D27.fn T B D29
  have GW : FnOk l.prog w K mg base (CX1 l.prog w) 2 f28 fd28 ["text"] (spWordOf CN) := ok_wordOf D28.fn T B D29 D12
  have GP : FnOk l.prog w K mg base (CX1 l.prog w) 3 f26 fd26 ["kind", "text"] (spPlainOf K CN) := ok_plainOf D26.fn D27 GN D28 GW
  have mN := PySem.W.mg_of X G gN
  have rN : RelV (.str "-") (.str "-" tN) := ⟨tN, rfl⟩
  have GU : FnOk l.prog w K mg base (CX1 l.prog w) 4 f25 fd25 ["kind", "text"] (spTOg K CN) := ok_tupleOfG D25.fn T B D29 D26 GP
  have GPN : FnOk l.prog w K mg base (CX1 l.prog w) 3 f24 fd24 ["text"] (spPOx CN) := ok_pointerNo D24.fn T mN rN D29 D27 GN
  have GO : FnOk l.prog w K mg base (CX1 l.prog w) 5 f23 fd23 ["kind", "text"] (spVO K CN) := ok_valueOf D23.fn T Y B D29 D26 GP D13 D11 D15 D14
  have GOl : FnOk l.prog w K mg base (CX1 l.prog w) 5 f23 fd23 ["kind", "text"] (spVOlg K CN) := ok_valueOfG D23.fn T Y B D29 D25 GU D13 D11 D15 D14
  have GOk : FnOk l.prog w K mg base (CX1 l.prog w) 4 f23 fd23 ["kind", "text"] (spVOkx K CN) := ok_valueNoK D23.fn Y D24 GPN
  have GR : FnOk l.prog w K mg base CX0 6 f40 fd40 ["_law_kind", "_law_text_here"] (spRef (spVO K CN) CN) := ok_refused (by decide) D40.fn B T R D23 GO D39
  have GRl : FnOk l.prog w K mg base CX0 6 f40 fd40 ["_law_kind", "_law_text_here"] (spRef (spVOlg K CN) CN) := ok_refused (by decide) D40.fn B T R D23 GOl D39
  have GRk : FnOk l.prog w K mg base CX0 5 f40 fd40 ["_law_kind", "_law_text_here"] (spRef (spVOkx K CN) CN) := ok_refused (by decide) D40.fn B T R D23 GOk D39
  have GV : ∀ n, FnOkW n l.prog w K mg base 3 f38 fd38 ["_law_kind", "_law_number"] (toW (spPVk K n)) := fun n => ok_pvW D38.fn B D37 D32 D33
  have GT : FnOk l.prog w K mg base CX0 7 f43 fd43 ["_law_kind", "_law_texts", "_law_bad", "_law_number"] (spTup K) := ok_tuples D43.fn B D40 GRl D23 GOl
  have GK : ∀ n, FnOkW n l.prog w K mg base 8 f44 fd44 ["_law_kind", "_law_cell_here", "_law_many"] (toW (spKL K n)) := fun n => ok_kindLaw D44.fn B D32 D38 (GV n) D34 D35 D42 D41 D40 GR D43 GT D23 GO
  exact ok_law (fun_mk lk c k) B D31 D36 D33 D44 GK D40 GR GRl GRk
end My
open PySem PySem.W PyProof.Rows
set_option maxRecDepth 100000 in
set_option maxHeartbeats 0 in
theorem PySem.Challenge.cw_halfmoved_k43_texts_that_are_no_values_holds : PySem.Challenge.rw_halfmoved_k43_texts_that_are_no_values.Holds := by
  w_on; o_law; k_head; (case hw => w_witness2)
  k_fill
  refine My.walk 9 (l := PySem.Challenge.rw_halfmoved_k43_texts_that_are_no_values) ⟨rfl, by decide, by decide⟩ rfl rfl (fun w h Y => PySem.W.kIn_of Y) ?F
  case F =>
    intro w mg fa h KX G hmg
    refine' My.all_mk KX G hmg ?gF ?gM ?gB ?gP ?gE ?kE ?gK ?lK ?gN ?aN ?aT ?a1 ?a2 ?a3 ?a4 ?a5 ?a6 ?xN ?xT ?iN ?un ?ha ?hn ?htk ?isN ?isV ?isO ?d11 ?d12 ?d13 ?d14 ?d15 ?d23 ?d24 ?d25 ?d26 ?d27 ?d28 ?d29 ?d31 ?d32 ?d33 ?d34 ?d35 ?d36 ?d37 ?d38 ?d39 ?d40 ?d41 ?d42 ?d43 ?d44 ?d45 ?zb ?zv
    (case gF => k_is)
    (case gM => k_is)
    (case gB => k_is)
    (case gP => k_is)
    (case gE => k_is)
    (case kE => rfl)
    (case gK => k_is)
    (case lK => k_is)
    (case gN => k_is)
    (case aN => k_is)
    (case aT => k_is)
    (case a1 => k_is)
    (case a2 => k_is)
    (case a3 => k_is)
    (case a4 => k_is)
    (case a5 => k_is)
    (case a6 => k_is)
    (case xN => refine' L2.xcl_mk ?l ?t ?ga ?gx ?sa ?kp; (case l => k_is); (case t => decide +kernel); (case ga => k_is); (case gx => k_is); (case sa => k_is); (case kp => k_is))
    (case xT => refine' L2.xcl_mk ?l ?t ?ga ?gx ?sa ?kp; (case l => k_is); (case t => decide +kernel); (case ga => k_is); (case gx => k_is); (case sa => k_is); (case kp => k_is))
    (case iN => k_is)
    (case un => k_is)
    (case ha => k_is)
    (case hn => k_is)
    (case htk => k_is)
    (case isN => first | k_is | rfl | decide +kernel)
    (case isV => first | k_is | rfl | decide +kernel)
    (case isO => first | k_is | rfl | decide +kernel)
    (case d11 => refine' L2.defIn_mk ?a ?l ?c ?k; (case a => k_is); (case l => k_is); (case c => k_is); (case k => k_is))
    (case d12 => refine' L2.defIn_mk ?a ?l ?c ?k; (case a => k_is); (case l => k_is); (case c => k_is); (case k => k_is))
    (case d13 => refine' L2.defIn_mk ?a ?l ?c ?k; (case a => k_is); (case l => k_is); (case c => k_is); (case k => k_is))
    (case d14 => refine' L2.defIn_mk ?a ?l ?c ?k; (case a => k_is); (case l => k_is); (case c => k_is); (case k => k_is))
    (case d15 => refine' L2.defIn_mk ?a ?l ?c ?k; (case a => k_is); (case l => k_is); (case c => k_is); (case k => k_is))
    (case d23 => refine' L2.defIn_mk ?a ?l ?c ?k; (case a => k_is); (case l => k_is); (case c => k_is); (case k => k_is))
    (case d24 => refine' L2.defIn_mk ?a ?l ?c ?k; (case a => k_is); (case l => k_is); (case c => k_is); (case k => k_is))
    (case d25 => refine' L2.defIn_mk ?a ?l ?c ?k; (case a => k_is); (case l => k_is); (case c => k_is); (case k => k_is))
    (case d26 => refine' L2.defIn_mk ?a ?l ?c ?k; (case a => k_is); (case l => k_is); (case c => k_is); (case k => k_is))
    (case d27 => refine' L2.defIn_mk ?a ?l ?c ?k; (case a => k_is); (case l => k_is); (case c => k_is); (case k => k_is))
    (case d28 => refine' L2.defIn_mk ?a ?l ?c ?k; (case a => k_is); (case l => k_is); (case c => k_is); (case k => k_is))
    (case d29 => refine' L2.defIn_mk ?a ?l ?c ?k; (case a => k_is); (case l => k_is); (case c => k_is); (case k => k_is))
    (case d31 => refine' L2.defIn_mk ?a ?l ?c ?k; (case a => k_is); (case l => k_is); (case c => k_is); (case k => k_is))
    (case d32 => refine' L2.defIn_mk ?a ?l ?c ?k; (case a => k_is); (case l => k_is); (case c => k_is); (case k => k_is))
    (case d33 => refine' L2.defIn_mk ?a ?l ?c ?k; (case a => k_is); (case l => k_is); (case c => k_is); (case k => k_is))
    (case d34 => refine' L2.defIn_mk ?a ?l ?c ?k; (case a => k_is); (case l => k_is); (case c => k_is); (case k => k_is))
    (case d35 => refine' L2.defIn_mk ?a ?l ?c ?k; (case a => k_is); (case l => k_is); (case c => k_is); (case k => k_is))
    (case d36 => refine' L2.defIn_mk ?a ?l ?c ?k; (case a => k_is); (case l => k_is); (case c => k_is); (case k => k_is))
    (case d37 => refine' L2.defIn_mk ?a ?l ?c ?k; (case a => k_is); (case l => k_is); (case c => k_is); (case k => k_is))
    (case d38 => refine' L2.defIn_mk ?a ?l ?c ?k; (case a => k_is); (case l => k_is); (case c => k_is); (case k => k_is))
    (case d39 => refine' L2.defIn_mk ?a ?l ?c ?k; (case a => k_is); (case l => k_is); (case c => k_is); (case k => k_is))
    (case d40 => refine' L2.defIn_mk ?a ?l ?c ?k; (case a => k_is); (case l => k_is); (case c => k_is); (case k => k_is))
    (case d41 => refine' L2.defIn_mk ?a ?l ?c ?k; (case a => k_is); (case l => k_is); (case c => k_is); (case k => k_is))
    (case d42 => refine' L2.defIn_mk ?a ?l ?c ?k; (case a => k_is); (case l => k_is); (case c => k_is); (case k => k_is))
    (case d43 => refine' L2.defIn_mk ?a ?l ?c ?k; (case a => k_is); (case l => k_is); (case c => k_is); (case k => k_is))
    (case d44 => refine' L2.defIn_mk ?a ?l ?c ?k; (case a => k_is); (case l => k_is); (case c => k_is); (case k => k_is))
    (case d45 => refine' L2.defIn_mk ?a ?l ?c ?k; (case a => k_is); (case l => k_is); (case c => k_is); (case k => k_is))
    (case zb => refine' My.BlK.mk ?b0 ?b1 ?b2 ?b3 ?b4 ?b5 ?b6 ?b7 ?b8 ?b9 ?b10 ?b11 ?b12 ?b13 ?b14 ?b15; (case b0 => k_is); (case b1 => k_is); (case b2 => k_is); (case b3 => k_is); (case b4 => k_is); (case b5 => k_is); (case b6 => k_is); (case b7 => k_is); (case b8 => k_is); (case b9 => k_is); (case b10 => k_is); (case b11 => k_is); (case b12 => k_is); (case b13 => k_is); (case b14 => k_is); (case b15 => k_is))
    (case zv => k_is)
#print axioms PySem.Challenge.cw_halfmoved_k43_texts_that_are_no_values_holds

