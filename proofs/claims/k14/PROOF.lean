import PyProof.Rows.All
import Wide.All
import OpenK.AllK
import Wide.FinOn
import Lean
import PyProof.EqAt
import PyProof.EqKinds
import PyProof.TupleCall
import PyProof.StrBlock
import PyProof.StrBlockL
import PyProof.Rows.StrJoin2
import KE.KIntText
import PyProof.StrCalls6
import PyProof.StationsW
import PyProof.RulesTry
import PyProof.InstStoreFacts
import PyProof.ExcBaseAll.ValueError
import PyProof.ExcAttrAll.ValueError
import PyProof.NsDelKeeps
import KE.KTabLook
import PyProof.MeetsStr
import PyProof.ZipIter
import PyProof.TupleIter
import PyProof.ListRange
import KE.KPar
import KE.KDictSum
import PyProof.EnumMake
import PyProof.EnumStmt
import KE.KSortTup
import PyProof.NeKinds
import PyProof.AttrMissSeq
import KE.KDictOf
import PyProof.FactsAll.set_2
import PyProof.Rows.SetFrom
import PyProof.CollectWalk
import KE.KRevIter
import PyProof.CollectIter
import PyProof.WalkInts
import PyProof.ListNew
import PyProof.FactsAll.enumerate_1
import PyProof.DictValues
import PyProof.FactsAll.dict_valueiterator_1
import PySem.Challenge.RW_halfmoved_k14_steps_that_do_not_fit
set_option Elab.async false
set_option linter.all false
set_option maxRecDepth 100000
set_option maxHeartbeats 4000000
namespace L2
theorem ln0 {α:Type} {l:List α} (h:l.length = 0):l = []:=List.eq_nil_of_length_eq_zero h
theorem ln1 {α:Type} {l:List α} (h:l.length = 1):∃ a,l = [a]:=List.length_eq_one_iff.mp h
theorem ln2 {α:Type} {l:List α} (h:l.length = 2):∃ a b,l = [a,b]:=by
 cases l with
 | nil=>cases h
 | cons a r=>obtain ⟨b,rfl⟩:=ln1 (Nat.succ.inj h);exact ⟨a,b,rfl⟩
theorem ln3 {α:Type} {l:List α} (h:l.length = 3):∃ a b c,l = [a,b,c]:=by
 cases l with
 | nil=>cases h
 | cons a r=>obtain ⟨b,c,rfl⟩:=ln2 (Nat.succ.inj h);exact ⟨a,b,c,rfl⟩
theorem ln4 {α:Type} {l:List α} (h:l.length = 4):∃ a b c d,l = [a,b,c,d]:=by
 cases l with
 | nil=>cases h
 | cons a r=>obtain ⟨b,c,d,rfl⟩:=ln3 (Nat.succ.inj h);exact ⟨a,b,c,d,rfl⟩
end L2
namespace L2
open PySem PySem.Spec PyProof.Rows
abbrev Key:=Sum Int Str
def keyIs:Key->Value->Bool
 | .inl k,v=>Value.isInt k v
 | .inr x,v=>Value.isStrOf x v
def keyH (w:World):Key->Int
 | .inl k=>hashInt k
 | .inr x=>hashStr w x
theorem keyIs_shape:∀ {k:Key} {v:Value},keyIs k v = true->(∃ i t,k = Sum.inl i/\v = Value.int i t)\/(∃ x t,k = Sum.inr x/\v = Value.str x t)
 | .inl i,v,h=>by
  obtain ⟨t,e⟩:=Value.isInt_shape (k:=i) (v:=v) h
  exact .inl ⟨i,t,rfl,e⟩
 | .inr x,v,h=>by
  obtain ⟨t,e⟩:=Value.isStrOf_shape (x:=x) (v:=v) h
  exact .inr ⟨x,t,rfl,e⟩
theorem keyIs_int (i:Int) (t:Tok):keyIs (.inl i) (.int i t) = true:=by simp [keyIs,Value.isInt]
theorem keyIs_str (x:Str) (t:Tok):keyIs (.inr x) (.str x t) = true:=by simp [keyIs,Value.isStrOf]
theorem key_ll (a b:Int):decide ((Sum.inl a:Key) = Sum.inl b) = (a == b):=by
 by_cases e:a = b
 ·subst e;simp
 ·have h:¬ (Sum.inl a:Key) = Sum.inl b:=fun q=>e (Sum.inl.inj q)
  rw [decide_eq_false h]
  exact (beq_eq_false_iff_ne.mpr e).symm
theorem key_rr (a b:Str):decide ((Sum.inr a:Key) = Sum.inr b) = decide (a = b):=by
 by_cases e:a = b
 ·subst e;simp
 ·have h:¬ (Sum.inr a:Key) = Sum.inr b:=fun q=>e (Sum.inr.inj q)
  rw [decide_eq_false h,decide_eq_false e]
theorem key_lr (a:Int) (b:Str):decide ((Sum.inl a:Key) = Sum.inr b) = false:=decide_eq_false (fun q=>nomatch q)
theorem key_rl (a:Str) (b:Int):decide ((Sum.inr a:Key) = Sum.inl b) = false:=decide_eq_false (fun q=>nomatch q)
def mixKind (prog:Program) (w:World):PySem.KeyKind prog w Key where
 is:=keyIs
 hash:=keyH w
 inj:=fun v a b ha hb=>by
  rcases keyIs_shape ha with ⟨i,t,rfl,rfl⟩ | ⟨x,t,rfl,rfl⟩
  ·rcases keyIs_shape hb with ⟨j,u,rfl,e⟩ | ⟨y,u,rfl,e⟩
   ·injection e with e1 _;rw [e1]
   ·exact nomatch e
  ·rcases keyIs_shape hb with ⟨j,u,rfl,e⟩ | ⟨y,u,rfl,e⟩
   ·exact nomatch e
   ·injection e with e1 _;rw [e1]
 byValue:=fun k v h=>by
  rcases keyIs_shape h with ⟨i,t,rfl,rfl⟩ | ⟨x,t,rfl,rfl⟩ <;> rfl
 pyHash:=fun hv h=>by
  rcases keyIs_shape hv with ⟨i,t,rfl,rfl⟩ | ⟨x,t,rfl,rfl⟩
  ·exact wpAny_pyHash_int h
  ·exact wpAny_pyHash_str h
 eqBool:=fun hu hv h=>by
  rcases keyIs_shape hu with ⟨i,t,rfl,rfl⟩ | ⟨x,t,rfl,rfl⟩
  ·rcases keyIs_shape hv with ⟨j,u,rfl,rfl⟩ | ⟨y,u,rfl,rfl⟩
   ·rw [key_ll] at h;exact wpAny_eqBool_int h
   ·rw [key_lr] at h;exact SeqAt.EqAt.int_str i t y u _ _ _ _ h
  ·rcases keyIs_shape hv with ⟨j,u,rfl,rfl⟩ | ⟨y,u,rfl,rfl⟩
   ·rw [key_rl] at h;exact SeqAt.EqAt.str_int x t j u _ _ _ _ h
   ·rw [key_rr] at h;exact wpAny_eqBool_str h
 «strs»:=fun k x t v h=>by
  rcases keyIs_shape h with ⟨i,u,rfl,e⟩ | ⟨y,u,rfl,e⟩
  ·exact nomatch e
  ·injection e with e1 _
   subst e1
   cases v <;> rfl
theorem mixKind_int (prog:Program) (w:World) (i:Int) (t:Tok):(mixKind prog w).is (.inl i) (.int i t) = true:=keyIs_int i t
theorem mixKind_str (prog:Program) (w:World) (x:Str) (t:Tok):(mixKind prog w).is (.inr x) (.str x t) = true:=keyIs_str x t
end L2
namespace L2
open PySem PySem.Spec PyProof.Rows
inductive V where
 | non | bl (b:Bool) | int (i:Int) | str (x:Str) | byt (b:Array UInt8) | flt (b:UInt64) | ref (a:Addr) | ty (n:String)
 deriving DecidableEq
def RelV:V->Value->Prop
 | .non,u=>u = Value.none
 | .bl b,u=>u = Value.bool b
 | .int i,u=>∃ t,u = Value.int i t
 | .str x,u=>∃ t,u = Value.str x t
 | .byt b,u=>∃ t,u = Value.bytes b t
 | .flt b,u=>∃ t,u = Value.float b t
 | .ref a,u=>u = Value.ref a
 | .ty n,u=>u = Value.type n
abbrev Vals:List V->List Value->Prop:=Paired RelV
theorem Vals.length {xs:List V} {us:List Value} (r:Vals xs us):xs.length = us.length:=Paired.length r
theorem Vals.get:∀ {xs:List V} {us:List Value} {i:Nat} {x:V},Vals xs us->xs[i]? = some x->∃ u,us[i]? = some u/\RelV x u
 | _,_,_,_,.nil,e=>by simp at e
 | _,_,0,_,.cons r _,e=>by simp at e;subst e;exact ⟨_,rfl,r⟩
 | _,_,i + 1,x,.cons _ t,e=>by
  obtain ⟨u,h1,h2⟩:=Vals.get (i:=i) (x:=x) t (by simpa using e)
  exact ⟨u,by simpa using h1,h2⟩
theorem Vals.append:∀ {xs ys:List V} {us ws:List Value},Vals xs us->Vals ys ws->Vals (xs ++ ys) (us ++ ws)
 | _,_,_,_,.nil,s=>s
 | _,_,_,_,.cons r t,s=>.cons r (Vals.append t s)
theorem Vals.take:∀ {xs:List V} {us:List Value} (n:Nat),Vals xs us->Vals (xs.take n) (us.take n)
 | _,_,0,_=>.nil
 | _,_,_ + 1,.nil=>.nil
 | _,_,n + 1,.cons r t=>.cons r (Vals.take n t)
theorem Vals.drop:∀ {xs:List V} {us:List Value} (n:Nat),Vals xs us->Vals (xs.drop n) (us.drop n)
 | _,_,0,r=>r
 | _,_,_ + 1,.nil=>.nil
 | _,_,n + 1,.cons _ t=>Vals.drop n t
def RelO:Option V->Option Value->Prop
 | some v,some u=>RelV v u
 | none,none=>True
 | _,_=>False
def KV {κ:Type}:List (κ × V)->List (κ × Value)->Prop:=Paired fun (p:κ × V) (q:κ × Value)=>p.1 = q.1/\RelV p.2 q.2
def kV:Key->V
 | .inl i=>.int i
 | .inr x=>.str x
inductive HO where
 | lst (xs:List V)
 | tup (xs:List V)
 | dK (kvs:List (Key × V)) | dT (kvs:List (List Key × V))
 | set (S:Int->Bool) (n:Nat)
 | ins (C dx:Addr) (fs:List (Str × V))
 | own (x:Addr)
 | xd (fs:List (Str × V))
 | met (f x:Addr)
 | rng (lo hi:Int)
 | frz (o:Obj) (u:HO)
 | tbl (ps:Array Value)
 | ext (φ:Heap->Prop)
abbrev Hp:=Addr->Option HO
def upd (H:Hp) (a:Addr) (o:HO):Hp:=fun b=>if b = a then some o else H b
theorem upd_same {H:Hp} {a:Addr} {o:HO}:upd H a o a = some o:=by unfold upd;rw [if_pos rfl]
theorem upd_ne {H:Hp} {a b:Addr} {o:HO} (h:b ≠ a):upd H a o b = H b:=by unfold upd;rw [if_neg h]
theorem ne_of {H:Hp} {a b:Addr} {o u:HO} (h:H a = some o) (h':H b = some u) (d:o ≠ u):a ≠ b:=by
 intro e;subst e;rw [h] at h';exact d (Option.some.inj h')
theorem ne_of_none {H:Hp} {a b:Addr} {o:HO} (h:H a = some o) (h':H b = none):a ≠ b:=by
 intro e;subst e;rw [h] at h';cases h'
section
variable (P:Program) (w:World)
def ObjOk (H:Hp) (h:Heap) (a:Addr):HO->Prop
 | .lst xs=>xs.length ≤ sizeLine/\∃ (its:List Value) (n:Nat),Vals xs its/\h.get? a = some { cls:=.type "list",data:=.seq its.toArray n }
 | .tup xs=>xs.length ≤ sizeLine/\∃ its:List Value,Vals xs its/\IsTup h a its.toArray
 | .dK kvs=>kvs.length ≤ sizeLine/\(a == sysModules) = false/\∃ vs,KV kvs vs/\h.DictOf (mixKind P w) a vs
 | .dT kvs=>kvs.length ≤ sizeLine/\(a == sysModules) = false/\∃ xs:List (List Key × Addr × Value),
   Paired (fun (p:List Key × V) (q:List Key × Addr × Value)=>p.1 = q.1/\H q.2.1 = some (.tup (p.1.map kV))/\RelV p.2 q.2.2) kvs xs ∧
   ∃ o es ep,h.get? a = some o/\o.ExactDict/\o.data = .dict es ep/\es.toList = xs.map (entryOfKey (tupleKind (mixKind P w)))/\(xs.map (·.1)).Nodup
 | .set S n=>h.SetOf (intKind P w) a S n
 | .ins C dx fs=>H dx = some (.own a)/\fs.length ≤ 1000/\dx ≠ a/\h.get? a = some (PySem.W.instObj C dx) ∧
   ∃ mA,h.Ns1 dx mA/\(∀ f,RelO (fs.lookup f) (mA f))/\PySem.Within mA (fs.map (·.1))
 | .own _=>∃ o,h.get? a = some o
 | .xd fs=>∃ mA,h.Ns1 a mA/\∀ f,RelO (fs.lookup f) (mA f)
 | .rng lo hi=>∃ t u v,h.get? a = some { cls:=.type "range",data:=.fields #[.int lo t,.int hi u,.int 1 v] }
 | .frz o u=>h.get? a = some o/\ObjOk H h a u
 | .tbl ps=>h.get? a = some { cls:=.none,data:=.fields ps }
 | .met f x=>h.get? a = some (PySem.W.methodObj (.ref f) (.ref x))
 | .ext φ=>φ h/\(∃ o,h.get? a = some o)/\∀ h1 h2:Heap,φ h1->(∀ o,h1.get? a = some o->h2.get? a = some o)->φ h2
def HOk (H:Hp) (h:Heap):Prop:=∀ a o,H a = some o->ObjOk P w H h a o
end
section
variable {P:Program} {w:World} {H H':Hp} {h h':Heap} {a:Addr} {o:HO}
theorem ObjOk.lt (x:ObjOk P w H h a o):a < h.objs.size:=by
 cases o with
 | lst xs=>obtain ⟨_,_,_,_,e⟩:=x;exact Heap.lt_size e
 | tup xs=>obtain ⟨_,_,_,p⟩:=x;exact p.lt
 | dK kvs=>obtain ⟨_,_,_,_,o,_,_,e,_⟩:=x;exact Heap.lt_size e
 | dT kvs=>obtain ⟨_,_,_,_,o,_,_,e,_⟩:=x;exact Heap.lt_size e
 | set S n=>obtain ⟨o,_,_,_,e,_⟩:=x;exact Heap.lt_size e
 | ins C dx fs=>obtain ⟨_,_,_,e,_⟩:=x;exact Heap.lt_size e
 | own y=>obtain ⟨_,e⟩:=x;exact Heap.lt_size e
 | xd fs=>obtain ⟨_,⟨_,_,_,e,_⟩,_⟩:=x;exact Heap.lt_size e
 | rng lo hi=>obtain ⟨_,_,_,e⟩:=x;exact Heap.lt_size e
 | frz ob u=>obtain ⟨e,_⟩:=x;exact Heap.lt_size e
 | tbl ps=>exact Heap.lt_size (show h.get? a = some _ from x)
 | met f y=>exact Heap.lt_size (show h.get? a = some _ from x)
 | ext φ=>obtain ⟨_,⟨_,e⟩,_⟩:=x;exact Heap.lt_size e
theorem Paired.mapP {α β:Type} {F G:α->β->Prop}:∀ {l₁:List α} {l₂:List β},Paired F l₁ l₂->(∀ a b,F a b->G a b)->Paired G l₁ l₂
 | _,_,.nil,_=>.nil
 | _,_,.cons r t,f=>.cons (f _ _ r) (Paired.mapP t f)
theorem ObjOk.stay (x:ObjOk P w H h a o) (k:∀ b u,(b = a\/H b = some (.own a))->h.get? b = some u->h'.get? b = some u)
  (ho:∀ b,H b = some (.own a)->H' b = some (.own a)) (ht:∀ b xs,H b = some (.tup xs)->H' b = some (.tup xs)):ObjOk P w H' h' a o:=by
 induction o with
 | lst xs=>obtain ⟨z,its,n,r,e⟩:=x;exact ⟨z,its,n,r,k _ _ (.inl rfl) e⟩
 | tup xs=>obtain ⟨z,its,r,ob,e,c⟩:=x;exact ⟨z,its,r,ob,k _ _ (.inl rfl) e,c⟩
 | dK kvs=>obtain ⟨z,y,vs,r,ob,es,ep,e,c⟩:=x;exact ⟨z,y,vs,r,ob,es,ep,k _ _ (.inl rfl) e,c⟩
 | dT kvs=>
  obtain ⟨z,y,xs,r,ob,es,ep,e,c⟩:=x
  exact ⟨z,y,xs,Paired.mapP r fun p q z=>⟨z.1,ht _ _ z.2.1,z.2.2⟩,ob,es,ep,k _ _ (.inl rfl) e,c⟩
 | set S n=>obtain ⟨ob,es,ep,t,e,c⟩:=x;exact ⟨ob,es,ep,t,k _ _ (.inl rfl) e,c⟩
 | ins C dx fs=>
  obtain ⟨d,z,ne,e,mA,⟨od,es,ep,e2,c⟩,r⟩:=x
  exact ⟨ho _ d,z,ne,k _ _ (.inl rfl) e,mA,⟨od,es,ep,k _ _ (.inr d) e2,c⟩,r⟩
 | own y=>obtain ⟨ob,e⟩:=x;exact ⟨ob,k _ _ (.inl rfl) e⟩
 | xd fs=>obtain ⟨mA,⟨od,es,ep,e,c⟩,r⟩:=x;exact ⟨mA,⟨od,es,ep,k _ _ (.inl rfl) e,c⟩,r⟩
 | rng lo hi=>obtain ⟨t,u,v,e⟩:=x;exact ⟨t,u,v,k _ _ (.inl rfl) e⟩
 | frz ob u ih=>obtain ⟨e,q⟩:=x;exact ⟨k _ _ (.inl rfl) e,ih q⟩
 | tbl ps=>
  have e:h.get? a = some { cls:=.none,data:=.fields ps }:=x
  show h'.get? a = some { cls:=.none,data:=.fields ps }
  exact k a _ (.inl rfl) e
 | met f y=>
  have e:h.get? a = some (PySem.W.methodObj (.ref f) (.ref y)):=x
  show h'.get? a = some (PySem.W.methodObj (.ref f) (.ref y))
  exact k a _ (.inl rfl) e
 | ext φ=>obtain ⟨p,⟨o,e⟩,st⟩:=x;exact ⟨st _ _ p fun o q=>k _ _ (.inl rfl) q,⟨o,k _ _ (.inl rfl) e⟩,st⟩
theorem HOk.lt (x:HOk P w H h) (e:H a = some o):a < h.objs.size:=(x a o e).lt
theorem HOk.fresh (x:HOk P w H h) (e:h.objs.size ≤ a):H a = none:=by
 cases q:H a with
 | none=>rfl
 | some u=>exact absurd (Nat.lt_of_lt_of_le (x.lt q) e) (Nat.lt_irrefl _)
theorem HOk.kept (x:HOk P w H h) (k:∀ b u,h.get? b = some u->h'.get? b = some u):HOk P w H h':=fun a o e=>
 (x a o e).stay (fun b u _ q=>k b u q) (fun _ q=>q) fun _ _ q=>q
theorem HOk.laid (x:HOk P w H h) (k:∀ b u,h.get? b = some u->h'.get? b = some u) (hp:h.objs.size ≤ a) (new:ObjOk P w (upd H a o) h' a o):HOk P w (upd H a o) h':=fun b u e=>by
 have hn:=x.fresh hp
 by_cases hb:b = a
 ·subst hb;rw [upd_same] at e;cases e;exact new
 ·rw [upd_ne hb] at e
  exact (x b u e).stay (fun c v _ q=>k c v q) (fun c q=>by rw [upd_ne (ne_of_none q hn)];exact q) fun c xs q=>by rw [upd_ne (ne_of_none q hn)];exact q
end
def Rd (H:Hp) (a:Addr) (u:HO):Prop:=H a = some u\/∃ o,H a = some (.frz o u)
theorem Rd.ok {P:Program} {w:World} {H:Hp} {h:Heap} {a:Addr} {u:HO} (r:Rd H a u) (x:HOk P w H h):ObjOk P w H h a u:=by
 rcases r with r | ⟨o,r⟩
 ·exact x a u r
 ·obtain ⟨_,q⟩:=x a _ r
  exact q
def Mut:Option HO->Prop
 | some (.lst _)=>True
 | some (.dK _)=>True
 | some (.dT _)=>True
 | some (.set _ _)=>True
 | some (.ins _ _ _)=>True
 | some (.ext _)=>True
 | _=>False
section
variable {P:Program} {w:World} {H:Hp} {h h':Heap} {x e:Addr} {o':HO}
theorem HOk.write (ok:HOk P w H h) (mu:Mut (H x)) (he:e = x\/H e = some (.own x)) (k:∀ b u,b ≠ e->h.get? b = some u->h'.get? b = some u) (heo:∃ u,h'.get? e = some u)
  (new:ObjOk P w (upd H x o') h' x o'):HOk P w (upd H x o') h':=fun b u q=>by
 have nown:∀ c y,H c = some (.own y)->c ≠ x:=fun c y r z=>by subst z;rw [r] at mu;exact mu
 have ntup:∀ c xs,H c = some (.tup xs)->c ≠ x:=fun c xs r z=>by subst z;rw [r] at mu;exact mu
 by_cases hb:b = x
 ·subst hb;rw [upd_same] at q;cases q;exact new
 ·rw [upd_ne hb] at q
  by_cases hbe:b = e
  ·have q':H b = some (.own x):=by
    rcases he with z | z
    ·exact absurd (hbe.trans z) hb
    ·rw [hbe];exact z
   rw [q] at q';cases q'
   obtain ⟨v,hv⟩:=heo
   exact ⟨v,by rw [hbe];exact hv⟩
  ·refine (ok b u q).stay (fun c v hc r=>k c v ?_ r) (fun c r=>by rw [upd_ne (nown c b r)];exact r) fun c xs r=>by rw [upd_ne (ntup c xs r)];exact r
   rcases hc with rfl | hc
   ·exact hbe
   ·rintro rfl
    rcases he with z | z
    ·exact nown c b hc z
    ·rw [hc] at z;cases z;exact hb rfl
end
structure Un (fs ex:List Addr) (H H':Hp) (h h':Heap):Prop where
 keep:∀ b o,h.get? b = some o->H b = none->b ∉ fs->b ∉ ex->h'.get? b = some o
 slot:∀ b o,h.get? b = some o->H b = none->b ∈ fs->b ∉ ex->∃ sl,h'.get? b = some { o with slots:=sl }
 free:∀ b o,h.get? b = some o->H b = none->b ∉ ex->H' b = none
 there:∀ b o,h.get? b = some o->b ∉ ex->∃ o',h'.get? b = some o'
 tups:∀ b xs,H b = some (.tup xs)->H' b = some (.tup xs)
 frzs:∀ b o u,H b = some (.frz o u)->H' b = some (.frz o u)
 tbls:∀ b ps,H b = some (.tbl ps)->∃ more,H' b = some (.tbl (ps ++ more))
section
variable {fs fs' ex ex':List Addr} {H H1 H2:Hp} {h h1 h2 h':Heap} {a x e:Addr} {o:HO}
theorem Un.any (u:Un fs ex H H1 h h1) {b:Addr} {ob:Obj} (q:h.get? b = some ob) (n:H b = none) (hx:b ∉ ex):∃ sl,h1.get? b = some { ob with slots:=sl }:=by
 by_cases hb:b ∈ fs
 ·exact u.slot b ob q n hb hx
 ·exact ⟨ob.slots,u.keep b ob q n hb hx⟩
theorem Un.kept (k:∀ b u,h.get? b = some u->h'.get? b = some u):Un fs ex H H h h':=
 ⟨fun b ob q _ _ _=>k b ob q,fun b ob q _ _ _=>⟨ob.slots,k b ob q⟩,fun _ _ _ n _=>n,fun b ob q _=>⟨ob,k b ob q⟩,fun _ _ q=>q,fun _ _ _ q=>q,fun _ ps q=>⟨#[],by rw [q];simp⟩⟩
theorem Un.refl:Un fs ex H H h h:=Un.kept fun _ _ q=>q
theorem Un.laid (k:∀ b u,h.get? b = some u->h'.get? b = some u) (hp:h.objs.size ≤ a) (hn:H a = none):Un fs ex H (upd H a o) h h' where
 keep:=fun b u q _ _ _=>k b u q
 slot:=fun b u q _ _ _=>⟨u.slots,k b u q⟩
 free:=fun b u q n _=>by rw [upd_ne (Nat.ne_of_lt (Nat.lt_of_lt_of_le (Heap.lt_size q) hp))];exact n
 there:=fun b u q _=>⟨u,k b u q⟩
 tups:=fun b xs q=>by rw [upd_ne (ne_of_none q hn)];exact q
 frzs:=fun b u xs q=>by rw [upd_ne (ne_of_none q hn)];exact q
 tbls:=fun b ps q=>⟨#[],by rw [upd_ne (ne_of_none q hn),q];simp⟩
theorem Un.write (mu:Mut (H x)) (he:e = x\/H e = some (.own x)) (k:∀ b u,b ≠ e->h.get? b = some u->h'.get? b = some u) (heo:∃ u,h'.get? e = some u):Un fs ex H (upd H x o) h h':=by
 have hx:∀ b,H b = none->b ≠ x:=fun b n z=>by subst z;rw [n] at mu;exact mu
 have hb:∀ b,H b = none->b ≠ e:=fun b n z=>by
  subst z
  rcases he with r | r
  ·exact hx b n r
  ·rw [n] at r;cases r
 have hm:∀ b u,H b = some u->¬ Mut (some u)->b ≠ x:=fun b u q nm z=>by subst z;rw [q] at mu;exact nm mu
 refine ⟨fun b u q n _ _=>k b u (hb b n) q,fun b u q n _ _=>⟨u.slots,k b u (hb b n) q⟩,fun b u q n _=>by rw [upd_ne (hx b n)];exact n,fun b u q _=>?_,
  fun b xs q=>by rw [upd_ne (hm b _ q fun z=>z)];exact q,fun b u xs q=>by rw [upd_ne (hm b _ q fun z=>z)];exact q,fun b ps q=>⟨#[],by rw [upd_ne (hm b _ q fun z=>z),q];simp⟩⟩
 by_cases hbe:b = e
 ·subst hbe;exact heo
 ·exact ⟨u,k b u hbe q⟩
end
def trk (h:Heap) (H:Hp):List Addr:=(List.range h.objs.size).filter fun a=>(H a).isSome
def hidT (h:Heap) (H:Hp):Heap:=PySem.W.hideAll h (trk h H)
theorem hidT_size (h:Heap) (H:Hp):(hidT h H).objs.size = h.objs.size:=PySem.W.hideAll_size _ _
theorem hidT_get {h:Heap} {H:Hp} {b:Addr} {o:Obj} (e:h.get? b = some o) (n:H b = none):(hidT h H).get? b = some o:=
 PySem.W.hideAll_get _ e fun hm=>by
  have q:(H b).isSome = true:=(List.mem_filter.mp hm).2
  rw [n] at q;simp at q
theorem of_hidT {h:Heap} {H:Hp} {b:Addr} {o:Obj} (e:(hidT h H).get? b = some o):h.get? b = some o/\H b = none:=by
 have e':h.get? b = some o:=PySem.W.of_hideAll (trk h H) e
 refine ⟨e',?_⟩
 cases q:H b with
 | none=>rfl
 | some x=>
  have hm:b ∈ trk h H:=List.mem_filter.mpr ⟨List.mem_range.mpr (Heap.lt_size e'),by simp [q]⟩
  have z:(hidT h H).get? b = none:=PySem.W.hideAll_none (trk h H) hm
  rw [z] at e;cases e
end L2
namespace L2
open PySem PySem.Spec PyProof.Rows
structure Mod (K:PySem.W.Frag) (mg:Str->Option Value) (base:Heap):Prop where
 kin:K.In base
 glob:base.Ns mainGlobals mg
 blt:∃ mb,base.Ns builtinsNs mb/\∀ x:Str,x ≠ "__name__"->mb x = bootBuiltins x
 nolimit:base.NoLimit
structure Cx where
 prog:Program
 w:World
 K:PySem.W.Frag
 mg:Str->Option Value
 base:Heap
 A:Around
 N:List Str
 s₀:Shared
 H₀:Hp
 env:Env
 outer:List Env
 stack:List Env
 ex:List Addr
 fn:Str->Bool
 calm:Bool
 pn:List (Addr × Obj)
 xe:Value->Shared->Prop
def frs (l:List Env):List Addr:=l.filterMap (·.frame)
abbrev Cx.fs (X:Cx):List Addr:=frs X.outer
def Vis (sc:Scope) (x:Str):Prop:=sc.names.lookup x = some .local\/sc.names.lookup x = some .cell\/sc.names.lookup x = some .free
def Loc (sc:Scope) (x:Str):Prop:=sc.names.lookup x = some .local\/sc.names.lookup x = some .cell
def Look (env:Env) (h:Heap) (m:Str->Option Value) (x:Str) (u:Value):Prop:=
 (env.kindOf x = some .local/\m x = some u)\/((env.kindOf x = some .cell\/env.kindOf x = some .free)/\∃ c,env.cells.lookup x = some c/\h.IsCell c (some u))
structure Cx.Ok (X:Cx):Prop where
 mod:Mod X.K X.mg X.base
 kind:X.env.scope.kind = .function
 glob:X.env.globals = mainGlobals
 blt:X.env.builtins = builtinsNs
 above:X.s₀.heap.objs.size ≤ X.env.locals
 inj:∀ x y c,X.env.cells.lookup x = some c->X.env.cells.lookup y = some c->x = y
 has:∀ x,(X.env.kindOf x = some .cell\/X.env.kindOf x = some .free)->∃ c,X.env.cells.lookup x = some c
 cab:∀ x c,X.fn x = true->X.env.cells.lookup x = some c->X.s₀.heap.objs.size ≤ c
 hd:X.calm = true->X.A.handled = none
 frames:X.A.frames = some X.stack
 stk:X.stack = X.outer\/(X.stack = X.env :: X.outer/\X.env.frame = some X.env.locals)
 exf:∀ b ∈ X.ex,b ≠ X.env.locals/\∀ x c,X.env.cells.lookup x = some c->c ≠ b
 bs:∀ b o,X.base.get? b = some o->X.s₀.heap.get? b = some o/\X.H₀ b = none
 bsz:X.base.objs.size ≤ X.s₀.heap.objs.size
 noex:∀ b o,X.base.get? b = some o->b ∉ X.ex
 exfs:∀ b ∈ X.ex,b ∉ X.fs
 funs:X.s₀.heap.FunFrames X.base X.outer
 frf:∀ b ∈ X.fs,X.H₀ b = none
structure Inv (X:Cx) (pins:List (Addr × Obj)) (σ:List (Option V)) (H:Hp) (s:Shared):Prop where
 ok:X.Ok
 os:s.os = X.s₀.os
 bare:AllBare s.gens
 base:Un X.fs X.ex X.H₀ H X.s₀.heap s.heap
 loc:∃ m,s.heap.Ns X.env.locals m/\∀ (i:Nat) (x:Str) (v:V),X.N[i]? = some x->σ[i]? = some (some v)->Vis X.env.scope x->∃ u,RelV v u/\Look X.env s.heap m x u
 cell:∀ x c,X.env.cells.lookup x = some c->∃ v,s.heap.IsCell c v
 free:H X.env.locals = none
 freeC:∀ x c,X.env.cells.lookup x = some c->H c = none
 pin:∀ p ∈ X.pn ++ pins,s.heap.get? p.1 = some p.2/\H p.1 = none/\p.1 ≠ X.env.locals/\p.1 ∉ X.fs/\∀ v,p.2.data ≠ .cell v
 hok:HOk X.prog X.w H s.heap
 len:σ.length = X.N.length
section
variable {X:Cx} {pins:List (Addr × Obj)} {σ:List (Option V)} {H H':Hp} {s:Shared} {h':Heap}
theorem Cx.Ok.nofr (ok:X.Ok) {b:Addr} {o:Obj} (e:X.base.get? b = some o):b ∉ X.fs:=fun hb=>by
 have:=(ok.funs.mem hb).1
 rw [e] at this;cases this
theorem Inv.bs (I:Inv X pins σ H s):∀ b o,X.base.get? b = some o->s.heap.get? b = some o/\H b = none:=fun b o e=>
 ⟨I.base.keep b o (I.ok.bs b o e).1 (I.ok.bs b o e).2 (I.ok.nofr e) (I.ok.noex b o e),I.base.free b o (I.ok.bs b o e).1 (I.ok.bs b o e).2 (I.ok.noex b o e)⟩
theorem Inv.bk (I:Inv X pins σ H s):∀ b o,X.base.get? b = some o->s.heap.get? b = some o:=fun b o e=>(I.bs b o e).1
theorem Inv.mod (I:Inv X pins σ H s):Mod X.K X.mg X.base:=I.ok.mod
theorem Inv.kIn (I:Inv X pins σ H s):X.K.In s.heap:=I.ok.mod.kin.keeps I.bk
theorem Inv.lt (I:Inv X pins σ H s):X.env.locals < s.heap.objs.size:=let ⟨_,hn,_⟩:=I.loc;hn.lt
theorem Inv.sz (I:Inv X pins σ H s):X.s₀.heap.objs.size ≤ s.heap.objs.size:=Nat.le_trans I.ok.above (Nat.le_of_lt I.lt)
theorem Inv.nofs (I:Inv X pins σ H s) {a:Addr} (h:s.heap.objs.size ≤ a):a ∉ X.fs:=fun hb=>by
 obtain ⟨_,o,ho,_⟩:=I.ok.funs.mem hb
 exact absurd (Nat.lt_of_lt_of_le (Heap.lt_size ho) (Nat.le_trans I.sz h)) (Nat.lt_irrefl _)
theorem Inv.cne (I:Inv X pins σ H s):∀ x c,X.env.cells.lookup x = some c->c ≠ X.env.locals:=fun x c e z=>by
 obtain ⟨v,o,ho,hd⟩:=I.cell x c e
 obtain ⟨m,⟨o',es,ep,ho',hd',_⟩,_⟩:=I.loc
 rw [z,ho'] at ho;cases ho;rw [hd'] at hd;cases hd
theorem Inv.funs (I:Inv X pins σ H s):s.heap.FunFrames X.base X.outer:=by
 have all:∀ (l:List Env),(∀ b ∈ frs l,b ∈ X.fs)->X.s₀.heap.FunFrames X.base l->s.heap.FunFrames X.base l:=by
  intro l
  induction l with
  | nil=>intro _ _;trivial
  | cons env r ih=>
   intro hs hl
   obtain ⟨hk,⟨L,o,hf,hn,ho,hd⟩,hr⟩:=hl
   have hL:L ∈ X.fs:=hs L (by unfold frs;rw [List.filterMap_cons,hf];exact List.mem_cons_self)
   obtain ⟨sl,e⟩:=I.base.slot L o ho (I.ok.frf L hL) hL fun z=>I.ok.exfs L z hL
   exact ⟨hk,⟨L,_,hf,hn,e,hd⟩,ih (fun b hb=>hs b (by unfold frs;rw [List.filterMap_cons,hf];exact List.mem_cons_of_mem _ hb)) hr⟩
 exact all X.outer (fun _ hb=>hb) I.ok.funs
theorem Inv.stack (I:Inv X pins σ H s):s.heap.FunFrames X.base X.stack:=by
 rcases I.ok.stk with e | ⟨e,hf⟩
 ·rw [e];exact I.funs
 ·rw [e]
  obtain ⟨m,hn,_⟩:=I.loc
  refine .cons (by rw [I.ok.kind];decide) hf hn ?_ I.funs
  exact Heap.get?_none_of_le (Nat.le_trans I.ok.bsz I.ok.above)
theorem Inv.stkSub (I:Inv X pins σ H s):∀ b ∈ frs X.stack,b ∈ X.env.locals :: X.fs:=fun b hb=>by
 rcases I.ok.stk with e | ⟨e,hf⟩
 ·rw [e] at hb;exact List.mem_cons_of_mem _ hb
 ·rw [e] at hb
  unfold frs at hb
  rw [List.filterMap_cons,hf] at hb
  exact hb
theorem Inv.stkFree (I:Inv X pins σ H s):∀ b ∈ frs X.stack,H b = none:=fun b hb=>by
 rcases List.mem_cons.mp (I.stkSub b hb) with e | hb
 ·rw [e];exact I.free
 ·obtain ⟨_,o,ho,_⟩:=I.ok.funs.mem hb
  exact I.base.free b o ho (I.ok.frf b hb) fun z=>I.ok.exfs b z hb
theorem Inv.step {g':Array GenState} {t':Nat} {d':Drawn} {ch:List Addr} (I:Inv X pins σ H s)
  (hch:∀ b ∈ ch,(b ∈ X.ex\/X.s₀.heap.objs.size ≤ b)/\b ≠ X.env.locals/\(∀ x c,X.env.cells.lookup x = some c->c ≠ b)/\∀ p ∈ X.pn ++ pins,p.1 ≠ b)
  (keep:∀ b o,b ≠ X.env.locals->b ∉ X.fs->b ∉ ch->s.heap.get? b = some o->H b = none->h'.get? b = some o)
  (slot:∀ b o,b ≠ X.env.locals->b ∈ X.fs->b ∉ ch->s.heap.get? b = some o->H b = none->∃ sl,h'.get? b = some { o with slots:=sl }) (free:∀ b o,b ∉ ch->s.heap.get? b = some o->H b = none->H' b = none)
  (there:∀ b o,b ∉ ch->s.heap.get? b = some o->∃ o',h'.get? b = some o')
  (tups:∀ b xs,H b = some (.tup xs)->H' b = some (.tup xs)) (frzs:∀ b o u,H b = some (.frz o u)->H' b = some (.frz o u)) (tbls:∀ b ps,H b = some (.tbl ps)->∃ more,H' b = some (.tbl (ps ++ more)))
  (ns:∀ m,s.heap.Ns X.env.locals m->h'.Ns X.env.locals m) (hok:HOk X.prog X.w H' h') (hg:AllBare g') :
  Inv X pins σ H' { s with heap:=h',gens:=g',drawn:=d',toks:=t' }:=by
 have neL:∀ b o,X.s₀.heap.get? b = some o->b ≠ X.env.locals:=fun b o e=>Nat.ne_of_lt (Nat.lt_of_lt_of_le (Heap.lt_size e) I.ok.above)
 have neC:∀ b o,X.s₀.heap.get? b = some o->b ∉ X.ex->b ∉ ch:=fun b o e hx hb=>by
  rcases (hch b hb).1 with z | z
  ·exact hx z
  ·exact absurd (Nat.lt_of_lt_of_le (Heap.lt_size e) z) (Nat.lt_irrefl _)
 have cellK:∀ x c,X.env.cells.lookup x = some c->∀ v,s.heap.IsCell c v->h'.IsCell c v:=fun x c e v ⟨o,ho,hd⟩=>by
  have nch:c ∉ ch:=fun z=>(hch c z).2.2.1 x c e rfl
  by_cases hc:c ∈ X.fs
  ·obtain ⟨sl,q⟩:=slot c o (I.cne x c e) hc nch ho (I.freeC x c e)
   exact ⟨_,q,hd⟩
  ·exact ⟨o,keep c o (I.cne x c e) hc nch ho (I.freeC x c e),hd⟩
 refine ⟨I.ok,I.os,hg,⟨fun b o e n hb hx=>?_,fun b o e n hb hx=>?_,fun b o e n hx=>?_,fun b o e hx=>?_,fun b xs e=>tups b xs (I.base.tups b xs e),fun b o xs e=>frzs b o xs (I.base.frzs b o xs e),fun b ps e=>?_⟩,?_,fun x c e=>?_,?_,fun x c e=>?_,fun p hp=>?_,hok,I.len⟩
 ·exact keep b o (neL b o e) hb (neC b o e hx) (I.base.keep b o e n hb hx) (I.base.free b o e n hx)
 ·obtain ⟨sl,e1⟩:=I.base.slot b o e n hb hx
  obtain ⟨sl',e2⟩:=slot b _ (neL b o e) hb (neC b o e hx) e1 (I.base.free b o e n hx)
  exact ⟨sl',e2⟩
 ·obtain ⟨o',e1⟩:=I.base.there b o e hx
  exact free b o' (neC b o e hx) e1 (I.base.free b o e n hx)
 ·obtain ⟨o',e1⟩:=I.base.there b o e hx
  exact there b o' (neC b o e hx) e1
 ·obtain ⟨m1,e1⟩:=I.base.tbls b ps e
  obtain ⟨m2,e2⟩:=tbls b _ e1
  exact ⟨m1 ++ m2,by rw [e2,Array.append_assoc]⟩
 ·obtain ⟨m,hn,hl⟩:=I.loc
  refine ⟨m,ns m hn,fun i x v e1 e2 e3=>?_⟩
  obtain ⟨u,r,l⟩:=hl i x v e1 e2 e3
  refine ⟨u,r,?_⟩
  rcases l with l | ⟨k,c,e,z⟩
  ·exact .inl l
  ·exact .inr ⟨k,c,e,cellK x c e _ z⟩
 ·obtain ⟨v,z⟩:=I.cell x c e
  exact ⟨v,cellK x c e v z⟩
 ·obtain ⟨m,⟨o,_,_,ho,_⟩,_⟩:=I.loc
  exact free _ o (fun z=>(hch _ z).2.1 rfl) ho I.free
 ·obtain ⟨v,o,ho,hd⟩:=I.cell x c e
  exact free c o (fun z=>(hch c z).2.2.1 x c e rfl) ho (I.freeC x c e)
 ·obtain ⟨e,n,ne,nf,d⟩:=I.pin p hp
  have nch:p.1 ∉ ch:=fun z=>(hch p.1 z).2.2.2 p hp rfl
  exact ⟨keep p.1 p.2 ne nf nch e n,free p.1 p.2 nch e n,ne,nf,d⟩
theorem Inv.un {t':Nat} (I:Inv X pins σ H s) (u:Un X.fs [] H H' s.heap h') (hok:HOk X.prog X.w H' h'):Inv X pins σ H' { s with heap:=h',toks:=t' }:=by
 obtain ⟨m,⟨o,es,ep,ho,r⟩,_⟩:=id I.loc
 obtain ⟨sl,hL⟩:=u.any ho I.free (by simp)
 exact I.step (g':=s.gens) (d':=s.drawn) (ch:=[]) (fun _ z=>nomatch z) (fun b o _ hb _ e n=>u.keep b o e n hb (by simp)) (fun b o _ hb _ e n=>u.slot b o e n hb (by simp)) (fun b o _ e n=>u.free b o e n (by simp)) (fun b o _ e=>u.there b o e (by simp)) u.tups u.frzs u.tbls (fun m' hm=>by
  obtain ⟨o',es',ep',ho',r'⟩:=hm
  rw [ho] at ho';cases ho'
  exact ⟨_,es',ep',hL,r'⟩) hok I.bare
theorem Inv.call {g':Array GenState} {t':Nat} {d':Drawn} {ch:List Addr} (I:Inv X pins σ H s) (u:Un (frs X.stack) ch H H' s.heap h') (hok:HOk X.prog X.w H' h') (hg:AllBare g')
  (hch:∀ b ∈ ch,(b ∈ X.ex\/X.s₀.heap.objs.size ≤ b)/\b ≠ X.env.locals/\(∀ x c,X.env.cells.lookup x = some c->c ≠ b)/\∀ p ∈ X.pn ++ pins,p.1 ≠ b) :
  Inv X pins σ H' { s with heap:=h',gens:=g',drawn:=d',toks:=t' }:=by
 obtain ⟨m,⟨o,es,ep,ho,r⟩,_⟩:=id I.loc
 obtain ⟨sl,hL⟩:=u.any ho I.free fun z=>(hch _ z).2.1 rfl
 exact I.step (ch:=ch) hch (fun b o hL hb hc e n=>u.keep b o e n (fun z=>(List.mem_cons.mp (I.stkSub b z)).elim hL hb) hc) (fun b o _ _ hc e n=>u.any e n hc) (fun b o hc e n=>u.free b o e n hc) (fun b o hc e=>u.there b o e hc) u.tups u.frzs u.tbls (fun m' hm=>by
  obtain ⟨o',es',ep',ho',r'⟩:=hm
  rw [ho] at ho';cases ho'
  exact ⟨_,es',ep',hL,r'⟩) hok hg
theorem Inv.turned {t':Nat} {it:Addr} (I:Inv X pins σ H s) (k:∀ b o,b ≠ it->s.heap.get? b = some o->h'.get? b = some o) (hn:H it = none) (hL:it ≠ X.env.locals)
  (h1:it ∈ X.ex\/X.s₀.heap.objs.size ≤ it) (h2:∀ x c,X.env.cells.lookup x = some c->c ≠ it) (h3:∀ p ∈ X.pn ++ pins,p.1 ≠ it):Inv X pins σ H { s with heap:=h',toks:=t' }:=by
 have nit:∀ b u,H b = some u->b ≠ it:=fun b u e z=>by rw [z,hn] at e;cases e
 refine I.step (g':=s.gens) (d':=s.drawn) (ch:=[it]) (fun b hb=>?_) (fun b o _ _ hc e _=>k b o (fun z=>hc (by simp [z])) e) (fun b o _ _ hc e _=>⟨o.slots,k b o (fun z=>hc (by simp [z])) e⟩) (fun _ _ _ _ n=>n)
  (fun b o hc e=>⟨o,k b o (fun z=>hc (by simp [z])) e⟩) (fun _ _ e=>e) (fun _ _ _ e=>e) (fun b ps e=>⟨#[],by rw [e];simp⟩) (fun m hm=>?_) (fun b u e=>?_) I.bare
 ·have e:b = it:=by simpa using hb
  subst e
  exact ⟨h1,hL,h2,h3⟩
 ·obtain ⟨o,es,ep,ho,r⟩:=hm
  exact ⟨o,es,ep,k _ o (Ne.symm hL) ho,r⟩
 ·refine (I.hok b u e).stay (fun c v hc q=>k c v ?_ q) (fun _ q=>q) fun _ _ q=>q
  rcases hc with z | z
  ·rw [z];exact nit b u e
  ·exact nit c _ z
theorem Inv.tok (I:Inv X pins σ H s) (t:Nat):Inv X pins σ H { s with toks:=t }:=I.un (h':=s.heap) (t':=t) Un.refl I.hok
theorem Inv.kept {t':Nat} (I:Inv X pins σ H s) (k:∀ b u,s.heap.get? b = some u->h'.get? b = some u):Inv X pins σ H { s with heap:=h',toks:=t' }:=I.un (Un.kept k) (I.hok.kept k)
theorem Inv.laid {a:Addr} {o:HO} {t':Nat} (I:Inv X pins σ H s) (k:∀ b u,s.heap.get? b = some u->h'.get? b = some u) (hp:s.heap.objs.size ≤ a) (new:ObjOk X.prog X.w (upd H a o) h' a o) :
  Inv X pins σ (upd H a o) { s with heap:=h',toks:=t' }:=I.un (Un.laid k hp (I.hok.fresh hp)) (I.hok.laid k hp new)
theorem Inv.write {x e:Addr} {o:HO} {t':Nat} (I:Inv X pins σ H s) (mu:Mut (H x)) (he:e = x\/H e = some (.own x)) (k:∀ b u,b ≠ e->s.heap.get? b = some u->h'.get? b = some u) (heo:∃ u,h'.get? e = some u)
  (new:ObjOk X.prog X.w (upd H x o) h' x o):Inv X pins σ (upd H x o) { s with heap:=h',toks:=t' }:=I.un (Un.write mu he k heo) (I.hok.write mu he k heo new)
theorem Inv.pins_of {pins':List (Addr × Obj)} (I:Inv X pins σ H s) (h:∀ p ∈ pins',s.heap.get? p.1 = some p.2/\H p.1 = none/\p.1 ≠ X.env.locals/\p.1 ∉ X.fs/\∀ v,p.2.data ≠ .cell v):Inv X pins' σ H s:=
 ⟨I.ok,I.os,I.bare,I.base,I.loc,I.cell,I.free,I.freeC,fun p hp=>(List.mem_append.mp hp).elim (fun z=>I.pin p (List.mem_append_left _ z)) (h p),I.hok,I.len⟩
theorem nodup_ix {N:List Str} (hN:N.Nodup) {i j:Nat} {x:Str} (a:N[i]? = some x) (b:N[j]? = some x):i = j:=by
 obtain ⟨h1,e1⟩:=List.getElem?_eq_some_iff.mp a
 obtain ⟨h2,e2⟩:=List.getElem?_eq_some_iff.mp b
 exact (List.getElem_inj hN).mp (e1.trans e2.symm)
theorem store_ok2 {M:Model} {A:Around} {E:Value->Shared->Prop} {i:Nat} {x:Str} {v:V} {u:Value} {Q:Unit->Shared->Prop} (I:Inv X pins σ H s) (hN:X.N.Nodup) (hi:X.N[i]? = some x) (hx:Loc X.env.scope x) (r:RelV v u)
  (h:∀ s',Inv X pins (σ.set i (some v)) H s'->(∃ a,Heap.SameBut a s.heap s'.heap/\(a = X.env.locals\/X.env.cells.lookup x = some a))->Q () s') (hf:X.fn x = true\/X.env.scope.names.lookup x = some .local:=by first | exact .inl rfl | exact .inr rfl | assumption):wpAny M A (storeName X.env x u) Q E s:=by
 obtain ⟨m,hn,hl⟩:=id I.loc
 have hcls:(X.env.scope.kind == .class || (X.env.scope.kind == .module && X.env.locals != X.env.globals)) = false:=by rw [I.ok.kind];rfl
 have hiσ:i < σ.length:=by rw [I.len];exact (List.getElem?_eq_some_iff.mp hi).1
 have cne:=I.cne
 have tracked:∀ {a:Addr} {h':Heap},(∃ o,s.heap.get? a = some o/\H a = none)->Heap.SameBut a s.heap h'->HOk X.prog X.w H h':=fun {a h'} ha hs b ob e=>by
  obtain ⟨_,_,hfree⟩:=ha
  refine (I.hok b ob e).stay (fun c w' hc q=>(hs.2 c ?_).trans q) (fun _ q=>q) fun _ _ q=>q
  rintro rfl
  rcases hc with rfl | hc
  ·rw [hfree] at e;cases e
  ·rw [hfree] at hc;cases hc
 rcases hx with hk | hk
 ·refine wpAny_storeName_local hk hn (fun h' hn' hs=>?_) hcls
  obtain ⟨oL,_,_,hoL,_⟩:=id hn
  refine h _ ⟨I.ok,I.os,I.bare,⟨fun b o e n hb hx=>?_,fun b o e n hb hx=>?_,I.base.free,fun b o e hx=>?_,I.base.tups,I.base.frzs,I.base.tbls⟩,⟨_,hn',fun j y v' e1 e2 e3=>?_⟩,fun y c e=>?_,I.free,I.freeC,fun p hp=>?_,tracked ⟨oL,hoL,I.free⟩ hs,by simpa using I.len⟩ ⟨_,hs,.inl rfl⟩
  ·exact (hs.2 b (Nat.ne_of_lt (Nat.lt_of_lt_of_le (Heap.lt_size e) I.ok.above))).trans (I.base.keep b o e n hb hx)
  ·obtain ⟨sl,e1⟩:=I.base.slot b o e n hb hx
   exact ⟨sl,(hs.2 b (Nat.ne_of_lt (Nat.lt_of_lt_of_le (Heap.lt_size e) I.ok.above))).trans e1⟩
  ·obtain ⟨o',e1⟩:=I.base.there b o e hx
   exact ⟨o',(hs.2 b (Nat.ne_of_lt (Nat.lt_of_lt_of_le (Heap.lt_size e) I.ok.above))).trans e1⟩
  ·by_cases hj:j = i
   ·subst hj
    rw [hi] at e1;cases e1
    rw [List.getElem?_set_self hiσ] at e2
    cases e2
    exact ⟨u,r,.inl ⟨hk,by simp⟩⟩
   ·rw [List.getElem?_set_ne (Ne.symm hj)] at e2
    obtain ⟨u',r',q⟩:=hl j y v' e1 e2 e3
    refine ⟨u',r',?_⟩
    rcases q with ⟨k,e⟩ | ⟨k,c,e,z⟩
    ·refine .inl ⟨k,?_⟩
     have:y ≠ x:=fun e=>hj (nodup_ix hN e1 (e ▸ hi))
     simp [this,e]
    ·exact .inr ⟨k,c,e,z.sameBut hs (cne y c e)⟩
  ·obtain ⟨w',z⟩:=I.cell y c e
   exact ⟨w',z.sameBut hs (cne y c e)⟩
  ·obtain ⟨e,n,ne,nf,d⟩:=I.pin p hp
   exact ⟨(hs.2 p.1 ne).trans e,n,ne,nf,d⟩
 ·have hfn:X.fn x = true:=by
   rcases hf with z | z
   ·exact z
   ·rw [z] at hk;cases hk
  obtain ⟨c,hc⟩:=I.ok.has x (.inl hk)
  obtain ⟨w',z⟩:=I.cell x c hc
  refine wpAny_storeName_cell I.ok.kind hk hc z (fun h' hc' hs=>?_)
  obtain ⟨oc,hoc,hocd⟩:=id z
  refine h { s with heap:=h' } ⟨I.ok,I.os,I.bare,⟨fun b o e n hb hx=>?_,fun b o e n hb hx=>?_,I.base.free,fun b o e hx=>?_,I.base.tups,I.base.frzs,I.base.tbls⟩,⟨m,hn.sameBut hs (Ne.symm (cne x c hc)),fun j y v' e1 e2 e3=>?_⟩,fun y c' e=>?_,I.free,I.freeC,fun p hp=>?_,tracked ⟨oc,hoc,I.freeC x c hc⟩ hs,by simpa using I.len⟩ ⟨c,hs,.inr hc⟩
  ·exact (hs.2 b (Nat.ne_of_lt (Nat.lt_of_lt_of_le (Heap.lt_size e) (I.ok.cab x c hfn hc)))).trans (I.base.keep b o e n hb hx)
  ·obtain ⟨sl,e1⟩:=I.base.slot b o e n hb hx
   exact ⟨sl,(hs.2 b (Nat.ne_of_lt (Nat.lt_of_lt_of_le (Heap.lt_size e) (I.ok.cab x c hfn hc)))).trans e1⟩
  ·obtain ⟨o',e1⟩:=I.base.there b o e hx
   exact ⟨o',(hs.2 b (Nat.ne_of_lt (Nat.lt_of_lt_of_le (Heap.lt_size e) (I.ok.cab x c hfn hc)))).trans e1⟩
  ·by_cases hj:j = i
   ·subst hj
    rw [hi] at e1;cases e1
    rw [List.getElem?_set_self hiσ] at e2
    cases e2
    exact ⟨u,r,.inr ⟨.inl hk,c,hc,hc'⟩⟩
   ·rw [List.getElem?_set_ne (Ne.symm hj)] at e2
    obtain ⟨u',r',q⟩:=hl j y v' e1 e2 e3
    refine ⟨u',r',?_⟩
    rcases q with q | ⟨k,c',e,z'⟩
    ·exact .inl q
    ·refine .inr ⟨k,c',e,z'.sameBut hs ?_⟩
     rintro rfl
     exact hj (nodup_ix hN e1 (I.ok.inj _ _ _ e hc ▸ hi))
  ·by_cases hcc:c' = c
   ·subst hcc;exact ⟨_,hc'⟩
   ·obtain ⟨w2,z2⟩:=I.cell y c' e
    exact ⟨w2,z2.sameBut hs hcc⟩
  ·obtain ⟨e,n,ne,nf,d⟩:=I.pin p hp
   refine ⟨(hs.2 p.1 ?_).trans e,n,ne,nf,d⟩
   intro q
   rw [q,hoc] at e
   have q':oc = p.2:=Option.some.inj e
   exact d w' (by rw [← q'];exact hocd)
theorem store_ok {M:Model} {A:Around} {E:Value->Shared->Prop} {i:Nat} {x:Str} {v:V} {u:Value} {Q:Unit->Shared->Prop} (I:Inv X pins σ H s) (hN:X.N.Nodup) (hi:X.N[i]? = some x) (hx:Loc X.env.scope x) (r:RelV v u)
  (h:∀ s',Inv X pins (σ.set i (some v)) H s'->Q () s') (hf:X.fn x = true\/X.env.scope.names.lookup x = some .local:=by first | exact .inl rfl | exact .inr rfl | assumption):wpAny M A (storeName X.env x u) Q E s:=
 store_ok2 I hN hi hx r (fun s' I' _=>h s' I') hf
theorem Inv.call' {s':Shared} {ch:List Addr} (I:Inv X pins σ H s) (ho:s'.os = s.os) (u:Un (frs X.stack) ch H H' s.heap s'.heap) (hok:HOk X.prog X.w H' s'.heap) (hg:AllBare s'.gens)
  (hch:∀ b ∈ ch,(b ∈ X.ex\/X.s₀.heap.objs.size ≤ b)/\b ≠ X.env.locals/\(∀ x c,X.env.cells.lookup x = some c->c ≠ b)/\∀ p ∈ X.pn ++ pins,p.1 ≠ b):Inv X pins σ H' s':=by
 obtain ⟨h',g',d',t',o'⟩:=s'
 have e:o' = s.os:=ho
 subst e
 exact I.call (g':=g') (t':=t') (d':=d') u hok hg hch
end
abbrev XK:=Value->Option Addr->Hp->Prop
abbrev St:=List (Option V)
abbrev VK:=V->Hp->Prop
abbrev TE:=St->Hp->VK->Prop
abbrev TT:=St->Hp->(Bool->Hp->Prop)->Prop
abbrev TA:=St->Hp->(List V->Hp->Prop)->Prop
structure Ends where
 nx:St->Hp->Prop
 rt:VK
 bk:St->Hp->Prop:=fun _ _=>False
 ct:St->Hp->Prop:=fun _ _=>False
abbrev TS:=Ends->St->Hp->Prop
def EP (X:Cx) (pins:List (Addr × Obj)) (σ:St) (Q:VK) (u:Value) (s':Shared):Prop:=∃ v H',Inv X pins σ H' s'/\RelV v u/\Q v H'
def TP (X:Cx) (pins:List (Addr × Obj)) (σ:St) (Q:Bool->Hp->Prop) (b:Bool) (s':Shared):Prop:=∃ H',Inv X pins σ H' s'/\Q b H'
def AP (X:Cx) (pins:List (Addr × Obj)) (σ:St) (Q:List V->Hp->Prop) (us:List Value) (s':Shared):Prop:=∃ vs H',Inv X pins σ H' s'/\Vals vs us/\Q vs H'
def SP (X:Cx) (pins:List (Addr × Obj)) (D:Ends) (f:Flow) (s':Shared):Prop:=
 match f with
 | .next=>∃ σ' H',Inv X pins σ' H' s'/\D.nx σ' H'
 | .brk=>∃ σ' H',Inv X pins σ' H' s'/\D.bk σ' H'
 | .cont=>∃ σ' H',Inv X pins σ' H' s'/\D.ct σ' H'
 | .ret u=>∃ v σ' H',Inv X pins σ' H' s'/\RelV v u/\D.rt v H'
def PE (X:Cx) (e:Expr) (t:TE):Prop:=
 ∀ (pins:List (Addr × Obj)) (s:Shared) (σ:St) (H:Hp) (Q:VK),Inv X pins σ H s->t σ H Q->wpAny (model X.prog X.w) X.A (eval e X.env) (EP X pins σ Q) X.xe s
def PT (X:Cx) (e:Expr) (t:TT):Prop:=
 ∀ (pins:List (Addr × Obj)) (s:Shared) (σ:St) (H:Hp) (Q:Bool->Hp->Prop),Inv X pins σ H s->t σ H Q->wpAny (model X.prog X.w) X.A (isTrue e X.env (eval e X.env)) (TP X pins σ Q) X.xe s
def PW (X:Cx) (e:Expr) (t:TT):Prop:=
 ∀ (whole:Sem Value) (pins:List (Addr × Obj)) (s:Shared) (σ:St) (H:Hp) (Q:Bool->Hp->Prop),Inv X pins σ H s->t σ H Q->wpAny (model X.prog X.w) X.A (isTrue e X.env whole) (TP X pins σ Q) X.xe s
theorem PW.pt {X:Cx} {e:Expr} {t:TT} (h:PW X e t):PT X e t:=h _
def PA (X:Cx) (es:List Expr) (t:TA):Prop:=
 ∀ (pos:Pos) (pins:List (Addr × Obj)) (s:Shared) (σ:St) (H:Hp) (Q:List V->Hp->Prop),Inv X pins σ H s->t σ H Q->wpAny (model X.prog X.w) X.A (spliced (backTo pos (starEach es X.env))) (AP X pins σ Q) X.xe s
def PS (X:Cx) (st:Stmt) (t:TS):Prop:=
 ∀ (pins:List (Addr × Obj)) (s:Shared) (σ:St) (H:Hp) (D:Ends),Inv X pins σ H s->t D σ H->wpAny (model X.prog X.w) X.A (exec st X.env) (SP X pins D) X.xe s
def PSs (X:Cx) (st:List Stmt) (t:TS):Prop:=
 ∀ (pins:List (Addr × Obj)) (s:Shared) (σ:St) (H:Hp) (D:Ends),Inv X pins σ H s->t D σ H->wpAny (model X.prog X.w) X.A (execs st X.env) (SP X pins D) X.xe s
theorem thn {α:Type} {t:Sem α} {Q Q':α->Shared->Prop} {M:Model} {A:Around} {E:Value->Shared->Prop} {s:Shared} (h:wpAny M A t Q E s) (hQ:∀ a s,Q a s->Q' a s):wpAny M A t Q' E s:=wpAny_mono h hQ fun _ _ x=>x
end L2
namespace L2
open PySem PySem.Spec PyProof.Rows
section
variable {X:Cx}
theorem bin {a b:Expr} {ta tb:TE} (ha:PE X a ta) (hb:PE X b tb) {pins:List (Addr × Obj)} {s:Shared} {σ:St} {H:Hp} {R:V->V->Hp->Prop} (I:Inv X pins σ H s) (h:ta σ H fun x H1=>tb σ H1 fun y H2=>R x y H2)
  {α:Type} {Q:α->Shared->Prop} {f:Value->Value->Sem α}
  (hf:∀ v u s2 x y H2,Inv X pins σ H2 s2->RelV x v->RelV y u->R x y H2->wpAny (model X.prog X.w) X.A (f v u) Q X.xe s2) :
  wpAny (model X.prog X.w) X.A (eval a X.env) (fun v s₁=>wpAny (model X.prog X.w) X.A (eval b X.env) (fun u s₂=>wpAny (model X.prog X.w) X.A (f v u) Q X.xe s₂) X.xe s₁) X.xe s:=by
 refine thn (ha pins s σ H _ I h) fun v s1 ⟨x,H1,I1,r1,q1⟩=>?_
 refine thn (hb pins s1 σ H1 _ I1 q1) fun u s2 ⟨y,H2,I2,r2,q2⟩=>?_
 exact hf v u s2 x y H2 I2 r1 r2 q2
def tVar (i:Nat):TE:=fun σ H Q=>∃ v,σ[i]? = some (some v)/\Q v H
def tC (v:V):TE:=fun _ H Q=>Q v H
theorem pe_var {i:Nat} {x:Str} {pos:Pos} (hN:X.N[i]? = some x) (hv:Vis X.env.scope x) (hd:(x == ("__debug__":Str)) = false:=by decide) (hcd:(x == ("__classdict__":Str)) = false:=by decide):PE X (.Name x pos) (tVar i):=by
 intro pins s σ H Q I h
 obtain ⟨v,e,h⟩:=h
 obtain ⟨m,hn,hl⟩:=I.loc
 obtain ⟨u,r,l⟩:=hl i x v hN e hv
 have fin:EP X pins σ Q u s:=⟨v,H,I,r,h⟩
 rcases l with ⟨hk,hm⟩ | ⟨hk,c,hc,hcell⟩
 ·exact wpAny_Name (wpAny_loadName_local I.ok.kind hk hn hm fin) hd
 ·rcases hk with hk | hk
  ·exact wpAny_Name (wpAny_loadName_cell I.ok.kind hk hc hcell fin) hd
  ·exact wpAny_Name (wpAny_loadName_free I.ok.kind hk hc hcell fin hcd) hd
theorem pe_int {i j pos}:PE X (.Constant (.int i) j pos) (tC (.int i)):=fun _ _ _ H _ I h=>wpAny_Constant_int ⟨.int i,H,I.tok _,⟨_,rfl⟩,h⟩
theorem pe_bl {b j pos}:PE X (.Constant (.bool b) j pos) (tC (.bl b)):=fun _ _ _ H _ I h=>Constant_bool ⟨.bl b,H,I,rfl,h⟩
theorem pe_non {j pos}:PE X (.Constant .none j pos) (tC .non):=fun _ _ _ H _ I h=>Constant_none ⟨.non,H,I,rfl,h⟩
theorem pe_str {x j pos}:PE X (.Constant (.str x) j pos) (tC (.str x)):=fun _ _ _ H _ I h=>Calls.Constant_str ⟨.str x,H,I.tok _,⟨_,rfl⟩,h⟩
def Gl (X:Cx) (x:Str):Prop:=X.env.kindOf x = some .globalImplicit
theorem ld_glob {E:Value->Shared->Prop} {pins:List (Addr × Obj)} {s:Shared} {σ:St} {H:Hp} {x:Str} {u:Value} {pos:Pos} {Q:Value->Shared->Prop} (I:Inv X pins σ H s) (hg:Gl X x) (hm:X.mg x = some u) (h:Q u s)
  (hd:(x == ("__debug__":Str)) = false:=by decide):wpAny (model X.prog X.w) X.A (eval (.Name x pos) X.env) Q E s:=
 Calls.Name_function_global I.ok.kind hg (Calls.loadGlobal_global (by rw [I.ok.glob];exact I.mod.glob.keeps I.bk) hm h) hd
theorem ld_blt {E:Value->Shared->Prop} {pins:List (Addr × Obj)} {s:Shared} {σ:St} {H:Hp} {x:Str} {u:Value} {pos:Pos} {Q:Value->Shared->Prop} (I:Inv X pins σ H s) (hg:Gl X x) (hm:X.mg x = none) (hv:bootBuiltins x = some u) (h:Q u s)
  (hn:x ≠ "__name__":=by decide) (hd:(x == ("__debug__":Str)) = false:=by decide):wpAny (model X.prog X.w) X.A (eval (.Name x pos) X.env) Q E s:=by
 obtain ⟨mb,h1,h2⟩:=I.mod.blt
 exact Calls.Name_function_global I.ok.kind hg (Calls.loadGlobal_builtin (by rw [I.ok.glob];exact I.mod.glob.keeps I.bk) hm (by rw [I.ok.blt];exact h1.keeps I.bk) ((h2 x hn).trans hv) h) hd
theorem pe_glob {x:Str} {v:V} {u:Value} {pos:Pos} (hg:Gl X x) (hm:X.mg x = some u) (r:RelV v u) (hd:(x == ("__debug__":Str)) = false:=by decide):PE X (.Name x pos) (tC v):=
 fun _ _ _ H _ I h=>ld_glob I hg hm ⟨v,H,I,r,h⟩ hd
theorem pe_bltn {x:Str} {v:V} {u:Value} {pos:Pos} (hg:Gl X x) (hm:X.mg x = none) (hv:bootBuiltins x = some u) (r:RelV v u) (hn:x ≠ "__name__":=by decide) (hd:(x == ("__debug__":Str)) = false:=by decide):PE X (.Name x pos) (tC v):=
 fun _ _ _ H _ I h=>ld_blt I hg hm hv ⟨v,H,I,r,h⟩ hn hd
variable {a b:Expr} {ta tb:TE} {pos:Pos}
def PC (X:Cx) (op:CmpOp) (a b:Expr) (t:TE):Prop:=
 ∀ (pins:List (Addr × Obj)) (s:Shared) (σ:St) (H:Hp) (Q:VK),Inv X pins σ H s->t σ H Q →
  wpAny (model X.prog X.w) X.A (eval a X.env) (fun v s₁=>wpAny (model X.prog X.w) X.A (eval b X.env) (fun u s₂=>wpAny (model X.prog X.w) X.A (compareOp op v u) (EP X pins σ Q) X.xe s₂) X.xe s₁) X.xe s
def tB (t:TE):TT:=fun σ H Q=>t σ H fun x H1=>∃ c,x = .bl c/\Q c H1
theorem pt_cmp {op:CmpOp} {t:TE} (h:PC X op a b t) (h1:behindInMarks op b = false:=by first | exact nobehind _ (by decide) (by decide) | rfl):PT X (.Compare a [op] [b] pos) (tB t):=by
 intro pins s σ H Q I hw
 refine wpAny_isTrue_Compare1 (thn (h pins s σ H _ I hw) fun v s1 h1=>thn h1 fun u s2 h2=>thn h2 fun c s3 ⟨x,H1,I1,r1,q1⟩=>?_) h1
 obtain ⟨d,rfl,q⟩:=q1
 cases r1
 exact wpAny_truthy_bool ⟨H1,I1,q⟩
theorem pt_val {e:Expr} {t:TE} (h:PE X e t) (he:∀ whole,isTrue e X.env whole = (do let v ← whole;standAt e.pos;holding [v] (truthy v)):=by intro _;rfl):PT X e (tB t):=by
 intro pins s σ H Q I hw
 refine isTrue_plain (thn (h pins s σ H _ I hw) fun v s1 ⟨x,H1,I1,r1,q1⟩=>?_) (he _)
 obtain ⟨d,rfl,q⟩:=q1
 cases r1
 exact wpAny_truthy_bool ⟨H1,I1,q⟩
variable {tA tB':TT} {rest:List Expr}
def tAnd (t u:TT):TT:=fun σ H Q=>t σ H fun c H1=>if c = true then u σ H1 Q else Q false H1
def tOr (t u:TT):TT:=fun σ H Q=>t σ H fun c H1=>if c = true then Q true H1 else u σ H1 Q
def tNot (t:TT):TT:=fun σ H Q=>t σ H fun c H1=>Q (!c) H1
theorem pw_and1 (ha:PT X a tA):PW X (.BoolOp .And [a] pos) tA:=by
 intro wh pins s σ H Q I h
 refine isTrue_and (thn (ha pins s σ H Q I h) fun c s1 e=>?_)
 cases c with
 | true=>exact isTrue_and_nil e
 | false=>exact e
theorem pw_or1 (ha:PT X a tA):PW X (.BoolOp .Or [a] pos) tA:=by
 intro wh pins s σ H Q I h
 refine isTrue_or (thn (ha pins s σ H Q I h) fun c s1 e=>?_)
 cases c with
 | false=>exact isTrue_or_nil e
 | true=>exact e
theorem pw_and (ha:PT X a tA) (hb:PW X (.BoolOp .And (b :: rest) pos) tB'):PW X (.BoolOp .And (a :: b :: rest) pos) (tAnd tA tB'):=by
 intro wh pins s σ H Q I h
 refine isTrue_and (thn (ha pins s σ H _ I h) fun c s1 ⟨H1,I1,q1⟩=>?_)
 cases c with
 | true=>exact hb wh pins s1 σ H1 Q I1 q1
 | false=>exact ⟨H1,I1,q1⟩
theorem pw_or (ha:PT X a tA) (hb:PW X (.BoolOp .Or (b :: rest) pos) tB'):PW X (.BoolOp .Or (a :: b :: rest) pos) (tOr tA tB'):=by
 intro wh pins s σ H Q I h
 refine isTrue_or (thn (ha pins s σ H _ I h) fun c s1 ⟨H1,I1,q1⟩=>?_)
 cases c with
 | true=>exact ⟨H1,I1,q1⟩
 | false=>exact hb wh pins s1 σ H1 Q I1 q1
theorem pt_not (ha:PT X a tA):PT X (.UnaryOp .Not a pos) (tNot tA):=by
 intro pins s σ H Q I h
 exact isTrue_not (ha pins s σ H (fun c H1=>Q (!c) H1) I h)
def tAndV (ta tb:TE):TE:=fun σ H Q=>ta σ H fun x H1=>∃ c,x = .bl c/\if c = true then tb σ H1 Q else Q (.bl false) H1
def tOrV (ta tb:TE):TE:=fun σ H Q=>ta σ H fun x H1=>∃ c,x = .bl c/\if c = true then Q (.bl true) H1 else tb σ H1 Q
def tNotV (ta:TE):TE:=fun σ H Q=>ta σ H fun x H1=>∃ c,x = .bl c/\Q (.bl (!c)) H1
theorem pe_one {op} {t:TE} (h:PE X a t):PE X (.BoolOp op [a] pos) t:=fun pins s σ H Q I hw=>BoolOp_one (h pins s σ H Q I hw)
theorem pe_and (ha:PE X a ta) (hb:PE X (.BoolOp .And (b :: rest) pos) tb):PE X (.BoolOp .And (a :: b :: rest) pos) (tAndV ta tb):=by
 intro pins s σ H Q I h
 refine BoolOp_and (thn (ha pins s σ H _ I h) fun v s1 ⟨x,H1,I1,r1,q1⟩=>?_)
 obtain ⟨c,rfl,q1⟩:=q1
 cases r1
 refine wpAny_truthy_bool ?_
 cases c with
 | true=>exact hb pins s1 σ H1 Q I1 q1
 | false=>exact ⟨.bl false,H1,I1,rfl,q1⟩
theorem pe_or (ha:PE X a ta) (hb:PE X (.BoolOp .Or (b :: rest) pos) tb):PE X (.BoolOp .Or (a :: b :: rest) pos) (tOrV ta tb):=by
 intro pins s σ H Q I h
 refine BoolOp_or (thn (ha pins s σ H _ I h) fun v s1 ⟨x,H1,I1,r1,q1⟩=>?_)
 obtain ⟨c,rfl,q1⟩:=q1
 cases r1
 refine wpAny_truthy_bool ?_
 cases c with
 | false=>exact hb pins s1 σ H1 Q I1 q1
 | true=>exact ⟨.bl true,H1,I1,rfl,q1⟩
theorem pe_not (ha:PE X a ta):PE X (.UnaryOp .Not a pos) (tNotV ta):=by
 intro pins s σ H Q I h
 refine UnaryOp_ (thn (ha pins s σ H _ I h) fun v s1 ⟨x,H1,I1,r1,q1⟩=>?_)
 obtain ⟨c,rfl,q1⟩:=q1
 cases r1
 exact not_of (wpAny_truthy_bool ⟨.bl (!c),H1,I1,rfl,q1⟩)
end
end L2
namespace L2
open PySem PySem.Spec PyProof.Rows
def SqL (K:PySem.W.Frag) (H:Hp) (a:Addr) (xs:List V):Prop:=
 Rd H a (.lst xs) ∨
  ∃ (o:Obj) (its:Array Value) (n:Nat),K.lookup a = some o/\o.cls = .type "list"/\o.dict = none/\o.data = .seq its n/\its.size ≤ sizeLine/\Vals xs its.toList
def SqT (K:PySem.W.Frag) (H:Hp) (a:Addr) (xs:List V):Prop:=
 Rd H a (.tup xs) ∨
  ∃ (o:Obj) (its:Array Value) (n:Nat),K.lookup a = some o/\o.cls = .type "tuple"/\o.data = .seq its n/\its.size ≤ sizeLine/\Vals xs its.toList
def absV:Value->Option V
 | .none=>some .non
 | .bool b=>some (.bl b)
 | .int i _=>some (.int i)
 | .str x _=>some (.str x)
 | .bytes b _=>some (.byt b)
 | .float b _=>some (.flt b)
 | .ref a=>some (.ref a)
 | .type n=>some (.ty n)
 | _=>none
theorem RelV.abs {x:V} {u:Value} (r:RelV x u):absV u = some x:=by
 cases x with
 | non=>cases r;rfl
 | bl _=>cases r;rfl
 | int _=>obtain ⟨t,rfl⟩:=r;rfl
 | str _=>obtain ⟨t,rfl⟩:=r;rfl
 | byt _=>obtain ⟨t,rfl⟩:=r;rfl
 | flt _=>obtain ⟨t,rfl⟩:=r;rfl
 | ref _=>cases r;rfl
 | ty _=>cases r;rfl
theorem RelV.inj {x y:V} {u:Value} (r:RelV x u) (q:RelV y u):x = y:=Option.some.inj (r.abs.symm.trans q.abs)
theorem Vals.inj:∀ {xs ys:List V} {us:List Value},Vals xs us->Vals ys us->xs = ys
 | _,_,_,.nil,.nil=>rfl
 | _,_,_,.cons r t,.cons r' t'=>by rw [r.inj r',Vals.inj t t']
section
variable {X:Cx} {pins:List (Addr × Obj)} {σ:St} {H:Hp} {s:Shared} {a:Addr} {xs ys:List V}
theorem SqL.of {K:PySem.W.Frag} (h:H a = some (.lst xs)):SqL K H a xs:=.inl (.inl h)
theorem SqT.of {K:PySem.W.Frag} (h:H a = some (.tup xs)):SqT K H a xs:=.inl (.inl h)
theorem Inv.list (I:Inv X pins σ H s) (h:SqL X.K H a xs):∃ its:List Value,Vals xs its/\PlainL s.heap a its.toArray/\xs.length ≤ sizeLine:=by
 rcases h with h | ⟨o,its,n,hk,hc,hd,hs,hz,r⟩
 ·obtain ⟨z,its,n,r,e⟩:=h.ok I.hok
  exact ⟨its,r,⟨_,n,e,rfl,rfl,rfl⟩,z⟩
 ·refine ⟨its.toList,r,⟨o,n,I.kIn a o hk,hc,hd,by simpa using hs⟩,?_⟩
  have e:=r.length
  simp only [Array.length_toList] at e
  omega
theorem Inv.tuple (I:Inv X pins σ H s) (h:SqT X.K H a xs):∃ its:List Value,Vals xs its/\IsTup s.heap a its.toArray/\xs.length ≤ sizeLine:=by
 rcases h with h | ⟨o,its,n,hk,hc,hs,hz,r⟩
 ·obtain ⟨z,its,r,p⟩:=h.ok I.hok
  exact ⟨its,r,p,z⟩
 ·refine ⟨its.toList,r,⟨o,I.kIn a o hk,hc,n,by simpa using hs⟩,?_⟩
  have e:=r.length
  simp only [Array.length_toList] at e
  omega
theorem Inv.list_inj (I:Inv X pins σ H s) (h:SqL X.K H a xs) (h':SqL X.K H a ys):xs = ys:=by
 obtain ⟨its,r,⟨o,n,e,_,_,d⟩,_⟩:=I.list h
 obtain ⟨its',r',⟨o',n',e',_,_,d'⟩,_⟩:=I.list h'
 rw [e] at e';cases e'
 rw [d] at d'
 injection d' with d1 _
 have:its = its':=by simpa using congrArg Array.toList d1
 subst this
 exact r.inj r'
theorem Inv.tuple_inj (I:Inv X pins σ H s) (h:SqT X.K H a xs) (h':SqT X.K H a ys):xs = ys:=by
 obtain ⟨its,r,⟨o,e,_,n,d⟩,_⟩:=I.tuple h
 obtain ⟨its',r',⟨o',e',_,n',d'⟩,_⟩:=I.tuple h'
 rw [e] at e';cases e'
 rw [d] at d'
 injection d' with d1 _
 have:its = its':=by simpa using congrArg Array.toList d1
 subst this
 exact r.inj r'
end
abbrev Cx.wish (X:Cx) (E:Value->Shared->Prop):Cx:={ X with xe:=E }
abbrev Cx.nox (X:Cx):Cx:=X.wish fun _ _=>False
theorem Cx.Ok.wish {X:Cx} (ok:X.Ok) (E:Value->Shared->Prop):(X.wish E).Ok:=
 ⟨ok.mod,ok.kind,ok.glob,ok.blt,ok.above,ok.inj,ok.has,ok.cab,ok.hd,ok.frames,ok.stk,ok.exf,ok.bs,ok.bsz,ok.noex,ok.exfs,ok.funs,ok.frf⟩
theorem Cx.Ok.unwish {X:Cx} {E:Value->Shared->Prop} (ok:(X.wish E).Ok):X.Ok:=
 ⟨ok.mod,ok.kind,ok.glob,ok.blt,ok.above,ok.inj,ok.has,ok.cab,ok.hd,ok.frames,ok.stk,ok.exf,ok.bs,ok.bsz,ok.noex,ok.exfs,ok.funs,ok.frf⟩
section
variable {X:Cx} {pins:List (Addr × Obj)} {σ:St} {H:Hp} {s:Shared} {E:Value->Shared->Prop}
theorem Inv.wish (I:Inv X pins σ H s) (E:Value->Shared->Prop):Inv (X.wish E) pins σ H s:=⟨I.ok.wish E,I.os,I.bare,I.base,I.loc,I.cell,I.free,I.freeC,I.pin,I.hok,I.len⟩
theorem Inv.unwish (I:Inv (X.wish E) pins σ H s):Inv X pins σ H s:=⟨I.ok.unwish,I.os,I.bare,I.base,I.loc,I.cell,I.free,I.freeC,I.pin,I.hok,I.len⟩
theorem SP.unwish {D:Ends} {f:Flow} {s':Shared} (h:SP (X.wish E) pins D f s'):SP X pins D f s':=by
 cases f with
 | next=>obtain ⟨σ',H',I,q⟩:=h;exact ⟨σ',H',I.unwish,q⟩
 | brk=>obtain ⟨σ',H',I,q⟩:=h;exact ⟨σ',H',I.unwish,q⟩
 | cont=>obtain ⟨σ',H',I,q⟩:=h;exact ⟨σ',H',I.unwish,q⟩
 | ret u=>obtain ⟨v,σ',H',I,r,q⟩:=h;exact ⟨v,σ',H',I.unwish,r,q⟩
theorem PSs.nox {st:List Stmt} {t:TS} (h:PSs X.nox st t):PSs X st t:=fun pins s σ H D I hw=>
 wpAny_mono (h pins s σ H D (I.wish _) hw) (fun _ _ q=>q.unwish) fun _ _ z=>False.elim z
end
section
variable {X:Cx} {st:Stmt} {rest:List Stmt} {t u:TS} {e:Expr} {te:TE} {pos:Pos}
def tNext:TS:=fun D σ H=>D.nx σ H
def tSeq (t u:TS):TS:=fun D σ H=>t { D with nx:=u D } σ H
theorem pss_nil:PSs X [] tNext:=fun _ _ σ H _ I h=>wpAny_execs_nil ⟨σ,H,I,h⟩
theorem pss_cons (h1:PS X st t) (h2:PSs X rest u):PSs X (st :: rest) (tSeq t u):=by
 intro pins s σ H D I h
 refine wpAny_execs_cons (thn (h1 pins s σ H { D with nx:=u D } I h) fun f s1 q=>?_)
 cases f with
 | next=>
  obtain ⟨σ',H',I',q⟩:=q
  exact h2 pins s1 σ' H' D I' q
 | ret v=>exact q
 | brk=>exact q
 | cont=>exact q
theorem pss_one (h1:PS X st t):PSs X [st] t:=by
 intro pins s σ H D I h
 refine wpAny_execs_cons (thn (h1 pins s σ H D I h) fun f s1 q=>?_)
 cases f with
 | next=>exact wpAny_execs_nil q
 | ret v=>exact q
 | brk=>exact q
 | cont=>exact q
theorem Inv.quiet {pins:List (Addr × Obj)} {σ:St} {H:Hp} {s:Shared} (I:Inv X pins σ H s):interactive X.env = false:=by simp [interactive,I.ok.kind]
def tDrop (te:TE):TS:=fun D σ H=>te σ H fun _ H1=>D.nx σ H1
theorem ps_expr (he:PE X e te) (hs:swapsWith e none pos.line X.env = pure false:=by rfl):PS X (.Expr e pos) (tDrop te):=by
 intro pins s σ H D I h
 exact wpAny_Expr_any (thn (he pins s σ H _ I h) fun v s1 ⟨x,H1,I1,r1,q1⟩=>⟨σ,H1,I1,q1⟩) I.quiet hs
def tRet (te:TE):TS:=fun D σ H=>te σ H D.rt
theorem ps_ret (he:PE X e te):PS X (.Return (some e) pos) (tRet te):=by
 intro pins s σ H D I h
 exact wpAny_Return_some (thn (he pins s σ H _ I h) fun v s1 ⟨x,H1,I1,r1,q1⟩=>⟨x,σ,H1,I1,r1,q1⟩)
def tRetN:TS:=fun D _ H=>D.rt .non H
theorem ps_retN:PS X (.Return none pos) tRetN:=fun _ _ σ H _ I h=>wpAny_Return_none ⟨.non,σ,H,I,rfl,h⟩
def tIfS (c:TT) (t u:TS):TS:=fun D σ H=>c σ H fun b H1=>if b = true then t D σ H1 else u D σ H1
theorem ps_if {c:Expr} {a b:List Stmt} {tc:TT} (hc:PT X c tc) (ha:PSs X a t) (hb:PSs X b u):PS X (.If c a b pos) (tIfS tc t u):=by
 intro pins s σ H D I h
 refine wpAny_If (thn (hc pins s σ H _ I h) fun d s1 ⟨H1,I1,q1⟩=>?_)
 cases d with
 | true=>exact ha pins s1 σ H1 D I1 q1
 | false=>exact hb pins s1 σ H1 D I1 q1
def tNever:TS:=fun _ _ _=>False
theorem pss_never {sts:List Stmt}:PSs X sts tNever:=fun _ _ _ _ _ _ h=>h.elim
end
abbrev TG:=V->St->Hp->(St->Hp->Prop)->Prop
abbrev TGs:=List V->St->Hp->(St->Hp->Prop)->Prop
def PG (X:Cx) (target:Expr) (t:TG):Prop:=
 ∀ (pins:List (Addr × Obj)) (s:Shared) (σ:St) (H:Hp) (v:V) (u:Value) (Q:St->Hp->Prop),Inv X pins σ H s->RelV v u->t v σ H Q →
  wpAny (model X.prog X.w) X.A (assign target X.env u) (fun _ s'=>∃ σ' H',Inv X pins σ' H' s'/\Q σ' H') X.xe s
def PGs (X:Cx) (ts:List Expr) (t:TGs):Prop:=
 ∀ (pins:List (Addr × Obj)) (s:Shared) (σ:St) (H:Hp) (vs:List V) (us:List Value) (Q:St->Hp->Prop),Inv X pins σ H s->Vals vs us->t vs σ H Q →
  wpAny (model X.prog X.w) X.A (assignInOrder ((assignEach ts X.env).map (·.2)) us) (fun _ s'=>∃ σ' H',Inv X pins σ' H' s'/\Q σ' H') X.xe s
section
variable {X:Cx} {pos:Pos}
def gName (i:Nat):TG:=fun v σ H Q=>Q (σ.set i (some v)) H
theorem pg_name {i:Nat} {x:Str} (hN:X.N.Nodup) (hi:X.N[i]? = some x) (hx:Loc X.env.scope x) (hf:X.fn x = true\/X.env.scope.names.lookup x = some .local:=by first | exact .inl rfl | exact .inr rfl | assumption):PG X (.Name x pos) (gName i):=by
 intro pins s σ H v u Q I r h
 exact wpAny_assign_Name (store_ok I hN hi hx r (fun s' I'=>⟨_,H,I',h⟩) hf)
def gNil:TGs:=fun vs σ H Q=>vs = []/\Q σ H
def gCons (t:TG) (u:TGs):TGs:=fun vs σ H Q=>∃ v r,vs = v :: r/\t v σ H fun σ' H'=>u r σ' H' Q
theorem pgs_nil:PGs X [] gNil:=by
 intro pins s σ H vs us Q I r h
 obtain ⟨e,h⟩:=h
 subst e
 cases r
 exact assignInOrder_nil ⟨σ,H,I,h⟩
theorem pgs_cons {e:Expr} {es:List Expr} {t:TG} {u:TGs} (h1:PG X e t) (h2:PGs X es u)
  (hs:(assignEach (e :: es) X.env).map (·.2) = assign e X.env :: (assignEach es X.env).map (·.2):=by rfl):PGs X (e :: es) (gCons t u):=by
 intro pins s σ H vs us Q I r h
 obtain ⟨v,vr,e1,h⟩:=h
 subst e1
 cases r with
 | cons r rr=>
  rw [hs]
  refine assignInOrder_cons (thn (h1 pins s σ H _ _ _ I r h) fun _ s1 ⟨σ1,H1,I1,q1⟩=>?_)
  exact h2 pins s1 σ1 H1 _ _ Q I1 rr q1
def gTup (K:PySem.W.Frag) (n:Nat) (t:TGs):TG:=fun v σ H Q=>∃ a xs,v = .ref a/\SqT K H a xs/\xs.length = n/\t xs σ H Q
theorem pg_tup {es:List Expr} {k:Nat} {t:TGs} {n:Nat} (hc:X.calm = true) (h:PGs X es t)
  (hn:(assignEach es X.env).length = n:=by rfl) (hst:(assignEach es X.env).findIdx? (·.1) = none:=by rfl):PG X (.Tuple es k pos) (gTup X.K n t):=by
 intro pins s σ H v u Q I r hw
 obtain ⟨a,xs,e1,hq,hl,hw⟩:=hw
 subst e1
 cases r
 obtain ⟨its,rv,ht,hz⟩:=I.tuple hq
 refine assign_Tuple_tuple (I.ok.hd hc) ht (by simp [hn,← hl,rv.length]) hst fun h' hx=>?_
 have I1:Inv X pins σ H { s with heap:=h' }:=I.kept (t':=s.toks) fun b o e=>hx b o (Nat.ne_of_lt (Heap.lt_size e)) e
 exact h pins _ σ H xs _ Q I1 (by simpa using rv) hw
def tAsg (te:TE) (g:TG):TS:=fun D σ H=>te σ H fun x H1=>g x σ H1 D.nx
theorem ps_asg {tg e:Expr} {te:TE} {g:TG} (he:PE X e te) (hg:PG X tg g) (hs:swapsWithSole [tg] e pos.line X.env = pure false:=by rfl) (hw:swappedStores [tg] e X.env = pure none:=by rfl)
  (h1:(assignEach [tg] X.env).map (·.2) = [assign tg X.env]:=by rfl):PS X (.Assign [tg] e pos) (tAsg te g):=by
 intro pins s σ H D I h
 refine wpAny_Assign_stores (thn (he pins s σ H _ I h) fun v s1 ⟨x,H1,I1,r1,q1⟩=>?_) hs hw
 rw [h1]
 exact thn (hg pins s1 σ H1 x v _ I1 r1 q1) fun _ s2 q=>q
theorem ps_set {i:Nat} {x:Str} {e:Expr} {te:TE} {pos':Pos} (hN:X.N.Nodup) (hi:X.N[i]? = some x) (hx:Loc X.env.scope x) (he:PE X e te) (hs:swapsWith e (some (.Name x pos')) pos.line X.env = pure false:=by rfl) (hf:X.fn x = true\/X.env.scope.names.lookup x = some .local:=by first | exact .inl rfl | exact .inr rfl | assumption) :
  PS X (.Assign [.Name x pos'] e pos) (tAsg te (gName i)):=by
 intro pins s σ H D I h
 refine wpAny_Assign_Name (thn (he pins s σ H _ I h) fun v s1 ⟨y,H1,I1,r1,q1⟩=>?_) hs
 exact store_ok I1 hN hi hx r1 (fun s2 I2=>⟨_,H1,I2,q1⟩) hf
end
section
variable {X:Cx} {pos:Pos}
def tWhile (c:TT) (tb:TS):TS:=fun D σ H=>∃ W:Nat->St->Hp->Prop,(∃ m,W m σ H)/\∀ m σ H,W m σ H →
 c σ H fun b H1=>if b = true then ∃ N:St->Hp->Prop,(∀ σ' H',N σ' H'->∃ m',m' < m/\W m' σ' H')/\tb { D with nx:=N,ct:=N,bk:=D.nx } σ H1 else D.nx σ H1
theorem ps_while {c:Expr} {body:List Stmt} {tc:TT} {tb:TS} (hp:PassesOwn (model X.prog X.w) X.A X.env X.xe) (hc:PT X c tc) (hb:PSs X body tb):PS X (.While c body [] pos) (tWhile tc tb):=by
 intro pins s σ H D I h
 obtain ⟨W,⟨m0,w0⟩,turn⟩:=h
 refine wpAny_While (codeAny_whileLoop (fun n s'=>∃ σ' H',Inv X pins σ' H' s'/\W n σ' H') ?_ m0 ⟨σ,H,I,w0⟩)
 rintro n s1 ⟨σ1,H1,I1,w1⟩
 refine wpAny_passesOwn hp (thn (hc pins s1 σ1 H1 _ I1 (turn n σ1 H1 w1)) fun b s2 ⟨H2,I2,q2⟩=>?_)
 cases b with
 | true=>
  obtain ⟨N,hN,q2⟩:=q2
  rw [if_pos rfl]
  refine wpAny_passesOwn hp (thn (hb pins s2 σ1 H2 _ I2 q2) fun f s3 q3=>?_)
  cases f with
  | next=>
   obtain ⟨σ3,H3,I3,n3⟩:=q3
   obtain ⟨m',hm,w3⟩:=hN σ3 H3 n3
   exact ⟨m',hm,σ3,H3,I3,w3⟩
  | cont=>
   obtain ⟨σ3,H3,I3,n3⟩:=q3
   obtain ⟨m',hm,w3⟩:=hN σ3 H3 n3
   exact ⟨m',hm,σ3,H3,I3,w3⟩
  | brk=>exact q3
  | ret v=>exact q3
 | false=>
  rw [if_neg Bool.false_ne_true]
  exact wpAny_execs_nil ⟨σ1,H2,I2,q2⟩
end
structure It where
 go:Nat->Hp->Prop
 yld:Nat->Hp->V->Hp->Prop
 stop:Nat->Hp->Prop
def FpOk (X:Cx) (pins:List (Addr × Obj)) (H:Hp) (b:Addr):Prop:=
 H b = none/\b ≠ X.env.locals/\b ∉ X.fs/\(b ∈ X.ex\/X.s₀.heap.objs.size ≤ b)/\(∀ x c,X.env.cells.lookup x = some c->c ≠ b)/\∀ p ∈ X.pn ++ pins,p.1 ≠ b
theorem Inv.fpOk {X:Cx} {pins:List (Addr × Obj)} {σ:St} {H H':Hp} {s:Shared} {b:Addr} (I:Inv X pins σ H s) (hb:s.heap.objs.size ≤ b) (hn:H' b = none):FpOk X pins H' b:=by
 refine ⟨hn,Nat.ne_of_gt (Nat.lt_of_lt_of_le I.lt hb),I.nofs hb,.inr (Nat.le_trans I.sz hb),fun x c e z=>?_,fun p hp z=>?_⟩
 ·obtain ⟨v,q⟩:=I.cell x c e
  exact absurd (Nat.lt_of_lt_of_le q.lt (by rw [z];exact hb)) (Nat.lt_irrefl _)
 ·exact absurd (Nat.lt_of_lt_of_le (Heap.lt_size (I.pin p hp).1) (by rw [z];exact hb)) (Nat.lt_irrefl _)
structure Turn (P:Program) (w:World) (K:PySem.W.Frag) (tg:Expr) (J:It) (fp:List Addr) (it:Addr) (tn:Nat->Heap->Prop):Prop where
 mem:it ∈ fp
 obj:∀ i h,tn i h->∀ b ∈ fp,∃ o,h.get? b = some o/\∀ v,o.data ≠ .cell v
 keep:∀ i h h',tn i h->(∀ b ∈ fp,∀ o,h.get? b = some o->h'.get? b = some o)->tn i h'
 item:∀ (X:Cx),X.prog = P->X.w = w->X.K = K->X.calm = true->∀ (i:Nat) (pins:List (Addr × Obj)) (s:Shared) (σ:St) (H:Hp) (E:Value->Shared->Prop),Inv X pins σ H s->(∀ b ∈ fp,FpOk X pins H b)->tn i s.heap->J.go i H →
  wpAny (model P w) X.A (pyNext (.ref it)) (fun r s1=>∃ u,r = some u ∧
   wpAny (model P w) X.A (letOwnedTupleGo tg (.ref it) u) (fun _ s2=>∃ x H',Inv X pins σ H' s2/\RelV x u/\J.yld i H x H'/\tn (i + 1) s2.heap/\∀ b ∈ fp,H' b = none) E s1) E s
 done:∀ (X:Cx),X.prog = P->X.w = w->X.K = K->X.calm = true->∀ (i:Nat) (pins:List (Addr × Obj)) (s:Shared) (σ:St) (H:Hp) (E:Value->Shared->Prop),Inv X pins σ H s->(∀ b ∈ fp,FpOk X pins H b)->tn i s.heap->J.stop i H →
  wpAny (model P w) X.A (pyNext (.ref it)) (fun r s1=>r = none/\Inv X pins σ H s1) E s
 self:∀ (A:Around) (i:Nat) (s:Shared) (Q:Value->Shared->Prop) (E:Value->Shared->Prop),tn i s.heap->Q (.ref it) s->wpAny (model P w) A (pyIter (.ref it)) Q E s
abbrev TI:=St->Hp->(It->Hp->Prop)->Prop
def PIE (X:Cx) (pins:List (Addr × Obj)) (σ:St) (tg:Expr) (R:It->Hp->Prop) (itv:Value) (s2:Shared):Prop:=
 ∃ (it:Addr) (fp:List Addr) (tn:Nat->Heap->Prop) (J:It) (H':Hp),itv = .ref it/\Inv X pins σ H' s2/\Turn X.prog X.w X.K tg J fp it tn/\tn 0 s2.heap/\(∀ b ∈ fp,FpOk X pins H' b)/\R J H'
def PI (X:Cx) (tg iter:Expr) (wi:TI):Prop:=
 ∀ (pins:List (Addr × Obj)) (s:Shared) (σ:St) (H:Hp) (R:It->Hp->Prop),Inv X pins σ H s->wi σ H R →
  wpAny (model X.prog X.w) X.A (eval iter X.env) (fun v s1=>wpAny (model X.prog X.w) X.A (pyIter v) (PIE X pins σ tg R) X.xe s1) X.xe s
theorem go_of {M:Model} {A:Around} {E:Value->Shared->Prop} {s:Shared} {tg:Expr} {it:Addr} {u:Value} {o:Obj} {n:String} {vs:Array Value} {Q:Unit->Shared->Prop} (ho:s.heap.get? it = some o) (hc:o.cls = .type n) (hd:o.data = .fields vs)
  (hn:["enumerate","zip","dict_itemiterator","dict_reverseitemiterator","odict_iterator","itertools.zip_longest","itertools.pairwise"].contains n = false) (hQ:Q () s):wpAny M A (letOwnedTupleGo tg (.ref it) u) Q E s:=by
 unfold letOwnedTupleGo
 cases tg <;> first
  | exact wpAny_pure hQ
  | (cases u <;> first
    | exact wpAny_pure hQ
    | (refine wpAny_bind (wpAny_load ho ?_)
       rw [hc,hd]
       show wpAny M A (if (["enumerate","zip","dict_itemiterator","dict_reverseitemiterator","odict_iterator","itertools.zip_longest","itertools.pairwise"].contains n && vs[0]? == some (rawInt _)) = true then _ else _) Q E s
       rw [if_neg (by intro h;rw [hn,Bool.false_and] at h;cases h)]
       exact wpAny_pure hQ))
def Itl (K:PySem.W.Frag) (a:Addr):It:=
 ⟨fun i H=>∃ xs x,SqL K H a xs/\xs[i]? = some x,fun i H x H'=>H' = H/\∀ xs,SqL K H a xs->xs[i]? = some x,fun i H=>∃ xs,SqL K H a xs/\xs.length ≤ i⟩
def Itt (K:PySem.W.Frag) (a:Addr):It:=
 ⟨fun i H=>∃ xs x,SqT K H a xs/\xs[i]? = some x,fun i H x H'=>H' = H/\∀ xs,SqT K H a xs->xs[i]? = some x,fun i H=>∃ xs,SqT K H a xs/\xs.length ≤ i⟩
def Itr (lo:Int) (n:Nat):It:=⟨fun i _=>i < n,fun i H x H'=>H' = H/\x = .int (lo + i),fun i _=>n ≤ i⟩
theorem turn_list {P:Program} {w:World} {K:PySem.W.Frag} {tg:Expr} (a it:Addr):Turn P w K tg (Itl K a) [it] it (fun i h=>h.IsListIter it a i) where
 mem:=by simp
 obj:=fun i h st b hb=>by
  have e:b = it:=by simpa using hb
  subst e
  obtain ⟨o,e,c,d⟩:=st
  exact ⟨o,e,fun v z=>by rw [d] at z;cases z⟩
 keep:=fun i h h' st k=>st.at fun o e=>k it (by simp) o e
 item:=by
  intro X hP hw hK hc i pins s σ H E I hf st hg
  subst hP hw hK
  obtain ⟨xs,x,hq,hx⟩:=hg
  obtain ⟨its,rv,p,hz⟩:=I.list hq
  obtain ⟨u,hu,ru⟩:=rv.get hx
  obtain ⟨f0,f1,f2,f3,f4,f5⟩:=hf it (by simp)
  refine wpAny_pyNext_list_item st p.isList (x:=u) (by simpa using hu) fun h' st' sb=>?_
  have I1:Inv X pins σ H { s with heap:=h' }:=I.turned (t':=s.toks) (fun b o hb e=>(sb.2 b hb).trans e) f0 f1 f3 f4 f5
  obtain ⟨o,e,c,d⟩:=id st'
  exact ⟨u,rfl,go_of (s:={ s with heap:=h' }) e c d (by decide) ⟨x,H,I1,ru,⟨rfl,fun ys hy=>by rw [I.list_inj hy hq];exact hx⟩,st',fun b hb=>(hf b hb).1⟩⟩
 done:=by
  intro X hP hw hK hc i pins s σ H E I hf st hg
  subst hP hw hK
  obtain ⟨xs,hq,hx⟩:=hg
  obtain ⟨its,rv,p,hz⟩:=I.list hq
  obtain ⟨f0,f1,f2,f3,f4,f5⟩:=hf it (by simp)
  have hl:=rv.length
  exact wpAny_pyNext_list_end (I.ok.hd hc) st p.isList (by simp;omega) fun h' eb=>⟨rfl,I.turned (t':=s.toks) (fun b o hb e=>eb b o hb e) f0 f1 f3 f4 f5⟩
 self:=fun _ _ _ _ _ st h=>wpAny_pyIter_listiter st h
theorem turn_tuple {P:Program} {w:World} {K:PySem.W.Frag} {tg:Expr} (a it:Addr):Turn P w K tg (Itt K a) [it] it (fun i h=>h.IsTupleIter it a i) where
 mem:=by simp
 obj:=fun i h st b hb=>by
  have e:b = it:=by simpa using hb
  subst e
  obtain ⟨o,e,c,d⟩:=st
  exact ⟨o,e,fun v z=>by rw [d] at z;cases z⟩
 keep:=fun i h h' st k=>st.at fun o e=>k it (by simp) o e
 item:=by
  intro X hP hw hK hc i pins s σ H E I hf st hg
  subst hP hw hK
  obtain ⟨xs,x,hq,hx⟩:=hg
  obtain ⟨its,rv,p,hz⟩:=I.tuple hq
  obtain ⟨u,hu,ru⟩:=rv.get hx
  obtain ⟨f0,f1,f2,f3,f4,f5⟩:=hf it (by simp)
  refine wpAny_pyNext_tuple_item st (show s.heap.IsTuple a its.toArray from p) (x:=u) (by simpa using hu) fun h' st' sb=>?_
  have I1:Inv X pins σ H { s with heap:=h' }:=I.turned (t':=s.toks) (fun b o hb e=>(sb.2 b hb).trans e) f0 f1 f3 f4 f5
  obtain ⟨o,e,c,d⟩:=id st'
  exact ⟨u,rfl,go_of (s:={ s with heap:=h' }) e c d (by decide) ⟨x,H,I1,ru,⟨rfl,fun ys hy=>by rw [I.tuple_inj hy hq];exact hx⟩,st',fun b hb=>(hf b hb).1⟩⟩
 done:=by
  intro X hP hw hK hc i pins s σ H E I hf st hg
  subst hP hw hK
  obtain ⟨xs,hq,hx⟩:=hg
  obtain ⟨its,rv,p,hz⟩:=I.tuple hq
  obtain ⟨f0,f1,f2,f3,f4,f5⟩:=hf it (by simp)
  have hl:=rv.length
  exact wpAny_pyNext_tuple_end (I.ok.hd hc) st (show s.heap.IsTuple a its.toArray from p) (by simp;omega) fun h' eb=>⟨rfl,I.turned (t':=s.toks) (fun b o hb e=>eb b o hb e) f0 f1 f3 f4 f5⟩
 self:=fun _ _ _ _ _ st h=>wpAny_pyIter_tupleiter st h
theorem turn_range {P:Program} {w:World} {K:PySem.W.Frag} {tg:Expr} (it:Addr) (lo:Int) (n:Nat):Turn P w K tg (Itr lo n) [it] it (fun i h=>IsRangeIter h it (lo + (i:Nat) * 1) ((n:Int) - (i:Nat)) 1) where
 mem:=by simp
 obj:=fun i h st b hb=>by
  have e:b = it:=by simpa using hb
  subst e
  exact ⟨_,st,fun v z=>by
   have z':Data.fields _ = Data.cell v:=z
   cases z'⟩
 keep:=fun i h h' st k=>k it (by simp) _ st
 item:=by
  intro X hP hw hK hc i pins s σ H E I hf st hg
  subst hP hw hK
  obtain ⟨f0,f1,f2,f3,f4,f5⟩:=hf it (by simp)
  have W:=Walks.range (prog:=X.prog) (w:=X.w) (I.ok.hd hc) it lo 1 n
  refine W.item i s _ _ hg st fun v h' tk hv st' kk=>?_
  obtain ⟨t,rfl⟩:=hv
  have I1:Inv X pins σ H { s with heap:=h',toks:=tk }:=I.turned (fun b o hb e=>kk b o (by simpa using hb) e) f0 f1 f3 f4 f5
  refine ⟨_,rfl,go_of (s:={ s with heap:=h',toks:=tk }) (n:="range_iterator") st' rfl rfl (by decide) ⟨.int (lo + i),H,I1,⟨t,?_⟩,⟨rfl,rfl⟩,st',fun b hb=>(hf b hb).1⟩⟩
  rw [Int.mul_one]
 done:=by
  intro X hP hw hK hc i pins s σ H E I hf st hg
  subst hP hw hK
  obtain ⟨f0,f1,f2,f3,f4,f5⟩:=hf it (by simp)
  exact wpAny_pyNext_range_end (I.ok.hd hc) st (by have:n ≤ i:=hg;omega) fun h' eb=>⟨rfl,I.turned (t':=s.toks) (fun b o hb e=>eb b o hb e) f0 f1 f3 f4 f5⟩
 self:=fun _ _ _ _ _ st h=>wpAny_pyIter_rangeiter st h
end L2
namespace L2
open PySem PySem.Spec PyProof.Rows
section
variable {X:Cx} {tg:Expr}
def iList (K:PySem.W.Frag) (tl:TE):TI:=fun σ H R=>tl σ H fun x H1=>∃ a,x = .ref a/\(∃ xs,SqL K H1 a xs)/\R (Itl K a) H1
def iTup (K:PySem.W.Frag) (tl:TE):TI:=fun σ H R=>tl σ H fun x H1=>∃ a,x = .ref a/\(∃ xs,SqT K H1 a xs)/\R (Itt K a) H1
theorem pi_list {l:Expr} {tl:TE} (hl:PE X l tl):PI X tg l (iList X.K tl):=by
 intro pins s σ H R I h
 refine thn (hl pins s σ H _ I h) fun v s1 ⟨x,H1,I1,r1,q1⟩=>?_
 obtain ⟨a,e,⟨xs,hq⟩,q⟩:=q1
 subst e
 cases r1
 obtain ⟨its,rv,p,hz⟩:=I1.list hq
 refine wpAny_pyIter_list p.isList ?_
 refine ⟨s1.heap.objs.size,[s1.heap.objs.size],_,_,H1,rfl,I1.kept (t':=s1.toks) fun b o e=>Heap.get?_push_of_some _ e,turn_list a _,⟨_,Heap.get?_push_size _ rfl,rfl,rfl⟩,fun b hb=>?_,q⟩
 have e:b = s1.heap.objs.size:=by simpa using hb
 subst e
 exact I1.fpOk (Nat.le_refl _) (I1.hok.fresh (Nat.le_refl _))
theorem pi_tup {l:Expr} {tl:TE} (hl:PE X l tl):PI X tg l (iTup X.K tl):=by
 intro pins s σ H R I h
 refine thn (hl pins s σ H _ I h) fun v s1 ⟨x,H1,I1,r1,q1⟩=>?_
 obtain ⟨a,e,⟨xs,hq⟩,q⟩:=q1
 subst e
 cases r1
 obtain ⟨its,rv,p,hz⟩:=I1.tuple hq
 refine wpAny_pyIter_tuple (show s1.heap.IsTuple a its.toArray from p) ?_
 refine ⟨s1.heap.objs.size,[s1.heap.objs.size],_,_,H1,rfl,I1.kept (t':=s1.toks) fun b o e=>Heap.get?_push_of_some _ e,turn_tuple a _,⟨_,Heap.get?_push_size _ rfl,rfl,rfl⟩,fun b hb=>?_,q⟩
 have e:b = s1.heap.objs.size:=by simpa using hb
 subst e
 exact I1.fpOk (Nat.le_refl _) (I1.hok.fresh (Nat.le_refl _))
theorem range_it {pins:List (Addr × Obj)} {σ:St} {H:Hp} {s:Shared} {R:It->Hp->Prop} {E:Value->Shared->Prop} {lo hi:Int} {t u v:Tok} {tk:Nat} (I:Inv X pins σ H s) (h1:-(2 ^ 62) ≤ lo) (h2:lo < 2 ^ 62) (h3:-(2 ^ 62) ≤ hi) (h4:hi < 2 ^ 62)
  (q:R (Itr lo (hi - lo).toNat) H):wpAny (model X.prog X.w) X.A (pyIter (.ref s.heap.objs.size)) (PIE X pins σ tg R) E { s with heap:=s.heap.push { cls:=.type "range",data:=.fields #[.int lo t,.int hi u,.int 1 v] },toks:=tk }:=by
 refine wpAny_pyIter_range (IsRange.new ..) (small_one h1 h2 h3 h4) ?_
 have I1:Inv X pins σ H { s with heap:=s.heap.push { cls:=.type "range",data:=.fields #[.int lo t,.int hi u,.int 1 v] },toks:=tk }:=I.kept fun b o e=>Heap.get?_push_of_some _ e
 refine ⟨(s.heap.push { cls:=.type "range",data:=.fields #[.int lo t,.int hi u,.int 1 v] }).objs.size,[(s.heap.push { cls:=.type "range",data:=.fields #[.int lo t,.int hi u,.int 1 v] }).objs.size],_,_,H,rfl,
  I1.kept (t':=tk) fun b o e=>Heap.get?_push_of_some _ e,turn_range _ lo (hi - lo).toNat,?_,fun b hb=>?_,q⟩
 ·have e1:lo + ((0:Nat):Int) * 1 = lo:=by simp
  have e2:(((hi - lo).toNat:Nat):Int) - ((0:Nat):Int) = Builtin.Range.rangeSize lo hi 1:=by rw [rangeSize_one];split <;> omega
  show IsRangeIter _ _ (lo + ((0:Nat):Int) * 1) ((((hi - lo).toNat:Nat):Int) - ((0:Nat):Int)) 1
  rw [e1,e2]
  exact Heap.get?_push_size _ rfl
 ·have e:b = (s.heap.push { cls:=.type "range",data:=.fields #[.int lo t,.int hi u,.int 1 v] }).objs.size:=by simpa using hb
  subst e
  exact I1.fpOk (Nat.le_refl _) (I1.hok.fresh (Nat.le_refl _))
def iRng1 (ta:TA):TI:=fun σ H R=>ta σ H fun vs H1=>∃ j:Int,vs = [.int j]/\-(2 ^ 62) ≤ j/\j < 2 ^ 62/\R (Itr 0 j.toNat) H1
theorem pi_range1 {a:Expr} {ta:TA} {p pos:Pos} (hg:Gl X "range") (hm:X.mg "range" = none) (ha:PA X [a] ta) (hs:starEach [a] X.env = [(false,eval a X.env)]:=by rfl):PI X tg (.Call (.Name "range" p) [a] [] pos) (iRng1 ta):=by
 intro pins s σ H R I h
 refine Call_ (ld_blt I hg hm boot_range (PyProof.Rows.callWith_type1 (thn (ha pos pins s σ H _ I h) fun us s1 ⟨vs,H1,I1,r1,q1⟩=>?_) hs rfl))
 obtain ⟨j,e,q1,q2,q⟩:=q1
 subst e
 cases r1 with
 | cons r rr=>
  cases rr
  obtain ⟨t,rfl⟩:=r
  exact call_range_1 (range_it I1 (by omega) (by omega) q1 q2 (by simpa using q))
def tFor (wi:TI) (g:TG) (tb:TS):TS:=fun D σ H=>wi σ H fun J H1=>∃ W:Nat->Nat->St->Hp->Prop,(∃ m,W 0 m σ H1)/\∀ i m σ H,W i m σ H →
 (J.stop i H/\D.nx σ H)\/(J.go i H/\∃ N:St->Hp->Prop,(∀ σ' H',N σ' H'->∃ m',m' < m/\W (i + 1) m' σ' H')/\∀ x H',J.yld i H x H'->g x σ H' fun σ2 H2=>tb { D with nx:=N,ct:=N,bk:=D.nx } σ2 H2)
def pinsAt (fp:List Addr) (h:Heap):List (Addr × Obj):=fp.filterMap fun b=>(h.get? b).map fun o=>(b,o)
theorem mem_pinsAt {fp:List Addr} {h:Heap} {b:Addr} {o:Obj} (hb:b ∈ fp) (e:h.get? b = some o):(b,o) ∈ pinsAt fp h:=List.mem_filterMap.mpr ⟨b,hb,by rw [e];rfl⟩
theorem of_pinsAt {fp:List Addr} {h:Heap} {p:Addr × Obj} (hp:p ∈ pinsAt fp h):p.1 ∈ fp/\h.get? p.1 = some p.2:=by
 obtain ⟨b,hb,e⟩:=List.mem_filterMap.mp hp
 cases q:h.get? b with
 | none=>rw [q] at e;cases e
 | some o=>
  rw [q] at e
  have e':(b,o) = p:=Option.some.inj e
  subst e'
  exact ⟨hb,q⟩
theorem Inv.pinned {pins:List (Addr × Obj)} {σ:St} {H:Hp} {s:Shared} {fp:List Addr} (I:Inv X pins σ H s) (hf:∀ b ∈ fp,FpOk X pins H b) (ho:∀ b ∈ fp,∃ o,s.heap.get? b = some o/\∀ v,o.data ≠ .cell v):Inv X (pins ++ pinsAt fp s.heap) σ H s:=
 I.pins_of fun p hp=>(List.mem_append.mp hp).elim (fun z=>I.pin p (List.mem_append_right _ z)) fun z=>by
  obtain ⟨hb,e⟩:=of_pinsAt z
  obtain ⟨f0,f1,f2,_⟩:=hf p.1 hb
  obtain ⟨o,e',d⟩:=ho p.1 hb
  rw [e] at e';cases e'
  exact ⟨e,f0,f1,f2,d⟩
theorem Inv.unpinned {pins pl:List (Addr × Obj)} {σ:St} {H:Hp} {s:Shared} (I:Inv X (pins ++ pl) σ H s):Inv X pins σ H s:=I.pins_of fun p hp=>I.pin p (List.mem_append_right _ (List.mem_append_left _ hp))
theorem ps_for {iter:Expr} {body:List Stmt} {wi:TI} {g:TG} {tb:TS} {pos:Pos} (hp:PassesOwn (model X.prog X.w) X.A X.env X.xe) (hc:X.calm = true) (hi:PI X tg iter wi) (hg:PG X tg g) (hb:PSs X body tb)
  (hs:∀ x,foldedSetIterable iter X.env x = pure x:=by intro _;rfl):PS X (.For tg iter body [] pos) (tFor wi g tb):=by
 intro pins s σ H D I h
 refine wpAny_For (thn (hi pins s σ H _ I h) fun v s1 h1=>thn h1 fun itv s2 h2=>?_) hs
 obtain ⟨it,fp,tn,J,H2,e,I2,T,st2,f2,W,⟨m0,w0⟩,turn⟩:=h2
 subst e
 have stat:∀ {H':Hp},(∀ b ∈ fp,H' b = none)->∀ b ∈ fp,FpOk X pins H' b:=fun hn b hb=>⟨hn b hb,(f2 b hb).2⟩
 refine codeAny_forLoop_any (fun n s'=>∃ i σ' H',Inv X pins σ' H' s'/\tn i s'.heap/\(∀ b ∈ fp,H' b = none)/\W i n σ' H') ?_ m0 ⟨0,σ,H2,I2,st2,fun b hb=>(f2 b hb).1,w0⟩
 rintro n s3 ⟨i,σ3,H3,I3,st3,fr3,w3⟩
 rcases turn i n σ3 H3 w3 with ⟨stop,qn⟩ | ⟨go,N,hN,step⟩
 ·refine wpAny_passesOwn hp (thn (T.done X rfl rfl rfl hc i pins s3 σ3 H3 X.xe I3 (stat fr3) st3 stop) fun r s4 ⟨hr,I4⟩=>?_)
  subst hr
  exact wpAny_execs_nil ⟨σ3,H3,I4,qn⟩
 ·refine wpAny_passesOwn hp (thn (T.item X rfl rfl rfl hc i pins s3 σ3 H3 X.xe I3 (stat fr3) st3 go) fun r s4 ⟨u,hr,h4⟩=>?_)
  subst hr
  refine wpAny_passesOwn hp (thn h4 fun _ s5 ⟨x,H5,I5,r5,y5,st5,fr5⟩=>?_)
  have I5':=I5.pinned (stat fr5) (T.obj _ _ st5)
  refine wpAny_passesOwn hp (thn (hg _ s5 σ3 H5 x u _ I5' r5 (step x H5 y5)) fun _ s6 ⟨σ6,H6,I6,q6⟩=>?_)
  refine wpAny_passesOwn hp (thn (hb _ s6 σ6 H6 _ I6 q6) fun f s7 q7=>?_)
  have again:∀ {σ7:St} {H7:Hp},Inv X (pins ++ pinsAt fp s5.heap) σ7 H7 s7->N σ7 H7->∃ m,m < n/\∃ i σ' H',Inv X pins σ' H' s7/\tn i s7.heap/\(∀ b ∈ fp,H' b = none)/\W i m σ' H':=fun {σ7 H7} I7 n7=>by
   obtain ⟨m',hm,w7⟩:=hN σ7 H7 n7
   refine ⟨m',hm,i + 1,σ7,H7,I7.unpinned,T.keep _ _ _ st5 fun b hb o e=>(I7.pin (b,o) (List.mem_append_right _ (List.mem_append_right _ (mem_pinsAt hb e)))).1,fun b hb=>?_,w7⟩
   obtain ⟨o,e,d⟩:=T.obj _ _ st5 b hb
   exact (I7.pin (b,o) (List.mem_append_right _ (List.mem_append_right _ (mem_pinsAt hb e)))).2.1
  cases f with
  | next=>obtain ⟨σ7,H7,I7,n7⟩:=q7;exact again I7 n7
  | cont=>obtain ⟨σ7,H7,I7,n7⟩:=q7;exact again I7 n7
  | brk=>obtain ⟨σ7,H7,I7,q7⟩:=q7;exact ⟨σ7,H7,I7.unpinned,q7⟩
  | ret v=>obtain ⟨x7,σ7,H7,I7,r7,q7⟩:=q7;exact ⟨x7,σ7,H7,I7.unpinned,r7,q7⟩
end
theorem for_list {K:PySem.W.Frag} {a:Addr} {xs:List V} {g:TG} {tb:TS} {D:Ends} {σ:St} {H:Hp} (Pv:Nat->St->Hp->Prop) (h0:Pv 0 σ H) (hl:∀ i σ H,i ≤ xs.length->Pv i σ H->SqL K H a xs)
  (hs:∀ i x σ H,xs[i]? = some x->Pv i σ H->g x σ H fun σ2 H2=>tb { D with nx:=Pv (i + 1),ct:=Pv (i + 1),bk:=D.nx } σ2 H2) (hd:∀ σ H,Pv xs.length σ H->D.nx σ H) :
  ∃ W:Nat->Nat->St->Hp->Prop,(∃ m,W 0 m σ H)/\∀ i m σ H,W i m σ H →
   ((Itl K a).stop i H/\D.nx σ H)\/((Itl K a).go i H/\∃ N:St->Hp->Prop,(∀ σ' H',N σ' H'->∃ m',m' < m/\W (i + 1) m' σ' H')/\∀ x H',(Itl K a).yld i H x H'->g x σ H' fun σ2 H2=>tb { D with nx:=N,ct:=N,bk:=D.nx } σ2 H2):=by
 refine ⟨fun i m σ H=>m = xs.length - i/\i ≤ xs.length/\Pv i σ H,⟨xs.length,by simp,Nat.zero_le _,h0⟩,?_⟩
 rintro i m σ H ⟨rfl,hi,p⟩
 have q:=hl i σ H hi p
 by_cases hlt:i < xs.length
 ·refine .inr ⟨⟨xs,xs[i],q,by simp [hlt]⟩,Pv (i + 1),fun σ' H' p'=>⟨xs.length - (i + 1),by omega,rfl,hlt,p'⟩,fun x H' y=>?_⟩
  obtain ⟨e,y⟩:=y
  subst e
  exact hs i x σ _ (y xs q) p
 ·have e:i = xs.length:=by omega
  subst e
  exact .inl ⟨⟨xs,q,Nat.le_refl _⟩,hd σ H p⟩
theorem for_tup {K:PySem.W.Frag} {a:Addr} {xs:List V} {g:TG} {tb:TS} {D:Ends} {σ:St} {H:Hp} (Pv:Nat->St->Hp->Prop) (h0:Pv 0 σ H) (hl:∀ i σ H,i ≤ xs.length->Pv i σ H->SqT K H a xs)
  (hs:∀ i x σ H,xs[i]? = some x->Pv i σ H->g x σ H fun σ2 H2=>tb { D with nx:=Pv (i + 1),ct:=Pv (i + 1),bk:=D.nx } σ2 H2) (hd:∀ σ H,Pv xs.length σ H->D.nx σ H) :
  ∃ W:Nat->Nat->St->Hp->Prop,(∃ m,W 0 m σ H)/\∀ i m σ H,W i m σ H →
   ((Itt K a).stop i H/\D.nx σ H)\/((Itt K a).go i H/\∃ N:St->Hp->Prop,(∀ σ' H',N σ' H'->∃ m',m' < m/\W (i + 1) m' σ' H')/\∀ x H',(Itt K a).yld i H x H'->g x σ H' fun σ2 H2=>tb { D with nx:=N,ct:=N,bk:=D.nx } σ2 H2):=by
 refine ⟨fun i m σ H=>m = xs.length - i/\i ≤ xs.length/\Pv i σ H,⟨xs.length,by simp,Nat.zero_le _,h0⟩,?_⟩
 rintro i m σ H ⟨rfl,hi,p⟩
 have q:=hl i σ H hi p
 by_cases hlt:i < xs.length
 ·refine .inr ⟨⟨xs,xs[i],q,by simp [hlt]⟩,Pv (i + 1),fun σ' H' p'=>⟨xs.length - (i + 1),by omega,rfl,hlt,p'⟩,fun x H' y=>?_⟩
  obtain ⟨e,y⟩:=y
  subst e
  exact hs i x σ _ (y xs q) p
 ·have e:i = xs.length:=by omega
  subst e
  exact .inl ⟨⟨xs,q,Nat.le_refl _⟩,hd σ H p⟩
theorem for_range {lo:Int} {n:Nat} {g:TG} {tb:TS} {D:Ends} {σ:St} {H:Hp} (Pv:Nat->St->Hp->Prop) (h0:Pv 0 σ H)
  (hs:∀ i σ H,i < n->Pv i σ H->g (.int (lo + i)) σ H fun σ2 H2=>tb { D with nx:=Pv (i + 1),ct:=Pv (i + 1),bk:=D.nx } σ2 H2) (hd:∀ σ H,Pv n σ H->D.nx σ H) :
  ∃ W:Nat->Nat->St->Hp->Prop,(∃ m,W 0 m σ H)/\∀ i m σ H,W i m σ H →
   ((Itr lo n).stop i H/\D.nx σ H)\/((Itr lo n).go i H/\∃ N:St->Hp->Prop,(∀ σ' H',N σ' H'->∃ m',m' < m/\W (i + 1) m' σ' H')/\∀ x H',(Itr lo n).yld i H x H'->g x σ H' fun σ2 H2=>tb { D with nx:=N,ct:=N,bk:=D.nx } σ2 H2):=by
 refine ⟨fun i m σ H=>m = n - i/\i ≤ n/\Pv i σ H,⟨n,by simp,Nat.zero_le _,h0⟩,?_⟩
 rintro i m σ H ⟨rfl,hi,p⟩
 by_cases hlt:i < n
 ·refine .inr ⟨hlt,Pv (i + 1),fun σ' H' p'=>⟨n - (i + 1),by omega,rfl,hlt,p'⟩,fun x H' y=>?_⟩
  obtain ⟨e,y⟩:=y
  subst e y
  exact hs i σ _ hlt p
 ·have e:i = n:=by omega
  subst e
  exact .inl ⟨Nat.le_refl _,hd σ H p⟩
theorem while_by {c:TT} {tb:TS} {D:Ends} {σ:St} {H:Hp} (Pv:St->Hp->Prop) (μ:St->Hp->Nat) (h0:Pv σ H)
  (hs:∀ σ H,Pv σ H->c σ H fun b H1=>if b = true then tb { D with nx:=fun σ' H'=>Pv σ' H'/\μ σ' H' < μ σ H,ct:=fun σ' H'=>Pv σ' H'/\μ σ' H' < μ σ H,bk:=D.nx } σ H1 else D.nx σ H1)
  (mono:∀ σ H Q Q',(∀ b H1,Q b H1->Q' b H1)->c σ H Q->c σ H Q'):tWhile c tb D σ H:=by
 refine ⟨fun m σ H=>m = μ σ H/\Pv σ H,⟨_,rfl,h0⟩,?_⟩
 rintro m σ H ⟨rfl,p⟩
 refine mono σ H _ _ (fun b H1 q=>?_) (hs σ H p)
 cases b with
 | true=>exact ⟨_,fun σ' H' ⟨p',l⟩=>⟨_,l,rfl,p'⟩,q⟩
 | false=>exact q
end L2
namespace L2
open PySem PySem.Spec PyProof.Rows
abbrev R2:=V->V->Hp->VK->Prop
def OpR (X:Cx) (f:Value->Value->Sem Value) (r:R2):Prop:=
 ∀ (pins:List (Addr × Obj)) (s:Shared) (σ:St) (H:Hp) (x y:V) (v u:Value) (Q:VK),Inv X pins σ H s->RelV x v->RelV y u->r x y H Q →
  wpAny (model X.prog X.w) X.A (f v u) (EP X pins σ Q) X.xe s
def UnR (X:Cx) (f:Value->Sem Value) (r:V->Hp->VK->Prop):Prop:=
 ∀ (pins:List (Addr × Obj)) (s:Shared) (σ:St) (H:Hp) (x:V) (v:Value) (Q:VK),Inv X pins σ H s->RelV x v->r x H Q →
  wpAny (model X.prog X.w) X.A (f v) (EP X pins σ Q) X.xe s
def CallR (X:Cx) (f:Value) (r:List V->Hp->VK->Prop):Prop:=
 ∀ (pins:List (Addr × Obj)) (s:Shared) (σ:St) (H:Hp) (xs:List V) (us:List Value) (Q:VK),Inv X pins σ H s->Vals xs us->r xs H Q →
  wpAny (model X.prog X.w) X.A (call f us) (EP X pins σ Q) X.xe s
def tOp (r:R2) (ta tb:TE):TE:=fun σ H Q=>ta σ H fun x H1=>tb σ H1 fun y H2=>r x y H2 Q
def tUn (r:V->Hp->VK->Prop) (ta:TE):TE:=fun σ H Q=>ta σ H fun x H1=>r x H1 Q
def rI (C:Int->Int->Prop) (g:Int->Int->V):R2:=fun x y H Q=>∃ i j,x = .int i/\y = .int j/\C i j/\Q (g i j) H
def rI0 (g:Int->Int->V):R2:=fun x y H Q=>∃ i j,x = .int i/\y = .int j/\Q (g i j) H
def rU (g:Int->V):V->Hp->VK->Prop:=fun x H Q=>∃ i,x = .int i/\Q (g i) H
section
variable {X:Cx} {a b c:Expr} {ta tb tc:TE} {pos:Pos}
theorem binT (ha:PE X a ta) (hb:PE X b tb) {pins:List (Addr × Obj)} {s:Shared} {σ:St} {H:Hp} {R:V->V->Hp->Prop} (I:Inv X pins σ H s)
  (h:ta σ H fun x H1=>tb σ H1 fun y H2=>R x y H2) {Q:Value->Shared->Prop} {f:Value->Value->Sem Value}
  (hf:∀ v u s2 x y H2,Inv X pins σ H2 s2->RelV x v->RelV y u->R x y H2->wpAny (model X.prog X.w) X.A (f v u) Q X.xe s2) :
  wpAny (model X.prog X.w) X.A (eval a X.env) (fun v s₁=>wpAny (model X.prog X.w) X.A (eval b X.env) (fun u s₂=>wpAny (model X.prog X.w) X.A (f v u) Q X.xe s₂) X.xe s₁) X.xe s:=by
 refine thn (ha pins s σ H _ I h) fun v s1 ⟨x,H1,I1,r1,q1⟩=>?_
 refine thn (hb pins s1 σ H1 _ I1 q1) fun u s2 ⟨y,H2,I2,r2,q2⟩=>?_
 exact hf v u s2 x y H2 I2 r1 r2 q2
theorem pe_op {op:Operator} {r:R2} (ho:OpR X (binaryOp op) r) (ha:PE X a ta) (hb:PE X b tb):PE X (.BinOp a op b pos) (tOp r ta tb):=by
 intro pins s σ H Q I h
 exact wpAny_BinOp (binT ha hb I h fun v u s2 x y H2 I2 rx ry q=>ho pins s2 σ H2 x y v u Q I2 rx ry q)
theorem pe_un {op:UnaryOp} {r:V->Hp->VK->Prop} (ho:UnR X (unaryOp op) r) (ha:PE X a ta):PE X (.UnaryOp op a pos) (tUn r ta):=by
 intro pins s σ H Q I h
 exact UnaryOp_ (thn (ha pins s σ H _ I h) fun v s1 ⟨x,H1,I1,r1,q1⟩=>ho pins s1 σ H1 x v Q I1 r1 q1)
theorem opI {f:Value->Value->Sem Value} {C:Int->Int->Prop} {g:Int->Int->Int}
  (rule:∀ (i j:Int) (t u:Tok) (s:Shared) (Q:Value->Shared->Prop) (E:Value->Shared->Prop),C i j->Q (.int (g i j) s.toks) { s with toks:=s.toks + 1 }->wpAny (model X.prog X.w) X.A (f (.int i t) (.int j u)) Q E s) :
  OpR X f (rI C fun i j=>.int (g i j)):=by
 intro pins s σ H x y v u Q I rx ry h
 obtain ⟨i,j,rfl,rfl,hc,q⟩:=h
 obtain ⟨t,rfl⟩:=rx
 obtain ⟨t',rfl⟩:=ry
 exact rule i j t t' s _ _ hc ⟨.int (g i j),H,I.tok _,⟨_,rfl⟩,q⟩
theorem opI0 {f:Value->Value->Sem Value} {g:Int->Int->Int}
  (rule:∀ (i j:Int) (t u:Tok) (s:Shared) (Q:Value->Shared->Prop) (E:Value->Shared->Prop),Q (.int (g i j) s.toks) { s with toks:=s.toks + 1 }->wpAny (model X.prog X.w) X.A (f (.int i t) (.int j u)) Q E s) :
  OpR X f (rI0 fun i j=>.int (g i j)):=by
 intro pins s σ H x y v u Q I rx ry h
 obtain ⟨i,j,rfl,rfl,q⟩:=h
 obtain ⟨t,rfl⟩:=rx
 obtain ⟨t',rfl⟩:=ry
 exact rule i j t t' s _ _ ⟨.int (g i j),H,I.tok _,⟨_,rfl⟩,q⟩
theorem opB0 {f:Value->Value->Sem Value} {g:Int->Int->Bool}
  (rule:∀ (i j:Int) (t u:Tok) (s:Shared) (Q:Value->Shared->Prop) (E:Value->Shared->Prop),Q (.bool (g i j)) s->wpAny (model X.prog X.w) X.A (f (.int i t) (.int j u)) Q E s) :
  OpR X f (rI0 fun i j=>.bl (g i j)):=by
 intro pins s σ H x y v u Q I rx ry h
 obtain ⟨i,j,rfl,rfl,q⟩:=h
 obtain ⟨t,rfl⟩:=rx
 obtain ⟨t',rfl⟩:=ry
 exact rule i j t t' s _ _ ⟨.bl (g i j),H,I,rfl,q⟩
def CDiv (i j:Int):Prop:=0 < j/\j < 1073741824
def CPow (i j:Int):Prop:=0 ≤ j/\j ≤ 1000000/\i.natAbs < 2 ^ 64
def CMul (i j:Int):Prop:=(-(2 ^ 64) < i/\i < 2 ^ 64)\/(-(2 ^ 64) < j/\j < 2 ^ 64)
theorem CMul.ok {i j:Int} (h:CMul i j):IntMulOk i j:=by
 rcases h with ⟨h1,h2⟩ | ⟨h1,h2⟩
 ·exact .of_left (intBits_le_64 h1 h2)
 ·exact .of_right (intBits_le_64 h1 h2)
theorem two_pow_nn (k:Nat):(0:Int) ≤ 2 ^ k:=by
 rw [two_pow_cast]
 exact Int.natCast_nonneg _
theorem op_add:OpR X (binaryOp .Add) (rI0 fun i j=>.int (i + j)):=opI0 fun _ _ _ _ _ _ _ q=>add_int q
theorem op_sub:OpR X (binaryOp .Sub) (rI0 fun i j=>.int (i - j)):=opI0 fun _ _ _ _ _ _ _ q=>sub_int q
theorem op_mul:OpR X (binaryOp .Mult) (rI CMul fun i j=>.int (i * j)):=opI fun _ _ _ _ _ _ _ hc q=>mul_int q hc.ok
theorem op_fdiv:OpR X (binaryOp .FloorDiv) (rI CDiv fun i j=>.int (i / j)):=opI fun i j _ _ _ _ _ hc q=>by
 have h1:(0:Int) < j:=hc.1
 have h2:j < 1073741824:=hc.2
 exact floordiv_int (by omega) (by rw [Int.fdiv_eq_ediv_of_nonneg i (by omega)];exact q) (.inl (PyProof.noPylong_small (by omega)))
theorem op_mod:OpR X (binaryOp .Mod) (rI (fun _ j=>0 < j) fun i j=>.int (i % j)):=opI fun i j _ _ _ _ _ hc q=>by
 have h1:(0:Int) < j:=hc
 exact mod_int' (by omega) (by rw [Int.fmod_eq_emod_of_nonneg i (by omega)];exact q)
theorem op_pow:OpR X (binaryOp .Pow) (rI CPow fun i j=>.int (i ^ j.toNat)):=opI fun _ _ _ _ _ _ _ hc q=>pow_int_small hc.1 hc.2.1 hc.2.2 q
theorem unI {f:Value->Sem Value} {g:Int->Int}
  (rule:∀ (i:Int) (t:Tok) (s:Shared) (Q:Value->Shared->Prop) (E:Value->Shared->Prop),Q (.int (g i) s.toks) { s with toks:=s.toks + 1 }->wpAny (model X.prog X.w) X.A (f (.int i t)) Q E s) :
  UnR X f (rU fun i=>.int (g i)):=by
 intro pins s σ H x v Q I rx h
 obtain ⟨i,rfl,q⟩:=h
 obtain ⟨t,rfl⟩:=rx
 exact rule i t s _ _ ⟨.int (g i),H,I.tok _,⟨_,rfl⟩,q⟩
theorem un_neg:UnR X (unaryOp .USub) (rU fun i=>.int (-i)):=unI fun _ _ _ _ _ q=>neg_int q
end
def scal:V->V->Bool
 | .non,.non=>true | .non,.int _=>true | .int _,.non=>true | .non,.bl _=>true | .bl _,.non=>true | .non,.str _=>true | .str _,.non=>true
 | .int _,.int _=>true | .bl _,.bl _=>true | .str _,.str _=>true | .byt _,.byt _=>true
 | .int _,.str _=>true | .str _,.int _=>true | .bl _,.str _=>true | .str _,.bl _=>true
 | _,_=>false
def rEq:R2:=fun x y H Q=>scal x y = true/\Q (.bl (decide (x = y))) H
def rNe:R2:=fun x y H Q=>scal x y = true/\Q (.bl (!decide (x = y))) H
theorem dec_int {i j:Int}:decide (V.int i = V.int j) = (i == j):=by
 rw [Bool.eq_iff_iff]
 simp
theorem dec_bl {i j:Bool}:decide (V.bl i = V.bl j) = (i == j):=by
 rw [Bool.eq_iff_iff]
 simp
theorem dec_str {i j:Str}:decide (V.str i = V.str j) = (i == j):=by
 rw [Bool.eq_iff_iff]
 simp
theorem dec_byt {i j:Array UInt8}:decide (V.byt i = V.byt j) = (i.toList == j.toList):=by
 rw [Bool.eq_iff_iff]
 cases i
 cases j
 simp
section
variable {X:Cx} {a b c:Expr} {ta tb tc:TE} {pos:Pos}
theorem fin_bl {pins:List (Addr × Obj)} {σ:St} {H:Hp} {s:Shared} {Q:VK} {k k':Bool} (I:Inv X pins σ H s) (q:Q (.bl k) H) (e:k = k'):EP X pins σ Q (.bool k') s:=by
 subst e
 exact ⟨.bl k,H,I,rfl,q⟩
theorem op_eq:OpR X (compareOp .Eq) rEq:=by
 intro pins s σ H x y v u Q I rx ry h
 obtain ⟨hs,q⟩:=h
 cases x with
 | non=>
  cases rx
  cases y with
  | non=>cases ry;exact PySem.EqNone.eq_none_none (fin_bl I q (by simp))
  | bl j=>cases ry;exact PySem.EqNone.eq_none_bool (fin_bl I q (by simp))
  | int j=>obtain ⟨t',rfl⟩:=ry;exact PySem.EqNone.eq_none_int (fin_bl I q (by simp))
  | str j=>obtain ⟨t',rfl⟩:=ry;exact PySem.EqNone.eq_none_str (fin_bl I q (by simp))
  | _=>exact absurd (show false = true from hs) Bool.false_ne_true
 | bl i=>
  cases rx
  cases y with
  | non=>cases ry;exact PySem.EqNone.eq_bool_none (fin_bl I q (by simp))
  | bl j=>cases ry;exact eq_bool (fin_bl I q dec_bl)
  | str j=>obtain ⟨t',rfl⟩:=ry;exact PySem.EqMixed.eq_bool_str (fin_bl I q (by simp))
  | _=>exact absurd (show false = true from hs) Bool.false_ne_true
 | int i=>
  obtain ⟨t,rfl⟩:=rx
  cases y with
  | non=>cases ry;exact PySem.EqNone.eq_int_none (fin_bl I q (by simp))
  | int j=>obtain ⟨t',rfl⟩:=ry;exact eq_int (fin_bl I q dec_int)
  | str j=>obtain ⟨t',rfl⟩:=ry;exact PySem.EqMixed.eq_int_str (fin_bl I q (by simp))
  | _=>exact absurd (show false = true from hs) Bool.false_ne_true
 | str i=>
  obtain ⟨t,rfl⟩:=rx
  cases y with
  | non=>cases ry;exact PySem.EqNone.eq_str_none (fin_bl I q (by simp))
  | bl j=>cases ry;exact PySem.EqMixed.eq_str_bool (fin_bl I q (by simp))
  | int j=>obtain ⟨t',rfl⟩:=ry;exact PySem.EqMixed.eq_str_int (fin_bl I q (by simp))
  | str j=>obtain ⟨t',rfl⟩:=ry;exact eq_str (fin_bl I q dec_str)
  | _=>exact absurd (show false = true from hs) Bool.false_ne_true
 | byt i=>
  obtain ⟨t,rfl⟩:=rx
  cases y with
  | byt j=>obtain ⟨t',rfl⟩:=ry;exact PySem.W.eq_bytes (fin_bl I q dec_byt)
  | _=>exact absurd (show false = true from hs) Bool.false_ne_true
 | _=>cases y <;> exact absurd (show false = true from hs) Bool.false_ne_true
theorem op_ne:OpR X (compareOp .NotEq) rNe:=by
 intro pins s σ H x y v u Q I rx ry h
 obtain ⟨hs,q⟩:=h
 cases x with
 | non=>
  cases rx
  cases y with
  | non=>cases ry;exact PySem.EqNone.ne_none_none (fin_bl I q (by simp))
  | bl j=>cases ry;exact PySem.EqNone.ne_none_bool (fin_bl I q (by simp))
  | int j=>obtain ⟨t',rfl⟩:=ry;exact PySem.EqNone.ne_none_int (fin_bl I q (by simp))
  | str j=>obtain ⟨t',rfl⟩:=ry;exact PySem.EqNone.ne_none_str (fin_bl I q (by simp))
  | _=>exact absurd (show false = true from hs) Bool.false_ne_true
 | bl i=>
  cases rx
  cases y with
  | non=>cases ry;exact PySem.EqNone.ne_bool_none (fin_bl I q (by simp))
  | bl j=>cases ry;exact ne_bool (fin_bl I q (congrArg not dec_bl))
  | str j=>obtain ⟨t',rfl⟩:=ry;exact PySem.EqMixed.ne_bool_str (fin_bl I q (by simp))
  | _=>exact absurd (show false = true from hs) Bool.false_ne_true
 | int i=>
  obtain ⟨t,rfl⟩:=rx
  cases y with
  | non=>cases ry;exact PySem.EqNone.ne_int_none (fin_bl I q (by simp))
  | int j=>obtain ⟨t',rfl⟩:=ry;exact ne_int (fin_bl I q (congrArg not dec_int))
  | str j=>obtain ⟨t',rfl⟩:=ry;exact PySem.EqMixed.ne_int_str (fin_bl I q (by simp))
  | _=>exact absurd (show false = true from hs) Bool.false_ne_true
 | str i=>
  obtain ⟨t,rfl⟩:=rx
  cases y with
  | non=>cases ry;exact PySem.EqNone.ne_str_none (fin_bl I q (by simp))
  | bl j=>cases ry;exact PySem.EqMixed.ne_str_bool (fin_bl I q (by simp))
  | int j=>obtain ⟨t',rfl⟩:=ry;exact PySem.EqMixed.ne_str_int (fin_bl I q (by simp))
  | str j=>obtain ⟨t',rfl⟩:=ry;exact ne_str (fin_bl I q (congrArg not dec_str))
  | _=>exact absurd (show false = true from hs) Bool.false_ne_true
 | byt i=>
  obtain ⟨t,rfl⟩:=rx
  cases y with
  | byt j=>obtain ⟨t',rfl⟩:=ry;exact PySem.W.ne_bytes (fin_bl I q (congrArg not dec_byt))
  | _=>exact absurd (show false = true from hs) Bool.false_ne_true
 | _=>cases y <;> exact absurd (show false = true from hs) Bool.false_ne_true
theorem op_lt:OpR X (compareOp .Lt) (rI0 fun i j=>.bl (decide (i < j))):=opB0 fun _ _ _ _ _ _ _ q=>lt_int q
theorem op_le:OpR X (compareOp .LtE) (rI0 fun i j=>.bl (decide (i ≤ j))):=opB0 fun _ _ _ _ _ _ _ q=>le_int q
theorem op_gt:OpR X (compareOp .Gt) (rI0 fun i j=>.bl (decide (j < i))):=opB0 fun _ _ _ _ _ _ _ q=>gt_int q
theorem op_isN:OpR X (compareOp .Is) (fun x y H Q=>y = .non/\Q (.bl (decide (x = .non))) H):=by
 intro pins s σ H x y v u Q I rx ry h
 obtain ⟨rfl,q⟩:=h
 cases ry
 refine is_none_gen (fin_bl I q ?_)
 cases x <;> first
  | (cases rx;rfl)
  | (obtain ⟨t,rfl⟩:=rx;rfl)
theorem op_notN:OpR X (compareOp .IsNot) (fun x y H Q=>y = .non/\Q (.bl (!decide (x = .non))) H):=by
 intro pins s σ H x y v u Q I rx ry h
 obtain ⟨rfl,q⟩:=h
 cases ry
 refine isnot_none_gen (fin_bl I q ?_)
 cases x <;> first
  | (cases rx;rfl)
  | (obtain ⟨t,rfl⟩:=rx;rfl)
theorem nomark (b:Expr) {op:CmpOp} (h:op ≠ .In:=by decide) (h2:op ≠ .NotIn:=by decide):behindInMarks op b = false:=by
 have e1:(op == CmpOp.In) = false:=by cases op <;> first | rfl | exact absurd rfl h
 have e2:(op == CmpOp.NotIn) = false:=by cases op <;> first | rfl | exact absurd rfl h2
 cases b <;> simp [behindInMarks,e1,e2]
theorem pe_cmpR {op:CmpOp} {r:R2} (ho:OpR X (compareOp op) r) (ha:PE X a ta) (hb:PE X b tb) (hm:behindInMarks op b = false):PE X (.Compare a [op] [b] pos) (tOp r ta tb):=by
 intro pins s σ H Q I h
 exact wpAny_Compare1 (binT ha hb I h fun v u s2 x y H2 I2 rx ry q=>ho pins s2 σ H2 x y v u Q I2 rx ry q) hm
def tTest (t:TE):TT:=fun σ H Q=>t σ H fun x H'=>∃ k,x = .bl k/\Q k H'
theorem pt_cmpR {op:CmpOp} {r:R2} (ho:OpR X (compareOp op) r) (ha:PE X a ta) (hb:PE X b tb) (hm:behindInMarks op b = false):PT X (.Compare a [op] [b] pos) (tTest (tOp r ta tb)):=by
 intro pins s σ H Q I h
 refine wpAny_isTrue_Compare1 (thn (ha pins s σ H _ I h) fun v s1 ⟨x,H1,I1,r1,q1⟩=>thn (hb pins s1 σ H1 _ I1 q1) fun u s2 ⟨y,H2,I2,r2,q2⟩=>
  thn (ho pins s2 σ H2 x y v u _ I2 r1 r2 q2) fun c s3 ⟨z,H3,I3,r3,k,e,q3⟩=>?_) hm
 subst e
 cases r3
 exact wpAny_truthy_bool ⟨H3,I3,q3⟩
def tChain (r r':R2) (ta tb tc:TE):TE:=fun σ H Q=>ta σ H fun x H1=>tb σ H1 fun y H2=>r x y H2 fun z H3=>∃ k,z = .bl k ∧
 (if k = true then tc σ H3 fun w' H4=>r' y w' H4 Q else Q (.bl false) H3)
theorem pt_chain {op op':CmpOp} {r r':R2} (ho:OpR X (compareOp op) r) (ho':OpR X (compareOp op') r') (ha:PE X a ta) (hb:PE X b tb) (hc:PE X c tc)
  (hm:lastMarks [op,op'] [b,c] = false:=by with_unfolding_all rfl):PT X (.Compare a [op,op'] [b,c] pos) (tTest (tChain r r' ta tb tc)):=by
 intro pins s σ H Q I h
 refine isTrue_chain (thn (ha pins s σ H _ I h) fun v s1 ⟨x,H1,I1,r1,q1⟩=>test_link (thn (hb pins s1 σ H1 _ I1 q1) fun u s2 ⟨y,H2,I2,r2,q2⟩=>
  thn (ho pins s2 σ H2 x y v u _ I2 r1 r2 q2) fun d s3 ⟨z,H3,I3,r3,k,e,q3⟩=>?_)) hm
 subst e
 cases r3
 refine wpAny_truthy_bool ?_
 cases k with
 | false=>
  obtain ⟨k',e',q'⟩:=q3
  cases e'
  exact ite_ff ⟨H3,I3,q'⟩
 | true=>
  refine ite_tt (test_last (thn (hc pins s3 σ H3 _ I3 q3) fun w' s4 ⟨z',H4,I4,r4,q4⟩=>thn (ho' pins s4 σ H4 y z' u w' _ I4 r2 r4 q4) fun d' s5 ⟨z2,H5,I5,r5,k2,e2,q5⟩=>?_))
  subst e2
  cases r5
  exact wpAny_truthy_bool ⟨H5,I5,q5⟩
theorem line63:(sizeLine:Nat) < 2 ^ 63:=by rw [sizeLine_eq];decide
theorem op_add_str:OpR X (binaryOp .Add) (fun x y H Q=>∃ i j,x = .str i/\y = .str j/\i.length + j.length ≤ sizeLine/\Q (.str (i ++ j)) H):=by
 intro pins s σ H x y v u Q I rx ry h
 obtain ⟨i,j,rfl,rfl,hz,q⟩:=h
 obtain ⟨t,rfl⟩:=rx
 obtain ⟨t',rfl⟩:=ry
 exact add_str (fun t' tk=>⟨.str (i ++ j),H,I.tok _,⟨_,rfl⟩,q⟩) hz
theorem vals1 {x:V} {us:List Value} (r:Vals [x] us):∃ u,us = [u]/\RelV x u:=by
 cases r with
 | cons r1 r2=>cases r2;exact ⟨_,rfl,r1⟩
theorem vals2 {x y:V} {us:List Value} (r:Vals [x,y] us):∃ u w',us = [u,w']/\RelV x u/\RelV y w':=by
 cases r with
 | cons r1 r2=>
  cases r2 with
  | cons r3 r4=>cases r4;exact ⟨_,_,rfl,r1,r3⟩
end
end L2
namespace L2
open PySem PySem.Spec PyProof.Rows
structure ObjM (h:Heap) (x dx C:Addr) (mA:Str->Option Value):Prop where
 obj:h.get? x = some (PySem.W.instObj C dx)
 ns:h.Ns1 dx mA
 ne:dx ≠ x
theorem lookIn_ns {h:Heap} {dx:Addr} {mA:Str->Option Value} (n:h.Ns1 dx mA):∃ od,h.get? dx = some od/\∀ name,PySem.W.lookIn name od = some (mA name):=by
 obtain ⟨o,es,ep,ho,hd,hk,_,hm⟩:=n
 refine ⟨o,ho,fun name=>?_⟩
 have e:=hm name
 unfold nsFind findBy at e
 rw [← Array.find?_toList] at e
 unfold PySem.W.lookIn
 rw [hd]
 dsimp only
 split
 ·rename_i y q
  rw [q] at e
  exact congrArg some e
 ·rename_i q
  rw [q] at e
  have a:es.toList.any (·.refKey) = false:=by
   rw [List.any_eq_false]
   intro y hy
   obtain ⟨z,t,hkey⟩:=hk y (Array.mem_toList_iff.mp hy)
   simp [DictEntry.refKey,hkey]
  have a':¬ es.toList.any (·.refKey) = true:=by rw [a];exact Bool.false_ne_true
  rw [if_neg a']
  exact congrArg some e
theorem ObjM.look {h:Heap} {x dx C:Addr} {mA:Str->Option Value} (I:ObjM h x dx C mA):∃ od,PySem.W.InstAt h x (PySem.W.instObj C dx) C (some od)/\∀ name,PySem.W.lookIn name od = some (mA name):=
 let ⟨od,ho,hl⟩:=lookIn_ns I.ns
 ⟨od,⟨I.obj,rfl,rfl,ho⟩,hl⟩
section
variable {prog:Program} {w:World} {A:Around} {E:Value->Shared->Prop} {s:Shared} {K:PySem.W.Frag} {x dx C f:Addr} {mA:Str->Option Value} {name:Str} {v:Value}
theorem get_map {expr:Bool} {Q:Value->Shared->Prop} (X:K.In s.heap) (I:ObjM s.heap x dx C mA) (hg:PySem.W.plainGet K C name = true) (hh:PySem.W.hasDictIn K C = true)
  (ha:PySem.W.findIn K (.ref C) name = some none) (hv:mA name = some v) (hv':PySem.W.handedIn v = true) (h:Q v { s with toks:=s.toks + 1 }) :
  wpAny (model prog w) A (getAttr (.ref x) name expr) Q E s:=by
 obtain ⟨od,J,hl⟩:=I.look
 exact PySem.W.get_value X J (PySem.W.plainGet_of hg).1 (PySem.W.findObj_own hh ha rfl (by rw [hl,hv])) hv' h
theorem get_meth {pl:Sem Bool} {Q:Value × List Value->Shared->Prop} (X:K.In s.heap) (I:ObjM s.heap x dx C mA) (hg:PySem.W.plainGet K C name = true)
  (hf:PySem.W.findIn K (.ref C) name = some (some (.ref f))) (ht:PySem.W.isFn K (.ref f) = true) (hv:mA name = none) (h:Q (.ref f,[.ref x]) s) :
  wpAny (model prog w) A (getMethod (.ref x) name pl) Q E s:=by
 obtain ⟨od,J,hl⟩:=I.look
 exact PySem.W.method_fn X J (PySem.W.plainGet_of hg).1 (PySem.W.plainGet_of hg).2 hf (beq_iff_eq.mp ht) (by show (PySem.W.lookIn name od).map (·.isSome) = some false;rw [hl,hv];rfl) h
theorem set_map {ns:List Str} {Q:Unit->Shared->Prop} (X:K.In s.heap) (I:ObjM s.heap x dx C mA)
  (hs:PySem.W.findIn K (.ref C) "__setattr__" = some (some (.builtin "object.__setattr__"))) (hp:PySem.W.plainOver K C = true) (ht:PySem.W.takerIn K C name = some none) (hh:PySem.W.hasDictIn K C = true)
  (hw:PySem.Within mA ns) (hsz:ns.length ≤ sizeLine)
  (h:∀ h',ObjM h' x dx C (fun y=>if y = name then some v else mA y)->Heap.SameBut dx s.heap h'->Q () { s with heap:=h',toks:=s.toks + 2 }) :
  wpAny (model prog w) A (setAttr (.ref x) name v) Q E s:=by
 obtain ⟨od,J,hl⟩:=I.look
 refine PySem.W.set_plain X J hs (PySem.W.osa_open (s:={ s with toks:=s.toks + 1 }) (r:=none) X J hp ht fun b=>?_)
 obtain ⟨cd,hc,hd'⟩:=PySem.W.any_some hh
 have hx:s.heap.get? x = some ⟨.ref C,some dx,.plain,#[]⟩:=I.obj
 refine wpAny_bind (wpAny_pure (wpAny_bind (wpAny_bind (wpAny_loadPart hx (wpAny_bind (PySem.W.Looks.here (s:={ s with toks:=s.toks + 1 }) (PySem.W.looks_clsIn X hc) ?_))))))
 rw [hd']
 refine wpAny_pure (a:=some dx) (wpAny_bind (wpAny_pure (wpAny_bind ?_)))
 refine wpAny_nsSet1 (s:={ s with toks:=s.toks + 1 }) I.ns fun h' hn2 hs2=>?_
 obtain ⟨oD,esD,epD,hoD,hdD,hcD⟩:=hn2.count (PySem.Within.cons name v hw)
 refine wpAny_bind (wpAny_lookBehind hoD (by rw [hdD];exact pastItsLine_dict (Nat.le_trans hcD (by rw [List.length_cons];omega))) ?_)
 exact wpAny_pure (h _ ⟨(hs2.2 _ (Ne.symm I.ne)).trans I.obj,hn2,I.ne⟩ hs2)
theorem make_map {R:Result->Shared->Prop} {vs:List Value} {kw:List (Str × Value)} (X:K.In s.heap) (hm:PySem.W.makesIn K C = true)
  (hi:PySem.W.findIn K (.ref C) "__init__" = some (some (.ref f))) (hf:PySem.W.typeIn K (.ref f) = some (.type "function"))
  (h:codeAny (model prog w) (A.under (.builtin "type.__call__" ⟨.ref C :: vs,kw⟩)) (.call (.ref f) ⟨.ref (s.heap.objs.size + 1) :: vs,kw⟩) (PySem.W.InitBack (s.heap.objs.size + 1) R)
   { s with heap:=(s.heap.push PySem.W.emptyDict).push (PySem.W.instObj C s.heap.objs.size) }) :
  codeAny (model prog w) A (.call (.ref C) ⟨vs,kw⟩) R s:=by
 obtain ⟨hh,g,d,t,os⟩:=s
 exact PySem.W.make_core (PySem.W.makes_of X hm) (PySem.W.looks_findIn X hi) (fun self=>PySem.W.bind_fn X self hf) (.inl rfl) h
end
def putF (f:Str) (v:V):List (Str × V)->List (Str × V)
 | []=>[(f,v)]
 | (g,x) :: r=>if g = f then (g,v) :: r else (g,x) :: putF f v r
theorem lookup_putF (f g:Str) (v:V):∀ fs:List (Str × V),(putF f v fs).lookup g = if g = f then some v else fs.lookup g
 | []=>by
  show List.lookup g [(f,v)] = _
  by_cases h:g = f
  ·have hb:(g == f) = true:=beq_iff_eq.mpr h
   simp only [List.lookup,hb,if_pos h]
  ·have hb:(g == f) = false:=beq_eq_false_iff_ne.mpr h
   simp only [List.lookup,hb,if_neg h]
 | (k,x) :: r=>by
  have ih:=lookup_putF f g v r
  rw [show putF f v ((k,x) :: r) = (if k = f then (k,v) :: r else (k,x) :: putF f v r) from rfl]
  by_cases hk:k = f
  ·rw [if_pos hk]
   by_cases h:g = k
   ·have hb:(g == k) = true:=beq_iff_eq.mpr h
    simp only [List.lookup,hb,if_pos (h.trans hk)]
   ·have hb:(g == k) = false:=beq_eq_false_iff_ne.mpr h
    simp only [List.lookup,hb,if_neg (fun e:g = f=>h (e.trans hk.symm))]
  ·rw [if_neg hk]
   by_cases h:g = k
   ·have hb:(g == k) = true:=beq_iff_eq.mpr h
    simp only [List.lookup,hb,if_neg (fun e:g = f=>hk (h.symm.trans e))]
   ·have hb:(g == k) = false:=beq_eq_false_iff_ne.mpr h
    simp only [List.lookup,hb]
    exact ih
theorem keys_putF (f:Str) (v:V):∀ fs:List (Str × V),f ∈ (putF f v fs).map (·.1)/\∀ g,g ∈ fs.map (·.1)->g ∈ (putF f v fs).map (·.1)
 | []=>⟨by simp [putF],fun g h=>by simp at h⟩
 | (k,x) :: r=>by
  obtain ⟨i1,i2⟩:=keys_putF f v r
  rw [show putF f v ((k,x) :: r) = (if k = f then (k,v) :: r else (k,x) :: putF f v r) from rfl]
  by_cases hk:k = f
  ·rw [if_pos hk]
   subst hk
   exact ⟨by simp,fun g h=>by simpa using h⟩
  ·rw [if_neg hk]
   refine ⟨?_,fun g h=>?_⟩
   ·rw [List.map_cons]
    exact List.mem_cons_of_mem _ i1
   ·rw [List.map_cons] at h ⊢
    rcases List.mem_cons.mp h with e | e
    ·exact List.mem_cons.mpr (.inl e)
    ·exact List.mem_cons_of_mem _ (i2 g e)
theorem length_putF (f:Str) (v:V):∀ fs:List (Str × V),(putF f v fs).length ≤ fs.length + 1
 | []=>by simp [putF]
 | (k,x) :: r=>by
  have ih:=length_putF f v r
  rw [show putF f v ((k,x) :: r) = (if k = f then (k,v) :: r else (k,x) :: putF f v r) from rfl]
  by_cases hk:k = f
  ·rw [if_pos hk,List.length_cons,List.length_cons];omega
  ·rw [if_neg hk,List.length_cons,List.length_cons];omega
theorem RelO.some_of {v:V} {o:Option Value} (r:RelO (some v) o):∃ u,o = some u/\RelV v u:=by
 cases o with
 | none=>exact (show False from r).elim
 | some u=>exact ⟨u,rfl,r⟩
theorem RelO.none_of {o:Option Value} (r:RelO none o):o = none:=by
 cases o with
 | none=>rfl
 | some u=>exact (show False from r).elim
theorem handed_of {v:V} {u:Value} (r:RelV v u):PySem.W.handedIn u = true:=by
 cases v with
 | non=>cases (show u = Value.none from r);rfl
 | bl b=>cases (show u = Value.bool b from r);rfl
 | int i=>obtain ⟨t,e⟩:=(show ∃ t,u = Value.int i t from r);cases e;rfl
 | str x=>obtain ⟨t,e⟩:=(show ∃ t,u = Value.str x t from r);cases e;rfl
 | byt b=>obtain ⟨t,e⟩:=(show ∃ t,u = Value.bytes b t from r);cases e;rfl
 | flt b=>obtain ⟨t,e⟩:=(show ∃ t,u = Value.float b t from r);cases e;rfl
 | ref a=>cases (show u = Value.ref a from r);rfl
 | ty n=>cases (show u = Value.type n from r);rfl
section
variable {P:Program} {w:World} {H H':Hp} {h h':Heap} {a C dx:Addr} {fs fs':List (Str × V)}
theorem ins_get (hok:HOk P w H h) (e:H a = some (.ins C dx fs)):∃ mA,ObjM h a dx C mA/\(∀ f,RelO (fs.lookup f) (mA f))/\PySem.Within mA (fs.map (·.1))/\fs.length ≤ 1000/\H dx = some (.own a):=by
 obtain ⟨d,z,ne,ob,mA,n,r,q⟩:=(show ObjOk P w H h a (.ins C dx fs) from hok a _ e)
 exact ⟨mA,⟨ob,n,ne⟩,r,q,z,d⟩
end
structure Cls (K:PySem.W.Frag) (C:Addr):Prop where
 pg:PySem.W.plainGet K C Str.empty = true
 hd:PySem.W.hasDictIn K C = true
 po:PySem.W.plainOver K C = true
 sa:PySem.W.findIn K (.ref C) "__setattr__" = some (some (.builtin "object.__setattr__"))
theorem Cls.get {K:PySem.W.Frag} {C:Addr} (c:Cls K C) (f:Str):PySem.W.plainGet K C f = true:=c.pg
def NoAttr (K:PySem.W.Frag) (C:Addr) (f:Str):Prop:=PySem.W.findIn K (.ref C) f = some none
theorem NoAttr.taker {K:PySem.W.Frag} {C:Addr} {f:Str} (n:NoAttr K C f):PySem.W.takerIn K C f = some none:=by
 unfold PySem.W.takerIn
 rw [show PySem.W.findIn K (.ref C) f = some none from n]
 rfl
structure Meth (K:PySem.W.Frag) (C:Addr) (m:Str) (f:Addr):Prop where
 at_:PySem.W.findIn K (.ref C) m = some (some (.ref f))
 fn:PySem.W.isFn K (.ref f) = true
 kp:PySem.W.keepIn K (.ref f) = true
section
variable {X:Cx} {pins:List (Addr × Obj)} {σ:St} {H:Hp} {s:Shared} {a C dx:Addr} {fs:List (Str × V)} {f:Str} {v:V} {A:Around} {E:Value->Shared->Prop}
theorem getattr_ok {b:Bool} {Q:Value->Shared->Prop} (I:Inv X pins σ H s) (e:H a = some (.ins C dx fs)) (c:Cls X.K C) (n:NoAttr X.K C f) (l:fs.lookup f = some v)
  (h:∀ u s',Inv X pins σ H s'->RelV v u->Q u s'):wpAny (model X.prog X.w) A (getAttr (.ref a) f b) Q E s:=by
 obtain ⟨mA,O,r,_,_,_⟩:=ins_get I.hok e
 obtain ⟨u,hu,ru⟩:=RelO.some_of (v:=v) (o:=mA f) (by rw [← l];exact r f)
 exact get_map I.kIn O (c.get f) c.hd n hu (handed_of ru) (h u _ (I.tok _) ru)
theorem getmeth_ok {m:Str} {g:Addr} {pl:Sem Bool} {Q:Value × List Value->Shared->Prop} (I:Inv X pins σ H s) (e:H a = some (.ins C dx fs)) (c:Cls X.K C) (k:Meth X.K C m g) (l:fs.lookup m = none)
  (h:Q (.ref g,[.ref a]) s):wpAny (model X.prog X.w) A (getMethod (.ref a) m pl) Q E s:=by
 obtain ⟨mA,O,r,_,_,_⟩:=ins_get I.hok e
 have hn:mA m = none:=RelO.none_of (by rw [← l];exact r m)
 exact get_meth I.kIn O (c.get m) k.at_ k.fn hn h
theorem setattr_ok {y:V} {u:Value} {Q:Unit->Shared->Prop} (I:Inv X pins σ H s) (e:H a = some (.ins C dx fs)) (c:Cls X.K C) (n:NoAttr X.K C f) (hl:fs.length < 1000) (ry:RelV y u)
  (h:∀ s',Inv X pins σ (upd H a (.ins C dx (putF f y fs))) s'->Q () s'):wpAny (model X.prog X.w) A (setAttr (.ref a) f u) Q E s:=by
 obtain ⟨mA,O,r,wi,_,ho⟩:=ins_get I.hok e
 have hz:(fs.map (·.1)).length ≤ sizeLine:=by rw [List.length_map,sizeLine_eq];omega
 refine set_map I.kIn O c.sa c.po n.taker c.hd wi hz fun h' O' sb=>h _ ?_
 have hd:∃ o,h'.get? dx = some o:=let ⟨o,_,_,e',_⟩:=O'.ns;⟨o,e'⟩
 refine I.write (x:=a) (e:=dx) (by rw [e];exact True.intro) (.inr ho) (fun b q hb z=>(sb.2 b hb).trans z) hd ?_
 refine ⟨by rw [upd_ne O.ne];exact ho,?_,O.ne,O'.obj,_,O'.ns,fun g=>?_,fun g hg=>?_⟩
 ·have:=length_putF f y fs;omega
 ·show RelO ((putF f y fs).lookup g) (if g = f then some u else mA g)
  rw [lookup_putF]
  by_cases q:g = f
  ·rw [if_pos q,if_pos q];exact ry
  ·rw [if_neg q,if_neg q];exact r g
 ·by_cases q:g = f
  ·rw [q];exact (keys_putF f y fs).1
  ·refine (keys_putF f y fs).2 g (wi g fun z=>hg ?_)
   show (if g = f then some u else mA g) = none
   rw [if_neg q];exact z
theorem Inv.made (I:Inv X pins σ H s):Inv X pins σ (upd (upd H s.heap.objs.size (.own (s.heap.objs.size + 1))) (s.heap.objs.size + 1) (.ins C s.heap.objs.size []))
  { s with heap:=(s.heap.push PySem.W.emptyDict).push (PySem.W.instObj C s.heap.objs.size) }:=by
 have e1:(s.heap.push PySem.W.emptyDict).get? s.heap.objs.size = some PySem.W.emptyDict:=Heap.get?_push_size s.heap rfl
 have e2:((s.heap.push PySem.W.emptyDict).push (PySem.W.instObj C s.heap.objs.size)).get? (s.heap.objs.size + 1) = some (PySem.W.instObj C s.heap.objs.size):=by
  have:=Heap.get?_push_size (s.heap.push PySem.W.emptyDict) (o:=PySem.W.instObj C s.heap.objs.size) rfl
  rwa [Heap.size_push] at this
 have e3:(s.heap.push PySem.W.emptyDict).Ns s.heap.objs.size (fun _=>none):=⟨PySem.W.emptyDict,#[],_,e1,rfl,(fun e he=>absurd he (by simp)),fun _=>rfl⟩
 have I1:=I.laid (a:=s.heap.objs.size) (o:=.own (s.heap.objs.size + 1)) (h':=s.heap.push PySem.W.emptyDict) (t':=s.toks) (fun b u q=>Heap.get?_push_of_some _ q) (Nat.le_refl _) ⟨_,e1⟩
 refine I1.laid (a:=s.heap.objs.size + 1) (o:=.ins C s.heap.objs.size []) (t':=s.toks) (fun b u q=>Heap.get?_push_of_some _ q) (Nat.le_of_eq (Heap.size_push _ _)) ?_
 have ne:s.heap.objs.size ≠ s.heap.objs.size + 1:=Nat.ne_of_lt (Nat.lt_succ_self _)
 refine ⟨by rw [upd_ne ne,upd_same],Nat.zero_le _,ne,e2,fun _=>none,(Heap.Ns1.of_empty e3).at fun o q=>Heap.get?_push_of_some _ q,fun _=>True.intro,fun y hy=>absurd rfl hy⟩
theorem attr_of {prog:Program} {w:World} {env:Env} {e:Expr} {f:Str} {pos:Pos} {s:Shared} {Q:Value->Shared->Prop} (hb:attributeBase e f env (eval e env) = eval e env)
  (h:wpAny (model prog w) A (eval e env) (fun o s₁=>wpAny (model prog w) A (getAttr o f true) Q E s₁) E s):wpAny (model prog w) A (eval (.Attribute e f pos) env) Q E s:=
 Attribute_any_ h (by rw [arm_eval_Attribute,hb])
end
def tFld (K:PySem.W.Frag) (ta:TE) (f:Str):TE:=fun σ H Q=>ta σ H fun x H1=>∃ a C dx fs v,x = .ref a/\H1 a = some (.ins C dx fs)/\Cls K C/\NoAttr K C f/\fs.lookup f = some v/\Q v H1
def sFld (K:PySem.W.Frag) (ta tv:TE) (f:Str):TS:=fun D σ H=>tv σ H fun y H1=>ta σ H1 fun x H2=>∃ a C dx fs,x = .ref a/\H2 a = some (.ins C dx fs)/\Cls K C/\NoAttr K C f/\fs.length < 1000 ∧
 D.nx σ (upd H2 a (.ins C dx (putF f y fs)))
section
variable {X:Cx} {o e value:Expr} {f:Str} {pos pos' tpos:Pos} {ta tv:TE}
theorem pe_fld (he:PE X e ta) (hb:attributeBase e f X.env (eval e X.env) = eval e X.env):PE X (.Attribute e f pos) (tFld X.K ta f):=by
 intro pins s σ H Q I h
 refine attr_of hb (thn (he pins s σ H _ I h) fun u s1 ⟨x,H1,I1,rx,a,C,dx,fs,v,ex,ea,c,n,l,q⟩=>?_)
 subst ex
 obtain rfl:u = Value.ref a:=rx
 exact getattr_ok I1 ea c n l fun u' s2 I2 ru=>⟨v,H1,I2,ru,q⟩
theorem ps_fld (ha:PE X o ta) (hv:PE X value tv) (hs:swapsWith value (some (.Attribute o f pos')) pos.line X.env = pure false):PS X (.Assign [.Attribute o f pos'] value pos) (sFld X.K ta tv f):=by
 intro pins s σ H D I h
 refine plainObj_wpAny_Assign_Attribute (thn (hv pins s σ H _ I h) fun u s1 ⟨y,H1,I1,ry,q⟩=>thn (ha pins s1 σ H1 _ I1 q) fun ov s2 ⟨x,H2,I2,rx,a,C,dx,fs,ex,ea,c,n,l,q2⟩=>?_) hs
 subst ex
 obtain rfl:ov = Value.ref a:=rx
 exact setattr_ok I2 ea c n l ry fun s3 I3=>⟨σ,_,I3,q2⟩
theorem methcall_of {pl:Sem Bool} {m:Str} {apos:Pos} {args:List Expr} {pins:List (Addr × Obj)} {s:Shared} {σ:St} {H:Hp} {Q:Value->Shared->Prop} {te:TE} (he:PE X e te) (I:Inv X pins σ H s)
  (h:te σ H fun x H1=>∃ a C dx fs g,x = .ref a/\H1 a = some (.ins C dx fs)/\Cls X.K C/\Meth X.K C m g/\fs.lookup m = none ∧
   ∀ s1,Inv X pins σ H1 s1->wpAny (model X.prog X.w) X.A (callWith pos (.ref g) [.ref a] (backTo pos (starEach args X.env)) (backToKw pos (keywordEach [] X.env))) Q X.xe s1)
  (ht:eval (.Call (.Attribute e m apos) args [] pos) X.env = (do
   let ov ← eval e X.env
   standAt apos.atName
   let (f,first) ← holding [ov] (getMethod ov m pl)
   callWith pos f first (backTo pos (starEach args X.env)) (backToKw pos (keywordEach [] X.env)))) :
  wpAny (model X.prog X.w) X.A (eval (.Call (.Attribute e m apos) args [] pos) X.env) Q X.xe s:=by
 refine PySem.W.methodCall_KW (pl:=pl) (thn (he pins s σ H _ I h) fun u s1 ⟨x,H1,I1,rx,a,C,dx,fs,g,ex,ea,c,k,l,q⟩=>?_) ht
 subst ex
 obtain rfl:u = Value.ref a:=rx
 exact getmeth_ok I1 ea c k l (q s1 I1)
end
section
variable {X:Cx} {pins:List (Addr × Obj)} {σ:St} {H:Hp} {s:Shared} {A:Around} {E:Value->Shared->Prop} {Q:Value->Shared->Prop} {c:Value} {b:Bool}
inductive TyOf (K:PySem.W.Frag) (H:Hp):V->Value->Prop where
 | non:TyOf K H .non (.type "NoneType")
 | bl (x:Bool):TyOf K H (.bl x) (.type "bool")
 | int (i:Int):TyOf K H (.int i) (.type "int")
 | str (x:Str):TyOf K H (.str x) (.type "str")
 | flt (x:UInt64):TyOf K H (.flt x) (.type "float")
 | lst {a:Addr} {xs:List V} (e:H a = some (.lst xs)):TyOf K H (.ref a) (.type "list")
 | frz {a:Addr} {o:Obj} {xs:List V} (e:H a = some (.frz o (.lst xs))):TyOf K H (.ref a) (.type "list")
 | tup {a:Addr} {xs:List V} (e:H a = some (.tup xs)):TyOf K H (.ref a) (.type "tuple")
 | dK {a:Addr} {kvs:List (Key × V)} (e:H a = some (.dK kvs)):TyOf K H (.ref a) (.type "dict")
 | dT {a:Addr} {kvs:List (List Key × V)} (e:H a = some (.dT kvs)):TyOf K H (.ref a) (.type "dict")
 | ins {a C dx:Addr} {fs:List (Str × V)} (e:H a = some (.ins C dx fs)) (cl:Cls K C) (ha:PySem.W.findIn K (.ref C) "__class__" = some (some (.builtin "object.__class__")))
   (hn:PySem.W.specialIn K (.builtin "object.__class__") "__get__" = some (some (.builtin "getset_descriptor.__get__"))) (htk:PySem.W.takesIn K (.builtin "object.__class__") = some true)
   (hm:PySem.W.mroIn K C (.type "object") = some true):TyOf K H (.ref a) (.ref C)
theorem isinst_ok {x:V} {u t:Value} (I:Inv X pins σ H s) (rx:RelV x u) (ty:TyOf X.K H x t) (e:PySem.W.kitOne X.K t c = some b) (h:∀ tk,Q (.bool b) { s with toks:=tk }) :
  wpAny (model X.prog X.w) A (call (.builtin "isinstance") [u,c]) Q E s:=by
 cases ty with
 | non=>cases (show u = Value.none from rx);exact PySem.W.kia_one PySem.W.kitx_none I.kIn True.intro e (fun z=>nomatch z) h
 | bl y=>cases (show u = Value.bool y from rx);exact PySem.W.kia_one PySem.W.kitx_bool I.kIn True.intro e (fun z=>nomatch z) h
 | int i=>obtain ⟨t,q⟩:=(show ∃ t,u = Value.int i t from rx);cases q;exact PySem.W.kia_one PySem.W.kitx_int I.kIn True.intro e (fun z=>nomatch z) h
 | str y=>obtain ⟨t,q⟩:=(show ∃ t,u = Value.str y t from rx);cases q;exact PySem.W.kia_one PySem.W.kitx_str I.kIn True.intro e (fun z=>nomatch z) h
 | flt y=>obtain ⟨t,q⟩:=(show ∃ t,u = Value.float y t from rx);cases q;exact PySem.W.kia_one PySem.W.kitx_float I.kIn True.intro e (fun z=>nomatch z) h
 | @lst a xs ea=>
  cases (show u = Value.ref a from rx)
  obtain ⟨_,_,n,_,h1⟩:=(show ObjOk X.prog X.w H s.heap a (.lst xs) from I.hok a _ ea)
  exact PySem.W.kia_one PySem.W.kitx_list I.kIn ⟨_,h1,rfl⟩ e (fun z=>nomatch z) h
 | @frz a ob xs ea=>
  cases (show u = Value.ref a from rx)
  obtain ⟨_,_,_,n,_,h1⟩:=(show ObjOk X.prog X.w H s.heap a (.frz ob (.lst xs)) from I.hok a _ ea)
  exact PySem.W.kia_one PySem.W.kitx_list I.kIn ⟨_,h1,rfl⟩ e (fun z=>nomatch z) h
 | @tup a xs ea=>
  cases (show u = Value.ref a from rx)
  obtain ⟨_,_,_,p⟩:=(show ObjOk X.prog X.w H s.heap a (.tup xs) from I.hok a _ ea)
  obtain ⟨o,h1,h2,_⟩:=p
  exact PySem.W.kia_one PySem.W.kitx_tuple I.kIn ⟨o,h1,h2⟩ e (fun z=>nomatch z) h
 | @dK a kvs ea=>
  cases (show u = Value.ref a from rx)
  obtain ⟨_,_,vs,_,p⟩:=(show ObjOk X.prog X.w H s.heap a (.dK kvs) from I.hok a _ ea)
  obtain ⟨o,es,ep,h1,h2,_⟩:=p
  exact PySem.W.kia_one PySem.W.kitx_dict I.kIn ⟨o,h1,h2.1⟩ e (fun z=>nomatch z) h
 | @dT a kvs ea=>
  cases (show u = Value.ref a from rx)
  obtain ⟨_,_,xs,_,o,es,ep,h1,h2,_⟩:=(show ObjOk X.prog X.w H s.heap a (.dT kvs) from I.hok a _ ea)
  exact PySem.W.kia_one PySem.W.kitx_dict I.kIn ⟨o,h1,h2.1⟩ e (fun z=>nomatch z) h
 | @ins a C dx fs ea cl ha hn htk hm=>
  cases (show u = Value.ref a from rx)
  obtain ⟨mA,O,_⟩:=ins_get I.hok ea
  obtain ⟨od,J,_⟩:=O.look
  exact PySem.W.kia_one (PySem.W.kitx_own (cl.get _) cl.hd ha hn htk hm) I.kIn J e (fun z=>nomatch z) h
end
end L2
namespace L2
open PySem PySem.Spec PyProof.Rows
structure Room (k:Nat) (A:Around):Prop where
 hd:A.handled = none
 dp:A.depth + 3 * k + 5 < recursionLimit
 un:A.units + 16 * k + 200 < cLine
theorem Room.mono {j k:Nat} {A:Around} (r:Room k A) (h:j ≤ k):Room j A:=⟨r.hd,by have:=r.dp;omega,by have:=r.un;omega⟩
theorem Room.deeper {k:Nat} {A:Around} (r:Room (k + 1) A) (env:Env):Room k (A.deeper env):=
 ⟨r.hd,by have:=r.dp;show A.depth + 1 + 3 * k + 5 < _;omega,by have:=r.un;show A.units + 3 + 16 * k + 200 < _;omega⟩
theorem make_depth {A:Around} {C:Addr} {us:List Value} {kw:List (Str × Value)}:(A.under (.builtin "type.__call__" ⟨.ref C :: us,kw⟩)).depth = A.depth + 1:=by
 first | rfl | simp [Around.under,Code.weight,Code.isCreation,Code.isGuard,Code.isCaller,Code.frames,Code.isFrame,guardIds]
theorem make_units {A:Around} {C:Addr} {us:List Value} {kw:List (Str × Value)}:(A.under (.builtin "type.__call__" ⟨.ref C :: us,kw⟩)).units = A.units + 1:=by
 first | rfl | simp [Around.under,Code.cUnits,Code.frames,Code.isFrame]
theorem Room.make {k:Nat} {A:Around} (r:Room (k + 1) A) (C:Addr) (us:List Value) (kw:List (Str × Value)):Room k (A.under (.builtin "type.__call__" ⟨.ref C :: us,kw⟩)):=
 ⟨r.hd,by have:=r.dp;rw [make_depth];omega,by have:=r.un;rw [make_units];omega⟩
theorem Room.depth {k:Nat} {A:Around} (r:Room k A):A.depth < recursionLimit:=by have:=r.dp;omega
theorem Room.units {k:Nat} {A:Around} (r:Room k A):A.units + 64 < cLine:=by have:=r.un;omega
def tNil:TA:=fun _ H Q=>Q [] H
def tCons (ta:TE) (tr:TA):TA:=fun σ H Q=>ta σ H fun x H1=>tr σ H1 fun xs H2=>Q (x :: xs) H2
section
variable {X:Cx} {e:Expr} {es:List Expr} {te:TE} {t:TA} {pos:Pos}
theorem pa_nil:PA X [] tNil:=fun _ _ _ _ H Q I h=>Calls.spliced_nil ⟨[],H,I,.nil,h⟩
theorem pa_cons (ha:PE X e te) (hr:PA X es t) (hs:starEach (e :: es) X.env = (false,eval e X.env) :: starEach es X.env:=by rfl):PA X (e :: es) (tCons te t):=by
 intro pos pins s σ H Q I h
 rw [hs]
 show wpAny _ _ (spliced ((false,eval e X.env) :: backTo pos (starEach es X.env))) _ _ s
 refine Calls.spliced_cons (thn (ha pins s σ H _ I h) fun u s1 ⟨x,H1,I1,r1,q1⟩=>?_)
 exact thn (hr pos pins s1 σ H1 _ I1 q1) fun us s2 ⟨xs,H2,I2,r2,q2⟩=>⟨x :: xs,H2,I2,.cons r1 r2,q2⟩
def tTup (t:TA):TE:=fun σ H Q=>t σ H fun xs H1=>xs.length ≤ sizeLine/\∀ p,H1 p = none->Q (.ref p) (upd H1 p (.tup xs))
def tLst (t:TA):TE:=fun σ H Q=>t σ H fun xs H1=>xs.length ≤ sizeLine/\∀ p,H1 p = none->Q (.ref p) (upd H1 p (.lst xs))
theorem pe_tup {x1} (h:PA X es t):PE X (.Tuple es x1 pos) (tTup t):=by
 intro pins s σ H Q I hq
 refine wpAny_Tuple_spliced (thn (h pos pins s σ H _ I hq) fun us s1 ⟨xs,H1,I1,r,z,q⟩=>⟨by rw [← r.length];exact z,?_⟩)
 have hf:H1 s1.heap.objs.size = none:=I1.hok.fresh (Nat.le_refl _)
 refine ⟨.ref s1.heap.objs.size,upd H1 s1.heap.objs.size (.tup xs),I1.laid (t':=s1.toks) (fun b u e=>Heap.get?_push_of_some _ e) (Nat.le_refl _) ?_,rfl,q _ hf⟩
 exact ⟨z,us,r,⟨_,Heap.get?_push_size _ rfl,rfl,_,rfl⟩⟩
theorem pe_lst (h:PA X es t):PE X (.List es pos) (tLst t):=by
 intro pins s σ H Q I hq
 refine wpAny_List_spliced (thn (h pos pins s σ H _ I hq) fun us s1 ⟨xs,H1,I1,r,z,q⟩=>⟨by rw [← r.length];exact z,?_⟩)
 have hf:H1 s1.heap.objs.size = none:=I1.hok.fresh (Nat.le_refl _)
 refine ⟨.ref s1.heap.objs.size,upd H1 s1.heap.objs.size (.lst xs),I1.laid (t':=s1.toks) (fun b u e=>Heap.get?_push_of_some _ e) (Nat.le_refl _) ?_,rfl,q _ hf⟩
 exact ⟨z,us,0,r,Heap.get?_push_size _ rfl⟩
end
abbrev Sp:=List V->Hp->VK->XK->Prop
abbrev CXT:=List Env->Hp->Shared->XK->Value->Shared->Prop
structure Env0 (P:Program) (w:World) (K:PySem.W.Frag) (mg:Str->Option Value) (base:Heap) (A:Around) (outer:List Env) (s:Shared) (H:Hp):Prop where
 frames:A.frames = some outer
 mod:Mod K mg base
 bs:∀ b o,base.get? b = some o->s.heap.get? b = some o/\H b = none
 bsz:base.objs.size ≤ s.heap.objs.size
 funs:s.heap.FunFrames base outer
 frf:∀ b ∈ frs outer,H b = none
 hok:HOk P w H s.heap
 bare:AllBare s.gens
def CE (outer:List Env) (P:Program) (w:World) (H:Hp) (s:Shared) (Q:VK) (u:Value) (s':Shared):Prop:=
 ∃ v H',s'.os = s.os/\AllBare s'.gens/\Un (frs outer) [] H H' s.heap s'.heap/\HOk P w H' s'.heap/\RelV v u/\Q v H'
def CR (CX:CXT) (outer:List Env) (P:Program) (w:World) (H:Hp) (s:Shared) (Q:VK) (E:XK) (r:Result) (s':Shared):Prop:=
 match r with
 | .ok (.ret u)=>CE outer P w H s Q u s'
 | .ok _=>False
 | .error e=>CX outer H s E e s'
structure FnOk (P:Program) (w:World) (K:PySem.W.Frag) (mg:Str->Option Value) (base:Heap) (CX:CXT) (k:Nat) (f:Addr) (fd:FuncData) (ps:List Str) (sp:Sp):Prop where
 len:∀ vs H Q E,sp vs H Q E->vs.length = ps.length
 run:∀ (A:Around) (outer:List Env) (s:Shared) (H:Hp) (args:Args) (us:List Value) (vs:List V) (Q:VK) (E:XK),Room k A->Env0 P w K mg base A outer s H->BindsTo s fd args (ps.zip us)->Vals vs us->sp vs H Q E →
  codeAny (model P w) A (.call (.ref f) args) (CR CX outer P w H s Q E) s
theorem Env0.make {P:Program} {w:World} {K:PySem.W.Frag} {mg:Str->Option Value} {base:Heap} {A:Around} {outer:List Env} {s:Shared} {H:Hp} (e:Env0 P w K mg base A outer s H) (C:Addr) (us:List Value) (kw:List (Str × Value)) :
  Env0 P w K mg base (A.under (.builtin "type.__call__" ⟨.ref C :: us,kw⟩)) outer s H:=⟨by first | exact e.frames | (simpa [Around.under,Code.envs,Code.isFrame,pushEnvs] using e.frames),e.mod,e.bs,e.bsz,e.funs,e.frf,e.hok,e.bare⟩
section
variable {X:Cx} {pins:List (Addr × Obj)} {σ:St} {H:Hp} {s s':Shared}
theorem Inv.env0 (I:Inv X pins σ H s):Env0 X.prog X.w X.K X.mg X.base X.A X.stack s H:=
 ⟨I.ok.frames,I.ok.mod,I.bs,Nat.le_trans I.ok.bsz I.sz,I.stack,I.stkFree,I.hok,I.bare⟩
theorem Inv.after {Q:VK} {u:Value} (I:Inv X pins σ H s) (h:CE X.stack X.prog X.w H s Q u s'):EP X pins σ Q u s':=by
 obtain ⟨v,H',os,bare,un,hok,r,q⟩:=h
 obtain ⟨hh,g,d,t,os'⟩:=s'
 obtain rfl:os' = s.os:=os
 exact ⟨v,H',I.call (h':=hh) (g':=g) (d':=d) (t':=t) (ch:=[]) un hok bare (fun b z=>absurd z (by simp)),r,q⟩
end
def tCall (sp:Sp) (dvs:List V) (E:XK) (t:TA):TE:=fun σ H Q=>t σ H fun vs H1=>sp (vs ++ dvs) H1 Q E
def tMeth (C:Addr) (m:Str) (sp:Sp) (dvs:List V) (E:XK) (ta:TE) (t:TA):TE:=fun σ H Q=>ta σ H fun x H1=>∃ a dx fs,x = .ref a/\H1 a = some (.ins C dx fs)/\fs.lookup m = none ∧
 t σ H1 fun vs H2=>sp (x :: (vs ++ dvs)) H2 Q E
def tMake (C:Addr) (sp:Sp) (dvs:List V) (E:XK) (t:TA):TE:=fun σ H Q=>t σ H fun vs H1=>∀ x dx,H1 x = none->H1 dx = none->dx ≠ x →
 sp (.ref x :: (vs ++ dvs)) (upd (upd H1 dx (.own x)) x (.ins C dx [])) (fun v H2=>v = .non/\Q (.ref x) H2) E
def Binds (K:PySem.W.Frag) (fd:FuncData) (ps:List Str) (ds:List Value):Prop:=
 ∀ (s:Shared) (us:List Value),K.In s.heap->(us ++ ds).length = ps.length->BindsTo s fd ⟨us,[]⟩ (ps.zip (us ++ ds))
theorem Binds.all {K:PySem.W.Frag} {fd:FuncData} {ps:List Str} (h:∀ us:List Value,us.length = ps.length->bindArgs fd ⟨us,[]⟩ = pure (ps.zip us)):Binds K fd ps []:=fun s us _ hl=>by
 rw [List.append_nil] at hl ⊢
 exact .of_eq (h us hl)
def Passes (CX:CXT) (X:Cx) (E:XK):Prop:=∀ (pins:List (Addr × Obj)) (σ:St) (H:Hp) (s:Shared) (e:Value) (s':Shared),Inv X pins σ H s->CX X.stack H s E e s'->X.xe e s'
section
variable {X:Cx} {CX:CXT} {k:Nat} {f C:Addr} {fd:FuncData} {ps:List Str} {sp:Sp} {dvs:List V} {ds:List Value} {E:XK} {x m:Str} {p pos apos:Pos} {e o:Expr} {es:List Expr} {ta:TE} {t:TA}
theorem run_fn {pins:List (Addr × Obj)} {σ:St} {H:Hp} {s:Shared} {Q:VK} {us:List Value} {vs:List V} (F:FnOk X.prog X.w X.K X.mg X.base CX k f fd ps sp) (hr:Room k X.A) (hb:Binds X.K fd ps ds) (hd:Vals dvs ds) (hx:Passes CX X E)
  (I:Inv X pins σ H s) (r:Vals vs us) (h:sp (vs ++ dvs) H Q E):wpAny (model X.prog X.w) X.A (call (.ref f) us) (EP X pins σ Q) X.xe s:=by
 have r2:Vals (vs ++ dvs) (us ++ ds):=r.append hd
 have hl:(us ++ ds).length = ps.length:=by rw [← r2.length];exact F.len _ _ _ _ h
 refine wpAny_call (codeAny_mono (F.run X.A X.stack s H ⟨us,[]⟩ (us ++ ds) (vs ++ dvs) Q E hr I.env0 (hb s us I.kIn hl) r2 h) fun r s' hq=>?_)
 cases r with
 | error e=>exact hx pins σ H s e s' I hq
 | ok fl=>
  cases fl with
  | ret u=>exact I.after hq
  | next=>exact False.elim hq
  | brk=>exact False.elim hq
  | cont=>exact False.elim hq
theorem pe_call (F:FnOk X.prog X.w X.K X.mg X.base CX k f fd ps sp) (hr:Room k X.A) (hg:Gl X x) (hm:X.mg x = some (.ref f)) (hk:PySem.W.keepIn X.K (.ref f) = true) (hb:Binds X.K fd ps ds) (hd:Vals dvs ds) (hx:Passes CX X E)
  (ha:PA X (e :: es) t) (hdb:(x == ("__debug__":Str)) = false:=by decide) (he:starEach (e :: es) X.env = (false,eval e X.env) :: starEach es X.env:=by rfl) (hpl:(backTo pos (starEach es X.env)).any (·.1) = false:=by rfl) :
  PE X (.Call (.Name x p) (e :: es) [] pos) (tCall sp dvs E t):=by
 intro pins s σ H Q I h
 refine wpAny_Call_Name_kw (ld_glob I hg hm ?_ hdb)
 refine PySem.W.callWith_K (h₀:=X.base) I.ok.mod.kin hk (thn (ha pos pins s σ H _ I h) fun us s1 ⟨vs,H1,I1,r,q⟩=>⟨I1.kIn,?_⟩) he hpl
 exact run_fn F hr hb hd hx I1 r q
theorem pe_meth {pl:Sem Bool} (he:PE X o ta) (c:Cls X.K C) (hm:Meth X.K C m f) (F:FnOk X.prog X.w X.K X.mg X.base CX k f fd ps sp) (hr:Room k X.A) (hb:Binds X.K fd ps ds) (hd:Vals dvs ds) (hx:Passes CX X E) (ha:PA X (e :: es) t)
  (hst:starEach (e :: es) X.env = (false,eval e X.env) :: starEach es X.env:=by rfl) (hpl:(backTo pos (starEach es X.env)).any (·.1) = false:=by rfl)
  (ht:eval (.Call (.Attribute o m apos) (e :: es) [] pos) X.env = (do
   let ov ← eval o X.env
   standAt apos.atName
   let (f,first) ← holding [ov] (getMethod ov m pl)
   callWith pos f first (backTo pos (starEach (e :: es) X.env)) (backToKw pos (keywordEach [] X.env))):=by rfl) :
  PE X (.Call (.Attribute o m apos) (e :: es) [] pos) (tMeth C m sp dvs E ta t):=by
 intro pins s σ H Q I h
 refine PySem.W.methodCall_KW (pl:=pl) (thn (he pins s σ H _ I h) fun u s1 ⟨x,H1,I1,rx,a,dx,fs,ex,ea,l,q⟩=>?_) ht
 subst ex
 obtain rfl:u = Value.ref a:=rx
 refine getmeth_ok I1 ea c hm l ?_
 refine PySem.W.callWith_K (first:=[.ref a]) (h₀:=X.base) I.ok.mod.kin hm.kp (thn (ha pos pins s1 σ H1 _ I1 q) fun us s2 ⟨vs,H2,I2,r,q2⟩=>⟨I2.kIn,?_⟩) hst hpl
 exact run_fn (us:=.ref a :: us) (vs:=.ref a :: vs) F hr hb hd hx I2 (.cons rfl r) q2
theorem pe_meth0 {pl:Sem Bool} (he:PE X o ta) (c:Cls X.K C) (hm:Meth X.K C m f) (F:FnOk X.prog X.w X.K X.mg X.base CX k f fd ps sp) (hr:Room k X.A) (hb:Binds X.K fd ps ds) (hd:Vals dvs ds) (hx:Passes CX X E)
  (ht:eval (.Call (.Attribute o m apos) [] [] pos) X.env = (do
   let ov ← eval o X.env
   standAt apos.atName
   let (f,first) ← holding [ov] (getMethod ov m pl)
   callWith pos f first (backTo pos (starEach [] X.env)) (backToKw pos (keywordEach [] X.env))):=by rfl) :
  PE X (.Call (.Attribute o m apos) [] [] pos) (tMeth C m sp dvs E ta tNil):=by
 intro pins s σ H Q I h
 refine PySem.W.methodCall_KW (pl:=pl) (thn (he pins s σ H _ I h) fun u s1 ⟨x,H1,I1,rx,a,dx,fs,ex,ea,l,q⟩=>?_) ht
 subst ex
 obtain rfl:u = Value.ref a:=rx
 refine getmeth_ok I1 ea c hm l ?_
 exact PySem.W.callWith_K0 (first:=[.ref a]) I1.kIn hm.kp (run_fn (us:=[.ref a]) (vs:=[.ref a]) F hr hb hd hx I1 (.cons rfl .nil) q)
structure Mk (K:PySem.W.Frag) (C f:Addr):Prop where
 makes:PySem.W.makesIn K C = true
 init:PySem.W.findIn K (.ref C) "__init__" = some (some (.ref f))
 fn:PySem.W.isFn K (.ref f) = true
 kp:PySem.W.keepIn K (.ref C) = true
theorem run_make {pins:List (Addr × Obj)} {σ:St} {H:Hp} {s:Shared} {Q:VK} {us:List Value} {vs:List V} (M:Mk X.K C f) (F:FnOk X.prog X.w X.K X.mg X.base CX k f fd ps sp) (hr:Room (k + 1) X.A) (hb:Binds X.K fd ps ds) (hd:Vals dvs ds)
  (hx:Passes CX X E) (I:Inv X pins σ H s) (r:Vals vs us)
  (h:∀ x dx,H x = none->H dx = none->dx ≠ x->sp (.ref x :: (vs ++ dvs)) (upd (upd H dx (.own x)) x (.ins C dx [])) (fun v H2=>v = .non/\Q (.ref x) H2) E) :
  wpAny (model X.prog X.w) X.A (call (.ref C) us) (EP X pins σ Q) X.xe s:=by
 have hq:=h (s.heap.objs.size + 1) s.heap.objs.size (I.hok.fresh (Nat.le_succ _)) (I.hok.fresh (Nat.le_refl _)) (Nat.ne_of_lt (Nat.lt_succ_self _))
 have I2:=Inv.made (C:=C) I
 have r2:Vals (V.ref (s.heap.objs.size + 1) :: (vs ++ dvs)) (Value.ref (s.heap.objs.size + 1) :: (us ++ ds)):=.cons rfl (r.append hd)
 have hl:(Value.ref (s.heap.objs.size + 1) :: us ++ ds).length = ps.length:=by
  have e:=r2.length
  rw [F.len _ _ _ _ hq] at e
  exact e.symm
 refine wpAny_call (make_map (f:=f) I.kIn M.makes M.init (beq_iff_eq.mp M.fn) (codeAny_mono (F.run _ X.stack _ _ ⟨Value.ref (s.heap.objs.size + 1) :: us,[]⟩ (Value.ref (s.heap.objs.size + 1) :: (us ++ ds)) _ _ E (hr.make C us [])
  (I2.env0.make C us []) (hb _ (Value.ref (s.heap.objs.size + 1) :: us) I2.kIn hl) r2 hq) fun r s' hq'=>?_))
 cases r with
 | error e=>exact hx pins σ _ _ e s' I2 hq'
 | ok fl=>
  cases fl with
  | ret u=>
   obtain ⟨v,H',I3,rv,ev,q3⟩:=I2.after hq'
   subst ev
   exact ⟨rv,⟨V.ref (s.heap.objs.size + 1),H',I3,rfl,q3⟩⟩
  | next=>exact False.elim hq'
  | brk=>exact False.elim hq'
  | cont=>exact False.elim hq'
theorem pe_make (M:Mk X.K C f) (F:FnOk X.prog X.w X.K X.mg X.base CX k f fd ps sp) (hr:Room (k + 1) X.A) (hg:Gl X x) (hm:X.mg x = some (.ref C)) (hb:Binds X.K fd ps ds) (hd:Vals dvs ds) (hx:Passes CX X E)
  (ha:PA X (e :: es) t) (hdb:(x == ("__debug__":Str)) = false:=by decide) (he:starEach (e :: es) X.env = (false,eval e X.env) :: starEach es X.env:=by rfl) (hpl:(backTo pos (starEach es X.env)).any (·.1) = false:=by rfl) :
  PE X (.Call (.Name x p) (e :: es) [] pos) (tMake C sp dvs E t):=by
 intro pins s σ H Q I h
 refine wpAny_Call_Name_kw (ld_glob I hg hm ?_ hdb)
 refine PySem.W.callWith_K (h₀:=X.base) I.ok.mod.kin M.kp (thn (ha pos pins s σ H _ I h) fun us s1 ⟨vs,H1,I1,r,q⟩=>⟨I1.kIn,?_⟩) he hpl
 exact run_make M F hr hb hd hx I1 r q
end
section
variable {X:Cx} {CX:CXT} {k:Nat} {f C:Addr} {fd:FuncData} {ps ks:List Str} {sp:Sp} {E:XK} {x m:Str} {p pos apos kpos:Pos} {e o:Expr} {es:List Expr} {kws:List Keyword} {te ta:TE} {t tk:TA} {nm:Option Str}
variable {g:List Value->List Value->List Value} {gV:List V->List V->List V}
end
structure FnScope (N P:List Str) (sc:Scope):Prop where
 kind:sc.kind = .function
 co:sc.isCoroutine = false
 gen:sc.isGenerator = false
 nd:N.Nodup
 pre:N.take P.length = P
 par:∀ x ∈ P,sc.names.lookup x = some .local\/sc.names.lookup x = some .cell
 nofree:∀ y ∈ sc.names,y.2 ≠ .free
theorem bindL_out {kindOf:Str->Option NameKind} {x:Str}:∀ {binds:List (Str × Value)} {m:Str->Option Value},(∀ v,(x,v) ∉ binds)->bindL kindOf binds m x = m x
 | [],_,_=>rfl
 | (n,v) :: r,m,h=>by
  unfold bindL
  rw [bindL_out fun w hw=>h w (List.mem_cons_of_mem _ hw)]
  split
  ·have:x ≠ n:=by rintro rfl;exact h v List.mem_cons_self
   simp [this]
  ·rfl
theorem bindC_out {kindOf:Str->Option NameKind} {x:Str}:∀ {binds:List (Str × Value)} {m:Str->Option Value},(∀ v,(x,v) ∉ binds)->bindC kindOf binds m x = m x
 | [],_,_=>rfl
 | (n,v) :: r,m,h=>by
  unfold bindC
  rw [bindC_out fun w hw=>h w (List.mem_cons_of_mem _ hw)]
  split
  ·rfl
  ·have:x ≠ n:=by rintro rfl;exact h v List.mem_cons_self
   simp [this]
theorem bindL_get {kindOf:Str->Option NameKind} {x:Str} {v:Value}:∀ {P:List Str} {vs:List Value} {i:Nat} {m:Str->Option Value},P.Nodup->P[i]? = some x->vs[i]? = some v->kindOf x = some .local →
  bindL kindOf (P.zip vs) m x = some v
 | [],_,_,_,_,h,_,_=>by simp at h
 | _ :: _,[],_,_,_,_,h,_=>by simp at h
 | p :: P,w :: vs,0,m,nd,h1,h2,hk=>by
  simp at h1 h2;subst h1;subst h2
  show bindL kindOf ((p,w) :: P.zip vs) m p = _
  unfold bindL
  rw [bindL_out fun v hv=>(List.nodup_cons.mp nd).1 (List.of_mem_zip hv).1,if_pos hk]
  simp
 | p :: P,w :: vs,i + 1,m,nd,h1,h2,hk=>by
  show bindL kindOf ((p,w) :: P.zip vs) m x = _
  unfold bindL
  exact bindL_get (i:=i) (List.nodup_cons.mp nd).2 (by simpa using h1) (by simpa using h2) hk
theorem bindC_get {kindOf:Str->Option NameKind} {x:Str} {v:Value}:∀ {P:List Str} {vs:List Value} {i:Nat} {m:Str->Option Value},P.Nodup->P[i]? = some x->vs[i]? = some v->kindOf x ≠ some .local →
  bindC kindOf (P.zip vs) m x = some v
 | [],_,_,_,_,h,_,_=>by simp at h
 | _ :: _,[],_,_,_,_,h,_=>by simp at h
 | p :: P,w :: vs,0,m,nd,h1,h2,hk=>by
  simp at h1 h2;subst h1;subst h2
  show bindC kindOf ((p,w) :: P.zip vs) m p = _
  unfold bindC
  rw [bindC_out fun v hv=>(List.nodup_cons.mp nd).1 (List.of_mem_zip hv).1,if_neg hk]
  simp
 | p :: P,w :: vs,i + 1,m,nd,h1,h2,hk=>by
  show bindC kindOf ((p,w) :: P.zip vs) m x = _
  unfold bindC
  exact bindC_get (i:=i) (List.nodup_cons.mp nd).2 (by simpa using h1) (by simpa using h2) hk
def start (N:List Str) (vs:List V):St:=vs.map some ++ List.replicate (N.length - vs.length) none
def cxOf (CX:CXT) (P:Program) (w:World) (K:PySem.W.Frag) (mg:Str->Option Value) (base:Heap) (N:List Str) (qual:Str) (scope:Scope) (f:Addr) (cd:Value) (A:Around) (outer:List Env) (s:Shared) (H:Hp) (E:XK):Cx where
 prog:=P
 w:=w
 K:=K
 mg:=mg
 base:=base
 A:=A.deeper (envOfC qual scope s.heap.objs.size f cd)
 N:=N
 s₀:=s
 H₀:=H
 env:=envOfC qual scope s.heap.objs.size f cd
 outer:=outer
 stack:=envOfC qual scope s.heap.objs.size f cd :: outer
 ex:=[]
 calm:=true
 fn:=fun _=>true
 pn:=[]
 xe:=fun e s'=>wpAny (model P w) (A.deeper (envOfC qual scope s.heap.objs.size f cd)) (leaving (envOfC qual scope s.heap.objs.size f cd) e) (fun _ s''=>CX outer H s E e s'') (fun e' s''=>CX outer H s E e' s'') s'
theorem cell_has {sc:Scope} {n:Nat} {x:Str} (h:sc.names.lookup x = some .cell):∃ c,(cellsFrom n sc.names []).lookup x = some c:=by
 have q:=PySem.W.cellsFrom_some sc.names n [] (.inl h)
 exact Option.isSome_iff_exists.mp q
theorem inv_start {CX:CXT} {P:Program} {w:World} {K:PySem.W.Frag} {mg:Str->Option Value} {base:Heap} {N ps:List Str} {qual:Str} {scope:Scope} {f:Addr} {cd:Value} {A:Around} {outer:List Env} {s s1:Shared} {H:Hp} {E:XK} {us:List Value} {vs:List V}
  (S:FnScope N ps scope) (hd:A.handled = none) (e0:Env0 P w K mg base A outer s H) (hl:vs.length = ps.length) (r:Vals vs us)
  (x:InCallC s s.heap.objs.size (bindL (envOfC qual scope s.heap.objs.size f cd).kindOf (ps.zip us) fun _=>none) (cellsFrom (s.heap.objs.size + 1) scope.names []) (bindC (envOfC qual scope s.heap.objs.size f cd).kindOf (ps.zip us) fun _=>none) s1) :
  Inv (cxOf CX P w K mg base N qual scope f cd A outer s H E) [] (start N vs) H s1:=by
 have hpl:ps.length ≤ N.length:=by have:=congrArg List.length S.pre;rw [List.length_take] at this;omega
 obtain ⟨h1,tk,rfl,hk⟩:=x.done
 have noA:∀ b:Addr,b ∉ (cxOf CX P w K mg base N qual scope f cd A outer s H E).ex:=fun b z=>absurd (show b ∈ ([]:List Addr) from z) (by simp)
 refine ⟨⟨e0.mod,S.kind,rfl,rfl,Nat.le_refl _,fun y z c h1 h2=>?_,fun y hy=>?_,fun y c _ h=>?_,fun _=>hd,Around.frames_deeper e0.frames,.inr ⟨rfl,rfl⟩,fun b z=>absurd z (noA b),e0.bs,e0.bsz,fun b _ _=>noA b,fun b z=>absurd z (noA b),e0.funs,e0.frf⟩,
  rfl,e0.bare,Un.kept hk,⟨_,x.toInCall.ns,fun i y v h1 h2 h3=>?_⟩,fun y c h=>⟨_,x.cell y c h⟩,e0.hok.fresh (Nat.le_refl _),fun y c h=>?_,fun p hp=>absurd (show p ∈ ([]:List (Addr × Obj)) from hp) (by simp),e0.hok.kept hk,?_⟩
 ·exact name_of_addr x.apart (PySem.mem_of_lookup h1) (PySem.mem_of_lookup h2)
 ·have hy:scope.names.lookup y = some .cell\/scope.names.lookup y = some .free:=hy
  rcases hy with hy | hy
  ·exact cell_has hy
  ·exact absurd rfl (S.nofree _ (PySem.mem_of_lookup hy))
 ·exact Nat.le_of_lt (x.above y c (PySem.mem_of_lookup h))
 ·have hi:i < vs.length:=by
   unfold start at h2
   by_cases hi:i < vs.length
   ·exact hi
   ·rw [List.getElem?_append_right (by simpa using hi)] at h2
    rw [List.getElem?_replicate] at h2
    split at h2 <;> cases h2
  have ha:vs[i]? = some v:=by
   unfold start at h2
   rw [List.getElem?_append_left (by simpa using hi),List.getElem?_map] at h2
   cases e:vs[i]? with
   | none=>rw [e] at h2;cases h2
   | some a=>rw [e] at h2;cases h2;rfl
  obtain ⟨u,hu,rv⟩:=r.get ha
  have hp:ps[i]? = some y:=by
   rw [← S.pre,List.getElem?_take_of_lt (by omega)];exact h1
  have ndP:ps.Nodup:=by rw [← S.pre];exact S.nd.sublist (List.take_sublist _ _)
  refine ⟨u,rv,?_⟩
  rcases S.par y (List.mem_of_getElem? hp) with k | k
  ·exact .inl ⟨k,bindL_get ndP hp hu k⟩
  ·obtain ⟨c,e⟩:=cell_has (n:=s.heap.objs.size + 1) k
   refine .inr ⟨.inl k,c,e,?_⟩
   have q:=x.cell y c e
   rw [bindC_get ndP hp hu (by show scope.names.lookup y ≠ _;rw [k];decide)] at q
   exact q
 ·exact e0.hok.fresh (Nat.le_of_lt (x.above y c (PySem.mem_of_lookup h)))
 ·unfold start
  show _ = N.length
  rw [List.length_append,List.length_map,List.length_replicate]
  omega
theorem fn_of {CX:CXT} {P:Program} {w:World} {K:PySem.W.Frag} {mg:Str->Option Value} {base:Heap} {k:Nat} {f:Addr} {name qual:Str} {params:Arguments} {body:List Stmt} {scope:Scope} {dV kV doc pm cdv ct oc:Value} {an od:Option Addr}
  {osl:Array (Option Value)} {N ps:List Str} {sp:Sp} (lk:K.lookup f = some ⟨oc,od,.func (PySem.W.fnOf name qual params body scope dV kV doc pm an cdv ct),osl⟩) (hcd:PySem.W.codeIn K cdv qual = true) (S:FnScope N ps scope)
  (len:∀ vs H Q E,sp vs H Q E->vs.length = ps.length)
  (hbody:∀ (A:Around) (outer:List Env) (s:Shared) (H:Hp) (vs:List V) (Q:VK) (E:XK),Room k (A.deeper (envOfC qual scope s.heap.objs.size f cdv))->sp vs H Q E →
   ∃ t,PSs (cxOf CX P w K mg base N qual scope f cdv A outer s H E) body t/\t { nx:=fun _ H'=>Q .non H',rt:=Q } (start N vs) H) :
  FnOk P w K mg base CX (k + 1) f (PySem.W.fnOf name qual params body scope dV kV doc pm an cdv ct) ps sp:=by
 refine ⟨len,fun A outer s H args us vs Q E hr e0 hb r hsp=>?_⟩
 have hl:=len _ _ _ _ hsp
 have KX:K.In s.heap:=e0.mod.kin.keeps fun b o e=>(e0.bs b o e).1
 have lim:s.heap.NoLimit:=e0.mod.nolimit.keeps fun b o e=>(e0.bs b o e).1
 have hkind:∀ y ∈ ps.zip us,scope.names.lookup y.1 = some .local\/(scope.names.lookup y.1 = some .cell/\((cellsFrom (s.heap.objs.size + 1) scope.names []).lookup y.1).isSome = true):=fun ⟨n,v⟩ hy=>by
  rcases S.par n (List.of_mem_zip hy).1 with q | q
  ·exact .inl q
  ·exact .inr ⟨q,PySem.W.cellsFrom_some _ _ _ (.inl q)⟩
 refine codeAny_call_function hr.depth (KX _ _ lk) rfl S.co S.gen rfl (PySem.W.codeRec_of KX hcd) (hb _ _ _ _ ?_)
 refine wpAny_newFunctionEnv_cells S.kind hkind fun env he s1 x=>?_
 subst he
 refine ⟨lim.keeps x.toInCall.keep,codeAny_func ?_⟩
 obtain ⟨t,ht,hq⟩:=hbody A outer s H vs Q E (hr.deeper _) hsp
 have I:Inv (cxOf CX P w K mg base N qual scope f cdv A outer s H E) [] (start N vs) H s1:=inv_start S hr.hd e0 hl r x
 refine wpAny_mono (ht [] s1 (start N vs) H _ I hq) (fun fl s' hs=>?_) fun e s' hs=>hs
 have fin:∀ {σ':St} {H':Hp} {v:V} {u:Value},Inv (cxOf CX P w K mg base N qual scope f cdv A outer s H E) [] σ' H' s'->RelV v u->Q v H'->CE outer P w H s Q u s':=
  fun {σ' H' v u} J rv q=>⟨v,H',J.os,J.bare,J.base,J.hok,rv,q⟩
 cases fl with
 | ret u=>
  obtain ⟨v,σ',H',J,rv,q⟩:=hs
  exact fin J rv q
 | next=>
  obtain ⟨σ',H',J,q⟩:=hs
  exact fin (v:=V.non) (u:=Value.none) J rfl q
 | brk=>
  obtain ⟨_,_,_,q⟩:=hs
  exact False.elim q
 | cont=>
  obtain ⟨_,_,_,q⟩:=hs
  exact False.elim q
end L2
namespace L2
open PySem PySem.Spec PyProof.Rows
section
variable {X:Cx} {x:Str} {p pos:Pos} {e:Expr} {es:List Expr} {t:TA} {id T:String} {r:List V->Hp->VK->Prop}
def tCB (r:List V->Hp->VK->Prop) (t:TA):TE:=fun σ H Q=>t σ H fun vs H1=>r vs H1 Q
theorem pe_callB (hc:CallR X (.builtin id) r) (hg:Gl X x) (hm:X.mg x = none) (hv:bootBuiltins x = some (.builtin id)) (ha:PA X (e :: es) t) (hn:x ≠ "__name__":=by decide) (hdb:(x == ("__debug__":Str)) = false:=by decide)
  (he:starEach (e :: es) X.env = (false,eval e X.env) :: starEach es X.env:=by rfl) (hpl:(backTo pos (starEach es X.env)).any (·.1) = false:=by rfl):PE X (.Call (.Name x p) (e :: es) [] pos) (tCB r t):=by
 intro pins s σ H Q I h
 refine wpAny_Call_Name_kw (ld_blt I hg hm hv ?_ hn hdb)
 exact PyProof.Rows.callWith_builtin1 (thn (ha pos pins s σ H _ I h) fun us s1 ⟨vs,H1,I1,r1,q1⟩=>hc pins s1 σ H1 vs us Q I1 r1 q1) he hpl
theorem pe_callTy (hc:CallR X (.type T) r) (hg:Gl X x) (hm:X.mg x = none) (hv:bootBuiltins x = some (.type T)) (ha:PA X (e :: es) t) (hn:x ≠ "__name__":=by decide) (hdb:(x == ("__debug__":Str)) = false:=by decide)
  (he:starEach (e :: es) X.env = (false,eval e X.env) :: starEach es X.env:=by rfl) (hpl:(backTo pos (starEach es X.env)).any (·.1) = false:=by rfl):PE X (.Call (.Name x p) (e :: es) [] pos) (tCB r t):=by
 intro pins s σ H Q I h
 refine wpAny_Call_Name_kw (ld_blt I hg hm hv ?_ hn hdb)
 exact PyProof.Rows.callWith_type1 (thn (ha pos pins s σ H _ I h) fun us s1 ⟨vs,H1,I1,r1,q1⟩=>hc pins s1 σ H1 vs us Q I1 r1 q1) he hpl
end
end L2
namespace HT
open PySem PyProof.Rows
section
open PySem.SeqAt
open PySem.AutoSeq1 (wpAny_loadPart')
open PySem.MeetsSeq PySem.MeetsSeq2 PySem.MeetsSeq3
end
section
variable {prog:Program} {w:World} {A:Around} {E:Value->Shared->Prop} {s:Shared}
def sIx (n d:Nat):Option Int->Nat
 | none=>d
 | some v=>if v < 0 then (v + (n:Int)).toNat else min v.toNat n
theorem sIx_none (n d:Nat):sIx n d none = d:=rfl
theorem sIx_nat (n d k:Nat):sIx n d (some (k:Int)) = min k n:=by
 show (if (k:Int) < 0 then ((k:Int) + (n:Int)).toNat else min (k:Int).toNat n) = min k n
 rw [if_neg (by omega),Int.toNat_natCast]
theorem clip_eq (v:Int) (n d:Nat):(if v < 0 then max (v + (n:Int)) 0 else min v (n:Int)) = ((sIx n d (some v):Nat):Int):=by
 show (if v < 0 then max (v + (n:Int)) 0 else min v (n:Int)) = (((if v < 0 then (v + (n:Int)).toNat else min v.toNat n):Nat):Int)
 by_cases hv:v < 0
 ·simp only [if_pos hv];omega
 ·simp only [if_neg hv];omega
end
end HT
namespace L2
open PySem PySem.Spec PyProof.Rows
abbrev TO:=St->Hp->(Option Int->Hp->Prop)->Prop
def PO (X:Cx) (e:Option Expr) (t:TO):Prop:=
 ∀ (pins:List (Addr × Obj)) (s:Shared) (σ:St) (H:Hp) (Q:Option Int->Hp->Prop),Inv X pins σ H s->t σ H Q →
  wpAny (model X.prog X.w) X.A (evalPart e X.env) (fun u s'=>∃ o H',Inv X pins σ H' s'/\IsPart u o/\Q o H') X.xe s
def tNoPart:TO:=fun _ H Q=>Q none H
def tPart (t:TE):TO:=fun σ H Q=>t σ H fun x H1=>∃ i,x = .int i/\Q (some i) H1
section
variable {X:Cx} {e:Expr} {te:TE} {lo hi:Option Expr} {tl th:TO} {pos p2:Pos}
theorem po_none:PO X none tNoPart:=by
 intro pins s σ H Q I h
 rw [evalPart_none]
 exact wpAny_pure ⟨none,H,I,.none,h⟩
theorem po_some (h:PE X e te):PO X (some e) (tPart te):=by
 intro pins s σ H Q I hw
 rw [evalPart_some]
 refine thn (h pins s σ H _ I hw) fun u s1 ⟨x,H1,I1,r1,q1⟩=>?_
 obtain ⟨i,rfl,q⟩:=q1
 obtain ⟨t,rfl⟩:=r1
 exact ⟨some i,H1,I1,.int i t,q⟩
def SlR (X:Cx) (r:V->Option Int->Option Int->Hp->VK->Prop):Prop:=
 ∀ (pins:List (Addr × Obj)) (s:Shared) (σ:St) (H:Hp) (x:V) (v vl vu:Value) (lo hi:Option Int) (sl:Addr) (Q:VK),Inv X pins σ H s->RelV x v->s.heap.IsSliceOf sl vl vu .none->IsPart vl lo->IsPart vu hi->r x lo hi H Q →
  ∃ T id,typeLookup (.type T) "__getitem__" = pure (some (.builtin id))/\s.TypeIs v T/\wpAny (model X.prog X.w) X.A (getItem v (.ref sl)) (EP X pins σ Q) X.xe s
def tSl (r:V->Option Int->Option Int->Hp->VK->Prop) (te:TE) (tl th:TO):TE:=fun σ H Q=>te σ H fun x H1=>tl σ H1 fun l H2=>th σ H2 fun u H3=>r x l u H3 Q
theorem pe_slice {r:V->Option Int->Option Int->Hp->VK->Prop} (hr:SlR X r) (he:PE X e te) (hl:PO X lo tl) (hu:PO X hi th):PE X (.Subscript e (.Slice lo hi none p2) pos) (tSl r te tl th):=by
 intro pins s σ H Q I h
 refine Subscript_ (thn (he pins s σ H _ I h) fun v s1 ⟨x,H1,I1,r1,q1⟩=>?_)
 refine wpAny_Slice (thn (hl pins s1 σ H1 _ I1 q1) fun vl s2 ⟨l,H2,I2,pl,q2⟩=>thn (hu pins s2 σ H2 _ I2 q2) fun vu s3 ⟨u,H3,I3,pu,q3⟩=>?_)
 rw [evalPart_none]
 refine wpAny_pure ?_
 have I4:Inv X pins σ H3 { s3 with heap:=s3.heap.push { cls:=.type "slice",data:=.fields #[vl,vu,.none] } }:=I3.kept (t':=s3.toks) fun b ob q=>Heap.get?_push_of_some _ q
 obtain ⟨T,id,hT,ht,hg⟩:=hr pins { s3 with heap:=s3.heap.push { cls:=.type "slice",data:=.fields #[vl,vu,.none] } } σ H3 x v vl vu l u s3.heap.objs.size Q I4 r1 (Heap.IsSliceOf.new ..) pl pu q3
 show wpAny (model X.prog X.w) X.A (subscriptTail e (.Slice lo hi none p2) v (.ref s3.heap.objs.size)) (EP X pins σ Q) X.xe { s3 with heap:=s3.heap.push { cls:=.type "slice",data:=.fields #[vl,vu,.none] } }
 exact tail_any (ops:=[.ref s3.heap.objs.size,v]) ht hT hg (by with_unfolding_all rfl)
def cutV (xs:List V) (lo hi:Option Int):List V:=(xs.drop (HT.sIx xs.length 0 lo)).take (HT.sIx xs.length xs.length hi - HT.sIx xs.length 0 lo)
theorem cutV_length (xs:List V) (lo hi:Option Int):(cutV xs lo hi).length ≤ xs.length:=by
 unfold cutV
 rw [List.length_take,List.length_drop]
 omega
end
end L2
namespace L2
open PySem PySem.Spec PyProof.Rows
def ixN (n:Nat) (i:Int):Option Nat:=if 0 ≤ i then (if i < n then some i.toNat else none) else if -(n:Int) ≤ i then some (i + n).toNat else none
def atI {α:Type} (xs:List α) (i:Int):Option α:=(ixN xs.length i).bind fun j=>xs[j]?
theorem ixN_seq {n:Nat} {i:Int} {j:Nat} (h:ixN n i = some j):seqIndex? i n = some j/\j < n/\-(n:Int) ≤ i/\i < n:=by
 unfold ixN at h
 by_cases h0:0 ≤ i
 ·rw [if_pos h0] at h
  by_cases h1:i < n
  ·rw [if_pos h1] at h
   have e:i.toNat = j:=Option.some.inj h
   exact ⟨by rw [seqIndex_of h0 h1,e],by omega,by omega,h1⟩
  ·rw [if_neg h1] at h;cases h
 ·rw [if_neg h0] at h
  by_cases h1:-(n:Int) ≤ i
  ·rw [if_pos h1] at h
   have e:(i + n).toNat = j:=Option.some.inj h
   exact ⟨by rw [seqIndex_neg (by omega) h1,e],by omega,h1,by omega⟩
  ·rw [if_neg h1] at h;cases h
theorem atI_get {α:Type} {xs:List α} {i:Int} {v:α} (h:atI xs i = some v):∃ j,seqIndex? i xs.length = some j/\xs[j]? = some v/\j < xs.length/\-(xs.length:Int) ≤ i/\i < xs.length:=by
 unfold atI at h
 cases e:ixN xs.length i with
 | none=>rw [e] at h;cases h
 | some j=>
  rw [e] at h
  obtain ⟨h1,h2,h3,h4⟩:=ixN_seq e
  exact ⟨j,h1,h,h2,h3,h4⟩
theorem atI_nat {α:Type} {xs:List α} {j:Nat} {v:α} (h:xs[j]? = some v):atI xs (j:Int) = some v:=by
 have hj:j < xs.length:=(List.getElem?_eq_some_iff.mp h).1
 have e:ixN xs.length (j:Int) = some j:=by
  unfold ixN
  rw [if_pos (by omega),if_pos (by omega)];simp
 unfold atI;rw [e];exact h
def PlainIx (b:Expr):Prop:=∀ o i,subscripted b false o i = operate [o,i] (getItem o i)
def IxR (X:Cx) (r:R2):Prop:=
 ∀ (value slice:Expr) (pins:List (Addr × Obj)) (s:Shared) (σ:St) (H:Hp) (x y:V) (v u:Value) (Q:VK),Inv X pins σ H s->RelV x v->RelV y u->r x y H Q →
  subscripted slice false v u = operate [v,u] (getItem v u)->wpAny (model X.prog X.w) X.A (subscriptTail value slice v u) (EP X pins σ Q) X.xe s
def MtR (X:Cx) (id:String) (r:V->List V->Hp->VK->Prop):Prop:=
 ∀ (pins:List (Addr × Obj)) (s:Shared) (σ:St) (H:Hp) (x:V) (xs:List V) (v:Value) (us:List Value) (Q:VK),Inv X pins σ H s->RelV x v->Vals xs us->r x xs H Q →
  wpAny (model X.prog X.w) X.A (call (.builtin id) (v :: us)) (EP X pins σ Q) X.xe s
section
variable {X:Cx} {a b:Expr} {ta tb:TE} {pos:Pos}
theorem pe_ix {r:R2} (hr:IxR X r) (ha:PE X a ta) (hb:PE X b tb) (hs:PlainIx b):PE X (.Subscript a b pos) (tOp r ta tb):=by
 intro pins s σ H Q I h
 exact Subscript_ (binT ha hb I h fun v u s2 x y H2 I2 rx ry q=>hr a b pins s2 σ H2 x y v u Q I2 rx ry q (hs _ _))
def rIxL (K:PySem.W.Frag):R2:=fun x y H Q=>∃ p xs i v,x = .ref p/\y = .int i/\SqL K H p xs/\atI xs i = some v/\Q v H
def rIxT (K:PySem.W.Frag):R2:=fun x y H Q=>∃ p xs i v,x = .ref p/\y = .int i/\SqT K H p xs/\atI xs i = some v/\Q v H
def rIxS:R2:=fun x y H Q=>∃ z i c,x = .str z/\y = .int i/\z.length ≤ sizeLine/\atI z.cps.toList i = some c/\Q (.str ⟨#[c]⟩) H
theorem ix_list:IxR X (rIxL X.K):=by
 intro value slice pins s σ H x y v u Q I rx ry h hs
 obtain ⟨p,xs,i,z,rfl,rfl,hq,he,q⟩:=h
 cases rx
 obtain ⟨t,rfl⟩:=ry
 obtain ⟨its,r,pl,hz⟩:=I.list hq
 obtain ⟨j,h1,h2,h3,h4,h5⟩:=atI_get he
 obtain ⟨w,ew,rw'⟩:=r.get h2
 have hl:=r.length
 have hn:=line63
 have fin:EP X pins σ Q w s:=⟨z,H,I,rw',q⟩
 by_cases h0:0 ≤ i
 ·have hj:i.toNat = j:=by
   rw [seqIndex_of h0 h5] at h1
   exact Option.some.inj h1
  exact item_listR pl.isList h0 (by omega) (by rw [hj];simpa using ew) fin hs
 ·have hj:(i + (its.toArray.size:Int)).toNat = j:=by
   rw [seqIndex_neg (by omega) h4] at h1
   rw [List.size_toArray,← hl]
   exact Option.some.inj h1
  exact subscriptTail_builtinR (x:=w) pl.isList.typeIs slot_list_getitem.lookup
   (wpAny_getItem_list_neg (Q:=fun r s'=>r = w/\EP X pins σ Q r s') pl.isList (by omega) (by rw [List.size_toArray] <;> omega) (by omega) (by rw [hj];simpa using ew) ⟨rfl,fin⟩) hs
theorem ix_tup:IxR X (rIxT X.K):=by
 intro value slice pins s σ H x y v u Q I rx ry h hs
 obtain ⟨p,xs,i,z,rfl,rfl,hq,he,q⟩:=h
 cases rx
 obtain ⟨t,rfl⟩:=ry
 obtain ⟨its,r,pl,hz⟩:=I.tuple hq
 obtain ⟨j,h1,h2,h3,h4,h5⟩:=atI_get he
 obtain ⟨w,ew,rw'⟩:=r.get h2
 have hl:=r.length
 have hn:=line63
 have fin:EP X pins σ Q w s:=⟨z,H,I,rw',q⟩
 exact subscriptTail_builtinR (x:=w) pl.typeIs slot_tuple_getitem.lookup
  (getItem_tuple (j:=j) (Q:=fun r s'=>r = w/\EP X pins σ Q r s') pl (by omega) (by omega) (by rw [List.size_toArray,← hl];exact h1) (by simpa using ew) ⟨rfl,fin⟩) hs
theorem ix_str:IxR X rIxS:=by
 intro value slice pins s σ H x y v u Q I rx ry h hs
 obtain ⟨z,i,c,rfl,rfl,hz,he,q⟩:=h
 obtain ⟨t,rfl⟩:=rx
 obtain ⟨t',rfl⟩:=ry
 obtain ⟨j,h1,h2,h3,h4,h5⟩:=atI_get he
 have hl:z.cps.toList.length = z.length:=by simp [Str.length]
 rw [hl] at h1 h4 h5
 have hn:=line63
 exact tail_any (typeIs_str s z t) slot_str_getitem.lookup (getItem_str (c:=c) (by
  have e1:decide (i < -(2 ^ 63:Int)) = false:=decide_eq_false (by omega)
  have e2:decide (i ≥ 2 ^ 63) = false:=decide_eq_false (by omega)
  rw [e1,e2,Bool.or_false]) (by rw [h1];simpa using h2) ⟨.str ⟨#[c]⟩,H,I.tok _,⟨_,rfl⟩,q⟩) hs
theorem slice_bounds (lo hi:Option Int) (n:Nat):(sliceBounds lo hi none n).1 = ((HT.sIx n 0 lo:Nat):Int)/\(sliceBounds lo hi none n).2.1 = ((HT.sIx n n hi:Nat):Int)/\(sliceBounds lo hi none n).2.2 = 1:=by
 refine ⟨?_,?_,rfl⟩
 ·cases lo with
  | none=>simp [sliceBounds,HT.sIx]
  | some i=>
   simp only [sliceBounds,HT.sIx,Option.getD_none,show (1:Int) > 0 by decide,if_true]
   by_cases h:i < 0
   ·simp only [h,if_true] <;> omega
   ·simp only [h,if_false] <;> omega
 ·cases hi with
  | none=>simp [sliceBounds,HT.sIx]
  | some i=>
   simp only [sliceBounds,HT.sIx,Option.getD_none,show (1:Int) > 0 by decide,if_true]
   by_cases h:i < 0
   ·simp only [h,if_true] <;> omega
   ·simp only [h,if_false] <;> omega
theorem slicePick_cut (its:List Value) (lo hi:Option Int):slicePick its.toArray lo hi none = ((its.drop (HT.sIx its.length 0 lo)).take (HT.sIx its.length its.length hi - HT.sIx its.length 0 lo)).toArray:=by
 obtain ⟨h1,h2,h3⟩:=slice_bounds lo hi its.toArray.size
 unfold slicePick
 rw [h1,h2,h3]
 simp only [sliceRange_one,pick_run,List.size_toArray] <;> rfl
def rSlL (K:PySem.W.Frag):V->Option Int->Option Int->Hp->VK->Prop:=fun x lo hi H Q=>∃ a xs,x = .ref a/\SqL K H a xs/\∀ p,H p = none->Q (.ref p) (upd H p (.lst (cutV xs lo hi)))
theorem sl_list:SlR X (rSlL X.K):=by
 intro pins s σ H x v vl vu lo hi sl Q I rx hs pl pu h
 obtain ⟨a,xs,rfl,hx,q⟩:=h
 cases rx
 obtain ⟨its,r,ht,hz⟩:=I.list hx
 have hlen:=r.length
 refine ⟨"list",_,slot_list_getitem.lookup,ht.isList.typeIs,?_⟩
 refine wpAny_getItem_list_slice ht.isList hs pl pu .none (by simp) ?_ (by rw [List.size_toArray] <;> omega)
 rw [slicePick_cut,← hlen]
 refine ⟨.ref s.heap.objs.size,_,I.laid (t':=s.toks) (o:=.lst (cutV xs lo hi)) (fun b ob q=>Heap.get?_push_of_some _ q) (Nat.le_refl _) ?_,rfl,q _ (I.hok.fresh (Nat.le_refl _))⟩
 exact ⟨Nat.le_trans (cutV_length xs lo hi) hz,_,0,(r.drop (HT.sIx xs.length 0 lo)).take (HT.sIx xs.length xs.length hi - HT.sIx xs.length 0 lo),Heap.get?_push_size _ rfl⟩
def flatV:V->Bool
 | .non=>true
 | .bl _=>true
 | .int _=>true
 | .str _=>true
 | _=>false
def eqV:V->V->Bool
 | .non,.non=>true
 | .bl a,.bl b=>a == b
 | .bl a,.int b=>(if a then 1 else 0) == b
 | .int a,.bl b=>a == (if b then 1 else 0)
 | .int a,.int b=>a == b
 | .str a,.str b=>a == b
 | _,_=>false
theorem eqAt_V {A:Around} {s:Shared} {y x:V} {u v:Value} (ry:RelV y u) (rx:RelV x v) (fy:flatV y = true) (fx:flatV x = true):SeqAt.EqAt A s u v (eqV y x):=by
 cases y with
 | non=>
  cases ry
  cases x with
  | non=>cases rx;exact SeqAt.EqAt.same _
  | bl b=>cases rx;exact SeqAt.EqAt.none_bool b
  | int b=>obtain ⟨t,rfl⟩:=rx;exact SeqAt.EqAt.none_int b t
  | str b=>obtain ⟨t,rfl⟩:=rx;exact SeqAt.EqAt.none_str b t
  | _=>exact absurd (show false = true from fx) Bool.false_ne_true
 | bl a=>
  cases ry
  cases x with
  | non=>cases rx;exact SeqAt.EqAt.bool_none a
  | bl b=>cases rx;exact SeqAt.EqAt.bool_bool a b
  | int b=>obtain ⟨t,rfl⟩:=rx;exact SeqAt.EqAt.bool_int a b t
  | str b=>obtain ⟨t,rfl⟩:=rx;exact SeqAt.EqAt.bool_str a b t
  | _=>exact absurd (show false = true from fx) Bool.false_ne_true
 | int a=>
  obtain ⟨t',rfl⟩:=ry
  cases x with
  | non=>cases rx;exact SeqAt.EqAt.int_none a t'
  | bl b=>cases rx;exact SeqAt.EqAt.int_bool a t' b
  | int b=>obtain ⟨t,rfl⟩:=rx;exact SeqAt.EqAt.int_int a t' b t
  | str b=>obtain ⟨t,rfl⟩:=rx;exact SeqAt.EqAt.int_str a t' b t
  | _=>exact absurd (show false = true from fx) Bool.false_ne_true
 | str a=>
  obtain ⟨t',rfl⟩:=ry
  cases x with
  | non=>cases rx;exact SeqAt.EqAt.str_none a t'
  | bl b=>cases rx;exact SeqAt.EqAt.str_bool a t' b
  | int b=>obtain ⟨t,rfl⟩:=rx;exact SeqAt.EqAt.str_int a t' b t
  | str b=>obtain ⟨t,rfl⟩:=rx;exact SeqAt.EqAt.str_str a t' b t
  | _=>exact absurd (show false = true from fx) Bool.false_ne_true
 | _=>exact absurd (show false = true from fy) Bool.false_ne_true
def eqU (x:V) (u:Value):Bool:=match u with
 | .none=>eqV .non x
 | .bool b=>eqV (.bl b) x
 | .int i _=>eqV (.int i) x
 | .str z _=>eqV (.str z) x
 | _=>false
theorem eqU_of {x y:V} {u:Value} (r:RelV y u) (f:flatV y = true):eqU x u = eqV y x:=by
 cases y with
 | non=>cases r;rfl
 | bl b=>cases r;rfl
 | int i=>obtain ⟨t,rfl⟩:=r;rfl
 | str z=>obtain ⟨t,rfl⟩:=r;rfl
 | _=>exact absurd (show false = true from f) Bool.false_ne_true
theorem any_eqU {x:V}:∀ {xs:List V} {us:List Value},Vals xs us->xs.all flatV = true->us.any (eqU x) = xs.any fun y=>eqV y x
 | _,_,.nil,_=>rfl
 | y :: xs,u :: us,.cons r t,f=>by
  rw [List.all_cons,Bool.and_eq_true] at f
  rw [List.any_cons,List.any_cons,eqU_of r f.1,any_eqU t f.2]
theorem mem_eqAt {A:Around} {s:Shared} {x:V} {v:Value} (rx:RelV x v) (fx:flatV x = true):∀ {xs:List V} {us:List Value},Vals xs us->xs.all flatV = true->∀ u ∈ us,SeqAt.EqAt A s u v (eqU x u)
 | _,_,.nil,_=>fun u hu=>by cases hu
 | y :: xs,u :: us,.cons r t,f=>fun u' hu=>by
  rw [List.all_cons,Bool.and_eq_true] at f
  rcases List.mem_cons.mp hu with rfl | hu
  ·rw [eqU_of r f.1];exact eqAt_V r rx f.1 fx
  ·exact mem_eqAt rx fx t f.2 u' hu
def inV (x:V) (xs:List V):Bool:=xs.any fun y=>eqV y x
def rIn (K:PySem.W.Frag) (neg:Bool):R2:=fun x y H Q=>∃ p xs,y = .ref p/\(SqL K H p xs\/SqT K H p xs)/\flatV x = true/\xs.all flatV = true/\Q (.bl (if neg then !inV x xs else inV x xs)) H
theorem op_in_seq:OpR X (compareOp .In) (rIn X.K false):=by
 intro pins s σ H x y v u Q I rx ry h
 obtain ⟨p,xs,rfl,hq,fx,fs,q⟩:=h
 cases ry
 rcases hq with hq | hq
 ·obtain ⟨its,r,pl,hz⟩:=I.list hq
  refine SeqAt.in_listAt (eqU x) pl.isList (fun w hw=>mem_eqAt rx fx r fs w (by simpa using hw)) ⟨.bl _,H,I,rfl,?_⟩
  rw [show its.toArray.any (eqU x) = its.any (eqU x) by simp,any_eqU r fs]
  exact q
 ·obtain ⟨its,r,pl,hz⟩:=I.tuple hq
  refine SeqAt.in_tupleAt (eqU x) pl (fun w hw=>mem_eqAt rx fx r fs w (by simpa using hw)) ⟨.bl _,H,I,rfl,?_⟩
  rw [show its.toArray.any (eqU x) = its.any (eqU x) by simp,any_eqU r fs]
  exact q
theorem op_notIn_seq:OpR X (compareOp .NotIn) (rIn X.K true):=by
 intro pins s σ H x y v u Q I rx ry h
 obtain ⟨p,xs,rfl,hq,fx,fs,q⟩:=h
 cases ry
 rcases hq with hq | hq
 ·obtain ⟨its,r,pl,hz⟩:=I.list hq
  refine SeqAt.notIn_listAt (eqU x) pl.isList (fun w hw=>mem_eqAt rx fx r fs w (by simpa using hw)) ⟨.bl _,H,I,rfl,?_⟩
  rw [show its.toArray.any (eqU x) = its.any (eqU x) by simp,any_eqU r fs]
  exact q
 ·obtain ⟨its,r,pl,hz⟩:=I.tuple hq
  refine SeqAt.notIn_tupleAt (eqU x) pl (fun w hw=>mem_eqAt rx fx r fs w (by simpa using hw)) ⟨.bl _,H,I,rfl,?_⟩
  rw [show its.toArray.any (eqU x) = its.any (eqU x) by simp,any_eqU r fs]
  exact q
theorem op_notIn_str:OpR X (compareOp .NotIn) (fun x y H Q=>∃ i j,x = .str i/\y = .str j/\Q (.bl (!(!(Builtin.Str.occurrences j i 0 j.length 1).isEmpty))) H):=by
 intro pins s σ H x y v u Q I rx ry h
 obtain ⟨i,j,rfl,rfl,q⟩:=h
 obtain ⟨t,rfl⟩:=rx
 obtain ⟨t',rfl⟩:=ry
 exact notIn_str ⟨.bl _,H,I,rfl,q⟩
theorem call_len_seq:CallR X (.builtin "len") (fun xs H Q=>∃ p ys,xs = [.ref p]/\(SqL X.K H p ys\/SqT X.K H p ys)/\Q (.int ys.length) H):=by
 intro pins s σ H xs us Q I r h
 obtain ⟨p,ys,rfl,hq,q⟩:=h
 obtain ⟨u,rfl,rx⟩:=vals1 r
 cases rx
 have hn:=line63
 rcases hq with hq | hq
 ·obtain ⟨its,r',pl,hz⟩:=I.list hq
  have hlen:=r'.length
  exact Calls.call_len_list pl.isList (by simp only [List.size_toArray] <;> omega) ⟨.int ys.length,H,I.tok _,⟨s.toks + 1,by rw [List.size_toArray,hlen]⟩,q⟩
 ·obtain ⟨its,r',pl,hz⟩:=I.tuple hq
  have hlen:=r'.length
  exact len_tuple pl (by simp only [List.size_toArray] <;> omega) ⟨.int ys.length,H,I.tok _,⟨s.toks + 1,by rw [List.size_toArray,hlen]⟩,q⟩
theorem call_len_str:CallR X (.builtin "len") (fun xs H Q=>∃ z,xs = [.str z]/\z.length ≤ sizeLine/\Q (.int z.length) H):=by
 intro pins s σ H xs us Q I r h
 obtain ⟨z,rfl,hz,q⟩:=h
 obtain ⟨u,rfl,t,rfl⟩:=vals1 r
 have hn:=line63
 exact len_str (by omega) ⟨.int z.length,H,I.tok _,⟨_,rfl⟩,q⟩
theorem call_tuple_of:CallR X (.type "tuple") (fun xs H Q=>∃ p ys,xs = [.ref p]/\((SqL X.K H p ys/\∀ l,H l = none->Q (.ref l) (upd H l (.tup ys)))\/(SqT X.K H p ys/\Q (.ref p) H))):=by
 intro pins s σ H xs us Q I r h
 obtain ⟨p,ys,rfl,h⟩:=h
 obtain ⟨u,rfl,rx⟩:=vals1 r
 cases rx
 rcases h with ⟨hq,q⟩ | ⟨hq,q⟩
 ·obtain ⟨its,r',pl,hz⟩:=I.list hq
  have hlen:=r'.length
  refine call_tuple_list pl.isList (fun h' kp=>?_) (by simp only [List.size_toArray] <;> omega)
  have I1:Inv X pins σ H { s with heap:=h' }:=I.kept (t':=s.toks) kp
  have I2:Inv X pins σ (upd H h'.objs.size (.tup ys)) { s with heap:=h'.push { cls:=.type "tuple",data:=.seq its.toArray } }:=
   I1.laid (t':=s.toks) (fun b o e=>Heap.get?_push_of_some _ e) (Nat.le_refl _) (show ObjOk X.prog X.w _ _ _ (.tup ys) from ⟨hz,its,r',IsTup.new _ _⟩)
  exact ⟨.ref h'.objs.size,_,I2,rfl,q _ (I1.hok.fresh (Nat.le_refl _))⟩
 ·obtain ⟨its,r',pl,hz⟩:=I.tuple hq
  exact call_tuple_same pl ⟨.ref p,H,I,rfl,q⟩
def tyV (K:PySem.W.Frag) (T:String) (x:V) (H:Hp):Prop:=match x with
 | .str _=>T = "str"
 | .int _=>T = "int"
 | .ref p=>(T = "list"/\∃ xs,SqL K H p xs)\/(T = "tuple"/\∃ o,K.lookup p = some o/\o.cls = .type "tuple"/\o.dict = none) ∨
   (T = "dict"/\((∃ kvs,H p = some (.dK kvs))\/∃ kvs,H p = some (.dT kvs)))\/(T = "set"/\∃ S n,H p = some (.set S n))
 | _=>False
theorem tyV_is {pins:List (Addr × Obj)} {σ:St} {H:Hp} {s:Shared} {T:String} {x:V} {v:Value} (I:Inv X pins σ H s) (r:RelV x v) (ty:tyV X.K T x H) :
  s.TypeIs v T/\∀ a,v = .ref a->∃ ob,s.heap.get? a = some ob/\ob.dict = none:=by
 cases x with
 | str z=>
  obtain ⟨t,rfl⟩:=r
  cases (show T = "str" from ty)
  exact ⟨typeIs_str s z t,fun _ e=>nomatch e⟩
 | int i=>
  obtain ⟨t,rfl⟩:=r
  cases (show T = "int" from ty)
  exact ⟨typeIs_int s i t,fun _ e=>nomatch e⟩
 | ref p=>
  cases r
  rcases ty with ⟨rfl,xs,hq⟩ | ⟨rfl,o,hk,hc,hd⟩ | ⟨rfl,hk⟩ | ⟨rfl,S,n,hk⟩
  ·obtain ⟨its,_,pl,_⟩:=I.list hq
   refine ⟨pl.isList.typeIs,fun a e=>?_⟩
   cases e
   obtain ⟨o,n,e,c,hd,_⟩:=pl
   exact ⟨o,e,hd⟩
  ·refine ⟨⟨o,I.kIn p o hk,hc⟩,fun a e=>?_⟩
   cases e
   exact ⟨o,I.kIn _ o hk,hd⟩
  ·have z:∃ o,s.heap.get? p = some o/\o.ExactDict:=by
    rcases hk with ⟨kvs,hk⟩ | ⟨kvs,hk⟩
    ·obtain ⟨_,_,_,_,o,_,_,e,ex,_⟩:=I.hok p _ hk
     exact ⟨o,e,ex⟩
    ·obtain ⟨_,_,_,_,o,_,_,e,ex,_⟩:=I.hok p _ hk
     exact ⟨o,e,ex⟩
   obtain ⟨o,e,ex⟩:=z
   refine ⟨⟨o,e,ex.1⟩,fun a e2=>?_⟩
   cases e2
   exact ⟨o,e,ex.2.1⟩
  ·obtain ⟨o,_,_,_,e,ex,_⟩:=I.hok p _ hk
   refine ⟨⟨o,e,ex.1⟩,fun a e2=>?_⟩
   cases e2
   exact ⟨o,e,ex.2.1⟩
 | _=>exact False.elim ty
def tBM (K:PySem.W.Frag) (T:String) (r:V->List V->Hp->VK->Prop) (to:TE) (t:TA):TE:=fun σ H Q=>to σ H fun x H1=>tyV K T x H1/\t σ H1 fun xs H2=>r x xs H2 Q
variable {o e:Expr} {es:List Expr} {to:TE} {t:TA} {name:Str} {apos cpos:Pos} {T id:String} {r:V->List V->Hp->VK->Prop}
theorem pe_bm (pa:PlainAttrs T) (slot:Slot T name id) (hty:typeOf (.builtin id) = pure (.type "method_descriptor")) (hm:MtR X id r) (ho:PE X o to) (ha:PA X (e :: es) t)
  (hbase:attributeBase o name X.env (eval o X.env) = eval o X.env:=by rfl)
  (hfew:((backTo cpos (starEach (e :: es) X.env)).all (fun x=>!x.1) && (backToKw cpos (keywordEach [] X.env)).all (fun x=>x.1.isSome)
   && decide ((e :: es).length + ([]:List Keyword).length + (if ([]:List Keyword).isEmpty then 0 else 1) < 30)) = true:=by rfl)
  (hline:(apos.endLine == cpos.line) = true:=by rfl) (hs:starEach (e :: es) X.env = (false,eval e X.env) :: starEach es X.env:=by rfl) (hplain:(backTo cpos (starEach es X.env)).any (·.1) = false:=by rfl) :
  PE X (.Call (.Attribute o name apos) (e :: es) [] cpos) (tBM X.K T r to t):=by
 intro pins s σ H Q I h
 refine wpAny_Call_method_late hbase hfew hline rfl (thn (ho pins s σ H _ I h) fun v s1 ⟨x,H1,I1,r1,ty,q1⟩=>?_)
 obtain ⟨h1,h2⟩:=tyV_is I1 r1 ty
 refine ⟨T,id,pa,slot,hty,h1,h2,?_⟩
 have hA:=ha cpos pins s1 σ H1 _ I1 q1
 rw [hs] at hA ⊢
 refine Calls.callWith_builtin (by show (false || (backTo cpos (starEach es X.env)).any (·.1)) = false;rw [hplain] <;> rfl) (Calls.evalArgs_plain ?_)
 exact thn hA fun us s2 ⟨vs,H2,I2,r2,q2⟩=>hm pins s2 σ H2 x vs v us Q I2 r1 r2 q2
end
end L2
namespace L2
open PySem PySem.Spec PyProof.Rows
def MtM (X:Cx) (id:String) (r:V->List V->Hp->VK->Prop):Prop:=
 ∀ (pins:List (Addr × Obj)) (s:Shared) (σ:St) (H:Hp) (x:V) (xs:List V) (v:Value) (us:List Value) (Q:VK),Inv X pins σ H s->RelV x v->Vals xs us->r x xs H Q →
  wpAny (model X.prog X.w) X.A (call (.builtin id) (v :: us)) (EP X pins σ Q) X.xe s
theorem Vals.one:∀ {x:V} {us:List Value},Vals [x] us->∃ u,us = [u]/\RelV x u
 | _,_,.cons r .nil=>⟨_,rfl,r⟩
section
variable {X:Cx} {pins:List (Addr × Obj)} {σ:St} {H:Hp} {s:Shared} {l b:Addr} {xs ys zs:List V}
theorem Inv.lset {its its':List Value} {n:Nat} {f:Array Value->Array Value} {t':Nat} (I:Inv X pins σ H s) (hH:H l = some (.lst xs))
  (e:s.heap.get? l = some { cls:=.type "list",data:=.seq its.toArray n }) (hf:f its.toArray = its'.toArray) (hv:Vals ys its') (hz:ys.length ≤ sizeLine) :
  Inv X pins σ (upd H l (.lst ys)) { s with heap:=s.heap.update l (Obj.mapSeq f),toks:=t' }:=by
 have q:=PySem.IsL.update e f
 rw [hf] at q
 refine I.write (x:=l) (e:=l) (by rw [hH];exact trivial) (.inl rfl) (fun b' u hb hu=>(Heap.get?_update_other s.heap (Obj.mapSeq f) (Ne.symm hb)).trans hu) ⟨_,q⟩ ?_
 exact ⟨hz,its',_,hv,q⟩
theorem Inv.lnew {its:List Value} {t':Nat} (I:Inv X pins σ H s) (hv:Vals ys its) (hz:ys.length ≤ sizeLine) :
  Inv X pins σ (upd H s.heap.objs.size (.lst ys)) { s with heap:=s.heap.push { cls:=.type "list",data:=.seq its.toArray },toks:=t' }:=
 I.laid (fun _ _ q=>Heap.get?_push_of_some _ q) (Nat.le_refl _) ⟨hz,its,0,hv,Heap.get?_push_size _ rfl⟩
theorem Inv.fresh (I:Inv X pins σ H s):H s.heap.objs.size = none:=I.hok.fresh (Nat.le_refl _)
theorem Inv.lstM (I:Inv X pins σ H s) (hH:H l = some (.lst xs)):xs.length ≤ sizeLine/\∃ (its:List Value) (n:Nat),Vals xs its/\xs.length = its.length/\s.heap.get? l = some { cls:=.type "list",data:=.seq its.toArray n }:=by
 obtain ⟨z,its,n,r,e⟩:=I.hok l _ hH
 exact ⟨z,its,n,r,r.length,e⟩
theorem notLongL {n:Nat} (h:n ≤ sizeLine):Builtin.List.listTooLong n = false:=by
 unfold Builtin.List.listTooLong
 exact decide_eq_false (by omega)
end
section
variable {X:Cx}
def rAppend:V->List V->Hp->VK->Prop:=fun x vs H Q=>∃ l xs y,x = .ref l/\vs = [y]/\H l = some (.lst xs)/\xs.length < sizeLine/\Q .non (upd H l (.lst (xs ++ [y])))
theorem mt_append:MtM X "list.append" rAppend:=by
 intro pins s σ H x vs v us Q I rx rv h
 obtain ⟨l,xs,y,rfl,rfl,hH,hz,q⟩:=h
 cases rx
 obtain ⟨u,rfl,ru⟩:=rv.one
 obtain ⟨z,its,n,r,hl,e⟩:=I.lstM hH
 refine call_meets F.slot_list_append ⟨_,e,rfl⟩ F.entry_list_append (F.args_list_append_2 _ _) (PySem.list_append l its.toArray n u (by rw [List.size_toArray];omega)) ⟨e,?_⟩
 refine ⟨.non,_,I.lset (its':=its ++ [u]) hH e (by simp) (r.append (.cons ru .nil)) ?_,rfl,q⟩
 rw [List.length_append,List.length_singleton]
 omega
def rExtend:V->List V->Hp->VK->Prop:=fun x vs H Q=>∃ l b xs zs,x = .ref l/\vs = [.ref b]/\H l = some (.lst xs)/\H b = some (.lst zs)/\xs.length + zs.length ≤ sizeLine/\Q .non (upd H l (.lst (xs ++ zs)))
theorem mt_extend:MtM X "list.extend" rExtend:=by
 intro pins s σ H x vs v us Q I rx rv h
 obtain ⟨l,b,xs,zs,rfl,rfl,hH,hB,hz,q⟩:=h
 cases rx
 obtain ⟨u,rfl,ru⟩:=rv.one
 cases ru
 obtain ⟨z,its,n,r,hl,e⟩:=I.lstM hH
 obtain ⟨z2,its2,n2,r2,hl2,e2⟩:=I.lstM hB
 have hsz:its.toArray.size + its2.toArray.size ≤ sizeLine:=by rw [List.size_toArray,List.size_toArray];omega
 have hlong:¬ (!its.toArray.isEmpty && Builtin.List.listTooLong (its.toArray.size + its2.toArray.size)) = true:=by
  rw [notLongL hsz,Bool.and_false]
  exact Bool.false_ne_true
 refine call_meets F.slot_list_extend ⟨_,e,rfl⟩ F.entry_list_extend (F.args_list_extend_2 _ _)
  (AutoSeq1.list_extend_list_list_0 l its.toArray n b its2.toArray n2 hlong (by rw [List.size_toArray];omega) (by omega)) ⟨e,e2,?_⟩
 refine ⟨.non,_,I.lset (its':=its ++ its2) hH e (by simp) (r.append r2) ?_,rfl,q⟩
 rw [List.length_append]
 omega
def rCat:R2:=fun x y H Q=>∃ l b xs zs,x = .ref l/\y = .ref b/\H l = some (.lst xs)/\H b = some (.lst zs)/\xs.length + zs.length ≤ sizeLine/\∀ p,H p = none->Q (.ref p) (upd H p (.lst (xs ++ zs)))
theorem op_cat:OpR X (binaryOp .Add) rCat:=by
 intro pins s σ H x y v u Q I rx ry h
 obtain ⟨l,b,xs,zs,rfl,rfl,hH,hB,hz,q⟩:=h
 cases rx
 cases ry
 obtain ⟨z,its,n,r,hl,e⟩:=I.lstM hH
 obtain ⟨z2,its2,n2,r2,hl2,e2⟩:=I.lstM hB
 refine PySem.P.add_list e e2 ?_ (by rw [List.size_toArray,List.size_toArray];omega)
 have ea:its.toArray ++ its2.toArray = (its ++ its2).toArray:=by simp
 rw [ea]
 exact ⟨.ref _,_,I.lnew (t':=s.toks) (r.append r2) (by rw [List.length_append];omega),rfl,q _ I.fresh⟩
end
section
variable {prog:Program} {w:World} {A:Around} {E:Value->Shared->Prop} {s:Shared}
set_option maxRecDepth 100000 in
end
section
variable {X:Cx}
end
end L2
namespace L2
open PySem PySem.Spec PyProof.Rows
section
variable {κ:Type} [DecidableEq κ]
def valV (kvs:List (κ × V)) (k:κ):Option V:=(kvs.find? fun kv=>decide (kv.1 = k)).map (·.2)
def putK (kvs:List (κ × V)) (k:κ) (v:V):List (κ × V):=
 if (kvs.any fun kv=>decide (kv.1 = k)) = true then kvs.map (fun kv=>if kv.1 = k then (kv.1,v) else kv) else kvs ++ [(k,v)]
def dropK (kvs:List (κ × V)) (k:κ):List (κ × V):=kvs.filter fun kv=>decide (kv.1 ≠ k)
theorem valV_pos {p:κ × V} {r:List (κ × V)} {k:κ} (e:p.1 = k):valV (p :: r) k = some p.2:=by simp [valV,List.find?_cons,e]
theorem valV_neg {p:κ × V} {r:List (κ × V)} {k:κ} (e:¬ p.1 = k):valV (p :: r) k = valV r k:=by simp [valV,List.find?_cons,e]
theorem valV_any (k:κ):∀ kvs:List (κ × V),(kvs.any fun kv=>decide (kv.1 = k)) = (valV kvs k).isSome
 | []=>rfl
 | p :: r=>by
  rw [List.any_cons]
  by_cases e:p.1 = k
  ·simp only [valV_pos e,decide_eq_true e,Bool.true_or,Option.isSome_some]
  ·rw [valV_neg e,decide_eq_false e,Bool.false_or];exact valV_any k r
theorem length_putK (kvs:List (κ × V)) (k:κ) (v:V):(putK kvs k v).length ≤ kvs.length + 1:=by
 unfold putK
 split
 ·rw [List.length_map];omega
 ·rw [List.length_append,List.length_cons,List.length_nil];omega
theorem putK_new {kvs:List (κ × V)} {k:κ} (v:V) (h:valV kvs k = none):putK kvs k v = kvs ++ [(k,v)]:=by
 unfold putK
 rw [valV_any,h]
 exact if_neg (by decide)
theorem RelO.isSome_eq {o:Option V} {u:Option Value} (r:RelO o u):o.isSome = u.isSome:=by
 cases o with
 | none=>cases u with
  | none=>rfl
  | some _=>exact (show False from r).elim
 | some _=>cases u with
  | none=>exact (show False from r).elim
  | some _=>rfl
theorem KV.val {kvs:List (κ × V)} {vs:List (κ × Value)} (r:KV kvs vs) (k:κ):RelO (valV kvs k) (valueAt vs k):=by
 unfold KV at r
 induction r with
 | nil=>exact True.intro
 | @cons p q ps qs h t ih=>
  obtain ⟨h1,h2⟩:=h
  by_cases e:p.1 = k
  ·have e':q.1 = k:=h1.symm.trans e
   have b:valueAt (q :: qs) k = some q.2:=by simp [valueAt,List.find?_cons,e']
   rw [valV_pos e,b];exact h2
  ·have e':¬ q.1 = k:=fun z=>e (h1.trans z)
   have b:valueAt (q :: qs) k = valueAt qs k:=by simp [valueAt,List.find?_cons,e']
   rw [valV_neg e,b];exact ih
theorem KV.any {kvs:List (κ × V)} {vs:List (κ × Value)} (r:KV kvs vs) (k:κ):(kvs.any fun kv=>decide (kv.1 = k)) = vs.any fun kv=>decide (kv.1 = k):=by
 unfold KV at r
 induction r with
 | nil=>rfl
 | cons h t ih=>rw [List.any_cons,List.any_cons,ih,h.1]
theorem KV.repl {kvs:List (κ × V)} {vs:List (κ × Value)} (r:KV kvs vs) (k:κ) {y:V} {u:Value} (ry:RelV y u) :
  KV (kvs.map fun kv=>if kv.1 = k then (kv.1,y) else kv) (vs.map fun kv=>if kv.1 = k then (kv.1,u) else kv):=by
 unfold KV at r ⊢
 induction r with
 | nil=>exact .nil
 | @cons p q ps qs h t ih=>
  rw [List.map_cons,List.map_cons]
  refine .cons ?_ ih
  obtain ⟨h1,h2⟩:=h
  by_cases e:p.1 = k
  ·rw [if_pos e,if_pos (h1.symm.trans e)];exact ⟨h1,ry⟩
  ·rw [if_neg e,if_neg (fun z=>e (h1.trans z))];exact ⟨h1,h2⟩
theorem KV.put {kvs:List (κ × V)} {vs:List (κ × Value)} (r:KV kvs vs) (k:κ) {y:V} {u:Value} (ry:RelV y u):KV (putK kvs k y) (stored vs k u):=by
 unfold putK stored
 rw [r.any k]
 by_cases e:(vs.any fun kv=>decide (kv.1 = k)) = true
 ·rw [if_pos e,if_pos e];exact r.repl k ry
 ·rw [if_neg e,if_neg e];exact Paired.snoc r ⟨rfl,ry⟩
theorem KV.drop {kvs:List (κ × V)} {vs:List (κ × Value)} (r:KV kvs vs) (k:κ):KV (dropK kvs k) (without vs k):=by
 unfold KV at r ⊢
 unfold dropK without
 induction r with
 | nil=>exact .nil
 | @cons p q ps qs h t ih=>
  obtain ⟨h1,h2⟩:=h
  rw [List.filter_cons,List.filter_cons]
  by_cases e:p.1 = k
  ·have a:¬ decide (p.1 ≠ k) = true:=by simp [e]
   have b:¬ decide (q.1 ≠ k) = true:=by simp [h1.symm.trans e]
   rw [if_neg a,if_neg b];exact ih
  ·have e':¬ q.1 = k:=fun z=>e (h1.trans z)
   have a:decide (p.1 ≠ k) = true:=by simp [e]
   have b:decide (q.1 ≠ k) = true:=by simp [e']
   rw [if_pos a,if_pos b];exact .cons ⟨h1,h2⟩ ih
theorem KV.keys {kvs:List (κ × V)} {vs:List (κ × Value)} (r:KV kvs vs):kvs.map (·.1) = vs.map (·.1):=by
 unfold KV at r
 induction r with
 | nil=>rfl
 | cons h t ih=>rw [List.map_cons,List.map_cons,ih,h.1]
theorem KV.length {kvs:List (κ × V)} {vs:List (κ × Value)} (r:KV kvs vs):kvs.length = vs.length:=Paired.length r
theorem dropK_le (kvs:List (κ × V)) (k:κ):(dropK kvs k).length ≤ kvs.length:=List.length_filter_le _ _
end
theorem kV_is {P:Program} {w:World} {k:Key} {u:Value} (r:RelV (kV k) u):(mixKind P w).is k u = true:=by
 cases k with
 | inl i=>obtain ⟨t,e⟩:=(show ∃ t,u = Value.int i t from r);subst e;exact mixKind_int P w i t
 | inr x=>obtain ⟨t,e⟩:=(show ∃ t,u = Value.str x t from r);subst e;exact mixKind_str P w x t
theorem items_are {P:Program} {w:World}:∀ {ks:List Key} {us:List Value},Vals (ks.map kV) us->ItemsAre (mixKind P w) ks us
 | [],_,r=>by rw [List.map_nil] at r;cases r;exact .nil
 | k :: ks,_,r=>by
  rw [List.map_cons] at r
  cases r with
  | cons h t=>exact .cons (kV_is h) (items_are t)
abbrev KT (H:Hp):List (List Key × V)->List (List Key × Addr × Value)->Prop:=Paired fun p q=>p.1 = q.1/\H q.2.1 = some (.tup (p.1.map kV))/\RelV p.2 q.2.2
theorem KT.val {H:Hp} {kvs:List (List Key × V)} {xs:List (List Key × Addr × Value)} (r:KT H kvs xs) (k:List Key):RelO (valV kvs k) ((atKey xs k).map (·.2)):=by
 induction r with
 | nil=>exact True.intro
 | @cons p q ps qs h t ih=>
  obtain ⟨h1,_,h2⟩:=h
  by_cases e:p.1 = k
  ·have e':q.1 = k:=h1.symm.trans e
   have b:atKey (q :: qs) k = some q.2:=by simp [atKey,List.find?_cons,e']
   rw [valV_pos e,b];exact h2
  ·have e':¬ q.1 = k:=fun z=>e (h1.trans z)
   have b:atKey (q :: qs) k = atKey qs k:=by simp [atKey,List.find?_cons,e']
   rw [valV_neg e,b];exact ih
theorem KT.repl {H:Hp} {kvs:List (List Key × V)} {xs:List (List Key × Addr × Value)} (r:KT H kvs xs) (k:List Key) {y:V} {u:Value} (ry:RelV y u) :
  KT H (kvs.map fun kv=>if kv.1 = k then (kv.1,y) else kv) (xs.map (putAt k u)):=by
 induction r with
 | nil=>exact .nil
 | @cons p q ps qs h t ih=>
  rw [List.map_cons,List.map_cons]
  refine .cons ?_ ih
  obtain ⟨h1,h2,h3⟩:=h
  unfold putAt
  by_cases e:p.1 = k
  ·rw [if_pos e,if_pos (h1.symm.trans e)];exact ⟨h1,h2,ry⟩
  ·rw [if_neg e,if_neg (fun z=>e (h1.trans z))];exact ⟨h1,h2,h3⟩
theorem KT.put {H:Hp} {kvs:List (List Key × V)} {xs:List (List Key × Addr × Value)} (r:KT H kvs xs) (k:List Key) {b:Addr} {y:V} {u:Value} (hb:H b = some (.tup (k.map kV))) (ry:RelV y u) :
  KT H (putK kvs k y) (storedH xs k b u):=by
 have e:(kvs.any fun kv=>decide (kv.1 = k)) = (atKey xs k).isSome:=by
  rw [valV_any,(r.val k).isSome_eq,Option.isSome_map]
 unfold putK storedH
 rw [e]
 by_cases q:(atKey xs k).isSome = true
 ·rw [if_pos q,if_pos q];exact r.repl k ry
 ·rw [if_neg q,if_neg q];exact Paired.snoc r ⟨rfl,hb,ry⟩
theorem KT.keeps {H H':Hp} {kvs:List (List Key × V)} {xs:List (List Key × Addr × Value)} (r:KT H kvs xs) (ht:∀ b ys,H b = some (.tup ys)->H' b = some (.tup ys)):KT H' kvs xs:=
 Paired.mapP r fun _ _ z=>⟨z.1,ht _ _ z.2.1,z.2.2⟩
section
variable {P:Program} {w:World} {H:Hp} {h:Heap} {a:Addr}
theorem rd_of {u:HO} (ok:HOk P w H h) (e:Rd H a u):ObjOk P w H h a u:=e.ok ok
theorem dk_rd {kvs:List (Key × V)} (ok:HOk P w H h) (e:Rd H a (.dK kvs)):kvs.length ≤ sizeLine/\(a == sysModules) = false/\∃ vs,KV kvs vs/\h.DictOf (mixKind P w) a vs:=
 show ObjOk P w H h a (.dK kvs) from rd_of ok e
theorem dk_of {kvs:List (Key × V)} (ok:HOk P w H h) (e:H a = some (.dK kvs)):kvs.length ≤ sizeLine/\(a == sysModules) = false/\∃ vs,KV kvs vs/\h.DictOf (mixKind P w) a vs:=dk_rd ok (.inl e)
theorem key_of {ks:List Key} (ok:HOk P w H h) (e:H a = some (.tup (ks.map kV))):(tupleKind (mixKind P w)).is h ks a:=by
 obtain ⟨_,its,r,o,h1,h2,n,h3⟩:=(show ObjOk P w H h a (.tup (ks.map kV)) from ok a _ e)
 exact ⟨o,its.toArray,n,h1,h2,h3,by simpa using items_are r⟩
theorem dt_rd {kvs:List (List Key × V)} (ok:HOk P w H h) (e:Rd H a (.dT kvs)):kvs.length ≤ sizeLine/\(a == sysModules) = false ∧
  ∃ xs,KT H kvs xs/\h.DictOfH (tupleKind (mixKind P w)) a xs:=by
 obtain ⟨z,y,xs,r,o,es,ep,h1,h2,h3,h4,h5⟩:=(show ObjOk P w H h a (.dT kvs) from rd_of ok e)
 refine ⟨z,y,xs,r,o,es,ep,h1,h2,h3,h4,fun x hx=>?_,h5⟩
 have all:∀ {l:List (List Key × V)} {m:List (List Key × Addr × Value)},KT H l m->∀ x ∈ m,(tupleKind (mixKind P w)).is h x.1 x.2.1:=by
  intro l m q
  induction q with
  | nil=>intro x hx;exact nomatch hx
  | @cons p q ps qs hq t ih=>
   intro x hx
   rcases List.mem_cons.mp hx with e | hx
   ·subst e
    exact key_of ok (by rw [← hq.1];exact hq.2.1)
   ·exact ih x hx
 exact all r x hx
theorem dt_of {kvs:List (List Key × V)} (ok:HOk P w H h) (e:H a = some (.dT kvs)):kvs.length ≤ sizeLine/\(a == sysModules) = false ∧
  ∃ xs,KT H kvs xs/\h.DictOfH (tupleKind (mixKind P w)) a xs:=dt_rd ok (.inl e)
end
def DGet (H:Hp) (a:Addr) (y:V) (r:Option V):Prop:=
 (∃ kvs k,Rd H a (.dK kvs)/\y = kV k/\r = valV kvs k)\/∃ kvs k b,Rd H a (.dT kvs)/\y = .ref b/\H b = some (.tup (k.map kV))/\r = valV kvs k
def DPut (H:Hp) (a:Addr) (y v:V) (H':Hp):Prop:=
 (∃ kvs k,H a = some (.dK kvs)/\y = kV k/\kvs.length < sizeLine/\H' = upd H a (.dK (putK kvs k v))) ∨
 ∃ kvs k b,H a = some (.dT kvs)/\y = .ref b/\H b = some (.tup (k.map kV))/\kvs.length < sizeLine/\H' = upd H a (.dT (putK kvs k v))
section
variable {X:Cx} {pins:List (Addr × Obj)} {σ:St} {H:Hp} {s:Shared} {a:Addr} {y v:V} {u r:Value} {o:Option V} {A:Around} {E:Value->Shared->Prop}
theorem Inv.big (I:Inv X pins σ H s):sysModules < s.heap.objs.size:=by
 have h:mainGlobals < s.heap.objs.size:=(I.mod.glob.keeps I.bk).lt
 exact Nat.lt_trans (by decide) h
theorem d_getItem {Q:Value->Shared->Prop} (hu:A.units + 1 < cLine) (I:Inv X pins σ H s) (g:DGet H a y (some v)) (ry:RelV y u) (h:∀ w' s',Inv X pins σ H s'->RelV v w'->Q w' s') :
  wpAny (model X.prog X.w) A (getItem (.ref a) u) Q E s:=by
 rcases g with ⟨kvs,k,e,ey,l⟩ | ⟨kvs,k,b,e,ey,eb,l⟩
 ·subst ey
  obtain ⟨z,hd,vs,rel,dd⟩:=dk_rd I.hok e
  obtain ⟨w',hw,rw'⟩:=RelO.some_of (v:=v) (o:=valueAt vs k) (by rw [l];exact rel.val k)
  exact wpAny_getItem_of (kV_is ry) dd.mapOf hw (h w' _ (I.tok _) rw')
 ·subst ey
  cases (show u = Value.ref b from ry)
  obtain ⟨z,hd,xs,rel,dd⟩:=dt_rd I.hok e
  obtain ⟨w',hw,rw'⟩:=RelO.some_of (v:=v) (o:=(atKey xs k).map (·.2)) (by rw [l];exact rel.val k)
  obtain ⟨p,hp,hp2⟩:=Option.map_eq_some_iff.mp hw
  refine wpAny_getItem_heap (tupleKind_room_in1 hu) (key_of I.hok eb) dd hp ?_
  rw [hp2]
  exact h w' _ (I.tok _) rw'
theorem d_in {Q:Value->Shared->Prop} (hu:A.units + 1 < cLine) (I:Inv X pins σ H s) (g:DGet H a y o) (ry:RelV y u) (h:∀ s',Inv X pins σ H s'->Q (.bool o.isSome) s') :
  wpAny (model X.prog X.w) A (compareOp .In u (.ref a)) Q E s:=by
 rcases g with ⟨kvs,k,e,ey,l⟩ | ⟨kvs,k,b,e,ey,eb,l⟩
 ·subst ey
  obtain ⟨z,hd,vs,rel,dd⟩:=dk_rd I.hok e
  refine wpAny_in_of (kV_is ry) hd dd.mapOf ?_
  rw [← (rel.val k).isSome_eq,← l]
  exact h _ (I.tok _)
 ·subst ey
  cases (show u = Value.ref b from ry)
  obtain ⟨z,hd,xs,rel,dd⟩:=dt_rd I.hok e
  refine wpAny_in_heap (tupleKind_room_in1 hu) (key_of I.hok eb) hd dd ?_
  have q:=(rel.val k).isSome_eq
  rw [Option.isSome_map] at q
  rw [← q,← l]
  exact h _ (I.tok _)
theorem d_notIn {Q:Value->Shared->Prop} (hu:A.units + 1 < cLine) (I:Inv X pins σ H s) (g:DGet H a y o) (ry:RelV y u) (h:∀ s',Inv X pins σ H s'->Q (.bool (!o.isSome)) s') :
  wpAny (model X.prog X.w) A (compareOp .NotIn u (.ref a)) Q E s:=by
 rcases g with ⟨kvs,k,e,ey,l⟩ | ⟨kvs,k,b,e,ey,eb,l⟩
 ·subst ey
  obtain ⟨z,hd,vs,rel,dd⟩:=dk_rd I.hok e
  refine wpAny_notIn_of (kV_is ry) hd dd.mapOf ?_
  rw [← (rel.val k).isSome_eq,← l]
  exact h _ (I.tok _)
 ·subst ey
  cases (show u = Value.ref b from ry)
  obtain ⟨z,hd,xs,rel,dd⟩:=dt_rd I.hok e
  refine wpAny_notIn_heap (tupleKind_room_in1 hu) (key_of I.hok eb) hd dd ?_
  have q:=(rel.val k).isSome_eq
  rw [Option.isSome_map] at q
  rw [← q,← l]
  exact h _ (I.tok _)
theorem d_write {h':Heap} {t':Nat} {ob:HO} (I:Inv X pins σ H s) (mu:Mut (H a)) (hs:Heap.SameBut a s.heap h') (he:∃ q,h'.get? a = some q) (new:ObjOk X.prog X.w (upd H a ob) h' a ob) :
  Inv X pins σ (upd H a ob) { s with heap:=h',toks:=t' }:=
 I.write (x:=a) (e:=a) mu (.inl rfl) (fun b q hb z=>(hs.2 b hb).trans z) he new
theorem dk_new {P:Program} {w:World} {H':Hp} {h':Heap} {kvs:List (Key × V)} {vs:List (Key × Value)} (z:kvs.length ≤ sizeLine) (hd:(a == sysModules) = false) (rel:KV kvs vs) (dd:h'.DictOf (mixKind P w) a vs) :
  ObjOk P w H' h' a (.dK kvs):=⟨z,hd,vs,rel,dd⟩
theorem d_setItem {H':Hp} {Q:Unit->Shared->Prop} (hu:A.units + 1 < cLine) (I:Inv X pins σ H s) (g:DPut H a y v H') (ry:RelV y u) (rv:RelV v r) (h:∀ s',Inv X pins σ H' s'->Q () s') :
  wpAny (model X.prog X.w) A (setItem (.ref a) u r) Q E s:=by
 rcases g with ⟨kvs,k,e,ey,l,eH⟩ | ⟨kvs,k,b,e,ey,eb,l,eH⟩
 ·subst ey eH
  obtain ⟨z,hd,vs,rel,dd⟩:=dk_of I.hok e
  have hz:vs.length ≤ sizeLine:=by rw [← rel.length];exact z
  have hl:(putK kvs k v).length ≤ sizeLine:=by have:=length_putK kvs k v;omega
  refine wpAny_setItem_pairs (hsz:=hz) (kV_is ry) dd fun h' dd' hs=>h _ ?_
  have he:∃ q,h'.get? a = some q:=let ⟨q,_,_,hq,_⟩:=dd';⟨q,hq⟩
  exact d_write I (by rw [e];exact True.intro) hs he (dk_new hl hd (rel.put k rv) dd')
 ·subst ey eH
  cases (show u = Value.ref b from ry)
  obtain ⟨z,hd,xs,rel,dd⟩:=dt_of I.hok e
  have hz:xs.length ≤ sizeLine:=by rw [← Paired.length rel];exact z
  have hl:(putK kvs k v).length ≤ sizeLine:=by have:=length_putK kvs k v;omega
  refine wpAny_setItem_heap (hsz:=hz) (tupleKind_room_in1 hu) (key_of I.hok eb) dd fun h' dd' hs=>h _ ?_
  obtain ⟨q,es,ep,hq,h2,h3,h4,_,h5⟩:=dd'
  refine d_write I (by rw [e];exact True.intro) hs ⟨q,hq⟩ ⟨hl,hd,_,(rel.put k eb rv).keeps fun c ys ec=>?_,q,es,ep,hq,h2,h3,h4,h5⟩
  rw [upd_ne (ne_of ec e (fun z=>nomatch z))]
  exact ec
end
section
variable {X:Cx} {pins:List (Addr × Obj)} {σ:St} {H:Hp} {s:Shared} {a:Addr} {kvs:List (Key × V)} {k:Key} {u:Value} {A:Around} {E:Value->Shared->Prop}
theorem d_delItem {Q:Unit->Shared->Prop} (I:Inv X pins σ H s) (e:H a = some (.dK kvs)) (ry:RelV (kV k) u) (l:(valV kvs k).isSome = true) (h:∀ s',Inv X pins σ (upd H a (.dK (dropK kvs k))) s'->Q () s') :
  wpAny (model X.prog X.w) A (delItem (.ref a) u) Q E s:=by
 obtain ⟨z,hd,vs,rel,dd⟩:=dk_of I.hok e
 refine wpAny_delItem_slot dd.typeIs (by decide) PySem.F.slot_dict_delitem
  (call_meetsIn PySem.F.slot_dict_delitem dd.typeIs PySem.F.entry_dict_delitem (PySem.F.args_dict_delitem_2 _ _) (meets_dict_delitem_pairs (mixKind X.prog X.w) a (kV_is ry)) ⟨vs,dd,by rw [← rel.length];exact z,by rw [← (rel.val k).isSome_eq];exact l,fun h' dd' hs=>h _ ?_⟩)
 have he:∃ q,h'.get? a = some q:=let ⟨q,_,_,hq,_⟩:=dd';⟨q,hq⟩
 exact d_write I (by rw [e];exact True.intro) hs he (dk_new (Nat.le_trans (dropK_le kvs k) z) hd (rel.drop k) dd')
theorem d_pop {v:V} {more:List Value} {Q:Value->Shared->Prop} (I:Inv X pins σ H s) (e:H a = some (.dK kvs)) (ry:RelV (kV k) u) (l:valV kvs k = some v) (hm:more = []\/∃ x,more = [x])
  (h:∀ w' s',Inv X pins σ (upd H a (.dK (dropK kvs k))) s'->RelV v w'->Q w' s'):wpAny (model X.prog X.w) A (call (.builtin "dict.pop") (.ref a :: u :: more)) Q E s:=by
 obtain ⟨z,hd,vs,rel,dd⟩:=dk_of I.hok e
 obtain ⟨w',hw,rw'⟩:=RelO.some_of (v:=v) (o:=valueAt vs k) (by rw [← l];exact rel.val k)
 have hp:(keyPart u).isSome = true:=by
  cases k with
  | inl i=>obtain ⟨t,q⟩:=(show ∃ t,u = Value.int i t from ry);subst q;rfl
  | inr x=>obtain ⟨t,q⟩:=(show ∃ t,u = Value.str x t from ry);subst q;rfl
 have ha:argsOk "dict.pop" ⟨.ref a :: u :: more,[]⟩:=by
  rcases hm with q | ⟨x,q⟩
  ·subst q;exact PySem.F.args_dict_pop_2 _ _
  ·subst q;exact PySem.F.args_dict_pop_3 _ _ _
 refine call_meetsIn PySem.F.slot_dict_pop dd.typeIs PySem.F.entry_dict_pop ha (meets_dict_pop_there (mixKind X.prog X.w) a (kV_is ry) more hm hp)
  ⟨vs,w',dd,by rw [← rel.length];exact z,hw,fun h' dd' hs=>h w' _ ?_ rw'⟩
 have he:∃ q,h'.get? a = some q:=let ⟨q,_,_,hq,_⟩:=dd';⟨q,hq⟩
 exact d_write I (by rw [e];exact True.intro) hs he (dk_new (Nat.le_trans (dropK_le kvs k) z) hd (rel.drop k) dd')
theorem d_len {Q:Value->Shared->Prop} (I:Inv X pins σ H s) (e:Rd H a (.dK kvs)) (h:∀ t s',Inv X pins σ H s'->Q (.int kvs.length t) s'):wpAny (model X.prog X.w) A (call (.builtin "len") [.ref a]) Q E s:=by
 obtain ⟨z,hd,vs,rel,dd⟩:=dk_rd I.hok e
 refine call_len_dict hd dd (by rw [← rel.length];rw [sizeLine_eq] at z;omega) ?_
 rw [← rel.length]
 exact h _ _ (I.tok _)
end
def NoSl (i:Expr):Prop:=∀ ov iv,subscripted i false ov iv = operate [ov,iv] (getItem ov iv)
theorem subD_of {prog:Program} {w:World} {A:Around} {E:Value->Shared->Prop} {s:Shared} {env:Env} {value slice:Expr} {pos:Pos} {T id:String} {Q:Value->Shared->Prop}
  (hl:typeLookup (.type T) "__getitem__" = pure (some (.builtin id))) (hs:NoSl slice)
  (h:wpAny (model prog w) A (eval value env) (fun o s₁=>wpAny (model prog w) A (eval slice env) (fun i s₂=>s₂.TypeIs o T/\wpAny (model prog w) A (getItem o i) Q E s₂) E s₁) E s) :
  wpAny (model prog w) A (eval (.Subscript value slice pos) env) Q E s:=by
 refine Subscript_ (wpAny_mono h (fun o s₁ h₁=>wpAny_mono h₁ (fun i s₂ h₂=>?_) fun _ _ x=>x) fun _ _ x=>x)
 obtain ⟨hT,h₂⟩:=h₂
 unfold subscriptTail
 refine wpAny_bind ?_
 rw [getitemInPython_of_ne hT.not_modules]
 refine wpAny_bind (wpAny_specialOf hT hl ?_)
 have fin:wpAny (model prog w) A (subscripted slice false o i) (fun r s₃=>wpAny (model prog w) A (letTemporaryGo value o r >>= fun _=>pure r) Q E s₃) E s₂:=by
  rw [hs o i]
  exact wpAny_operating (wpAny_mono h₂ (fun r s₃ h₃=>wpAny_bind (wpAny_letTemporaryGo (wpAny_pure h₃))) fun _ _ x=>x)
 first
  | exact wpAny_pure (wpAny_bind fin)
  | exact wpAny_bind (wpAny_pure (wpAny_bind fin))
  | exact wpAny_bind fin
theorem dict_typeIs {X:Cx} {pins:List (Addr × Obj)} {σ:St} {H:Hp} {s:Shared} {a:Addr} {y:V} {o:Option V} (I:Inv X pins σ H s) (g:DGet H a y o):s.TypeIs (.ref a) "dict":=by
 rcases g with ⟨kvs,k,e,_,_⟩ | ⟨kvs,k,b,e,_,_,_⟩
 ·obtain ⟨_,_,vs,_,dd⟩:=dk_rd I.hok e
  exact dd.typeIs
 ·obtain ⟨_,_,xs,_,dd⟩:=dt_rd I.hok e
  exact dd.typeIs
def tDGet (td ty:TE):TE:=fun σ H Q=>td σ H fun x H1=>ty σ H1 fun y H2=>∃ a v,x = .ref a/\DGet H2 a y (some v)/\Q v H2
def tDIn (ty td:TE):TE:=fun σ H Q=>ty σ H fun y H1=>td σ H1 fun x H2=>∃ a o,x = .ref a/\DGet H2 a y o/\Q (.bl o.isSome) H2
def tDNotIn (ty td:TE):TE:=fun σ H Q=>ty σ H fun y H1=>td σ H1 fun x H2=>∃ a o,x = .ref a/\DGet H2 a y o/\Q (.bl (!o.isSome)) H2
def sDPut (td ty tv:TE):TS:=fun D σ H=>tv σ H fun v H1=>td σ H1 fun x H2=>ty σ H2 fun y H3=>∃ a H4,x = .ref a/\DPut H3 a y v H4/\D.nx σ H4
section
variable {X:Cx} {o i e value:Expr} {pos pos' tpos:Pos} {td ty tv:TE}
theorem pe_dget (hu:X.A.units + 1 < cLine) (ho:PE X o td) (hi:PE X i ty) (hs:NoSl i):PE X (.Subscript o i pos) (tDGet td ty):=by
 intro pins s σ H Q I h
 refine subD_of PySem.F.slot_dict_getitem.lookup hs (thn (ho pins s σ H _ I h) fun u s1 ⟨x,H1,I1,rx,q1⟩=>thn (hi pins s1 σ H1 _ I1 q1) fun iv s2 ⟨y,H2,I2,ry,a,v,ex,g,q2⟩=>?_)
 subst ex
 obtain rfl:u = Value.ref a:=rx
 exact ⟨dict_typeIs I2 g,d_getItem hu I2 g ry fun w' s3 I3 rw'=>⟨v,H2,I3,rw',q2⟩⟩
theorem pc_din (hu:X.A.units + 1 < cLine) (hi:PE X i ty) (ho:PE X o td):PC X .In i o (tDIn ty td):=by
 intro pins s σ H Q I h
 refine thn (hi pins s σ H _ I h) fun iv s1 ⟨y,H1,I1,ry,q1⟩=>thn (ho pins s1 σ H1 _ I1 q1) fun u s2 ⟨x,H2,I2,rx,a,ov,ex,g,q2⟩=>?_
 subst ex
 obtain rfl:u = Value.ref a:=rx
 exact d_in hu I2 g ry fun s3 I3=>⟨.bl ov.isSome,H2,I3,rfl,q2⟩
theorem pc_dnotin (hu:X.A.units + 1 < cLine) (hi:PE X i ty) (ho:PE X o td):PC X .NotIn i o (tDNotIn ty td):=by
 intro pins s σ H Q I h
 refine thn (hi pins s σ H _ I h) fun iv s1 ⟨y,H1,I1,ry,q1⟩=>thn (ho pins s1 σ H1 _ I1 q1) fun u s2 ⟨x,H2,I2,rx,a,ov,ex,g,q2⟩=>?_
 subst ex
 obtain rfl:u = Value.ref a:=rx
 exact d_notIn hu I2 g ry fun s3 I3=>⟨.bl (!ov.isSome),H2,I3,rfl,q2⟩
theorem ps_dput (hu:X.A.units + 1 < cLine) (ho:PE X o td) (hi:PE X i ty) (hv:PE X value tv) (hs:swapsWith value (some (.Subscript o i pos')) pos.line X.env = pure false) :
  PS X (.Assign [.Subscript o i pos'] value pos) (sDPut td ty tv):=by
 intro pins s σ H D I h
 refine wpAny_Assign_Subscript (thn (hv pins s σ H _ I h) fun r s1 ⟨v,H1,I1,rv,q1⟩=>thn (ho pins s1 σ H1 _ I1 q1) fun u s2 ⟨x,H2,I2,rx,q2⟩=>thn (hi pins s2 σ H2 _ I2 q2) fun iv s3 ⟨y,H3,I3,ry,a,H4,ex,g,q3⟩=>?_) hs
 subst ex
 obtain rfl:u = Value.ref a:=rx
 exact d_setItem hu I3 g ry rv fun s4 I4=>⟨σ,H4,I4,q3⟩
end
theorem dk_empty {P:Program} {w:World} {H:Hp} (h:Heap) (hb:sysModules < h.objs.size):ObjOk P w H (h.push { cls:=.type "dict",data:=.dict #[] }) h.objs.size (.dK []):=
 ⟨Nat.zero_le _,beq_eq_false_iff_ne.mpr (Ne.symm (Nat.ne_of_lt hb)),[],.nil,Heap.DictOf.new h⟩
def tDNewK:TE:=fun _ H Q=>∀ p,H p = none->Q (.ref p) (upd H p (.dK []))
section
variable {X:Cx} {pos:Pos}
theorem pe_dnewK:PE X (.Dict [] [] pos) tDNewK:=fun pins s σ H Q I h=>
 wpAny_Dict_empty ⟨.ref s.heap.objs.size,_,I.laid (a:=s.heap.objs.size) (o:=.dK []) (t':=s.toks) (fun _ _ q=>Heap.get?_push_of_some _ q) (Nat.le_refl _) (dk_empty s.heap I.big),rfl,h _ (I.hok.fresh (Nat.le_refl _))⟩
end
def tPairs:List (TE × TE)->St->Hp->(List (V × V)->Hp->Prop)->Prop
 | [],_,H,Q=>Q [] H
 | (tk,tv) :: r,σ,H,Q=>tk σ H fun x H1=>tv σ H1 fun y H2=>tPairs r σ H2 fun ps H3=>Q ((x,y) :: ps) H3
abbrev VV:List (V × V)->List (Value × Value)->Prop:=Paired fun p q=>RelV p.1 q.1/\RelV p.2 q.2
def PPs (X:Cx) (pos:Pos) (keys:List (Option Expr)) (values:List Expr) (trs:List (TE × TE)):Prop:=
 ∀ (pins:List (Addr × Obj)) (s:Shared) (σ:St) (H:Hp) (Q:List (V × V)->Hp->Prop),Inv X pins σ H s->tPairs trs σ H Q →
  wpAny (model X.prog X.w) X.A (evalPairs (pairTrees keys values X.env pos)) (fun vs s'=>∃ ps H',Inv X pins σ H' s'/\VV ps vs/\Q ps H') X.xe s
theorem pps_nil {X:Cx} {pos:Pos}:PPs X pos [] [] []:=fun pins s σ H Q I h=>pairTrees_nil_walk ⟨[],H,I,.nil,h⟩
theorem pps_cons {X:Cx} {pos:Pos} {k v:Expr} {ks:List (Option Expr)} {vs:List Expr} {tk tv:TE} {trs:List (TE × TE)} (hk:PE X k tk) (hv:PE X v tv) (hr:PPs X pos ks vs trs) :
  PPs X pos (some k :: ks) (v :: vs) ((tk,tv) :: trs):=fun pins s σ H Q I h=>
 pairTrees_cons_walk (thn (hk pins s σ H _ I h) fun u s1 ⟨x,H1,I1,rx,q1⟩=>thn (hv pins s1 σ H1 _ I1 q1) fun w2 s2 ⟨y,H2,I2,ry,q2⟩=>
  thn (hr pins s2 σ H2 _ I2 q2) fun ws s3 ⟨ps,H3,I3,rel,q3⟩=>⟨(x,y) :: ps,H3,I3,.cons ⟨rx,ry⟩ rel,q3⟩)
def mergeK (kvs more:List (Key × V)):List (Key × V):=more.foldl (fun acc kv=>putK acc kv.1 kv.2) kvs
theorem KV.merge:∀ {more:List (Key × V)} {rs:List (Key × Value)} {kvs:List (Key × V)} {vs:List (Key × Value)},KV more rs->KV kvs vs->KV (mergeK kvs more) (merged vs rs):=by
 intro more rs kvs vs r
 unfold KV at r
 induction r generalizing kvs vs with
 | nil=>intro q;exact q
 | @cons p q ps qs h t ih=>
  intro r0
  have e:KV (putK kvs p.1 p.2) (stored vs q.1 q.2):=by
   have:=r0.put p.1 h.2
   rw [← h.1];exact this
  exact ih e
theorem length_mergeK:∀ (more kvs:List (Key × V)),(mergeK kvs more).length ≤ kvs.length + more.length
 | [],kvs=>by show kvs.length ≤ kvs.length + 0;omega
 | p :: r,kvs=>by
  have h1:=length_mergeK r (putK kvs p.1 p.2)
  have h2:=length_putK kvs p.1 p.2
  show (mergeK (putK kvs p.1 p.2) r).length ≤ _
  rw [List.length_cons];omega
theorem carries_of {P:Program} {w:World}:∀ {kvs:List (Key × V)} {ws:List (Value × Value)},VV (kvs.map fun kv=>(kV kv.1,kv.2)) ws->∃ rs,Carries (mixKind P w) ws rs/\KV kvs rs
 | [],_,r=>by rw [List.map_nil] at r;cases r;exact ⟨[],True.intro,.nil⟩
 | p :: kvs,_,r=>by
  rw [List.map_cons] at r
  cases r with
  | @cons a b as bs h t=>
   obtain ⟨rs,c,q⟩:=carries_of (P:=P) (w:=w) t
   obtain ⟨b1,b2⟩:=b
   exact ⟨(p.1,b2) :: rs,⟨kV_is h.1,rfl,c⟩,.cons ⟨rfl,h.2⟩ q⟩
def tDisp (trs:List (TE × TE)):TE:=fun σ H Q=>∀ p,H p = none->tPairs trs σ (upd H p (.dK [])) fun ps H2=>H2 p = some (.dK [])/\∃ kvs:List (Key × V),ps = kvs.map (fun kv=>(kV kv.1,kv.2))/\kvs.length ≤ 15/\Q (.ref p) (upd H2 p (.dK (mergeK [] kvs)))
theorem pe_disp {X:Cx} {pos:Pos} {keys:List (Option Expr)} {values:List Expr} {trs:List (TE × TE)} (h:PPs X pos keys values trs) (hall:keys.all (·.isSome) = true) (hl:keys.length = values.length) (h0:keys ≠ [])
  (h15:keys.length ≤ 15):PE X (.Dict keys values pos) (tDisp trs):=by
 intro pins s σ H Q I q
 have hn:=I.hok.fresh (Nat.le_refl s.heap.objs.size)
 have I1:=I.laid (a:=s.heap.objs.size) (o:=.dK []) (h':=s.heap.push { cls:=.type "dict",data:=.dict #[] }) (t':=s.toks) (fun _ _ q=>Heap.get?_push_of_some _ q) (Nat.le_refl _) (dk_empty s.heap I.big)
 refine wpAny_Dict_walk (knd:=mixKind X.prog X.w) hall hl h0 h15 (thn (h pins _ σ _ _ I1 (q _ hn)) fun ws s2 ⟨ps,H2,I2,rel,e,kvs,ep,lk,q2⟩=>?_)
 subst ep
 obtain ⟨rs,c,rk⟩:=carries_of (P:=X.prog) (w:=X.w) rel
 obtain ⟨z,hd,vs0,r0,dd⟩:=dk_of I2.hok e
 cases r0
 refine ⟨rs,c,dd,fun h' dd' hs=>⟨.ref s.heap.objs.size,_,?_,rfl,q2⟩⟩
 have hz:(mergeK [] kvs).length ≤ sizeLine:=by
  have h1:=length_mergeK kvs []
  rw [List.length_nil] at h1
  rw [sizeLine_eq];omega
 have he:∃ q,h'.get? s.heap.objs.size = some q:=let ⟨q,_,_,hq,_⟩:=dd';⟨q,hq⟩
 exact d_write I2 (by rw [e];exact True.intro) hs he (dk_new hz hd (rk.merge .nil) dd')
structure M1 (X:Cx) (o:Expr) (m:Str) (apos:Pos) (e:Expr) (cpos:Pos):Prop where
 base:attributeBase o m X.env (eval o X.env) = eval o X.env
 few:((backTo cpos (starEach [e] X.env)).all (fun x=>!x.1) && (backToKw cpos (keywordEach [] X.env)).all (fun x=>x.1.isSome)
  && decide (([e]:List Expr).length + ([]:List Keyword).length + (if ([]:List Keyword).isEmpty then 0 else 1) < 30)) = true
 line:(apos.endLine == cpos.line) = true
 trees:backTo cpos (starEach [e] X.env) = [(false,eval e X.env)]
def IsD (H:Hp) (a:Addr):Prop:=(∃ kvs,Rd H a (.dK kvs))\/∃ kvs,Rd H a (.dT kvs)
theorem isD_at {X:Cx} {pins:List (Addr × Obj)} {σ:St} {H:Hp} {s:Shared} {a:Addr} (I:Inv X pins σ H s) (d:IsD H a) :
  s.TypeIs (.ref a) "dict"/\(∀ b,Value.ref a = .ref b->∃ ob,s.heap.get? b = some ob/\ob.dict = none)/\(a == sysModules) = false:=by
 rcases d with ⟨kvs,e⟩ | ⟨kvs,e⟩
 ·obtain ⟨_,hd,vs,_,dd⟩:=dk_rd I.hok e
  refine ⟨dd.typeIs,fun b q=>?_,hd⟩
  cases q
  obtain ⟨ob,_,_,h1,h2,_⟩:=dd
  exact ⟨ob,h1,h2.2.1⟩
 ·obtain ⟨_,hd,xs,_,dd⟩:=dt_rd I.hok e
  refine ⟨dd.typeIs,fun b q=>?_,hd⟩
  cases q
  obtain ⟨ob,_,_,h1,h2,_⟩:=dd
  exact ⟨ob,h1,h2.2.1⟩
section
variable {X:Cx} {pins:List (Addr × Obj)} {σ:St} {H:Hp} {s:Shared} {a:Addr} {y d:V} {u r:Value} {o:Option V} {A:Around} {E:Value->Shared->Prop}
end
def tDPop1 (td ty:TE):TE:=fun σ H Q=>td σ H fun x H1=>∃ a,x = .ref a/\IsD H1 a/\ty σ H1 fun y H2=>∃ kvs k v,H2 a = some (.dK kvs)/\y = kV k/\valV kvs k = some v/\Q v (upd H2 a (.dK (dropK kvs k)))
section
variable {X:Cx} {o e f:Expr} {apos cpos:Pos} {td ty tx:TE}
theorem pe_dpop1 (ho:PE X o td) (he:PE X e ty) (m:M1 X o "pop" apos e cpos):PE X (.Call (.Attribute o "pop" apos) [e] [] cpos) (tDPop1 td ty):=by
 intro pins s σ H Q I h
 refine wpAny_Call_method m.base m.few m.line PySem.F.plainAttrs_dict PySem.F.slot_dict_pop PySem.F.type_dict_pop (thn (ho pins s σ H _ I h) fun u s1 ⟨x,H1,I1,rx,a,ex,d,q1⟩=>?_)
 subst ex
 obtain rfl:u = Value.ref a:=rx
 obtain ⟨t1,t2,_⟩:=isD_at I1 d
 refine ⟨t1,t2,?_⟩
 rw [m.trees]
 refine Calls.callWith_builtin rfl (Calls.evalArgs_plain (Calls.spliced_cons (thn (he pins s1 σ H1 _ I1 q1) fun iv s2 ⟨y,H2,I2,ry,kvs,k,v,ea,ey,l,q2⟩=>Calls.spliced_nil ?_)))
 subst ey
 exact d_pop I2 ea ry l (.inl rfl) fun w' s3 I3 rw'=>⟨v,_,I3,rw',q2⟩
end
section
variable {X:Cx} {pins:List (Addr × Obj)} {σ:St} {H:Hp} {s:Shared} {a:Addr} {kvs:List (Key × V)} {A:Around} {E:Value->Shared->Prop}
theorem d_copyOf {Q:Value->Shared->Prop} (I:Inv X pins σ H s) (e:Rd H a (.dK kvs)) (h:∀ p s',H p = none->Inv X pins σ (upd H p (.dK kvs)) s'->Q (.ref p) s'):wpAny (model X.prog X.w) A (call (.type "dict") [.ref a]) Q E s:=by
 obtain ⟨z,hd,vs,rel,dd⟩:=dk_rd I.hok e
 refine kt_call_dict hd dd (by rw [← rel.length];exact z) fun h' dd' hs=>?_
 refine h _ _ (I.hok.fresh (Nat.le_refl _)) (I.laid (a:=s.heap.objs.size) (o:=.dK kvs) (t':=s.toks) (fun b q hq=>?_) (Nat.le_refl _) (dk_new z (beq_eq_false_iff_ne.mpr (Ne.symm (Nat.ne_of_lt I.big))) rel dd'))
 exact (hs.2 b (Nat.ne_of_lt (Heap.lt_size hq))).trans (Heap.get?_push_of_some _ hq)
end
section
variable {X:Cx} {pins:List (Addr × Obj)} {σ:St} {H:Hp} {s:Shared} {a:Addr} {y:V} {u:Value} {A:Around} {E:Value->Shared->Prop}
end
end L2
namespace Att
open PySem PySem.W PySem.Calls PyProof.Rows
theorem ints_of_wellAll {P:Params} {h:Heap}:∀ (ns:List Int) (vs:List Value),WellAll P h vs (ns.map WData.int)->IntsAre vs ns:=by
 intro ns
 induction ns with
 | nil=>
  intro vs w
  rw [List.map_nil] at w
  cases w
  exact .nil
 | cons n ns ih=>
  intro vs w
  rw [List.map_cons] at w
  cases w with
  | cons a b=>
   cases a
   exact .cons _ _ (ih _ b)
theorem script_of {l:OpenLaw} {n:Nat} (hn:l.most = some n) {P:Params} {h:Heap} {args:List WData} {vals:List Value}
  (hpre:l.row.toRowW.claim.pre args = true) (hwl:WellAll P h vals args) :
  ∃ a vs ns,vals = [Value.ref a]/\args = [WData.list (ns.map WData.int)]/\h.get? a = some { cls:=.type "list",data:=.seq vs.toArray }/\IntsAre vs ns/\ns.length ≤ n:=by
 have hsh:WShape.hasAll [] args [.list .int] = true:=(pre_splitW hpre).1
 have hc:l.pre.holds [] { args:=args } = true:=(pre_splitW hpre).2
 obtain ⟨d,r,rfl,h1,h2⟩:=hasAllW_cons hsh
 obtain rfl:=hasAllW_nil h2
 obtain ⟨xs,rfl,h3⟩:=hasW_list h1
 obtain ⟨ns,rfl⟩:=items_int h3
 have hlen:ns.length ≤ n:=by
  unfold OpenLaw.pre at hc
  have h4:(WTm.not (.lt (.lit (.int (n:Int))) (.len (.arg 0)))).holds [] { args:=[.list (ns.map .int)] } = true:=by
   have h4:=(holds_andW hc).1
   rw [hn] at h4
   exact h4
  have h5:=condW_of h4 (w_not (w_lt w_lit (w_len_list (w_arg rfl))))
  rw [List.length_map] at h5
  refine Nat.le_of_not_lt fun q=>?_
  have q':(n:Int) < ((ns.length:Nat):Int):=by omega
  first
   | (rw [decide_eq_true q'] at h5;exact absurd h5 (by decide))
   | (simp at h5;omega)
 cases hwl with
 | cons w1 w2=>
  cases w2
  cases w1 with
  | list ho hall=>exact ⟨_,_,ns,rfl,rfl,ho,ints_of_wellAll ns _ hall,hlen⟩
theorem post_true (l:OpenLaw) (args:List WData):l.row.toRowW.claim.post args (.bool true) args = true:=
 postW_of (r:=l.row.toRowW) (X:=(true == true))
  (show WShape.has [] (.bool true) .bool = true by first | rfl | decide | simp [WShape.has,WShape.arms,WShape.armsAll])
  (show (WTm.eq .res (.lit (.bool true))).value [] { args:=args,res:=some (.bool true),after:=args } = some (.bool (true == true)) from w_eq_bool (w_res rfl) w_lit) rfl
theorem attach_call {l:OpenLaw} {n:Nat} {q:Program} {loose:List Str} {XP:(Str->Option Value)->Heap->Prop} {YP:World->Heap->Prop} {d:DefRec}
  (hn:l.most = some n) (hdf:d.params.defaults = [])
  (call:∀ (w:World) (s₀ s₁:Shared) (mg mb:Str->Option Value) (fa:Addr) (o:Obj) (pm cd doc:Value) (a:Addr) (vs:List Value) (ns:List Int),
   Ground q loose [] XP w s₀ mg mb s₁.heap->YP w s₁.heap →
   s₁.heap.get? fa = some o->o.data = .func (docDef d.name d.params d.body d.scope pm cd doc)->s₁.heap.CodeRec cd d.name->mg d.name = some (.ref fa) →
   s₁.heap.get? a = some { cls:=.type "list",data:=.seq vs.toArray }->IntsAre vs ns->ns.length ≤ n->s₁.gens = #[] →
   codeAny (model l.prog w) callerA (.call (.ref fa) ⟨[.ref a],[]⟩) (fun r s'=>r = .ok (.ret (.bool true))/\OldK s₁.heap s'.heap/\s'.os = s₁.os/\AllBare s'.gens) s₁) :
  WalkO q loose XP YP l.row.toRowW d [] (fun f vs=>PySem.call f vs):=by
 intro w s₀ s₁ mg mb G Y fa o pm cd doc dV kV ho hd hcd hD hmg hg args vals as hpre hlay hrd hwl hlo
 obtain rfl:dV = .none:=Dflts.none hD hdf
 obtain rfl:kV = .none:=Dflts.noKw hD
 obtain ⟨a,vs,ns,rfl,rfl,hobj,hints,hlen⟩:=script_of hn hpre hwl
 refine enter_call (codeAny_mono (call w s₀ s₁ mg mb fa o pm cd doc a vs ns G Y ho (fd_plain hd) hcd hmg hobj hints hlen hg) fun r s' hq=>?_)
 obtain ⟨rfl,h2,h3,h4⟩:=hq
 exact ⟨.inl ⟨.bool true,.bool true,[],rfl,fun _=>rfl,.bool true,post_true l _,fun _=>⟨List.Pairwise.nil,fun _ hm=>(nomatch hm)⟩⟩,h2,h3,h4⟩
section
variable {prog:Program} {w:World} {A:Around} {E:Value->Shared->Prop} {s:Shared} {K:Frag}
end
end Att
namespace L2
open PySem PySem.Spec PyProof.Rows
theorem vals_ints:∀ {vs:List Value} {ns:List Int},IntsAre vs ns->Vals (ns.map V.int) vs
 | _,_,.nil=>.nil
 | _,_,.cons n t h=>.cons ⟨t,rfl⟩ (vals_ints h)
def Only (H:Hp):Prop:=∀ b,H b = none\/∃ o xs,H b = some (.frz o (.lst xs))
theorem law_call {P:Program} {w:World} {K:PySem.W.Frag} {mg mb:Str->Option Value} {CX:CXT} {k:Nat} {fa a:Addr} {fd:FuncData} {x:Str} {sp:Sp} {s₁:Shared} {vs:List Value} {ns:List Int}
  (KX:K.In s₁.heap) (hns:s₁.heap.Ns mainGlobals mg) (hb:s₁.heap.Ns builtinsNs mb) (hbb:∀ x:Str,x ≠ "__name__"->mb x = bootBuiltins x) (hlim:s₁.heap.NoLimit) (hg:s₁.gens = #[])
  (ha:s₁.heap.get? a = some { cls:=.type "list",data:=.seq vs.toArray }) (hi:IntsAre vs ns) (hl:ns.length ≤ sizeLine) (hr:Room k callerA)
  (F:∀ base:Heap,K.In base->base.Ns mainGlobals mg->FnOk P w K mg base CX k fa fd [x] sp) (hbind:∀ (s:Shared) (u:Value),BindsTo s fd ⟨[u],[]⟩ [(x,u)])
  (hsp:∀ H:Hp,Only H->SqL K H a (ns.map V.int)->sp [.ref a] H (fun v _=>v = .bl true) fun _ _ _=>False)
  (hCX:∀ H e s',CX [] H s₁ (fun _ _ _=>False) e s'->False) :
  codeAny (model P w) callerA (.call (.ref fa) ⟨[.ref a],[]⟩) (fun r s'=>r = .ok (.ret (.bool true))/\OldK s₁.heap s'.heap/\s'.os = s₁.os/\AllBare s'.gens) s₁:=by
 have rv:=vals_ints hi
 have lenV:=hi.length
 have core:∀ H:Hp,Only H->SqL K H a (ns.map V.int)->HOk P w H s₁.heap->(∀ b,H b ≠ none->b = a)->(H a ≠ none->K.lookup a = none) →
   codeAny (model P w) callerA (.call (.ref fa) ⟨[.ref a],[]⟩) (fun r s'=>r = .ok (.ret (.bool true))/\OldK s₁.heap s'.heap/\s'.os = s₁.os/\AllBare s'.gens) s₁:=by
  intro H hO hS hok hA hK
  have base_of:∀ {b:Addr} {o:Obj},s₁.heap.get? b = some o->H b = none->(hidT s₁.heap H).get? b = some o:=fun e n=>hidT_get e n
  have noA:∀ {b:Addr} {o:Obj} {es:Array DictEntry} {ep:Nat},s₁.heap.get? b = some o->o.data = .dict es ep->H b = none:=fun {b o es ep} e d=>by
   cases q:H b with
   | none=>rfl
   | some u=>
    have e':b = a:=hA b (by rw [q];simp)
    subst e'
    rw [ha] at e;cases e
    have d':Data.seq vs.toArray _ = Data.dict es ep:=d
    cases d'
  have nsK:∀ {b:Addr} {m:Str->Option Value},s₁.heap.Ns b m->(hidT s₁.heap H).Ns b m:=fun {b m} ⟨o,es,ep,e,d,r⟩=>⟨o,es,ep,base_of e (noA e d),d,r⟩
  have hKb:K.In (hidT s₁.heap H):=fun b o e=>base_of (KX b o e) (by
   cases q:H b with
   | none=>rfl
   | some u=>
    have e':b = a:=hA b (by rw [q];simp)
    subst e'
    rw [hK (by rw [q];simp)] at e;cases e)
  have hM:Mod K mg (hidT s₁.heap H):=⟨hKb,nsK hns,⟨mb,nsK hb,hbb⟩,let ⟨mc,h1,h2⟩:=hlim;⟨mc,nsK h1,h2⟩⟩
  have e0:Env0 P w K mg (hidT s₁.heap H) callerA [] s₁ H:=⟨rfl,hM,fun b o e=>of_hidT e,Nat.le_of_eq (hidT_size _ _),trivial,fun b hb=>absurd (show b ∈ ([]:List Addr) from hb) (by simp),hok,.of_eq hg⟩
  refine codeAny_mono ((F _ hKb (nsK hns)).run callerA [] s₁ H ⟨[.ref a],[]⟩ [.ref a] [.ref a] _ _ hr e0 (hbind s₁ (.ref a)) (.cons rfl .nil) (hsp H hO hS)) fun r s' h=>?_
  cases r with
  | error e=>exact (hCX H e s' h).elim
  | ok fl=>
   cases fl with
   | next=>exact False.elim h
   | brk=>exact False.elim h
   | cont=>exact False.elim h
   | ret u=>
    obtain ⟨v,H',os,bare,un,hok',r',q⟩:=h
    have q':v = .bl true:=q
    subst q'
    obtain rfl:u = Value.bool true:=r'
    refine ⟨rfl,OldK.of_keep fun b o e=>?_,os,bare⟩
    cases q:H b with
    | none=>exact un.keep b o e q (by intro z;exact absurd (show b ∈ ([]:List Addr) from z) (by simp)) (by simp)
    | some u=>
     rcases hO b with z | ⟨ob,xs,z⟩
     ·rw [q] at z;cases z
     ·have z2:=un.frzs b ob _ z
      obtain ⟨e1,_⟩:=hok b _ z
      obtain ⟨e2,_⟩:=hok' b _ z2
      rw [e] at e1;cases e1
      exact e2
 cases hk:K.lookup a with
 | some o=>
  have e:=KX a o hk
  rw [ha] at e
  cases e
  refine core (fun _=>none) (fun _=>.inl rfl) (.inr ⟨_,vs.toArray,_,hk,rfl,rfl,rfl,by rw [List.size_toArray,lenV];exact hl,by simpa using rv⟩) (fun b u z=>by have z':(none:Option HO) = some u:=z;cases z') (fun b z=>absurd rfl z) fun z=>absurd rfl z
 | none=>
  refine core (fun b=>if b = a then some (.frz { cls:=.type "list",data:=.seq vs.toArray } (.lst (ns.map V.int))) else none) (fun b=>?_) (.inl (.inr ⟨{ cls:=.type "list",data:=.seq vs.toArray },if_pos rfl⟩)) (fun b u z=>?_) (fun b z=>?_) fun _=>hk
  ·by_cases hb:b = a
   ·exact .inr ⟨_,_,if_pos hb⟩
   ·exact .inl (if_neg hb)
  ·by_cases hb:b = a
   ·have z':=(if_pos hb).symm.trans z
    cases z'
    subst hb
    exact ⟨ha,by rw [List.length_map];exact hl,vs,_,rv,ha⟩
   ·have z':=(if_neg hb).symm.trans z
    cases z'
  ·by_cases hb:b = a
   ·exact hb
   ·exact absurd (if_neg hb) z
end L2
namespace L2
open PySem PySem.Spec PyProof.Rows
theorem walk_of {l:PySem.W.OpenLaw} {n k:Nat} {q:Program} {loose:List Str} {XP:(Str->Option Value)->Heap->Prop} {YP:World->Heap->Prop} {d:DefRec} {K:Params->PySem.W.Frag} {CX:World->CXT} {sp:World->Sp} {x:Str}
  (hn:l.most = some n) (hn2:n ≤ sizeLine) (hdf:d.params.defaults = []) (hr:Room k callerA)
  (hY:∀ (w:World) (h:Heap),YP w h->(K w.params).In h)
  (F:∀ (w:World) (mg:Str->Option Value) (fa:Addr) (h:Heap),(K w.params).In h->h.Ns mainGlobals mg->mg d.name = some (.ref fa) →
   ∃ fd:FuncData,(∀ (s:Shared) (u:Value),BindsTo s fd ⟨[u],[]⟩ [(x,u)]) ∧
    ∀ base:Heap,(K w.params).In base->base.Ns mainGlobals mg->FnOk l.prog w (K w.params) mg base (CX w) k fa fd [x] (sp w))
  (hsp:∀ (w:World) (H:Hp) (a:Addr) (ns:List Int),ns.length ≤ n->Only H->SqL (K w.params) H a (ns.map V.int)->sp w [.ref a] H (fun v _=>v = .bl true) fun _ _ _=>False)
  (hCX:∀ (w:World) (H:Hp) (s:Shared) (e:Value) (s':Shared),CX w [] H s (fun _ _ _=>False) e s'->False) :
  PySem.W.WalkO q loose XP YP l.row.toRowW d [] (fun f vs=>PySem.call f vs):=by
 refine Att.attach_call hn hdf fun w s₀ s₁ mg mb fa o pm cd doc a vs ns G Y ho hd hcd hmg hobj hints hlen hg=>?_
 have KX:=hY w _ Y
 obtain ⟨fd,hb,hF⟩:=F w mg fa _ KX G.T.g hmg
 exact law_call KX G.T.g G.T.b G.T.builtins G.T.nolimit hg hobj hints (Nat.le_trans hlen hn2) hr hF hb (fun H hO hS=>hsp w H a ns hlen hO hS) fun H e s'=>hCX w H s₁ e s'
end L2
namespace L2
open PySem PySem.Spec PyProof.Rows
def inClass (s:Stmt) (j:Nat):Stmt:=match s with
 | .ClassDef _ _ _ body _ _ _ _ _ _ _=>body.getD j (.Pass ⟨0,0,0,0⟩)
 | _=>.Pass ⟨0,0,0,0⟩
def defArgs (s:Stmt):Arguments:=match s with
 | .FunctionDef _ a _ _ _ _ _ _ _ _=>a
 | _=>{ posonlyargs:=[],args:=[],vararg:=none,kwonlyargs:=[],kw_defaults:=[],kwarg:=none,defaults:=[] }
def defBody (s:Stmt):List Stmt:=match s with
 | .FunctionDef _ _ b _ _ _ _ _ _ _=>b
 | _=>[]
def defScope (s:Stmt):Scope:=match s with
 | .FunctionDef _ _ _ _ _ _ sc _ _ _=>sc
 | _=>{ kind:=.function,names:=[],isGenerator:=false,isCoroutine:=false }
abbrev CX0:CXT:=fun _ _ _ _ _ _=>False
abbrev E0:XK:=fun _ _ _=>False
theorem pass0 {X:Cx}:Passes CX0 X E0:=fun _ _ _ _ _ _ _ h=>h.elim
structure Fun (K:PySem.W.Frag) (x qual:Str) (st:Stmt) (f:Addr) (fd:FuncData):Prop where
 ex:∃ (oc:Value) (od:Option Addr) (kV doc pm:Value) (an:Option Addr) (cdv ct:Value) (osl:Array (Option Value)),
  fd = PySem.W.fnOf x qual (defArgs st) (defBody st) (defScope st) .none kV doc pm an cdv ct/\K.lookup f = some ⟨oc,od,.func fd,osl⟩/\PySem.W.codeIn K cdv qual = true
 kp:PySem.W.keepIn K (.ref f) = true
section
variable {P:Program} {w:World} {K:PySem.W.Frag} {mg:Str->Option Value} {base:Heap}
theorem Fun.ok {x qual:Str} {st:Stmt} {f:Addr} {fd:FuncData} {N ps:List Str} {k:Nat} {sp:Sp} (F:Fun K x qual st f fd) (S:FnScope N ps (defScope st)) (len:∀ vs H Q E,sp vs H Q E->vs.length = ps.length)
  (hbody:∀ (cdv:Value) (A:Around) (outer:List Env) (s:Shared) (H:Hp) (vs:List V) (Q:VK) (E:XK),Room k (A.deeper (envOfC qual (defScope st) s.heap.objs.size f cdv))->sp vs H Q E →
   ∃ t,PSs (cxOf CX0 P w K mg base N qual (defScope st) f cdv A outer s H E).nox (defBody st) t/\t { nx:=fun _ H'=>Q .non H',rt:=Q } (start N vs) H):FnOk P w K mg base CX0 (k + 1) f fd ps sp:=by
 obtain ⟨oc,od,kV,doc,pm,an,cdv,ct,osl,rfl,lk,hcd⟩:=F.ex
 refine fn_of lk hcd S len fun A outer s H vs Q E hr hsp=>?_
 obtain ⟨t,h,q⟩:=hbody cdv A outer s H vs Q E hr hsp
 exact ⟨t,h.nox,q⟩
theorem Fun.binds {x qual:Str} {st:Stmt} {f:Addr} {fd:FuncData} {ps:List Str} (F:Fun K x qual st f fd)
  (h:∀ (kV doc pm:Value) (an:Option Addr) (cdv ct:Value) (us:List Value),us.length = ps.length->bindArgs (PySem.W.fnOf x qual (defArgs st) (defBody st) (defScope st) .none kV doc pm an cdv ct) ⟨us,[]⟩ = pure (ps.zip us)):Binds K fd ps []:=by
 obtain ⟨oc,od,kV,doc,pm,an,cdv,ct,osl,rfl,lk,hcd⟩:=F.ex
 exact .all (h kV doc pm an cdv ct)
theorem fun_mk {x qual:Str} {st:Stmt} {f:Addr} {oc:Value} {od an:Option Addr} {osl:Array (Option Value)} {kV doc pm cdv ct:Value} (l:K.lookup f = some ⟨oc,od,.func (PySem.W.fnOf x qual (defArgs st) (defBody st) (defScope st) .none kV doc pm an cdv ct),osl⟩)
  (c:PySem.W.codeIn K cdv qual = true) (k:PySem.W.keepIn K (.ref f) = true):Fun K x qual st f (PySem.W.fnOf x qual (defArgs st) (defBody st) (defScope st) .none kV doc pm an cdv ct):=⟨⟨oc,od,kV,doc,pm,an,cdv,ct,osl,rfl,l,c⟩,k⟩
end
theorem hu_of {A:Around} {k:Nat} (hr:Room k A):A.units + 1 < cLine:=Nat.lt_of_le_of_lt (Nat.add_le_add_left (by decide:1 ≤ 64) _) hr.units
section
variable {X:Cx}
theorem pv (i:Nat) {x:Str} {pos:Pos} (hN:X.N[i]? = some x:=by rfl) (hv:Vis X.env.scope x:=by first | exact Or.inl rfl | exact Or.inr (Or.inl rfl) | exact Or.inr (Or.inr rfl)) (hd:(x == ("__debug__":Str)) = false:=by decide)
  (hcd:(x == ("__classdict__":Str)) = false:=by decide):PE X (.Name x pos) (tVar i):=pe_var hN hv hd hcd
end
theorem iteF {A B:Prop} (h:B):if false = true then A else B:=by
 rw [if_neg Bool.false_ne_true]
 exact h
theorem iteT {A B:Prop} (h:A):if true = true then A else B:=by
 rw [if_pos rfl]
 exact h
theorem ite2 {c A B:Prop} [Decidable c] (h1:c->A) (h2:¬ c->B):if c then A else B:=by
 by_cases h:c
 ·rw [if_pos h]
  exact h1 h
 ·rw [if_neg h]
  exact h2 h
def Same (H H':Hp):Prop:=∀ b o,H b = some o->H' b = some o
theorem Same.refl (H:Hp):Same H H:=fun _ _ h=>h
theorem Same.trans {H H1 H2:Hp} (a:Same H H1) (b:Same H1 H2):Same H H2:=fun c o h=>b c o (a c o h)
theorem Same.seq {K:PySem.W.Frag} {H H':Hp} {a:Addr} {xs:List V} (e:Same H H') (h:SqL K H a xs):SqL K H' a xs:=by
 rcases h with (h | ⟨o,h⟩) | h
 ·exact .inl (.inl (e _ _ h))
 ·exact .inl (.inr ⟨o,e _ _ h⟩)
 ·exact .inr h
section
variable {X:Cx}
theorem call_lenD:CallR X (.builtin "len") (fun xs H Q=>∃ a kvs,xs = [V.ref a]/\H a = some (.dK kvs)/\Q (.int kvs.length) H):=by
 intro pins s σ H xs us Q I r h
 obtain ⟨a,kvs,rfl,ha,q⟩:=h
 obtain ⟨u,rfl,ru⟩:=vals1 r
 cases ru
 exact d_len I (.inl ha) fun t s' I'=>⟨.int kvs.length,H,I',⟨t,rfl⟩,q⟩
end
section
variable {κ:Type} [DecidableEq κ]
theorem valV_in {kvs:List (κ × V)} {k:κ} {v:V} (h:valV kvs k = some v):k ∈ kvs.map (·.1):=by
 have q:(kvs.any fun kv=>decide (kv.1 = k)) = true:=by
  rw [valV_any,h]
  all_goals rfl
 obtain ⟨p,hp,e⟩:=List.any_eq_true.mp q
 exact List.mem_map.mpr ⟨p,hp,of_decide_eq_true e⟩
end
end L2
namespace L2
open PySem PySem.Spec PyProof.Rows
def closF (env:Env) (cs:List (Str × Addr)) (y:Str × NameKind):List (Str × Addr):=
 if (y.2 == NameKind.free) = true then (y.1,(env.cells.lookup y.1).getD 0) :: cs else cs
def closL (env:Env) (names:List (Str × NameKind)):List (Str × Addr):=names.foldl (closF env) []
theorem clos_from {env:Env}:∀ (names:List (Str × NameKind)) (cs:List (Str × Addr)),(∀ y ∈ names,y.2 = .free->∃ c,env.cells.lookup y.1 = some c) →
  (forIn names cs fun y r=>(if (y.2 == NameKind.free) = true then do let a ← cellOf env y.1;pure (ForInStep.yield ((y.1,a) :: r)) else pure (ForInStep.yield r):Sem (ForInStep (List (Str × Addr))))) = pure (names.foldl (closF env) cs)
 | [],cs,_=>rfl
 | y :: r,cs,h=>by
  rw [List.forIn_cons,List.foldl_cons]
  by_cases hy:(y.2 == NameKind.free) = true
  ·obtain ⟨c,hc⟩:=h y List.mem_cons_self (eq_of_beq hy)
   have e:cellOf env y.1 = pure c:=by unfold cellOf;rw [hc]
   rw [if_pos hy,e,pure_bind,pure_bind]
   have e2:closF env cs y = (y.1,c) :: cs:=by unfold closF;rw [if_pos hy,hc];rfl
   rw [e2]
   exact clos_from r _ fun z hz=>h z (List.mem_cons_of_mem _ hz)
  ·rw [if_neg hy,pure_bind]
   have e2:closF env cs y = cs:=by unfold closF;rw [if_neg hy]
   rw [e2]
   exact clos_from r _ fun z hz=>h z (List.mem_cons_of_mem _ hz)
theorem clos_ok {env:Env} {scope:Scope} (h:∀ y ∈ scope.names,y.2 = .free->∃ c,env.cells.lookup y.1 = some c):closureFor scope env = pure (closL env scope.names):=by
 have e:=clos_from (env:=env) scope.names [] h
 unfold closL
 rw [← e]
 simp only [closureFor,bind_pure_comp,map_pure,bind_pure]
theorem clos_sub {env:Env}:∀ (names:List (Str × NameKind)) (cs:List (Str × Addr)),(∀ y ∈ names,y.2 = .free->∃ c,env.cells.lookup y.1 = some c)->(∀ x c,cs.lookup x = some c->env.cells.lookup x = some c) →
  ∀ x c,(names.foldl (closF env) cs).lookup x = some c->env.cells.lookup x = some c
 | [],cs,_,hc,x,c,e=>hc x c e
 | y :: r,cs,h,hc,x,c,e=>by
  rw [List.foldl_cons] at e
  refine clos_sub r _ (fun z hz=>h z (List.mem_cons_of_mem _ hz)) (fun z d q=>?_) x c e
  unfold closF at q
  by_cases hy:(y.2 == NameKind.free) = true
  ·obtain ⟨c',hc'⟩:=h y List.mem_cons_self (eq_of_beq hy)
   rw [if_pos hy,List.lookup_cons,hc'] at q
   cases hz:z == y.1 with
   | true=>
    rw [hz] at q
    have q':c' = d:=Option.some.inj q
    rw [eq_of_beq hz,hc',q']
   | false=>
    rw [hz] at q
    exact hc z d q
  ·rw [if_neg hy] at q
   exact hc z d q
theorem clos_has {env:Env}:∀ (names:List (Str × NameKind)) (cs:List (Str × Addr)) (x:Str),((x,NameKind.free) ∈ names\/∃ c,cs.lookup x = some c)->∃ c,(names.foldl (closF env) cs).lookup x = some c
 | [],cs,x,h=>by
  rcases h with h | h
  ·cases h
  ·exact h
 | y :: r,cs,x,h=>by
  rw [List.foldl_cons]
  refine clos_has r _ x ?_
  rcases h with h | ⟨c,h⟩
  ·rcases List.mem_cons.mp h with e | e
   ·subst e
    refine .inr ⟨(env.cells.lookup x).getD 0,?_⟩
    unfold closF
    rw [if_pos (show ((x,NameKind.free).2 == NameKind.free) = true from rfl),List.lookup_cons,beq_self_eq_true]
   ·exact .inl e
  ·refine .inr ?_
   unfold closF
   by_cases hy:(y.2 == NameKind.free) = true
   ·rw [if_pos hy,List.lookup_cons]
    cases hz:x == y.1 with
    | true=>exact ⟨_,rfl⟩
    | false=>exact ⟨c,h⟩
   ·rw [if_neg hy]
    exact ⟨c,h⟩
abbrev cxComp (X:Cx) (scope:Scope) (N:List Str) (s:Shared) (H:Hp) (fp:List Addr):Cx where
 prog:=X.prog
 w:=X.w
 K:=X.K
 mg:=X.mg
 base:=X.base
 A:=X.A
 N:=N
 s₀:=s
 H₀:=H
 env:=compEnvC scope (closL X.env scope.names) s.heap.objs.size X.env
 outer:=X.stack
 stack:=X.stack
 ex:=fp
 fn:=fun _=>false
 calm:=X.calm
 pn:=[]
 xe:=fun _ _=>False
structure CompTx (osc scope:Scope) (N0:List Str) (xs:List Str) (fr:List Nat):Prop where
 kind:scope.kind = .function
 nocell:∀ y ∈ scope.names,y.2 ≠ .cell
 names:∀ y ∈ scope.names,y.2 = .local->scope.names.lookup y.1 = some .local
 free:∀ y ∈ scope.names,y.2 = .free->osc.names.lookup y.1 = some .cell\/osc.names.lookup y.1 = some .free
 fro:∀ j ∈ fr,∃ x,N0[j]? = some x/\scope.names.lookup x = some .free
 nd:(xs ++ fr.map fun j=>N0.getD j "").Nodup
def compN (N0:List Str) (xs:List Str) (fr:List Nat):List Str:=xs ++ fr.map fun j=>N0.getD j ""
def compSt (xs:List Str) (fr:List Nat) (σ:St):St:=xs.map (fun _=>none) ++ fr.map fun j=>(σ[j]?).join
theorem mem_of_lookup' {κ:Type}:∀ {l:List (Str × κ)} {x:Str} {k:κ},l.lookup x = some k->(x,k) ∈ l
 | [],_,_,h=>by cases h
 | (n,k') :: r,x,k,h=>by
  rw [List.lookup_cons] at h
  cases hx:x == n with
  | true=>
   rw [hx] at h
   have h':k' = k:=Option.some.inj h
   rw [eq_of_beq hx,h']
   exact List.mem_cons_self
  | false=>
   rw [hx] at h
   exact List.mem_cons_of_mem _ (mem_of_lookup' h)
theorem relabel_look {env:Env}:∀ {names:List (Str × NameKind)} {x:Str} {k:NameKind},
  (names.map fun (n,k)=>if (k == NameKind.free && env.scope.kind == .function && env.kindOf n == some .cell) then (n,NameKind.cell) else (n,k)).lookup x = some k →
  names.lookup x = some k\/(k = .cell/\names.lookup x = some .free)
 | [],_,_,h=>by cases h
 | (n,k') :: r,x,k,h=>by
  have ih:=@relabel_look env r x k
  rw [List.map_cons] at h
  rw [List.lookup_cons]
  by_cases hc:(k' == NameKind.free && env.scope.kind == .function && env.kindOf n == some .cell) = true
  ·have h':List.lookup x ((n,NameKind.cell) :: (r.map fun (n,k)=>if (k == NameKind.free && env.scope.kind == .function && env.kindOf n == some .cell) then (n,NameKind.cell) else (n,k))) = some k:=by
    rw [← h];simp only [hc,if_true]
   rw [List.lookup_cons] at h'
   cases hx:x == n with
   | true=>
    rw [hx] at h'
    have h2:NameKind.cell = k:=Option.some.inj h'
    rw [Bool.and_eq_true,Bool.and_eq_true] at hc
    exact .inr ⟨h2.symm,congrArg some (eq_of_beq hc.1.1)⟩
   | false=>
    rw [hx] at h'
    exact ih h'
  ·have h':List.lookup x ((n,k') :: (r.map fun (n,k)=>if (k == NameKind.free && env.scope.kind == .function && env.kindOf n == some .cell) then (n,NameKind.cell) else (n,k))) = some k:=by
    rw [← h];simp only [hc];rfl
   rw [List.lookup_cons] at h'
   cases hx:x == n with
   | true=>
    rw [hx] at h'
    exact .inl h'
   | false=>
    rw [hx] at h'
    exact ih h'
theorem relabel_free {env:Env}:∀ {names:List (Str × NameKind)} {x:Str},names.lookup x = some .free →
  (names.map fun (n,k)=>if (k == NameKind.free && env.scope.kind == .function && env.kindOf n == some .cell) then (n,NameKind.cell) else (n,k)).lookup x = some .cell ∨
  (names.map fun (n,k)=>if (k == NameKind.free && env.scope.kind == .function && env.kindOf n == some .cell) then (n,NameKind.cell) else (n,k)).lookup x = some .free
 | [],_,h=>by cases h
 | (n,k') :: r,x,h=>by
  have ih:=@relabel_free env r x
  rw [List.lookup_cons] at h
  rw [List.map_cons]
  by_cases hc:(k' == NameKind.free && env.scope.kind == .function && env.kindOf n == some .cell) = true
  ·have e:(match (n,k') with | (n,k)=>if (k == NameKind.free && env.scope.kind == .function && env.kindOf n == some .cell) then (n,NameKind.cell) else (n,k)) = (n,NameKind.cell):=by
    simp only [hc,if_true]
   rw [e,List.lookup_cons]
   cases hx:x == n with
   | true=>exact .inl rfl
   | false=>rw [hx] at h;exact ih h
  ·have e:(match (n,k') with | (n,k)=>if (k == NameKind.free && env.scope.kind == .function && env.kindOf n == some .cell) then (n,NameKind.cell) else (n,k)) = (n,k'):=by
    simp only [hc];rfl
   rw [e,List.lookup_cons]
   cases hx:x == n with
   | true=>
    rw [hx] at h
    exact .inr h
   | false=>rw [hx] at h;exact ih h
section
variable {X:Cx}
theorem comp_free {osc scope:Scope} {N0 xs:List Str} {fr:List Nat} {pins:List (Addr × Obj)} {σ:St} {H:Hp} {s:Shared} (C:CompTx osc scope N0 xs fr) (ho:X.env.scope = osc) (I:Inv X pins σ H s) :
  ∀ y ∈ scope.names,y.2 = .free->∃ c,X.env.cells.lookup y.1 = some c:=fun y hy e=>by
 refine I.ok.has y.1 ?_
 rw [← ho] at C
 exact C.free y hy e
theorem comp_start {osc scope:Scope} {N0 xs:List Str} {fr:List Nat} {pins:List (Addr × Obj)} {σ:St} {H:Hp} {s:Shared} {fp:List Addr} {h₁:Heap} {tk:Nat} (C:CompTx osc scope N0 xs fr) (ho:X.env.scope = osc) (hN0:X.N = N0) (I:Inv X pins σ H s)
  (hf:∀ b ∈ fp,FpOk X pins H b) (hlt:∀ b ∈ fp,b < s.heap.objs.size) (hn:h₁.Ns s.heap.objs.size fun _=>none) (hk:∀ b o,s.heap.get? b = some o->h₁.get? b = some o) :
  Inv (cxComp X scope (compN N0 xs fr) s H fp) [] (compSt xs fr σ) H { s with heap:=h₁,toks:=tk }:=by
 subst hN0
 have hfree:=comp_free C ho I
 have sub:=clos_sub (env:=X.env) scope.names [] hfree (fun x c e=>by cases e)
 have nC:∀ x c,X.env.cells.lookup x = some c->c ≠ s.heap.objs.size:=fun x c e z=>by
  obtain ⟨v,q⟩:=I.cell x c e
  exact absurd q.lt (by rw [z];exact Nat.lt_irrefl _)
 refine ⟨⟨I.ok.mod,C.kind,I.ok.glob,I.ok.blt,Nat.le_refl _,fun x y c h1 h2=>I.ok.inj x y c (sub x c h1) (sub y c h2),fun x hx=>?_,fun x c h _=>(Bool.false_ne_true h).elim,I.ok.hd,I.ok.frames,.inl rfl,fun b hb=>?_,I.bs,Nat.le_trans I.ok.bsz I.sz,fun b o e hb=>?_,fun b hb hz=>?_,I.stack,I.stkFree⟩,
  rfl,I.bare,Un.kept hk,⟨_,hn,fun i x v h1 h2 h3=>?_⟩,fun x c h=>?_,I.hok.fresh (Nat.le_refl _),fun x c h=>I.freeC x c (sub x c h),fun p hp=>absurd (show p ∈ ([]:List (Addr × Obj)) from hp) (by simp),I.hok.kept hk,?_⟩
 ·have hx':(relabel scope X.env).names.lookup x = some .cell\/(relabel scope X.env).names.lookup x = some .free:=hx
  refine clos_has (env:=X.env) scope.names [] x (.inl ?_)
  rcases hx' with q | q
  ·rcases relabel_look q with z | ⟨_,z⟩
   ·exact absurd rfl (C.nocell _ (mem_of_lookup' z))
   ·exact mem_of_lookup' z
  ·rcases relabel_look q with z | ⟨z,_⟩
   ·exact mem_of_lookup' z
   ·cases z
 ·exact ⟨Nat.ne_of_lt (hlt b hb),fun x c h=>(hf b hb).2.2.2.2.1 x c (sub x c h)⟩
 ·rcases (hf b hb).2.2.2.1 with z | z
  ·exact I.ok.noex b o e z
  ·exact absurd (Nat.lt_of_lt_of_le (Heap.lt_size e) (Nat.le_trans I.ok.bsz z)) (Nat.lt_irrefl _)
 ·rcases List.mem_cons.mp (I.stkSub b hz) with z | z
  ·exact (hf b hb).2.1 z
  ·exact (hf b hb).2.2.1 z
 ·
  have hi:¬ i < xs.length:=fun hi=>by
   unfold compSt at h2
   rw [List.getElem?_append_left (by rw [List.length_map];exact hi),List.getElem?_map] at h2
   cases q:xs[i]? with
   | none=>rw [q] at h2;cases h2
   | some y=>rw [q] at h2;cases h2
  have hi':xs.length ≤ i:=Nat.le_of_not_lt hi
  have e2:(fr.map fun j=>(σ[j]?).join)[i - xs.length]? = some (some v):=by
   have:=h2
   unfold compSt at this
   rw [List.getElem?_append_right (by rw [List.length_map];exact hi'),List.length_map] at this
   exact this
  rw [List.getElem?_map] at e2
  cases q:fr[i - xs.length]? with
  | none=>rw [q] at e2;cases e2
  | some j=>
   rw [q] at e2
   have e3:(σ[j]?).join = some v:=Option.some.inj e2
   have e4:σ[j]? = some (some v):=by
    cases z:σ[j]? with
    | none=>rw [z] at e3;cases e3
    | some u=>rw [z] at e3;rw [show u = some v from e3]
   obtain ⟨y,hy,hyf⟩:=C.fro j (List.mem_of_getElem? q)
   have ex:x = y:=by
    have h1':(compN X.N xs fr)[i]? = some x:=h1
    unfold compN at h1'
    rw [List.getElem?_append_right hi',List.getElem?_map,q] at h1'
    have h5:X.N.getD j "" = x:=Option.some.inj h1'
    rw [← h5,List.getD_eq_getElem?_getD,hy]
    rfl
   subst ex
   obtain ⟨m,_,hl⟩:=I.loc
   have kf:=C.free _ (mem_of_lookup' hyf) rfl
   rw [← ho] at kf
   have vis:Vis X.env.scope x:=by
    rcases kf with z | z
    ·exact .inr (.inl z)
    ·exact .inr (.inr z)
   obtain ⟨u,r,l⟩:=hl j x v hy e4 vis
   refine ⟨u,r,.inr ⟨relabel_free hyf,?_⟩⟩
   rcases l with ⟨z,_⟩ | ⟨_,c,hc,hcell⟩
   ·have z':X.env.scope.names.lookup x = some .local:=z
    rcases kf with w | w
    ·rw [z'] at w;cases w
    ·rw [z'] at w;cases w
   ·obtain ⟨c',hc'⟩:=clos_has (env:=X.env) scope.names [] x (.inl (mem_of_lookup' hyf))
    have e5:=sub x c' hc'
    rw [hc] at e5
    cases e5
    refine ⟨c,hc',?_⟩
    obtain ⟨o,ho',hd⟩:=hcell
    exact ⟨o,hk _ _ ho',hd⟩
 ·obtain ⟨v,o,ho',hd⟩:=I.cell x c (sub x c h)
  exact ⟨v,o,hk _ _ ho',hd⟩
 ·show (compSt xs fr σ).length = (compN X.N xs fr).length
  unfold compSt compN
  simp
end
end L2
namespace L2
open PySem PySem.Spec PyProof.Rows
def PIf (X:Cx) (ifs:List Expr) (t:TT):Prop:=
 ∀ (pins:List (Addr × Obj)) (s:Shared) (σ:St) (H:Hp) (Q:Bool->Hp->Prop),Inv X pins σ H s->t σ H Q →
  wpAny (model X.prog X.w) X.A (forIn ifs true fun c r=>if r = true then do let ok ← isTrue c X.env (eval c X.env);pure (ForInStep.yield ok) else pure (ForInStep.yield r)) (TP X pins σ Q) X.xe s
def tYes:TT:=fun _ H Q=>Q true H
theorem pif_nil {X:Cx}:PIf X [] tYes:=fun _ _ σ H Q I h=>wpAny_tests_nil ⟨H,I,h⟩
def CompW (J:It) (g:TG) (tt:TT) (te:TE) (R:Addr->Hp->Prop) (D:Addr) (σ0:St) (H0:Hp):Prop:=
 ∃ W:Nat->Nat->St->Hp->Prop,(∃ m,W 0 m σ0 H0)/\∀ i m σ H,W i m σ H →
  (J.stop i H/\R D H) ∨
  (J.go i H/\∃ (N:St->V->Hp->Prop) (M:St->Hp->Prop),(∀ σ2 y H4,N σ2 y H4->∃ ys,H4 D = some (.lst ys)/\ys.length < sizeLine/\∃ m',m' < m/\W (i + 1) m' σ2 (upd H4 D (.lst (ys ++ [y])))) ∧
   (∀ σ2 H3,M σ2 H3->∃ m',m' < m/\W (i + 1) m' σ2 H3) ∧
   ∀ x H',J.yld i H x H'->g x σ H' fun σ2 H2=>tt σ2 H2 fun b H3=>if b = true then te σ2 H3 (N σ2) else M σ2 H3)
def tComp (xs:List Str) (fr:List Nat) (wi:TI) (g:TG) (tt:TT) (te:TE):TE:=fun σ H Q=>wi σ H fun J H1=>∀ D,H1 D = none->CompW J g tt te (fun D H2=>Q (.ref D) H2) D (compSt xs fr σ) (upd H1 D (.lst []))
section
variable {X:Cx}
theorem comp_block {osc scope:Scope} {N0 xs:List Str} {fr:List Nat} {pins:List (Addr × Obj)} {σ:St} {H2:Hp} {s2:Shared} {fp:List Addr} {it:Addr} {tn:Nat->Heap->Prop} {J:It} {elt tg iter:Expr} {ifs:List Expr} {pos:Pos}
  {g:TG} {tt:TT} {te:TE} {E:Value->Shared->Prop} {R:Addr->Hp->Prop} {RR:Value->Addr->Result->Shared->Prop} (C:CompTx osc scope N0 xs fr) (ho:X.env.scope = osc) (hN0:X.N = N0) (hc:X.calm = true)
  (hg:∀ s H fp,PG (cxComp X scope (compN N0 xs fr) s H fp) tg g) (ht:∀ s H fp,PIf (cxComp X scope (compN N0 xs fr) s H fp) ifs tt) (he:∀ s H fp,PE (cxComp X scope (compN N0 xs fr) s H fp) elt te)
  (I2:Inv X pins σ H2 s2) (T:Turn X.prog X.w X.K tg J fp it tn) (st2:tn 0 s2.heap) (f2:∀ b ∈ fp,FpOk X pins H2 b)
  (hR:∀ D,H2 D = none->CompW J g tt te R D (compSt xs fr σ) (upd H2 D (.lst [])))
  (hRR:∀ (D C:Addr) (s':Shared) (H':Hp) (m:Str->Option Value),Inv X pins σ H' s'->s'.heap.Ns C m->FpOk X pins H' C->R D H'->RR (.ref D) C (.ok .next) s') :
  wpAny (model X.prog X.w) X.A (newList []) (fun acc s₃=>wpAny (model X.prog X.w) X.A (newFunctionEnv scope X.env.globals (closL X.env scope.names) [] X.env.qual none .none (some X.env)) (fun cenv s₄=>
   codeAny (model X.prog X.w) X.A (.compStart (.ListComp elt [⟨tg,iter,ifs,0⟩] scope pos) 0 (.ref it) acc { cenv with scope:=relabel scope X.env }) (RR acc cenv.locals) s₄) E s₃) E s2:=by
 refine wpAny_newObj_type (wpAny_newFunctionEnv C.nocell (by intro y hy;simp at hy) (fun h₁ hns₁ hsb₁=>?_) C.kind)
 dsimp only at hns₁ hsb₁ ⊢
 have I3:Inv X pins σ (upd H2 s2.heap.objs.size (.lst [])) { s2 with heap:=s2.heap.push { cls:=.type "list",data:=.seq ([]:List Value).toArray } }:=I2.lnew (its:=[]) (t':=s2.toks) .nil (by simp)
 have flt:∀ b ∈ fp,b < s2.heap.objs.size:=fun b hb=>by
  obtain ⟨o,e,_⟩:=T.obj 0 _ st2 b hb
  exact Heap.lt_size e
 have f3:∀ b ∈ fp,FpOk X pins (upd H2 s2.heap.objs.size (.lst [])) b:=fun b hb=>⟨by rw [upd_ne (Nat.ne_of_lt (flt b hb))];exact (f2 b hb).1,(f2 b hb).2⟩
 have flt3:∀ b ∈ fp,b < (s2.heap.push { cls:=.type "list",data:=.seq ([]:List Value).toArray }).objs.size:=fun b hb=>by
  rw [Heap.size_push]
  exact Nat.lt_succ_of_lt (flt b hb)
 obtain ⟨W,⟨m0,w0⟩,turn⟩:=hR s2.heap.objs.size I2.fresh
 generalize hD:s2.heap.objs.size = D at *
 generalize hs3:s2.heap.push { cls:=.type "list",data:=.seq ([]:List Value).toArray } = h3 at *
 have up2:∀ b o,s2.heap.get? b = some o->h3.get? b = some o:=fun b o e=>by rw [← hs3];exact Heap.get?_push_of_some _ e
 have old:∀ b o,h3.get? b = some o->h₁.get? b = some o:=fun b o e=>hsb₁.extBut b o (Nat.ne_of_lt (Heap.lt_size e)) (Heap.get?_push_of_some _ e)
 have Ic:=comp_start (tk:=s2.toks + ([]:List (Str × Value)).length) C ho hN0 I3 f3 flt3 hns₁ old
 have st4:tn 0 h₁:=T.keep 0 _ _ st2 fun b hb o e=>old b o (up2 b o e)
 have stat:∀ {H':Hp},(∀ b ∈ fp,H' b = none)->∀ b ∈ fp,FpOk (cxComp X scope (compN N0 xs fr) { s2 with heap:=h3 } (upd H2 D (.lst [])) fp) [] H' b:=fun hn b hb=>
  ⟨hn b hb,Nat.ne_of_lt (flt3 b hb),fun z=>by
   rcases List.mem_cons.mp (I3.stkSub b z) with q | q
   ·exact (f3 b hb).2.1 q
   ·exact (f3 b hb).2.2.1 q,.inl hb,fun x c h=>(Ic.ok.exf b hb).2 x c h,fun p hp=>absurd (show p ∈ ([]:List (Addr × Obj)) from hp) (by simp)⟩
 have fin:∀ {σ':St} {H':Hp} {s':Shared},Inv (cxComp X scope (compN N0 xs fr) { s2 with heap:=h3 } (upd H2 D (.lst [])) fp) [] σ' H' s'->R D H'->RR (.ref D) h3.objs.size (.ok .next) s':=fun {σ' H' s'} I' q=>by
  obtain ⟨m,hm,_⟩:=I'.loc
  refine hRR D h3.objs.size s' H' m (I3.call' I'.os I'.base I'.hok I'.bare fun b hb=>?_) hm (I3.fpOk (Nat.le_refl _) I'.free) q
  exact ⟨(f3 b hb).2.2.2.1,(f3 b hb).2.1,(f3 b hb).2.2.2.2.1,(f3 b hb).2.2.2.2.2⟩
 have loop:codeAny (model X.prog X.w) X.A (.compLoop (.ListComp elt [⟨tg,iter,ifs,0⟩] scope pos) 0 (.ref it) (.ref D) (compEnvC scope (closL X.env scope.names) h3.objs.size X.env)) (RR (.ref D) h3.objs.size) { s2 with heap:=h₁,toks:=s2.toks + ([]:List (Str × Value)).length }:=by
  refine codeAny_loop rfl (fun n s'=>∃ i σ' H',Inv (cxComp X scope (compN N0 xs fr) { s2 with heap:=h3 } (upd H2 D (.lst [])) fp) [] σ' H' s'/\tn i s'.heap/\(∀ b ∈ fp,H' b = none)/\W i n σ' H') (fun n s' hI=>?_) m0 ⟨0,_,_,Ic,st4,fun b hb=>(f3 b hb).1,w0⟩
  show wpAny _ X.A ((compTurn (.ListComp elt [⟨tg,iter,ifs,0⟩] scope pos) 0 (.ref it) (.ref D) (compEnvC scope (closL X.env scope.names) h3.objs.size X.env)).onRaise (fun x=>do noteFrame x (compEnvC scope (closL X.env scope.names) h3.objs.size X.env);theTreesLotGoes x)) _ _ s'
  refine wpAny_noted ?_
  rw [compTurn_list]
  obtain ⟨i,σ',H',I',st',fr',w'⟩:=hI
  refine wpAny_bind (wpAny_standAt (wpAny_bind ?_))
  rcases turn i n σ' H' w' with ⟨stop,q⟩ | ⟨go,N,M,hN,hM,step⟩
  ·refine thn (T.done (cxComp X scope (compN N0 xs fr) { s2 with heap:=h3 } (upd H2 D (.lst [])) fp) rfl rfl rfl hc i [] s' σ' H' _ I' (stat fr') st' stop) fun r s4 ⟨hr,I4⟩=>?_
   subst hr
   exact wpAny_pure (fin I4 q)
  ·refine thn (T.item (cxComp X scope (compN N0 xs fr) { s2 with heap:=h3 } (upd H2 D (.lst [])) fp) rfl rfl rfl hc i [] s' σ' H' _ I' (stat fr') st' go) fun r s4 ⟨u,hr,h4⟩=>?_
   subst hr
   refine wpAny_bind (thn h4 fun _ s5 ⟨x,H5,I5,r5,y5,st5,fr5⟩=>?_)
   have I5':=I5.pinned (stat fr5) (T.obj _ _ st5)
   have again:∀ {σ7:St} {H7:Hp} {s7:Shared},Inv (cxComp X scope (compN N0 xs fr) { s2 with heap:=h3 } (upd H2 D (.lst [])) fp) ([] ++ pinsAt fp s5.heap) σ7 H7 s7->(∃ m',m' < n/\W (i + 1) m' σ7 H7) →
     ∃ m,m < n/\∃ i σ' H',Inv (cxComp X scope (compN N0 xs fr) { s2 with heap:=h3 } (upd H2 D (.lst [])) fp) [] σ' H' s7/\tn i s7.heap/\(∀ b ∈ fp,H' b = none)/\W i m σ' H':=fun {σ7 H7 s7} I7 n7=>by
    obtain ⟨m',hm,w7⟩:=n7
    refine ⟨m',hm,i + 1,σ7,H7,I7.unpinned,T.keep _ _ _ st5 fun b hb o e=>(I7.pin (b,o) (List.mem_append_right _ (List.mem_append_right _ (mem_pinsAt hb e)))).1,fun b hb=>?_,w7⟩
    obtain ⟨o,e,d⟩:=T.obj _ _ st5 b hb
    exact (I7.pin (b,o) (List.mem_append_right _ (List.mem_append_right _ (mem_pinsAt hb e)))).2.1
   refine wpAny_bind (wpAny_mono (hg _ _ _ _ s5 σ' H5 x u _ I5' r5 (step x H5 y5)) (fun _ s6 ⟨σ6,H6,I6,q6⟩=>?_) fun _ _ z=>False.elim z)
   refine wpAny_bind (wpAny_mono (ht _ _ _ _ s6 σ6 H6 _ I6 q6) (fun ok s7 ⟨H7,I7,q7⟩=>?_) fun _ _ z=>False.elim z)
   cases ok with
   | false=>
    rw [if_neg Bool.false_ne_true] at q7
    exact wpAny_pure ⟨rfl,again I7 (hM _ _ q7)⟩
   | true=>
    rw [if_pos rfl] at q7
    refine wpAny_bind (wpAny_bind (wpAny_mono (he _ _ _ _ s7 σ6 H7 _ I7 q7) (fun y s8 ⟨v,H8,I8,r8,q8⟩=>?_) fun _ _ z=>False.elim z))
    obtain ⟨ys,eD,hz,q8⟩:=hN _ _ _ q8
    refine wpAny_bind (wpAny_mono (mt_append (X:=cxComp X scope (compN N0 xs fr) { s2 with heap:=h3 } (upd H2 D (.lst [])) fp) _ s8 σ6 H8 (.ref D) [v] (.ref D) [y] (fun _ H9=>∃ m',m' < n/\W (i + 1) m' σ6 H9) I8 rfl (.cons r8 .nil) ⟨D,ys,v,rfl,rfl,eD,hz,q8⟩) (fun _ s9 ⟨_,H9,I9,_,q9⟩=>?_) fun _ _ z=>False.elim z)
    exact wpAny_pure (wpAny_pure ⟨rfl,again I9 q9⟩)
 exact codeAny_compStart_list loop (T.self X.A 0 _ _ _ st4 loop)
variable {osc scope:Scope} {N0 xs:List Str} {fr:List Nat} {elt tg iter:Expr} {ifs:List Expr} {pos:Pos} {wi:TI} {g:TG} {tt:TT} {te:TE}
theorem pe_comp (C:CompTx osc scope N0 xs fr) (ho:X.env.scope = osc) (hN0:X.N = N0) (hc:X.calm = true) (hi:PI X tg iter wi)
  (hg:∀ s H fp,PG (cxComp X scope (compN N0 xs fr) s H fp) tg g) (ht:∀ s H fp,PIf (cxComp X scope (compN N0 xs fr) s H fp) ifs tt) (he:∀ s H fp,PE (cxComp X scope (compN N0 xs fr) s H fp) elt te)
  (hs:∀ x,foldedSetIterable iter X.env x = pure x:=by intro _;rfl):PE X (.ListComp elt [⟨tg,iter,ifs,0⟩] scope pos) (tComp xs fr wi g tt te):=by
 intro pins s σ H Q I h
 rw [eval_ListComp]
 refine wpAny_comprehension_free (use:=none) rfl hs (clos_ok (comp_free C ho I)) C.kind C.names (thn (hi pins s σ H _ I h) fun v s1 h1=>thn h1 fun itv s2 h2=>?_)
 obtain ⟨it,fp,tn,J,H2,e,I2,T,st2,f2,hR⟩:=h2
 subst e
 refine comp_block C ho hN0 hc hg ht he I2 T st2 f2 hR fun D C s' H' m I' hm fC q=>?_
 refine ⟨m,hm,fun h' sb=>⟨.ref D,H',?_,rfl,q⟩⟩
 exact I'.turned (t':=s'.toks) (fun b o hb e=>(sb.2 b hb).trans e) fC.1 fC.2.1 fC.2.2.2.1 fC.2.2.2.2.1 fC.2.2.2.2.2
end
section
variable {X:Cx} {tg:Expr}
theorem bools_of:∀ {bs:List Bool} {us:List Value},Vals (bs.map V.bl) us->LSm.BoolsAre us bs
 | [],_,r=>by rw [List.map_nil] at r;cases r;exact .nil
 | b :: bs,_,r=>by
  rw [List.map_cons] at r
  cases r with
  | cons h t=>
   cases h
   exact .cons b (bools_of t)
theorem call_all (hc:X.calm = true):CallR X (.builtin "all") (fun xs H Q=>∃ (p:Addr) (bs:List Bool),xs = [.ref p]/\SqL X.K H p (bs.map V.bl)/\Q (.bl (bs.all id)) H):=by
 intro pins s σ H xs us Q I r h
 obtain ⟨l,bs,rfl,hq,q⟩:=h
 obtain ⟨u,rfl,rx⟩:=vals1 r
 cases rx
 obtain ⟨vs,r',pl,hz⟩:=I.list hq
 have hb:LSm.BoolsAre vs bs:=bools_of r'
 have hl:=pl.isList
 have hlt:l < s.heap.objs.size:=by obtain ⟨_,e,_⟩:=hl;exact Heap.lt_size e
 refine call_all_walk (wpAny_pyIter_list hl ?_)
 refine ⟨s.heap.objs.size,[s.heap.objs.size,l],[s.heap.objs.size],vs.toArray.size,_,_,fun i=>(bs[i]?).getD true,rfl,Walks.list (A:=X.A.in1) (I.ok.hd hc) _ l (Nat.ne_of_lt hlt) vs.toArray,
  ⟨⟨_,Heap.get?_push_size _ rfl,rfl,rfl⟩,hl.push _⟩,fun i v s' Q' E' hP hQ=>?_,fun h' tk hk=>?_⟩
 ·obtain ⟨b,e,rfl⟩:=hb.get i v (by simpa using hP)
  simp only [e,Option.getD_some] at hQ
  exact wpAny_truthy_bool hQ
 ·have e:((List.range vs.toArray.size).all fun i=>(bs[i]?).getD true) = bs.all id:=by
   rw [List.size_toArray,hb.length];exact LSm.range_all bs
  rw [e]
  exact ⟨.bl (bs.all id),H,I.kept (LSm.kept_iter hk),rfl,q⟩
theorem call_any (hc:X.calm = true):CallR X (.builtin "any") (fun xs H Q=>∃ (p:Addr) (bs:List Bool),xs = [.ref p]/\SqL X.K H p (bs.map V.bl)/\Q (.bl (bs.any id)) H):=by
 intro pins s σ H xs us Q I r h
 obtain ⟨l,bs,rfl,hq,q⟩:=h
 obtain ⟨u,rfl,rx⟩:=vals1 r
 cases rx
 obtain ⟨vs,r',pl,hz⟩:=I.list hq
 have hb:LSm.BoolsAre vs bs:=bools_of r'
 have hl:=pl.isList
 have hlt:l < s.heap.objs.size:=by obtain ⟨_,e,_⟩:=hl;exact Heap.lt_size e
 refine call_any_walk (wpAny_pyIter_list hl ?_)
 refine ⟨s.heap.objs.size,[s.heap.objs.size,l],[s.heap.objs.size],vs.toArray.size,_,_,fun i=>(bs[i]?).getD false,rfl,Walks.list (A:=X.A.in1) (I.ok.hd hc) _ l (Nat.ne_of_lt hlt) vs.toArray,
  ⟨⟨_,Heap.get?_push_size _ rfl,rfl,rfl⟩,hl.push _⟩,fun i v s' Q' E' hP hQ=>?_,fun h' tk hk=>?_⟩
 ·obtain ⟨b,e,rfl⟩:=hb.get i v (by simpa using hP)
  simp only [e,Option.getD_some] at hQ
  exact wpAny_truthy_bool hQ
 ·have e:((List.range vs.toArray.size).any fun i=>(bs[i]?).getD false) = bs.any id:=by
   rw [List.size_toArray,hb.length];exact LSm.range_any bs
  rw [e]
  exact ⟨.bl (bs.any id),H,I.kept (LSm.kept_iter hk),rfl,q⟩
theorem call_isi:CallR X (.builtin "isinstance") (fun xs H Q=>∃ x n t b,xs = [x,.ty n]/\TyOf X.K H x t/\PySem.W.kitOne X.K t (.type n) = some b/\Q (.bl b) H):=by
 intro pins s σ H xs us Q I r h
 obtain ⟨x,n,t,b,rfl,ty,e,q⟩:=h
 obtain ⟨u,w',rfl,rx,rc⟩:=vals2 r
 cases (show w' = Value.type n from rc)
 exact isinst_ok I rx ty e fun tk=>⟨.bl b,H,I.tok tk,rfl,q⟩
end
section
variable {X:Cx}
theorem sl_str:SlR X (fun x lo hi H Q=>∃ z,x = .str z/\z.length ≤ sizeLine/\Q (.str (Txt.slice z lo hi)) H):=by
 intro pins s σ H x v vl vu lo hi sl Q I rx hs pl pu h
 obtain ⟨z,rfl,hz,q⟩:=h
 obtain ⟨t,rfl⟩:=rx
 refine ⟨"str",_,F.slot_str_getitem.lookup,typeIs_str _ _ _,?_⟩
 obtain ⟨o,e1,e2,e3⟩:=hs
 have fin:∀ (l u:Option (Int × Tok)),vl = partValue l->vu = partValue u->l.map (·.1) = lo->u.map (·.1) = hi->wpAny (model X.prog X.w) X.A (getItem (.str z t) (.ref sl)) (EP X pins σ Q) X.xe s:=by
  intro l u h1 h2 h3 h4
  subst h1 h2 h3 h4
  refine wpAny_getItem_str_slice (l:=l) (u:=u) (st:=none) ⟨o,e1,e2,e3⟩ rfl (post_val_or_str ⟨Nat.le_trans (Txt.slice_le z (l.map (·.1)) (u.map (·.1))) hz,fun t' k=>?_⟩)
  exact ⟨.str (Txt.slice z (l.map (·.1)) (u.map (·.1))),H,I.tok k,⟨t',rfl⟩,q⟩
 cases pl with
 | none=>
  cases pu with
  | none=>exact fin none none rfl rfl rfl rfl
  | int j tj=>exact fin none (some (j,tj)) rfl rfl rfl rfl
 | int i ti=>
  cases pu with
  | none=>exact fin (some (i,ti)) none rfl rfl rfl rfl
  | int j tj=>exact fin (some (i,ti)) (some (j,tj)) rfl rfl rfl rfl
end
theorem slice_to (x:Str) {k:Int} (h0:0 ≤ k) (h1:k ≤ x.length):(Txt.slice x none (some k)).cps.toList = x.cps.toList.take k.toNat:=by
 have e:Txt.slice x none (some k) = StrLaws.sliceText x none (some k):=rfl
 rw [e,StrLaws.sliceText_to ⟨h0,by simpa [Str.length] using h1⟩]
 simp
theorem slice_from (x:Str) {k:Int} (h0:0 ≤ k) (h1:k ≤ x.length):(Txt.slice x (some k) none).cps.toList = x.cps.toList.drop k.toNat:=by
 have e:Txt.slice x (some k) none = StrLaws.sliceText x (some k) none:=rfl
 rw [e,StrLaws.sliceText_from ⟨h0,by simpa [Str.length] using h1⟩]
 show (((x.cps.toList.drop k.toNat).take ((x.cps.toList.length:Int) - k).toNat).toArray).toList = _
 rw [List.toList_toArray]
 refine List.take_of_length_le ?_
 rw [List.length_drop]
 omega
theorem compW_map {J:It} {g:TG} {te:TE} {R:Addr->Hp->Prop} {D:Addr} {σ0:St} {H0:Hp} (n:Nat) (ev:Nat->V) (Pv:Nat->St->Hp->Prop) (hn:n ≤ sizeLine) (h0:Pv 0 σ0 H0) (hD0:H0 D = some (.lst []))
  (hs:∀ i σ H,i < n->Pv i σ H->H D = some (.lst ((List.range i).map ev))->J.go i H/\∀ x H',J.yld i H x H'->g x σ H' fun σ2 H2=>te σ2 H2 fun y H4=>y = ev i/\H4 D = some (.lst ((List.range i).map ev))/\Pv (i + 1) σ2 (upd H4 D (.lst ((List.range (i + 1)).map ev))))
  (hd:∀ σ H,Pv n σ H->H D = some (.lst ((List.range n).map ev))->J.stop n H/\R D H):CompW J g tYes te R D σ0 H0:=by
 refine ⟨fun i m σ H=>m = n - i/\i ≤ n/\Pv i σ H/\H D = some (.lst ((List.range i).map ev)),⟨n,by omega,Nat.zero_le _,h0,hD0⟩,?_⟩
 rintro i m σ H ⟨rfl,hi,p,hD⟩
 by_cases hlt:i < n
 ·obtain ⟨go,st⟩:=hs i σ H hlt p hD
  refine .inr ⟨go,fun σ2 y H4=>y = ev i/\H4 D = some (.lst ((List.range i).map ev))/\Pv (i + 1) σ2 (upd H4 D (.lst ((List.range (i + 1)).map ev))),fun _ _=>False,?_,fun _ _ z=>z.elim,st⟩
  rintro σ2 y H4 ⟨rfl,e,p'⟩
  refine ⟨_,e,by simp;omega,n - (i + 1),by omega,rfl,hlt,?_,?_⟩
  ·rw [List.range_succ,List.map_append] at p'
   exact p'
  ·rw [upd_same,List.range_succ,List.map_append]
   rfl
 ·have e:i = n:=by omega
  subst e
  exact .inl (hd σ H p hD)
theorem range_map_getD {α β:Type} (l:List α) (d:α) (f:α->β):((List.range l.length).map fun i=>f (l.getD i d)) = l.map f:=by
 apply List.ext_getElem?
 intro i
 rw [List.getElem?_map,List.getElem?_map]
 by_cases h:i < l.length
 ·rw [List.getElem?_range h,List.getElem?_eq_getElem h]
  simp [List.getD_eq_getElem?_getD,List.getElem?_eq_getElem h]
 ·rw [List.getElem?_eq_none (by simpa using h),List.getElem?_eq_none (by simpa using h)]
  rfl
theorem TyOf.same {K:PySem.W.Frag} {H H':Hp} {v:V} {t:Value} (e:Same H H') (h:TyOf K H v t):TyOf K H' v t:=by
 cases h with
 | non=>exact .non
 | bl x=>exact .bl x
 | int i=>exact .int i
 | str x=>exact .str x
 | flt x=>exact .flt x
 | lst q=>exact .lst (e _ _ q)
 | frz q=>exact .frz (e _ _ q)
 | tup q=>exact .tup (e _ _ q)
 | dK q=>exact .dK (e _ _ q)
 | dT q=>exact .dT (e _ _ q)
 | ins q cl ha hn htk hm=>exact .ins (e _ _ q) cl ha hn htk hm
theorem Same.upd {H:Hp} {D:Addr} {o:HO} (h:H D = none):Same H (L2.upd H D o):=fun b u e=>by
 rw [upd_ne (ne_of_none e h)]
 exact e
theorem execs_app {env:Env}:∀ (a b:List Stmt),execs (a ++ b) env = execs a env >>= fun f=>match f with | .next=>execs b env | f=>pure f
 | [],b=>by
  show execs b env = (pure Flow.next:Sem Flow) >>= _
  rw [pure_bind]
 | st :: r,b=>by
  rw [List.cons_append,execs_cons,execs_cons,bind_assoc]
  congr
  funext f
  cases f with
  | next=>exact execs_app r b
  | ret v=>rw [pure_bind]
  | brk=>rw [pure_bind]
  | cont=>rw [pure_bind]
theorem split_all {X:Cx} {l:List Stmt} (k:Nat) {D:Ends} {Pre:St->Hp->Prop} (Mid:St->Hp->Prop) (h1:∃ t,PSs X (l.take k) t/\∀ σ H,Pre σ H->t { D with nx:=Mid } σ H) (h2:∃ t,PSs X (l.drop k) t/\∀ σ H,Mid σ H->t D σ H) :
  ∃ t,PSs X l t/\∀ σ H,Pre σ H->t D σ H:=by
 obtain ⟨t1,p1,q1⟩:=h1
 obtain ⟨t2,p2,q2⟩:=h2
 refine ⟨fun D' σ H=>D' = D/\Pre σ H,?_,fun σ H p=>⟨rfl,p⟩⟩
 rintro pins s σ H D' I ⟨rfl,p⟩
 have e:execs l X.env = execs (l.take k) X.env >>= fun f=>match f with | .next=>execs (l.drop k) X.env | f=>pure f:=by
  rw [← execs_app,List.take_append_drop]
 rw [e]
 refine wpAny_bind (thn (p1 pins s σ H _ I (q1 σ H p)) fun f s1 z=>?_)
 cases f with
 | next=>
  obtain ⟨σ',H',I',m⟩:=z
  exact p2 pins s1 σ' H' _ I' (q2 σ' H' m)
 | ret v=>exact wpAny_pure z
 | brk=>exact wpAny_pure z
 | cont=>exact wpAny_pure z
theorem split_at {X:Cx} {l:List Stmt} (k:Nat) {D:Ends} {σ0:St} {H0:Hp} (Mid:St->Hp->Prop) (h1:∃ t,PSs X (l.take k) t/\t { D with nx:=Mid } σ0 H0) (h2:∃ t,PSs X (l.drop k) t/\∀ σ H,Mid σ H->t D σ H) :
  ∃ t,PSs X l t/\t D σ0 H0:=by
 obtain ⟨t1,p1,q1⟩:=h1
 obtain ⟨t,p,q⟩:=split_all k (Pre:=fun σ H=>σ = σ0/\H = H0) Mid ⟨t1,p1,fun σ H e=>by rw [e.1,e.2];exact q1⟩ h2
 exact ⟨t,p,q σ0 H0 ⟨rfl,rfl⟩⟩
end L2
namespace L2
open PySem PySem.Spec PyProof.Rows
def kitTy (a b:String):Option Bool:=if (Value.type a == Value.type b) = true then some true else if PySem.W.kitMeta b = true then (fastBuiltinMro a).map (·.contains (.type b)) else none
theorem kit_eq {K:PySem.W.Frag} {a b:String}:PySem.W.kitOne K (.type a) (.type b) = kitTy a b:=rfl
def tyNames:List String:=["NoneType","bool","int","str","list","tuple","dict"]
theorem kit_int:∀ n ∈ tyNames,kitTy n "int" = some (n == "int" || n == "bool"):=by decide +kernel
theorem kit_bool:∀ n ∈ tyNames,kitTy n "bool" = some (n == "bool"):=by decide +kernel
theorem kit_str:∀ n ∈ tyNames,kitTy n "str" = some (n == "str"):=by decide +kernel
theorem kit_dict:∀ n ∈ tyNames,kitTy n "dict" = some (n == "dict"):=by decide +kernel
def Is (K:PySem.W.Frag) (H:Hp) (v:V) (n:String):Prop:=TyOf K H v (.type n)/\n ∈ tyNames
theorem Is.same {K:PySem.W.Frag} {H H':Hp} {v:V} {n:String} (e:Same H H') (h:Is K H v n):Is K H' v n:=⟨h.1.same e,h.2⟩
theorem Is.non {K:PySem.W.Frag} {H:Hp}:Is K H .non "NoneType":=⟨.non,by decide⟩
theorem Is.bl {K:PySem.W.Frag} {H:Hp} {b:Bool}:Is K H (.bl b) "bool":=⟨.bl b,by decide⟩
theorem Is.int {K:PySem.W.Frag} {H:Hp} {i:Int}:Is K H (.int i) "int":=⟨.int i,by decide⟩
theorem Is.str {K:PySem.W.Frag} {H:Hp} {x:Str}:Is K H (.str x) "str":=⟨.str x,by decide⟩
theorem Is.lst {K:PySem.W.Frag} {H:Hp} {a:Addr} {xs:List V} (h:H a = some (.lst xs)):Is K H (.ref a) "list":=⟨.lst h,by decide⟩
theorem Is.tup {K:PySem.W.Frag} {H:Hp} {a:Addr} {xs:List V} (h:H a = some (.tup xs)):Is K H (.ref a) "tuple":=⟨.tup h,by decide⟩
def DefIn (K:PySem.W.Frag) (x:Str) (st:Stmt):Prop:=∃ (f:Addr) (oc:Value) (od:Option Addr) (kV doc pm:Value) (an:Option Addr) (cdv ct:Value) (osl:Array (Option Value)),
 PySem.W.nsIn K mainGlobals x = some (some (.ref f))/\K.lookup f = some ⟨oc,od,.func (PySem.W.fnOf x x (defArgs st) (defBody st) (defScope st) .none kV doc pm an cdv ct),osl⟩/\PySem.W.codeIn K cdv x = true/\PySem.W.keepIn K (.ref f) = true
theorem defIn_mk {K:PySem.W.Frag} {x:Str} {st:Stmt} {f:Addr} {oc:Value} {od an:Option Addr} {osl:Array (Option Value)} {kV doc pm cdv ct:Value} (a:PySem.W.nsIn K mainGlobals x = some (some (.ref f)))
  (l:K.lookup f = some ⟨oc,od,.func (PySem.W.fnOf x x (defArgs st) (defBody st) (defScope st) .none kV doc pm an cdv ct),osl⟩) (c:PySem.W.codeIn K cdv x = true) (k:PySem.W.keepIn K (.ref f) = true):DefIn K x st:=
 ⟨f,oc,od,kV,doc,pm,an,cdv,ct,osl,a,l,c,k⟩
structure Df (K:PySem.W.Frag) (mg:Str->Option Value) (x:Str) (st:Stmt) (f:Addr) (fd:FuncData):Prop where
 fn:Fun K x x st f fd
 mg:mg x = some (.ref f)
theorem DefIn.df {K:PySem.W.Frag} {h:Heap} {mg:Str->Option Value} {x:Str} {st:Stmt} (d:DefIn K x st) (X:K.In h) (G:h.Ns mainGlobals mg):∃ f fd,Df K mg x st f fd:=by
 obtain ⟨f,oc,od,kV,doc,pm,an,cdv,ct,osl,a,l,c,k⟩:=d
 exact ⟨f,_,fun_mk l c k,PySem.W.mg_of X G a⟩
end L2
namespace PySem.SeqAt
open MeetsSeq
open AutoSeq1 (wpAny_loadPart')
section
variable {A:Around} {s:Shared}
end
end PySem.SeqAt
namespace L2
open PySem PySem.Spec PyProof.Rows
section
variable {X:Cx} {pins:List (Addr × Obj)} {σ:St} {H:Hp} {s:Shared}
end
end L2
namespace My
open PySem L2 PyProof.Rows
theorem pos {j:Int} (h:decide ((0:Int) < j) = true):0 < j:=of_decide_eq_true h
def spWhole (K:PySem.W.Frag):Sp:=fun vs H Q _=>∃ (v:V) (n:String),vs = [v]/\Is K H v n/\Q (.bl (n == "int")) H
theorem boot_isi:bootBuiltins "isinstance" = some (.builtin "isinstance"):=by decide +kernel
theorem boot_int:bootBuiltins "int" = some (.type "int"):=by decide +kernel
theorem boot_bool:bootBuiltins "bool" = some (.type "bool"):=by decide +kernel
theorem boot_str:bootBuiltins "str" = some (.type "str"):=by decide +kernel
theorem boot_tuple:bootBuiltins "tuple" = some (.type "tuple"):=by decide +kernel
theorem boot_dict:bootBuiltins "dict" = some (.type "dict"):=by decide +kernel
structure Bl (mg:Str->Option Value):Prop where
 len:mg "len" = none
 isi:mg "isinstance" = none
 int:mg "int" = none
 bool:mg "bool" = none
 str:mg "str" = none
 all:mg "all" = none
 range:mg "range" = none
 abs:mg "abs" = none
 ord:mg "ord" = none
 list:mg "list" = none
 tuple:mg "tuple" = none
 dict:mg "dict" = none
 any:mg "any" = none
 sorted:mg "sorted" = none
 set:mg "set" = none
 enum:mg "enumerate" = none
structure BlK (K:PySem.W.Frag):Prop where
 len:PySem.W.nsIn K mainGlobals "len" = some none
 isi:PySem.W.nsIn K mainGlobals "isinstance" = some none
 int:PySem.W.nsIn K mainGlobals "int" = some none
 bool:PySem.W.nsIn K mainGlobals "bool" = some none
 str:PySem.W.nsIn K mainGlobals "str" = some none
 all:PySem.W.nsIn K mainGlobals "all" = some none
 range:PySem.W.nsIn K mainGlobals "range" = some none
 abs:PySem.W.nsIn K mainGlobals "abs" = some none
 ord:PySem.W.nsIn K mainGlobals "ord" = some none
 list:PySem.W.nsIn K mainGlobals "list" = some none
 tuple:PySem.W.nsIn K mainGlobals "tuple" = some none
 dict:PySem.W.nsIn K mainGlobals "dict" = some none
 any:PySem.W.nsIn K mainGlobals "any" = some none
 sorted:PySem.W.nsIn K mainGlobals "sorted" = some none
 set:PySem.W.nsIn K mainGlobals "set" = some none
 enum:PySem.W.nsIn K mainGlobals "enumerate" = some none
theorem BlK.bl {K:PySem.W.Frag} {h:Heap} {mg:Str->Option Value} (b:BlK K) (X:K.In h) (G:h.Ns mainGlobals mg):Bl mg:=
 ⟨PySem.W.mg_none_of X G b.len,PySem.W.mg_none_of X G b.isi,PySem.W.mg_none_of X G b.int,PySem.W.mg_none_of X G b.bool,PySem.W.mg_none_of X G b.str,PySem.W.mg_none_of X G b.all,PySem.W.mg_none_of X G b.range,PySem.W.mg_none_of X G b.abs,PySem.W.mg_none_of X G b.ord,PySem.W.mg_none_of X G b.list,PySem.W.mg_none_of X G b.tuple,PySem.W.mg_none_of X G b.dict,PySem.W.mg_none_of X G b.any,PySem.W.mg_none_of X G b.sorted,PySem.W.mg_none_of X G b.set,PySem.W.mg_none_of X G b.enum⟩
theorem iteB {b:Bool} {A B:Prop} (h:b = true) (a:A):if b = true then A else B:=by rw [if_pos h];exact a
theorem iteC {b:Bool} {A B:Prop} (h:b = false) (a:B):if b = true then A else B:=by rw [h,if_neg Bool.false_ne_true];exact a
def spLaw (K:PySem.W.Frag):Sp:=fun vs H Q _=>∃ (a:Addr) (ns:List Int),vs = [.ref a]/\SqL K H a (ns.map V.int)/\ns.length ≤ 63/\∀ H',Q (.bl true) H'
theorem walk (k:Nat) {l:PySem.W.OpenLaw} {q:Program} {loose:List Str} {XP:(Str->Option Value)->Heap->Prop} {YP:World->Heap->Prop} {d:DefRec} {K:Params->PySem.W.Frag} (hk:Room k callerA) (hn:l.most = some 63) (hdf:d.params.defaults = [])
  (hY:∀ (w:World) (h:Heap),YP w h->(K w.params).In h)
  (F:∀ (w:World) (mg:Str->Option Value) (fa:Addr) (h:Heap),(K w.params).In h->h.Ns mainGlobals mg->mg d.name = some (.ref fa) →
   ∃ fd:FuncData,(∀ (s:Shared) (u:Value),BindsTo s fd ⟨[u],[]⟩ [("_law_script",u)])/\∀ base:Heap,(K w.params).In base->base.Ns mainGlobals mg->FnOk l.prog w (K w.params) mg base CX0 k fa fd ["_law_script"] (spLaw (K w.params))) :
  PySem.W.WalkO q loose XP YP l.row.toRowW d [] (fun f vs=>PySem.call f vs):=
 L2.walk_of (n:=63) (k:=k) (x:="_law_script") (CX:=fun _=>CX0) (sp:=fun w=>spLaw (K w.params)) hn (by decide) hdf hk hY F (fun _ _ a ns hl _ hS=>⟨a,ns,rfl,hS,hl,fun _=>rfl⟩) fun _ _ _ _ _ z=>z
end My
namespace L2
open PySem PySem.Spec PyProof.Rows
section
variable {X:Cx}
theorem op_mulSI:OpR X (binaryOp .Mult) (fun x y H Q=>∃ (z:Str) (n:Nat),x = .str z/\y = .int n/\1 < n/\n < 1000/\0 < z.length/\z.length ≤ 10000/\Q (.str ⟨(List.replicate n z.cps).foldl (· ++ ·) #[]⟩) H):=by
 intro pins s σ H x y v u Q I rx ry h
 obtain ⟨z,n,rfl,rfl,h1,h2,h3,h4,q⟩:=h
 obtain ⟨t,rfl⟩:=rx
 obtain ⟨t',rfl⟩:=ry
 have e1:¬ ((n:Int) < 1):=by omega
 have e2:((n:Int) == 1 || z.length == 0) = false:=by
  rw [Bool.or_eq_false_iff,beq_eq_false_iff_ne,beq_eq_false_iff_ne]
  exact ⟨by omega,by omega⟩
 have hT:Builtin.Str.tooLong (z.length * (n:Int).toNat) = false:=by
  have hm:z.length * (n:Int).toNat ≤ 10000 * 1000:=Nat.mul_le_mul h4 (by omega)
  have hs:sizeLine = 16777216:=sizeLine_eq
  unfold PySem.Builtin.Str.tooLong
  exact decide_eq_false (by omega)
 refine P.mul_str (by rw [decide_eq_false (by omega),decide_eq_false (by omega)];rfl) (fun _ _=>?_) (fun _ _=>?_) ?_
 ·have:(1000:Int) ≤ (2 ^ 63 - 1) / (n:Int) / 10:=by
   rw [Int.ediv_ediv_of_nonneg (by omega)]
   apply Int.le_ediv_of_mul_le (by omega)
   omega
  omega
 ·exact hT
 ·rw [if_neg e1,if_neg (by rw [e2];decide)]
  refine ⟨fits_reps ?_,.str _,H,I.tok _,⟨_,rfl⟩,q⟩
  exact hT
end
end L2
namespace Nm
open PySem PySem.NumText PySem.W PyProof.Rows
end Nm
namespace L2
open PySem PySem.Spec PyProof.Rows
section
variable {n:Nat} {X:Cx} {st:Stmt} {rest:List Stmt} {t u:TS} {e a b:Expr} {te ta tb:TE} {pos:Pos}
end
section
variable {P:Program} {w:World} {K:PySem.W.Frag} {mg:Str->Option Value} {base:Heap}
end
section
variable {n:Nat} {X:Cx} {k:Nat} {f:Addr} {fd:FuncData} {ps:List Str} {sp:SpW} {x:Str} {p pos:Pos} {e:Expr} {es:List Expr} {t:TA}
end
end L2
namespace L2
open PySem PySem.Spec PyProof.Rows
section
variable {n:Nat} {X:Cx}
variable {osc scope:Scope} {N0 xs:List Str} {fr:List Nat} {elt tg iter:Expr} {ifs:List Expr} {pos:Pos} {wi:TI} {g:TG} {tt:TT} {te:TE}
end
end L2
namespace L2
open PySem PySem.Spec PyProof.Rows
section
variable {n:Nat} {X:Cx} {pins:List (Addr × Obj)} {s:Shared} {σ:St} {H:Hp}
end
end L2
namespace L2
open PySem PySem.Spec PyProof.Rows
section
variable {P:Program} {w:World} {K:PySem.W.Frag} {mg:Str->Option Value} {base:Heap}
end
end L2
namespace L2
open PySem PySem.Spec PyProof.Rows
end L2
namespace L2
open PySem
def Tb (h:Heap) (P:Addr->Prop) (x:Addr) (fl v:Value):Prop:=
 (v = .none/\fl = .none)\/∃ T oT ts,v = .ref T/\P T/\T ≠ x/\h.get? T = some oT/\oT.data = .fields ts/\ts[3]? = some fl
def XAt (h:Heap) (P:Addr->Prop) (x:Addr) (C:Value) (od:Option Addr) (fl:Value):Prop:=
 ∃ vs sl v1,h.get? x = some ⟨C,od,.fields vs,sl⟩/\vs[1]? = some v1/\Tb h P x fl v1
structure Nt (P:Addr->Prop) (fr:List Addr) (x:Addr) (h h':Heap):Prop where
 chg:∃ ch:List Addr,(∀ b ∈ ch,b = x\/P b/\∃ o vs,h.get? b = some o/\o.data = .fields vs)/\∀ b o,h.get? b = some o->b ∉ fr->b ∉ ch->h'.get? b = some o
 frm:∀ b o,h.get? b = some o->b ∈ fr->∃ sl,h'.get? b = some { o with slots:=sl }
 thr:∀ b o,h.get? b = some o->∃ o',h'.get? b = some o'
theorem Nt.refl {P:Addr->Prop} {fr:List Addr} {x:Addr} {h:Heap}:Nt P fr x h h:=⟨⟨[],(fun _ z=>absurd z (by simp)),fun _ _ e _ _=>e⟩,fun _ o e _=>⟨o.slots,e⟩,fun _ o e=>⟨o,e⟩⟩
section
variable {M:Model} {A:Around} {E:Value->Shared->Prop} {s:Shared} {base:Heap} {env:Env} {outer:List Env} {L x:Addr} {P:Addr->Prop} {C:Value} {od:Option Addr}
theorem entry_ok {vs:Array Value} {sl:Array (Option Value)} {head:Value} {had:Bool} {Q:Unit->Shared->Prop} (hfr:A.frames = some (env :: outer)) (hl:s.heap.FunFrames base (env :: outer)) (hf:env.frame = some L)
  (hx:s.heap.get? x = some ⟨C,od,.fields vs,sl⟩) (hsz:1 < vs.size) (hP:∀ T,s.heap.objs.size ≤ T->P T)
  (h:∀ h',Nt P ((env :: outer).filterMap (·.frame)) x s.heap h'->XAt h' P x C od (rawInt L)->Q () { s with heap:=h' }) :
  wpAny M A (do let a ← frameOf env;let pl ← entryPlaceOf L had;let b ← EntryCells.newEntry head a .none (rawInt L) .none pl;setField (.ref x) 1 b) Q E s:=by
 have nx:x ∉ (env :: outer).filterMap (·.frame):=fun hm=>by
  obtain ⟨_,o,ho,hnf⟩:=hl.mem hm
  rw [hx] at ho
  cases ho
  exact hnf vs rfl
 refine wpAny_bind (wpAny_frameOf_fun hfr hl hf fun h1 k1=>?_)
 refine wpAny_bind (wpAny_entryPlaceOf fun pl hpl=>?_)
 unfold EntryCells.newEntry newFields
 refine wpAny_bind (wpAny_newObj_type ?_ (hpl.sizeOk5 _ _ _ _ _))
 generalize ho:(⟨.type "traceback",none,.fields ([head,.ref L,.none,rawInt L,.none] ++ (if pl.isEmpty then List.replicate 6 Value.none else pl)).toArray,#[]⟩:Obj) = ob
 have x1:h1.get? x = some ⟨C,od,.fields vs,sl⟩:=(k1.2.1 x nx).trans hx
 have x2:(h1.push ob).get? x = some ⟨C,od,.fields vs,sl⟩:=Heap.get?_push_of_some _ x1
 have sz:h1.objs.size = s.heap.objs.size:=k1.1
 refine wpAny_setField x2 rfl hsz (h _ ?_ ?_)
 ·have other:∀ b o,b ≠ x->h1.get? b = some o->((h1.push ob).update x (Obj.mapFields (·.setIfInBounds 1 (.ref h1.objs.size)))).get? b = some o:=fun b o hb e=>by
   rw [Heap.get?_update_other _ _ (Ne.symm hb)]
   exact Heap.get?_push_of_some _ e
  refine ⟨⟨[x],fun b hb=>.inl (List.mem_singleton.mp hb),fun b o e hb hc=>?_⟩,fun b o e hb=>?_,fun b o e=>?_⟩
  ·exact other b o (fun z=>hc (by rw [z];exact List.mem_singleton.mpr rfl)) ((k1.2.1 b hb).trans e)
  ·obtain ⟨sl',e1⟩:=k1.2.2 b o e
   exact ⟨sl',other b _ (fun z=>nx (z ▸ hb)) e1⟩
  ·by_cases hb:b = x
   ·subst hb
    exact ⟨_,Heap.get?_update_self _ x2 rfl⟩
   ·obtain ⟨sl',e1⟩:=k1.2.2 b o e
    exact ⟨_,other b _ hb e1⟩
 ·have ne:h1.objs.size ≠ x:=Nat.ne_of_gt (Heap.lt_size x1)
  refine ⟨_,_,.ref h1.objs.size,Heap.get?_update_self _ x2 rfl,(by show (vs.setIfInBounds 1 _)[1]? = _;simp [hsz]),.inr ⟨h1.objs.size,ob,_,rfl,hP _ (by rw [sz];exact Nat.le_refl _),ne,?_,(by rw [← ho]),?_⟩⟩
  ·rw [Heap.get?_update_other _ _ (Ne.symm ne)]
   exact Heap.get?_push_size h1 (by rw [← ho];rfl)
  ·first | (simp;done) | (rcases hpl with rfl | ⟨_,_,_,_,_,_,_,rfl⟩ <;> simp)
theorem Nt.trans {fr:List Addr} {h h1 h2:Heap} (n1:Nt P fr x h h1) (n2:Nt P fr x h1 h2) (fresh:∀ b o,h.get? b = some o->b ∈ fr->∀ vs,o.data ≠ .fields vs):Nt P fr x h h2:=by
 obtain ⟨c1,p1,k1⟩:=n1.chg
 obtain ⟨c2,p2,k2⟩:=n2.chg
 refine ⟨⟨c1 ++ c2.filter (fun b=>(h.get? b).isSome),fun b hb=>?_,fun b o e hb hc=>?_⟩,fun b o e hb=>?_,fun b o e=>?_⟩
 ·rcases List.mem_append.mp hb with z | z
  ·exact p1 b z
  ·obtain ⟨z1,z2⟩:=List.mem_filter.mp z
   by_cases hb1:b ∈ c1
   ·exact p1 b hb1
   rcases p2 b z1 with q | ⟨q,o1,vs,e1,d1⟩
   ·exact .inl q
   ·refine .inr ⟨q,?_⟩
    cases g:h.get? b with
    | none=>rw [g] at z2;cases z2
    | some o=>
     by_cases hfr:b ∈ fr
     ·obtain ⟨sl,e2⟩:=n1.frm b o g hfr
      rw [e1] at e2
      cases e2
      exact absurd d1 (fresh b o g hfr vs)
     ·have e2:=k1 b o g hfr hb1
      rw [e1] at e2
      cases e2
      exact ⟨_,vs,rfl,d1⟩
 ·have m1:b ∉ c1:=fun z=>hc (List.mem_append_left _ z)
  have m2:b ∉ c2:=fun z=>hc (List.mem_append_right _ (List.mem_filter.mpr ⟨z,by rw [e];rfl⟩))
  exact k2 b o (k1 b o e hb m1) hb m2
 ·obtain ⟨sl,e1⟩:=n1.frm b o e hb
  obtain ⟨sl2,e2⟩:=n2.frm _ _ e1 hb
  exact ⟨sl2,e2⟩
 ·obtain ⟨o1,e1⟩:=n1.thr b o e
  exact n2.thr _ _ e1
theorem note_ok {Q:Unit->Shared->Prop} (hfr:A.frames = some (env :: outer)) (hl:s.heap.FunFrames base (env :: outer)) (hf:env.frame = some L)
  (hx:XAt s.heap P x C od .none) (hP:∀ T,s.heap.objs.size ≤ T->P T)
  (h:∀ h',Nt P ((env :: outer).filterMap (·.frame)) x s.heap h'->XAt h' P x C od (rawInt L)->Q () { s with heap:=h' }):wpAny M A (noteFrame (.ref x) env) Q E s:=by
 obtain ⟨vs,sl,v1,ex,e1,tb⟩:=hx
 have hsz:1 < vs.size:=(Array.getElem?_eq_some_iff.mp e1).1
 unfold noteFrame
 simp only [hf]
 refine wpAny_bind (wpAny_field ex rfl e1 ?_)
 rcases tb with ⟨rfl,_⟩ | ⟨T,oT,ts,rfl,pT,nT,eT,dT,fT⟩
 ·rw [if_neg (by decide)]
  exact entry_ok hfr hl hf ex hsz hP h
 ·rw [if_pos (show (Value.ref T != Value.none) = true from by simp)]
  refine wpAny_bind (wpAny_field eT dT fT ?_)
  rw [if_neg (show ¬ ((Value.none == rawInt L) = true) from by simp [rawInt])]
  refine wpAny_bind (wpAny_setField eT dT (Array.getElem?_eq_some_iff.mp fT).1 ?_)
  have oth:∀ b,b ≠ T->(s.heap.update T (Obj.mapFields (·.setIfInBounds 3 Value.none))).get? b = s.heap.get? b:=fun b hb=>Heap.get?_update_other _ _ (Ne.symm hb)
  have nrec:∀ b o,s.heap.get? b = some o->(∀ vs,o.data ≠ .fields vs)->b ≠ T:=fun b o hb hn q=>by
   rw [q,eT] at hb
   cases hb
   exact hn ts dT
  have hl':=hl.of_keeps (h':=s.heap.update T (Obj.mapFields (·.setIfInBounds 3 Value.none))) fun b o hb hn=>⟨o,(oth b (nrec b o hb hn)).trans hb,rfl⟩
  have frn:∀ b o,s.heap.get? b = some o->b ∈ (env :: outer).filterMap (·.frame)->∀ vs,o.data ≠ .fields vs:=fun b o e hb=>by
   obtain ⟨_,o',ho',hn⟩:=hl.mem hb
   rw [e] at ho'
   cases ho'
   exact hn
  have N1:Nt P ((env :: outer).filterMap (·.frame)) x s.heap (s.heap.update T (Obj.mapFields (·.setIfInBounds 3 Value.none))):=by
   refine ⟨⟨[T],fun b hb=>.inr ?_,fun b o e _ hc=>?_⟩,fun b o e hb=>⟨o.slots,?_⟩,fun b o e=>?_⟩
   ·rw [List.mem_singleton.mp hb]
    exact ⟨pT,oT,ts,eT,dT⟩
   ·exact (oth b fun z=>hc (by rw [z];exact List.mem_singleton.mpr rfl)).trans e
   ·exact (oth b (nrec b o e (frn b o e hb))).trans e
   ·by_cases hb:b = T
    ·rw [hb]
     exact ⟨_,Heap.get?_update_self _ eT (Obj.isFreed_of_fields (Obj.data_mapFields dT _))⟩
    ·exact ⟨o,(oth b hb).trans e⟩
  refine entry_ok (s:={ s with heap:=s.heap.update T (Obj.mapFields (·.setIfInBounds 3 Value.none)) }) hfr hl' hf ((oth x (Ne.symm nT)).trans ex) hsz (fun T' hT'=>hP T' (by rw [← Heap.size_after_update s.heap T];exact hT')) fun h' n' x'=>h h' (N1.trans n' frn) x'
theorem land_ok {fl:Value} {fr:List Addr} {Q:Unit->Shared->Prop} (hx:XAt s.heap P x C od fl) (frn:∀ b o,s.heap.get? b = some o->b ∈ fr->∀ vs,o.data ≠ .fields vs)
  (h:∀ h',Nt P fr x s.heap h'->XAt h' P x C od .none->Q () { s with heap:=h' }):wpAny M A (setFlight (.ref x) none) Q E s:=by
 obtain ⟨vs,sl,v1,ex,e1,tb⟩:=hx
 unfold setFlight
 refine wpAny_bind (wpAny_field ex rfl e1 ?_)
 rcases tb with ⟨rfl,_⟩ | ⟨T,oT,ts,rfl,pT,nT,eT,dT,fT⟩
 ·rw [if_neg (by decide)]
  exact wpAny_pure (h s.heap .refl ⟨vs,sl,_,ex,e1,.inl ⟨rfl,rfl⟩⟩)
 ·rw [if_pos (show (Value.ref T != Value.none) = true from by simp)]
  refine wpAny_setField eT dT (Array.getElem?_eq_some_iff.mp fT).1 (h _ ?_ ?_)
  ·refine ⟨⟨[T],fun b hb=>.inr ?_,fun b o e _ hc=>?_⟩,fun b o e hb=>⟨o.slots,?_⟩,fun b o e=>?_⟩
   ·rw [List.mem_singleton.mp hb]
    exact ⟨pT,oT,ts,eT,dT⟩
   ·rw [Heap.get?_update_other _ _ fun z=>hc (by rw [z];exact List.mem_singleton.mpr rfl)]
    exact e
   ·rw [Heap.get?_update_other _ _ fun z=>?_]
    ·exact e
    ·subst z
     rw [eT] at e
     cases e
     exact frn T oT eT hb ts dT
   ·by_cases hb:b = T
    ·rw [hb]
     exact ⟨_,Heap.get?_update_self _ eT (Obj.isFreed_of_fields (Obj.data_mapFields dT _))⟩
    ·exact ⟨o,by rw [Heap.get?_update_other _ _ (Ne.symm hb)];exact e⟩
  ·refine ⟨vs,sl,.ref T,by rw [Heap.get?_update_other _ _ nT];exact ex,e1,.inr ⟨T,_,_,rfl,pT,nT,Heap.get?_update_self _ eT (Obj.isFreed_of_fields (Obj.data_mapFields dT _)),Obj.data_mapFields dT _,?_⟩⟩
   have:=(Array.getElem?_eq_some_iff.mp fT).1
   simp [this]
theorem leave_ok {Q:Unit->Shared->Prop} (hfr:A.frames = some (env :: outer)) (hl:s.heap.FunFrames base (env :: outer)) (hf:env.frame = some L)
  (hx:XAt s.heap P x C od .none) (hP:∀ T,s.heap.objs.size ≤ T->P T)
  (h:∀ h',Nt P ((env :: outer).filterMap (·.frame)) x s.heap h'->XAt h' P x C od .none->Q () { s with heap:=h' }):wpAny M A (leaving env (.ref x)) Q E s:=by
 have frn:∀ b o,s.heap.get? b = some o->b ∈ (env :: outer).filterMap (·.frame)->∀ vs,o.data ≠ .fields vs:=fun b o e hb=>by
  obtain ⟨_,o',ho',hn⟩:=hl.mem hb
  rw [e] at ho'
  cases ho'
  exact hn
 unfold leaving
 refine wpAny_bind (note_ok hfr hl hf hx hP fun h1 n1 x1=>?_)
 refine land_ok (s:={ s with heap:=h1 }) (fr:=(env :: outer).filterMap (·.frame)) x1 (fun b o e hb=>?_) fun h2 n2 x2=>h h2 (n1.trans n2 frn) x2
 obtain ⟨_,o',ho',hn⟩:=hl.mem hb
 obtain ⟨sl,e1⟩:=n1.frm b o' ho' hb
 have e':h1.get? b = some o:=e
 rw [e1] at e'
 cases e'
 exact hn
end
end L2
namespace L2
open PySem PySem.Spec PyProof.Rows
theorem Tb.imp {h:Heap} {P P':Addr->Prop} {x:Addr} {fl v:Value} (t:Tb h P x fl v) (k:∀ b,P b->P' b):Tb h P' x fl v:=by
 rcases t with z | ⟨T,oT,ts,a,b,c⟩
 ·exact .inl z
 ·exact .inr ⟨T,oT,ts,a,k T b,c⟩
theorem XAt.imp {h:Heap} {P P':Addr->Prop} {x:Addr} {C:Value} {od:Option Addr} {fl:Value} (t:XAt h P x C od fl) (k:∀ b,P b->P' b):XAt h P' x C od fl:=by
 obtain ⟨vs,sl,v1,a,b,c⟩:=t
 exact ⟨vs,sl,v1,a,b,c.imp k⟩
structure Our (X:Cx) (pins:List (Addr × Obj)) (H:Hp) (b:Addr):Prop where
 new:X.s₀.heap.objs.size ≤ b
 loc:b ≠ X.env.locals
 cel:∀ y c,X.env.cells.lookup y = some c->c ≠ b
 pin:∀ p ∈ X.pn ++ pins,p.1 ≠ b
 unt:H b = none
section
variable {X:Cx} {pins:List (Addr × Obj)} {σ:St} {H H':Hp} {s s':Shared} {x b:Addr} {C:Value} {od:Option Addr}
theorem Inv.our' (I:Inv X pins σ H s) (h:s.heap.objs.size ≤ b) (hn:H' b = none):Our X pins H' b:=by
 have lt:∀ c o,s.heap.get? c = some o->c ≠ b:=fun c o e z=>by
  subst z
  exact absurd (Nat.lt_of_lt_of_le (Heap.lt_size e) h) (Nat.lt_irrefl _)
 refine ⟨Nat.le_trans I.sz h,fun z=>?_,fun y c e=>?_,fun p hp=>?_,hn⟩
 ·obtain ⟨m,⟨o,_,_,ho,_⟩,_⟩:=I.loc
  exact lt _ o ho z.symm
 ·obtain ⟨v,o,ho,_⟩:=I.cell y c e
  exact lt c o ho
 ·exact lt p.1 _ (I.pin p hp).1
theorem Inv.our (I:Inv X pins σ H s) (h:s.heap.objs.size ≤ b):Our X pins H b:=I.our' h (I.hok.fresh h)
theorem Inv.noted {h':Heap} (I:Inv X pins σ H s) (hx:Our X pins H x) (n:Nt (Our X pins H) (frs X.stack) x s.heap h'):Inv X pins σ H { s with heap:=h' }:=by
 obtain ⟨ch,pc,kc⟩:=n.chg
 have oc:∀ b ∈ ch,Our X pins H b:=fun b hb=>by
  rcases pc b hb with z | z
  ·rw [z];exact hx
  ·exact z.1
 have nfs:∀ b,b ≠ X.env.locals->b ∉ X.fs->b ∉ frs X.stack:=fun b h1 h2 z=>by
  rcases List.mem_cons.mp (I.stkSub b z) with q | q
  ·exact h1 q
  ·exact h2 q
 refine I.step (g':=s.gens) (d':=s.drawn) (t':=s.toks) (ch:=ch) (fun b hb=>⟨.inr (oc b hb).new,(oc b hb).loc,(oc b hb).cel,(oc b hb).pin⟩) (fun b o h1 h2 h3 e _=>kc b o e (nfs b h1 h2) h3) (fun b o _ _ h3 e _=>?_) (fun _ _ _ _ z=>z)
  (fun b o _ e=>n.thr b o e) (fun _ _ e=>e) (fun _ _ _ e=>e) (fun b ps e=>⟨#[],by rw [e];simp⟩) (fun m hm=>?_) (fun a o e=>?_) I.bare
 ·by_cases hf:b ∈ frs X.stack
  ·exact n.frm b o e hf
  ·exact ⟨o.slots,kc b o e hf h3⟩
 ·obtain ⟨o,es,ep,ho,hd,r⟩:=hm
  by_cases hf:X.env.locals ∈ frs X.stack
  ·obtain ⟨sl,e⟩:=n.frm _ o ho hf
   exact ⟨_,es,ep,e,hd,r⟩
  ·exact ⟨o,es,ep,kc _ o ho hf (fun z=>(oc _ z).loc rfl),hd,r⟩
 ·refine (I.hok a o e).stay (fun c u hc q=>kc c u q ?_ ?_) (fun _ q=>q) fun _ _ q=>q
  ·intro z
   have:=I.stkFree c z
   rcases hc with rfl | hc
   ·rw [this] at e;cases e
   ·rw [this] at hc;cases hc
  ·intro z
   have:=(oc c z).unt
   rcases hc with rfl | hc
   ·rw [this] at e;cases e
   ·rw [this] at hc;cases hc
theorem Inv.leave {M:Model} {E:Value->Shared->Prop} {Q:Unit->Shared->Prop} (I:Inv X pins σ H s) (hst:X.stack = X.env :: X.outer) (hf:X.env.frame = some X.env.locals) (hx:Our X pins H x) (xa:XAt s.heap (Our X pins H) x C od .none)
  (h:∀ s',Inv X pins σ H s'->XAt s'.heap (Our X pins H) x C od .none->Q () s'):wpAny M X.A (leaving X.env (.ref x)) Q E s:=
 leave_ok (base:=X.base) (by rw [I.ok.frames,hst]) (by rw [← hst];exact I.stack) hf xa (fun T hT=>I.our hT) fun h' n xa'=>h _ (I.noted hx (by rw [hst];exact n)) xa'
end
def CX1 (P:Program) (w:World):CXT:=fun outer H s E e s'=>∃ x C od H',e = .ref x/\s'.os = s.os/\AllBare s'.gens/\Un (frs outer) [] H H' s.heap s'.heap/\HOk P w H' s'.heap/\s.heap.objs.size ≤ x/\H' x = none ∧
 XAt s'.heap (fun T=>s.heap.objs.size ≤ T/\H' T = none) x C od .none/\E C od H'
abbrev XS:=Value->Option Addr->St->Hp->Prop
def Lands (X:Cx) (E:XS):Prop:=∀ (pins:List (Addr × Obj)) (σ:St) (H:Hp) (s:Shared) (x:Addr) (C:Value) (od:Option Addr),Inv X pins σ H s->Our X pins H x->XAt s.heap (Our X pins H) x C od .none->E C od σ H->X.xe (.ref x) s
theorem lands_cx {P:Program} {w:World} {K:PySem.W.Frag} {mg:Str->Option Value} {base:Heap} {N:List Str} {qual:Str} {scope:Scope} {f:Addr} {cd:Value} {A:Around} {outer:List Env} {s₀:Shared} {H₀:Hp} {E:XK} :
  Lands (cxOf (CX1 P w) P w K mg base N qual scope f cd A outer s₀ H₀ E) (fun C od _ H=>E C od H):=by
 intro pins σ H s x C od I hx xa q
 exact I.leave (Q:=fun _ s''=>CX1 P w outer H₀ s₀ E (.ref x) s'') rfl rfl hx xa fun s' I' xa'=>⟨x,C,od,H,rfl,I'.os,I'.bare,I'.base,I'.hok,hx.new,hx.unt,xa'.imp fun T o=>⟨o.new,o.unt⟩,q⟩
theorem Lands.pass {X:Cx} {E:XS} (L:Lands X E) {pins:List (Addr × Obj)} {σ:St} {H:Hp} {s s':Shared} {e:Value} (I:Inv X pins σ H s) (h:CX1 X.prog X.w X.stack H s (fun C od H'=>E C od σ H') e s'):X.xe e s':=by
 obtain ⟨x,C,od,H',rfl,os,bare,un,hok,nx,hx,xa,q⟩:=h
 have I':Inv X pins σ H' s':=I.call' os un hok bare (fun b z=>absurd z (by simp))
 exact L pins σ H' s' x C od I' (I.our' nx hx) (xa.imp fun T z=>I.our' z.1 z.2) q
section
variable {X:Cx} {k:Nat} {f C:Addr} {fd:FuncData} {ps:List Str} {sp:Sp} {dvs:List V} {ds:List Value} {E:XS} {x m:Str} {p pos apos:Pos} {e o:Expr} {es:List Expr} {ta:TE} {t:TA}
theorem run_fnX {pins:List (Addr × Obj)} {σ:St} {H:Hp} {s:Shared} {Q:VK} {us:List Value} {vs:List V} (F:FnOk X.prog X.w X.K X.mg X.base (CX1 X.prog X.w) k f fd ps sp) (hr:Room k X.A) (hb:Binds X.K fd ps ds) (hd:Vals dvs ds) (L:Lands X E)
  (I:Inv X pins σ H s) (r:Vals vs us) (h:sp (vs ++ dvs) H Q (fun C od H'=>E C od σ H')):wpAny (model X.prog X.w) X.A (call (.ref f) us) (EP X pins σ Q) X.xe s:=by
 have r2:Vals (vs ++ dvs) (us ++ ds):=r.append hd
 have hl:(us ++ ds).length = ps.length:=by rw [← r2.length];exact F.len _ _ _ _ h
 refine wpAny_call (codeAny_mono (F.run X.A X.stack s H ⟨us,[]⟩ (us ++ ds) (vs ++ dvs) Q _ hr I.env0 (hb s us I.kIn hl) r2 h) fun r s' hq=>?_)
 cases r with
 | error e=>exact L.pass I hq
 | ok fl=>
  cases fl with
  | ret u=>exact I.after hq
  | next=>exact False.elim hq
  | brk=>exact False.elim hq
  | cont=>exact False.elim hq
def tCallX (sp:Sp) (dvs:List V) (E:XS) (t:TA):TE:=fun σ H Q=>t σ H fun vs H1=>sp (vs ++ dvs) H1 Q (fun C od H'=>E C od σ H')
def tMethX (C:Addr) (m:Str) (sp:Sp) (dvs:List V) (E:XS) (ta:TE) (t:TA):TE:=fun σ H Q=>ta σ H fun x H1=>∃ a dx fs,x = .ref a/\H1 a = some (.ins C dx fs)/\fs.lookup m = none ∧
 t σ H1 fun vs H2=>sp (x :: (vs ++ dvs)) H2 Q (fun C od H'=>E C od σ H')
theorem pe_callX (F:FnOk X.prog X.w X.K X.mg X.base (CX1 X.prog X.w) k f fd ps sp) (hr:Room k X.A) (hg:Gl X x) (hm:X.mg x = some (.ref f)) (hk:PySem.W.keepIn X.K (.ref f) = true) (hb:Binds X.K fd ps ds) (hd:Vals dvs ds) (L:Lands X E)
  (ha:PA X (e :: es) t) (hdb:(x == ("__debug__":Str)) = false:=by decide) (he:starEach (e :: es) X.env = (false,eval e X.env) :: starEach es X.env:=by rfl) (hpl:(backTo pos (starEach es X.env)).any (·.1) = false:=by rfl) :
  PE X (.Call (.Name x p) (e :: es) [] pos) (tCallX sp dvs E t):=by
 intro pins s σ H Q I h
 refine wpAny_Call_Name_kw (ld_glob I hg hm ?_ hdb)
 refine PySem.W.callWith_K (h₀:=X.base) I.ok.mod.kin hk (thn (ha pos pins s σ H _ I h) fun us s1 ⟨vs,H1,I1,r,q⟩=>⟨I1.kIn,?_⟩) he hpl
 exact run_fnX F hr hb hd L I1 r q
theorem pe_methX {pl:Sem Bool} (he:PE X o ta) (c:Cls X.K C) (hm:Meth X.K C m f) (F:FnOk X.prog X.w X.K X.mg X.base (CX1 X.prog X.w) k f fd ps sp) (hr:Room k X.A) (hb:Binds X.K fd ps ds) (hd:Vals dvs ds) (L:Lands X E) (ha:PA X (e :: es) t)
  (hst:starEach (e :: es) X.env = (false,eval e X.env) :: starEach es X.env:=by rfl) (hpl:(backTo pos (starEach es X.env)).any (·.1) = false:=by rfl)
  (ht:eval (.Call (.Attribute o m apos) (e :: es) [] pos) X.env = (do
   let ov ← eval o X.env
   standAt apos.atName
   let (f,first) ← holding [ov] (getMethod ov m pl)
   callWith pos f first (backTo pos (starEach (e :: es) X.env)) (backToKw pos (keywordEach [] X.env))):=by rfl) :
  PE X (.Call (.Attribute o m apos) (e :: es) [] pos) (tMethX C m sp dvs E ta t):=by
 intro pins s σ H Q I h
 refine PySem.W.methodCall_KW (pl:=pl) (thn (he pins s σ H _ I h) fun u s1 ⟨x,H1,I1,rx,a,dx,fs,ex,ea,l,q⟩=>?_) ht
 subst ex
 obtain rfl:u = Value.ref a:=rx
 refine getmeth_ok I1 ea c hm l ?_
 refine PySem.W.callWith_K (first:=[.ref a]) (h₀:=X.base) I.ok.mod.kin hm.kp (thn (ha pos pins s1 σ H1 _ I1 q) fun us s2 ⟨vs,H2,I2,r,q2⟩=>⟨I2.kIn,?_⟩) hst hpl
 exact run_fnX (us:=.ref a :: us) (vs:=.ref a :: vs) F hr hb hd L I2 (.cons rfl r) q2
end
end L2
namespace L2
open PySem PySem.Spec PyProof.Rows Builtin Builtin.ObjectAttr
abbrev bmV:List Value:=[.type "ValueError",.type "Exception",.type "BaseException",.type "object"]
def tailV:List Value->Bool
 | []=>false
 | v :: r=>(v :: r) == bmV || match v with | .ref _=>tailV r | _=>false
theorem tailV_has {X:String} {b:Bool} (hb:bmV.contains (.type X) = b):∀ {l:List Value},tailV l = true->l.contains (.type X) = b
 | [],e=>by cases e
 | v :: r,e=>by
  unfold tailV at e
  rcases Bool.or_eq_true_iff.mp e with q | q
  ·rw [beq_iff_eq.mp q];exact hb
  ·cases v with
   | ref a=>
    have q':tailV r = true:=q
    rw [List.contains_cons,tailV_has hb q']
    rfl
   | _=>exact Bool.noConfusion q
theorem tailV_pass (self:Value):∀ {l:List Value},tailV l = true->refuseLoop self "__setattr__" l = pure ()
 | [],e=>by cases e
 | v :: r,e=>by
  unfold tailV at e
  rcases Bool.or_eq_true_iff.mp e with q | q
  ·rw [beq_iff_eq.mp q];exact PySem.F.store_ValueError.passes self
  ·cases v with
   | ref a=>
    rw [refuseLoop_ref]
    exact tailV_pass self (l:=r) q
   | _=>exact Bool.noConfusion q
structure XCl (K:PySem.W.Frag) (C:Addr):Prop where
 at_:∃ (nm q:Str) (N:Addr) (bs bm:List Value) (sn:List Str) (sub:List Value) (ab:Bool) (col:Option Bool) (dd:Option Addr) (k0 k1 k2 k3 k5:Option Value),K.lookup C = some (excClassObj nm q C N bs bm true sn sub ab col dd k0 k1 k2 k3 k5 "ValueError.__new__")/\tailV bm = true
 ga:PySem.W.findIn K (.ref C) "__getattribute__" = some (some (.builtin "BaseException.__getattribute__"))
 gx:PySem.W.findIn K (.ref C) "__getattr__" = some none
 sa:PySem.W.findIn K (.ref C) "__setattr__" = some (some (.builtin "object.__setattr__"))
 kp:PySem.W.keepIn K (.ref C) = true
theorem xcl_mk {K:PySem.W.Frag} {C N:Addr} {nm q:Str} {bs bm:List Value} {sn:List Str} {sub:List Value} {ab:Bool} {col:Option Bool} {dd:Option Addr} {k0 k1 k2 k3 k5:Option Value}
  (l:K.lookup C = some (excClassObj nm q C N bs bm true sn sub ab col dd k0 k1 k2 k3 k5 "ValueError.__new__")) (t:tailV bm = true) (ga:PySem.W.findIn K (.ref C) "__getattribute__" = some (some (.builtin "BaseException.__getattribute__")))
  (gx:PySem.W.findIn K (.ref C) "__getattr__" = some none) (sa:PySem.W.findIn K (.ref C) "__setattr__" = some (some (.builtin "object.__setattr__"))) (kp:PySem.W.keepIn K (.ref C) = true):XCl K C:=
 ⟨⟨nm,q,N,bs,bm,sn,sub,ab,col,dd,k0,k1,k2,k3,k5,l,t⟩,ga,gx,sa,kp⟩
section
variable {prog:Program} {w:World} {A:Around} {E:Value->Shared->Prop} {h:Heap} {g:Array GenState} {d:Drawn} {t:Nat} {os:OsState}
variable {nm q:Str} {C N:Addr} {bs bm:List Value} {sn:List Str} {sub:List Value} {ab:Bool} {col:Option Bool} {dd:Option Addr} {k0 k1 k2 k3 k5:Option Value}
theorem xck_new {M:Model} {rest:List Value} {Q:Unit->Shared->Prop} (tv:tailV bm = true) (hC:h.get? C = some (excClassObj nm q C N bs bm true sn sub ab col dd k0 k1 k2 k3 k5 "ValueError.__new__"))
  (hq:Q () ⟨h,g,d,t,os⟩):wpAny M A (checkBuiltinCall "ValueError.__new__" ⟨.ref C :: rest,[]⟩) Q E ⟨h,g,d,t,os⟩:=by
 have F:=PySem.F.excBase_ValueError
 have hc:(Value.ref C :: bm).contains (.type "ValueError") = true:=by rw [List.contains_cons,tailV_has (X:="ValueError") rfl tv];rfl
 have ns:=F.noStar
 simp only [checkBuiltinCall,F.newKind,F.newSplit,F.newRow]
 repeat (first | refine wpAny_loadPart_at hC ?_ | (refine wpAny_isSubtype_exc hC ?_;rw [hc]) | refine wpAny_staticBase_exc hC ?_ | refine wpAny_madeBy_exc hC ?_ | simp only [bne_self_eq_false,Bool.false_eq_true,if_false] | wp_step)
 exact hq
abbrev xTup (rest:List Value):Obj:={ cls:=.type "tuple",data:=.seq rest.toArray }
abbrev xObj (C:Addr) (od:Option Addr) (t:Addr):Obj:=⟨.ref C,od,.fields #[.ref t,.none,.none,.none,.bool false,.none],#[]⟩
theorem xnew {R:Result->Shared->Prop} {rest:List Value} (tv:tailV bm = true) (hC:h.get? C = some (excClassObj nm q C N bs bm true sn sub ab col dd k0 k1 k2 k3 k5 "ValueError.__new__"))
  (hq:R (.ok (.ret (.ref (h.objs.size + 1)))) ⟨(h.push (xTup rest)).push (xObj C none h.objs.size),g,d,t,os⟩) (hrest:rest.length ≤ sizeLine) :
  codeAny (model prog w) A (.builtin "ValueError.__new__" ⟨.ref C :: rest,[]⟩) R ⟨h,g,d,t,os⟩:=by
 have F:=PySem.F.excBase_ValueError
 have fe:=F.ends
 have c1:(Value.ref C :: bm).contains (.type "ValueError") = true:=by rw [List.contains_cons,tailV_has (X:="ValueError") rfl tv];rfl
 have c2:(Value.ref C :: bm).contains (.type "AttributeError") = false:=by rw [List.contains_cons,tailV_has (X:="AttributeError") rfl tv];rfl
 have c3:(Value.ref C :: bm).contains (.type "NameError") = false:=by rw [List.contains_cons,tailV_has (X:="NameError") rfl tv];rfl
 refine codeAny_builtinAt F.entry ?_
 unfold Builtin.«BaseException.__new__»
 refine PySem.wpAt_bind ?_
 show PySem.wpAt _ _ _ (stack >>= _) _ _ _
 refine PySem.wpAt_bind (PySem.wpAt_stack fun p below=>PySem.wpAt_of_wpAny ?_)
 wp_walk
 refine PySem.wpAt_of_wpAny ?_
 rw [F.owner]
 repeat (first | with_reducible refine wpAny_madeHere_exc F.canon hC ?_ | with_reducible refine wpAny_loadPart_at hC ?_ | (with_reducible refine wpAny_isSubtype_exc hC ?_;first | rw [c1] | rw [c2] | rw [c3]) | wp_step)
 show R _ _
 rw [Heap.size_push]
 exact hq
theorem xtype_call {rest:List Value} {fI:Addr} {oI:Obj} {Q:Fin->Shared->Prop} (tv:tailV bm = true) (hC:h.get? C = some (excClassObj nm q C N bs bm true sn sub ab col dd k0 k1 k2 k3 k5 "ValueError.__new__"))
  (hi:PySem.W.Looks (model prog w) h (typeLookup (.ref C) "__init__") (some (.ref fI))) (hf:h.get? fI = some oI) (hfc:oI.cls = .type "function") (hrest:rest.length ≤ sizeLine)
  (hq:wpAny (model prog w) A (call (.ref fI) (.ref (h.objs.size + 1) :: rest)) (fun r s'=>r = .none/\Q (.done (.ret (.ref (h.objs.size + 1)))) s') E ⟨(h.push (xTup rest)).push (xObj C none h.objs.size),g,d,t,os⟩) :
  wpAny (model prog w) A (Builtin.«type.__call__» ⟨.ref C :: rest,[]⟩) Q E ⟨h,g,d,t,os⟩:=by
 have F:=PySem.F.excBase_ValueError
 repeat (first | with_reducible refine wpAny_loadPart_at hC ?_ | with_reducible refine wpAny_madeBy_exc hC ?_ | wp_step)
 refine codeAny_call_builtin_code (Code.quiet_builtin _ F.quiet) (xck_new tv hC ?_)
 refine xnew tv hC ?_ hrest
 show wpAny _ _ _ _ _ _
 have kp:∀ b o,h.get? b = some o->((h.push (xTup rest)).push (xObj C none h.objs.size)).get? b = some o:=fun b o e=>Heap.get?_push_of_some _ (Heap.get?_push_of_some _ e)
 have hg2:((h.push (xTup rest)).push (xObj C none h.objs.size)).get? (h.objs.size + 1) = some (xObj C none h.objs.size):=by
  have:=Heap.get?_push_size (h.push (xTup rest)) (o:=xObj C none h.objs.size) rfl
  rwa [Heap.size_push] at this
 have hcC:(Value.ref C :: bm).contains (.ref C) = true:=by simp
 unfold isInstance
 repeat (first | with_reducible refine wpAny_loadPart_at hg2 ?_ | (with_reducible refine wpAny_isSubtype_exc (kp _ _ hC) ?_;rw [hcC]) | wp_step)
 show wpAny _ _ (typeLookup (.ref C) _) _ _ _
 refine hi _ _ _ _ kp ?_
 refine wpAny_holding (wpAny_bind ?_)
 unfold bindSpecial
 refine wpAny_bind (wpAny_typeOf (T:="function") ⟨_,kp _ _ hf,hfc⟩ ?_)
 rw [if_pos (by decide)]
 refine wpAny_pure (wpAny_bind (wpAny_mono hq (fun r s' hr=>?_) fun _ _ x=>x))
 obtain ⟨rfl,hQ⟩:=hr
 wp_walk
 exact hQ
theorem xcall {rest:List Value} {fI:Addr} {oI:Obj} {Q:Value->Shared->Prop} (tv:tailV bm = true) (hC:h.get? C = some (excClassObj nm q C N bs bm true sn sub ab col dd k0 k1 k2 k3 k5 "ValueError.__new__"))
  (hi:PySem.W.Looks (model prog w) h (typeLookup (.ref C) "__init__") (some (.ref fI))) (hf:h.get? fI = some oI) (hfc:oI.cls = .type "function") (hrest:rest.length ≤ sizeLine)
  (hq:wpAny (model prog w) (A.under (.builtin "type.__call__" ⟨.ref C :: rest,[]⟩)) (call (.ref fI) (.ref (h.objs.size + 1) :: rest)) (fun r s'=>r = .none/\Q (.ref (h.objs.size + 1)) s') E ⟨(h.push (xTup rest)).push (xObj C none h.objs.size),g,d,t,os⟩) :
  wpAny (model prog w) A (call (.ref C) rest) Q E ⟨h,g,d,t,os⟩:=by
 have f1:=tc_lookup
 have f2:=tc_bind (.ref C)
 have hT:(⟨h,g,d,t,os⟩:Shared).TypeIs (.ref C) "type":=⟨_,hC,rfl⟩
 refine wpAny_call (codeAny_of_tree ?_)
 show wpAny _ _ (callAny (.ref C) _) _ _ _
 repeat (any_goals (first | assumption | with_reducible refine wpAny_loadPart_at hC ?_ | wp_step))
 refine ⟨rfl,?_⟩
 exact codeAny_call_builtin_at (Code.quiet_builtin _ (by decide +kernel)) entry_typeCall (wpAny_check_type_call_sub hC (xtype_call tv hC hi hf hfc hrest hq))
theorem xraise {M:Model} {s:Shared} {env:Env} {x:Sem Value} {Q:Flow->Shared->Prop} (hh:A.handled = none)
  (hx:wpAny M A x (fun v s₁=>∃ e C nm q N bs bm sn sub ab col dd k0 k1 k2 k3 k5 od t0,v = .ref e/\s₁.heap.get? C = some (excClassObj nm q C N bs bm true sn sub ab col dd k0 k1 k2 k3 k5 "ValueError.__new__")/\tailV bm = true/\s₁.heap.get? e = some (xObj C od t0)/\E (.ref e) s₁) E s) :
  wpAny M A (raiseStmt env (some x) none) Q E s:=by
 unfold raiseStmt
 refine wpAny_bind (wpAny_mono hx (fun v s₁ h₁=>?_) fun _ _ z=>z)
 obtain ⟨e,C,nm,q,N,bs,bm,sn,sub,ab,col,dd,k0,k1,k2,k3,k5,od,t0,rfl,hC,tv,he,hE⟩:=h₁
 obtain ⟨hp,g,d,tk,os⟩:=s₁
 have hb:(Value.ref C :: bm).contains (.type "BaseException") = true:=by rw [List.contains_cons,tailV_has (X:="BaseException") rfl tv];rfl
 repeat (first | with_reducible refine wpAny_loadPart_at he ?_ | with_reducible refine wpAny_loadPart_at hC ?_ | (with_reducible refine wpAny_isSubtype_exc hC ?_;rw [hb]) | wp_step)
 exact wpAny_raiseNew_none hh hE
end
section
variable {prog:Program} {w:World} {A:Around} {E:Value->Shared->Prop} {s:Shared} {K:PySem.W.Frag} {x C dx t0:Addr} {name:Str} {v:Value}
theorem XCl.cls (c:XCl K C):∃ cd bm,PySem.W.clsIn K C = some cd/\cd.mro = .ref C :: bm/\tailV bm = true/\cd.hasDict = true:=by
 obtain ⟨nm,q,N,bs,bm,sn,sub,ab,col,dd,k0,k1,k2,k3,k5,l,tv⟩:=c.at_
 have e:PySem.W.clsIn K C = some ⟨nm,bs,.ref C :: bm,N,q,true,sn,sub,ab,col,false⟩:=by
  unfold PySem.W.clsIn
  rw [l]
 exact ⟨_,bm,e,rfl,tv,rfl⟩
theorem xosa {ox:Obj} {od:Option Obj} {tk:Tok} {R:Result->Shared->Prop} (Xk:K.In s.heap) (I:PySem.W.InstAt s.heap x ox C od) (c:XCl K C) (n:PySem.W.findIn K (.ref C) name = some none)
  (h:wpAny (model prog w) A.in1 (storeInOwnDict (.ref x) (.ref C) (.str name tk) name v false)
   (fun fin s'=>match fin with | .done f=>R (.ok f) s' | .again c'=>c'.quiet = true/\codeAny (model prog w) A c' R s') (fun e s'=>R (.error e) s') s) :
  codeAny (model prog w) A (.call (.builtin "object.__setattr__") ⟨[.ref x,.str name tk,v],[]⟩) R s:=by
 have SF:=PySem.F.store_ValueError
 obtain ⟨cd,bm,hc,hm,tv,_⟩:=c.cls
 have sub:PySem.W.Looks (model prog w) s.heap (isInstance (.ref x) (.type "object")) true:=I.type.andThen (PySem.W.looks_mroIn Xk (by
  unfold PySem.W.mroIn
  rw [hc,Option.bind_some,hm]
  show some (List.contains _ _) = _
  rw [List.contains_cons,tailV_has (X:="object") rfl tv]
  rfl))
 refine codeAny_call_builtin SF.slot.plain SF.entry (@PySem.W.check_slot (model prog w) _ _ s "object.__setattr__" "object" "__setattr__" (.ref x) [.str name tk,v] [] _ SF.kind SF.split sub (SF.args (.ref x) (.str name tk) v) ?_)
 have lm:PySem.W.Looks (model prog w) s.heap (mroOf (.ref C)) cd.mro:=(PySem.W.looks_clsIn Xk hc).andThen .now
 rw [PySem.W.osa_eq,refuse_eq]
 refine wpAny_bind (wpAny_bind (I.type.here (wpAny_bind (lm.here ?_))))
 rw [hm,refuseLoop_ref,tailV_pass _ tv]
 refine wpAny_pure (wpAny_bind (I.type.here (wpAny_bind ((PySem.W.looks_findIn Xk n).here (wpAny_bind (PySem.W.Looks.here (r:=none) .now ?_))))))
 exact h
theorem xput_new {Q:Unit->Shared->Prop} (Xk:K.In s.heap) (c:XCl K C) (n:PySem.W.findIn K (.ref C) name = some none) (hx:s.heap.get? x = some (xObj C none t0))
  (hq:∀ h' tk',h'.get? x = some (xObj C (some s.heap.objs.size) t0)->h'.Ns1 s.heap.objs.size (fun y=>if y = name then some v else none)->(∀ b o,b ≠ x->s.heap.get? b = some o->h'.get? b = some o)->Q () { s with heap:=h',toks:=tk' }) :
  wpAny (model prog w) A (setAttr (.ref x) name v) Q E s:=by
 obtain ⟨h,g,d,t,os⟩:=s
 obtain ⟨cd,bm,hc,hm,tv,hd⟩:=c.cls
 have J:PySem.W.InstAt h x (xObj C none t0) C none:=⟨hx,rfl,rfl,trivial⟩
 refine PySem.W.set_plain (s:=⟨h,g,d,t,os⟩) Xk J c.sa (xosa (s:=⟨h,g,d,t + 1,os⟩) Xk J c n ?_)
 refine wpAny_bind (wpAny_pure (wpAny_bind (wpAny_bind (wpAny_loadPart_at hx (wpAny_bind (PySem.W.Looks.here (s:=⟨h,g,d,t + 1,os⟩) (PySem.W.looks_clsIn Xk hc) ?_))))))
 rw [hd]
 have hx1:(h.push { cls:=.type "dict",data:=.dict #[] }).get? x = some (xObj C none t0):=Heap.get?_push_of_some _ hx
 have hxs:x ≠ h.objs.size:=Nat.ne_of_lt (Heap.lt_size hx)
 refine wpAny_bind (wpAny_alloc' ?_)
 refine wpAny_bind (wpAny_update' hx1 ?_)
 refine wpAny_pure ?_
 have g1:((h.push { cls:=.type "dict",data:=.dict #[] }).update x fun o=>{ o with dict:=some h.objs.size }).get? h.objs.size = some { cls:=.type "dict",data:=.dict #[] }:=
  (Heap.get?_update_ne _ _ _ _ hxs.symm).trans (Heap.get?_push_at rfl rfl)
 have g2:((h.push { cls:=.type "dict",data:=.dict #[] }).update x fun o=>{ o with dict:=some h.objs.size }).get? x = some (xObj C (some h.objs.size) t0):=Heap.get?_update_self _ hx1 rfl
 have gn:((h.push { cls:=.type "dict",data:=.dict #[] }).update x fun o=>{ o with dict:=some h.objs.size }).Ns h.objs.size (fun _=>none):=⟨_,#[],_,g1,rfl,fun e he=>absurd he (by simp),fun _=>rfl⟩
 show wpAny _ _ (storeInDict h.objs.size (.str name t) name v) _ _ _
 unfold storeInDict newKeyGuard
 refine wpAny_bind (wpAny_pure (wpAny_bind (wpAny_nsSet1 (Heap.Ns1.of_empty gn) fun h' n' sb=>?_)))
 obtain ⟨oD,esD,epD,hoD,hdD,hcD⟩:=n'.count (Within.cons name v Within.nil)
 refine wpAny_bind (wpAny_lookBehind hoD (by rw [hdD];exact pastItsLine_dict (Nat.le_trans hcD (by rw [List.length_cons,List.length_nil,sizeLine_eq];omega))) ?_)
 refine wpAny_pure (hq h' _ ((sb.2 x hxs).trans g2) n' fun b o hb e=>?_)
 exact (sb.2 b (Nat.ne_of_lt (Heap.lt_size e))).trans ((Heap.get?_update_ne _ _ _ _ hb).trans (Heap.get?_push_of_some _ e))
theorem xput_old {Q:Unit->Shared->Prop} {mA:Str->Option Value} {ns:List Str} (Xk:K.In s.heap) (c:XCl K C) (n:PySem.W.findIn K (.ref C) name = some none) (hx:s.heap.get? x = some (xObj C (some dx) t0)) (hn:s.heap.Ns1 dx mA) (ne:dx ≠ x)
  (hw:Within mA ns) (hz:ns.length ≤ sizeLine)
  (hq:∀ h' tk',h'.Ns1 dx (fun y=>if y = name then some v else mA y)->Heap.SameBut dx s.heap h'->Q () { s with heap:=h',toks:=tk' }):wpAny (model prog w) A (setAttr (.ref x) name v) Q E s:=by
 obtain ⟨h,g,d,t,os⟩:=s
 obtain ⟨cd,bm,hc,hm,tv,hd⟩:=c.cls
 obtain ⟨od,es,ep,eo,_⟩:=id hn
 have J:PySem.W.InstAt h x (xObj C (some dx) t0) C (some od):=⟨hx,rfl,rfl,eo⟩
 refine PySem.W.set_plain (s:=⟨h,g,d,t,os⟩) Xk J c.sa (xosa (s:=⟨h,g,d,t + 1,os⟩) Xk J c n ?_)
 refine wpAny_bind (wpAny_pure (wpAny_bind (wpAny_bind (wpAny_loadPart_at hx (wpAny_bind (PySem.W.Looks.here (s:=⟨h,g,d,t + 1,os⟩) (PySem.W.looks_clsIn Xk hc) ?_))))))
 rw [hd]
 refine wpAny_pure (a:=some dx) ?_
 show wpAny _ _ (storeInDict dx (.str name t) name v) _ _ _
 unfold storeInDict newKeyGuard
 refine wpAny_bind (wpAny_pure (wpAny_bind (wpAny_nsSet1 hn fun h' n' sb=>?_)))
 obtain ⟨oD,esD,epD,hoD,hdD,hcD⟩:=n'.count (Within.cons name v hw)
 refine wpAny_bind (wpAny_lookBehind hoD (by rw [hdD];exact pastItsLine_dict (Nat.le_trans hcD (by rw [List.length_cons];omega))) ?_)
 exact wpAny_pure (hq h' _ n' sb)
theorem xget {expr:Bool} {vs:Array Value} {sl:Array (Option Value)} {mA:Str->Option Value} {Q:Value->Shared->Prop} (Xk:K.In s.heap) (c:XCl K C) (n:PySem.W.findIn K (.ref C) name = some none) (hx:s.heap.get? x = some ⟨.ref C,some dx,.fields vs,sl⟩) (hn:s.heap.Ns1 dx mA)
  (hv:mA name = some v) (hh:PySem.W.handedIn v = true) (hq:Q v { s with toks:=s.toks + 1 }):wpAny (model prog w) A (getAttr (.ref x) name expr) Q E s:=by
 obtain ⟨h,g,d,t,os⟩:=s
 obtain ⟨cd,bm,hc,hm,tv,hd⟩:=c.cls
 obtain ⟨od,ho,hl⟩:=lookIn_ns hn
 have J:PySem.W.InstAt h x ⟨.ref C,some dx,.fields vs,sl⟩ C (some od):=⟨hx,rfl,rfl,ho⟩
 have hf:PySem.W.findObj K C (some od) name = some (.value v):=by
  unfold PySem.W.findObj
  rw [hc,Option.bind_some,n,Option.bind_some]
  show (Option.bind (some none) fun get=>_) = _
  rw [Option.bind_some]
  show (Option.bind (some false) fun data=>_) = _
  rw [Option.bind_some]
  show (Option.bind (PySem.W.ownOf cd (some od) name) fun own=>_) = _
  have e:PySem.W.ownOf cd (some od) name = some (some v):=by
   unfold PySem.W.ownOf
   rw [hd,if_pos rfl]
   show PySem.W.lookIn name od = _
   rw [hl,hv]
  rw [e]
  rfl
 have FX:=PySem.F.attr_ValueError
 have L0:=J.type (M:=model prog w)
 have L1:=PySem.W.looks_find (M:=model prog w) Xk J hf
 have sub:PySem.W.Looks (model prog w) h (isInstance (.ref x) (.type "BaseException")) true:=L0.andThen (PySem.W.looks_mroIn Xk (by
  unfold PySem.W.mroIn
  rw [hc,Option.bind_some,hm]
  show some (List.contains _ _) = _
  rw [List.contains_cons,tailV_has (X:="BaseException") rfl tv]
  rfl))
 have nq:(onTheHeap (Value.ref C) && Value.builtin "BaseException.__getattribute__" == Value.builtin "object.__getattribute__") = false:=by
  rw [show (Value.builtin "BaseException.__getattribute__" == Value.builtin "object.__getattribute__") = false from by decide +kernel,Bool.and_false]
 unfold getAttr getAttrBy
 refine wpAny_bind (wpAny_mkText (wpAny_holding (wpAny_bind (L0.at (wpAny_bind ((PySem.W.looks_findIn (M:=model prog w) Xk c.ga).at ?_))))))
 show wpAny _ _ (if _ = true then _ else _) _ _ _
 rw [nq,if_neg (by decide)]
 unfold getAttrByItsOwn hookBefore
 refine wpAny_bind (PySem.W.Looks.at (t:=if onTheHeap (Value.ref C) = true then typeLookup (.ref C) "__getattr__" else pure none) (r:=none) (PySem.W.looks_findIn (M:=model prog w) Xk c.gx) (wpAny_bind (wpAny_attempt (wpAny_holding ?_))))
 unfold callGetattribute
 rw [show (expr && onTheHeap (Value.builtin "BaseException.__getattribute__")) = false from Bool.and_false _,if_neg (by decide)]
 unfold boundAndCalled
 rw [FX.ga.bind]
 refine wpAny_bind (wpAny_pure ?_)
 show wpAny _ _ (call (.builtin "BaseException.__getattribute__") [.ref x,.str name t]) _ _ _
 refine wpAny_call ?_
 refine codeAny_call_builtin FX.ga.plain PySem.F.entry_bexc_ga ?_
 refine @PySem.W.check_slot (model prog w) _ _ ⟨h,g,d,t + 1,os⟩ "BaseException.__getattribute__" "BaseException" "__getattribute__" (.ref x) [.str name t] [] _ (by decide +kernel) (by decide +kernel) sub (PySem.F.args_bexc_ga (.ref x) (.str name t)) ?_
 unfold Builtin.«object.__getattribute__»
 refine wpAny_bind (wpAny_pure (wpAny_bind (wpAny_pure (wpAny_bind (L0.at (wpAny_bind (L1.at ?_)))))))
 refine wpAny_pure ?_
 show wpAny _ _ (handedOut v) _ _ _
 rw [PySem.W.handedOut_of hh]
 exact wpAny_pure hq
end
end L2
namespace L2
open PySem PySem.Spec PyProof.Rows Builtin Builtin.ObjectAttr
def excP (x C:Addr) (od:Option Addr) (h:Heap):Prop:=∃ t,h.get? x = some (xObj C od t)
def gotP (x C:Addr) (od:Option Addr) (h:Heap):Prop:=∃ vs sl,h.get? x = some ⟨.ref C,od,.fields vs,sl⟩
def dctP (dx:Addr) (fs:List (Str × V)) (h:Heap):Prop:=∃ mA,h.Ns1 dx mA/\(∀ f,RelO (fs.lookup f) (mA f))/\Within mA (fs.map (·.1))
section
variable {P:Program} {w:World} {H:Hp} {h:Heap} {x C dx t:Addr} {od:Option Addr}
theorem excP_ok (e:h.get? x = some (xObj C od t)):ObjOk P w H h x (.ext (excP x C od)):=⟨⟨t,e⟩,⟨_,e⟩,fun _ _ ⟨t,e⟩ k=>⟨t,k _ e⟩⟩
theorem gotP_ok {vs:Array Value} {sl:Array (Option Value)} (e:h.get? x = some ⟨.ref C,od,.fields vs,sl⟩):ObjOk P w H h x (.ext (gotP x C od)):=⟨⟨vs,sl,e⟩,⟨_,e⟩,fun _ _ ⟨vs,sl,e⟩ k=>⟨vs,sl,k _ e⟩⟩
theorem dctP_ok {fs:List (Str × V)} {mA:Str->Option Value} (n:h.Ns1 dx mA) (r:∀ f,RelO (fs.lookup f) (mA f)) (wi:Within mA (fs.map (·.1))):ObjOk P w H h dx (.ext (dctP dx fs)):=
 ⟨⟨mA,n,r,wi⟩,(let ⟨o,_,_,e,_⟩:=n;⟨o,e⟩),fun _ _ ⟨mA,⟨o,es,ep,e,c⟩,r,wi⟩ k=>⟨mA,⟨o,es,ep,k _ e,c⟩,r,wi⟩⟩
end
def dropH (H:Hp) (x:Addr):Hp:=fun b=>if b = x then none else H b
theorem dropH_ne {H:Hp} {x b:Addr} (h:b ≠ x):dropH H x b = H b:=if_neg h
theorem dropH_same {H:Hp} {x:Addr}:dropH H x x = none:=if_pos rfl
section
variable {X:Cx} {pins:List (Addr × Obj)} {σ:St} {H:Hp} {s:Shared} {x dx C:Addr} {φ:Heap->Prop} {od:Option Addr}
theorem Inv.drop (I:Inv X pins σ H s) (e:H x = some (.ext φ)):Inv X pins σ (dropH H x) s:=by
 have ne:∀ b u,H b = some u->(∀ ψ,u ≠ .ext ψ)->b ≠ x:=fun b u q hu z=>by
  rw [z,e] at q
  cases q
  exact hu φ rfl
 have nn:∀ b,H b = none->dropH H x b = none:=fun b q=>by
  by_cases z:b = x
  ·rw [z,dropH_same]
  ·rw [dropH_ne z,q]
 refine ⟨I.ok,I.os,I.bare,⟨I.base.keep,I.base.slot,fun b o q n hx=>nn b (I.base.free b o q n hx),I.base.there,fun b xs q=>?_,fun b o u q=>?_,fun b ps q=>?_⟩,I.loc,I.cell,nn _ I.free,fun y c q=>nn c (I.freeC y c q),fun p hp=>?_,fun a o q=>?_,I.len⟩
 ·have z:=I.base.tups b xs q
  rw [dropH_ne (ne b _ z fun ψ q=>by cases q)]
  exact z
 ·have z:=I.base.frzs b o u q
  rw [dropH_ne (ne b _ z fun ψ q=>by cases q)]
  exact z
 ·obtain ⟨m,z⟩:=I.base.tbls b ps q
  exact ⟨m,by rw [dropH_ne (ne b _ z fun ψ q=>by cases q)];exact z⟩
 ·obtain ⟨a,b,c⟩:=I.pin p hp
  exact ⟨a,nn _ b,c⟩
 ·have na:a ≠ x:=fun z=>by rw [z,dropH_same] at q;cases q
  rw [dropH_ne na] at q
  exact (I.hok a o q).stay (fun _ _ _ r=>r) (fun c r=>by rw [dropH_ne (ne c _ r fun ψ q=>by cases q)];exact r) fun c xs r=>by rw [dropH_ne (ne c _ r fun ψ q=>by cases q)];exact r
theorem Inv.track {o:HO} (I:Inv X pins σ H s) (hx:Our X pins H x) (new:ObjOk X.prog X.w (upd H x o) s.heap x o):Inv X pins σ (upd H x o) s:=by
 have ne:∀ b u,H b = some u->b ≠ x:=fun b u q z=>by rw [z,hx.unt] at q;cases q
 refine I.step (h':=s.heap) (g':=s.gens) (d':=s.drawn) (t':=s.toks) (ch:=[x]) (fun b hb=>?_) (fun b o _ _ _ e _=>e) (fun b o _ _ _ e _=>⟨o.slots,e⟩) (fun b o hc e n=>?_) (fun b o _ e=>⟨o,e⟩) (fun b xs e=>?_) (fun b u xs e=>?_) (fun b ps e=>⟨#[],?_⟩) (fun m hm=>hm) (fun b u q=>?_) I.bare
 ·rw [List.mem_singleton.mp hb]
  exact ⟨.inr hx.new,hx.loc,hx.cel,hx.pin⟩
 ·rw [upd_ne fun z=>hc (by rw [z];exact List.mem_singleton.mpr rfl)]
  exact n
 ·rw [upd_ne (ne b _ e)];exact e
 ·rw [upd_ne (ne b _ e)];exact e
 ·rw [upd_ne (ne b _ e),e];simp
 ·by_cases hb:b = x
  ·subst hb
   rw [upd_same] at q
   cases q
   exact new
  ·rw [upd_ne hb] at q
   exact (I.hok b u q).stay (fun _ _ _ r=>r) (fun c r=>by rw [upd_ne (ne c _ r)];exact r) fun c xs r=>by rw [upd_ne (ne c _ r)];exact r
theorem Inv.xput {ψ χ:Heap->Prop} {h':Heap} {t':Nat} (I:Inv X pins σ H s) (e:H x = some (.ext φ)) (nd:s.heap.objs.size ≤ dx) (k:∀ b o,b ≠ x->s.heap.get? b = some o->h'.get? b = some o)
  (n1:∀ H',ObjOk X.prog X.w H' h' dx (.ext χ)) (n2:∀ H',ObjOk X.prog X.w H' h' x (.ext ψ)):Inv X pins σ (upd (upd H dx (.ext χ)) x (.ext ψ)) { s with heap:=h',toks:=t' }:=by
 have hd:H dx = none:=I.hok.fresh nd
 have xd:x ≠ dx:=fun z=>by rw [z,hd] at e;cases e
 have ne:∀ b u,H b = some u->(∀ ψ,u ≠ .ext ψ)->b ≠ x/\b ≠ dx:=fun b u q hu=>⟨fun z=>by
  rw [z,e] at q
  cases q
  exact hu φ rfl,fun z=>by rw [z,hd] at q;cases q⟩
 have same:∀ b u,H b = some u->(∀ ψ,u ≠ .ext ψ)->upd (upd H dx (.ext χ)) x (.ext ψ) b = some u:=fun b u q hu=>by
  rw [upd_ne (ne b u q hu).1,upd_ne (ne b u q hu).2]
  exact q
 obtain ⟨o2,e2⟩:∃ o,h'.get? x = some o:=(n2 H).2.1
 refine I.un (t':=t') ⟨fun b o q n _ _=>k b o (fun z=>by rw [z,e] at n;cases n) q,fun b o q n _ _=>⟨o.slots,k b o (fun z=>by rw [z,e] at n;cases n) q⟩,fun b o q n _=>?_,fun b o q _=>?_,fun b xs q=>same b _ q (fun ψ q=>by cases q),fun b o u q=>same b _ q (fun ψ q=>by cases q),fun b ps q=>⟨#[],by rw [same b _ q (fun ψ q=>by cases q)];simp⟩⟩ (fun b u q=>?_)
 ·rw [upd_ne (fun z=>by rw [z,e] at n;cases n),upd_ne (Nat.ne_of_lt (Nat.lt_of_lt_of_le (Heap.lt_size q) nd))]
  exact n
 ·by_cases hb:b = x
  ·rw [hb];exact ⟨o2,e2⟩
  ·exact ⟨o,k b o hb q⟩
 ·by_cases hb:b = x
  ·subst hb
   rw [upd_same] at q
   cases q
   exact n2 _
  ·rw [upd_ne hb] at q
   by_cases hb2:b = dx
   ·subst hb2
    rw [upd_same] at q
    cases q
    exact n1 _
   ·rw [upd_ne hb2] at q
    refine (I.hok b u q).stay (fun c v hc r=>k c v ?_ r) (fun c r=>same c _ r (fun ψ q=>by cases q)) fun c xs r=>same c _ r (fun ψ q=>by cases q)
    rcases hc with rfl | hc
    ·exact hb
    ·exact (ne c _ hc fun ψ q=>by cases q).1
end
structure XMk (K:PySem.W.Frag) (C f:Addr):Prop where
 cl:XCl K C
 init:PySem.W.findIn K (.ref C) "__init__" = some (some (.ref f))
 fn:PySem.W.isFn K (.ref f) = true
def tXMake (n:Nat) (C:Addr) (sp:Sp) (dvs:List V) (t:TA):TE:=fun σ H Q=>t σ H fun vs H1=>vs.length ≤ sizeLine/\∀ x,n ≤ x->H1 x = none->sp (.ref x :: (vs ++ dvs)) (upd H1 x (.ext (excP x C none))) (fun v H2=>v = .non/\Q (.ref x) H2) E0
def tRaise (n:Nat) (K:PySem.W.Frag) (E:XS) (te:TE):TS:=fun _ σ H=>te σ H fun v H1=>∃ x C od,v = .ref x/\H1 x = some (.ext (excP x C od))/\n ≤ x/\XCl K C/\E (.ref C) od σ (dropH H1 x)
section
variable {X:Cx} {k:Nat} {f C:Addr} {fd:FuncData} {ps:List Str} {sp:Sp} {dvs:List V} {ds:List Value} {E:XS} {x m:Str} {p pos apos:Pos} {e o:Expr} {es:List Expr} {ta te:TE} {t:TA}
theorem run_xmake {pins:List (Addr × Obj)} {σ:St} {H:Hp} {s:Shared} {Q:VK} {us:List Value} {vs:List V} (M:XMk X.K C f) (F:FnOk X.prog X.w X.K X.mg X.base CX0 k f fd ps sp) (hr:Room (k + 1) X.A) (hb:Binds X.K fd ps ds) (hd:Vals dvs ds)
  (I:Inv X pins σ H s) (r:Vals vs us) (hz:vs.length ≤ sizeLine) (h:∀ x,X.s₀.heap.objs.size ≤ x->H x = none->sp (.ref x :: (vs ++ dvs)) (upd H x (.ext (excP x C none))) (fun v H2=>v = .non/\Q (.ref x) H2) E0) :
  wpAny (model X.prog X.w) X.A (call (.ref C) us) (EP X pins σ Q) X.xe s:=by
 obtain ⟨nm,q,N,bs,bm,sn,sub,ab,col,dd,k0,k1,k2,k3,k5,lk,tv⟩:=M.cl.at_
 have ht:PySem.W.typeIn X.K (.ref f) = some (.type "function"):=beq_iff_eq.mp M.fn
 obtain ⟨oI,hl,hc⟩:=Option.map_eq_some_iff.mp ht
 have hq:=h (s.heap.objs.size + 1) (Nat.le_succ_of_le I.sz) (I.hok.fresh (Nat.le_succ _))
 have I1:Inv X pins σ H { s with heap:=s.heap.push (xTup us) }:=I.kept (t':=s.toks) fun b u q=>Heap.get?_push_of_some _ q
 have e2:((s.heap.push (xTup us)).push (xObj C none s.heap.objs.size)).get? (s.heap.objs.size + 1) = some (xObj C none s.heap.objs.size):=by
  have:=Heap.get?_push_size (s.heap.push (xTup us)) (o:=xObj C none s.heap.objs.size) rfl
  rwa [Heap.size_push] at this
 have I2:Inv X pins σ (upd H (s.heap.objs.size + 1) (.ext (excP (s.heap.objs.size + 1) C none))) { s with heap:=(s.heap.push (xTup us)).push (xObj C none s.heap.objs.size) }:=
  I1.laid (a:=s.heap.objs.size + 1) (t':=s.toks) (fun b u q=>Heap.get?_push_of_some _ q) (Nat.le_of_eq (Heap.size_push _ _)) (excP_ok e2)
 have r2:Vals (V.ref (s.heap.objs.size + 1) :: (vs ++ dvs)) (Value.ref (s.heap.objs.size + 1) :: (us ++ ds)):=.cons rfl (r.append hd)
 have hlen:(Value.ref (s.heap.objs.size + 1) :: us ++ ds).length = ps.length:=by
  have e:=r2.length
  rw [F.len _ _ _ _ hq] at e
  exact e.symm
 have go:=F.run (X.A.under (.builtin "type.__call__" ⟨.ref C :: us,[]⟩)) X.stack _ _ ⟨Value.ref (s.heap.objs.size + 1) :: us,[]⟩ (Value.ref (s.heap.objs.size + 1) :: (us ++ ds)) _ _ E0 (hr.make C us []) (I2.env0.make C us []) (hb _ (Value.ref (s.heap.objs.size + 1) :: us) I2.kIn hlen) r2 hq
 obtain ⟨hh,g,d,tk,os⟩:=s
 refine xcall tv (I.kIn _ _ lk) (PySem.W.looks_findIn I.kIn M.init) (I.kIn _ _ hl) hc (by rw [← r.length];exact hz) (wpAny_call (codeAny_mono go fun r s' hq'=>?_))
 cases r with
 | error e=>exact False.elim hq'
 | ok fl=>
  cases fl with
  | ret u=>
   obtain ⟨v,H',I3,rv,ev,q3⟩:=I2.after hq'
   subst ev
   exact ⟨rv,⟨V.ref (hh.objs.size + 1),H',I3,rfl,q3⟩⟩
  | next=>exact False.elim hq'
  | brk=>exact False.elim hq'
  | cont=>exact False.elim hq'
theorem pe_xmake (M:XMk X.K C f) (F:FnOk X.prog X.w X.K X.mg X.base CX0 k f fd ps sp) (hr:Room (k + 1) X.A) (hg:Gl X x) (hm:X.mg x = some (.ref C)) (hb:Binds X.K fd ps ds) (hd:Vals dvs ds)
  (ha:PA X (e :: es) t) (hdb:(x == ("__debug__":Str)) = false:=by decide) (he:starEach (e :: es) X.env = (false,eval e X.env) :: starEach es X.env:=by rfl) (hpl:(backTo pos (starEach es X.env)).any (·.1) = false:=by rfl) :
  PE X (.Call (.Name x p) (e :: es) [] pos) (tXMake X.s₀.heap.objs.size C sp dvs t):=by
 intro pins s σ H Q I h
 refine wpAny_Call_Name_kw (ld_glob I hg hm ?_ hdb)
 refine PySem.W.callWith_K (h₀:=X.base) I.ok.mod.kin M.cl.kp (thn (ha pos pins s σ H _ I h) fun us s1 ⟨vs,H1,I1,r,q⟩=>⟨I1.kIn,?_⟩) he hpl
 exact run_xmake M F hr hb hd I1 r q.1 q.2
theorem ps_raise (hc:X.calm = true) (he:PE X e te) (L:Lands X E):PS X (.Raise (some e) none pos) (tRaise X.s₀.heap.objs.size X.K E te):=by
 intro pins s σ H D I h
 rw [arm_exec_Raise]
 have go:wpAny (model X.prog X.w) X.A (eval e X.env) (fun v s₁=>∃ x C nm q N bs bm sn sub ab col dd k0 k1 k2 k3 k5 od t0,v = .ref x/\s₁.heap.get? C = some (excClassObj nm q C N bs bm true sn sub ab col dd k0 k1 k2 k3 k5 "ValueError.__new__")/\tailV bm = true/\s₁.heap.get? x = some (xObj C od t0)/\X.xe (.ref x) s₁) X.xe s:=by
  refine thn (he pins s σ H _ I h) fun v s1 ⟨y,H1,I1,rv,x,C,od,ey,hx,nx,c,q⟩=>?_
  subst ey
  obtain rfl:v = Value.ref x:=rv
  obtain ⟨nm,qn,N,bs,bm,sn,sub,ab,col,dd,k0,k1,k2,k3,k5,lk,tv⟩:=c.at_
  obtain ⟨⟨t0,ex⟩,_⟩:=I1.hok x _ hx
  have I2:=I1.drop hx
  have our:Our X pins (dropH H1 x) x:=⟨nx,(fun z=>by rw [z,I1.free] at hx;cases hx),(fun y c e z=>by rw [← z,I1.freeC y c e] at hx;cases hx),(fun p hp z=>by rw [← z,(I1.pin p hp).2.1] at hx;cases hx),dropH_same⟩
  exact ⟨x,C,nm,qn,N,bs,bm,sn,sub,ab,col,dd,k0,k1,k2,k3,k5,od,t0,rfl,I1.kIn _ _ lk,tv,ex,L pins σ _ s1 x _ od I2 our ⟨_,_,.none,ex,rfl,.inl ⟨rfl,rfl⟩⟩ q⟩
 first
  | exact wpAny_bind (wpAny_standAt (xraise (I.ok.hd hc) (wpAny_bind (wpAny_mono go (fun v s₃ h₃=>wpAny_bind (wpAny_standAt (wpAny_pure h₃))) fun _ _ z=>z))))
  | (simp only [evalOpt,Option.map];exact wpAny_bind (wpAny_standAt (xraise (I.ok.hd hc) (wpAny_bind (wpAny_mono go (fun v s₃ h₃=>wpAny_bind (wpAny_standAt (wpAny_pure h₃))) fun _ _ z=>z)))))
end
end L2
namespace L2
open PySem PySem.Spec PyProof.Rows Builtin Builtin.ObjectAttr
def sX1 (K:PySem.W.Frag) (ta tv:TE) (f:Str):TS:=fun D σ H=>tv σ H fun y H1=>ta σ H1 fun x H2=>∃ a C,x = .ref a/\H2 a = some (.ext (excP a C none))/\XCl K C/\NoAttr K C f ∧
 ∀ dx,H2 dx = none->dx ≠ a->D.nx σ (upd (upd H2 dx (.ext (dctP dx [(f,y)]))) a (.ext (excP a C (some dx))))
def sX2 (K:PySem.W.Frag) (ta tv:TE) (f:Str):TS:=fun D σ H=>tv σ H fun y H1=>ta σ H1 fun x H2=>∃ a C dx fs,x = .ref a/\H2 a = some (.ext (excP a C (some dx)))/\H2 dx = some (.ext (dctP dx fs))/\dx ≠ a/\XCl K C/\NoAttr K C f/\fs.length < 1000 ∧
 D.nx σ (upd H2 dx (.ext (dctP dx (putF f y fs))))
def tXFld (K:PySem.W.Frag) (ta:TE) (f:Str):TE:=fun σ H Q=>ta σ H fun x H1=>∃ a C dx fs v,x = .ref a/\H1 a = some (.ext (gotP a C (some dx)))/\H1 dx = some (.ext (dctP dx fs))/\XCl K C/\NoAttr K C f/\fs.lookup f = some v/\Q v H1
section
variable {X:Cx} {o e value:Expr} {f:Str} {pos pos' tpos:Pos} {ta tv:TE}
theorem ps_xset1 (ha:PE X o ta) (hv:PE X value tv) (hs:swapsWith value (some (.Attribute o f pos')) pos.line X.env = pure false):PS X (.Assign [.Attribute o f pos'] value pos) (sX1 X.K ta tv f):=by
 intro pins s σ H D I h
 refine plainObj_wpAny_Assign_Attribute (thn (hv pins s σ H _ I h) fun u s1 ⟨y,H1,I1,ry,q⟩=>thn (ha pins s1 σ H1 _ I1 q) fun ov s2 ⟨x,H2,I2,rx,a,C,ex,ea,c,n,q2⟩=>?_) hs
 subst ex
 obtain rfl:ov = Value.ref a:=rx
 obtain ⟨⟨t0,eo⟩,_⟩:=I2.hok a _ ea
 refine xput_new I2.kIn c n eo fun h' tk' g1 g2 kk=>?_
 have hd:H2 s2.heap.objs.size = none:=I2.hok.fresh (Nat.le_refl _)
 have na:s2.heap.objs.size ≠ a:=fun z=>by rw [← z,hd] at ea;cases ea
 refine ⟨σ,_,I2.xput (t':=tk') ea (Nat.le_refl _) kk (fun H'=>dctP_ok (fs:=[(f,y)]) g2 (fun g=>?_) (fun g hg=>?_)) (fun H'=>excP_ok g1),q2 _ hd na⟩
 ·by_cases z:g = f
  ·subst z
   rw [List.lookup_cons_self]
   show RelO (some y) (if g = g then some u else none)
   rw [if_pos rfl]
   exact ry
  ·have zb:(g == f) = false:=beq_eq_false_iff_ne.mpr z
   simp only [List.lookup,zb]
   show RelO none (if g = f then some u else none)
   rw [if_neg z]
   exact True.intro
 ·by_cases z:g = f
  ·subst z
   simp
  ·exact absurd (if_neg z) hg
theorem ps_xset2 (ha:PE X o ta) (hv:PE X value tv) (hs:swapsWith value (some (.Attribute o f pos')) pos.line X.env = pure false):PS X (.Assign [.Attribute o f pos'] value pos) (sX2 X.K ta tv f):=by
 intro pins s σ H D I h
 refine plainObj_wpAny_Assign_Attribute (thn (hv pins s σ H _ I h) fun u s1 ⟨y,H1,I1,ry,q⟩=>thn (ha pins s1 σ H1 _ I1 q) fun ov s2 ⟨x,H2,I2,rx,a,C,dx,fs,ex,ea,ed,ne,c,n,hl,q2⟩=>?_) hs
 subst ex
 obtain rfl:ov = Value.ref a:=rx
 obtain ⟨⟨t0,eo⟩,_⟩:=I2.hok a _ ea
 obtain ⟨⟨mA,hn,hr,wi⟩,_⟩:=I2.hok dx _ ed
 have hz:(fs.map (·.1)).length ≤ sizeLine:=by rw [List.length_map,sizeLine_eq];omega
 refine xput_old I2.kIn c n eo hn ne wi hz fun h' tk' g2 sb=>?_
 have hd:∃ o,h'.get? dx = some o:=let ⟨o,_,_,e',_⟩:=g2;⟨o,e'⟩
 refine ⟨σ,_,I2.write (t':=tk') (x:=dx) (e:=dx) (by rw [ed];exact True.intro) (.inl rfl) (fun b q hb z=>(sb.2 b hb).trans z) hd (dctP_ok g2 (fun g=>?_) (fun g hg=>?_)),q2⟩
 ·show RelO ((putF f y fs).lookup g) (if g = f then some u else mA g)
  rw [lookup_putF]
  by_cases q:g = f
  ·rw [if_pos q,if_pos q];exact ry
  ·rw [if_neg q,if_neg q];exact hr g
 ·by_cases q:g = f
  ·rw [q];exact (keys_putF f y fs).1
  ·refine (keys_putF f y fs).2 g (wi g fun z=>hg ?_)
   show (if g = f then some u else mA g) = none
   rw [if_neg q];exact z
theorem pe_xfld (he:PE X e ta) (hb:attributeBase e f X.env (eval e X.env) = eval e X.env):PE X (.Attribute e f pos) (tXFld X.K ta f):=by
 intro pins s σ H Q I h
 refine attr_of hb (thn (he pins s σ H _ I h) fun u s1 ⟨x,H1,I1,rx,a,C,dx,fs,v,ex,ea,ed,c,n,l,q⟩=>?_)
 subst ex
 obtain rfl:u = Value.ref a:=rx
 obtain ⟨⟨vs,sl,eo⟩,_⟩:=I1.hok a _ ea
 obtain ⟨⟨mA,hn,hr,wi⟩,_⟩:=I1.hok dx _ ed
 obtain ⟨u,hu,ru⟩:=RelO.some_of (v:=v) (o:=mA f) (by rw [← l];exact hr f)
 exact xget I1.kIn c n eo hn hu (handed_of ru) ⟨v,H1,I1.tok _,ru,q⟩
end
structure BIn (K:PySem.W.Frag) (B:Addr):Prop where
 sp:PySem.W.specialIn K (.ref B) "__getattribute__" = some (some (.builtin "type.__getattribute__"))
 rd:PySem.W.readsIn K B (.type "type") = true
 fc:PySem.W.findCls K (.ref B) (.type "type") "__init__" = some (.val (.builtin "ValueError.__init__"))
section
variable {prog:Program} {w:World} {A:Around} {E:Value->Shared->Prop} {h:Heap} {g:Array GenState} {d:Drawn} {t:Nat} {os:OsState}
variable {nm q:Str} {C N x t0:Addr} {bs bm:List Value} {sn:List Str} {sub:List Value} {ab:Bool} {col:Option Bool} {dd:Option Addr} {k0 k1 k2 k3 k5:Option Value}
theorem xck_init {M:Model} {oe:Obj} {rest:List Value} {Q:Unit->Shared->Prop} (tv:tailV bm = true) (hC:h.get? C = some (excClassObj nm q C N bs bm true sn sub ab col dd k0 k1 k2 k3 k5 "ValueError.__new__")) (hx:h.get? x = some oe) (hc:oe.cls = .ref C)
  (hq:Q () ⟨h,g,d,t,os⟩):wpAny M A (checkBuiltinCall "ValueError.__init__" ⟨.ref x :: rest,[]⟩) Q E ⟨h,g,d,t,os⟩:=by
 have F:=PySem.F.excBase_ValueError
 have c1:(Value.ref C :: bm).contains (.type "ValueError") = true:=by rw [List.contains_cons,tailV_has (X:="ValueError") rfl tv];rfl
 have ns:=F.noStar
 simp only [checkBuiltinCall,F.initKind,F.initSplit,F.initRow]
 repeat (first | (with_reducible refine wpAny_loadPart_at hx ?_;rw [hc]) | with_reducible refine wpAny_loadPart_at hC ?_ | (with_reducible refine wpAny_isSubtype_exc hC ?_;rw [c1]) | wp_step)
 refine wpAny_onRaise ?_
 rw [show ∀ (a b:String) (n:Nat),Bind.check ⟨.positional,"*","ValueError",.self,[⟨"args",.varPos,false⟩]⟩ a b n (List.map (fun y=>y.fst) ({ pos:=Value.ref x :: rest }:Args).kw) = pure () from fun a b n=>check_star_args _ _ _ _ _ _]
 exact wpAny_pure hq
theorem xinit {rest:List Value} {od:Option Addr} {Q:Value->Shared->Prop} (tv:tailV bm = true) (hC:h.get? C = some (excClassObj nm q C N bs bm true sn sub ab col dd k0 k1 k2 k3 k5 "ValueError.__new__")) (hx:h.get? x = some (xObj C od t0)) (hz:rest.length ≤ sizeLine)
  (hq:∀ h' t1 tk',h'.get? x = some (xObj C od t1)->(∀ b o,b ≠ x->h.get? b = some o->h'.get? b = some o)->Q .none ⟨h',g,d,tk',os⟩) :
  wpAny (model prog w) A (call (.builtin "ValueError.__init__") (.ref x :: rest)) Q E ⟨h,g,d,t,os⟩:=by
 have F:=PySem.F.excBase_ValueError
 refine wpAny_call (codeAny_call_builtin F.init.plain F.initEntry (xck_init tv hC hx rfl ?_))
 wp_walk
 refine hq _ h.objs.size _ ?_ fun b o hb e=>?_
 ·rw [Heap.get?_update_self _ (Heap.get?_push_of_some _ hx) rfl]
  rfl
 ·rw [Heap.get?_update_other _ _ (Ne.symm hb)]
  exact Heap.get?_push_of_some _ e
end
def tBIn (K:PySem.W.Frag) (t:TA):TE:=fun σ H Q=>t σ H fun vs H1=>∃ x C od rest,vs = .ref x :: rest/\H1 x = some (.ext (excP x C od))/\XCl K C/\rest.length ≤ sizeLine/\Q .non H1
theorem upd_id {H:Hp} {a:Addr} {o:HO} (h:H a = some o):upd H a o = H:=by
 funext b
 by_cases z:b = a
 ·rw [z,upd_same,h]
 ·exact upd_ne z
section
variable {X:Cx} {B:Addr} {y:Str} {p pos apos:Pos} {e:Expr} {es:List Expr} {t:TA}
theorem pe_binit {pl:Sem Bool} (hg:Gl X y) (hm:X.mg y = some (.ref B)) (b:BIn X.K B) (ha:PA X (e :: es) t) (hdb:(y == ("__debug__":Str)) = false:=by decide)
  (hst:starEach (e :: es) X.env = (false,eval e X.env) :: starEach es X.env:=by rfl) (hpl:(backTo pos (starEach es X.env)).any (·.1) = false:=by rfl)
  (ht:eval (.Call (.Attribute (.Name y p) "__init__" apos) (e :: es) [] pos) X.env = (do
   let ov ← eval (.Name y p) X.env
   standAt apos.atName
   let (f,first) ← holding [ov] (getMethod ov "__init__" pl)
   callWith pos f first (backTo pos (starEach (e :: es) X.env)) (backToKw pos (keywordEach [] X.env))):=by rfl) :
  PE X (.Call (.Attribute (.Name y p) "__init__" apos) (e :: es) [] pos) (tBIn X.K t):=by
 intro pins s σ H Q I h
 refine PySem.W.methodCall_KW (pl:=pl) (ld_glob I hg hm ?_ hdb) ht
 refine PySem.W.method_cls I.kIn b.sp (PySem.W.cls_value I.kIn b.rd b.fc rfl ?_)
 refine PyProof.Rows.callWith_builtin1 (thn (ha pos pins _ σ H _ (I.tok _) h) fun us s1 ⟨vs,H1,I1,r,x,C,od,rest,ev,hx,c,hz,q⟩=>?_) hst hpl
 subst ev
 cases r with
 | cons rx rr=>
  rename_i u us' hap
  obtain rfl:u = Value.ref x:=rx
  obtain ⟨nm,qn,N,bs,bm,sn,sub,ab,col,dd,k0,k1,k2,k3,k5,lk,tv⟩:=c.at_
  obtain ⟨⟨t0,ex⟩,_⟩:=I1.hok x _ hx
  obtain ⟨hh,g,d,tk,os⟩:=s1
  refine xinit tv (I1.kIn _ _ lk) ex (by rw [← rr.length];exact hz) fun h' t1 tk' e1 kk=>?_
  have I2:Inv X pins σ (upd H1 x (.ext (excP x C od))) ⟨h',g,d,tk',os⟩:=I1.write (t':=tk') (x:=x) (e:=x) (by rw [hx];exact True.intro) (.inl rfl) (fun b o hb z=>kk b o hb z) ⟨_,e1⟩ (excP_ok e1)
  rw [upd_id hx] at I2
  exact ⟨.non,H1,I2,rfl,q⟩
end
abbrev Cx.caught (X:Cx) (x:Addr):Cx:={ X with A:=X.A.mark (some (.ref x)),calm:=false,xe:=fun _ _=>False }
abbrev Cx.within (X:Cx) (pn:List (Addr × Obj)) (E:Value->Shared->Prop):Cx:={ X with pn:=pn,xe:=E }
section
variable {X:Cx} {pins:List (Addr × Obj)} {σ:St} {H:Hp} {s:Shared} {x:Addr} {E:Value->Shared->Prop}
theorem Inv.caught (I:Inv X pins σ H s):Inv (X.caught x) pins σ H s:=
 ⟨⟨I.ok.mod,I.ok.kind,I.ok.glob,I.ok.blt,I.ok.above,I.ok.inj,I.ok.has,I.ok.cab,fun h=>Bool.noConfusion h,I.ok.frames,I.ok.stk,I.ok.exf,I.ok.bs,I.ok.bsz,I.ok.noex,I.ok.exfs,I.ok.funs,I.ok.frf⟩,I.os,I.bare,I.base,I.loc,I.cell,I.free,I.freeC,I.pin,I.hok,I.len⟩
theorem Inv.uncaught (ok:X.Ok) (I:Inv (X.caught x) pins σ H s):Inv X pins σ H s:=⟨ok,I.os,I.bare,I.base,I.loc,I.cell,I.free,I.freeC,I.pin,I.hok,I.len⟩
theorem Inv.within (I:Inv X pins σ H s):Inv (X.within (X.pn ++ pins) E) [] σ H s:=
 ⟨⟨I.ok.mod,I.ok.kind,I.ok.glob,I.ok.blt,I.ok.above,I.ok.inj,I.ok.has,I.ok.cab,I.ok.hd,I.ok.frames,I.ok.stk,I.ok.exf,I.ok.bs,I.ok.bsz,I.ok.noex,I.ok.exfs,I.ok.funs,I.ok.frf⟩,I.os,I.bare,I.base,I.loc,I.cell,I.free,I.freeC,(by intro p hp;exact I.pin p (by simpa using hp)),I.hok,I.len⟩
theorem Inv.out {pins':List (Addr × Obj)} (ok:X.Ok) (I:Inv (X.within (X.pn ++ pins) E) pins' σ H s):Inv X pins σ H s:=⟨ok,I.os,I.bare,I.base,I.loc,I.cell,I.free,I.freeC,fun p hp=>I.pin p (List.mem_append_left _ hp),I.hok,I.len⟩
theorem SP.out {D:Ends} {f:Flow} {pins':List (Addr × Obj)} (ok:X.Ok) (h:SP (X.within (X.pn ++ pins) E) pins' D f s):SP X pins D f s:=by
 cases f with
 | next=>obtain ⟨σ',H',I,q⟩:=h;exact ⟨σ',H',I.out ok,q⟩
 | brk=>obtain ⟨σ',H',I,q⟩:=h;exact ⟨σ',H',I.out ok,q⟩
 | cont=>obtain ⟨σ',H',I,q⟩:=h;exact ⟨σ',H',I.out ok,q⟩
 | ret u=>obtain ⟨v,σ',H',I,r,q⟩:=h;exact ⟨v,σ',H',I.out ok,r,q⟩
theorem Our.out {pins':List (Addr × Obj)} {b:Addr} (o:Our (X.within (X.pn ++ pins) E) pins' H b):Our X pins H b:=⟨o.new,o.loc,o.cel,fun p hp=>o.pin p (List.mem_append_left _ hp),o.unt⟩
theorem Inv.unname {i:Nat} {n:Str} {h':Heap} {v:Option Value} {m:Str->Option Value} {t':Nat} (I:Inv X pins σ H s) (hN:X.N.Nodup) (hi:X.N[i]? = some n) (hn:h'.Ns X.env.locals (fun y=>if y = n then v else m y))
  (hm:∀ (i:Nat) (x:Str) (v:V),X.N[i]? = some x->σ[i]? = some (some v)->Vis X.env.scope x->∃ u,RelV v u/\Look X.env s.heap m x u) (sb:Heap.SameBut X.env.locals s.heap h') :
  Inv X pins (σ.set i none) H { s with heap:=h',toks:=t' }:=by
 have cne:=I.cne
 have neL:∀ b o,X.s₀.heap.get? b = some o->b ≠ X.env.locals:=fun b o e=>Nat.ne_of_lt (Nat.lt_of_lt_of_le (Heap.lt_size e) I.ok.above)
 refine ⟨I.ok,I.os,I.bare,⟨fun b o e n' hb hx=>(sb.2 b (neL b o e)).trans (I.base.keep b o e n' hb hx),fun b o e n' hb hx=>?_,I.base.free,fun b o e hx=>?_,I.base.tups,I.base.frzs,I.base.tbls⟩,⟨_,hn,fun j y w e1 e2 e3=>?_⟩,fun y c e=>?_,I.free,I.freeC,fun p hp=>?_,fun b ob e=>?_,by simpa using I.len⟩
 ·obtain ⟨sl,e1⟩:=I.base.slot b o e n' hb hx
  exact ⟨sl,(sb.2 b (neL b o e)).trans e1⟩
 ·obtain ⟨o',e1⟩:=I.base.there b o e hx
  exact ⟨o',(sb.2 b (neL b o e)).trans e1⟩
 ·by_cases hj:j = i
  ·subst hj
   have:(σ.set j none)[j]? = some (some w):=e2
   rw [List.getElem?_set] at this
   simp at this
  ·rw [List.getElem?_set_ne (Ne.symm hj)] at e2
   obtain ⟨u,r,q⟩:=hm j y w e1 e2 e3
   refine ⟨u,r,?_⟩
   rcases q with ⟨k,e⟩ | ⟨k,c,e,z⟩
   ·refine .inl ⟨k,?_⟩
    have:y ≠ n:=fun e=>hj (nodup_ix hN e1 (e ▸ hi))
    show (if y = n then v else m y) = some u
    rw [if_neg this]
    exact e
   ·exact .inr ⟨k,c,e,z.sameBut sb (cne y c e)⟩
 ·obtain ⟨w',z⟩:=I.cell y c e
  exact ⟨w',z.sameBut sb (cne y c e)⟩
 ·obtain ⟨e,n',ne,nf,d⟩:=I.pin p hp
  exact ⟨(sb.2 p.1 ne).trans e,n',ne,nf,d⟩
 ·refine (I.hok b ob e).stay (fun c w' hc q=>(sb.2 c ?_).trans q) (fun _ q=>q) fun _ _ q=>q
  rintro rfl
  rcases hc with rfl | hc
  ·rw [I.free] at e;cases e
  ·rw [I.free] at hc;cases hc
end
def offName (i:Nat) (D:Ends):Ends:={ nx:=fun σ' H'=>D.nx (σ'.set i none) H',rt:=D.rt,bk:=fun σ' H'=>D.bk (σ'.set i none) H',ct:=fun σ' H'=>D.ct (σ'.set i none) H' }
def tTry (tb:Ends->TS):TS:=fun D σ H=>tb D D σ H
section
variable {X:Cx} {body:List Stmt} {cx n:Str} {b₀:Stmt} {suite:List Stmt} {np hp pos:Pos} {CN:Addr} {i:Nat} {tb:Ends->TS} {ts:Addr->TS}
end
end L2
namespace L2
open PySem PySem.Spec PyProof.Rows Builtin Builtin.ObjectAttr
section
variable {prog:Program} {w:World} {A:Around} {E:Value->Shared->Prop} {h:Heap} {g:Array GenState} {d:Drawn} {t:Nat} {os:OsState}
variable {nm q:Str} {C N:Addr} {bs bm:List Value} {sn:List Str} {sub:List Value} {ab:Bool} {col:Option Bool} {dd:Option Addr} {k0 k1 k2 k3 k5:Option Value}
end
section
variable {X:Cx} {C:Addr} {x:Str} {p pos:Pos} {e:Expr} {es:List Expr} {t:TA}
end
end L2
namespace L2
open PySem PySem.Spec PyProof.Rows Builtin Builtin.ObjectAttr
structure XIs (K:PySem.W.Frag) (C:Addr):Prop where
 cl:XCl K C
 ha:PySem.W.findIn K (.ref C) "__class__" = some (some (.builtin "object.__class__"))
 hn:PySem.W.specialIn K (.builtin "object.__class__") "__get__" = some (some (.builtin "getset_descriptor.__get__"))
 htk:PySem.W.takesIn K (.builtin "object.__class__") = some true
section
variable {prog:Program} {w:World} {A:Around} {E:Value->Shared->Prop} {s:Shared} {K:PySem.W.Frag} {x C:Addr} {ox:Obj} {od:Option Obj}
theorem xmro (c:XCl K C) (T:String) (b:Bool) (hb:bmV.contains (.type T) = b):PySem.W.mroIn K C (.type T) = some b:=by
 obtain ⟨cd,bm,hc,hm,tv,hd⟩:=c.cls
 unfold PySem.W.mroIn
 rw [hc,Option.bind_some,hm]
 show some (List.contains _ _) = _
 rw [List.contains_cons,tailV_has (X:=T) hb tv]
 rfl
theorem xclass {Q:Option Value->Shared->Prop} (Xk:K.In s.heap) (c:XIs K C) (J:PySem.W.InstAt s.heap x ox C od) (hq:Q (some (.ref C)) { s with toks:=s.toks + 1 }):wpAny (model prog w) A (getAttr? (.ref x) "__class__") Q E s:=by
 obtain ⟨h,g,d,t,os⟩:=s
 obtain ⟨cd,bm,hc,hm,tv,hd⟩:=c.cl.cls
 have hf:PySem.W.findObj K C od "__class__" = some (.bind (.builtin "getset_descriptor.__get__") (.builtin "object.__class__")):=by
  unfold PySem.W.findObj
  rw [hc,Option.bind_some,c.ha,Option.bind_some]
  simp [c.hn,c.htk]
 have FX:=PySem.F.attr_ValueError
 have L0:=J.type (M:=model prog w)
 have L1:=PySem.W.looks_find (M:=model prog w) Xk J hf
 have sub:PySem.W.Looks (model prog w) h (isInstance (.ref x) (.type "BaseException")) true:=L0.andThen (PySem.W.looks_mroIn Xk (xmro c.cl "BaseException" true rfl))
 have nq:(onTheHeap (Value.ref C) && Value.builtin "BaseException.__getattribute__" == Value.builtin "object.__getattribute__") = false:=by
  rw [show (Value.builtin "BaseException.__getattribute__" == Value.builtin "object.__getattribute__") = false from by decide +kernel,Bool.and_false]
 unfold getAttr? getAttrBy? getAttrBy
 refine wpAny_bind (wpAny_mkText (wpAny_bind (wpAny_attempt (wpAny_holding (wpAny_bind (L0.at (wpAny_bind ((PySem.W.looks_findIn (M:=model prog w) Xk c.cl.ga).at ?_))))))))
 show wpAny _ _ (if _ = true then _ else _) _ _ _
 rw [nq,if_neg (by decide)]
 unfold getAttrByItsOwn hookBefore
 refine wpAny_bind (PySem.W.Looks.at (t:=if onTheHeap (Value.ref C) = true then typeLookup (.ref C) "__getattr__" else pure none) (r:=none) (PySem.W.looks_findIn (M:=model prog w) Xk c.cl.gx) (wpAny_bind (wpAny_attempt (wpAny_holding ?_))))
 unfold callGetattribute
 rw [show (false && onTheHeap (Value.builtin "BaseException.__getattribute__")) = false from rfl,if_neg (by decide)]
 unfold boundAndCalled
 rw [FX.ga.bind]
 refine wpAny_bind (wpAny_pure ?_)
 show wpAny _ _ (call (.builtin "BaseException.__getattribute__") [.ref x,.str "__class__" t]) _ _ _
 refine wpAny_call ?_
 refine codeAny_call_builtin FX.ga.plain PySem.F.entry_bexc_ga ?_
 refine @PySem.W.check_slot (model prog w) _ _ ⟨h,g,d,t + 1,os⟩ "BaseException.__getattribute__" "BaseException" "__getattribute__" (.ref x) [.str "__class__" t] [] _ (by decide +kernel) (by decide +kernel) sub (PySem.F.args_bexc_ga (.ref x) (.str "__class__" t)) ?_
 unfold Builtin.«object.__getattribute__»
 refine wpAny_bind (wpAny_pure (wpAny_bind (wpAny_pure (wpAny_bind (L0.at (wpAny_bind (L1.at ?_)))))))
 show wpAny _ _ (holding [Value.builtin "object.__class__"] (call (.builtin "getset_descriptor.__get__") [.builtin "object.__class__",.ref x,.ref C]) >>= ret) _ _ _
 refine wpAny_bind (wpAny_holding (wpAny_call (PySem.W.class_get (s:=⟨h,g,d,t + 1,os⟩) (ox:=ox) (od:=od) Xk J (xmro c.cl "object" true rfl) ?_)))
 refine wpAny_pure ?_
 show wpAny _ _ (handedOut (.ref C)) _ _ _
 exact PySem.W.handed_on rfl (wpAny_pure hq)
theorem kitx_exc (c:XIs K C):PySem.W.KitX K (.ref x) (.ref C) (fun h=>PySem.W.InstAt h x ox C od) where
 ty:=fun _ _ _ I=>I.type
 it:=fun _ _ Xk _=>by
  obtain ⟨cd,bm,hc,hm,tv,hd⟩:=c.cl.cls
  unfold PySem.W.clsIn at hc
  split at hc
  ·rename_i c' d' cd' sl' ho
   intro A' Q' E' s' k q
   unfold isType loadHead
   exact wpAny_bind (wpAny_loadPart (k _ _ (Xk _ _ ho)) (wpAny_pure q))
  ·cases hc
 ne:=fun h tp dd its n sl Xk htp=>by
  obtain ⟨cd,bm,hc,hm,tv,hd⟩:=c.cl.cls
  refine Bool.eq_false_iff.mpr fun q=>?_
  have e:C = tp:=Value.ref.inj (beq_iff_eq.mp q)
  subst e
  unfold PySem.W.clsIn at hc
  split at hc
  ·rename_i c' d' cd' sl' ho
   have z:=(Xk _ _ ho).symm.trans htp
   cases z
  ·cases hc
 ca:=fun Xk I k=>xclass Xk c I k
end
section
variable {X:Cx} {pins:List (Addr × Obj)} {σ:St} {H:Hp} {s:Shared} {a C:Addr} {od:Option Addr}
theorem Inv.gotAt (I:Inv X pins σ H s) (ea:H a = some (.ext (gotP a C od))) (ed:∀ dx,od = some dx->∃ fs,H dx = some (.ext (dctP dx fs))):∃ ox o,PySem.W.InstAt s.heap a ox C o:=by
 obtain ⟨⟨vs,sl,eo⟩,_⟩:=I.hok a _ ea
 cases od with
 | none=>exact ⟨_,none,eo,rfl,rfl,trivial⟩
 | some dx=>
  obtain ⟨fs,e⟩:=ed dx rfl
  obtain ⟨_,⟨ob,e2⟩,_⟩:=I.hok dx _ e
  exact ⟨_,some ob,eo,rfl,rfl,e2⟩
theorem call_isX:CallR X (.builtin "isinstance") (fun xs H Q=>∃ a C od x b,xs = [.ref a,x]/\H a = some (.ext (gotP a C od))/\(∀ dx,od = some dx->∃ fs,H dx = some (.ext (dctP dx fs)))/\XIs X.K C ∧
  (∀ u,RelV x u->PySem.W.kitOne X.K (.ref C) u = some b)/\Q (.bl b) H):=by
 intro pins s σ H xs us Q I r h
 obtain ⟨a,C,od,x,b,rfl,ea,ed,c,e,q⟩:=h
 obtain ⟨u,w',rfl,rx,rc⟩:=vals2 r
 cases (show u = Value.ref a from rx)
 obtain ⟨ox,o,J⟩:=I.gotAt ea ed
 exact PySem.W.kia_one (kitx_exc c) I.kIn J (e w' rc) (fun z=>nomatch z) fun tk=>⟨.bl b,H,I.tok tk,rfl,q⟩
end
section
variable {M:Model} {A:Around} {E:Value->Shared->Prop} {h:Heap} {g:Array GenState} {d:Drawn} {t:Nat} {os:OsState}
variable {nm q:Str} {C N:Addr} {bs bm:List Value} {sn:List Str} {sub:List Value} {ab:Bool} {col:Option Bool} {dd:Option Addr} {k0 k1 k2 k3 k5:Option Value}
variable {nm' q':Str} {D N':Addr} {bs' bm':List Value} {sn':List Str} {sub':List Value} {ab':Bool} {col':Option Bool} {dd':Option Addr} {j0 j1 j2 j3 j5:Option Value}
theorem xmatch {e:Addr} {oe:Obj} {b:Bool} {Q:Bool->Shared->Prop} (hC:h.get? C = some (excClassObj nm q C N bs bm true sn sub ab col dd k0 k1 k2 k3 k5 "ValueError.__new__"))
  (hD:h.get? D = some (excClassObj nm' q' D N' bs' bm' true sn' sub' ab' col' dd' j0 j1 j2 j3 j5 "ValueError.__new__")) (tD:tailV bm' = true) (he:h.get? e = some oe) (hcls:oe.cls = .ref C)
  (hb:(Value.ref C :: bm).contains (.ref D) = b) (hq:Q b ⟨h,g,d,t,os⟩):wpAny M A (excMatches (.ref e) (.ref D)) Q E ⟨h,g,d,t,os⟩:=by
 have hcB:(Value.ref D :: bm').contains (.type "BaseException") = true:=by rw [List.contains_cons,tailV_has (X:="BaseException") rfl tD];rfl
 have f:=tc_notTuple
 unfold excMatches
 repeat (first | (with_reducible refine wpAny_loadPart_at he ?_;rw [hcls]) | with_reducible refine wpAny_loadPart_at hD ?_ | (with_reducible refine wpAny_isSubtype_exc hD ?_;rw [hcB]) | (with_reducible refine wpAny_isSubtype_exc hC ?_;rw [hb]) | wp_step)
 cases b <;> (wp_walk;exact hq)
end
def Under (K:PySem.W.Frag) (C D:Addr):Prop:=XCl K C/\PySem.W.mroIn K C (.ref D) = some true
theorem Under.has {K:PySem.W.Frag} {C D:Addr} (u:Under K C D) {nm q:Str} {N:Addr} {bs bm:List Value} {sn:List Str} {sub:List Value} {ab:Bool} {col:Option Bool} {dd:Option Addr} {k0 k1 k2 k3 k5:Option Value}
  (lk:K.lookup C = some (excClassObj nm q C N bs bm true sn sub ab col dd k0 k1 k2 k3 k5 "ValueError.__new__")):(Value.ref C :: bm).contains (.ref D) = true:=by
 have e:PySem.W.clsIn K C = some ⟨nm,bs,.ref C :: bm,N,q,true,sn,sub,ab,col,false⟩:=by
  unfold PySem.W.clsIn
  rw [lk]
 have h:=u.2
 unfold PySem.W.mroIn at h
 rw [e,Option.bind_some] at h
 exact Option.some.inj h
section
variable {X:Cx} {body:List Stmt} {cx n:Str} {b₀:Stmt} {suite:List Stmt} {np hp pos:Pos} {CN:Addr} {i:Nat} {tb:Ends->TS} {tc:Addr->Addr->TS} {ts:Addr->TS}
end
end L2
namespace L2
open PySem PySem.Spec PyProof.Rows
section
variable {X:Cx}
variable {n:Nat}
end
end L2
namespace L2
open PySem
section
variable {prog:Program} {w:World} {A:Around} {E:Value->Shared->Prop} {s:Shared}
end
end L2
namespace L2
open PySem PySem.Spec PyProof.Rows
section
variable {X:Cx} {pins:List (Addr × Obj)} {σ:St} {H:Hp} {s:Shared} {h':Heap}
theorem Inv.turnedL {t':Nat} {ch:List Addr} (I:Inv X pins σ H s) (k:∀ b o,b ∉ ch->s.heap.get? b = some o->h'.get? b = some o) (f:∀ b ∈ ch,FpOk X pins H b):Inv X pins σ H { s with heap:=h',toks:=t' }:=by
 have nit:∀ b u,H b = some u->b ∉ ch:=fun b u e z=>by rw [(f b z).1] at e;cases e
 refine I.step (g':=s.gens) (d':=s.drawn) (ch:=ch) (fun b hb=>?_) (fun b o _ _ hc e _=>k b o hc e) (fun b o _ _ hc e _=>⟨o.slots,k b o hc e⟩) (fun _ _ _ _ n=>n) (fun b o hc e=>⟨o,k b o hc e⟩) (fun _ _ e=>e) (fun _ _ _ e=>e) (fun b ps e=>⟨#[],by rw [e];simp⟩) (fun m hm=>?_) (fun b u e=>?_) I.bare
 ·obtain ⟨f0,f1,f2,f3,f4,f5⟩:=f b hb
  exact ⟨f3,f1,f4,f5⟩
 ·obtain ⟨o,es,ep,ho,r⟩:=hm
  refine ⟨o,es,ep,k _ o (fun z=>?_) ho,r⟩
  obtain ⟨f0,f1,_⟩:=f _ z
  exact f1 rfl
 ·refine (I.hok b u e).stay (fun c v hc q=>k c v ?_ q) (fun _ q=>q) fun _ _ q=>q
  rcases hc with z | z
  ·rw [z];exact nit b u e
  ·exact nit c _ z
end
section
variable {X:Cx}
end
end L2
namespace L2
open PySem PySem.Spec PyProof.Rows
section
variable {X:Cx}
end
structure FunX (K:PySem.W.Frag) (x qual:Str) (st:Stmt) (f:Addr) (fd:FuncData):Prop where
 ex:∃ (oc:Value) (od:Option Addr) (dV kV doc pm:Value) (an:Option Addr) (cdv ct:Value) (osl:Array (Option Value)),
  fd = PySem.W.fnOf x qual (defArgs st) (defBody st) (defScope st) dV kV doc pm an cdv ct/\K.lookup f = some ⟨oc,od,.func fd,osl⟩/\PySem.W.codeIn K cdv qual = true
 kp:PySem.W.keepIn K (.ref f) = true
theorem funX_mk {K:PySem.W.Frag} {x qual:Str} {st:Stmt} {f:Addr} {oc:Value} {od an:Option Addr} {osl:Array (Option Value)} {dV kV doc pm cdv ct:Value} (l:K.lookup f = some ⟨oc,od,.func (PySem.W.fnOf x qual (defArgs st) (defBody st) (defScope st) dV kV doc pm an cdv ct),osl⟩)
  (c:PySem.W.codeIn K cdv qual = true) (k:PySem.W.keepIn K (.ref f) = true):FunX K x qual st f (PySem.W.fnOf x qual (defArgs st) (defBody st) (defScope st) dV kV doc pm an cdv ct):=⟨⟨oc,od,dV,kV,doc,pm,an,cdv,ct,osl,rfl,l,c⟩,k⟩
section
variable {P:Program} {w:World} {K:PySem.W.Frag} {mg:Str->Option Value} {base:Heap}
theorem FunX.ok {x qual:Str} {st:Stmt} {f:Addr} {fd:FuncData} {N ps:List Str} {k:Nat} {sp:Sp} (F:FunX K x qual st f fd) (S:FnScope N ps (defScope st)) (len:∀ vs H Q E,sp vs H Q E->vs.length = ps.length)
  (hbody:∀ (cdv:Value) (A:Around) (outer:List Env) (s:Shared) (H:Hp) (vs:List V) (Q:VK) (E:XK),Room k (A.deeper (envOfC qual (defScope st) s.heap.objs.size f cdv))->sp vs H Q E →
   ∃ t,PSs (cxOf CX0 P w K mg base N qual (defScope st) f cdv A outer s H E).nox (defBody st) t/\t { nx:=fun _ H'=>Q .non H',rt:=Q } (start N vs) H):FnOk P w K mg base CX0 (k + 1) f fd ps sp:=by
 obtain ⟨oc,od,dV,kV,doc,pm,an,cdv,ct,osl,rfl,lk,hcd⟩:=F.ex
 refine fn_of lk hcd S len fun A outer s H vs Q E hr hsp=>?_
 obtain ⟨t,h,q⟩:=hbody cdv A outer s H vs Q E hr hsp
 exact ⟨t,h.nox,q⟩
theorem FunX.okX {x qual:Str} {st:Stmt} {f:Addr} {fd:FuncData} {N ps:List Str} {k:Nat} {sp:Sp} (F:FunX K x qual st f fd) (S:FnScope N ps (defScope st)) (len:∀ vs H Q E,sp vs H Q E->vs.length = ps.length)
  (hbody:∀ (cdv:Value) (A:Around) (outer:List Env) (s:Shared) (H:Hp) (vs:List V) (Q:VK) (E:XK),Room k (A.deeper (envOfC qual (defScope st) s.heap.objs.size f cdv))->sp vs H Q E →
   ∃ t,PSs (cxOf (CX1 P w) P w K mg base N qual (defScope st) f cdv A outer s H E) (defBody st) t/\t { nx:=fun _ H'=>Q .non H',rt:=Q } (start N vs) H):FnOk P w K mg base (CX1 P w) (k + 1) f fd ps sp:=by
 obtain ⟨oc,od,dV,kV,doc,pm,an,cdv,ct,osl,rfl,lk,hcd⟩:=F.ex
 exact fn_of lk hcd S len fun A outer s H vs Q E hr hsp=>hbody cdv A outer s H vs Q E hr hsp
theorem Fun.x {x qual:Str} {st:Stmt} {f:Addr} {fd:FuncData} (F:Fun K x qual st f fd):FunX K x qual st f fd:=by
 obtain ⟨oc,od,kV,doc,pm,an,cdv,ct,osl,e,lk,hcd⟩:=F.ex
 exact ⟨⟨oc,od,.none,kV,doc,pm,an,cdv,ct,osl,e,lk,hcd⟩,F.kp⟩
end
end L2
namespace L2
open PySem PySem.Spec PyProof.Rows
section
variable {X:Cx}
end
end L2
namespace L2
open PySem PySem.Spec PyProof.Rows
def Aside (K:PySem.W.Frag) (C D:Addr):Prop:=XCl K C/\PySem.W.mroIn K C (.ref D) = some false
theorem Aside.hasNo {K:PySem.W.Frag} {C D:Addr} (u:Aside K C D) {nm q:Str} {N:Addr} {bs bm:List Value} {sn:List Str} {sub:List Value} {ab:Bool} {col:Option Bool} {dd:Option Addr} {k0 k1 k2 k3 k5:Option Value}
  (lk:K.lookup C = some (excClassObj nm q C N bs bm true sn sub ab col dd k0 k1 k2 k3 k5 "ValueError.__new__")):(Value.ref C :: bm).contains (.ref D) = false:=by
 have e:PySem.W.clsIn K C = some ⟨nm,bs,.ref C :: bm,N,q,true,sn,sub,ab,col,false⟩:=by
  unfold PySem.W.clsIn
  rw [lk]
 have h:=u.2
 unfold PySem.W.mroIn at h
 rw [e,Option.bind_some] at h
 exact Option.some.inj h
section
variable {X:Cx} {body:List Stmt} {cx cy n:Str} {b₀ b₁:Stmt} {suite suite':List Stmt} {np hp np' hp' pos:Pos} {CN CM Cx:Addr} {i:Nat} {tb:Ends->TS} {tc td:Addr->Addr->TS} {ts:Addr->TS} {pins:List (Addr × Obj)} {σ1:St} {H1:Hp} {s:Shared} {x:Addr} {od:Option Addr} {D:Ends} {rest:List ExceptHandler}
theorem fr_no (I:Inv X pins σ1 H1 s):∀ b o,s.heap.get? b = some o->b ∈ frs X.stack->∀ vs,o.data ≠ .fields vs:=fun b o e hb=>by
 obtain ⟨_,o',ho',hn⟩:=I.stack.mem hb
 rw [e] at ho'
 cases ho'
 exact hn
theorem handle_hit (I3:Inv X pins σ1 H1 s) (hx:Our X pins H1 x) (xa2:XAt s.heap (Our X pins H1) x (.ref Cx) od .none) (hN:X.N.Nodup) (hi:X.N[i]? = some n) (hk:X.env.scope.names.lookup n = some .local) (hg:Gl X cx) (hm:X.mg cx = some (.ref CN)) (c:XCl X.K CN) (un:Under X.K Cx CN)
  (hs:∀ x C,PSs (X.caught x) (b₀ :: suite) (tc x C)) (q:tc x Cx (offName i D) (σ1.set i (some (.ref x))) (upd H1 x (.ext (gotP x Cx od)))) (hdb:(cx == ("__debug__":Str)) = false:=by decide) :
  wpAny (model X.prog X.w) X.A (handleBy (.ref x) X.env (.ExceptHandler (some (.Name cx np)) (some n) (b₀ :: suite) hp :: rest)) (SP X pins D) X.xe s:=by
 obtain ⟨hh0,g0,d0,t0,o0⟩:=s
 obtain ⟨nm,qn,N,bs,bm,sn,sub,ab,col,dd,k0,k1,k2,k3,k5,lk,tv⟩:=c.at_
 obtain ⟨nm',qn',N',bs',bm',sn',sub',ab',col',dd',j0,j1,j2,j3,j5,lk',tv'⟩:=un.1.at_
 refine wpAny_handleBy_cons (codeAny_handlers_test ?_) (by intro q;cases q)
 refine ld_glob (X:=X.caught x) I3.caught hg hm ?_ hdb
 obtain ⟨vs,sl,v1,ex,ev1,tb2⟩:=id xa2
 refine xmatch (I3.kIn _ _ lk') (I3.kIn _ _ lk) tv ex rfl (un.has lk') ?_
 refine codeAny_handlers_suite_as ?_
 refine land_ok (s:=⟨hh0,g0,d0,t0,o0⟩) (fr:=frs X.stack) xa2 (fr_no I3) fun h3 n3 xa3=>?_
 have I4:=I3.noted hx n3
 obtain ⟨vs3,sl3,v3,ex3,_,_⟩:=id xa3
 have I5:Inv X pins σ1 (upd H1 x (.ext (gotP x Cx od))) ⟨h3,g0,d0,t0,o0⟩:=I4.track hx (gotP_ok ex3)
 refine store_ok (X:=X.caught x) I5.caught hN hi (.inl hk) (show RelV (.ref x) (.ref x) from rfl) (fun s6 I6=>?_) (.inr hk)
 refine wpAny_mono (hs x Cx pins s6 _ _ (offName i D) I6 q) (fun f s7 hf=>?_) fun _ _ z=>False.elim z
 have fin:∀ {σ':St} {H':Hp} {Q:Unit->Shared->Prop},Inv (X.caught x) pins σ' H' s7->(∀ s',Inv X pins (σ'.set i none) H' s'->Q () s')->wpAny (model X.prog X.w) X.A (do bindName X.env n .none;unbindBehindTheSuite X.env n hp) Q X.xe s7:=fun {σ' H' Q} J kq=>by
  have J':Inv X pins σ' H' s7:=J.uncaught I3.ok
  obtain ⟨m,hmn,hml⟩:=id J'.loc
  exact wpAny_nameGoes_keeps hk hmn (by rw [I3.ok.kind];rfl) fun h' v hn' sb=>kq _ (J'.unname hN hi hn' hml sb)
 cases f with
 | next=>obtain ⟨σ',H',J,z⟩:=hf;exact fin J fun s' J'=>⟨_,H',J',z⟩
 | brk=>obtain ⟨σ',H',J,z⟩:=hf;exact fin J fun s' J'=>⟨_,H',J',z⟩
 | cont=>obtain ⟨σ',H',J,z⟩:=hf;exact fin J fun s' J'=>⟨_,H',J',z⟩
 | ret u=>obtain ⟨v,σ',H',J,r,z⟩:=hf;exact fin J fun s' J'=>⟨v,_,H',J',r,z⟩
theorem handle_miss {on:Option Str} (I3:Inv X pins σ1 H1 s) (xa2:XAt s.heap (Our X pins H1) x (.ref Cx) od .none) (hg:Gl X cx) (hm:X.mg cx = some (.ref CN)) (c:XCl X.K CN) (un:Aside X.K Cx CN)
  (q:wpAny (model X.prog X.w) X.A (handleBy (.ref x) X.env rest) (SP X pins D) X.xe s) (hdb:(cx == ("__debug__":Str)) = false:=by decide) :
  wpAny (model X.prog X.w) X.A (handleBy (.ref x) X.env (.ExceptHandler (some (.Name cx np)) on (b₀ :: suite) hp :: rest)) (SP X pins D) X.xe s:=by
 obtain ⟨hh0,g0,d0,t0,o0⟩:=s
 obtain ⟨nm,qn,N,bs,bm,sn,sub,ab,col,dd,k0,k1,k2,k3,k5,lk,tv⟩:=c.at_
 obtain ⟨nm',qn',N',bs',bm',sn',sub',ab',col',dd',j0,j1,j2,j3,j5,lk',tv'⟩:=un.1.at_
 refine wpAny_handleBy_cons (codeAny_handlers_test ?_) (by intro q;cases q)
 refine ld_glob (X:=X.caught x) I3.caught hg hm ?_ hdb
 obtain ⟨vs,sl,v1,ex,ev1,tb2⟩:=id xa2
 refine xmatch (I3.kIn _ _ lk') (I3.kIn _ _ lk) tv ex rfl (un.hasNo lk') ?_
 exact q
def EXuu (K:PySem.W.Frag) (CN CM:Addr) (i:Nat) (tc td:Addr->Addr->TS) (D:Ends):XS:=fun C od σ H=>∃ Cx,C = .ref Cx ∧
 ((Under K Cx CN/\∀ x,H x = none->tc x Cx (offName i D) (σ.set i (some (.ref x))) (upd H x (.ext (gotP x Cx od))))\/(Aside K Cx CN/\Under K Cx CM/\∀ x,H x = none->td x Cx (offName i D) (σ.set i (some (.ref x))) (upd H x (.ext (gotP x Cx od)))))
theorem try_land (hst:X.stack = X.env :: X.outer) (hfr:X.env.frame = some X.env.locals) {hds:List ExceptHandler} {EX:XS} {σ:St} {H:Hp} (I:Inv X pins σ H s) {pn:List (Addr × Obj)} (hpn:pn = X.pn ++ pins)
  (hh:∀ (σ1:St) (H1:Hp) (s1:Shared) (x:Addr) (C:Value) (od:Option Addr),Inv X pins σ1 H1 s1->Our X pins H1 x->XAt s1.heap (Our X pins H1) x C od .none->EX C od σ1 H1->wpAny (model X.prog X.w) X.A (handleBy (.ref x) X.env hds) (SP X pins D) X.xe s1) :
  Lands (X.within pn (fun e s₁=>wpAny (model X.prog X.w) X.A (noteFrame e X.env) (fun _ s₂=>wpAny (model X.prog X.w) X.A (setFlight e none) (fun _ s₃=>wpAny (model X.prog X.w) X.A (handleBy e X.env hds) (SP X pins D) X.xe s₃) X.xe s₂) X.xe s₁)) EX:=by
 subst hpn
 intro pins' σ1 H1 s1 x C od I1' hx' xa' q
 have I1:Inv X pins σ1 H1 s1:=I1'.out I.ok
 have hx:Our X pins H1 x:=hx'.out
 have xa:XAt s1.heap (Our X pins H1) x C od .none:=xa'.imp fun _ o=>o.out
 have hfl:X.A.frames = some (X.env :: X.outer):=by rw [I.ok.frames,hst]
 refine note_ok (base:=X.base) hfl (by rw [← hst];exact I1.stack) hfr xa (fun T hT=>I1.our hT) fun h1 n1 xa1=>?_
 have I2:=I1.noted hx (by rw [hst];exact n1)
 refine land_ok (s:={ s1 with heap:=h1 }) (fr:=frs X.stack) xa1 (fr_no I2) fun h2 n2 xa2=>?_
 exact hh σ1 H1 { s1 with heap:=h2 } x C od (I2.noted hx n2) hx xa2 q
end
end L2
namespace L2
open PySem PySem.Spec PyProof.Rows
section
variable {X:Cx} {pins:List (Addr × Obj)} {σ:St} {H:Hp} {s:Shared} {a:Addr} {kvs:List (Key × V)} {o:Obj}
theorem Inv.freeze (I:Inv X pins σ H s) (e:H a = some (.dK kvs)) (ho:s.heap.get? a = some o):Inv X pins σ (upd H a (.frz o (.dK kvs))) s:=by
 have ne:∀ b u,H b = some u->u ≠ .dK kvs->b ≠ a:=fun b u q n z=>by
  subst z
  rw [e] at q
  exact n (Option.some.inj q).symm
 have nn:∀ b,H b = none->b ≠ a:=fun b q z=>by subst z;rw [e] at q;cases q
 refine ⟨I.ok,I.os,I.bare,⟨I.base.keep,I.base.slot,fun b ob q n hx=>?_,I.base.there,fun b xs q=>?_,fun b ob u q=>?_,fun b ps q=>?_⟩,I.loc,I.cell,?_,fun x c q=>?_,fun p hp=>?_,fun b u q=>?_,I.len⟩
 ·have h:=I.base.free b ob q n hx
  rw [upd_ne (nn b h)]
  exact h
 ·have h:=I.base.tups b xs q
  rw [upd_ne (ne b _ h (by simp))]
  exact h
 ·have h:=I.base.frzs b ob u q
  rw [upd_ne (ne b _ h (by simp))]
  exact h
 ·obtain ⟨m,h⟩:=I.base.tbls b ps q
  exact ⟨m,by rw [upd_ne (ne b _ h (by simp))];exact h⟩
 ·rw [upd_ne (nn _ I.free)]
  exact I.free
 ·rw [upd_ne (nn _ (I.freeC x c q))]
  exact I.freeC x c q
 ·obtain ⟨h1,h2,h3⟩:=I.pin p hp
  exact ⟨h1,by rw [upd_ne (nn _ h2)];exact h2,h3⟩
 ·by_cases hb:b = a
  ·subst hb
   rw [upd_same] at q
   cases q
   exact ⟨ho,I.hok b _ e⟩
  ·rw [upd_ne hb] at q
   exact (I.hok b u q).stay (fun c v _ r=>r) (fun c r=>by rw [upd_ne (ne c _ r (by simp))];exact r) fun c xs r=>by rw [upd_ne (ne c _ r (by simp))];exact r
theorem Inv.thaw (I:Inv X pins σ H s) (n0:∀ ob u,X.H₀ a ≠ some (.frz ob u)) (e:H a = some (.frz o (.dK kvs))):Inv X pins σ (upd H a (.dK kvs)) s:=by
 have ne:∀ b u,H b = some u->u ≠ .frz o (.dK kvs)->b ≠ a:=fun b u q n z=>by
  subst z
  rw [e] at q
  exact n (Option.some.inj q).symm
 have nn:∀ b,H b = none->b ≠ a:=fun b q z=>by subst z;rw [e] at q;cases q
 refine ⟨I.ok,I.os,I.bare,⟨I.base.keep,I.base.slot,fun b ob q n hx=>?_,I.base.there,fun b xs q=>?_,fun b ob u q=>?_,fun b ps q=>?_⟩,I.loc,I.cell,?_,fun x c q=>?_,fun p hp=>?_,fun b u q=>?_,I.len⟩
 ·have h:=I.base.free b ob q n hx
  rw [upd_ne (nn b h)]
  exact h
 ·have h:=I.base.tups b xs q
  rw [upd_ne (ne b _ h (by simp))]
  exact h
 ·have h:=I.base.frzs b ob u q
  rw [upd_ne (fun z=>by subst z;exact n0 _ _ q)]
  exact h
 ·obtain ⟨m,h⟩:=I.base.tbls b ps q
  exact ⟨m,by rw [upd_ne (ne b _ h (by simp))];exact h⟩
 ·rw [upd_ne (nn _ I.free)]
  exact I.free
 ·rw [upd_ne (nn _ (I.freeC x c q))]
  exact I.freeC x c q
 ·obtain ⟨h1,h2,h3⟩:=I.pin p hp
  exact ⟨h1,by rw [upd_ne (nn _ h2)];exact h2,h3⟩
 ·by_cases hb:b = a
  ·subst hb
   rw [upd_same] at q
   cases q
   exact (I.hok b _ e).2
  ·rw [upd_ne hb] at q
   exact (I.hok b u q).stay (fun c v _ r=>r) (fun c r=>by rw [upd_ne (ne c _ r (by simp))];exact r) fun c xs r=>by rw [upd_ne (ne c _ r (by simp))];exact r
theorem Inv.dk_obj (I:Inv X pins σ H s) (e:H a = some (.dK kvs)):∃ o,s.heap.get? a = some o:=by
 obtain ⟨_,_,_,_,o,_,_,g,_⟩:=I.hok a _ e
 exact ⟨o,g⟩
theorem Inv.not_frz (I:Inv X pins σ H s) (e:H a = some (.dK kvs)):∀ ob u,X.H₀ a ≠ some (.frz ob u):=fun ob u q=>by
 have:=I.base.frzs a ob u q
 rw [e] at this
 cases this
def frzE (a:Addr) (o:Obj) (kvs:List (Key × V)) (D:Ends):Ends where
 nx:=fun σ' H'=>H' a = some (.frz o (.dK kvs))/\D.nx σ' (upd H' a (.dK kvs))
 rt:=fun v H'=>H' a = some (.frz o (.dK kvs))/\D.rt v (upd H' a (.dK kvs))
 bk:=fun σ' H'=>H' a = some (.frz o (.dK kvs))/\D.bk σ' (upd H' a (.dK kvs))
 ct:=fun σ' H'=>H' a = some (.frz o (.dK kvs))/\D.ct σ' (upd H' a (.dK kvs))
def sFrz (t:TS):TS:=fun D σ H=>∃ a kvs,H a = some (.dK kvs)/\∀ o,t (frzE a o kvs D) σ (upd H a (.frz o (.dK kvs)))
theorem ps_frz {st:Stmt} {t:TS} (h:PS X st t):PS X st (sFrz t):=by
 intro pins s σ H D I hq
 obtain ⟨a,kvs,e,q⟩:=hq
 obtain ⟨o,ho⟩:=I.dk_obj e
 have n0:=I.not_frz e
 refine thn (h pins s σ _ _ (I.freeze e ho) (q o)) fun f s' hs=>?_
 cases f with
 | next=>obtain ⟨σ',H',I',e',z⟩:=hs;exact ⟨σ',_,I'.thaw n0 e',z⟩
 | brk=>obtain ⟨σ',H',I',e',z⟩:=hs;exact ⟨σ',_,I'.thaw n0 e',z⟩
 | cont=>obtain ⟨σ',H',I',e',z⟩:=hs;exact ⟨σ',_,I'.thaw n0 e',z⟩
 | ret u=>obtain ⟨v,σ',H',I',r,e',z⟩:=hs;exact ⟨v,σ',_,I'.thaw n0 e',r,z⟩
end
def epOf (o:Obj):Nat:=match o.data with
 | .dict _ ep=>ep
 | _=>0
theorem is_kV {P:Program} {w:World}:∀ {k:Key} {u:Value},(mixKind P w).is k u = true->RelV (kV k) u:=by
 intro k u h
 rcases keyIs_shape (k:=k) (v:=u) h with ⟨i,t,rfl,rfl⟩ | ⟨x,t,rfl,rfl⟩
 ·exact ⟨t,rfl⟩
 ·exact ⟨t,rfl⟩
section
variable {X:Cx}
theorem kv_get:∀ {kvs:List (Key × V)} {vs:List (Key × Value)} {i:Nat} {p:Key × V},KV kvs vs->kvs[i]? = some p->∃ u,vs[i]? = some (p.1,u)/\RelV p.2 u
 | _,_,_,_,.nil,e=>by simp at e
 | _,_,0,_,.cons (b:=q) r _,e=>by
  simp at e
  subst e
  obtain ⟨q1,q2⟩:=q
  obtain ⟨r1,r2⟩:=r
  exact ⟨q2,by rw [List.getElem?_cons_zero];exact congrArg (fun z=>some (z,q2)) r1.symm,r2⟩
 | _,_,i + 1,p,.cons _ t,e=>by
  obtain ⟨u,h1,h2⟩:=kv_get (i:=i) (p:=p) t (by simpa using e)
  exact ⟨u,by simpa using h1,h2⟩
theorem Inv.dictAt {pins:List (Addr × Obj)} {σ:St} {H:Hp} {s:Shared} {a:Addr} {o:Obj} {kvs:List (Key × V)} (I:Inv X pins σ H s) (e:H a = some (.frz o (.dK kvs))) :
  ∃ vs,KV kvs vs/\s.heap.DictAt (mixKind X.prog X.w) a vs (epOf o)/\(a == sysModules) = false:=by
 obtain ⟨g,_,hs,vs,kv,o',es,ep,g',ex,hd,hk,hp,hn⟩:=I.hok a _ e
 rw [g] at g'
 cases g'
 have he:epOf o = ep:=by unfold epOf;rw [hd]
 exact ⟨vs,kv,⟨o,es,g,ex,by rw [he];exact hd,hk,hp,hn⟩,hs⟩
theorem KV.len {kvs:List (Key × V)} {vs:List (Key × Value)} (r:KV kvs vs):kvs.length = vs.length:=Paired.length r
end
end L2
namespace L2
open PySem PySem.Spec PyProof.Rows
theorem vals_strs:∀ {us:List Value} {zs:List Str},StrsAre us zs->Vals (zs.map V.str) us
 | _,_,.nil=>.nil
 | _,_,.cons _ k t=>.cons ⟨_,rfl⟩ (vals_strs t)
section
variable {X:Cx}
end
end L2
namespace L2
open PySem PySem.Spec PyProof.Rows
theorem entry_itemiter_iter:entryFor table "dict_itemiterator.__iter__" = some Builtin.«dict_keyiterator.__iter__»:=
 entryFor_alias (id':="dict_keyiterator.__iter__") (by kernel_rfl) rfl (by decide +kernel) (by kernel_rfl)
theorem iter_itemiter {prog:Program} {w:World} {A:Around} {E:Value->Shared->Prop} {s:Shared} {it d:Addr} {i n ep:Nat} {ok ov:Value} {Q:Value->Shared->Prop} (hit:IsItemIter s.heap it d i n ep ok ov) (h:Q (.ref it) s):wpAny (model prog w) A (pyIter (.ref it)) Q E s:=by
 have hT:s.TypeIs (.ref it) "dict_itemiterator":=⟨_,hit,rfl⟩
 refine wpAny_pyIter_slot hT F.slot_dict_itemiterator_iter (wpAny_call_entry F.slot_dict_itemiterator_iter hT entry_itemiter_iter ?_ (F.args_dict_itemiterator_iter_1 _))
 show wpAny _ _ (ret (.ref it)) _ _ s
 exact wpAny_pure ⟨_,rfl,"dict_itemiterator",_,hT,F.slot_dict_itemiterator_next.lookup,h⟩
def Itm (a:Addr) (o:Obj) (kvs:List (Key × V)):It:=
 ⟨fun i H=>i < kvs.length/\H a = some (.frz o (.dK kvs)),fun i H x H'=>∃ k v p,kvs[i]? = some (k,v)/\x = .ref p/\H p = none/\H' = upd H p (.tup [kV k,v]),fun i H=>kvs.length ≤ i/\H a = some (.frz o (.dK kvs))⟩
section
variable {X:Cx}
theorem turn_items {P:Program} {w:World} {K:PySem.W.Frag} {es:List Expr} {x1:Nat} {tp:Pos} (a it:Addr) (o:Obj) (kvs:List (Key × V)):Turn P w K (.Tuple es x1 tp) (Itm a o kvs) [it] it (fun i h=>∃ ok ov,IsItemIter h it a i kvs.length (epOf o) ok ov) where
 mem:=by simp
 obj:=fun i h st b hb=>by
  have e:b = it:=by simpa using hb
  subst e
  obtain ⟨ok,ov,st⟩:=st
  exact ⟨_,st,fun v z=>by cases z⟩
 keep:=fun i h h' st k=>by
  obtain ⟨ok,ov,st⟩:=st
  exact ⟨ok,ov,k it (by simp) _ st⟩
 item:=by
  intro X hP hw hK hc i pins s σ H E I hf st hg
  subst hP hw hK
  obtain ⟨hi,hq⟩:=hg
  obtain ⟨ok,ov,st⟩:=st
  obtain ⟨vs,kv,da,_⟩:=I.dictAt hq
  have hl:=kv.len
  obtain ⟨u,hu,ru⟩:=kv_get kv (show kvs[i]? = some (kvs[i].1,kvs[i].2) by simp [hi])
  obtain ⟨f0,f1,f2,f3,f4,f5⟩:=hf it (by simp)
  have hit:it < s.heap.objs.size:=Heap.lt_size st
  rw [hl] at st
  refine wpAny_pyNext_items_item st da hu fun key h' hkey st' ht hsz kp=>?_
  refine ⟨_,rfl,?_⟩
  refine wpAny_letOwnedTupleGo_items (s:={ s with heap:=h' }) st' fun h'' st'' sb=>?_
  rw [← hl] at st''
  have I0:Inv X pins σ H { s with heap:=s.heap.update it fun _=>{ cls:=.type "dict_itemiterator",dict:=none,data:=.fields #[.none,.bool false,.ref a,.int (i + 1:Nat) 0,.int kvs.length 0,.int (epOf o) 0,key,u],slots:=#[] } }:=
   I.turned (t':=s.toks) (fun b ob hb e=>by rw [Heap.get?_update_ne _ _ _ _ hb];exact e) f0 f1 f3 f4 f5
  have hp:H s.heap.objs.size = none:=I.hok.fresh (Nat.le_refl _)
  refine ⟨.ref s.heap.objs.size,upd H s.heap.objs.size (.tup [kV kvs[i].1,kvs[i].2]),I0.laid (t':=s.toks) (h':=h'') (fun b ob e=>?_) (by rw [Heap.size_update];exact Nat.le_refl _) ?_,rfl,⟨_,_,_,by simp [hi],rfl,hp,rfl⟩,⟨key,u,st''⟩,fun b hb=>?_⟩
  ·by_cases hb:b = it
   ·subst hb
    rw [Heap.get?_update_self _ st rfl] at e
    rw [← e]
    exact st''
   ·rw [Heap.get?_update_ne _ _ _ _ hb] at e
    exact (sb.2 b hb).trans (kp b ob hb e)
  ·refine ⟨(show 2 ≤ sizeLine by decide),[key,u],.cons (is_kV hkey) (.cons ru .nil),⟨_,(sb.2 _ (Nat.ne_of_gt hit)).trans ht,rfl,_,rfl⟩⟩
  ·have e:b = it:=by simpa using hb
   subst e
   rw [upd_ne (Nat.ne_of_lt hit)]
   exact f0
 done:=by
  intro X hP hw hK hc i pins s σ H E I hf st hg
  subst hP hw hK
  obtain ⟨hi,hq⟩:=hg
  obtain ⟨ok,ov,st⟩:=st
  obtain ⟨vs,kv,da,_⟩:=I.dictAt hq
  have hl:=kv.len
  obtain ⟨f0,f1,f2,f3,f4,f5⟩:=hf it (by simp)
  rw [hl] at st
  exact wpAny_pyNext_items_end (I.ok.hd hc) st da (by simp;omega) fun h' eb=>⟨rfl,I.turned (t':=s.toks) (fun b o hb e=>eb b o hb e) f0 f1 f3 f4 f5⟩
 self:=fun A i s Q E st h=>by
  obtain ⟨ok,ov,st⟩:=st
  exact iter_itemiter st h
def iItems (tl:TE):TI:=fun σ H R=>tl σ H fun x H1=>∃ a o kvs,x = .ref a/\H1 a = some (.frz o (.dK kvs))/\R (Itm a o kvs) H1
theorem pi_items {es:List Expr} {x1:Nat} {tp:Pos} {l:Expr} {tl:TE} {apos cpos:Pos} (hl:PE X l tl) (hbase:attributeBase l "items" X.env (eval l X.env) = eval l X.env:=by rfl) (hline:(apos.endLine == cpos.line) = true:=by rfl) :
  PI X (.Tuple es x1 tp) (.Call (.Attribute l "items" apos) [] [] cpos) (iItems tl):=by
 intro pins s σ H R I h
 refine wpAny_Call_method0_late hbase hline (thn (hl pins s σ H _ I h) fun v s1 ⟨x,H1,I1,r1,q1⟩=>?_)
 obtain ⟨a,o,kvs,e,hq,q⟩:=q1
 subst e
 cases r1
 obtain ⟨vs,kv,da,hs⟩:=I1.dictAt hq
 obtain ⟨g,_⟩:=I1.hok a _ hq
 have ex:o.ExactDict:=by
  obtain ⟨o',es',g',x',_⟩:=id da
  rw [g] at g'
  cases g'
  exact x'
 refine ⟨"dict","dict.items",F.plainAttrs_dict,F.slot_dict_items,F.type_dict_items,da.dictOf.typeIs,(fun b e=>by cases e;exact ⟨o,g,ex.2.1⟩),Calls.callWith_builtin rfl (PySem.evalArgs_none ?_)⟩
 refine call_meetsIn F.slot_dict_items da.dictOf.typeIs F.entry_dict_items (F.args_dict_items_1 _) (meets_dict_items (mixKind X.prog X.w) a hs) ⟨⟨vs,da.dictOf⟩,?_⟩
 have I2:Inv X pins σ H1 { s1 with heap:=s1.heap.push { cls:=.type "dict_items",data:=.fields #[.ref a] } }:=I1.kept (t':=s1.toks) fun b o e=>Heap.get?_push_of_some _ e
 refine wpAny_pyIter_items (s:={ s1 with heap:=s1.heap.push { cls:=.type "dict_items",data:=.fields #[.ref a] } }) (knd:=mixKind X.prog X.w) (kvs:=vs) (ep:=epOf o) ⟨_,Heap.get?_push_size _ rfl,rfl,rfl⟩ (da.push _) ?_
 refine ⟨_,[_],_,_,H1,rfl,I2.kept (t':=s1.toks) fun b o e=>Heap.get?_push_of_some _ e,turn_items a _ o kvs,⟨.none,.none,by rw [kv.len];exact Heap.get?_push_size _ rfl⟩,fun b hb=>?_,q⟩
 have e:=List.mem_singleton.mp hb
 subst e
 exact I2.fpOk (Nat.le_refl _) (I2.hok.fresh (Nat.le_refl _))
theorem for_items {a:Addr} {o:Obj} {kvs:List (Key × V)} {g:TG} {tb:TS} {D:Ends} {σ:St} {H:Hp} (Pv:Nat->St->Hp->Prop) (h0:Pv 0 σ H) (hl:∀ i σ H,i ≤ kvs.length->Pv i σ H->H a = some (.frz o (.dK kvs)))
  (hs:∀ i k v p σ H,kvs[i]? = some (k,v)->Pv i σ H->H p = none->g (.ref p) σ (upd H p (.tup [kV k,v])) fun σ2 H2=>tb { D with nx:=Pv (i + 1),ct:=Pv (i + 1),bk:=D.nx } σ2 H2) (hd:∀ σ H,Pv kvs.length σ H->D.nx σ H) :
  ∃ W:Nat->Nat->St->Hp->Prop,(∃ m,W 0 m σ H)/\∀ i m σ H,W i m σ H →
   ((Itm a o kvs).stop i H/\D.nx σ H)\/((Itm a o kvs).go i H/\∃ N:St->Hp->Prop,(∀ σ' H',N σ' H'->∃ m',m' < m/\W (i + 1) m' σ' H')/\∀ x H',(Itm a o kvs).yld i H x H'->g x σ H' fun σ2 H2=>tb { D with nx:=N,ct:=N,bk:=D.nx } σ2 H2):=by
 refine ⟨fun i m σ H=>m = kvs.length - i/\i ≤ kvs.length/\Pv i σ H,⟨kvs.length,by simp,Nat.zero_le _,h0⟩,?_⟩
 rintro i m σ H ⟨rfl,hi,p⟩
 have q:=hl i σ H hi p
 by_cases hlt:i < kvs.length
 ·refine .inr ⟨⟨hlt,q⟩,Pv (i + 1),fun σ' H' p'=>⟨kvs.length - (i + 1),by omega,rfl,hlt,p'⟩,fun x H' y=>?_⟩
  obtain ⟨k,v,pa,hk,ex,hn,e⟩:=y
  subst e ex
  exact hs i k v pa σ H hk p hn
 ·have e:i = kvs.length:=by omega
  subst e
  exact .inl ⟨⟨Nat.le_refl _,q⟩,hd σ H p⟩
theorem call_dict_of:CallR X (.type "dict") (fun xs H Q=>∃ a kvs,xs = [.ref a]/\Rd H a (.dK kvs)/\∀ p,H p = none->Q (.ref p) (upd H p (.dK kvs))):=by
 intro pins s σ H xs us Q I r h
 obtain ⟨a,kvs,rfl,e,q⟩:=h
 obtain ⟨u,rfl,rx⟩:=vals1 r
 cases rx
 exact d_copyOf I e fun p s' hp I'=>⟨.ref p,_,I',rfl,q p hp⟩
end
end L2
namespace L2
open PySem PySem.Spec PyProof.Rows
theorem ObjOk.there {P:Program} {w:World} {H:Hp} {h:Heap} {a:Addr} {o:HO} (x:ObjOk P w H h a o):∃ ob,h.get? a = some ob:=by
 cases o with
 | lst xs=>obtain ⟨_,_,_,_,e⟩:=x;exact ⟨_,e⟩
 | tup xs=>obtain ⟨_,_,_,o,e,_⟩:=x;exact ⟨_,e⟩
 | dK kvs=>obtain ⟨_,_,_,_,o,_,_,e,_⟩:=x;exact ⟨_,e⟩
 | dT kvs=>obtain ⟨_,_,_,_,o,_,_,e,_⟩:=x;exact ⟨_,e⟩
 | set S n=>obtain ⟨o,_,_,_,e,_⟩:=x;exact ⟨_,e⟩
 | ins C dx fs=>obtain ⟨_,_,_,e,_⟩:=x;exact ⟨_,e⟩
 | own y=>exact x
 | xd fs=>obtain ⟨_,⟨_,_,_,e,_⟩,_⟩:=x;exact ⟨_,e⟩
 | met f y=>exact ⟨_,x⟩
 | rng lo hi=>obtain ⟨_,_,_,e⟩:=x;exact ⟨_,e⟩
 | frz ob u=>exact ⟨_,x.1⟩
 | tbl ps=>exact ⟨_,x⟩
 | ext φ=>exact x.2.1
section
variable {X:Cx} {pins:List (Addr × Obj)} {σ:St} {H:Hp} {s:Shared} {h':Heap} {a:Addr} {o:HO}
theorem Inv.none_at (I:Inv X pins σ H s) (hn:s.heap.get? a = none):H a = none:=by
 cases e:H a with
 | none=>rfl
 | some u=>
  obtain ⟨ob,q⟩:=(I.hok a u e).there
  rw [hn] at q
  cases q
theorem Inv.laidAt {t':Nat} (I:Inv X pins σ H s) (k:∀ b u,s.heap.get? b = some u->h'.get? b = some u) (hn:s.heap.get? a = none) (new:ObjOk X.prog X.w (upd H a o) h' a o):Inv X pins σ (upd H a o) { s with heap:=h',toks:=t' }:=by
 have hH:=I.none_at hn
 have ne:∀ b u,s.heap.get? b = some u->b ≠ a:=fun b u q z=>by subst z;rw [hn] at q;cases q
 refine I.un ⟨fun b u q _ _ _=>k b u q,fun b u q _ _ _=>⟨u.slots,k b u q⟩,fun b u q n _=>by rw [upd_ne (ne b u q)];exact n,fun b u q _=>⟨u,k b u q⟩,
  fun b xs q=>by rw [upd_ne (ne_of_none q hH)];exact q,fun b u xs q=>by rw [upd_ne (ne_of_none q hH)];exact q,fun b ps q=>⟨#[],by rw [upd_ne (ne_of_none q hH),q];simp⟩⟩ fun b u q=>?_
 by_cases hb:b = a
 ·subst hb
  rw [upd_same] at q
  cases q
  exact new
 ·rw [upd_ne hb] at q
  exact (I.hok b u q).stay (fun c v _ r=>k c v r) (fun c r=>by rw [upd_ne (ne_of_none r hH)];exact r) fun c xs r=>by rw [upd_ne (ne_of_none r hH)];exact r
end
theorem strs_at:∀ (us:List Value) (zs:List Str),us.length = zs.length->(∀ (j:Nat) (v:Value) (z:Str),us[j]? = some v->zs[j]? = some z->∃ t,v = Value.str z t)->StrsAre us zs
 | [],[],_,_=>.nil
 | [],_ :: _,h,_=>by simp at h
 | _ :: _,[],h,_=>by simp at h
 | u :: us,z :: zs,h,f=>by
  obtain ⟨t,rfl⟩:=f 0 u z rfl rfl
  exact .cons _ _ (strs_at us zs (by simpa using h) fun j v y h1 h2=>f (j + 1) v y (by simpa using h1) (by simpa using h2))
theorem kv_key:∀ {kvs:List (Key × V)} {vs:List (Key × Value)} {i:Nat} {q:Key × Value},KV kvs vs->vs[i]? = some q->(kvs.map (·.1))[i]? = some q.1
 | _,_,_,_,.nil,e=>by simp at e
 | _,_,0,_,.cons r _,e=>by
  simp at e
  subst e
  simp [r.1]
 | _,_,i + 1,q,.cons _ t,e=>by
  have h:=kv_key (i:=i) (q:=q) t (by simpa using e)
  simpa using h
section
variable {X:Cx}
theorem call_sortedD (hc:X.calm = true):CallR X (.builtin "sorted") (fun xs H Q=>∃ p kvs zs,xs = [.ref p]/\Rd H p (.dK kvs)/\kvs.map (·.1) = zs.map Sum.inr/\zs.length < 64/\∀ l ys,H l = none->ys.Perm zs->sortedS ys = true->Q (.ref l) (upd H l (.lst (ys.map V.str)))):=by
 intro pins s σ H xs us Q I r h
 obtain ⟨p,kvs,zs,rfl,hq,hz,h64,q⟩:=h
 obtain ⟨u,rfl,rx⟩:=vals1 r
 cases rx
 obtain ⟨hlen,lo,vs,kv,dd⟩:=hq.ok I.hok
 obtain ⟨ep,da⟩:=dd.dictAt
 have hl:=kv.len
 have hl2:kvs.length = zs.length:=by simpa using congrArg List.length hz
 refine Calls.call_function_entry kind_sorted plain_sorted entry_sorted (args_sorted1 _) ?_
 unfold Builtin.«sorted»
 refine wpAny_bind (m:=checkCount "sorted" 1 1 _) (wpAny_pure ?_)
 refine wpAny_bind (PySem.W.kdu_collect (PySem.W.kdl_dict (knd:=mixKind X.prog X.w) (kvs:=vs) (ep:=ep) lo) (I.ok.hd hc) da (by rw [← hl];exact hlen) fun h' tk acc hk hacc=>?_)
 have hS:StrsAre acc.toList zs:=by
  refine strs_at _ _ (by rw [Array.length_toList,hacc.1,← hl,hl2]) fun j v z h1 h2=>?_
  obtain ⟨k,x,hx,hkv⟩:=hacc.2 j v (by rw [← Array.getElem?_toList];exact h1)
  have hk':=kv_key kv hx
  rw [hz,List.getElem?_map,h2] at hk'
  have e:Sum.inr z = k:=by simpa using hk'
  subst e
  exact is_kV hkv
 have hal:acc.toList.length = zs.length:=by
  rw [Array.length_toList,hacc.1,← hl,hl2]
 refine wpAny_bind (wpAny_newList ?_ (by rw [hal,← hl2];exact hlen))
 have hoL:(h'.push (seqObj "list" acc.toList.toArray 0)).get? h'.objs.size = some (seqObj "list" acc.toList.toArray 0):=Heap.get?_push_size _ rfl
 refine wpAny_bind (wpAny_holding (wpAny_call_entry slot_list_sort ⟨_,hoL,rfl⟩ entry_list_sort (list_sort_treeK (s:={ s with heap:=h'.push (seqObj "list" acc.toList.toArray 0),toks:=tk }) strKind_oneLt hoL hS.keysOf (fun v₁ v₂ rest e=>keyKind_strs (by rw [← e];exact hS)) (by rw [hal];exact h64) fun st' hp hs=>⟨_,rfl,?_⟩) (args_list_sort _)))
 obtain ⟨ss',h1,h2,h3⟩:=sorted_out_str hS hp hs
 obtain ⟨e,he⟩:=sortedHeap_at (out:=(arrOf st').map (·.2)) hoL
 have hn:s.heap.get? h'.objs.size = none:=by
  cases q:s.heap.get? h'.objs.size with
  | none=>rfl
  | some ob=>exact absurd (Heap.lt_size (hk _ _ q)) (Nat.lt_irrefl _)
 refine wpAny_pure ⟨_,rfl,.ref h'.objs.size,_,I.laidAt (t':=tk) (o:=.lst (ss'.map V.str)) (fun b ob q=>?_) hn ?_,rfl,q _ ss' (I.none_at hn) h2 h3⟩
 ·have q':=hk b ob q
  have hlt:=Heap.lt_size q'
  rw [sortedHeap_old (Nat.ne_of_lt hlt) (by rw [size_push'];exact Nat.lt_succ_of_lt hlt)]
  exact Heap.get?_push_of_some _ q'
 ·exact ⟨by rw [List.length_map,h2.length_eq,← hl2];exact hlen,_,e,vals_strs h1,he⟩
end
end L2
namespace L2
open PySem PySem.Spec PyProof.Rows
section
variable {X:Cx}
theorem boot_enum:bootBuiltins "enumerate" = some (.type "enumerate"):=by decide +kernel
end
end L2
namespace L2
open PySem PySem.Spec PyProof.Rows
section
variable {X:Cx}
end
end L2
namespace Srt
open PySem PySem.W PyProof.Rows
section
variable {N:Nat} {r:Nat->Nat->Bool} {cmp:Nat->Nat->(Bool->Shared->Prop)->Shared->Prop} {P:Shared->Prop} {p:Array Nat}
end
end Srt
namespace Srt
open PySem PySem.W PyProof.Rows
section
variable {prog:Program} {w:World} {A:Around} {E:Value->Shared->Prop} {s:Shared}
end
end Srt
namespace L2
open PySem PySem.Spec PyProof.Rows
section
variable {X:Cx}
end
end L2
namespace L2
open PySem PySem.Spec PyProof.Rows PySem.Builtin PySem.Builtin.Dict
theorem dict_eq_tree (a b:Value):Builtin.«dict.__eq__» ⟨[a,b],[]⟩ = (do
  let (self,other) ← dictSlotArgs "__eq__" ⟨[a,b],[]⟩
  if !(← isInstance other (.type "dict")) then rule s!"dict.{("__eq__" : String)}.not-a-dict";return ← ret .notImplemented
  ret (.bool ((← Dict.samePairs s!"dict.{("__eq__" : String)}" (← addrOf self) (← addrOf other)) == true))):=rfl
theorem sub_dict_dict:isSubtype (.type "dict") (.type "dict") = pure true:=by rw [isSubtype_type];kernel_rfl
section
variable {prog:Program} {w:World} {A:Around} {E:Value->Shared->Prop} {s:Shared} {a b:Addr} {oa ob:Obj} {es fs:Array DictEntry} {ep fp:Nat}
theorem same_pairs {id:String} {Q:Bool->Shared->Prop} (ha:s.heap.get? a = some oa) (da:oa.data = .dict es ep) (hb:s.heap.get? b = some ob) (db:ob.data = .dict fs fp) (na:(a == sysModules) = false) (nb:(b == sysModules) = false) (hsz:es.size = fs.size)
  (hf:∀ (i:Nat) (e:DictEntry),es[i]? = some e->∃ (j:Nat) (f:DictEntry),fs[j]? = some f/\(∀ (R:Option Nat->Shared->Prop),R (some j) s->wpAny (model prog w) A (dictFind b e.key e.hash) R E s)/\∀ (R:Bool->Shared->Prop),R true s->wpAny (model prog w) A (eqBool e.val f.val) R E s)
  (hq:Q true s):wpAny (model prog w) A (Dict.samePairs id a b) Q E s:=by
 unfold Dict.samePairs Dict.showsAll
 simp only [na,nb,Bool.false_eq_true,if_false]
 refine wpAny_bind (wpAny_pure (wpAny_bind (wpAny_pure ?_)))
 refine wpAny_bind (wpAny_dictEntries ha da ?_)
 refine wpAny_bind (wpAny_dictEntries hb db ?_)
 rw [if_neg (by rw [hsz];simp)]
 refine wpAny_bind (wpAny_dictEpoch ha da ?_)
 rw [Std.Legacy.Range.forIn_eq_forIn_range']
 refine wpAny_bind (wpAny_forIn_list _ (fun rest b s'=>b = (none,())/\s' = s/\∀ x ∈ rest,x < es.size) _ (fun i rest b s' hI=>?_) (fun b s' hI=>?_) _ _ ⟨rfl,rfl,fun x hx=>?_⟩)
 ·obtain ⟨rfl,rfl,hl⟩:=hI
  have hi:=hl i List.mem_cons_self
  obtain ⟨j,f,hj,h1,h2⟩:=hf i es[i] (by simp [hi])
  refine wpAny_bind (wpAny_dictEntries ha da ?_)
  have ei:es[i]? = some es[i]:=by simp [hi]
  rw [ei]
  dsimp only
  refine wpAny_bind (wpAny_holding (wpAny_bind (h1 _ ?_)))
  dsimp only
  refine wpAny_bind (wpAny_dictEntries hb db ?_)
  rw [hj]
  dsimp only
  refine wpAny_holding (h2 _ ?_)
  rw [if_neg (by decide)]
  refine wpAny_bind (wpAny_dictEpoch ha da ?_)
  rw [if_neg (by simp)]
  exact wpAny_pure ⟨rfl,rfl,fun x hx=>hl x (List.mem_cons_of_mem _ hx)⟩
 ·obtain ⟨rfl,rfl,_⟩:=hI
  exact wpAny_pure hq
 ·have:=List.mem_range'.mp hx
  obtain ⟨k,hk,rfl⟩:=this
  simp [Std.Legacy.Range.size] at hk ⊢
  omega
end
end L2
namespace L2
open PySem PySem.Spec PyProof.Rows PySem.Builtin PySem.Builtin.Dict
theorem pairs_len {P:Program} {w:World}:∀ {es:List DictEntry} {kvs:List (Key × Value)},Pairs (mixKind P w) es kvs->es.length = kvs.length
 | _,_,.nil=>rfl
 | _,_,.cons _ _ r=>by simp [pairs_len r]
theorem find_str {prog:Program} {w:World} {A:Around} {E:Value->Shared->Prop} {s:Shared} {d:Addr} {o:Obj} {es:Array DictEntry} {ep j:Nat} {x:Str} {t:Tok} {hs:Int} {Q:Option Nat->Shared->Prop} (ho:s.heap.get? d = some o) (hd:o.data = .dict es ep)
  (hall:∀ e ∈ es,∃ z t,e.key = Value.str z t) (hj:es.findIdx? (fun e=>e.key.isStr x) = some j) (h:Q (some j) s):wpAny (model prog w) A (dictFind d (.str x t) hs) Q E s:=by
 obtain ⟨hjs,hjt,_⟩:=Array.findIdx?_eq_some_iff_getElem.mp hj
 have ha:(es.all fun e=>isExactStrKey e.key) = true:=by
  rw [Array.all_eq_true']
  intro e he
  obtain ⟨z,t,q⟩:=hall e he
  rw [q]
  rfl
 obtain ⟨z,tz,ez⟩:=hall es[j] (Array.getElem_mem hjs)
 have zx:z = x:=by
  rw [ez] at hjt
  exact eq_of_beq hjt
 subst zx
 unfold dictFind
 refine wpAny_holding ?_
 refine wpAny_bind (wpAny_dictEntries ho hd ?_)
 dsimp only
 rw [if_pos ha]
 unfold foundByValue
 rw [hj]
 dsimp only
 rw [Array.getElem?_eq_getElem hjs]
 dsimp only
 rw [ez]
 refine wpAny_bind (wpAny_dictEpoch ho hd (wpAny_bind (wpAny_eqBool_str (wpAny_bind (wpAny_dictEpoch ho hd ?_)))))
 rw [if_neg (by simp),if_pos (by simp)]
 exact wpAny_bind (wpAny_rule (wpAny_pure h))
section
variable {A:Around} {s:Shared} {P:Program} {w:World}
theorem eqAt_dicts {a b:Addr} {kvs kws:List (Key × Value)} (da:s.heap.DictOf (mixKind P w) a kvs) (db:s.heap.DictOf (mixKind P w) b kws) (na:(a == sysModules) = false) (nb:(b == sysModules) = false) (hl:kvs.length = kws.length) (tx:∀ (k:Key) (v:Value),(k,v) ∈ kws->∃ x,k = .inr x)
  (he:∀ (k:Key) (v:Value),(k,v) ∈ kvs->∃ v',(k,v') ∈ kws/\SeqAt.EqAt A.in1 s v v' true) (hu:A.units < cLine):SeqAt.EqAt A s (.ref a) (.ref b) true:=by
 by_cases hab:a = b
 ·rw [hab]
  exact SeqAt.EqAt.same _
 refine SeqAt.EqAt.of_refs hab fun prog w' E Q hq=>?_
 obtain ⟨oa,es,ep,ha,xa,dda,ka,pa,nda⟩:=da
 obtain ⟨ob,fs,fp,hb,xb,ddb,kb,pb,ndb⟩:=db
 have Ta:s.TypeIs (.ref a) "dict":=⟨oa,ha,xa.1⟩
 have Tb:s.TypeIs (.ref b) "dict":=⟨ob,hb,xb.1⟩
 have la:es.size = kvs.length:=by have:=pairs_len pa;simpa using this
 have lb:fs.size = kws.length:=by have:=pairs_len pb;simpa using this
 have kb':∀ e ∈ fs,∃ z t,e.key = Value.str z t:=fun e he'=>by
  obtain ⟨m,hm,rfl⟩:=Array.mem_iff_getElem.mp he'
  obtain ⟨⟨k,v⟩,hk⟩:∃ kv,kws[m]? = some kv:=⟨_,List.getElem?_eq_getElem (by omega)⟩
  obtain ⟨g1,_⟩:=pb.get? (i:=m) (e:=fs[m]) (by simp [hm]) hk
  obtain ⟨x,rfl⟩:=tx k v (List.mem_of_getElem? hk)
  rcases keyIs_shape (k:=.inr x) (v:=fs[m].key) g1 with ⟨i,t,q,_⟩ | ⟨z,t,q,q2⟩
  ·cases q
  ·exact ⟨z,t,q2⟩
 refine wpAny_richCompare_same_room Ta Tb F.slot_dict_eq (wpAny_call_entry F.slot_dict_eq Ta F.entry_dict_eq ?_ (F.args_dict_eq_2 _ _)) hu
 rw [dict_eq_tree]
 refine wpAny_bind ?_
 show wpAny _ _ (pure (Value.ref a,Value.ref b)) _ _ _
 refine wpAny_pure ?_
 dsimp only
 refine wpAny_bind (wpAny_isInstance (T:="dict") (b:=true) Tb sub_dict_dict ?_)
 simp only [Bool.not_true,Bool.false_eq_true,if_false]
 refine wpAny_bind (wpAny_pure (wpAny_bind (wpAny_pure (wpAny_bind (same_pairs ha dda hb ddb na nb (by omega) (fun i e ei=>?_) ?_)))))
 ·have hi:i < es.size:=(Array.getElem?_eq_some_iff.mp ei).1
  obtain ⟨⟨k,v⟩,hk⟩:∃ kv,kvs[i]? = some kv:=⟨_,List.getElem?_eq_getElem (by omega)⟩
  obtain ⟨g1,g2⟩:=pa.get? (i:=i) (e:=e) (by simpa using ei) hk
  obtain ⟨k2,g3,g4⟩:=ka e (Array.mem_of_getElem? ei)
  have ek:k2 = k:=(mixKind P w).inj _ _ _ g3 g1
  subst ek
  obtain ⟨v',hv',eq⟩:=he k2 v (List.mem_of_getElem? hk)
  obtain ⟨x,rfl⟩:=tx k2 v' hv'
  obtain ⟨t0,ek0⟩:∃ t,e.key = Value.str x t:=by
   rcases keyIs_shape (k:=.inr x) (v:=e.key) g1 with ⟨i,t,q,_⟩ | ⟨z,t,q,q2⟩
   ·cases q
   ·cases q
    exact ⟨t,q2⟩
  obtain ⟨m,hm⟩:=List.getElem?_of_mem hv'
  have hm':m < fs.size:=by have:=(List.getElem?_eq_some_iff.mp hm).1;omega
  have em:fs.toList[m]? = some fs[m]:=by simp [hm']
  obtain ⟨q1,q2⟩:=pb.get? em hm
  obtain ⟨j,hj⟩:∃ j,fs.findIdx? (fun e=>e.key.isStr x) = some j:=by
   cases z:fs.findIdx? (fun e=>e.key.isStr x) with
   | some j=>exact ⟨j,rfl⟩
   | none=>
    have:=Array.findIdx?_eq_none_iff.mp z fs[m] (Array.getElem_mem hm')
    have q1':fs[m].key.isStr x = true:=by
     rcases keyIs_shape (k:=.inr x) (v:=fs[m].key) q1 with ⟨i,t,q,_⟩ | ⟨z,t,q,q2⟩
     ·cases q
     ·cases q
      rw [q2]
      exact beq_self_eq_true x
    rw [q1'] at this
    cases this
  obtain ⟨hjs,hjt,_⟩:=Array.findIdx?_eq_some_iff_getElem.mp hj
  obtain ⟨⟨k3,v3⟩,hk3⟩:∃ kv,kws[j]? = some kv:=⟨_,List.getElem?_eq_getElem (by omega)⟩
  obtain ⟨r1,r2⟩:=pb.get? (i:=j) (e:=fs[j]) (by simp [hjs]) hk3
  have hjk:(mixKind P w).is (.inr x) fs[j].key = true:=by
   obtain ⟨z,t,q⟩:=kb' fs[j] (Array.getElem_mem hjs)
   rw [q] at hjt ⊢
   have zx:z = x:=eq_of_beq hjt
   rw [zx]
   rw [(mixKind P w).strs (.inr x) x t0 _ (by rw [← ek0];exact g1)]
   exact beq_self_eq_true x
  have e3:k3 = .inr x:=(mixKind P w).inj _ _ _ r1 hjk
  subst e3
  have jm:j = m:=by
   have hj1:(kws.map (·.1))[j]? = some (Sum.inr x):=by rw [List.getElem?_map,hk3];rfl
   have hm1:(kws.map (·.1))[m]? = some (Sum.inr x):=by rw [List.getElem?_map,hm];rfl
   obtain ⟨x1,y1⟩:=List.getElem?_eq_some_iff.mp hj1
   obtain ⟨x2,y2⟩:=List.getElem?_eq_some_iff.mp hm1
   rcases Nat.lt_trichotomy j m with z | z | z
   ·exact absurd (y1.trans y2.symm) (List.pairwise_iff_getElem.mp ndb j m x1 x2 z)
   ·exact z
   ·exact absurd (y2.trans y1.symm) (List.pairwise_iff_getElem.mp ndb m j x2 x1 z)
  subst jm
  rw [hm] at hk3
  cases hk3
  refine ⟨j,fs[j],by simp [hjs],fun R hR=>?_,fun R hR=>?_⟩
  ·rw [ek0]
   exact find_str hb ddb kb' hj hR
  ·rw [g2,r2]
   exact eq prog w' E R hR
 ·exact wpAny_pure ⟨_,rfl,(fun z=>nomatch z),hq⟩
end
end L2
namespace L2
open PySem PySem.Spec PyProof.Rows
inductive Dq (H:Hp):Nat->V->V->Prop
 | non {n:Nat}:Dq H n .non .non
 | bl {n:Nat} {b:Bool}:Dq H n (.bl b) (.bl b)
 | int {n:Nat} {i:Int}:Dq H n (.int i) (.int i)
 | str {n:Nat} {z:Str}:Dq H n (.str z) (.str z)
 | ref {n:Nat} {a:Addr}:Dq H n (.ref a) (.ref a)
 | tup {n:Nat} {a b:Addr} {xs ys:List V} (ha:H a = some (.tup xs)) (hb:H b = some (.tup ys)) (hl:xs.length = ys.length) (h:∀ (i:Nat) (x y:V),xs[i]? = some x->ys[i]? = some y->Dq H n x y):Dq H (n + 1) (.ref a) (.ref b)
 | lst {n:Nat} {a b:Addr} {xs ys:List V} (ha:H a = some (.lst xs)) (hb:H b = some (.lst ys)) (hl:xs.length = ys.length) (h:∀ (i:Nat) (x y:V),xs[i]? = some x->ys[i]? = some y->Dq H n x y):Dq H (n + 1) (.ref a) (.ref b)
 | dct {n:Nat} {a b:Addr} {kvs kws:List (Key × V)} (f:Key->V) (ha:Rd H a (.dK kvs)) (hb:Rd H b (.dK kws)) (hl:kvs.length = kws.length) (tx:∀ (k:Key) (v:V),(k,v) ∈ kws->∃ x,k = .inr x)
   (hf:∀ (k:Key) (v:V),(k,v) ∈ kvs->(k,f k) ∈ kws) (h:∀ (k:Key) (v:V),(k,v) ∈ kvs->Dq H n v (f k)):Dq H (n + 1) (.ref a) (.ref b)
theorem kv_back:∀ {kvs:List (Key × V)} {vs:List (Key × Value)} {k:Key} {u:Value} {i:Nat},KV kvs vs->vs[i]? = some (k,u)->∃ v,kvs[i]? = some (k,v)/\RelV v u
 | _,_,_,_,_,.nil,e=>by simp at e
 | _,_,k,u,0,.cons (a:=p) r _,e=>by
  simp at e
  subst e
  obtain ⟨p1,p2⟩:=p
  obtain ⟨r1,r2⟩:=r
  simp only at r1
  subst r1
  exact ⟨p2,rfl,r2⟩
 | _,_,k,u,i + 1,.cons _ t,e=>by
  obtain ⟨v,h1,h2⟩:=kv_back (i:=i) t (by simpa using e)
  exact ⟨v,by simpa using h1,h2⟩
section
variable {X:Cx} {pins:List (Addr × Obj)} {σ:St} {H:Hp} {s:Shared}
theorem eqAt_Dq (I:Inv X pins σ H s) {n:Nat} {x y:V} (d:Dq H n x y):∀ {u u':Value} {A:Around},RelV x u->RelV y u'->A.units + n < cLine->SeqAt.EqAt A s u u' true:=by
 induction d with
 | non=>intro u u' A r r' _;cases r;cases r';exact SeqAt.EqAt.same _
 | bl=>intro u u' A r r' _;cases r;cases r';exact SeqAt.EqAt.same _
 | @int n i=>
  intro u u' A r r' _
  obtain ⟨t,rfl⟩:=r
  obtain ⟨t',rfl⟩:=r'
  have h:=SeqAt.EqAt.int_int (A:=A) (s:=s) i t i t'
  rwa [beq_self_eq_true] at h
 | @str n z=>
  intro u u' A r r' _
  obtain ⟨t,rfl⟩:=r
  obtain ⟨t',rfl⟩:=r'
  have h:=SeqAt.EqAt.str_str (A:=A) (s:=s) z t z t'
  rwa [beq_self_eq_true] at h
 | ref=>intro u u' A r r' _;cases r;cases r';exact SeqAt.EqAt.same _
 | @tup n a b xs ys ha hb hl h ih=>
  intro u u' A r r' hu
  cases r
  cases r'
  by_cases hab:a = b
  ·rw [hab];exact SeqAt.EqAt.same _
  obtain ⟨its,r1,pl,_⟩:=I.tuple (SqT.of (K:=X.K) ha)
  obtain ⟨jts,r2,ql,_⟩:=I.tuple (SqT.of (K:=X.K) hb)
  have l1:=r1.length
  have l2:=r2.length
  have h0:=SeqAt.RcAt.tuples (A:=A) (e:=fun _=>true) pl ql (by omega) (fun j g1 g2=>?_)
  ·have e:((List.range (min its.toArray.size jts.toArray.size)).all (fun _=>true) && its.toArray.size == jts.toArray.size) = true:=by
    simp
    omega
   rw [e] at h0
   exact SeqAt.EqAt.of_refs hab h0
  ·have g1':j < its.length:=by simpa using g1
   have g2':j < jts.length:=by simpa using g2
   obtain ⟨u1,e1,k1⟩:=r1.get (i:=j) (x:=xs[j]'(by omega)) (by simp)
   obtain ⟨u2,e2,k2⟩:=r2.get (i:=j) (x:=ys[j]'(by omega)) (by simp)
   have w1:its.toArray[j] = u1:=by have:=(List.getElem?_eq_some_iff.mp e1).2;simpa using this
   have w2:jts.toArray[j] = u2:=by have:=(List.getElem?_eq_some_iff.mp e2).2;simpa using this
   rw [w1,w2]
   exact ih j _ _ (by simp) (by simp) k1 k2 (by show A.units + 1 + n < cLine;omega)
 | @lst n a b xs ys ha hb hl h ih=>
  intro u u' A r r' hu
  cases r
  cases r'
  by_cases hab:a = b
  ·rw [hab];exact SeqAt.EqAt.same _
  obtain ⟨its,r1,pl,_⟩:=I.list (xs:=xs) (.inl (.inl ha))
  obtain ⟨jts,r2,ql,_⟩:=I.list (xs:=ys) (.inl (.inl hb))
  have l1:=r1.length
  have l2:=r2.length
  have h0:=SeqAt.RcAt.lists (A:=A) (e:=fun _=>true) pl.isList ql.isList (by simp;omega) (by omega) (fun j g1 g2=>?_)
  ·have e:((List.range its.toArray.size).all (fun _=>true)) = true:=by simp
   rw [e] at h0
   exact SeqAt.EqAt.of_refs hab h0
  ·have g1':j < its.length:=by simpa using g1
   have g2':j < jts.length:=by simpa using g2
   obtain ⟨u1,e1,k1⟩:=r1.get (i:=j) (x:=xs[j]'(by omega)) (by simp)
   obtain ⟨u2,e2,k2⟩:=r2.get (i:=j) (x:=ys[j]'(by omega)) (by simp)
   have w1:its.toArray[j] = u1:=by have:=(List.getElem?_eq_some_iff.mp e1).2;simpa using this
   have w2:jts.toArray[j] = u2:=by have:=(List.getElem?_eq_some_iff.mp e2).2;simpa using this
   rw [w1,w2]
   exact ih j _ _ (by simp) (by simp) k1 k2 (by show A.units + 1 + n < cLine;omega)
 | @dct n a b kvs kws f ha hb hl tx hf h ih=>
  intro u u' A r r' hu
  cases r
  cases r'
  obtain ⟨_,na,vs,kv,da⟩:=dk_rd I.hok ha
  obtain ⟨_,nb,ws,kw,db⟩:=dk_rd I.hok hb
  have l1:=kv.length
  have l2:=kw.length
  refine eqAt_dicts da db na nb (by omega) (fun k v hk=>?_) (fun k v hk=>?_) (by omega)
  ·obtain ⟨i,hi⟩:=List.getElem?_of_mem hk
   obtain ⟨v0,e0,_⟩:=kv_back kw hi
   exact tx k v0 (List.mem_of_getElem? e0)
  ·obtain ⟨i,hi⟩:=List.getElem?_of_mem hk
   obtain ⟨v0,e0,rv⟩:=kv_back kv hi
   have m0:=List.mem_of_getElem? e0
   obtain ⟨m,hm⟩:=List.getElem?_of_mem (hf k v0 m0)
   obtain ⟨u',e1,rv'⟩:=kv_get kw hm
   exact ⟨u',List.mem_of_getElem? e1,ih k v0 m0 rv rv' (by show A.units + 1 + n < cLine;omega)⟩
theorem rc_lists {A:Around} (I:Inv X pins σ H s) {n:Nat} {a b:Addr} {xs ys:List V} (ha:SqL X.K H a xs) (hb:SqL X.K H b ys) (hl:xs.length = ys.length) (h:∀ (i:Nat) (x y:V),xs[i]? = some x->ys[i]? = some y->Dq H n x y) (hu:A.units + n + 1 < cLine) :
  SeqAt.RcAt A s (.ref a) (.ref b) true/\SeqAt.RcNeAt A s (.ref a) (.ref b) false:=by
 obtain ⟨its,r1,pl,_⟩:=I.list ha
 obtain ⟨jts,r2,ql,_⟩:=I.list hb
 have l1:=r1.length
 have l2:=r2.length
 have el:∀ j (g1:j < its.toArray.size) (g2:j < jts.toArray.size),SeqAt.EqAt A.in1 s its.toArray[j] jts.toArray[j] true:=fun j g1 g2=>by
  have g1':j < its.length:=by simpa using g1
  have g2':j < jts.length:=by simpa using g2
  obtain ⟨u1,e1,k1⟩:=r1.get (i:=j) (x:=xs[j]'(by omega)) (by simp)
  obtain ⟨u2,e2,k2⟩:=r2.get (i:=j) (x:=ys[j]'(by omega)) (by simp)
  have w1:its.toArray[j] = u1:=by have:=(List.getElem?_eq_some_iff.mp e1).2;simpa using this
  have w2:jts.toArray[j] = u2:=by have:=(List.getElem?_eq_some_iff.mp e2).2;simpa using this
  rw [w1,w2]
  exact eqAt_Dq I (h j _ _ (by simp) (by simp)) k1 k2 (by show A.units + 1 + n < cLine;omega)
 have e:((List.range its.toArray.size).all (fun _=>true)) = true:=by simp
 have h1:=SeqAt.RcAt.lists (A:=A) (e:=fun _=>true) pl.isList ql.isList (by simp;omega) (by omega) el
 have h2:=SeqAt.RcNeAt.lists (A:=A) (e:=fun _=>true) pl.isList ql.isList (by simp;omega) (by omega) el
 rw [e] at h1 h2
 exact ⟨h1,h2⟩
theorem op_eqL:OpR X (compareOp .Eq) (fun x y H Q=>∃ (n:Nat) (a b:Addr) (xs ys:List V),x = .ref a/\y = .ref b/\SqL X.K H a xs/\SqL X.K H b ys/\xs.length = ys.length/\(∀ (i:Nat) (x y:V),xs[i]? = some x->ys[i]? = some y->Dq H n x y)/\X.A.units + n + 1 < cLine/\Q (.bl true) H):=by
 intro pins s σ H x y v u Q I rx ry h
 obtain ⟨n,a,b,xs,ys,rfl,rfl,ha,hb,hl,hd,hu,q⟩:=h
 cases rx
 cases ry
 exact (rc_lists I ha hb hl hd hu).1 X.prog X.w X.xe _ ⟨.bl true,H,I,rfl,q⟩
theorem op_neL:OpR X (compareOp .NotEq) (fun x y H Q=>∃ (n:Nat) (a b:Addr) (xs ys:List V),x = .ref a/\y = .ref b/\SqL X.K H a xs/\SqL X.K H b ys/\xs.length = ys.length/\(∀ (i:Nat) (x y:V),xs[i]? = some x->ys[i]? = some y->Dq H n x y)/\X.A.units + n + 1 < cLine/\Q (.bl false) H):=by
 intro pins s σ H x y v u Q I rx ry h
 obtain ⟨n,a,b,xs,ys,rfl,rfl,ha,hb,hl,hd,hu,q⟩:=h
 cases rx
 cases ry
 exact (rc_lists I ha hb hl hd hu).2 X.prog X.w X.xe _ ⟨.bl false,H,I,rfl,q⟩
end
end L2
namespace L2
open PySem PySem.Spec PyProof.Rows PySem.Builtin PySem.Builtin.Dict
section
variable {X:Cx}
end
theorem dict_ne_tree (a b:Value):Builtin.«dict.__ne__» ⟨[a,b],[]⟩ = (do
  let (self,other) ← dictSlotArgs "__ne__" ⟨[a,b],[]⟩
  if !(← isInstance other (.type "dict")) then rule s!"dict.{("__ne__" : String)}.not-a-dict";return ← ret .notImplemented
  ret (.bool ((← Dict.samePairs s!"dict.{("__ne__" : String)}" (← addrOf self) (← addrOf other)) == false))):=rfl
section
variable {A:Around} {s:Shared} {P:Program} {w:World}
theorem rcNe_dicts {a b:Addr} {kvs kws:List (Key × Value)} (da:s.heap.DictOf (mixKind P w) a kvs) (db:s.heap.DictOf (mixKind P w) b kws) (na:(a == sysModules) = false) (nb:(b == sysModules) = false) (hl:kvs.length = kws.length) (tx:∀ (k:Key) (v:Value),(k,v) ∈ kws->∃ x,k = .inr x)
  (he:∀ (k:Key) (v:Value),(k,v) ∈ kvs->∃ v',(k,v') ∈ kws/\SeqAt.EqAt A.in1 s v v' true) (hu:A.units < cLine):SeqAt.RcNeAt A s (.ref a) (.ref b) false:=fun prog w' E Q hq=>by
 obtain ⟨oa,es,ep,ha,xa,dda,ka,pa,nda⟩:=da
 obtain ⟨ob,fs,fp,hb,xb,ddb,kb,pb,ndb⟩:=db
 have Ta:s.TypeIs (.ref a) "dict":=⟨oa,ha,xa.1⟩
 have Tb:s.TypeIs (.ref b) "dict":=⟨ob,hb,xb.1⟩
 have la:es.size = kvs.length:=by have:=pairs_len pa;simpa using this
 have lb:fs.size = kws.length:=by have:=pairs_len pb;simpa using this
 have kb':∀ e ∈ fs,∃ z t,e.key = Value.str z t:=fun e he'=>by
  obtain ⟨m,hm,rfl⟩:=Array.mem_iff_getElem.mp he'
  obtain ⟨⟨k,v⟩,hk⟩:∃ kv,kws[m]? = some kv:=⟨_,List.getElem?_eq_getElem (by omega)⟩
  obtain ⟨g1,_⟩:=pb.get? (i:=m) (e:=fs[m]) (by simp [hm]) hk
  obtain ⟨x,rfl⟩:=tx k v (List.mem_of_getElem? hk)
  rcases keyIs_shape (k:=.inr x) (v:=fs[m].key) g1 with ⟨i,t,q,_⟩ | ⟨z,t,q,q2⟩
  ·cases q
  ·exact ⟨z,t,q2⟩
 refine wpAny_richCompare_same_room Ta Tb F.slot_dict_ne (wpAny_call_entry F.slot_dict_ne Ta F.entry_dict_ne ?_ (F.args_dict_ne_2 _ _)) hu
 rw [dict_ne_tree]
 refine wpAny_bind ?_
 show wpAny _ _ (pure (Value.ref a,Value.ref b)) _ _ _
 refine wpAny_pure ?_
 dsimp only
 refine wpAny_bind (wpAny_isInstance (T:="dict") (b:=true) Tb sub_dict_dict ?_)
 simp only [Bool.not_true,Bool.false_eq_true,if_false]
 refine wpAny_bind (wpAny_pure (wpAny_bind (wpAny_pure (wpAny_bind (same_pairs ha dda hb ddb na nb (by omega) (fun i e ei=>?_) ?_)))))
 ·have hi:i < es.size:=(Array.getElem?_eq_some_iff.mp ei).1
  obtain ⟨⟨k,v⟩,hk⟩:∃ kv,kvs[i]? = some kv:=⟨_,List.getElem?_eq_getElem (by omega)⟩
  obtain ⟨g1,g2⟩:=pa.get? (i:=i) (e:=e) (by simpa using ei) hk
  obtain ⟨k2,g3,g4⟩:=ka e (Array.mem_of_getElem? ei)
  have ek:k2 = k:=(mixKind P w).inj _ _ _ g3 g1
  subst ek
  obtain ⟨v',hv',eq⟩:=he k2 v (List.mem_of_getElem? hk)
  obtain ⟨x,rfl⟩:=tx k2 v' hv'
  obtain ⟨t0,ek0⟩:∃ t,e.key = Value.str x t:=by
   rcases keyIs_shape (k:=.inr x) (v:=e.key) g1 with ⟨i,t,q,_⟩ | ⟨z,t,q,q2⟩
   ·cases q
   ·cases q
    exact ⟨t,q2⟩
  obtain ⟨m,hm⟩:=List.getElem?_of_mem hv'
  have hm':m < fs.size:=by have:=(List.getElem?_eq_some_iff.mp hm).1;omega
  have em:fs.toList[m]? = some fs[m]:=by simp [hm']
  obtain ⟨q1,q2⟩:=pb.get? em hm
  obtain ⟨j,hj⟩:∃ j,fs.findIdx? (fun e=>e.key.isStr x) = some j:=by
   cases z:fs.findIdx? (fun e=>e.key.isStr x) with
   | some j=>exact ⟨j,rfl⟩
   | none=>
    have:=Array.findIdx?_eq_none_iff.mp z fs[m] (Array.getElem_mem hm')
    have q1':fs[m].key.isStr x = true:=by
     rcases keyIs_shape (k:=.inr x) (v:=fs[m].key) q1 with ⟨i,t,q,_⟩ | ⟨z,t,q,q2⟩
     ·cases q
     ·cases q
      rw [q2]
      exact beq_self_eq_true x
    rw [q1'] at this
    cases this
  obtain ⟨hjs,hjt,_⟩:=Array.findIdx?_eq_some_iff_getElem.mp hj
  obtain ⟨⟨k3,v3⟩,hk3⟩:∃ kv,kws[j]? = some kv:=⟨_,List.getElem?_eq_getElem (by omega)⟩
  obtain ⟨r1,r2⟩:=pb.get? (i:=j) (e:=fs[j]) (by simp [hjs]) hk3
  have hjk:(mixKind P w).is (.inr x) fs[j].key = true:=by
   obtain ⟨z,t,q⟩:=kb' fs[j] (Array.getElem_mem hjs)
   rw [q] at hjt ⊢
   have zx:z = x:=eq_of_beq hjt
   rw [zx]
   rw [(mixKind P w).strs (.inr x) x t0 _ (by rw [← ek0];exact g1)]
   exact beq_self_eq_true x
  have e3:k3 = .inr x:=(mixKind P w).inj _ _ _ r1 hjk
  subst e3
  have jm:j = m:=by
   have hj1:(kws.map (·.1))[j]? = some (Sum.inr x):=by rw [List.getElem?_map,hk3];rfl
   have hm1:(kws.map (·.1))[m]? = some (Sum.inr x):=by rw [List.getElem?_map,hm];rfl
   obtain ⟨x1,y1⟩:=List.getElem?_eq_some_iff.mp hj1
   obtain ⟨x2,y2⟩:=List.getElem?_eq_some_iff.mp hm1
   rcases Nat.lt_trichotomy j m with z | z | z
   ·exact absurd (y1.trans y2.symm) (List.pairwise_iff_getElem.mp ndb j m x1 x2 z)
   ·exact z
   ·exact absurd (y2.trans y1.symm) (List.pairwise_iff_getElem.mp ndb m j x2 x1 z)
  subst jm
  rw [hm] at hk3
  cases hk3
  refine ⟨j,fs[j],by simp [hjs],fun R hR=>?_,fun R hR=>?_⟩
  ·rw [ek0]
   exact find_str hb ddb kb' hj hR
  ·rw [g2,r2]
   exact eq prog w' E R hR
 ·exact wpAny_pure ⟨_,rfl,(fun z=>nomatch z),hq⟩
end
section
variable {X:Cx}
theorem op_neDD:OpR X (compareOp .NotEq) (fun x y H Q=>∃ (n:Nat) (a b:Addr) (kvs kws:List (Key × V)),x = .ref a/\y = .ref b/\Rd H a (.dK kvs)/\Rd H b (.dK kws)/\kvs.length = kws.length/\(∀ (k:Key) (v:V),(k,v) ∈ kws->∃ z,k = .inr z)/\(∀ (k:Key) (v:V),(k,v) ∈ kvs->∃ v',(k,v') ∈ kws/\Dq H n v v')/\X.A.units + n + 1 < cLine/\Q (.bl false) H):=by
 intro pins s σ H x y v u Q I rx ry h
 obtain ⟨n,a,b,kvs,kws,rfl,rfl,ha,hb,hl,tx,hf,hu,q⟩:=h
 cases rx
 cases ry
 obtain ⟨_,na,vs,kv,da⟩:=dk_rd I.hok ha
 obtain ⟨_,nb,ws,kw,db⟩:=dk_rd I.hok hb
 have l1:=kv.length
 have l2:=kw.length
 have hh:=rcNe_dicts (A:=X.A) da db na nb (by omega) (fun k v hk=>by
  obtain ⟨i,hi⟩:=List.getElem?_of_mem hk
  obtain ⟨v0,e0,_⟩:=kv_back kw hi
  exact tx k v0 (List.mem_of_getElem? e0)) (fun k v hk=>by
  obtain ⟨i,hi⟩:=List.getElem?_of_mem hk
  obtain ⟨v0,e0,rv⟩:=kv_back kv hi
  have m0:=List.mem_of_getElem? e0
  obtain ⟨v',hm',dq⟩:=hf k v0 m0
  obtain ⟨m,hm⟩:=List.getElem?_of_mem hm'
  obtain ⟨u',e1,rv'⟩:=kv_get kw hm
  exact ⟨u',List.mem_of_getElem? e1,eqAt_Dq I dq rv rv' (by show X.A.units + 1 + n < cLine;omega)⟩) (by omega)
 exact hh X.prog X.w X.xe _ ⟨.bl false,H,I,rfl,q⟩
end
end L2
namespace L2
open PySem PySem.Spec PyProof.Rows PySem.Builtin PySem.Builtin.Dict
theorem tup_no_keys:typeLookup (.type "tuple") "keys" = pure none:=am_miss_of_fast (by decide +kernel)
theorem miss_keys {prog:Program} {w:World} {A:Around} {E:Value->Shared->Prop} {s:Shared} {a:Addr} {o:Obj} {xs:Array Value} {k:Nat} {Q:Option Value->Shared->Prop}
  (hx:s.heap.get? a = some o) (hc:o.cls = .type "tuple") (hdat:o.data = .seq xs k) (hd:o.dict = none) (hA:A.handled = none)
  (h:∀ h' tk,(∀ b ob,s.heap.get? b = some ob->h'.get? b = some ob)->Q none { s with heap:=h',toks:=tk }):wpAny (model prog w) A (getAttr? (.ref a) "keys") Q E s:=by
 obtain ⟨c,dct,dat,sl⟩:=o
 simp only at hc hdat hd
 subst hc hdat hd
 obtain ⟨hp,g,d,tk,os⟩:=s
 have hT:∀ tk',(⟨hp,g,d,tk',os⟩:Shared).TypeIs (.ref a) "tuple":=fun _=>⟨_,hx,rfl⟩
 have f1:=sub_AttributeError
 have f3:=F.slot_tuple_getattribute.lookup
 have f4:=F.slot_tuple_getattribute.bind (.ref a)
 have f5:=am_tuple_getattr_none
 unfold getAttr? getAttrBy? getAttrBy
 repeat (any_goals (first | assumption | exact hT _ | ((with_reducible show wpAny _ _ (call (Value.builtin "tuple.__getattribute__") _ _) _ _ _);refine call_meets F.slot_tuple_getattribute (hT _) am_entry_tuple_getattribute (F.args_tuple_getattribute_2 _ _) (meets_getattribute_miss_tuple a xs k sl "keys" _ tup_no_keys (by decide +kernel) (by size_fits)) ⟨hx,hA,fun h' tk' e hx'=>?_⟩) | wp_step))
 obtain ⟨t',u',he⟩:=hx'.there
 show wpAny _ _ (getattributeRaised _ _ _ _ _ _ _) _ _ _
 unfold getattributeRaised
 repeat (any_goals (first | assumption | wp_step))
 exact h _ _ hx'.keeps
theorem entry_upd_loop:entryFor table "dict.update.loop" = some Builtin.«dict.update.loop»:=entryFor_of_tree (by kernel_rfl)
section
variable {prog:Program} {w:World} {A:Around} {R:Result->Shared->Prop}
theorem upd_loop {h0:Heap} {d it t:Addr} {items:Array Value} {ps:List (Key × Value)} (hh:A.handled = none) (ht:h0.IsTuple t items) (tne:t ≠ it/\t ≠ d) (idne:it ≠ d) (hl:ps.length = items.size) (hz:items.size ≤ 1000)
  (hp:∀ (j:Nat) (k:Key) (v:Value),ps[j]? = some (k,v)->∃ a o key n,items[j]? = some (.ref a)/\h0.get? a = some o/\o.cls = .type "tuple"/\o.data = .seq #[key,v] n/\(mixKind prog w).is k key = true/\a ≠ it/\a ≠ d)
  (nd:(ps.map (·.1)).Nodup):∀ (m i:Nat) (tk:Tok) (s:Shared),i + m = items.size->s.heap.IsTupleIter it t i->s.heap.DictOf (mixKind prog w) d (ps.take i)->(∀ b o,b ≠ it->b ≠ d->h0.get? b = some o->s.heap.get? b = some o) →
  (∀ (h':Heap) (k:Nat),h'.DictOf (mixKind prog w) d ps->(∀ b o,b ≠ it->b ≠ d->h0.get? b = some o->h'.get? b = some o)->R (.ok (.ret .none)) { s with heap:=h',toks:=k }) →
  codeAny (model prog w) A (.builtin "dict.update.loop" ⟨[.ref d,.ref it,.int i tk,.none],[]⟩) R s
 | 0,i,tk,s,hi,hit,hd,kp,hq=>by
  refine codeAny_builtin entry_upd_loop ?_
  unfold Builtin.«dict.update.loop»
  dsimp only
  obtain ⟨o,ho,hc,n,hdt⟩:=id ht
  refine wpAny_bind (wpAny_pyNext_tuple_end (items:=items) hh hit ⟨o,kp t o tne.1 tne.2 ho,hc,n,hdt⟩ (by rw [Array.getElem?_eq_none (by omega)]) fun h' ex=>?_)
  dsimp only
  refine wpAny_bind (wpAny_pure (wpAny_pure ?_))
  have e:ps.take i = ps:=List.take_of_length_le (by omega)
  rw [e] at hd
  exact hq h' s.toks (hd.extBut ex idne.symm) fun b o hb1 hb2 q=>ex b o hb1 (kp b o hb1 hb2 q)
 | m + 1,i,tk,s,hi,hit,hd,kp,hq=>by
  refine codeAny_builtin entry_upd_loop ?_
  unfold Builtin.«dict.update.loop»
  dsimp only
  obtain ⟨o,ho,hc,n,hdt⟩:=id ht
  obtain ⟨⟨k,v⟩,hk⟩:∃ kv,ps[i]? = some kv:=⟨_,List.getElem?_eq_getElem (by omega)⟩
  obtain ⟨a,oa,key,na,e1,e2,e3,e4,e5,e6,e7⟩:=hp i k v hk
  refine wpAny_bind (wpAny_pyNext_tuple_item (items:=items) hit ⟨o,kp t o tne.1 tne.2 ho,hc,n,hdt⟩ e1 fun h1 it1 sb=>?_)
  dsimp only
  have ha1:h1.get? a = some oa:=(sb.2 a e6).trans (kp a oa e6 e7 e2)
  have hd1:h1.DictOf (mixKind prog w) d (ps.take i):=by
   obtain ⟨od,es,ep,g,r⟩:=hd
   exact ⟨od,es,ep,(sb.2 d idne.symm).trans g,r⟩
  refine wpAny_bind (wpAny_holding (wpAny_bind (wpAny_tryCatch ?_)))
  unfold Dict.pairItems
  refine wpAny_bind (wpAny_typeOf (T:="tuple") ⟨oa,ha1,e3⟩ ?_)
  rw [if_pos (by decide)]
  refine wpAny_bind (wpAny_seqItems ha1 e4 (wpAny_pure ?_))
  show wpAny _ _ (holding [key,v] (dictSet d key v)) _ _ _
  refine wpAny_holding (wpAny_dictSet_pairs (knd:=mixKind prog w) (k:=k) e5 hd1 (fun h2 hd2 sb2=>?_) (by rw [List.length_take,sizeLine_eq];omega))
  refine wpAny_pure ⟨Code.quiet_builtin _ (by decide +kernel),?_⟩
  have es:stored (ps.take i) k v = ps.take (i + 1):=by
   have no:((ps.take i).any fun kv=>decide (kv.1 = k)) = false:=by
    rw [List.any_eq_false]
    intro kv hkv
    rw [decide_eq_true_iff]
    intro ek
    obtain ⟨j,hj,ej⟩:=List.mem_take_iff_getElem.mp hkv
    have hj2:j < ps.length:=by omega
    have hij:j < i:=by omega
    have hi2:i < ps.length:=by omega
    have ei:ps[i] = (k,v):=(List.getElem?_eq_some_iff.mp hk).2
    refine List.pairwise_iff_getElem.mp nd j i (by simpa using hj2) (by simpa using hi2) hij ?_
    rw [List.getElem_map,List.getElem_map,ej,ei,ek]
   unfold stored
   rw [if_neg (by rw [no];decide),List.take_add_one,hk]
   rfl
  rw [es] at hd2
  exact upd_loop hh ht tne idne hl hz hp nd m (i + 1) _ _ (by omega) (by
   obtain ⟨oi,g1,g2⟩:=it1
   exact ⟨oi,(sb2.2 it idne).trans g1,g2⟩) hd2 (fun b o hb1 hb2 q=>(sb2.2 b hb2).trans ((sb.2 b hb1).trans (kp b o hb1 hb2 q))) fun h' k' x y=>hq h' k' x y
end
theorem pick {α β:Type}:∀ (l:List α) (P:Nat->α->β->Prop),(∀ (j:Nat) (x:α),l[j]? = some x->∃ u,P j x u)->∃ us:List β,us.length = l.length/\∀ (j:Nat) (x:α),l[j]? = some x->∃ u,us[j]? = some u/\P j x u
 | [],_,_=>⟨[],rfl,fun j x e=>by simp at e⟩
 | y :: l,P,h=>by
  obtain ⟨u,hu⟩:=h 0 y rfl
  obtain ⟨us,hl,hs⟩:=pick l (fun j=>P (j + 1)) fun j x e=>h (j + 1) x (by simpa using e)
  refine ⟨u :: us,by simp [hl],fun j x e=>?_⟩
  cases j with
  | zero=>
   simp at e
   subst e
   exact ⟨u,rfl,hu⟩
  | succ j=>
   obtain ⟨v,h1,h2⟩:=hs j x (by simpa using e)
   exact ⟨v,by simpa using h1,h2⟩
theorem kv_of:∀ {kvs:List (Key × V)} {ps:List (Key × Value)},ps.length = kvs.length->(∀ (j:Nat) (k:Key) (v:V),kvs[j]? = some (k,v)->∃ u,ps[j]? = some (k,u)/\RelV v u)->KV kvs ps
 | [],[],_,_=>.nil
 | [],_ :: _,h,_=>by simp at h
 | _ :: _,[],h,_=>by simp at h
 | (k,v) :: kvs,(k',u') :: ps,h,f=>by
  obtain ⟨u,e,r⟩:=f 0 k v rfl
  simp at e
  obtain ⟨rfl,rfl⟩:=e
  exact .cons ⟨rfl,r⟩ (kv_of (by simpa using h) fun j k v e=>f (j + 1) k v (by simpa using e))
end L2
namespace L2
open PySem PySem.Spec PyProof.Rows PySem.Builtin PySem.Builtin.Dict
section
variable {X:Cx}
theorem call_dictT (hc:X.calm = true):CallR X (.type "dict") (fun xs H Q=>∃ (t:Addr) (o:Obj) (ys:List V) (kvs:List (Key × V)),xs = [.ref t]/\H t = some (.frz o (.tup ys))/\o.dict = none/\ys.length ≤ 1000/\kvs.length = ys.length ∧
  (∀ (j:Nat) (k:Key) (v:V),kvs[j]? = some (k,v)->∃ a,ys[j]? = some (.ref a)/\SqT X.K H a [kV k,v])/\(kvs.map (·.1)).Nodup/\∀ p,H p = none->Q (.ref p) (upd H p (.dK kvs))):=by
 intro pins s σ H xs us Q I r h
 obtain ⟨t,o,ys,kvs,rfl,ht,hod,hys,hkl,hp,nd,q⟩:=h
 obtain ⟨u,rfl,rx⟩:=vals1 r
 cases rx
 obtain ⟨g,hz,its,r',tp⟩:=I.hok t _ ht
 obtain ⟨o',g',hcl,n,hdat⟩:=tp
 rw [g] at g'
 cases g'
 have hlen:=r'.length
 have hh:=I.ok.hd hc
 have hpk:∃ ps:List (Key × Value),ps.length = kvs.length/\∀ (j:Nat) (kv:Key × V),kvs[j]? = some kv->∃ u,ps[j]? = some u/\(u.1 = kv.1/\RelV kv.2 u.2/\∃ a oa key na,its[j]? = some (.ref a)/\s.heap.get? a = some oa/\oa.cls = .type "tuple"/\oa.data = .seq #[key,u.2] na/\(mixKind X.prog X.w).is kv.1 key = true):=by
  refine pick kvs (fun (j:Nat) (kv:Key × V) (u:Key × Value)=>u.1 = kv.1/\RelV kv.2 u.2/\∃ a oa key na,its[j]? = some (.ref a)/\s.heap.get? a = some oa/\oa.cls = .type "tuple"/\oa.data = .seq #[key,u.2] na/\(mixKind X.prog X.w).is kv.1 key = true) fun j kv hj=>?_
  obtain ⟨k,v⟩:=kv
  obtain ⟨a,ea,sq⟩:=hp j k v hj
  obtain ⟨jts,rj,pj,_⟩:=I.tuple sq
  cases rj with
  | @cons _ j1 _ jr rk rr=>cases rr with
   | @cons _ j2 _ jr2 rv rr2=>
    cases rr2
    obtain ⟨oa,ga,ca,na,da⟩:=pj
    refine ⟨(k,j2),rfl,rv,a,oa,j1,na,?_,ga,ca,da,kV_is rk⟩
    obtain ⟨w,ew,rw1⟩:=Vals.get r' ea
    cases rw1
    exact ew
 obtain ⟨ps,hpl,hps⟩:=hpk
 have gt:s.heap.get? t = some o:=g
 have tlt:t < s.heap.objs.size:=Heap.lt_size gt
 refine callType_codes (Q₁:=fun obj s₁=>obj = .ref s.heap.objs.size/\s₁ = { s with heap:=s.heap.push { cls:=.type "dict",data:=.dict #[] } }) F.kt_called_dict (F.kt_typeCall_dict_1 _) F.entry_dict_init (kt_code_dict_new _ ⟨rfl,rfl⟩) ?_
 rintro obj s₁ ⟨rfl,rfl⟩
 have hnew:(s.heap.push { cls:=.type "dict",data:=.dict #[] }).DictOf (mixKind X.prog X.w) s.heap.objs.size []:=Heap.DictOf.new s.heap
 have gt1:(s.heap.push { cls:=.type "dict",data:=.dict #[] }).get? t = some o:=Heap.get?_push_of_some _ gt
 refine ⟨hnew.typeIs,F.args_dict_init_2 _ _,?_⟩
 unfold Builtin.«dict.__init__»
 refine wpAny_bind ?_
 unfold Builtin.Dict.selfAndRest
 refine wpAny_bind (wpAny_notOrdered_dict hnew.typeIs ?_)
 show wpAny _ _ (pure (s.heap.objs.size,[Value.ref t])) _ _ _
 refine wpAny_pure ?_
 show wpAny _ _ (Builtin.Dict.updateFrom "dict.__init__" s.heap.objs.size (.ref t) [] .none) _ _ _
 unfold Builtin.Dict.updateFrom
 refine wpAny_bind (wpAny_typeOf (T:="tuple") ⟨o,gt1,hcl⟩ ?_)
 rw [if_pos (by decide)]
 refine wpAny_bind (miss_keys (o:=o) (xs:=its.toArray) (k:=n) gt1 hcl hdat hod hh fun h1 tk1 kp1=>?_)
 rw [if_pos (show (none:Option Value).isNone = true from rfl)]
 have kp:∀ b ob,s.heap.get? b = some ob->h1.get? b = some ob:=fun b ob e=>kp1 b ob (Heap.get?_push_of_some _ e)
 have gt2:=kp t o gt
 have gd2:h1.get? s.heap.objs.size = some { cls:=.type "dict",data:=.dict #[] }:=kp1 _ _ (Heap.get?_push_size _ rfl)
 have dlt:s.heap.objs.size < h1.objs.size:=Heap.lt_size gd2
 have dd1:h1.DictOf (mixKind X.prog X.w) s.heap.objs.size []:=by
  obtain ⟨od,es,ep,gg,rr⟩:=hnew
  exact ⟨od,es,ep,kp1 _ _ gg,rr⟩
 refine wpAny_bind (wpAny_rule ?_)
 refine wpAny_bind (wpAny_pyIter_tuple (items:=its.toArray) ⟨o,gt2,hcl,n,hdat⟩ ?_)
 refine wpAny_pure ⟨Code.quiet_builtin _ (by decide +kernel),?_⟩
 have epl:ps.length = its.toArray.size:=by simp;omega
 have fsts:ps.map (·.1) = kvs.map (·.1):=by
  refine List.ext_getElem (by simp [hpl]) fun j h1 h2=>?_
  rw [List.getElem_map,List.getElem_map]
  rw [List.length_map] at h1 h2
  obtain ⟨u,eu,e1,_⟩:=hps j kvs[j] (List.getElem?_eq_getElem h2)
  rw [List.getElem?_eq_getElem h1] at eu
  cases eu
  exact e1
 refine upd_loop (A:=X.A.in1) (ps:=ps) (items:=its.toArray) (h0:=h1.push { cls:=.type "tuple_iterator",data:=.fields #[.ref t,.int 0 0] }) (t:=t) (d:=s.heap.objs.size) (it:=h1.objs.size) (show X.A.in1.handled = none from hh) ⟨o,Heap.get?_push_of_some _ gt2,hcl,n,hdat⟩ ⟨Nat.ne_of_lt (Nat.lt_trans tlt dlt),Nat.ne_of_lt tlt⟩ (Nat.ne_of_gt dlt) epl (by rw [← epl,hpl,hkl];exact hys) (fun j k v hj=>?_) (by rw [fsts];exact nd) its.toArray.size 0 _ { s with heap:=h1.push { cls:=.type "tuple_iterator",data:=.fields #[.ref t,.int 0 0] },toks:=tk1 } (by omega) ⟨_,Heap.get?_push_size _ rfl,rfl,rfl⟩ (dd1.push _) (fun b o _ _ e=>e) (fun h2 k2 dd2 kp2=>?_)
 ·have hjl:j < kvs.length:=by
   have:=(List.getElem?_eq_some_iff.mp hj).1
   omega
  obtain ⟨u,eu,e1,e2,a,oa,key,na,e3,e4,e5,e6,e7⟩:=hps j kvs[j] (List.getElem?_eq_getElem hjl)
  rw [hj] at eu
  cases eu
  have alt:=Heap.lt_size e4
  refine ⟨a,oa,key,na,by simpa using e3,Heap.get?_push_of_some _ (kp a oa e4),e5,e6,?_,Nat.ne_of_lt (Nat.lt_trans alt dlt),Nat.ne_of_lt alt⟩
  rw [show k = kvs[j].1 from e1]
  exact e7
 ·refine ⟨rfl,.ref s.heap.objs.size,_,?_,rfl,q s.heap.objs.size (I.hok.fresh (Nat.le_refl _))⟩
  have rel:KV kvs ps:=kv_of hpl fun j k v e=>by
   obtain ⟨u,eu,e1,e2,_⟩:=hps j (k,v) e
   obtain ⟨u1,u2⟩:=u
   cases (show u1 = k from e1)
   exact ⟨u2,eu,e2⟩
  refine I.laid (a:=s.heap.objs.size) (o:=.dK kvs) (fun b qo hb=>?_) (Nat.le_refl _) (dk_new (by rw [sizeLine_eq];omega) (beq_eq_false_iff_ne.mpr (Ne.symm (Nat.ne_of_lt I.big))) rel dd2)
  have blt:=Heap.lt_size hb
  exact kp2 b qo (Nat.ne_of_lt (Nat.lt_trans blt dlt)) (Nat.ne_of_lt blt) (Heap.get?_push_of_some _ (kp b qo hb))
end
end L2
namespace L2
open PySem PySem.Spec PyProof.Rows
theorem above_small {n:Nat} (h:n ≤ 4096):SetTable.sizeAbove n ≤ sizeLine:=by
 have go:∀ (f z:Nat),z ≤ 8192->SetTable.sizeAbove.go n f z ≤ 8192:=by
  intro f
  induction f with
  | zero=>intro z hz;exact hz
  | succ f ih=>
   intro z hz
   unfold SetTable.sizeAbove.go
   by_cases e:z ≤ n
   ·rw [if_pos e];exact ih (z * 2) (by omega)
   ·rw [if_neg e];exact hz
 refine Nat.le_trans (go 64 8 (by decide)) ?_
 rw [sizeLine_eq]
 decide
theorem lay_none {m:Nat}:SetTable.layClean m #[] = some (Array.replicate (m + 1) none):=by
 unfold SetTable.layClean
 rfl
theorem laid_none (m f mv:Nat) (a b:Bool):SetTable.laid m f mv a b #[] = some ({ mask:=m,place:=#[],dummies:=#[],finger:=f,led:=a,moves:=mv,plain:=b },#[]):=by
 unfold SetTable.laid
 rw [lay_none]
 have e:List.filterMap (fun j=>Option.map (fun x=>(j,x)) ((Array.replicate (m + 1) (none:Option Nat)).getD j none)) (List.range (m + 1)) = []:=by
  rw [List.filterMap_eq_nil_iff]
  intro j hj
  have:(Array.replicate (m + 1) (none:Option Nat)).getD j none = none:=by
   simp [Array.getD]
  rw [this]
  rfl
 show some (_,_) = some (_,_)
 simp only [e]
 rfl
section
variable {P:Program} {w:World} {A:Around} {E:Value->Shared->Prop} {s:Shared} {a:Addr}
theorem room_new {led:Bool} {more:Nat} {Q:Unit->Shared->Prop} {ob:Obj} (ho:s.heap.get? a = some ob) (hx:ob.ExactSet) (hd:ob.data = .set #[] 0 (.fresh 0 0 led)) (hm:more ≤ 2000)
  (h:∀ h',Heap.SameBut a s.heap h'->h'.SetOf (mixKind P w) a (fun _=>false) 0->Q () { s with heap:=h' }):wpAny (model P w) A (setRoomFor a more) Q E s:=by
 unfold setRoomFor
 refine wpAny_bind (wpAny_setState_of ho hd rfl ?_)
 have hS:s.heap.SetOf (mixKind P w) a (fun _=>false) 0:=⟨ob,#[],0,_,ho,hx,hd,fun e he=>by simp at he,fun k=>by simp,by decide,rfl,rfl⟩
 cases e:(SetTable.fresh 0 0 led).roomFor more with
 | none=>
  exact wpAny_pure (h s.heap (Heap.SameBut.refl a s.heap) hS)
 | some wanted=>
  have hw:wanted ≤ 4096:=by
   unfold SetTable.roomFor at e
   split at e
   ·injection e with e
    rw [← e]
    show (0 + more) * 2 ≤ 4096
    omega
   ·cases e
  show wpAny _ _ (setRelay a wanted) _ _ _
  unfold setRelay
  refine wpAny_bind (wpAny_setState_of ho hd rfl ?_)
  show wpAny _ _ (if SetTable.sizeAbove wanted > sizeLine then _ else _) _ _ _
  rw [if_neg (Nat.not_lt.mpr (above_small hw))]
  have er:(SetTable.fresh 0 0 led).relaid (Array.map (fun x:Int × Value=>x.1) #[]) wanted = some ({ mask:=SetTable.sizeAbove wanted - 1,place:=#[],dummies:=#[],finger:=0,led:=led,moves:=(SetTable.fresh 0 0 led).movedTo (SetTable.sizeAbove wanted - 1),plain:=true },#[]):=by
   unfold SetTable.relaid
   rw [show Array.map (fun x:Int × Value=>x.1) #[] = #[] from by simp]
   exact laid_none _ _ _ _ _
  rw [er]
  generalize eT:({ mask:=SetTable.sizeAbove wanted - 1,place:=#[],dummies:=#[],finger:=0,led:=led,moves:=(SetTable.fresh 0 0 led).movedTo (SetTable.sizeAbove wanted - 1),plain:=true }:SetTable) = T
  have hT:T.fits 0 = true:=by rw [← eT];rfl
  refine wpAny_bind (show wpAny _ _ (pure ((#[]:Array (Int × Value)),T)) _ _ _ from wpAny_pure ?_)
  refine wpAny_storeSet_of ho hd ?_ (Nat.zero_le _)
  obtain ⟨_,hS2⟩:=SetOf_store (knd:=mixKind P w) ho hx hd (es':=#[]) (t':=T) (S':=fun _=>false) (fun e he=>by simp at he) (fun k=>by simp) (by decide) hT
  exact h _ (Heap.SameBut.update _ a _) hS2
theorem wp_range {M:Model} {A:Around} {E:Value->Shared->Prop} {Q:PUnit->Shared->Prop} {body:Nat->PUnit->Sem (ForInStep PUnit)} (I:Nat->Shared->Prop) (N:Nat)
  (step:∀ i s,i < N->I i s->wpAny M A (body i PUnit.unit) (fun r s'=>r = .yield PUnit.unit/\I (i + 1) s') E s) (fin:∀ s,I N s->Q PUnit.unit s) :
  ∀ (n i:Nat) (s:Shared),n = N - i->i ≤ N->I i s->wpAny M A (forIn (List.range' i n) PUnit.unit body) Q E s:=by
 intro n
 induction n with
 | zero=>
  intro i s hn hi hI
  have:i = N:=by omega
  subst this
  exact wpAny_pure (fin s hI)
 | succ n ih=>
  intro i s hn hi hI
  rw [List.range'_succ,List.forIn_cons]
  refine wpAny_bind (wpAny_mono (step i s (by omega) hI) (fun r s' hr=>?_) fun _ _ z=>z)
  obtain ⟨rfl,hI'⟩:=hr
  exact ih (i + 1) s' (by omega) (by omega) hI'
theorem add_new {h:Heap} {ks:List Key} {i:Nat} {e:Value} {hh:Int} {Q:Bool->Shared->Prop} (hlt:i < ks.length) (e1:(mixKind P w).is ks[i] e = true) (e2:hh = (mixKind P w).hash ks[i]) (e3:e.scannable = true) (nd:ks.Nodup) (hb:ks.length + 1 < scanBound)
  (hS:s.heap.SetOf (mixKind P w) a (fun k=>(ks.take i).any fun x=>decide (x = k)) i)
  (q:∀ b h',Heap.SameBut a s.heap h'->h'.SetOf (mixKind P w) a (fun k=>(ks.take (i + 1)).any fun x=>decide (x = k)) (i + 1)->Q b { s with heap:=h' }):wpAny (model P w) A (setAddHashed a e hh) Q E s:=by
 rw [e2]
 have hni:((ks.take i).any fun x=>decide (x = ks[i])) = false:=by
  rw [List.any_eq_false]
  intro x hx
  rw [decide_eq_true_iff]
  intro q
  obtain ⟨j,hj,ej⟩:=List.mem_take_iff_getElem.mp hx
  have:j = i:=(List.getElem_inj nd).mp (ej.trans q)
  omega
 refine wpAny_setAddHashed_of (knd:=mixKind P w) e1 e3 hS (by omega) fun h' sb hS'=>?_
 rw [hni,if_neg Bool.false_ne_true] at hS'
 have ef:(fun k'=>((ks.take i).any fun x=>decide (x = k')) || decide (k' = ks[i])) = fun k'=>(ks.take (i + 1)).any fun x=>decide (x = k'):=by
  funext k'
  rw [List.take_add_one,List.getElem?_eq_getElem hlt]
  simp only [Option.toList_some,List.any_append,List.any_cons,List.any_nil,Bool.or_false]
  congr 1
  rw [Bool.eq_iff_iff,decide_eq_true_iff,decide_eq_true_iff]
  exact ⟨Eq.symm,Eq.symm⟩
 rw [ef] at hS'
 exact q _ h' sb hS'
theorem entries_of {d:Addr} {kvs:List (Key × Value)} {h:Heap} (hd:h.DictOf (mixKind P w) d kvs):∃ od es ep,h.get? d = some od/\od.cls = .type "dict"/\od.data = .dict es ep/\es.size = kvs.length/\(kvs.map (·.1)).Nodup/\∀ (i:Nat) (k:Key),(kvs.map (·.1))[i]? = some k->∃ e:DictEntry,es[i]? = some e/\(mixKind P w).is k e.key = true/\e.hash = (mixKind P w).hash k/\e.key.scannable = true:=by
 obtain ⟨od,es,ep,h1,h2,h3,h4,h5,h6⟩:=hd
 have hl:=h5.length
 rw [Array.length_toList] at hl
 refine ⟨od,es,ep,h1,h2.1,h3,hl,h6,fun i k hi=>?_⟩
 rw [List.getElem?_map] at hi
 obtain ⟨⟨k',v⟩,hkv,rfl⟩:=Option.map_eq_some_iff.mp hi
 have hie:i < es.size:=by have:=(List.getElem?_eq_some_iff.mp hkv).1;omega
 have he:es[i]? = some es[i]:=Array.getElem?_eq_getElem hie
 have hp:=h5.get? (i:=i) (e:=es[i]) (by rw [Array.getElem?_toList];exact he) hkv
 obtain ⟨k2,e1,e2⟩:=h4 es[i] (Array.getElem_mem hie)
 have ek:k2 = k':=(mixKind P w).inj _ _ _ e1 hp.1
 subst ek
 refine ⟨es[i],he,hp.1,e2,?_⟩
 rcases keyIs_shape hp.1 with ⟨j,t,_,e⟩ | ⟨x,t,_,e⟩ <;> rw [e] <;> rfl
theorem set_of_dict {d:Addr} {kvs:List (Key × Value)} {Q:Value->Shared->Prop} (hd:s.heap.DictOf (mixKind P w) d kvs) (hb:kvs.length ≤ 1000) (hm:(d == sysModules) = false)
  (h:∀ (h':Heap) (tk:Nat),h'.SetOf (mixKind P w) s.heap.objs.size (fun k=>(kvs.map (·.1)).any fun x=>decide (x = k)) kvs.length->(∀ b o,s.heap.get? b = some o->h'.get? b = some o)->Q (.ref s.heap.objs.size) { s with heap:=h',toks:=tk }) :
  wpAny (model P w) A (call (.type "set") [.ref d]) Q E s:=by
 obtain ⟨c,tl,hmro⟩:=F.called_set.mro
 have hmade:=F.called_set.made
 have hsub:=F.called_set.sub
 have q1:=F.called_set.notType
 have q2:=F.called_set.canCreate
 have q3:=F.typeCall_set_1 (.ref d)
 refine wpAny_call (codeAny_of_tree ?_)
 show wpAny _ _ (callAny (.type "set") ⟨[.ref d],[]⟩) _ _ s
 refine wpAny_pure ⟨Code.quiet_builtin _ (by decide +kernel),codeAny_builtin F.entry_type_call ?_⟩
 rw [Around.under_plain (weight_type_call_type "set" [.ref d] []) rfl]
 repeat (any_goals (first | assumption | wp_step))
 refine codeAny_mono (code_set_new_1 (.ref d) (E:=E) (Q₁:=fun v s1=>∃ led:Bool,v = .ref s.heap.objs.size/\s1 = { s with heap:=s.heap.push { cls:=.type "set",dict:=none,data:=.set #[] 0 (.fresh 0 0 led) } }) fun led=>⟨led,rfl,rfl⟩) fun r s1 hr=>?_
 match r,hr with
 | .error e,hr=>exact hr
 | .ok (.next),hr=>exact hr.elim
 | .ok (.brk),hr=>exact hr.elim
 | .ok (.cont),hr=>exact hr.elim
 | .ok (.ret v),hr=>
  obtain ⟨led,rfl,rfl⟩:=hr
  have hS:(s.heap.push { cls:=.type "set",dict:=none,data:=.set #[] 0 (.fresh 0 0 led) }).get? s.heap.objs.size = some { cls:=.type "set",dict:=none,data:=.set #[] 0 (.fresh 0 0 led) }:=Heap.get?_push_size _ rfl
  generalize eh:s.heap.push { cls:=.type "set",dict:=none,data:=.set #[] 0 (.fresh 0 0 led) } = h1 at hS ⊢
  have k1:∀ b o,s.heap.get? b = some o->h1.get? b = some o:=fun b o e=>by rw [← eh];exact Heap.get?_push_of_some _ e
  have hT:Shared.TypeIs { s with heap:=h1 } (.ref s.heap.objs.size) "set":=⟨_,hS,rfl⟩
  have i1:=F.called_set.init.lookup
  have i2:=F.called_set.init.bind (.ref s.heap.objs.size)
  repeat (any_goals (first | assumption | wp_step))
  refine codeAny_mono (codeAny_call_builtin (R:=wants (fun r s2=>r = .none/\∃ h' tk,s2 = { s with heap:=h',toks:=tk }/\h'.SetOf (mixKind P w) s.heap.objs.size (fun k=>(kvs.map (·.1)).any fun x=>decide (x = k)) kvs.length/\∀ b o,s.heap.get? b = some o->h'.get? b = some o) E) F.called_set.init.plain F.entry_set_init (check_set_init_1 hT ?_)) fun r2 s2 hr2=>?_
  ·obtain ⟨od,es,ep,o1,o2,o3,o4,o5,o6⟩:=entries_of hd
   have o1':=k1 _ _ o1
   have hda:d ≠ s.heap.objs.size:=Nat.ne_of_lt (Heap.lt_size o1)
   obtain ⟨ocls,odict,odata,oslots⟩:=od
   simp only at o2 o3
   subst o2 o3
   have t1:isSubtype (.type "dict") (.type "set") = pure false:=by rw [isSubtype_type];kernel_rfl
   have t2:isSubtype (.type "dict") (.type "frozenset") = pure false:=by rw [isSubtype_type];kernel_rfl
   unfold Builtin.«set.__init__» noKeywords Builtin.Frozenset.updateFrom
   generalize eR:setRoomFor = RF
   wp_walk
   subst eR
   have sz:es.size ≤ 1000:=by omega
   refine room_new hS ⟨rfl,rfl,rfl⟩ rfl (by omega) fun h2 sb2 hS2=>?_
   have o1'':=(sb2.2 d hda).trans o1'
   refine wpAny_bind (wpAny_dictEntries (s:={ s with heap:=h2 }) o1'' rfl ?_)
   rw [Std.Legacy.Range.forIn_eq_forIn_range']
   refine wpAny_bind (wp_range (fun i s'=>∃ h',s' = { s with heap:=h' }/\Heap.SameBut s.heap.objs.size h1 h'/\h'.SetOf (mixKind P w) s.heap.objs.size (fun k=>((kvs.map (·.1)).take i).any fun x=>decide (x = k)) i) es.size ?_ ?_ _ 0 _ (by simp [Std.Legacy.Range.size]) (Nat.zero_le _) ⟨h2,rfl,sb2,hS2⟩)
   ·rintro i s' hi ⟨h',rfl,sb,hSi⟩
    have hlt:i < (kvs.map (·.1)).length:=by rw [List.length_map];omega
    obtain ⟨e,he,e1,e2,e3⟩:=o6 i (kvs.map (·.1))[i] (List.getElem?_eq_getElem hlt)
    have od':=(sb.2 d hda).trans o1'
    refine wpAny_bind (wpAny_dictEntries (s:={ s with heap:=h' }) od' rfl ?_)
    rw [he]
    refine wpAny_bind (wpAny_holding (add_new (s:={ s with heap:=h' }) (h:=h') hlt e1 e2 e3 o5 (by rw [List.length_map];unfold scanBound;omega) hSi fun b h'' sb' hS''=>?_))
    refine wpAny_bind (wpAny_dictEpoch (s:={ s with heap:=h'' }) ((sb'.2 d hda).trans od') rfl ?_)
    rw [if_neg (by simp)]
    exact wpAny_pure ⟨rfl,h'',rfl,sb.trans sb',hS''⟩
   ·rintro s' ⟨h',rfl,sb,hSn⟩
    have et:(kvs.map (·.1)).take es.size = kvs.map (·.1):=List.take_of_length_le (by rw [List.length_map];omega)
    rw [et,o4] at hSn
    exact wpAny_pure (wpAny_pure ⟨rfl,h',_,rfl,hSn,fun b o e=>(sb.2 b (Nat.ne_of_lt (Heap.lt_size e))).trans (k1 b o e)⟩)
  ·match r2,hr2 with
   | .error e,hr2=>exact hr2
   | .ok (.next),hr2=>exact hr2.elim
   | .ok (.brk),hr2=>exact hr2.elim
   | .ok (.cont),hr2=>exact hr2.elim
   | .ok (.ret v),hr2=>
    obtain ⟨rfl,h',tk,rfl,hSn,kp⟩:=hr2
    repeat (any_goals (first | assumption | wp_step))
    exact h h' tk hSn kp
end
end L2
namespace L2
open PySem PySem.Spec PyProof.Rows
def setP (P:Program) (w:World) (p:Addr) (ks:List Key) (h:Heap):Prop:=h.SetOf (mixKind P w) p (fun k=>ks.any fun x=>decide (x = k)) ks.length
theorem setP_ok {P:Program} {w:World} {H:Hp} {h:Heap} {p:Addr} {ks:List Key} (e:setP P w p ks h):ObjOk P w H h p (.ext (setP P w p ks)):=by
 refine ⟨e,?_,fun h1 h2 x k=>?_⟩
 ·obtain ⟨o,es,ep,t,ho,_⟩:=e
  exact ⟨o,ho⟩
 ·obtain ⟨o,es,ep,t,ho,rest⟩:=x
  exact ⟨o,es,ep,t,k o ho,rest⟩
section
variable {X:Cx}
theorem call_setD:CallR X (.type "set") (fun xs H Q=>∃ a kvs,xs = [.ref a]/\Rd H a (.dK kvs)/\kvs.length ≤ 1000/\∀ p,H p = none->Q (.ref p) (upd H p (.ext (setP X.prog X.w p (kvs.map (·.1)))))):=by
 intro pins s σ H xs us Q I r h
 obtain ⟨a,kvs,rfl,e,hl,q⟩:=h
 obtain ⟨u,rfl,rx⟩:=vals1 r
 cases rx
 obtain ⟨_,hsys,vs,kv,hd⟩:=dk_rd I.hok e
 refine set_of_dict hd (by rw [← kv.length];exact hl) hsys fun h' tk hS kp=>?_
 have hS':setP X.prog X.w s.heap.objs.size (kvs.map (·.1)) h':=by
  unfold setP
  rw [kv.keys,List.length_map]
  exact hS
 exact ⟨.ref s.heap.objs.size,_,I.laid (a:=s.heap.objs.size) (t':=tk) kp (Nat.le_refl _) (setP_ok hS'),rfl,q _ (I.hok.fresh (Nat.le_refl _))⟩
end
end L2
namespace L2
open PySem PySem.Spec PyProof.Rows
section
variable {A:Around} {s:Shared} {P:Program} {w:World} {E:Value->Shared->Prop}
theorem entry_set_ne':entryFor table "set.__ne__" = some Builtin.«frozenset.__ne__»:=
 PySem.entryFor_alias (id':="frozenset.__ne__") (by kernel_rfl) rfl (by decide +kernel) (by kernel_rfl)
def sameK (ks ls:List Key):Bool:=decide (ks.length = ls.length) && ks.all fun k=>ls.any fun x=>decide (x = k)
theorem subset_wp {id:String} {a b:Addr} {oa ob:Obj} {es fs:Array (Int × Value)} {ep fp:Nat} {t u:SetTable} {ks ls:List Key} {Q:Bool->Shared->Prop} (o1:s.heap.get? a = some oa) (o3:oa.data = .set es ep t) (o4:ElemsOf (mixKind P w) es.toList) (o5:∀ k:Key,(ks.any fun x=>decide (x = k)) = true ↔ ∃ e ∈ es.toList,(mixKind P w).is k e.2 = true) (o7:t.fits es.size = true)
  (p1:s.heap.get? b = some ob) (p3:ob.data = .set fs fp u) (p4:ElemsOf (mixKind P w) fs.toList) (p7:u.fits fs.size = true) (hS:setP P w b ls s.heap) (hz:es.size ≤ fs.size)
  (hq:Q (ks.all fun k=>ls.any fun x=>decide (x = k)) s):wpAny (model P w) A (Builtin.Frozenset.subsetOf id a b) Q E s:=by
 unfold Builtin.Frozenset.subsetOf Builtin.Frozenset.sizeOf
 refine wpAny_bind (wpAny_bind (wpAny_setEntries_of o1 o3 o7 (wpAny_pure ?_)))
 refine wpAny_bind (wpAny_bind (wpAny_setEntries_of p1 p3 p7 (wpAny_pure ?_)))
 rw [if_neg (Nat.not_lt.mpr hz)]
 refine wpAny_bind (wpAny_setEpoch_of o1 o3 o7 ?_)
 have hw:∀ R:List (Int × Value)->Shared->Prop,R es.toList s->wpAny (model P w) A (Builtin.Frozenset.walkUnseen a b) R E s:=fun R hR=>by
  unfold Builtin.Frozenset.walkUnseen
  refine wpAny_bind (wpAny_setEntries_of o1 o3 o7 ?_)
  refine wpAny_bind (wpAny_setEntries_of p1 p3 p7 ?_)
  have hs:∀ e ∈ es.toList ++ fs.toList,e.2.scannable = true:=fun e he=>by
   rcases List.mem_append.mp he with h | h
   ·exact (o4 e h).2
   ·exact (p4 e h).2
  refine wpAny_bind (wpAny_forIn_list _ (fun rest b s'=>b = (none,())/\s' = s/\∀ e ∈ rest,e.2.scannable = true) _ ?_ ?_ _ _ ⟨rfl,rfl,hs⟩)
  ·rintro ⟨n,x⟩ rest b s' ⟨rfl,rfl,hr⟩
   have hx:=hr _ List.mem_cons_self
   have hr':=fun e he=>hr e (List.mem_cons_of_mem _ he)
   cases x <;> first | (cases hx;done) | exact wpAny_bind (wpAny_pure (wpAny_pure ⟨rfl,rfl,hr'⟩))
  ·rintro b s' ⟨rfl,rfl,_⟩
   exact wpAny_pure hR
 refine wpAny_bind (hw _ ?_)
 refine wpAny_bind (wpAny_forIn_list _ (fun rest b s'=>b = (none,())/\s' = s/\(∀ e ∈ rest,e ∈ es.toList)/\∀ e ∈ es.toList,e ∈ rest\/∃ k,(mixKind P w).is k e.2 = true/\(ls.any fun x=>decide (x = k)) = true) _ ?_ ?_ _ _ ⟨rfl,rfl,fun e he=>he,fun e he=>.inl he⟩)
 ·rintro ⟨n,x⟩ rest b' s' ⟨rfl,rfl,hr,hd⟩
  obtain ⟨⟨k,k1,k2⟩,k3⟩:=o4 _ (hr _ List.mem_cons_self)
  have k2':n = (mixKind P w).hash k:=k2
  subst k2'
  refine wpAny_bind (wpAny_holding (wpAny_setFind_of (knd:=mixKind P w) k1 k3 hS fun r hr2=>?_))
  cases r with
  | none=>
   have hn:(ls.any fun x=>decide (x = k)) = false:=hr2.symm
   refine wpAny_pure (wpAny_pure ?_)
   have hk:(ks.any fun x=>decide (x = k)) = true:=(o5 k).mpr ⟨_,hr _ List.mem_cons_self,k1⟩
   have:(ks.all fun k=>ls.any fun x=>decide (x = k)) = false:=by
    rw [List.all_eq_false]
    obtain ⟨y,hy,e⟩:=List.any_eq_true.mp hk
    rw [of_decide_eq_true e] at hy
    exact ⟨k,hy,by rw [hn];decide⟩
   rw [this] at hq
   exact hq
  | some j=>
   have hn:(ls.any fun x=>decide (x = k)) = true:=hr2.symm
   refine wpAny_bind ?_
   unfold Builtin.Frozenset.unchanged
   refine wpAny_bind (wpAny_setEpoch_of o1 o3 o7 ?_)
   rw [if_neg (by simp)]
   refine wpAny_pure (wpAny_pure ⟨rfl,rfl,fun e he=>hr e (List.mem_cons_of_mem _ he),fun e he=>?_⟩)
   rcases hd e he with h | h
   ·rcases List.mem_cons.mp h with h | h
    ·subst h
     exact .inr ⟨k,k1,hn⟩
    ·exact .inl h
   ·exact .inr h
 ·rintro b' s' ⟨rfl,rfl,_,hd⟩
  have:(ks.all fun k=>ls.any fun x=>decide (x = k)) = true:=by
   rw [List.all_eq_true]
   intro k hk
   obtain ⟨e,he,e1⟩:=(o5 k).mp (List.any_eq_true.mpr ⟨k,hk,decide_eq_true rfl⟩)
   rcases hd e he with h | ⟨k',h1,h2⟩
   ·cases h
   ·rw [(mixKind P w).inj _ _ _ e1 h1]
    exact h2
  rw [this] at hq
  exact wpAny_pure hq
theorem ne_sets {a b:Addr} {ks ls:List Key} {Q:Value->Shared->Prop} (ha:setP P w a ks s.heap) (hb:setP P w b ls s.heap) (hu:A.units < cLine)
  (hq:∀ tk,Q (.bool (!sameK ks ls)) { s with toks:=tk }):wpAny (model P w) A (compareOp .NotEq (.ref a) (.ref b)) Q E s:=by
 obtain ⟨oa,es,ep,t,o1,o2,o3,o4,o5,o6,o7,o8⟩:=ha
 obtain ⟨ob,fs,fp,u,p1,p2,p3,p4,p5,p6,p7,p8⟩:=hb
 have Ta:s.TypeIs (.ref a) "set":=⟨oa,o1,o2.1⟩
 have Tb:s.TypeIs (.ref b) "set":=⟨ob,p1,p2.1⟩
 show wpAny _ _ (richCompare .NotEq (.ref a) (.ref b)) _ _ _
 refine wpAny_richCompare_same_room Ta Tb F.slot_set_ne (wpAny_call_entry F.slot_set_ne Ta entry_set_ne' ?_ (F.args_set_ne_2 _ _)) hu
 have t0:isSubtype (.type "set") (.type "set") = pure true:=by rw [isSubtype_type];kernel_rfl
 have t1:isSubtype (.type "set") (.type "frozenset") = pure false:=by rw [isSubtype_type];kernel_rfl
 obtain ⟨oc,od,oD,os⟩:=oa
 obtain ⟨pc,pd,pD,ps⟩:=ob
 simp only [Obj.ExactSet] at o2 o3 p2 p3
 obtain ⟨rfl,rfl,rfl⟩:=o2
 obtain ⟨rfl,rfl,rfl⟩:=p2
 subst o3 p3
 refine wpAny_bind ?_
 generalize eS:Builtin.Frozenset.sizeOf = SO
 generalize eB:Builtin.Frozenset.subsetOf = SB
 wp_walk
 subst eS
 unfold Builtin.Frozenset.sizeOf
 refine wpAny_bind (wpAny_setEntries_of o1 rfl o7 (wpAny_pure ?_))
 refine wpAny_bind (wpAny_bind (wpAny_setEntries_of p1 rfl p7 (wpAny_pure ?_)))
 refine wpAny_bind ?_
 by_cases e:es.size = fs.size
 ·rw [if_neg (by simpa using e)]
  refine wpAny_bind (wpAny_bind (wpAny_isInstance (T:="set") (b:=false) Ta t1 ?_))
  refine wpAny_pure ?_
  subst eB
  refine subset_wp o1 rfl o4 o5 o7 p1 rfl p4 p7 ⟨_,fs,fp,u,p1,⟨rfl,rfl,rfl⟩,rfl,p4,p5,p6,p7,p8⟩ (Nat.le_of_eq e) ?_
  refine wpAny_pure ⟨_,rfl,(fun z=>nomatch z),?_⟩
  have:sameK ks ls = (ks.all fun k=>ls.any fun x=>decide (x = k)):=by unfold sameK;rw [decide_eq_true (by omega),Bool.true_and]
  rw [← this]
  exact hq s.toks
 ·rw [if_pos (by simpa using e)]
  refine wpAny_pure (wpAny_pure ⟨_,rfl,(fun z=>nomatch z),?_⟩)
  have:sameK ks ls = false:=by unfold sameK;rw [decide_eq_false (by omega),Bool.false_and]
  have q:=hq s.toks
  rw [this] at q
  exact q
end
section
variable {X:Cx}
theorem op_neS (hu:X.A.units < cLine):OpR X (compareOp .NotEq) (fun x y H Q=>∃ (a b:Addr) (ks ls:List Key),x = .ref a/\y = .ref b/\H a = some (.ext (setP X.prog X.w a ks))/\H b = some (.ext (setP X.prog X.w b ls))/\Q (.bl (!sameK ks ls)) H):=by
 intro pins s σ H x y v u Q I rx ry h
 obtain ⟨a,b,ks,ls,rfl,rfl,ha,hb,q⟩:=h
 cases rx
 cases ry
 obtain ⟨ha',_⟩:=I.hok a _ ha
 obtain ⟨hb',_⟩:=I.hok b _ hb
 exact ne_sets ha' hb' hu fun tk=>⟨.bl (!sameK ks ls),H,I.tok tk,rfl,q⟩
end
end L2
namespace L2
open PySem PySem.Spec PyProof.Rows
section
variable {P:Program} {w:World} {A:Around} {R:Result->Shared->Prop} {I:Addr} {fp wr:List Addr} {G:Array GenState->Array GenState->Prop} {n:Nat} {PV:Nat->Value->Prop} {St:Nat->Shared->Prop}
end
section
variable {P:Program} {w:World} {A:Around} {s:Shared} {E:Value->Shared->Prop}
end
section
variable {X:Cx}
end
end L2
namespace L2
open PySem PySem.Spec PyProof.Rows
section
variable {X:Cx} {pins:List (Addr × Obj)} {σ:St} {H:Hp} {s:Shared}
theorem rc_tups {A:Around} (I:Inv X pins σ H s) {n:Nat} {a b:Addr} {xs ys:List V} (ha:SqT X.K H a xs) (hb:SqT X.K H b ys) (hl:xs.length = ys.length) (h:∀ (i:Nat) (x y:V),xs[i]? = some x->ys[i]? = some y->Dq H n x y) (hu:A.units + n + 1 < cLine) :
  SeqAt.RcAt A s (.ref a) (.ref b) true/\SeqAt.RcNeAt A s (.ref a) (.ref b) false:=by
 obtain ⟨its,r1,pl,_⟩:=I.tuple ha
 obtain ⟨jts,r2,ql,_⟩:=I.tuple hb
 have l1:=r1.length
 have l2:=r2.length
 have el:∀ j (g1:j < its.toArray.size) (g2:j < jts.toArray.size),SeqAt.EqAt A.in1 s its.toArray[j] jts.toArray[j] true:=fun j g1 g2=>by
  have g1':j < its.length:=by simpa using g1
  have g2':j < jts.length:=by simpa using g2
  obtain ⟨u1,e1,k1⟩:=r1.get (i:=j) (x:=xs[j]'(by omega)) (by simp)
  obtain ⟨u2,e2,k2⟩:=r2.get (i:=j) (x:=ys[j]'(by omega)) (by simp)
  have w1:its.toArray[j] = u1:=by have:=(List.getElem?_eq_some_iff.mp e1).2;simpa using this
  have w2:jts.toArray[j] = u2:=by have:=(List.getElem?_eq_some_iff.mp e2).2;simpa using this
  rw [w1,w2]
  exact eqAt_Dq I (h j _ _ (by simp) (by simp)) k1 k2 (by show A.units + 1 + n < cLine;omega)
 have h1:=SeqAt.RcAt.tuples (A:=A) (e:=fun _=>true) pl ql (by omega) el
 have h2:=SeqAt.RcNeAt.tuples (A:=A) (e:=fun _=>true) pl ql (by omega) el
 have hz:its.toArray.size = jts.toArray.size:=by simp;omega
 have ea:∀ k:Nat,(List.range k).all (fun _=>true) = true:=fun k=>List.all_eq_true.mpr fun _ _=>rfl
 rw [ea,hz,beq_self_eq_true] at h1 h2
 exact ⟨h1,h2⟩
theorem op_neTp:OpR X (compareOp .NotEq) (fun x y H Q=>∃ (n:Nat) (a b:Addr) (xs ys:List V),x = .ref a/\y = .ref b/\SqT X.K H a xs/\SqT X.K H b ys/\xs.length = ys.length/\(∀ (i:Nat) (x y:V),xs[i]? = some x->ys[i]? = some y->Dq H n x y)/\X.A.units + n + 1 < cLine/\Q (.bl false) H):=by
 intro pins s σ H x y v u Q I rx ry h
 obtain ⟨n,a,b,xs,ys,rfl,rfl,ha,hb,hl,hd,hu,q⟩:=h
 cases rx
 cases ry
 exact (rc_tups I ha hb hl hd hu).2 X.prog X.w X.xe _ ⟨.bl false,H,I,rfl,q⟩
def tTupF (t:TA):TE:=fun σ H Q=>t σ H fun xs H1=>xs.length ≤ sizeLine/\∀ p o,H1 p = none->o.dict = none->Q (.ref p) (upd H1 p (.frz o (.tup xs)))
theorem pe_tupF {es:List Expr} {x1:Nat} {pos:Pos} {t:TA} (h:PA X es t):PE X (.Tuple es x1 pos) (tTupF t):=by
 intro pins s σ H Q I hq
 refine wpAny_Tuple_spliced (thn (h pos pins s σ H _ I hq) fun us s1 ⟨xs,H1,I1,r,z,q⟩=>⟨by rw [← r.length];exact z,?_⟩)
 have hf:H1 s1.heap.objs.size = none:=I1.hok.fresh (Nat.le_refl _)
 refine ⟨.ref s1.heap.objs.size,upd H1 s1.heap.objs.size (.frz { cls:=.type "tuple",data:=.seq us.toArray } (.tup xs)),I1.laid (t':=s1.toks) (fun b u e=>Heap.get?_push_of_some _ e) (Nat.le_refl _) ?_,rfl,q _ _ hf rfl⟩
 exact ⟨Heap.get?_push_size _ rfl,z,us,r,⟨_,Heap.get?_push_size _ rfl,rfl,_,rfl⟩⟩
end
theorem ints_at:∀ (us:List Value) (ns:List Int),us.length = ns.length->(∀ (j:Nat) (v:Value) (z:Int),us[j]? = some v->ns[j]? = some z->∃ t,v = Value.int z t)->IntsAre us ns
 | [],[],_,_=>.nil
 | u :: us,n :: ns,hl,h=>by
  obtain ⟨t,rfl⟩:=h 0 u n rfl rfl
  exact .cons n t (ints_at us ns (by simpa using hl) fun j v z h1 h2=>h (j + 1) v z (by simpa using h1) (by simpa using h2))
theorem vals_ints':∀ {us:List Value} {ns:List Int},IntsAre us ns->Vals (ns.map V.int) us
 | _,_,.nil=>.nil
 | _,_,.cons n t h=>.cons ⟨t,rfl⟩ (vals_ints' h)
section
variable {X:Cx}
theorem call_sortedDI (hc:X.calm = true):CallR X (.builtin "sorted") (fun xs H Q=>∃ (p:Addr) (kvs:List (Key × V)) (ns:List Int),xs = [.ref p]/\Rd H p (.dK kvs)/\kvs.map (·.1) = ns.map Sum.inl/\ns.length < 64/\∀ (l:Addr) (ms:List Int),H l = none->ms.Perm ns->ms.Pairwise (· ≤ ·)->Q (.ref l) (upd H l (.lst (ms.map V.int)))):=by
 intro pins s σ H xs us Q I r h
 obtain ⟨p,kvs,zs,rfl,hq,hz,h64,q⟩:=h
 obtain ⟨u,rfl,rx⟩:=vals1 r
 cases rx
 obtain ⟨hlen,lo,vs,kv,dd⟩:=hq.ok I.hok
 obtain ⟨ep,da⟩:=dd.dictAt
 have hl:=kv.len
 have hl2:kvs.length = zs.length:=by simpa using congrArg List.length hz
 refine Calls.call_function_entry kind_sorted plain_sorted entry_sorted (args_sorted1 _) ?_
 unfold Builtin.«sorted»
 refine wpAny_bind (m:=checkCount "sorted" 1 1 _) (wpAny_pure ?_)
 refine wpAny_bind (PySem.W.kdu_collect (PySem.W.kdl_dict (knd:=mixKind X.prog X.w) (kvs:=vs) (ep:=ep) lo) (I.ok.hd hc) da (by rw [← hl];exact hlen) fun h' tk acc hk hacc=>?_)
 have hS:IntsAre acc.toList zs:=by
  refine ints_at _ _ (by rw [Array.length_toList,hacc.1,← hl,hl2]) fun j v z h1 h2=>?_
  obtain ⟨k,x,hx,hkv⟩:=hacc.2 j v (by rw [← Array.getElem?_toList];exact h1)
  have hk':=kv_key kv hx
  rw [hz,List.getElem?_map,h2] at hk'
  have e:Sum.inl z = k:=by simpa using hk'
  subst e
  exact is_kV hkv
 have hal:acc.toList.length = zs.length:=by
  rw [Array.length_toList,hacc.1,← hl,hl2]
 refine wpAny_bind (wpAny_newList ?_ (by rw [hal,← hl2];exact hlen))
 have hoL:(h'.push (seqObj "list" acc.toList.toArray 0)).get? h'.objs.size = some (seqObj "list" acc.toList.toArray 0):=Heap.get?_push_size _ rfl
 refine wpAny_bind (wpAny_holding (wpAny_call_entry slot_list_sort ⟨_,hoL,rfl⟩ entry_list_sort (list_sort_tree (s:={ s with heap:=h'.push (seqObj "list" acc.toList.toArray 0),toks:=tk }) hoL hS (by rw [hal];exact h64) fun out ss' h1 h2 h3=>⟨_,rfl,?_⟩) (args_list_sort _)))
 obtain ⟨e,he⟩:=sortedHeap_at (out:=out) hoL
 have hn:s.heap.get? h'.objs.size = none:=by
  cases q:s.heap.get? h'.objs.size with
  | none=>rfl
  | some ob=>exact absurd (Heap.lt_size (hk _ _ q)) (Nat.lt_irrefl _)
 refine wpAny_pure ⟨_,rfl,.ref h'.objs.size,_,I.laidAt (t':=tk) (o:=.lst (ss'.map V.int)) (fun b ob q=>?_) hn ?_,rfl,q _ ss' (I.none_at hn) h2 h3⟩
 ·have q':=hk b ob q
  have hlt:=Heap.lt_size q'
  rw [sortedHeap_old (Nat.ne_of_lt hlt) (by rw [size_push'];exact Nat.lt_succ_of_lt hlt)]
  exact Heap.get?_push_of_some _ q'
 ·exact ⟨by rw [List.length_map,h2.length_eq,← hl2];exact hlen,_,e,vals_ints' h1,he⟩
end
end L2
namespace L2
open PySem PySem.Spec PyProof.Rows
theorem compW_idx {J:It} {g:TG} {te:TE} {R:Addr->Hp->Prop} {D:Addr} {σ0:St} {H0:Hp} (n:Nat) (Pv:Nat->List V->St->Hp->Prop) (hn:n ≤ sizeLine) (h0:Pv 0 [] σ0 H0) (hD0:H0 D = some (.lst []))
  (hs:∀ i σ H ys,i < n->Pv i ys σ H->ys.length = i->H D = some (.lst ys)->J.go i H/\∀ x H',J.yld i H x H'->g x σ H' fun σ2 H2=>te σ2 H2 fun y H4=>H4 D = some (.lst ys)/\Pv (i + 1) (ys ++ [y]) σ2 (upd H4 D (.lst (ys ++ [y]))))
  (hd:∀ σ H ys,Pv n ys σ H->H D = some (.lst ys)->ys.length = n->J.stop n H/\R D H):CompW J g tYes te R D σ0 H0:=by
 refine ⟨fun i m σ H=>m = n - i/\i ≤ n/\∃ ys,Pv i ys σ H/\H D = some (.lst ys)/\ys.length = i,⟨n,by omega,Nat.zero_le _,[],h0,hD0,rfl⟩,?_⟩
 rintro i m σ H ⟨rfl,hi,ys,p,hD,hl⟩
 by_cases hlt:i < n
 ·obtain ⟨go,st⟩:=hs i σ H ys hlt p hl hD
  refine .inr ⟨go,fun σ2 y H4=>H4 D = some (.lst ys)/\Pv (i + 1) (ys ++ [y]) σ2 (upd H4 D (.lst (ys ++ [y]))),fun _ _=>False,?_,fun _ _ z=>z.elim,st⟩
  rintro σ2 y H4 ⟨e,p'⟩
  exact ⟨_,e,by rw [hl];omega,n - (i + 1),by omega,rfl,hlt,_,p',upd_same,by simp [hl]⟩
 ·have e:i = n:=by omega
  subst e
  exact .inl (hd σ H ys p hD hl)
theorem back_same {H H1:Hp} {a:Addr} {o:Obj} {kvs:List (Key × V)} (hc:H a = some (.dK kvs)) (e:Same (L2.upd H a (.frz o (.dK kvs))) H1):Same H (L2.upd H1 a (.dK kvs)):=fun b u hb=>by
 by_cases eb:b = a
 ·subst eb
  rw [hc] at hb
  rw [← hb]
  exact upd_same
 ·rw [upd_ne eb]
  exact e b u (by rw [upd_ne eb];exact hb)
end L2
namespace L2
open PySem PySem.Spec PyProof.Rows
def flt:V->Bool
 | .non=>true
 | .bl _=>true
 | .int _=>true
 | .str _=>true
 | _=>false
inductive Dp where
 | fl (v:V)
 | tup (ds:List Dp)
 | lst (ds:List Dp)
 | dic (kds:List (Str × Dp))
inductive Dv (H:Hp):Nat->Dp->V->Prop
 | fl {n:Nat} {v:V} (h:flt v = true):Dv H n (.fl v) v
 | tup {n:Nat} {a:Addr} {vs:List V} {ds:List Dp} (ha:H a = some (.tup vs)) (hl:vs.length = ds.length) (h:∀ (i:Nat) (v:V) (d:Dp),vs[i]? = some v->ds[i]? = some d->Dv H n d v):Dv H (n + 1) (.tup ds) (.ref a)
 | lst {n:Nat} {a:Addr} {vs:List V} {ds:List Dp} (ha:H a = some (.lst vs)) (hl:vs.length = ds.length) (h:∀ (i:Nat) (v:V) (d:Dp),vs[i]? = some v->ds[i]? = some d->Dv H n d v):Dv H (n + 1) (.lst ds) (.ref a)
 | dic {n:Nat} {a:Addr} {vs:List V} {kds:List (Str × Dp)} (ha:H a = some (.dK ((kds.map (·.1)).zipWith (fun z v=>((Sum.inr z:Key),v)) vs))) (nd:(kds.map (·.1)).Nodup) (hl:vs.length = kds.length) (h:∀ (i:Nat) (v:V) (k:Str × Dp),vs[i]? = some v->kds[i]? = some k->Dv H n k.2 v):Dv H (n + 1) (.dic kds) (.ref a)
theorem zw_get {zs:List Str} {vs:List V} {i:Nat}:(zs.zipWith (fun z v=>((Sum.inr z:Key),v)) vs)[i]? = match zs[i]?,vs[i]? with | some z,some v=>some (.inr z,v) | _,_=>none:=by
 rw [List.getElem?_zipWith]
 cases zs[i]? <;> cases vs[i]? <;> rfl
theorem zw_len {zs:List Str} {vs:List V} (h:vs.length = zs.length):(zs.zipWith (fun z v=>((Sum.inr z:Key),v)) vs).length = zs.length:=by
 rw [List.length_zipWith];omega
theorem zw_mem {zs:List Str} {vs:List V} {k:Key} {v:V} (h:(k,v) ∈ zs.zipWith (fun z v=>((Sum.inr z:Key),v)) vs):∃ (i:Nat) (z:Str),zs[i]? = some z/\vs[i]? = some v/\k = .inr z:=by
 obtain ⟨i,hi⟩:=List.getElem?_of_mem h
 rw [zw_get] at hi
 cases h1:zs[i]? with
 | none=>rw [h1] at hi;cases hi
 | some z=>
  cases h2:vs[i]? with
  | none=>rw [h1,h2] at hi;cases hi
  | some u=>
   rw [h1,h2] at hi
   injection hi with hi
   injection hi with e1 e2
   exact ⟨i,z,h1,by rw [h2,e2],e1.symm⟩
theorem zw_val {zs:List Str} {vs:List V} (nd:zs.Nodup) {i:Nat} {z:Str} {v:V} (h1:zs[i]? = some z) (h2:vs[i]? = some v):valV (zs.zipWith (fun z v=>((Sum.inr z:Key),v)) vs) (.inr z) = some v:=by
 induction zs generalizing vs i with
 | nil=>cases h1
 | cons y r ih=>
  cases vs with
  | nil=>cases h2
  | cons u us=>
   rw [List.zipWith_cons_cons]
   rw [List.nodup_cons] at nd
   cases i with
   | zero=>
    cases h1
    cases h2
    exact valV_pos rfl
   | succ i=>
    rw [List.getElem?_cons_succ] at h1 h2
    have hne:¬ (Sum.inr y:Key) = .inr z:=fun e=>by
     injection e with e
     exact nd.1 (by rw [e];exact List.mem_of_getElem? h1)
    rw [valV_neg (p:=((Sum.inr y:Key),u)) hne]
    exact ih nd.2 h1 h2
theorem Dv.dq {H:Hp}:∀ {n:Nat} {d:Dp} {v v':V},Dv H n d v->Dv H n d v'->Dq H n v v':=fun {n d v v'} h=>by
 induction h generalizing v' with
 | @fl n v h=>
  intro h'
  cases h'
  cases v with
  | non=>exact .non
  | bl b=>exact .bl
  | int i=>exact .int
  | str z=>exact .str
  | _=>cases h
 | @tup n a vs ds ha hl hh ih=>
  intro h'
  cases h' with
  | tup hb hl' hh'=>exact .tup ha hb (by omega) fun i x y e1 e2=>ih i x _ e1 (List.getElem?_eq_getElem (by have:=(List.getElem?_eq_some_iff.mp e1).1;omega)) (hh' i y _ e2 (List.getElem?_eq_getElem _))
 | @lst n a vs ds ha hl hh ih=>
  intro h'
  cases h' with
  | lst hb hl' hh'=>exact .lst ha hb (by omega) fun i x y e1 e2=>ih i x _ e1 (List.getElem?_eq_getElem (by have:=(List.getElem?_eq_some_iff.mp e1).1;omega)) (hh' i y _ e2 (List.getElem?_eq_getElem _))
 | @dic n a vs kds ha nd hl hh ih=>
  intro h'
  cases h' with
  | @dic _ b us _ hb nd' hl' hh'=>
   have ez:(kds.map (·.1)).length = kds.length:=List.length_map ..
   refine .dct (fun k=>(valV ((kds.map (·.1)).zipWith (fun z v=>((Sum.inr z:Key),v)) us) k).getD .non) (.inl ha) (.inl hb) ?_ (fun k v h=>?_) (fun k v h=>?_) (fun k v h=>?_)
   ·rw [zw_len (by omega),zw_len (by omega)]
   ·obtain ⟨i,z,_,_,e⟩:=zw_mem h;exact ⟨z,e⟩
   all_goals
    obtain ⟨i,z,h1,h2,rfl⟩:=zw_mem h
    have hi:i < kds.length:=by have:=(List.getElem?_eq_some_iff.mp h2).1;omega
    have hu:us[i]? = some us[i]:=List.getElem?_eq_getElem (by omega)
    have hv:=zw_val nd h1 hu
    rw [hv]
   ·refine List.mem_of_getElem? (i:=i) ?_
    rw [zw_get,h1,hu]
    rfl
   ·exact ih i v _ h2 (List.getElem?_eq_getElem hi) (hh' i _ _ hu (List.getElem?_eq_getElem hi))
end L2
namespace My
open PySem L2 PyProof.Rows
def top (i:Nat):Stmt:=PySem.Challenge.pw_halfmoved_k14_steps_that_do_not_fit.main.body.getD i (.Pass ⟨0,0,0,0⟩)
end My
namespace L2
open PySem PySem.Spec PyProof.Rows
def cut (H0 H:Hp):Hp:=fun b=>match H0 b with | none=>H b | some _=>none
theorem cut_sub {H0 H:Hp}:Same (cut H0 H) H:=fun b o e=>by
 unfold cut at e
 split at e
 ·exact e
 ·cases e
theorem cut_new {H0 H:Hp} {b:Addr} {o:HO} (e:cut H0 H b = some o):H0 b = none:=by
 unfold cut at e
 split at e
 ·assumption
 ·cases e
theorem cut_at {H0 H:Hp} {b:Addr} {o:HO} (h0:H0 b = none) (e:H b = some o):cut H0 H b = some o:=by
 unfold cut
 rw [h0]
 exact e
theorem cut_up {H0 H H':Hp} (s:Same H H'):Same (cut H0 H) (cut H0 H'):=fun b o e=>cut_at (cut_new e) (s _ _ (cut_sub _ _ e))
theorem none_of {H0 H1:Hp} {b:Addr} (s:Same H0 H1) (h:H1 b = none):H0 b = none:=by
 cases e:H0 b with
 | none=>rfl
 | some o=>rw [s _ _ e] at h;cases h
theorem Same.put {H H':Hp} {d:Addr} {o:HO} (s:Same H H') (h:H d = none):Same H (L2.upd H' d o):=fun b u e=>by
 rw [upd_ne (ne_of_none e h)]
 exact s _ _ e
end L2
namespace My
open PySem L2 PyProof.Rows
seal L2.PE L2.PT L2.PW L2.PS L2.PSs L2.PA L2.PI L2.PG L2.PGs L2.OpR L2.UnR L2.CallR L2.IxR L2.SlR L2.MtR L2.PIf L2.PO L2.MtM L2.PC
structure Tb where
 name:Str
 sort:Str
 cols:List (Str × Addr)
def ColsAt (H:Hp) (ct:Addr) (cols:List (Str × Addr)):Prop:=∃ (o:Obj) (ps:List Addr),o.dict = none/\H ct = some (.frz o (.tup (ps.map V.ref)))/\ps.length = cols.length/\∀ (j:Nat) (p:Addr) (c:Str × Addr),ps[j]? = some p->cols[j]? = some c->H p = some (.tup [.str c.1,.ref c.2])
def EntAt (H:Hp) (e:Addr) (T:Tb):Prop:=∃ ct,H e = some (.tup [.str T.name,.str T.sort,.ref ct])/\ColsAt H ct T.cols
def FormAt (H:Hp) (f:Addr) (sz:Int) (Ts:List Tb):Prop:=∃ (tt:Addr) (es:List Addr),H f = some (.tup [.int sz,.ref tt])/\H tt = some (.tup (es.map V.ref))/\es.length = Ts.length/\∀ (j:Nat) (e:Addr) (T:Tb),es[j]? = some e->Ts[j]? = some T->EntAt H e T
theorem ColsAt.same {H H':Hp} {e:Addr} {T:List (Str × Addr)} (h:ColsAt H e T) (s:Same H H'):ColsAt H' e T:=by
 obtain ⟨o,ps,h0,h1,h2,h3⟩:=h
 exact ⟨o,ps,h0,s _ _ h1,h2,fun j p c a b=>s _ _ (h3 j p c a b)⟩
theorem EntAt.same {H H':Hp} {e:Addr} {T:Tb} (h:EntAt H e T) (s:Same H H'):EntAt H' e T:=by
 obtain ⟨ct,h1,h2⟩:=h
 exact ⟨ct,s _ _ h1,h2.same s⟩
theorem FormAt.same {H H':Hp} {f:Addr} {sz:Int} {Ts:List Tb} (h:FormAt H f sz Ts) (s:Same H H'):FormAt H' f sz Ts:=by
 obtain ⟨tt,es,h1,h2,h3,h4⟩:=h
 exact ⟨tt,es,s _ _ h1,s _ _ h2,h3,fun j e T a b=>(h4 j e T a b).same s⟩
def kvC (cols:List (Str × Addr)):List (Key × V):=cols.map fun p=>(.inr p.1,.ref p.2)
def spTabs:Sp:=fun vs H Q _=>∃ (f:Addr) (sz:Int) (Ts:List Tb),vs = [.ref f]/\FormAt H f sz Ts/\Ts.length ≤ 8/\∀ p H',H p = none->Same H H'->H' p = some (.lst ((Ts.map (·.name)).map V.str))->Q (.ref p) H'
def spTabIn:Sp:=fun vs H Q _=>∃ (f:Addr) (sz:Int) (Ts:List Tb) (T:Tb),vs = [.ref f,.str T.name]/\FormAt H f sz Ts/\(Ts.map (·.name)).Nodup/\T ∈ Ts/\∀ e,EntAt H e T->Q (.ref e) H
def spColsOf:Sp:=fun vs H Q _=>∃ (f:Addr) (sz:Int) (Ts:List Tb) (T:Tb),vs = [.ref f,.str T.name]/\FormAt H f sz Ts/\(Ts.map (·.name)).Nodup/\T ∈ Ts/\(T.cols.map (·.1)).Nodup/\T.cols.length ≤ 12 ∧
 ∀ (p:Addr) (H':Hp),H p = none->Same H H'->H' p = some (.dK (kvC T.cols))->Q (.ref p) H'
section
variable {P:Program} {w:World} {K:PySem.W.Frag} {mg:Str->Option Value} {base:Heap}
theorem ok_tabs {f:Addr} {fd:FuncData} (F:Fun K "tables_of" "tables_of" (top 18) f fd):FnOk P w K mg base CX0 1 f fd ["form"] spTabs:=by
 have sc:FnScope ["form"] ["form"] (defScope (top 18)):=⟨rfl,rfl,rfl,by decide +kernel,rfl,by decide +kernel,by decide +kernel⟩
 refine F.ok sc (fun vs H Q E h=>?_) (fun cdv A outer s H vs Q E hr h=>?_)
 ·obtain ⟨f,sz,Ts,rfl,_⟩:=h
  rfl
 ·obtain ⟨f,sz,Ts,rfl,⟨tt,es,h1,h2,h3,h4⟩,h8,q⟩:=h
  refine ⟨_,pss_one (ps_ret (pe_comp (osc:=defScope (top 18)) (N0:=["form"]) (xs:=["entry"]) (fr:=[]) ⟨rfl,by decide +kernel,by decide +kernel,by decide +kernel,by decide,by decide +kernel⟩ rfl rfl rfl (pi_tup (pe_ix ix_tup (pv 0) pe_int (fun _ _=>rfl)))
    (fun s H fp=>pg_name (i:=0) (show (["entry"]:List Str).Nodup by decide +kernel) rfl (Or.inl rfl)) (fun s H fp=>pif_nil) (fun s H fp=>pe_ix (r:=rIxT K) ix_tup (pv 0) pe_int (fun _ _=>rfl)))),?_⟩
  refine ⟨_,rfl,_,_,1,_,rfl,rfl,SqT.of h1,rfl,tt,rfl,⟨_,SqT.of h2⟩,fun D hD=>?_⟩
  refine compW_map Ts.length (fun i=>.str ((Ts.map (·.name)).getD i "")) (fun i σ' Hc=>(∃ t,σ' = [t])/\Same H Hc) (by rw [sizeLine_eq];omega) ⟨⟨none,rfl⟩,Same.upd hD⟩ upd_same ?_ ?_
  ·rintro i σ' Hc hi ⟨⟨t,rfl⟩,sm⟩ hD'
   have hie:i < es.length:=by omega
   refine ⟨⟨_,V.ref es[i],SqT.of (sm _ _ h2),by rw [List.getElem?_map,List.getElem?_eq_getElem hie];rfl⟩,?_⟩
   rintro x H' ⟨rfl,hx'⟩
   have ex:=hx' _ (SqT.of (sm _ _ h2))
   rw [List.getElem?_map,List.getElem?_eq_getElem hie] at ex
   cases ex
   obtain ⟨ct,g1,_⟩:=h4 i es[i] Ts[i] (List.getElem?_eq_getElem hie) (List.getElem?_eq_getElem hi)
   refine ⟨_,rfl,_,_,0,_,rfl,rfl,SqT.of (sm _ _ g1),rfl,?_,hD',⟨_,rfl⟩,sm.put hD⟩
   rw [List.getD_eq_getElem?_getD,List.getElem?_map,List.getElem?_eq_getElem hi]
   rfl
  ·rintro σ' Hc ⟨_,sm⟩ hDn
   refine ⟨⟨_,SqT.of (sm _ _ h2),by rw [List.length_map];omega⟩,q D Hc hD sm ?_⟩
   have:=range_map_getD (Ts.map (·.name)) ("":Str) (fun z=>V.str z)
   rw [List.length_map] at this
   rw [hDn,this]
theorem ok_tabIn {f:Addr} {fd:FuncData} (F:Fun K "table_in" "table_in" (top 22) f fd):FnOk P w K mg base CX0 1 f fd ["form","table"] spTabIn:=by
 have sc:FnScope ["form","table","entry"] ["form","table"] (defScope (top 22)):=⟨rfl,rfl,rfl,by decide +kernel,rfl,by decide +kernel,by decide +kernel⟩
 refine F.ok sc (fun vs H Q E h=>?_) (fun cdv A outer s H vs Q E hr h=>?_)
 ·obtain ⟨f,sz,Ts,T,rfl,_⟩:=h
  rfl
 ·obtain ⟨f,sz,Ts,T,rfl,⟨tt,es,h1,h2,h3,h4⟩,nd,hT,q⟩:=h
  refine ⟨_,pss_cons (ps_for PassesOwn.never rfl (pi_tup (pe_ix ix_tup (pv 0) pe_int (fun _ _=>rfl))) (pg_name (i:=2) sc.nd rfl (Or.inl rfl))
    (pss_one (ps_if (pt_cmpR op_eq (pe_ix ix_tup (pv 2) pe_int (fun _ _=>rfl)) (pv 1) (nomark _)) (pss_one (ps_ret (pv 2))) pss_nil))) pss_never,?_⟩
  refine ⟨_,rfl,_,_,1,_,rfl,rfl,SqT.of h1,rfl,tt,rfl,⟨_,SqT.of h2⟩,for_tup (K:=K) (a:=tt) (xs:=es.map V.ref) (fun i σ H'=>H' = H/\(∃ u,σ = [some (.ref f),some (.str T.name),u])/\∀ j T',j < i->Ts[j]? = some T'->T'.name ≠ T.name) ⟨rfl,⟨_,rfl⟩,fun j _ hj=>absurd hj (Nat.not_lt_zero _)⟩ (fun i σ H' _ p=>by rw [p.1];exact SqT.of h2) ?_ ?_⟩
  ·rintro i x σ H' hx ⟨rfl,⟨u,rfl⟩,hn⟩
   have hie:i < es.length:=by
    have:=(List.getElem?_eq_some_iff.mp hx).1
    rwa [List.length_map] at this
   have hit:i < Ts.length:=by omega
   rw [List.getElem?_map,List.getElem?_eq_getElem hie] at hx
   cases hx
   have ent:=h4 i es[i] Ts[i] (List.getElem?_eq_getElem hie) (List.getElem?_eq_getElem hit)
   obtain ⟨ct,g1,g2⟩:=id ent
   refine ⟨_,rfl,_,_,0,_,rfl,rfl,SqT.of g1,rfl,_,rfl,rfl,_,rfl,?_⟩
   refine ite2 (fun hc=>?_) (fun hc=>?_)
   ·have en:Ts[i].name = T.name:=by
     have:=of_decide_eq_true hc
     injection this
    have eT:Ts[i] = T:=by
     obtain ⟨k,hk,ek⟩:=List.mem_iff_getElem.mp hT
     have:i = k:=by
      refine (List.getElem_inj (h₀:=by rw [List.length_map];exact hit) (h₁:=by rw [List.length_map];exact hk) nd).mp ?_
      rw [List.getElem_map,List.getElem_map,ek,en]
     subst this
     exact ek
    rw [eT] at ent
    exact ⟨_,rfl,q _ ent⟩
   ·refine ⟨rfl,⟨_,rfl⟩,fun j T' hj hT'=>?_⟩
    by_cases hji:j < i
    ·exact hn j T' hji hT'
    ·have:j = i:=by omega
     subst this
     rw [List.getElem?_eq_getElem hit] at hT'
     cases hT'
     exact fun e=>hc (by rw [e];exact decide_eq_true rfl)
  ·rintro σ H' ⟨rfl,⟨u,rfl⟩,hn⟩
   obtain ⟨k,hk,ek⟩:=List.mem_iff_getElem.mp hT
   exact absurd rfl (hn k T (by rw [List.length_map];omega) (by rw [List.getElem?_eq_getElem hk,ek]))
theorem ok_colsOf {f fT:Addr} {fd fdT:FuncData} (F:Fun K "columns_of" "columns_of" (top 21) f fd) (B:Bl mg) (DT:Df K mg "table_in" (top 22) fT fdT):FnOk P w K mg base CX0 2 f fd ["form","table"] spColsOf:=by
 have sc:FnScope ["form","table"] ["form","table"] (defScope (top 21)):=⟨rfl,rfl,rfl,by decide +kernel,rfl,by decide +kernel,by decide +kernel⟩
 have GT:FnOk P w K mg base CX0 1 fT fdT ["form","table"] spTabIn:=ok_tabIn DT.fn
 have bT:=DT.fn.binds (ps:=["form","table"]) fun _ _ _ _ _ _ us hl=>by obtain ⟨v0,v1,rfl⟩:=L2.ln2 hl;rfl
 refine F.ok sc (fun vs H Q E h=>?_) (fun cdv A outer s H vs Q E hr h=>?_)
 ·obtain ⟨f,sz,Ts,T,rfl,_⟩:=h
  rfl
 ·obtain ⟨f,sz,Ts,T,rfl,hf,nd,hT,ndc,c12,q⟩:=h
  refine ⟨_,pss_one (ps_ret (pe_callTy (call_dictT rfl) (by rfl) B.dict boot_dict (pa_cons (pe_ix ix_tup (pe_call GT hr (by rfl) DT.mg DT.fn.kp bT .nil pass0 (pa_cons (pv 0) (pa_cons (pv 1) pa_nil))) pe_int (fun _ _=>rfl)) pa_nil))),?_⟩
  refine ⟨_,rfl,_,rfl,f,sz,Ts,T,rfl,hf,nd,hT,fun e he=>?_⟩
  obtain ⟨ct,g1,o,ps,ho,hct,hpl,hpz⟩:=he
  refine ⟨_,_,2,_,rfl,rfl,SqT.of g1,rfl,ct,o,_,kvC T.cols,rfl,hct,ho,(by rw [List.length_map];omega),(by unfold kvC;rw [List.length_map,List.length_map];omega),(fun j k v hj=>?_),?_,fun p hp=>q p _ hp (Same.upd hp) upd_same⟩
  ·unfold kvC at hj
   have hjz:j < T.cols.length:=by
    have:=(List.getElem?_eq_some_iff.mp hj).1
    rwa [List.length_map] at this
   have hjp:j < ps.length:=by omega
   rw [List.getElem?_map,List.getElem?_eq_getElem hjz] at hj
   cases hj
   exact ⟨ps[j],by rw [List.getElem?_map,List.getElem?_eq_getElem hjp];rfl,SqT.of (hpz j ps[j] T.cols[j] (List.getElem?_eq_getElem hjp) (List.getElem?_eq_getElem hjz))⟩
  ·have e:(kvC T.cols).map (·.1) = (T.cols.map (·.1)).map fun z=>(Sum.inr z:Key):=by
    unfold kvC
    rw [List.map_map,List.map_map]
    rfl
   rw [e]
   exact List.Pairwise.map _ (fun a b hab h=>hab (by injection h)) ndc
end
structure Tx (K:PySem.W.Frag) (mg:Str->Option Value) (CT CO CM:Addr):Prop where
 mT:mg "TableError" = some (.ref CT)
 bT:BIn K CT
 mO:mg "NoTable" = some (.ref CO)
 xO:XCl K CO
 n1:NoAttr K CO "table"
 n2:NoAttr K CO "key"
 n3:NoAttr K CO "place"
 mM:mg "BadRow" = some (.ref CM)
 xM:XCl K CM
 m1:NoAttr K CM "table"
 m2:NoAttr K CM "key"
 m3:NoAttr K CM "place"
def stp (z:Str) (k p:V):List (Str × V):=putF "place" p (putF "key" k [(("table":Str),V.str z)])
theorem stp_t {z:Str} {k p:V}:(stp z k p).lookup ("table":Str) = some (.str z):=by
 unfold stp
 rw [lookup_putF,if_neg (by decide +kernel),lookup_putF,if_neg (by decide +kernel)]
 rfl
theorem stp_k {z:Str} {k p:V}:(stp z k p).lookup ("key":Str) = some k:=by
 unfold stp
 rw [lookup_putF,if_neg (by decide +kernel),lookup_putF,if_pos rfl]
theorem stp_p {z:Str} {k p:V}:(stp z k p).lookup ("place":Str) = some p:=by
 unfold stp
 rw [lookup_putF,if_pos rfl]
def spSInit (CO CM:Addr):Sp:=fun vs H Q _=>∃ (x C:Addr) (z:Str) (k p:V),vs = [.ref x,.str z,k,p]/\(C = CO\/C = CM)/\H x = some (.ext (excP x C none)) ∧
 ∀ dx H',H dx = none->dx ≠ x->H' x = some (.ext (excP x C (some dx)))->H' dx = some (.ext (dctP dx (stp z k p)))->(∀ b,b ≠ x->b ≠ dx->H' b = H b)->Q .non H'
def Refd (E:XK) (H:Hp) (C:Addr) (z:Str) (k p:V):Prop:=∀ dx H',H' dx = some (.ext (dctP dx (stp z k p)))->Same H H'->E (.ref C) (some dx) H'
section
variable {P:Program} {w:World} {K:PySem.W.Frag} {mg:Str->Option Value} {base:Heap} {CT CO CM:Addr}
theorem ok_sinit {f:Addr} {fd:FuncData} (F:FunX K "__init__" "StepError.__init__" (inClass (top 2) 0) f fd) (T:Tx K mg CT CO CM):FnOk P w K mg base CX0 1 f fd ["self","table","key","place"] (spSInit CO CM):=by
 have sc:FnScope ["self","table","key","place"] ["self","table","key","place"] (defScope (inClass (top 2) 0)):=⟨rfl,rfl,rfl,by decide +kernel,rfl,by decide +kernel,by decide +kernel⟩
 refine F.ok sc (fun vs H Q E h=>?_) (fun cdv A outer s H vs Q E hr h=>?_)
 ·obtain ⟨x,C,z,k,p,rfl,_⟩:=h
  rfl
 ·obtain ⟨x,C,z,k,p,rfl,hC,hx,q⟩:=h
  have xC:XCl K C:=by rcases hC with rfl | rfl;exact T.xO;exact T.xM
  have c1:NoAttr K C "table":=by rcases hC with rfl | rfl;exact T.n1;exact T.m1
  have c2:NoAttr K C "key":=by rcases hC with rfl | rfl;exact T.n2;exact T.m2
  have c3:NoAttr K C "place":=by rcases hC with rfl | rfl;exact T.n3;exact T.m3
  refine ⟨_,pss_cons (ps_expr (pe_binit (by rfl) T.mT T.bT (pa_cons (pv 0) (pa_cons (pv 1) (pa_cons (pv 2) (pa_cons (pv 3) pa_nil))))))
   (pss_cons (ps_xset1 (pv 0) (pv 1) rfl) (pss_cons (ps_xset2 (pv 0) (pv 2) rfl) (pss_one (ps_xset2 (pv 0) (pv 3) rfl)))),?_⟩
  refine ⟨_,rfl,_,rfl,_,rfl,_,rfl,x,C,none,_,rfl,hx,xC,(by show 3 ≤ sizeLine;decide),?_⟩
  refine ⟨_,rfl,_,rfl,x,C,rfl,hx,xC,c1,fun dx hd ne=>?_⟩
  refine ⟨_,rfl,_,rfl,x,C,dx,_,rfl,upd_same,(by rw [upd_ne ne];exact upd_same),ne,xC,c2,(by show 1 < 1000;decide),?_⟩
  refine ⟨_,rfl,_,rfl,x,C,dx,_,rfl,(by rw [upd_ne (Ne.symm ne)];exact upd_same),upd_same,ne,xC,c3,?_,?_⟩
  ·have:=length_putF "key" k [(("table":Str),V.str z)]
   simp only [List.length_cons,List.length_nil] at this
   omega
  ·exact q dx _ hd ne (by rw [upd_ne (Ne.symm ne),upd_ne (Ne.symm ne)];exact upd_same) upd_same fun b n1 n2=>by rw [upd_ne n2,upd_ne n2,upd_ne n1,upd_ne n2]
theorem raised {n:Nat} {E:XS} {σ:L2.St} {D:Ends} {H:Hp} {C:Addr} {z:Str} {k p:V} {t:TA} {E':XK} (T:Tx K mg CT CO CM) (hC:C = CO\/C = CM) (hE:∀ c od H',E' c od H'->E c od σ H') (h:∀ R,R [.str z,k,p] H->t σ H R) (r:Refd E' H C z k p) :
  tRaise n K E (tXMake n C (spSInit CO CM) [] t) D σ H:=by
 refine h _ ⟨(by show 3 ≤ sizeLine;decide),fun x nx hx=>⟨x,C,z,k,p,rfl,hC,upd_same,fun dx H2 hd ne h2x h2d fr=>⟨rfl,x,C,some dx,rfl,h2x,nx,(by rcases hC with rfl | rfl;exact T.xO;exact T.xM),hE _ _ _ ?_⟩⟩⟩
 rw [upd_ne ne] at hd
 refine r dx _ (by rw [dropH_ne ne];exact h2d) fun b o e=>?_
 have nb:b ≠ x:=ne_of_none e hx
 rw [dropH_ne nb,fr b nb (ne_of_none e hd),upd_ne nb]
 exact e
end
end My
namespace L2
open PySem PySem.Spec PyProof.Rows
theorem cut_put {H H1:Hp} {r:Addr} {o:HO} (h:H r = none):cut H (upd H1 r o) = upd (cut H H1) r o:=by
 funext b
 by_cases e:b = r
 ·subst e
  rw [upd_same,cut]
  rw [h]
  exact upd_same
 ·rw [upd_ne e]
  unfold cut
  split
  ·rw [upd_ne e]
  ·rfl
theorem cut_upd {H H2:Hp} {a:Addr} {o o':HO} (h:H a = some o'):Same (cut H H2) (cut H (upd H2 a o)):=fun b u e=>by
 have nb:b ≠ a:=fun e2=>by rw [e2,cut] at e;rw [h] at e;cases e
 exact cut_at (cut_new e) (by rw [upd_ne nb];exact cut_sub _ _ e)
end L2
namespace My
open PySem L2 PyProof.Rows
seal L2.PE L2.PT L2.PW L2.PS L2.PSs L2.PA L2.PI L2.PG L2.PGs L2.OpR L2.UnR L2.CallR L2.IxR L2.SlR L2.MtR L2.PIf L2.PO L2.MtM L2.PC
abbrev Rw:=List (Str × V)
abbrev Pc:=List (Str × List Rw)
def rK (row:Rw):List (Key × V):=row.map fun c=>(.inr c.1,c.2)
def rD (row:Rw):Dp:=.dic (row.map fun c=>(c.1,.fl c.2))
def RwOk (row:Rw):Prop:=(row.map (·.1)).Nodup/\∀ c ∈ row,flt c.2 = true
def RowsAt (H:Hp) (l:Addr) (rows:List Rw):Prop:=∃ rs:List Addr,H l = some (.lst (rs.map V.ref))/\rs.length = rows.length/\∀ (j:Nat) (r:Addr) (row:Rw),rs[j]? = some r->rows[j]? = some row->H r = some (.dK (rK row))
def zK (zs:List Str) (ls:List Addr):List (Key × V):=zs.zipWith (fun z v=>((Sum.inr z:Key),v)) (ls.map V.ref)
def PcAt (H:Hp) (p:Addr) (pc:Pc):Prop:=∃ ls:List Addr,H p = some (.dK (zK (pc.map (·.1)) ls))/\ls.length = pc.length/\∀ (j:Nat) (l:Addr) (t:Str × List Rw),ls[j]? = some l->pc[j]? = some t->RowsAt H l t.2
structure PcOk (pc:Pc):Prop where
 nd:(pc.map (·.1)).Nodup
 le:pc.length ≤ 8
 rl:∀ t ∈ pc,t.2.length ≤ 1000
 rw_:∀ t ∈ pc,∀ row ∈ t.2,RwOk row
theorem RowsAt.same {H H':Hp} {l:Addr} {rows:List Rw} (h:RowsAt H l rows) (s:Same H H'):RowsAt H' l rows:=let ⟨rs,a,b,c⟩:=h;⟨rs,s _ _ a,b,fun j r row x y=>s _ _ (c j r row x y)⟩
theorem PcAt.same {H H':Hp} {p:Addr} {pc:Pc} (h:PcAt H p pc) (s:Same H H'):PcAt H' p pc:=let ⟨ls,a,b,c⟩:=h;⟨ls,s _ _ a,b,fun j l t x y=>(c j l t x y).same s⟩
theorem rK_flat {row:Rw} (ok:RwOk row) {k:Key} {a:Addr}:(k,V.ref a) ∉ rK row:=fun h=>by
 obtain ⟨c,hc,e⟩:=List.mem_map.mp h
 injection e with _ e2
 have:=ok.2 c hc
 rw [e2] at this
 cases this
theorem zK_mem {zs:List Str} {ls:List Addr} {j:Nat} {z:Str} {l:Addr} (h1:zs[j]? = some z) (h2:ls[j]? = some l):((.inr z:Key),V.ref l) ∈ zK zs ls:=by
 refine List.mem_of_getElem? (i:=j) ?_
 unfold zK
 rw [zw_get,h1,List.getElem?_map,h2]
 rfl
theorem zK_get {zs:List Str} {ls:List Addr} {j:Nat} {k:Key} {v:V} (h:(zK zs ls)[j]? = some (k,v)):∃ z l,zs[j]? = some z/\ls[j]? = some l/\k = .inr z/\v = .ref l:=by
 unfold zK at h
 rw [zw_get,List.getElem?_map] at h
 cases h1:zs[j]? with
 | none=>rw [h1] at h;cases h
 | some z=>
  cases h2:ls[j]? with
  | none=>rw [h1,h2] at h;cases h
  | some l=>
   rw [h1,h2] at h
   cases h
   exact ⟨z,l,rfl,rfl,rfl,rfl⟩
theorem zK_len {zs:List Str} {ls:List Addr} (h:ls.length = zs.length):(zK zs ls).length = zs.length:=by
 unfold zK
 exact zw_len (by rw [List.length_map];exact h)
theorem zK_snoc {zs:List Str} {ls:List Addr} {z:Str} {l:Addr} (h:ls.length = zs.length):zK (zs ++ [z]) (ls ++ [l]) = zK zs ls ++ [(.inr z,.ref l)]:=by
 unfold zK
 rw [List.map_append,List.zipWith_append (by rw [List.length_map];exact h.symm)]
 rfl
theorem zK_new {zs:List Str} {ls:List Addr} {z:Str} (h:z ∉ zs):valV (zK zs ls) (.inr z) = none:=by
 unfold valV
 rw [List.find?_eq_none.mpr fun x hx=>?_]
 ·rfl
 ·obtain ⟨k,v⟩:=x
  obtain ⟨i,y,h1,h2,e⟩:=zw_mem hx
  intro hd
  have e2:=of_decide_eq_true hd
  rw [e] at e2
  injection e2 with e2
  exact h (by rw [← e2];exact List.mem_of_getElem? h1)
theorem PcAt.apart {H:Hp} {p:Addr} {pc:Pc} (ok:PcOk pc) {ls:List Addr} (hp:H p = some (.dK (zK (pc.map (·.1)) ls))) (hl:ls.length = pc.length) {j:Nat} {l:Addr} {t:Str × List Rw} (h1:ls[j]? = some l) (h2:pc[j]? = some t) (hr:RowsAt H l t.2) :
  l ≠ p/\∀ (r:Addr) (row:Rw),row ∈ t.2->H r = some (.dK (rK row))->r ≠ p:=by
 obtain ⟨rs,a1,_⟩:=hr
 refine ⟨(fun e=>by rw [e,hp] at a1;cases a1),fun r row hrow hrr e=>?_⟩
 rw [e,hp] at hrr
 injection hrr with e1
 injection e1 with e2
 have hm:((.inr t.1:Key),V.ref l) ∈ zK (pc.map (·.1)) ls:=zK_mem (j:=j) (by rw [List.getElem?_map,h2];rfl) h1
 rw [e2] at hm
 exact rK_flat (ok.rw_ t (List.mem_of_getElem? h2) row hrow) hm
def spCopied:Sp:=fun vs H Q _=>∃ (p:Addr) (pc:Pc),vs = [.ref p]/\PcAt H p pc/\PcOk pc/\∀ p' H',Same H H'->PcAt (cut H H') p' pc->Q (.ref p') H'
section
variable {P:Program} {w:World} {K:PySem.W.Frag} {mg:Str->Option Value} {base:Heap}
theorem ok_copied {f:Addr} {fd:FuncData} (F:Fun K "copied" "copied" (top 24) f fd) (B:Bl mg):FnOk P w K mg base CX0 1 f fd ["piece"] spCopied:=by
 have sc:FnScope ["piece","fresh","table","rows"] ["piece"] (defScope (top 24)):=⟨rfl,rfl,rfl,by decide +kernel,rfl,by decide +kernel,by decide +kernel⟩
 refine F.ok sc (fun vs H Q E h=>?_) (fun cdv A outer s H vs Q E hr h=>?_)
 ·obtain ⟨p,pc,rfl,_⟩:=h
  rfl
 ·obtain ⟨p,pc,rfl,hpc,ok,q⟩:=h
  have hu:(A.deeper (envOfC "copied" (defScope (top 24)) s.heap.objs.size f cdv)).units + 1 < cLine:=hu_of hr
  refine ⟨_,pss_cons (ps_set (i:=1) sc.nd rfl (Or.inl rfl) pe_dnewK) (pss_cons (ps_frz (ps_for PassesOwn.never rfl (pi_items (pv 0)) (pg_tup rfl (pgs_cons (pg_name (i:=2) sc.nd rfl (Or.inl rfl)) (pgs_cons (pg_name (i:=3) sc.nd rfl (Or.inl rfl)) pgs_nil)))
    (pss_one (ps_dput hu (pv 1) (pv 2) (pe_comp (osc:=defScope (top 24)) (N0:=["piece","fresh","table","rows"]) (xs:=["row"]) (fr:=[]) ⟨rfl,by decide +kernel,by decide +kernel,by decide +kernel,by decide,by decide +kernel⟩ rfl rfl rfl (pi_list (pv 3))
     (fun s H fp=>pg_name (i:=0) (show (["row"]:List Str).Nodup by decide +kernel) rfl (Or.inl rfl)) (fun s H fp=>pif_nil) (fun s H fp=>pe_callTy call_dict_of (by rfl) B.dict boot_dict (pa_cons (pv 0) pa_nil))) rfl)))) (pss_one (ps_ret (pv 1)))),?_⟩
  obtain ⟨ls,hp,hll,hls⟩:=hpc
  refine fun fr hfr=>⟨p,_,(Same.upd hfr) _ _ hp,fun o=>?_⟩
  have np:p ≠ fr:=fun e=>by rw [← e,hp] at hfr;cases hfr
  have S0:Same H (upd H fr (.dK [])):=Same.upd hfr
  have d0:(upd H fr (.dK [])) fr = some (.dK []):=upd_same
  generalize upd H fr (.dK []) = H1 at *
  have hfa:(upd H1 p (.frz o (.dK (zK (pc.map (·.1)) ls)))) p = some (.frz o (.dK (zK (pc.map (·.1)) ls))):=upd_same
  have hb0:Same H (upd (upd H1 p (.frz o (.dK (zK (pc.map (·.1)) ls)))) p (.dK (zK (pc.map (·.1)) ls))):=S0.trans (back_same (S0 _ _ hp) (Same.refl _))
  have d1:(upd H1 p (.frz o (.dK (zK (pc.map (·.1)) ls)))) fr = some (.dK []):=by rw [upd_ne np.symm];exact d0
  generalize upd H1 p (.frz o (.dK (zK (pc.map (·.1)) ls))) = H2 at *
  have kl:(zK (pc.map (·.1)) ls).length = pc.length:=by rw [zK_len (by rw [List.length_map];exact hll),List.length_map]
  refine ⟨_,rfl,p,o,_,rfl,hfa,for_items (a:=p) (o:=o) (kvs:=zK (pc.map (·.1)) ls) (fun i σ H3=>H3 p = some (.frz o (.dK (zK (pc.map (·.1)) ls)))/\Same H (upd H3 p (.dK (zK (pc.map (·.1)) ls)))/\∃ u2 u3,σ = [some (.ref p),some (.ref fr),u2,u3]/\PcAt (cut H H3) fr (pc.take i))
   ⟨hfa,hb0,_,_,rfl,[],cut_at hfr d1,rfl,fun j l t h=>nomatch h⟩ (fun i σ H3 _ p=>p.1) ?_ ?_⟩
  ·rintro i k v p1 σ H3 hk ⟨h3p,sm,u2,u3,rfl,ls',f1,f2,f3⟩ hp1
   have hi:i < pc.length:=by
    have:=(List.getElem?_eq_some_iff.mp hk).1
    omega
   obtain ⟨z,l,hz,hl,rfl,rfl⟩:=zK_get hk
   have hil:i < ls.length:=by omega
   rw [List.getElem?_map,List.getElem?_eq_getElem hi] at hz
   cases hz
   rw [List.getElem?_eq_getElem hil] at hl
   cases hl
   have hR:=hls i ls[i] pc[i] (List.getElem?_eq_getElem hil) (List.getElem?_eq_getElem hi)
   obtain ⟨nl,nr⟩:=PcAt.apart ok hp hll (List.getElem?_eq_getElem hil) (List.getElem?_eq_getElem hi) hR
   obtain ⟨rs,a1,a2,a3⟩:=id hR
   have okt:=ok.rl pc[i] (List.getElem_mem hi)
   have T1:=Same.upd (o:=.tup [kV (.inr pc[i].1),.ref ls[i]]) hp1
   refine ⟨p1,_,rfl,SqT.of upd_same,rfl,_,_,rfl,_,_,rfl,rfl,?_⟩
   generalize upd H3 p1 (.tup [kV (.inr pc[i].1),.ref ls[i]]) = H4 at T1
   have back:∀ {b:Addr} {ob:HO},b ≠ p->H b = some ob->H4 b = some ob:=fun {b ob} nb e=>by
    have:=sm b ob e
    rw [upd_ne nb] at this
    exact T1 _ _ this
   have l4:=back nl a1
   refine ⟨_,rfl,ls[i],rfl,⟨_,SqL.of l4⟩,fun D hD=>?_⟩
   have nH:∀ {b:Addr},H4 b = none->H b = none:=fun {b} e=>by
    by_cases nb:b = p
    ·rw [nb,T1 _ _ h3p] at e;cases e
    ·cases e2:H b with
     | none=>rfl
     | some ob=>rw [back nb e2] at e;cases e
   refine compW_idx rs.length (fun i' ys σ' Hc=>(∃ t,σ' = [t])/\Same H4 Hc/\∃ qs:List Addr,ys = qs.map V.ref/\∀ (j:Nat) (r:Addr) (row:Rw),qs[j]? = some r->pc[i].2[j]? = some row->H r = none/\r ≠ D/\r ≠ fr/\Hc r = some (.dK (rK row))) (by rw [sizeLine_eq];omega) ⟨⟨none,rfl⟩,Same.upd hD,[],rfl,fun j r row h=>nomatch h⟩ upd_same ?_ ?_
   ·rintro i' σ' Hc ys hi' ⟨⟨u,rfl⟩,sc',qs,rfl,hqs⟩ hyl hD'
    rw [List.length_map] at hyl
    have hrow:i' < pc[i].2.length:=by omega
    refine ⟨⟨_,V.ref rs[i'],SqL.of (sc' _ _ l4),by rw [List.getElem?_map,List.getElem?_eq_getElem hi'];rfl⟩,?_⟩
    rintro x H' ⟨rfl,hx'⟩
    have ex:=hx' _ (SqL.of (sc' _ _ l4))
    rw [List.getElem?_map,List.getElem?_eq_getElem hi'] at ex
    cases ex
    have r0:=a3 i' rs[i'] pc[i].2[i'] (List.getElem?_eq_getElem hi') (List.getElem?_eq_getElem hrow)
    have r4:=back (nr _ _ (List.getElem_mem hrow) r0) r0
    refine ⟨_,rfl,rs[i'],_,rfl,.inl (sc' _ _ r4),fun r' hr'=>?_⟩
    have T2:=Same.upd (o:=.dK (rK pc[i].2[i'])) hr'
    have rD:r' ≠ D:=fun e=>by rw [e,hD'] at hr';cases hr'
    refine ⟨T2 _ _ hD',⟨_,rfl⟩,(sc'.trans T2).put hD,qs ++ [r'],by rw [List.map_append];rfl,fun j r row h1 h2=>?_⟩
    by_cases hj:j < qs.length
    ·rw [List.getElem?_append_left hj] at h1
     obtain ⟨e1,e2,e4,e3⟩:=hqs j r row h1 h2
     exact ⟨e1,e2,e4,by rw [upd_ne e2];exact T2 _ _ e3⟩
    ·have hj':j = qs.length:=by
      have:=(List.getElem?_eq_some_iff.mp h1).1
      rw [List.length_append] at this
      simp at this
      omega
     subst hj'
     rw [List.getElem?_append_right (Nat.le_refl _),Nat.sub_self] at h1
     cases h1
     rw [hyl,List.getElem?_eq_getElem hrow] at h2
     cases h2
     exact ⟨nH (none_of sc' hr'),rD,(fun e=>by rw [e,(T1.trans sc') _ _ (cut_sub _ _ f1)] at hr';cases hr'),by rw [upd_ne rD];exact upd_same⟩
   ·rintro σ' Hc ys ⟨_,sc',qs,rfl,hqs⟩ hDn hyl
    rw [List.length_map] at hyl
    have f1c:=(T1.trans sc') _ _ (cut_sub _ _ f1)
    have lt':ls'.length = i:=by rw [f2,List.length_take];omega
    refine ⟨⟨_,SqL.of (sc' _ _ l4),by rw [List.length_map];exact Nat.le_refl _⟩,_,rfl,_,rfl,fr,_,rfl,.inl ⟨_,.inr pc[i].1,f1c,rfl,(by rw [zK_len (by rw [List.length_map];exact f2),List.length_map,List.length_take,sizeLine_eq];have:=ok.le;omega),rfl⟩,?_⟩
    have hnew:pc[i].1 ∉ (pc.take i).map (·.1):=fun hm=>by
     have nd:=ok.nd
     have e:pc.map (·.1) = (pc.take i).map (·.1) ++ (pc.drop i).map (·.1):=by rw [← List.map_append,List.take_append_drop]
     rw [e,List.nodup_append] at nd
     refine nd.2.2 _ hm pc[i].1 ?_ rfl
     rw [List.drop_eq_getElem_cons hi,List.map_cons]
     exact List.mem_cons_self
    rw [putK_new _ (zK_new hnew),← zK_snoc (by rw [List.length_map];exact f2)]
    have nDf:D ≠ fr:=fun e=>by rw [e,T1 _ _ (cut_sub _ _ f1)] at hD;cases hD
    refine ⟨by rw [upd_ne np];exact (T1.trans sc') _ _ h3p,fun b ob hb=>?_,_,_,rfl,ls' ++ [D],cut_at hfr ?_,?_,fun j l t h1 h2=>?_⟩
    ·by_cases e:b = p
     ·subst e
      rw [upd_same]
      rw [hp] at hb
      exact hb
     ·rw [upd_ne e,upd_ne (ne_of_none hb hfr)]
      exact sc' _ _ (back e hb)
    ·rw [upd_same,List.take_succ,List.getElem?_eq_getElem hi,List.map_append]
     rfl
    ·rw [List.length_append,lt',List.length_take]
     show i + 1 = _
     omega
    ·by_cases hj:j < i
     ·rw [List.getElem?_append_left (by omega)] at h1
      have h2':(pc.take i)[j]? = some t:=by
       rw [List.getElem?_take] at h2 ⊢
       rw [if_pos (by omega)] at h2 ⊢
       exact h2
      obtain ⟨qs',b1,b2,b3⟩:=f3 j l t h1 h2'
      have g:=cut_up (H0:=H) (T1.trans sc')
      have nlf:l ≠ fr:=fun e=>by rw [e,f1] at b1;cases b1
      refine ⟨qs',?_,b2,fun j' r row c1 c2=>?_⟩
      ·rw [cut_put hfr,upd_ne nlf]
       exact g _ _ b1
      ·have b4:=b3 j' r row c1 c2
       have htp:t ∈ pc:=by
        rw [List.getElem?_take,if_pos hj] at h2'
        exact List.mem_of_getElem? h2'
       have nrf:r ≠ fr:=fun e=>by
        rw [e,f1] at b4
        injection b4 with e1
        injection e1 with e2
        have hm:((.inr t.1:Key),V.ref l) ∈ zK ((pc.take i).map (·.1)) ls':=zK_mem (j:=j) (by rw [List.getElem?_map,h2'];rfl) h1
        rw [e2] at hm
        exact rK_flat (ok.rw_ t htp row (List.mem_of_getElem? c2)) hm
       rw [cut_put hfr,upd_ne nrf]
       exact g _ _ b4
     ·have hj':j = i:=by
       have:=(List.getElem?_eq_some_iff.mp h1).1
       rw [List.length_append,lt'] at this
       simp at this
       omega
      subst hj'
      rw [List.getElem?_append_right (by omega),lt',Nat.sub_self] at h1
      cases h1
      rw [List.getElem?_take,if_pos (by omega),List.getElem?_eq_getElem hi] at h2
      cases h2
      refine ⟨qs,cut_at (nH hD) (by rw [upd_ne nDf];exact hDn),by omega,fun j' r row c1 c2=>?_⟩
      obtain ⟨e1,e2,nrf,e3⟩:=hqs j' r row c1 c2
      exact cut_at e1 (by rw [upd_ne nrf];exact e3)
  ·rintro σ H3 ⟨h3p,sm,u2,u3,rfl,hfin⟩
   rw [kl,List.take_length] at hfin
   exact ⟨h3p,_,rfl,q fr _ sm (hfin.same (cut_upd hp))⟩
end
end My
namespace L2
open PySem PySem.Spec PyProof.Rows
def srt {α:Type} (es:List (Int × α)):List (Int × α):=es.mergeSort fun a b=>decide (a.1 ≤ b.1)
theorem srt_perm {α:Type} (es:List (Int × α)):(srt es).Perm es:=List.mergeSort_perm _ _
theorem srt_le {α:Type} (es:List (Int × α)):((srt es).map (·.1)).Pairwise (· ≤ ·):=by
 rw [List.pairwise_map]
 refine (List.pairwise_mergeSort (le:=fun a b:Int × α=>decide (a.1 ≤ b.1)) (fun a b c h1 h2=>?_) (fun a b=>?_) es).imp (fun h=>of_decide_eq_true h)
 ·exact decide_eq_true (Int.le_trans (of_decide_eq_true h1) (of_decide_eq_true h2))
 ·rcases Int.le_total a.1 b.1 with h | h
  ·rw [decide_eq_true h];rfl
  ·rw [decide_eq_true h,Bool.or_true]
theorem srt_keys {α:Type} {es:List (Int × α)} {ms:List Int} (h:ms.Perm (es.map (·.1))) (hs:ms.Pairwise (· ≤ ·)):ms = (srt es).map (·.1):=
 List.Perm.eq_of_pairwise (le:=fun a b:Int=>a ≤ b) (fun a b _ _ h1 h2=>Int.le_antisymm h1 h2) hs (srt_le es) (h.trans ((srt_perm es).map _).symm)
theorem mt_app {X:Cx}:MtR X "list.append" rAppend:=mt_append
end L2
namespace My
open PySem L2 PyProof.Rows
seal L2.PE L2.PT L2.PW L2.PS L2.PSs L2.PA L2.PI L2.PG L2.PGs L2.OpR L2.UnR L2.CallR L2.IxR L2.SlR L2.MtR L2.PIf L2.PO L2.MtM L2.PC
structure En where
 k:Int
 p:Addr
 pc:Pc
def kc (e:En):Int × Pc:=(e.k,e.pc)
def kvT (es:List En):List (Key × V):=es.map fun e=>(.inl e.k,.ref e.p)
structure ThsAt (H:Hp) (a:Addr) (es:List En):Prop where
 at_:H a = some (.dK (kvT es))
 nd:(es.map (·.k)).Nodup
 le:es.length ≤ 63
 th:∀ e ∈ es,PcAt H e.p e.pc
 ok:∀ e ∈ es,PcOk e.pc
theorem ThsAt.same {H H':Hp} {a:Addr} {es:List En} (h:ThsAt H a es) (s:Same H H'):ThsAt H' a es:=⟨s _ _ h.at_,h.nd,h.le,fun e he=>(h.th e he).same s,h.ok⟩
theorem valV_map {α:Type} {f:α->Int} {g:α->V} {l:List α} (nd:(l.map f).Nodup) {t:α} (h:t ∈ l):valV (l.map fun t=>((Sum.inl (f t):Key),g t)) (.inl (f t)) = some (g t):=by
 induction l with
 | nil=>cases h
 | cons a r ih=>
  rw [List.map_cons,List.nodup_cons] at nd
  by_cases e:f a = f t
  ·have:t = a:=by
    rcases List.mem_cons.mp h with h | h
    ·exact h
    ·exact absurd (List.mem_map.mpr ⟨t,h,e.symm⟩) nd.1
   subst this
   exact valV_pos rfl
  ·rcases List.mem_cons.mp h with h | h
   ·rw [h] at e;exact absurd rfl e
   ·rw [List.map_cons,valV_neg (p:=((Sum.inl (f a):Key),g a)) (fun e2=>e (by injection e2))]
    exact ih nd.2 h
theorem valV_non {α:Type} {f:α->Int} {g:α->V} {l:List α} {k:Int} (h:k ∉ l.map f):valV (l.map fun t=>((Sum.inl (f t):Key),g t)) (.inl k) = none:=by
 unfold valV
 rw [List.find?_eq_none.mpr fun x hx=>?_]
 ·rfl
 ·obtain ⟨t,ht,rfl⟩:=List.mem_map.mp hx
  intro hd
  have e:=of_decide_eq_true hd
  injection e with e
  exact h (List.mem_map.mpr ⟨t,ht,e⟩)
theorem ThsAt.get {H:Hp} {a:Addr} {es:List En} (h:ThsAt H a es) {e:En} (he:e ∈ es):DGet H a (.int e.k) (some (.ref e.p)):=.inl ⟨_,.inl e.k,.inl h.at_,rfl,(valV_map (f:=En.k) (g:=fun t:En=>V.ref t.p) h.nd he).symm⟩
theorem ThsAt.non {H:Hp} {a:Addr} {es:List En} (h:ThsAt H a es) {k:Int} (hk:k ∉ es.map (·.k)):DGet H a (.int k) none:=.inl ⟨_,.inl k,.inl h.at_,rfl,(valV_non (f:=En.k) (g:=fun t:En=>V.ref t.p) hk).symm⟩
def tab (pc:Pc) (T:Str):List Rw:=((pc.find? fun t=>decide (t.1 = T)).map (·.2)).getD []
theorem tab_at {pc:Pc} {T:Str} (h:T ∈ pc.map (·.1)):∃ (i:Nat) (t:Str × List Rw),pc[i]? = some t/\t.1 = T/\t.2 = tab pc T:=by
 induction pc with
 | nil=>cases h
 | cons a r ih=>
  by_cases e:a.1 = T
  ·refine ⟨0,a,rfl,e,?_⟩
   unfold tab
   rw [List.find?_cons_of_pos (by simpa using e)]
   rfl
  ·rw [List.map_cons] at h
   rcases List.mem_cons.mp h with h | h
   ·exact absurd h.symm e
   ·obtain ⟨i,t,h1,h2,h3⟩:=ih h
    refine ⟨i + 1,t,by rw [List.getElem?_cons_succ];exact h1,h2,?_⟩
    rw [h3]
    unfold tab
    rw [List.find?_cons_of_neg (by simpa using e)]
theorem PcAt.get {H:Hp} {p:Addr} {pc:Pc} (ok:PcOk pc) (h:PcAt H p pc) {T:Str} (hT:T ∈ pc.map (·.1)):∃ l,DGet H p (.str T) (some (.ref l))/\RowsAt H l (tab pc T)/\(tab pc T).length ≤ 1000/\∀ row ∈ tab pc T,RwOk row:=by
 obtain ⟨i,t,h1,rfl,h3⟩:=tab_at hT
 obtain ⟨ls,a1,a2,a3⟩:=h
 have hi:i < ls.length:=by have:=(List.getElem?_eq_some_iff.mp h1).1;omega
 refine ⟨ls[i],.inl ⟨_,.inr t.1,.inl a1,rfl,?_⟩,?_,?_,?_⟩
 ·unfold zK
  rw [zw_val (i:=i) (z:=t.1) (v:=.ref ls[i]) ok.nd (by rw [List.getElem?_map,h1];rfl) (by rw [List.getElem?_map,List.getElem?_eq_getElem hi];rfl)]
 ·rw [← h3];exact a3 i _ t (List.getElem?_eq_getElem hi) h1
 ·rw [← h3];exact ok.rl t (List.mem_of_getElem? h1)
 ·rw [← h3];exact ok.rw_ t (List.mem_of_getElem? h1)
theorem keys_ths (es:List En):(kvT es).map (·.1) = ((es.map kc).map (·.1)).map Sum.inl:=by
 unfold kvT
 rw [List.map_map,List.map_map,List.map_map]
 rfl
section
variable {P:Program} {w:World} {K:PySem.W.Frag} {mg:Str->Option Value} {base:Heap}
end
end My
namespace My
open PySem L2 PyProof.Rows
seal L2.PE L2.PT L2.PW L2.PS L2.PSs L2.PA L2.PI L2.PG L2.PGs L2.OpR L2.UnR L2.CallR L2.IxR L2.SlR L2.MtR L2.PIf L2.PO L2.MtM L2.PC
structure FmAt (H:Hp) (f:Addr) (sz:Int) (Ts:List Tb):Prop where
 at_:FormAt H f sz Ts
 nd:(Ts.map (·.name)).Nodup
 le:Ts.length ≤ 8
 cn:∀ T ∈ Ts,(T.cols.map (·.1)).Nodup/\T.cols.length ≤ 12
 kd:∀ T ∈ Ts,∀ c ∈ T.cols,∃ z rest,H c.2 = some (.tup (.str z :: rest))/\z ≠ ("once":Str)/\z ≠ ("key":Str)
theorem FmAt.same {H H':Hp} {f:Addr} {sz:Int} {Ts:List Tb} (h:FmAt H f sz Ts) (s:Same H H'):FmAt H' f sz Ts:=⟨h.at_.same s,h.nd,h.le,h.cn,fun T hT c hc=>let ⟨z,r,a,b,d⟩:=h.kd T hT c hc;⟨z,r,s _ _ a,b,d⟩⟩
theorem valC {cols:List (Str × Addr)} (nd:(cols.map (·.1)).Nodup) {c:Str × Addr} (h:c ∈ cols):valV (kvC cols) (.inr c.1) = some (.ref c.2):=by
 induction cols with
 | nil=>cases h
 | cons a r ih=>
  rw [List.map_cons,List.nodup_cons] at nd
  unfold kvC at ih ⊢
  rw [List.map_cons]
  by_cases e:a.1 = c.1
  ·have:c = a:=by
    rcases List.mem_cons.mp h with h | h
    ·exact h
    ·exact absurd (List.mem_map.mpr ⟨c,h,e.symm⟩) nd.1
   subst this
   exact valV_pos rfl
  ·rcases List.mem_cons.mp h with h | h
   ·rw [h] at e;exact absurd rfl e
   ·rw [valV_neg (p:=((Sum.inr a.1:Key),V.ref a.2)) (fun e2=>e (by injection e2))]
    exact ih nd.2 h
def spCBS:Sp:=fun vs H Q _=>∃ (f:Addr) (sz:Int) (Ts:List Tb) (z:Str),vs = [.ref f,.str z]/\FmAt H f sz Ts/\(z = "once"\/z = "key")/\∀ p H',Same H H'->H' p = some (.lst [])->Q (.ref p) H'
def spAskW:Sp:=fun vs H Q _=>∃ (f:Addr) (sz:Int) (Ts:List Tb) (x:V),vs = [.ref f,x]/\FmAt H f sz Ts/\∀ H',Same H H'->Q .non H'
section
variable {P:Program} {w:World} {K:PySem.W.Frag} {mg:Str->Option Value} {base:Heap}
theorem ok_cbs {f fT fC fI:Addr} {fd fdT fdC fdI:FuncData} (F:Fun K "columns_by_sort" "columns_by_sort" (top 34) f fd) (B:Bl mg) (DT:Df K mg "tables_of" (top 18) fT fdT) (DC:Df K mg "columns_of" (top 21) fC fdC) (DI:Df K mg "table_in" (top 22) fI fdI):FnOk P w K mg base CX0 3 f fd ["form","sort"] spCBS:=by
 have sc:FnScope ["form","sort","found","table","columns","column"] ["form","sort"] (defScope (top 34)):=⟨rfl,rfl,rfl,by decide +kernel,rfl,by decide +kernel,by decide +kernel⟩
 have GT:FnOk P w K mg base CX0 1 fT fdT ["form"] spTabs:=ok_tabs DT.fn
 have bT:=DT.fn.binds (ps:=["form"]) fun _ _ _ _ _ _ us hl=>by obtain ⟨v0,rfl⟩:=L2.ln1 hl;rfl
 have GC:FnOk P w K mg base CX0 2 fC fdC ["form","table"] spColsOf:=ok_colsOf DC.fn B DI
 have bC:=DC.fn.binds (ps:=["form","table"]) fun _ _ _ _ _ _ us hl=>by obtain ⟨v0,v1,rfl⟩:=L2.ln2 hl;rfl
 refine F.ok sc (fun vs H Q E h=>?_) (fun cdv A outer s H vs Q E hr h=>?_)
 ·obtain ⟨f,sz,Ts,z,rfl,_⟩:=h
  rfl
 ·obtain ⟨f,sz,Ts,z,rfl,hf,nz,q⟩:=h
  have hr1:Room 1 _:=hr.mono (by decide)
  have hu:(A.deeper (envOfC "columns_by_sort" (defScope (top 34)) s.heap.objs.size _ cdv)).units + 1 < cLine:=hu_of hr
  refine ⟨_,pss_cons (ps_set (i:=2) sc.nd rfl (Or.inl rfl) (pe_lst pa_nil)) (pss_cons (ps_for PassesOwn.never rfl (pi_list (pe_call GT hr1 (by rfl) DT.mg DT.fn.kp bT .nil pass0 (pa_cons (pv 0) pa_nil))) (pg_name (i:=3) sc.nd rfl (Or.inl rfl))
    (pss_cons (ps_set (i:=4) sc.nd rfl (Or.inl rfl) (pe_call GC hr (by rfl) DC.mg DC.fn.kp bC .nil pass0 (pa_cons (pv 0) (pa_cons (pv 3) pa_nil))))
     (pss_one (ps_for PassesOwn.never rfl (pi_list (pe_callB (call_sortedD rfl) (by rfl) B.sorted boot_sorted (pa_cons (pv 4) pa_nil))) (pg_name (i:=5) sc.nd rfl (Or.inl rfl))
      (pss_one (ps_if (pt_cmpR op_eq (pe_ix ix_tup (pe_dget hu (pv 4) (pv 5) (fun _ _=>rfl)) pe_int (fun _ _=>rfl)) (pv 1) (nomark _)) pss_never pss_nil)))))) (pss_one (ps_ret (pv 2)))),?_⟩
  refine ⟨Nat.zero_le _,fun fo hfo0=>?_⟩
  have S0:=Same.upd (o:=.lst []) hfo0
  have f0:(upd H fo (.lst [])) fo = some (.lst []):=upd_same
  generalize upd H fo (.lst []) = H0 at *
  refine ⟨_,rfl,f,sz,_,rfl,hf.at_.same S0,hf.le,fun p H1 hp s1 p1=>?_⟩
  have S1:=S0.trans s1
  refine ⟨p,rfl,⟨_,SqL.of p1⟩,for_list (K:=K) (a:=p) (xs:=(Ts.map (·.name)).map V.str) (fun i σ H2=>Same H1 H2/\∃ u3 u4 u5,σ = [some (.ref f),some (.str z),some (.ref fo),u3,u4,u5]) ⟨Same.refl _,_,_,_,rfl⟩ (fun i σ H2 _ p=>SqL.of (p.1 _ _ p1)) ?_ ?_⟩
  ·rintro i x σ H2 hx ⟨s2,u3,u4,u5,rfl⟩
   obtain ⟨nm,hnm,rfl⟩:=List.mem_map.mp (List.mem_of_getElem? hx)
   obtain ⟨T,hT,rfl⟩:=List.mem_map.mp hnm
   obtain ⟨cnd,cle⟩:=hf.cn T hT
   refine ⟨_,rfl,_,rfl,f,sz,Ts,T,rfl,hf.at_.same (S1.trans s2),hf.nd,hT,cnd,cle,fun c H3 hc s3 c3=>?_⟩
   refine ⟨_,rfl,c,_,T.cols.map (·.1),rfl,.inl c3,(by unfold kvC;rw [List.map_map,List.map_map];rfl),(by rw [List.length_map];omega),fun l ys hl hp hs=>?_⟩
   have T4:=Same.upd (o:=.lst (ys.map V.str)) hl
   have l4:(upd H3 l (.lst (ys.map V.str))) l = some (.lst (ys.map V.str)):=upd_same
   generalize upd H3 l (.lst (ys.map V.str)) = H4 at *
   refine ⟨l,rfl,⟨_,SqL.of l4⟩,for_list (K:=K) (a:=l) (xs:=ys.map V.str) (fun j σ H5=>H5 = H4/\∃ u5,σ = [some (.ref f),some (.str z),some (.ref fo),some (.str T.name),some (.ref c),u5]) ⟨rfl,_,rfl⟩ (fun i σ H2 _ p=>by rw [p.1];exact SqL.of l4) ?_ ?_⟩
   ·rintro j x σ H5 hx ⟨rfl,u5,rfl⟩
    obtain ⟨y,hy,rfl⟩:=List.mem_map.mp (List.mem_of_getElem? hx)
    obtain ⟨cc,hcc,rfl⟩:=List.mem_map.mp (hp.mem_iff.mp hy)
    obtain ⟨kz,rest,k1,k2,k3⟩:=hf.kd T hT cc hcc
    refine ⟨_,rfl,_,rfl,c,_,rfl,.inl ⟨_,.inr cc.1,.inl (T4 _ _ c3),rfl,(valC cnd hcc).symm⟩,_,_,0,.str kz,rfl,rfl,SqT.of ((((S1.trans s2).trans s3).trans T4) _ _ k1),atI_nat (j:=0) rfl,_,rfl,rfl,_,rfl,?_⟩
    refine iteC (decide_eq_false fun e=>?_) ⟨rfl,_,rfl⟩
    injection e with e
    rcases nz with rfl | rfl
    ·exact k2 e
    ·exact k3 e
   ·rintro σ H5 ⟨rfl,u5,rfl⟩
    exact ⟨s2.trans (s3.trans T4),_,_,_,rfl⟩
  ·rintro σ H2 ⟨s2,u3,u4,u5,rfl⟩
   exact ⟨_,rfl,q fo H2 (S1.trans s2) ((s1.trans s2) _ _ f0)⟩
theorem ok_askW {f fB fT fC fI:Addr} {fd fdB fdT fdC fdI:FuncData} (F:Fun K "ask_whole_table" "ask_whole_table" (top 33) f fd) (B:Bl mg) (DB:Df K mg "columns_by_sort" (top 34) fB fdB) (DT:Df K mg "tables_of" (top 18) fT fdT) (DC:Df K mg "columns_of" (top 21) fC fdC) (DI:Df K mg "table_in" (top 22) fI fdI):FnOk P w K mg base CX0 4 f fd ["form","things"] spAskW:=by
 have sc:FnScope ["form","things","table","column"] ["form","things"] (defScope (top 33)):=⟨rfl,rfl,rfl,by decide +kernel,rfl,by decide +kernel,by decide +kernel⟩
 have GB:FnOk P w K mg base CX0 3 fB fdB ["form","sort"] spCBS:=ok_cbs DB.fn B DT DC DI
 have bB:=DB.fn.binds (ps:=["form","sort"]) fun _ _ _ _ _ _ us hl=>by obtain ⟨v0,v1,rfl⟩:=L2.ln2 hl;rfl
 refine F.ok sc (fun vs H Q E h=>?_) (fun cdv A outer s H vs Q E hr h=>?_)
 ·obtain ⟨f,sz,Ts,x,rfl,_⟩:=h
  rfl
 ·obtain ⟨f,sz,Ts,x,rfl,hf,q⟩:=h
  refine ⟨_,pss_cons (ps_for PassesOwn.never rfl (pi_list (pe_call GB hr (by rfl) DB.mg DB.fn.kp bB .nil pass0 (pa_cons (pv 0) (pa_cons pe_str pa_nil)))) (pg_tup rfl (pgs_cons (pg_name (i:=2) sc.nd rfl (Or.inl rfl)) (pgs_cons (pg_name (i:=3) sc.nd rfl (Or.inl rfl)) pgs_nil))) pss_never)
   (pss_one (ps_for PassesOwn.never rfl (pi_list (pe_call GB hr (by rfl) DB.mg DB.fn.kp bB .nil pass0 (pa_cons (pv 0) (pa_cons pe_str pa_nil)))) (pg_tup rfl (pgs_cons (pg_name (i:=2) sc.nd rfl (Or.inl rfl)) (pgs_cons (pg_name (i:=3) sc.nd rfl (Or.inl rfl)) pgs_nil))) pss_never)),?_⟩
  refine ⟨_,rfl,f,sz,Ts,_,rfl,hf,.inl rfl,fun p H1 s1 p1=>⟨p,rfl,⟨_,SqL.of p1⟩,for_list (K:=K) (a:=p) (xs:=[]) (fun i σ H2=>H2 = H1/\σ = [some (.ref f),some x,none,none]) ⟨rfl,rfl⟩ (fun i σ H2 _ p=>by rw [p.1];exact SqL.of p1) (fun i x σ H2 hx=>nomatch hx) ?_⟩⟩
  rintro σ H2 ⟨rfl,rfl⟩
  refine ⟨_,rfl,f,sz,Ts,_,rfl,hf.same s1,.inr rfl,fun p' H1 s1' p1'=>⟨p',rfl,⟨_,SqL.of p1'⟩,for_list (K:=K) (a:=p') (xs:=[]) (fun i σ H2=>H2 = H1) rfl (fun i σ H2 _ p=>by rw [p];exact SqL.of p1') (fun i x σ H2 hx=>nomatch hx) ?_⟩⟩
  rintro σ H3 rfl
  exact q _ (s1.trans s1')
end
end My
namespace My
open PySem L2 PyProof.Rows
seal L2.PE L2.PT L2.PW L2.PS L2.PSs L2.PA L2.PI L2.PG L2.PGs L2.OpR L2.UnR L2.CallR L2.IxR L2.SlR L2.MtR L2.PIf L2.PO L2.MtM L2.PC
def flds (fo td:Addr):List (Str × V):=putF "things" (.ref td) (putF "form" (.ref fo) [])
theorem flds_form {fo td:Addr}:(flds fo td).lookup ("form":Str) = some (.ref fo):=by
 unfold flds
 rw [lookup_putF,if_neg (by decide +kernel),lookup_putF,if_pos rfl]
theorem flds_things {fo td:Addr}:(flds fo td).lookup ("things":Str) = some (.ref td):=by
 unfold flds
 rw [lookup_putF,if_pos rfl]
theorem flds_no {fo td:Addr} {m:Str} (h1:¬ m = "things") (h2:¬ m = "form"):(flds fo td).lookup m = none:=by
 unfold flds
 rw [lookup_putF,if_neg h1,lookup_putF,if_neg h2]
 rfl
structure ClP (K:PySem.W.Frag) (CP:Addr):Prop where
 cl:Cls K CP
 nF:NoAttr K CP "form"
 nT:NoAttr K CP "things"
structure PlAt (CP:Addr) (H:Hp) (a:Addr) (sz:Int) (Ts:List Tb) (es:List En):Prop where
 ex:∃ dx fo td,H a = some (.ins CP dx (flds fo td))/\FmAt H fo sz Ts/\ThsAt H td es
 tb:∀ e ∈ es,∀ T ∈ Ts.map (·.name),T ∈ e.pc.map (·.1)
theorem PlAt.same {CP:Addr} {H H':Hp} {a:Addr} {sz:Int} {Ts:List Tb} {es:List En} (h:PlAt CP H a sz Ts es) (s:Same H H'):PlAt CP H' a sz Ts es:=let ⟨dx,fo,td,h1,h2,h3⟩:=h.ex;⟨⟨dx,fo,td,s _ _ h1,h2.same s,h3.same s⟩,h.tb⟩
def TxO (o:HO):Prop:=∀ kvs,o = .dK kvs->∀ k v,(k,v) ∈ kvs->∃ z,k = .inr z
theorem PcAt.move {H H2:Hp} {p:Addr} {pc:Pc} (h:PcAt H p pc) (m:∀ b o,H b = some o->TxO o->H2 b = some o):PcAt H2 p pc:=by
 obtain ⟨ls,a1,a2,a3⟩:=h
 refine ⟨ls,m _ _ a1 (fun kvs e k v hm=>?_),a2,fun j l t e1 e2=>?_⟩
 ·cases e
  obtain ⟨i,z,_,_,e⟩:=zw_mem hm
  exact ⟨z,e⟩
 ·obtain ⟨rs,b1,b2,b3⟩:=a3 j l t e1 e2
  refine ⟨rs,m _ _ b1 (fun kvs e=>nomatch e),b2,fun j' r row c1 c2=>m _ _ (b3 j' r row c1 c2) (fun kvs e k v hm=>?_)⟩
  cases e
  obtain ⟨c,_,e⟩:=List.mem_map.mp hm
  injection e with e1 _
  exact ⟨_,e1.symm⟩
theorem kvT_txo {es:List En} {e:En} (he:e ∈ es):¬ TxO (.dK (kvT es)):=fun h=>by
 obtain ⟨z,hz⟩:=h _ rfl (.inl e.k) (.ref e.p) (List.mem_map.mpr ⟨e,he,rfl⟩)
 cases hz
def spPInit (CP:Addr):Sp:=fun vs H Q _=>∃ (x dx fo a:Addr) (sz:Int) (Ts:List Tb) (es:List En),vs = [.ref x,.ref fo,.ref a]/\H x = some (.ins CP dx [])/\FmAt H fo sz Ts/\ThsAt H a es ∧
 ∀ td us H',H' x = some (.ins CP dx (flds fo td))->(∀ b o,b ≠ x->H b = some o->H' b = some o)->us.map kc = es.map kc->ThsAt (cut H H') td us->Q .non H'
section
variable {P:Program} {w:World} {K:PySem.W.Frag} {mg:Str->Option Value} {base:Heap} {CP:Addr}
theorem ok_pinit {f fK fW fB fT fC fI:Addr} {fd fdK fdW fdB fdT fdC fdI:FuncData} (F:FunX K "__init__" "Plain.__init__" (inClass (top 26) 0) f fd) (B:Bl mg) (L:ClP K CP) (DK:Df K mg "copied" (top 24) fK fdK) (DW:Df K mg "ask_whole_table" (top 33) fW fdW) (DB:Df K mg "columns_by_sort" (top 34) fB fdB) (DT:Df K mg "tables_of" (top 18) fT fdT) (DC:Df K mg "columns_of" (top 21) fC fdC) (DI:Df K mg "table_in" (top 22) fI fdI) :
  FnOk P w K mg base CX0 5 f fd ["self","form","things"] (spPInit CP):=by
 have sc:FnScope ["self","form","things","taken","key","piece"] ["self","form","things"] (defScope (inClass (top 26) 0)):=⟨rfl,rfl,rfl,by decide +kernel,rfl,by decide +kernel,by decide +kernel⟩
 have GK:FnOk P w K mg base CX0 1 fK fdK ["piece"] spCopied:=ok_copied DK.fn B
 have bK:=DK.fn.binds (ps:=["piece"]) fun _ _ _ _ _ _ us hl=>by obtain ⟨v0,rfl⟩:=L2.ln1 hl;rfl
 have GW:FnOk P w K mg base CX0 4 fW fdW ["form","things"] spAskW:=ok_askW DW.fn B DB DT DC DI
 have bW:=DW.fn.binds (ps:=["form","things"]) fun _ _ _ _ _ _ us hl=>by obtain ⟨v0,v1,rfl⟩:=L2.ln2 hl;rfl
 refine F.ok sc (fun vs H Q E h=>?_) (fun cdv A outer s H vs Q E hr h=>?_)
 ·obtain ⟨x,dx,fo,a,sz,Ts,es,rfl,_⟩:=h
  rfl
 ·obtain ⟨x,dx,fo,a,sz,Ts,es,rfl,hx,hf,hts,q⟩:=h
  have hr1:Room 1 _:=hr.mono (by decide)
  have hu:(A.deeper (envOfC "Plain.__init__" (defScope (inClass (top 26) 0)) s.heap.objs.size f cdv)).units + 1 < cLine:=hu_of hr
  refine ⟨_,pss_cons (ps_set (i:=3) sc.nd rfl (Or.inl rfl) pe_dnewK) (pss_cons (ps_if (pt_cmpR op_notN (pv 2) pe_non (nomark _)) (pss_one (ps_frz (ps_for PassesOwn.never rfl (pi_items (pv 2)) (pg_tup rfl (pgs_cons (pg_name (i:=4) sc.nd rfl (Or.inl rfl)) (pgs_cons (pg_name (i:=5) sc.nd rfl (Or.inl rfl)) pgs_nil)))
    (pss_one (ps_dput hu (pv 3) (pv 4) (pe_call GK hr1 (by rfl) DK.mg DK.fn.kp bK .nil pass0 (pa_cons (pv 5) pa_nil)) rfl))))) pss_nil)
   (pss_cons (ps_expr (pe_call GW hr (by rfl) DW.mg DW.fn.kp bW .nil pass0 (pa_cons (pv 1) (pa_cons (pv 3) pa_nil)))) (pss_cons (ps_fld (pv 0) (pv 1) rfl) (pss_one (ps_fld (pv 0) (pv 3) rfl))))),?_⟩
  refine fun td htd=>?_
  have S0:=Same.upd (o:=.dK []) htd
  have d0:(upd H td (.dK [])) td = some (.dK []):=upd_same
  generalize upd H td (.dK []) = H0 at *
  have nat:td ≠ a:=fun e=>by rw [e,hts.at_] at htd;cases htd
  refine ⟨_,rfl,rfl,_,rfl,iteT ⟨a,_,S0 _ _ hts.at_,fun o=>?_⟩⟩
  have hfa:(upd H0 a (.frz o (.dK (kvT es)))) a = some (.frz o (.dK (kvT es))):=upd_same
  have hb0:Same H (upd (upd H0 a (.frz o (.dK (kvT es)))) a (.dK (kvT es))):=S0.trans (back_same (S0 _ _ hts.at_) (Same.refl _))
  have d1:(upd H0 a (.frz o (.dK (kvT es)))) td = some (.dK []):=by rw [upd_ne nat];exact d0
  generalize upd H0 a (.frz o (.dK (kvT es))) = H1 at *
  refine ⟨_,rfl,a,o,_,rfl,hfa,for_items (a:=a) (o:=o) (kvs:=kvT es) (fun i σ H2=>H2 a = some (.frz o (.dK (kvT es)))/\Same H (upd H2 a (.dK (kvT es)))/\∃ (us:List En) (u4 u5:Option V),σ = [some (.ref x),some (.ref fo),some (.ref a),some (.ref td),u4,u5]/\us.map kc = (es.take i).map kc/\ThsAt (cut H H2) td us)
   ⟨hfa,hb0,[],_,_,rfl,rfl,cut_at htd d1,List.nodup_nil,Nat.zero_le _,(fun t h=>nomatch h),(fun t h=>nomatch h)⟩ (fun i σ H2 _ p=>p.1) ?_ ?_⟩
  ·rintro i k v p1 σ H2 hk ⟨h2a,sm,us,u4,u5,rfl,huk,hus⟩ hp
   have hi:i < es.length:=by
    have:=(List.getElem?_eq_some_iff.mp hk).1
    unfold kvT at this
    rwa [List.length_map] at this
   unfold kvT at hk
   rw [List.getElem?_map,List.getElem?_eq_getElem hi] at hk
   cases hk
   have tin:es[i] ∈ es:=List.getElem_mem hi
   have ht2:PcAt H2 es[i].p es[i].pc:=(hts.th _ tin).move fun b ob hb tx=>by
    have nb:b ≠ a:=fun e=>by
     rw [e,hts.at_] at hb
     cases hb
     exact kvT_txo tin tx
    have:=sm b ob hb
    rwa [upd_ne nb] at this
   have T1:=Same.upd (o:=.tup [kV (.inl es[i].k),.ref es[i].p]) hp
   refine ⟨p1,_,rfl,SqT.of upd_same,rfl,_,_,rfl,_,_,rfl,rfl,?_⟩
   generalize upd H2 p1 (.tup [kV (.inl es[i].k),.ref es[i].p]) = H3 at T1
   refine ⟨_,rfl,es[i].p,es[i].pc,rfl,ht2.same T1,hts.ok _ tin,fun pn H4 s4 hu4=>?_⟩
   have hul:us.length = i:=by
    have:=congrArg List.length huk
    rw [List.length_map,List.length_map,List.length_take] at this
    omega
   have hk0:(us.map (·.k)) = (es.take i).map (·.k):=by
    have:=congrArg (List.map Prod.fst) huk
    rw [List.map_map,List.map_map] at this
    exact this
   have hnd:((us ++ [(⟨es[i].k,pn,es[i].pc⟩:En)]).map (·.k)).Nodup:=by
    have e:(us ++ [(⟨es[i].k,pn,es[i].pc⟩:En)]).map (·.k) = (es.take (i + 1)).map (·.k):=by
     rw [List.map_append,hk0,List.take_succ,List.getElem?_eq_getElem hi,List.map_append]
     rfl
    rw [e]
    exact hts.nd.sublist ((List.take_sublist _ _).map _)
   have hnew:valV (kvT us) (.inl es[i].k) = none:=by
    refine valV_non (f:=En.k) (g:=fun t:En=>V.ref t.p) fun hm=>?_
    rw [List.map_append,List.nodup_append] at hnd
    exact hnd.2.2 _ hm _ (List.mem_singleton.mpr rfl) rfl
   have hd4:=(T1.trans s4) _ _ (cut_sub _ _ hus.at_)
   refine ⟨_,rfl,_,rfl,td,_,rfl,.inl ⟨kvT us,.inl es[i].k,hd4,rfl,(by unfold kvT;rw [List.length_map,sizeLine_eq];have:=hts.le;omega),rfl⟩,?_⟩
   rw [putK_new _ hnew]
   have nH:∀ {b:Addr},H3 b = none->H b = none:=fun {b} e=>by
    have e2:=none_of T1 e
    have nb:b ≠ a:=fun e3=>by rw [e3,h2a] at e2;cases e2
    exact none_of sm (by rw [upd_ne nb];exact e2)
   refine ⟨?_,fun b ob hb=>?_,us ++ [(⟨es[i].k,pn,es[i].pc⟩:En)],_,_,rfl,?_,?_⟩
   ·rw [upd_ne nat.symm]
    exact (T1.trans s4) _ _ h2a
   ·by_cases e:b = a
    ·subst e
     rw [upd_same]
     rw [hts.at_] at hb
     exact hb
    ·rw [upd_ne e,upd_ne (ne_of_none hb htd)]
     have:=sm b ob hb
     rw [upd_ne e] at this
     exact (T1.trans s4) _ _ this
   ·rw [List.map_append,huk,List.take_succ,List.getElem?_eq_getElem hi,List.map_append]
    rfl
   ·refine ⟨cut_at htd ?_,hnd,?_,fun e he=>?_,fun e he=>?_⟩
    ·rw [upd_same]
     unfold kvT
     rw [List.map_append]
     rfl
    ·rw [List.length_append,hul]
     show i + 1 ≤ 63
     have:=hts.le
     omega
    ·rcases List.mem_append.mp he with he | he
     ·refine (hus.th e he).move fun b ob hb tx=>?_
      have nb:b ≠ td:=fun e2=>by
       rw [e2,hus.at_] at hb
       cases hb
       exact kvT_txo he tx
      exact cut_at (cut_new hb) (by rw [upd_ne nb];exact (T1.trans s4) _ _ (cut_sub _ _ hb))
     ·rw [List.mem_singleton.mp he]
      refine hu4.move fun b ob hb _=>?_
      have nb:b ≠ td:=fun e2=>by
       have:=cut_new hb
       rw [e2,T1 _ _ (cut_sub _ _ hus.at_)] at this
       cases this
      exact cut_at (nH (cut_new hb)) (by rw [upd_ne nb];exact cut_sub _ _ hb)
    ·rcases List.mem_append.mp he with he | he
     ·exact hus.ok e he
     ·rw [List.mem_singleton.mp he]
      exact hts.ok es[i] tin
  ·rintro σ H2 ⟨h2a,sm,us,u4,u5,rfl,huk,hus⟩
   have el:(kvT es).length = es.length:=by unfold kvT;rw [List.length_map]
   rw [el,List.take_length] at huk
   refine ⟨h2a,?_⟩
   have hus':=hus.same (cut_upd (o:=.dK (kvT es)) hts.at_)
   generalize upd H2 a (.dK (kvT es)) = H3 at sm hus'
   refine ⟨_,rfl,_,rfl,fo,sz,Ts,_,rfl,hf.same sm,fun H4 s4=>?_⟩
   have S4:=sm.trans s4
   refine ⟨_,rfl,_,rfl,x,CP,dx,[],rfl,S4 _ _ hx,L.cl,L.nF,(by show 0 < 1000;decide),?_⟩
   refine ⟨_,rfl,_,rfl,x,CP,dx,_,rfl,upd_same,L.cl,L.nT,(by show 1 < 1000;decide),?_⟩
   have hU:=(hus'.same (cut_up s4)).same ((cut_upd (o:=.ins CP dx (putF "form" (.ref fo) [])) hx))
   refine q td us _ upd_same (fun b ob nb hb=>by rw [upd_ne nb,upd_ne nb];exact S4 _ _ hb) huk (hU.same (cut_upd hx))
end
end My
namespace L2
open PySem PySem.Spec PyProof.Rows
theorem pg_tupK {X:Cx} {K:PySem.W.Frag} {es:List Expr} {k:Nat} {pos:Pos} {t:TGs} {n:Nat} (hK:X.K = K) (hc:X.calm = true) (h:PGs X es t)
  (hn:(assignEach es X.env).length = n:=by rfl) (hst:(assignEach es X.env).findIdx? (·.1) = none:=by rfl):PG X (.Tuple es k pos) (gTup K n t):=by
 subst hK
 exact pg_tup hc h hn hst
theorem inV_str (z:Str) (l:List Str):inV (.str z) (l.map V.str) = decide (z ∈ l):=by
 unfold inV
 rw [Bool.eq_iff_iff,List.any_eq_true,decide_eq_true_iff]
 constructor
 ·rintro ⟨y,hy,e⟩
  obtain ⟨x,hx,rfl⟩:=List.mem_map.mp hy
  have:x = z:=by simpa [eqV] using e
  rw [← this]
  exact hx
 ·intro h
  exact ⟨_,List.mem_map.mpr ⟨z,h,rfl⟩,by simp [eqV]⟩
theorem flat_strs (l:List Str):(l.map V.str).all flatV = true:=by
 rw [List.all_map]
 exact List.all_eq_true.mpr fun _ _=>rfl
end L2
namespace My
open PySem L2 PyProof.Rows
seal L2.PE L2.PT L2.PW L2.PS L2.PSs L2.PA L2.PI L2.PG L2.PGs L2.OpR L2.UnR L2.CallR L2.IxR L2.SlR L2.MtR L2.PIf L2.PO L2.MtM L2.PC
def spPiece (CP:Addr):Sp:=fun vs H Q _=>∃ (a:Addr) (sz:Int) (Ts:List Tb) (es:List En) (e:En),vs = [.ref a,.int e.k]/\PlAt CP H a sz Ts es/\e ∈ es/\∀ p' H',Same H H'->PcAt (cut H H') p' e.pc->Q (.ref p') H'
def spHeld (CP:Addr):Sp:=fun vs H Q _=>∃ (a:Addr) (sz:Int) (Ts:List Tb) (es:List En),vs = [.ref a]/\PlAt CP H a sz Ts es/\∀ l H',Same H H'->cut H H' l = some (.lst (((srt (es.map kc)).map (·.1)).map V.int))->Q (.ref l) H'
theorem Refd.same {E:XK} {H H':Hp} {C:Addr} {z:Str} {k p:V} (r:Refd E H C z k p) (s:Same H H'):Refd E H' C z k p:=fun dx H2 e s2=>r dx H2 e (s.trans s2)
section
variable {P:Program} {w:World} {K:PySem.W.Frag} {mg:Str->Option Value} {base:Heap} {CP CT CO CM:Addr}
theorem ok_held {f:Addr} {fd:FuncData} (F:Fun K "held" "Plain.held" (inClass (top 26) 7) f fd) (B:Bl mg) (L:ClP K CP):FnOk P w K mg base CX0 1 f fd ["self"] (spHeld CP):=by
 have sc:FnScope ["self"] ["self"] (defScope (inClass (top 26) 7)):=⟨rfl,rfl,rfl,by decide +kernel,rfl,by decide +kernel,by decide +kernel⟩
 refine F.ok sc (fun vs H Q E h=>?_) (fun cdv A outer s H vs Q E hr h=>?_)
 ·obtain ⟨a,sz,Ts,es,rfl,_⟩:=h
  rfl
 ·obtain ⟨a,sz,Ts,es,rfl,⟨⟨dx,fo,td,ha,hf,hts⟩,htb⟩,q⟩:=h
  refine ⟨_,pss_one (ps_ret (pe_callB (call_sortedDI rfl) (by rfl) B.sorted boot_sorted (pa_cons (pe_fld (pv 0) rfl) pa_nil))),?_⟩
  refine ⟨_,rfl,a,CP,dx,_,_,rfl,ha,L.cl,L.nT,flds_things,td,_,(es.map kc).map (·.1),rfl,.inl hts.at_,keys_ths es,(by rw [List.length_map,List.length_map];have:=hts.le;omega),fun l ms hl hp hs=>?_⟩
  obtain rfl:=srt_keys hp hs
  exact q l _ (Same.upd hl) (cut_at hl upd_same)
theorem ok_piece {f fK:Addr} {fd fdK:FuncData} (F:Fun K "piece" "Plain.piece" (inClass (top 26) 6) f fd) (B:Bl mg) (L:ClP K CP) (DK:Df K mg "copied" (top 24) fK fdK):FnOk P w K mg base CX0 2 f fd ["self","key"] (spPiece CP):=by
 have sc:FnScope ["self","key"] ["self","key"] (defScope (inClass (top 26) 6)):=⟨rfl,rfl,rfl,by decide +kernel,rfl,by decide +kernel,by decide +kernel⟩
 have GK:FnOk P w K mg base CX0 1 fK fdK ["piece"] spCopied:=ok_copied DK.fn B
 have bK:=DK.fn.binds (ps:=["piece"]) fun _ _ _ _ _ _ us hl=>by obtain ⟨v0,rfl⟩:=L2.ln1 hl;rfl
 refine F.ok sc (fun vs H Q E h=>?_) (fun cdv A outer s H vs Q E hr h=>?_)
 ·obtain ⟨a,sz,Ts,es,e,rfl,_⟩:=h
  rfl
 ·obtain ⟨a,sz,Ts,es,e,rfl,⟨⟨dx,fo,td,ha,hf,hts⟩,htb⟩,htm,q⟩:=h
  have hu:(A.deeper (envOfC "Plain.piece" (defScope (inClass (top 26) 6)) s.heap.objs.size f cdv)).units + 1 < cLine:=hu_of hr
  refine ⟨_,pss_cons (ps_if (pt_cmp (pc_dnotin hu (pv 1) (pe_fld (pv 0) rfl))) pss_never pss_nil) (pss_one (ps_ret (pe_call GK hr (by rfl) DK.mg DK.fn.kp bK .nil pass0 (pa_cons (pe_dget hu (pe_fld (pv 0) rfl) (pv 1) (fun _ _=>rfl)) pa_nil)))),?_⟩
  exact ⟨_,rfl,_,rfl,a,CP,dx,_,_,rfl,ha,L.cl,L.nT,flds_things,td,_,rfl,hts.get htm,_,rfl,iteF ⟨_,rfl,a,CP,dx,_,_,rfl,ha,L.cl,L.nT,flds_things,_,rfl,td,_,rfl,hts.get htm,e.p,e.pc,rfl,hts.th e htm,hts.ok e htm,q⟩⟩
end
end My
namespace L2
open PySem PySem.Spec PyProof.Rows
theorem lay_led (t:SetTable) (es:Array (Int × Value)) (h:Int) (x:Value):(layNew t es h x).2.1.led = t.led:=by
 unfold layNew
 split
 ·unfold SetTable.orStandIn
  dsimp only
  split <;> rfl
 ·rfl
theorem laid_led {m f mv:Nat} {a b:Bool} {hs:Array Int} {t:SetTable} {o:Array Nat} (h:SetTable.laid m f mv a b hs = some (t,o)):t.led = a/\t.plain = b:=by
 unfold SetTable.laid at h
 cases e:SetTable.layClean m hs with
 | none=>rw [e] at h;cases h
 | some ow=>
  rw [e] at h
  injection h with h
  injection h with h1 h2
  rw [← h1]
  exact ⟨rfl,rfl⟩
theorem relay_led (t:SetTable) (es:Array (Int × Value)) (n:Nat):(relayAll t es n).2.1.led = t.led/\(t.plain = false->(relayAll t es n).2.1.plain = false):=by
 unfold relayAll
 split
 ·rename_i t' order e
  obtain ⟨e1,e2⟩:=laid_led e
  dsimp only
  split
  ·exact ⟨e1,fun q=>e2.trans q⟩
  ·exact ⟨rfl,fun _=>rfl⟩
 ·exact ⟨rfl,fun _=>rfl⟩
section
variable {P:Program} {w:World} {es:Array (Int × Value)} {t:SetTable} {zs:List Str}
end
section
variable {P:Program} {w:World} {A:Around} {E:Value->Shared->Prop} {s:Shared} {a:Addr}
end
end L2
namespace L2
open PySem PySem.Spec PyProof.Rows
section
variable {prog:Program} {w:World} {A:Around} {E:Value->Shared->Prop} {s:Shared}
theorem code_set_led (a:Value) {Q₁:Value->Shared->Prop}
  (h:Q₁ (.ref s.heap.objs.size) { s with heap:=s.heap.push { cls:=.type "set",dict:=none,data:=.set #[] 0 (.fresh 0 0 (!w.params.followText "set-order")) } }) :
  codeAny (model prog w) A (.call (.builtin "set.__new__") ⟨[.type "set",a],[]⟩) (wants Q₁ E) s:=by
 refine codeAny_of_tree ?_
 show wpAny _ A.in1 (do checkBuiltinCall "set.__new__" ⟨[.type "set",a],[]⟩;again (.builtin "set.__new__" ⟨[.type "set",a],[]⟩)) _ _ s
 refine wpAny_bind (wpAny_of_eq (F.newCall_set_1 a) (wpAny_pure ⟨plainId_quiet F.plain_set_new _,codeAny_builtin F.entry_set_new ?_⟩))
 rw [Around.under_plainId F.plain_set_new _]
 unfold Builtin.«set.__new__» Builtin.Frozenset.newClass
 have hsub:=sub_set_self
 obtain ⟨hp,g,d,tk,os⟩:=s
 dsimp only
 wp_walk
 refine wpAny_askSetting (wpAny_pure ?_)
 dsimp only
 simp only [newObj]
 refine wpAny_bind (wpAny_alloc (wpAny_pure ?_))
 exact wpAny_pure h
end
section
variable {P:Program} {w:World} {A:Around} {R:Result->Shared->Prop} {I:Addr} {fp wr:List Addr} {G:Array GenState->Array GenState->Prop} {n:Nat} {PV:Nat->Value->Prop} {St:Nat->Shared->Prop}
end
section
variable {P:Program} {w:World} {A:Around} {s:Shared} {E:Value->Shared->Prop}
end
section
variable {X:Cx}
end
end L2
namespace L2
open PySem PySem.Spec PyProof.Rows
theorem entry_set_it:entryFor table "set.__iter__" = some Builtin.«frozenset.__iter__»:=
 entryFor_alias (id':="frozenset.__iter__") (by kernel_rfl) rfl (by decide +kernel) (by kernel_rfl)
theorem slot_si_next:Slot "set_iterator" "__next__" "set_iterator.__next__":=
 .of (owner:="set_iterator") (n:="__next__") (by rw [typeLookup_type,builtinLookup_eq_fast];kernel_rfl) (by decide +kernel) (by decide +kernel) (by decide +kernel)
  (by first | exact .inl (by decide +kernel) | exact .inr (by decide +kernel)) (by rw [isSubtype_type];kernel_rfl)
theorem entry_si_next:entryFor table "set_iterator.__next__" = some Builtin.«set_iterator.__next__»:=entryFor_of_tree (by kernel_rfl)
theorem owner_si:Manifest.owners.lookup (String.ofList ['r','o','t','a','r','e','t','i','_','t','e','s'].reverse) = some Manifest.sig_set_iterator:=by kernel_rfl
theorem args_si_next (a:Value):argsOk "set_iterator.__next__" ⟨[a],[]⟩:=by
 unfold argsOk;rw [signature?_of (id:="set_iterator.__next__") (n:=['_','_','t','x','e','n','_','_']) (o:=['r','o','t','a','r','e','t','i','_','t','e','s']) (by kernel_rfl) owner_si];kernel_rfl
theorem erase_perm {α:Type}:∀ (l:List α) (i:Nat) (h:i < l.length),(l[i] :: l.eraseIdx i).Perm l
 | x :: l,0,_=>by simp
 | x :: l,i + 1,h=>by
  have h':i < l.length:=by simpa using h
  have:=erase_perm l i h'
  simp only [List.getElem_cons_succ,List.eraseIdx_cons_succ]
  exact (List.Perm.swap _ _ _).trans (List.Perm.cons _ this)
theorem pick_go {α:Type} (next:Nat->Nat):∀ (n k:Nat) (left:List α) (out:Array α),left.length = n->(pickOrder.go next n k left out).toList.Perm (out.toList ++ left):=by
 intro n
 induction n with
 | zero=>
  intro k left out h
  rw [List.length_eq_zero_iff] at h
  subst h
  unfold pickOrder.go
  simp
 | succ n ih=>
  intro k left out h
  have hl:next k % left.length < left.length:=Nat.mod_lt _ (by omega)
  unfold pickOrder.go
  rw [List.getElem?_eq_getElem hl]
  refine (ih _ _ _ (by rw [List.length_eraseIdx_of_lt hl];omega)).trans ?_
  rw [Array.toList_push,List.append_assoc]
  exact List.Perm.append_left _ (erase_perm _ _ hl)
theorem pick_perm {α:Type} (next:Nat->Nat) (xs:Array α):(pickOrder next xs).toList.Perm xs.toList:=by
 unfold pickOrder
 refine (pick_go next _ _ _ _ (by simp)).trans ?_
 simp
section
variable {M:Model} {A:Around} {E:Value->Shared->Prop}
theorem wp_choose {src:Source} {n:Nat} {Q:Nat->Shared->Prop} {s:Shared} (hn:n ≠ 0) (h:∀ i d,i < n->Q i { s with drawn:=d }):wpAny M A (choose src n) Q E s:=fun Γ p hΓ=>by
 unfold choose
 rw [Sem.wp_choose]
 exact ⟨hn,h _ _ (Nat.mod_lt _ (Nat.pos_of_ne_zero hn))⟩
theorem wp_draw {α:Type}:∀ (n:Nat) (xs:List α) (s:Shared) (Q:List α->Shared->Prop),xs.length = n->(∀ ys d,ys.Perm xs->Q ys { s with drawn:=d })->wpAny M A (drawOrder n xs) Q E s:=by
 intro n
 induction n with
 | zero=>
  intro xs s Q hl h
  rw [List.length_eq_zero_iff] at hl
  subst hl
  unfold drawOrder
  exact wpAny_pure (h [] s.drawn .nil)
 | succ n ih=>
  intro xs s Q hl h
  cases xs with
  | nil=>cases hl
  | cons x xs=>
   unfold drawOrder
   refine wpAny_bind (wp_choose (by simp) fun i d hi=>?_)
   rw [List.getElem?_eq_getElem hi]
   refine wpAny_bind (ih _ _ _ (by rw [List.length_eraseIdx_of_lt hi];simp only [List.length_cons] at hl ⊢;omega) fun ys d' hp=>?_)
   exact wpAny_pure (h _ d' ((List.Perm.cons _ hp).trans (erase_perm _ _ hi)))
end
def IsSI (h:Heap) (I:Addr) (f:Value) (i:Nat) (p:Addr) (n ep:Nat):Prop:=∃ o,h.get? I = some o/\o.cls = .type "set_iterator"/\o.data = .fields #[f,.int i 0,.ref p,.int n 0,.int ep 0]
section
variable {P:Program} {w:World} {A:Around} {E:Value->Shared->Prop} {s:Shared}
theorem next_world {p:Addr} {o:Obj} {es:Array (Int × Value)} {ep:Nat} {t:SetTable} {slot i:Nat} {Q:Option (Value × Nat)->Shared->Prop} (ho:s.heap.get? p = some o) (hd:o.data = .set es ep t) (hf:t.fits es.size = true) (hw:w.params.followText "set-order" = true)
  (h:Q (((pickOrder (w.params.setOrder p ep) es)[i]?).map fun e=>(e.2,slot)) s):wpAny (model P w) A (setNext p slot i ep) Q E s:=by
 unfold setNext
 refine wpAny_bind (wpAny_setState_of ho hd hf ?_)
 dsimp only
 unfold setsByText
 refine wpAny_bind (wpAny_bind (wpAny_askSetting (wpAny_pure ?_)))
 refine wpAny_ite_split (fun _=>?_) (fun q=>absurd hw q)
 rw [if_neg (by simp)]
 refine wpAny_bind ?_
 unfold setWalk
 refine wpAny_bind (wpAny_setState_of ho hd hf ?_)
 dsimp only
 unfold setsByText
 refine wpAny_bind (wpAny_bind (wpAny_askSetting (wpAny_pure ?_)))
 refine wpAny_ite_split (fun _=>?_) (fun q=>absurd hw q)
 refine wpAny_bind (wpAny_askSetting (wpAny_pure ?_))
 exact wpAny_pure h
theorem two_set {I p:Addr} {oi:Obj} {f x:Value} {i n ep:Nat} {v:Value} {R:Fin->Shared->Prop} (h1:s.heap.get? I = some oi) (h2:oi.cls = .type "set_iterator") (h3:oi.data = .fields #[f,.int i 0,.ref p,.int n 0,.int ep 0])
  (h:∀ h',IsSI h' I x (i + 1) p n ep->Heap.SameBut I s.heap h'->R (.done (.ret v)) { s with heap:=h' }) :
  wpAny (model P w) A (do setField (.ref I) 0 x;setField (.ref I) 1 (rawInt ((i:Int) + 1));ret v) R E s:=by
 refine wpAny_bind (wpAny_setField h1 h3 (by simp) ?_)
 have g1:=Heap.get?_update_self (Obj.mapFields (·.setIfInBounds 0 x)) h1 (Obj.isFreed_of_fields (Obj.data_mapFields h3 _))
 have d1:=Obj.data_mapFields h3 (·.setIfInBounds 0 x)
 refine wpAny_bind (wpAny_setField (s:={ s with heap:=s.heap.update I (Obj.mapFields (·.setIfInBounds 0 x)) }) g1 d1 (by simp) ?_)
 have g2:=Heap.get?_update_self (Obj.mapFields (·.setIfInBounds 1 (rawInt ((i:Int) + 1)))) g1 (Obj.isFreed_of_fields (Obj.data_mapFields d1 _))
 refine wpAny_pure (h _ ⟨_,g2,?_,?_⟩ ((Heap.SameBut.update ..).trans (Heap.SameBut.update ..)))
 ·rw [Obj.cls_mapFields,Obj.cls_mapFields];exact h2
 ·rw [Obj.data_mapFields d1];simp [rawInt]
end
end L2
namespace L2
open PySem PySem.Spec PyProof.Rows
theorem slot_si_iter:Slot "set_iterator" "__iter__" "set_iterator.__iter__":=
 .of (owner:="set_iterator") (n:="__iter__") (by rw [typeLookup_type,builtinLookup_eq_fast];kernel_rfl) (by decide +kernel) (by decide +kernel) (by decide +kernel)
  (by first | exact .inl (by decide +kernel) | exact .inr (by decide +kernel)) (by rw [isSubtype_type];kernel_rfl)
theorem entry_si_iter:entryFor table "set_iterator.__iter__" = some Builtin.«dict_keyiterator.__iter__»:=
 entryFor_alias (id':="dict_keyiterator.__iter__") (by kernel_rfl) rfl (by decide +kernel) (by kernel_rfl)
theorem args_si_iter (a:Value):argsOk "set_iterator.__iter__" ⟨[a],[]⟩:=by
 unfold argsOk;rw [signature?_of (id:="set_iterator.__iter__") (n:=['_','_','r','e','t','i','_','_']) (o:=['r','o','t','a','r','e','t','i','_','t','e','s']) (by kernel_rfl) owner_si];kernel_rfl
section
variable {P:Program} {w:World} {A:Around} {E:Value->Shared->Prop} {s:Shared}
theorem stop_tail {A₀:Around} {h₀:Heap} {I:Addr} {Q:Option Value->Shared->Prop} (hh:A.handled = none) (hx:Heap.ExtBut I h₀ s.heap) (hQ:∀ h',Heap.ExtBut I h₀ h'->Q none { s with heap:=h' }) :
  wpAny (model P w) A (newExc (.type "StopIteration") [] >>= fun e=>(raiseNew e:Sem Fin)) (fun fin s'=>∃ v,fin = Fin.done (Flow.ret v)/\wpAny (model P w) A₀ (pure (some v)) Q E s')
   (fun e s'=>wpAny (model P w) A₀ (do let b ← isInstance e (.type "StopIteration");if b = true then pure none else throw e) Q E s') s:=by
 refine wpAny_bind ?_
 simp only [newExc,newTuple]
 refine wpAny_bind (wpAny_newObj_type ?_ (by size_fits))
 refine wpAny_bind (m:=firstArgMember _ _) (wpAny_of_eq (a:=Value.none) (by first | rfl | (simp only [firstArgMember];rfl)) ?_)
 refine wpAny_newObj_type ?_ (by size_fits)
 simp only [raiseNew]
 refine wpAny_bind (wpAny_handled ?_)
 rw [hh]
 refine wpAny_bind (wpAny_pure (wpAny_throw ?_))
 refine wpAny_bind (wpAny_isInstance (T:="StopIteration") (b:=true) ⟨_,Heap.get?_push_size _ rfl,rfl⟩ isSubtype_stop ?_)
 exact wpAny_pure (hQ _ ((hx.push _).push _))
def StS (p I:Addr) (o:Obj) (es:Array (Int × Value)) (ep:Nat) (T:Option (Addr × List Nat)) (f:Nat->Value) (i:Nat) (h:Heap):Prop:=
 IsSI h I (f i) i p es.size ep/\h.get? p = some o/\∀ a ns,T = some (a,ns)->∃ ot,h.get? a = some ot/\ot.data = .seq (ns.map fun j=>rawInt (j:Nat)).toArray 0
theorem set_hint {p:Addr} {Q:Bool->Shared->Prop} (hT:s.TypeIs (.ref p) "set") (h:Q false s):wpAny (model P w) A (Builtin.List.listLengthHint (.ref p)) Q E s:=by
 unfold Builtin.List.listLengthHint
 refine wpAny_bind (wpAny_specialOf hT PySem.F.slot_set_len.lookup ?_)
 generalize hid:("set.__len__":String) = id0
 wp_delta
 rw [show splitId id0 = some ("set","__len__") from by subst hid;decide +kernel]
 subst hid
 refine wpAny_bind (wpAny_isInstance (T:="set") (b:=true) hT (by rw [isSubtype_type];kernel_rfl) ?_)
 refine wpAny_ite_split (fun hab=>absurd hab (by decide)) (fun _=>?_)
 refine wpAny_ite_split (fun _=>?_) (fun hab=>absurd (by decide +kernel) hab)
 refine wpAny_bind (wpAny_typeOf hT ?_)
 exact wpAny_pure h
end
theorem Inv.draw {X:Cx} {pins:List (Addr × Obj)} {σ:St} {H:Hp} {s:Shared} {d:Drawn} (I:Inv X pins σ H s):Inv X pins σ H { s with drawn:=d }:=⟨I.ok,I.os,I.bare,I.base,I.loc,I.cell,I.free,I.freeC,I.pin,I.hok,I.len⟩
section
variable {X:Cx}
end
end L2
namespace L2
open PySem PySem.Spec PyProof.Rows
abbrev Up (xs:Array Nat):Prop:=xs.toList.Pairwise (· < ·)
theorem Up.get {xs:Array Nat} (h:Up xs) {a b:Nat} (hb:b < xs.size) (hab:a < b):xs[a]'(by omega) < xs[b]:=by
 have:=List.pairwise_iff_getElem.mp h a b (by rw [Array.length_toList];omega) (by rw [Array.length_toList];exact hb) hab
 simpa using this
theorem below_go {xs:Array Nat} {j:Nat} (hp:Up xs):∀ (fuel lo hi:Nat),hi - lo ≤ fuel->lo ≤ hi->hi ≤ xs.size->(∀ i (h:i < xs.size),i < lo->xs[i] < j)->(∀ i (h:i < xs.size),hi ≤ i->j ≤ xs[i]) →
  SetTable.below.go xs j fuel lo hi ≤ hi/\(∀ i (h:i < xs.size),i < SetTable.below.go xs j fuel lo hi->xs[i] < j)/\(∀ i (h:i < xs.size),SetTable.below.go xs j fuel lo hi ≤ i->j ≤ xs[i]):=by
 intro fuel
 induction fuel with
 | zero=>
  intro lo hi hf hl hs h1 h2
  unfold SetTable.below.go
  exact ⟨hl,h1,fun i h hi'=>h2 i h (by omega)⟩
 | succ fuel ih=>
  intro lo hi hf hl hs h1 h2
  unfold SetTable.below.go
  by_cases c:lo < hi
  ·rw [if_pos c]
   dsimp only
   have hm:(lo + hi) / 2 < hi:=by omega
   have hms:(lo + hi) / 2 < xs.size:=by omega
   have eg:xs.getD ((lo + hi) / 2) j = xs[(lo + hi) / 2]:=by simp [Array.getD,hms]
   rw [eg]
   by_cases c2:xs[(lo + hi) / 2] < j
   ·rw [if_pos c2]
    refine ih _ _ (by omega) (by omega) hs (fun i h hi'=>?_) h2
    by_cases e:i = (lo + hi) / 2
    ·subst e;exact c2
    ·exact Nat.lt_trans (hp.get hms (by omega)) c2
   ·rw [if_neg c2]
    have hh:∀ i (h:i < xs.size),(lo + hi) / 2 ≤ i->j ≤ xs[i]:=fun i h hi'=>by
     by_cases e:i = (lo + hi) / 2
     ·subst e;omega
     ·have:=hp.get h (show (lo + hi) / 2 < i by omega)
      omega
    obtain ⟨a,b,d⟩:=ih lo ((lo + hi) / 2) (by omega) (by omega) (by omega) h1 hh
    exact ⟨by omega,b,d⟩
  ·rw [if_neg c]
   exact ⟨hl,h1,fun i h hi'=>h2 i h (by omega)⟩
theorem below_spec {xs:Array Nat} (hp:Up xs) (j:Nat):SetTable.below xs j ≤ xs.size/\(∀ i (h:i < xs.size),i < SetTable.below xs j->xs[i] < j)/\(∀ i (h:i < xs.size),SetTable.below xs j ≤ i->j ≤ xs[i]):=by
 unfold SetTable.below
 exact below_go hp _ _ _ (by omega) (Nat.zero_le _) (Nat.le_refl _) (fun i h hi=>absurd hi (Nat.not_lt_zero _)) (fun i h hi=>absurd h (Nat.not_lt.mpr hi))
theorem below_next {xs:Array Nat} (hp:Up xs) {i:Nat} (h:i < xs.size):SetTable.below xs (xs[i] + 1) = i + 1:=by
 obtain ⟨a,b,c⟩:=below_spec hp (xs[i] + 1)
 rcases Nat.lt_trichotomy (SetTable.below xs (xs[i] + 1)) (i + 1) with q | q | q
 ·have:=c i h (by omega)
  omega
 ·exact q
 ·have h1:=b (i + 1) (by omega) q
  have h2:=hp.get (show i + 1 < xs.size by omega) (Nat.lt_succ_self i)
  omega
theorem below_zero {xs:Array Nat} (hp:Up xs):SetTable.below xs 0 = 0:=by
 obtain ⟨a,b,c⟩:=below_spec hp 0
 rcases Nat.eq_zero_or_pos (SetTable.below xs 0) with q | q
 ·exact q
 ·have:=b 0 (by omega) q
  omega
theorem insert_list {α:Type} (xs:Array α) (p:Nat) (x:α):(SetTable.insertAt xs p x).toList = xs.toList.take p ++ x :: xs.toList.drop p:=by
 unfold SetTable.insertAt
 simp [List.drop_take,List.take_of_length_le]
theorem insert_up {xs:Array Nat} (hp:Up xs) {j:Nat} (hn:¬ xs[SetTable.below xs j]? = some j):Up (SetTable.insertAt xs (SetTable.below xs j) j):=by
 obtain ⟨a,b,c⟩:=below_spec hp j
 unfold Up
 rw [insert_list,List.pairwise_append]
 refine ⟨hp.sublist (List.take_sublist _ _),List.pairwise_cons.mpr ⟨fun y hy=>?_,hp.sublist (List.drop_sublist _ _)⟩,fun x hx y hy=>?_⟩
 ·obtain ⟨i,hi,rfl⟩:=List.mem_drop_iff_getElem.mp hy
  rw [Array.length_toList,Nat.add_comm] at hi
  have h1:=c (SetTable.below xs j + i) hi (Nat.le_add_right _ _)
  show _ < xs.toList[_]
  simp only [Array.getElem_toList,Nat.add_comm i]
  refine Nat.lt_of_le_of_ne h1 fun q=>?_
  by_cases z:i = 0
  ·subst z
   exact hn (by rw [Array.getElem?_eq_getElem (show SetTable.below xs j < xs.size by omega)];exact congrArg some q.symm)
  ·have h2:=c (SetTable.below xs j) (by omega) (Nat.le_refl _)
   have h3:=hp.get hi (show SetTable.below xs j < SetTable.below xs j + i by omega)
   omega
 ·obtain ⟨i,hi,rfl⟩:=List.mem_take_iff_getElem.mp hx
  rw [Array.length_toList] at hi
  have h1:=b i (by omega) (by omega)
  have e:xs.toList[i]'(by rw [Array.length_toList];omega) = xs[i]'(by omega):=by simp
  rw [e]
  rcases List.mem_cons.mp hy with rfl | hy
  ·exact h1
  ·obtain ⟨k,hk,rfl⟩:=List.mem_drop_iff_getElem.mp hy
   rw [Array.length_toList,Nat.add_comm] at hk
   have h2:=c (SetTable.below xs j + k) hk (Nat.le_add_right _ _)
   simp only [Array.getElem_toList,Nat.add_comm k]
   omega
theorem probe_go {t:SetTable} {hf:Nat->Int} {h:Int}:∀ (fuel:Nat) (p:SetTable.Probe) (j:Nat) (d:Option Nat),(∀ x,p.dummy = some x->¬ t.place[SetTable.below t.place x]? = some x)->SetTable.probe.go t hf h fuel p = some (.empty j d)->¬ t.place[SetTable.below t.place j]? = some j/\∀ x,d = some x->¬ t.place[SetTable.below t.place x]? = some x:=by
 intro fuel
 induction fuel with
 | zero=>intro p j d _ e;unfold SetTable.probe.go at e;cases e
 | succ fuel ih=>
  intro p j d hd e
  unfold SetTable.probe.go at e
  have adv:∀ q:SetTable.Probe,(t.advance q).dummy = q.dummy:=fun q=>by
   unfold SetTable.advance
   split <;> rfl
  have live:∀ x,¬ (∃ i,t.slot x = .live i)->¬ t.place[SetTable.below t.place x]? = some x:=fun x hx q=>by
   refine hx ⟨SetTable.below t.place x,?_⟩
   unfold SetTable.slot
   dsimp only
   rw [if_pos (by rw [q];simp)]
  split at e
  ·rename_i q
   injection e with e
   injection e with e1 e2
   subst e1 e2
   exact ⟨live _ (fun ⟨i,z⟩=>by rw [q] at z;cases z),hd⟩
  ·rename_i q
   refine ih _ j d (fun x hx=>?_) e
   rw [adv] at hx
   injection hx with hx
   subst hx
   exact live _ fun ⟨i,z⟩=>by rw [q] at z;cases z
  ·split at e
   ·cases e
   ·exact ih _ j d (fun x hx=>hd x (by rw [adv] at hx;exact hx)) e
theorem range_up (n:Nat):Up (Array.range n):=by
 unfold Up
 rw [Array.toList_range]
 exact List.pairwise_lt_range
theorem lay_up {t:SetTable} {es:Array (Int × Value)} {h:Int} {x:Value} (hp:Up t.place):Up (layNew t es h x).2.1.place:=by
 unfold layNew
 split
 ·rename_i slot wd e
  dsimp only
  have hn:¬ t.place[SetTable.below t.place slot]? = some slot:=by
   unfold SetTable.freeSlot at e
   split at e
   ·rename_i j d e2
    injection e with e
    injection e with e3 e4
    unfold SetTable.probe at e2
    obtain ⟨h1,h2⟩:=probe_go _ _ _ _ (fun x hx=>by unfold SetTable.probeStart at hx;cases hx) e2
    cases d with
    | none=>rw [← e3];exact h1
    | some y=>rw [← e3];exact h2 y rfl
   ·cases e
  unfold SetTable.orStandIn
  split
  ·exact insert_up hp hn
  ·exact range_up _
 ·exact range_up _
theorem live_up {β:Type} (f:Nat->Option β):∀ l:List Nat,l.Pairwise (· < ·)->((l.filterMap fun j=>(f j).map fun b=>(j,b)).map (·.1)).Pairwise (· < ·):=by
 intro l hl
 have sub:((l.filterMap fun j=>(f j).map fun b=>(j,b)).map (·.1)).Sublist l:=by
  clear hl
  induction l with
  | nil=>exact List.Sublist.refl _
  | cons a r ih=>
   rw [List.filterMap_cons]
   cases f a with
   | none=>exact ih.cons _
   | some b=>exact ih.cons₂ _
 exact hl.sublist sub
theorem laid_up {m f mv:Nat} {a b:Bool} {hs:Array Int} {t:SetTable} {o:Array Nat} (h:SetTable.laid m f mv a b hs = some (t,o)):Up t.place:=by
 unfold SetTable.laid at h
 cases e:SetTable.layClean m hs with
 | none=>rw [e] at h;cases h
 | some ow=>
  rw [e] at h
  injection h with h
  injection h with h1 h2
  rw [← h1]
  unfold Up
  exact live_up _ _ List.pairwise_lt_range
theorem relay_up (t:SetTable) (es:Array (Int × Value)) (n:Nat):Up (relayAll t es n).2.1.place:=by
 unfold relayAll
 split
 ·rename_i t' order e
  dsimp only
  split
  ·exact laid_up e
  ·exact range_up _
 ·exact range_up _
end L2
namespace L2
open PySem PySem.Spec PyProof.Rows
def inE:Int × Value->Int
 | (_,.int z _)=>z
 | _=>0
structure SetI (P:Program) (w:World) (es:Array (Int × Value)) (t:SetTable) (zs:List Int):Prop where
 el:ElemsOf (mixKind P w) es.toList
 tx:∀ e ∈ es.toList,∃ z k,e.2 = .int z k
 pm:(es.toList.map inE).Perm zs
 nd:zs.Nodup
 bd:es.size < scanBound
 ft:t.fits es.size = true
 ld:w.params.followText "set-order" = false->t.led = true
 rs:Up t.place
def setI (P:Program) (w:World) (p:Addr) (zs:List Int) (h:Heap):Prop:=∃ o es ep t,h.get? p = some o/\o.ExactSet/\o.data = .set es ep t/\SetI P w es t zs
section
variable {P:Program} {w:World} {es:Array (Int × Value)} {t:SetTable} {zs:List Int}
theorem SetI.size (h:SetI P w es t zs):es.size = zs.length:=by
 rw [← h.pm.length_eq,List.length_map,Array.length_toList]
theorem SetI.mem (h:SetI P w es t zs) {z:Int}:z ∈ zs ↔ ∃ e ∈ es.toList,(mixKind P w).is (.inl z) e.2 = true:=by
 rw [← h.pm.mem_iff,List.mem_map]
 constructor
 ·rintro ⟨e,he,rfl⟩
  obtain ⟨z,k,q⟩:=h.tx e he
  refine ⟨e,he,?_⟩
  obtain ⟨i,v⟩:=e
  simp only at q
  subst q
  exact keyIs_int z k
 ·rintro ⟨e,he,hk⟩
  refine ⟨e,he,?_⟩
  obtain ⟨i,v⟩:=e
  have hk':keyIs (.inl z) v = true:=hk
  rcases keyIs_shape hk' with ⟨x,k,q,e2⟩ | ⟨_,_,q,_⟩
  ·subst e2
   injection q with q
   exact q.symm
  ·cases q
theorem SetI.of (h:SetI P w es t zs):∀ k:Key,((zs.map Sum.inl).any fun x=>decide (x = k)) = true ↔ ∃ e ∈ es.toList,(mixKind P w).is k e.2 = true:=by
 intro k
 rw [List.any_eq_true]
 constructor
 ·rintro ⟨x,hx,e⟩
  rw [decide_eq_true_iff] at e
  subst e
  obtain ⟨z,hz,rfl⟩:=List.mem_map.mp hx
  exact h.mem.mp hz
 ·rintro ⟨e,he,hk⟩
  have hk':keyIs k e.2 = true:=hk
  rcases keyIs_shape hk' with ⟨x,t,rfl,q⟩ | ⟨i,t,rfl,q⟩
  ·exact ⟨.inl x,List.mem_map_of_mem (h.mem.mpr ⟨e,he,hk⟩),decide_eq_true rfl⟩
  ·obtain ⟨z,k,q'⟩:=h.tx e he
   rw [q'] at q
   cases q
end
theorem setI.keep {P:Program} {w:World} {p:Addr} {zs:List Int} {h h':Heap} (x:setI P w p zs h) (k:∀ o,h.get? p = some o->h'.get? p = some o):setI P w p zs h':=by
 obtain ⟨o,es,ep,t,h1,r⟩:=x
 exact ⟨o,es,ep,t,k _ h1,r⟩
theorem setI_ok {P:Program} {w:World} {H:Hp} {h:Heap} {p:Addr} {zs:List Int} (e:setI P w p zs h):ObjOk P w H h p (.ext (setI P w p zs)):=by
 refine ⟨e,?_,fun h1 h2 x k=>x.keep k⟩
 obtain ⟨o,es,ep,t,ho,_⟩:=e
 exact ⟨o,ho⟩
def addI (zs:List Int) (z:Int):List Int:=if z ∈ zs then zs else zs ++ [z]
section
variable {P:Program} {w:World} {A:Around} {E:Value->Shared->Prop} {s:Shared} {a:Addr}
theorem add_tailI {g:Bool->Sem Unit} (hg:∀ (b:Bool) (s₁:Shared) (Q':Unit->Shared->Prop),Q' () s₁->wpAny (model P w) A (g b) Q' E s₁)
  {o:Obj} {es:Array (Int × Value)} {ep:Nat} {t:SetTable} (ho:s.heap.get? a = some o) (hex:o.ExactSet) (hd:o.data = .set es ep t)
  {es1:Array (Int × Value)} {t2:SetTable} {zs:List Int} (T:SetI P w es1 t2 zs) {wasDummy:Bool} {R:Option Bool->Shared->Prop}
  (h:∀ h',Heap.SameBut a s.heap h'->setI P w a zs h'->R (some true) { s with heap:=h' }) :
  wpAny (model P w) A (do
    storeSet a es1 t2
    if (!wasDummy && t2.tooFull) = true then do
      g (relayAll t2 es1 (SetTable.grown es1.size)).2.2
      storeSet a (relayAll t2 es1 (SetTable.grown es1.size)).1 (relayAll t2 es1 (SetTable.grown es1.size)).2.1
      pure (some true)
     else pure (some true)) R E s:=by
 refine wpAny_bind (wpAny_storeSet_of ho hd ?_ (fits_of_scanBound T.bd))
 obtain ⟨ho1,_⟩:=SetOf_store (knd:=mixKind P w) ho hex hd T.el T.of T.bd T.ft
 have hsb1:=Heap.SameBut.update s.heap a (Obj.putSet es1 t2)
 split
 ·have hp:=relayAll_perm t2 es1 (SetTable.grown es1.size)
  have hfr:=relayAll_fits t2 es1 (SetTable.grown es1.size)
  have hle:=relay_led t2 es1 (SetTable.grown es1.size)
  have hup:=relay_up t2 es1 (SetTable.grown es1.size)
  generalize hRl:relayAll t2 es1 (SetTable.grown es1.size) = Rl at hp hfr hle hup ⊢
  obtain ⟨es2,t3,gave2⟩:=Rl
  dsimp only at hp hfr hle hup ⊢
  have hsz:es2.size = es1.size:=by rw [← Array.length_toList,hp.length_eq,Array.length_toList]
  have T2:SetI P w es2 t3 zs:=⟨T.el.perm hp,fun e he=>T.tx e (hp.mem_iff.mp he),(hp.map _).trans T.pm,T.nd,by rw [hsz];exact T.bd,hfr,fun q=>hle.1.trans (T.ld q),hup⟩
  refine wpAny_bind (hg _ _ _ ?_)
  refine wpAny_bind (wpAny_storeSet_of ho1 rfl ?_ (fits_of_scanBound T2.bd))
  obtain ⟨ho2,_⟩:=SetOf_store (knd:=mixKind P w) ho1 hex rfl T2.el T2.of T2.bd T2.ft
  exact wpAny_pure (h _ (hsb1.trans (Heap.SameBut.update _ a _)) ⟨_,_,_,_,ho2,hex,rfl,T2⟩)
 ·exact wpAny_pure (h _ hsb1 ⟨_,_,_,_,ho1,hex,rfl,T⟩)
theorem add_int {z:Int} {tk:Tok} {zs:List Int} {Q:Bool->Shared->Prop} (hS:setI P w a zs s.heap) (hroom:zs.length + 1 < scanBound)
  (h:∀ b h',Heap.SameBut a s.heap h'->setI P w a (addI zs z) h'->Q b { s with heap:=h' }) :
  wpAny (model P w) A (setAddHashed a (.int z tk) ((mixKind P w).hash (.inl z))) Q E s:=by
 obtain ⟨o,es,ep,t,ho,hex,hd,T⟩:=hS
 have hkey:(mixKind P w).is (.inl z) (.int z tk) = true:=keyIs_int z tk
 have hb1:es.size + 1 < scanBound:=by rw [T.size];exact hroom
 unfold setAddHashed setAddHashedIn
 refine wpAny_holding (wpAny_bind (wpAny_setState_of ho hd T.ft ?_))
 dsimp only
 rw [byScan_of rfl T.bd T.el]
 simp only [↓reduceIte]
 unfold setAddByScan
 refine wpAny_bind ?_
 refine wpAny_bind (wpAny_rule ?_)
 refine wpAny_bind (wpAny_setScan_of hkey ho hd T.ft T.el ?_)
 cases hr:List.findIdx? (fun e=>(mixKind P w).is (.inl z) e.2) es.toList with
 | some j=>
  dsimp only
  obtain ⟨hj,hpj,_⟩:=List.findIdx?_eq_some_iff_getElem.mp hr
  have hz:z ∈ zs:=T.mem.mpr ⟨es.toList[j],List.getElem_mem hj,hpj⟩
  refine wpAny_pure (wpAny_pure ?_)
  have e:s = { s with heap:=s.heap }:=by cases s;rfl
  rw [e]
  refine h _ s.heap (Heap.SameBut.refl a s.heap) ?_
  unfold addI
  rw [if_pos hz]
  exact ⟨o,es,ep,t,ho,hex,hd,T⟩
 | none=>
  dsimp only
  have hz:z ∉ zs:=fun q=>by
   obtain ⟨e,he,hp⟩:=T.mem.mp q
   have:=List.findIdx?_eq_none_iff.mp hr e he
   rw [hp] at this
   exact Bool.noConfusion this
  have hgw:∀ (b:Bool) {s₁:Shared} {Q':Unit->Shared->Prop},Q' () s₁->wpAny (model P w) A (match b with | true=>rule "set.scan.the-table-gave-way" | false=>pure ()) Q' E s₁:=
   fun b s₁ Q' hq=>by cases b <;> first | exact wpAny_pure hq | exact wpAny_rule hq
  have hperm:=layNew_perm t es ((mixKind P w).hash (.inl z)) (.int z tk)
  have hfits:=layNew_fits t es ((mixKind P w).hash (.inl z)) (.int z tk)
  have hled:=lay_led t es ((mixKind P w).hash (.inl z)) (.int z tk)
  have hup:=lay_up (es:=es) (h:=(mixKind P w).hash (.inl z)) (x:=.int z tk) T.rs
  generalize hL:layNew t es ((mixKind P w).hash (.inl z)) (.int z tk) = L at hperm hfits hled hup ⊢
  obtain ⟨es1,t1,wasDummy,gave⟩:=L
  dsimp only at hperm hfits hled hup ⊢
  rw [Array.toList_push] at hperm
  have hb1':es1.size < scanBound:=by rw [← Array.length_toList,hperm.length_eq,List.length_append,Array.length_toList];simpa using hb1
  have ea:addI zs z = zs ++ [z]:=if_neg hz
  have T1:SetI P w es1 t1 (addI zs z):=by
   refine ⟨(T.el.push hkey rfl).perm hperm,fun e he=>?_,?_,?_,hb1',hfits,fun q=>hled.trans (T.ld q),hup⟩
   ·rcases List.mem_append.mp (hperm.mem_iff.mp he) with he | he
    ·exact T.tx e he
    ·rw [List.mem_singleton] at he;subst he;exact ⟨z,tk,rfl⟩
   ·rw [ea]
    refine (hperm.map _).trans ?_
    rw [List.map_append]
    exact T.pm.append_right _
   ·rw [ea,List.nodup_append]
    exact ⟨T.nd,by simp,fun x hx y hy=>by rw [List.mem_singleton] at hy;subst hy;exact fun q=>hz (q ▸ hx)⟩
  refine wpAny_bind (hgw _ ?_)
  split
  ·refine wpAny_bind (wpAny_of_eq (a:=true) (by unfold hashByValue;rfl) ?_)
   simp only [↓reduceIte]
   refine add_tailI ?_ ho hex hd T1 ?_
   ·intro b s₁ Q' hq;cases b <;> first | exact wpAny_pure hq | exact wpAny_rule hq
   ·intro h' hsb hS';dsimp only;exact wpAny_pure (h _ h' hsb hS')
  ·refine wpAny_bind (wpAny_pure ?_)
   simp only [↓reduceIte]
   refine add_tailI ?_ ho hex hd T1 ?_
   ·intro b s₁ Q' hq;cases b <;> first | exact wpAny_pure hq | exact wpAny_rule hq
   ·intro h' hsb hS';dsimp only;exact wpAny_pure (h _ h' hsb hS')
end
end L2
namespace L2
open PySem PySem.Spec PyProof.Rows
def slotAt (t:SetTable):Nat->Nat
 | 0=>0
 | i + 1=>t.place.getD i 0 + 1
theorem slot_at {t:SetTable} (hu:Up t.place) {i:Nat} (h:i ≤ t.place.size):SetTable.below t.place (slotAt t i) = i:=by
 cases i with
 | zero=>exact below_zero hu
 | succ i=>
  show SetTable.below t.place (t.place.getD i 0 + 1) = i + 1
  have hi:i < t.place.size:=by omega
  have e:t.place.getD i 0 = t.place[i]:=by simp [Array.getD,hi]
  rw [e]
  exact below_next hu hi
inductive WayI (w:World) (p:Addr) (es:Array (Int × Value)) (ep:Nat) (t:SetTable):Option (Addr × List Nat)->(Nat->Value)->List Value->Prop
 | world:w.params.followText "set-order" = true->WayI w p es ep t none (fun _=>.int 0 0) ((pickOrder (w.params.setOrder p ep) es).toList.map (·.2))
 | drawn (T:Addr) (ns:List Nat):ns.Perm (List.range es.size)->WayI w p es ep t (some (T,ns)) (fun _=>.ref T) (ns.map fun j=>(es.getD j (0,.none)).2)
 | slots:w.params.followText "set-order" = false->t.led = true->(!t.plain && decide (es.size > 1)) = false->Up t.place->t.place.size = es.size->WayI w p es ep t none (fun i=>.int (slotAt t i:Nat) 0) (es.toList.map (·.2))
theorem WayI.perm {w:World} {p:Addr} {es:Array (Int × Value)} {ep:Nat} {t:SetTable} {T:Option (Addr × List Nat)} {f:Nat->Value} {ord:List Value} (h:WayI w p es ep t T f ord):ord.Perm (es.toList.map (·.2)):=by
 cases h with
 | world _=>exact (pick_perm _ _).map _
 | drawn T ns hp=>
  refine (hp.map _).trans (List.Perm.of_eq ?_)
  refine List.ext_getElem (by simp) fun i h1 h2=>?_
  have:i < es.size:=by simpa using h1
  simp [Array.getD,this]
 | slots _ _ _ _ _=>exact .refl _
section
variable {P:Program} {w:World} {A:Around} {E:Value->Shared->Prop} {s:Shared}
theorem next_slots {p:Addr} {o:Obj} {es:Array (Int × Value)} {ep:Nat} {t:SetTable} {slot i:Nat} {Q:Option (Value × Nat)->Shared->Prop} (ho:s.heap.get? p = some o) (hd:o.data = .set es ep t) (hf:t.fits es.size = true) (hw:w.params.followText "set-order" = false) (hl:t.led = true) (hz:(!t.plain && decide (es.size > 1)) = false)
  (h:Q (match es[SetTable.below t.place slot]?,t.place[SetTable.below t.place slot]? with | some (_,x),some j=>some (x,j + 1) | _,_=>none) s):wpAny (model P w) A (setNext p slot i ep) Q E s:=by
 unfold setNext
 refine wpAny_bind (wpAny_setState_of ho hd hf ?_)
 dsimp only
 unfold setsByText
 refine wpAny_bind (wpAny_bind (wpAny_askSetting (wpAny_pure ?_)))
 refine wpAny_ite_split (fun q=>absurd (hw.symm.trans q) Bool.false_ne_true) fun _=>?_
 refine wpAny_ite_split (fun q=>?_) fun _=>?_
 ·exfalso
  have q':(!t.plain && decide (es.size > 1)) = true:=q
  rw [hz] at q'
  cases q'
 ·refine wpAny_bind ?_
  refine wpAny_ite_split (fun q=>?_) fun _=>?_
  ·rw [hl] at q
   simp at q
  ·exact wpAny_pure (wpAny_pure h)
theorem si_itemI {I p:Addr} {o:Obj} {es:Array (Int × Value)} {ep:Nat} {t:SetTable} {T:Option (Addr × List Nat)} {f:Nat->Value} {ord:List Value} {i:Nat} {v:Value} {Q:Option Value->Shared->Prop} (hit:IsSI s.heap I (f i) i p es.size ep) (ho:s.heap.get? p = some o) (hd:o.data = .set es ep t) (hf:t.fits es.size = true) (W:WayI w p es ep t T f ord) (hT:∀ a ns,T = some (a,ns)->∃ ot,s.heap.get? a = some ot/\ot.data = .seq (ns.map fun j=>rawInt (j:Nat)).toArray 0) (hv:ord[i]? = some v)
  (hQ:∀ h',IsSI h' I (f (i + 1)) (i + 1) p es.size ep->Heap.SameBut I s.heap h'->Q (some v) { s with heap:=h' }):wpAny (model P w) A (pyNext (.ref I)) Q E s:=by
 obtain ⟨oi,h1,h2,h3⟩:=hit
 have hTy:s.TypeIs (.ref I) "set_iterator":=⟨oi,h1,h2⟩
 unfold pyNext
 refine wpAny_bind (wpAny_attempt (wpAny_callSpecial?_slot (name:=Str.ofString "__next__") hTy slot_si_next (wpAny_call_entry slot_si_next hTy entry_si_next ?_ (args_si_next _))))
 unfold Builtin.«set_iterator.__next__»
 refine wpAny_bind (wpAny_pure ?_)
 refine wpAny_bind (wpAny_fieldsOf h1 h3 ?_)
 dsimp only
 refine wpAny_bind (wpAny_setEntries_of ho hd hf ?_)
 rw [if_neg (by simp)]
 cases W with
 | world hw=>
  dsimp only
  simp only [Int.toNat_natCast,Int.toNat_zero]
  refine wpAny_bind (next_world ho hd hf hw ?_)
  rw [List.getElem?_map] at hv
  obtain ⟨e,he,rfl⟩:=Option.map_eq_some_iff.mp hv
  rw [Array.getElem?_toList] at he
  rw [he]
  dsimp only [Option.map]
  exact two_set h1 h2 h3 fun h' a b=>⟨_,rfl,wpAny_pure (hQ h' a b)⟩
 | drawn T ns hp=>
  dsimp only
  obtain ⟨ot,t1,t2⟩:=hT T ns rfl
  refine wpAny_bind (wpAny_seqItems t1 t2 ?_)
  rw [List.getElem?_map] at hv
  obtain ⟨j,hj,rfl⟩:=Option.map_eq_some_iff.mp hv
  simp only [Int.toNat_natCast]
  have e1:(ns.map fun j=>rawInt (j:Nat)).toArray[i]? = some (rawInt (j:Nat)):=by simp [hj]
  rw [e1]
  have hjs:j < es.size:=by
   have:=hp.mem_iff.mp (List.mem_of_getElem? hj)
   simpa using this
  dsimp only [rawInt]
  refine wpAny_bind ?_
  unfold setNextDrawn
  refine wpAny_bind (wpAny_setState_of ho hd hf ?_)
  dsimp only
  rw [if_neg (by simp),Int.toNat_natCast,Array.getElem?_eq_getElem hjs]
  dsimp only
  refine wpAny_pure (wpAny_bind (wpAny_setField h1 h3 (by simp) (wpAny_pure ⟨_,rfl,wpAny_pure ?_⟩)))
  have ev:(es.getD j (0,Value.none)).2 = es[j].2:=by simp [Array.getD,hjs]
  rw [← ev]
  exact hQ _ ⟨_,Heap.get?_update_self _ h1 (Obj.isFreed_of_fields (Obj.data_mapFields h3 _)),(Obj.cls_mapFields ..).trans h2,by rw [Obj.data_mapFields h3];simp [rawInt]⟩ (Heap.SameBut.update ..)
 | slots a b c d sz=>
  dsimp only
  have hi:i < es.size:=by
   have:=(List.getElem?_eq_some_iff.mp hv).1
   simpa using this
  simp only [Int.toNat_natCast]
  refine wpAny_bind (next_slots ho hd hf a b c ?_)
  rw [slot_at d (by omega)]
  have e1:es[i]? = some es[i]:=Array.getElem?_eq_getElem hi
  have e2:t.place[i]? = some (t.place[i]'(by omega)):=Array.getElem?_eq_getElem _
  rw [e1,e2]
  have ev:es[i].2 = v:=by
   rw [List.getElem?_map,Array.getElem?_toList,e1] at hv
   injection hv
  have es1:t.place[i]'(by omega) + 1 = slotAt t (i + 1):=by
   show _ = t.place.getD i 0 + 1
   simp [Array.getD,show i < t.place.size by omega]
  obtain ⟨hh,x⟩:∃ q,es[i] = q:=⟨_,rfl⟩
  dsimp only
  rw [ev,es1]
  exact two_set h1 h2 h3 fun h' a b=>⟨_,rfl,wpAny_pure (hQ h' a b)⟩
theorem si_endI {I p:Addr} {o:Obj} {es:Array (Int × Value)} {ep:Nat} {t:SetTable} {T:Option (Addr × List Nat)} {f:Nat->Value} {ord:List Value} {i:Nat} {Q:Option Value->Shared->Prop} (hh:A.handled = none) (hit:IsSI s.heap I (f i) i p es.size ep) (ho:s.heap.get? p = some o) (hd:o.data = .set es ep t) (hf:t.fits es.size = true) (W:WayI w p es ep t T f ord) (hT:∀ a ns,T = some (a,ns)->∃ ot,s.heap.get? a = some ot/\ot.data = .seq (ns.map fun j=>rawInt (j:Nat)).toArray 0) (hv:i = ord.length)
  (hQ:∀ h',Heap.ExtBut I s.heap h'->Q none { s with heap:=h' }):wpAny (model P w) A (pyNext (.ref I)) Q E s:=by
 obtain ⟨oi,h1,h2,h3⟩:=hit
 have hTy:s.TypeIs (.ref I) "set_iterator":=⟨oi,h1,h2⟩
 have hh':A.in1.handled = none:=hh
 unfold pyNext
 refine wpAny_bind (wpAny_attempt (wpAny_callSpecial?_slot (name:=Str.ofString "__next__") hTy slot_si_next (wpAny_call_entry slot_si_next hTy entry_si_next ?_ (args_si_next _))))
 unfold Builtin.«set_iterator.__next__»
 refine wpAny_bind (wpAny_pure ?_)
 refine wpAny_bind (wpAny_fieldsOf h1 h3 ?_)
 dsimp only
 refine wpAny_bind (wpAny_setEntries_of ho hd hf ?_)
 rw [if_neg (by simp)]
 cases W with
 | world hw=>
  dsimp only
  simp only [Int.toNat_natCast,Int.toNat_zero]
  refine wpAny_bind (next_world ho hd hf hw ?_)
  have e0:(pickOrder (w.params.setOrder p ep) es)[i]? = none:=by
   rw [hv,List.length_map,Array.length_toList]
   simp
  rw [e0]
  dsimp only [Option.map]
  exact wpAny_bind (wpAny_setField h1 h3 (by simp) (stop_tail hh' (Heap.SameBut.update ..).extBut hQ))
 | drawn T ns hp=>
  dsimp only
  obtain ⟨ot,t1,t2⟩:=hT T ns rfl
  refine wpAny_bind (wpAny_seqItems t1 t2 ?_)
  simp only [Int.toNat_natCast]
  have e1:(ns.map fun j=>rawInt (j:Nat)).toArray[i]? = none:=by rw [hv];simp
  rw [e1]
  dsimp only
  refine wpAny_bind (wpAny_setField h1 h3 (by simp) ?_)
  have g1:=Heap.get?_update_self (Obj.mapFields (·.setIfInBounds 0 (rawInt 0))) h1 (Obj.isFreed_of_fields (Obj.data_mapFields h3 _))
  have d1:=Obj.data_mapFields h3 (·.setIfInBounds 0 (rawInt 0))
  exact wpAny_bind (wpAny_setField (s:={ s with heap:=s.heap.update I (Obj.mapFields (·.setIfInBounds 0 (rawInt 0))) }) g1 d1 (by simp) (stop_tail hh' ((Heap.SameBut.update ..).trans (Heap.SameBut.update ..)).extBut hQ))
 | slots a b c d sz=>
  dsimp only
  simp only [Int.toNat_natCast]
  refine wpAny_bind (next_slots ho hd hf a b c ?_)
  have hi:i = es.size:=by rw [hv];simp
  rw [slot_at d (by omega),hi]
  have e0:es[es.size]? = none:=by simp
  rw [e0]
  dsimp only
  exact wpAny_bind (wpAny_setField h1 h3 (by simp) (stop_tail hh' (Heap.SameBut.update ..).extBut hQ))
theorem walks_setI {I p:Addr} {o:Obj} {es:Array (Int × Value)} {ep:Nat} {t:SetTable} {T:Option (Addr × List Nat)} {f:Nat->Value} {ord:List Value} {ts:List Addr} (hh:A.handled = none) (hd:o.data = .set es ep t) (hf:t.fits es.size = true) (W:WayI w p es ep t T f ord) (hpI:p ≠ I) (ht:∀ a ns,T = some (a,ns)->a ∈ ts/\a ≠ I) :
  Walks P w A I (I :: p :: ts) [I] ord.length (fun i v=>ord[i]? = some v) (StS p I o es ep T f) where
 sub:=fun b hb=>by simp at hb;simp [hb]
 frame:=fun i h h' st hk=>by
  obtain ⟨⟨oi,h1,h2⟩,h3,h4⟩:=st
  refine ⟨⟨oi,hk I (by simp) _ h1,h2⟩,hk p (by simp) _ h3,fun a ns e=>?_⟩
  obtain ⟨ot,t1,t2⟩:=h4 a ns e
  exact ⟨ot,hk a (List.mem_cons_of_mem _ (List.mem_cons_of_mem _ (ht a ns e).1)) _ t1,t2⟩
 item:=fun i s Q E hi st hQ=>by
  obtain ⟨h1,h2,h3⟩:=st
  refine si_itemI h1 h2 hd hf W h3 (List.getElem?_eq_getElem hi) fun h' a b=>?_
  refine hQ _ h' s.toks (List.getElem?_eq_getElem hi) ⟨a,(b.2 p hpI).trans h2,fun c ns e=>?_⟩ fun c oc hc e=>(b.2 c (fun q=>hc (by simp [q]))).trans e
  obtain ⟨ot,t1,t2⟩:=h3 c ns e
  exact ⟨ot,(b.2 c (ht c ns e).2).trans t1,t2⟩
 done:=fun s Q E st hQ=>by
  obtain ⟨h1,h2,h3⟩:=st
  exact si_endI hh h1 h2 hd hf W h3 rfl fun h' he=>hQ h' s.toks fun b o hb e=>he b o (fun q=>hb (by simp [q])) e
 self:=fun i s Q E st hQ=>by
  obtain ⟨⟨oi,h1,h2,_⟩,_⟩:=st
  have hT:s.TypeIs (.ref I) "set_iterator":=⟨_,h1,h2⟩
  refine wpAny_pyIter_slot hT slot_si_iter (wpAny_call_entry slot_si_iter hT entry_si_iter ?_ (args_si_iter _))
  show wpAny _ _ (ret (.ref I)) _ _ s
  exact wpAny_pure ⟨_,rfl,"set_iterator",_,hT,slot_si_next.lookup,hQ⟩
theorem set_iterI {p:Addr} {o:Obj} {es:Array (Int × Value)} {ep:Nat} {t:SetTable} {zs:List Int} {Q:Value->Shared->Prop} (ho:s.heap.get? p = some o) (hx:o.ExactSet) (hd:o.data = .set es ep t) (S:SetI P w es t zs)
  (hQ:∀ (I:Addr) (h':Heap) (d:Drawn) (T:Option (Addr × List Nat)) (f:Nat->Value) (ord:List Value) (ts:List Addr),WayI w p es ep t T f ord->(∀ b ob,s.heap.get? b = some ob->h'.get? b = some ob)->s.heap.objs.size ≤ I->(∀ a ∈ ts,s.heap.objs.size ≤ a)->(∀ a ns,T = some (a,ns)->a ∈ ts/\a ≠ I)->StS p I o es ep T f 0 h'->Q (.ref I) { s with heap:=h',drawn:=d }) :
  wpAny (model P w) A (pyIter (.ref p)) Q E s:=by
 have hT:s.TypeIs (.ref p) "set":=⟨o,ho,hx.1⟩
 refine wpAny_pyIter_slot hT F.slot_set_iter (wpAny_call_entry F.slot_set_iter hT entry_set_it ?_ (F.args_set_iter_1 _))
 unfold Builtin.«frozenset.__iter__» Builtin.Frozenset.slot0 Builtin.Frozenset.sizeOf
 refine wpAny_bind (wpAny_bind (wpAny_pure ?_))
 refine wpAny_pure ?_
 refine wpAny_bind (wpAny_bind (wpAny_setEntries_of ho hd S.ft (wpAny_pure ?_)))
 unfold setDrawn
 refine wpAny_bind (wpAny_bind (wpAny_setState_of ho hd S.ft ?_))
 dsimp only
 unfold setsByText
 refine wpAny_bind (wpAny_bind (wpAny_askSetting (wpAny_pure ?_)))
 refine wpAny_pure ?_
 have enter:∀ (fv:Value) (T:Option (Addr × List Nat)) (f:Nat->Value) (ord:List Value) (ts:List Addr) (h1:Heap) (d1:Drawn),fv = f 0->WayI w p es ep t T f ord->(∀ b ob,s.heap.get? b = some ob->h1.get? b = some ob)->s.heap.objs.size ≤ h1.objs.size->(∀ a ∈ ts,s.heap.objs.size ≤ a)->(∀ a ns,T = some (a,ns)->a ∈ ts/\∃ ot,h1.get? a = some ot/\ot.data = .seq (ns.map fun j=>rawInt (j:Nat)).toArray 0) →
   wpAny (model P w) A.in1 (do let e ← setEpoch p;let v ← newFields "set_iterator" [fv,rawInt 0,.ref p,rawInt es.size,rawInt e];ret v) (fun fin s'=>∃ v,fin = Fin.done (Flow.ret v)/\∃ T' r,s'.TypeIs v T'/\typeLookup (.type T') "__next__" = pure (some r)/\Q v s') E { s with heap:=h1,drawn:=d1 }:=by
  intro fv T f ord ts h1 d1 e W k le hts hTT
  subst e
  refine wpAny_bind (wpAny_setEpoch_of (s:={ s with heap:=h1,drawn:=d1 }) (k _ _ ho) hd S.ft ?_)
  refine wpAny_bind (wpAny_newObj_type ?_)
  refine wpAny_pure ⟨_,rfl,"set_iterator",_,⟨_,Heap.get?_push_size _ rfl,rfl⟩,slot_si_next.lookup,?_⟩
  refine hQ h1.objs.size _ d1 T f ord ts W (fun b ob q=>Heap.get?_push_of_some _ (k b ob q)) le hts (fun a ns q=>?_) ⟨⟨_,Heap.get?_push_size _ rfl,rfl,rfl⟩,Heap.get?_push_of_some _ (k _ _ ho),fun a ns q=>?_⟩
  ·obtain ⟨m,ot,t1,_⟩:=hTT a ns q
   exact ⟨m,Nat.ne_of_lt (Heap.lt_size t1)⟩
  ·obtain ⟨m,ot,t1,t2⟩:=hTT a ns q
   exact ⟨ot,Heap.get?_push_of_some _ t1,t2⟩
 refine wpAny_ite_split (fun q=>?_) fun q=>?_
 ·have q':(!w.params.followText "set-order" && (!t.plain && decide (es.size > 1))) = true:=q
  rw [Bool.and_eq_true,Bool.not_eq_true'] at q'
  refine wpAny_bind (wp_draw es.size _ _ _ (by simp) fun ys d hp=>?_)
  have hys:ys.length = es.size:=by rw [hp.length_eq,List.length_range]
  unfold newTuple
  refine wpAny_bind (wpAny_newObj_type (data:=.seq (ys.map fun (i:Nat)=>rawInt i).toArray) ?_ (by show (ys.map fun (i:Nat)=>rawInt i).toArray.size ≤ sizeLine;rw [List.size_toArray,List.length_map,hys];exact fits_of_scanBound S.bd))
  refine enter (.ref s.heap.objs.size) (some (s.heap.objs.size,ys)) (fun _=>.ref s.heap.objs.size) _ [s.heap.objs.size] _ d rfl (.drawn _ ys hp) (fun b ob q=>Heap.get?_push_of_some _ q) (by rw [Heap.size_push];exact Nat.le_succ _) (fun a ha=>by rw [List.mem_singleton.mp ha];exact Nat.le_refl _) fun a ns e=>?_
  injection e with e
  injection e with e1 e2
  subst e1 e2
  exact ⟨List.mem_singleton.mpr rfl,_,Heap.get?_push_size _ rfl,rfl⟩
 ·have q':¬ (!w.params.followText "set-order" && (!t.plain && decide (es.size > 1))) = true:=q
  refine wpAny_bind (wpAny_pure ?_)
  have e0:s = { s with heap:=s.heap,drawn:=s.drawn }:=by cases s;rfl
  cases hw:w.params.followText "set-order" with
  | true=>exact enter _ none (fun _=>.int 0 0) _ [] s.heap s.drawn rfl (.world hw) (fun _ _ q=>q) (Nat.le_refl _) (fun a ha=>by cases ha) (fun a ns e=>by cases e)
  | false=>
   have q2:(!t.plain && decide (es.size > 1)) = false:=by
    rw [hw] at q'
    simpa using q'
   have sz:t.place.size = es.size:=by
    have:=S.ft
    unfold SetTable.fits at this
    rw [Bool.and_eq_true,beq_iff_eq] at this
    exact this.1
   exact enter _ none (fun i=>.int (slotAt t i:Nat) 0) _ [] s.heap s.drawn rfl (.slots hw (S.ld hw) q2 S.rs sz) (fun _ _ q=>q) (Nat.le_refl _) (fun a ha=>by cases ha) (fun a ns e=>by cases e)
theorem ints_ord:∀ {ord:List Value},(∀ v ∈ ord,∃ z k,v = .int z k)->IntsAre ord (ord.map fun v=>inE (0,v))
 | [],_=>.nil
 | v :: r,all=>by
  obtain ⟨z,k,rfl⟩:=all v List.mem_cons_self
  exact .cons _ _ (ints_ord fun x hx=>all x (List.mem_cons_of_mem _ hx))
theorem set_collectI {p:Addr} {zs:List Int} {R:List Value->Shared->Prop} (hh:A.handled = none) (hS:setI P w p zs s.heap) (hl:zs.length ≤ 1000)
  (h:∀ (h':Heap) (d:Drawn) (tk:Nat) (us:List Value) (ys:List Int),(∀ b o,s.heap.get? b = some o->h'.get? b = some o)->IntsAre us ys->ys.Perm zs->R us { s with heap:=h',drawn:=d,toks:=tk }) :
  wpAny (model P w) A (collect (.ref p)) R E s:=by
 obtain ⟨o,es,ep,t,ho,hx,hd,S⟩:=hS
 have hlt:=Heap.lt_size ho
 unfold collect
 refine wpAny_bind (wpAny_runValue (codeAny_builtin entry_proto_collect' ?_))
 rw [Around.under_plainId PySem.F.plain_proto_collect _]
 show wpAny _ A.in1 (newList [] >>= fun l=>again (.builtin "list.__iadd__" ⟨[l,.ref p],[]⟩)) _ _ s
 refine wpAny_bind (wpAny_newObj_type ?_)
 refine wpAny_pure ⟨plainId_quiet PySem.F.plain_list_iadd _,codeAny_builtin entry_list_iadd' ?_⟩
 rw [Around.under_plainId PySem.F.plain_list_iadd _]
 have hS₁:(s.heap.push { cls:=.type "list",data:=.seq ([]:List Value).toArray }).get? s.heap.objs.size = some { cls:=.type "list",data:=.seq #[] }:=Heap.get?_push_size _ rfl
 show wpAny _ A.in1 (Builtin.List.listExtendWith (.ref s.heap.objs.size) (.ref p) (.ref s.heap.objs.size)) _ _ _
 generalize eh:s.heap.push { cls:=.type "list",data:=.seq ([]:List Value).toArray } = h1 at hS₁ ⊢
 have k1:∀ b o,s.heap.get? b = some o->h1.get? b = some o:=fun b o e=>by rw [← eh];exact Heap.get?_push_of_some _ e
 have z1:h1.objs.size = s.heap.objs.size + 1:=by rw [← eh,Heap.size_push]
 have hT1:Shared.TypeIs { s with heap:=h1 } (.ref p) "set":=⟨o,k1 _ _ ho,hx.1⟩
 unfold Builtin.List.listExtendWith
 refine wpAny_bind (wpAny_typeOf (T:="set") hT1 ?_)
 have e1:Builtin.List.listSameRef (.ref s.heap.objs.size) (.ref p) = false:=by simp [Builtin.List.listSameRef,Nat.ne_of_gt hlt]
 have e2:(Value.type "set" == Value.type "list") = false:=by decide
 have e3:(Value.type "set" == Value.type "tuple") = false:=by decide
 simp only [e1,e2,e3,Bool.or_false,Bool.false_eq_true,if_false]
 refine wpAny_bind (set_iterI (s:={ s with heap:=h1 }) (k1 _ _ ho) hx hd S fun I h2 d T f ord ts W k2 iI its iT st=>?_)
 have i1:s.heap.objs.size < I:=by have:h1.objs.size ≤ I:=iI;omega
 have iS:s.heap.objs.size ∉ I :: p :: ts:=by
  simp only [List.mem_cons,not_or]
  refine ⟨Nat.ne_of_lt i1,Nat.ne_of_gt hlt,fun q=>?_⟩
  have:h1.objs.size ≤ s.heap.objs.size:=its _ q
  omega
 have hpI:p ≠ I:=Nat.ne_of_lt (Nat.lt_trans hlt i1)
 have hT2:Shared.TypeIs { s with heap:=h2,drawn:=d } (.ref p) "set":=⟨o,k2 _ _ (k1 _ _ ho),hx.1⟩
 refine wpAny_bind (wpAny_holding (set_hint (s:={ s with heap:=h2,drawn:=d }) hT2 ?_))
 have Wk:=walks_setI (P:=P) (A:=A.in1) (I:=I) (p:=p) (o:=o) hh hd S.ft W hpI iT
 have on:ord.length = es.size:=by rw [W.perm.length_eq,List.length_map,Array.length_toList]
 have key:∀ (h3:Heap) (c₁ tk:Nat),StS p I o es ep T f 0 h3->(∀ b ob,s.heap.get? b = some ob->h3.get? b = some ob)->h3.get? s.heap.objs.size = some { cls:=.type "list",data:=.seq #[] c₁ } →
   codeAny (model P w) A (.builtin "list.extend.loop" ⟨[.ref s.heap.objs.size,.ref I,.ref s.heap.objs.size],[]⟩) (fun q s'=>∃ (h':Heap) (tk:Nat) (acc':Array Value) (c':Nat),q = .ok (.ret (.ref s.heap.objs.size))/\s' = { s with heap:=h',drawn:=d,toks:=tk }/\(∀ b ob,s.heap.get? b = some ob->h'.get? b = some ob)/\h'.get? s.heap.objs.size = some { cls:=.type "list",dict:=none,data:=.seq acc' c',slots:=#[] }/\ItemsOf (fun i v=>ord[i]? = some v) acc' ord.length) { s with heap:=h3,drawn:=d,toks:=tk }:=by
  intro h3 c₁ tk hst hk hS₁
  refine codeAny_extend_loopS Wk.toS (by rw [on,S.size,sizeLine_eq];omega) s.heap.objs.size iS _ ord.length 0 _ #[] c₁ rfl (Nat.zero_le _) hst hS₁ (ItemsOf.nil _) fun s' acc' c' hm hS' hacc=>?_
  obtain ⟨h',g',d',tk',os'⟩:=s'
  have q1:g' = s.gens:=hm.gens
  have q2:d' = d:=hm.drawn
  have q3:os' = s.os:=hm.os
  subst q1 q2 q3
  refine ⟨h',tk',acc',c',rfl,rfl,fun b ob e=>hm.heap b ob (fun hmem=>?_) (hk b ob e),hS',hacc⟩
  have lb:=Heap.lt_size e
  rcases List.mem_cons.mp hmem with e' | hmem
  ·exact absurd lb (by rw [e'];exact Nat.lt_irrefl _)
  ·exact absurd (Nat.lt_trans i1 (by rw [← List.mem_singleton.mp hmem];exact lb)) (Nat.lt_irrefl _)
 have post:∀ (h3:Heap) (c₁ tk:Nat),StS p I o es ep T f 0 h3->(∀ b ob,s.heap.get? b = some ob->h3.get? b = some ob)->h3.get? s.heap.objs.size = some { cls:=.type "list",data:=.seq #[] c₁ } →
   codeAny (model P w) A (.builtin "list.extend.loop" ⟨[.ref s.heap.objs.size,.ref I,.ref s.heap.objs.size],[]⟩) (fun r s'=>match r with
    | Except.ok (Flow.ret v)=>wpAny (model P w) A (match v with
      | Value.ref a=>do
       let __do_lift ← load a
       match __do_lift.data with
        | Data.seq xs epoch=>pure xs.toList
        | x=>unsupported "internal:collect"
      | x=>unsupported "internal:collect") R E s'
    | Except.ok a=>False
    | Except.error e=>E e s') { s with heap:=h3,drawn:=d,toks:=tk }:=by
  intro h3 c₁ tk a b c
  refine codeAny_mono (key h3 c₁ tk a b c) fun q s₂ y=>?_
  obtain ⟨h',tk',acc',c',rfl,rfl,hk,hS',hacc⟩:=y
  dsimp only
  refine wpAny_bind (wpAny_load hS' ?_)
  refine wpAny_pure ?_
  have hwl:acc'.toList = ord:=by
   refine List.ext_getElem (by rw [Array.length_toList];exact hacc.1) fun i q1 q2=>?_
   have:ord[i]? = some acc'.toList[i]:=hacc.2 i acc'.toList[i] (by rw [← Array.getElem?_toList];exact List.getElem?_eq_getElem q1)
   rw [List.getElem?_eq_getElem q2] at this
   injection this with this
   exact this.symm
  rw [hwl]
  have hst:IntsAre ord (ord.map fun v=>inE (0,v)):=ints_ord fun v hv=>by
   obtain ⟨e,he,rfl⟩:=List.mem_map.mp (W.perm.mem_iff.mp hv)
   exact S.tx e he
  refine h h' d tk' ord _ hk hst ?_
  refine (W.perm.map _).trans ?_
  rw [List.map_map]
  refine (List.Perm.of_eq (List.map_congr_left fun e he=>?_)).trans S.pm
  obtain ⟨z,k,q⟩:=S.tx e he
  obtain ⟨i,v⟩:=e
  simp only at q
  subst q
  rfl
 have hS₂:=k2 _ _ hS₁
 refine wpAny_ite_split (fun _=>?_) (fun _=>wpAny_pure ⟨plainId_quiet PySem.F.plain_extend_loop _,post h2 0 s.toks st (fun b ob e=>k2 _ _ (k1 _ _ e)) hS₂⟩)
 refine wpAny_bind (wpAny_rule ?_)
 refine wpAny_bind ?_
 show wpAny _ _ (updateSeq s.heap.objs.size (·.push .none) >>= fun _=>updateSeq s.heap.objs.size (·.pop)) _ _ _
 refine wpAny_bind (wpAny_updateSeq hS₂ rfl ?_)
 have hS₃:=Heap.get?_update_self (Obj.mapSeq (·.push Value.none)) hS₂ rfl
 refine wpAny_updateSeq (hz:=by seq_fits) hS₃ rfl ?_
 have hS₄:=Heap.get?_update_self (Obj.mapSeq (·.pop)) hS₃ rfl
 refine wpAny_pure ⟨plainId_quiet PySem.F.plain_extend_loop _,post _ _ _ ?_ (fun b ob e=>?_) hS₄⟩
 ·refine Wk.frame 0 _ _ st fun b hb o e=>?_
  have hbS:b ≠ s.heap.objs.size:=fun h=>iS (h ▸ hb)
  exact (Heap.get?_update_other _ _ (Ne.symm hbS)).trans ((Heap.get?_update_other _ _ (Ne.symm hbS)).trans e)
 ·have hbS:b ≠ s.heap.objs.size:=Nat.ne_of_lt (Heap.lt_size e)
  exact (Heap.get?_update_other _ _ (Ne.symm hbS)).trans ((Heap.get?_update_other _ _ (Ne.symm hbS)).trans (k2 _ _ (k1 _ _ e)))
end
section
variable {X:Cx}
theorem call_sortedI (hc:X.calm = true):CallR X (.builtin "sorted") (fun xs H Q=>∃ p zs,xs = [.ref p]/\H p = some (.ext (setI X.prog X.w p zs))/\zs.length < 64/\∀ (l:Addr) (ms:List Int),H l = none->ms.Perm zs->ms.Pairwise (· ≤ ·)->Q (.ref l) (upd H l (.lst (ms.map V.int)))):=by
 intro pins s σ H xs us Q I r h
 obtain ⟨p,zs,rfl,hq,h64,q⟩:=h
 obtain ⟨u,rfl,rx⟩:=vals1 r
 cases rx
 have hS:setI X.prog X.w p zs s.heap:=(I.hok p _ hq).1
 refine Calls.call_function_entry kind_sorted plain_sorted entry_sorted (args_sorted1 _) ?_
 unfold Builtin.«sorted»
 refine wpAny_bind (m:=checkCount "sorted" 1 1 _) (wpAny_pure ?_)
 refine wpAny_bind (set_collectI (I.ok.hd hc) hS (by omega) fun h' d tk us ys hk hST hpm=>?_)
 have hal:us.length = zs.length:=by
  rw [← hpm.length_eq]
  exact hST.length
 refine wpAny_bind (wpAny_newList ?_ (by rw [hal,sizeLine_eq];omega))
 have hoL:(h'.push (seqObj "list" us.toArray 0)).get? h'.objs.size = some (seqObj "list" us.toArray 0):=Heap.get?_push_size _ rfl
 refine wpAny_bind (wpAny_holding (wpAny_call_entry slot_list_sort ⟨_,hoL,rfl⟩ entry_list_sort (list_sort_tree (s:={ s with heap:=h'.push (seqObj "list" us.toArray 0),drawn:=d,toks:=tk }) hoL hST (by rw [hal];exact h64) fun out ss' h1 h2 h3=>⟨_,rfl,?_⟩) (args_list_sort _)))
 obtain ⟨e,he⟩:=sortedHeap_at (out:=out) hoL
 have hn:s.heap.get? h'.objs.size = none:=by
  cases q:s.heap.get? h'.objs.size with
  | none=>rfl
  | some ob=>exact absurd (Heap.lt_size (hk _ _ q)) (Nat.lt_irrefl _)
 refine wpAny_pure ⟨_,rfl,.ref h'.objs.size,_,(I.draw (d:=d)).laidAt (t':=tk) (o:=.lst (ss'.map V.int)) (fun b ob q=>?_) hn ?_,rfl,q _ ss' (I.none_at hn) (h2.trans hpm) h3⟩
 ·have q':=hk b ob q
  have hlt:=Heap.lt_size q'
  rw [sortedHeap_old (Nat.ne_of_lt hlt) (by rw [size_push'];exact Nat.lt_succ_of_lt hlt)]
  exact Heap.get?_push_of_some _ q'
 ·exact ⟨by rw [List.length_map,h2.length_eq,hpm.length_eq,sizeLine_eq];omega,_,e,vals_ints' h1,he⟩
end
end L2
namespace L2
open PySem PySem.Spec PyProof.Rows
theorem addI_len (zs:List Int) (z:Int):(addI zs z).length ≤ zs.length + 1:=by
 unfold addI
 split
 ·exact Nat.le_succ _
 ·simp
theorem fold_lenI (ys:List Int):∀ zs:List Int,(ys.foldl addI zs).length ≤ zs.length + ys.length:=by
 induction ys with
 | nil=>intro zs;exact Nat.le_refl _
 | cons y ys ih=>
  intro zs
  have h1:=ih (addI zs y)
  have h2:=addI_len zs y
  rw [List.foldl_cons,List.length_cons]
  omega
section
variable {P:Program} {w:World} {A:Around} {R:Result->Shared->Prop} {I:Addr} {fp wr:List Addr} {G:Array GenState->Array GenState->Prop} {n:Nat} {PV:Nat->Value->Prop} {St:Nat->Shared->Prop}
end
section
variable {P:Program} {w:World} {A:Around} {s:Shared} {E:Value->Shared->Prop}
end
section
variable {X:Cx}
end
end L2
namespace L2
open PySem PySem.Spec PyProof.Rows
section
variable {P:Program} {w:World} {A:Around} {E:Value->Shared->Prop} {s:Shared} {a:Addr}
theorem room_newI {led:Bool} {more:Nat} {Q:Unit->Shared->Prop} {ob:Obj} (ho:s.heap.get? a = some ob) (hx:ob.ExactSet) (hd:ob.data = .set #[] 0 (.fresh 0 0 led)) (hm:more ≤ 2000) (hled:w.params.followText "set-order" = false->led = true)
  (h:∀ h',Heap.SameBut a s.heap h'->setI P w a [] h'->Q () { s with heap:=h' }):wpAny (model P w) A (setRoomFor a more) Q E s:=by
 unfold setRoomFor
 refine wpAny_bind (wpAny_setState_of ho hd rfl ?_)
 have mk:∀ t:SetTable,t.fits 0 = true->t.led = led->Up t.place->SetI P w #[] t []:=fun t f l u=>⟨fun e he=>by simp at he,fun e he=>by simp at he,by simp,List.nodup_nil,by decide,f,fun q=>l.trans (hled q),u⟩
 have hS:setI P w a [] s.heap:=⟨ob,#[],0,_,ho,hx,hd,mk _ rfl rfl List.Pairwise.nil⟩
 cases e:(SetTable.fresh 0 0 led).roomFor more with
 | none=>
  exact wpAny_pure (h s.heap (Heap.SameBut.refl a s.heap) hS)
 | some wanted=>
  have hw:wanted ≤ 4096:=by
   unfold SetTable.roomFor at e
   split at e
   ·injection e with e
    rw [← e]
    show (0 + more) * 2 ≤ 4096
    omega
   ·cases e
  show wpAny _ _ (setRelay a wanted) _ _ _
  unfold setRelay
  refine wpAny_bind (wpAny_setState_of ho hd rfl ?_)
  show wpAny _ _ (if SetTable.sizeAbove wanted > sizeLine then _ else _) _ _ _
  rw [if_neg (Nat.not_lt.mpr (above_small hw))]
  have er:(SetTable.fresh 0 0 led).relaid (Array.map (fun x:Int × Value=>x.1) #[]) wanted = some ({ mask:=SetTable.sizeAbove wanted - 1,place:=#[],dummies:=#[],finger:=0,led:=led,moves:=(SetTable.fresh 0 0 led).movedTo (SetTable.sizeAbove wanted - 1),plain:=true },#[]):=by
   unfold SetTable.relaid
   rw [show Array.map (fun x:Int × Value=>x.1) #[] = #[] from by simp]
   exact laid_none _ _ _ _ _
  rw [er]
  generalize eT:({ mask:=SetTable.sizeAbove wanted - 1,place:=#[],dummies:=#[],finger:=0,led:=led,moves:=(SetTable.fresh 0 0 led).movedTo (SetTable.sizeAbove wanted - 1),plain:=true }:SetTable) = T
  have hT:T.fits 0 = true:=by rw [← eT];rfl
  refine wpAny_bind (show wpAny _ _ (pure ((#[]:Array (Int × Value)),T)) _ _ _ from wpAny_pure ?_)
  refine wpAny_storeSet_of ho hd ?_ (Nat.zero_le _)
  have TT:=mk T hT (by rw [← eT]) (by rw [← eT];exact List.Pairwise.nil)
  obtain ⟨ho2,_⟩:=SetOf_store (knd:=mixKind P w) ho hx hd TT.el TT.of TT.bd TT.ft
  exact h _ (Heap.SameBut.update _ a _) ⟨_,_,_,_,ho2,hx,rfl,TT⟩
theorem set_of_dictI {d:Addr} {kvs:List (Key × Value)} {Q:Value->Shared->Prop} (hd:s.heap.DictOf (mixKind P w) d kvs) (hb:kvs.length ≤ 1000) (hm:(d == sysModules) = false) {ns:List Int} (hns:kvs.map (·.1) = ns.map Sum.inl)
  (h:∀ (h':Heap) (tk:Nat),setI P w s.heap.objs.size ns h'->(∀ b o,s.heap.get? b = some o->h'.get? b = some o)->Q (.ref s.heap.objs.size) { s with heap:=h',toks:=tk }) :
  wpAny (model P w) A (call (.type "set") [.ref d]) Q E s:=by
 obtain ⟨c,tl,hmro⟩:=F.called_set.mro
 have hmade:=F.called_set.made
 have hsub:=F.called_set.sub
 have q1:=F.called_set.notType
 have q2:=F.called_set.canCreate
 have q3:=F.typeCall_set_1 (.ref d)
 refine wpAny_call (codeAny_of_tree ?_)
 show wpAny _ _ (callAny (.type "set") ⟨[.ref d],[]⟩) _ _ s
 refine wpAny_pure ⟨Code.quiet_builtin _ (by decide +kernel),codeAny_builtin F.entry_type_call ?_⟩
 rw [Around.under_plain (weight_type_call_type "set" [.ref d] []) rfl]
 repeat (any_goals (first | assumption | wp_step))
 refine codeAny_mono (code_set_led (.ref d) (E:=E) (Q₁:=fun v s1=>v = .ref s.heap.objs.size/\s1 = { s with heap:=s.heap.push { cls:=.type "set",dict:=none,data:=.set #[] 0 (.fresh 0 0 (!w.params.followText "set-order")) } }) ⟨rfl,rfl⟩) fun r s1 hr=>?_
 match r,hr with
 | .error e,hr=>exact hr
 | .ok (.next),hr=>exact hr.elim
 | .ok (.brk),hr=>exact hr.elim
 | .ok (.cont),hr=>exact hr.elim
 | .ok (.ret v),hr=>
  obtain ⟨rfl,rfl⟩:=hr
  generalize el:(!w.params.followText "set-order") = led
  have hS:(s.heap.push { cls:=.type "set",dict:=none,data:=.set #[] 0 (.fresh 0 0 led) }).get? s.heap.objs.size = some { cls:=.type "set",dict:=none,data:=.set #[] 0 (.fresh 0 0 led) }:=Heap.get?_push_size _ rfl
  generalize eh:s.heap.push { cls:=.type "set",dict:=none,data:=.set #[] 0 (.fresh 0 0 led) } = h1 at hS ⊢
  have k1:∀ b o,s.heap.get? b = some o->h1.get? b = some o:=fun b o e=>by rw [← eh];exact Heap.get?_push_of_some _ e
  have hT:Shared.TypeIs { s with heap:=h1 } (.ref s.heap.objs.size) "set":=⟨_,hS,rfl⟩
  have i1:=F.called_set.init.lookup
  have i2:=F.called_set.init.bind (.ref s.heap.objs.size)
  repeat (any_goals (first | assumption | wp_step))
  refine codeAny_mono (codeAny_call_builtin (R:=wants (fun r s2=>r = .none/\∃ h' tk,s2 = { s with heap:=h',toks:=tk }/\setI P w s.heap.objs.size ns h'/\∀ b o,s.heap.get? b = some o->h'.get? b = some o) E) F.called_set.init.plain F.entry_set_init (check_set_init_1 hT ?_)) fun r2 s2 hr2=>?_
  ·obtain ⟨od,es,ep,o1,o2,o3,o4,o5,o6⟩:=entries_of hd
   have o1':=k1 _ _ o1
   have hda:d ≠ s.heap.objs.size:=Nat.ne_of_lt (Heap.lt_size o1)
   obtain ⟨ocls,odict,odata,oslots⟩:=od
   simp only at o2 o3
   subst o2 o3
   have t1:isSubtype (.type "dict") (.type "set") = pure false:=by rw [isSubtype_type];kernel_rfl
   have t2:isSubtype (.type "dict") (.type "frozenset") = pure false:=by rw [isSubtype_type];kernel_rfl
   unfold Builtin.«set.__init__» noKeywords Builtin.Frozenset.updateFrom
   generalize eR:setRoomFor = RF
   wp_walk
   subst eR
   have sz:es.size ≤ 1000:=by omega
   refine room_newI hS ⟨rfl,rfl,rfl⟩ rfl (by omega) (fun q=>by rw [← el,q];rfl) fun h2 sb2 hS2=>?_
   have o1'':=(sb2.2 d hda).trans o1'
   refine wpAny_bind (wpAny_dictEntries (s:={ s with heap:=h2 }) o1'' rfl ?_)
   rw [Std.Legacy.Range.forIn_eq_forIn_range']
   refine wpAny_bind (wp_range (fun i s'=>∃ h',s' = { s with heap:=h' }/\Heap.SameBut s.heap.objs.size h1 h'/\setI P w s.heap.objs.size (ns.take i) h') es.size ?_ ?_ _ 0 _ (by simp [Std.Legacy.Range.size]) (Nat.zero_le _) ⟨h2,rfl,sb2,hS2⟩)
   ·rintro i s' hi ⟨h',rfl,sb,hSi⟩
    have hln:ns.length = kvs.length:=by
     have:=congrArg List.length hns
     rw [List.length_map,List.length_map] at this
     exact this.symm
    have hlt:i < ns.length:=by omega
    have hki:(kvs.map (·.1))[i]? = some (Sum.inl ns[i]):=by rw [hns,List.getElem?_map,List.getElem?_eq_getElem hlt];rfl
    obtain ⟨e,he,e1,e2,e3⟩:=o6 i _ hki
    have od':=(sb.2 d hda).trans o1'
    obtain ⟨tz,ez⟩:∃ t,e.key = .int ns[i] t:=by
     rcases keyIs_shape (show keyIs (.inl ns[i]) e.key = true from e1) with ⟨x,t,q,e⟩ | ⟨x,t,q,e⟩
     ·injection q with q;subst q;exact ⟨t,e⟩
     ·cases q
    have nn:ns.Nodup:=by
     rw [hns] at o5
     have key:∀ l:List Int,(l.map (Sum.inl:Int->Key)).Nodup->l.Nodup:=fun l h=>by
      unfold List.Nodup at h ⊢
      rw [List.pairwise_map] at h
      exact h.imp fun n q=>n (by rw [q])
     exact key ns o5
    have hnm:ns[i] ∉ ns.take i:=fun hm=>by
     obtain ⟨j,hj,ej⟩:=List.mem_take_iff_getElem.mp hm
     have:j = i:=(List.getElem_inj nn).mp ej
     omega
    have ea:addI (ns.take i) ns[i] = ns.take (i + 1):=by
     unfold addI
     rw [if_neg hnm,List.take_add_one,List.getElem?_eq_getElem hlt]
     rfl
    refine wpAny_bind (wpAny_dictEntries (s:={ s with heap:=h' }) od' rfl ?_)
    rw [he]
    refine wpAny_bind (wpAny_holding ?_)
    rw [ez,e2]
    refine add_int (s:={ s with heap:=h' }) hSi (by rw [List.length_take];unfold scanBound;omega) fun b h'' sb' hS''=>?_
    rw [ea] at hS''
    refine wpAny_bind (wpAny_dictEpoch (s:={ s with heap:=h'' }) ((sb'.2 d hda).trans od') rfl ?_)
    rw [if_neg (by simp)]
    exact wpAny_pure ⟨rfl,h'',rfl,sb.trans sb',hS''⟩
   ·rintro s' ⟨h',rfl,sb,hSn⟩
    have et:ns.take es.size = ns:=List.take_of_length_le (by
     have:=congrArg List.length hns
     rw [List.length_map,List.length_map] at this
     omega)
    rw [et] at hSn
    exact wpAny_pure (wpAny_pure ⟨rfl,h',_,rfl,hSn,fun b o e=>(sb.2 b (Nat.ne_of_lt (Heap.lt_size e))).trans (k1 b o e)⟩)
  ·match r2,hr2 with
   | .error e,hr2=>exact hr2
   | .ok (.next),hr2=>exact hr2.elim
   | .ok (.brk),hr2=>exact hr2.elim
   | .ok (.cont),hr2=>exact hr2.elim
   | .ok (.ret v),hr2=>
    obtain ⟨rfl,h',tk,rfl,hSn,kp⟩:=hr2
    repeat (any_goals (first | assumption | wp_step))
    exact h h' tk hSn kp
end
section
variable {X:Cx}
theorem call_setDI:CallR X (.type "set") (fun xs H Q=>∃ (a:Addr) (kvs:List (Key × V)) (ns:List Int),xs = [.ref a]/\Rd H a (.dK kvs)/\kvs.map (·.1) = ns.map Sum.inl/\kvs.length ≤ 1000/\∀ p,H p = none->Q (.ref p) (upd H p (.ext (setI X.prog X.w p ns)))):=by
 intro pins s σ H xs us Q I r h
 obtain ⟨a,kvs,ns,rfl,e,hk,hl,q⟩:=h
 obtain ⟨u,rfl,rx⟩:=vals1 r
 cases rx
 obtain ⟨_,hsys,vs,kv,hd⟩:=dk_rd I.hok e
 refine set_of_dictI hd (by rw [← kv.length];exact hl) hsys (by rw [← kv.keys];exact hk) fun h' tk hS kp=>?_
 exact ⟨.ref s.heap.objs.size,_,I.laid (a:=s.heap.objs.size) (t':=tk) kp (Nat.le_refl _) (setI_ok hS),rfl,q _ (I.hok.fresh (Nat.le_refl _))⟩
end
end L2
namespace L2
open PySem PySem.Spec PyProof.Rows
def itr (m:Nat):Nat->Nat->Nat
 | 0,x=>x
 | n + 1,x=>itr m n ((5 * x + 1) % m)
theorem itr_succ (m:Nat):∀ n x,itr m (n + 1) x = (5 * itr m n x + 1) % m
 | 0,x=>rfl
 | n + 1,x=>itr_succ m n _
theorem itr_add (m:Nat):∀ a b x,itr m (a + b) x = itr m b (itr m a x)
 | 0,b,x=>by rw [Nat.zero_add];rfl
 | a + 1,b,x=>by
  rw [show a + 1 + b = (a + b) + 1 by omega]
  exact itr_add m a b _
def its (m:Nat):Nat->Nat->List Nat
 | 0,_=>[]
 | n + 1,x=>x :: its m n ((5 * x + 1) % m)
theorem its_get (m:Nat):∀ n x k,k < n->(its m n x)[k]? = some (itr m k x)
 | 0,x,k,h=>by omega
 | n + 1,x,0,h=>rfl
 | n + 1,x,k + 1,h=>its_get m n _ k (by omega)
theorem its_mem {m n x y:Nat} (h:y ∈ its m n x):∃ k,k < n/\itr m k x = y:=by
 obtain ⟨k,hk⟩:=List.getElem?_of_mem h
 have hl:k < (its m n x).length:=(List.getElem?_eq_some_iff.mp hk).1
 have len:∀ n x,(its m n x).length = n:=fun n=>by
  induction n with
  | zero=>intro x;rfl
  | succ n ih=>intro x;show (its m n _).length + 1 = _;rw [ih]
 rw [len] at hl
 rw [its_get m n x k hl] at hk
 exact ⟨k,hl,by injection hk⟩
def Pw (m:Nat):Prop:=m = 8\/m = 16\/m = 32\/m = 64\/m = 128
theorem full_one {m:Nat} (h:Pw m):itr m m 0 = 0/\∀ y,y < m->∃ k,k < m/\itr m k 0 = y:=by
 have key:∀ m,(itr m m 0 == 0 && (List.range m).all fun y=>(its m m 0).contains y) = true->itr m m 0 = 0/\∀ y,y < m->∃ k,k < m/\itr m k 0 = y:=fun m h=>by
  rw [Bool.and_eq_true,beq_iff_eq,List.all_eq_true] at h
  exact ⟨h.1,fun y hy=>its_mem (by simpa using h.2 y (List.mem_range.mpr hy))⟩
 rcases h with rfl | rfl | rfl | rfl | rfl
 all_goals exact key _ (by decide +kernel)
theorem full {m:Nat} (h:Pw m) {x y:Nat} (hx:x < m) (hy:y < m):∃ k,k < m/\itr m k x = y:=by
 obtain ⟨h0,hc⟩:=full_one h
 obtain ⟨a,ha,rfl⟩:=hc x hx
 obtain ⟨b,hb,rfl⟩:=hc y hy
 by_cases c:a ≤ b
 ·exact ⟨b - a,by omega,by rw [← itr_add];congr 1;omega⟩
 ·refine ⟨b + m - a,by omega,?_⟩
  rw [← itr_add,show a + (b + m - a) = m + b by omega,itr_add,h0]
theorem Pw.pos {m:Nat} (h:Pw m):8 ≤ m:=by rcases h with rfl | rfl | rfl | rfl | rfl <;> decide
def lp (mask:Nat):Nat->Nat->Nat->Nat × Nat
 | 0,i,p=>(i,p)
 | n + 1,i,p=>lp mask n ((i * 5 + 1 + p / 32) % (mask + 1)) (p / 32)
theorem lp_add (mask:Nat):∀ a b i p,lp mask (a + b) i p = lp mask b (lp mask a i p).1 (lp mask a i p).2
 | 0,b,i,p=>by rw [Nat.zero_add];rfl
 | a + 1,b,i,p=>by
  rw [show a + 1 + b = (a + b) + 1 by omega]
  exact lp_add mask a b _ _
theorem lp_p (mask:Nat):∀ n i p,(lp mask n i p).2 = p / 32 ^ n
 | 0,i,p=>by simp [lp]
 | n + 1,i,p=>by
  show (lp mask n _ (p / 32)).2 = _
  rw [lp_p mask n,Nat.div_div_eq_div_mul,Nat.pow_succ,Nat.mul_comm]
theorem lp_zero (mask:Nat):∀ n i,(lp mask n i 0).1 = itr (mask + 1) n i/\(lp mask n i 0).2 = 0
 | 0,i=>⟨rfl,rfl⟩
 | n + 1,i=>by
  have:=lp_zero mask n ((5 * i + 1) % (mask + 1))
  have e1:(i * 5 + 1 + 0 / 32) % (mask + 1) = (5 * i + 1) % (mask + 1):=by congr 1;omega
  show (lp mask n ((i * 5 + 1 + 0 / 32) % (mask + 1)) 0).1 = itr (mask + 1) n ((5 * i + 1) % (mask + 1))/\(lp mask n ((i * 5 + 1 + 0 / 32) % (mask + 1)) 0).2 = 0
  rw [e1]
  exact this
theorem lp_lt {mask:Nat}:∀ n i p,i < mask + 1->(lp mask n i p).1 < mask + 1
 | 0,i,p,h=>h
 | n + 1,i,p,h=>lp_lt n _ _ (Nat.mod_lt _ (Nat.succ_pos _))
theorem free_none {mask:Nat} {ow:Array (Option Nat)}:∀ (fuel i p:Nat),SetTable.layClean.free mask ow fuel i p = none->∀ n,n < fuel->¬ (ow.getD (lp mask n i p).1 (some 0)).isNone = true:=by
 intro fuel
 induction fuel with
 | zero=>intro i p _ n h;omega
 | succ fuel ih=>
  intro i p e n hn
  unfold SetTable.layClean.free at e
  split at e
  ·cases e
  ·rename_i q
   cases n with
   | zero=>
    have hre:i ≤ SetTable.runEnd mask i:=by
     unfold SetTable.runEnd
     split <;> omega
    have:=List.find?_eq_none.mp q 0 (List.mem_range.mpr (by omega))
    simpa [lp] using this
   | succ n=>exact ih _ _ e n (by omega)
theorem free_some {mask:Nat} {ow:Array (Option Nat)}:∀ (fuel i p j:Nat),SetTable.layClean.free mask ow fuel i p = some j->(ow.getD j (some 0)).isNone = true:=by
 intro fuel
 induction fuel with
 | zero=>intro i p j e;unfold SetTable.layClean.free at e;cases e
 | succ fuel ih=>
  intro i p j e
  unfold SetTable.layClean.free at e
  split at e
  ·rename_i k q
   injection e with e
   subst e
   have:=List.find?_some q
   simpa using this
  ·exact ih _ _ _ e
theorem free_ok {mask:Nat} (hm:Pw (mask + 1)) {ow:Array (Option Nat)} (hs:ow.size = mask + 1) (hn:∃ j,j < mask + 1/\ow[j]? = some none) {b:Nat} (hb:b < 2 ^ 64):∃ j,SetTable.layClean.free mask ow (SetTable.turns mask) (b % (mask + 1)) b = some j/\j < mask + 1/\ow[j]? = some none:=by
 cases e:SetTable.layClean.free mask ow (SetTable.turns mask) (b % (mask + 1)) b with
 | some j=>
  have h1:=free_some _ _ _ _ e
  refine ⟨j,rfl,?_⟩
  by_cases hj:j < ow.size
  ·have e2:ow.getD j (some 0) = ow[j]:=by simp [Array.getD,hj]
   rw [e2] at h1
   refine ⟨by omega,?_⟩
   rw [Array.getElem?_eq_getElem hj]
   rw [Option.isNone_iff_eq_none] at h1
   rw [h1]
  ·have e2:ow.getD j (some 0) = some 0:=by simp [Array.getD,hj]
   rw [e2] at h1
   cases h1
 | none=>
  exfalso
  obtain ⟨j,hj,ej⟩:=hn
  have hall:=free_none _ _ _ e
  have hi:b % (mask + 1) < mask + 1:=Nat.mod_lt _ (Nat.succ_pos _)
  have hp:(lp mask 13 (b % (mask + 1)) b).2 = 0:=by
   rw [lp_p]
   exact Nat.div_eq_of_lt (Nat.lt_of_lt_of_le hb (by decide))
  have hx:=lp_lt 13 (b % (mask + 1)) b hi
  obtain ⟨k,hk,hk2⟩:=full hm hx hj
  have h2:=hall (13 + k) (by unfold SetTable.turns;omega)
  rw [lp_add,hp,(lp_zero mask k _).1,hk2] at h2
  have hjs:j < ow.size:=by omega
  have e2:ow.getD j (some 0) = ow[j]:=by simp [Array.getD,hjs]
  rw [Array.getElem?_eq_getElem hjs] at ej
  injection ej with ej
  rw [e2,ej] at h2
  exact h2 rfl
structure Own (mask k:Nat) (ow:Array (Option Nat)):Prop where
 sz:ow.size = mask + 1
 pm:(ow.toList.filterMap id).Perm (List.range k)
theorem Own.room {mask k:Nat} {ow:Array (Option Nat)} (h:Own mask k ow) (hk:k < mask + 1):∃ j,j < mask + 1/\ow[j]? = some none:=by
 apply Classical.byContradiction
 intro hc
 have all:∀ x ∈ ow.toList,x.isSome = true:=fun x hx=>by
  obtain ⟨j,hj⟩:=List.getElem?_of_mem hx
  have hjl:j < ow.size:=by have:=(List.getElem?_eq_some_iff.mp hj).1;simpa using this
  cases x with
  | none=>exact absurd ⟨j,by have:=h.sz;omega,by rw [← Array.getElem?_toList];exact hj⟩ hc
  | some y=>rfl
 have len:∀ l:List (Option Nat),(∀ x ∈ l,x.isSome = true)->(l.filterMap id).length = l.length:=fun l=>by
  induction l with
  | nil=>intro _;rfl
  | cons a r ih=>
   intro ha
   cases a with
   | none=>exact absurd (ha none List.mem_cons_self) (by decide)
   | some y=>
    rw [List.filterMap_cons]
    show (List.filterMap id r).length + 1 = _
    rw [ih fun x hx=>ha x (List.mem_cons_of_mem _ hx)]
    rfl
 have h1:=len _ all
 rw [h.pm.length_eq,List.length_range,Array.length_toList,h.sz] at h1
 omega
theorem Own.put {mask k j:Nat} {ow:Array (Option Nat)} (h:Own mask k ow) (hj:ow[j]? = some none):Own mask (k + 1) (ow.setIfInBounds j (some k)):=by
 refine ⟨by rw [Array.size_setIfInBounds];exact h.sz,?_⟩
 have hjl:j < ow.toList.length:=by
  rw [← Array.getElem?_toList] at hj
  exact (List.getElem?_eq_some_iff.mp hj).1
 have ej:ow.toList[j] = none:=by
  rw [← Array.getElem?_toList] at hj
  exact (List.getElem?_eq_some_iff.mp hj).2
 have e1:ow.toList = ow.toList.take j ++ none :: ow.toList.drop (j + 1):=by rw [← ej,← List.drop_eq_getElem_cons hjl,List.take_append_drop]
 have e2:(ow.setIfInBounds j (some k)).toList = ow.toList.take j ++ some k :: ow.toList.drop (j + 1):=by
  rw [Array.toList_setIfInBounds]
  exact List.set_eq_take_append_cons_drop .. |>.trans (by rw [if_pos hjl])
 rw [e2,List.filterMap_append,List.filterMap_cons]
 have pm:=h.pm
 rw [e1,List.filterMap_append,List.filterMap_cons] at pm
 have p2:(List.filterMap id (ow.toList.take j) ++ k :: List.filterMap id (ow.toList.drop (j + 1))).Perm (k :: (List.filterMap id (ow.toList.take j) ++ List.filterMap id (ow.toList.drop (j + 1)))):=List.perm_middle
 refine p2.trans ((List.Perm.cons k pm).trans ?_)
 rw [List.range_succ]
 exact (List.perm_append_singleton k _).symm
theorem lay_ok {mask:Nat} (hm:Pw (mask + 1)) {hs:Array Int} (hn:hs.size < mask + 1):∃ ow,SetTable.layClean mask hs = some ow/\Own mask hs.size ow:=by
 have go:∀ (l:List Int) (k:Nat) (ow:Array (Option Nat)),Own mask k ow->k + l.length < mask + 1->∃ ow',l.foldl (fun acc h=>do
   let (owner,k) ← acc
   let j ← SetTable.layClean.free mask owner (SetTable.turns mask) (SetTable.bits h % (mask + 1)) (SetTable.bits h)
   pure (owner.setIfInBounds j (some k),k + 1)) (some (ow,k)) = some (ow',k + l.length)/\Own mask (k + l.length) ow':=by
  intro l
  induction l with
  | nil=>intro k ow h _;exact ⟨ow,rfl,h⟩
  | cons x r ih=>
   intro k ow h hk
   rw [List.length_cons] at hk
   have hb:SetTable.bits x < 2 ^ 64:=by
    unfold SetTable.bits
    have h1:=Int.emod_nonneg x (show (2 ^ 64:Int) ≠ 0 by decide)
    have h2:=Int.emod_lt_of_pos x (show (0:Int) < 2 ^ 64 by decide)
    omega
   obtain ⟨j,e,hj,ej⟩:=free_ok hm h.sz (h.room (by omega)) hb
   rw [List.foldl_cons]
   have es:(do
     let (owner,k) ← (some (ow,k):Option (Array (Option Nat) × Nat))
     let j ← SetTable.layClean.free mask owner (SetTable.turns mask) (SetTable.bits x % (mask + 1)) (SetTable.bits x)
     pure (owner.setIfInBounds j (some k),k + 1)) = some (ow.setIfInBounds j (some k),k + 1):=by
    show (SetTable.layClean.free mask ow (SetTable.turns mask) (SetTable.bits x % (mask + 1)) (SetTable.bits x)).bind _ = _
    rw [e]
    rfl
   rw [es]
   obtain ⟨ow',h1,h2⟩:=ih (k + 1) _ (h.put ej) (by omega)
   refine ⟨ow',?_,?_⟩
   ·rw [h1,List.length_cons]
    congr 2
    omega
   ·rw [List.length_cons,show k + (r.length + 1) = k + 1 + r.length by omega]
    exact h2
 obtain ⟨ow,h1,h2⟩:=go hs.toList 0 (Array.replicate (mask + 1) none) ⟨by simp,by
  rw [Array.toList_replicate]
  have:List.filterMap id (List.replicate (mask + 1) (none:Option Nat)) = []:=by
   rw [List.filterMap_eq_nil_iff]
   intro x hx
   rw [List.eq_of_mem_replicate hx]
   rfl
  rw [this]
  exact .nil⟩ (by rw [Array.length_toList];omega)
 refine ⟨ow,?_,?_⟩
 ·unfold SetTable.layClean
  rw [← Array.foldl_toList]
  rw [h1]
  rfl
 ·rw [Array.length_toList,Nat.zero_add] at h2
  exact h2
theorem live_snd (ow:Array (Option Nat)):((List.range ow.size).filterMap fun j=>(ow.getD j none).map fun k=>(j,k)).map (·.2) = ow.toList.filterMap id:=by
 have e:ow.toList = (List.range ow.size).map fun j=>ow.getD j none:=by
  apply List.ext_getElem?
  intro i
  rw [List.getElem?_map]
  by_cases h:i < ow.size
  ·rw [List.getElem?_range h,List.getElem?_eq_getElem (by rw [Array.length_toList];exact h)]
   simp [Array.getD,h]
  ·rw [List.getElem?_eq_none (by rw [Array.length_toList];omega),List.getElem?_eq_none (by rw [List.length_range];omega)]
   rfl
 rw [e,List.map_filterMap,List.filterMap_map]
 congr 1
 funext j
 simp only [Function.comp,id]
 cases ow.getD j none <;> rfl
theorem laid_ok {mask:Nat} (hm:Pw (mask + 1)) {hs:Array Int} (hn:hs.size < mask + 1) (f mv:Nat) (a b:Bool):∃ t o,SetTable.laid mask f mv a b hs = some (t,o)/\o.toList.Perm (List.range hs.size)/\t.fits hs.size = true/\Up t.place/\t.led = a:=by
 obtain ⟨ow,e,h⟩:=lay_ok hm hn
 have el:SetTable.laid mask f mv a b hs = some ({ mask,place:=(((List.range (mask + 1)).filterMap fun j=>(ow.getD j none).map fun k=>(j,k)).map (·.1)).toArray,dummies:=#[],finger:=f,led:=a,moves:=mv,plain:=b },(((List.range (mask + 1)).filterMap fun j=>(ow.getD j none).map fun k=>(j,k)).map (·.2)).toArray):=by
  unfold SetTable.laid
  rw [e]
  rfl
 have es:((List.range (mask + 1)).filterMap fun j=>(ow.getD j none).map fun k=>(j,k)).map (·.2) = ow.toList.filterMap id:=by
  rw [← h.sz]
  exact live_snd ow
 have hl:((List.range (mask + 1)).filterMap fun j=>(ow.getD j none).map fun k=>(j,k)).length = hs.size:=by
  have:=congrArg List.length es
  rw [List.length_map,h.pm.length_eq,List.length_range] at this
  exact this
 refine ⟨_,_,el,?_,?_,laid_up el,rfl⟩
 ·rw [es]
  exact h.pm
 ·unfold SetTable.fits SetTable.fill
  simp only [List.size_toArray,List.length_map,hl]
  rw [Bool.and_eq_true]
  refine ⟨by simp,?_⟩
  simp
  omega
end L2
namespace L2
open PySem PySem.Spec PyProof.Rows
instance (m:Nat):Decidable (Pw m):=by unfold Pw;infer_instance
theorem above_pw {n:Nat} (h:n < 128):Pw (SetTable.sizeAbove n)/\n < SetTable.sizeAbove n:=by
 have key:((List.range 128).all fun n=>decide (Pw (SetTable.sizeAbove n)/\n < SetTable.sizeAbove n)) = true:=by decide +kernel
 exact of_decide_eq_true (List.all_eq_true.mp key n (List.mem_range.mpr h))
theorem ord_perm {α:Type} {l:List α} {o:List Nat} (h:o.Perm (List.range l.length)):(o.filterMap fun i=>l[i]?).Perm l:=by
 refine (h.filterMap _).trans (List.Perm.of_eq ?_)
 have e:(List.range l.length).map (fun i=>l[i]?) = l.map some:=by
  apply List.ext_getElem?
  intro i
  rw [List.getElem?_map,List.getElem?_map]
  by_cases hi:i < l.length
  ·rw [List.getElem?_range hi,List.getElem?_eq_getElem hi]
   show some l[i]? = some (some l[i])
   rw [List.getElem?_eq_getElem hi]
  ·rw [List.getElem?_eq_none (by rw [List.length_range];omega),List.getElem?_eq_none (by omega)]
   rfl
 have e2:(List.range l.length).filterMap (fun i=>l[i]?) = ((List.range l.length).map fun i=>l[i]?).filterMap id:=by rw [List.filterMap_map];rfl
 rw [e2,e,List.filterMap_map]
 show l.filterMap some = l
 exact List.filterMap_some
section
variable {P:Program} {w:World} {es:Array (Int × Value)} {t:SetTable} {zs:List Int}
theorem SetI.moved (h:SetI P w es t zs) {es':Array (Int × Value)} {t':SetTable} (p:es'.toList.Perm es.toList) (f:t'.fits es'.size = true) (u:Up t'.place) (l:w.params.followText "set-order" = false->t'.led = true):SetI P w es' t' zs:=by
 have hsz:es'.size = es.size:=by rw [← Array.length_toList,p.length_eq,Array.length_toList]
 exact ⟨h.el.perm p,fun e he=>h.tx e (p.mem_iff.mp he),(p.map _).trans h.pm,h.nd,by rw [hsz];exact h.bd,f,l,u⟩
theorem fits_size (h:t.fits es.size = true):t.place.size = es.size:=by
 unfold SetTable.fits at h
 rw [Bool.and_eq_true,beq_iff_eq] at h
 exact h.1
theorem SetI.laid (h:SetI P w es t zs) {mask f mv:Nat} {a b:Bool} (hm:Pw (mask + 1)) (hn:es.size < mask + 1) (l:w.params.followText "set-order" = false->a = true) :
  ∃ t' o,SetTable.laid mask f mv a b (es.map (·.1)) = some (t',o)/\(o.filterMap (es[·]?)).size = es.size/\SetI P w (o.filterMap (es[·]?)) t' zs:=by
 obtain ⟨t',o,e,hp,hf,hu,hl⟩:=laid_ok (hs:=es.map (·.1)) hm (by rw [Array.size_map];exact hn) f mv a b
 rw [Array.size_map] at hp hf
 have e1:(o.filterMap (es[·]?)).toList = o.toList.filterMap fun i=>es.toList[i]?:=by
  rw [Array.toList_filterMap]
  congr 1
  funext i
  rw [Array.getElem?_toList]
 have hp2:(o.filterMap (es[·]?)).toList.Perm es.toList:=by
  rw [e1]
  exact ord_perm (by rw [Array.length_toList];exact hp)
 have hsz:(o.filterMap (es[·]?)).size = es.size:=by rw [← Array.length_toList,hp2.length_eq,Array.length_toList]
 exact ⟨t',o,e,hsz,h.moved hp2 (by rw [hsz];exact hf) hu fun q=>hl.trans (l q)⟩
end
section
variable {P:Program} {w:World} {A:Around} {E:Value->Shared->Prop} {s:Shared} {a:Addr}
theorem relayI {zs:List Int} {wanted:Nat} {Q:Unit->Shared->Prop} (hS:setI P w a zs s.heap) (hw:wanted < 128) (hz:2 * zs.length ≤ wanted) (h:∀ h',Heap.SameBut a s.heap h'->setI P w a zs h'->Q () { s with heap:=h' }):wpAny (model P w) A (setRelay a wanted) Q E s:=by
 obtain ⟨o,es,ep,t,ho,hex,hd,T⟩:=hS
 obtain ⟨p1,p2⟩:=above_pw hw
 have hsz:=T.size
 unfold setRelay
 refine wpAny_bind (wpAny_setState_of ho hd T.ft ?_)
 show wpAny _ _ (if SetTable.sizeAbove wanted > sizeLine then _ else _) _ _ _
 rw [if_neg (Nat.not_lt.mpr (above_small (by omega)))]
 have e1:SetTable.sizeAbove wanted - 1 + 1 = SetTable.sizeAbove wanted:=by have:=p1.pos;omega
 obtain ⟨t',o',el,es1,T'⟩:=T.laid (mask:=SetTable.sizeAbove wanted - 1) (f:=t.finger) (mv:=t.movedTo (SetTable.sizeAbove wanted - 1)) (a:=t.led) (b:=t.plain) (by rw [e1];exact p1) (by omega) T.ld
 have er:t.relaid (es.map (·.1)) wanted = some (t',o'):=el
 rw [er]
 refine wpAny_bind (show wpAny _ _ (if (o'.filterMap (es[·]?)).size != es.size then _ else pure (o'.filterMap (es[·]?),t')) _ _ _ from ?_)
 rw [if_neg (by rw [es1];simp)]
 refine wpAny_pure ?_
 refine wpAny_storeSet_of ho hd ?_ (fits_of_scanBound T'.bd)
 obtain ⟨ho2,_⟩:=SetOf_store (knd:=mixKind P w) ho hex hd T'.el T'.of T'.bd T'.ft
 exact h _ (Heap.SameBut.update _ a _) ⟨_,_,_,_,ho2,hex,rfl,T'⟩
theorem roomI {zs:List Int} {more:Nat} {Q:Unit->Shared->Prop} (hS:setI P w a zs s.heap) (hm:zs.length + more ≤ 60) (h:∀ h',Heap.SameBut a s.heap h'->setI P w a zs h'->Q () { s with heap:=h' }):wpAny (model P w) A (setRoomFor a more) Q E s:=by
 obtain ⟨o,es,ep,t,ho,hex,hd,T⟩:=id hS
 have hsz:=T.size
 have hps:=fits_size T.ft
 unfold setRoomFor
 refine wpAny_bind (wpAny_setState_of ho hd T.ft ?_)
 cases e:t.roomFor more with
 | none=>exact wpAny_pure (h s.heap (Heap.SameBut.refl a s.heap) hS)
 | some wanted=>
  have hw:wanted = (t.place.size + more) * 2:=by
   unfold SetTable.roomFor at e
   split at e
   ·injection e with e
    exact e.symm
   ·cases e
  exact relayI hS (by omega) (by omega) h
end
end L2
namespace L2
open PySem PySem.Spec PyProof.Rows
section
variable {P:Program} {w:World} {A:Around} {E:Value->Shared->Prop} {s:Shared} {a o:Addr}
structure FreshT (w:World) (n:Nat) (T:SetTable):Prop where
 pl:T.place = #[]
 du:T.dummies = #[]
 pw:Pw (T.mask + 1)
 lt:n < T.mask + 1
 ld:w.params.followText "set-order" = false->T.led = true
def freshS (w:World) (a:Addr) (n:Nat) (h:Heap):Prop:=∃ ob ep T,h.get? a = some ob/\ob.ExactSet/\ob.data = .set #[] ep T/\FreshT w n T
theorem room_fresh {more:Nat} {Q:Unit->Shared->Prop} (hS:freshS w a 4 s.heap) (hm:more ≤ 60)
  (h:∀ h',Heap.SameBut a s.heap h'->freshS w a more h'->Q () { s with heap:=h' }):wpAny (model P w) A (setRoomFor a more) Q E s:=by
 obtain ⟨ob,ep,T,ho,hx,hd,F⟩:=hS
 have hf:T.fits (#[]:Array (Int × Value)).size = true:=by unfold SetTable.fits SetTable.fill;rw [F.pl,F.du];simp
 unfold setRoomFor
 refine wpAny_bind (wpAny_setState_of ho hd hf ?_)
 cases e:T.roomFor more with
 | none=>
  refine wpAny_pure (h s.heap (Heap.SameBut.refl a s.heap) ⟨ob,ep,T,ho,hx,hd,F.pl,F.du,F.pw,?_,F.ld⟩)
  unfold SetTable.roomFor SetTable.fill at e
  rw [F.pl,F.du] at e
  split at e
  ·cases e
  ·rename_i q
   simp at q
   have:=F.pw.pos
   omega
 | some wanted=>
  have hw:wanted = more * 2:=by
   unfold SetTable.roomFor at e
   rw [F.pl] at e
   split at e
   ·injection e with e
    rw [← e]
    simp
   ·cases e
  obtain ⟨p1,p2⟩:=above_pw (show wanted < 128 by omega)
  show wpAny _ _ (setRelay a wanted) _ _ _
  unfold setRelay
  refine wpAny_bind (wpAny_setState_of ho hd hf ?_)
  show wpAny _ _ (if SetTable.sizeAbove wanted > sizeLine then _ else _) _ _ _
  rw [if_neg (Nat.not_lt.mpr (above_small (by omega)))]
  have er:T.relaid (Array.map (fun x:Int × Value=>x.1) #[]) wanted = some ({ mask:=SetTable.sizeAbove wanted - 1,place:=#[],dummies:=#[],finger:=T.finger,led:=T.led,moves:=T.movedTo (SetTable.sizeAbove wanted - 1),plain:=T.plain },#[]):=by
   unfold SetTable.relaid
   rw [show Array.map (fun x:Int × Value=>x.1) #[] = #[] from by simp]
   exact laid_none _ _ _ _ _
  rw [er]
  have e1:SetTable.sizeAbove wanted - 1 + 1 = SetTable.sizeAbove wanted:=by have:=p1.pos;omega
  have F':FreshT w more { mask:=SetTable.sizeAbove wanted - 1,place:=#[],dummies:=#[],finger:=T.finger,led:=T.led,moves:=T.movedTo (SetTable.sizeAbove wanted - 1),plain:=T.plain }:=⟨rfl,rfl,by show Pw (_ - 1 + 1);rw [e1];exact p1,by show more < _ - 1 + 1;omega,F.ld⟩
  generalize ({ mask:=SetTable.sizeAbove wanted - 1,place:=#[],dummies:=#[],finger:=T.finger,led:=T.led,moves:=T.movedTo (SetTable.sizeAbove wanted - 1),plain:=T.plain }:SetTable) = T' at F' ⊢
  have hT:T'.fits 0 = true:=by unfold SetTable.fits SetTable.fill;rw [F'.pl,F'.du];simp
  refine wpAny_bind (show wpAny _ _ (pure ((#[]:Array (Int × Value)),T')) _ _ _ from wpAny_pure ?_)
  refine wpAny_storeSet_of ho hd ?_ (Nat.zero_le _)
  obtain ⟨ho2,_⟩:=SetOf_store (knd:=mixKind P w) ho hx hd (es':=#[]) (t':=T') (S':=fun _=>false) (fun e he=>by simp at he) (fun k=>by simp) (by decide) hT
  exact h _ (Heap.SameBut.update _ a _) ⟨_,_,_,ho2,hx,rfl,F'⟩
theorem merge_fresh {zs:List Int} {each:Sem Unit} {Q:Unit->Shared->Prop} (hne:a ≠ o) (hS:freshS w a 4 s.heap) (hO:setI P w o zs s.heap) (hz:zs.length ≤ 60)
  (h0:zs = []->Q () s) (h:∀ h',zs ≠ []->Heap.SameBut a s.heap h'->setI P w a zs h'->Q () { s with heap:=h' }):wpAny (model P w) A (setMerge a o each) Q E s:=by
 obtain ⟨oo,eo,epo,to,ho,hexo,hdo,TO⟩:=id hO
 have hsz:=TO.size
 unfold setMerge
 rw [if_neg (by simpa using hne)]
 refine wpAny_bind (wpAny_setState_of ho hdo TO.ft ?_)
 dsimp only
 by_cases hemp:eo.isEmpty = true
 ·rw [if_pos hemp]
  refine wpAny_pure (h0 ?_)
  have:eo.size = 0:=by simpa using hemp
  exact List.eq_nil_of_length_eq_zero (by omega)
 rw [if_neg hemp]
 have hzn:zs ≠ []:=fun q=>by
  subst q
  exact hemp (by simpa using hsz)
 refine wpAny_bind (room_fresh hS (by omega) fun h1 sb1 hS1=>?_)
 obtain ⟨ob,ep,T,ho1,hx1,hd1,F⟩:=hS1
 have hf:T.fits (#[]:Array (Int × Value)).size = true:=by unfold SetTable.fits SetTable.fill;rw [F.pl,F.du];simp
 refine wpAny_bind (wpAny_setState_of (s:={ s with heap:=h1 }) ho1 hd1 hf ?_)
 dsimp only
 have hfill:(T.fill != 0) = false:=by unfold SetTable.fill;rw [F.pl,F.du];rfl
 have hps:=fits_size TO.ft
 cases er:T.road to with
 | oneByOne=>
  exfalso
  unfold SetTable.road at er
  rw [hfill] at er
  simp only [Bool.false_eq_true,if_false] at er
  split at er <;> cases er
 | slotForSlot=>
  dsimp only
  have T':SetI P w eo { to with finger:=T.finger,led:=T.led && to.led,moves:=T.moves,plain:=T.plain && to.plain } zs:=⟨TO.el,TO.tx,TO.pm,TO.nd,TO.bd,TO.ft,fun q=>by show (T.led && to.led) = true;rw [F.ld q,TO.ld q];rfl,TO.rs⟩
  refine wpAny_storeSet_of (s:={ s with heap:=h1 }) ho1 hd1 ?_ (fits_of_scanBound T'.bd)
  obtain ⟨ho2,_⟩:=SetOf_store (knd:=mixKind P w) ho1 hx1 hd1 T'.el T'.of T'.bd T'.ft
  exact h _ hzn (sb1.trans (Heap.SameBut.update _ a _)) ⟨_,_,_,_,ho2,hx1,rfl,T'⟩
 | clean=>
  dsimp only
  obtain ⟨t',o',el,es1,T'⟩:=TO.laid (mask:=T.mask) (f:=T.finger) (mv:=T.moves) (a:=T.led && to.led) (b:=T.plain && to.plain) F.pw (by have:=F.lt;omega) (fun q=>by rw [F.ld q,TO.ld q];rfl)
  rw [el]
  refine wpAny_bind (show wpAny _ _ (if (o'.filterMap (eo[·]?)).size != eo.size then _ else pure (o'.filterMap (eo[·]?),t')) _ _ _ from ?_)
  rw [if_neg (by rw [es1];simp)]
  refine wpAny_pure ?_
  refine wpAny_storeSet_of (s:={ s with heap:=h1 }) ho1 hd1 ?_ (fits_of_scanBound T'.bd)
  obtain ⟨ho2,_⟩:=SetOf_store (knd:=mixKind P w) ho1 hx1 hd1 T'.el T'.of T'.bd T'.ft
  exact h _ hzn (sb1.trans (Heap.SameBut.update _ a _)) ⟨_,_,_,_,ho2,hx1,rfl,T'⟩
end
end L2
namespace L2
open PySem PySem.Spec PyProof.Rows
theorem forIn_still {α β:Type} {b:β} {f:α->β->Sem (ForInStep β)}:∀ l:List α,(∀ x ∈ l,f x b = pure (.yield b))->forIn l b f = (pure b:Sem β)
 | [],_=>rfl
 | x :: r,h=>by
  rw [List.forIn_cons,h x List.mem_cons_self,pure_bind]
  exact forIn_still r fun y hy=>h y (List.mem_cons_of_mem _ hy)
section
variable {P:Program} {w:World} {A:Around} {E:Value->Shared->Prop} {s:Shared} {a o:Addr}
theorem walk_any {ob:Obj} {es:Array (Int × Value)} {ep:Nat} {t:SetTable} {zs:List Int} {Q:Array (Int × Value)->Shared->Prop} (ho:s.heap.get? o = some ob) (hd:ob.data = .set es ep t) (T:SetI P w es t zs)
  (h:∀ es' d,es'.toList.Perm es.toList->Q es' { s with drawn:=d }):wpAny (model P w) A (setWalk o) Q E s:=by
 have e0:s = { s with drawn:=s.drawn }:=by cases s;rfl
 unfold setWalk
 refine wpAny_bind (wpAny_setState_of ho hd T.ft ?_)
 dsimp only
 unfold setsByText
 refine wpAny_bind (wpAny_bind (wpAny_askSetting (wpAny_pure ?_)))
 refine wpAny_ite_split (fun q=>?_) fun q=>?_
 ·refine wpAny_bind (wpAny_askSetting (wpAny_pure ?_))
  rw [e0]
  exact h _ _ (pick_perm _ _)
 ·have hw:w.params.followText "set-order" = false:=by
   cases hq:w.params.followText "set-order" with
   | false=>rfl
   | true=>exact absurd hq q
  refine wpAny_ite_split (fun _=>?_) fun _=>?_
  ·refine wpAny_bind (wp_draw es.size _ _ _ (by simp) fun ys d hp=>?_)
   exact wpAny_pure (h _ d (by simpa using hp))
  ·refine wpAny_bind ?_
   refine wpAny_ite_split (fun q2=>?_) fun _=>?_
   ·rw [T.ld hw] at q2
    simp at q2
   ·refine wpAny_pure (wpAny_pure ?_)
    rw [e0]
    exact h _ _ (.refl _)
theorem unseen_any {ob:Obj} {es:Array (Int × Value)} {ep:Nat} {t:SetTable} {zs ks:List Int} {Q:Array (Int × Value)->Shared->Prop} (hne:a ≠ o) (ho:s.heap.get? o = some ob) (hex:ob.ExactSet) (hd:ob.data = .set es ep t) (T:SetI P w es t zs) (hA:setI P w a ks s.heap)
  (h:∀ es' d h',es'.toList.Perm es.toList->Heap.SameBut a s.heap h'->setI P w a ks h'->Q es' { s with heap:=h',drawn:=d }):wpAny (model P w) A (setWalkUnseen o [a] (some a)) Q E s:=by
 have e0:s = { s with heap:=s.heap }:=by cases s;rfl
 unfold setWalkUnseen
 refine wpAny_bind (wpAny_setState_of ho hd T.ft ?_)
 dsimp only
 unfold setsByText
 refine wpAny_bind (wpAny_bind (wpAny_askSetting (wpAny_pure ?_)))
 refine wpAny_ite_split (fun _=>?_) fun q=>?_
 ·exact walk_any ho hd T fun es' d hp=>h es' d s.heap hp (Heap.SameBut.refl a s.heap) hA
 ·unfold setsQuiet
  refine wpAny_bind ?_
  have quiet:∀ {es:Array (Int × Value)} {f:Int × Value->Option Bool × Unit->Sem (ForInStep (Option Bool × Unit))},(∀ e ∈ es.toList,f e (none,()) = pure (.yield (none,())))->forIn es (none,()) f = (pure (none,()):Sem (Option Bool × Unit)):=fun {es f} h=>by
   rw [← Array.forIn_toList]
   exact forIn_still _ h
  have still:∀ {es:Array (Int × Value)} {t:SetTable} {zs:List Int},SetI P w es t zs->∀ e ∈ es.toList,∃ h z k,e = (h,Value.int z k):=fun {es t zs} T e he=>by
   obtain ⟨z,k,q⟩:=T.tx e he
   obtain ⟨h,v⟩:=e
   exact ⟨h,z,k,by rw [show v = _ from q]⟩
  obtain ⟨oa,ea,epa,ta,hoa,hexa,hda,TA⟩:=id hA
  rw [List.forIn_cons]
  refine wpAny_bind (wpAny_bind (wpAny_bind (wpAny_setEntries_of ho hd T.ft ?_)))
  rw [quiet fun e he=>by obtain ⟨h,z,k,rfl⟩:=still T e he;rfl]
  refine wpAny_bind (wpAny_pure ?_)
  refine wpAny_pure ?_
  dsimp only
  rw [List.forIn_cons]
  refine wpAny_bind (wpAny_bind (wpAny_setEntries_of hoa hda TA.ft ?_))
  rw [quiet fun e he=>by obtain ⟨h,z,k,rfl⟩:=still TA e he;rfl]
  refine wpAny_bind (wpAny_pure ?_)
  refine wpAny_pure ?_
  dsimp only
  rw [List.forIn_nil]
  refine wpAny_pure ?_
  refine wpAny_pure ?_
  rw [if_neg (by decide)]
  refine wpAny_bind (wpAny_rule ?_)
  refine wpAny_bind (wpAny_setState_of hoa hda TA.ft ?_)
  dsimp only
  have e1:s = { s with heap:=s.heap,drawn:=s.drawn }:=by cases s;rfl
  refine wpAny_ite_split (fun _=>?_) fun _=>?_
  ·have T':SetI P w ea { ta with led:=ta.led && t.led,plain:=ta.plain && t.plain } ks:=⟨TA.el,TA.tx,TA.pm,TA.nd,TA.bd,TA.ft,fun q=>by show (ta.led && t.led) = true;rw [TA.ld q,T.ld q];rfl,TA.rs⟩
   refine wpAny_bind (wpAny_storeSet_of hoa hda ?_ (fits_of_scanBound T'.bd))
   obtain ⟨ho2,_⟩:=SetOf_store (knd:=mixKind P w) hoa hexa hda T'.el T'.of T'.bd T'.ft
   exact wpAny_pure (h es s.drawn _ (.refl _) (Heap.SameBut.update _ a _) ⟨_,_,_,_,ho2,hexa,rfl,T'⟩)
  ·refine wpAny_pure ?_
   rw [e1]
   exact h es s.drawn s.heap (.refl _) (Heap.SameBut.refl a s.heap) hA
end
end L2
namespace L2
open PySem PySem.Spec PyProof.Rows
theorem wp_list {α:Type} {M:Model} {A:Around} {E:Value->Shared->Prop} {Q:PUnit->Shared->Prop} {body:α->PUnit->Sem (ForInStep PUnit)} (I:Nat->Shared->Prop) (l:List α)
  (step:∀ i x s,l[i]? = some x->I i s->wpAny M A (body x PUnit.unit) (fun r s'=>r = .yield PUnit.unit/\I (i + 1) s') E s) (fin:∀ s,I l.length s->Q PUnit.unit s) :
  ∀ (n i:Nat) (s:Shared),n = l.length - i->i ≤ l.length->I i s->wpAny M A (forIn (l.drop i) PUnit.unit body) Q E s:=by
 intro n
 induction n with
 | zero=>
  intro i s hn hi hI
  have:i = l.length:=by omega
  subst this
  rw [List.drop_length]
  exact wpAny_pure (fin s hI)
 | succ n ih=>
  intro i s hn hi hI
  have hlt:i < l.length:=by omega
  rw [List.drop_eq_getElem_cons hlt,List.forIn_cons]
  refine wpAny_bind (wpAny_mono (step i _ s (List.getElem?_eq_getElem hlt) hI) (fun r s' hr=>?_) fun _ _ z=>z)
  obtain ⟨rfl,hI'⟩:=hr
  exact ih (i + 1) s' (by omega) (by omega) hI'
theorem addI_mem {zs:List Int} {z x:Int}:x ∈ addI zs z ↔ x ∈ zs\/x = z:=by
 unfold addI
 split
 ·exact ⟨.inl,fun h=>h.elim id fun e=>e ▸ ‹_›⟩
 ·rw [List.mem_append,List.mem_singleton]
theorem foldI_mem:∀ (ys zs:List Int) {x:Int},x ∈ ys.foldl addI zs ↔ x ∈ zs\/x ∈ ys
 | [],zs,x=>by simp
 | y :: r,zs,x=>by
  rw [List.foldl_cons,foldI_mem r,addI_mem,List.mem_cons]
  constructor
  ·rintro ((h | h) | h)
   ·exact .inl h
   ·exact .inr (.inl h)
   ·exact .inr (.inr h)
  ·rintro (h | h | h)
   ·exact .inl (.inl h)
   ·exact .inl (.inr h)
   ·exact .inr h
section
variable {P:Program} {w:World} {A:Around} {E:Value->Shared->Prop} {s:Shared} {a o:Addr}
theorem merge_more {ks zs:List Int} {each:Sem Unit} {Q:Unit->Shared->Prop} (hne:a ≠ o) (hA:setI P w a ks s.heap) (hO:setI P w o zs s.heap) (hz:ks.length + zs.length ≤ 60) (hk:ks ≠ [])
  (hE:∀ (s':Shared) (Q':Unit->Shared->Prop),s'.heap.get? o = s.heap.get? o->Q' () s'->wpAny (model P w) A each Q' E s')
  (h:∀ h' d ms,Heap.SameBut a s.heap h'->setI P w a ms h'->(∀ x,x ∈ ms ↔ x ∈ ks\/x ∈ zs)->Q () { s with heap:=h',drawn:=d }):wpAny (model P w) A (setMerge a o each) Q E s:=by
 obtain ⟨oo,eo,epo,to,ho,hexo,hdo,TO⟩:=id hO
 have hsz:=TO.size
 have e0:s = { s with heap:=s.heap,drawn:=s.drawn }:=by cases s;rfl
 unfold setMerge
 rw [if_neg (by simpa using hne)]
 refine wpAny_bind (wpAny_setState_of ho hdo TO.ft ?_)
 dsimp only
 by_cases hemp:eo.isEmpty = true
 ·rw [if_pos hemp]
  have hez:eo.size = 0:=by simpa using hemp
  have hz0:zs = []:=List.eq_nil_of_length_eq_zero (by omega)
  refine wpAny_pure ?_
  rw [e0]
  refine h s.heap s.drawn ks (Heap.SameBut.refl a s.heap) hA fun x=>?_
  rw [hz0]
  simp
 rw [if_neg hemp]
 refine wpAny_bind (roomI hA (by omega) fun h1 sb1 hA1=>?_)
 obtain ⟨oa,ea,epa,ta,hoa,hexa,hda,TA⟩:=id hA1
 refine wpAny_bind (wpAny_setState_of (s:={ s with heap:=h1 }) hoa hda TA.ft ?_)
 dsimp only
 have hps:=fits_size TA.ft
 have hsa:=TA.size
 have hroad:ta.road to = .oneByOne:=by
  unfold SetTable.road
  rw [if_pos]
  have:0 < ks.length:=List.length_pos_iff.mpr hk
  have hf:ta.fill ≠ 0:=by unfold SetTable.fill;omega
  simpa using hf
 rw [hroad]
 dsimp only
 have ho1:=(sb1.2 o hne.symm).trans ho
 refine wpAny_bind (unseen_any (s:={ s with heap:=h1 }) hne ho1 hexo hdo TO hA1 fun es' d h2 hp sb2 hA2=>?_)
 have ho2:=(sb2.2 o hne.symm).trans ho1
 rw [← Array.forIn_toList]
 refine wpAny_bind (wp_list (fun i s'=>∃ h',s' = { s with heap:=h',drawn:=d }/\Heap.SameBut a s.heap h'/\setI P w a (((es'.toList.take i).map inE).foldl addI ks) h') es'.toList ?_ ?_ _ 0 _ rfl (Nat.zero_le _) ⟨h2,rfl,sb1.trans sb2,hA2⟩)
 ·rintro i ⟨hh,x⟩ s' hx ⟨h',rfl,sb,hS⟩
  have hil:i < es'.toList.length:=(List.getElem?_eq_some_iff.mp hx).1
  have hem:=hp.mem_iff.mp (List.mem_of_getElem? hx)
  obtain ⟨z,tk,ez⟩:=TO.tx _ hem
  obtain ⟨⟨k,k1,k2⟩,_⟩:=TO.el _ hem
  have ez':x = .int z tk:=ez
  subst ez'
  have ek:k = .inl z:=(mixKind P w).inj _ _ _ k1 (show (mixKind P w).is (.inl z) (.int z tk) = true from keyIs_int z tk)
  subst ek
  have k2':hh = (mixKind P w).hash (.inl z):=k2
  subst k2'
  have hle:(((es'.toList.take i).map inE).foldl addI ks).length + 1 < scanBound:=by
   have:=fold_lenI ((es'.toList.take i).map inE) ks
   rw [List.length_map,List.length_take] at this
   have h3:es'.toList.length = eo.size:=by rw [hp.length_eq,Array.length_toList]
   unfold scanBound
   omega
  dsimp only
  refine wpAny_bind (wpAny_holding (add_int (s:={ s with heap:=h',drawn:=d }) hS hle fun b h'' sb' hS'=>?_))
  have oo':h''.get? o = s.heap.get? o:=(sb'.2 o hne.symm).trans (sb.2 o hne.symm)
  refine wpAny_bind (hE _ _ oo' ?_)
  refine wpAny_bind (wpAny_setState_of (s:={ s with heap:=h'',drawn:=d }) (oo'.trans ho) hdo TO.ft ?_)
  rw [if_neg (by simp)]
  refine wpAny_pure ⟨rfl,h'',rfl,sb.trans sb',?_⟩
  have et:((es'.toList.take (i + 1)).map inE).foldl addI ks = addI (((es'.toList.take i).map inE).foldl addI ks) z:=by
   rw [List.take_succ,hx,List.map_append,List.foldl_append]
   rfl
  rw [et]
  exact hS'
 ·rintro s' ⟨h',rfl,sb,hS⟩
  rw [List.take_length] at hS
  refine wpAny_pure (h h' d _ sb hS fun x=>?_)
  rw [foldI_mem,(hp.map inE).mem_iff,TO.pm.mem_iff]
theorem entry_set_or':entryFor table "set.__or__" = some Builtin.«frozenset.__or__»:=
 entryFor_alias (id':="frozenset.__or__") (by kernel_rfl) rfl (by decide +kernel) (by kernel_rfl)
theorem or_sets {a b:Addr} {ks zs:List Int} {Q:Value->Shared->Prop} (hne:a ≠ b) (hA:setI P w a ks s.heap) (hB:setI P w b zs s.heap) (hz:ks.length + zs.length ≤ 60)
  (hq:∀ h' d ms,(∀ c ob,s.heap.get? c = some ob->h'.get? c = some ob)->setI P w s.heap.objs.size ms h'->(∀ x,x ∈ ms ↔ x ∈ ks\/x ∈ zs)->Q (.ref s.heap.objs.size) { s with heap:=h',drawn:=d }):wpAny (model P w) A (binaryOp .BitOr (.ref a) (.ref b)) Q E s:=by
 obtain ⟨oa,ea,epa,ta,o1,o2,o3,TA⟩:=id hA
 obtain ⟨ob,eb,epb,tb,p1,p2,p3,TB⟩:=id hB
 have Ta:s.TypeIs (.ref a) "set":=⟨oa,o1,o2.1⟩
 have Tb:s.TypeIs (.ref b) "set":=⟨ob,p1,p2.1⟩
 refine wpAny_binaryOp_same Ta Tb F.fills_set_or F.slot_set_or (wpAny_call_entry F.slot_set_or Ta entry_set_or' ?_ (F.args_set_or_2 _ _))
 have t0:isSubtype (.type "set") (.type "set") = pure true:=by rw [isSubtype_type];kernel_rfl
 have t1:isSubtype (.type "set") (.type "frozenset") = pure false:=by rw [isSubtype_type];kernel_rfl
 obtain ⟨oc,od,oD,os⟩:=oa
 obtain ⟨pc,pd,pD,ps⟩:=ob
 simp only [Obj.ExactSet] at o2 o3 p2 p3
 obtain ⟨rfl,rfl,rfl⟩:=o2
 obtain ⟨rfl,rfl,rfl⟩:=p2
 subst o3 p3
 refine wpAny_bind ?_
 generalize eC:Builtin.Frozenset.copyOf = CO
 generalize eU:Builtin.Frozenset.updateFrom = UF
 wp_walk
 refine wpAny_askSetting (wpAny_pure ?_)
 show wpAny _ _ (newObj (.type "set") (.set #[] 0 (.fresh 0 0 (!w.params.followText "set-order")))) _ _ _
 refine wpAny_newObj_type ?_
 refine wpAny_bind (wpAny_pure ?_)
 have hn0:(s.heap.push { cls:=.type "set",dict:=none,data:=.set #[] 0 (.fresh 0 0 (!w.params.followText "set-order")) }).get? s.heap.objs.size = some { cls:=.type "set",dict:=none,data:=.set #[] 0 (.fresh 0 0 (!w.params.followText "set-order")) }:=Heap.get?_push_size _ rfl
 have hF:freshS w s.heap.objs.size 4 (s.heap.push { cls:=.type "set",dict:=none,data:=.set #[] 0 (.fresh 0 0 (!w.params.followText "set-order")) }):=⟨_,_,_,hn0,⟨rfl,rfl,rfl⟩,rfl,rfl,rfl,.inl rfl,(show 4 < 8 by decide),fun q=>by show (!w.params.followText "set-order") = true;rw [q];rfl⟩
 have k1:∀ c ob,s.heap.get? c = some ob->(s.heap.push { cls:=.type "set",dict:=none,data:=.set #[] 0 (.fresh 0 0 (!w.params.followText "set-order")) }).get? c = some ob:=fun c ob e=>Heap.get?_push_of_some _ e
 generalize s.heap.push { cls:=.type "set",dict:=none,data:=.set #[] 0 (.fresh 0 0 (!w.params.followText "set-order")) } = h1 at hn0 hF k1 ⊢
 have na:s.heap.objs.size ≠ a:=Nat.ne_of_gt (Heap.lt_size o1)
 have nb:s.heap.objs.size ≠ b:=Nat.ne_of_gt (Heap.lt_size p1)
 have hA1:setI P w a ks h1:=hA.keep fun ob e=>k1 _ _ e
 have hB1:setI P w b zs h1:=hB.keep fun ob e=>k1 _ _ e
 have second:∀ h2:Heap,(∀ c ob,s.heap.get? c = some ob->h2.get? c = some ob)->((ks = []/\freshS w s.heap.objs.size 4 h2)\/(ks ≠ []/\setI P w s.heap.objs.size ks h2))->wpAny (model P w) A.in1 (pure (Value.ref s.heap.objs.size)) (fun a_4 s'=>
         wpAny (model P w) A.in1
          (have __do_jp:=fun __r=>pure a_4;
          if
            ((if false = true then (Value.ref b,Value.ref a) else (Value.ref a,Value.ref b)).snd !=
              Value.ref a) =
             true then
           do
           let __do_lift ← Builtin.Frozenset.addrOf a_4
           let __r ←
            holding [a_4]
              (Builtin.Frozenset.updateFrom (toString "frozenset." ++ toString "__or__") __do_lift
               (if false = true then (Value.ref b,Value.ref a) else (Value.ref a,Value.ref b)).snd)
           __do_jp __r
          else __do_jp ())
          (fun a s'=>
           wpAny (model P w) A.in1 (ret a)
            (fun fin s'=>∃ v,fin = Fin.done (Flow.ret v)/\v ≠ Value.notImplemented/\Q v s') E s')
          E s') E { s with heap:=h2 }:=by
  intro h2 k2 hc
  have q1:=k2 _ _ p1
  have hB2:setI P w b zs h2:=hB.keep fun ob e=>k2 _ _ e
  have Tb2:Shared.TypeIs { s with heap:=h2 } (.ref b) "set":=⟨_,q1,rfl⟩
  have e0:({ s with heap:=h2 }:Shared) = { s with heap:=h2,drawn:=s.drawn }:=rfl
  refine wpAny_pure ?_
  dsimp only
  rw [if_pos (by simpa using Ne.symm hne)]
  refine wpAny_bind (wpAny_pure ?_)
  refine wpAny_bind (wpAny_holding ?_)
  simp only [Bool.false_eq_true,if_false]
  unfold Builtin.Frozenset.updateFrom Builtin.Frozenset.isAnySet
  refine wpAny_bind (wpAny_bind (wpAny_isInstance (T:="set") (b:=true) Tb2 t0 ?_))
  refine wpAny_pure ?_
  rw [if_pos rfl]
  refine wpAny_bind (wpAny_pure ?_)
  unfold Builtin.Frozenset.merge
  refine wpAny_bind (wpAny_setEpoch_of (s:={ s with heap:=h2 }) q1 rfl TB.ft ?_)
  have fin:∀ h' d ms,Heap.SameBut s.heap.objs.size h2 h'->setI P w s.heap.objs.size ms h'->(∀ x,x ∈ ms ↔ x ∈ ks\/x ∈ zs)->wpAny (model P w) A.in1 (pure (Value.ref s.heap.objs.size)) (fun a s'=>wpAny (model P w) A.in1 (ret a) (fun fin s'=>∃ v,fin = Fin.done (Flow.ret v)/\v ≠ Value.notImplemented/\Q v s') E s') E { s with heap:=h',drawn:=d }:=fun h' d ms sb hS hm=>by
   refine wpAny_pure (wpAny_pure ⟨_,rfl,(fun z=>nomatch z),hq h' d ms (fun c ob e=>?_) hS hm⟩)
   exact (sb.2 c (Nat.ne_of_lt (Heap.lt_size e))).trans (k2 c ob e)
  rcases hc with ⟨rfl,hF2⟩ | ⟨hk,hS2⟩
  ·refine merge_fresh (s:={ s with heap:=h2 }) nb hF2 hB2 (by simpa using hz) (fun hz0=>?_) fun h' _ sb hS=>fin h' s.drawn zs sb hS fun x=>by simp
   subst hz0
   obtain ⟨ob,ep,T,g1,g2,g3,F⟩:=hF2
   have hf:T.fits (#[]:Array (Int × Value)).size = true:=by unfold SetTable.fits SetTable.fill;rw [F.pl,F.du];simp
   exact fin h2 s.drawn [] (Heap.SameBut.refl _ _) ⟨ob,#[],ep,T,g1,g2,g3,fun e he=>by simp at he,fun e he=>by simp at he,by simp,List.nodup_nil,by decide,hf,F.ld,by rw [F.pl];exact List.Pairwise.nil⟩ fun x=>by simp
  ·refine merge_more (s:={ s with heap:=h2 }) nb hS2 hB2 hz hk (fun s' Q' e hq'=>?_) fun h' d ms sb hS hm=>fin h' d ms sb hS hm
   unfold Builtin.Frozenset.unchanged
   refine wpAny_bind (wpAny_setEpoch_of (e.trans q1) rfl TB.ft ?_)
   rw [if_neg (by simp)]
   exact wpAny_pure hq'
 refine wpAny_bind (merge_fresh (s:={ s with heap:=h1 }) na hF hA1 (by omega) (fun hk0=>?_) fun h' hk sb hS=>?_)
 ·exact second h1 k1 (.inl ⟨hk0,hF⟩)
 ·exact second h' (fun c ob e=>(sb.2 c (Nat.ne_of_lt (Heap.lt_size e))).trans (k1 c ob e)) (.inr ⟨hk,hS⟩)
end
section
variable {X:Cx}
theorem op_orI:OpR X (binaryOp .BitOr) (fun x y H Q=>∃ (a b:Addr) (ks zs:List Int),x = .ref a/\y = .ref b/\a ≠ b/\H a = some (.ext (setI X.prog X.w a ks))/\H b = some (.ext (setI X.prog X.w b zs))/\ks.length + zs.length ≤ 60/\∀ p ms,H p = none->ms.Nodup->(∀ x,x ∈ ms ↔ x ∈ ks\/x ∈ zs)->Q (.ref p) (upd H p (.ext (setI X.prog X.w p ms)))):=by
 intro pins s σ H x y v u Q I rx ry h
 obtain ⟨a,b,ks,zs,rfl,rfl,hne,ha,hb,hz,q⟩:=h
 cases rx
 cases ry
 obtain ⟨ha',_⟩:=I.hok a _ ha
 obtain ⟨hb',_⟩:=I.hok b _ hb
 refine or_sets hne ha' hb' hz fun h' d ms k hS hm=>?_
 obtain ⟨_,_,_,_,_,_,_,T⟩:=id hS
 exact ⟨.ref s.heap.objs.size,_,(I.draw (d:=d)).laid (a:=s.heap.objs.size) (t':=s.toks) k (Nat.le_refl _) (setI_ok hS),rfl,q _ ms (I.hok.fresh (Nat.le_refl _)) T.nd hm⟩
end
end L2
namespace L2
open PySem PySem.Spec PyProof.Rows
section
variable {X:Cx}
end
end L2
namespace L2
open PySem PySem.Spec PyProof.Rows
section
variable {prog:Program} {w:World} {A:Around} {E:Value->Shared->Prop} {s:Shared} {R:Result->Shared->Prop}
variable {I:Addr} {fp wr:List Addr} {G:Array GenState->Array GenState->Prop} {n:Nat} {P:Nat->Value->Prop} {St:Nat->Shared->Prop}
end
section
variable {X:Cx}
end
end L2
namespace L2
open PySem PySem.Spec PyProof.Rows PySem.Builtin PySem.Builtin.Dict
theorem wp_alive {M:Model} {A:Around} {E:Value->Shared->Prop} {s:Shared} {a:Addr} {Q:Option Obj->Shared->Prop} (h:Q (s.heap.get? a) s):wpAny M A (loadIfAlive a) Q E s:=fun Γ p _=>by
 unfold loadIfAlive
 rw [Sem.wp_loadIfAlive]
 exact h
theorem enum_no_keys:typeLookup (.type "enumerate") "keys" = pure none:=am_miss_of_fast (by decide +kernel)
theorem enum_getattr_none:typeLookup (.type "enumerate") "__getattr__" = pure none:=by rw [typeLookup_type,builtinLookup_eq_fast];kernel_rfl
theorem entry_enum_getattribute:entryFor table "enumerate.__getattribute__" = some Builtin.«object.__getattribute__»:=
 entryFor_alias (id':="object.__getattribute__") (by kernel_rfl) (by decide +kernel) (by decide +kernel) (by kernel_rfl)
theorem meets_miss_enum (a:Addr) (vs:Array Value) (name:Str) (u:Tok) (hmiss:typeLookup (.type "enumerate") name = pure none) (hname:(["__module__","__name__","__qualname__","__doc__","__annotations__"]:List Str).contains name = false) (hsz:name.length + 100 ≤ sizeLine:=by size_fits) :
  Meets (Builtin.«object.__getattribute__» ⟨[.ref a,.str name u],[]⟩) (fun A R s=>s.heap.get? a = some { cls:=.type "enumerate",dict:=none,data:=.fields vs,slots:=#[] }/\raisesAttr (.ref a) name A R s):=
 Meets.of_wp fun prog w A R s hs=>by
  obtain ⟨hp,g,d,tk,os⟩:=s
  obtain ⟨hx,hs⟩:=hs
  have hT:(⟨hp,g,d,tk,os⟩:Shared).TypeIs (.ref a) "enumerate":=⟨_,hx,rfl⟩
  unfold Builtin.«object.__getattribute__»
  repeat (any_goals (first | assumption | wp_step))
  simp only [hname,Bool.false_eq_true,if_false]
  repeat (any_goals (first | assumption | wp_step))
  exact wpAny_raiseAttrError hs.1 hs.2 (attrMsg_fits (by decide +kernel) hsz)
theorem miss_keysE {prog:Program} {w:World} {A:Around} {E:Value->Shared->Prop} {s:Shared} {a:Addr} {vs:Array Value} {Q:Option Value->Shared->Prop}
  (hx:s.heap.get? a = some { cls:=.type "enumerate",dict:=none,data:=.fields vs,slots:=#[] }) (hA:A.handled = none)
  (h:∀ h' tk,(∀ b ob,s.heap.get? b = some ob->h'.get? b = some ob)->Q none { s with heap:=h',toks:=tk }):wpAny (model prog w) A (getAttr? (.ref a) "keys") Q E s:=by
 obtain ⟨hp,g,d,tk,os⟩:=s
 have hT:∀ tk',(⟨hp,g,d,tk',os⟩:Shared).TypeIs (.ref a) "enumerate":=fun _=>⟨_,hx,rfl⟩
 have f1:=sub_AttributeError
 have f3:=F.slot_enumerate_getattribute.lookup
 have f4:=F.slot_enumerate_getattribute.bind (.ref a)
 have f5:=enum_getattr_none
 unfold getAttr? getAttrBy? getAttrBy
 repeat (any_goals (first | assumption | exact hT _ | ((with_reducible show wpAny _ _ (call (Value.builtin "enumerate.__getattribute__") _ _) _ _ _);refine call_meets F.slot_enumerate_getattribute (hT _) entry_enum_getattribute (F.args_enumerate_getattribute_2 _ _) (meets_miss_enum a vs "keys" _ enum_no_keys (by decide +kernel) (by size_fits)) ⟨hx,hA,fun h' tk' e hx'=>?_⟩) | wp_step))
 obtain ⟨t',u',he⟩:=hx'.there
 show wpAny _ _ (getattributeRaised _ _ _ _ _ _ _) _ _ _
 unfold getattributeRaised
 repeat (any_goals (first | assumption | wp_step))
 exact h _ _ hx'.keeps
def EnumO (h:Heap) (e it:Addr) (i:Int):Prop:=∃ (f0 f1 item:Value),h.get? e = some { cls:=.type "enumerate",dict:=none,data:=.fields #[f0,f1,.ref it,rawInt i,.none,item],slots:=#[] }/\((f0 = .none/\f1 = .bool false)\/∃ (a:Nat) (o:Obj) (b:Bool),f0 = rawInt a/\f1 = .bool b/\a ≠ e/\a ≠ it/\h.get? a = some o)
section
variable {prog:Program} {w:World} {A:Around} {E:Value->Shared->Prop} {s:Shared}
theorem enum_out_item {e it l:Addr} {i:Nat} {items:Array Value} {x:Value} {Q:Option Value->Shared->Prop}
  (he:EnumO s.heap e it i) (hit:s.heap.IsListIter it l i) (hl:s.heap.IsList l items) (hx:items[i]? = some x) (hne:e ≠ it)
  (hQ:∀ h',EnumO h' e it ((i:Int) + 1)->h'.IsListIter it l (i + 1) →
   h'.get? s.heap.objs.size = some { cls:=.type "tuple",data:=.seq #[.int i s.toks,x] }->h'.objs.size = s.heap.objs.size + 1 →
   (∀ b o,b ≠ e->b ≠ it->s.heap.get? b = some o->h'.get? b = some o)->Q (some (.ref s.heap.objs.size)) { s with heap:=h',toks:=s.toks + 1 }) :
  wpAny (model prog w) A (pyNext (.ref e)) Q E s:=by
 obtain ⟨f0,f1,old,he,hf⟩:=he
 rcases hf with ⟨rfl,rfl⟩ | ⟨a,oa,b,rfl,rfl,ae,ai,ha⟩
 ·have hel:e < s.heap.objs.size:=Heap.lt_size he
  have hil:it < s.heap.objs.size:=by obtain ⟨o,ho,_⟩:=id hit;exact Heap.lt_size ho
  exact wpAny_pyNext_enum_item he hit hl hx hne fun h' a b c d k=>hQ h' ⟨_,_,_,a,.inr ⟨_,_,_,rfl,rfl,Nat.ne_of_gt hel,Nat.ne_of_gt hil,c⟩⟩ b c d k
 ·have hT:s.TypeIs (.ref e) "enumerate":=⟨_,he,rfl⟩
  unfold pyNext
  refine wpAny_bind (wpAny_attempt (wpAny_callSpecial?_slot (name:=Str.ofString "__next__") hT F.slot_enumerate_next (wpAny_call_entry F.slot_enumerate_next hT F.entry_enumerate_next ?_ (F.args_enumerate_next_1 _))))
  obtain ⟨hp,g,d,tk,os⟩:=s
  show wpAny _ _ (field (.ref e) 2 >>= _) _ _ _
  refine wpAny_bind (wpAny_field he rfl (x:=.ref it) rfl ?_)
  refine wpAny_bind (wpAny_nextOf_list_item hit hl hx fun h₁ hit₁ hs₁=>?_)
  replace hs₁:Heap.SameBut it hp h₁:=hs₁
  have he₁:=(hs₁.2 e hne).trans he
  show wpAny _ _ (field (.ref e) 3 >>= _) _ _ ⟨h₁,g,d,tk,os⟩
  refine wpAny_bind (wpAny_field he₁ rfl (x:=rawInt i) rfl ?_)
  show wpAny _ _ (field (.ref e) 4 >>= _) _ _ ⟨h₁,g,d,tk,os⟩
  refine wpAny_bind (wpAny_field he₁ rfl (x:=.none) rfl ?_)
  show wpAny _ _ (mkInt i >>= _) _ _ ⟨h₁,g,d,tk,os⟩
  refine wpAny_bind (wpAny_mkInt ?_)
  show wpAny _ _ (setField (.ref e) 3 (rawInt ((i:Int) + 1)) >>= _) _ _ ⟨h₁,g,d,tk + 1,os⟩
  refine wpAny_bind (wpAny_setField_rec he₁ (by simp) fun h₂ he₂ hs₂=>?_)
  replace hs₂:Heap.SameBut e h₁ h₂:=hs₂
  show wpAny _ _ (setField (.ref e) 4 .none >>= _) _ _ ⟨h₂,g,d,tk + 1,os⟩
  refine wpAny_bind (wpAny_setField_rec he₂ (by simp) fun h₃ he₃ hs₃=>?_)
  replace hs₃:Heap.SameBut e h₂ h₃:=hs₃
  replace he₃:h₃.get? e = some { cls:=.type "enumerate",dict:=none,data:=.fields #[rawInt a,.bool b,.ref it,rawInt ((i:Int) + 1),.none,old],slots:=#[] }:=he₃
  show wpAny _ _ (newTuple [.int i tk,x] >>= _) _ _ ⟨h₃,g,d,tk + 1,os⟩
  refine wpAny_bind (wpAny_newTuple ?_)
  have he₄:=Heap.get?_push_of_some { cls:=.type "tuple",data:=.seq #[.int i tk,x] } he₃
  generalize hh₄:h₃.push { cls:=.type "tuple",data:=.seq #[.int i tk,x] } = h₄ at he₄
  have hsz:h₃.objs.size = hp.objs.size:=by rw [hs₃.1,hs₂.1,hs₁.1]
  have hel:e < hp.objs.size:=Heap.lt_size he
  have ht₄:h₄.get? hp.objs.size = some { cls:=.type "tuple",data:=.seq #[.int i tk,x] }:=by rw [← hh₄,← hsz];exact Heap.get?_push_size _ rfl
  have hz₄:h₄.objs.size = hp.objs.size + 1:=by rw [← hh₄,Heap.size_push,hsz]
  have hk₄:∀ b o,b ≠ e->b ≠ it->hp.get? b = some o->h₄.get? b = some o:=fun b o hbe hbi hb=>by
   rw [← hh₄];exact Heap.get?_push_of_some _ (hs₃.extBut b o hbe (hs₂.extBut b o hbe (hs₁.extBut b o hbi hb)))
  have hit₄:h₄.IsListIter it l (i + 1):=by
   rw [← hh₄];obtain ⟨o,ho,r⟩:=(hit₁.extBut hs₂.extBut (Ne.symm hne)).extBut hs₃.extBut (Ne.symm hne);exact ⟨o,Heap.get?_push_of_some _ ho,r⟩
  have ha₄:=hk₄ a oa ae ai ha
  show wpAny _ _ (Builtin.SmallTypes.ownedTupleIsFree (.ref e) >>= _) _ _ ⟨h₄,g,d,tk + 1,os⟩
  rw [hsz]
  clear hh₄ he₃ hs₃ he₂ hs₂ he₁ hs₁ hit₁ hsz h₃ h₂ h₁
  refine wpAny_bind ?_
  unfold Builtin.SmallTypes.ownedTupleIsFree
  refine wpAny_bind (wpAny_field he₄ rfl (x:=rawInt a) rfl ?_)
  show wpAny _ _ (loadIfAlive (Int.toNat a) >>= _) _ _ _
  rw [Int.toNat_natCast]
  refine wpAny_bind (wp_alive ?_)
  rw [show (Shared.heap ⟨h₄,g,d,tk + 1,os⟩).get? a = some oa from ha₄]
  show wpAny _ _ (field (.ref e) 1 >>= _) _ _ _
  refine wpAny_bind (wpAny_field he₄ rfl (x:=.bool b) rfl ?_)
  cases b with
  | true=>
   rw [if_neg (by decide)]
   refine wpAny_pure ?_
   simp only [Bool.false_eq_true,if_false]
   exact wpAny_pure ⟨_,rfl,wpAny_pure (hQ h₄ ⟨_,_,_,he₄,.inr ⟨a,oa,true,rfl,rfl,ae,ai,ha₄⟩⟩ hit₄ ht₄ hz₄ hk₄)⟩
  | false=>
   rw [if_pos (by decide)]
   refine wpAny_bind (wpAny_setField_rec he₄ (by simp) fun h₅ he₅ hs₅=>?_)
   replace hs₅:Heap.SameBut e h₄ h₅:=hs₅
   refine wpAny_pure ?_
   simp only [Bool.false_eq_true,if_false]
   refine wpAny_pure ⟨_,rfl,wpAny_pure (hQ h₅ ⟨_,_,_,he₅,.inr ⟨a,oa,true,rfl,rfl,ae,ai,(hs₅.2 a ae).trans ha₄⟩⟩ (hit₄.extBut hs₅.extBut (Ne.symm hne)) ?_ ?_ ?_)⟩
   ·exact hs₅.extBut _ _ (Nat.ne_of_gt hel) ht₄
   ·rw [hs₅.1,hz₄]
   ·exact fun b o hbe hbi hb=>hs₅.extBut b o hbe (hk₄ b o hbe hbi hb)
theorem enum_out_end {e it l:Addr} {i:Nat} {items:Array Value} {Q:Option Value->Shared->Prop} (hh:A.handled = none)
  (he:EnumO s.heap e it i) (hit:s.heap.IsListIter it l i) (hl:s.heap.IsList l items) (hx:items[i]? = none)
  (hQ:∀ h',Heap.ExtBut it s.heap h'->Q none { s with heap:=h' }):wpAny (model prog w) A (pyNext (.ref e)) Q E s:=by
 obtain ⟨f0,f1,old,he,_⟩:=he
 have hT:s.TypeIs (.ref e) "enumerate":=⟨_,he,rfl⟩
 unfold pyNext
 refine wpAny_bind (wpAny_attempt (wpAny_callSpecial?_slot (name:=Str.ofString "__next__") hT F.slot_enumerate_next
  (wpAny_call_entry F.slot_enumerate_next hT F.entry_enumerate_next ?_ (F.args_enumerate_next_1 _))))
 show wpAny _ _ (field (.ref e) 2 >>= _) _ _ _
 refine wpAny_bind (wpAny_field he rfl (x:=.ref it) rfl ?_)
 refine wpAny_bind (wpAny_nextOf_list_end hh hit hl hx fun h' x he' hx'=>?_)
 obtain ⟨o,ho,hc⟩:=hx'
 refine wpAny_bind (wpAny_isInstance (T:="StopIteration") (b:=true) ⟨o,ho,hc⟩ isSubtype_stop ?_)
 exact wpAny_pure (hQ _ he')
end
def enK (xs:List Value):List (Key × Value):=xs.mapIdx fun i v=>(.inl (i:Nat),v)
theorem enK_len (xs:List Value):(enK xs).length = xs.length:=List.length_mapIdx ..
theorem enK_get {xs:List Value} {i:Nat} {v:Value} (h:xs[i]? = some v):(enK xs)[i]? = some (.inl (i:Nat),v):=by
 unfold enK
 rw [List.getElem?_mapIdx,h]
 rfl
theorem enK_key {xs:List Value} {j:Nat} (h:j < (enK xs).length):(enK xs)[j].1 = .inl (j:Nat):=by
 have hj:j < xs.length:=by rw [enK_len] at h;exact h
 have:=enK_get (List.getElem?_eq_getElem hj)
 rw [List.getElem?_eq_getElem h] at this
 injection this with this
 rw [this]
section
variable {prog:Program} {w:World} {A:Around} {R:Result->Shared->Prop}
theorem enum_loop {h0:Heap} {d e it l:Addr} {items:Array Value} (hh:A.handled = none) (ht:h0.IsList l items) (lne:l ≠ it/\l ≠ d/\l ≠ e) (idne:it ≠ d) (ene:e ≠ it) (edne:e ≠ d) (hz:items.size ≤ 1000) :
  ∀ (m i:Nat) (tk:Tok) (s:Shared),i + m = items.size->EnumO s.heap e it i->s.heap.IsListIter it l i->d < s.heap.objs.size->s.heap.DictOf (mixKind prog w) d ((enK items.toList).take i)->(∀ b o,b ≠ it->b ≠ d->b ≠ e->h0.get? b = some o->s.heap.get? b = some o) →
  (∀ (h':Heap) (k:Nat),h'.DictOf (mixKind prog w) d (enK items.toList)->(∀ b o,b ≠ it->b ≠ d->b ≠ e->h0.get? b = some o->h'.get? b = some o)->R (.ok (.ret .none)) { s with heap:=h',toks:=k }) →
  codeAny (model prog w) A (.builtin "dict.update.loop" ⟨[.ref d,.ref e,.int i tk,.none],[]⟩) R s
 | 0,i,tk,s,hi,hen,hit,hdl,hd,kp,hq=>by
  refine codeAny_builtin entry_upd_loop ?_
  unfold Builtin.«dict.update.loop»
  dsimp only
  obtain ⟨o,ho,hc,n,hdt⟩:=id ht
  refine wpAny_bind (enum_out_end (items:=items) hh hen hit ⟨o,kp l o lne.1 lne.2.1 lne.2.2 ho,hc,n,hdt⟩ (by rw [Array.getElem?_eq_none (by omega)]) fun h' ex=>?_)
  dsimp only
  refine wpAny_bind (wpAny_pure (wpAny_pure ?_))
  have e:(enK items.toList).take i = enK items.toList:=List.take_of_length_le (by rw [enK_len,Array.length_toList];omega)
  rw [e] at hd
  exact hq h' s.toks (hd.extBut ex idne.symm) fun b o hb1 hb2 hb3 q=>ex b o hb1 (kp b o hb1 hb2 hb3 q)
 | m + 1,i,tk,s,hi,hen,hit,hdl,hd,kp,hq=>by
  refine codeAny_builtin entry_upd_loop ?_
  unfold Builtin.«dict.update.loop»
  dsimp only
  obtain ⟨o,ho,hc,n,hdt⟩:=id ht
  have hil:i < items.size:=by omega
  have ex:items[i]? = some items[i]:=Array.getElem?_eq_getElem hil
  refine wpAny_bind (enum_out_item (items:=items) hen hit ⟨o,kp l o lne.1 lne.2.1 lne.2.2 ho,hc,n,hdt⟩ ex ene fun h1 en1 it1 ht1 hsz1 kp1=>?_)
  dsimp only
  have hd1:h1.DictOf (mixKind prog w) d ((enK items.toList).take i):=by
   obtain ⟨od,es,ep,g,r⟩:=hd
   exact ⟨od,es,ep,kp1 d od edne.symm idne.symm g,r⟩
  refine wpAny_bind (wpAny_holding (wpAny_bind (wpAny_tryCatch ?_)))
  unfold Dict.pairItems
  refine wpAny_bind (wpAny_typeOf (T:="tuple") ⟨_,ht1,rfl⟩ ?_)
  rw [if_pos (by decide)]
  refine wpAny_bind (wpAny_seqItems ht1 rfl (wpAny_pure ?_))
  show wpAny _ _ (holding [.int i s.toks,items[i]] (dictSet d (.int i s.toks) items[i])) _ _ _
  refine wpAny_holding (wpAny_dictSet_pairs (knd:=mixKind prog w) (k:=.inl (i:Nat)) (show (mixKind prog w).is (.inl ((i:Nat):Int)) (.int i s.toks) = true from keyIs_int i s.toks) hd1 (fun h2 hd2 sb2=>?_) (by rw [List.length_take,enK_len,Array.length_toList,sizeLine_eq];omega))
  refine wpAny_pure ⟨Code.quiet_builtin _ (by decide +kernel),?_⟩
  have es:stored ((enK items.toList).take i) (.inl (i:Nat)) items[i] = (enK items.toList).take (i + 1):=by
   have no:(((enK items.toList).take i).any fun kv=>decide (kv.1 = .inl (i:Nat))) = false:=by
    rw [List.any_eq_false]
    intro kv hkv
    rw [decide_eq_true_iff]
    intro ek
    obtain ⟨j,hj,ej⟩:=List.mem_take_iff_getElem.mp hkv
    have hj2:j < (enK items.toList).length:=by omega
    have:=enK_key hj2
    rw [ej,ek] at this
    injection this with this
    omega
   unfold stored
   rw [if_neg (by rw [no];decide),List.take_add_one,enK_get (show items.toList[i]? = some items[i] by rw [Array.getElem?_toList];exact ex)]
   rfl
  rw [es] at hd2
  have en2:EnumO h2 e it ((i:Int) + 1):=by
   obtain ⟨f0,f1,item,g,al⟩:=en1
   refine ⟨f0,f1,item,(sb2.2 e edne).trans g,?_⟩
   rcases al with al | ⟨a,oa,b,q1,q2,q3,q4,q5⟩
   ·exact .inl al
   ·by_cases had:a = d
    ·subst had
     obtain ⟨od,es',ep,g',_⟩:=id hd2
     exact .inr ⟨a,od,b,q1,q2,q3,q4,g'⟩
    ·exact .inr ⟨a,oa,b,q1,q2,q3,q4,(sb2.2 a had).trans q5⟩
  have en3:EnumO h2 e it ((i + 1:Nat):Int):=by
   rw [show ((i + 1:Nat):Int) = (i:Int) + 1 by omega]
   exact en2
  have it2:h2.IsListIter it l (i + 1):=by
   obtain ⟨oi,g1,g2⟩:=it1
   exact ⟨oi,(sb2.2 it idne).trans g1,g2⟩
  have hdl2:d < h2.objs.size:=by
   rw [sb2.1]
   show d < h1.objs.size
   rw [hsz1]
   exact Nat.lt_succ_of_lt hdl
  exact enum_loop hh ht lne idne ene edne hz m (i + 1) _ _ (by omega) en3 it2 hdl2 hd2 (fun b o hb1 hb2 hb3 q=>(sb2.2 b hb2).trans (kp1 b o hb3 hb1 (kp b o hb1 hb2 hb3 q))) fun h' k' x y=>hq h' k' x y
end
end L2
namespace L2
open PySem PySem.Spec PyProof.Rows PySem.Builtin PySem.Builtin.Dict
def enV (xs:List V):List (Key × V):=xs.mapIdx fun i v=>(.inl (i:Nat),v)
def tDEnum (K:PySem.W.Frag) (tl:TE):TE:=fun σ H Q=>tl σ H fun x H1=>∃ a xs,[x] = [V.ref a]/\SqL K H1 a xs/\xs.length ≤ 1000/\∀ p,H1 p = none->Q (.ref p) (upd H1 p (.dK (enV xs)))
section
variable {X:Cx}
theorem pe_dictEnum {l:Expr} {tl:TE} {p1 p2 pos1 pos2:Pos} (hc:X.calm = true) (hgL:Gl X "dict") (hmL:X.mg "dict" = none) (hgR:Gl X "enumerate") (hmR:X.mg "enumerate" = none) (hl:PE X l tl)
  (hs:starEach [l] X.env = [(false,eval l X.env)]:=by rfl) (hs2:starEach [Expr.Call (.Name "enumerate" p2) [l] [] pos2] X.env = [(false,eval (.Call (.Name "enumerate" p2) [l] [] pos2) X.env)]:=by rfl) :
  PE X (.Call (.Name "dict" p1) [.Call (.Name "enumerate" p2) [l] [] pos2] [] pos1) (tDEnum X.K tl):=by
 intro pins s σ H Q I h
 refine wpAny_Call_Name_kw (ld_blt I hgL hmL boot_dict ?_)
 refine PyProof.Rows.callWith_type1 ?_ hs2 rfl
 rw [hs2]
 show wpAny _ _ (spliced ((false,eval (.Call (.Name "enumerate" p2) [l] [] pos2) X.env) :: backTo pos1 [])) _ _ s
 refine Calls.spliced_cons ?_
 refine Call_ (ld_blt I hgR hmR boot_enum (PyProof.Rows.callWith_type1 (thn ((pa_cons hl pa_nil hs) pos2 pins s σ H (fun vs H1=>∃ a xs,vs = [V.ref a]/\SqL X.K H1 a xs/\xs.length ≤ 1000/\∀ p,H1 p = none->Q (.ref p) (upd H1 p (.dK (enV xs)))) I h) fun us s1 ⟨vs,H1,I1,r1,q1⟩=>?_) hs rfl))
 obtain ⟨a,xs,e,hq,hx1000,q⟩:=q1
 subst e
 obtain ⟨u,rfl,rx⟩:=vals1 r1
 cases rx
 obtain ⟨its,rv,pl,hz⟩:=I1.list hq
 have hl':=rv.length
 have hlt:a < s1.heap.objs.size:=by obtain ⟨_,e,_⟩:=pl.isList;exact Heap.lt_size e
 refine call_enumerate_list pl.isList fun h1 he hi hsz hk=>Calls.spliced_nil ?_
 have hh:=I.ok.hd hc
 have I2:Inv X pins σ H1 { s1 with heap:=h1 }:=I1.kept (t':=s1.toks) hk
 have hl1:h1.IsList a its.toArray:=pl.isList.at fun o e=>hk a o e
 have ene:s1.heap.objs.size + 1 ≠ s1.heap.objs.size:=Nat.succ_ne_self _
 generalize hD:h1.objs.size = d at *
 refine callType_codes (Q₁:=fun obj s₁=>obj = .ref h1.objs.size/\s₁ = { s1 with heap:=h1.push { cls:=.type "dict",data:=.dict #[] } }) F.kt_called_dict (F.kt_typeCall_dict_1 _) F.entry_dict_init (kt_code_dict_new _ ⟨rfl,rfl⟩) ?_
 rintro obj s₁ ⟨rfl,rfl⟩
 rw [hD]
 have hnew:(h1.push { cls:=.type "dict",data:=.dict #[] }).DictOf (mixKind X.prog X.w) h1.objs.size []:=Heap.DictOf.new h1
 rw [hD] at hnew
 have k2:∀ b o,h1.get? b = some o->(h1.push { cls:=.type "dict",data:=.dict #[] }).get? b = some o:=fun b o e=>Heap.get?_push_of_some _ e
 generalize h1.push { cls:=.type "dict",data:=.dict #[] } = h2 at *
 refine ⟨hnew.typeIs,F.args_dict_init_2 _ _,?_⟩
 unfold Builtin.«dict.__init__»
 refine wpAny_bind ?_
 unfold Builtin.Dict.selfAndRest
 refine wpAny_bind (wpAny_notOrdered_dict hnew.typeIs ?_)
 show wpAny _ _ (pure (d,[Value.ref (s1.heap.objs.size + 1)])) _ _ _
 refine wpAny_pure ?_
 show wpAny _ _ (Builtin.Dict.updateFrom "dict.__init__" d (.ref (s1.heap.objs.size + 1)) [] .none) _ _ _
 unfold Builtin.Dict.updateFrom
 have he2:=k2 _ _ he
 refine wpAny_bind (wpAny_typeOf (T:="enumerate") ⟨_,he2,rfl⟩ ?_)
 rw [if_pos (by decide)]
 refine wpAny_bind (miss_keysE he2 hh fun h3 tk3 kp3=>?_)
 rw [if_pos (show (none:Option Value).isNone = true from rfl)]
 have kp:∀ b ob,h1.get? b = some ob->h3.get? b = some ob:=fun b ob e=>kp3 b ob (k2 b ob e)
 have dd3:h3.DictOf (mixKind X.prog X.w) d []:=by
  obtain ⟨od,es,ep,gg,rr⟩:=hnew
  exact ⟨od,es,ep,kp3 _ _ gg,rr⟩
 have hdlt:d < h3.objs.size:=by
  obtain ⟨od,es,ep,gg,rr⟩:=dd3
  exact Heap.lt_size gg
 have he3:=kp _ _ he
 refine wpAny_bind (wpAny_rule ?_)
 refine wpAny_bind (wpAny_pyIter_enum he3 ?_)
 refine wpAny_pure ⟨Code.quiet_builtin _ (by decide +kernel),?_⟩
 have hsd:s1.heap.objs.size < d:=by omega
 have ed:s1.heap.objs.size + 1 ≠ d:=by omega
 have id_:s1.heap.objs.size ≠ d:=by omega
 refine enum_loop (A:=X.A.in1) (items:=its.toArray) (h0:=h3) (l:=a) (d:=d) (e:=s1.heap.objs.size + 1) (it:=s1.heap.objs.size) hh (hl1.at fun o e=>kp a o e) ⟨Nat.ne_of_lt hlt,Nat.ne_of_lt (Nat.lt_trans hlt hsd),Nat.ne_of_lt (Nat.lt_succ_of_lt hlt)⟩ id_ ene ed (by rw [List.size_toArray];omega) its.toArray.size 0 _ { s1 with heap:=h3,toks:=tk3 } (by omega) ⟨_,_,_,he3,.inl ⟨rfl,rfl⟩⟩ (hi.at fun o e=>kp _ o e) hdlt dd3 (fun b o _ _ _ e=>e) fun h4 tk4 dd4 kp4=>?_
 refine ⟨rfl,?_⟩
 have nl:∀ b,s1.heap.objs.size ≤ b->H1 b = none:=fun b hb=>I1.hok.fresh hb
 have I3:Inv X pins σ H1 { s1 with heap:=h4,toks:=tk4 }:=Inv.turnedL (s:={ s1 with heap:=h1 }) (t':=tk4) (h':=h4) (ch:=[s1.heap.objs.size + 1,s1.heap.objs.size]) I2 (fun b o hb e=>by
  simp only [List.mem_cons,List.not_mem_nil,or_false,not_or] at hb
  exact kp4 b o hb.2 (fun z=>absurd (Heap.lt_size e) (by rw [z];show ¬ d < h1.objs.size;rw [hD];exact Nat.lt_irrefl _)) hb.1 (kp b o e)) (fun b hb=>by
  have nb:s1.heap.objs.size ≤ b:=by
   rcases List.mem_cons.mp hb with z | z
   ·rw [z];exact Nat.le_succ _
   ·rw [List.mem_singleton.mp z];exact Nat.le_refl _
  exact I1.fpOk nb (I1.hok.fresh nb))
 have rel:KV (enV xs) (enK its):=kv_of (by unfold enV;rw [enK_len,List.length_mapIdx];omega) fun j k v e=>by
  unfold enV at e
  rw [List.getElem?_mapIdx] at e
  cases hj:xs[j]? with
  | none=>rw [hj] at e;cases e
  | some y=>
   rw [hj] at e
   cases e
   obtain ⟨u,hu,ru⟩:=rv.get hj
   exact ⟨u,enK_get hu,ru⟩
 have dd5:h4.DictOf (mixKind X.prog X.w) d (enK its):=by simpa using dd4
 refine ⟨.ref d,_,I3.track (o:=.dK (enV xs)) (I2.our (by show h1.objs.size ≤ d;omega)) (dk_new (by unfold enV;rw [List.length_mapIdx,sizeLine_eq];omega) (beq_eq_false_iff_ne.mpr (Ne.symm (Nat.ne_of_lt (Nat.lt_trans I1.big hsd)))) rel dd5),rfl,q d (nl d (by omega))⟩
end
end L2
namespace L2
open PySem PySem.Spec PyProof.Rows
theorem entry_valiter_iter:entryFor table "dict_valueiterator.__iter__" = some Builtin.«dict_keyiterator.__iter__»:=
 entryFor_alias (id':="dict_keyiterator.__iter__") (by kernel_rfl) rfl (by decide +kernel) (by kernel_rfl)
theorem iter_valiter {prog:Program} {w:World} {A:Around} {E:Value->Shared->Prop} {s:Shared} {it d:Addr} {i n ep:Nat} {Q:Value->Shared->Prop} (hit:s.heap.IsValIter it d i n ep) (h:Q (.ref it) s):wpAny (model prog w) A (pyIter (.ref it)) Q E s:=by
 have hT:=hit.typeIs
 refine wpAny_pyIter_slot hT F.slot_dict_valueiterator_iter (wpAny_call_entry F.slot_dict_valueiterator_iter hT entry_valiter_iter ?_ (F.args_dict_valueiterator_iter_1 _))
 show wpAny _ _ (ret (.ref it)) _ _ s
 exact wpAny_pure ⟨_,rfl,"dict_valueiterator",_,hT,F.slot_dict_valueiterator_next.lookup,h⟩
theorem Heap.IsValIter.at' {h h':Heap} {it d:Addr} {i n ep:Nat} (x:h.IsValIter it d i n ep) (e:∀ o,h.get? it = some o->h'.get? it = some o):h'.IsValIter it d i n ep:=let ⟨o,ho,r⟩:=x;⟨o,e _ ho,r⟩
def Itw (a:Addr) (o:Obj) (kvs:List (Key × V)):It:=
 ⟨fun i H=>i < kvs.length/\H a = some (.frz o (.dK kvs)),fun i H x H'=>H' = H/\∃ k,kvs[i]? = some (k,x),fun i H=>kvs.length ≤ i/\H a = some (.frz o (.dK kvs))⟩
section
variable {X:Cx}
theorem turn_values {P:Program} {w:World} {K:PySem.W.Frag} {tg:Expr} (a it:Addr) (o:Obj) (kvs:List (Key × V)):Turn P w K tg (Itw a o kvs) [it] it (fun i h=>h.IsValIter it a i kvs.length (epOf o)) where
 mem:=by simp
 obj:=fun i h st b hb=>by
  have e:b = it:=by simpa using hb
  subst e
  obtain ⟨o,e,c,d⟩:=st
  exact ⟨o,e,fun v z=>by rw [d] at z;cases z⟩
 keep:=fun i h h' st k=>Heap.IsValIter.at' st fun o e=>k it (by simp) o e
 item:=by
  intro X hP hw hK hc i pins s σ H E I hf st hg
  subst hP hw hK
  obtain ⟨hi,hq⟩:=hg
  obtain ⟨vs,kv,da,_⟩:=I.dictAt hq
  have hl:=kv.len
  obtain ⟨u,hu,ru⟩:=kv_get kv (show kvs[i]? = some (kvs[i].1,kvs[i].2) by simp [hi])
  obtain ⟨f0,f1,f2,f3,f4,f5⟩:=hf it (by simp)
  rw [hl] at st
  refine wpAny_pyNext_values_item st da hu fun h' st' sb=>?_
  rw [← hl] at st'
  have I1:Inv X pins σ H { s with heap:=h' }:=I.turned (t':=s.toks) (fun b o hb e=>(sb.2 b hb).trans e) f0 f1 f3 f4 f5
  obtain ⟨oi,e,c,d⟩:=id st'
  exact ⟨u,rfl,go_of (s:={ s with heap:=h' }) e c d (by decide) ⟨kvs[i].2,H,I1,ru,⟨rfl,kvs[i].1,by simp [hi]⟩,st',fun b hb=>(hf b hb).1⟩⟩
 done:=by
  intro X hP hw hK hc i pins s σ H E I hf st hg
  subst hP hw hK
  obtain ⟨hi,hq⟩:=hg
  obtain ⟨vs,kv,da,_⟩:=I.dictAt hq
  have hl:=kv.len
  obtain ⟨f0,f1,f2,f3,f4,f5⟩:=hf it (by simp)
  rw [hl] at st
  exact wpAny_pyNext_values_end (I.ok.hd hc) st da (by simp;omega) fun h' eb=>⟨rfl,I.turned (t':=s.toks) (fun b o hb e=>eb b o hb e) f0 f1 f3 f4 f5⟩
 self:=fun _ _ _ _ _ st h=>iter_valiter st h
def iValues (tl:TE):TI:=fun σ H R=>tl σ H fun x H1=>∃ a o kvs,x = .ref a/\H1 a = some (.frz o (.dK kvs))/\R (Itw a o kvs) H1
theorem pi_values {tg l:Expr} {tl:TE} {apos cpos:Pos} (hl:PE X l tl) (hbase:attributeBase l "values" X.env (eval l X.env) = eval l X.env:=by rfl) (hline:(apos.endLine == cpos.line) = true:=by rfl) :
  PI X tg (.Call (.Attribute l "values" apos) [] [] cpos) (iValues tl):=by
 intro pins s σ H R I h
 refine wpAny_Call_method0_late hbase hline (thn (hl pins s σ H _ I h) fun v s1 ⟨x,H1,I1,r1,q1⟩=>?_)
 obtain ⟨a,o,kvs,e,hq,q⟩:=q1
 subst e
 cases r1
 obtain ⟨vs,kv,da,hs⟩:=I1.dictAt hq
 obtain ⟨g,_⟩:=I1.hok a _ hq
 have ex:o.ExactDict:=by
  obtain ⟨o',es',g',x',_⟩:=id da
  rw [g] at g'
  cases g'
  exact x'
 refine ⟨"dict","dict.values",F.plainAttrs_dict,F.slot_dict_values,F.type_dict_values,da.dictOf.typeIs,(fun b e=>by cases e;exact ⟨o,g,ex.2.1⟩),Calls.callWith_builtin rfl (PySem.evalArgs_none ?_)⟩
 refine call_meetsIn F.slot_dict_values da.dictOf.typeIs F.entry_dict_values (F.args_dict_values_1 _) (meets_dict_values (mixKind X.prog X.w) a hs) ⟨⟨vs,da.dictOf⟩,?_⟩
 have I2:Inv X pins σ H1 { s1 with heap:=s1.heap.push { cls:=.type "dict_values",data:=.fields #[.ref a] } }:=I1.kept (t':=s1.toks) fun b o e=>Heap.get?_push_of_some _ e
 refine wpAny_pyIter_values (s:={ s1 with heap:=s1.heap.push { cls:=.type "dict_values",data:=.fields #[.ref a] } }) (knd:=mixKind X.prog X.w) (kvs:=vs) (ep:=epOf o) ⟨_,Heap.get?_push_size _ rfl,rfl,rfl⟩ (da.push _) ?_
 refine ⟨_,[_],_,_,H1,rfl,I2.kept (t':=s1.toks) fun b o e=>Heap.get?_push_of_some _ e,turn_values a _ o kvs,⟨_,Heap.get?_push_size _ rfl,rfl,by rw [kv.len];rfl⟩,fun b hb=>?_,q⟩
 have e:=List.mem_singleton.mp hb
 subst e
 exact I2.fpOk (Nat.le_refl _) (I2.hok.fresh (Nat.le_refl _))
end
end L2
namespace My
open PySem L2 PyProof.Rows
seal L2.PE L2.PT L2.PW L2.PS L2.PSs L2.PA L2.PI L2.PG L2.PGs L2.OpR L2.UnR L2.CallR L2.IxR L2.SlR L2.MtR L2.PIf L2.PO L2.MtM L2.PC
def fitB (z:Str) (n:String):Bool:=if z = "word" then n == "str" else n == "int"
def spFit (K:PySem.W.Frag) (ps:List V->V->V->Prop):Sp:=fun vs H Q _=>∃ (a:Addr) (z:Str) (x:V) (n:String),ps vs (.ref a) x/\H a = some (.tup [.str z])/\(z = "whole"\/z = "word")/\Is K H x n/\∀ H',Same H H'->Q (.bl (fitB z n)) H'
section
variable {P:Program} {w:World} {K:PySem.W.Frag} {mg:Str->Option Value} {base:Heap}
theorem ok_whole {f:Addr} {fd:FuncData} (F:Fun K "is_whole" "is_whole" (top 12) f fd) (B:Bl mg):FnOk P w K mg base CX0 1 f fd ["thing"] (spWhole K):=by
 have sc:FnScope ["thing"] ["thing"] (defScope (top 12)):=⟨rfl,rfl,rfl,by decide +kernel,rfl,by decide +kernel,by decide +kernel⟩
 refine F.ok sc (fun vs H Q E h=>?_) (fun cdv A outer s H vs Q E hr h=>?_)
 ·obtain ⟨x,n,rfl,_⟩:=h
  rfl
 ·obtain ⟨x,n,rfl,hx,q⟩:=h
  refine ⟨_,pss_one (ps_ret (pe_and (pe_callB call_isi (by rfl) B.isi boot_isi (pa_cons (pv 0) (pa_cons (pe_bltn (v:=.ty "int") (by rfl) B.int boot_int rfl) pa_nil)))
   (pe_one (pe_not (pe_callB call_isi (by rfl) B.isi boot_isi (pa_cons (pv 0) (pa_cons (pe_bltn (v:=.ty "bool") (by rfl) B.bool boot_bool rfl) pa_nil))))))),?_⟩
  refine ⟨_,rfl,_,_,_,_,rfl,hx.1,kit_eq.trans (kit_int _ hx.2),_,rfl,?_⟩
  by_cases h1:n = "int"
  ·subst h1
   exact iteT ⟨_,rfl,_,_,_,_,rfl,hx.1,kit_eq.trans (kit_bool _ hx.2),_,rfl,q⟩
  ·have e1:(n == "int") = false:=beq_eq_false_iff_ne.mpr h1
   rw [e1] at q
   by_cases h2:n = "bool"
   ·subst h2
    exact iteT ⟨_,rfl,_,_,_,_,rfl,hx.1,kit_eq.trans (kit_bool _ hx.2),_,rfl,q⟩
   ·have e2:(n == "int" || n == "bool") = false:=by rw [e1,beq_eq_false_iff_ne.mpr h2];rfl
    rw [e2]
    exact iteF q
def psP (vs:List V) (k x:V):Prop:=vs = [k,x]
def psF (vs:List V) (k x:V):Prop:=∃ y,vs = [k,x,y]
theorem ok_fp {f fW:Addr} {fd fdW:FuncData} (F:Fun K "fits_plain" "fits_plain" (top 15) f fd) (B:Bl mg) (DW:Df K mg "is_whole" (top 12) fW fdW):FnOk P w K mg base CX0 2 f fd ["kind","value"] (spFit K psP):=by
 have sc:FnScope ["kind","value"] ["kind","value"] (defScope (top 15)):=⟨rfl,rfl,rfl,by decide +kernel,rfl,by decide +kernel,by decide +kernel⟩
 have GW:FnOk P w K mg base CX0 1 fW fdW ["thing"] (spWhole K):=ok_whole DW.fn B
 have bW:=DW.fn.binds (ps:=["thing"]) fun _ _ _ _ _ _ us hl=>by obtain ⟨v0,rfl⟩:=L2.ln1 hl;rfl
 refine F.ok sc (fun vs H Q E h=>?_) (fun cdv A outer s H vs Q E hr h=>?_)
 ·obtain ⟨a,z,x,n,rfl,_⟩:=h
  rfl
 ·obtain ⟨a,z,x,n,rfl,ha,hz,hx,q⟩:=h
  refine ⟨_,pss_cons (ps_if (pt_cmpR op_in_seq (pe_ix ix_tup (pv 0) pe_int (fun _ _=>rfl)) (pe_tup (pa_cons pe_str (pa_cons pe_str pa_nil))) (by with_unfolding_all rfl))
    (pss_one (ps_ret (pe_and (pe_callB call_isi (by rfl) B.isi boot_isi (pa_cons (pv 1) (pa_cons (pe_bltn (v:=.ty "str") (by rfl) B.str boot_str rfl) pa_nil)))
     (pe_one (pe_or (pe_cmpR op_eq (pe_ix ix_tup (pv 0) pe_int (fun _ _=>rfl)) pe_str (nomark _)) (pe_one (pe_cmpR op_notIn_str (pe_ix ix_tup (pv 0) pe_int (fun _ _=>rfl)) (pv 1) (by with_unfolding_all rfl)))))))) pss_nil)
   (pss_cons (ps_if (pt_not (pt_val (pe_call GW hr (by rfl) DW.mg DW.fn.kp bW .nil pass0 (pa_cons (pv 1) pa_nil)))) (pss_one (ps_ret pe_bl)) pss_nil)
   (pss_cons (ps_if (pt_cmpR op_eq (pe_ix ix_tup (pv 0) pe_int (fun _ _=>rfl)) pe_str (nomark _)) pss_never pss_nil)
   (pss_one (ps_ret (pe_or (pe_cmpR op_eq (pe_ix ix_tup (pv 0) pe_int (fun _ _=>rfl)) pe_str (nomark _)) (pe_one (pe_cmpR op_le (pv 1) (pe_ix ix_tup (pv 0) pe_int (fun _ _=>rfl)) (nomark _)))))))),?_⟩
  refine ⟨_,rfl,a,_,0,_,rfl,rfl,SqT.of ha,rfl,(by show 2 ≤ sizeLine;decide),fun p hp=>?_⟩
  have sm:=Same.upd (o:=.tup [.str "word",.str "without"]) hp
  have ep:(upd H p (.tup [.str "word",.str "without"])) p = some (.tup [.str "word",.str "without"]):=upd_same
  generalize upd H p (.tup [.str "word",.str "without"]) = H1 at *
  have ha1:=sm _ _ ha
  have hx1:=hx.same sm
  have q1:=q H1 sm
  refine ⟨p,_,rfl,.inr (SqT.of ep),rfl,rfl,_,rfl,?_⟩
  rcases hz with rfl | rfl
  ·refine iteC (by decide +kernel) ?_
   refine ⟨_,rfl,x,n,rfl,hx1,_,rfl,?_⟩
   have e0:fitB "whole" n = (n == "int"):=by unfold fitB;rw [if_neg (by decide +kernel)]
   rw [e0] at q1
   by_cases h1:n = "int"
   ·subst h1
    refine iteF ⟨_,rfl,a,_,0,_,rfl,rfl,SqT.of ha1,rfl,rfl,_,rfl,iteC (by decide +kernel) ?_⟩
    refine ⟨_,rfl,a,_,0,_,rfl,rfl,SqT.of ha1,rfl,rfl,_,rfl,iteB (by decide +kernel) ?_⟩
    exact q1
   ·have e1:(n == "int") = false:=beq_eq_false_iff_ne.mpr h1
    rw [e1] at q1 ⊢
    exact iteT q1
  ·refine iteB (by decide +kernel) ?_
   have e0:fitB "word" n = (n == "str"):=by unfold fitB;rw [if_pos rfl]
   rw [e0] at q1
   refine ⟨_,rfl,_,_,_,_,rfl,hx1.1,kit_eq.trans (kit_str _ hx.2),_,rfl,?_⟩
   by_cases h1:n = "str"
   ·subst h1
    refine iteB (by decide) ?_
    exact ⟨_,rfl,a,_,0,_,rfl,rfl,SqT.of ha1,rfl,rfl,_,rfl,iteB (by decide +kernel) q1⟩
   ·have e1:(n == "str") = false:=beq_eq_false_iff_ne.mpr h1
    rw [e1] at q1 ⊢
    exact iteF q1
theorem ok_fits {f fP fW:Addr} {fd fdP fdW:FuncData} (F:Fun K "fits" "fits" (top 13) f fd) (B:Bl mg) (DW:Df K mg "is_whole" (top 12) fW fdW) (DP:Df K mg "fits_plain" (top 15) fP fdP):FnOk P w K mg base CX0 3 f fd ["kind","value","size"] (spFit K psF):=by
 have sc:FnScope ["kind","value","size","sort"] ["kind","value","size"] (defScope (top 13)):=⟨rfl,rfl,rfl,by decide +kernel,rfl,by decide +kernel,by decide +kernel⟩
 have GP:FnOk P w K mg base CX0 2 fP fdP ["kind","value"] (spFit K psP):=ok_fp DP.fn B DW
 have bP:=DP.fn.binds (ps:=["kind","value"]) fun _ _ _ _ _ _ us hl=>by obtain ⟨v0,v1,rfl⟩:=L2.ln2 hl;rfl
 refine F.ok sc (fun vs H Q E h=>?_) (fun cdv A outer s H vs Q E hr h=>?_)
 ·obtain ⟨a,z,x,n,⟨y,rfl⟩,_⟩:=h
  rfl
 ·obtain ⟨a,z,x,n,⟨y,rfl⟩,ha,hz,hx,q⟩:=h
  refine ⟨_,pss_cons (ps_set (i:=3) sc.nd rfl (Or.inl rfl) (pe_ix ix_tup (pv 0) pe_int (fun _ _=>rfl)))
   (pss_cons (ps_if (pt_cmpR op_eq (pv 3) pe_str (nomark _)) pss_never pss_nil)
   (pss_cons (ps_if (pt_cmpR op_eq (pv 3) pe_str (nomark _)) pss_never pss_nil)
   (pss_cons (ps_if (pt_cmpR op_in_seq (pv 3) (pe_tup (pa_cons pe_str (pa_cons pe_str pa_nil))) (by with_unfolding_all rfl)) pss_never pss_nil)
   (pss_one (ps_ret (pe_call GP hr (by rfl) DP.mg DP.fn.kp bP .nil pass0 (pa_cons (pv 0) (pa_cons (pv 1) pa_nil)))))))),?_⟩
  refine ⟨_,rfl,a,_,0,_,rfl,rfl,SqT.of ha,rfl,?_⟩
  refine ⟨_,rfl,rfl,_,rfl,iteC (by rcases hz with rfl | rfl <;> decide +kernel) ?_⟩
  refine ⟨_,rfl,rfl,_,rfl,iteC (by rcases hz with rfl | rfl <;> decide +kernel) ?_⟩
  refine ⟨_,rfl,(by show 2 ≤ sizeLine;decide),fun p hp=>?_⟩
  have sm:=Same.upd (o:=.tup [.str "list",.str "some"]) hp
  have ep:(upd H p (.tup [.str "list",.str "some"])) p = some (.tup [.str "list",.str "some"]):=upd_same
  generalize upd H p (.tup [.str "list",.str "some"]) = H1 at *
  refine ⟨p,_,rfl,.inr (SqT.of ep),rfl,rfl,_,rfl,iteC (by rcases hz with rfl | rfl <;> decide +kernel) ?_⟩
  exact ⟨_,rfl,_,rfl,a,z,x,n,rfl,sm _ _ ha,hz,hx.same sm,fun H' s'=>q H' (sm.trans s')⟩
end
end My
namespace My
open PySem L2 PyProof.Rows
seal L2.PE L2.PT L2.PW L2.PS L2.PSs L2.PA L2.PI L2.PG L2.PGs L2.OpR L2.UnR L2.CallR L2.IxR L2.SlR L2.MtR L2.PIf L2.PO L2.MtM L2.PC
def spSortOf:Sp:=fun vs H Q _=>∃ (f:Addr) (sz:Int) (Ts:List Tb) (T:Tb),vs = [.ref f,.str T.name]/\FormAt H f sz Ts/\(Ts.map (·.name)).Nodup/\T ∈ Ts/\Q (.str T.sort) H
def RowIs (K:PySem.W.Frag) (H:Hp) (T:Tb) (x:V) (b:Bool):Prop:=
 (∃ n,Is K H x n/\n ≠ "dict"/\b = false) ∨
 (∃ r kvs,x = .ref r/\H r = some (.dK kvs)/\kvs.length ≤ 1000/\sameK (kvs.map (·.1)) ((kvC T.cols).map (·.1)) = false/\b = false) ∨
 ∃ (r:Addr) (kvs:List (Key × V)) (fz:Str->Bool),x = .ref r/\H r = some (.dK kvs)/\kvs.length ≤ 1000/\sameK (kvs.map (·.1)) ((kvC T.cols).map (·.1)) = true ∧
  (∀ c ∈ T.cols,∃ v n z,valV kvs (.inr c.1) = some v/\Is K H v n/\H c.2 = some (.tup [.str z])/\(z = "whole"\/z = "word")/\fz c.1 = fitB z n)/\b = T.cols.all fun c=>fz c.1
def spIsRow (K:PySem.W.Frag):Sp:=fun vs H Q _=>∃ (f:Addr) (sz:Int) (Ts:List Tb) (T:Tb) (x:V) (b:Bool),vs = [.ref f,.str T.name,x]/\FormAt H f sz Ts/\(Ts.map (·.name)).Nodup/\T ∈ Ts/\(T.cols.map (·.1)).Nodup/\T.cols.length ≤ 12/\Ts.length ≤ 8/\RowIs K H T x b/\∀ H',Same H H'->Q (.bl b) H'
section
variable {P:Program} {w:World} {K:PySem.W.Frag} {mg:Str->Option Value} {base:Heap}
theorem ok_sortOf {f fT:Addr} {fd fdT:FuncData} (F:Fun K "sort_of" "sort_of" (top 20) f fd) (DT:Df K mg "table_in" (top 22) fT fdT):FnOk P w K mg base CX0 2 f fd ["form","table"] spSortOf:=by
 have sc:FnScope ["form","table"] ["form","table"] (defScope (top 20)):=⟨rfl,rfl,rfl,by decide +kernel,rfl,by decide +kernel,by decide +kernel⟩
 have GT:FnOk P w K mg base CX0 1 fT fdT ["form","table"] spTabIn:=ok_tabIn DT.fn
 have bT:=DT.fn.binds (ps:=["form","table"]) fun _ _ _ _ _ _ us hl=>by obtain ⟨v0,v1,rfl⟩:=L2.ln2 hl;rfl
 refine F.ok sc (fun vs H Q E h=>?_) (fun cdv A outer s H vs Q E hr h=>?_)
 ·obtain ⟨f,sz,Ts,T,rfl,_⟩:=h
  rfl
 ·obtain ⟨f,sz,Ts,T,rfl,hf,nd,hT,q⟩:=h
  refine ⟨_,pss_one (ps_ret (pe_ix ix_tup (pe_call GT hr (by rfl) DT.mg DT.fn.kp bT .nil pass0 (pa_cons (pv 0) (pa_cons (pv 1) pa_nil))) pe_int (fun _ _=>rfl))),?_⟩
  refine ⟨_,rfl,_,rfl,f,sz,Ts,T,rfl,hf,nd,hT,fun e he=>?_⟩
  obtain ⟨ct,g1,_⟩:=he
  exact ⟨_,_,1,_,rfl,rfl,SqT.of g1,rfl,q⟩
theorem ok_isRow {f fT fC fI fF fP fW:Addr} {fd fdT fdC fdI fdF fdP fdW:FuncData} (F:Fun K "is_row" "is_row" (top 23) f fd) (B:Bl mg) (DT:Df K mg "tables_of" (top 18) fT fdT) (DC:Df K mg "columns_of" (top 21) fC fdC) (DI:Df K mg "table_in" (top 22) fI fdI) (DW:Df K mg "is_whole" (top 12) fW fdW) (DP:Df K mg "fits_plain" (top 15) fP fdP) (DF:Df K mg "fits" (top 13) fF fdF) :
  FnOk P w K mg base CX0 4 f fd ["form","table","row"] (spIsRow K):=by
 have sc:FnScope ["form","table","row","columns"] ["form","table","row"] (defScope (top 23)):=⟨rfl,rfl,rfl,by decide +kernel,rfl,by decide +kernel,by decide +kernel⟩
 have GT:FnOk P w K mg base CX0 1 fT fdT ["form"] spTabs:=ok_tabs DT.fn
 have bT:=DT.fn.binds (ps:=["form"]) fun _ _ _ _ _ _ us hl=>by obtain ⟨v0,rfl⟩:=L2.ln1 hl;rfl
 have GC:FnOk P w K mg base CX0 2 fC fdC ["form","table"] spColsOf:=ok_colsOf DC.fn B DI
 have bC:=DC.fn.binds (ps:=["form","table"]) fun _ _ _ _ _ _ us hl=>by obtain ⟨v0,v1,rfl⟩:=L2.ln2 hl;rfl
 have GF:FnOk P w K mg base CX0 3 fF fdF ["kind","value","size"] (spFit K psF):=ok_fits DF.fn B DW DP
 have bF:=DF.fn.binds (ps:=["kind","value","size"]) fun _ _ _ _ _ _ us hl=>by obtain ⟨v0,v1,v2,rfl⟩:=L2.ln3 hl;rfl
 refine F.ok sc (fun vs H Q E h=>?_) (fun cdv A outer s H vs Q E hr h=>?_)
 ·obtain ⟨f,sz,Ts,T,x,b,rfl,_⟩:=h
  rfl
 ·obtain ⟨fo,sz,Ts,T,x,b,rfl,hf,nd,hT,ndc,c12,t8,hrow,q⟩:=h
  have hr1:Room 1 _:=hr.mono (by decide)
  have hr2:Room 2 _:=hr.mono (by decide)
  have hu:(A.deeper (envOfC "is_row" (defScope (top 23)) s.heap.objs.size f cdv)).units + 1 < cLine:=hu_of hr
  have hu0:(A.deeper (envOfC "is_row" (defScope (top 23)) s.heap.objs.size f cdv)).units < cLine:=by omega
  have ndA:(["column","kind","row","form"]:List Str).Nodup:=by decide +kernel
  refine ⟨_,pss_cons (ps_if (PW.pt (pw_or (pt_cmpR op_notIn_seq (pv 1) (pe_call GT hr1 (by rfl) DT.mg DT.fn.kp bT .nil pass0 (pa_cons (pv 0) pa_nil)) (by with_unfolding_all rfl)) (pw_or1 (pt_not (pt_val (pe_callB call_isi (by rfl) B.isi boot_isi (pa_cons (pv 2) (pa_cons (pe_bltn (v:=.ty "dict") (by rfl) B.dict boot_dict rfl) pa_nil)))))))) (pss_one (ps_ret pe_bl)) pss_nil)
   (pss_cons (ps_set (i:=3) sc.nd rfl (Or.inl rfl) (pe_call GC hr2 (by rfl) DC.mg DC.fn.kp bC .nil pass0 (pa_cons (pv 0) (pa_cons (pv 1) pa_nil))))
   (pss_cons (ps_if (pt_cmpR (op_neS hu0) (pe_callTy call_setD (by rfl) B.set boot_set (pa_cons (pv 2) pa_nil)) (pe_callTy call_setD (by rfl) B.set boot_set (pa_cons (pv 3) pa_nil)) (nomark _)) (pss_one (ps_ret pe_bl)) pss_nil)
   (pss_one (ps_frz (ps_ret (pe_callB (call_all rfl) (by rfl) B.all boot_all (pa_cons (pe_comp (osc:=defScope (top 23)) (N0:=["form","table","row","columns"]) (xs:=["column","kind"]) (fr:=[2,0]) ⟨rfl,by decide +kernel,by decide +kernel,by decide +kernel,(fun j hj=>by
       have e:j = 2\/j = 0:=by simpa using hj
       rcases e with rfl | rfl
       ·exact ⟨_,rfl,by decide +kernel⟩
       ·exact ⟨_,rfl,by decide +kernel⟩),by decide +kernel⟩ rfl rfl rfl (pi_items (pv 3))
     (fun s H fp=>pg_tupK (n:=2) (K:=K) rfl rfl (pgs_cons (pg_name (i:=0) ndA rfl (Or.inl rfl)) (pgs_cons (pg_name (i:=1) ndA rfl (Or.inl rfl)) pgs_nil))) (fun s H fp=>pif_nil)
     (fun s H fp=>pe_call GF hr (by rfl) DF.mg DF.fn.kp bF .nil pass0 (pa_cons (pv 1) (pa_cons (pe_dget hu (pv 2) (pv 0) (fun _ _=>rfl)) (pa_cons (pe_ix (r:=rIxT K) ix_tup (pv 3) pe_int (fun _ _=>rfl)) pa_nil))))) pa_nil))))))),?_⟩
  have hTn:T.name ∈ Ts.map (·.name):=List.mem_map.mpr ⟨T,hT,rfl⟩
  refine ⟨_,rfl,_,rfl,fo,sz,Ts,rfl,hf,t8,fun p H1 hp s1 p1=>?_⟩
  refine ⟨p,_,rfl,.inl (SqL.of p1),rfl,flat_strs _,_,rfl,?_⟩
  refine iteC (by show (!inV _ _) = false;rw [inV_str,decide_eq_true hTn];rfl) ?_
  rcases hrow with ⟨n,hn,hd,rfl⟩ | hrow
  ·have e1:(n == "dict") = false:=beq_eq_false_iff_ne.mpr hd
   refine ⟨_,rfl,_,_,_,_,rfl,(hn.same s1).1,kit_eq.trans (kit_dict _ hn.2),_,rfl,?_⟩
   rw [e1]
   exact iteT (q H1 s1)
  obtain ⟨r,kvs,rfl,hr0,hlen,hcase⟩:∃ r kvs,x = .ref r/\H r = some (.dK kvs)/\kvs.length ≤ 1000/\((sameK (kvs.map (·.1)) ((kvC T.cols).map (·.1)) = false/\b = false)\/∃ fz:Str->Bool,sameK (kvs.map (·.1)) ((kvC T.cols).map (·.1)) = true/\(∀ c ∈ T.cols,∃ v n z,valV kvs (.inr c.1) = some v/\Is K H v n/\H c.2 = some (.tup [.str z])/\(z = "whole"\/z = "word")/\fz c.1 = fitB z n)/\b = T.cols.all fun c=>fz c.1):=by
   rcases hrow with ⟨r,kvs,h1,h2,h3,h4⟩ | ⟨r,kvs,fz,h1,h2,h3,h4⟩
   ·exact ⟨r,kvs,h1,h2,h3,.inl h4⟩
   ·exact ⟨r,kvs,h1,h2,h3,.inr ⟨fz,h4⟩⟩
  refine ⟨_,rfl,_,_,_,_,rfl,.dK (s1 _ _ hr0),kit_eq.trans (kit_dict _ (by decide)),_,rfl,iteF ?_⟩
  refine ⟨_,rfl,_,rfl,fo,sz,Ts,T,rfl,hf.same s1,nd,hT,ndc,c12,fun cd H2 hcd s2 c2=>?_⟩
  have S2:=s1.trans s2
  refine ⟨_,rfl,r,kvs,rfl,.inl (S2 _ _ hr0),hlen,fun q1 hq1=>?_⟩
  generalize hX3:upd H2 q1 _ = H3
  have T3:Same H2 H3:=hX3 ▸ Same.upd hq1
  have e3:H3 q1 = some (.ext (setP P w q1 (kvs.map (·.1)))):=by rw [← hX3];exact upd_same
  have kl:(kvC T.cols).length = T.cols.length:=by unfold kvC;rw [List.length_map]
  refine ⟨_,rfl,cd,_,rfl,.inl (T3 _ _ c2),(by omega),fun q2 hq2=>?_⟩
  generalize hX4:upd H3 q2 _ = H4
  have T4:Same H3 H4:=hX4 ▸ Same.upd hq2
  have e4:H4 q2 = some (.ext (setP P w q2 ((kvC T.cols).map (·.1)))):=by rw [← hX4];exact upd_same
  have S4:=S2.trans (T3.trans T4)
  refine ⟨q1,q2,_,_,rfl,rfl,T4 _ _ e3,e4,_,rfl,?_⟩
  rcases hcase with ⟨hs,rfl⟩ | ⟨fz,hs,hfz,rfl⟩
  ·rw [hs]
   exact iteT (q H4 S4)
  rw [hs]
  refine iteF ?_
  have hcd0:H cd = none:=none_of s1 hcd
  have c4:=(T3.trans T4) _ _ c2
  refine ⟨cd,_,c4,fun o=>?_⟩
  have cf:(upd H4 cd (.frz o (.dK (kvC T.cols)))) cd = some (.frz o (.dK (kvC T.cols))):=upd_same
  have SF:Same H (upd H4 cd (.frz o (.dK (kvC T.cols)))):=S4.put hcd0
  generalize upd H4 cd (.frz o (.dK (kvC T.cols))) = HF at *
  obtain ⟨tt,es,f1,_⟩:=id hf
  refine ⟨_,rfl,cd,o,_,rfl,cf,fun D hD=>?_⟩
  refine compW_idx T.cols.length (fun i ys σ' Hc=>(∃ t0 t1,σ' = [t0,t1,some (.ref r),some (.ref fo)])/\Same HF Hc/\ys = (T.cols.take i).map fun c=>V.bl (fz c.1)) (by rw [sizeLine_eq];omega) ⟨⟨none,none,rfl⟩,Same.upd hD,rfl⟩ upd_same ?_ ?_
  ·rintro i σ' Hc ys hi ⟨⟨t0,t1,rfl⟩,sm,rfl⟩ hyl hD'
   refine ⟨⟨by omega,sm _ _ cf⟩,?_⟩
   rintro x H' ⟨k,v,p,hk,rfl,hp',rfl⟩
   unfold kvC at hk
   rw [List.getElem?_map,List.getElem?_eq_getElem hi] at hk
   cases hk
   have T5:=Same.upd (o:=.tup [kV (.inr T.cols[i].1),.ref T.cols[i].2]) hp'
   refine ⟨p,_,rfl,SqT.of upd_same,rfl,_,_,rfl,_,_,rfl,rfl,?_⟩
   generalize upd Hc p (.tup [kV (.inr T.cols[i].1),.ref T.cols[i].2]) = H5 at T5
   have S5:=SF.trans (sm.trans T5)
   obtain ⟨v,n,z,hv,hn,hkd,hz,hfit⟩:=hfz _ (List.getElem_mem hi)
   refine ⟨_,rfl,_,rfl,_,rfl,r,_,rfl,.inl ⟨kvs,.inr T.cols[i].1,.inl (S5 _ _ hr0),rfl,hv.symm⟩,_,rfl,fo,_,0,_,rfl,rfl,SqT.of (S5 _ _ f1),rfl,T.cols[i].2,z,v,n,⟨_,rfl⟩,S5 _ _ hkd,hz,hn.same S5,fun H6 s6=>?_⟩
   have T6:=T5.trans s6
   refine ⟨T6 _ _ hD',⟨_,_,rfl⟩,(sm.trans T6).put hD,?_⟩
   rw [List.take_succ,List.getElem?_eq_getElem hi,List.map_append,← hfit]
   rfl
  ·rintro σ' Hc ys ⟨_,sm,rfl⟩ hDn hyl
   refine ⟨⟨by omega,sm _ _ cf⟩,?_⟩
   rw [List.take_length] at hDn
   refine ⟨D,T.cols.map fun c=>fz c.1,rfl,SqL.of (by rw [hDn,List.map_map];rfl),sm _ _ cf,?_⟩
   have eb:(T.cols.map fun c=>fz c.1).all id = T.cols.all fun c=>fz c.1:=by rw [List.all_map];rfl
   rw [eb]
   exact q _ ((SF.trans sm).put hcd0)
end
end My
namespace L2
open PySem PySem.Spec PyProof.Rows
section
variable {P:Program} {w:World} {K:PySem.W.Frag} {mg:Str->Option Value} {base:Heap} {CX:CXT} {k:Nat} {f:Addr} {fd:FuncData} {ps:List Str} {sp sp':Sp}
theorem FnOk.sink (F:FnOk P w K mg base (CX1 P w) k f fd ps sp) (h:∀ vs H Q E,sp' vs H Q E->sp vs H Q (fun _ _ _=>False)):FnOk P w K mg base CX0 k f fd ps sp':=by
 refine ⟨fun vs H Q E q=>F.len vs H Q _ (h _ _ _ _ q),fun A outer s H args us vs Q E hr e b r q=>codeAny_mono (F.run A outer s H args us vs Q _ hr e b r (h _ _ _ _ q)) fun r s' hq=>?_⟩
 cases r with
 | ok x=>cases x <;> exact hq
 | error e=>
  obtain ⟨_,_,_,_,_,_,_,_,_,_,_,_,hF⟩:=hq
  exact hF.elim
end
end L2
namespace My
open PySem L2 PyProof.Rows
seal L2.PE L2.PT L2.PW L2.PS L2.PSs L2.PA L2.PI L2.PG L2.PGs L2.OpR L2.UnR L2.CallR L2.IxR L2.SlR L2.MtR L2.PIf L2.PO L2.MtM L2.PC
theorem RowIs.same {K:PySem.W.Frag} {H H':Hp} {T:Tb} {x:V} {b:Bool} (h:RowIs K H T x b) (s:Same H H'):RowIs K H' T x b:=by
 rcases h with ⟨n,h1,h2⟩ | ⟨r,kvs,h1,h2,h3⟩ | ⟨r,kvs,fz,h1,h2,h3,h4,h5,h6⟩
 ·exact .inl ⟨n,h1.same s,h2⟩
 ·exact .inr (.inl ⟨r,kvs,h1,s _ _ h2,h3⟩)
 ·refine .inr (.inr ⟨r,kvs,fz,h1,s _ _ h2,h3,h4,fun c hc=>?_,h6⟩)
  obtain ⟨v,n,z,a1,a2,a3,a4⟩:=h5 c hc
  exact ⟨v,n,z,a1,a2.same s,s _ _ a3,a4⟩
def lone:List Str:=["head","twin"]
structure Ln (K:PySem.W.Frag) (mg:Str->Option Value) (sA:Addr):Prop where
 mS:mg "LONE_SORTS" = some (.ref sA)
 qS:∀ H,SqT K H sA (lone.map V.str)
def KeyB (sz:Int) (x:V) (n:String) (b:Bool):Prop:=(n ≠ "int"/\b = false)\/∃ k:Int,x = .int k/\n = "int"/\b = decide (0 ≤ k/\k < sz)
def PlB (T:Tb) (x:V) (n:String) (b:Bool):Prop:=(n ≠ "int"/\b = false)\/∃ p:Int,x = .int p/\n = "int"/\b = decide (0 ≤ p/\(p = 0\/T.sort ∉ lone))
def RowB (K:PySem.W.Frag) (H:Hp) (T:Tb) (vb:Str) (rest:List V) (b:Bool):Prop:=(vb = "cut"/\b = true)\/(vb ≠ "cut"/\∃ x,rest = [x]/\RowIs K H T x b)
structure TbOk (Ts:List Tb):Prop where
 nd:(Ts.map (·.name)).Nodup
 le:Ts.length ≤ 8
 cn:∀ T ∈ Ts,(T.cols.map (·.1)).Nodup
 cl:∀ T ∈ Ts,T.cols.length ≤ 12
def spAskStep (K:PySem.W.Frag) (CO CM:Addr):Sp:=fun vs H Q E=>∃ (f st:Addr) (sz:Int) (Ts:List Tb) (vb z:Str) (kx px:V) (rest:List V),vs = [.ref f,.ref st]/\FormAt H f sz Ts/\TbOk Ts/\H st = some (.tup (.str vb :: .str z :: kx :: px :: rest)) ∧
 ((z ∉ Ts.map (·.name)/\Refd E H CO z kx px)\/∃ (T:Tb) (nk np:String) (kb pb rb:Bool),T ∈ Ts/\T.name = z/\Is K H kx nk/\KeyB sz kx nk kb/\Is K H px np/\PlB T px np pb/\RowB K H T vb rest rb ∧
  ((kb && pb && rb) = true->∀ H',Same H H'->Q .non H')/\((kb && pb && rb) = false->Refd E H CM z kx px))
section
variable {P:Program} {w:World} {K:PySem.W.Frag} {mg:Str->Option Value} {base:Heap} {CP CT CO CM:Addr}
theorem ok_askStep {f fT fC fI fF fP fW fR fS fN sA:Addr} {fd fdT fdC fdI fdF fdP fdW fdR fdS fdN:FuncData} (F:Fun K "ask_step" "ask_step" (top 27) f fd) (B:Bl mg) (LN:Ln K mg sA) (DT:Df K mg "tables_of" (top 18) fT fdT) (DC:Df K mg "columns_of" (top 21) fC fdC) (DI:Df K mg "table_in" (top 22) fI fdI) (DW:Df K mg "is_whole" (top 12) fW fdW) (DP:Df K mg "fits_plain" (top 15) fP fdP) (DF:Df K mg "fits" (top 13) fF fdF)
  (DR:Df K mg "is_row" (top 23) fR fdR) (DS:Df K mg "sort_of" (top 20) fS fdS) (X:Tx K mg CT CO CM) (FI:FunX K "__init__" "StepError.__init__" (inClass (top 2) 0) fN fdN) (MO:XMk K CO fN) (MM:XMk K CM fN) (bI:Binds K fdN ["self","table","key","place"] []) :
  FnOk P w K mg base (CX1 P w) 5 f fd ["form","step"] (spAskStep K CO CM):=by
 have sc:FnScope ["form","step","table","key","place"] ["form","step"] (defScope (top 27)):=⟨rfl,rfl,rfl,by decide +kernel,rfl,by decide +kernel,by decide +kernel⟩
 have GT:FnOk P w K mg base CX0 1 fT fdT ["form"] spTabs:=ok_tabs DT.fn
 have bT:=DT.fn.binds (ps:=["form"]) fun _ _ _ _ _ _ us hl=>by obtain ⟨v0,rfl⟩:=L2.ln1 hl;rfl
 have GW:FnOk P w K mg base CX0 1 fW fdW ["thing"] (spWhole K):=ok_whole DW.fn B
 have bW:=DW.fn.binds (ps:=["thing"]) fun _ _ _ _ _ _ us hl=>by obtain ⟨v0,rfl⟩:=L2.ln1 hl;rfl
 have GS:FnOk P w K mg base CX0 2 fS fdS ["form","table"] spSortOf:=ok_sortOf DS.fn DI
 have bS:=DS.fn.binds (ps:=["form","table"]) fun _ _ _ _ _ _ us hl=>by obtain ⟨v0,v1,rfl⟩:=L2.ln2 hl;rfl
 have GR:FnOk P w K mg base CX0 4 fR fdR ["form","table","row"] (spIsRow K):=ok_isRow DR.fn B DT DC DI DW DP DF
 have bR:=DR.fn.binds (ps:=["form","table","row"]) fun _ _ _ _ _ _ us hl=>by obtain ⟨v0,v1,v2,rfl⟩:=L2.ln3 hl;rfl
 have GI:FnOk P w K mg base CX0 1 fN fdN ["self","table","key","place"] (spSInit CO CM):=ok_sinit FI X
 refine F.x.okX sc (fun vs H Q E h=>?_) (fun cdv A outer s H vs Q E hr h=>?_)
 ·obtain ⟨f,st,sz,Ts,vb,z,kx,px,rest,rfl,_⟩:=h
  rfl
 ·obtain ⟨fo,st,sz,Ts,vb,z,kx,px,rest,rfl,hf,hok,hst,h⟩:=h
  have hr1:Room 1 _:=hr.mono (by decide)
  have hr2:Room 2 _:=hr.mono (by decide)
  have hr4:Room 4 _:=hr.mono (by decide)
  have hu:(A.deeper (envOfC "ask_step" (defScope (top 27)) s.heap.objs.size f cdv)).units + 1 < cLine:=hu_of hr
  refine ⟨_,pss_cons (ps_set (i:=2) sc.nd rfl (Or.inl rfl) (pe_ix ix_tup (pv 1) pe_int (fun _ _=>rfl)))
   (pss_cons (ps_set (i:=3) sc.nd rfl (Or.inl rfl) (pe_ix ix_tup (pv 1) pe_int (fun _ _=>rfl)))
   (pss_cons (ps_set (i:=4) sc.nd rfl (Or.inl rfl) (pe_ix ix_tup (pv 1) pe_int (fun _ _=>rfl)))
   (pss_cons (ps_if (pt_cmpR op_notIn_seq (pv 2) (pe_call GT hr1 (by rfl) DT.mg DT.fn.kp bT .nil pass0 (pa_cons (pv 0) pa_nil)) (by with_unfolding_all rfl)) (pss_one (ps_raise rfl (pe_xmake MO GI hr2 (by rfl) X.mO bI .nil (pa_cons (pv 2) (pa_cons (pv 3) (pa_cons (pv 4) pa_nil)))) lands_cx)) pss_nil)
   (pss_cons (ps_if (PW.pt (pw_or (pt_not (pt_val (pe_call GW hr1 (by rfl) DW.mg DW.fn.kp bW .nil pass0 (pa_cons (pv 3) pa_nil)))) (pw_or1 (pt_not (pt_chain op_le op_lt pe_int (pv 3) (pe_ix ix_tup (pv 0) pe_int (fun _ _=>rfl))))))) (pss_one (ps_raise rfl (pe_xmake MM GI hr2 (by rfl) X.mM bI .nil (pa_cons (pv 2) (pa_cons (pv 3) (pa_cons (pv 4) pa_nil)))) lands_cx)) pss_nil)
   (pss_cons (ps_if (PW.pt (pw_or (pt_not (pt_val (pe_call GW hr1 (by rfl) DW.mg DW.fn.kp bW .nil pass0 (pa_cons (pv 4) pa_nil)))) (pw_or1 (pt_cmpR op_lt (pv 4) pe_int (nomark _))))) (pss_one (ps_raise rfl (pe_xmake MM GI hr2 (by rfl) X.mM bI .nil (pa_cons (pv 2) (pa_cons (pv 3) (pa_cons (pv 4) pa_nil)))) lands_cx)) pss_nil)
   (pss_cons (ps_if (PW.pt (pw_and (pt_cmpR op_ne (pv 4) pe_int (nomark _)) (pw_and1 (pt_cmpR op_in_seq (pe_call GS hr2 (by rfl) DS.mg DS.fn.kp bS .nil pass0 (pa_cons (pv 0) (pa_cons (pv 2) pa_nil))) (pe_glob (v:=.ref sA) (by rfl) LN.mS rfl) (by with_unfolding_all rfl))))) (pss_one (ps_raise rfl (pe_xmake MM GI hr2 (by rfl) X.mM bI .nil (pa_cons (pv 2) (pa_cons (pv 3) (pa_cons (pv 4) pa_nil)))) lands_cx)) pss_nil)
   (pss_one (ps_if (PW.pt (pw_and (pt_cmpR op_ne (pe_ix ix_tup (pv 1) pe_int (fun _ _=>rfl)) pe_str (nomark _)) (pw_and1 (pt_not (pt_val (pe_call GR hr4 (by rfl) DR.mg DR.fn.kp bR .nil pass0 (pa_cons (pv 0) (pa_cons (pv 2) (pa_cons (pe_ix ix_tup (pv 1) pe_int (fun _ _=>rfl)) pa_nil))))))))) (pss_one (ps_raise rfl (pe_xmake MM GI hr2 (by rfl) X.mM bI .nil (pa_cons (pv 2) (pa_cons (pv 3) (pa_cons (pv 4) pa_nil)))) lands_cx)) pss_nil)))))))),?_⟩
  refine ⟨_,rfl,st,_,1,_,rfl,rfl,SqT.of hst,atI_nat (j:=1) rfl,?_⟩
  refine ⟨_,rfl,st,_,2,_,rfl,rfl,SqT.of hst,atI_nat (j:=2) rfl,?_⟩
  refine ⟨_,rfl,st,_,3,_,rfl,rfl,SqT.of hst,atI_nat (j:=3) rfl,?_⟩
  refine ⟨_,rfl,_,rfl,fo,sz,Ts,rfl,hf,hok.le,fun p H1 hp s1 p1=>?_⟩
  refine ⟨p,_,rfl,.inl (SqL.of p1),rfl,flat_strs _,_,rfl,?_⟩
  show if (!inV (.str z) _) = true then _ else _
  rw [inV_str]
  rcases h with ⟨hz,qO⟩ | ⟨T,nk,np,kb,pb,rb,hT,rfl,hk,hkb,hpx,hpb,hrb,q,qM⟩
  ·rw [decide_eq_false hz]
   refine iteT ?_
   exact raised X (.inl rfl) (fun _ _ _ h=>h) (fun R h=>⟨_,rfl,_,rfl,_,rfl,h⟩) (qO.same s1)
  rw [decide_eq_true (List.mem_map.mpr ⟨T,hT,rfl⟩)]
  refine iteF ?_
  have RR:∀ {H2:Hp},Same H H2->(kb && pb && rb) = false->tRaise s.heap.objs.size K (fun C od _ H'=>E C od H') (tXMake s.heap.objs.size CM (spSInit CO CM) [] (tCons (tVar 2) (tCons (tVar 3) (tCons (tVar 4) tNil)))) { nx:=fun _ H'=>Q .non H',rt:=Q } [some (.ref fo),some (.ref st),some (.str T.name),some kx,some px] H2:=
   fun s2 e=>raised X (.inr rfl) (fun _ _ _ h=>h) (fun R h=>⟨_,rfl,_,rfl,_,rfl,h⟩) ((qM e).same s2)
  obtain ⟨tt,es,f1,_⟩:=id hf
  refine ⟨_,rfl,kx,nk,rfl,hk.same s1,_,rfl,?_⟩
  rcases hkb with ⟨nn,rfl⟩ | ⟨k,rfl,rfl,rfl⟩
  ·rw [beq_eq_false_iff_ne.mpr nn]
   exact iteT (iteT (RR s1 rfl))
  refine iteF ⟨_,rfl,_,_,rfl,rfl,_,rfl,?_⟩
  refine ite2 (fun c=>?_) (fun c=>⟨false,rfl,iteT (RR s1 ?_)⟩)
  rotate_left
  ·rw [decide_eq_false (fun h=>c (decide_eq_true h.1))]
   rfl
  have c1:(0:Int) ≤ k:=of_decide_eq_true c
  refine ⟨_,rfl,_,_,0,_,rfl,rfl,SqT.of (s1 _ _ f1),rfl,_,_,rfl,rfl,_,rfl,?_⟩
  refine ite2 (fun c=>RR s1 ?_) (fun c=>?_)
  ·rw [decide_eq_false (fun h=>?_)]
   ·rfl
   ·rw [decide_eq_true h.2] at c
    cases c
  have c2:k < sz:=by
   by_cases h:k < sz
   ·exact h
   ·exact absurd (by rw [decide_eq_false h];rfl) c
  have ek:decide (0 ≤ k/\k < sz) = true:=decide_eq_true ⟨c1,c2⟩
  rw [ek] at q
  refine ⟨_,rfl,px,np,rfl,hpx.same s1,_,rfl,?_⟩
  rcases hpb with ⟨nn,rfl⟩ | ⟨pl,rfl,rfl,rfl⟩
  ·rw [beq_eq_false_iff_ne.mpr nn]
   exact iteT (iteT (RR s1 (by rw [ek];rfl)))
  refine iteF ⟨_,rfl,_,_,rfl,rfl,_,rfl,?_⟩
  refine ite2 (fun c=>RR s1 ?_) (fun c=>?_)
  ·have c3:pl < 0:=of_decide_eq_true c
   rw [ek,decide_eq_false (fun h=>by omega)]
   rfl
  have c3:0 ≤ pl:=by
   by_cases h:pl < 0
   ·exact absurd (decide_eq_true h) c
   ·omega
  refine ⟨_,rfl,rfl,_,rfl,?_⟩
  by_cases hp0:pl = 0
  ·have eP:decide (0 ≤ pl/\(pl = 0\/T.sort ∉ lone)) = true:=decide_eq_true ⟨c3,.inl hp0⟩
   refine iteC (by rw [hp0];decide +kernel) (iteF ?_)
   refine ⟨_,rfl,st,_,0,.str vb,rfl,rfl,SqT.of (s1 _ _ hst),atI_nat (j:=0) rfl,rfl,_,rfl,?_⟩
   rcases hrb with ⟨rfl,rfl⟩ | ⟨nv,x,rfl,hx⟩
   ·exact iteC (by decide +kernel) (iteF (q (by rw [eP];rfl) H1 s1))
   refine iteB (by rw [decide_eq_false (fun e=>nv (by injection e))];rfl) ?_
   refine ⟨_,rfl,_,rfl,_,rfl,st,_,4,x,rfl,rfl,SqT.of (s1 _ _ hst),atI_nat (j:=4) rfl,fo,sz,Ts,T,x,rb,rfl,hf.same s1,hok.nd,hT,hok.cn T hT,hok.cl T hT,hok.le,hx.same s1,fun H2 s2=>⟨_,rfl,?_⟩⟩
   cases rb with
   | true=>exact iteF (q (by rw [eP];rfl) H2 (s1.trans s2))
   | false=>exact iteT (RR (s1.trans s2) (by rw [Bool.and_false]))
  refine iteB (by rw [decide_eq_false (fun e=>hp0 (by injection e))];rfl) ?_
  refine ⟨_,rfl,_,rfl,fo,sz,Ts,T,rfl,hf.same s1,hok.nd,hT,?_⟩
  refine ⟨sA,_,rfl,.inr (LN.qS _),rfl,(by decide),_,rfl,?_⟩
  show if (inV (.str T.sort) _) = true then _ else _
  rw [inV_str]
  by_cases hl:T.sort ∈ lone
  ·rw [decide_eq_true hl]
   refine iteT (RR s1 ?_)
   rw [ek,decide_eq_false (fun h=>h.2.elim hp0 (fun h=>h hl))]
   rfl
  rw [decide_eq_false hl]
  refine iteF ?_
  have eP:decide (0 ≤ pl/\(pl = 0\/T.sort ∉ lone)) = true:=decide_eq_true ⟨c3,.inr hl⟩
  refine ⟨_,rfl,st,_,0,.str vb,rfl,rfl,SqT.of (s1 _ _ hst),atI_nat (j:=0) rfl,rfl,_,rfl,?_⟩
  rcases hrb with ⟨rfl,rfl⟩ | ⟨nv,x,rfl,hx⟩
  ·exact iteC (by decide +kernel) (iteF (q (by rw [eP];rfl) H1 s1))
  refine iteB (by rw [decide_eq_false (fun e=>nv (by injection e))];rfl) ?_
  refine ⟨_,rfl,_,rfl,_,rfl,st,_,4,x,rfl,rfl,SqT.of (s1 _ _ hst),atI_nat (j:=4) rfl,fo,sz,Ts,T,x,rb,rfl,hf.same s1,hok.nd,hT,hok.cn T hT,hok.cl T hT,hok.le,hx.same s1,fun H2 s2=>⟨_,rfl,?_⟩⟩
  cases rb with
  | true=>exact iteF (q (by rw [eP];rfl) H2 (s1.trans s2))
  | false=>exact iteT (RR (s1.trans s2) (by rw [Bool.and_false]))
end
end My
namespace My
open PySem L2 PyProof.Rows
seal L2.PE L2.PT L2.PW L2.PS L2.PSs L2.PA L2.PI L2.PG L2.PGs L2.OpR L2.UnR L2.CallR L2.IxR L2.SlR L2.MtR L2.PIf L2.PO L2.MtM L2.PC
structure Rr where
 pl:Int
 q:Addr
 row:Rw
structure Tt where
 z:Str
 r:Addr
 rs:List Rr
def pK (rs:List Rr):List (Key × V):=rs.map fun r=>(.inl r.pl,.ref r.q)
def tK (ts:List Tt):List (Key × V):=ts.map fun t=>(.inr t.z,.ref t.r)
def cR (r:Rr):Int × Rw:=(r.pl,r.row)
def cT (t:Tt):Str × List (Int × Rw):=(t.z,t.rs.map cR)
def nxt (vb:Str) (n:Rr) (rs:List Rr):List Rr:=if vb = "cut" then rs.filter fun r=>decide (r.pl ≠ n.pl) else if vb = "add" then rs ++ [n] else rs.map fun r=>if r.pl = n.pl then n else r
def nxtC (vb:Str) (n:Int × Rw) (rs:List (Int × Rw)):List (Int × Rw):=if vb = "cut" then rs.filter fun r=>decide (r.1 ≠ n.1) else if vb = "add" then rs ++ [n] else rs.map fun r=>if r.1 = n.1 then n else r
theorem nxt_c (vb:Str) (n:Rr) (rs:List Rr):(nxt vb n rs).map cR = nxtC vb (cR n) (rs.map cR):=by
 unfold nxt nxtC
 split
 ·rw [List.filter_map]
  rfl
 split
 ·rw [List.map_append]
  rfl
 ·rw [List.map_map,List.map_map]
  refine List.map_congr_left fun r _=>?_
  show cR (if r.pl = n.pl then n else r) = if r.pl = n.pl then cR n else cR r
  split <;> rfl
theorem nxt_mem {vb:Str} {n:Rr} {rs:List Rr} {r:Rr} (h:r ∈ nxt vb n rs):r ∈ rs\/(vb ≠ "cut"/\r = n):=by
 unfold nxt at h
 split at h
 ·exact .inl (List.mem_filter.mp h).1
 rename_i nc
 split at h
 ·rcases List.mem_append.mp h with h | h
  ·exact .inl h
  ·exact .inr ⟨nc,List.mem_singleton.mp h⟩
 ·obtain ⟨x,hx,rfl⟩:=List.mem_map.mp h
  split
  ·exact .inr ⟨nc,rfl⟩
  ·exact .inl hx
theorem nxt_nd {vb:Str} {n:Rr} {rs:List Rr} (nd:(rs.map (·.pl)).Nodup) (ha:vb = "add"->n.pl ∉ rs.map (·.pl)):((nxt vb n rs).map (·.pl)).Nodup:=by
 unfold nxt
 split
 ·exact nd.sublist ((List.filter_sublist).map _)
 split
 ·rename_i e
  rw [List.map_append,List.nodup_append]
  refine ⟨nd,List.nodup_cons.mpr ⟨(fun h=>nomatch h),List.nodup_nil⟩,fun a h1 b h2 e2=>?_⟩
  rw [List.mem_singleton.mp h2] at e2
  rw [e2] at h1
  exact ha e h1
 ·have e:(rs.map fun r=>if r.pl = n.pl then n else r).map (·.pl) = rs.map (·.pl):=by
   rw [List.map_map]
   refine List.map_congr_left fun r _=>?_
   show (if r.pl = n.pl then n else r).pl = r.pl
   split
   ·rename_i e;exact e.symm
   ·rfl
  rw [e]
  exact nd
theorem nxt_len {vb:Str} {n:Rr} {rs:List Rr}:(nxt vb n rs).length ≤ rs.length + 1:=by
 unfold nxt
 split
 ·exact Nat.le_succ_of_le (List.length_filter_le _ _)
 split
 ·rw [List.length_append];exact Nat.le_refl _
 ·rw [List.length_map];exact Nat.le_succ _
theorem pK_val {rs:List Rr} (nd:(rs.map (·.pl)).Nodup) {r:Rr} (h:r ∈ rs):valV (pK rs) (.inl r.pl) = some (.ref r.q):=valV_map (f:=Rr.pl) (g:=fun r:Rr=>V.ref r.q) nd h
theorem pK_non {rs:List Rr} {p:Int} (h:p ∉ rs.map (·.pl)):valV (pK rs) (.inl p) = none:=valV_non (f:=Rr.pl) (g:=fun r:Rr=>V.ref r.q) h
theorem pK_cut (rs:List Rr) (n:Rr):dropK (pK rs) (.inl n.pl) = pK (nxt "cut" n rs):=by
 unfold dropK pK nxt
 rw [if_pos rfl,List.filter_map]
 congr 1
 refine List.filter_congr fun r _=>?_
 show decide ((Sum.inl r.pl:Key) ≠ Sum.inl n.pl) = decide (r.pl ≠ n.pl)
 rw [Bool.eq_iff_iff,decide_eq_true_iff,decide_eq_true_iff]
 exact ⟨fun h e=>h (by rw [e]),fun h e=>h (by injection e)⟩
theorem pK_put {vb:Str} {rs:List Rr} {n:Rr} (h:(vb = "add"/\n.pl ∉ rs.map (·.pl))\/(vb = "set"/\n.pl ∈ rs.map (·.pl))):putK (pK rs) (.inl n.pl) (.ref n.q) = pK (nxt vb n rs):=by
 rcases h with ⟨rfl,h⟩ | ⟨rfl,h⟩
 ·rw [putK_new _ (pK_non h)]
  unfold nxt
  rw [if_neg (by decide +kernel),if_pos rfl]
  unfold pK
  rw [List.map_append]
  rfl
 ·unfold putK nxt
  rw [if_pos ?_,if_neg (by decide +kernel),if_neg (by decide +kernel)]
  ·unfold pK
   rw [List.map_map,List.map_map]
   refine List.map_congr_left fun r _=>?_
   show (if (Sum.inl r.pl:Key) = Sum.inl n.pl then ((Sum.inl r.pl:Key),V.ref n.q) else (Sum.inl r.pl,V.ref r.q)) = (Sum.inl (if r.pl = n.pl then n else r).pl,V.ref (if r.pl = n.pl then n else r).q)
   by_cases e:r.pl = n.pl
   ·rw [if_pos e,if_pos (by rw [e]),e]
   ·rw [if_neg e,if_neg (fun h=>e (by injection h))]
  ·obtain ⟨r,hr,e⟩:=List.mem_map.mp h
   exact List.any_eq_true.mpr ⟨_,List.mem_map.mpr ⟨r,hr,rfl⟩,decide_eq_true (by rw [e])⟩
def Can (vb:Str) (p:Int) (ps:List Int):Prop:=(vb = "add"/\p ∉ ps)\/(vb = "set"/\p ∈ ps)\/(vb = "cut"/\p ∈ ps)
def spDo:Sp:=fun vs H Q _=>∃ (r st:Addr) (vb z:Str) (kx:V) (p:Int) (row:Rw) (rest:List V) (rs:List Rr),vs = [.ref r,.ref st]/\H r = some (.dK (pK rs))/\(rs.map (·.pl)).Nodup/\rs.length < 1000/\H st = some (.tup (.str vb :: .str z :: kx :: .int p :: rest))/\Can vb p (rs.map (·.pl)) ∧
 (vb ≠ "cut"->∃ x,rest = [.ref x]/\H x = some (.dK (rK row)))/\∀ (n:Rr) H',n.pl = p->n.row = row->(vb ≠ "cut"->H n.q = none/\H' n.q = some (.dK (rK row)))->H' r = some (.dK (pK (nxt vb n rs)))->(∀ b o,b ≠ r->H b = some o->H' b = some o)->Q .non H'
section
variable {P:Program} {w:World} {K:PySem.W.Frag} {mg:Str->Option Value} {base:Heap}
theorem ok_do {f:Addr} {fd:FuncData} (F:Fun K "do_step" "do_step" (top 28) f fd) (B:Bl mg):FnOk P w K mg base CX0 1 f fd ["placed","step"] spDo:=by
 have sc:FnScope ["placed","step","place"] ["placed","step"] (defScope (top 28)):=⟨rfl,rfl,rfl,by decide +kernel,rfl,by decide +kernel,by decide +kernel⟩
 refine F.ok sc (fun vs H Q E h=>?_) (fun cdv A outer s H vs Q E hr h=>?_)
 ·obtain ⟨r,st,vb,z,kx,p,row,rest,rs,rfl,_⟩:=h
  rfl
 ·obtain ⟨r,st,vb,z,kx,p,row,rest,rs,rfl,h1,nd,h60,hst,can,hx,q⟩:=h
  have hu:(A.deeper (envOfC "do_step" (defScope (top 28)) s.heap.objs.size f cdv)).units + 1 < cLine:=hu_of hr
  refine ⟨_,pss_cons (ps_set (i:=2) sc.nd rfl (Or.inl rfl) (pe_ix ix_tup (pv 1) pe_int (fun _ _=>rfl)))
   (pss_cons (ps_if (PW.pt (pw_and (pt_cmpR op_eq (pe_ix ix_tup (pv 1) pe_int (fun _ _=>rfl)) pe_str (nomark _)) (pw_and1 (pt_cmp (pc_din hu (pv 2) (pv 0)))))) pss_never pss_nil)
   (pss_cons (ps_if (PW.pt (pw_and (pt_cmpR op_ne (pe_ix ix_tup (pv 1) pe_int (fun _ _=>rfl)) pe_str (nomark _)) (pw_and1 (pt_cmp (pc_dnotin hu (pv 2) (pv 0)))))) pss_never pss_nil)
   (pss_one (ps_if (pt_cmpR op_eq (pe_ix ix_tup (pv 1) pe_int (fun _ _=>rfl)) pe_str (nomark _)) (pss_one (ps_expr (pe_dpop1 (pv 0) (pv 2) ⟨rfl,rfl,rfl,rfl⟩))) (pss_one (ps_dput hu (pv 0) (pv 2) (pe_callTy call_dict_of (by rfl) B.dict boot_dict (pa_cons (pe_ix ix_tup (pv 1) pe_int (fun _ _=>rfl)) pa_nil)) rfl)))))),?_⟩
  refine ⟨_,rfl,st,_,3,_,rfl,rfl,SqT.of hst,atI_nat (j:=3) rfl,?_⟩
  refine ⟨_,rfl,st,_,0,.str vb,rfl,rfl,SqT.of hst,atI_nat (j:=0) rfl,rfl,_,rfl,?_⟩
  rcases can with ⟨rfl,hp⟩ | ⟨rfl,hp⟩ | ⟨rfl,hp⟩
  ·refine iteT ⟨_,rfl,_,rfl,r,_,rfl,.inl ⟨_,.inl p,.inl h1,rfl,(pK_non hp).symm⟩,_,rfl,iteF ?_⟩
   refine ⟨_,rfl,st,_,0,.str "add",rfl,rfl,SqT.of hst,atI_nat (j:=0) rfl,rfl,_,rfl,iteF (iteF ?_)⟩
   refine ⟨_,rfl,st,_,0,.str "add",rfl,rfl,SqT.of hst,atI_nat (j:=0) rfl,rfl,_,rfl,iteC (by decide +kernel) ?_⟩
   obtain ⟨x,rfl,hxx⟩:=hx (by decide +kernel)
   refine ⟨_,rfl,st,_,4,_,rfl,rfl,SqT.of hst,atI_nat (j:=4) rfl,x,_,rfl,.inl hxx,fun qn hqn=>?_⟩
   refine ⟨_,rfl,_,rfl,r,_,rfl,.inl ⟨pK rs,.inl p,(Same.upd hqn) _ _ h1,rfl,(by unfold pK;rw [List.length_map,sizeLine_eq];omega),rfl⟩,?_⟩
   rw [pK_put (n:=⟨p,qn,row⟩) (.inl ⟨rfl,hp⟩)]
   have nqr:qn ≠ r:=fun e=>by rw [e,h1] at hqn;cases hqn
   exact q ⟨p,qn,row⟩ _ rfl rfl (fun _=>⟨hqn,by rw [upd_ne nqr];exact upd_same⟩) upd_same fun b o nb hb=>by rw [upd_ne nb];exact (Same.upd hqn) _ _ hb
  ·obtain ⟨r0,hr0,rfl⟩:=List.mem_map.mp hp
   refine iteC (by decide +kernel) (iteF ?_)
   refine ⟨_,rfl,st,_,0,.str "set",rfl,rfl,SqT.of hst,atI_nat (j:=0) rfl,rfl,_,rfl,iteB (by decide +kernel) ?_⟩
   refine ⟨_,rfl,_,rfl,r,_,rfl,.inl ⟨_,.inl r0.pl,.inl h1,rfl,(pK_val nd hr0).symm⟩,_,rfl,iteF ?_⟩
   refine ⟨_,rfl,st,_,0,.str "set",rfl,rfl,SqT.of hst,atI_nat (j:=0) rfl,rfl,_,rfl,iteC (by decide +kernel) ?_⟩
   obtain ⟨x,rfl,hxx⟩:=hx (by decide +kernel)
   refine ⟨_,rfl,st,_,4,_,rfl,rfl,SqT.of hst,atI_nat (j:=4) rfl,x,_,rfl,.inl hxx,fun qn hqn=>?_⟩
   refine ⟨_,rfl,_,rfl,r,_,rfl,.inl ⟨pK rs,.inl r0.pl,(Same.upd hqn) _ _ h1,rfl,(by unfold pK;rw [List.length_map,sizeLine_eq];omega),rfl⟩,?_⟩
   rw [pK_put (n:=⟨r0.pl,qn,row⟩) (.inr ⟨rfl,hp⟩)]
   have nqr:qn ≠ r:=fun e=>by rw [e,h1] at hqn;cases hqn
   exact q ⟨r0.pl,qn,row⟩ _ rfl rfl (fun _=>⟨hqn,by rw [upd_ne nqr];exact upd_same⟩) upd_same fun b o nb hb=>by rw [upd_ne nb];exact (Same.upd hqn) _ _ hb
  ·obtain ⟨r0,hr0,rfl⟩:=List.mem_map.mp hp
   refine iteC (by decide +kernel) (iteF ?_)
   refine ⟨_,rfl,st,_,0,.str "cut",rfl,rfl,SqT.of hst,atI_nat (j:=0) rfl,rfl,_,rfl,iteB (by decide +kernel) ?_⟩
   refine ⟨_,rfl,_,rfl,r,_,rfl,.inl ⟨_,.inl r0.pl,.inl h1,rfl,(pK_val nd hr0).symm⟩,_,rfl,iteF ?_⟩
   refine ⟨_,rfl,st,_,0,.str "cut",rfl,rfl,SqT.of hst,atI_nat (j:=0) rfl,rfl,_,rfl,iteB (by decide +kernel) ?_⟩
   refine ⟨_,rfl,r,rfl,.inl ⟨_,.inl h1⟩,_,rfl,_,.inl r0.pl,_,h1,rfl,pK_val nd hr0,?_⟩
   rw [pK_cut rs ⟨r0.pl,r,row⟩]
   exact q ⟨r0.pl,r,row⟩ _ rfl rfl (fun h=>absurd rfl h) upd_same fun b o nb hb=>by rw [upd_ne nb];exact hb
end
end My
namespace My
open PySem L2 PyProof.Rows
seal L2.PE L2.PT L2.PW L2.PS L2.PSs L2.PA L2.PI L2.PG L2.PGs L2.OpR L2.UnR L2.CallR L2.IxR L2.SlR L2.MtR L2.PIf L2.PO L2.MtM L2.PC
structure PdAt (H:Hp) (p:Addr) (ts:List Tt):Prop where
 at_:H p = some (.dK (tK ts))
 rt:∀ t ∈ ts,H t.r = some (.dK (pK t.rs))
 rw_:∀ t ∈ ts,∀ r ∈ t.rs,H r.q = some (.dK (rK r.row))
structure PdOk (ts:List Tt):Prop where
 nd:(ts.map (·.z)).Nodup
 le:ts.length ≤ 8
 pn:∀ t ∈ ts,(t.rs.map (·.pl)).Nodup
 pl:∀ t ∈ ts,t.rs.length < 64
 ok:∀ t ∈ ts,∀ r ∈ t.rs,RwOk r.row
theorem PdAt.same {H H':Hp} {p:Addr} {ts:List Tt} (h:PdAt H p ts) (s:Same H H'):PdAt H' p ts:=⟨s _ _ h.at_,fun t ht=>s _ _ (h.rt t ht),fun t ht r hr=>s _ _ (h.rw_ t ht r hr)⟩
theorem tK_mem {ts:List Tt} {t:Tt} (h:t ∈ ts):((.inr t.z:Key),V.ref t.r) ∈ tK ts:=List.mem_map.mpr ⟨t,h,rfl⟩
theorem PdAt.apart {H:Hp} {p:Addr} {ts:List Tt} (h:PdAt H p ts) (ok:PdOk ts) {t:Tt} (ht:t ∈ ts):t.r ≠ p/\∀ r ∈ t.rs,r.q ≠ p:=by
 refine ⟨fun e=>?_,fun r hr e=>?_⟩
 ·have h1:=h.rt t ht
  rw [e,h.at_] at h1
  injection h1 with h1
  injection h1 with h1
  have:=tK_mem ht
  rw [h1] at this
  obtain ⟨x,_,e2⟩:=List.mem_map.mp this
  injection e2 with e2
  cases e2
 ·have h1:=h.rw_ t ht r hr
  rw [e,h.at_] at h1
  injection h1 with h1
  injection h1 with h1
  have:=tK_mem ht
  rw [h1] at this
  exact rK_flat (ok.ok t ht r hr) this
def pcT (t:Tt):Str × List Rw:=(t.z,(srt (t.rs.map cR)).map (·.2))
def spHas:Sp:=fun vs H Q _=>∃ (p:Addr) (ts:List Tt),vs = [.ref p]/\PdAt H p ts/\PdOk ts/\∀ H',Same H H'->Q (.bl (ts.any fun t=>decide (0 < t.rs.length))) H'
def jn (G N:Hp):Hp:=fun b=>match N b with | none=>G b | some o=>some o
theorem jn_new {G N:Hp} {b:Addr} {o:HO} (h:N b = some o):jn G N b = some o:=by unfold jn;rw [h]
theorem jn_old {G H H':Hp} {b:Addr} {o:HO} (s:Same G H) (h:G b = some o):jn G (cut H H') b = some o:=by
 unfold jn
 have:cut H H' b = none:=by unfold cut;rw [s _ _ h]
 rw [this]
 exact h
theorem jn_sub {G H H':Hp} (s:Same G H'):Same (jn G (cut H H')) H':=fun b o e=>by
 unfold jn at e
 cases e2:cut H H' b with
 | none=>rw [e2] at e;exact s _ _ e
 | some u=>rw [e2] at e;rw [← e];exact cut_sub _ _ e2
def spPieceOf:Sp:=fun vs H Q _=>∃ (p:Addr) (ts:List Tt) (G:Hp),vs = [.ref p]/\Same G H/\PdAt G p ts/\PdOk ts/\∀ p' H',Same H H'->PcAt (jn G (cut H H')) p' (ts.map pcT)->Q (.ref p') H'
section
variable {P:Program} {w:World} {K:PySem.W.Frag} {mg:Str->Option Value} {base:Heap}
theorem ok_has {f:Addr} {fd:FuncData} (F:Fun K "has_rows" "has_rows" (top 29) f fd) (B:Bl mg):FnOk P w K mg base CX0 1 f fd ["placed"] spHas:=by
 have sc:FnScope ["placed"] ["placed"] (defScope (top 29)):=⟨rfl,rfl,rfl,by decide +kernel,rfl,by decide +kernel,by decide +kernel⟩
 refine F.ok sc (fun vs H Q E h=>?_) (fun cdv A outer s H vs Q E hr h=>?_)
 ·obtain ⟨p,ts,rfl,_⟩:=h
  rfl
 ·obtain ⟨p,ts,rfl,hp,ok,q⟩:=h
  refine ⟨_,pss_one (ps_frz (ps_ret (pe_callB (call_any rfl) (by rfl) B.any boot_any (pa_cons (pe_comp (osc:=defScope (top 29)) (N0:=["placed"]) (xs:=["rows"]) (fr:=[]) ⟨rfl,by decide +kernel,by decide +kernel,by decide +kernel,by decide,by decide +kernel⟩ rfl rfl rfl (pi_values (pv 0))
    (fun s H fp=>pg_name (i:=0) (show (["rows"]:List Str).Nodup by decide +kernel) rfl (Or.inl rfl)) (fun s H fp=>pif_nil) (fun s H fp=>pe_cmpR op_gt (pe_callB call_lenD (by rfl) B.len PySem.boot_len (pa_cons (pv 0) pa_nil)) pe_int (nomark _))) pa_nil)))),?_⟩
  refine ⟨p,_,hp.at_,fun o=>?_⟩
  have cf:(upd H p (.frz o (.dK (tK ts)))) p = some (.frz o (.dK (tK ts))):=upd_same
  have bk:∀ {H':Hp},Same (upd H p (.frz o (.dK (tK ts)))) H'->Same H (upd H' p (.dK (tK ts))):=fun e=>back_same hp.at_ e
  have rt:∀ t ∈ ts,(upd H p (.frz o (.dK (tK ts)))) t.r = some (.dK (pK t.rs)):=fun t ht=>by rw [upd_ne (hp.apart ok ht).1];exact hp.rt t ht
  generalize upd H p (.frz o (.dK (tK ts))) = HF at *
  have tl:(tK ts).length = ts.length:=by unfold tK;rw [List.length_map]
  refine ⟨_,rfl,p,o,_,rfl,cf,fun D hD=>?_⟩
  refine compW_idx ts.length (fun i ys σ' Hc=>(∃ t0,σ' = [t0])/\Same HF Hc/\ys = (ts.take i).map fun t=>V.bl (decide (0 < t.rs.length))) (by have:=ok.le;rw [sizeLine_eq];omega) ⟨⟨none,rfl⟩,Same.upd hD,rfl⟩ upd_same ?_ ?_
  ·rintro i σ' Hc ys hi ⟨⟨t0,rfl⟩,sm,rfl⟩ hyl hD'
   refine ⟨⟨by omega,sm _ _ cf⟩,?_⟩
   rintro x H' ⟨rfl,k,hk⟩
   unfold tK at hk
   rw [List.getElem?_map,List.getElem?_eq_getElem hi] at hk
   cases hk
   refine ⟨_,rfl,_,_,rfl,sm _ _ (rt _ (List.getElem_mem hi)),_,_,rfl,rfl,hD',⟨_,rfl⟩,sm.put hD,?_⟩
   rw [List.take_succ,List.getElem?_eq_getElem hi,List.map_append]
   congr 2
   unfold pK
   rw [List.length_map]
   show V.bl (decide ((0:Int) < (ts[i].rs.length:Nat))) = V.bl (decide (0 < ts[i].rs.length))
   congr 1
   rw [Bool.eq_iff_iff,decide_eq_true_iff,decide_eq_true_iff]
   omega
  ·rintro σ' Hc ys ⟨_,sm,rfl⟩ hDn hyl
   refine ⟨⟨by omega,sm _ _ cf⟩,?_⟩
   rw [List.take_length] at hDn
   refine ⟨D,ts.map fun t=>decide (0 < t.rs.length),rfl,SqL.of (by rw [hDn,List.map_map];rfl),sm _ _ cf,?_⟩
   have eb:(ts.map fun t=>decide (0 < t.rs.length)).any id = ts.any fun t=>decide (0 < t.rs.length):=by rw [List.any_map];rfl
   rw [eb]
   exact q _ (bk sm)
theorem ok_pieceOf {f:Addr} {fd:FuncData} (F:Fun K "piece_of" "piece_of" (top 30) f fd) (B:Bl mg):FnOk P w K mg base CX0 1 f fd ["placed"] spPieceOf:=by
 have sc:FnScope ["placed","piece","table","rows"] ["placed"] (defScope (top 30)):=⟨rfl,rfl,rfl,by decide +kernel,rfl,by decide +kernel,by decide +kernel⟩
 refine F.ok sc (fun vs H Q E h=>?_) (fun cdv A outer s H vs Q E hr h=>?_)
 ·obtain ⟨p,ts,G,rfl,_⟩:=h
  rfl
 ·obtain ⟨p,ts,G,rfl,sG,hG,ok,q⟩:=h
  have hp:=hG.same sG
  have hu:(A.deeper (envOfC "piece_of" (defScope (top 30)) s.heap.objs.size f cdv)).units + 1 < cLine:=hu_of hr
  refine ⟨_,pss_cons (ps_set (i:=1) sc.nd rfl (Or.inl rfl) pe_dnewK) (pss_cons (ps_frz (ps_for PassesOwn.never rfl (pi_items (pv 0)) (pg_tup rfl (pgs_cons (pg_name (i:=2) sc.nd rfl (Or.inl rfl)) (pgs_cons (pg_name (i:=3) sc.nd rfl (Or.inr rfl)) pgs_nil)))
    (pss_one (ps_dput hu (pv 1) (pv 2) (pe_comp (osc:=defScope (top 30)) (N0:=["placed","piece","table","rows"]) (xs:=["place"]) (fr:=[3]) ⟨rfl,by decide +kernel,by decide +kernel,by decide +kernel,(fun j hj=>by
       have e:j = 3:=by simpa using hj
       rcases e with rfl
       exact ⟨_,rfl,by decide +kernel⟩),by decide +kernel⟩ rfl rfl rfl (pi_list (pe_callB (call_sortedDI rfl) (by rfl) B.sorted boot_sorted (pa_cons (pv 3) pa_nil)))
     (fun s H fp=>pg_name (i:=0) (show (["place","rows"]:List Str).Nodup by decide +kernel) rfl (Or.inl rfl)) (fun s H fp=>pif_nil) (fun s H fp=>pe_dget hu (pv 1) (pv 0) (fun _ _=>rfl))) rfl)))) (pss_one (ps_ret (pv 1)))),?_⟩
  refine fun d hd=>⟨p,_,(Same.upd hd) _ _ hp.at_,fun o=>?_⟩
  have np:p ≠ d:=fun e=>by have:=hp.at_;rw [e,hd] at this;cases this
  have S0:Same H (upd H d (.dK [])):=Same.upd hd
  have d0:(upd H d (.dK [])) d = some (.dK []):=upd_same
  generalize upd H d (.dK []) = H1 at *
  have hfa:(upd H1 p (.frz o (.dK (tK ts)))) p = some (.frz o (.dK (tK ts))):=upd_same
  have hb0:Same H (upd (upd H1 p (.frz o (.dK (tK ts)))) p (.dK (tK ts))):=S0.trans (back_same (S0 _ _ hp.at_) (Same.refl _))
  have d1:(upd H1 p (.frz o (.dK (tK ts)))) d = some (.dK []):=by rw [upd_ne np.symm];exact d0
  generalize upd H1 p (.frz o (.dK (tK ts))) = H2 at *
  have tl:(tK ts).length = ts.length:=by unfold tK;rw [List.length_map]
  refine ⟨_,rfl,p,o,_,rfl,hfa,for_items (a:=p) (o:=o) (kvs:=tK ts) (fun i σ H3=>H3 p = some (.frz o (.dK (tK ts)))/\Same H (upd H3 p (.dK (tK ts)))/\∃ u2 u3,σ = [some (.ref p),some (.ref d),u2,u3]/\∃ ls:List Addr,H3 d = some (.dK (zK ((ts.take i).map (·.z)) ls))/\ls.length = i/\∀ (j:Nat) (l:Addr) (t:Tt),ls[j]? = some l->ts[j]? = some t->∃ rs:List Addr,H l = none/\H3 l = some (.lst (rs.map V.ref))/\rs.length = (srt (t.rs.map cR)).length/\∀ (j':Nat) (r:Addr) (c:Int × Rw),rs[j']? = some r->(srt (t.rs.map cR))[j']? = some c->G r = some (.dK (rK c.2)))
   ⟨hfa,hb0,_,_,rfl,[],d1,rfl,fun j l t h=>nomatch h⟩ (fun i σ H3 _ p=>p.1) ?_ ?_⟩
  ·rintro i k v p1 σ H3 hk ⟨h3p,sm,u2,u3,rfl,ls,f1,f2,f3⟩ hp1
   have hi:i < ts.length:=by
    have:=(List.getElem?_eq_some_iff.mp hk).1
    omega
   unfold tK at hk
   rw [List.getElem?_map,List.getElem?_eq_getElem hi] at hk
   cases hk
   have htm:ts[i] ∈ ts:=List.getElem_mem hi
   obtain ⟨nr,nq⟩:=hp.apart ok htm
   have T1:=Same.upd (o:=.tup [kV (.inr ts[i].z),.ref ts[i].r]) hp1
   refine ⟨p1,_,rfl,SqT.of upd_same,rfl,_,_,rfl,_,_,rfl,rfl,?_⟩
   generalize upd H3 p1 (.tup [kV (.inr ts[i].z),.ref ts[i].r]) = H4 at T1
   have back:∀ {b:Addr} {ob:HO},b ≠ p->H b = some ob->H4 b = some ob:=fun {b ob} nb e=>by
    have:=sm b ob e
    rw [upd_ne nb] at this
    exact T1 _ _ this
   have nH:∀ {b:Addr},H4 b = none->H b = none:=fun {b} e=>by
    by_cases nb:b = p
    ·rw [nb,T1 _ _ h3p] at e;cases e
    ·cases e2:H b with
     | none=>rfl
     | some ob=>rw [back nb e2] at e;cases e
   have r4:=back nr (hp.rt _ htm)
   refine ⟨_,rfl,ts[i].r,_,ts[i].rs.map (·.pl),rfl,.inl r4,(by unfold pK;rw [List.map_map,List.map_map];rfl),(by rw [List.length_map];exact ok.pl _ htm),fun l ms hl hpm hsm=>?_⟩
   have em:ms = (srt (ts[i].rs.map cR)).map (·.1):=srt_keys (by rw [List.map_map];exact hpm) hsm
   subst em
   have T2:=Same.upd (o:=.lst (((srt (ts[i].rs.map cR)).map (·.1)).map V.int)) hl
   have l5:(upd H4 l (.lst (((srt (ts[i].rs.map cR)).map (·.1)).map V.int))) l = some (.lst (((srt (ts[i].rs.map cR)).map (·.1)).map V.int)):=upd_same
   generalize upd H4 l (.lst (((srt (ts[i].rs.map cR)).map (·.1)).map V.int)) = H5 at *
   have sl:(srt (ts[i].rs.map cR)).length = ts[i].rs.length:=by rw [(srt_perm _).length_eq,List.length_map]
   have hsm64:=ok.pl _ htm
   refine ⟨l,rfl,⟨_,SqL.of l5⟩,fun D hD=>?_⟩
   refine compW_idx (srt (ts[i].rs.map cR)).length (fun i' ys σ' Hc=>(∃ t,σ' = [t,some (.ref ts[i].r)])/\Same H5 Hc/\∃ qs:List Addr,ys = qs.map V.ref/\∀ (j':Nat) (r:Addr) (c:Int × Rw),qs[j']? = some r->(srt (ts[i].rs.map cR))[j']? = some c->G r = some (.dK (rK c.2))) (by rw [sizeLine_eq];omega) ⟨⟨none,rfl⟩,Same.upd hD,[],rfl,fun j r row h=>nomatch h⟩ upd_same ?_ ?_
   ·rintro i' σ' Hc ys hi' ⟨⟨u,rfl⟩,sc',qs,rfl,hqs⟩ hyl hD'
    rw [List.length_map] at hyl
    have eI:(((srt (ts[i].rs.map cR)).map (·.1)).map V.int)[i']? = some (.int (srt (ts[i].rs.map cR))[i'].1):=by rw [List.getElem?_map,List.getElem?_map,List.getElem?_eq_getElem hi'];rfl
    refine ⟨⟨_,_,SqL.of (sc' _ _ l5),eI⟩,?_⟩
    rintro x H' ⟨rfl,hx'⟩
    have ex:=hx' _ (SqL.of (sc' _ _ l5))
    rw [eI] at ex
    cases ex
    have hcm:(srt (ts[i].rs.map cR))[i'] ∈ ts[i].rs.map cR:=(srt_perm _).mem_iff.mp (List.getElem_mem hi')
    obtain ⟨r0,hr0,e0⟩:=List.mem_map.mp hcm
    refine ⟨_,rfl,_,rfl,ts[i].r,.ref r0.q,rfl,.inl ⟨_,.inl r0.pl,.inl ((T2.trans sc') _ _ r4),(by rw [← e0];rfl),(pK_val (ok.pn _ htm) hr0).symm⟩,hD',⟨_,rfl⟩,sc'.put hD,qs ++ [r0.q],by rw [List.map_append];rfl,fun j r c h1 h2=>?_⟩
    by_cases hj:j < qs.length
    ·rw [List.getElem?_append_left hj] at h1
     exact hqs j r c h1 h2
    ·have hj':j = qs.length:=by
      have:=(List.getElem?_eq_some_iff.mp h1).1
      rw [List.length_append] at this
      simp at this
      omega
     subst hj'
     rw [List.getElem?_append_right (Nat.le_refl _),Nat.sub_self] at h1
     cases h1
     rw [hyl,List.getElem?_eq_getElem hi'] at h2
     cases h2
     rw [← e0]
     exact hG.rw_ _ htm r0 hr0
   ·rintro σ' Hc ys ⟨_,sc',qs,rfl,hqs⟩ hDn hyl
    rw [List.length_map] at hyl
    have T12:=T1.trans (T2.trans sc')
    refine ⟨⟨_,SqL.of (sc' _ _ l5),by rw [List.length_map,List.length_map];exact Nat.le_refl _⟩,_,rfl,_,rfl,d,_,rfl,.inl ⟨_,.inr ts[i].z,T12 _ _ f1,rfl,(by rw [zK_len (by rw [List.length_map,List.length_take];omega),List.length_map,List.length_take,sizeLine_eq];have:=ok.le;omega),rfl⟩,?_⟩
    have hnew:ts[i].z ∉ (ts.take i).map (·.z):=fun hm=>by
     have nd:=ok.nd
     have e:ts.map (·.z) = (ts.take i).map (·.z) ++ (ts.drop i).map (·.z):=by rw [← List.map_append,List.take_append_drop]
     rw [e,List.nodup_append] at nd
     refine nd.2.2 _ hm ts[i].z ?_ rfl
     rw [List.drop_eq_getElem_cons hi,List.map_cons]
     exact List.mem_cons_self
    rw [putK_new _ (zK_new hnew),← zK_snoc (by rw [List.length_map,List.length_take];omega)]
    have nDd:D ≠ d:=fun e=>by rw [e,(T1.trans T2) _ _ f1] at hD;cases hD
    refine ⟨by rw [upd_ne np];exact T12 _ _ h3p,fun b ob hb=>?_,_,_,rfl,ls ++ [D],?_,?_,fun j l' t h1 h2=>?_⟩
    ·by_cases e:b = p
     ·subst e
      rw [upd_same]
      rw [hp.at_] at hb
      exact hb
     ·rw [upd_ne e,upd_ne (ne_of_none hb hd)]
      exact (T2.trans sc') _ _ (back e hb)
    ·rw [upd_same,List.take_succ,List.getElem?_eq_getElem hi,List.map_append]
     rfl
    ·rw [List.length_append,f2]
     rfl
    ·by_cases hj:j < i
     ·rw [List.getElem?_append_left (by omega)] at h1
      obtain ⟨rs,b0,b1,b2,b3⟩:=f3 j l' t h1 h2
      have nlf:l' ≠ d:=fun e=>by rw [e,f1] at b1;cases b1
      exact ⟨rs,b0,by rw [upd_ne nlf];exact T12 _ _ b1,b2,b3⟩
     ·have hj':j = i:=by
       have:=(List.getElem?_eq_some_iff.mp h1).1
       rw [List.length_append,f2] at this
       simp at this
       omega
      subst hj'
      rw [List.getElem?_append_right (by omega),f2,Nat.sub_self] at h1
      cases h1
      rw [List.getElem?_eq_getElem hi] at h2
      cases h2
      exact ⟨qs,nH (none_of T2 hD),by rw [upd_ne nDd];exact hDn,by omega,hqs⟩
  ·rintro σ H3 ⟨h3p,sm,u2,u3,rfl,ls,f1,f2,f3⟩
   rw [tl,List.take_length] at f1
   rw [tl] at f2
   refine ⟨h3p,_,rfl,q d _ sm ⟨ls,?_,by rw [f2,List.length_map],fun j l t h1 h2=>?_⟩⟩
   ·refine jn_new (cut_at hd ?_)
    rw [upd_ne np.symm,f1,List.map_map]
    rfl
   ·rw [List.getElem?_map] at h2
    cases e:ts[j]? with
    | none=>rw [e] at h2;cases h2
    | some t0=>
     rw [e] at h2
     cases h2
     obtain ⟨rs,b0,b1,b2,b3⟩:=f3 j l t0 h1 e
     have nlp:l ≠ p:=fun e=>by rw [e,h3p] at b1;cases b1
     refine ⟨rs,jn_new (cut_at b0 (by rw [upd_ne nlp];exact b1)),by rw [b2];show _ = ((srt (t0.rs.map cR)).map (·.2)).length;rw [List.length_map],fun j' r row c1 c2=>?_⟩
     change ((srt (t0.rs.map cR)).map (·.2))[j']? = some row at c2
     rw [List.getElem?_map] at c2
     cases e2:(srt (t0.rs.map cR))[j']? with
     | none=>rw [e2] at c2;cases c2
     | some c=>
      rw [e2] at c2
      cases c2
      exact jn_old sG (b3 j' r c c1 e2)
end
end My
namespace My
open PySem L2 PyProof.Rows
seal L2.PE L2.PT L2.PW L2.PS L2.PSs L2.PA L2.PI L2.PG L2.PGs L2.OpR L2.UnR L2.CallR L2.IxR L2.SlR L2.MtR L2.PIf L2.PO L2.MtM L2.PC
theorem cutP {G T:Prop} (h:T->G) (t:T):G:=h t
def PlOk (sort:Str) (ps:List Int):Prop:=(∀ i:Nat,(i:Int) ∈ ps ↔ i < ps.length)/\(sort ∈ lone\/sort = "some"->0 < ps.length)
def spAskP:Sp:=fun vs H Q _=>∃ (z sort:Str) (k:V) (r:Addr) (rs:List Rr),vs = [.str z,.str sort,k,.ref r]/\H r = some (.dK (pK rs))/\(rs.map (·.pl)).Nodup/\rs.length < 1000/\PlOk sort (rs.map (·.pl))/\Q .non H
def spAskT:Sp:=fun vs H Q _=>∃ (f p:Addr) (sz:Int) (Ts:List Tb) (k:V) (ts:List Tt),vs = [.ref f,k,.ref p]/\FormAt H f sz Ts/\TbOk Ts/\PdAt H p ts/\PdOk ts/\ts.map (·.z) = Ts.map (·.name)/\((ts.any fun t=>decide (0 < t.rs.length)) = true->∀ T ∈ Ts,∀ t ∈ ts,t.z = T.name->PlOk T.sort (t.rs.map (·.pl)))/\∀ H',Same H H'->Q .non H'
section
variable {P:Program} {w:World} {K:PySem.W.Frag} {mg:Str->Option Value} {base:Heap}
theorem ok_askP {f sA:Addr} {fd:FuncData} (F:Fun K "ask_places" "ask_places" (top 32) f fd) (B:Bl mg) (LN:Ln K mg sA):FnOk P w K mg base CX0 1 f fd ["table","sort","key","rows"] spAskP:=by
 have sc:FnScope ["table","sort","key","rows","place"] ["table","sort","key","rows"] (defScope (top 32)):=⟨rfl,rfl,rfl,by decide +kernel,rfl,by decide +kernel,by decide +kernel⟩
 refine F.ok sc (fun vs H Q E h=>?_) (fun cdv A outer s H vs Q E hr h=>?_)
 ·obtain ⟨z,sort,k,r,rs,rfl,_⟩:=h
  rfl
 ·obtain ⟨z,sort,k,r,rs,rfl,h1,nd,h60,⟨pl,p0⟩,q⟩:=h
  have hu:(A.deeper (envOfC "ask_places" (defScope (top 32)) s.heap.objs.size f cdv)).units + 1 < cLine:=hu_of hr
  refine ⟨_,pss_cons (ps_set (i:=4) sc.nd rfl (Or.inl rfl) pe_int)
   (pss_cons (ps_while PassesOwn.never (pt_cmp (pc_din hu (pv 4) (pv 3))) (pss_one (ps_set (i:=4) sc.nd rfl (Or.inl rfl) (pe_op op_add (pv 4) pe_int))))
   (pss_cons (ps_if (PW.pt (pw_and (pt_cmpR op_in_seq (pv 1) (pe_glob (v:=.ref sA) (by rfl) LN.mS rfl) (by with_unfolding_all rfl)) (pw_and1 (pt_cmpR op_eq (pv 4) pe_int (nomark _))))) pss_never pss_nil)
   (pss_one (ps_if (PW.pt (pw_or (pt_cmpR op_lt (pv 4) (pe_callB call_lenD (by rfl) B.len PySem.boot_len (pa_cons (pv 3) pa_nil)) (nomark _)) (pw_or1 (PW.pt (pw_and (pt_cmpR op_eq (pv 1) pe_str (nomark _)) (pw_and1 (pt_cmpR op_eq (pv 4) pe_int (nomark _)))))))) pss_never pss_nil)))),?_⟩
  rw [List.length_map] at pl p0
  refine while_by (fun σ H'=>H' = H/\∃ i:Nat,i ≤ rs.length/\σ = [some (.str z),some (.str sort),some k,some (.ref r),some (.int (i:Nat))])
   (fun σ _=>match σ with | [_,_,_,_,some (.int i)]=>rs.length - i.toNat | _=>0) ⟨rfl,0,Nat.zero_le _,rfl⟩ ?_ ?_
  ·rintro σ H' ⟨rfl,i,hi,rfl⟩
   by_cases hin:i < rs.length
   ·obtain ⟨r0,hr0,e0⟩:=List.mem_map.mp ((pl i).mpr hin)
    have ev:valV (pK rs) (.inl ((i:Nat):Int)) = some (.ref r0.q):=by rw [← e0];exact pK_val nd hr0
    refine ⟨_,rfl,_,rfl,r,some (.ref r0.q),rfl,.inl ⟨_,.inl ((i:Nat):Int),.inl h1,rfl,ev.symm⟩,_,rfl,iteT ?_⟩
    refine ⟨_,rfl,_,_,rfl,rfl,⟨rfl,i + 1,hin,?_⟩,?_⟩
    ·rfl
    ·show rs.length - ((i:Int) + 1).toNat < rs.length - (i:Int).toNat
     omega
   ·refine ⟨_,rfl,_,rfl,r,_,rfl,.inl ⟨_,.inl (i:Nat),.inl h1,rfl,(pK_non fun h=>hin ((pl i).mp h)).symm⟩,_,rfl,iteF ?_⟩
    have ei:i = rs.length:=by omega
    subst ei
    refine ⟨_,rfl,sA,_,rfl,.inr (LN.qS _),rfl,(by decide),_,rfl,?_⟩
    show if (inV (.str sort) _) = true then _ else _
    rw [inV_str]
    have lenE:(pK rs).length = rs.length:=by unfold pK;rw [List.length_map]
    apply cutP
    ·intro fin
     by_cases hl:sort ∈ lone
     ·rw [decide_eq_true hl]
      have:=p0 (.inl hl)
      refine iteT ⟨_,rfl,rfl,_,rfl,iteC (decide_eq_false fun e=>?_) fin⟩
      injection e with e
      omega
     ·rw [decide_eq_false hl]
      exact iteF (iteF fin)
    refine ⟨_,rfl,_,rfl,r,_,rfl,h1,_,_,rfl,rfl,_,rfl,iteC (decide_eq_false (by rw [lenE];omega)) ?_⟩
    refine ⟨_,rfl,rfl,_,rfl,?_⟩
    by_cases hs:sort = "some"
    ·have:=p0 (.inr hs)
     refine iteB (by rw [hs];decide +kernel) ⟨_,rfl,rfl,_,rfl,iteC (decide_eq_false fun e=>?_) q⟩
     injection e with e
     omega
    ·refine iteC (decide_eq_false fun e=>hs (by injection e)) (iteF q)
  ·rintro σ H Q Q' hq ⟨x,hx,y,hy,a,o,e1,e2,c,e3,e4⟩
   exact ⟨x,hx,y,hy,a,o,e1,e2,c,e3,hq _ _ e4⟩
theorem tK_val {ts:List Tt} (nd:(ts.map (·.z)).Nodup) {t:Tt} (h:t ∈ ts):valV (tK ts) (.inr t.z) = some (.ref t.r):=by
 induction ts with
 | nil=>cases h
 | cons a r ih=>
  rw [List.map_cons,List.nodup_cons] at nd
  unfold tK
  rw [List.map_cons]
  rcases List.mem_cons.mp h with rfl | h
  ·exact valV_pos rfl
  ·rw [valV_neg (fun e=>?_)]
   ·exact ih nd.2 h
   ·have e2:a.z = t.z:=by injection e
    exact nd.1 (e2 ▸ List.mem_map.mpr ⟨t,h,rfl⟩)
theorem ok_askT {f fH fT fI fS fP sA:Addr} {fd fdH fdT fdI fdS fdP:FuncData} (F:Fun K "ask_thing" "ask_thing" (top 31) f fd) (B:Bl mg) (LN:Ln K mg sA) (DH:Df K mg "has_rows" (top 29) fH fdH) (DT:Df K mg "tables_of" (top 18) fT fdT) (DI:Df K mg "table_in" (top 22) fI fdI) (DS:Df K mg "sort_of" (top 20) fS fdS) (DP:Df K mg "ask_places" (top 32) fP fdP) :
  FnOk P w K mg base CX0 3 f fd ["form","key","placed"] spAskT:=by
 have sc:FnScope ["form","key","placed","table"] ["form","key","placed"] (defScope (top 31)):=⟨rfl,rfl,rfl,by decide +kernel,rfl,by decide +kernel,by decide +kernel⟩
 have GT:FnOk P w K mg base CX0 1 fT fdT ["form"] spTabs:=ok_tabs DT.fn
 have bT:=DT.fn.binds (ps:=["form"]) fun _ _ _ _ _ _ us hl=>by obtain ⟨v0,rfl⟩:=L2.ln1 hl;rfl
 have GH:FnOk P w K mg base CX0 1 fH fdH ["placed"] spHas:=ok_has DH.fn B
 have bH:=DH.fn.binds (ps:=["placed"]) fun _ _ _ _ _ _ us hl=>by obtain ⟨v0,rfl⟩:=L2.ln1 hl;rfl
 have GS:FnOk P w K mg base CX0 2 fS fdS ["form","table"] spSortOf:=ok_sortOf DS.fn DI
 have bS:=DS.fn.binds (ps:=["form","table"]) fun _ _ _ _ _ _ us hl=>by obtain ⟨v0,v1,rfl⟩:=L2.ln2 hl;rfl
 have GP:FnOk P w K mg base CX0 1 fP fdP ["table","sort","key","rows"] spAskP:=ok_askP DP.fn B LN
 have bP:=DP.fn.binds (ps:=["table","sort","key","rows"]) fun _ _ _ _ _ _ us hl=>by obtain ⟨v0,v1,v2,v3,rfl⟩:=L2.ln4 hl;rfl
 refine F.ok sc (fun vs H Q E h=>?_) (fun cdv A outer s H vs Q E hr h=>?_)
 ·obtain ⟨f,p,sz,Ts,k,ts,rfl,_⟩:=h
  rfl
 ·obtain ⟨f,p,sz,Ts,k,ts,rfl,hf,tok,hp,ok,hz,hpl,q⟩:=h
  have hr1:Room 1 _:=hr.mono (by decide)
  have hu:(A.deeper (envOfC "ask_thing" (defScope (top 31)) s.heap.objs.size _ cdv)).units + 1 < cLine:=hu_of hr
  refine ⟨_,pss_cons (ps_if (pt_not (pt_val (pe_call GH hr1 (by rfl) DH.mg DH.fn.kp bH .nil pass0 (pa_cons (pv 2) pa_nil)))) (pss_one ps_retN) pss_nil)
   (pss_one (ps_for PassesOwn.never rfl (pi_list (pe_call GT hr1 (by rfl) DT.mg DT.fn.kp bT .nil pass0 (pa_cons (pv 0) pa_nil))) (pg_name (i:=3) sc.nd rfl (Or.inl rfl))
    (pss_one (ps_expr (pe_call GP hr1 (by rfl) DP.mg DP.fn.kp bP .nil pass0 (pa_cons (pv 3) (pa_cons (pe_call GS hr (by rfl) DS.mg DS.fn.kp bS .nil pass0 (pa_cons (pv 0) (pa_cons (pv 3) pa_nil))) (pa_cons (pv 1) (pa_cons (pe_dget hu (pv 2) (pv 3) (fun _ _=>rfl)) pa_nil))))))))),?_⟩
  refine ⟨_,rfl,p,ts,rfl,hp,ok,fun H1 s1=>⟨_,rfl,?_⟩⟩
  cases hany:ts.any fun t=>decide (0 < t.rs.length) with
  | false=>exact iteT (q H1 s1)
  | true=>
   refine iteF ⟨_,rfl,f,sz,Ts,rfl,hf.same s1,tok.le,fun l H2 hl s2 l2=>⟨l,rfl,⟨_,SqL.of l2⟩,for_list (K:=K) (a:=l) (xs:=(Ts.map (·.name)).map V.str) (fun i σ H3=>H3 = H2/\∃ u,σ = [some (.ref f),some k,some (.ref p),u]) ⟨rfl,_,rfl⟩ (fun i σ H3 _ p=>by rw [p.1];exact SqL.of l2) ?_ ?_⟩⟩
   ·rintro i x σ H3 hx ⟨rfl,u,rfl⟩
    obtain ⟨z,hzm,rfl⟩:=List.mem_map.mp (List.mem_of_getElem? hx)
    obtain ⟨t,ht,e1⟩:=List.mem_map.mp (hz ▸ hzm)
    obtain ⟨T,hT,e2⟩:=List.mem_map.mp hzm
    have S:=s1.trans s2
    change t.z = z at e1
    change T.name = z at e2
    subst e2
    refine ⟨_,rfl,_,rfl,_,rfl,f,sz,Ts,T,rfl,hf.same S,tok.nd,hT,_,rfl,_,rfl,_,rfl,p,.ref t.r,rfl,.inl ⟨_,.inr t.z,.inl (S _ _ hp.at_),(by rw [e1];rfl),(tK_val ok.nd ht).symm⟩,T.name,T.sort,k,t.r,t.rs,rfl,S _ _ (hp.rt t ht),ok.pn t ht,(by have:=ok.pl t ht;omega),hpl hany T hT t ht e1,?_⟩
    exact ⟨rfl,_,rfl⟩
   ·rintro σ H3 ⟨rfl,_⟩
    exact q _ (s1.trans s2)
end
end My
namespace My
open PySem L2 PyProof.Rows
seal L2.PE L2.PT L2.PW L2.PS L2.PSs L2.PA L2.PI L2.PG L2.PGs L2.OpR L2.UnR L2.CallR L2.IxR L2.SlR L2.MtR L2.PIf L2.PO L2.MtM L2.PC
def byRow (rows:List Rw):List (Int × Rw):=rows.mapIdx fun i row=>((i:Int),row)
def plc (es:List (Int × Pc)) (k:Int) (z:Str):List (Int × Rw):=match es.find? fun e=>decide (e.1 = k) with
 | some e=>byRow (tab e.2 z)
 | none=>[]
def byPl (names:List Str) (es:List (Int × Pc)) (k:Int):List (Str × List (Int × Rw)):=names.map fun z=>(z,plc es k z)
def rrs (rows:List Rw) (qs:List Addr):List Rr:=qs.mapIdx fun i q=>⟨(i:Int),q,rows.getD i []⟩
theorem map_idx {α β γ:Type} (l:List α) (f:Nat->α->β) (g:β->γ):(l.mapIdx f).map g = l.mapIdx fun i x=>g (f i x):=by
 apply List.ext_getElem?
 intro i
 rw [List.getElem?_map,List.getElem?_mapIdx,List.getElem?_mapIdx]
 cases l[i]? <;> rfl
theorem idx_map {α β γ:Type} (l:List α) (h:α->β) (f:Nat->β->γ):(l.map h).mapIdx f = l.mapIdx fun i x=>f i (h x):=by
 apply List.ext_getElem?
 intro i
 rw [List.getElem?_mapIdx,List.getElem?_mapIdx,List.getElem?_map]
 cases l[i]? <;> rfl
theorem rrs_pK (rows:List Rw) (qs:List Addr):pK (rrs rows qs) = enV (qs.map V.ref):=by
 unfold pK rrs enV
 rw [map_idx,idx_map]
theorem rrs_c {rows:List Rw} {qs:List Addr} (h:qs.length = rows.length):(rrs rows qs).map cR = byRow rows:=by
 unfold rrs byRow
 rw [map_idx]
 apply List.ext_getElem?
 intro i
 rw [List.getElem?_mapIdx,List.getElem?_mapIdx]
 by_cases hi:i < rows.length
 ·have hq:i < qs.length:=by omega
  rw [List.getElem?_eq_getElem hi,List.getElem?_eq_getElem hq]
  show some (cR ⟨(i:Int),qs[i],rows.getD i []⟩) = some ((i:Int),rows[i])
  unfold cR
  rw [List.getD_eq_getElem?_getD,List.getElem?_eq_getElem hi]
  rfl
 ·rw [List.getElem?_eq_none (by omega),List.getElem?_eq_none (by omega)]
  rfl
theorem rrs_mem {rows:List Rw} {qs:List Addr} {r:Rr} (hl:qs.length = rows.length) (h:r ∈ rrs rows qs):∃ i:Nat,qs[i]? = some r.q/\rows[i]? = some r.row:=by
 obtain ⟨i,hi,e⟩:=List.mem_iff_getElem.mp h
 unfold rrs at hi e
 rw [List.length_mapIdx] at hi
 rw [List.getElem_mapIdx] at e
 subst e
 refine ⟨i,List.getElem?_eq_getElem hi,?_⟩
 show rows[i]? = some (rows.getD i [])
 rw [List.getD_eq_getElem?_getD,List.getElem?_eq_getElem (by omega)]
 rfl
theorem rrs_nd (rows:List Rw) (qs:List Addr):((rrs rows qs).map (·.pl)).Nodup:=by
 unfold rrs
 rw [map_idx]
 rw [List.Nodup,List.pairwise_iff_getElem]
 intro i j hi hj hij
 rw [List.getElem_mapIdx,List.getElem_mapIdx]
 show (i:Int) ≠ (j:Int)
 omega
theorem DGet.up {H H':Hp} {a:Addr} {y:V} {r:Option V} (h:DGet H a y r) (s:Same H H'):DGet H' a y r:=by
 have up:∀ {o:HO},Rd H a o->Rd H' a o:=fun h=>by
  rcases h with h | ⟨ob,h⟩
  ·exact .inl (s _ _ h)
  ·exact .inr ⟨ob,s _ _ h⟩
 rcases h with ⟨kvs,k,h1,h2⟩ | ⟨kvs,k,b,h1,h2,h3,h4⟩
 ·exact .inl ⟨kvs,k,up h1,h2⟩
 ·exact .inr ⟨kvs,k,b,up h1,h2,s _ _ h3,h4⟩
theorem plc_in {es:List En} (nd:(es.map (·.k)).Nodup) {e:En} (he:e ∈ es) (z:Str):plc (es.map kc) e.k z = byRow (tab e.pc z):=by
 unfold plc
 have:(es.map kc).find? (fun x=>decide (x.1 = e.k)) = some (kc e):=by
  induction es with
  | nil=>cases he
  | cons a r ih=>
   rw [List.map_cons,List.nodup_cons] at nd
   rw [List.map_cons,List.find?_cons]
   rcases List.mem_cons.mp he with rfl | he
   ·rw [show decide ((kc e).1 = e.k) = true from decide_eq_true rfl]
   ·have:decide ((kc a).1 = e.k) = false:=decide_eq_false fun h=>nd.1 (by
     show a.k ∈ _
     rw [show a.k = e.k from h]
     exact List.mem_map.mpr ⟨e,he,rfl⟩)
    rw [this]
    exact ih nd.2 he
 rw [this]
 rfl
theorem plc_out {es:List En} {k:Int} (h:k ∉ es.map (·.k)) (z:Str):plc (es.map kc) k z = []:=by
 unfold plc
 rw [List.find?_eq_none.mpr fun x hx=>?_]
 obtain ⟨e,he,rfl⟩:=List.mem_map.mp hx
 intro hd
 exact h (List.mem_map.mpr ⟨e,he,of_decide_eq_true hd⟩)
theorem putK_last {kvs:List (Key × V)} {k:Key} {v u:V} (h:k ∉ kvs.map (·.1)):putK (kvs ++ [(k,u)]) k v = kvs ++ [(k,v)]:=by
 unfold putK
 rw [if_pos (by rw [List.any_append];simp)]
 rw [List.map_append]
 congr 1
 ·conv=>rhs;rw [← List.map_id kvs]
  refine List.map_congr_left fun x hx=>?_
  rw [if_neg (fun e=>h (List.mem_map.mpr ⟨x,hx,e⟩))]
  rfl
 ·simp
structure ByAt (G H H':Hp) (p:Addr) (ts:List Tt):Prop where
 at_:H' p = some (.dK (tK ts))
 nw:∀ t ∈ ts,H t.r = none
 rt:∀ t ∈ ts,H' t.r = some (.dK (pK t.rs))
 rw_:∀ t ∈ ts,∀ r ∈ t.rs,G r.q = some (.dK (rK r.row))/\RwOk r.row
 nr:(ts.map (·.r)).Nodup
 pn:∀ t ∈ ts,(t.rs.map (·.pl)).Nodup
 pl:∀ t ∈ ts,t.rs.length < 64
def spByPl (CP:Addr):Sp:=fun vs H Q _=>∃ (a:Addr) (sz:Int) (Ts:List Tb) (es:List En) (k:Int) (G:Hp),vs = [.ref a,.int k]/\Same G H/\PlAt CP G a sz Ts es/\(∀ e ∈ es,∀ z,(tab e.pc z).length < 64)/\∀ p ts H',Same H H'->H p = none->ByAt G H H' p ts->ts.map cT = byPl (Ts.map (·.name)) (es.map kc) k->Q (.ref p) H'
theorem ByAt.snoc {G H H' H'':Hp} {p:Addr} {ts:List Tt} (h:ByAt G H H' p ts) (hp:H p = none) (t:Tt) (ap:t.r ≠ p) (n1:H' t.r = none) (n0:H t.r = none) (fr:∀ b o,b ≠ p->H' b = some o->H'' b = some o) (e1:H'' p = some (.dK (tK ts ++ [(.inr t.z,.ref t.r)]))) (e2:H'' t.r = some (.dK (pK t.rs)))
  (e3:∀ r ∈ t.rs,G r.q = some (.dK (rK r.row))/\RwOk r.row) (e4:(t.rs.map (·.pl)).Nodup) (e5:t.rs.length < 64) (np:∀ t' ∈ ts,t'.r ≠ p):ByAt G H H'' p (ts ++ [t]):=by
 have key:∀ {Pp:Tt->Prop},(∀ t' ∈ ts,Pp t')->Pp t->∀ t' ∈ ts ++ [t],Pp t':=fun h1 h2 t' ht=>by
  rcases List.mem_append.mp ht with ht | ht
  ·exact h1 t' ht
  ·rw [List.mem_singleton.mp ht];exact h2
 refine ⟨?_,key h.nw n0,key (fun t' ht=>fr _ _ (np t' ht) (h.rt t' ht)) e2,key h.rw_ e3,?_,key h.pn e4,key h.pl e5⟩
 ·rw [e1]
  unfold tK
  rw [List.map_append]
  rfl
 ·rw [List.map_append,List.nodup_append]
  refine ⟨h.nr,List.nodup_cons.mpr ⟨(fun h=>nomatch h),List.nodup_nil⟩,fun x h1 y h2 e=>?_⟩
  obtain ⟨t',ht,e'⟩:=List.mem_map.mp h1
  have e'':=List.mem_singleton.mp h2
  have hh:=h.rt t' ht
  change t'.r = x at e'
  change y = t.r at e''
  rw [e',e,e'',n1] at hh
  cases hh
theorem ByAt.np {G H H':Hp} {p:Addr} {ts:List Tt} (h:ByAt G H H' p ts):∀ t ∈ ts,t.r ≠ p:=fun t ht e=>by
 have h1:=h.rt t ht
 rw [e,h.at_] at h1
 injection h1 with h1
 injection h1 with h1
 have:=tK_mem ht
 rw [h1] at this
 obtain ⟨x,_,e2⟩:=List.mem_map.mp this
 injection e2 with e2
 cases e2
section
variable {P:Program} {w:World} {K:PySem.W.Frag} {mg:Str->Option Value} {base:Heap} {CP:Addr}
theorem ok_byPl {f fT:Addr} {fd fdT:FuncData} (F:Fun K "by_place" "Plain.by_place" (inClass (top 26) 2) f fd) (B:Bl mg) (L:ClP K CP) (DT:Df K mg "tables_of" (top 18) fT fdT):FnOk P w K mg base CX0 2 f fd ["self","key"] (spByPl CP):=by
 have sc:FnScope ["self","key","placed","table"] ["self","key"] (defScope (inClass (top 26) 2)):=⟨rfl,rfl,rfl,by decide +kernel,rfl,by decide +kernel,by decide +kernel⟩
 have GT:FnOk P w K mg base CX0 1 fT fdT ["form"] spTabs:=ok_tabs DT.fn
 have bT:=DT.fn.binds (ps:=["form"]) fun _ _ _ _ _ _ us hl=>by obtain ⟨v0,rfl⟩:=L2.ln1 hl;rfl
 refine F.ok sc (fun vs H Q E h=>?_) (fun cdv A outer s H vs Q E hr h=>?_)
 ·obtain ⟨a,sz,Ts,es,k,G,rfl,_⟩:=h
  rfl
 ·obtain ⟨a,sz,Ts,es,k,G,rfl,sG,⟨⟨dx,fo,td,ha0,hf0,htsG⟩,htb⟩,h64,q⟩:=h
  have ha:=sG _ _ ha0
  have hf:=hf0.same sG
  have hts:=htsG.same sG
  have hu:(A.deeper (envOfC "Plain.by_place" (defScope (inClass (top 26) 2)) s.heap.objs.size f cdv)).units + 1 < cLine:=hu_of hr
  refine ⟨_,pss_cons (ps_set (i:=2) sc.nd rfl (Or.inl rfl) pe_dnewK)
   (pss_cons (ps_for PassesOwn.never rfl (pi_list (pe_call GT hr (by rfl) DT.mg DT.fn.kp bT .nil pass0 (pa_cons (pe_fld (pv 0) rfl) pa_nil))) (pg_name (i:=3) sc.nd rfl (Or.inl rfl))
    (pss_cons (ps_dput hu (pv 2) (pv 3) pe_dnewK rfl) (pss_one (ps_if (pt_cmp (pc_din hu (pv 1) (pe_fld (pv 0) rfl)))
     (pss_one (ps_dput hu (pv 2) (pv 3) (pe_dictEnum rfl (by rfl) B.dict (by rfl) B.enum (pe_dget hu (pe_dget hu (pe_fld (pv 0) rfl) (pv 1) (fun _ _=>rfl)) (pv 3) (fun _ _=>rfl))) rfl)) pss_nil)))) (pss_one (ps_ret (pv 2)))),?_⟩
  refine fun p hp=>?_
  have S0:Same H (upd H p (.dK [])):=Same.upd hp
  have d0:(upd H p (.dK [])) p = some (.dK []):=upd_same
  generalize upd H p (.dK []) = H1 at *
  refine ⟨_,rfl,a,CP,dx,_,_,rfl,S0 _ _ ha,L.cl,L.nF,flds_form,fo,sz,Ts,rfl,hf.at_.same S0,hf.le,fun l H2 hl s2 l2=>?_⟩
  have hlp:l ≠ p:=fun e=>by rw [e,d0] at hl;cases hl
  have hl0:H l = none:=none_of S0 hl
  have S2:=S0.trans s2
  refine ⟨l,rfl,⟨_,SqL.of l2⟩,for_list (K:=K) (a:=l) (xs:=(Ts.map (·.name)).map V.str) (fun i σ H3=>Same H H3/\H3 l = some (.lst ((Ts.map (·.name)).map V.str))/\(∃ u,σ = [some (.ref a),some (.int k),some (.ref p),u])/\∃ ts,ByAt G H H3 p ts/\ts.map cT = byPl ((Ts.map (·.name)).take i) (es.map kc) k) ⟨S2,l2,⟨_,rfl⟩,[],⟨s2 _ _ d0,(fun t h=>nomatch h),(fun t h=>nomatch h),(fun t h=>nomatch h),List.nodup_nil,(fun t h=>nomatch h),(fun t h=>nomatch h)⟩,rfl⟩ (fun i σ H3 _ p=>SqL.of p.2.1) ?_ ?_⟩
  ·rintro i x σ H3 hx ⟨sm,l3,⟨u,rfl⟩,ts,hB,hc⟩
   have hi:i < (Ts.map (·.name)).length:=by
    have:=(List.getElem?_eq_some_iff.mp hx).1
    rwa [List.length_map] at this
   rw [List.getElem?_map,List.getElem?_eq_getElem hi] at hx
   cases hx
   generalize hz:(Ts.map (·.name))[i] = z
   have zin:z ∈ Ts.map (·.name):=hz ▸ List.getElem_mem hi
   have tz:ts.map (·.z) = (Ts.map (·.name)).take i:=by
    have:=congrArg (List.map Prod.fst) hc
    unfold byPl at this
    rw [List.map_map,List.map_map] at this
    rw [show (ts.map (·.z)) = ts.map (Prod.fst ∘ cT) from rfl,this]
    show List.map (fun z=>z) _ = _
    rw [List.map_id']
   have hnew:(.inr z:Key) ∉ (tK ts).map (·.1):=fun hm=>by
    unfold tK at hm
    rw [List.map_map] at hm
    obtain ⟨t,ht,e⟩:=List.mem_map.mp hm
    have e2:t.z = z:=by injection e
    have h1:z ∈ (Ts.map (·.name)).take i:=by rw [← tz];exact List.mem_map.mpr ⟨t,ht,e2⟩
    have nd:=hf.nd
    rw [← List.take_append_drop i (Ts.map (·.name)),List.nodup_append] at nd
    refine nd.2.2 z h1 z ?_ rfl
    rw [List.drop_eq_getElem_cons hi,hz]
    exact List.mem_cons_self
   have hval:valV (tK ts) (.inr z) = none:=by
    cases e:valV (tK ts) (.inr z) with
    | none=>rfl
    | some v=>exact absurd (valV_in e) hnew
   have tl:(tK ts).length ≤ 8:=by
    unfold tK
    rw [List.length_map,← List.length_map (f:=(·.z)) (as:=ts),tz,List.length_take,List.length_map]
    have:=hf.le
    omega
   have htk:∀ c,(ts.map cT) ++ [(z,c)] = byPl ((Ts.map (·.name)).take (i + 1)) (es.map kc) k ↔ c = plc (es.map kc) k z:=fun c=>by
    rw [hc,List.take_succ,List.getElem?_eq_getElem hi,hz]
    unfold byPl
    rw [List.map_append]
    show _ ++ [(z,c)] = _ ++ [(z,plc (es.map kc) k z)] ↔ _
    rw [List.append_cancel_left_eq]
    constructor
    ·intro h;injection h with h _;injection h
    ·intro h;rw [h]
   refine fun e0 he0=>⟨_,rfl,_,rfl,p,_,rfl,.inl ⟨tK ts,.inr z,(Same.upd he0) _ _ hB.at_,rfl,(by rw [sizeLine_eq];omega),rfl⟩,?_⟩
   have nep:e0 ≠ p:=fun e=>by rw [e,hB.at_] at he0;cases he0
   have he00:H e0 = none:=none_of sm he0
   rw [putK_new _ hval]
   have S4:Same H (upd (upd H3 e0 (.dK [])) p (.dK (tK ts ++ [(.inr z,.ref e0)]))):=(sm.put he00).put hp
   have fr4:∀ b o,b ≠ p->H3 b = some o->(upd (upd H3 e0 (.dK [])) p (.dK (tK ts ++ [(.inr z,.ref e0)]))) b = some o:=fun b o nb hb=>by rw [upd_ne nb];exact (Same.upd he0) _ _ hb
   have p4:(upd (upd H3 e0 (.dK [])) p (.dK (tK ts ++ [(.inr z,.ref e0)]))) p = some (.dK (tK ts ++ [(.inr z,.ref e0)])):=upd_same
   have e4:(upd (upd H3 e0 (.dK [])) p (.dK (tK ts ++ [(.inr z,.ref e0)]))) e0 = some (.dK []):=by rw [upd_ne nep];exact upd_same
   generalize upd (upd H3 e0 (.dK [])) p (.dK (tK ts ++ [(.inr z,.ref e0)])) = H4 at *
   have hts4:=hts.same S4
   by_cases hk:k ∈ es.map (·.k)
   ·obtain ⟨e,he,rfl⟩:=List.mem_map.mp hk
    obtain ⟨lr,g1,⟨rs,b1,b2,b3⟩,g3,g4⟩:=PcAt.get (htsG.ok _ he) (htsG.th _ he) (htb e he z zin)
    have h64':=h64 e he z
    refine ⟨_,rfl,_,rfl,a,CP,dx,_,_,rfl,S4 _ _ ha,L.cl,L.nT,flds_things,td,_,rfl,hts4.get he,_,rfl,iteT ?_⟩
    refine ⟨_,rfl,a,CP,dx,_,_,rfl,S4 _ _ ha,L.cl,L.nT,flds_things,_,rfl,td,_,rfl,hts4.get he,_,rfl,_,_,rfl,(DGet.up g1 (sG.trans S4)),lr,_,rfl,SqL.of ((sG.trans S4) _ _ b1),(by rw [List.length_map];omega),fun p2 hp2=>?_⟩
    have n2:p2 ≠ p:=fun e=>by rw [e,p4] at hp2;cases hp2
    have hp20:H p2 = none:=none_of S4 hp2
    refine ⟨_,rfl,_,rfl,p,_,rfl,.inl ⟨_,.inr z,(Same.upd hp2) _ _ p4,rfl,(by rw [List.length_append,sizeLine_eq];show _ + 1 < _;omega),rfl⟩,?_⟩
    rw [putK_last hnew]
    have l4:H4 l = some (.lst ((Ts.map (·.name)).map V.str)):=fr4 _ _ hlp l3
    refine ⟨(S4.put hp20).put hp,?_,⟨_,rfl⟩,ts ++ [⟨z,p2,rrs (tab e.pc z) rs⟩],?_,?_⟩
    ·rw [upd_ne hlp]
     exact (Same.upd hp2) _ _ l4
    ·refine hB.snoc hp ⟨z,p2,rrs (tab e.pc z) rs⟩ n2 ?_ hp20 (fun b o nb hb=>?_) upd_same ?_ (fun r hr'=>?_) (rrs_nd _ _) ?_ hB.np
     ·cases e3:H3 p2 with
      | none=>rfl
      | some o=>rw [fr4 _ _ n2 e3] at hp2;cases hp2
     ·rw [upd_ne nb]
      exact (Same.upd hp2) _ _ (fr4 _ _ nb hb)
     ·show _ = some (HO.dK (pK (rrs (tab e.pc z) rs)))
      rw [rrs_pK,upd_ne n2]
      exact upd_same
     ·obtain ⟨j,j1,j2⟩:=rrs_mem b2 hr'
      exact ⟨b3 j _ _ j1 j2,g4 _ (List.mem_of_getElem? j2)⟩
     ·show (rrs (tab e.pc z) rs).length < 64
      unfold rrs
      rw [List.length_mapIdx]
      omega
    ·rw [List.map_append]
     show _ ++ [(z,(rrs (tab e.pc z) rs).map cR)] = _
     rw [htk,rrs_c b2,plc_in hts.nd he]
   ·refine ⟨_,rfl,_,rfl,a,CP,dx,_,_,rfl,S4 _ _ ha,L.cl,L.nT,flds_things,td,_,rfl,hts4.non hk,_,rfl,iteF ?_⟩
    refine ⟨S4,fr4 _ _ hlp l3,⟨_,rfl⟩,ts ++ [⟨z,e0,[]⟩],hB.snoc hp ⟨z,e0,[]⟩ nep he0 he00 fr4 p4 e4 (fun r h=>nomatch h) List.nodup_nil (by show 0 < 64;decide) hB.np,?_⟩
    rw [List.map_append]
    show _ ++ [(z,([]:List Rr).map cR)] = _
    rw [htk,plc_out hk]
    rfl
  ·rintro σ H3 ⟨sm,l3,⟨u,rfl⟩,ts,hB,hc⟩
   rw [List.length_map,List.take_length] at hc
   exact ⟨_,rfl,q p ts H3 sm hp hB hc⟩
end
end My
namespace L2
open PySem PySem.Spec PyProof.Rows
def del (d:Addr) (H:Hp):Hp:=fun b=>if b = d then none else H b
theorem del_sub {d:Addr} {H:Hp}:Same (del d H) H:=fun b o e=>by
 unfold del at e
 split at e
 ·cases e
 ·exact e
theorem del_ne {d b:Addr} {H:Hp} {o:HO} (e:del d H b = some o):b ≠ d:=fun h=>by
 unfold del at e
 rw [if_pos h] at e
 cases e
theorem del_at {d b:Addr} {H:Hp} {o:HO} (n:b ≠ d) (e:H b = some o):del d H b = some o:=by
 unfold del
 rw [if_neg n]
 exact e
theorem del_up {d:Addr} {H H':Hp} (s:Same H H'):Same (del d H) (del d H'):=fun b o e=>del_at (del_ne e) (s _ _ (del_sub _ _ e))
theorem del_upd {d:Addr} {H:Hp} {o:HO}:del d (upd H d o) = del d H:=by
 funext b
 unfold del
 by_cases e:b = d
 ·rw [if_pos e,if_pos e]
 ·rw [if_neg e,if_neg e,upd_ne e]
theorem del_new {d:Addr} {H H':Hp} (s:Same H H') (h:H d = none):Same H (del d H'):=fun b o e=>del_at (ne_of_none e h) (s _ _ e)
end L2
namespace My
open PySem L2 PyProof.Rows
seal L2.PE L2.PT L2.PW L2.PS L2.PSs L2.PA L2.PI L2.PG L2.PGs L2.OpR L2.UnR L2.CallR L2.IxR L2.SlR L2.MtR L2.PIf L2.PO L2.MtM L2.PC
structure Nn where
 k:Int
 p:Addr
 ts:List Tt
abbrev Pt:=List (Str × List (Int × Rw))
def nK (st:List Nn):List (Key × V):=st.map fun n=>(.inl n.k,.ref n.p)
def cN (n:Nn):Int × Pt:=(n.k,n.ts.map cT)
def pcC (c:Str × List (Int × Rw)):Str × List Rw:=(c.1,(srt c.2).map (·.2))
def full (c:Pt):Bool:=c.any fun t=>decide (0 < t.2.length)
def bhd (es:List (Int × Pc)) (st:List (Int × Pt)) (k:Int):Option (Int × Pc):=match st.find? fun c=>decide (c.1 = k) with
 | some c=>if full c.2 = true then some (k,c.2.map pcC) else none
 | none=>es.find? fun e=>decide (e.1 = k)
theorem find_in {α β:Type} {l:List α} {g:α->Int × β} (nd:(l.map fun x=>(g x).1).Nodup) {x:α} (h:x ∈ l):(l.map g).find? (fun c=>decide (c.1 = (g x).1)) = some (g x):=by
 induction l with
 | nil=>cases h
 | cons a r ih=>
  rw [List.map_cons,List.nodup_cons] at nd
  rw [List.map_cons,List.find?_cons]
  rcases List.mem_cons.mp h with rfl | h
  ·rw [decide_eq_true rfl]
  ·rw [decide_eq_false fun e=>nd.1 (by rw [e];exact List.mem_map.mpr ⟨x,h,rfl⟩)]
   exact ih nd.2 h
theorem find_out {α β:Type} {l:List α} {g:α->Int × β} {k:Int} (h:k ∉ l.map fun x=>(g x).1):(l.map g).find? (fun c=>decide (c.1 = k)) = none:=
 List.find?_eq_none.mpr fun c hc hd=>by
  obtain ⟨x,hx,rfl⟩:=List.mem_map.mp hc
  exact h (List.mem_map.mpr ⟨x,hx,of_decide_eq_true hd⟩)
theorem bhd_key {es:List (Int × Pc)} {st:List (Int × Pt)} {k:Int} {c:Int × Pc} (h:bhd es st k = some c):c.1 = k:=by
 unfold bhd at h
 split at h
 ·split at h
  ·injection h with h
   rw [← h]
  ·cases h
 ·exact of_decide_eq_true (List.find?_some (p:=fun e:Int × Pc=>decide (e.1 = k)) h)
theorem bhd_sub (es:List (Int × Pc)) (st:List (Int × Pt)) (ms:List Int):((ms.filterMap (bhd es st)).map (·.1)).Sublist ms:=by
 induction ms with
 | nil=>exact List.Sublist.slnil
 | cons m r ih=>
  rw [List.filterMap_cons]
  cases e:bhd es st m with
  | none=>exact ih.cons _
  | some c=>
   show ((c :: _).map (·.1)).Sublist _
   rw [List.map_cons,bhd_key e]
   exact ih.cons₂ _
theorem cT_full (ts:List Tt):full (ts.map cT) = ts.any fun t=>decide (0 < t.rs.length):=by
 unfold full
 rw [List.any_map]
 congr 1
 funext t
 show decide (0 < (t.rs.map cR).length) = _
 rw [List.length_map]
theorem cT_pc (ts:List Tt):(ts.map cT).map pcC = ts.map pcT:=by
 rw [List.map_map]
 rfl
theorem pcOk_of {ts:List Tt} (ok:PdOk ts):PcOk (ts.map pcT):=by
 refine ⟨?_,?_,fun t ht=>?_,fun t ht row hrow=>?_⟩
 ·rw [List.map_map]
  exact ok.nd
 ·rw [List.length_map]
  exact ok.le
 ·obtain ⟨t,ht',rfl⟩:=List.mem_map.mp ht
  show ((srt (t.rs.map cR)).map (·.2)).length ≤ 1000
  rw [List.length_map,(srt_perm _).length_eq,List.length_map]
  have:=ok.pl t ht'
  omega
 ·obtain ⟨t,ht',rfl⟩:=List.mem_map.mp ht
  have hrow':row ∈ (srt (t.rs.map cR)).map (·.2):=hrow
  obtain ⟨c,hc,rfl⟩:=List.mem_map.mp hrow'
  obtain ⟨r,hr,rfl⟩:=List.mem_map.mp ((srt_perm _).mem_iff.mp hc)
  exact ok.ok t ht' r hr
theorem nd_le {α:Type} [DecidableEq α] {l r:List α} (nd:l.Nodup) (h:∀ x ∈ l,x ∈ r):l.length ≤ r.length:=by
 induction l generalizing r with
 | nil=>exact Nat.zero_le _
 | cons a l ih=>
  rw [List.nodup_cons] at nd
  have ha:=h a List.mem_cons_self
  have:=ih nd.2 (r:=r.erase a) (fun x hx=>by
   refine (List.mem_erase_of_ne (fun e=>nd.1 (by rw [← e];exact hx))).mpr (h x (List.mem_cons_of_mem _ hx)))
  rw [List.length_erase_of_mem ha] at this
  have:=List.length_pos_of_mem ha
  rw [List.length_cons]
  omega
def spBehind (CP:Addr):Sp:=fun vs H Q _=>∃ (a N:Addr) (sz:Int) (Ts:List Tb) (es:List En) (st:List Nn),vs = [.ref a,.ref N]/\PlAt CP H a sz Ts es/\H N = some (.dK (nK st))/\(st.map (·.k)).Nodup/\(∀ n ∈ st,PdAt H n.p n.ts/\PdOk n.ts)/\es.length + st.length ≤ 60 ∧
 ∀ (td:Addr) (us:List En) (ms:List Int) (H':Hp),Same H H'->ThsAt H' td us->ms.Nodup->ms.Pairwise (· ≤ ·)->(∀ x,x ∈ ms ↔ x ∈ es.map (·.k)\/x ∈ st.map (·.k))->us.map kc = ms.filterMap (bhd (es.map kc) (st.map cN))->Q (.ref td) H'
section
variable {P:Program} {w:World} {K:PySem.W.Frag} {mg:Str->Option Value} {base:Heap} {CP:Addr}
theorem ok_behind {f fH fP:Addr} {fd fdH fdP:FuncData} (F:Fun K "things_behind" "Plain.things_behind" (inClass (top 26) 3) f fd) (B:Bl mg) (L:ClP K CP) (DH:Df K mg "has_rows" (top 29) fH fdH) (DP:Df K mg "piece_of" (top 30) fP fdP):FnOk P w K mg base CX0 2 f fd ["self","named"] (spBehind CP):=by
 have sc:FnScope ["self","named","kept","key"] ["self","named"] (defScope (inClass (top 26) 3)):=⟨rfl,rfl,rfl,by decide +kernel,rfl,by decide +kernel,by decide +kernel⟩
 have GH:FnOk P w K mg base CX0 1 fH fdH ["placed"] spHas:=ok_has DH.fn B
 have bH:=DH.fn.binds (ps:=["placed"]) fun _ _ _ _ _ _ us hl=>by obtain ⟨v0,rfl⟩:=L2.ln1 hl;rfl
 have GP:FnOk P w K mg base CX0 1 fP fdP ["placed"] spPieceOf:=ok_pieceOf DP.fn B
 have bP:=DP.fn.binds (ps:=["placed"]) fun _ _ _ _ _ _ us hl=>by obtain ⟨v0,rfl⟩:=L2.ln1 hl;rfl
 refine F.ok sc (fun vs H Q E h=>?_) (fun cdv A outer s H vs Q E hr h=>?_)
 ·obtain ⟨a,N,sz,Ts,es,st,rfl,_⟩:=h
  rfl
 ·obtain ⟨a,N,sz,Ts,es,st,rfl,⟨⟨dx,fo,td,ha,hf,hts⟩,htb⟩,hN,snd,hst,h60,q⟩:=h
  have hu:(A.deeper (envOfC "Plain.things_behind" (defScope (inClass (top 26) 3)) s.heap.objs.size f cdv)).units + 1 < cLine:=hu_of hr
  refine ⟨_,pss_cons (ps_set (i:=2) sc.nd rfl (Or.inl rfl) pe_dnewK)
   (pss_cons (ps_for PassesOwn.never rfl (pi_list (pe_callB (call_sortedI rfl) (by rfl) B.sorted boot_sorted (pa_cons (pe_op op_orI (pe_callTy call_setDI (by rfl) B.set boot_set (pa_cons (pe_fld (pv 0) rfl) pa_nil)) (pe_callTy call_setDI (by rfl) B.set boot_set (pa_cons (pv 1) pa_nil))) pa_nil))) (pg_name (i:=3) sc.nd rfl (Or.inl rfl))
    (pss_one (ps_if (pt_cmp (pc_dnotin hu (pv 3) (pv 1))) (pss_one (ps_dput hu (pv 2) (pv 3) (pe_dget hu (pe_fld (pv 0) rfl) (pv 3) (fun _ _=>rfl)) rfl))
     (pss_one (ps_if (pt_val (pe_call GH hr (by rfl) DH.mg DH.fn.kp bH .nil pass0 (pa_cons (pe_dget hu (pv 1) (pv 3) (fun _ _=>rfl)) pa_nil))) (pss_one (ps_dput hu (pv 2) (pv 3) (pe_call GP hr (by rfl) DP.mg DP.fn.kp bP .nil pass0 (pa_cons (pe_dget hu (pv 1) (pv 3) (fun _ _=>rfl)) pa_nil)) rfl)) pss_nil))))) (pss_one (ps_ret (pv 2)))),?_⟩
  refine fun d hd=>?_
  have S0:Same H (upd H d (.dK [])):=Same.upd hd
  have d0:(upd H d (.dK [])) d = some (.dK []):=upd_same
  generalize upd H d (.dK []) = H1 at *
  have ek:(nK st).map (·.1) = (st.map (·.k)).map Sum.inl:=by unfold nK;rw [List.map_map,List.map_map];rfl
  have el:(kvT es).length = es.length:=by unfold kvT;rw [List.length_map]
  have sl:(nK st).length = st.length:=by unfold nK;rw [List.length_map]
  refine ⟨_,rfl,a,CP,dx,_,_,rfl,S0 _ _ ha,L.cl,L.nT,flds_things,td,_,es.map (·.k),rfl,.inl (S0 _ _ hts.at_),(by unfold kvT;rw [List.map_map,List.map_map];rfl),(by omega),fun q1 hq1=>?_⟩
  generalize hX2:upd H1 q1 _ = H2
  have T2:Same H1 H2:=hX2 ▸ Same.upd hq1
  have e2:H2 q1 = some (.ext (setI P w q1 (es.map (·.k)))):=by rw [← hX2];exact upd_same
  refine ⟨_,rfl,N,_,st.map (·.k),rfl,.inl ((S0.trans T2) _ _ hN),ek,(by omega),fun q2 hq2=>?_⟩
  generalize hX3:upd H2 q2 _ = H3
  have T3:Same H2 H3:=hX3 ▸ Same.upd hq2
  have e3:H3 q2 = some (.ext (setI P w q2 (st.map (·.k)))):=by rw [← hX3];exact upd_same
  refine ⟨q1,q2,_,_,rfl,rfl,(fun e=>by rw [← e,e2] at hq2;cases hq2),T3 _ _ e2,e3,(by rw [List.length_map,List.length_map];exact h60),fun q3 ms hq3 msn msm=>?_⟩
  generalize hX4:upd H3 q3 _ = H4
  have T4:Same H3 H4:=hX4 ▸ Same.upd hq3
  have e4:H4 q3 = some (.ext (setI P w q3 ms)):=by rw [← hX4];exact upd_same
  have m60:ms.length ≤ 60:=by
   have:=nd_le (r:=es.map (·.k) ++ st.map (·.k)) msn fun x hx=>List.mem_append.mpr ((msm x).mp hx)
   rw [List.length_append,List.length_map,List.length_map] at this
   omega
  refine ⟨q3,ms,rfl,e4,(by omega),fun l ns hl hpn hsn=>?_⟩
  have T5:=Same.upd (o:=.lst (ns.map V.int)) hl
  have e5:(upd H4 l (.lst (ns.map V.int))) l = some (.lst (ns.map V.int)):=upd_same
  generalize upd H4 l (.lst (ns.map V.int)) = H5 at *
  have ndn:ns.Nodup:=hpn.symm.nodup msn
  have nsm:∀ x,x ∈ ns ↔ x ∈ es.map (·.k)\/x ∈ st.map (·.k):=fun x=>by rw [hpn.mem_iff];exact msm x
  have n60:ns.length ≤ 60:=by rw [hpn.length_eq];exact m60
  have S5:=S0.trans (T2.trans (T3.trans (T4.trans T5)))
  refine ⟨l,rfl,⟨_,SqL.of e5⟩,for_list (K:=K) (a:=l) (xs:=ns.map V.int) (fun i σ H6=>Same H H6/\H6 l = some (.lst (ns.map V.int))/\(∃ u,σ = [some (.ref a),some (.ref N),some (.ref d),u])/\∃ us:List En,H6 d = some (.dK (kvT us))/\us.map kc = (ns.take i).filterMap (bhd (es.map kc) (st.map cN))/\∀ e ∈ us,PcAt (del d H6) e.p e.pc/\PcOk e.pc)
   ⟨S5,e5,⟨_,rfl⟩,[],(T2.trans (T3.trans (T4.trans T5))) _ _ d0,rfl,fun e h=>nomatch h⟩ (fun i σ H6 _ p=>SqL.of p.2.1) ?_ ?_⟩
  ·rintro i x σ H6 hx ⟨sm,l6,⟨u,rfl⟩,us,d6,hus,hpc⟩
   have hi:i < ns.length:=by
    have:=(List.getElem?_eq_some_iff.mp hx).1
    rwa [List.length_map] at this
   rw [List.getElem?_map,List.getElem?_eq_getElem hi] at hx
   cases hx
   generalize hk:ns[i] = k
   have kin:k ∈ ns:=hk ▸ List.getElem_mem hi
   have knew:k ∉ ns.take i:=fun hm=>by
    have nd:=ndn
    rw [← List.take_append_drop i ns,List.nodup_append] at nd
    refine nd.2.2 k hm k ?_ rfl
    rw [List.drop_eq_getElem_cons hi,hk]
    exact List.mem_cons_self
   have hsub:(us.map (·.k)).Sublist (ns.take i):=by
    have:=bhd_sub (es.map kc) (st.map cN) (ns.take i)
    rw [← hus,List.map_map] at this
    exact this
   have hval:valV (kvT us) (.inl k) = none:=valV_non (f:=En.k) (g:=fun t:En=>V.ref t.p) fun hm=>knew (hsub.subset hm)
   have ul:(kvT us).length ≤ 60:=by
    have:=hsub.length_le
    rw [List.length_map,List.length_take] at this
    unfold kvT
    rw [List.length_map]
    omega
   have hstep:∀ o,bhd (es.map kc) (st.map cN) k = o->(ns.take (i + 1)).filterMap (bhd (es.map kc) (st.map cN)) = us.map kc ++ o.toList:=fun o ho=>by
    rw [List.take_succ,List.getElem?_eq_getElem hi,hk,List.filterMap_append,← hus]
    show _ ++ List.filterMap _ [k] = _
    rw [List.filterMap_cons,ho]
    cases o <;> rfl
   have fin:∀ {H7:Hp} (e:En),Same H6 H7->e.k = k->PcAt (del d H7) e.p e.pc->PcOk e.pc->bhd (es.map kc) (st.map cN) k = some (kc e)->(Same H (upd H7 d (.dK (kvT us ++ [(.inl k,.ref e.p)])))/\(upd H7 d (.dK (kvT us ++ [(.inl k,.ref e.p)]))) l = some (.lst (ns.map V.int))/\(∃ u,[some (V.ref a),some (.ref N),some (.ref d),some (.int k)] = [some (.ref a),some (.ref N),some (.ref d),u])/\∃ us':List En,(upd H7 d (.dK (kvT us ++ [(.inl k,.ref e.p)]))) d = some (.dK (kvT us'))/\us'.map kc = (ns.take (i + 1)).filterMap (bhd (es.map kc) (st.map cN))/\∀ e' ∈ us',PcAt (del d (upd H7 d (.dK (kvT us ++ [(.inl k,.ref e.p)])))) e'.p e'.pc/\PcOk e'.pc):=by
    intro H7 e s7 ek' pe oke hb
    have nld:l ≠ d:=fun e=>by rw [e,d6] at l6;cases l6
    refine ⟨(sm.trans s7).put hd,by rw [upd_ne nld];exact s7 _ _ l6,⟨_,rfl⟩,us ++ [e],?_,?_,fun e' he'=>?_⟩
    ·rw [upd_same]
     unfold kvT
     rw [List.map_append,← ek']
     rfl
    ·rw [hstep _ hb,List.map_append]
     rfl
    ·rw [del_upd]
     rcases List.mem_append.mp he' with he' | he'
     ·exact ⟨(hpc e' he').1.same (del_up s7),(hpc e' he').2⟩
     ·rw [List.mem_singleton.mp he']
      exact ⟨pe,oke⟩
   have hts6:=hts.same sm
   by_cases hks:k ∈ st.map (·.k)
   ·obtain ⟨n,hn,rfl⟩:=List.mem_map.mp hks
    have gN:DGet H6 N (.int n.k) (some (.ref n.p)):=.inl ⟨_,.inl n.k,.inl (sm _ _ hN),rfl,(valV_map (f:=Nn.k) (g:=fun t:Nn=>V.ref t.p) snd hn).symm⟩
    have hb:bhd (es.map kc) (st.map cN) n.k = if full (n.ts.map cT) = true then some (n.k,(n.ts.map cT).map pcC) else none:=by
     unfold bhd
     rw [show n.k = (cN n).1 from rfl,find_in (g:=cN) snd hn]
     rfl
    rw [cT_full,cT_pc] at hb
    refine ⟨_,rfl,_,rfl,N,_,rfl,gN,_,rfl,iteF ?_⟩
    obtain ⟨hpd,okd⟩:=hst n hn
    refine ⟨_,rfl,_,rfl,N,_,rfl,gN,n.p,n.ts,rfl,hpd.same sm,okd,fun H7 s7=>⟨_,rfl,?_⟩⟩
    cases hany:n.ts.any fun t=>decide (0 < t.rs.length) with
    | false=>
     rw [hany] at hb
     refine iteF ⟨sm.trans s7,s7 _ _ l6,⟨_,rfl⟩,us,s7 _ _ d6,?_,fun e he=>⟨(hpc e he).1.same (del_up s7),(hpc e he).2⟩⟩
     rw [hstep none hb]
     exact (List.append_nil _).symm
    | true=>
     rw [hany] at hb
     have sG:Same H (del d H7):=del_new (sm.trans s7) hd
     have gN7:DGet H7 N (.int n.k) (some (.ref n.p)):=DGet.up gN s7
     refine iteT ⟨_,rfl,_,rfl,N,_,rfl,gN7,n.p,n.ts,del d H7,rfl,del_sub,hpd.same sG,okd,fun p' H8 s8 hp'=>?_⟩
     refine ⟨_,rfl,_,rfl,d,_,rfl,.inl ⟨kvT us,.inl n.k,(s7.trans s8) _ _ d6,rfl,(by rw [sizeLine_eq];omega),rfl⟩,?_⟩
     rw [putK_new _ hval]
     have sj:Same (jn (del d H7) (cut H7 H8)) (del d H8):=fun b o e=>by
      have e1:=jn_sub (del_sub.trans s8) _ _ e
      refine del_at (fun eb=>?_) e1
      subst eb
      unfold jn at e
      have c0:cut H7 H8 b = none:=by unfold cut;rw [s7 _ _ d6]
      rw [c0] at e
      exact del_ne e rfl
     exact fin ⟨n.k,p',n.ts.map pcT⟩ (s7.trans s8) rfl (hp'.same sj) (pcOk_of okd) hb
   ·have hke:k ∈ es.map (·.k):=((nsm k).mp kin).resolve_right hks
    obtain ⟨e,he,rfl⟩:=List.mem_map.mp hke
    have gN:DGet H6 N (.int e.k) none:=.inl ⟨_,.inl e.k,.inl (sm _ _ hN),rfl,(valV_non (f:=Nn.k) (g:=fun t:Nn=>V.ref t.p) hks).symm⟩
    refine ⟨_,rfl,_,rfl,N,_,rfl,gN,_,rfl,iteT ?_⟩
    refine ⟨_,rfl,a,CP,dx,_,_,rfl,sm _ _ ha,L.cl,L.nT,flds_things,_,rfl,td,_,rfl,hts6.get he,?_⟩
    refine ⟨_,rfl,_,rfl,d,_,rfl,.inl ⟨kvT us,.inl e.k,d6,rfl,(by rw [sizeLine_eq];omega),rfl⟩,?_⟩
    rw [putK_new _ hval]
    refine fin e (Same.refl _) rfl ((hts.th e he).same (del_new sm hd)) (hts.ok e he) ?_
    unfold bhd
    rw [find_out (g:=cN) hks,show e.k = (kc e).1 from rfl]
    exact find_in (g:=kc) hts.nd he
  ·rintro σ H6 ⟨sm,l6,⟨u,rfl⟩,us,d6,hus,hpc⟩
   rw [List.length_map,List.take_length] at hus
   have hsub:(us.map (·.k)).Sublist ns:=by
    have:=bhd_sub (es.map kc) (st.map cN) ns
    rw [← hus,List.map_map] at this
    exact this
   refine ⟨_,rfl,q d us ns H6 sm ⟨d6,hsub.nodup ndn,?_,fun e he=>(hpc e he).1.same del_sub,fun e he=>(hpc e he).2⟩ ndn hsn nsm hus⟩
   have:=hsub.length_le
   rw [List.length_map] at this
   omega
end
end My
namespace My
open PySem L2 PyProof.Rows
seal L2.PE L2.PT L2.PW L2.PS L2.PSs L2.PA L2.PI L2.PG L2.PGs L2.OpR L2.UnR L2.CallR L2.IxR L2.SlR L2.MtR L2.PIf L2.PO L2.MtM L2.PC
structure Stp where
 vb:Str
 z:Str
 k:Int
 p:Int
 row:Rw
def modC (s:Stp) (n:Int × Pt):Int × Pt:=if n.1 = s.k then (n.1,n.2.map fun t=>if t.1 = s.z then (t.1,nxtC s.vb (s.p,s.row) t.2) else t) else n
def addC (names:List Str) (es:List (Int × Pc)) (k:Int) (c:List (Int × Pt)):List (Int × Pt):=if k ∈ c.map (·.1) then c else c ++ [(k,byPl names es k)]
def appS (names:List Str) (es:List (Int × Pc)) (c:List (Int × Pt)) (s:Stp):List (Int × Pt):=(addC names es s.k c).map (modC s)
def canS (names:List Str) (es:List (Int × Pc)) (c:List (Int × Pt)) (s:Stp):Prop:=∀ n ∈ addC names es s.k c,n.1 = s.k->∀ t ∈ n.2,t.1 = s.z->Can s.vb s.p (t.2.map (·.1))
abbrev Rho:=Addr->Option (Option (Int × Str))
def hid (ρ:Rho) (H:Hp):Hp:=fun b=>match ρ b with | none=>H b | some _=>none
theorem hid_sub {ρ:Rho} {H:Hp}:Same (hid ρ H) H:=fun b o e=>by
 unfold hid at e
 split at e
 ·exact e
 ·cases e
theorem hid_at {ρ:Rho} {H:Hp} {b:Addr} {o:HO} (h:ρ b = none) (e:H b = some o):hid ρ H b = some o:=by
 unfold hid
 rw [h]
 exact e
theorem hid_no {ρ:Rho} {H:Hp} {b:Addr} {o:HO} (e:hid ρ H b = some o):ρ b = none:=by
 unfold hid at e
 split at e
 ·assumption
 ·cases e
theorem hid_up {ρ:Rho} {H H':Hp} (s:Same H H'):Same (hid ρ H) (hid ρ H'):=fun b o e=>hid_at (hid_no e) (s _ _ (hid_sub _ _ e))
structure NmAt (H0:Hp) (ρ:Rho) (H:Hp) (N:Addr) (names:List Str) (b:Nat) (st:List Nn):Prop where
 bs:Same H0 (hid ρ H)
 al:∀ x,ρ x ≠ none->H x ≠ none
 rN:ρ N = some none
 at_:H N = some (.dK (nK st))
 pd:∀ n ∈ st,hid ρ H n.p = some (.dK (tK n.ts))
 rr:∀ n ∈ st,∀ t ∈ n.ts,ρ t.r = some (some (n.k,t.z))/\H t.r = some (.dK (pK t.rs))
 qq:∀ n ∈ st,∀ t ∈ n.ts,∀ r ∈ t.rs,hid ρ H r.q = some (.dK (rK r.row))/\RwOk r.row
 nd:(st.map (·.k)).Nodup
 pn:∀ n ∈ st,∀ t ∈ n.ts,(t.rs.map (·.pl)).Nodup/\t.rs.length ≤ b
 zs:∀ n ∈ st,n.ts.map (·.z) = names
theorem NmAt.up {H0 H H':Hp} {ρ:Rho} {N:Addr} {names:List Str} {b:Nat} {st:List Nn} (h:NmAt H0 ρ H N names b st) (s:Same H H'):NmAt H0 ρ H' N names b st:=
 ⟨h.bs.trans (hid_up s),fun x hx e=>h.al x hx (none_of s e),h.rN,s _ _ h.at_,fun n hn=>hid_up s _ _ (h.pd n hn),fun n hn t ht=>⟨(h.rr n hn t ht).1,s _ _ (h.rr n hn t ht).2⟩,fun n hn t ht r hr=>⟨hid_up s _ _ (h.qq n hn t ht r hr).1,(h.qq n hn t ht r hr).2⟩,h.nd,h.pn,h.zs⟩
theorem NmAt.get {H0 H:Hp} {ρ:Rho} {N:Addr} {names:List Str} {b:Nat} {st:List Nn} (h:NmAt H0 ρ H N names b st) {n:Nn} (hn:n ∈ st):PdAt H n.p n.ts:=
 ⟨hid_sub _ _ (h.pd n hn),fun t ht=>(h.rr n hn t ht).2,fun t ht r hr=>hid_sub _ _ (h.qq n hn t ht r hr).1⟩
theorem NmAt.ok {H0 H:Hp} {ρ:Rho} {N:Addr} {names:List Str} {b:Nat} {st:List Nn} (h:NmAt H0 ρ H N names b st) (nn:names.Nodup) (n8:names.length ≤ 8) (b64:b < 64) {n:Nn} (hn:n ∈ st):PdOk n.ts:=
 ⟨by rw [h.zs n hn];exact nn,by rw [← List.length_map (f:=(·.z)),h.zs n hn];exact n8,fun t ht=>(h.pn n hn t ht).1,fun t ht=>Nat.lt_of_le_of_lt (h.pn n hn t ht).2 b64,fun t ht r hr=>(h.qq n hn t ht r hr).2⟩
theorem nd_inj {α β:Type} {f:α->β} {l:List α} (nd:(l.map f).Nodup) {a b:α} (ha:a ∈ l) (hb:b ∈ l) (e:f a = f b):a = b:=by
 induction l with
 | nil=>cases ha
 | cons x r ih=>
  rw [List.map_cons,List.nodup_cons] at nd
  rcases List.mem_cons.mp ha with ha1 | ha1
  ·rcases List.mem_cons.mp hb with hb1 | hb1
   ·rw [ha1,hb1]
   ·refine absurd ?_ nd.1
    rw [← ha1,e]
    exact List.mem_map.mpr ⟨b,hb1,rfl⟩
  ·rcases List.mem_cons.mp hb with hb1 | hb1
   ·refine absurd ?_ nd.1
    rw [← hb1,← e]
    exact List.mem_map.mpr ⟨a,ha1,rfl⟩
   ·exact ih nd.2 ha1 hb1
def rho' (ρ:Rho) (k:Int) (ts:List Tt):Rho:=fun b=>match ts.find? fun t=>decide (t.r = b) with | some t=>some (some (k,t.z)) | none=>ρ b
theorem NmAt.add {H0 H H':Hp} {ρ:Rho} {N:Addr} {names:List Str} {b:Nat} {st:List Nn} (h:NmAt H0 ρ H N names b st) {k:Int} {p:Addr} {ts:List Tt} (s:Same H H') (hp:H p = none) (hb:ByAt H0 H H' p ts) (hk:k ∉ st.map (·.k)) (hz:ts.map (·.z) = names) (hl:∀ t ∈ ts,t.rs.length ≤ b) :
  NmAt H0 (rho' ρ k ts) (upd H' N (.dK (nK (st ++ [⟨k,p,ts⟩])))) N names b (st ++ [⟨k,p,ts⟩]):=by
 have f0:∀ {x:Addr},(∀ t ∈ ts,t.r ≠ x)->rho' ρ k ts x = ρ x:=fun hx=>by
  unfold rho'
  rw [List.find?_eq_none.mpr fun t ht hd=>hx t ht (of_decide_eq_true hd)]
 have f1:∀ {x:Addr} {o:HO},H x = some o->rho' ρ k ts x = ρ x:=fun hx=>f0 fun t ht e=>by
  have:=hb.nw t ht
  rw [e,hx] at this
  cases this
 have f2:∀ t ∈ ts,rho' ρ k ts t.r = some (some (k,t.z)):=fun t ht=>by
  unfold rho'
  cases e:ts.find? fun t'=>decide (t'.r = t.r) with
  | none=>exact absurd (decide_eq_true rfl) (List.find?_eq_none.mp e t ht)
  | some t'=>
   have:=nd_inj hb.nr (List.mem_of_find?_eq_some e) ht (of_decide_eq_true (List.find?_some (p:=fun t':Tt=>decide (t'.r = t.r)) e))
   rw [this]
 have f3:rho' ρ k ts p = none:=by
  rw [f0 hb.np]
  cases e:ρ p with
  | none=>rfl
  | some u=>exact absurd hp (h.al p (by rw [e];exact fun h=>nomatch h))
 have hN:rho' ρ k ts N = some none:=by rw [f1 h.at_];exact h.rN
 have nN:∀ {x:Addr},rho' ρ k ts x = none->x ≠ N:=fun hx e=>by rw [e,hN] at hx;cases hx
 have mv:∀ {x:Addr} {o:HO},hid ρ H x = some o->hid (rho' ρ k ts) (upd H' N (.dK (nK (st ++ [⟨k,p,ts⟩])))) x = some o:=fun {x o} hx=>by
  have hr:=hid_no hx
  have hh:=hid_sub _ _ hx
  rw [← f1 hh] at hr
  refine hid_at hr ?_
  rw [upd_ne (nN hr)]
  exact s _ _ hh
 have key:∀ {Pp:Nn->Prop},(∀ n ∈ st,Pp n)->Pp ⟨k,p,ts⟩->∀ n ∈ st ++ [(⟨k,p,ts⟩:Nn)],Pp n:=fun h1 h2 n hn=>by
  rcases List.mem_append.mp hn with hn | hn
  ·exact h1 n hn
  ·rw [List.mem_singleton.mp hn];exact h2
 refine ⟨fun x o e=>mv (h.bs _ _ e),fun x hx=>?_,hN,upd_same,key (fun n hn=>mv (h.pd n hn)) ?_,key (fun n hn t ht=>?_) (fun t ht=>⟨f2 t ht,?_⟩),key (fun n hn t ht r hr=>⟨mv (h.qq n hn t ht r hr).1,(h.qq n hn t ht r hr).2⟩) (fun t ht r hr=>⟨mv (h.bs _ _ (hb.rw_ t ht r hr).1),(hb.rw_ t ht r hr).2⟩),?_,key h.pn (fun t ht=>⟨hb.pn t ht,hl t ht⟩),key h.zs hz⟩
 ·by_cases e:x = N
  ·rw [e,upd_same];exact fun h=>nomatch h
  ·rw [upd_ne e]
   cases e2:ts.find? fun t=>decide (t.r = x) with
   | some t=>
    have e3:t.r = x:=of_decide_eq_true (List.find?_some (p:=fun t:Tt=>decide (t.r = x)) e2)
    rw [← e3,hb.rt t (List.mem_of_find?_eq_some e2)]
    exact fun h=>nomatch h
   | none=>
    unfold rho' at hx
    rw [e2] at hx
    exact fun e4=>h.al x hx (none_of s e4)
 ·refine hid_at f3 ?_
  rw [upd_ne (nN f3)]
  exact hb.at_
 ·obtain ⟨a1,a2⟩:=h.rr n hn t ht
  have a3:rho' ρ k ts t.r = some (some (n.k,t.z)):=by rw [f1 a2];exact a1
  refine ⟨a3,?_⟩
  rw [upd_ne (fun e=>by rw [e,hN] at a3;cases a3)]
  exact s _ _ a2
 ·rw [upd_ne (fun e=>by have:=f2 t ht;rw [e,hN] at this;cases this)]
  exact hb.rt t ht
 ·rw [List.map_append,List.nodup_append]
  refine ⟨h.nd,List.nodup_cons.mpr ⟨(fun h=>nomatch h),List.nodup_nil⟩,fun x h1 y h2 e=>?_⟩
  have e2:y = k:=List.mem_singleton.mp h2
  rw [e,e2] at h1
  exact hk h1
def modT (z vb:Str) (m:Rr) (t:Tt):Tt:=if t.z = z then ⟨t.z,t.r,nxt vb m t.rs⟩ else t
def modN (k:Int) (z vb:Str) (m:Rr) (n:Nn):Nn:=if n.k = k then ⟨n.k,n.p,n.ts.map (modT z vb m)⟩ else n
theorem modT_zr (z vb:Str) (m:Rr) (t:Tt):(modT z vb m t).z = t.z/\(modT z vb m t).r = t.r:=by unfold modT;split <;> exact ⟨rfl,rfl⟩
theorem modN_kp (k:Int) (z vb:Str) (m:Rr) (n:Nn):(modN k z vb m n).k = n.k/\(modN k z vb m n).p = n.p:=by unfold modN;split <;> exact ⟨rfl,rfl⟩
theorem modN_c (s:Stp) (m:Rr) (h1:m.pl = s.p) (h2:m.row = s.row) (n:Nn):cN (modN s.k s.z s.vb m n) = modC s (cN n):=by
 unfold modN modC
 show cN (if n.k = s.k then _ else n) = if n.k = s.k then _ else _
 split
 ·show (n.k,(n.ts.map (modT s.z s.vb m)).map cT) = (n.k,(n.ts.map cT).map _)
  congr 1
  rw [List.map_map,List.map_map]
  refine List.map_congr_left fun t _=>?_
  show cT (modT s.z s.vb m t) = if t.z = s.z then _ else _
  unfold modT
  split
  ·show (t.z,(nxt s.vb m t.rs).map cR) = (t.z,nxtC s.vb (s.p,s.row) (t.rs.map cR))
   rw [nxt_c]
   unfold cR
   rw [h1,h2]
  ·rfl
 ·rfl
theorem NmAt.mod {H0 H H':Hp} {ρ:Rho} {N:Addr} {names:List Str} {b:Nat} {st:List Nn} (h:NmAt H0 ρ H N names b st) (nn:names.Nodup) {n:Nn} {t:Tt} (hn:n ∈ st) (ht:t ∈ n.ts) {vb:Str} {m:Rr} (fr:∀ x o,x ≠ t.r->H x = some o->H' x = some o) (e:H' t.r = some (.dK (pK (nxt vb m t.rs))))
  (hm:vb ≠ "cut"->H m.q = none/\H' m.q = some (.dK (rK m.row))/\RwOk m.row) (ha:vb = "add"->m.pl ∉ t.rs.map (·.pl)):NmAt H0 ρ H' N names (b + 1) (st.map (modN n.k t.z vb m)):=by
 obtain ⟨a1,a2⟩:=h.rr n hn t ht
 have mv:∀ {x:Addr} {o:HO},hid ρ H x = some o->hid ρ H' x = some o:=fun {x o} hx=>by
  have hr:=hid_no hx
  exact hid_at hr (fr x o (fun e=>by rw [e,a1] at hr;cases hr) (hid_sub _ _ hx))
 have uq:∀ n' ∈ st,n'.k = n.k->n' = n:=fun n' hn' e=>nd_inj h.nd hn' hn e
 have uz:∀ t' ∈ n.ts,t'.z = t.z->t' = t:=fun t' ht' e=>nd_inj (by rw [h.zs n hn];exact nn) ht' ht e
 have cs:∀ n' ∈ st,∀ t' ∈ (modN n.k t.z vb m n').ts,(∃ t0 ∈ n'.ts,t' = t0/\(n'.k ≠ n.k\/t0.z ≠ t.z))\/(n' = n/\t' = ⟨t.z,t.r,nxt vb m t.rs⟩):=fun n' hn' t' ht'=>by
  unfold modN at ht'
  split at ht'
  ·rename_i ek
   obtain ⟨t0,ht0,rfl⟩:=List.mem_map.mp ht'
   unfold modT
   split
   ·rename_i ez
    have e1:=uq n' hn' ek
    subst e1
    have e2:=uz t0 ht0 ez
    subst e2
    exact .inr ⟨rfl,rfl⟩
   ·rename_i ez
    exact .inl ⟨t0,ht0,rfl,.inr ez⟩
  ·rename_i ek
   exact .inl ⟨t',ht',rfl,.inl ek⟩
 have mk:(st.map (modN n.k t.z vb m)).map (·.k) = st.map (·.k):=by rw [List.map_map];exact List.map_congr_left fun n' _=>(modN_kp _ _ _ _ n').1
 refine ⟨fun x o hx=>mv (h.bs _ _ hx),fun x hx=>?_,h.rN,?_,fun n' hn'=>?_,fun n' hn' t' ht'=>?_,fun n' hn' t' ht' r hr=>?_,by rw [mk];exact h.nd,fun n' hn' t' ht'=>?_,fun n' hn'=>?_⟩
 ·by_cases ex:x = t.r
  ·rw [ex,e];exact fun h=>nomatch h
  ·cases e2:H x with
   | none=>exact absurd e2 (h.al x hx)
   | some o=>rw [fr x o ex e2];exact fun h=>nomatch h
 ·have nN:N ≠ t.r:=fun e=>by have:=h.rN;rw [e,a1] at this;cases this
  rw [fr N _ nN h.at_]
  unfold nK
  rw [List.map_map]
  congr 2
  exact (List.map_congr_left fun n' _=>by show ((.inl (modN n.k t.z vb m n').k:Key),V.ref (modN n.k t.z vb m n').p) = _;rw [(modN_kp _ _ _ _ n').1,(modN_kp _ _ _ _ n').2]).symm
 ·obtain ⟨n0,hn0,rfl⟩:=List.mem_map.mp hn'
  rw [(modN_kp _ _ _ _ n0).2]
  have:=mv (h.pd n0 hn0)
  rw [this]
  congr 2
  unfold modN
  split
  ·unfold tK
   show _ = (n0.ts.map (modT t.z vb m)).map _
   rw [List.map_map]
   exact List.map_congr_left fun t' _=>by show _ = ((.inr (modT t.z vb m t').z:Key),V.ref (modT t.z vb m t').r);rw [(modT_zr _ _ _ t').1,(modT_zr _ _ _ t').2]
  ·rfl
 ·obtain ⟨n0,hn0,rfl⟩:=List.mem_map.mp hn'
  rw [(modN_kp _ _ _ _ n0).1]
  rcases cs n0 hn0 t' ht' with ⟨t0,ht0,rfl,hne⟩ | ⟨rfl,rfl⟩
  ·obtain ⟨b1,b2⟩:=h.rr n0 hn0 t' ht0
   refine ⟨b1,fr _ _ (fun ee=>?_) b2⟩
   rw [ee,a1] at b1
   injection b1 with b1
   injection b1 with b1
   injection b1 with c1 c2
   rcases hne with hne | hne
   ·exact hne c1.symm
   ·exact hne c2.symm
  ·exact ⟨a1,e⟩
 ·obtain ⟨n0,hn0,rfl⟩:=List.mem_map.mp hn'
  rcases cs n0 hn0 t' ht' with ⟨t0,ht0,rfl,hne⟩ | ⟨rfl,rfl⟩
  ·exact ⟨mv (h.qq n0 hn0 t' ht0 r hr).1,(h.qq n0 hn0 t' ht0 r hr).2⟩
  ·rcases nxt_mem hr with hr | ⟨nc,rfl⟩
   ·exact ⟨mv (h.qq n0 hn0 t ht r hr).1,(h.qq n0 hn0 t ht r hr).2⟩
   ·obtain ⟨c1,c2,c3⟩:=hm nc
    refine ⟨hid_at ?_ c2,c3⟩
    cases e2:ρ r.q with
    | none=>rfl
    | some u=>exact absurd c1 (h.al _ (by rw [e2];exact fun h=>nomatch h))
 ·obtain ⟨n0,hn0,rfl⟩:=List.mem_map.mp hn'
  rcases cs n0 hn0 t' ht' with ⟨t0,ht0,rfl,hne⟩ | ⟨rfl,rfl⟩
  ·exact ⟨(h.pn n0 hn0 t' ht0).1,Nat.le_succ_of_le (h.pn n0 hn0 t' ht0).2⟩
  ·exact ⟨nxt_nd (h.pn n0 hn0 t ht).1 ha,Nat.le_trans nxt_len (Nat.succ_le_succ (h.pn n0 hn0 t ht).2)⟩
 ·obtain ⟨n0,hn0,rfl⟩:=List.mem_map.mp hn'
  rw [← h.zs n0 hn0]
  unfold modN
  split
  ·show (n0.ts.map (modT t.z vb m)).map (·.z) = _
   rw [List.map_map]
   exact List.map_congr_left fun t' _=>(modT_zr _ _ _ t').1
  ·rfl
end My
namespace My
open PySem L2 PyProof.Rows
seal L2.PE L2.PT L2.PW L2.PS L2.PSs L2.PA L2.PI L2.PG L2.PGs L2.OpR L2.UnR L2.CallR L2.IxR L2.SlR L2.MtR L2.PIf L2.PO L2.MtM L2.PC
def NoI (o:HO):Prop:=∀ c d f,o ≠ .ins c d f
theorem PcAt.mv {H H2:Hp} {p:Addr} {pc:Pc} (h:PcAt H p pc) (m:∀ b o,H b = some o->NoI o->H2 b = some o):PcAt H2 p pc:=by
 obtain ⟨ls,a1,a2,a3⟩:=h
 refine ⟨ls,m _ _ a1 (fun _ _ _ e=>nomatch e),a2,fun j l t e1 e2=>?_⟩
 obtain ⟨rs,b1,b2,b3⟩:=a3 j l t e1 e2
 exact ⟨rs,m _ _ b1 (fun _ _ _ e=>nomatch e),b2,fun j' r row c1 c2=>m _ _ (b3 j' r row c1 c2) (fun _ _ _ e=>nomatch e)⟩
theorem ThsAt.mv {H H2:Hp} {a:Addr} {es:List En} (h:ThsAt H a es) (m:∀ b o,H b = some o->NoI o->H2 b = some o):ThsAt H2 a es:=⟨m _ _ h.at_ (fun _ _ _ e=>nomatch e),h.nd,h.le,fun e he=>(h.th e he).mv m,h.ok⟩
theorem FmAt.mv {H H2:Hp} {f:Addr} {sz:Int} {Ts:List Tb} (h:FmAt H f sz Ts) (m:∀ b o,H b = some o->NoI o->H2 b = some o):FmAt H2 f sz Ts:=by
 refine ⟨?_,h.nd,h.le,h.cn,fun T hT c hc=>?_⟩
 ·obtain ⟨tt,es,h1,h2,h3,h4⟩:=h.at_
  refine ⟨tt,es,m _ _ h1 (fun _ _ _ e=>nomatch e),m _ _ h2 (fun _ _ _ e=>nomatch e),h3,fun j e T a b=>?_⟩
  obtain ⟨ct,g1,o,ps,g2,g3,g4,g5⟩:=h4 j e T a b
  exact ⟨ct,m _ _ g1 (fun _ _ _ e=>nomatch e),o,ps,g2,m _ _ g3 (fun _ _ _ e=>nomatch e),g4,fun j p c a b=>m _ _ (g5 j p c a b) (fun _ _ _ e=>nomatch e)⟩
 ·obtain ⟨z,r,a,b⟩:=h.kd T hT c hc
  exact ⟨z,r,m _ _ a (fun _ _ _ e=>nomatch e),b⟩
theorem flds_put {fo td td':Addr}:putF "things" (.ref td') (flds fo td) = flds fo td':=by
 unfold flds putF
 rfl
def GoodAt (K:PySem.W.Frag) (H:Hp) (sz:Int) (Ts:List Tb) (x:Addr) (s:Stp):Prop:=∃ (T:Tb) (rest:List V),T ∈ Ts/\T.name = s.z/\H x = some (.tup (.str s.vb :: .str s.z :: .int s.k :: .int s.p :: rest))/\0 ≤ s.k/\s.k < sz/\0 ≤ s.p/\(s.p = 0\/T.sort ∉ lone) ∧
 (s.vb = "cut"\/(s.vb ≠ "cut"/\∃ r,rest = [.ref r]/\H r = some (.dK (rK s.row))/\RwOk s.row/\RowIs K H T (.ref r) true))
def BadAt (K:PySem.W.Frag) (H:Hp) (sz:Int) (Ts:List Tb) (CO CM x C:Addr) (z:Str) (kx px:V):Prop:=∃ (vb:Str) (rest:List V),H x = some (.tup (.str vb :: .str z :: kx :: px :: rest)) ∧
 ((z ∉ Ts.map (·.name)/\C = CO)\/∃ (T:Tb) (nk np:String) (kb pb rb:Bool),T ∈ Ts/\T.name = z/\Is K H kx nk/\KeyB sz kx nk kb/\Is K H px np/\PlB T px np pb/\RowB K H T vb rest rb/\(kb && pb && rb) = false/\C = CM)
theorem RowB.same {K:PySem.W.Frag} {H H':Hp} {T:Tb} {vb:Str} {rest:List V} {b:Bool} (h:RowB K H T vb rest b) (s:Same H H'):RowB K H' T vb rest b:=by
 rcases h with h | ⟨h1,x,h2,h3⟩
 ·exact .inl h
 ·exact .inr ⟨h1,x,h2,h3.same s⟩
def runS (names:List Str) (es:List (Int × Pc)) (ss:List Stp):List (Int × Pt):=ss.foldl (appS names es) []
def spWrite (K:PySem.W.Frag) (CP CO CM:Addr):Sp:=fun vs H Q E=>∃ (a L:Addr) (sz:Int) (Ts:List Tb) (es:List En) (xs:List Addr) (ss:List Stp) (R:Nat),vs = [.ref a,.ref L]/\PlAt CP H a sz Ts es/\H L = some (.lst (xs.map V.ref)) ∧
 (∀ (j:Nat) (x:Addr) (s:Stp),xs[j]? = some x->ss[j]? = some s->GoodAt K H sz Ts x s)/\(∀ (j:Nat) (s:Stp),ss[j]? = some s->canS (Ts.map (·.name)) (es.map kc) (runS (Ts.map (·.name)) (es.map kc) (ss.take j)) s) ∧
 (∀ e ∈ es,∀ z,(tab e.pc z).length ≤ R)/\R + ss.length < 64/\es.length + ss.length ≤ 60 ∧
 ((∃ x C z kx px,xs[ss.length]? = some x/\BadAt K H sz Ts CO CM x C z kx px/\Refd E H C z kx px) ∨
  (ss.length = xs.length/\(∀ n ∈ runS (Ts.map (·.name)) (es.map kc) ss,full n.2 = true->∀ T ∈ Ts,∀ t ∈ n.2,t.1 = T.name->PlOk T.sort (t.2.map (·.1))) ∧
  ∀ (l:Addr) (us:List En) (ms:List Int) (H':Hp),(∀ b o,b ≠ a->H b = some o->H' b = some o)->H l = none->H' l = some (.lst (((srt (runS (Ts.map (·.name)) (es.map kc) ss)).map (·.1)).map V.int))->PlAt CP H' a sz Ts us->ms.Nodup->ms.Pairwise (· ≤ ·)->(∀ x,x ∈ ms ↔ x ∈ es.map (·.k)\/x ∈ (runS (Ts.map (·.name)) (es.map kc) ss).map (·.1))->us.map kc = ms.filterMap (bhd (es.map kc) (runS (Ts.map (·.name)) (es.map kc) ss))->Q (.ref l) H'))
theorem cutW {G:Prop} {T:Hp->Prop} (R:Hp->Prop) (h:(∀ H8,R H8->T H8)->G) (fin:∀ H8,R H8->T H8):G:=h fin
structure Wr (P:Program) (w:World) (K:PySem.W.Frag) (mg:Str->Option Value) (base:Heap) (CP CO CM fA fD fT fW fB fE:Addr) (fdA fdD fdT fdW fdB fdE:FuncData):Prop where
 gA:FnOk P w K mg base (CX1 P w) 5 fA fdA ["form","step"] (spAskStep K CO CM)
 gD:FnOk P w K mg base CX0 1 fD fdD ["placed","step"] spDo
 gT:FnOk P w K mg base CX0 3 fT fdT ["form","key","placed"] spAskT
 gW:FnOk P w K mg base CX0 4 fW fdW ["form","things"] spAskW
 gB:FnOk P w K mg base CX0 2 fB fdB ["self","key"] (spByPl CP)
 gE:FnOk P w K mg base CX0 2 fE fdE ["self","named"] (spBehind CP)
 mB:Meth K CP "by_place" fB
 mE:Meth K CP "things_behind" fE
section
variable {P:Program} {w:World} {K:PySem.W.Frag} {mg:Str->Option Value} {base:Heap} {CP CO CM:Addr}
theorem ok_write {f fA fD fT fW fB fE:Addr} {fd fdA fdD fdT fdW fdB fdE:FuncData} (F:Fun K "write" "Plain.write" (inClass (top 26) 1) f fd) (B:Bl mg) (L:ClP K CP) (W:Wr P w K mg base CP CO CM fA fD fT fW fB fE fdA fdD fdT fdW fdB fdE)
  (DA:Df K mg "ask_step" (top 27) fA fdA) (DD:Df K mg "do_step" (top 28) fD fdD) (DT:Df K mg "ask_thing" (top 31) fT fdT) (DW:Df K mg "ask_whole_table" (top 33) fW fdW) (FB:Fun K "by_place" "Plain.by_place" (inClass (top 26) 2) fB fdB) (FE:Fun K "things_behind" "Plain.things_behind" (inClass (top 26) 3) fE fdE) :
  FnOk P w K mg base (CX1 P w) 6 f fd ["self","steps"] (spWrite K CP CO CM):=by
 have sc:FnScope ["self","steps","named","step","key","things"] ["self","steps"] (defScope (inClass (top 26) 1)):=⟨rfl,rfl,rfl,by decide +kernel,rfl,by decide +kernel,by decide +kernel⟩
 have bA:=DA.fn.binds (ps:=["form","step"]) fun _ _ _ _ _ _ us hl=>by obtain ⟨v0,v1,rfl⟩:=L2.ln2 hl;rfl
 have bD:=DD.fn.binds (ps:=["placed","step"]) fun _ _ _ _ _ _ us hl=>by obtain ⟨v0,v1,rfl⟩:=L2.ln2 hl;rfl
 have bT:=DT.fn.binds (ps:=["form","key","placed"]) fun _ _ _ _ _ _ us hl=>by obtain ⟨v0,v1,v2,rfl⟩:=L2.ln3 hl;rfl
 have bW:=DW.fn.binds (ps:=["form","things"]) fun _ _ _ _ _ _ us hl=>by obtain ⟨v0,v1,rfl⟩:=L2.ln2 hl;rfl
 have bB:=FB.binds (ps:=["self","key"]) fun _ _ _ _ _ _ us hl=>by obtain ⟨v0,v1,rfl⟩:=L2.ln2 hl;rfl
 have bE:=FE.binds (ps:=["self","named"]) fun _ _ _ _ _ _ us hl=>by obtain ⟨v0,v1,rfl⟩:=L2.ln2 hl;rfl
 refine F.x.okX sc (fun vs H Q E h=>?_) (fun cdv A outer s H vs Q E hr h=>?_)
 ·obtain ⟨a,L,sz,Ts,es,xs,ss,R,rfl,_⟩:=h
  rfl
 ·obtain ⟨a,Lq,sz,Ts,es,xs,ss,R,rfl,hpl,hL,hgood,hcan,hR,hR64,h60,hend⟩:=h
  obtain ⟨⟨dx,fo,td,ha,hf,hts⟩,htb⟩:=id hpl
  have hr1:Room 1 _:=hr.mono (by decide)
  have hr2:Room 2 _:=hr.mono (by decide)
  have hr3:Room 3 _:=hr.mono (by decide)
  have hr4:Room 4 _:=hr.mono (by decide)
  have hu:(A.deeper (envOfC "Plain.write" (defScope (inClass (top 26) 1)) s.heap.objs.size f cdv)).units + 1 < cLine:=hu_of hr
  have tok:TbOk Ts:=⟨hf.nd,hf.le,fun T hT=>(hf.cn T hT).1,fun T hT=>(hf.cn T hT).2⟩
  refine ⟨_,pss_cons (ps_set (i:=2) sc.nd rfl (Or.inl rfl) pe_dnewK)
   (pss_cons (ps_for PassesOwn.leaving rfl (pi_list (pv 1)) (pg_name (i:=3) sc.nd rfl (Or.inl rfl))
    (pss_cons (ps_expr (pe_callX W.gA hr (by rfl) DA.mg DA.fn.kp bA .nil lands_cx (pa_cons (pe_fld (pv 0) rfl) (pa_cons (pv 3) pa_nil))))
    (pss_cons (ps_set (i:=4) sc.nd rfl (Or.inl rfl) (pe_ix ix_tup (pv 3) pe_int (fun _ _=>rfl)))
    (pss_cons (ps_if (pt_cmp (pc_dnotin hu (pv 4) (pv 2))) (pss_one (ps_dput hu (pv 2) (pv 4) (pe_meth (pv 0) L.cl W.mB W.gB hr2 bB .nil pass0 (pa_cons (pv 4) pa_nil)) rfl)) pss_nil)
    (pss_one (ps_expr (pe_call W.gD hr1 (by rfl) DD.mg DD.fn.kp bD .nil pass0 (pa_cons (pe_dget hu (pe_dget hu (pv 2) (pv 4) (fun _ _=>rfl)) (pe_ix ix_tup (pv 3) pe_int (fun _ _=>rfl)) (fun _ _=>rfl)) (pa_cons (pv 3) pa_nil)))))))))
   (pss_cons (ps_for PassesOwn.leaving rfl (pi_list (pe_callB (call_sortedDI rfl) (by rfl) B.sorted boot_sorted (pa_cons (pv 2) pa_nil))) (pg_name (i:=4) sc.nd rfl (Or.inl rfl))
    (pss_one (ps_expr (pe_call W.gT hr3 (by rfl) DT.mg DT.fn.kp bT .nil pass0 (pa_cons (pe_fld (pv 0) rfl) (pa_cons (pv 4) (pa_cons (pe_dget hu (pv 2) (pv 4) (fun _ _=>rfl)) pa_nil)))))))
   (pss_cons (ps_set (i:=5) sc.nd rfl (Or.inl rfl) (pe_meth (pv 0) L.cl W.mE W.gE hr2 bE .nil pass0 (pa_cons (pv 2) pa_nil)))
   (pss_cons (ps_expr (pe_call W.gW hr4 (by rfl) DW.mg DW.fn.kp bW .nil pass0 (pa_cons (pe_fld (pv 0) rfl) (pa_cons (pv 5) pa_nil))))
   (pss_cons (ps_fld (pv 0) (pv 5) rfl)
   (pss_one (ps_ret (pe_callB (call_sortedDI rfl) (by rfl) B.sorted boot_sorted (pa_cons (pv 2) pa_nil))))))))),?_⟩
  refine fun N hN=>?_
  have S0:Same H (upd H N (.dK [])):=Same.upd hN
  have d0:(upd H N (.dK [])) N = some (.dK []):=upd_same
  generalize upd H N (.dK []) = H1 at *
  have base0:NmAt H (fun b=>if b = N then some none else none) H1 N (Ts.map (·.name)) (R + 0) []:=by
   refine ⟨fun b o e=>hid_at (if_neg (ne_of_none e hN)) (S0 _ _ e),fun x hx=>?_,if_pos rfl,d0,(fun n h=>nomatch h),(fun n h=>nomatch h),(fun n h=>nomatch h),List.nodup_nil,(fun n h=>nomatch h),(fun n h=>nomatch h)⟩
   by_cases e:x = N
   ·rw [e,d0];exact fun h=>nomatch h
   ·exact absurd (if_neg e) hx
  refine ⟨_,rfl,Lq,rfl,⟨_,SqL.of (S0 _ _ hL)⟩,for_list (K:=K) (a:=Lq) (xs:=xs.map V.ref) (fun i σ H2=>i ≤ ss.length/\(∃ u3 u4,σ = [some (.ref a),some (.ref Lq),some (.ref N),u3,u4,none])/\∃ ρ st,NmAt H ρ H2 N (Ts.map (·.name)) (R + i) st/\st.length ≤ i/\st.map cN = runS (Ts.map (·.name)) (es.map kc) (ss.take i))
   ⟨Nat.zero_le _,⟨_,_,rfl⟩,_,[],base0,Nat.le_refl _,rfl⟩ (fun i σ H2 _ p=>let ⟨_,_,_,_,h,_⟩:=p;SqL.of (hid_sub _ _ (h.bs _ _ hL))) ?_ ?_⟩
  ·rintro i x σ H2 hx ⟨hi,⟨u3,u4,rfl⟩,ρ,st,hnm,hsl,hst⟩
   have hix:i < xs.length:=by
    have:=(List.getElem?_eq_some_iff.mp hx).1
    rwa [List.length_map] at this
   rw [List.getElem?_map,List.getElem?_eq_getElem hix] at hx
   cases hx
   have S2:Same H H2:=hnm.bs.trans hid_sub
   by_cases his:i < ss.length
   ·obtain ⟨T,rest,hT,eT,hx,k0,k1,p0,p1,hrow⟩:=hgood i xs[i] ss[i] (List.getElem?_eq_getElem hix) (List.getElem?_eq_getElem his)
    have hcan1:=hcan i ss[i] (List.getElem?_eq_getElem his)
    have zin:ss[i].z ∈ Ts.map (·.name):=eT ▸ List.mem_map.mpr ⟨T,hT,rfl⟩
    have erun:runS (Ts.map (·.name)) (es.map kc) (ss.take (i + 1)) = appS (Ts.map (·.name)) (es.map kc) (runS (Ts.map (·.name)) (es.map kc) (ss.take i)) ss[i]:=by
     unfold runS
     rw [List.take_succ,List.getElem?_eq_getElem his,List.foldl_append]
     rfl
    generalize ss[i] = stp at *
    generalize xs[i] = x at *
    have hrb:RowB K H2 T stp.vb rest true:=by
     rcases hrow with h | ⟨h,r,rfl,g1,g2,g3⟩
     ·exact .inl ⟨h,rfl⟩
     ·exact .inr ⟨h,_,rfl,g3.same S2⟩
    refine ⟨_,rfl,a,CP,dx,_,_,rfl,S2 _ _ ha,L.cl,L.nF,flds_form,_,rfl,fo,x,sz,Ts,stp.vb,stp.z,.int stp.k,.int stp.p,rest,rfl,(hf.same S2).at_,tok,S2 _ _ hx,.inr ⟨T,"int","int",true,true,true,hT,eT,Is.int,.inr ⟨_,rfl,rfl,(decide_eq_true ⟨k0,k1⟩).symm⟩,Is.int,.inr ⟨_,rfl,rfl,(decide_eq_true ⟨p0,p1⟩).symm⟩,hrb,(fun _ H3 s3=>?_),(fun h=>nomatch h)⟩⟩
    have hnm3:=hnm.up s3
    have S3:=S2.trans s3
    refine ⟨_,rfl,x,_,2,_,rfl,rfl,SqT.of (S3 _ _ hx),atI_nat (j:=2) rfl,?_⟩
    apply cutW (R:=fun H4=>∃ ρ' st',NmAt H ρ' H4 N (Ts.map (·.name)) (R + i) st'/\st'.length ≤ i + 1/\st'.map cN = addC (Ts.map (·.name)) (es.map kc) stp.k (runS (Ts.map (·.name)) (es.map kc) (ss.take i)))
    ·intro fin
     by_cases hk:stp.k ∈ st.map (·.k)
     ·obtain ⟨n,hn,en⟩:=List.mem_map.mp hk
      have gN:DGet H3 N (.int stp.k) (some (.ref n.p)):=.inl ⟨_,.inl stp.k,.inl hnm3.at_,rfl,(by rw [← en];exact (valV_map (f:=Nn.k) (g:=fun t:Nn=>V.ref t.p) hnm3.nd hn).symm)⟩
      refine ⟨_,rfl,_,rfl,N,_,rfl,gN,_,rfl,iteF (fin H3 ⟨ρ,st,hnm3,by omega,?_⟩)⟩
      unfold addC
      rw [← hst,if_pos (show stp.k ∈ (st.map cN).map (·.1) by rw [List.map_map];exact hk)]
     ·have gN:DGet H3 N (.int stp.k) none:=.inl ⟨_,.inl stp.k,.inl hnm3.at_,rfl,(valV_non (f:=Nn.k) (g:=fun t:Nn=>V.ref t.p) hk).symm⟩
      refine ⟨_,rfl,_,rfl,N,_,rfl,gN,_,rfl,iteT ?_⟩
      refine ⟨_,rfl,a,dx,_,rfl,S3 _ _ ha,flds_no (by decide +kernel) (by decide +kernel),_,rfl,a,sz,Ts,es,stp.k,H,rfl,S3,hpl,(fun e he z=>by have:=hR e he z;omega),fun p ts H4 s4 hp hB hc=>?_⟩
      refine ⟨_,rfl,_,rfl,N,_,rfl,.inl ⟨nK st,.inl stp.k,s4 _ _ hnm3.at_,rfl,(by unfold nK;rw [List.length_map,sizeLine_eq];omega),rfl⟩,?_⟩
      rw [putK_new (kvs:=nK st) _ (valV_non (f:=Nn.k) (g:=fun t:Nn=>V.ref t.p) hk)]
      have tz:ts.map (·.z) = Ts.map (·.name):=by
       have:=congrArg (List.map Prod.fst) hc
       unfold byPl at this
       rw [List.map_map,List.map_map] at this
       rw [show (ts.map (·.z)) = ts.map (Prod.fst ∘ cT) from rfl,this]
       show List.map (fun z=>z) _ = _
       rw [List.map_id']
      have tl:∀ t ∈ ts,t.rs.length ≤ R + i:=fun t ht=>by
       have hm:cT t ∈ byPl (Ts.map (·.name)) (es.map kc) stp.k:=hc ▸ List.mem_map.mpr ⟨t,ht,rfl⟩
       unfold byPl at hm
       obtain ⟨z,hz,e⟩:=List.mem_map.mp hm
       injection e with e1 e2
       rw [← List.length_map (f:=cR),← e2]
       by_cases hke:stp.k ∈ es.map (·.k)
       ·obtain ⟨e,he,ee⟩:=List.mem_map.mp hke
        rw [← ee,plc_in hts.nd he]
        unfold byRow
        rw [List.length_mapIdx]
        have:=hR e he z
        omega
       ·rw [plc_out hke]
        exact Nat.zero_le _
      have e2:(nK st ++ [((.inl stp.k:Key),V.ref p)]) = nK (st ++ [⟨stp.k,p,ts⟩]):=by unfold nK;rw [List.map_append];rfl
      rw [e2]
      refine fin _ ⟨_,_,hnm3.add s4 hp hB hk tz tl,by rw [List.length_append];show st.length + 1 ≤ _;omega,?_⟩
      unfold addC
      rw [← hst,if_neg (show stp.k ∉ (st.map cN).map (·.1) by rw [List.map_map];exact hk),List.map_append]
      show _ ++ [(stp.k,ts.map cT)] = _
      rw [hc]
    rintro H4 ⟨ρ',st',hn4,hl4,hc4⟩
    unfold canS at hcan1
    rw [← hc4] at hcan1
    have hkin:stp.k ∈ st'.map (·.k):=by
     have e:st'.map (·.k) = (st'.map cN).map (·.1):=by rw [List.map_map];rfl
     rw [e,hc4]
     unfold addC
     split
     ·assumption
     ·rw [List.map_append]
      exact List.mem_append_right _ (List.mem_singleton.mpr rfl)
    obtain ⟨n,hn,en⟩:=List.mem_map.mp hkin
    obtain ⟨t,ht,et⟩:∃ t ∈ n.ts,t.z = stp.z:=by
     have:=zin
     rw [← hn4.zs n hn] at this
     obtain ⟨t,ht,e⟩:=List.mem_map.mp this
     exact ⟨t,ht,e⟩
    have can1:Can stp.vb stp.p (t.rs.map (·.pl)):=by
     have:=hcan1 (cN n) (List.mem_map.mpr ⟨n,hn,rfl⟩) en (cT t) (List.mem_map.mpr ⟨t,ht,rfl⟩) et
     have e:((cT t).2).map (·.1) = t.rs.map (·.pl):=by show (t.rs.map cR).map (·.1) = _;rw [List.map_map];rfl
     rwa [e] at this
    have S4:Same H H4:=hn4.bs.trans hid_sub
    have gN:DGet H4 N (.int stp.k) (some (.ref n.p)):=.inl ⟨_,.inl stp.k,.inl hn4.at_,rfl,(by rw [← en];exact (valV_map (f:=Nn.k) (g:=fun t:Nn=>V.ref t.p) hn4.nd hn).symm)⟩
    have gP:DGet H4 n.p (.str stp.z) (some (.ref t.r)):=.inl ⟨_,.inr stp.z,.inl (hn4.get hn).at_,rfl,(by rw [← et];exact (tK_val (by rw [hn4.zs n hn];exact hf.nd) ht).symm)⟩
    have hpn:=hn4.pn n hn t ht
    refine ⟨_,rfl,_,rfl,N,_,rfl,gN,_,rfl,x,_,1,_,rfl,rfl,SqT.of (S4 _ _ hx),atI_nat (j:=1) rfl,n.p,_,rfl,gP,_,rfl,t.r,x,stp.vb,stp.z,.int stp.k,stp.p,stp.row,rest,t.rs,rfl,(hn4.rr n hn t ht).2,hpn.1,(by omega),S4 _ _ hx,can1,(fun nc=>?_),fun m H5 m1 m2 m3 m4 m5=>?_⟩
    ·rcases hrow with h | ⟨h,r,rfl,g1,g2,g3⟩
     ·exact absurd h nc
     ·exact ⟨r,rfl,S4 _ _ g1⟩
    have hrok:stp.vb ≠ "cut"->RwOk stp.row:=fun nc=>by
     rcases hrow with h | ⟨h,r,_,g1,g2,g3⟩
     ·exact absurd h nc
     ·exact g2
    have hadd:stp.vb = "add"->m.pl ∉ t.rs.map (·.pl):=fun e=>by
     rw [m1]
     rcases can1 with ⟨_,h⟩ | ⟨h,_⟩ | ⟨h,_⟩
     ·exact h
     ·rw [e] at h;exact absurd h (by decide +kernel)
     ·rw [e] at h;exact absurd h (by decide +kernel)
    have hfin:=hn4.mod hf.nd hn ht m5 m4 (fun nc=>⟨(m3 nc).1,by rw [m2];exact (m3 nc).2,by rw [m2];exact hrok nc⟩) hadd
    refine ⟨by omega,⟨_,_,rfl⟩,ρ',_,hfin,by rw [List.length_map];exact hl4,?_⟩
    rw [erun]
    unfold appS
    rw [← hc4,List.map_map,List.map_map,en,et]
    exact List.map_congr_left fun n' _=>modN_c stp m m1 m2 n'
   ·have ei:i = ss.length:=by omega
    rcases hend with ⟨x,C,z,kx,px,hx,hbad,hE⟩ | ⟨hl,_⟩
    ·rw [← ei,List.getElem?_eq_getElem hix] at hx
     cases hx
     obtain ⟨vb,rest,hx,hb⟩:=hbad
     have hcase:(z ∉ Ts.map (·.name)/\Refd E H2 CO z kx px)\/∃ (T:Tb) (nk np:String) (kb pb rb:Bool),T ∈ Ts/\T.name = z/\Is K H2 kx nk/\KeyB sz kx nk kb/\Is K H2 px np/\PlB T px np pb/\RowB K H2 T vb rest rb/\(kb && pb && rb) = false/\Refd E H2 CM z kx px:=by
      rcases hb with ⟨h1,rfl⟩ | ⟨T,nk,np,kb,pb,rb,h1,h2,h3,h4,h5,h6,h7,h8,rfl⟩
      ·exact .inl ⟨h1,hE.same S2⟩
      ·exact .inr ⟨T,nk,np,kb,pb,rb,h1,h2,h3.same S2,h4,h5.same S2,h6,h7.same S2,h8,hE.same S2⟩
     refine ⟨_,rfl,a,CP,dx,_,_,rfl,S2 _ _ ha,L.cl,L.nF,flds_form,_,rfl,fo,xs[i],sz,Ts,vb,z,kx,px,rest,rfl,(hf.same S2).at_,tok,S2 _ _ hx,?_⟩
     rcases hcase with h | ⟨T,nk,np,kb,pb,rb,h1,h2,h3,h4,h5,h6,h7,h8,h9⟩
     ·exact .inl h
     ·exact .inr ⟨T,nk,np,kb,pb,rb,h1,h2,h3,h4,h5,h6,h7,(fun h=>by rw [h8] at h;cases h),fun _=>h9⟩
    ·omega
  ·rintro σ H2 ⟨hi,⟨u3,u4,rfl⟩,ρ,st,hnm,hsl,hst⟩
   rw [List.length_map] at hi hsl hst hnm
   rcases hend with ⟨x,C,z,kx,px,hx,_⟩ | ⟨hl,hgd,q⟩
   ·have:=(List.getElem?_eq_some_iff.mp hx).1
    omega
   rw [← hl,List.take_length] at hst
   rw [← hl] at hsl hnm
   rw [← hst] at hgd q
   have S2:Same H H2:=hnm.bs.trans hid_sub
   have n8:(Ts.map (·.name)).length ≤ 8:=by rw [List.length_map];exact hf.le
   have ek:(nK st).map (·.1) = (st.map (·.k)).map Sum.inl:=by unfold nK;rw [List.map_map,List.map_map];rfl
   have hok:∀ n ∈ st,PdOk n.ts:=fun n hn=>hnm.ok hf.nd n8 (by omega) hn
   have cK:(st.map cN).map (·.1) = st.map (·.k):=by rw [List.map_map];rfl
   refine ⟨_,rfl,N,_,st.map (·.k),rfl,.inl hnm.at_,ek,(by rw [List.length_map];omega),fun l1 ns hl1 hpn hsn=>?_⟩
   have T3:=Same.upd (o:=.lst (ns.map V.int)) hl1
   have e3:(upd H2 l1 (.lst (ns.map V.int))) l1 = some (.lst (ns.map V.int)):=upd_same
   generalize upd H2 l1 (.lst (ns.map V.int)) = H3 at *
   refine ⟨l1,rfl,⟨_,SqL.of e3⟩,for_list (K:=K) (a:=l1) (xs:=ns.map V.int) (fun i σ H4=>Same H3 H4/\∃ u3 u4,σ = [some (.ref a),some (.ref Lq),some (.ref N),u3,u4,none]) ⟨Same.refl _,_,_,rfl⟩ (fun i σ H4 _ p=>SqL.of (p.1 _ _ e3)) ?_ ?_⟩
   ·rintro i x σ H4 hx ⟨s4,u3,u4,rfl⟩
    obtain ⟨k,hk,rfl⟩:=List.mem_map.mp (List.mem_of_getElem? hx)
    obtain ⟨n,hn,rfl⟩:=List.mem_map.mp (hpn.mem_iff.mp hk)
    have S4:=(S2.trans T3).trans s4
    have hn4:=hnm.up (T3.trans s4)
    have gN:DGet H4 N (.int n.k) (some (.ref n.p)):=.inl ⟨_,.inl n.k,.inl hn4.at_,rfl,(valV_map (f:=Nn.k) (g:=fun t:Nn=>V.ref t.p) hn4.nd hn).symm⟩
    refine ⟨_,rfl,a,CP,dx,_,_,rfl,S4 _ _ ha,L.cl,L.nF,flds_form,_,rfl,_,rfl,_,rfl,N,_,rfl,gN,fo,n.p,sz,Ts,.int n.k,n.ts,rfl,(hf.same S4).at_,tok,hn4.get hn,hok n hn,hn4.zs n hn,(fun hany T hT t ht e=>?_),fun H5 s5=>⟨s4.trans s5,_,_,rfl⟩⟩
    have:=hgd (cN n) (List.mem_map.mpr ⟨n,hn,rfl⟩) (by show full (n.ts.map cT) = true;rw [cT_full];exact hany) T hT (cT t) (List.mem_map.mpr ⟨t,ht,rfl⟩) e
    have e:((cT t).2).map (·.1) = t.rs.map (·.pl):=by show (t.rs.map cR).map (·.1) = _;rw [List.map_map];rfl
    rwa [e] at this
   ·rintro σ H4 ⟨s4,u3,u4,rfl⟩
    have S4:=(S2.trans T3).trans s4
    have hn4:=hnm.up (T3.trans s4)
    refine ⟨_,rfl,a,dx,_,rfl,S4 _ _ ha,flds_no (by decide +kernel) (by decide +kernel),_,rfl,a,N,sz,Ts,es,st,rfl,hpl.same S4,hn4.at_,hn4.nd,(fun n hn=>⟨hn4.get hn,hok n hn⟩),(by omega),fun td' us ms H5 s5 hus ms1 ms2 ms3 ms4=>?_⟩
    have S5:=S4.trans s5
    refine ⟨_,rfl,a,CP,dx,_,_,rfl,S5 _ _ ha,L.cl,L.nF,flds_form,_,rfl,fo,sz,Ts,.ref td',rfl,hf.same S5,fun H6 s6=>?_⟩
    have S6:=S5.trans s6
    refine ⟨_,rfl,_,rfl,a,CP,dx,_,rfl,S6 _ _ ha,L.cl,L.nT,(by show _ < 1000;unfold flds;have:=length_putF "things" (V.ref td) (putF "form" (.ref fo) []);have:=length_putF "form" (V.ref fo) [];simp only [List.length_nil] at *;omega),?_⟩
    rw [flds_put]
    have hn6:=hn4.up (s5.trans s6)
    have nNa:N ≠ a:=fun e=>by have:=hn6.at_;rw [e,S6 _ _ ha] at this;cases this
    have fr7:∀ b o,b ≠ a->H6 b = some o->(upd H6 a (.ins CP dx (flds fo td'))) b = some o:=fun b o nb hb=>by rw [upd_ne nb];exact hb
    have mv7:∀ b o,H6 b = some o->NoI o->(upd H6 a (.ins CP dx (flds fo td'))) b = some o:=fun b o hb no=>fr7 b o (fun e=>by rw [e,S6 _ _ ha] at hb;injection hb with hb;exact no _ _ _ hb.symm) hb
    have a7:(upd H6 a (.ins CP dx (flds fo td'))) a = some (.ins CP dx (flds fo td')):=upd_same
    generalize upd H6 a (.ins CP dx (flds fo td')) = H7 at *
    refine ⟨_,rfl,N,_,st.map (·.k),rfl,.inl (fr7 _ _ nNa hn6.at_),ek,(by rw [List.length_map];omega),fun l ns' hl' hpn' hsn'=>?_⟩
    have em:ns' = (srt (st.map cN)).map (·.1):=srt_keys (by rw [cK];exact hpn') hsn'
    subst em
    have T8:=Same.upd (o:=.lst (((srt (st.map cN)).map (·.1)).map V.int)) hl'
    have l60:H6 l = none:=by
     cases e:H6 l with
     | none=>rfl
     | some o=>
      by_cases ea:l = a
      ·rw [ea,a7] at hl';cases hl'
      ·rw [fr7 _ _ ea e] at hl';cases hl'
    refine q l us ms _ (fun b o nb hb=>T8 _ _ (fr7 _ _ nb (S6 _ _ hb))) (none_of S6 l60) upd_same ⟨⟨dx,fo,td',T8 _ _ a7,((hf.same S6).mv mv7).same T8,((hus.same s6).mv mv7).same T8⟩,fun e he T hT=>?_⟩ ms1 ms2 (fun x=>by rw [cK];exact ms3 x) ms4
    have hm:kc e ∈ ms.filterMap (bhd (es.map kc) (st.map cN)):=ms4 ▸ List.mem_map.mpr ⟨e,he,rfl⟩
    obtain ⟨k,hk,hb⟩:=List.mem_filterMap.mp hm
    unfold bhd at hb
    split at hb
    ·rename_i c hc
     split at hb
     ·injection hb with hb
      injection hb with _ hb
      obtain ⟨n,hn,rfl⟩:=List.mem_map.mp (List.mem_of_find?_eq_some hc)
      rw [← hb,List.map_map]
      show T ∈ (n.ts.map cT).map (·.1)
      rw [List.map_map]
      rw [← hnm.zs n hn] at hT
      exact hT
     ·cases hb
    ·obtain ⟨e0,he0,ee⟩:=List.mem_map.mp (List.mem_of_find?_eq_some hb)
     have:e0.pc = e.pc:=by injection ee
     rw [← this]
     exact htb e0 he0 T hT
end
end My
namespace L2
open PySem PySem.Spec PyProof.Rows
theorem fold_app:∀ (l:List (Array Nat)) (a:Array Nat),(l.foldl (· ++ ·) a).toList = a.toList ++ (l.map (·.toList)).flatten
 | [],a=>by simp
 | x :: r,a=>by
  rw [List.foldl_cons,fold_app r (a ++ x),Array.toList_append,List.map_cons,List.flatten_cons,List.append_assoc]
section
variable {X:Cx}
theorem op_mulSN:OpR X (binaryOp .Mult) (fun x y H Q=>∃ (z:Str) (n:Nat),x = .str z/\y = .int n/\n < 1000/\0 < z.length/\z.length ≤ 10000/\∀ r:Str,r.cps.toList = (List.replicate n z.cps.toList).flatten->Q (.str r) H):=by
 intro pins s σ H x y v u Q I rx ry h
 obtain ⟨z,n,rfl,rfl,h2,h3,h4,q⟩:=h
 by_cases e0:n = 0
 ·subst e0
  obtain ⟨t,rfl⟩:=rx
  obtain ⟨t',rfl⟩:=ry
  exact P.mul_str_none (by decide) (by decide) ⟨.str Str.empty,H,I.tok _,⟨_,rfl⟩,q _ rfl⟩
 by_cases e1:n = 1
 ·subst e1
  obtain ⟨t,rfl⟩:=rx
  obtain ⟨t',rfl⟩:=ry
  refine P.mul_str (by decide) (fun _ h=>?_) (fun _ h=>?_) ?_
  ·rw [Bool.or_eq_false_iff] at h;exact absurd h.1 (by decide)
  ·rw [Bool.or_eq_false_iff] at h;exact absurd h.1 (by decide)
  ·rw [if_neg (by decide),if_pos (by rw [Bool.or_eq_true];exact .inl (by decide))]
   exact ⟨.str z,H,I,⟨t,rfl⟩,q _ (by simp)⟩
 ·refine op_mulSI pins s σ H _ _ v u Q I rx ry ⟨z,n,rfl,rfl,by omega,h2,h3,h4,q _ ?_⟩
  show ((List.replicate n z.cps).foldl (· ++ ·) #[]).toList = _
  rw [fold_app,List.map_replicate]
  rfl
end
end L2
namespace My
open PySem L2 PyProof.Rows
seal L2.PE L2.PT L2.PW L2.PS L2.PSs L2.PA L2.PI L2.PG L2.PGs L2.OpR L2.UnR L2.CallR L2.IxR L2.SlR L2.MtR L2.PIf L2.PO L2.MtM L2.PC
def abc:Str:="abcdefghijklmnopqrstuvwxyz"
theorem let_at:∀ n < 26,abc.cps.toList[n]? = some (97 + n):=by decide +kernel
theorem let_emod (x:Int):∃ n:Nat,x % 26 = (n:Int)/\n < 26:=by
 have n0:=Int.emod_nonneg x (show (26:Int) ≠ 0 by decide)
 have n1:=Int.emod_lt_of_pos x (show (0:Int) < 26 by decide)
 obtain ⟨n,hn⟩:=Int.eq_ofNat_of_zero_le n0
 exact ⟨n,hn,by omega⟩
def nmA (w:Str) (c:Nat) (i:Nat):Str:=w ++ ⟨(List.replicate i c).toArray⟩
theorem nmA_len {w:Str} {c i:Nat}:(nmA w c i).length = w.length + i:=by
 unfold nmA
 rw [Str.length_append]
 show _ + (List.replicate i c).toArray.size = _
 simp
theorem str_ext {a b:Str} (h:a.cps.toList = b.cps.toList):a = b:=by
 cases a;cases b
 congr 1
 exact Array.toList_inj.mp h
theorem nmA_nd {w:Str} {c:Nat} (m:Nat):((List.range m).map (nmA w c)).Nodup:=by
 refine List.Pairwise.map _ (fun a b h e=>?_) List.nodup_range
 have:=congrArg Str.length e
 rw [nmA_len,nmA_len] at this
 omega
def nmB (w:Str) (at_:Int) (s st:Int) (i:Nat):Str:=Txt.slice w none (some at_) ++ ⟨#[97 + (s + st * (i:Nat)).toNat]⟩ ++ Txt.slice w (some (at_ + 1)) none
theorem nmB_list {w:Str} {at_ s st:Int} {i:Nat} (h0:0 ≤ at_) (h1:at_ < w.length):(nmB w at_ s st i).cps.toList = w.cps.toList.take at_.toNat ++ [97 + (s + st * (i:Nat)).toNat] ++ w.cps.toList.drop (at_ + 1).toNat:=by
 unfold nmB
 rw [Str.cps_append,Array.toList_append,Str.cps_append,Array.toList_append,slice_to w h0 (by omega),slice_from w (by omega) (by omega)]
theorem nmB_len {w:Str} {at_ s st:Int} {i:Nat} (h0:0 ≤ at_) (h1:at_ < w.length):(nmB w at_ s st i).length = w.length:=by
 have:=congrArg List.length (nmB_list (s:=s) (st:=st) (i:=i) h0 h1)
 have e:w.length = w.cps.toList.length:=(Array.length_toList ..).symm
 rw [List.length_append,List.length_append,List.length_take,List.length_drop,← e] at this
 show (nmB w at_ s st i).cps.size = _
 rw [← Array.length_toList,this]
 simp
 omega
theorem nmB_nd {w:Str} {at_ s st:Int} (h0:0 ≤ at_) (h1:at_ < w.length) (s0:0 ≤ s) (t0:0 < st) (m:Nat):((List.range m).map (nmB w at_ s st)).Nodup:=by
 refine List.Pairwise.map _ (fun a b h e=>?_) List.nodup_range
 have:=congrArg (fun z:Str=>z.cps.toList) e
 simp only [nmB_list h0 h1] at this
 rw [List.append_assoc,List.append_assoc] at this
 have h2:=List.append_cancel_left this
 injection h2 with h3
 have ha:0 ≤ st * (a:Int):=Int.mul_nonneg (by omega) (by omega)
 have hb:0 ≤ st * (b:Int):=Int.mul_nonneg (by omega) (by omega)
 have h4:st * (a:Int) = st * (b:Int):=by omega
 have:=Int.eq_of_mul_eq_mul_left (by omega) h4
 omega
def spCel (K:PySem.W.Frag):Sp:=fun vs H Q _=>∃ (a:Addr) (ns:List Int) (k:Int),vs = [.ref a,.int k]/\SqL K H a (ns.map V.int)/\0 ≤ k/\∀ i:Int,Q (.int i) H
def spNames:Sp:=fun vs H Q _=>∃ c m:Int,vs = [.int c,.int m]/\0 ≤ m/\m ≤ 4/\∀ (l:Addr) (zs:List Str) (H':Hp),Same H H'->cut H H' l = some (.lst (zs.map V.str))->(zs.length:Int) = m->zs.Nodup->(∀ z ∈ zs,1 ≤ z.length/\z.length ≤ 8)->Q (.ref l) H'
def nmN:List Str:=["_law_cell_here","_law_many","_law_letters","_law_word","_law_k","_law_at","_law_start","_law_step_here"]
section
variable {P:Program} {w:World} {K:PySem.W.Frag} {mg:Str->Option Value} {base:Heap}
theorem ok_cel {f:Addr} {fd:FuncData} (F:Fun K "_law_cell" "_law_cell" (top 39) f fd) (B:Bl mg):FnOk P w K mg base CX0 1 f fd ["_law_script","_law_k"] (spCel K):=by
 have sc:FnScope ["_law_script","_law_k"] ["_law_script","_law_k"] (defScope (top 39)):=⟨rfl,rfl,rfl,by decide +kernel,rfl,by decide +kernel,by decide +kernel⟩
 refine F.ok sc (fun vs H Q E h=>?_) (fun cdv A outer s H vs Q E hr h=>?_)
 ·obtain ⟨a,ns,k,rfl,_⟩:=h
  rfl
 ·obtain ⟨a,ns,k,rfl,ha,k0,q⟩:=h
  refine ⟨_,pss_cons (ps_if (pt_cmpR op_lt (pv 1) (pe_callB call_len_seq (by rfl) B.len PySem.boot_len (pa_cons (pv 0) pa_nil)) (nomark _)) (pss_one (ps_ret (pe_ix ix_list (pv 0) (pv 1) (fun _ _=>rfl)))) pss_nil) (pss_one (ps_ret pe_int)),?_⟩
  refine ⟨_,rfl,_,rfl,_,_,rfl,.inl ha,_,_,rfl,rfl,_,rfl,?_⟩
  refine ite2 (fun c=>?_) (fun _=>q _)
  have c':k < (((ns.map V.int).length:Nat):Int):=of_decide_eq_true c
  obtain ⟨j,rfl⟩:=Int.eq_ofNat_of_zero_le k0
  have hj:j < ns.length:=by rw [List.length_map] at c';omega
  exact ⟨_,rfl,_,rfl,_,_,_,_,rfl,rfl,ha,atI_nat (by rw [List.getElem?_map,List.getElem?_eq_getElem hj];rfl),q _⟩
theorem ok_names {f:Addr} {fd:FuncData} (F:Fun K "_law_names" "_law_names" (top 40) f fd) (B:Bl mg):FnOk P w K mg base CX0 1 f fd ["_law_cell_here","_law_many"] spNames:=by
 have sc:FnScope nmN ["_law_cell_here","_law_many"] (defScope (top 40)):=⟨rfl,rfl,rfl,by decide +kernel,rfl,by decide +kernel,by decide +kernel⟩
 refine F.ok sc (fun vs H Q E h=>?_) (fun cdv A outer s H vs Q E hr h=>?_)
 ·obtain ⟨c,m,rfl,_⟩:=h
  rfl
 ·obtain ⟨c,m,rfl,m0,m4,q⟩:=h
  have ndA:(["_law_k","_law_word","_law_letters","_law_cell_here"]:List Str).Nodup:=by decide +kernel
  have ndB:(["_law_k","_law_word","_law_at","_law_letters","_law_start","_law_step_here"]:List Str).Nodup:=by decide +kernel
  refine ⟨_,pss_cons (ps_set (i:=2) sc.nd rfl (Or.inr rfl) pe_str) (pss_cons (ps_set (i:=3) sc.nd rfl (Or.inr rfl) pe_str)
   (pss_cons (ps_for PassesOwn.never rfl (pi_range1 rfl B.range (pa_cons (pe_op op_add pe_int (pe_op op_mod (pv 0) pe_int)) pa_nil)) (pg_name (i:=4) sc.nd rfl (Or.inl rfl))
    (pss_one (ps_set (i:=3) sc.nd rfl (Or.inr rfl) (pe_op op_add_str (pv 3) (pe_ix ix_str (pv 2) (pe_op op_mod (pe_op op_add (pe_op op_fdiv (pv 0) pe_int) (pe_op op_mul pe_int (pv 4))) pe_int) (fun _ _=>rfl))))))
   (pss_cons (ps_if (pt_cmpR op_eq (pe_op op_mod (pe_op op_fdiv (pv 0) pe_int) pe_int) pe_int (nomark _)) (pss_one (ps_ret (pe_comp (osc:=defScope (top 40)) (N0:=nmN) (xs:=["_law_k"]) (fr:=[3,2,0]) ⟨rfl,by decide +kernel,by decide +kernel,by decide +kernel,(fun j hj=>by
       have e:j = 3\/j = 2\/j = 0:=by simpa using hj
       rcases e with rfl | rfl | rfl
       ·exact ⟨_,rfl,by decide +kernel⟩
       ·exact ⟨_,rfl,by decide +kernel⟩
       ·exact ⟨_,rfl,by decide +kernel⟩),by decide +kernel⟩ rfl rfl rfl (pi_range1 rfl B.range (pa_cons (pv 1) pa_nil))
      (fun s H fp=>pg_name (i:=0) ndA rfl (Or.inl rfl)) (fun s H fp=>pif_nil)
      (fun s H fp=>pe_op op_add_str (pv 1) (pe_op op_mulSN (pe_ix ix_str (pv 2) (pe_op op_mod (pe_op op_fdiv (pv 3) pe_int) pe_int) (fun _ _=>rfl)) (pv 0)))))) pss_nil)
   (pss_cons (ps_set (i:=5) sc.nd rfl (Or.inr rfl) (pe_op op_mod (pe_op op_fdiv (pv 0) pe_int) (pe_callB call_len_str (by rfl) B.len PySem.boot_len (pa_cons (pv 3) pa_nil))))
   (pss_cons (ps_set (i:=6) sc.nd rfl (Or.inr rfl) (pe_op op_mod (pe_op op_fdiv (pv 0) pe_int) pe_int))
   (pss_cons (ps_set (i:=7) sc.nd rfl (Or.inr rfl) (pe_op op_add pe_int (pe_op op_mod (pe_op op_fdiv (pv 0) pe_int) pe_int)))
   (pss_one (ps_ret (pe_comp (osc:=defScope (top 40)) (N0:=nmN) (xs:=["_law_k"]) (fr:=[3,5,2,6,7]) ⟨rfl,by decide +kernel,by decide +kernel,by decide +kernel,(fun j hj=>by
       have e:j = 3\/j = 5\/j = 2\/j = 6\/j = 7:=by simpa using hj
       rcases e with rfl | rfl | rfl | rfl | rfl
       ·exact ⟨_,rfl,by decide +kernel⟩
       ·exact ⟨_,rfl,by decide +kernel⟩
       ·exact ⟨_,rfl,by decide +kernel⟩
       ·exact ⟨_,rfl,by decide +kernel⟩
       ·exact ⟨_,rfl,by decide +kernel⟩),by decide +kernel⟩ rfl rfl rfl (pi_range1 rfl B.range (pa_cons (pv 1) pa_nil))
      (fun s H fp=>pg_name (i:=0) ndB rfl (Or.inl rfl)) (fun s H fp=>pif_nil)
      (fun s H fp=>pe_op op_add_str (pe_op op_add_str (pe_slice sl_str (pv 1) po_none (po_some (pv 2))) (pe_ix ix_str (pv 3) (pe_op op_add (pv 4) (pe_op op_mul (pv 5) (pv 0))) (fun _ _=>rfl))) (pe_slice sl_str (pv 1) (po_some (pe_op op_add (pv 2) pe_int)) po_none))))))))))),?_⟩
  have a0:=Int.emod_nonneg c (show (4:Int) ≠ 0 by decide)
  have a4:=Int.emod_lt_of_pos c (show (0:Int) < 4 by decide)
  have abl:abc.length ≤ sizeLine:=by decide +kernel
  refine ⟨_,rfl,_,_,rfl,rfl,(pos rfl),_,_,rfl,rfl,_,rfl,(by omega),(by omega),for_range (fun i σ H'=>H' = H/\∃ (z:Str) (u4:Option V),σ = [some (.int c),some (.int m),some (.str abc),some (.str z),u4,none,none,none]/\z.length = i) ⟨rfl,"",_,rfl,by decide⟩ ?_ ?_⟩
  ·rintro i σ H' hi ⟨rfl,z,u4,rfl,hz⟩
   obtain ⟨n,hn,n26⟩:=let_emod (c / 4 + 7 * (0 + (i:Int)))
   refine ⟨_,rfl,_,rfl,_,rfl,_,_,rfl,rfl,⟨by decide,by decide⟩,_,rfl,_,_,rfl,rfl,.inl ⟨by decide,by decide⟩,_,_,rfl,rfl,_,_,rfl,rfl,(pos rfl),_,_,_,rfl,rfl,abl,(by rw [hn];exact atI_nat (let_at n n26)),_,_,rfl,rfl,(by rw [sizeLine_eq];show z.length + 1 ≤ _;omega),rfl,_,_,rfl,?_⟩
   rw [Str.length_append,hz]
   rfl
  rintro σ H' ⟨rfl,z,u4,rfl,hz⟩
  have zl:z.length ≤ sizeLine:=by rw [sizeLine_eq];omega
  refine ⟨_,rfl,_,_,rfl,rfl,⟨by decide,by decide⟩,_,_,rfl,rfl,(pos rfl),rfl,_,rfl,?_⟩
  refine ite2 (fun _=>?_) (fun _=>?_)
  ·obtain ⟨n,hn,n26⟩:=let_emod (c / 16)
   refine ⟨_,rfl,_,rfl,(by omega),(by omega),fun D hD=>?_⟩
   refine compW_map m.toNat (fun i=>.str (nmA z (97 + n) i)) (fun i σ' Hc=>(∃ t,σ' = [t,some (.str z),some (.str abc),some (.int c)])/\Same H' Hc) (by rw [sizeLine_eq];omega) ⟨⟨none,rfl⟩,Same.upd hD⟩ upd_same ?_ ?_
   ·rintro i σ' Hc hi ⟨⟨t,rfl⟩,sm⟩ hD'
    refine ⟨hi,?_⟩
    rintro y H'' ⟨rfl,rfl⟩
    refine ⟨_,rfl,_,rfl,_,rfl,_,_,rfl,rfl,⟨by decide,by decide⟩,_,_,rfl,rfl,(pos rfl),_,_,_,rfl,rfl,abl,(by rw [hn];exact atI_nat (let_at n n26)),_,rfl,?_⟩
    refine ⟨⟨#[97 + n]⟩,i,rfl,(by rw [Int.zero_add]),(by omega),(by show 0 < 1;decide),(by show 1 ≤ 10000;decide),fun r hr'=>?_⟩
    have er:r = ⟨(List.replicate i (97 + n)).toArray⟩:=str_ext (by rw [hr'];simp)
    subst er
    refine ⟨_,_,rfl,rfl,?_,rfl,hD',⟨_,rfl⟩,sm.put hD⟩
    have e2:Str.length ⟨(List.replicate i (97 + n)).toArray⟩ = i:=by show (List.replicate i (97 + n)).toArray.size = i;simp
    rw [sizeLine_eq,e2]
    omega
   ·rintro σ' Hc ⟨_,sm⟩ hDn
    refine ⟨Nat.le_refl _,?_⟩
    have e1:(List.range m.toNat).map (fun i=>V.str (nmA z (97 + n) i)) = ((List.range m.toNat).map (nmA z (97 + n))).map V.str:=by rw [List.map_map];rfl
    rw [e1] at hDn
    refine q D _ Hc sm (cut_at hD hDn) (by rw [List.length_map,List.length_range];omega) (nmA_nd _) (fun x hx=>?_)
    obtain ⟨i,hi,rfl⟩:=List.mem_map.mp hx
    have:=List.mem_range.mp hi
    rw [nmA_len]
    omega
  ·have lz:(0:Int) < (z.length:Nat):=by omega
   refine ⟨_,rfl,_,_,rfl,rfl,⟨by decide,by decide⟩,_,rfl,_,rfl,zl,_,_,rfl,rfl,lz,?_⟩
   have t0:=Int.emod_nonneg (c / 16) (show ((z.length:Nat):Int) ≠ 0 by omega)
   have t1:=Int.emod_lt_of_pos (c / 16) lz
   refine ⟨_,rfl,_,_,rfl,rfl,⟨by decide,by decide⟩,_,_,rfl,rfl,(pos rfl),?_⟩
   have s0:=Int.emod_nonneg (c / 64) (show (6:Int) ≠ 0 by decide)
   have s1:=Int.emod_lt_of_pos (c / 64) (show (0:Int) < 6 by decide)
   refine ⟨_,rfl,_,_,rfl,rfl,⟨by decide,by decide⟩,_,_,rfl,rfl,(pos rfl),_,_,rfl,rfl,?_⟩
   have p0:=Int.emod_nonneg (c / 512) (show (4:Int) ≠ 0 by decide)
   have p1:=Int.emod_lt_of_pos (c / 512) (show (0:Int) < 4 by decide)
   dsimp only
   generalize c / 16 % ((z.length:Nat):Int) = at_ at *
   generalize c / 64 % 6 = st at *
   generalize hsp:1 + c / 512 % 4 = sp at *
   have sp0:0 < sp:=by omega
   have sp5:sp < 5:=by omega
   refine ⟨_,rfl,_,rfl,(by omega),(by omega),fun D hD=>?_⟩
   refine compW_map m.toNat (fun i=>.str (nmB z at_ st sp i)) (fun i σ' Hc=>(∃ t,σ' = [t,some (.str z),some (.int at_),some (.str abc),some (.int st),some (.int sp)])/\Same H' Hc) (by rw [sizeLine_eq];omega) ⟨⟨none,rfl⟩,Same.upd hD⟩ upd_same ?_ ?_
   ·rintro i σ' Hc hi ⟨⟨t,rfl⟩,sm⟩ hD'
    have hi4:i < 4:=by omega
    refine ⟨hi,?_⟩
    rintro y H'' ⟨rfl,rfl⟩
    have hb:0 ≤ sp * (i:Int):=Int.mul_nonneg (by omega) (by omega)
    have hb2:sp * (i:Int) ≤ 4 * 3:=Int.mul_le_mul (by omega) (by omega) (by omega) (by decide)
    obtain ⟨n,hn⟩:=Int.eq_ofNat_of_zero_le (show 0 ≤ st + sp * (i:Int) by omega)
    have n26:n < 26:=by omega
    have hn':st + sp * (0 + (i:Int)) = (n:Int):=by rw [Int.zero_add];exact hn
    refine ⟨_,rfl,_,rfl,_,rfl,z,rfl,zl,_,rfl,_,rfl,_,rfl,_,rfl,_,_,rfl,rfl,.inl ⟨by omega,by omega⟩,_,_,rfl,rfl,_,_,_,rfl,rfl,abl,(by rw [hn'];exact atI_nat (let_at n n26)),_,_,rfl,rfl,?_,_,rfl,_,rfl,_,_,rfl,rfl,_,rfl,z,rfl,zl,_,_,rfl,rfl,?_,?_,hD',⟨_,rfl⟩,sm.put hD⟩
    ·have:=Txt.slice_le z none (some at_)
     rw [sizeLine_eq]
     show _ + 1 ≤ _
     omega
    ·have h1:=Txt.slice_le z none (some at_)
     have h2:=Txt.slice_le z (some (at_ + 1)) none
     rw [sizeLine_eq,Str.length_append]
     show _ + 1 + _ ≤ _
     omega
    ·show V.str _ = V.str (nmB z at_ st sp i)
     unfold nmB
     rw [hn]
     rfl
   ·rintro σ' Hc ⟨_,sm⟩ hDn
    refine ⟨Nat.le_refl _,?_⟩
    have e1:(List.range m.toNat).map (fun i=>V.str (nmB z at_ st sp i)) = ((List.range m.toNat).map (nmB z at_ st sp)).map V.str:=by rw [List.map_map];rfl
    rw [e1] at hDn
    refine q D _ Hc sm (cut_at hD hDn) (by rw [List.length_map,List.length_range];omega) (nmB_nd t0 (by omega) s0 sp0 _) (fun x hx=>?_)
    obtain ⟨i,hi,rfl⟩:=List.mem_map.mp hx
    rw [nmB_len t0 (by omega)]
    omega
end
end My
namespace My
open PySem L2 PyProof.Rows
seal L2.PE L2.PT L2.PW L2.PS L2.PSs L2.PA L2.PI L2.PG L2.PGs L2.OpR L2.UnR L2.CallR L2.IxR L2.SlR L2.MtR L2.PIf L2.PO L2.MtM L2.PC
def spBadKey (K:PySem.W.Frag):Sp:=fun vs H Q _=>∃ c sz:Int,vs = [.int c,.int sz]/\1 ≤ sz/\∀ v n H',Same H H'->Is K H' v n->KeyB sz v n false->Q v H'
def spBadPl (K:PySem.W.Frag):Sp:=fun vs H Q _=>∃ (c:Int) (T:Tb),vs = [.int c,.str T.sort]/\(T.sort ≠ "many"->T.sort ∈ lone)/\∀ v n H',Same H H'->Is K H' v n->PlB T v n false->Q v H'
section
variable {P:Program} {w:World} {K:PySem.W.Frag} {mg:Str->Option Value} {base:Heap}
theorem ok_badKey {f:Addr} {fd:FuncData} (F:Fun K "_law_bad_key" "_law_bad_key" (top 41) f fd) (B:Bl mg):FnOk P w K mg base CX0 1 f fd ["_law_cell_here","_law_size"] (spBadKey K):=by
 have sc:FnScope ["_law_cell_here","_law_size","_law_some"] ["_law_cell_here","_law_size"] (defScope (top 41)):=⟨rfl,rfl,rfl,by decide +kernel,rfl,by decide +kernel,by decide +kernel⟩
 refine F.ok sc (fun vs H Q E h=>?_) (fun cdv A outer s H vs Q E hr h=>?_)
 ·obtain ⟨c,sz,rfl,_⟩:=h
  rfl
 ·obtain ⟨c,sz,rfl,h1,q⟩:=h
  refine ⟨_,pss_cons (ps_set (i:=2) sc.nd rfl (Or.inl rfl) (pe_lst (pa_cons pe_str (pa_cons pe_non (pa_cons pe_bl (pa_cons (pe_tup (pa_cons pe_int pa_nil)) (pa_cons (pe_lst (pa_cons pe_int pa_nil)) (pa_cons (pe_un un_neg pe_int) (pa_cons (pv 1) (pa_cons (pe_op op_add (pv 1) (pe_op op_mod (pe_op op_fdiv (pv 0) pe_int) (pe_op op_pow pe_int pe_int))) pa_nil))))))))))
   (pss_one (ps_ret (pe_ix ix_list (pv 2) (pe_op op_mod (pv 0) pe_int) (fun _ _=>rfl)))),?_⟩
  refine ⟨(by show 1 ≤ sizeLine;decide),fun t0 ht0=>⟨(by show 1 ≤ sizeLine;decide),fun l0 hl0=>?_⟩⟩
  have S1:=Same.upd (o:=.tup [V.int 0]) ht0
  have e1:(upd H t0 (.tup [V.int 0])) t0 = some (.tup [V.int 0]):=upd_same
  generalize upd H t0 (.tup [V.int 0]) = H1 at *
  have S2:=Same.upd (o:=.lst [V.int 0]) hl0
  have e2:(upd H1 l0 (.lst [V.int 0])) l0 = some (.lst [V.int 0]):=upd_same
  generalize upd H1 l0 (.lst [V.int 0]) = H2 at *
  have m0:=Int.emod_nonneg (c / 8) (show (10 ^ 9:Int) ≠ 0 by decide)
  refine ⟨_,rfl,_,rfl,_,rfl,_,rfl,_,_,rfl,rfl,⟨by decide,by decide⟩,_,_,rfl,rfl,⟨by decide,by decide,by decide⟩,_,_,rfl,rfl,(pos rfl),_,_,rfl,rfl,(by show 8 ≤ sizeLine;decide),fun l hl=>?_⟩
  generalize hX:upd H2 l _ = H3
  have S3:Same H2 H3:=hX ▸ Same.upd hl
  have l3:H3 l = some (.lst [.str "0",.non,.bl true,.ref t0,.ref l0,.int (-1),.int sz,.int (sz + c / 8 % 10 ^ 9)]):=by rw [← hX];exact upd_same
  clear hX
  have S:=S1.trans (S2.trans S3)
  have e1':=(S2.trans S3) _ _ e1
  have e2':=S3 _ _ e2
  have j0:=Int.emod_nonneg c (show (8:Int) ≠ 0 by decide)
  have j1:=Int.emod_lt_of_pos c (show (0:Int) < 8 by decide)
  have pick:∃ v n,atI [V.str "0",.non,.bl true,.ref t0,.ref l0,.int (-1),.int sz,.int (sz + c / 8 % 10 ^ 9)] (c % 8) = some v/\Is K H3 v n/\KeyB sz v n false:=by
   obtain ⟨j,hj⟩:=Int.eq_ofNat_of_zero_le j0
   have j8:j < 8:=by omega
   rw [hj]
   match j,j8 with
   | 0,_=>exact ⟨_,_,atI_nat (j:=0) rfl,Is.str,.inl ⟨by decide,rfl⟩⟩
   | 1,_=>exact ⟨_,_,atI_nat (j:=1) rfl,Is.non,.inl ⟨by decide,rfl⟩⟩
   | 2,_=>exact ⟨_,_,atI_nat (j:=2) rfl,Is.bl,.inl ⟨by decide,rfl⟩⟩
   | 3,_=>exact ⟨_,_,atI_nat (j:=3) rfl,Is.tup e1',.inl ⟨by decide,rfl⟩⟩
   | 4,_=>exact ⟨_,_,atI_nat (j:=4) rfl,Is.lst e2',.inl ⟨by decide,rfl⟩⟩
   | 5,_=>exact ⟨_,_,atI_nat (j:=5) rfl,Is.int,.inr ⟨_,rfl,rfl,(decide_eq_false (by omega)).symm⟩⟩
   | 6,_=>exact ⟨_,_,atI_nat (j:=6) rfl,Is.int,.inr ⟨_,rfl,rfl,(decide_eq_false (by omega)).symm⟩⟩
   | 7,_=>exact ⟨_,_,atI_nat (j:=7) rfl,Is.int,.inr ⟨_,rfl,rfl,(decide_eq_false (by omega)).symm⟩⟩
  obtain ⟨v,n,p1,p2,p3⟩:=pick
  exact ⟨_,rfl,_,rfl,_,_,rfl,rfl,(pos rfl),l,_,_,v,rfl,rfl,SqL.of l3,p1,q v n H3 S p2 p3⟩
theorem ok_badPl {f:Addr} {fd:FuncData} (F:Fun K "_law_bad_place" "_law_bad_place" (top 42) f fd) (B:Bl mg):FnOk P w K mg base CX0 1 f fd ["_law_cell_here","_law_sort"] (spBadPl K):=by
 have sc:FnScope ["_law_cell_here","_law_sort","_law_some"] ["_law_cell_here","_law_sort"] (defScope (top 42)):=⟨rfl,rfl,rfl,by decide +kernel,rfl,by decide +kernel,by decide +kernel⟩
 refine F.ok sc (fun vs H Q E h=>?_) (fun cdv A outer s H vs Q E hr h=>?_)
 ·obtain ⟨c,T,rfl,_⟩:=h
  rfl
 ·obtain ⟨c,T,rfl,hs,q⟩:=h
  refine ⟨_,pss_cons (ps_set (i:=2) sc.nd rfl (Or.inl rfl) (pe_lst (pa_cons pe_non (pa_cons pe_str (pa_cons pe_bl (pa_cons pe_bl (pa_cons (pe_lst pa_nil) (pa_cons (pe_op op_sub (pe_un un_neg pe_int) (pe_op op_mod (pe_op op_fdiv (pv 0) pe_int) (pe_op op_pow pe_int pe_int))) (pa_cons (pe_un un_neg pe_int) pa_nil)))))))))
   (pss_cons (ps_if (pt_cmpR op_ne (pv 1) pe_str (nomark _)) (pss_one (ps_expr (pe_bm PySem.F.plainAttrs_list PySem.F.slot_list_append PySem.F.type_list_append mt_app (pv 2) (pa_cons (pe_op op_add pe_int (pe_op op_mod (pe_op op_fdiv (pv 0) pe_int) (pe_op op_pow pe_int pe_int))) pa_nil)))) pss_nil)
   (pss_one (ps_ret (pe_ix ix_list (pv 2) (pe_op op_mod (pv 0) (pe_callB call_len_seq (by rfl) B.len PySem.boot_len (pa_cons (pv 2) pa_nil))) (fun _ _=>rfl))))),?_⟩
  have p9:CPow 10 9:=⟨by decide,by decide,by decide⟩
  refine ⟨(by show 0 ≤ sizeLine;decide),fun l0 hl0=>?_⟩
  have S1:=Same.upd (o:=.lst []) hl0
  have e1:(upd H l0 (.lst [])) l0 = some (.lst []):=upd_same
  generalize upd H l0 (.lst []) = H1 at *
  have m0:=Int.emod_nonneg (c / 8) (show (10 ^ 9:Int) ≠ 0 by decide)
  refine ⟨_,rfl,_,rfl,_,_,rfl,rfl,⟨by decide,by decide⟩,_,_,rfl,rfl,p9,_,_,rfl,rfl,(pos rfl),_,_,rfl,rfl,_,rfl,(by show 7 ≤ sizeLine;decide),fun l hl=>?_⟩
  have hlH:H l = none:=none_of S1 hl
  have n0:l0 ≠ l:=fun e=>by rw [e] at e1;rw [e1] at hl;cases hl
  generalize hX:upd H1 l _ = H2
  have S2:Same H1 H2:=hX ▸ Same.upd hl
  have l2:H2 l = some (.lst [.non,.str "0",.bl false,.bl true,.ref l0,.int (-1 - c / 8 % 10 ^ 9),.int (-1)]):=by rw [← hX];exact upd_same
  clear hX
  have e2:=S2 _ _ e1
  have S:=S1.trans S2
  have fin:∀ (xs:List V) (H3:Hp),Same H H3->H3 l = some (.lst xs)->H3 l0 = some (.lst [])->xs.length ≤ 8->(∃ w,xs = [.non,.str "0",.bl false,.bl true,.ref l0,.int (-1 - c / 8 % 10 ^ 9),.int (-1)] ++ w/\∀ v ∈ w,T.sort ≠ "many"/\v = .int (1 + c / 8 % 10 ^ 9))->∃ v n,atI xs (c % (xs.length:Nat)) = some v/\Is K H3 v n/\PlB T v n false:=by
   rintro xs H3 s3 h3 h30 hx8 ⟨w,rfl,hw⟩
   have hpos:(0:Int) < (([V.non,.str "0",.bl false,.bl true,.ref l0,.int (-1 - c / 8 % 10 ^ 9),.int (-1)] ++ w).length:Nat):=by rw [List.length_append];show (0:Int) < ((7 + w.length:Nat):Int);omega
   have j0:=Int.emod_nonneg c (Int.ne_of_gt hpos)
   have j1:=Int.emod_lt_of_pos c hpos
   obtain ⟨j,hj⟩:=Int.eq_ofNat_of_zero_le j0
   rw [hj]
   rw [hj,List.length_append] at j1
   change (j:Int) < ((7 + w.length:Nat):Int) at j1
   by_cases h7:j < 7
   ·match j,h7 with
    | 0,_=>exact ⟨_,_,atI_nat (j:=0) rfl,Is.non,.inl ⟨by decide,rfl⟩⟩
    | 1,_=>exact ⟨_,_,atI_nat (j:=1) rfl,Is.str,.inl ⟨by decide,rfl⟩⟩
    | 2,_=>exact ⟨_,_,atI_nat (j:=2) rfl,Is.bl,.inl ⟨by decide,rfl⟩⟩
    | 3,_=>exact ⟨_,_,atI_nat (j:=3) rfl,Is.bl,.inl ⟨by decide,rfl⟩⟩
    | 4,_=>exact ⟨_,_,atI_nat (j:=4) rfl,Is.lst h30,.inl ⟨by decide,rfl⟩⟩
    | 5,_=>exact ⟨_,_,atI_nat (j:=5) rfl,Is.int,.inr ⟨_,rfl,rfl,(decide_eq_false (by omega)).symm⟩⟩
    | 6,_=>exact ⟨_,_,atI_nat (j:=6) rfl,Is.int,.inr ⟨_,rfl,rfl,(decide_eq_false (by omega)).symm⟩⟩
   ·have hjw:j - 7 < w.length:=by omega
    obtain ⟨h1,h2⟩:=hw _ (List.getElem_mem hjw)
    refine ⟨w[j - 7],"int",atI_nat ?_,?_,?_⟩
    ·rw [List.getElem?_append_right (by show 7 ≤ j;omega)]
     exact List.getElem?_eq_getElem hjw
    ·rw [h2];exact Is.int
    ·refine .inr ⟨_,h2,rfl,(decide_eq_false fun h=>?_).symm⟩
     rcases h.2 with h | h
     ·omega
     ·exact h (hs h1)
  refine ⟨_,rfl,rfl,_,rfl,?_⟩
  by_cases hm:T.sort = "many"
  ·refine iteC (by rw [hm];decide +kernel) ?_
   obtain ⟨v,n,p1,p2,p3⟩:=fin _ H2 S l2 e2 (by show 7 ≤ 8;decide) ⟨[],rfl,fun v h=>nomatch h⟩
   exact ⟨_,rfl,_,rfl,_,rfl,_,_,rfl,.inl (SqL.of l2),_,_,rfl,rfl,(pos rfl),l,_,_,v,rfl,rfl,SqL.of l2,p1,q v n H2 S p2 p3⟩
  ·refine iteB (by rw [decide_eq_false (fun e=>hm (by injection e))];rfl) ?_
   refine ⟨_,rfl,.inl ⟨rfl,_,SqL.of l2⟩,_,rfl,_,_,rfl,rfl,⟨by decide,by decide⟩,_,_,rfl,rfl,p9,_,_,rfl,rfl,(pos rfl),_,_,rfl,rfl,l,_,_,rfl,rfl,l2,(by show 7 < sizeLine;decide),?_⟩
   generalize hX:upd H2 l _ = H3
   have l3:H3 l = some (.lst ([.non,.str "0",.bl false,.bl true,.ref l0,.int (-1 - c / 8 % 10 ^ 9),.int (-1)] ++ [.int (1 + c / 8 % 10 ^ 9)])):=by rw [← hX];exact upd_same
   have S3:Same H H3:=hX ▸ S.put hlH
   have e3:H3 l0 = some (.lst []):=by rw [← hX,upd_ne n0];exact e2
   clear hX
   obtain ⟨v,n,p1,p2,p3⟩:=fin _ H3 S3 l3 e3 (by show 8 ≤ 8;decide) ⟨[_],rfl,fun v h=>⟨hm,List.mem_singleton.mp h⟩⟩
   exact ⟨_,rfl,_,rfl,_,rfl,_,_,rfl,.inl (SqL.of l3),_,_,rfl,rfl,(pos rfl),l,_,_,v,rfl,rfl,SqL.of l3,p1,q v n H3 S3 p2 p3⟩
end
end My
namespace My
open PySem L2 PyProof.Rows
seal L2.PE L2.PT L2.PW L2.PS L2.PSs L2.PA L2.PI L2.PG L2.PGs L2.OpR L2.UnR L2.CallR L2.IxR L2.SlR L2.MtR L2.PIf L2.PO L2.MtM L2.PC
section
variable {c0 c1 c2:Str}
def two (c0 c1:Str) (x y:V):List (Key × V):=[(.inr c0,x),(.inr c1,y)]
theorem two_disp (h:c0 ≠ c1) {x y:V}:mergeK [] (two c0 c1 x y) = two c0 c1 x y:=by
 show putK (putK ([]:List (Key × V)) (Sum.inr c0) x) (Sum.inr c1) y = _
 rw [putK_new _ (show valV ([]:List (Key × V)) (.inr c0) = none from rfl),putK_new _ (by show valV [(Sum.inr c0,x)] (Sum.inr c1) = none;rw [valV_neg (fun e=>h (by injection e))];rfl)]
 rfl
theorem two_0 {x y:V}:valV (two c0 c1 x y) (.inr c0) = some x:=valV_pos rfl
theorem two_1 (h:c0 ≠ c1) {x y:V}:valV (two c0 c1 x y) (.inr c1) = some y:=by
 unfold two
 rw [valV_neg (fun e=>h (by injection e))]
 exact valV_pos rfl
theorem two_2 (h0:c0 ≠ c2) (h1:c1 ≠ c2) {x y:V}:valV (two c0 c1 x y) (.inr c2) = none:=by
 unfold two
 rw [valV_neg (fun e=>h0 (by injection e)),valV_neg (fun e=>h1 (by injection e))]
 rfl
theorem put_0 (h:c0 ≠ c1) {x y z:V}:putK (two c0 c1 x y) (.inr c0) z = two c0 c1 z y:=by
 have h':¬ (Sum.inr c1:Key) = Sum.inr c0:=fun e=>h (by injection e with e;exact e.symm)
 simp [putK,two,h']
theorem put_1 (h:c0 ≠ c1) {x y z:V}:putK (two c0 c1 x y) (.inr c1) z = two c0 c1 x z:=by
 have h':¬ (Sum.inr c0:Key) = Sum.inr c1:=fun e=>h (by injection e)
 simp [putK,two,h']
theorem drop_0 (h:c0 ≠ c1) {x y:V}:dropK (two c0 c1 x y) (.inr c0) = [(.inr c1,y)]:=by
 have h':¬ (Sum.inr c1:Key) = Sum.inr c0:=fun e=>h (by injection e with e;exact e.symm)
 simp [dropK,two,h']
theorem drop_1 (h:c0 ≠ c1) {x y:V}:dropK (two c0 c1 x y) (.inr c1) = [(.inr c0,x)]:=by
 have h':¬ (Sum.inr c0:Key) = Sum.inr c1:=fun e=>h (by injection e)
 simp [dropK,two,h']
theorem kvC2 {T:Tb} {w o:Addr} (h:T.cols = [(c0,w),(c1,o)]):(kvC T.cols).map (·.1) = [.inr c0,.inr c1]:=by rw [h];rfl
theorem same_len {ks ls:List Key} (h:ks.length ≠ ls.length):sameK ks ls = false:=by unfold sameK;rw [decide_eq_false h];rfl
theorem row_len {K:PySem.W.Frag} {H:Hp} {T:Tb} {w o r:Addr} {kvs:List (Key × V)} (h:T.cols = [(c0,w),(c1,o)]) (hr:H r = some (.dK kvs)) (h1:kvs.length ≠ 2) (h2:kvs.length ≤ 1000):RowIs K H T (.ref r) false:=
 .inr (.inl ⟨r,kvs,rfl,hr,h2,same_len (by rw [kvC2 h,List.length_map];exact h1),rfl⟩)
theorem row_two {K:PySem.W.Frag} {H:Hp} {T:Tb} {w o r:Addr} {x y:V} {n m:String} (h01:c0 ≠ c1) (h:T.cols = [(c0,w),(c1,o)]) (hw:H w = some (.tup [.str "whole"])) (ho:H o = some (.tup [.str "word"])) (hr:H r = some (.dK (two c0 c1 x y))) (hx:Is K H x n) (hy:Is K H y m):RowIs K H T (.ref r) ((n == "int") && (m == "str")):=by
 refine .inr (.inr ⟨r,_,(fun c=>if c = c0 then n == "int" else m == "str"),rfl,hr,(by show 2 ≤ 1000;decide),?_,fun c hc=>?_,?_⟩)
 ·rw [kvC2 h]
  simp [sameK,two]
 ·rw [h] at hc
  rcases List.mem_cons.mp hc with rfl | hc
  ·exact ⟨x,n,"whole",two_0,hx,hw,.inl rfl,by show (if c0 = c0 then _ else _) = _;rw [if_pos rfl];unfold fitB;rw [if_neg (by decide +kernel)]⟩
  ·rw [List.mem_singleton.mp hc]
   exact ⟨y,m,"word",two_1 h01,hy,ho,.inr rfl,by show (if c1 = c0 then _ else _) = _;rw [if_neg (Ne.symm h01)];unfold fitB;rw [if_pos rfl]⟩
 ·rw [h]
  show _ = ((if c0 = c0 then n == "int" else m == "str") && ((if c1 = c0 then n == "int" else m == "str") && true))
  rw [if_pos rfl,if_neg (Ne.symm h01),Bool.and_true]
end
def spBadRow (K:PySem.W.Frag):Sp:=fun vs H Q _=>∃ (c:Int) (lc w o:Addr) (c0 c1 c2:Str),vs = [.int c,.ref lc]/\H lc = some (.lst [.str c0,.str c1,.str c2])/\c0 ≠ c1/\c0 ≠ c2/\c1 ≠ c2/\H w = some (.tup [.str "whole"])/\H o = some (.tup [.str "word"])/\∀ v H',Same H H'->(∀ T:Tb,T.cols = [(c0,w),(c1,o)]->RowIs K H' T v false)->Q v H'
section
variable {P:Program} {w:World} {K:PySem.W.Frag} {mg:Str->Option Value} {base:Heap}
theorem ok_badRow {f:Addr} {fd:FuncData} (F:Fun K "_law_bad_row" "_law_bad_row" (top 43) f fd) (B:Bl mg):FnOk P w K mg base CX0 1 f fd ["_law_cell_here","_law_columns"] (spBadRow K):=by
 have sc:FnScope ["_law_cell_here","_law_columns","_law_good_here","_law_way"] ["_law_cell_here","_law_columns"] (defScope (top 43)):=⟨rfl,rfl,rfl,by decide +kernel,rfl,by decide +kernel,by decide +kernel⟩
 refine F.ok sc (fun vs H Q E h=>?_) (fun cdv A outer s H vs Q E hr h=>?_)
 ·obtain ⟨c,lc,w,o,c0,c1,c2,rfl,_⟩:=h
  rfl
 ·obtain ⟨c,lc,w,o,c0,c1,c2,rfl,hc,h01,h02,h12,hw,ho,q⟩:=h
  have hu:(A.deeper (envOfC "_law_bad_row" (defScope (top 43)) s.heap.objs.size f cdv)).units + 1 < cLine:=hu_of hr
  refine ⟨_,pss_cons (ps_set (i:=2) sc.nd rfl (Or.inl rfl) (pe_disp (pps_cons (pe_ix ix_list (pv 1) pe_int (fun _ _=>rfl)) (pe_op op_sub (pe_op op_mod (pe_op op_fdiv (pv 0) pe_int) pe_int) pe_int) (pps_cons (pe_ix ix_list (pv 1) pe_int (fun _ _=>rfl)) pe_str pps_nil)) rfl rfl (by simp) (by decide)))
   (pss_cons (ps_set (i:=3) sc.nd rfl (Or.inl rfl) (pe_op op_mod (pv 0) pe_int))
   (pss_cons (ps_if (pt_cmpR op_lt (pv 3) pe_int (nomark _)) (pss_one (ps_ret (pe_ix ix_list (pe_lst (pa_cons pe_non (pa_cons (pe_lst pa_nil) (pa_cons pe_str pa_nil)))) (pv 3) (fun _ _=>rfl)))) pss_nil)
   (pss_cons (ps_if (pt_cmpR op_eq (pv 3) pe_int (nomark _)) (pss_one (ps_dput hu (pv 2) (pe_ix ix_list (pv 1) pe_int (fun _ _=>rfl)) pe_int rfl)) pss_nil)
   (pss_cons (ps_if (pt_cmpR op_eq (pv 3) pe_int (nomark _)) (pss_one (ps_expr (pe_dpop1 (pv 2) (pe_ix ix_list (pv 1) (pe_op op_mod (pe_op op_fdiv (pv 0) pe_int) pe_int) (fun _ _=>rfl)) ⟨rfl,rfl,rfl,rfl⟩))) pss_nil)
   (pss_cons (ps_if (pt_cmpR op_eq (pv 3) pe_int (nomark _)) (pss_one (ps_dput hu (pv 2) (pe_ix ix_list (pv 1) pe_int (fun _ _=>rfl)) (pe_ix ix_list (pe_lst (pa_cons pe_bl (pa_cons pe_non (pa_cons pe_str (pa_cons (pe_tup (pa_cons pe_int pa_nil)) pa_nil))))) (pe_op op_mod (pe_op op_fdiv (pv 0) pe_int) pe_int) (fun _ _=>rfl)) rfl)) pss_nil)
   (pss_cons (ps_if (pt_cmpR op_eq (pv 3) pe_int (nomark _)) (pss_one (ps_dput hu (pv 2) (pe_ix ix_list (pv 1) pe_int (fun _ _=>rfl)) (pe_ix ix_list (pe_lst (pa_cons pe_int (pa_cons pe_non (pa_cons pe_bl (pa_cons (pe_tup (pa_cons pe_str pa_nil)) pa_nil))))) (pe_op op_mod (pe_op op_fdiv (pv 0) pe_int) pe_int) (fun _ _=>rfl)) rfl)) pss_nil)
   (pss_cons (ps_if (pt_cmpR op_eq (pv 3) pe_int (nomark _)) (pss_one (ps_dput hu (pv 2) (pe_ix ix_list (pv 1) pe_int (fun _ _=>rfl)) (pe_dpop1 (pv 2) (pe_ix ix_list (pv 1) pe_int (fun _ _=>rfl)) ⟨rfl,rfl,rfl,rfl⟩) rfl)) pss_nil)
   (pss_one (ps_ret (pv 2)))))))))),?_⟩
  refine fun d hd=>?_
  have S0:=Same.upd (o:=.dK []) hd
  have d0:(upd H d (.dK [])) d = some (.dK []):=upd_same
  generalize hH1:upd H d (.dK []) = H1 at *
  refine ⟨_,rfl,lc,_,0,_,rfl,rfl,SqL.of (S0 _ _ hc),atI_nat (j:=0) rfl,_,rfl,_,_,rfl,rfl,⟨by decide,by decide⟩,_,_,rfl,rfl,(pos rfl),_,_,rfl,rfl,_,rfl,lc,_,1,_,rfl,rfl,SqL.of (S0 _ _ hc),atI_nat (j:=1) rfl,d0,two c0 c1 (.int (c / 8 % 1000 - 500)) (.str "ab"),rfl,(by show 2 ≤ 15;decide),?_⟩
  rw [two_disp h01]
  generalize c / 8 % 1000 - 500 = v0
  generalize hX:upd H1 d _ = H2
  have S2:Same H H2:=hX ▸ S0.put hd
  have d2:H2 d = some (.dK (two c0 c1 (.int v0) (.str "ab"))):=by rw [← hX];exact upd_same
  clear hX
  have hc2:=S2 _ _ hc
  have g0:atI [V.str c0,.str c1,.str c2] 0 = some (.str c0):=atI_nat (j:=0) rfl
  have g1:atI [V.str c0,.str c1,.str c2] 1 = some (.str c1):=atI_nat (j:=1) rfl
  have g2:atI [V.str c0,.str c1,.str c2] 2 = some (.str c2):=atI_nat (j:=2) rfl
  refine ⟨_,rfl,_,_,rfl,rfl,(pos rfl),?_⟩
  dsimp only
  have j0:=Int.emod_nonneg c (show (8:Int) ≠ 0 by decide)
  have j1:=Int.emod_lt_of_pos c (show (0:Int) < 8 by decide)
  obtain ⟨j,hj⟩:=Int.eq_ofNat_of_zero_le j0
  have j8:j < 8:=by omega
  have m0:=Int.emod_nonneg (c / 8) (show (4:Int) ≠ 0 by decide)
  have m1:=Int.emod_lt_of_pos (c / 8) (show (0:Int) < 4 by decide)
  obtain ⟨m,hm⟩:=Int.eq_ofNat_of_zero_le m0
  have m4:m < 4:=by omega
  have o0:=Int.emod_nonneg (c / 8) (show (2:Int) ≠ 0 by decide)
  have o1:=Int.emod_lt_of_pos (c / 8) (show (0:Int) < 2 by decide)
  rw [hj]
  match j,j8 with
  | 0,_=>
   refine ⟨_,rfl,_,_,rfl,rfl,_,rfl,iteB (by decide +kernel) ⟨Nat.zero_le _,fun l0 hl0=>⟨(by show 3 ≤ sizeLine;decide),fun l hl=>⟨_,rfl,l,_,0,_,rfl,rfl,SqL.of upd_same,atI_nat (j:=0) rfl,?_⟩⟩⟩⟩
   have T1:=Same.upd (o:=.lst []) hl0
   have e1:(upd H2 l0 (.lst [])) l0 = some (.lst []):=upd_same
   generalize upd H2 l0 (.lst []) = H3 at *
   have T2:=Same.upd (o:=.lst [.non,.ref l0,.str "row"]) hl
   exact q _ _ (S2.trans (T1.trans T2)) fun T hT=>.inl ⟨_,Is.non,by decide,rfl⟩
  | 1,_=>
   refine ⟨_,rfl,_,_,rfl,rfl,_,rfl,iteB (by decide +kernel) ⟨Nat.zero_le _,fun l0 hl0=>⟨(by show 3 ≤ sizeLine;decide),fun l hl=>⟨_,rfl,l,_,1,_,rfl,rfl,SqL.of upd_same,atI_nat (j:=1) rfl,?_⟩⟩⟩⟩
   have T1:=Same.upd (o:=.lst []) hl0
   have e1:(upd H2 l0 (.lst [])) l0 = some (.lst []):=upd_same
   generalize upd H2 l0 (.lst []) = H3 at *
   have T2:=Same.upd (o:=.lst [.non,.ref l0,.str "row"]) hl
   exact q _ _ (S2.trans (T1.trans T2)) fun T hT=>.inl ⟨_,Is.lst (T2 _ _ e1),by decide,rfl⟩
  | 2,_=>
   refine ⟨_,rfl,_,_,rfl,rfl,_,rfl,iteB (by decide +kernel) ⟨Nat.zero_le _,fun l0 hl0=>⟨(by show 3 ≤ sizeLine;decide),fun l hl=>⟨_,rfl,l,_,2,_,rfl,rfl,SqL.of upd_same,atI_nat (j:=2) rfl,?_⟩⟩⟩⟩
   have T1:=Same.upd (o:=.lst []) hl0
   have e1:(upd H2 l0 (.lst [])) l0 = some (.lst []):=upd_same
   generalize upd H2 l0 (.lst []) = H3 at *
   have T2:=Same.upd (o:=.lst [.non,.ref l0,.str "row"]) hl
   exact q _ _ (S2.trans (T1.trans T2)) fun T hT=>.inl ⟨_,Is.str,by decide,rfl⟩
  | 3,_=>
   refine ⟨_,rfl,_,_,rfl,rfl,_,rfl,iteC (by decide +kernel) ?_⟩
   refine ⟨_,rfl,rfl,_,rfl,iteB (by decide +kernel) ?_⟩
   refine ⟨_,rfl,_,rfl,lc,_,2,_,rfl,rfl,SqL.of hc2,g2,d,_,rfl,.inl ⟨_,.inr c2,d2,rfl,(by show 2 < sizeLine;decide),rfl⟩,?_⟩
   rw [putK_new _ (two_2 h02 h12)]
   generalize hX:upd H2 d _ = H3
   have S3:Same H H3:=hX ▸ S2.put hd
   have d3:H3 d = some (.dK (two c0 c1 (.int v0) (.str "ab") ++ [(.inr c2,.int 0)])):=by rw [← hX];exact upd_same
   refine ⟨_,rfl,rfl,_,rfl,iteC (by decide +kernel) ?_⟩
   refine ⟨_,rfl,rfl,_,rfl,iteC (by decide +kernel) ?_⟩
   refine ⟨_,rfl,rfl,_,rfl,iteC (by decide +kernel) ?_⟩
   refine ⟨_,rfl,rfl,_,rfl,iteC (by decide +kernel) ?_⟩
   exact ⟨_,rfl,q _ H3 S3 fun T hT=>row_len hT d3 (by show 3 ≠ 2;decide) (by show 3 ≤ 1000;decide)⟩
  | 4,_=>
   refine ⟨_,rfl,_,_,rfl,rfl,_,rfl,iteC (by decide +kernel) ?_⟩
   refine ⟨_,rfl,rfl,_,rfl,iteC (by decide +kernel) ?_⟩
   refine ⟨_,rfl,rfl,_,rfl,iteB (by decide +kernel) ?_⟩
   obtain ⟨ci,vi,r1,hi1,hi2,hi3⟩:∃ ci vi r1,atI [V.str c0,.str c1,.str c2] (c / 8 % 2) = some (.str ci)/\valV (two c0 c1 (.int v0) (.str "ab")) (.inr ci) = some vi/\dropK (two c0 c1 (.int v0) (.str "ab")) (.inr ci) = [r1]:=by
    by_cases e:c / 8 % 2 = 0
    ·rw [e];exact ⟨c0,_,_,g0,two_0,drop_0 h01⟩
    ·rw [show c / 8 % 2 = 1 by omega];exact ⟨c1,_,_,g1,two_1 h01,drop_1 h01⟩
   refine ⟨_,rfl,d,rfl,.inl ⟨_,.inl d2⟩,_,rfl,_,rfl,_,_,rfl,rfl,⟨by decide,by decide⟩,_,_,rfl,rfl,(pos rfl),lc,_,_,.str ci,rfl,rfl,SqL.of hc2,hi1,_,.inr ci,vi,d2,rfl,hi2,?_⟩
   rw [hi3]
   generalize hX:upd H2 d _ = H3
   have S3:Same H H3:=hX ▸ S2.put hd
   have d3:H3 d = some (.dK [r1]):=by rw [← hX];exact upd_same
   refine ⟨_,rfl,rfl,_,rfl,iteC (by decide +kernel) ?_⟩
   refine ⟨_,rfl,rfl,_,rfl,iteC (by decide +kernel) ?_⟩
   refine ⟨_,rfl,rfl,_,rfl,iteC (by decide +kernel) ?_⟩
   exact ⟨_,rfl,q _ H3 S3 fun T hT=>row_len hT d3 (by show 1 ≠ 2;decide) (by show 1 ≤ 1000;decide)⟩
  | 5,_=>
   refine ⟨_,rfl,_,_,rfl,rfl,_,rfl,iteC (by decide +kernel) ?_⟩
   refine ⟨_,rfl,rfl,_,rfl,iteC (by decide +kernel) ?_⟩
   refine ⟨_,rfl,rfl,_,rfl,iteC (by decide +kernel) ?_⟩
   refine ⟨_,rfl,rfl,_,rfl,iteB (by decide +kernel) ?_⟩
   refine ⟨(by show 1 ≤ sizeLine;decide),fun t0 ht0=>⟨(by show 4 ≤ sizeLine;decide),fun l hl=>?_⟩⟩
   have T1:=Same.upd (o:=.tup [.int 1]) ht0
   have e1:(upd H2 t0 (.tup [.int 1])) t0 = some (.tup [.int 1]):=upd_same
   generalize upd H2 t0 (.tup [.int 1]) = H3 at *
   have T2:=Same.upd (o:=.lst [.bl true,.non,.str "7",.ref t0]) hl
   have l4:(upd H3 l (.lst [.bl true,.non,.str "7",.ref t0])) l = some (.lst [.bl true,.non,.str "7",.ref t0]):=upd_same
   generalize upd H3 l (.lst [.bl true,.non,.str "7",.ref t0]) = H4 at *
   have T12:=T1.trans T2
   have dk:H d = none:=hd
   obtain ⟨v,n,p1,p2,p3⟩:∃ v n,atI [.bl true,.non,.str "7",.ref t0] (c / 8 % 4) = some v/\(∀ H',Same H4 H'\/(∀ b o,b ≠ d->H4 b = some o->H' b = some o)->Is K H' v n)/\((n == "int") && ("str" == "str")) = false:=by
    rw [hm]
    match m,m4 with
    | 0,_=>exact ⟨_,_,atI_nat (j:=0) rfl,fun H' hs=>Is.bl,by decide⟩
    | 1,_=>exact ⟨_,_,atI_nat (j:=1) rfl,fun H' hs=>Is.non,by decide⟩
    | 2,_=>exact ⟨_,_,atI_nat (j:=2) rfl,fun H' hs=>Is.str,by decide⟩
    | 3,_=>exact ⟨_,_,atI_nat (j:=3) rfl,fun H' hs=>Is.tup (hs.elim (fun s=>s _ _ (T2 _ _ e1)) (fun f=>f _ _ (fun e=>by rw [e,d2] at ht0;cases ht0) (T2 _ _ e1))),by decide⟩
   refine ⟨_,rfl,_,_,rfl,rfl,⟨by decide,by decide⟩,_,_,rfl,rfl,(pos rfl),l,_,_,v,rfl,rfl,SqL.of l4,p1,_,rfl,_,rfl,lc,_,0,_,rfl,rfl,SqL.of (T12 _ _ hc2),g0,d,_,rfl,.inl ⟨_,.inr c0,T12 _ _ d2,rfl,(by show 2 < sizeLine;decide),rfl⟩,?_⟩
   rw [put_0 h01]
   generalize hX:upd H4 d _ = H5
   have S5:Same H H5:=hX ▸ (S2.trans T12).put hd
   have d5:H5 d = some (.dK (two c0 c1 v (.str "ab"))):=by rw [← hX];exact upd_same
   have fr:∀ b o,b ≠ d->H4 b = some o->H5 b = some o:=fun b o nb hb=>by rw [← hX,upd_ne nb];exact hb
   refine ⟨_,rfl,rfl,_,rfl,iteC (by decide +kernel) ?_⟩
   refine ⟨_,rfl,rfl,_,rfl,iteC (by decide +kernel) ?_⟩
   refine ⟨_,rfl,q _ H5 S5 fun T hT=>?_⟩
   have R:=row_two (n:=n) (m:="str") h01 hT (S5 _ _ hw) (S5 _ _ ho) d5 (p2 H5 (.inr fr)) Is.str
   rw [p3] at R
   exact R
  | 6,_=>
   refine ⟨_,rfl,_,_,rfl,rfl,_,rfl,iteC (by decide +kernel) ?_⟩
   refine ⟨_,rfl,rfl,_,rfl,iteC (by decide +kernel) ?_⟩
   refine ⟨_,rfl,rfl,_,rfl,iteC (by decide +kernel) ?_⟩
   refine ⟨_,rfl,rfl,_,rfl,iteC (by decide +kernel) ?_⟩
   refine ⟨_,rfl,rfl,_,rfl,iteB (by decide +kernel) ?_⟩
   refine ⟨(by show 1 ≤ sizeLine;decide),fun t0 ht0=>⟨(by show 4 ≤ sizeLine;decide),fun l hl=>?_⟩⟩
   have T1:=Same.upd (o:=.tup [.str "a"]) ht0
   have e1:(upd H2 t0 (.tup [.str "a"])) t0 = some (.tup [.str "a"]):=upd_same
   generalize upd H2 t0 (.tup [.str "a"]) = H3 at *
   have T2:=Same.upd (o:=.lst [.int 7,.non,.bl true,.ref t0]) hl
   have l4:(upd H3 l (.lst [.int 7,.non,.bl true,.ref t0])) l = some (.lst [.int 7,.non,.bl true,.ref t0]):=upd_same
   generalize upd H3 l (.lst [.int 7,.non,.bl true,.ref t0]) = H4 at *
   have T12:=T1.trans T2
   have dk:H d = none:=hd
   obtain ⟨v,n,p1,p2,p3⟩:∃ v n,atI [.int 7,.non,.bl true,.ref t0] (c / 8 % 4) = some v/\(∀ H',Same H4 H'\/(∀ b o,b ≠ d->H4 b = some o->H' b = some o)->Is K H' v n)/\(("int" == "int") && (n == "str")) = false:=by
    rw [hm]
    match m,m4 with
    | 0,_=>exact ⟨_,_,atI_nat (j:=0) rfl,fun H' hs=>Is.int,by decide⟩
    | 1,_=>exact ⟨_,_,atI_nat (j:=1) rfl,fun H' hs=>Is.non,by decide⟩
    | 2,_=>exact ⟨_,_,atI_nat (j:=2) rfl,fun H' hs=>Is.bl,by decide⟩
    | 3,_=>exact ⟨_,_,atI_nat (j:=3) rfl,fun H' hs=>Is.tup (hs.elim (fun s=>s _ _ (T2 _ _ e1)) (fun f=>f _ _ (fun e=>by rw [e,d2] at ht0;cases ht0) (T2 _ _ e1))),by decide⟩
   refine ⟨_,rfl,_,_,rfl,rfl,⟨by decide,by decide⟩,_,_,rfl,rfl,(pos rfl),l,_,_,v,rfl,rfl,SqL.of l4,p1,_,rfl,_,rfl,lc,_,1,_,rfl,rfl,SqL.of (T12 _ _ hc2),g1,d,_,rfl,.inl ⟨_,.inr c1,T12 _ _ d2,rfl,(by show 2 < sizeLine;decide),rfl⟩,?_⟩
   rw [put_1 h01]
   generalize hX:upd H4 d _ = H5
   have S5:Same H H5:=hX ▸ (S2.trans T12).put hd
   have d5:H5 d = some (.dK (two c0 c1 (.int v0) v)):=by rw [← hX];exact upd_same
   have fr:∀ b o,b ≠ d->H4 b = some o->H5 b = some o:=fun b o nb hb=>by rw [← hX,upd_ne nb];exact hb
   refine ⟨_,rfl,rfl,_,rfl,iteC (by decide +kernel) ?_⟩
   refine ⟨_,rfl,q _ H5 S5 fun T hT=>?_⟩
   have R:=row_two (n:="int") (m:=n) h01 hT (S5 _ _ hw) (S5 _ _ ho) d5 Is.int (p2 H5 (.inr fr))
   rw [p3] at R
   exact R
  | 7,_=>
   refine ⟨_,rfl,_,_,rfl,rfl,_,rfl,iteC (by decide +kernel) ?_⟩
   refine ⟨_,rfl,rfl,_,rfl,iteC (by decide +kernel) ?_⟩
   refine ⟨_,rfl,rfl,_,rfl,iteC (by decide +kernel) ?_⟩
   refine ⟨_,rfl,rfl,_,rfl,iteC (by decide +kernel) ?_⟩
   refine ⟨_,rfl,rfl,_,rfl,iteC (by decide +kernel) ?_⟩
   refine ⟨_,rfl,rfl,_,rfl,iteB (by decide +kernel) ?_⟩
   refine ⟨_,rfl,d,rfl,.inl ⟨_,.inl d2⟩,_,rfl,lc,_,0,_,rfl,rfl,SqL.of hc2,g0,_,.inr c0,_,d2,rfl,two_0,?_⟩
   rw [drop_0 h01]
   generalize hX:upd H2 d _ = H3
   have S3:Same H H3:=hX ▸ S2.put hd
   have d3:H3 d = some (.dK [(.inr c1,.str "ab")]):=by rw [← hX];exact upd_same
   have hc3:=S3 _ _ hc
   refine ⟨_,rfl,_,rfl,lc,_,2,_,rfl,rfl,SqL.of hc3,g2,d,_,rfl,.inl ⟨_,.inr c2,d3,rfl,(by show 1 < sizeLine;decide),rfl⟩,?_⟩
   rw [putK_new _ (by rw [valV_neg (fun e=>h12 (by injection e))];rfl)]
   generalize hX':upd H3 d _ = H4
   have S4:Same H H4:=hX' ▸ S3.put hd
   have d4:H4 d = some (.dK ([(.inr c1,.str "ab")] ++ [(.inr c2,.int v0)])):=by rw [← hX'];exact upd_same
   refine ⟨_,rfl,q _ H4 S4 fun T hT=>.inr (.inl ⟨d,_,rfl,d4,(by show 2 ≤ 1000;decide),?_,rfl⟩)⟩
   rw [kvC2 hT]
   show sameK [.inr c1,.inr c2] [.inr c0,.inr c1] = false
   have e0:¬ (Sum.inr c0:Key) = Sum.inr c2:=fun e=>h02 (by injection e)
   have e1:¬ (Sum.inr c1:Key) = Sum.inr c2:=fun e=>h12 (by injection e)
   simp [sameK,e0,e1]
end
end My
namespace L2
open PySem PySem.Spec PyProof.Rows
theorem ne_dv {H:Hp} {n:Nat} {kds:List (Str × Dp)} {a b:Addr} (h1:Dv H (n + 1) (.dic kds) (.ref a)) (h2:Dv H (n + 1) (.dic kds) (.ref b)):∃ kvs kws:List (Key × V),Rd H a (.dK kvs)/\Rd H b (.dK kws)/\kvs.length = kws.length/\(∀ (k:Key) (v:V),(k,v) ∈ kws->∃ z,k = .inr z)/\(∀ (k:Key) (v:V),(k,v) ∈ kvs->∃ v',(k,v') ∈ kws/\Dq H n v v'):=by
 cases h1 with
 | @dic _ _ vs _ ha nd hl hh=>
  cases h2 with
  | @dic _ _ us _ hb nd' hl' hh'=>
   have ez:(kds.map (·.1)).length = kds.length:=List.length_map ..
   refine ⟨_,_,.inl ha,.inl hb,?_,fun k v h=>?_,fun k v h=>?_⟩
   ·rw [zw_len (by omega),zw_len (by omega)]
   ·obtain ⟨i,z,_,_,e⟩:=zw_mem h
    exact ⟨z,e⟩
   ·obtain ⟨i,z,e1,e2,rfl⟩:=zw_mem h
    have hi:i < kds.length:=by have:=(List.getElem?_eq_some_iff.mp e2).1;omega
    have hu:us[i]? = some us[i]:=List.getElem?_eq_getElem (by omega)
    refine ⟨us[i],List.mem_of_getElem? (i:=i) (by rw [zw_get,e1,hu]),?_⟩
    exact (hh i v _ e2 (List.getElem?_eq_getElem hi)).dq (hh' i _ _ hu (List.getElem?_eq_getElem hi))
end L2
namespace My
open PySem L2 PyProof.Rows
seal L2.PE L2.PT L2.PW L2.PS L2.PSs L2.PA L2.PI L2.PG L2.PGs L2.OpR L2.UnR L2.CallR L2.IxR L2.SlR L2.MtR L2.PIf L2.PO L2.MtM L2.PC
theorem rK_zw:∀ row:Rw,rK row = (row.map (·.1)).zipWith (fun z v=>((Sum.inr z:Key),v)) (row.map (·.2))
 | []=>rfl
 | c :: r=>by
  unfold rK
  rw [List.map_cons,List.map_cons,List.map_cons,List.zipWith_cons_cons]
  exact congrArg _ (rK_zw r)
theorem row_dv {H:Hp} {r:Addr} {row:Rw} (ok:RwOk row) (h:H r = some (.dK (rK row))):Dv H 1 (rD row) (.ref r):=by
 have e0:(row.map fun c=>(c.1,Dp.fl c.2)).map (·.1) = row.map (·.1):=by rw [List.map_map];rfl
 refine Dv.dic (vs:=row.map (·.2)) ?_ ?_ ?_ fun i v k h1 h2=>?_
 ·rw [h,rK_zw,e0]
 ·rw [e0]
  exact ok.1
 ·rw [List.length_map,List.length_map]
 ·rw [List.getElem?_map] at h1 h2
  cases hc:row[i]? with
  | none=>rw [hc] at h1;cases h1
  | some c=>
   rw [hc] at h1 h2
   cases h1
   cases h2
   exact .fl (ok.2 c (List.mem_of_getElem? hc))
def rowsD (rows:List Rw):Dp:=.lst (rows.map rD)
def pcD (pc:Pc):List (Str × Dp):=pc.map fun t=>(t.1,rowsD t.2)
theorem rows_dv {H:Hp} {l:Addr} {rows:List Rw} (ok:∀ row ∈ rows,RwOk row) (h:RowsAt H l rows):Dv H 2 (rowsD rows) (.ref l):=by
 obtain ⟨rs,a,b,c⟩:=h
 refine Dv.lst a (by rw [List.length_map,List.length_map,b]) fun i v d h1 h2=>?_
 rw [List.getElem?_map] at h1 h2
 cases hr:rs[i]? with
 | none=>rw [hr] at h1;cases h1
 | some r=>
  cases hw:rows[i]? with
  | none=>rw [hw] at h2;cases h2
  | some row=>
   rw [hr] at h1
   rw [hw] at h2
   cases h1
   cases h2
   exact row_dv (ok row (List.mem_of_getElem? hw)) (c i r row hr hw)
theorem pc_dv {H:Hp} {p:Addr} {pc:Pc} (ok:PcOk pc) (h:PcAt H p pc):Dv H 3 (.dic (pcD pc)) (.ref p):=by
 obtain ⟨ls,a,b,c⟩:=h
 have e0:(pcD pc).map (·.1) = pc.map (·.1):=by unfold pcD;rw [List.map_map];rfl
 refine Dv.dic (vs:=ls.map V.ref) (by rw [a,e0];rfl) (by rw [e0];exact ok.nd) (by unfold pcD;rw [List.length_map,List.length_map,b]) fun i v k h1 h2=>?_
 unfold pcD at h2
 rw [List.getElem?_map] at h1 h2
 cases hl:ls[i]? with
 | none=>rw [hl] at h1;cases h1
 | some l=>
  cases ht:pc[i]? with
  | none=>rw [ht] at h2;cases h2
  | some t=>
   rw [hl] at h1
   rw [ht] at h2
   cases h1
   cases h2
   exact rows_dv (ok.rw_ t (List.mem_of_getElem? ht)) (c i l t hl ht)
theorem cutS {G:Prop} {T:Addr->Hp->Prop} (R:Addr->Hp->Prop) (h:(∀ l H8,R l H8->T l H8)->G) (fin:∀ l H8,R l H8->T l H8):G:=h fin
def srtB (b:Bool):Str × Str:=if b then ("many","twin") else ("twin","many")
structure Sht where
 z0:Str
 z1:Str
 z2:Str
 z3:Str
 b:Bool
def Sht.ls (s:Sht):List (Str × Str):=[(s.z0,"head"),(s.z1,(srtB s.b).1),(s.z2,(srtB s.b).2)]
def ShL (H:Hp) (l:Addr) (s:Sht):Prop:=∃ a0 a1 a2 a3,H l = some (.lst [.ref a0,.ref a1,.ref a2,.ref a3])/\H a0 = some (.tup [.str s.z0,.str "head"])/\H a1 = some (.tup [.str s.z1,.str (srtB s.b).1])/\H a2 = some (.tup [.str s.z2,.str (srtB s.b).2])/\H a3 = some (.tup [.str s.z3,.str "many"])
theorem ShL.same {H H':Hp} {l:Addr} {s:Sht} (h:ShL H l s) (e:Same H H'):ShL H' l s:=let ⟨a0,a1,a2,a3,h0,h1,h2,h3,h4⟩:=h;⟨a0,a1,a2,a3,e _ _ h0,e _ _ h1,e _ _ h2,e _ _ h3,e _ _ h4⟩
def ShN (s:Sht):Prop:=[s.z0,s.z1,s.z2,s.z3].Nodup
def spShs (K:PySem.W.Frag):Sp:=fun vs H Q _=>∃ (a:Addr) (ns:List Int),vs = [.ref a]/\SqL K H a (ns.map V.int)/\∀ l sh H',Same H H'->ShL H' l sh->ShN sh->Q (.ref l) H'
section
variable {P:Program} {w:World} {K:PySem.W.Frag} {mg:Str->Option Value} {base:Heap}
theorem ok_shs {f fC fN:Addr} {fd fdC fdN:FuncData} (F:Fun K "_law_sheets" "_law_sheets" (top 44) f fd) (B:Bl mg) (DC:Df K mg "_law_cell" (top 39) fC fdC) (DN:Df K mg "_law_names" (top 40) fN fdN):FnOk P w K mg base CX0 2 f fd ["_law_script"] (spShs K):=by
 have sc:FnScope ["_law_script","_law_names_here","_law_sorts"] ["_law_script"] (defScope (top 44)):=⟨rfl,rfl,rfl,by decide +kernel,rfl,by decide +kernel,by decide +kernel⟩
 have GC:FnOk P w K mg base CX0 1 fC fdC ["_law_script","_law_k"] (spCel K):=ok_cel DC.fn B
 have bC:=DC.fn.binds (ps:=["_law_script","_law_k"]) fun _ _ _ _ _ _ us hl=>by obtain ⟨v0,v1,rfl⟩:=L2.ln2 hl;rfl
 have GN:FnOk P w K mg base CX0 1 fN fdN ["_law_cell_here","_law_many"] spNames:=ok_names DN.fn B
 have bN:=DN.fn.binds (ps:=["_law_cell_here","_law_many"]) fun _ _ _ _ _ _ us hl=>by obtain ⟨v0,v1,rfl⟩:=L2.ln2 hl;rfl
 refine F.ok sc (fun vs H Q E h=>?_) (fun cdv A outer s H vs Q E hr h=>?_)
 ·obtain ⟨a,ns,rfl,_⟩:=h
  rfl
 ·obtain ⟨a,ns,rfl,hS,q⟩:=h
  have nd3:(["_law_t","_law_names_here","_law_sorts"]:List Str).Nodup:=by decide +kernel
  refine ⟨_,pss_cons (ps_set (i:=1) sc.nd rfl (Or.inr rfl) (pe_call GN hr (by rfl) DN.mg DN.fn.kp bN .nil pass0 (pa_cons (pe_call GC hr (by rfl) DC.mg DC.fn.kp bC .nil pass0 (pa_cons (pv 0) (pa_cons pe_int pa_nil))) (pa_cons pe_int pa_nil))))
   (pss_cons (ps_set (i:=2) sc.nd rfl (Or.inr rfl) (pe_lst (pa_cons pe_str (pa_cons pe_str (pa_cons pe_str pa_nil)))))
   (pss_cons (ps_if (pt_cmpR op_eq (pe_op op_mod (pe_op op_fdiv (pe_call GC hr (by rfl) DC.mg DC.fn.kp bC .nil pass0 (pa_cons (pv 0) (pa_cons pe_int pa_nil))) pe_int) pe_int) pe_int (nomark _)) (pss_one (ps_set (i:=2) sc.nd rfl (Or.inr rfl) (pe_lst (pa_cons pe_str (pa_cons pe_str (pa_cons pe_str pa_nil)))))) pss_nil)
   (pss_one (ps_ret (pe_op op_cat (pe_comp (osc:=defScope (top 44)) (N0:=["_law_script","_law_names_here","_law_sorts"]) (xs:=["_law_t"]) (fr:=[1,2]) ⟨rfl,by decide +kernel,by decide +kernel,by decide +kernel,(fun j hj=>by
       have e:j = 1\/j = 2:=by simpa using hj
       rcases e with rfl | rfl
       ·exact ⟨_,rfl,by decide +kernel⟩
       ·exact ⟨_,rfl,by decide +kernel⟩),by decide +kernel⟩ rfl rfl rfl (pi_range1 rfl B.range (pa_cons pe_int pa_nil))
     (fun s H fp=>pg_name (i:=0) nd3 rfl (Or.inl rfl)) (fun s H fp=>pif_nil)
     (fun s H fp=>pe_tup (pa_cons (pe_ix (r:=rIxL K) ix_list (pv 1) (pv 0) (fun _ _=>rfl)) (pa_cons (pe_ix (r:=rIxL K) ix_list (pv 2) (pv 0) (fun _ _=>rfl)) pa_nil))))
    (pe_lst (pa_cons (pe_tup (pa_cons (pe_ix ix_list (pv 1) pe_int (fun _ _=>rfl)) (pa_cons pe_str pa_nil))) pa_nil))))))),?_⟩
  refine ⟨_,rfl,a,ns,0,rfl,hS,by decide,fun c=>⟨c,4,rfl,by decide,by decide,fun l1 zs H1 s1 hl1 hzl hnd _=>?_⟩⟩
  obtain ⟨z0,z1,z2,z3,rfl⟩:∃ z0 z1 z2 z3,zs = [z0,z1,z2,z3]:=by
   match zs,hzl with
   | [z0,z1,z2,z3],_=>exact ⟨z0,z1,z2,z3,rfl⟩
  have l11:=cut_sub _ _ hl1
  refine ⟨(by show 3 ≤ sizeLine;decide),fun l2 hl2=>?_⟩
  have T2:=Same.upd (o:=.lst [.str "head",.str "twin",.str "many"]) hl2
  have l22:(upd H1 l2 (.lst [.str "head",.str "twin",.str "many"])) l2 = some (.lst [.str "head",.str "twin",.str "many"]):=upd_same
  generalize upd H1 l2 (.lst [.str "head",.str "twin",.str "many"]) = H2 at *
  refine ⟨_,rfl,a,ns,0,rfl,(s1.trans T2).seq hS,by decide,fun c'=>⟨_,_,rfl,rfl,⟨by decide,by decide⟩,_,_,rfl,rfl,(pos rfl),rfl,_,rfl,?_⟩⟩
  apply cutS (fun l H8=>Same H H8/\H8 l1 = some (.lst [.str z0,.str z1,.str z2,.str z3])/\∃ b,H8 l = some (.lst [.str "head",.str (srtB b).1,.str (srtB b).2]))
  ·intro fin
   refine ite2 (fun _=>?_) (fun _=>?_)
   ·refine ⟨(by show 3 ≤ sizeLine;decide),fun l3 hl3=>?_⟩
    have T3:=Same.upd (o:=.lst [.str "head",.str "many",.str "twin"]) hl3
    have e3:(upd H2 l3 (.lst [.str "head",.str "many",.str "twin"])) l3 = some (.lst [.str "head",.str "many",.str "twin"]):=upd_same
    generalize upd H2 l3 (.lst [.str "head",.str "many",.str "twin"]) = H3 at *
    exact fin l3 H3 ⟨s1.trans (T2.trans T3),(T2.trans T3) _ _ l11,true,e3⟩
   ·exact fin l2 H2 ⟨s1.trans T2,T2 _ _ l11,false,l22⟩
  rintro l H8 ⟨S8,n8,b,hb⟩
  refine ⟨_,rfl,(by decide),(by decide),fun D hD=>?_⟩
  have zget:∀ i < 3,∃ z,atI [V.str z0,.str z1,.str z2,.str z3] ((i:Nat):Int) = some (.str z)/\[z0,z1,z2][i]? = some z:=fun i hi=>by
   match i,hi with
   | 0,_=>exact ⟨z0,atI_nat rfl,rfl⟩
   | 1,_=>exact ⟨z1,atI_nat rfl,rfl⟩
   | 2,_=>exact ⟨z2,atI_nat rfl,rfl⟩
  have sget:∀ i < 3,∃ z,atI [V.str "head",.str (srtB b).1,.str (srtB b).2] ((i:Nat):Int) = some (.str z)/\(["head",(srtB b).1,(srtB b).2]:List Str)[i]? = some z:=fun i hi=>by
   match i,hi with
   | 0,_=>exact ⟨_,atI_nat rfl,rfl⟩
   | 1,_=>exact ⟨_,atI_nat rfl,rfl⟩
   | 2,_=>exact ⟨_,atI_nat rfl,rfl⟩
  refine compW_idx 3 (fun i ys σ' Hc=>(∃ t,σ' = [t,some (.ref l1),some (.ref l)])/\Same H8 Hc/\∃ qs:List Addr,ys = qs.map V.ref/\∀ (j:Nat) (p:Addr) (z so:Str),qs[j]? = some p->[z0,z1,z2][j]? = some z->(["head",(srtB b).1,(srtB b).2]:List Str)[j]? = some so->p ≠ D/\Hc p = some (.tup [.str z,.str so])) (by rw [sizeLine_eq];decide) ⟨⟨none,rfl⟩,Same.upd hD,[],rfl,fun j p z so h=>nomatch h⟩ upd_same ?_ ?_
  ·rintro i σ' Hc ys hi ⟨⟨t,rfl⟩,sm,qs,rfl,hqs⟩ hyl hD'
   rw [List.length_map] at hyl
   refine ⟨hi,?_⟩
   rintro y H'' ⟨rfl,rfl⟩
   obtain ⟨z,g1,g2⟩:=zget i hi
   obtain ⟨so,g3,g4⟩:=sget i hi
   rw [Int.zero_add]
   refine ⟨_,rfl,_,rfl,l1,_,_,.str z,rfl,rfl,SqL.of (sm _ _ n8),g1,_,rfl,_,rfl,l,_,_,.str so,rfl,rfl,SqL.of (sm _ _ hb),g3,(by show 2 ≤ sizeLine;decide),fun p hp=>?_⟩
   have T:=Same.upd (o:=.tup [.str z,.str so]) hp
   have pD:p ≠ D:=fun e=>by rw [e,hD'] at hp;cases hp
   refine ⟨T _ _ hD',⟨_,rfl⟩,(sm.trans T).put hD,qs ++ [p],by rw [List.map_append];rfl,fun j p' z' so' h1 h2 h3=>?_⟩
   by_cases hj:j < qs.length
   ·rw [List.getElem?_append_left hj] at h1
    obtain ⟨e1,e2⟩:=hqs j p' z' so' h1 h2 h3
    exact ⟨e1,by rw [upd_ne e1];exact T _ _ e2⟩
   ·have hj':j = qs.length:=by
     have:=(List.getElem?_eq_some_iff.mp h1).1
     rw [List.length_append] at this
     simp at this
     omega
    subst hj'
    rw [List.getElem?_append_right (Nat.le_refl _),Nat.sub_self] at h1
    cases h1
    rw [hyl,g2] at h2
    rw [hyl,g4] at h3
    cases h2
    cases h3
    exact ⟨pD,by rw [upd_ne pD];exact upd_same⟩
  ·rintro σ' Hc ys ⟨_,sm,qs,rfl,hqs⟩ hDn hyl
   rw [List.length_map] at hyl
   obtain ⟨a0,a1,a2,rfl⟩:∃ a0 a1 a2,qs = [a0,a1,a2]:=by
    match qs,hyl with
    | [a0,a1,a2],_=>exact ⟨a0,a1,a2,rfl⟩
   have b0:=(hqs 0 a0 _ _ rfl rfl rfl).2
   have b1:=(hqs 1 a1 _ _ rfl rfl rfl).2
   have b2:=(hqs 2 a2 _ _ rfl rfl rfl).2
   refine ⟨Nat.le_refl _,_,rfl,l1,_,3,_,rfl,rfl,SqL.of (sm _ _ n8),atI_nat (j:=3) rfl,(by show 2 ≤ sizeLine;decide),fun a3 ha3=>⟨(by show 1 ≤ sizeLine;decide),fun l5 hl5=>?_⟩⟩
   have T5:=Same.upd (o:=.tup [.str z3,.str "many"]) ha3
   have e5:(upd Hc a3 (.tup [.str z3,.str "many"])) a3 = some (.tup [.str z3,.str "many"]):=upd_same
   generalize upd Hc a3 (.tup [.str z3,.str "many"]) = H5 at *
   have T6:=Same.upd (o:=.lst [.ref a3]) hl5
   have e6:(upd H5 l5 (.lst [.ref a3])) l5 = some (.lst [.ref a3]):=upd_same
   generalize upd H5 l5 (.lst [.ref a3]) = H6 at *
   have T56:=T5.trans T6
   refine ⟨D,l5,_,_,rfl,rfl,T56 _ _ hDn,e6,(by show 4 ≤ sizeLine;decide),fun l7 hl7=>?_⟩
   have T7:=Same.upd (o:=.lst ([V.ref a0,.ref a1,.ref a2] ++ [.ref a3])) hl7
   have T:=T56.trans T7
   exact q l7 ⟨z0,z1,z2,z3,b⟩ _ (S8.trans (sm.trans T)) ⟨a0,a1,a2,a3,upd_same,T _ _ b0,T _ _ b1,T _ _ b2,(T6.trans T7) _ _ e5⟩ hnd
end
end My
namespace My
open PySem L2 PyProof.Rows
seal L2.PE L2.PT L2.PW L2.PS L2.PSs L2.PA L2.PI L2.PG L2.PGs L2.OpR L2.UnR L2.CallR L2.IxR L2.SlR L2.MtR L2.PIf L2.PO L2.MtM L2.PC
def rowT (c0 c1:Str) (i:Int) (z:Str):Rw:=[(c0,.int i),(c1,.str z)]
theorem rowT_ok {c0 c1:Str} (h:c0 ≠ c1) (i:Int) (z:Str):RwOk (rowT c0 c1 i z):=by
 refine ⟨List.nodup_cons.mpr ⟨fun hm=>h (List.mem_singleton.mp hm),List.nodup_cons.mpr ⟨(fun h=>nomatch h),List.nodup_nil⟩⟩,fun c hc=>?_⟩
 rcases List.mem_cons.mp hc with rfl | hc
 ·rfl
 ·rw [List.mem_singleton.mp hc];rfl
def exs (t:Nat):Str:=⟨(List.replicate t 120).toArray⟩
def rowsT (so c0 c1:Str) (t:Nat):List Rw:=rowT c0 c1 ((t:Int) - 1) (exs t) :: (if so = "many" then [rowT c0 c1 9 ""] else [])
def pcT14 (c0 c1:Str) (ls:List (Str × Str)):Pc:=ls.mapIdx fun t s=>(s.1,rowsT s.2 c0 c1 t)
theorem pcT14_names (c0 c1:Str) (ls:List (Str × Str)):(pcT14 c0 c1 ls).map (·.1) = ls.map (·.1):=by
 unfold pcT14
 rw [map_idx]
 apply List.ext_getElem?
 intro i
 rw [List.getElem?_mapIdx,List.getElem?_map]
def ColL (H:Hp) (l:Addr) (c0 c1 c2:Str):Prop:=H l = some (.lst [.str c0,.str c1,.str c2])/\c0 ≠ c1/\c0 ≠ c2/\c1 ≠ c2
theorem ColL.same {H H':Hp} {l:Addr} {c0 c1 c2:Str} (h:ColL H l c0 c1 c2) (s:Same H H'):ColL H' l c0 c1 c2:=⟨s _ _ h.1,h.2⟩
def spPc14:Sp:=fun vs H Q _=>∃ (l lc:Addr) (sh:Sht) (c0 c1 c2:Str),vs = [.ref l,.ref lc]/\ShL H l sh/\ShN sh/\ColL H lc c0 c1 c2/\∀ p H',Same H H'->PcAt (cut H H') p (pcT14 c0 c1 sh.ls)->Q (.ref p) H'
section
variable {P:Program} {w:World} {K:PySem.W.Frag} {mg:Str->Option Value} {base:Heap}
theorem ok_pc14 {f:Addr} {fd:FuncData} (F:Fun K "_law_piece" "_law_piece" (top 48) f fd) (B:Bl mg):FnOk P w K mg base CX0 1 f fd ["_law_sheets_here","_law_columns"] spPc14:=by
 have sc:FnScope ["_law_sheets_here","_law_columns","_law_piece_here","_law_t"] ["_law_sheets_here","_law_columns"] (defScope (top 48)):=⟨rfl,rfl,rfl,by decide +kernel,rfl,by decide +kernel,by decide +kernel⟩
 refine F.ok sc (fun vs H Q E h=>?_) (fun cdv A outer s H vs Q E hr h=>?_)
 ·obtain ⟨l,lc,sh,c0,c1,c2,rfl,_⟩:=h
  rfl
 ·obtain ⟨l,lc,sh,c0,c1,c2,rfl,hsh,hn,⟨hc,h01,h02,h12⟩,q⟩:=h
  have hu:(A.deeper (envOfC "_law_piece" (defScope (top 48)) s.heap.objs.size f cdv)).units + 1 < cLine:=hu_of hr
  refine ⟨_,pss_cons (ps_set (i:=2) sc.nd rfl (Or.inl rfl) pe_dnewK)
   (pss_cons (ps_for PassesOwn.never rfl (pi_range1 rfl B.range (pa_cons pe_int pa_nil)) (pg_name (i:=3) sc.nd rfl (Or.inl rfl))
    (pss_cons (ps_dput hu (pv 2) (pe_ix ix_tup (pe_ix ix_list (pv 0) (pv 3) (fun _ _=>rfl)) pe_int (fun _ _=>rfl)) (pe_lst (pa_cons (pe_disp (pps_cons (pe_ix ix_list (pv 1) pe_int (fun _ _=>rfl)) (pe_op op_sub (pv 3) pe_int) (pps_cons (pe_ix ix_list (pv 1) pe_int (fun _ _=>rfl)) (pe_op op_mulSN pe_str (pv 3)) pps_nil)) rfl rfl (by simp) (by decide)) pa_nil)) rfl)
    (pss_one (ps_if (pt_cmpR op_eq (pe_ix ix_tup (pe_ix ix_list (pv 0) (pv 3) (fun _ _=>rfl)) pe_int (fun _ _=>rfl)) pe_str (nomark _))
     (pss_one (ps_expr (pe_bm PySem.F.plainAttrs_list PySem.F.slot_list_append PySem.F.type_list_append mt_app (pe_dget hu (pv 2) (pe_ix ix_tup (pe_ix ix_list (pv 0) (pv 3) (fun _ _=>rfl)) pe_int (fun _ _=>rfl)) (fun _ _=>rfl)) (pa_cons (pe_disp (pps_cons (pe_ix ix_list (pv 1) pe_int (fun _ _=>rfl)) pe_int (pps_cons (pe_ix ix_list (pv 1) pe_int (fun _ _=>rfl)) pe_str pps_nil)) rfl rfl (by simp) (by decide)) pa_nil)))) pss_nil))))
   (pss_one (ps_ret (pv 2)))),?_⟩
  obtain ⟨a0,a1,a2,a3,hl,b0,b1,b2,b3⟩:=hsh
  refine fun p hp=>?_
  have S0:=Same.upd (o:=.dK []) hp
  have d0:(upd H p (.dK [])) p = some (.dK []):=upd_same
  generalize upd H p (.dK []) = H1 at *
  have get:∀ i < 3,∃ (ai:Addr) (z so:Str),atI [V.ref a0,.ref a1,.ref a2,.ref a3] ((i:Nat):Int) = some (.ref ai)/\H ai = some (.tup [.str z,.str so])/\sh.ls[i]? = some (z,so):=fun i hi=>by
   match i,hi with
   | 0,_=>exact ⟨a0,_,_,atI_nat rfl,b0,rfl⟩
   | 1,_=>exact ⟨a1,_,_,atI_nat rfl,b1,rfl⟩
   | 2,_=>exact ⟨a2,_,_,atI_nat rfl,b2,rfl⟩
  have ls3:sh.ls.length = 3:=rfl
  have lnd:(sh.ls.map (·.1)).Nodup:=by
   have:[sh.z0,sh.z1,sh.z2,sh.z3].Nodup:=hn
   exact this.sublist (by simp [Sht.ls])
  have pcg:∀ i z so,sh.ls[i]? = some (z,so)->(pcT14 c0 c1 sh.ls)[i]? = some (z,rowsT so c0 c1 i):=fun i z so h=>by unfold pcT14;rw [List.getElem?_mapIdx,h];rfl
  have g0:atI [V.str c0,.str c1,.str c2] 0 = some (.str c0):=atI_nat (j:=0) rfl
  have g1:atI [V.str c0,.str c1,.str c2] 1 = some (.str c1):=atI_nat (j:=1) rfl
  refine ⟨_,rfl,(by decide),(by decide),for_range (fun i σ H2=>Same H H2/\(∃ u,σ = [some (.ref l),some (.ref lc),some (.ref p),u])/\∃ ls:List Addr,H2 p = some (.dK (zK ((sh.ls.map (·.1)).take i) ls))/\ls.length = i/\∀ (j:Nat) (l:Addr) (t:Str × List Rw),ls[j]? = some l->(pcT14 c0 c1 sh.ls)[j]? = some t->RowsAt (del p (cut H H2)) l t.2) ⟨S0,⟨_,rfl⟩,[],d0,rfl,fun j l t h=>nomatch h⟩ ?_ ?_⟩
  ·rintro i σ H2 hi ⟨sm,⟨u,rfl⟩,ls,p2,ll,hls⟩
   have hi3:i < 3:=hi
   obtain ⟨ai,z,so,e1,e2,e3⟩:=get i hi3
   rw [Int.zero_add]
   refine fun d hd=>?_
   have hd0:H d = none:=none_of sm hd
   have ndp:d ≠ p:=fun e=>by rw [e,p2] at hd;cases hd
   have T3:=Same.upd (o:=.dK []) hd
   have d3:(upd H2 d (.dK [])) d = some (.dK []):=upd_same
   generalize upd H2 d (.dK []) = H3 at *
   have S3:=sm.trans T3
   refine ⟨_,rfl,lc,_,0,_,rfl,rfl,SqL.of (S3 _ _ hc),g0,_,rfl,_,_,rfl,rfl,_,rfl,lc,_,1,_,rfl,rfl,SqL.of (S3 _ _ hc),g1,_,rfl,("x":Str),i,rfl,rfl,(by omega),(by decide +kernel),(by decide +kernel),fun r hr'=>?_⟩
   have er:r = exs i:=str_ext (by rw [hr',show ("x":Str).cps.toList = [120] from by decide +kernel];simp [exs])
   subst er
   refine ⟨d3,two c0 c1 (.int ((i:Int) - 1)) (.str (exs i)),rfl,(by show 2 ≤ 15;decide),?_⟩
   rw [two_disp h01]
   generalize hX4:upd H3 d _ = H4
   have S4:Same H2 H4:=hX4 ▸ T3.put hd
   have d4:H4 d = some (.dK (two c0 c1 (.int ((i:Int) - 1)) (.str (exs i)))):=by rw [← hX4];exact upd_same
   clear hX4
   refine ⟨(by show 1 ≤ sizeLine;decide),fun D hD=>?_⟩
   have T5:=Same.upd (o:=.lst [V.ref d]) hD
   have D5:(upd H4 D (.lst [V.ref d])) D = some (.lst [V.ref d]):=upd_same
   generalize upd H4 D (.lst [V.ref d]) = H5 at *
   have S5:=sm.trans (S4.trans T5)
   have hD0:H D = none:=none_of (sm.trans S4) hD
   have nDp:D ≠ p:=fun e=>by rw [e,S4 _ _ p2] at hD;cases hD
   have nDd:D ≠ d:=fun e=>by rw [e,d4] at hD;cases hD
   have zl:(zK ((sh.ls.map (·.1)).take i) ls).length = i:=by rw [zK_len (by rw [List.length_take,List.length_map,ls3];omega),List.length_take,List.length_map,ls3];omega
   have zi:(sh.ls.map (·.1))[i]? = some z:=by rw [List.getElem?_map,e3];rfl
   have znew:z ∉ (sh.ls.map (·.1)).take i:=fun hm=>by
    have nd:=lnd
    have hlt:i < (sh.ls.map (·.1)).length:=by rw [List.length_map,ls3];exact hi3
    rw [← List.take_append_drop i (sh.ls.map (·.1)),List.nodup_append] at nd
    refine nd.2.2 z hm z ?_ rfl
    rw [List.drop_eq_getElem_cons hlt]
    rw [List.getElem?_eq_getElem hlt] at zi
    injection zi with zi
    rw [zi]
    exact List.mem_cons_self
   have p5:=(S4.trans T5) _ _ p2
   refine ⟨_,rfl,_,rfl,_,rfl,l,_,_,.ref ai,rfl,rfl,SqL.of (S5 _ _ hl),e1,ai,_,0,_,rfl,rfl,SqT.of (S5 _ _ e2),atI_nat (j:=0) rfl,p,_,rfl,.inl ⟨_,.inr z,p5,rfl,(by rw [zl,sizeLine_eq];omega),rfl⟩,?_⟩
   rw [putK_new _ (zK_new znew),← zK_snoc (by rw [List.length_take,List.length_map,ls3];omega)]
   have etk:(sh.ls.map (·.1)).take i ++ [z] = (sh.ls.map (·.1)).take (i + 1):=by rw [List.take_succ,zi];rfl
   rw [etk]
   have mv6:∀ b o,del p (cut H H2) b = some o->del p (cut H (upd H5 p (.dK (zK ((sh.ls.map (·.1)).take (i + 1)) (ls ++ [D]))))) b = some o:=fun b o e=>by
    rw [cut_put hp,del_upd]
    exact del_up (cut_up (S4.trans T5)) _ _ e
   have S6:Same H (upd H5 p (.dK (zK ((sh.ls.map (·.1)).take (i + 1)) (ls ++ [D])))):=S5.put hp
   have p6:(upd H5 p (.dK (zK ((sh.ls.map (·.1)).take (i + 1)) (ls ++ [D])))) p = some (.dK (zK ((sh.ls.map (·.1)).take (i + 1)) (ls ++ [D]))):=upd_same
   have D6:(upd H5 p (.dK (zK ((sh.ls.map (·.1)).take (i + 1)) (ls ++ [D])))) D = some (.lst [V.ref d]):=by rw [upd_ne nDp];exact D5
   have d6:(upd H5 p (.dK (zK ((sh.ls.map (·.1)).take (i + 1)) (ls ++ [D])))) d = some (.dK (two c0 c1 (.int ((i:Int) - 1)) (.str (exs i)))):=by rw [upd_ne ndp];exact T5 _ _ d4
   generalize upd H5 p (.dK (zK ((sh.ls.map (·.1)).take (i + 1)) (ls ++ [D]))) = H6 at *
   have fin:∀ H8,Same H H8->H8 p = some (.dK (zK ((sh.ls.map (·.1)).take (i + 1)) (ls ++ [D])))->(∀ b o,del p (cut H H2) b = some o->del p (cut H H8) b = some o)->RowsAt (del p (cut H H8)) D (rowsT so c0 c1 i)->(Same H H8/\(∃ u,[some (V.ref l),some (.ref lc),some (.ref p),some (.int (i:Nat))] = [some (.ref l),some (.ref lc),some (.ref p),u])/\∃ ls:List Addr,H8 p = some (.dK (zK ((sh.ls.map (·.1)).take (i + 1)) ls))/\ls.length = i + 1/\∀ (j:Nat) (l:Addr) (t:Str × List Rw),ls[j]? = some l->(pcT14 c0 c1 sh.ls)[j]? = some t->RowsAt (del p (cut H H8)) l t.2):=by
    intro H8 s8 p8 m8 r8
    refine ⟨s8,⟨_,rfl⟩,ls ++ [D],p8,by rw [List.length_append,ll];rfl,fun j l' t h1 h2=>?_⟩
    by_cases hj:j < ls.length
    ·rw [List.getElem?_append_left hj] at h1
     exact (hls j l' t h1 h2).same m8
    ·have hj':j = ls.length:=by
      have:=(List.getElem?_eq_some_iff.mp h1).1
      rw [List.length_append] at this
      simp at this
      omega
     subst hj'
     rw [List.getElem?_append_right (Nat.le_refl _),Nat.sub_self] at h1
     cases h1
     rw [ll,pcg i z so e3] at h2
     cases h2
     exact r8
   have atD:∀ {H8:Hp} {b:Addr} {o:HO},H b = none->b ≠ p->H8 b = some o->del p (cut H H8) b = some o:=fun h1 h2 h3=>del_at h2 (cut_at h1 h3)
   refine ⟨_,rfl,_,rfl,l,_,_,.ref ai,rfl,rfl,SqL.of (S6 _ _ hl),e1,ai,_,1,.str so,rfl,rfl,SqT.of (S6 _ _ e2),atI_nat (j:=1) rfl,rfl,_,rfl,?_⟩
   by_cases hm:so = "many"
   ·refine iteB (by rw [hm];decide +kernel) ?_
    have gp:DGet H6 p (.str z) (some (.ref D)):=.inl ⟨_,.inr z,.inl p6,rfl,?_⟩
    rotate_left
    ·symm
     refine zw_val (i:=i) (vs:=(ls ++ [D]).map V.ref) (lnd.sublist (List.take_sublist _ _)) ?_ ?_
     ·rw [List.getElem?_take,if_pos (by omega)]
      exact zi
     ·rw [List.getElem?_map,List.getElem?_append_right (by omega),ll,Nat.sub_self]
      rfl
    refine ⟨_,rfl,_,rfl,_,rfl,l,_,_,.ref ai,rfl,rfl,SqL.of (S6 _ _ hl),e1,ai,_,0,_,rfl,rfl,SqT.of (S6 _ _ e2),atI_nat (j:=0) rfl,p,_,rfl,gp,.inl ⟨rfl,_,SqL.of D6⟩,fun d2 hd2=>?_⟩
    have hd20:H d2 = none:=none_of S6 hd2
    have nd2p:d2 ≠ p:=fun e=>by rw [e,p6] at hd2;cases hd2
    have nd2D:d2 ≠ D:=fun e=>by rw [e,D6] at hd2;cases hd2
    have T7:=Same.upd (o:=.dK []) hd2
    have d7:(upd H6 d2 (.dK [])) d2 = some (.dK []):=upd_same
    generalize upd H6 d2 (.dK []) = H7 at *
    have S7:=S6.trans T7
    refine ⟨_,rfl,lc,_,0,_,rfl,rfl,SqL.of (S7 _ _ hc),g0,_,rfl,lc,_,1,_,rfl,rfl,SqL.of (S7 _ _ hc),g1,d7,two c0 c1 (.int 9) (.str ""),rfl,(by show 2 ≤ 15;decide),?_⟩
    rw [two_disp h01]
    generalize hX8:upd H7 d2 _ = H8
    have S8:Same H6 H8:=hX8 ▸ T7.put hd2
    have d8:H8 d2 = some (.dK (two c0 c1 (.int 9) (.str ""))):=by rw [← hX8];exact upd_same
    clear hX8
    refine ⟨D,_,_,rfl,rfl,S8 _ _ D6,(by show 1 < sizeLine;decide),?_⟩
    refine fin _ ((S6.trans S8).put hD0) (by rw [upd_ne nDp.symm];exact S8 _ _ p6) (fun b o e=>?_) ⟨[d,d2],atD hD0 nDp upd_same,?_,fun j r row h1 h2=>?_⟩
    ·have e8:=del_up (cut_up S8) _ _ (mv6 b o e)
     have nb:b ≠ D:=fun eb=>by
      have:=cut_sub _ _ (del_sub _ _ e)
      rw [eb] at this
      rw [S4 _ _ this] at hD
      cases hD
     refine del_at (del_ne e8) (cut_at (cut_new (del_sub _ _ e8)) ?_)
     rw [upd_ne nb]
     exact cut_sub _ _ (del_sub _ _ e8)
    ·unfold rowsT
     rw [if_pos hm]
     rfl
    ·unfold rowsT at h2
     rw [if_pos hm] at h2
     match j,h1,h2 with
     | 0,h1,h2=>
      cases h1
      cases h2
      exact atD hd0 ndp (by rw [upd_ne nDd.symm];exact S8 _ _ d6)
     | 1,h1,h2=>
      cases h1
      cases h2
      exact atD hd20 nd2p (by rw [upd_ne nd2D];exact d8)
   ·refine iteC (decide_eq_false fun e=>hm (by injection e)) (fin H6 S6 p6 mv6 ⟨[d],atD hD0 nDp D6,?_,fun j r row h1 h2=>?_⟩)
    ·unfold rowsT
     rw [if_neg hm]
     rfl
    ·unfold rowsT at h2
     rw [if_neg hm] at h2
     match j,h1,h2 with
     | 0,h1,h2=>
      cases h1
      cases h2
      exact atD hd0 ndp d6
  ·rintro σ H2 ⟨sm,⟨u,rfl⟩,ls,p2,ll,hls⟩
   refine ⟨_,rfl,q p H2 sm ⟨ls,cut_at hp ?_,?_,fun j l t e1 e2=>(hls j l t e1 e2).same del_sub⟩⟩
   ·rw [p2,pcT14_names]
    rfl
   ·unfold pcT14
    rw [List.length_mapIdx,ls3]
    exact ll
end
end My
namespace My
open PySem L2 PyProof.Rows
seal L2.PE L2.PT L2.PW L2.PS L2.PSs L2.PA L2.PI L2.PG L2.PGs L2.OpR L2.UnR L2.CallR L2.IxR L2.SlR L2.MtR L2.PIf L2.PO L2.MtM L2.PC
def Sht.zm (s:Sht):Str:=if s.b then s.z1 else s.z2
structure Gd3 (H:Hp) (sh:Sht) (c0 c1:Str) (k:Int) (x0 x1 x2:Addr):Prop where
 s0:∃ r,H x0 = some (.tup [.str "set",.str sh.z0,.int k,.int 0,.ref r])/\H r = some (.dK (rK (rowT c0 c1 44 "")))
 s1:∃ r,H x1 = some (.tup [.str "add",.str sh.zm,.int k,.int 2,.ref r])/\H r = some (.dK (rK (rowT c0 c1 45 "d")))
 s2:H x2 = some (.tup [.str "cut",.str sh.zm,.int k,.int 2])
theorem cutZ {G:Prop} {T:Str->Prop} (R:Str->Prop) (h:(∀ z,R z->T z)->G) (fin:∀ z,R z->T z):G:=h fin
theorem Gd3.same {H H':Hp} {sh:Sht} {c0 c1:Str} {k:Int} {x0 x1 x2:Addr} (h:Gd3 H sh c0 c1 k x0 x1 x2) (s:Same H H'):Gd3 H' sh c0 c1 k x0 x1 x2:=by
 obtain ⟨⟨r0,a0,b0⟩,⟨r1,a1,b1⟩,a2⟩:=h
 exact ⟨⟨r0,s _ _ a0,s _ _ b0⟩,⟨r1,s _ _ a1,s _ _ b1⟩,s _ _ a2⟩
def spGood:Sp:=fun vs H Q _=>∃ (l lc:Addr) (sh:Sht) (c0 c1 c2:Str) (k:Int),vs = [.ref l,.ref lc,.int k]/\ShL H l sh/\ColL H lc c0 c1 c2/\∀ L x0 x1 x2 H',Same H H'->H' L = some (.lst [.ref x0,.ref x1,.ref x2])->Gd3 H' sh c0 c1 k x0 x1 x2->Q (.ref L) H'
section
variable {P:Program} {w:World} {K:PySem.W.Frag} {mg:Str->Option Value} {base:Heap}
theorem ok_good {f:Addr} {fd:FuncData} (F:Fun K "_law_good" "_law_good" (top 49) f fd) (B:Bl mg):FnOk P w K mg base CX0 1 f fd ["_law_sheets_here","_law_columns","_law_key"] spGood:=by
 have sc:FnScope ["_law_sheets_here","_law_columns","_law_key","_law_many","_law_steps"] ["_law_sheets_here","_law_columns","_law_key"] (defScope (top 49)):=⟨rfl,rfl,rfl,by decide +kernel,rfl,by decide +kernel,by decide +kernel⟩
 refine F.ok sc (fun vs H Q E h=>?_) (fun cdv A outer s H vs Q E hr h=>?_)
 ·obtain ⟨l,lc,sh,c0,c1,c2,k,rfl,_⟩:=h
  rfl
 ·obtain ⟨l,lc,sh,c0,c1,c2,k,rfl,hsh,⟨hc,h01,h02,h12⟩,q⟩:=h
  refine ⟨_,pss_cons (ps_set (i:=3) sc.nd rfl (Or.inl rfl) (pe_ix ix_tup (pe_ix ix_list (pv 0) pe_int (fun _ _=>rfl)) pe_int (fun _ _=>rfl)))
   (pss_cons (ps_if (pt_cmpR op_eq (pe_ix ix_tup (pe_ix ix_list (pv 0) pe_int (fun _ _=>rfl)) pe_int (fun _ _=>rfl)) pe_str (nomark _)) (pss_one (ps_set (i:=3) sc.nd rfl (Or.inl rfl) (pe_ix ix_tup (pe_ix ix_list (pv 0) pe_int (fun _ _=>rfl)) pe_int (fun _ _=>rfl)))) pss_nil)
   (pss_cons (ps_set (i:=4) sc.nd rfl (Or.inl rfl) (pe_lst (pa_cons (pe_tup (pa_cons pe_str (pa_cons (pe_ix ix_tup (pe_ix ix_list (pv 0) pe_int (fun _ _=>rfl)) pe_int (fun _ _=>rfl)) (pa_cons (pv 2) (pa_cons pe_int (pa_cons (pe_disp (pps_cons (pe_ix ix_list (pv 1) pe_int (fun _ _=>rfl)) pe_int (pps_cons (pe_ix ix_list (pv 1) pe_int (fun _ _=>rfl)) pe_str pps_nil)) rfl rfl (by simp) (by decide)) pa_nil)))))) pa_nil)))
   (pss_cons (ps_expr (pe_bm PySem.F.plainAttrs_list PySem.F.slot_list_append PySem.F.type_list_append mt_app (pv 4) (pa_cons (pe_tup (pa_cons pe_str (pa_cons (pv 3) (pa_cons (pv 2) (pa_cons pe_int (pa_cons (pe_disp (pps_cons (pe_ix ix_list (pv 1) pe_int (fun _ _=>rfl)) pe_int (pps_cons (pe_ix ix_list (pv 1) pe_int (fun _ _=>rfl)) pe_str pps_nil)) rfl rfl (by simp) (by decide)) pa_nil)))))) pa_nil)))
   (pss_cons (ps_expr (pe_bm PySem.F.plainAttrs_list PySem.F.slot_list_append PySem.F.type_list_append mt_app (pv 4) (pa_cons (pe_tup (pa_cons pe_str (pa_cons (pv 3) (pa_cons (pv 2) (pa_cons pe_int pa_nil))))) pa_nil)))
   (pss_one (ps_ret (pv 4))))))),?_⟩
  obtain ⟨a0,a1,a2,a3,hl,b0,b1,b2,b3⟩:=hsh
  have g0:atI [V.str c0,.str c1,.str c2] 0 = some (.str c0):=atI_nat (j:=0) rfl
  have g1:atI [V.str c0,.str c1,.str c2] 1 = some (.str c1):=atI_nat (j:=1) rfl
  refine ⟨_,rfl,l,_,2,_,rfl,rfl,SqL.of hl,atI_nat (j:=2) rfl,a2,_,0,_,rfl,rfl,SqT.of b2,atI_nat (j:=0) rfl,?_⟩
  refine ⟨_,rfl,l,_,1,_,rfl,rfl,SqL.of hl,atI_nat (j:=1) rfl,a1,_,1,.str (srtB sh.b).1,rfl,rfl,SqT.of b1,atI_nat (j:=1) rfl,rfl,_,rfl,?_⟩
  apply cutZ (fun z=>z = sh.zm)
  ·intro fin
   cases hb:sh.b with
   | true=>
    refine iteB (by decide +kernel) ?_
    refine ⟨_,rfl,l,_,1,_,rfl,rfl,SqL.of hl,atI_nat (j:=1) rfl,a1,_,0,_,rfl,rfl,SqT.of b1,atI_nat (j:=0) rfl,?_⟩
    have e:sh.zm = sh.z1:=by unfold Sht.zm;rw [hb];rfl
    generalize sh.z1 = z at e ⊢
    exact fin z e.symm
   | false=>
    refine iteC (by decide +kernel) (fin sh.z2 ?_)
    unfold Sht.zm
    rw [hb]
    rfl
  rintro z rfl
  refine ⟨_,rfl,l,_,0,_,rfl,rfl,SqL.of hl,atI_nat (j:=0) rfl,a0,_,0,_,rfl,rfl,SqT.of b0,atI_nat (j:=0) rfl,_,rfl,fun d hd=>?_⟩
  have T1:=Same.upd (o:=.dK []) hd
  have d1:(upd H d (.dK [])) d = some (.dK []):=upd_same
  generalize upd H d (.dK []) = H1 at *
  refine ⟨_,rfl,lc,_,0,_,rfl,rfl,SqL.of (T1 _ _ hc),g0,_,rfl,lc,_,1,_,rfl,rfl,SqL.of (T1 _ _ hc),g1,d1,two c0 c1 (.int 44) (.str ""),rfl,(by show 2 ≤ 15;decide),?_⟩
  rw [two_disp h01]
  generalize hX:upd H1 d _ = H2
  have S2:Same H H2:=hX ▸ T1.put hd
  have d2:H2 d = some (.dK (two c0 c1 (.int 44) (.str ""))):=by rw [← hX];exact upd_same
  clear hX
  refine ⟨(by show 5 ≤ sizeLine;decide),fun x0 hx0=>⟨(by show 1 ≤ sizeLine;decide),fun L hL=>?_⟩⟩
  have T3:=Same.upd (o:=.tup [.str "set",.str sh.z0,.int k,.int 0,.ref d]) hx0
  have x3:(upd H2 x0 (.tup [.str "set",.str sh.z0,.int k,.int 0,.ref d])) x0 = some (.tup [.str "set",.str sh.z0,.int k,.int 0,.ref d]):=upd_same
  generalize upd H2 x0 (.tup [.str "set",.str sh.z0,.int k,.int 0,.ref d]) = H3 at *
  have T4:=Same.upd (o:=.lst [.ref x0]) hL
  have L4:(upd H3 L (.lst [.ref x0])) L = some (.lst [.ref x0]):=upd_same
  generalize upd H3 L (.lst [.ref x0]) = H4 at *
  have S4:=S2.trans (T3.trans T4)
  have hL0:H L = none:=none_of (S2.trans T3) hL
  refine ⟨_,rfl,.inl ⟨rfl,_,SqL.of L4⟩,_,rfl,_,rfl,fun e he=>?_⟩
  have he0:H e = none:=none_of S4 he
  have neL:e ≠ L:=fun ee=>by rw [ee,L4] at he;cases he
  have T5:=Same.upd (o:=.dK []) he
  have e5:(upd H4 e (.dK [])) e = some (.dK []):=upd_same
  generalize upd H4 e (.dK []) = H5 at *
  have hc5:=(S4.trans T5) _ _ hc
  refine ⟨_,rfl,lc,_,0,_,rfl,rfl,SqL.of hc5,g0,_,rfl,lc,_,1,_,rfl,rfl,SqL.of hc5,g1,e5,two c0 c1 (.int 45) (.str "d"),rfl,(by show 2 ≤ 15;decide),?_⟩
  rw [two_disp h01]
  generalize hX:upd H5 e _ = H6
  have T6:Same H4 H6:=hX ▸ T5.put he
  have e6:H6 e = some (.dK (two c0 c1 (.int 45) (.str "d"))):=by rw [← hX];exact upd_same
  clear hX
  refine ⟨(by show 5 ≤ sizeLine;decide),fun x1 hx1=>?_⟩
  have nx1L:x1 ≠ L:=fun ee=>by rw [ee,T6 _ _ L4] at hx1;cases hx1
  have T7:=Same.upd (o:=.tup [.str "add",.str sh.zm,.int k,.int 2,.ref e]) hx1
  have x7:(upd H6 x1 (.tup [.str "add",.str sh.zm,.int k,.int 2,.ref e])) x1 = some (.tup [.str "add",.str sh.zm,.int k,.int 2,.ref e]):=upd_same
  generalize upd H6 x1 (.tup [.str "add",.str sh.zm,.int k,.int 2,.ref e]) = H7 at *
  have T67:=T6.trans T7
  refine ⟨L,_,_,rfl,rfl,T67 _ _ L4,(by show 1 < sizeLine;decide),?_⟩
  have nx0L:x0 ≠ L:=fun ee=>by rw [ee] at x3;rw [x3] at hL;cases hL
  have ndL:d ≠ L:=fun ee=>by have:=T3 _ _ d2;rw [ee,hL] at this;cases this
  generalize hX:upd H7 L _ = H8
  have L8:H8 L = some (.lst [.ref x0,.ref x1]):=by rw [← hX];exact upd_same
  have S8:Same H H8:=hX ▸ (S4.trans T67).put hL0
  have f8:∀ b o,b ≠ L->H7 b = some o->H8 b = some o:=fun b o nb hb=>by rw [← hX,upd_ne nb];exact hb
  clear hX
  refine ⟨_,rfl,.inl ⟨rfl,_,SqL.of L8⟩,_,rfl,_,rfl,(by show 4 ≤ sizeLine;decide),fun x2 hx2=>?_⟩
  have nx2L:x2 ≠ L:=fun ee=>by rw [ee,L8] at hx2;cases hx2
  have T9:=Same.upd (o:=.tup [.str "cut",.str sh.zm,.int k,.int 2]) hx2
  have x9:(upd H8 x2 (.tup [.str "cut",.str sh.zm,.int k,.int 2])) x2 = some (.tup [.str "cut",.str sh.zm,.int k,.int 2]):=upd_same
  generalize upd H8 x2 (.tup [.str "cut",.str sh.zm,.int k,.int 2]) = H9 at *
  refine ⟨L,_,_,rfl,rfl,T9 _ _ L8,(by show 2 < sizeLine;decide),_,rfl,?_⟩
  have f9:∀ b o,b ≠ L->H7 b = some o->(upd H9 L (.lst ([.ref x0,.ref x1] ++ [.ref x2]))) b = some o:=fun b o nb hb=>by rw [upd_ne nb];exact T9 _ _ (f8 b o nb hb)
  refine q L x0 x1 x2 _ ((S8.trans T9).put hL0) upd_same ⟨⟨d,f9 _ _ nx0L ((T4.trans T67) _ _ x3),f9 _ _ ndL ((T3.trans (T4.trans T67)) _ _ d2)⟩,⟨e,f9 _ _ nx1L x7,f9 _ _ neL (T7 _ _ e6)⟩,?_⟩
  rw [upd_ne nx2L]
  exact x9
end
end My
namespace L2
open PySem PySem.Spec PyProof.Rows
def sCut (t:TS):TS:=fun D σ H=>∃ R:St->Hp->Prop,t { D with nx:=R } σ H/\∀ σ' H',R σ' H'->D.nx σ' H'
theorem ps_cut {X:Cx} {st:Stmt} {t:TS} (h:PS X st t):PS X st (sCut t):=by
 intro pins s σ H D I hq
 obtain ⟨R,h1,h2⟩:=hq
 refine thn (h pins s σ H _ I h1) fun f s' hs=>?_
 cases f with
 | next=>obtain ⟨σ',H',I',z⟩:=hs;exact ⟨σ',H',I',h2 _ _ z⟩
 | brk=>exact hs
 | cont=>exact hs
 | ret u=>exact hs
end L2
namespace My
open PySem L2 PyProof.Rows
seal L2.PE L2.PT L2.PW L2.PS L2.PSs L2.PA L2.PI L2.PG L2.PGs L2.OpR L2.UnR L2.CallR L2.IxR L2.SlR L2.MtR L2.PIf L2.PO L2.MtM L2.PC
theorem Is.dq {K:PySem.W.Frag} {H:Hp} {v:V} {n:String} (h:Is K H v n) {G:Hp} {m:Nat}:Dq G m v v:=by
 obtain ⟨t,hn⟩:=h
 generalize e:Value.type n = u at t
 cases t with
 | non=>exact .non
 | bl=>exact .bl
 | int=>exact .int
 | str=>exact .str
 | flt x=>
  injection e with e
  rw [e] at hn
  exact absurd hn (by decide)
 | _=>exact .ref
def tabs (sh:Sht) (cols:List (Str × Addr)):List Tb:=[⟨sh.z0,"head",cols⟩,⟨sh.z1,(srtB sh.b).1,cols⟩,⟨sh.z2,(srtB sh.b).2,cols⟩]
def spStep (K:PySem.W.Frag) (CO CM:Addr):Sp:=fun vs H Q _=>∃ (a l lc w o:Addr) (ns:List Int) (sh:Sht) (c0 c1 c2:Str) (sz k:Int),vs = [.ref a,.ref l,.ref lc,.int sz,.int k]/\SqL K H a (ns.map V.int)/\ShL H l sh/\ShN sh/\ColL H lc c0 c1 c2/\H w = some (.tup [.str "whole"])/\H o = some (.tup [.str "word"])/\0 ≤ k/\k < sz ∧
 ∀ x C z kx px nk np H',Same H H'->BadAt K H' sz (tabs sh [(c0,w),(c1,o)]) CO CM x C z kx px->Is K H' kx nk->Is K H' px np->((z = sh.z3/\C = CO)\/(z ≠ sh.z3/\C = CM))->Q (.ref x) H'
def stN:List Str:=["_law_script","_law_sheets_here","_law_columns","_law_size","_law_key","_law_cell_here","_law_verb","_law_table","_law_sort","_law_faults","_law_place","_law_row"]
section
variable {P:Program} {w:World} {K:PySem.W.Frag} {mg:Str->Option Value} {base:Heap} {CO CM:Addr}
theorem ok_step {f fC fK fP fR:Addr} {fd fdC fdK fdP fdR:FuncData} (F:Fun K "_law_step" "_law_step" (top 45) f fd) (B:Bl mg) (DC:Df K mg "_law_cell" (top 39) fC fdC) (DK:Df K mg "_law_bad_key" (top 41) fK fdK) (DP:Df K mg "_law_bad_place" (top 42) fP fdP) (DR:Df K mg "_law_bad_row" (top 43) fR fdR) :
  FnOk P w K mg base CX0 2 f fd ["_law_script","_law_sheets_here","_law_columns","_law_size","_law_key"] (spStep K CO CM):=by
 have sc:FnScope stN ["_law_script","_law_sheets_here","_law_columns","_law_size","_law_key"] (defScope (top 45)):=⟨rfl,rfl,rfl,by decide +kernel,rfl,by decide +kernel,by decide +kernel⟩
 have GC:FnOk P w K mg base CX0 1 fC fdC ["_law_script","_law_k"] (spCel K):=ok_cel DC.fn B
 have bC:=DC.fn.binds (ps:=["_law_script","_law_k"]) fun _ _ _ _ _ _ us hl=>by obtain ⟨v0,v1,rfl⟩:=L2.ln2 hl;rfl
 have GK:FnOk P w K mg base CX0 1 fK fdK ["_law_cell_here","_law_size"] (spBadKey K):=ok_badKey DK.fn B
 have bK:=DK.fn.binds (ps:=["_law_cell_here","_law_size"]) fun _ _ _ _ _ _ us hl=>by obtain ⟨v0,v1,rfl⟩:=L2.ln2 hl;rfl
 have GP:FnOk P w K mg base CX0 1 fP fdP ["_law_cell_here","_law_sort"] (spBadPl K):=ok_badPl DP.fn B
 have bP:=DP.fn.binds (ps:=["_law_cell_here","_law_sort"]) fun _ _ _ _ _ _ us hl=>by obtain ⟨v0,v1,rfl⟩:=L2.ln2 hl;rfl
 have GR:FnOk P w K mg base CX0 1 fR fdR ["_law_cell_here","_law_columns"] (spBadRow K):=ok_badRow DR.fn B
 have bR:=DR.fn.binds (ps:=["_law_cell_here","_law_columns"]) fun _ _ _ _ _ _ us hl=>by obtain ⟨v0,v1,rfl⟩:=L2.ln2 hl;rfl
 refine F.ok sc (fun vs H Q E h=>?_) (fun cdv A outer s H vs Q E hr h=>?_)
 ·obtain ⟨a,l,lc,w,o,ns,sh,c0,c1,c2,sz,k,rfl,_⟩:=h
  rfl
 ·obtain ⟨a,l,lc,w,o,ns,sh,c0,c1,c2,sz,k,rfl,hS,hsh,hn,hcl,hw,ho,k0,k1,q⟩:=h
  obtain ⟨hc,h01,h02,h12⟩:=id hcl
  refine ⟨_,pss_cons (ps_set (i:=5) sc.nd rfl (Or.inl rfl) (pe_call GC hr (by rfl) DC.mg DC.fn.kp bC .nil pass0 (pa_cons (pv 0) (pa_cons pe_int pa_nil))))
   (pss_cons (ps_set (i:=6) sc.nd rfl (Or.inl rfl) (pe_ix ix_list (pe_lst (pa_cons pe_str (pa_cons pe_str (pa_cons pe_str pa_nil)))) (pe_op op_mod (pe_op op_fdiv (pv 5) pe_int) pe_int) (fun _ _=>rfl)))
   (pss_cons (ps_asg (pe_ix ix_list (pv 1) (pe_op op_mod (pv 5) pe_int) (fun _ _=>rfl)) (pg_tup rfl (pgs_cons (pg_name (i:=7) sc.nd rfl (Or.inl rfl)) (pgs_cons (pg_name (i:=8) sc.nd rfl (Or.inl rfl)) pgs_nil))))
   (pss_cons (ps_set (i:=9) sc.nd rfl (Or.inl rfl) (pe_op op_add pe_int (pe_op op_mod (pe_call GC hr (by rfl) DC.mg DC.fn.kp bC .nil pass0 (pa_cons (pv 0) (pa_cons pe_int pa_nil))) pe_int)))
   (pss_cons (ps_cut (ps_if (PW.pt (pw_and (pt_cmpR op_eq (pv 6) pe_str (nomark _)) (pw_and1 (pt_cmpR op_eq (pv 9) pe_int (nomark _))))) (pss_one (ps_set (i:=9) sc.nd rfl (Or.inl rfl) pe_int)) pss_nil))
   (pss_cons (ps_set (i:=10) sc.nd rfl (Or.inl rfl) pe_int)
   (pss_cons (ps_set (i:=11) sc.nd rfl (Or.inl rfl) (pe_disp (pps_cons (pe_ix ix_list (pv 2) pe_int (fun _ _=>rfl)) pe_int (pps_cons (pe_ix ix_list (pv 2) pe_int (fun _ _=>rfl)) pe_str pps_nil)) rfl rfl (by simp) (by decide)))
   (pss_cons (ps_cut (ps_if (pt_cmpR op_eq (pe_op op_mod (pe_op op_fdiv (pv 5) pe_int) pe_int) pe_int (nomark _)) (pss_one (ps_set (i:=4) sc.nd rfl (Or.inl rfl) (pe_op op_mod (pe_op op_add (pv 4) pe_int) (pv 3)))) pss_nil))
   (pss_cons (ps_cut (ps_if (pt_cmpR op_eq (pv 8) pe_str (nomark _)) (pss_one (ps_set (i:=10) sc.nd rfl (Or.inl rfl) (pe_op op_mod (pe_op op_fdiv (pv 5) pe_int) pe_int))) pss_nil))
   (pss_cons (ps_cut (ps_if (pt_cmpR op_eq (pe_op op_mod (pv 9) pe_int) pe_int (nomark _)) (pss_one (ps_set (i:=4) sc.nd rfl (Or.inl rfl) (pe_call GK hr (by rfl) DK.mg DK.fn.kp bK .nil pass0 (pa_cons (pe_call GC hr (by rfl) DC.mg DC.fn.kp bC .nil pass0 (pa_cons (pv 0) (pa_cons pe_int pa_nil))) (pa_cons (pv 3) pa_nil))))) pss_nil))
   (pss_cons (ps_cut (ps_if (pt_cmpR op_eq (pe_op op_mod (pe_op op_fdiv (pv 9) pe_int) pe_int) pe_int (nomark _)) (pss_one (ps_set (i:=10) sc.nd rfl (Or.inl rfl) (pe_call GP hr (by rfl) DP.mg DP.fn.kp bP .nil pass0 (pa_cons (pe_call GC hr (by rfl) DC.mg DC.fn.kp bC .nil pass0 (pa_cons (pv 0) (pa_cons pe_int pa_nil))) (pa_cons (pv 8) pa_nil))))) pss_nil))
   (pss_cons (ps_cut (ps_if (pt_cmpR op_eq (pe_op op_fdiv (pv 9) pe_int) pe_int (nomark _)) (pss_one (ps_set (i:=11) sc.nd rfl (Or.inl rfl) (pe_call GR hr (by rfl) DR.mg DR.fn.kp bR .nil pass0 (pa_cons (pe_call GC hr (by rfl) DC.mg DC.fn.kp bC .nil pass0 (pa_cons (pv 0) (pa_cons pe_int pa_nil))) (pa_cons (pv 2) pa_nil))))) pss_nil))
   (pss_cons (ps_cut (ps_if (pt_cmpR op_eq (pe_op op_mod (pe_call GC hr (by rfl) DC.mg DC.fn.kp bC .nil pass0 (pa_cons (pv 0) (pa_cons pe_int pa_nil))) pe_int) pe_int (nomark _)) (pss_one (ps_set (i:=7) sc.nd rfl (Or.inl rfl) (pe_ix ix_tup (pe_ix ix_list (pv 1) pe_int (fun _ _=>rfl)) pe_int (fun _ _=>rfl)))) pss_nil))
   (pss_cons (ps_if (pt_cmpR op_eq (pv 6) pe_str (nomark _)) (pss_one (ps_ret (pe_tup (pa_cons (pv 6) (pa_cons (pv 7) (pa_cons (pv 4) (pa_cons (pv 10) pa_nil))))))) pss_nil)
   (pss_one (ps_ret (pe_tup (pa_cons (pv 6) (pa_cons (pv 7) (pa_cons (pv 4) (pa_cons (pv 10) (pa_cons (pv 11) pa_nil))))))))))))))))))))),?_⟩
  obtain ⟨a0,a1,a2,a3,hl,b0,b1,b2,b3⟩:=id hsh
  refine ⟨_,rfl,a,ns,4,rfl,hS,by decide,fun c=>?_⟩
  refine ⟨(by show 3 ≤ sizeLine;decide),fun l1 hl1=>?_⟩
  have T1:=Same.upd (o:=.lst [.str "add",.str "set",.str "cut"]) hl1
  have e1:(upd H l1 (.lst [.str "add",.str "set",.str "cut"])) l1 = some (.lst [.str "add",.str "set",.str "cut"]):=upd_same
  generalize upd H l1 (.lst [.str "add",.str "set",.str "cut"]) = H1 at *
  obtain ⟨vb,hvb,hvb3⟩:∃ vb:Str,atI [V.str "add",.str "set",.str "cut"] (c / 3 % 3) = some (.str vb)/\(vb = "add"\/vb = "set"\/vb = "cut"):=by
   have j0:=Int.emod_nonneg (c / 3) (show (3:Int) ≠ 0 by decide)
   have j1:=Int.emod_lt_of_pos (c / 3) (show (0:Int) < 3 by decide)
   obtain ⟨j,hj⟩:=Int.eq_ofNat_of_zero_le j0
   have j3:j < 3:=by omega
   rw [hj]
   match j,j3 with
   | 0,_=>exact ⟨_,atI_nat (j:=0) rfl,.inl rfl⟩
   | 1,_=>exact ⟨_,atI_nat (j:=1) rfl,.inr (.inl rfl)⟩
   | 2,_=>exact ⟨_,atI_nat (j:=2) rfl,.inr (.inr rfl)⟩
  refine ⟨_,rfl,_,_,rfl,rfl,⟨by decide,by decide⟩,_,_,rfl,rfl,(pos rfl),l1,_,_,.str vb,rfl,rfl,SqL.of e1,hvb,?_⟩
  obtain ⟨ai,T,hai,hT,hTi,hTc,hTz,hTs⟩:∃ (ai:Addr) (T:Tb),atI [V.ref a0,.ref a1,.ref a2,.ref a3] (c % 3) = some (.ref ai)/\H ai = some (.tup [.str T.name,.str T.sort])/\T ∈ tabs sh [(c0,w),(c1,o)]/\T.cols = [(c0,w),(c1,o)]/\T.name ≠ sh.z3/\(T.sort ≠ "many"->T.sort ∈ lone):=by
   have j0:=Int.emod_nonneg c (show (3:Int) ≠ 0 by decide)
   have j1:=Int.emod_lt_of_pos c (show (0:Int) < 3 by decide)
   obtain ⟨j,hj⟩:=Int.eq_ofNat_of_zero_le j0
   have j3:j < 3:=by omega
   rw [hj]
   have hn':[sh.z0,sh.z1,sh.z2,sh.z3].Nodup:=hn
   simp only [List.nodup_cons,List.mem_cons,List.not_mem_nil,not_or,or_false] at hn'
   have hs1:(srtB sh.b).1 ≠ "many"->(srtB sh.b).1 ∈ lone:=by cases sh.b <;> decide +kernel
   have hs2:(srtB sh.b).2 ≠ "many"->(srtB sh.b).2 ∈ lone:=by cases sh.b <;> decide +kernel
   match j,j3 with
   | 0,_=>exact ⟨a0,⟨sh.z0,"head",[(c0,w),(c1,o)]⟩,atI_nat (j:=0) rfl,b0,by simp [tabs],rfl,hn'.1.2.2,fun _=>(by decide +kernel:("head":Str) ∈ lone)⟩
   | 1,_=>exact ⟨a1,⟨sh.z1,(srtB sh.b).1,[(c0,w),(c1,o)]⟩,atI_nat (j:=1) rfl,b1,by simp [tabs],rfl,hn'.2.1.2,hs1⟩
   | 2,_=>exact ⟨a2,⟨sh.z2,(srtB sh.b).2,[(c0,w),(c1,o)]⟩,atI_nat (j:=2) rfl,b2,by simp [tabs],rfl,hn'.2.2.1,hs2⟩
  refine ⟨_,rfl,_,rfl,_,_,rfl,rfl,(pos rfl),l,_,_,.ref ai,rfl,rfl,SqL.of (T1 _ _ hl),hai,?_⟩
  refine ⟨ai,_,rfl,SqT.of (T1 _ _ hT),rfl,_,_,rfl,_,_,rfl,rfl,?_⟩
  refine ⟨_,rfl,a,ns,5,rfl,T1.seq hS,by decide,fun c5=>⟨_,_,rfl,rfl,(pos rfl),_,_,rfl,rfl,?_⟩⟩
  have f0:=Int.emod_nonneg c5 (show (7:Int) ≠ 0 by decide)
  have f1:=Int.emod_lt_of_pos c5 (show (0:Int) < 7 by decide)
  refine ⟨fun σ' H'=>H' = H1/\∃ fa:Int,1 ≤ fa/\fa ≤ 7/\(vb = "cut"->fa ≠ 4)/\σ' = [some (.ref a),some (.ref l),some (.ref lc),some (.int sz),some (.int k),some (.int c),some (.str vb),some (.str T.name),some (.str T.sort),some (.int fa),none,none],?_,?_⟩
  ·refine ⟨_,rfl,rfl,_,rfl,?_⟩
   by_cases hv:vb = "cut"
   ·refine iteB (by rw [hv];decide +kernel) ⟨_,rfl,rfl,_,rfl,?_⟩
    refine ite2 (fun _=>⟨rfl,1,by decide,by decide,fun _=>by decide,rfl⟩) (fun hc4=>⟨rfl,1 + c5 % 7,by omega,by omega,fun _ e=>hc4 (decide_eq_true (by show V.int (1 + c5 % 7) = V.int 4;rw [e])),rfl⟩)
   ·exact iteC (decide_eq_false fun e=>hv (by injection e)) (iteF ⟨rfl,1 + c5 % 7,by omega,by omega,fun h=>absurd h hv,rfl⟩)
  rintro _ _ ⟨rfl,fa,fa1,fa7,fac,rfl⟩
  refine fun d hd=>?_
  rename_i H1
  have hd0:H d = none:=none_of T1 hd
  have T2:=Same.upd (o:=.dK []) hd
  have d2:(upd H1 d (.dK [])) d = some (.dK []):=upd_same
  generalize upd H1 d (.dK []) = H2 at *
  have S2:=T1.trans T2
  have g0:atI [V.str c0,.str c1,.str c2] 0 = some (.str c0):=atI_nat (j:=0) rfl
  have g1:atI [V.str c0,.str c1,.str c2] 1 = some (.str c1):=atI_nat (j:=1) rfl
  refine ⟨_,rfl,lc,_,0,_,rfl,rfl,SqL.of (S2 _ _ hc),g0,_,rfl,lc,_,1,_,rfl,rfl,SqL.of (S2 _ _ hc),g1,d2,two c0 c1 (.int 3) (.str "c"),rfl,(by show 2 ≤ 15;decide),?_⟩
  rw [two_disp h01]
  generalize hX:upd H2 d _ = H3
  have S3:Same H H3:=hX ▸ S2.put hd0
  have d3:H3 d = some (.dK (two c0 c1 (.int 3) (.str "c"))):=by rw [← hX];exact upd_same
  clear hX
  have row3:∀ {H':Hp},Same H3 H'->RowIs K H' T (.ref d) true:=fun s'=>row_two (n:="int") (m:="str") h01 hTc ((S3.trans s') _ _ hw) ((S3.trans s') _ _ ho) (s' _ _ d3) Is.int Is.str
  refine ⟨fun σ' H'=>H' = H3/\∃ k':Int,σ' = [some (.ref a),some (.ref l),some (.ref lc),some (.int sz),some (.int k'),some (.int c),some (.str vb),some (.str T.name),some (.str T.sort),some (.int fa),some (.int 0),some (.ref d)],?_,?_⟩
  ·refine ⟨_,rfl,_,_,rfl,rfl,⟨by decide,by decide⟩,_,_,rfl,rfl,(pos rfl),rfl,_,rfl,?_⟩
   refine ite2 (fun _=>?_) (fun _=>⟨rfl,k,rfl⟩)
   exact ⟨_,rfl,_,_,rfl,rfl,_,rfl,_,_,rfl,rfl,(show (0:Int) < sz by omega),rfl,_,rfl⟩
  rintro _ _ ⟨rfl,k',rfl⟩
  rename_i H3
  refine ⟨fun σ' H'=>H' = H3/\∃ p':Int,σ' = [some (.ref a),some (.ref l),some (.ref lc),some (.int sz),some (.int k'),some (.int c),some (.str vb),some (.str T.name),some (.str T.sort),some (.int fa),some (.int p'),some (.ref d)],?_,?_⟩
  ·refine ⟨_,rfl,rfl,_,rfl,?_⟩
   refine ite2 (fun _=>?_) (fun _=>⟨rfl,0,rfl⟩)
   exact ⟨_,rfl,_,_,rfl,rfl,⟨by decide,by decide⟩,_,_,rfl,rfl,(pos rfl),rfl,_,rfl⟩
  rintro _ _ ⟨rfl,p',rfl⟩
  rename_i H3
  refine ⟨fun σ' H'=>Same H3 H'/\∃ kx nk kb,Is K H' kx nk/\KeyB sz kx nk kb/\(fa % 2 = 1->kb = false)/\σ' = [some (.ref a),some (.ref l),some (.ref lc),some (.int sz),some kx,some (.int c),some (.str vb),some (.str T.name),some (.str T.sort),some (.int fa),some (.int p'),some (.ref d)],?_,?_⟩
  ·refine ⟨_,rfl,_,_,rfl,rfl,(pos rfl),rfl,_,rfl,?_⟩
   refine ite2 (fun _=>?_) (fun hf=>⟨Same.refl _,.int k',"int",_,Is.int,.inr ⟨k',rfl,rfl,rfl⟩,fun e=>absurd (decide_eq_true (by show V.int (fa % 2) = V.int 1;rw [e])) hf,rfl⟩)
   exact ⟨_,rfl,a,ns,6,rfl,S3.seq hS,by decide,fun c6=>⟨_,rfl,c6,sz,rfl,by omega,fun v n H' s' i1 i2=>⟨s',v,n,false,i1,i2,fun _=>rfl,rfl⟩⟩⟩
  rintro _ H4 ⟨s4,kx,nk,kb,hk1,hk2,hk3,rfl⟩
  have S4:=S3.trans s4
  refine ⟨fun σ' H'=>Same H4 H'/\∃ px np pb,Is K H' px np/\PlB T px np pb/\(fa / 2 % 2 = 1->pb = false)/\σ' = [some (.ref a),some (.ref l),some (.ref lc),some (.int sz),some kx,some (.int c),some (.str vb),some (.str T.name),some (.str T.sort),some (.int fa),some px,some (.ref d)],?_,?_⟩
  ·refine ⟨_,rfl,_,_,rfl,rfl,⟨by decide,by decide⟩,_,_,rfl,rfl,(pos rfl),rfl,_,rfl,?_⟩
   refine ite2 (fun _=>?_) (fun hf=>⟨Same.refl _,.int p',"int",_,Is.int,.inr ⟨p',rfl,rfl,rfl⟩,fun e=>absurd (decide_eq_true (by show V.int (fa / 2 % 2) = V.int 1;rw [e])) hf,rfl⟩)
   exact ⟨_,rfl,a,ns,7,rfl,S4.seq hS,by decide,fun c7=>⟨_,rfl,c7,T,rfl,hTs,fun v n H' s' i1 i2=>⟨s',v,n,false,i1,i2,fun _=>rfl,rfl⟩⟩⟩
  rintro _ H5 ⟨s5,px,np,pb,hp1,hp2,hp3,rfl⟩
  have S5:=S4.trans s5
  refine ⟨fun σ' H'=>Same H5 H'/\∃ rv rb,RowIs K H' T rv rb/\(fa / 4 = 1->rb = false)/\σ' = [some (.ref a),some (.ref l),some (.ref lc),some (.int sz),some kx,some (.int c),some (.str vb),some (.str T.name),some (.str T.sort),some (.int fa),some px,some rv],?_,?_⟩
  ·refine ⟨_,rfl,_,_,rfl,rfl,⟨by decide,by decide⟩,rfl,_,rfl,?_⟩
   refine ite2 (fun _=>?_) (fun hf=>⟨Same.refl _,.ref d,true,row3 (s4.trans s5),fun e=>absurd (decide_eq_true (by show V.int (fa / 4) = V.int 1;rw [e])) hf,rfl⟩)
   exact ⟨_,rfl,a,ns,8,rfl,S5.seq hS,by decide,fun c8=>⟨_,rfl,c8,lc,w,o,c0,c1,c2,rfl,S5 _ _ hc,h01,h02,h12,S5 _ _ hw,S5 _ _ ho,fun v H' s' hv=>⟨s',v,false,hv T hTc,fun _=>rfl,rfl⟩⟩⟩
  rintro _ H6 ⟨s6,rv,rb,hr1,hr3,rfl⟩
  have S6:=S5.trans s6
  refine ⟨fun σ' H'=>H' = H6/\∃ z:Str,(z = sh.z3\/z = T.name)/\σ' = [some (.ref a),some (.ref l),some (.ref lc),some (.int sz),some kx,some (.int c),some (.str vb),some (.str z),some (.str T.sort),some (.int fa),some px,some rv],?_,?_⟩
  ·refine ⟨_,rfl,a,ns,9,rfl,S6.seq hS,by decide,fun c9=>⟨_,_,rfl,rfl,(pos rfl),rfl,_,rfl,?_⟩⟩
   refine ite2 (fun _=>?_) (fun _=>⟨rfl,T.name,.inr rfl,rfl⟩)
   exact ⟨_,rfl,l,_,3,_,rfl,rfl,SqL.of (S6 _ _ hl),atI_nat (j:=3) rfl,a3,_,0,_,rfl,rfl,SqT.of (S6 _ _ b3),atI_nat (j:=0) rfl,rfl,sh.z3,.inl rfl,rfl⟩
  rintro _ _ ⟨rfl,z,hz,rfl⟩
  rename_i H6
  have hk6:=(hk1.same (s5.trans s6))
  have hp6:=hp1.same s6
  have fin:∀ (x:Addr) (rest:List V) (H7:Hp) (rb':Bool),Same H6 H7->H7 x = some (.tup (.str vb :: .str z :: kx :: px :: rest))->RowB K H7 T vb rest rb'->(kb && pb && rb') = false->Q (.ref x) H7:=by
   intro x rest H7 rb' s7 hx hrw hbad
   have S7:=S6.trans s7
   by_cases hz3:z = sh.z3
   ·refine q x CO z kx px nk np H7 S7 ⟨vb,rest,hx,.inl ⟨?_,rfl⟩⟩ (hk6.same s7) (hp6.same s7) (.inl ⟨hz3,rfl⟩)
    have hn':[sh.z0,sh.z1,sh.z2,sh.z3].Nodup:=hn
    simp only [List.nodup_cons,List.mem_cons,List.not_mem_nil,not_or,or_false] at hn'
    rw [hz3]
    intro hm
    have hm':sh.z3 = sh.z0\/sh.z3 = sh.z1\/sh.z3 = sh.z2:=by simpa [tabs] using hm
    rcases hm' with e | e | e
    ·exact hn'.1.2.2 e.symm
    ·exact hn'.2.1.2 e.symm
    ·exact hn'.2.2.1 e.symm
   ·have ez:T.name = z:=(hz.resolve_left hz3).symm
    exact q x CM z kx px nk np H7 S7 ⟨vb,rest,hx,.inr ⟨T,nk,np,kb,pb,rb',hTi,ez,hk6.same s7,hk2,hp6.same s7,hp2,hrw,hbad,rfl⟩⟩ (hk6.same s7) (hp6.same s7) (.inr ⟨hz3,rfl⟩)
  have hkp:fa ≠ 4->(kb && pb) = false:=fun h4=>by
   by_cases e1:fa % 2 = 1
   ·rw [hk3 e1];rfl
   ·rw [hp3 (by omega),Bool.and_false]
  have hall:(kb && pb && rb) = false:=by
   by_cases e4:fa = 4
   ·rw [hr3 (by rw [e4];decide),Bool.and_false]
   ·rw [hkp e4];rfl
  refine ⟨_,rfl,rfl,_,rfl,?_⟩
  by_cases hv:vb = "cut"
  ·refine iteB (by rw [hv];decide +kernel) ⟨_,rfl,_,rfl,_,rfl,_,rfl,(by show 4 ≤ sizeLine;decide),fun x hx=>?_⟩
   exact fin x [] _ true (Same.upd hx) upd_same (.inl ⟨hv,rfl⟩) (by rw [hkp (fac hv)];rfl)
  ·refine iteC (decide_eq_false fun e=>hv (by injection e)) ⟨_,rfl,_,rfl,_,rfl,_,rfl,_,rfl,(by show 5 ≤ sizeLine;decide),fun x hx=>?_⟩
   exact fin x [rv] _ rb (Same.upd hx) upd_same (.inr ⟨hv,rv,rfl,hr1.same (Same.upd hx)⟩) hall
end
end My
namespace L2
open PySem PySem.Spec PyProof.Rows
section
variable {X:Cx} {body:List Stmt} {cx cy n:Str} {b₀ b₁:Stmt} {suite suite':List Stmt} {np hp np' hp' pos:Pos} {CN CM Cx:Addr} {i:Nat} {tb:Ends->TS} {tc td:Addr->Addr->TS} {rest:List ExceptHandler}
theorem ps_tryUUr (hst:X.stack = X.env :: X.outer) (hfr:X.env.frame = some X.env.locals) (hN:X.N.Nodup) (hi:X.N[i]? = some n) (hk:X.env.scope.names.lookup n = some .local) (hg:Gl X cx) (hm:X.mg cx = some (.ref CN)) (c:XCl X.K CN) (hg':Gl X cy) (hm':X.mg cy = some (.ref CM)) (c':XCl X.K CM)
  (hb:∀ D pn XE,Lands (X.within pn XE) (EXuu X.K CN CM i tc td D)->PSs (X.within pn XE) body (tb D)) (hs:∀ x C,PSs (X.caught x) (b₀ :: suite) (tc x C)) (hs':∀ x C,PSs (X.caught x) (b₁ :: suite') (td x C)) (hdb:(cx == ("__debug__":Str)) = false:=by decide) (hdb':(cy == ("__debug__":Str)) = false:=by decide) :
  PS X (.Try body (.ExceptHandler (some (.Name cx np)) (some n) (b₀ :: suite) hp :: .ExceptHandler (some (.Name cy np')) (some n) (b₁ :: suite') hp' :: rest) [] [] pos) (tTry tb):=by
 intro pins s σ H D I h
 refine wpAny_Try_except ?_
 refine wpAny_mono (hb D (X.pn ++ pins) _ (try_land hst hfr (hds:=.ExceptHandler (some (.Name cx np)) (some n) (b₀ :: suite) hp :: .ExceptHandler (some (.Name cy np')) (some n) (b₁ :: suite') hp' :: rest) I rfl ?_) [] s σ H D I.within h) (fun f s₁ hf=>?_) fun e s₁ z=>z
 ·rintro σ1 H1 s1 x C od I1 hx xa ⟨Cx,rfl,⟨un,q⟩ | ⟨as,un,q⟩⟩
  ·exact handle_hit I1 hx xa hN hi hk hg hm c un hs (q x hx.unt) hdb
  ·exact handle_miss I1 xa hg hm c as (handle_hit I1 hx xa hN hi hk hg' hm' c' un hs' (q x hx.unt) hdb') hdb
 ·have hf':=hf.out I.ok
  cases f with
  | next=>exact wpAny_pure hf'
  | brk=>exact hf'
  | cont=>exact hf'
  | ret u=>exact hf'
end
end L2
namespace My
open PySem L2 PyProof.Rows
seal L2.PE L2.PT L2.PW L2.PS L2.PSs L2.PA L2.PI L2.PG L2.PGs L2.OpR L2.UnR L2.CallR L2.IxR L2.SlR L2.MtR L2.PIf L2.PO L2.MtM L2.PC
structure Rf (K:PySem.W.Frag) (mg:Str->Option Value) (CT CS CK CN CO CM:Addr):Prop where
 X:Tx K mg CT CO CM
 mS:mg "StepError" = some (.ref CS)
 mK:mg "Taken" = some (.ref CK)
 mN:mg "Missing" = some (.ref CN)
 iO:XIs K CO
 iM:XIs K CM
 uO:Under K CO CO
 uM:Under K CM CM
 as:Aside K CM CO
 oS:PySem.W.kitOne K (.ref CO) (.ref CS) = some true
 oM:PySem.W.kitOne K (.ref CO) (.ref CM) = some false
 rS:PySem.W.kitOne K (.ref CM) (.ref CS) = some true
 rK:PySem.W.kitOne K (.ref CM) (.ref CK) = some false
 rN:PySem.W.kitOne K (.ref CM) (.ref CN) = some false
theorem kit1 {K:PySem.W.Frag} {C D:Addr} {b:Bool} (h:PySem.W.kitOne K (.ref C) (.ref D) = some b):∀ u,RelV (.ref D) u->PySem.W.kitOne K (.ref C) u = some b:=fun u r=>by cases (show u = Value.ref D from r);exact h
def spRefd (K:PySem.W.Frag) (CP CO CM:Addr):Sp:=fun vs H Q _=>∃ (a L:Addr) (sz:Int) (Ts:List Tb) (es:List En) (xs:List Addr) (ss:List Stp) (R:Nat) (x C:Addr) (z nm:Str) (kx px:V),vs = [.ref a,.ref L]/\PlAt CP H a sz Ts es/\H L = some (.lst (xs.map V.ref)) ∧
 (∀ (j:Nat) (x:Addr) (s:Stp),xs[j]? = some x->ss[j]? = some s->GoodAt K H sz Ts x s)/\(∀ (j:Nat) (s:Stp),ss[j]? = some s->canS (Ts.map (·.name)) (es.map kc) (runS (Ts.map (·.name)) (es.map kc) (ss.take j)) s) ∧
 (∀ e ∈ es,∀ z,(tab e.pc z).length ≤ R)/\R + ss.length < 64/\es.length + ss.length ≤ 60/\xs[ss.length]? = some x/\BadAt K H sz Ts CO CM x C z kx px/\((C = CO/\nm = "NoTable")\/(C = CM/\nm = "BadRow")) ∧
 ∀ t H',Same H H'->H' t = some (.tup [.str nm,.str z,kx,px,.bl true])->Q (.ref t) H'
section
variable {P:Program} {w:World} {K:PySem.W.Frag} {mg:Str->Option Value} {base:Heap} {CP CT CS CK CN CO CM:Addr}
theorem ok_refd {f fW:Addr} {fd fdW:FuncData} (F:Fun K "_law_refused" "_law_refused" (top 46) f fd) (B:Bl mg) (R:Rf K mg CT CS CK CN CO CM) (L:ClP K CP) (mW:Meth K CP "write" fW) (gW:FnOk P w K mg base (CX1 P w) 6 fW fdW ["self","steps"] (spWrite K CP CO CM)) (bW:Binds K fdW ["self","steps"] []) :
  FnOk P w K mg base CX0 7 f fd ["_law_plain","_law_steps"] (spRefd K CP CO CM):=by
 have sc:FnScope ["_law_plain","_law_steps","_law_found","e","_law_apart"] ["_law_plain","_law_steps"] (defScope (top 46)):=⟨rfl,rfl,rfl,by decide +kernel,rfl,by decide +kernel,by decide +kernel⟩
 refine F.ok sc (fun vs H Q E h=>?_) (fun cdv A outer s H vs Q E hr h=>?_)
 ·obtain ⟨a,Lq,sz,Ts,es,xs,ss,R,x,C,z,nm,kx,px,rfl,_⟩:=h
  rfl
 ·obtain ⟨a,Lq,sz,Ts,es,xs,ss,Rn,x,C,z,nm,kx,px,rfl,hPl,hL,hg,hcan,hR,hR64,h60,hx,hbad,hC,q⟩:=h
  refine ⟨_,pss_cons (ps_set (i:=2) sc.nd rfl (Or.inl rfl) pe_non)
   (pss_cons (ps_tryUUr (i:=3) rfl rfl sc.nd rfl rfl (by rfl) R.X.mO R.X.xO (by rfl) R.X.mM R.X.xM
    (fun D pn XE LL=>pss_one (ps_expr (pe_methX (pv 0) L.cl mW gW hr bW .nil LL (pa_cons (pv 1) pa_nil))))
    (fun x C=>pss_one (ps_set (i:=2) sc.nd rfl (Or.inl rfl) (pe_tup (pa_cons pe_str (pa_cons (pe_xfld (pv 3) rfl) (pa_cons (pe_xfld (pv 3) rfl) (pa_cons (pe_xfld (pv 3) rfl) (pa_cons (pe_and (pe_callB call_isX (by rfl) B.isi boot_isi (pa_cons (pv 3) (pa_cons (pe_glob (v:=.ref CS) (by rfl) R.mS rfl) pa_nil))) (pe_one (pe_not (pe_callB call_isX (by rfl) B.isi boot_isi (pa_cons (pv 3) (pa_cons (pe_glob (v:=.ref CM) (by rfl) R.X.mM rfl) pa_nil)))))) pa_nil))))))))
    (fun x C=>pss_cons (ps_set (i:=4) sc.nd rfl (Or.inl rfl) (pe_and (pe_callB call_isX (by rfl) B.isi boot_isi (pa_cons (pv 3) (pa_cons (pe_glob (v:=.ref CS) (by rfl) R.mS rfl) pa_nil))) (pe_and (pe_not (pe_callB call_isX (by rfl) B.isi boot_isi (pa_cons (pv 3) (pa_cons (pe_glob (v:=.ref CK) (by rfl) R.mK rfl) pa_nil)))) (pe_one (pe_not (pe_callB call_isX (by rfl) B.isi boot_isi (pa_cons (pv 3) (pa_cons (pe_glob (v:=.ref CN) (by rfl) R.mN rfl) pa_nil))))))))
     (pss_one (ps_set (i:=2) sc.nd rfl (Or.inl rfl) (pe_tup (pa_cons pe_str (pa_cons (pe_xfld (pv 3) rfl) (pa_cons (pe_xfld (pv 3) rfl) (pa_cons (pe_xfld (pv 3) rfl) (pa_cons (pv 4) pa_nil))))))))))
   (pss_one (ps_ret (pv 2)))),?_⟩
  obtain ⟨dx0,fo,td,ha,_⟩:=id hPl.ex
  refine ⟨_,rfl,a,dx0,_,rfl,ha,flds_no (by decide +kernel) (by decide +kernel),_,rfl,a,Lq,sz,Ts,es,xs,ss,Rn,rfl,hPl,hL,hg,hcan,hR,hR64,h60,.inl ⟨x,C,z,kx,px,hx,hbad,fun dx H8 hd s8=>?_⟩⟩
  rcases hC with ⟨rfl,rfl⟩ | ⟨rfl,rfl⟩
  ·refine ⟨_,rfl,.inl ⟨R.uO,fun x hx=>?_⟩⟩
   have T9:=Same.upd (o:=.ext (gotP x C (some dx))) hx
   have hx9:(upd H8 x (.ext (gotP x C (some dx)))) x = some (.ext (gotP x C (some dx))):=upd_same
   have S9:=s8.trans T9
   have hd9:=T9 _ _ hd
   generalize upd H8 x (.ext (gotP x C (some dx))) = H9 at *
   have hdd:∀ dx',some dx = some dx'->∃ fs,H9 dx' = some (.ext (dctP dx' fs)):=fun dx' e=>by cases e;exact ⟨_,hd9⟩
   refine ⟨_,rfl,x,C,dx,_,_,rfl,hx9,hd9,R.X.xO,R.X.n1,stp_t,_,rfl,x,C,dx,_,_,rfl,hx9,hd9,R.X.xO,R.X.n2,stp_k,_,rfl,x,C,dx,_,_,rfl,hx9,hd9,R.X.xO,R.X.n3,stp_p,_,rfl,x,C,some dx,_,true,rfl,hx9,hdd,R.iO,kit1 R.oS,true,rfl,iteT ⟨_,rfl,x,C,some dx,_,false,rfl,hx9,hdd,R.iO,kit1 R.oM,false,rfl,(by show 5 ≤ sizeLine;decide),fun t ht=>⟨_,rfl,?_⟩⟩⟩
   exact q t _ (S9.trans (Same.upd ht)) upd_same
  ·refine ⟨_,rfl,.inr ⟨R.as,R.uM,fun x hx=>?_⟩⟩
   have T9:=Same.upd (o:=.ext (gotP x C (some dx))) hx
   have hx9:(upd H8 x (.ext (gotP x C (some dx)))) x = some (.ext (gotP x C (some dx))):=upd_same
   have S9:=s8.trans T9
   have hd9:=T9 _ _ hd
   generalize upd H8 x (.ext (gotP x C (some dx))) = H9 at *
   have hdd:∀ dx',some dx = some dx'->∃ fs,H9 dx' = some (.ext (dctP dx' fs)):=fun dx' e=>by cases e;exact ⟨_,hd9⟩
   refine ⟨_,rfl,x,C,some dx,_,true,rfl,hx9,hdd,R.iM,kit1 R.rS,true,rfl,iteT ⟨_,rfl,x,C,some dx,_,false,rfl,hx9,hdd,R.iM,kit1 R.rK,false,rfl,true,rfl,iteT ⟨_,rfl,x,C,some dx,_,false,rfl,hx9,hdd,R.iM,kit1 R.rN,false,rfl,?_⟩⟩⟩
   refine ⟨_,rfl,x,C,dx,_,_,rfl,hx9,hd9,R.X.xM,R.X.m1,stp_t,_,rfl,x,C,dx,_,_,rfl,hx9,hd9,R.X.xM,R.X.m2,stp_k,_,rfl,x,C,dx,_,_,rfl,hx9,hd9,R.X.xM,R.X.m3,stp_p,_,rfl,(by show 5 ≤ sizeLine;decide),fun t ht=>⟨_,rfl,?_⟩⟩
   exact q t _ (S9.trans (Same.upd ht)) upd_same
end
end My
namespace My
open PySem L2 PyProof.Rows
seal L2.PE L2.PT L2.PW L2.PS L2.PSs L2.PA L2.PI L2.PG L2.PGs L2.OpR L2.UnR L2.CallR L2.IxR L2.SlR L2.MtR L2.PIf L2.PO L2.MtM L2.PC
def spRight (K:PySem.W.Frag):Sp:=fun vs H Q _=>∃ (t x:Addr) (z3 nm z vb:Str) (kx px:V) (nk np:String) (rest:List V),vs = [.ref t,.ref x,.str z3]/\H t = some (.tup [.str nm,.str z,kx,px,.bl true])/\H x = some (.tup (.str vb :: .str z :: kx :: px :: rest))/\Is K H kx nk/\Is K H px np/\((z = z3/\nm = "NoTable")\/(z ≠ z3/\nm = "BadRow"))/\∀ H',Same H H'->Q (.bl true) H'
section
variable {P:Program} {w:World} {K:PySem.W.Frag} {mg:Str->Option Value} {base:Heap}
theorem ok_right {f:Addr} {fd:FuncData} (F:Fun K "_law_right" "_law_right" (top 47) f fd) (B:Bl mg):FnOk P w K mg base CX0 1 f fd ["_law_found","_law_step_here","_law_absent"] (spRight K):=by
 have sc:FnScope ["_law_found","_law_step_here","_law_absent","_law_due"] ["_law_found","_law_step_here","_law_absent"] (defScope (top 47)):=⟨rfl,rfl,rfl,by decide +kernel,rfl,by decide +kernel,by decide +kernel⟩
 refine F.ok sc (fun vs H Q E h=>?_) (fun cdv A outer s H vs Q E hr h=>?_)
 ·obtain ⟨t,x,z3,nm,z,vb,kx,px,nk,np,rest,rfl,_⟩:=h
  rfl
 ·obtain ⟨t,x,z3,nm,z,vb,kx,px,nk,np,rest,rfl,ht,hx,hk,hp,hz,q⟩:=h
  have hu3:(A.deeper (envOfC "_law_right" (defScope (top 47)) s.heap.objs.size f cdv)).units + 0 + 1 < cLine:=by have:=hr.un;omega
  refine ⟨_,pss_cons (ps_set (i:=3) sc.nd rfl (Or.inl rfl) pe_str)
   (pss_cons (ps_cut (ps_if (pt_cmpR op_eq (pe_ix ix_tup (pv 1) pe_int (fun _ _=>rfl)) (pv 2) (nomark _)) (pss_one (ps_set (i:=3) sc.nd rfl (Or.inl rfl) pe_str)) pss_nil))
   (pss_cons (ps_if (pt_cmpR op_neTp (pv 0) (pe_tup (pa_cons (pv 3) (pa_cons (pe_ix ix_tup (pv 1) pe_int (fun _ _=>rfl)) (pa_cons (pe_ix ix_tup (pv 1) pe_int (fun _ _=>rfl)) (pa_cons (pe_ix ix_tup (pv 1) pe_int (fun _ _=>rfl)) (pa_cons pe_bl pa_nil)))))) (nomark _)) pss_never pss_nil)
   (pss_cons (ps_if (pt_cmpR op_ne (pe_callB call_isi (by rfl) B.isi boot_isi (pa_cons (pe_ix ix_tup (pv 0) pe_int (fun _ _=>rfl)) (pa_cons (pe_bltn (v:=.ty "bool") (by rfl) B.bool boot_bool rfl) pa_nil))) (pe_callB call_isi (by rfl) B.isi boot_isi (pa_cons (pe_ix ix_tup (pv 1) pe_int (fun _ _=>rfl)) (pa_cons (pe_bltn (v:=.ty "bool") (by rfl) B.bool boot_bool rfl) pa_nil))) (nomark _)) pss_never pss_nil)
   (pss_one (ps_ret (pe_cmpR op_eq (pe_callB call_isi (by rfl) B.isi boot_isi (pa_cons (pe_ix ix_tup (pv 0) pe_int (fun _ _=>rfl)) (pa_cons (pe_bltn (v:=.ty "bool") (by rfl) B.bool boot_bool rfl) pa_nil))) (pe_callB call_isi (by rfl) B.isi boot_isi (pa_cons (pe_ix ix_tup (pv 1) pe_int (fun _ _=>rfl)) (pa_cons (pe_bltn (v:=.ty "bool") (by rfl) B.bool boot_bool rfl) pa_nil))) (nomark _))))))),?_⟩
  refine ⟨fun σ' H'=>H' = H/\σ' = [some (.ref t),some (.ref x),some (.str z3),some (.str nm)],?_,?_⟩
  ·refine ⟨_,rfl,x,_,1,.str z,rfl,rfl,SqT.of hx,atI_nat (j:=1) rfl,_,rfl,rfl,_,rfl,?_⟩
   rcases hz with ⟨rfl,rfl⟩ | ⟨hz,rfl⟩
   ·exact iteB (decide_eq_true rfl) ⟨rfl,rfl⟩
   ·exact iteC (decide_eq_false fun e=>hz (by injection e)) ⟨rfl,rfl⟩
  rintro _ _ ⟨rfl,rfl⟩
  rename_i H
  refine ⟨_,rfl,_,rfl,_,rfl,x,_,1,.str z,rfl,rfl,SqT.of hx,atI_nat (j:=1) rfl,_,rfl,x,_,2,kx,rfl,rfl,SqT.of hx,atI_nat (j:=2) rfl,_,rfl,x,_,3,px,rfl,rfl,SqT.of hx,atI_nat (j:=3) rfl,(by show 5 ≤ sizeLine;decide),fun t2 ht2=>?_⟩
  have T2:=Same.upd (o:=.tup [.str nm,.str z,kx,px,.bl true]) ht2
  have e2:(upd H t2 (.tup [.str nm,.str z,kx,px,.bl true])) t2 = some (.tup [.str nm,.str z,kx,px,.bl true]):=upd_same
  generalize upd H t2 (.tup [.str nm,.str z,kx,px,.bl true]) = H2 at *
  refine ⟨0,t,t2,_,_,rfl,rfl,SqT.of (T2 _ _ ht),SqT.of e2,rfl,(fun j y y' c1 c2=>?_),hu3,_,rfl,iteF ?_⟩
  ·match j,c1,c2 with
   | 0,c1,c2=>cases c1;cases c2;exact .str
   | 1,c1,c2=>cases c1;cases c2;exact .str
   | 2,c1,c2=>cases c1;cases c2;exact Is.dq hk
   | 3,c1,c2=>cases c1;cases c2;exact Is.dq hp
   | 4,c1,c2=>cases c1;cases c2;exact .bl
  have hk2:=hk.same T2
  have hp2:=hp.same T2
  refine ⟨_,rfl,t,_,2,kx,rfl,rfl,SqT.of (T2 _ _ ht),atI_nat (j:=2) rfl,kx,_,_,_,rfl,hk2.1,kit_eq.trans (kit_bool _ hk.2),_,rfl,x,_,2,kx,rfl,rfl,SqT.of (T2 _ _ hx),atI_nat (j:=2) rfl,kx,_,_,_,rfl,hk2.1,kit_eq.trans (kit_bool _ hk.2),rfl,_,rfl,iteC (by rw [decide_eq_true rfl];rfl) ?_⟩
  refine ⟨_,rfl,t,_,3,px,rfl,rfl,SqT.of (T2 _ _ ht),atI_nat (j:=3) rfl,px,_,_,_,rfl,hp2.1,kit_eq.trans (kit_bool _ hp.2),_,rfl,x,_,3,px,rfl,rfl,SqT.of (T2 _ _ hx),atI_nat (j:=3) rfl,px,_,_,_,rfl,hp2.1,kit_eq.trans (kit_bool _ hp.2),rfl,?_⟩
  rw [decide_eq_true rfl]
  exact q H2 T2
end
def stps (sh:Sht) (c0 c1:Str) (k:Int):List Stp:=[⟨"set",sh.z0,k,0,rowT c0 c1 44 ""⟩,⟨"add",sh.zm,k,2,rowT c0 c1 45 "d"⟩,⟨"cut",sh.zm,k,2,[]⟩]
abbrev nms (sh:Sht):List Str:=[sh.z0,sh.z1,sh.z2]
def P3 (sh:Sht) (A B C:List (Int × Rw)):Pt:=[(sh.z0,A),(sh.z1,B),(sh.z2,C)]
structure Dst (sh:Sht):Prop where
 h01:sh.z0 ≠ sh.z1
 h02:sh.z0 ≠ sh.z2
 h12:sh.z1 ≠ sh.z2
theorem ShN.dst {sh:Sht} (h:ShN sh):Dst sh:=by
 have hn':[sh.z0,sh.z1,sh.z2,sh.z3].Nodup:=h
 simp only [List.nodup_cons,List.mem_cons,List.not_mem_nil,not_or,or_false] at hn'
 exact ⟨hn'.1.1,hn'.1.2.1,hn'.2.1.1⟩
theorem add_nil (sh:Sht) (es:List (Int × Pc)) (k:Int):addC (nms sh) es k [] = [(k,P3 sh (plc es k sh.z0) (plc es k sh.z1) (plc es k sh.z2))]:=by
 unfold addC
 rw [if_neg (fun h=>nomatch h)]
 rfl
theorem add_one (sh:Sht) (es:List (Int × Pc)) (k:Int) (X:Pt):addC (nms sh) es k [(k,X)] = [(k,X)]:=by
 unfold addC
 rw [if_pos (show k ∈ [(k,X)].map (·.1) from List.mem_cons_self)]
theorem mod_0 {sh:Sht} (d:Dst sh) {s:Stp} (A B C:List (Int × Rw)) (h:s.z = sh.z0):[(s.k,P3 sh A B C)].map (modC s) = [(s.k,P3 sh (nxtC s.vb (s.p,s.row) A) B C)]:=by
 simp [modC,P3,h,d.h01.symm,d.h02.symm]
theorem mod_1 {sh:Sht} (d:Dst sh) {s:Stp} (A B C:List (Int × Rw)) (h:s.z = sh.z1):[(s.k,P3 sh A B C)].map (modC s) = [(s.k,P3 sh A (nxtC s.vb (s.p,s.row) B) C)]:=by
 simp [modC,P3,h,d.h01,d.h12.symm]
theorem mod_2 {sh:Sht} (d:Dst sh) {s:Stp} (A B C:List (Int × Rw)) (h:s.z = sh.z2):[(s.k,P3 sh A B C)].map (modC s) = [(s.k,P3 sh A B (nxtC s.vb (s.p,s.row) C))]:=by
 simp [modC,P3,h,d.h02,d.h12]
theorem pl_set (p:Int) (row:Rw) (A:List (Int × Rw)):(nxtC "set" (p,row) A).map (·.1) = A.map (·.1):=by
 unfold nxtC
 rw [if_neg (by decide +kernel),if_neg (by decide +kernel),List.map_map]
 refine List.map_congr_left fun r _=>?_
 show (if r.1 = p then (p,row) else r).1 = r.1
 split
 ·rename_i h;exact h.symm
 ·rfl
theorem pl_add (p:Int) (row:Rw) (A:List (Int × Rw)):(nxtC "add" (p,row) A).map (·.1) = A.map (·.1) ++ [p]:=by
 unfold nxtC
 rw [if_neg (by decide +kernel),if_pos rfl,List.map_append]
 rfl
theorem pl_cut (p:Int) (row:Rw) (A:List (Int × Rw)):(nxtC "cut" (p,row) A).map (·.1) = (A.map (·.1)).filter fun x=>decide (x ≠ p):=by
 unfold nxtC
 rw [if_pos rfl,List.filter_map]
 rfl
def Pls (sh:Sht) (n:Nat) (A B C:List (Int × Rw)):Prop:=A.map (·.1) = [0]/\(if sh.b then B else C).map (·.1) = (if n = 2 then [0,1,2] else [0,1])/\(if sh.b then C else B).map (·.1) = [0]
theorem pls_can {sh:Sht} (d:Dst sh) {n:Nat} {A B C:List (Int × Rw)} (h:Pls sh n A B C) {c0 c1:Str} {k:Int} {s:Stp} (hs:(stps sh c0 c1 k)[n]? = some s):∀ t ∈ P3 sh A B C,t.1 = s.z->Can s.vb s.p (t.2.map (·.1)):=by
 obtain ⟨h1,h2,h3⟩:=h
 have zm1:sh.b = true->sh.zm = sh.z1:=fun e=>by unfold Sht.zm;rw [e];rfl
 have zm2:sh.b = false->sh.zm = sh.z2:=fun e=>by unfold Sht.zm;rw [e];rfl
 intro t ht et
 have ht':t = (sh.z0,A)\/t = (sh.z1,B)\/t = (sh.z2,C):=by simpa [P3] using ht
 match n,hs with
 | 0,hs=>
  cases hs
  rcases ht' with rfl | rfl | rfl
  ·exact .inr (.inl ⟨rfl,by show (0:Int) ∈ A.map (·.1);rw [h1];exact List.mem_cons_self⟩)
  ·exact absurd et d.h01.symm
  ·exact absurd et d.h02.symm
 | 1,hs=>
  cases hs
  have en:(if 1 = 2 then [0,1,2] else [0,1]:List Int) = [0,1]:=if_neg (by decide)
  rw [en] at h2
  cases hb:sh.b with
  | true=>
   rw [hb,if_pos rfl] at h2
   rw [show Stp.z ⟨"add",sh.zm,k,2,rowT c0 c1 45 "d"⟩ = sh.z1 from zm1 hb] at et
   rcases ht' with rfl | rfl | rfl
   ·exact absurd et d.h01
   ·exact .inl ⟨rfl,by show (2:Int) ∉ B.map (·.1);rw [h2];decide⟩
   ·exact absurd et d.h12.symm
  | false=>
   rw [hb,if_neg Bool.false_ne_true] at h2
   rw [show Stp.z ⟨"add",sh.zm,k,2,rowT c0 c1 45 "d"⟩ = sh.z2 from zm2 hb] at et
   rcases ht' with rfl | rfl | rfl
   ·exact absurd et d.h02
   ·exact absurd et d.h12
   ·exact .inl ⟨rfl,by show (2:Int) ∉ C.map (·.1);rw [h2];decide⟩
 | 2,hs=>
  cases hs
  rw [if_pos rfl] at h2
  cases hb:sh.b with
  | true=>
   rw [hb,if_pos rfl] at h2
   rw [show Stp.z ⟨"cut",sh.zm,k,2,[]⟩ = sh.z1 from zm1 hb] at et
   rcases ht' with rfl | rfl | rfl
   ·exact absurd et d.h01
   ·exact .inr (.inr ⟨rfl,by show (2:Int) ∈ B.map (·.1);rw [h2];decide⟩)
   ·exact absurd et d.h12.symm
  | false=>
   rw [hb,if_neg Bool.false_ne_true] at h2
   rw [show Stp.z ⟨"cut",sh.zm,k,2,[]⟩ = sh.z2 from zm2 hb] at et
   rcases ht' with rfl | rfl | rfl
   ·exact absurd et d.h02
   ·exact absurd et d.h12
   ·exact .inr (.inr ⟨rfl,by show (2:Int) ∈ C.map (·.1);rw [h2];decide⟩)
theorem pls_next {sh:Sht} (d:Dst sh) {n:Nat} {A B C:List (Int × Rw)} (h:Pls sh n A B C) {c0 c1:Str} {k:Int} {s:Stp} (hs:(stps sh c0 c1 k)[n]? = some s):∃ A' B' C',[(k,P3 sh A B C)].map (modC s) = [(k,P3 sh A' B' C')]/\Pls sh (n + 1) A' B' C':=by
 obtain ⟨h1,h2,h3⟩:=h
 have zm1:sh.b = true->sh.zm = sh.z1:=fun e=>by unfold Sht.zm;rw [e];rfl
 have zm2:sh.b = false->sh.zm = sh.z2:=fun e=>by unfold Sht.zm;rw [e];rfl
 match n,hs with
 | 0,hs=>
  cases hs
  exact ⟨_,_,_,mod_0 d A B C rfl,by rw [pl_set];exact h1,h2,h3⟩
 | 1,hs=>
  cases hs
  have en:(if 1 = 2 then [0,1,2] else [0,1]:List Int) = [0,1]:=if_neg (by decide)
  rw [en] at h2
  cases hb:sh.b with
  | true=>
   rw [hb,if_pos rfl] at h2 h3
   refine ⟨_,_,_,mod_1 d A B C (zm1 hb),h1,?_,?_⟩
   ·rw [hb,if_pos rfl,pl_add,h2];rfl
   ·rw [hb,if_pos rfl];exact h3
  | false=>
   rw [hb,if_neg Bool.false_ne_true] at h2 h3
   refine ⟨_,_,_,mod_2 d A B C (zm2 hb),h1,?_,?_⟩
   ·rw [hb,if_neg Bool.false_ne_true,pl_add,h2];rfl
   ·rw [hb,if_neg Bool.false_ne_true];exact h3
 | 2,hs=>
  cases hs
  rw [if_pos rfl] at h2
  cases hb:sh.b with
  | true=>
   rw [hb,if_pos rfl] at h2 h3
   refine ⟨_,_,_,mod_1 d A B C (zm1 hb),h1,?_,?_⟩
   ·rw [hb,if_pos rfl,pl_cut,h2];rfl
   ·rw [hb,if_pos rfl];exact h3
  | false=>
   rw [hb,if_neg Bool.false_ne_true] at h2 h3
   refine ⟨_,_,_,mod_2 d A B C (zm2 hb),h1,?_,?_⟩
   ·rw [hb,if_neg Bool.false_ne_true,pl_cut,h2];rfl
   ·rw [hb,if_neg Bool.false_ne_true];exact h3
theorem run_at {sh:Sht} (d:Dst sh) {c0 c1:Str} {k:Int} {es:List (Int × Pc)} (h0:Pls sh 0 (plc es k sh.z0) (plc es k sh.z1) (plc es k sh.z2)):∀ m,m ≤ 3->(m = 0/\runS (nms sh) es ((stps sh c0 c1 k).take m) = [])\/(0 < m/\∃ A B C,runS (nms sh) es ((stps sh c0 c1 k).take m) = [(k,P3 sh A B C)]/\Pls sh m A B C)
 | 0,_=>.inl ⟨rfl,rfl⟩
 | m + 1,hm=>by
  have hml:m < (stps sh c0 c1 k).length:=hm
  have es':(stps sh c0 c1 k)[m]? = some (stps sh c0 c1 k)[m]:=List.getElem?_eq_getElem hml
  have e:runS (nms sh) es ((stps sh c0 c1 k).take (m + 1)) = appS (nms sh) es (runS (nms sh) es ((stps sh c0 c1 k).take m)) (stps sh c0 c1 k)[m]:=by
   unfold runS
   rw [List.take_succ,es',List.foldl_append]
   rfl
  have ek:(stps sh c0 c1 k)[m].k = k:=by
   match m,hml with
   | 0,_=>rfl
   | 1,_=>rfl
   | 2,_=>rfl
  obtain ⟨A,B,C,ha,hp⟩:∃ A B C,addC (nms sh) es k (runS (nms sh) es ((stps sh c0 c1 k).take m)) = [(k,P3 sh A B C)]/\Pls sh m A B C:=by
   rcases run_at d h0 m (by omega) with ⟨rfl,h⟩ | ⟨_,A,B,C,h,hp⟩
   ·rw [h,add_nil];exact ⟨_,_,_,rfl,h0⟩
   ·rw [h,add_one];exact ⟨_,_,_,rfl,hp⟩
  obtain ⟨A',B',C',h1,h2⟩:=pls_next d hp es'
  refine .inr ⟨Nat.succ_pos _,A',B',C',?_,h2⟩
  rw [e]
  unfold appS
  rw [ek,ha,h1]
theorem can_at {sh:Sht} (d:Dst sh) {c0 c1:Str} {k:Int} {es:List (Int × Pc)} (h0:Pls sh 0 (plc es k sh.z0) (plc es k sh.z1) (plc es k sh.z2)) {m:Nat} {s:Stp} (hs:(stps sh c0 c1 k)[m]? = some s):canS (nms sh) es (runS (nms sh) es ((stps sh c0 c1 k).take m)) s:=by
 have hml:m < 3:=(List.getElem?_eq_some_iff.mp hs).1
 have ek:s.k = k:=by
  match m,hs with
  | 0,hs=>cases hs;rfl
  | 1,hs=>cases hs;rfl
  | 2,hs=>cases hs;rfl
 unfold canS
 rw [ek]
 obtain ⟨A,B,C,ha,hp⟩:∃ A B C,addC (nms sh) es k (runS (nms sh) es ((stps sh c0 c1 k).take m)) = [(k,P3 sh A B C)]/\Pls sh m A B C:=by
  rcases run_at d h0 m (by omega) with ⟨rfl,h⟩ | ⟨_,A,B,C,h,hp⟩
  ·rw [h,add_nil];exact ⟨_,_,_,rfl,h0⟩
  ·rw [h,add_one];exact ⟨_,_,_,rfl,hp⟩
 rw [ha]
 intro n hn _
 rw [List.mem_singleton.mp hn]
 exact pls_can d hp hs
theorem plok_of {so:Str} {ps:List Int} (h:ps = [0]\/ps = [0,1]\/ps = [0,1,2]):PlOk so ps:=by
 rcases h with rfl | rfl | rfl
 ·refine ⟨fun i=>?_,fun _=>by decide⟩
  simp only [List.mem_cons,List.not_mem_nil,or_false,List.length_cons,List.length_nil]
  omega
 ·refine ⟨fun i=>?_,fun _=>by decide⟩
  simp only [List.mem_cons,List.not_mem_nil,or_false,List.length_cons,List.length_nil]
  omega
 ·refine ⟨fun i=>?_,fun _=>by decide⟩
  simp only [List.mem_cons,List.not_mem_nil,or_false,List.length_cons,List.length_nil]
  omega
theorem pls_ok {sh:Sht} {n:Nat} {A B C:List (Int × Rw)} (h:Pls sh n A B C) (so:Str):∀ t ∈ P3 sh A B C,PlOk so (t.2.map (·.1)):=by
 obtain ⟨h1,h2,h3⟩:=h
 have h2':(if sh.b then B else C).map (·.1) = [0,1]\/(if sh.b then B else C).map (·.1) = [0,1,2]:=by
  rw [h2]
  by_cases e:n = 2
  ·rw [if_pos e];exact .inr rfl
  ·rw [if_neg e];exact .inl rfl
 intro t ht
 have ht':t = (sh.z0,A)\/t = (sh.z1,B)\/t = (sh.z2,C):=by simpa [P3] using ht
 cases hb:sh.b with
 | true=>
  rw [hb,if_pos rfl] at h2' h3
  rcases ht' with rfl | rfl | rfl
  ·exact plok_of (.inl h1)
  ·exact plok_of (.inr h2')
  ·exact plok_of (.inl h3)
 | false=>
  rw [hb,if_neg Bool.false_ne_true] at h2' h3
  rcases ht' with rfl | rfl | rfl
  ·exact plok_of (.inl h1)
  ·exact plok_of (.inl h3)
  ·exact plok_of (.inr h2')
theorem rowsT_pl (so c0 c1:Str) (t:Nat):(byRow (rowsT so c0 c1 t)).map (·.1) = if so = "many" then [0,1] else [0]:=by
 unfold byRow rowsT
 split <;> rfl
theorem tab14 {sh:Sht} (d:Dst sh) (c0 c1:Str):tab (pcT14 c0 c1 sh.ls) sh.z0 = rowsT "head" c0 c1 0/\tab (pcT14 c0 c1 sh.ls) sh.z1 = rowsT (srtB sh.b).1 c0 c1 1/\tab (pcT14 c0 c1 sh.ls) sh.z2 = rowsT (srtB sh.b).2 c0 c1 2:=by
 have e:pcT14 c0 c1 sh.ls = [(sh.z0,rowsT "head" c0 c1 0),(sh.z1,rowsT (srtB sh.b).1 c0 c1 1),(sh.z2,rowsT (srtB sh.b).2 c0 c1 2)]:=rfl
 rw [e]
 refine ⟨?_,?_,?_⟩
 ·simp [tab]
 ·simp [tab,d.h01]
 ·simp [tab,d.h02,d.h12]
theorem pls_0 {sh:Sht} (d:Dst sh) (c0 c1:Str) (k:Int):Pls sh 0 (plc [(k,pcT14 c0 c1 sh.ls)] k sh.z0) (plc [(k,pcT14 c0 c1 sh.ls)] k sh.z1) (plc [(k,pcT14 c0 c1 sh.ls)] k sh.z2):=by
 have e:∀ z,plc [(k,pcT14 c0 c1 sh.ls)] k z = byRow (tab (pcT14 c0 c1 sh.ls) z):=fun z=>by unfold plc;rw [List.find?_cons_of_pos (by simp)]
 obtain ⟨t0,t1,t2⟩:=tab14 d c0 c1
 rw [e,e,e,t0,t1,t2]
 have en:(if 0 = 2 then [0,1,2] else [0,1]:List Int) = [0,1]:=if_neg (by decide)
 refine ⟨?_,?_,?_⟩
 ·rw [rowsT_pl,if_neg (by decide +kernel)]
 ·rw [en]
  cases sh.b with
  | true=>rw [if_pos rfl,rowsT_pl];rfl
  | false=>rw [if_neg Bool.false_ne_true,rowsT_pl];rfl
 ·cases sh.b with
  | true=>rw [if_pos rfl,rowsT_pl];rfl
  | false=>rw [if_neg Bool.false_ne_true,rowsT_pl];rfl
theorem tab_le {sh:Sht} (c0 c1 z:Str):(tab (pcT14 c0 c1 sh.ls) z).length ≤ 2:=by
 have key:∀ t ∈ pcT14 c0 c1 sh.ls,t.2.length ≤ 2:=fun t ht=>by
  obtain ⟨i,hi⟩:=List.getElem?_of_mem ht
  unfold pcT14 at hi
  rw [List.getElem?_mapIdx] at hi
  cases hs:sh.ls[i]? with
  | none=>rw [hs] at hi;cases hi
  | some s=>
   rw [hs] at hi
   cases hi
   show (rowsT s.2 c0 c1 i).length ≤ 2
   unfold rowsT
   split <;> simp
 unfold tab
 cases e:(pcT14 c0 c1 sh.ls).find? fun t=>decide (t.1 = z) with
 | none=>exact Nat.zero_le _
 | some t=>exact key t (List.mem_of_find?_eq_some e)
theorem pc14_ok {sh:Sht} (d:Dst sh) {c0 c1:Str} (h:c0 ≠ c1):PcOk (pcT14 c0 c1 sh.ls):=by
 refine ⟨?_,by show 3 ≤ 8;decide,fun t ht=>?_,fun t ht row hr=>?_⟩
 ·rw [pcT14_names]
  simp [Sht.ls,d.h01,d.h02,d.h12]
 ·obtain ⟨i,hi⟩:=List.getElem?_of_mem ht
  unfold pcT14 at hi
  rw [List.getElem?_mapIdx] at hi
  cases hs:sh.ls[i]? with
  | none=>rw [hs] at hi;cases hi
  | some s=>
   rw [hs] at hi
   cases hi
   show (rowsT s.2 c0 c1 i).length ≤ 1000
   unfold rowsT
   split <;> simp
 ·obtain ⟨i,hi⟩:=List.getElem?_of_mem ht
  unfold pcT14 at hi
  rw [List.getElem?_mapIdx] at hi
  cases hs:sh.ls[i]? with
  | none=>rw [hs] at hi;cases hi
  | some s=>
   rw [hs] at hi
   cases hi
   change row ∈ rowsT s.2 c0 c1 i at hr
   unfold rowsT at hr
   split at hr
   ·rcases List.mem_cons.mp hr with rfl | hr
    ·exact rowT_ok h _ _
    ·rw [List.mem_singleton.mp hr];exact rowT_ok h _ _
   ·rw [List.mem_singleton.mp hr];exact rowT_ok h _ _
end My
namespace L2
open PySem PySem.Spec PyProof.Rows
theorem cut_to {xs:List V} {k:Int} (h0:0 ≤ k) (h1:k ≤ xs.length):cutV xs none (some k) = xs.take k.toNat:=by
 unfold cutV
 have e:HT.sIx xs.length xs.length (some k) = k.toNat:=by
  have e:=HT.clip_eq k xs.length xs.length
  rw [if_neg (by omega)] at e
  omega
 rw [e,HT.sIx_none,List.drop_zero,Nat.sub_zero]
theorem cut_nat {xs:List V} {n:Nat}:cutV xs none (some ((n:Nat):Int)) = xs.take n:=by
 unfold cutV
 rw [HT.sIx_nat,HT.sIx_none,List.drop_zero,Nat.sub_zero]
 by_cases h:n ≤ xs.length
 ·rw [Nat.min_eq_left h]
 ·rw [Nat.min_eq_right (by omega),List.take_of_length_le (Nat.le_refl _),List.take_of_length_le (by omega)]
end L2
namespace My
open PySem L2 PyProof.Rows
seal L2.PE L2.PT L2.PW L2.PS L2.PSs L2.PA L2.PI L2.PG L2.PGs L2.OpR L2.UnR L2.CallR L2.IxR L2.SlR L2.MtR L2.PIf L2.PO L2.MtM L2.PC
def lwN:List Str:=["_law_script","_law_sheets_here","_law_columns","_law_size","_law_key","_law_shape","_law_form","_law_plain","_law_good_here","_law_step_here","_law_later","_law_found"]
theorem srt1 {α:Type} (x:Int × α):srt [x] = [x]:=List.mergeSort_singleton _
theorem srt0 {α:Type}:srt ([]:List (Int × α)) = []:=List.mergeSort_nil
theorem gd_at {K:PySem.W.Frag} {H:Hp} {sh:Sht} {c0 c1:Str} {k sz:Int} {x0 x1 x2 w o:Addr} (g:Gd3 H sh c0 c1 k x0 x1 x2) (h01:c0 ≠ c1) (hw:H w = some (.tup [.str "whole"])) (ho:H o = some (.tup [.str "word"])) (k0:0 ≤ k) (k1:k < sz) {n:Nat} {x:Addr} {s:Stp} (h1:[x0,x1,x2][n]? = some x) (h2:(stps sh c0 c1 k)[n]? = some s):GoodAt K H sz (tabs sh [(c0,w),(c1,o)]) x s:=by
 have hzm:∃ T ∈ tabs sh [(c0,w),(c1,o)],T.name = sh.zm/\T.sort = "many"/\T.cols = [(c0,w),(c1,o)]:=by
  cases hb:sh.b with
  | true=>exact ⟨⟨sh.z1,(srtB sh.b).1,_⟩,by simp [tabs],by unfold Sht.zm;rw [hb];rfl,by rw [hb];rfl,rfl⟩
  | false=>exact ⟨⟨sh.z2,(srtB sh.b).2,_⟩,by simp [tabs],by unfold Sht.zm;rw [hb];rfl,by rw [hb];rfl,rfl⟩
 have row:∀ {T:Tb} {r:Addr} {i:Int} {z:Str},T.cols = [(c0,w),(c1,o)]->H r = some (.dK (rK (rowT c0 c1 i z)))->RowIs K H T (.ref r) true:=fun hT hr=>row_two (n:="int") (m:="str") h01 hT hw ho hr Is.int Is.str
 match n,h1,h2 with
 | 0,h1,h2=>
  cases h1
  cases h2
  obtain ⟨r,e1,e2⟩:=g.s0
  exact ⟨⟨sh.z0,"head",_⟩,_,by simp [tabs],rfl,e1,k0,k1,Int.le_refl _,.inl rfl,.inr ⟨(by decide +kernel:("set":Str) ≠ "cut"),r,rfl,e2,rowT_ok h01 _ _,row rfl e2⟩⟩
 | 1,h1,h2=>
  cases h1
  cases h2
  obtain ⟨r,e1,e2⟩:=g.s1
  obtain ⟨T,t1,t2,t3,t4⟩:=hzm
  exact ⟨T,_,t1,t2,e1,k0,k1,(by decide:(0:Int) ≤ 2),.inr (by rw [t3];decide +kernel),.inr ⟨(by decide +kernel:("add":Str) ≠ "cut"),r,rfl,e2,rowT_ok h01 _ _,row t4 e2⟩⟩
 | 2,h1,h2=>
  cases h1
  cases h2
  obtain ⟨T,t1,t2,t3,t4⟩:=hzm
  exact ⟨T,_,t1,t2,g.s2,k0,k1,(by decide:(0:Int) ≤ 2),.inr (by rw [t3];decide +kernel),.inl rfl⟩
structure Mid (CP:Addr) (K:PySem.W.Frag) (H1:Hp) (l lc x w o:Addr) (sz key:Int) (sh:Sht) (c0 c1 c2:Str) (us:List En):Prop where
 shl:ShL H1 l sh
 shn:ShN sh
 cl:ColL H1 lc c0 c1 c2
 hw:H1 w = some (.tup [.str "whole"])
 ho:H1 o = some (.tup [.str "word"])
 k0:0 ≤ key
 k1:key < sz
 pl:PlAt CP H1 x sz (tabs sh [(c0,w),(c1,o)]) us
 us_:us.map kc = [(key,pcT14 c0 c1 sh.ls)]
theorem Mid.same {CP:Addr} {K:PySem.W.Frag} {H1 H2:Hp} {l lc x w o:Addr} {sz key:Int} {sh:Sht} {c0 c1 c2:Str} {us:List En} (h:Mid CP K H1 l lc x w o sz key sh c0 c1 c2 us) (s:Same H1 H2):Mid CP K H2 l lc x w o sz key sh c0 c1 c2 us:=⟨h.shl.same s,h.shn,h.cl.same s,s _ _ h.hw,s _ _ h.ho,h.k0,h.k1,h.pl.same s,h.us_⟩
section
variable {P:Program} {w:World} {K:PySem.W.Frag} {mg:Str->Option Value} {base:Heap} {CP CO CM:Addr}
theorem ok_law {f fC fN fS fL fG fT fR fI fJ fH fP fW:Addr} {fd fdC fdN fdS fdL fdG fdT fdR fdI fdJ fdH fdP fdW:FuncData} (F:Fun K "law" "law" (top 50) f fd) (B:Bl mg) (DC:Df K mg "_law_cell" (top 39) fC fdC) (DN:Df K mg "_law_names" (top 40) fN fdN) (DS:Df K mg "_law_sheets" (top 44) fS fdS) (DL:Df K mg "_law_piece" (top 48) fL fdL) (DG:Df K mg "_law_good" (top 49) fG fdG)
  (DT:Df K mg "_law_step" (top 45) fT fdT) (GT:FnOk P w K mg base CX0 2 fT fdT ["_law_script","_law_sheets_here","_law_columns","_law_size","_law_key"] (spStep K CO CM)) (DR:Df K mg "_law_refused" (top 46) fR fdR) (GR:FnOk P w K mg base CX0 7 fR fdR ["_law_plain","_law_steps"] (spRefd K CP CO CM)) (DI:Df K mg "_law_right" (top 47) fI fdI)
  (L:ClP K CP) (MP:Mk K CP fJ) (mP:mg "Plain" = some (.ref CP)) (GJ:FnOk P w K mg base CX0 5 fJ fdJ ["self","form","things"] (spPInit CP)) (bJ:Binds K fdJ ["self","form","things"] [])
  (mH:Meth K CP "held" fH) (gH:FnOk P w K mg base CX0 1 fH fdH ["self"] (spHeld CP)) (bH:Binds K fdH ["self"] []) (mPc:Meth K CP "piece" fP) (gP:FnOk P w K mg base CX0 2 fP fdP ["self","key"] (spPiece CP)) (bP:Binds K fdP ["self","key"] [])
  (mW:Meth K CP "write" fW) (gW:FnOk P w K mg base (CX1 P w) 6 fW fdW ["self","steps"] (spWrite K CP CO CM)) (bW:Binds K fdW ["self","steps"] []) :
  FnOk P w K mg base CX0 8 f fd ["_law_script"] (spLaw K):=by
 have sc:FnScope lwN ["_law_script"] (defScope (top 50)):=⟨rfl,rfl,rfl,by decide +kernel,rfl,by decide +kernel,by decide +kernel⟩
 have GC:FnOk P w K mg base CX0 1 fC fdC ["_law_script","_law_k"] (spCel K):=ok_cel DC.fn B
 have bC:=DC.fn.binds (ps:=["_law_script","_law_k"]) fun _ _ _ _ _ _ us hl=>by obtain ⟨v0,v1,rfl⟩:=L2.ln2 hl;rfl
 have GN:FnOk P w K mg base CX0 1 fN fdN ["_law_cell_here","_law_many"] spNames:=ok_names DN.fn B
 have bN:=DN.fn.binds (ps:=["_law_cell_here","_law_many"]) fun _ _ _ _ _ _ us hl=>by obtain ⟨v0,v1,rfl⟩:=L2.ln2 hl;rfl
 have GS:FnOk P w K mg base CX0 2 fS fdS ["_law_script"] (spShs K):=ok_shs DS.fn B DC DN
 have bS:=DS.fn.binds (ps:=["_law_script"]) fun _ _ _ _ _ _ us hl=>by obtain ⟨v0,rfl⟩:=L2.ln1 hl;rfl
 have GL:FnOk P w K mg base CX0 1 fL fdL ["_law_sheets_here","_law_columns"] spPc14:=ok_pc14 DL.fn B
 have bL:=DL.fn.binds (ps:=["_law_sheets_here","_law_columns"]) fun _ _ _ _ _ _ us hl=>by obtain ⟨v0,v1,rfl⟩:=L2.ln2 hl;rfl
 have GG:FnOk P w K mg base CX0 1 fG fdG ["_law_sheets_here","_law_columns","_law_key"] spGood:=ok_good DG.fn B
 have bG:=DG.fn.binds (ps:=["_law_sheets_here","_law_columns","_law_key"]) fun _ _ _ _ _ _ us hl=>by obtain ⟨v0,v1,v2,rfl⟩:=L2.ln3 hl;rfl
 have bT:=DT.fn.binds (ps:=["_law_script","_law_sheets_here","_law_columns","_law_size","_law_key"]) fun _ _ _ _ _ _ us hl=>match us,hl with | [_,_,_,_,_],_=>rfl
 have bR:=DR.fn.binds (ps:=["_law_plain","_law_steps"]) fun _ _ _ _ _ _ us hl=>by obtain ⟨v0,v1,rfl⟩:=L2.ln2 hl;rfl
 have GI:FnOk P w K mg base CX0 1 fI fdI ["_law_found","_law_step_here","_law_absent"] (spRight K):=ok_right DI.fn B
 have bI:=DI.fn.binds (ps:=["_law_found","_law_step_here","_law_absent"]) fun _ _ _ _ _ _ us hl=>by obtain ⟨v0,v1,v2,rfl⟩:=L2.ln3 hl;rfl
 have gW0:FnOk P w K mg base CX0 6 fW fdW ["self","steps"] (fun vs H Q _=>spWrite K CP CO CM vs H Q (fun _ _ _=>False)):=gW.sink fun vs H Q E h=>h
 refine F.ok sc (fun vs H Q E h=>?_) (fun cdv A outer s H vs Q E hr h=>?_)
 ·obtain ⟨a,ns,rfl,_⟩:=h
  rfl
 ·obtain ⟨a,ns,rfl,hS,h63,q⟩:=h
  have hr1:Room 1 _:=hr.mono (by decide)
  have hr2:Room 2 _:=hr.mono (by decide)
  have hr6:Room 6 _:=hr.mono (by decide)
  have hu0:(A.deeper (envOfC "law" (defScope (top 50)) s.heap.objs.size f cdv)).units + 0 + 1 < cLine:=by have:=hr.un;omega
  have hu3:(A.deeper (envOfC "law" (defScope (top 50)) s.heap.objs.size f cdv)).units + 2 + 1 < cLine:=by have:=hr.un;omega
  refine split_at 7 (fun σ H1=>∃ (l lc x w o ct fo:Addr) (sz key:Int) (sh:Sht) (c0 c1 c2:Str) (us:List En),σ = [some (.ref a),some (.ref l),some (.ref lc),some (.int sz),some (.int key),some (.ref ct),some (.ref fo),some (.ref x),none,none,none,none]/\Same H H1/\Mid CP K H1 l lc x w o sz key sh c0 c1 c2 us) ?_ ?_
  ·refine ⟨_,pss_cons (ps_set (i:=1) sc.nd rfl (Or.inl rfl) (pe_call GS hr2 (by rfl) DS.mg DS.fn.kp bS .nil pass0 (pa_cons (pv 0) pa_nil)))
    (pss_cons (ps_set (i:=2) sc.nd rfl (Or.inl rfl) (pe_call GN hr1 (by rfl) DN.mg DN.fn.kp bN .nil pass0 (pa_cons (pe_call GC hr1 (by rfl) DC.mg DC.fn.kp bC .nil pass0 (pa_cons (pv 0) (pa_cons pe_int pa_nil))) (pa_cons pe_int pa_nil))))
    (pss_cons (ps_set (i:=3) sc.nd rfl (Or.inl rfl) (pe_op op_add pe_int (pe_op op_mod (pe_call GC hr1 (by rfl) DC.mg DC.fn.kp bC .nil pass0 (pa_cons (pv 0) (pa_cons pe_int pa_nil))) (pe_op op_pow pe_int pe_int))))
    (pss_cons (ps_set (i:=4) sc.nd rfl (Or.inl rfl) (pe_op op_mod (pe_call GC hr1 (by rfl) DC.mg DC.fn.kp bC .nil pass0 (pa_cons (pv 0) (pa_cons pe_int pa_nil))) (pv 3)))
    (pss_cons (ps_set (i:=5) sc.nd rfl (Or.inr rfl) (pe_tupF (pa_cons (pe_tup (pa_cons (pe_ix ix_list (pv 2) pe_int (fun _ _=>rfl)) (pa_cons (pe_tup (pa_cons pe_str pa_nil)) pa_nil))) (pa_cons (pe_tup (pa_cons (pe_ix ix_list (pv 2) pe_int (fun _ _=>rfl)) (pa_cons (pe_tup (pa_cons pe_str pa_nil)) pa_nil))) pa_nil))))
    (pss_cons (ps_set (i:=6) sc.nd rfl (Or.inl rfl) (pe_tup (pa_cons (pv 3) (pa_cons (pe_callTy call_tuple_of (by rfl) B.tuple boot_tuple (pa_cons (pe_comp (osc:=defScope (top 50)) (N0:=lwN) (xs:=["_law_sheet"]) (fr:=[5]) ⟨rfl,by decide +kernel,by decide +kernel,by decide +kernel,(fun j hj=>by
        have e:j = 5:=by simpa using hj
        rcases e with rfl
        exact ⟨_,rfl,by decide +kernel⟩),by decide +kernel⟩ rfl rfl rfl (pi_list (pe_slice sl_list (pv 1) po_none (po_some pe_int)))
      (fun s H fp=>pg_name (i:=0) (show (["_law_sheet","_law_shape"]:List Str).Nodup by decide +kernel) rfl (Or.inl rfl)) (fun s H fp=>pif_nil)
      (fun s H fp=>pe_tup (pa_cons (pe_ix (r:=rIxT K) ix_tup (pv 0) pe_int (fun _ _=>rfl)) (pa_cons (pe_ix (r:=rIxT K) ix_tup (pv 0) pe_int (fun _ _=>rfl)) (pa_cons (pv 1) pa_nil))))) pa_nil)) pa_nil))))
    (pss_one (ps_set (i:=7) sc.nd rfl (Or.inl rfl) (pe_make MP GJ hr6 (by rfl) mP bJ .nil pass0 (pa_cons (pv 6) (pa_cons (pe_disp (pps_cons (pv 4) (pe_call GL hr1 (by rfl) DL.mg DL.fn.kp bL .nil pass0 (pa_cons (pv 1) (pa_cons (pv 2) pa_nil))) pps_nil) rfl rfl (by simp) (by decide)) pa_nil)))))))))),?_⟩
   refine ⟨_,rfl,a,ns,rfl,hS,fun l sh H1 s1 hsh hn=>?_⟩
   refine ⟨_,rfl,a,ns,1,rfl,s1.seq hS,by decide,fun cc=>⟨cc,3,rfl,by decide,by decide,fun lc zs H2 s2 hlc hzl hnd _=>?_⟩⟩
   obtain ⟨c0,c1,c2,rfl⟩:∃ c0 c1 c2,zs = [c0,c1,c2]:=by
    match zs,hzl with
    | [c0,c1,c2],_=>exact ⟨c0,c1,c2,rfl⟩
   have hc2:H2 lc = some (.lst [.str c0,.str c1,.str c2]):=cut_sub _ _ hlc
   have S2:=s1.trans s2
   simp only [List.nodup_cons,List.mem_cons,List.not_mem_nil,not_or,or_false] at hnd
   have hcl:ColL H2 lc c0 c1 c2:=⟨hc2,hnd.1.1,hnd.1.2,hnd.2.1⟩
   refine ⟨_,rfl,a,ns,2,rfl,S2.seq hS,by decide,fun c2'=>⟨_,_,rfl,rfl,⟨by decide,by decide,by decide⟩,_,_,rfl,rfl,(pos (by decide +kernel)),_,_,rfl,rfl,?_⟩⟩
   have hsz:1 ≤ 1 + c2' % ((10:Int) ^ (12:Int).toNat):=by
    have:=Int.emod_nonneg c2' (show (10:Int) ^ (12:Int).toNat ≠ 0 by decide +kernel)
    omega
   dsimp only
   generalize 1 + c2' % ((10:Int) ^ (12:Int).toNat) = sz at *
   refine ⟨_,rfl,a,ns,3,rfl,S2.seq hS,by decide,fun c3=>⟨_,rfl,_,_,rfl,rfl,(show (0:Int) < sz by omega),?_⟩⟩
   have hk0:=Int.emod_nonneg c3 (show sz ≠ 0 by omega)
   have hk1:=Int.emod_lt_of_pos c3 (show 0 < sz by omega)
   dsimp only
   generalize c3 % sz = key at *
   have g0:atI [V.str c0,.str c1,.str c2] 0 = some (.str c0):=atI_nat (j:=0) rfl
   have g1:atI [V.str c0,.str c1,.str c2] 1 = some (.str c1):=atI_nat (j:=1) rfl
   refine ⟨_,rfl,lc,_,0,_,rfl,rfl,SqL.of hc2,g0,(by show 1 ≤ sizeLine;decide),fun w hw=>?_⟩
   have T3:=Same.upd (o:=.tup [.str "whole"]) hw
   have w3:(upd H2 w (.tup [.str "whole"])) w = some (.tup [.str "whole"]):=upd_same
   generalize upd H2 w (.tup [.str "whole"]) = H3 at *
   refine ⟨(by show 2 ≤ sizeLine;decide),fun q0 hq0=>?_⟩
   have T4:=Same.upd (o:=.tup [.str c0,.ref w]) hq0
   have q4:(upd H3 q0 (.tup [.str c0,.ref w])) q0 = some (.tup [.str c0,.ref w]):=upd_same
   generalize upd H3 q0 (.tup [.str c0,.ref w]) = H4 at *
   have T34:=T3.trans T4
   refine ⟨_,rfl,lc,_,1,_,rfl,rfl,SqL.of (T34 _ _ hc2),g1,(by show 1 ≤ sizeLine;decide),fun o ho=>?_⟩
   have T5:=Same.upd (o:=.tup [.str "word"]) ho
   have o5:(upd H4 o (.tup [.str "word"])) o = some (.tup [.str "word"]):=upd_same
   generalize upd H4 o (.tup [.str "word"]) = H5 at *
   refine ⟨(by show 2 ≤ sizeLine;decide),fun q1 hq1=>?_⟩
   have T6:=Same.upd (o:=.tup [.str c1,.ref o]) hq1
   have q6:(upd H5 q1 (.tup [.str c1,.ref o])) q1 = some (.tup [.str c1,.ref o]):=upd_same
   generalize upd H5 q1 (.tup [.str c1,.ref o]) = H6 at *
   refine ⟨(by show 2 ≤ sizeLine;decide),fun ct ob hct hob=>?_⟩
   have T7:=Same.upd (o:=.frz ob (.tup [.ref q0,.ref q1])) hct
   have c7:(upd H6 ct (.frz ob (.tup [.ref q0,.ref q1]))) ct = some (.frz ob (.tup [.ref q0,.ref q1])):=upd_same
   generalize upd H6 ct (.frz ob (.tup [.ref q0,.ref q1])) = H7 at *
   have hcols:ColsAt H7 ct [(c0,w),(c1,o)]:=⟨ob,[q0,q1],hob,c7,rfl,fun j p c e1 e2=>by
    match j,e1,e2 with
    | 0,e1,e2=>cases e1;cases e2;exact (T5.trans (T6.trans T7)) _ _ q4
    | 1,e1,e2=>cases e1;cases e2;exact T7 _ _ q6⟩
   have w7:=(T4.trans (T5.trans (T6.trans T7))) _ _ w3
   have o7:=(T6.trans T7) _ _ o5
   have S27:Same H2 H7:=T34.trans (T5.trans (T6.trans T7))
   have S7:Same H H7:=S2.trans S27
   have hsh7:=hsh.same (s2.trans S27)
   obtain ⟨a0,a1,a2,a3,hl,b0,b1,b2,b3⟩:=id hsh7
   refine ⟨_,rfl,_,rfl,_,rfl,l,_,rfl,SqL.of hl,fun l8 hl8=>?_⟩
   rw [cut_to (xs:=[V.ref a0,.ref a1,.ref a2,.ref a3]) (k:=3) (by decide) (by show (3:Int) ≤ 4;decide)]
   generalize hX:upd H7 l8 _ = H8
   have T8:Same H7 H8:=hX ▸ Same.upd hl8
   have l88:H8 l8 = some (.lst [V.ref a0,.ref a1,.ref a2]):=by rw [← hX];exact upd_same
   clear hX
   refine ⟨l8,rfl,⟨_,SqL.of l88⟩,fun D hD=>?_⟩
   have get:∀ i < 3,∃ (ai:Addr) (T:Tb),[V.ref a0,.ref a1,.ref a2][i]? = some (.ref ai)/\H7 ai = some (.tup [.str T.name,.str T.sort])/\(tabs sh [(c0,w),(c1,o)])[i]? = some T/\T.cols = [(c0,w),(c1,o)]:=fun i hi=>by
    match i,hi with
    | 0,_=>exact ⟨a0,_,rfl,b0,rfl,rfl⟩
    | 1,_=>exact ⟨a1,_,rfl,b1,rfl,rfl⟩
    | 2,_=>exact ⟨a2,_,rfl,b2,rfl,rfl⟩
   refine compW_idx 3 (fun i ys σ' Hc=>(∃ t,σ' = [t,some (.ref ct)])/\Same H8 Hc/\∃ qs:List Addr,ys = qs.map V.ref/\∀ (j:Nat) (p:Addr) (T:Tb),qs[j]? = some p->(tabs sh [(c0,w),(c1,o)])[j]? = some T->p ≠ D/\Hc p = some (.tup [.str T.name,.str T.sort,.ref ct])) (by rw [sizeLine_eq];decide) ⟨⟨none,rfl⟩,Same.upd hD,[],rfl,fun j p T h=>nomatch h⟩ upd_same ?_ ?_
   ·rintro i σ' Hc ys hi ⟨⟨t,rfl⟩,sm,qs,rfl,hqs⟩ hyl hD'
    rw [List.length_map] at hyl
    obtain ⟨ai,T,e1,e2,e3,_⟩:=get i hi
    refine ⟨⟨_,_,SqL.of (sm _ _ l88),e1⟩,?_⟩
    rintro y H'' ⟨rfl,hx'⟩
    have ex:=hx' _ (SqL.of (sm _ _ l88))
    rw [e1] at ex
    cases ex
    have ai8:=(T8.trans sm) _ _ e2
    refine ⟨_,rfl,ai,_,0,_,rfl,rfl,SqT.of ai8,atI_nat (j:=0) rfl,_,rfl,ai,_,1,_,rfl,rfl,SqT.of ai8,atI_nat (j:=1) rfl,_,rfl,(by show 3 ≤ sizeLine;decide),fun p hp=>?_⟩
    have T9:=Same.upd (o:=.tup [.str T.name,.str T.sort,.ref ct]) hp
    have pD:p ≠ D:=fun e=>by rw [e,hD'] at hp;cases hp
    refine ⟨T9 _ _ hD',⟨_,rfl⟩,(sm.trans T9).put hD,qs ++ [p],by rw [List.map_append];rfl,fun j p' T' h1 h2=>?_⟩
    by_cases hj:j < qs.length
    ·rw [List.getElem?_append_left hj] at h1
     obtain ⟨e1,e2⟩:=hqs j p' T' h1 h2
     exact ⟨e1,by rw [upd_ne e1];exact T9 _ _ e2⟩
    ·have hj':j = qs.length:=by
      have:=(List.getElem?_eq_some_iff.mp h1).1
      rw [List.length_append] at this
      simp at this
      omega
     subst hj'
     rw [List.getElem?_append_right (Nat.le_refl _),Nat.sub_self] at h1
     cases h1
     rw [hyl,e3] at h2
     cases h2
     exact ⟨pD,by rw [upd_ne pD];exact upd_same⟩
   ·rintro σ' Hc ys ⟨_,sm,qs,rfl,hqs⟩ hDn hyl
    rw [List.length_map] at hyl
    refine ⟨⟨_,SqL.of (sm _ _ l88),Nat.le_refl _⟩,D,_,rfl,.inl ⟨SqL.of hDn,fun tt htt=>?_⟩⟩
    have T9:=Same.upd (o:=.tup (qs.map V.ref)) htt
    have t9:(upd Hc tt (.tup (qs.map V.ref))) tt = some (.tup (qs.map V.ref)):=upd_same
    generalize upd Hc tt (.tup (qs.map V.ref)) = H9 at *
    refine ⟨(by show 2 ≤ sizeLine;decide),fun fo hfo=>?_⟩
    have T10:=Same.upd (o:=.tup [.int sz,.ref tt]) hfo
    have f10:(upd H9 fo (.tup [.int sz,.ref tt])) fo = some (.tup [.int sz,.ref tt]):=upd_same
    generalize upd H9 fo (.tup [.int sz,.ref tt]) = H10 at *
    have S710:Same H7 H10:=T8.trans (sm.trans (T9.trans T10))
    have d:=hn.dst
    have hT3:∀ T ∈ tabs sh [(c0,w),(c1,o)],T.cols = [(c0,w),(c1,o)]:=fun T hT=>by
     simp only [tabs,List.mem_cons,List.not_mem_nil,or_false] at hT
     rcases hT with rfl | rfl | rfl <;> rfl
    have hF:FmAt H10 fo sz (tabs sh [(c0,w),(c1,o)]):=by
     refine ⟨⟨tt,qs,f10,T10 _ _ t9,hyl,fun j e T h1 h2=>⟨ct,(T9.trans T10) _ _ (hqs j e T h1 h2).2,?_⟩⟩,?_,by show 3 ≤ 8;decide,fun T hT=>?_,fun T hT c hc=>?_⟩
     ·rw [hT3 T (List.mem_of_getElem? h2)]
      exact hcols.same S710
     ·show [sh.z0,sh.z1,sh.z2].Nodup
      simp [d.h01,d.h02,d.h12]
     ·rw [hT3 T hT]
      exact ⟨by simp [hcl.2.1],by show 2 ≤ 12;decide⟩
     ·rw [hT3 T hT] at hc
      rcases List.mem_cons.mp hc with rfl | hc
      ·exact ⟨"whole",[],S710 _ _ w7,by decide +kernel,by decide +kernel⟩
      ·rw [List.mem_singleton.mp hc]
       exact ⟨"word",[],S710 _ _ o7,by decide +kernel,by decide +kernel⟩
    refine ⟨_,rfl,fun dd hdd=>?_⟩
    have T11:=Same.upd (o:=.dK []) hdd
    have d11:(upd H10 dd (.dK [])) dd = some (.dK []):=upd_same
    generalize upd H10 dd (.dK []) = H11 at *
    have S11:Same H7 H11:=S710.trans T11
    refine ⟨_,rfl,_,rfl,_,rfl,l,lc,sh,c0,c1,c2,rfl,hsh7.same S11,hn,hcl.same (S27.trans S11),fun p H12 s12 hp=>⟨s12 _ _ d11,[(.inl key,.ref p)],rfl,(by show 1 ≤ 15;decide),?_⟩⟩
    have hp13:PcAt (upd H12 dd (.dK [(.inl key,.ref p)])) p (pcT14 c0 c1 sh.ls):=(hp.same (cut_upd d11)).same cut_sub
    have S13:Same H10 (upd H12 dd (.dK [(.inl key,.ref p)])):=(T11.trans s12).put hdd
    have d13:(upd H12 dd (.dK [(.inl key,.ref p)])) dd = some (.dK [(.inl key,.ref p)]):=upd_same
    intro x dx hx hdx ndx
    change (upd H12 dd (.dK [(.inl key,.ref p)])) x = none at hx
    change (upd H12 dd (.dK [(.inl key,.ref p)])) dx = none at hdx
    show spPInit CP [.ref x,.ref fo,.ref dd] (upd (upd (upd H12 dd (.dK [(.inl key,.ref p)])) dx (.own x)) x (.ins CP dx [])) _ _
    generalize upd H12 dd (.dK [(.inl key,.ref p)]) = H13 at *
    have hx':(upd H13 dx (.own x)) x = none:=by rw [upd_ne (Ne.symm ndx)];exact hx
    have S14:Same H13 (upd (upd H13 dx (.own x)) x (.ins CP dx [])):=(Same.upd hdx).trans (Same.upd hx')
    have x14:(upd (upd H13 dx (.own x)) x (.ins CP dx [])) x = some (.ins CP dx []):=upd_same
    generalize upd (upd H13 dx (.own x)) x (.ins CP dx []) = H14 at *
    have hF14:=hF.same (S13.trans S14)
    refine ⟨x,dx,fo,dd,sz,_,[⟨key,p,pcT14 c0 c1 sh.ls⟩],rfl,x14,hF14,⟨S14 _ _ d13,List.nodup_cons.mpr ⟨(fun h=>nomatch h),List.nodup_nil⟩,by show 1 ≤ 63;decide,fun e he=>?_,fun e he=>?_⟩,fun td us H15 x15 fr15 hus hts=>?_⟩
    ·rw [List.mem_singleton.mp he];exact hp13.same S14
    ·rw [List.mem_singleton.mp he];exact pc14_ok d hcl.2.1
    have s15:Same H13 H15:=fun b ob hb=>fr15 b ob (fun e=>by rw [e,hx] at hb;cases hb) (S14 _ _ hb)
    have S15:Same H7 H15:=S710.trans (S13.trans s15)
    have SH15:=S7.trans S15
    refine ⟨rfl,l,lc,x,w,o,ct,fo,sz,key,sh,c0,c1,c2,us,rfl,SH15,hsh7.same S15,hn,hcl.same (S27.trans S15),S15 _ _ w7,S15 _ _ o7,hk0,hk1,⟨⟨dx,fo,td,x15,hF.same (S13.trans s15),hts.same cut_sub⟩,fun e he T hT=>?_⟩,hus⟩
    have hm:kc e ∈ us.map kc:=List.mem_map.mpr ⟨e,he,rfl⟩
    rw [hus] at hm
    have e2:e.pc = pcT14 c0 c1 sh.ls:=congrArg Prod.snd (List.mem_singleton.mp hm)
    rw [e2,pcT14_names]
    exact hT
  ·refine ⟨_,pss_cons (ps_set (i:=8) sc.nd rfl (Or.inl rfl) (pe_slice sl_list (pe_call GG hr1 (by rfl) DG.mg DG.fn.kp bG .nil pass0 (pa_cons (pv 1) (pa_cons (pv 2) (pa_cons (pv 4) pa_nil)))) po_none (po_some (pe_op op_mod (pe_call GC hr1 (by rfl) DC.mg DC.fn.kp bC .nil pass0 (pa_cons (pv 0) (pa_cons pe_int pa_nil))) pe_int))))
    (pss_cons (ps_set (i:=9) sc.nd rfl (Or.inl rfl) (pe_call GT hr2 (by rfl) DT.mg DT.fn.kp bT .nil pass0 (pa_cons (pv 0) (pa_cons (pv 1) (pa_cons (pv 2) (pa_cons (pv 3) (pa_cons (pv 4) pa_nil)))))))
    (pss_cons (ps_set (i:=10) sc.nd rfl (Or.inl rfl) (pe_tup (pa_cons pe_str (pa_cons (pe_ix ix_tup (pe_ix ix_list (pv 1) pe_int (fun _ _=>rfl)) pe_int (fun _ _=>rfl)) (pa_cons (pv 4) (pa_cons pe_int (pa_cons (pe_disp (pps_cons (pe_ix ix_list (pv 2) pe_int (fun _ _=>rfl)) pe_int (pps_cons (pe_ix ix_list (pv 2) pe_int (fun _ _=>rfl)) pe_str pps_nil)) rfl rfl (by simp) (by decide)) pa_nil)))))))
    (pss_cons (ps_set (i:=11) sc.nd rfl (Or.inl rfl) (pe_call GR hr (by rfl) DR.mg DR.fn.kp bR .nil pass0 (pa_cons (pv 7) (pa_cons (pe_op op_cat (pv 8) (pe_lst (pa_cons (pv 9) (pa_cons (pv 10) pa_nil)))) pa_nil))))
    (pss_cons (ps_if (PW.pt (pw_or (pt_cmpR op_isN (pv 11) pe_non (nomark _)) (pw_or1 (pt_not (pt_val (pe_call GI hr1 (by rfl) DI.mg DI.fn.kp bI .nil pass0 (pa_cons (pv 11) (pa_cons (pv 9) (pa_cons (pe_ix ix_tup (pe_ix ix_list (pv 1) pe_int (fun _ _=>rfl)) pe_int (fun _ _=>rfl)) pa_nil))))))))) pss_never pss_nil)
    (pss_cons (ps_if (PW.pt (pw_or (pt_cmpR op_neL (pe_meth0 (pv 7) L.cl mH gH hr1 bH .nil pass0) (pe_lst (pa_cons (pv 4) pa_nil)) (nomark _)) (pw_or1 (pt_cmpR op_neDD (pe_meth (pv 7) L.cl mPc gP hr2 bP .nil pass0 (pa_cons (pv 4) pa_nil)) (pe_call GL hr1 (by rfl) DL.mg DL.fn.kp bL .nil pass0 (pa_cons (pv 1) (pa_cons (pv 2) pa_nil))) (nomark _))))) pss_never pss_nil)
    (pss_one (ps_ret (pe_cmpR op_eqL (pe_meth (pv 7) L.cl mW gW0 hr6 bW .nil pass0 (pa_cons (pv 8) pa_nil)) (pe_slice sl_list (pe_lst (pa_cons (pv 4) pa_nil)) po_none (po_some (pe_callB call_len_seq (by rfl) B.len PySem.boot_len (pa_cons (pv 8) pa_nil)))) (nomark _))))))))),?_⟩
   rintro σ H1 ⟨l,lc,x,w,o,ct,fo,sz,key,sh,c0,c1,c2,us,rfl,S1,M⟩
   have d:=M.shn.dst
   have h01:=M.cl.2.1
   have pls0:Pls sh 0 (plc (us.map kc) key sh.z0) (plc (us.map kc) key sh.z1) (plc (us.map kc) key sh.z2):=by rw [M.us_];exact pls_0 d c0 c1 key
   have tabR:∀ e ∈ us,∀ z,(tab e.pc z).length ≤ 2:=fun e he z=>by
    have hm:kc e ∈ us.map kc:=List.mem_map.mpr ⟨e,he,rfl⟩
    rw [M.us_] at hm
    rw [show e.pc = pcT14 c0 c1 sh.ls from congrArg Prod.snd (List.mem_singleton.mp hm)]
    exact tab_le c0 c1 z
   have usl:us.length = 1:=by rw [← List.length_map (f:=kc),M.us_];rfl
   have tn:(tabs sh [(c0,w),(c1,o)]).map (·.name) = nms sh:=rfl
   refine ⟨_,rfl,_,rfl,_,rfl,l,lc,sh,c0,c1,c2,key,rfl,M.shl,M.cl,fun Lg x0 x1 x2 H2 s2 hL g3=>?_⟩
   refine ⟨_,rfl,a,ns,10,rfl,(S1.trans s2).seq hS,by decide,fun c10=>⟨_,_,rfl,rfl,(pos rfl),_,rfl,Lg,_,rfl,SqL.of hL,fun gl hgl=>?_⟩⟩
   have m0:=Int.emod_nonneg c10 (show (4:Int) ≠ 0 by decide)
   have m1:=Int.emod_lt_of_pos c10 (show (0:Int) < 4 by decide)
   obtain ⟨m,hm⟩:=Int.eq_ofNat_of_zero_le m0
   have m3:m ≤ 3:=by omega
   rw [hm,show cutV [V.ref x0,.ref x1,.ref x2] none (some ((m:Nat):Int)) = [V.ref x0,.ref x1,.ref x2].take m from cut_nat]
   generalize hX:upd H2 gl _ = H3
   have T3:Same H2 H3:=hX ▸ Same.upd hgl
   have gl3:H3 gl = some (.lst (([x0,x1,x2].take m).map V.ref)):=by rw [← hX,upd_same,List.map_take];rfl
   clear hX
   have S3:=s2.trans T3
   have M3:=M.same S3
   have SH3:=S1.trans S3
   have g33:=g3.same T3
   refine ⟨_,rfl,_,rfl,_,rfl,_,rfl,_,rfl,a,l,lc,w,o,ns,sh,c0,c1,c2,sz,key,rfl,SH3.seq hS,M3.shl,M3.shn,M3.cl,M3.hw,M3.ho,M.k0,M.k1,fun xb C z kx px nk np H4 s4 hbad hk hp hz=>?_⟩
   have M4:=M3.same s4
   obtain ⟨a0,a1,a2,a3,hl,b0,b1,b2,b3⟩:=id M4.shl
   have q0:atI [V.str c0,.str c1,.str c2] 0 = some (.str c0):=atI_nat (j:=0) rfl
   have q1:atI [V.str c0,.str c1,.str c2] 1 = some (.str c1):=atI_nat (j:=1) rfl
   refine ⟨_,rfl,l,_,0,_,rfl,rfl,SqL.of hl,atI_nat (j:=0) rfl,a0,_,0,_,rfl,rfl,SqT.of b0,atI_nat (j:=0) rfl,_,rfl,fun dd hdd=>?_⟩
   have T5:=Same.upd (o:=.dK []) hdd
   have d5:(upd H4 dd (.dK [])) dd = some (.dK []):=upd_same
   generalize upd H4 dd (.dK []) = H5 at *
   refine ⟨_,rfl,lc,_,0,_,rfl,rfl,SqL.of (T5 _ _ M4.cl.1),q0,_,rfl,lc,_,1,_,rfl,rfl,SqL.of (T5 _ _ M4.cl.1),q1,d5,two c0 c1 (.int 1) (.str ""),rfl,(by show 2 ≤ 15;decide),?_⟩
   rw [two_disp h01]
   generalize hX:upd H5 dd _ = H6
   have T6:Same H4 H6:=hX ▸ T5.put hdd
   clear hX
   refine ⟨(by show 5 ≤ sizeLine;decide),fun xl hxl=>?_⟩
   generalize hX:upd H6 xl _ = H7
   have T7:Same H6 H7:=hX ▸ Same.upd hxl
   clear hX
   have S47:=T6.trans T7
   have M7:=M4.same S47
   refine ⟨_,rfl,_,rfl,_,rfl,_,rfl,(by show 2 ≤ sizeLine;decide),fun l8 hl8=>?_⟩
   have T8:=Same.upd (o:=.lst [.ref xb,.ref xl]) hl8
   have l88:(upd H7 l8 (.lst [.ref xb,.ref xl])) l8 = some (.lst [.ref xb,.ref xl]):=upd_same
   generalize upd H7 l8 (.lst [.ref xb,.ref xl]) = H8 at *
   have S38:=s4.trans (S47.trans T8)
   have gl8:=S38 _ _ gl3
   refine ⟨gl,l8,_,_,rfl,rfl,gl8,l88,(by rw [List.length_map,List.length_take,sizeLine_eq];show min m 3 + 2 ≤ _;omega),fun lq hlq=>?_⟩
   generalize hX:upd H8 lq _ = H9
   have T9:Same H8 H9:=hX ▸ Same.upd hlq
   have lq9:H9 lq = some (.lst (([x0,x1,x2].take m ++ [xb,xl]).map V.ref)):=by rw [← hX,upd_same,List.map_append];rfl
   clear hX
   have S39:=S38.trans T9
   have S49:=S47.trans (T8.trans T9)
   have M9:=M3.same S39
   have g9:=g33.same S39
   have ssl:((stps sh c0 c1 key).take m).length = m:=by rw [List.length_take];show min m 3 = m;omega
   have xsl:([x0,x1,x2].take m).length = m:=by rw [List.length_take];show min m 3 = m;omega
   have bad9:BadAt K H9 sz (tabs sh [(c0,w),(c1,o)]) CO CM xb C z kx px:=by
    obtain ⟨vb,rest,e1,e2⟩:=hbad
    refine ⟨vb,rest,S49 _ _ e1,?_⟩
    rcases e2 with e2 | ⟨T,nk',np',kb,pb,rb,f1,f2,f3,f4,f5,f6,f7,f8,f9⟩
    ·exact .inl e2
    ·exact .inr ⟨T,nk',np',kb,pb,rb,f1,f2,f3.same S49,f4,f5.same S49,f6,f7.same S49,f8,f9⟩
   obtain ⟨nm,hC,hzn⟩:∃ nm:Str,((C = CO/\nm = "NoTable")\/(C = CM/\nm = "BadRow"))/\((z = sh.z3/\nm = "NoTable")\/(z ≠ sh.z3/\nm = "BadRow")):=by
    rcases hz with ⟨h1,h2⟩ | ⟨h1,h2⟩
    ·exact ⟨_,.inl ⟨h2,rfl⟩,.inl ⟨h1,rfl⟩⟩
    ·exact ⟨_,.inr ⟨h2,rfl⟩,.inr ⟨h1,rfl⟩⟩
   have hcan:∀ (j:Nat) (s:Stp),((stps sh c0 c1 key).take m)[j]? = some s->canS ((tabs sh [(c0,w),(c1,o)]).map (·.name)) (us.map kc) (runS ((tabs sh [(c0,w),(c1,o)]).map (·.name)) (us.map kc) (((stps sh c0 c1 key).take m).take j)) s:=fun j s hj=>by
    have hjm:j < m:=by
     have:=(List.getElem?_eq_some_iff.mp hj).1
     omega
    rw [List.getElem?_take,if_pos hjm] at hj
    rw [tn,List.take_take,Nat.min_eq_left (by omega)]
    exact can_at d pls0 hj
   have hgood:∀ {Hq:Hp} {more:List Addr},Same H3 Hq->∀ (j:Nat) (x:Addr) (s:Stp),([x0,x1,x2].take m ++ more)[j]? = some x->((stps sh c0 c1 key).take m)[j]? = some s->GoodAt K Hq sz (tabs sh [(c0,w),(c1,o)]) x s:=fun {Hq more} sq j x s h1 h2=>by
    have hjm:j < m:=by
     have:=(List.getElem?_eq_some_iff.mp h2).1
     omega
    rw [List.getElem?_append_left (by omega),List.getElem?_take,if_pos hjm] at h1
    rw [List.getElem?_take,if_pos hjm] at h2
    exact gd_at (g33.same sq) h01 (sq _ _ M3.hw) (sq _ _ M3.ho) M.k0 M.k1 h1 h2
   refine ⟨x,lq,sz,_,us,[x0,x1,x2].take m ++ [xb,xl],(stps sh c0 c1 key).take m,2,xb,C,z,nm,kx,px,rfl,M9.pl,lq9,hgood S39,hcan,tabR,(by rw [ssl];omega),(by rw [ssl,usl];omega),(by rw [ssl,List.getElem?_append_right (by omega),xsl,Nat.sub_self];rfl),bad9,hC,fun t H10 s10 ht10=>?_⟩
   have M10:=M9.same s10
   have S410:=S49.trans s10
   obtain ⟨vb,rest,e1,_⟩:=hbad
   refine ⟨_,rfl,rfl,_,rfl,iteC (decide_eq_false (fun e=>nomatch e)) ?_⟩
   refine ⟨_,rfl,_,rfl,_,rfl,l,_,3,_,rfl,rfl,SqL.of (S410 _ _ hl),atI_nat (j:=3) rfl,a3,_,0,_,rfl,rfl,SqT.of (S410 _ _ b3),atI_nat (j:=0) rfl,t,xb,sh.z3,nm,z,vb,kx,px,nk,np,rest,rfl,ht10,S410 _ _ e1,hk.same S410,hp.same S410,hzn,fun H11 s11=>⟨_,rfl,iteF ?_⟩⟩
   have M11:=M10.same s11
   obtain ⟨dx0,fo0,td0,hx11,_⟩:=id M11.pl.ex
   refine ⟨_,rfl,x,dx0,_,rfl,hx11,flds_no (by decide +kernel) (by decide +kernel),x,sz,_,us,rfl,M11.pl,fun lh H12 s12 hlh=>?_⟩
   have M12:=M11.same s12
   have lh12:=cut_sub _ _ hlh
   have esr:(srt (us.map kc)).map (·.1) = [key]:=by rw [M.us_,srt1];rfl
   rw [esr] at lh12
   refine ⟨_,rfl,(by show 1 ≤ sizeLine;decide),fun l13 hl13=>?_⟩
   have T13:=Same.upd (o:=.lst [V.int key]) hl13
   have e13:(upd H12 l13 (.lst [V.int key])) l13 = some (.lst [V.int key]):=upd_same
   generalize upd H12 l13 (.lst [V.int key]) = H13 at *
   refine ⟨0,lh,l13,_,_,rfl,rfl,SqL.of (T13 _ _ lh12),SqL.of e13,rfl,(fun j y y' c1 c2=>?_),hu0,_,rfl,iteF ?_⟩
   ·match j,c1,c2 with
    | 0,c1,c2=>cases c1;cases c2;exact .int
   have M13:=M12.same T13
   obtain ⟨e,he,ek,ep⟩:∃ e ∈ us,e.k = key/\e.pc = pcT14 c0 c1 sh.ls:=by
    have hm:(key,pcT14 c0 c1 sh.ls) ∈ us.map kc:=by rw [M.us_];exact List.mem_cons_self
    obtain ⟨e,he,ee⟩:=List.mem_map.mp hm
    exact ⟨e,he,congrArg Prod.fst ee,congrArg Prod.snd ee⟩
   obtain ⟨dx1,fo1,td1,hx13,_⟩:=id M13.pl.ex
   refine ⟨_,rfl,x,dx1,_,rfl,hx13,flds_no (by decide +kernel) (by decide +kernel),_,rfl,x,sz,_,us,e,(by rw [ek];rfl),M13.pl,he,fun p' H14 s14 hp'=>?_⟩
   have M14:=M13.same s14
   refine ⟨_,rfl,_,rfl,l,lc,sh,c0,c1,c2,rfl,M14.shl,M14.shn,M14.cl,fun p2 H15 s15 hp2=>?_⟩
   rw [ep] at hp'
   obtain ⟨kvs,kws,n1,n2,n3,n4,n5⟩:=ne_dv (pc_dv (pc14_ok d h01) ((hp'.same cut_sub).same s15)) (pc_dv (pc14_ok d h01) (hp2.same cut_sub))
   refine ⟨2,p',p2,kvs,kws,rfl,rfl,n1,n2,n3,n4,n5,hu3,_,rfl,iteF ?_⟩
   have M15:=M14.same s15
   have S315:Same H3 H15:=S39.trans (s10.trans (s11.trans (s12.trans (T13.trans (s14.trans s15)))))
   have gl15:=S315 _ _ gl3
   obtain ⟨dx2,fo2,td2,hx15,_⟩:=id M15.pl.ex
   have hrun:=run_at (c0:=c0) (c1:=c1) (k:=key) d pls0 m m3
   refine ⟨_,rfl,x,dx2,_,rfl,hx15,flds_no (by decide +kernel) (by decide +kernel),_,rfl,x,gl,sz,_,us,[x0,x1,x2].take m,(stps sh c0 c1 key).take m,2,rfl,M15.pl,gl15,(fun j y s h1 h2=>hgood (more:=[]) S315 j y s (by rw [List.append_nil];exact h1) h2),hcan,tabR,(by rw [ssl];omega),(by rw [ssl,usl];omega),.inr ⟨by rw [ssl,xsl],fun n hn _ T _ t ht _=>?_,fun lw us' ms H16 fr hlw0 hlw pl' _ _ _ _=>?_⟩⟩
   ·rw [tn] at hn
    rcases hrun with ⟨_,h⟩ | ⟨_,A',B',C',h,hpl⟩
    ·rw [h] at hn;cases hn
    ·rw [h] at hn
     rw [List.mem_singleton.mp hn] at ht
     exact pls_ok hpl T.sort t ht
   have gl16:H16 gl = some (.lst (([x0,x1,x2].take m).map V.ref)):=fr _ _ (fun ee=>by rw [ee,hx15] at gl15;cases gl15) gl15
   rw [tn] at hlw
   refine ⟨_,rfl,(by show 1 ≤ sizeLine;decide),fun l17 hl17=>?_⟩
   have T17:=Same.upd (o:=.lst [V.int key]) hl17
   have e17:(upd H16 l17 (.lst [V.int key])) l17 = some (.lst [V.int key]):=upd_same
   generalize upd H16 l17 (.lst [V.int key]) = H17 at *
   refine ⟨_,rfl,gl,_,rfl,.inl (SqL.of (T17 _ _ gl16)),_,rfl,l17,_,rfl,SqL.of e17,fun l18 hl18=>?_⟩
   rw [cut_nat,List.length_map,xsl]
   generalize hX:upd H17 l18 _ = H18
   have T18:Same H17 H18:=hX ▸ Same.upd hl18
   have e18:H18 l18 = some (.lst ([V.int key].take m)):=by rw [← hX];exact upd_same
   clear hX
   have lw18:=(T17.trans T18) _ _ hlw
   have hfin:((srt (runS (nms sh) (us.map kc) ((stps sh c0 c1 key).take m))).map (·.1)).map V.int = [V.int key].take m:=by
    rcases hrun with ⟨rfl,h⟩ | ⟨hmp,A',B',C',h,_⟩
    ·rw [h,srt0];rfl
    ·rw [h,srt1]
     show [V.int key] = _
     rw [List.take_of_length_le (show [V.int key].length ≤ m from hmp)]
   rw [hfin] at lw18
   refine ⟨0,lw,l18,_,_,rfl,rfl,SqL.of lw18,SqL.of e18,rfl,(fun j y y' h1 h2=>?_),hu0,q _⟩
   rw [h1] at h2
   cases h2
   have hy:=List.mem_of_mem_take (List.mem_of_getElem? h1)
   rw [List.mem_singleton.mp hy]
   exact .int
end
end My
namespace L2
open PySem PySem.Spec PyProof.Rows
def MethIn (K:PySem.W.Frag) (C:Addr) (m qual:Str) (st:Stmt):Prop:=∃ f fd,Fun K m qual st f fd/\Meth K C m f
theorem methIn_mk {K:PySem.W.Frag} {C f:Addr} {m qual:Str} {st:Stmt} {oc:Value} {od an:Option Addr} {osl:Array (Option Value)} {kV doc pm cdv ct:Value} (a:PySem.W.findIn K (.ref C) m = some (some (.ref f))) (i:PySem.W.isFn K (.ref f) = true)
  (l:K.lookup f = some ⟨oc,od,.func (PySem.W.fnOf m qual (defArgs st) (defBody st) (defScope st) .none kV doc pm an cdv ct),osl⟩) (c:PySem.W.codeIn K cdv qual = true) (k:PySem.W.keepIn K (.ref f) = true):MethIn K C m qual st:=
 ⟨f,_,fun_mk l c k,⟨a,i,k⟩⟩
end L2
namespace My
open PySem L2
theorem all_mk {l:PySem.W.OpenLaw} {w:World} {K:PySem.W.Frag} {h:Heap} {mg:Str->Option Value} {fa CT CS CK CN CO CM CP sA fI fA:Addr} {tw tm:Tok} {nK:Nat} {odS:Option Addr} {slS:Array (Option Value)} {ic ik idoc ipm icd ict ocA dVA kVA docA pmA cdA ctA:Value} {id1 ian odA anA:Option Addr} {isl slA:Array (Option Value)} (X:K.In h) (G:h.Ns mainGlobals mg) (hfa:mg "law" = some (.ref fa))
  (aT:PySem.W.nsIn K mainGlobals "TableError" = some (some (.ref CT)))
  (aO:PySem.W.nsIn K mainGlobals "NoTable" = some (some (.ref CO)))
  (aM:PySem.W.nsIn K mainGlobals "BadRow" = some (some (.ref CM)))
  (aP:PySem.W.nsIn K mainGlobals "Plain" = some (some (.ref CP)))
  (aS:PySem.W.nsIn K mainGlobals "StepError" = some (some (.ref CS)))
  (aK:PySem.W.nsIn K mainGlobals "Taken" = some (some (.ref CK)))
  (aN:PySem.W.nsIn K mainGlobals "Missing" = some (some (.ref CN)))
  (xO:XCl K CO)
  (xM:XCl K CM)
  (bs:PySem.W.specialIn K (.ref CT) "__getattribute__" = some (some (.builtin "type.__getattribute__")))
  (br:PySem.W.readsIn K CT (.type "type") = true)
  (bf:PySem.W.findCls K (.ref CT) (.type "type") "__init__" = some (.val (.builtin "ValueError.__init__")))
  (n1:PySem.W.findIn K (.ref CO) "table" = some none)
  (m1:PySem.W.findIn K (.ref CM) "table" = some none)
  (n2:PySem.W.findIn K (.ref CO) "key" = some none)
  (m2:PySem.W.findIn K (.ref CM) "key" = some none)
  (n3:PySem.W.findIn K (.ref CO) "place" = some none)
  (m3:PySem.W.findIn K (.ref CM) "place" = some none)
  (ni:PySem.W.findIn K (.ref CO) "__init__" = some (some (.ref fI)))
  (nj:PySem.W.findIn K (.ref CM) "__init__" = some (some (.ref fI)))
  (nf:PySem.W.isFn K (.ref fI) = true)
  (nl:K.lookup fI = some ⟨ic,id1,.func (PySem.W.fnOf "__init__" "StepError.__init__" (defArgs (inClass (top 2) 0)) (defBody (inClass (top 2) 0)) (defScope (inClass (top 2) 0)) .none ik idoc ipm ian icd ict),isl⟩)
  (nc:PySem.W.codeIn K icd "StepError.__init__" = true)
  (nk:PySem.W.keepIn K (.ref fI) = true)
  (u1:PySem.W.mroIn K CO (.ref CO) = some true)
  (u2:PySem.W.mroIn K CM (.ref CM) = some true)
  (u3:PySem.W.mroIn K CM (.ref CO) = some false)
  (ha1:PySem.W.findIn K (.ref CO) "__class__" = some (some (.builtin "object.__class__")))
  (ha2:PySem.W.findIn K (.ref CM) "__class__" = some (some (.builtin "object.__class__")))
  (hn:PySem.W.specialIn K (.builtin "object.__class__") "__get__" = some (some (.builtin "getset_descriptor.__get__")))
  (htk:PySem.W.takesIn K (.builtin "object.__class__") = some true)
  (pS:PySem.W.kitOne K (.ref CO) (.ref CS) = some true)
  (pM:PySem.W.kitOne K (.ref CO) (.ref CM) = some false)
  (rS:PySem.W.kitOne K (.ref CM) (.ref CS) = some true)
  (rK:PySem.W.kitOne K (.ref CM) (.ref CK) = some false)
  (rN:PySem.W.kitOne K (.ref CM) (.ref CN) = some false)
  (gS:PySem.W.nsIn K mainGlobals "LONE_SORTS" = some (some (.ref sA)))
  (lS:K.lookup sA = some ⟨.type "tuple",odS,.seq #[.str "head" tw,.str "twin" tm] nK,slS⟩)
  (pg:PySem.W.plainGet K CP Str.empty = true)
  (hd:PySem.W.hasDictIn K CP = true)
  (po:PySem.W.plainOver K CP = true)
  (psa:PySem.W.findIn K (.ref CP) "__setattr__" = some (some (.builtin "object.__setattr__")))
  (mk:PySem.W.makesIn K CP = true)
  (kc:PySem.W.keepIn K (.ref CP) = true)
  (cF:PySem.W.findIn K (.ref CP) "form" = some none)
  (cT:PySem.W.findIn K (.ref CP) "things" = some none)
  (iA:PySem.W.findIn K (.ref CP) "__init__" = some (some (.ref fA)))
  (jA:PySem.W.isFn K (.ref fA) = true)
  (lA:K.lookup fA = some ⟨ocA,odA,.func (PySem.W.fnOf "__init__" "Plain.__init__" (defArgs (inClass (top 26) 0)) (defBody (inClass (top 26) 0)) (defScope (inClass (top 26) 0)) dVA kVA docA pmA anA cdA ctA),slA⟩)
  (cA:PySem.W.codeIn K cdA "Plain.__init__" = true)
  (kA:PySem.W.keepIn K (.ref fA) = true)
  (pA:∀ (u v x:Value) (S:Setting),PySem.W.peek K S (bindArgs (PySem.W.fnOf "__init__" "Plain.__init__" (defArgs (inClass (top 26) 0)) (defBody (inClass (top 26) 0)) (defScope (inClass (top 26) 0)) dVA kVA docA pmA anA cdA ctA) ⟨[u,v,x],[]⟩) = some ([("self",u),("form",v),("things",x)]:List (Str × Value)))
  (h1:MethIn K CP "write" "Plain.write" (inClass (top 26) 1))
  (h2:MethIn K CP "by_place" "Plain.by_place" (inClass (top 26) 2))
  (h3:MethIn K CP "things_behind" "Plain.things_behind" (inClass (top 26) 3))
  (h6:MethIn K CP "piece" "Plain.piece" (inClass (top 26) 6))
  (h7:MethIn K CP "held" "Plain.held" (inClass (top 26) 7))
  (d12:DefIn K "is_whole" (top 12))
  (d13:DefIn K "fits" (top 13))
  (d15:DefIn K "fits_plain" (top 15))
  (d18:DefIn K "tables_of" (top 18))
  (d20:DefIn K "sort_of" (top 20))
  (d21:DefIn K "columns_of" (top 21))
  (d22:DefIn K "table_in" (top 22))
  (d23:DefIn K "is_row" (top 23))
  (d24:DefIn K "copied" (top 24))
  (d27:DefIn K "ask_step" (top 27))
  (d28:DefIn K "do_step" (top 28))
  (d29:DefIn K "has_rows" (top 29))
  (d30:DefIn K "piece_of" (top 30))
  (d31:DefIn K "ask_thing" (top 31))
  (d32:DefIn K "ask_places" (top 32))
  (d33:DefIn K "ask_whole_table" (top 33))
  (d34:DefIn K "columns_by_sort" (top 34))
  (d39:DefIn K "_law_cell" (top 39))
  (d40:DefIn K "_law_names" (top 40))
  (d41:DefIn K "_law_bad_key" (top 41))
  (d42:DefIn K "_law_bad_place" (top 42))
  (d43:DefIn K "_law_bad_row" (top 43))
  (d44:DefIn K "_law_sheets" (top 44))
  (d45:DefIn K "_law_step" (top 45))
  (d46:DefIn K "_law_refused" (top 46))
  (d47:DefIn K "_law_right" (top 47))
  (d48:DefIn K "_law_piece" (top 48))
  (d49:DefIn K "_law_good" (top 49))
  (d50:DefIn K "law" (top 50))
  (zb:BlK K) :
  ∃ fd:FuncData,(∀ (s:Shared) (v:Value),BindsTo s fd ⟨[v],[]⟩ [("_law_script",v)])/\∀ base:Heap,K.In base->base.Ns mainGlobals mg->FnOk l.prog w K mg base CX0 8 fa fd ["_law_script"] (spLaw K):=by
 have B:Bl mg:=zb.bl X G
 have T:Tx K mg CT CO CM:=⟨PySem.W.mg_of X G aT,⟨bs,br,bf⟩,PySem.W.mg_of X G aO,xO,n1,n2,n3,PySem.W.mg_of X G aM,xM,m1,m2,m3⟩
 have R:Rf K mg CT CS CK CN CO CM:=⟨T,PySem.W.mg_of X G aS,PySem.W.mg_of X G aK,PySem.W.mg_of X G aN,⟨xO,ha1,hn,htk⟩,⟨xM,ha2,hn,htk⟩,⟨xO,u1⟩,⟨xM,u2⟩,⟨xM,u3⟩,pS,pM,rS,rK,rN⟩
 have LN:Ln K mg sA:=⟨PySem.W.mg_of X G gS,fun H=>.inr ⟨_,_,_,lS,rfl,rfl,(by show 2 ≤ sizeLine;decide),.cons ⟨tw,rfl⟩ (.cons ⟨tm,rfl⟩ .nil)⟩⟩
 have FI:Fun K "__init__" "StepError.__init__" (inClass (top 2) 0) fI _:=fun_mk nl nc nk
 have bI:=FI.binds (ps:=["self","table","key","place"]) fun _ _ _ _ _ _ us hl=>by obtain ⟨v0,v1,v2,v3,rfl⟩:=L2.ln4 hl;rfl
 have L:ClP K CP:=⟨⟨pg,hd,po,psa⟩,cF,cT⟩
 have F0:=funX_mk (st:=inClass (top 26) 0) lA cA kA
 have b0:Binds K (PySem.W.fnOf "__init__" "Plain.__init__" (defArgs (inClass (top 26) 0)) (defBody (inClass (top 26) 0)) (defScope (inClass (top 26) 0)) dVA kVA docA pmA anA cdA ctA) ["self","form","things"] []:=fun s us kin hl=>by
  have h1:us.length = 3:=by simpa using hl
  match us,h1 with
  | [u,v,x],_=>exact PySem.W.kp_binds kin (pA u v x)
 obtain ⟨g1,gd1,F1,M1⟩:=h1
 obtain ⟨g2,gd2,F2,M2⟩:=h2
 obtain ⟨g3,gd3,F3,M3⟩:=h3
 obtain ⟨g6,gd6,F6,M6⟩:=h6
 obtain ⟨g7,gd7,F7,M7⟩:=h7
 have b1:=F1.binds (ps:=["self","steps"]) fun _ _ _ _ _ _ us hl=>by obtain ⟨v0,v1,rfl⟩:=L2.ln2 hl;rfl
 have b6:=F6.binds (ps:=["self","key"]) fun _ _ _ _ _ _ us hl=>by obtain ⟨v0,v1,rfl⟩:=L2.ln2 hl;rfl
 have b7:=F7.binds (ps:=["self"]) fun _ _ _ _ _ _ us hl=>by obtain ⟨v0,rfl⟩:=L2.ln1 hl;rfl
 obtain ⟨f12,fd12,D12⟩:=d12.df X G
 obtain ⟨f13,fd13,D13⟩:=d13.df X G
 obtain ⟨f15,fd15,D15⟩:=d15.df X G
 obtain ⟨f18,fd18,D18⟩:=d18.df X G
 obtain ⟨f20,fd20,D20⟩:=d20.df X G
 obtain ⟨f21,fd21,D21⟩:=d21.df X G
 obtain ⟨f22,fd22,D22⟩:=d22.df X G
 obtain ⟨f23,fd23,D23⟩:=d23.df X G
 obtain ⟨f24,fd24,D24⟩:=d24.df X G
 obtain ⟨f27,fd27,D27⟩:=d27.df X G
 obtain ⟨f28,fd28,D28⟩:=d28.df X G
 obtain ⟨f29,fd29,D29⟩:=d29.df X G
 obtain ⟨f30,fd30,D30⟩:=d30.df X G
 obtain ⟨f31,fd31,D31⟩:=d31.df X G
 obtain ⟨f32,fd32,D32⟩:=d32.df X G
 obtain ⟨f33,fd33,D33⟩:=d33.df X G
 obtain ⟨f34,fd34,D34⟩:=d34.df X G
 obtain ⟨f39,fd39,D39⟩:=d39.df X G
 obtain ⟨f40,fd40,D40⟩:=d40.df X G
 obtain ⟨f41,fd41,D41⟩:=d41.df X G
 obtain ⟨f42,fd42,D42⟩:=d42.df X G
 obtain ⟨f43,fd43,D43⟩:=d43.df X G
 obtain ⟨f44,fd44,D44⟩:=d44.df X G
 obtain ⟨f45,fd45,D45⟩:=d45.df X G
 obtain ⟨f46,fd46,D46⟩:=d46.df X G
 obtain ⟨f47,fd47,D47⟩:=d47.df X G
 obtain ⟨f48,fd48,D48⟩:=d48.df X G
 obtain ⟨f49,fd49,D49⟩:=d49.df X G
 obtain ⟨f,oc,od,kV,doc,pm,an,cdv,ct,osl,a,lk,c,k⟩:=d50
 have e:=hfa.symm.trans (PySem.W.mg_of X G a)
 cases e
 refine ⟨PySem.W.fnOf "law" "law" (defArgs (top 50)) (defBody (top 50)) (defScope (top 50)) .none kV doc pm an cdv ct,fun s v=>.of_eq rfl,fun base _ _=>?_⟩
 have W:Wr l.prog w K mg base CP CO CM f27 f28 f31 f33 g2 g3 fd27 fd28 fd31 fd33 gd2 gd3:=⟨ok_askStep D27.fn B LN D18 D21 D22 D12 D15 D13 D23 D20 T FI.x ⟨xO,ni,nf⟩ ⟨xM,nj,nf⟩ bI,ok_do D28.fn B,ok_askT D31.fn B LN D29 D18 D22 D20 D32,ok_askW D33.fn B D34 D18 D21 D22,ok_byPl F2 B L D18,ok_behind F3 B L D29 D30,M2,M3⟩
 have GW:FnOk l.prog w K mg base (CX1 l.prog w) 6 g1 gd1 ["self","steps"] (spWrite K CP CO CM):=ok_write F1 B L W D27 D28 D31 D33 F2 F3
 exact ok_law (fun_mk lk c k) B D39 D40 D44 D48 D49 D45 (ok_step D45.fn B D39 D41 D42 D43) D46 (ok_refd D46.fn B R L M1 GW b1) D47 L ⟨mk,iA,jA,kc⟩ (PySem.W.mg_of X G aP) (ok_pinit F0 B L D24 D33 D34 D18 D21 D22) b0 M7 (ok_held F7 B L) b7 M6 (ok_piece F6 B L D24) b6 M1 GW b1
end My
namespace PySem.W.Fast
def tw9232585138339025337:Unit:=()
def tw10267886316082250623:Unit:=()
def tw11101098700962174279:Unit:=()
def tw17308970854067730697:Unit:=()
def tw18225377169179319002:Unit:=()
def tw12243244566615135638:Unit:=()
def tw9743618240186228216:Unit:=()
def tw15232231967376310201:Unit:=()
def tw287115691873006428:Unit:=()
def tw13483512475604184484:Unit:=()
def tw11360602681514566481:Unit:=()
def tw8894331591639549131:Unit:=()
def tw5973549608315367691:Unit:=()
def tw8232714930565638193:Unit:=()
def tw2797632697612226958:Unit:=()
def tw572088303863339741:Unit:=()
def tw13542769262973887769:Unit:=()
def tw12055446201261574875:Unit:=()
def tw13530996040797778602:Unit:=()
def tw305883655692755050:Unit:=()
def tw11633956733411521187:Unit:=()
def tw2509644877136304271:Unit:=()
def tw3360692255570261991:Unit:=()
def tw2782762861228156911:Unit:=()
def tw4707258578347371855:Unit:=()
def tw12550162120950152310:Unit:=()
def tw302071736389607200:Unit:=()
def tw4761783795265611942:Unit:=()
def tw1632749620696730474:Unit:=()
def tw17247551208258749362:Unit:=()
def tw17438073756655043562:Unit:=()
def tw8465222191426171914:Unit:=()
def tw1619825731295583680:Unit:=()
def tw17511491929196604634:Unit:=()
def tw5915036011256929813:Unit:=()
def tw14206088284152543600:Unit:=()
end PySem.W.Fast
open PySem PySem.W PyProof.Rows
set_option maxRecDepth 100000 in
set_option maxHeartbeats 0 in
theorem PySem.Challenge.cw_halfmoved_k14_steps_that_do_not_fit_holds : PySem.Challenge.rw_halfmoved_k14_steps_that_do_not_fit.Holds := by
 w_on;o_law;k_head;(case hw=>w_witness2)
 k_fill
 refine My.walk 8 (l:=PySem.Challenge.rw_halfmoved_k14_steps_that_do_not_fit) ⟨rfl,by decide,by decide⟩ rfl rfl (fun w h Y=>PySem.W.kIn_of Y) ?F
 case F=>
  intro w mg fa h KX G hmg
  refine' My.all_mk KX G hmg ?aT ?aO ?aM ?aP ?aS ?aK ?aN ?xO ?xM ?bs ?br ?bf ?n1 ?m1 ?n2 ?m2 ?n3 ?m3 ?ni ?nj ?nf ?nl ?nc ?nk ?u1 ?u2 ?u3 ?ha1 ?ha2 ?hn ?htk ?pS ?pM ?rS ?rK ?rN ?gS ?lS ?pg ?hd ?po ?psa ?mk ?kc ?cF ?cT ?iA ?jA ?lA ?cA ?kA ?pA ?h1 ?h2 ?h3 ?h6 ?h7 ?d12 ?d13 ?d15 ?d18 ?d20 ?d21 ?d22 ?d23 ?d24 ?d27 ?d28 ?d29 ?d30 ?d31 ?d32 ?d33 ?d34 ?d39 ?d40 ?d41 ?d42 ?d43 ?d44 ?d45 ?d46 ?d47 ?d48 ?d49 ?d50 ?zb
  (case aT=>k_is)
  (case aO=>k_is)
  (case aM=>k_is)
  (case aP=>k_is)
  (case aS=>k_is)
  (case aK=>k_is)
  (case aN=>k_is)
  (case xO=>refine' L2.xcl_mk ?l ?t ?ga ?gx ?sa ?kp;(case l=>k_is);(case t=>decide +kernel);(case ga=>k_is);(case gx=>k_is);(case sa=>k_is);(case kp=>k_is))
  (case xM=>refine' L2.xcl_mk ?l ?t ?ga ?gx ?sa ?kp;(case l=>k_is);(case t=>decide +kernel);(case ga=>k_is);(case gx=>k_is);(case sa=>k_is);(case kp=>k_is))
  (case bs=>k_is)
  (case br=>k_is)
  (case bf=>k_is)
  (case n1=>k_is)
  (case m1=>k_is)
  (case n2=>k_is)
  (case m2=>k_is)
  (case n3=>k_is)
  (case m3=>k_is)
  (case ni=>k_is)
  (case nj=>k_is)
  (case nf=>k_is)
  (case nl=>k_is)
  (case nc=>k_is)
  (case nk=>k_is)
  (case u1=>k_is)
  (case u2=>k_is)
  (case u3=>k_is)
  (case ha1=>k_is)
  (case ha2=>k_is)
  (case hn=>k_is)
  (case htk=>k_is)
  (case pS=>first | k_is | rfl | decide +kernel)
  (case pM=>first | k_is | rfl | decide +kernel)
  (case rS=>first | k_is | rfl | decide +kernel)
  (case rK=>first | k_is | rfl | decide +kernel)
  (case rN=>first | k_is | rfl | decide +kernel)
  (case gS=>k_is)
  (case lS=>k_is)
  (case pg=>k_is)
  (case hd=>k_is)
  (case po=>k_is)
  (case psa=>k_is)
  (case mk=>k_is)
  (case kc=>k_is)
  (case cF=>k_is)
  (case cT=>k_is)
  (case iA=>k_is)
  (case jA=>k_is)
  (case lA=>k_is)
  (case cA=>k_is)
  (case kA=>k_is)
  (case pA=>intro u v x S;rfl)
  (case h1=>refine' L2.methIn_mk ?a ?i ?l ?c ?k;(case a=>k_is);(case i=>k_is);(case l=>k_is);(case c=>k_is);(case k=>k_is))
  (case h2=>refine' L2.methIn_mk ?a ?i ?l ?c ?k;(case a=>k_is);(case i=>k_is);(case l=>k_is);(case c=>k_is);(case k=>k_is))
  (case h3=>refine' L2.methIn_mk ?a ?i ?l ?c ?k;(case a=>k_is);(case i=>k_is);(case l=>k_is);(case c=>k_is);(case k=>k_is))
  (case h6=>refine' L2.methIn_mk ?a ?i ?l ?c ?k;(case a=>k_is);(case i=>k_is);(case l=>k_is);(case c=>k_is);(case k=>k_is))
  (case h7=>refine' L2.methIn_mk ?a ?i ?l ?c ?k;(case a=>k_is);(case i=>k_is);(case l=>k_is);(case c=>k_is);(case k=>k_is))
  (case d12=>refine' L2.defIn_mk ?a ?l ?c ?k;(case a=>k_is);(case l=>k_is);(case c=>k_is);(case k=>k_is))
  (case d13=>refine' L2.defIn_mk ?a ?l ?c ?k;(case a=>k_is);(case l=>k_is);(case c=>k_is);(case k=>k_is))
  (case d15=>refine' L2.defIn_mk ?a ?l ?c ?k;(case a=>k_is);(case l=>k_is);(case c=>k_is);(case k=>k_is))
  (case d18=>refine' L2.defIn_mk ?a ?l ?c ?k;(case a=>k_is);(case l=>k_is);(case c=>k_is);(case k=>k_is))
  (case d20=>refine' L2.defIn_mk ?a ?l ?c ?k;(case a=>k_is);(case l=>k_is);(case c=>k_is);(case k=>k_is))
  (case d21=>refine' L2.defIn_mk ?a ?l ?c ?k;(case a=>k_is);(case l=>k_is);(case c=>k_is);(case k=>k_is))
  (case d22=>refine' L2.defIn_mk ?a ?l ?c ?k;(case a=>k_is);(case l=>k_is);(case c=>k_is);(case k=>k_is))
  (case d23=>refine' L2.defIn_mk ?a ?l ?c ?k;(case a=>k_is);(case l=>k_is);(case c=>k_is);(case k=>k_is))
  (case d24=>refine' L2.defIn_mk ?a ?l ?c ?k;(case a=>k_is);(case l=>k_is);(case c=>k_is);(case k=>k_is))
  (case d27=>refine' L2.defIn_mk ?a ?l ?c ?k;(case a=>k_is);(case l=>k_is);(case c=>k_is);(case k=>k_is))
  (case d28=>refine' L2.defIn_mk ?a ?l ?c ?k;(case a=>k_is);(case l=>k_is);(case c=>k_is);(case k=>k_is))
  (case d29=>refine' L2.defIn_mk ?a ?l ?c ?k;(case a=>k_is);(case l=>k_is);(case c=>k_is);(case k=>k_is))
  (case d30=>refine' L2.defIn_mk ?a ?l ?c ?k;(case a=>k_is);(case l=>k_is);(case c=>k_is);(case k=>k_is))
  (case d31=>refine' L2.defIn_mk ?a ?l ?c ?k;(case a=>k_is);(case l=>k_is);(case c=>k_is);(case k=>k_is))
  (case d32=>refine' L2.defIn_mk ?a ?l ?c ?k;(case a=>k_is);(case l=>k_is);(case c=>k_is);(case k=>k_is))
  (case d33=>refine' L2.defIn_mk ?a ?l ?c ?k;(case a=>k_is);(case l=>k_is);(case c=>k_is);(case k=>k_is))
  (case d34=>refine' L2.defIn_mk ?a ?l ?c ?k;(case a=>k_is);(case l=>k_is);(case c=>k_is);(case k=>k_is))
  (case d39=>refine' L2.defIn_mk ?a ?l ?c ?k;(case a=>k_is);(case l=>k_is);(case c=>k_is);(case k=>k_is))
  (case d40=>refine' L2.defIn_mk ?a ?l ?c ?k;(case a=>k_is);(case l=>k_is);(case c=>k_is);(case k=>k_is))
  (case d41=>refine' L2.defIn_mk ?a ?l ?c ?k;(case a=>k_is);(case l=>k_is);(case c=>k_is);(case k=>k_is))
  (case d42=>refine' L2.defIn_mk ?a ?l ?c ?k;(case a=>k_is);(case l=>k_is);(case c=>k_is);(case k=>k_is))
  (case d43=>refine' L2.defIn_mk ?a ?l ?c ?k;(case a=>k_is);(case l=>k_is);(case c=>k_is);(case k=>k_is))
  (case d44=>refine' L2.defIn_mk ?a ?l ?c ?k;(case a=>k_is);(case l=>k_is);(case c=>k_is);(case k=>k_is))
  (case d45=>refine' L2.defIn_mk ?a ?l ?c ?k;(case a=>k_is);(case l=>k_is);(case c=>k_is);(case k=>k_is))
  (case d46=>refine' L2.defIn_mk ?a ?l ?c ?k;(case a=>k_is);(case l=>k_is);(case c=>k_is);(case k=>k_is))
  (case d47=>refine' L2.defIn_mk ?a ?l ?c ?k;(case a=>k_is);(case l=>k_is);(case c=>k_is);(case k=>k_is))
  (case d48=>refine' L2.defIn_mk ?a ?l ?c ?k;(case a=>k_is);(case l=>k_is);(case c=>k_is);(case k=>k_is))
  (case d49=>refine' L2.defIn_mk ?a ?l ?c ?k;(case a=>k_is);(case l=>k_is);(case c=>k_is);(case k=>k_is))
  (case d50=>refine' L2.defIn_mk ?a ?l ?c ?k;(case a=>k_is);(case l=>k_is);(case c=>k_is);(case k=>k_is))
  (case zb=>refine' My.BlK.mk ?b0 ?b1 ?b2 ?b3 ?b4 ?b5 ?b6 ?b7 ?b8 ?b9 ?b10 ?b11 ?b12 ?b13 ?b14 ?b15;(case b0=>k_is);(case b1=>k_is);(case b2=>k_is);(case b3=>k_is);(case b4=>k_is);(case b5=>k_is);(case b6=>k_is);(case b7=>k_is);(case b8=>k_is);(case b9=>k_is);(case b10=>k_is);(case b11=>k_is);(case b12=>k_is);(case b13=>k_is);(case b14=>k_is);(case b15=>k_is))
#print axioms PySem.Challenge.cw_halfmoved_k14_steps_that_do_not_fit_holds
