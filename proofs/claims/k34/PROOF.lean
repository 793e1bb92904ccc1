import PyProof.Rows.All
import Wide.All
import OpenK.AllK
import Wide.FinOn
import Lean
import PyProof.EqAt
import PyProof.EqKinds
import PyProof.TupleCall
import PyProof.StrBlock
import PyProof.StrBlockL
import PyProof.Rows.StrJoin2
import KE.KIntText
import PyProof.StrCalls6
import PyProof.StationsW
import PyProof.RulesTry
import PyProof.InstStoreFacts
import PyProof.ExcBaseAll.ValueError
import PyProof.ExcAttrAll.ValueError
import PyProof.NsDelKeeps
import KE.KTabLook
import PyProof.MeetsStr
import PyProof.ZipIter
import PyProof.TupleIter
import KE.KDictSum
import PyProof.EnumMake
import PyProof.EnumStmt
import KE.KSortTup
import PyProof.NeKinds
import PyProof.AttrMissSeq
import KE.KDictOf
import KE.KLam
import KE.KNestM
import KE.KSortKey
import PyProof.ListRange
import KE.KPar
import KE.KItemsList
import PyProof.DictValues
import PyProof.FactsAll.dict_valueiterator_1
import KE.KDictList
import PyProof.DictUpdate
import PyProof.FactsAll.set_2
import PyProof.Rows.SetFrom
import PyProof.AttrMissHeap
import PyProof.DictWalks
import PyProof.StrLawsTight
import PyProof.MeetsStr2
import PySem.Challenge.RW_halfmoved_k34_rows_of_a_tuple
set_option Elab.async false
set_option linter.all false
set_option maxRecDepth 100000
set_option maxHeartbeats 4000000
namespace L0
open PySem PySem.Spec PyProof.Rows
theorem gE0:type_of% @List.getElem?_eq_getElem.{0}:=@List.getElem?_eq_getElem.{0}
theorem lM0:type_of% @List.length_map.{0,0}:=@List.length_map.{0,0}
theorem gM0:type_of% @List.getElem?_map.{0,0}:=@List.getElem?_map.{0,0}
theorem hP0:type_of% @PySem.Heap.get?_push_of_some:=@PySem.Heap.get?_push_of_some
theorem wB0:type_of% @wpAny_bind:=@wpAny_bind
theorem wP0:type_of% @wpAny_pure:=@wpAny_pure
theorem lA0:type_of% @List.length_append.{0}:=@List.length_append.{0}
theorem gI0:type_of% @List.mem_of_getElem?.{0}:=@List.mem_of_getElem?.{0}
theorem gS0:type_of% @List.getElem?_eq_some_iff.{0}:=@List.getElem?_eq_some_iff.{0}
theorem mM0:type_of% @List.mem_map.{0,0}:=@List.mem_map.{0,0}
theorem mC0:type_of% @List.map_map.{0,0,0}:=@List.map_map.{0,0,0}
theorem mA0:type_of% @List.map_append.{0,0}:=@List.map_append.{0,0}
theorem nR0:type_of% @Nat.le_refl:=@Nat.le_refl
theorem mS0:type_of% @List.mem_singleton.{0}:=@List.mem_singleton.{0}
theorem hL0:type_of% @PySem.Heap.lt_size:=@PySem.Heap.lt_size
theorem hS0:type_of% @PySem.Heap.get?_push_size:=@PySem.Heap.get?_push_size
theorem aL0:type_of% @Array.length_toList.{0}:=@Array.length_toList.{0}
theorem nL0:type_of% @Nat.ne_of_lt:=@Nat.ne_of_lt
theorem mN0:type_of% @List.map_cons.{0,0}:=@List.map_cons.{0,0}
theorem bF0:type_of% @Bool.false_ne_true:=@Bool.false_ne_true
theorem mB0:type_of% @List.mem_append.{0}:=@List.mem_append.{0}
theorem mK0:type_of% @List.mem_cons.{0}:=@List.mem_cons.{0}
theorem mL0:type_of% @List.mem_cons_of_mem.{0}:=@List.mem_cons_of_mem.{0}
theorem gL0:type_of% @List.getElem?_append_left.{0}:=@List.getElem?_append_left.{0}
theorem gR0:type_of% @List.getElem?_append_right.{0}:=@List.getElem?_append_right.{0}
theorem gQ0:type_of% @List.getElem_mem.{0}:=@List.getElem_mem.{0}
theorem dT0:type_of% @decide_eq_true:=@decide_eq_true
theorem dF0:type_of% @decide_eq_false:=@decide_eq_false
theorem zL0:type_of% @Nat.zero_le:=@Nat.zero_le
abbrev Vs0:=Value->Shared->Prop
abbrev Fg0:=PySem.W.Frag
end L0
open L0
namespace L2
theorem ln0 {α:Type}{l:List α}(h:l.length=0):l=[]:=List.eq_nil_of_length_eq_zero h
theorem ln1 {α:Type}{l:List α}(h:l.length=1):∃a,l=[a]:=List.length_eq_one_iff.mp h
theorem ln2 {α:Type}{l:List α}(h:l.length=2):∃a b,l=[a,b]:=by
 cases l with
 |nil=>cases h
 |cons a r=>obtain⟨b,rfl⟩:=ln1 (Nat.succ.inj h);exact⟨a,b,rfl⟩
theorem ln3 {α:Type}{l:List α}(h:l.length=3):∃a b c,l=[a,b,c]:=by
 cases l with
 |nil=>cases h
 |cons a r=>obtain⟨b,c,rfl⟩:=ln2 (Nat.succ.inj h);exact⟨a,b,c,rfl⟩
theorem ln4 {α:Type}{l:List α}(h:l.length=4):∃a b c d,l=[a,b,c,d]:=by
 cases l with
 |nil=>cases h
 |cons a r=>obtain⟨b,c,d,rfl⟩:=ln3 (Nat.succ.inj h);exact⟨a,b,c,d,rfl⟩
end L2
namespace L2
open PySem PySem.Spec PyProof.Rows
abbrev Key:=Sum Int Str
def a7X:Key->Value->Bool
 | .inl k,v=>Value.isInt k v
 | .inr x,v=>Value.isStrOf x v
def keyH (w:World):Key->Int
 | .inl k=>hashInt k
 | .inr x=>hashStr w x
theorem a0K:∀{k:Key} {v:Value},a7X k v=true->(∃i t,k=Sum.inl i/\v=Value.int i t)\/(∃x t,k=Sum.inr x/\v=Value.str x t)
 | .inl i,v,h=>by
  obtain⟨t,e⟩:=Value.isInt_shape (k:=i) (v:=v) h;exact .inl ⟨i,t,rfl,e⟩
 | .inr x,v,h=>by
  obtain⟨t,e⟩:=Value.isStrOf_shape (x:=x) (v:=v) h;exact .inr ⟨x,t,rfl,e⟩
theorem a8I (i:Int)(t:Tok):a7X (.inl i) (.int i t)=true:=by simp[a7X,Value.isInt]
theorem a9J (x:Str)(t:Tok):a7X (.inr x) (.str x t)=true:=by simp[a7X,Value.isStrOf]
theorem b4j (a b:Int):decide ((Sum.inl a:Key)=Sum.inl b)=(a==b):=by
 by_cases e:a=b
 ·subst e;simp
 ·have h:¬(Sum.inl a:Key)=Sum.inl b:=fun q=>e (Sum.inl.inj q)
  rw[dF0 h];exact(beq_eq_false_iff_ne.mpr e).symm
theorem b4t (a b:Str):decide ((Sum.inr a:Key)=Sum.inr b)=decide (a=b):=by
 by_cases e:a=b
 ·subst e;simp
 ·have h:¬(Sum.inr a:Key)=Sum.inr b:=fun q=>e (Sum.inr.inj q)
  rw[dF0 h,dF0 e]
theorem b4H (a:Int)(b:Str):decide ((Sum.inl a:Key)=Sum.inr b)=false:=dF0 (fun q=>nomatch q)
theorem b4q (a:Str)(b:Int):decide ((Sum.inr a:Key)=Sum.inl b)=false:=dF0 (fun q=>nomatch q)
def a0z (prog:Program)(w:World):PySem.KeyKind prog w Key where
 is:=a7X
 hash:=keyH w
 inj:=fun v a b ha hb=>by
  rcases a0K ha with ⟨i,t,rfl,rfl⟩ |⟨x,t,rfl,rfl⟩
  ·rcases a0K hb with ⟨j,u,rfl,e⟩ |⟨y,u,rfl,e⟩
   ·injection e with e1 _;rw[e1]
   ·exact nomatch e
  ·rcases a0K hb with ⟨j,u,rfl,e⟩ |⟨y,u,rfl,e⟩
   ·exact nomatch e
   ·injection e with e1 _;rw[e1]
 byValue:=fun k v h=>by
  rcases a0K h with ⟨i,t,rfl,rfl⟩ |⟨x,t,rfl,rfl⟩<;>rfl
 pyHash:=fun hv h=>by
  rcases a0K hv with ⟨i,t,rfl,rfl⟩ |⟨x,t,rfl,rfl⟩
  ·exact wpAny_pyHash_int h
  ·exact wpAny_pyHash_str h
 eqBool:=fun hu hv h=>by
  rcases a0K hu with ⟨i,t,rfl,rfl⟩ |⟨x,t,rfl,rfl⟩
  ·rcases a0K hv with ⟨j,u,rfl,rfl⟩ |⟨y,u,rfl,rfl⟩
   ·rw[b4j] at h;exact wpAny_eqBool_int h
   ·rw[b4H] at h;exact SeqAt.EqAt.int_str i t y u _ _ _ _ h
  ·rcases a0K hv with ⟨j,u,rfl,rfl⟩ |⟨y,u,rfl,rfl⟩
   ·rw[b4q] at h;exact SeqAt.EqAt.str_int x t j u _ _ _ _ h
   ·rw[b4t] at h;exact wpAny_eqBool_str h
 «strs»:=fun k x t v h=>by
  rcases a0K h with ⟨i,u,rfl,e⟩ |⟨y,u,rfl,e⟩
  ·exact nomatch e
  ·injection e with e1 _
   subst e1;cases v<;>rfl
theorem a6B (prog:Program)(w:World)(i:Int)(t:Tok):(a0z prog w).is (.inl i) (.int i t)=true:=a8I i t
theorem a6N (prog:Program)(w:World)(x:Str)(t:Tok):(a0z prog w).is (.inr x) (.str x t)=true:=a9J x t
inductive V where
 |non |bl (b:Bool) |int (i:Int) |str (x:Str) |byt (b:Array UInt8) |flt (b:UInt64) |ref (a:Addr) |ty (n:String)
 deriving DecidableEq
def a0Z:V->Value->Prop
 | .non,u=>u=Value.none
 | .bl b,u=>u=Value.bool b
 | .int i,u=>∃t,u=Value.int i t
 | .str x,u=>∃t,u=Value.str x t
 | .byt b,u=>∃t,u=Value.bytes b t
 | .flt b,u=>∃t,u=Value.float b t
 | .ref a,u=>u=Value.ref a
 | .ty n,u=>u=Value.type n
abbrev a1c:List V->List Value->Prop:=Paired a0Z
theorem a1c.length {xs:List V}{us:List Value}(r:a1c xs us):xs.length=us.length:=Paired.length r
theorem a1c.get:∀{xs:List V} {us:List Value} {i:Nat} {x:V},a1c xs us->xs[i]? =some x->∃u,us[i]? =some u/\a0Z x u
 |_,_,_,_,.nil,e=>by simp at e
 |_,_,0,_,.cons r _,e=>by simp at e;subst e;exact⟨_,rfl,r⟩
 |_,_,i+1,x,.cons _ t,e=>by
  obtain⟨u,h1,h2⟩:=a1c.get (i:=i) (x:=x) t (by simpa using e);exact⟨u,by simpa using h1,h2⟩
theorem a1c.set {x:V}{u:Value}(r:a0Z x u):∀{xs:List V} {us:List Value} (i:Nat),a1c xs us->a1c (xs.set i x) (us.set i u)
 |_,_,_,.nil=>.nil
 |_,_,0,.cons _ t=>.cons r t
 |_,_,i+1,.cons q t=>.cons q (a1c.set r i t)
theorem a1c.append:∀{xs ys:List V} {us ws:List Value},a1c xs us->a1c ys ws->a1c (xs++ys) (us++ws)
 |_,_,_,_,.nil,s=>s
 |_,_,_,_,.cons r t,s=>.cons r (a1c.append t s)
theorem a1c.take:∀{xs:List V} {us:List Value} (n:Nat),a1c xs us->a1c (xs.take n) (us.take n)
 |_,_,0,_=>.nil
 |_,_,_+1,.nil=>.nil
 |_,_,n+1,.cons r t=>.cons r (a1c.take n t)
theorem a1c.drop:∀{xs:List V} {us:List Value} (n:Nat),a1c xs us->a1c (xs.drop n) (us.drop n)
 |_,_,0,r=>r
 |_,_,_+1,.nil=>.nil
 |_,_,n+1,.cons _ t=>a1c.drop n t
def a6e:Option V->Option Value->Prop
 |some v,some u=>a0Z v u
 |none,none=>True
 |_,_=>False
def KV {κ:Type}:List (κ×V)->List (κ×Value)->Prop:=Paired fun(p:κ×V) (q:κ×Value)=>p.1=q.1/\a0Z p.2 q.2
def kV:Key->V
 | .inl i=>.int i
 | .inr x=>.str x
inductive HO where
 |lst (xs:List V)
 |tup (xs:List V)
 |dK (kvs:List (Key×V)) |dT (kvs:List (List Key×V))
 |set (S:Int->Bool) (n:Nat)
 |ins (C dx:Addr) (fs:List (Str×V))
 |own (x:Addr)
 |xd (fs:List (Str×V))
 |met (f x:Addr)
 |rng (lo hi:Int)
 |frz (o:Obj) (u:HO)
 |tbl (ps:Array Value)
 |ext (φ:Heap->Prop)
abbrev Hp:=Addr->Option HO
def upd (H:Hp)(a:Addr)(o:HO):Hp:=fun b=>if b=a then some o else H b
theorem a0b {H:Hp}{a:Addr}{o:HO}:upd H a o a=some o:=by unfold upd;rw[if_pos rfl]
theorem a0g {H:Hp}{a b:Addr}{o:HO}(h:b≠a):upd H a o b=H b:=by unfold upd;rw[if_neg h]
theorem b2z {H:Hp}{a:Addr}{o u:HO}:upd (upd H a o) a u=upd H a u:=by
 funext b;unfold upd;split<;>rfl
theorem b4Y {H:Hp}{a b:Addr}{o u:HO}(h:H a=some o)(h':H b=some u)(d:o≠u):a≠b:=by
 intro e;subst e;rw[h] at h';exact d (Option.some.inj h')
theorem a0C {H:Hp}{a b:Addr}{o:HO}(h:H a=some o)(h':H b=none):a≠b:=by
 intro e;subst e;rw[h] at h';cases h'
section
variable (P:Program)(w:World)
def a1l (H:Hp)(h:Heap)(a:Addr):HO->Prop
 | .lst xs=>xs.length<=sizeLine/\∃(its:List Value) (n:Nat),a1c xs its/\h.get? a=some { cls:=.type "list",data:=.seq its.toArray n }
 | .tup xs=>xs.length<=sizeLine/\∃its:List Value,a1c xs its/\IsTup h a its.toArray
 | .dK kvs=>kvs.length<=sizeLine/\(a==sysModules)=false/\∃vs,KV kvs vs/\h.DictOf (a0z P w) a vs
 | .dT kvs=>kvs.length<=sizeLine/\(a==sysModules)=false/\∃xs:List (List Key×Addr×Value),
   Paired (fun(p:List Key×V) (q:List Key×Addr×Value)=>p.1=q.1/\H q.2.1=some (.tup (p.1.map kV))/\a0Z p.2 q.2.2) kvs xs ∧
   ∃o es ep,h.get? a=some o/\o.ExactDict/\o.data=.dict es ep/\es.toList=xs.map (entryOfKey (tupleKind (a0z P w)))/\(xs.map (·.1)).Nodup
 | .set S n=>h.SetOf (intKind P w) a S n
 | .ins C dx fs=>H dx=some (.own a)/\fs.length<=1000/\dx≠a/\h.get? a=some (PySem.W.instObj C dx) ∧
   ∃mA,h.Ns1 dx mA/\(∀f,a6e (fs.lookup f) (mA f))/\PySem.Within mA (fs.map (·.1))
 | .own _=>∃o,h.get? a=some o
 | .xd fs=>∃mA,h.Ns1 a mA/\∀f,a6e (fs.lookup f) (mA f)
 | .rng lo hi=>∃t u v,h.get? a=some { cls:=.type "range",data:=.fields #[.int lo t,.int hi u,.int 1 v] }
 | .frz o u=>h.get? a=some o/\a1l H h a u
 | .tbl ps=>h.get? a=some { cls:=.none,data:=.fields ps }
 | .met f x=>h.get? a=some (PySem.W.methodObj (.ref f) (.ref x))
 | .ext φ=>φ h/\(∃o,h.get? a=some o)/\∀h1 h2:Heap,φ h1->(∀o,h1.get? a=some o->h2.get? a=some o)->φ h2
def HOk (H:Hp)(h:Heap):Prop:=∀a o,H a=some o->a1l P w H h a o
end
section
variable {P:Program}{w:World}{H H':Hp}{h h':Heap}{a:Addr}{o:HO}
theorem a1l.lt (x:a1l P w H h a o):a<h.objs.size:=by
 cases o with
 |lst xs=>obtain⟨_,_,_,_,e⟩:=x;exact hL0 e
 |tup xs=>obtain⟨_,_,_,p⟩:=x;exact p.lt
 |dK kvs=>obtain⟨_,_,_,_,o,_,_,e,_⟩:=x;exact hL0 e
 |dT kvs=>obtain⟨_,_,_,_,o,_,_,e,_⟩:=x;exact hL0 e
 |set S n=>obtain⟨o,_,_,_,e,_⟩:=x;exact hL0 e
 |ins C dx fs=>obtain⟨_,_,_,e,_⟩:=x;exact hL0 e
 |own y=>obtain⟨_,e⟩:=x;exact hL0 e
 |xd fs=>obtain⟨_,⟨_,_,_,e,_⟩,_⟩:=x;exact hL0 e
 |rng lo hi=>obtain⟨_,_,_,e⟩:=x;exact hL0 e
 |frz ob u=>obtain⟨e,_⟩:=x;exact hL0 e
 |tbl ps=>exact hL0 (show h.get? a=some _ from x)
 |met f y=>exact hL0 (show h.get? a=some _ from x)
 |ext φ=>obtain⟨_,⟨_,e⟩,_⟩:=x;exact hL0 e
theorem Paired.mapP {α β:Type}{F G:α->β->Prop}:∀{l₁:List α} {l₂:List β},Paired F l₁ l₂->(∀a b,F a b->G a b)->Paired G l₁ l₂
 |_,_,.nil,_=>.nil
 |_,_,.cons r t,f=>.cons (f _ _ r) (Paired.mapP t f)
theorem a1l.stay (x:a1l P w H h a o)(k:∀b u,(b=a\/H b=some (.own a))->h.get? b=some u->h'.get? b=some u)
  (ho:∀b,H b=some (.own a)->H' b=some (.own a)) (ht:∀b xs,H b=some (.tup xs)->H' b=some (.tup xs)):a1l P w H' h' a o:=by
 induction o with
 |lst xs=>obtain⟨z,its,n,r,e⟩:=x;exact⟨z,its,n,r,k _ _ (.inl rfl) e⟩
 |tup xs=>obtain⟨z,its,r,ob,e,c⟩:=x;exact⟨z,its,r,ob,k _ _ (.inl rfl) e,c⟩
 |dK kvs=>obtain⟨z,y,vs,r,ob,es,ep,e,c⟩:=x;exact⟨z,y,vs,r,ob,es,ep,k _ _ (.inl rfl) e,c⟩
 |dT kvs=>
  obtain⟨z,y,xs,r,ob,es,ep,e,c⟩:=x;exact⟨z,y,xs,Paired.mapP r fun p q z=>⟨z.1,ht _ _ z.2.1,z.2.2⟩,ob,es,ep,k _ _ (.inl rfl) e,c⟩
 |set S n=>obtain⟨ob,es,ep,t,e,c⟩:=x;exact⟨ob,es,ep,t,k _ _ (.inl rfl) e,c⟩
 |ins C dx fs=>
  obtain⟨d,z,ne,e,mA,⟨od,es,ep,e2,c⟩,r⟩:=x;exact⟨ho _ d,z,ne,k _ _ (.inl rfl) e,mA,⟨od,es,ep,k _ _ (.inr d) e2,c⟩,r⟩
 |own y=>obtain⟨ob,e⟩:=x;exact⟨ob,k _ _ (.inl rfl) e⟩
 |xd fs=>obtain⟨mA,⟨od,es,ep,e,c⟩,r⟩:=x;exact⟨mA,⟨od,es,ep,k _ _ (.inl rfl) e,c⟩,r⟩
 |rng lo hi=>obtain⟨t,u,v,e⟩:=x;exact⟨t,u,v,k _ _ (.inl rfl) e⟩
 |frz ob u ih=>obtain⟨e,q⟩:=x;exact⟨k _ _ (.inl rfl) e,ih q⟩
 |tbl ps=>
  have e:h.get? a=some { cls:=.none,data:=.fields ps }:=x;show h'.get? a=some { cls:=.none,data:=.fields ps };exact k a _ (.inl rfl) e
 |met f y=>
  have e:h.get? a=some (PySem.W.methodObj (.ref f) (.ref y)):=x;show h'.get? a=some (PySem.W.methodObj (.ref f) (.ref y));exact k a _ (.inl rfl) e
 |ext φ=>obtain⟨p,⟨o,e⟩,st⟩:=x;exact⟨st _ _ p fun o q=>k _ _ (.inl rfl) q,⟨o,k _ _ (.inl rfl) e⟩,st⟩
theorem HOk.lt (x:HOk P w H h)(e:H a=some o):a<h.objs.size:=(x a o e).lt
theorem HOk.fresh (x:HOk P w H h)(e:h.objs.size<=a):H a=none:=by
 cases q:H a with
 |none=>rfl
 |some u=>exact absurd (Nat.lt_of_lt_of_le (x.lt q) e) (Nat.lt_irrefl _)
theorem HOk.kept (x:HOk P w H h)(k:∀b u,h.get? b=some u->h'.get? b=some u):HOk P w H h':=fun a o e=>
 (x a o e).stay (fun b u _ q=>k b u q) (fun _ q=>q) fun _ _ q=>q
theorem HOk.laid (x:HOk P w H h)(k:∀b u,h.get? b=some u->h'.get? b=some u)(hp:h.objs.size<=a)(new:a1l P w (upd H a o) h' a o):HOk P w (upd H a o) h':=fun b u e=>by
 have hn:=x.fresh hp
 by_cases hb:b=a
 ·subst hb;rw[a0b] at e;cases e;exact new
 ·rw[a0g hb] at e
  exact(x b u e).stay (fun c v _ q=>k c v q) (fun c q=>by rw[a0g (a0C q hn)];exact q) fun c xs q=>by rw[a0g (a0C q hn)];exact q
end
def Rd (H:Hp)(a:Addr)(u:HO):Prop:=H a=some u\/∃o,H a=some (.frz o u)
theorem Rd.ok {P:Program}{w:World}{H:Hp}{h:Heap}{a:Addr}{u:HO}(r:Rd H a u)(x:HOk P w H h):a1l P w H h a u:=by
 rcases r with r |⟨o,r⟩
 ·exact x a u r
 ·obtain⟨_,q⟩:=x a _ r
  exact q
def Mut:Option HO->Prop
 |some (.lst _)=>True
 |some (.dK _)=>True
 |some (.dT _)=>True
 |some (.set _ _)=>True
 |some (.ins _ _ _)=>True
 |some (.ext _)=>True
 |_=>False
section
variable {P:Program}{w:World}{H:Hp}{h h':Heap}{x e:Addr}{o':HO}
theorem HOk.write (ok:HOk P w H h)(mu:Mut (H x))(he:e=x\/H e=some (.own x))(k:∀b u,b≠e->h.get? b=some u->h'.get? b=some u)(heo:∃u,h'.get? e=some u)
  (new:a1l P w (upd H x o') h' x o'):HOk P w (upd H x o') h':=fun b u q=>by
 have nown:∀c y,H c=some (.own y)->c≠x:=fun c y r z=>by subst z;rw[r] at mu;exact mu
 have ntup:∀c xs,H c=some (.tup xs)->c≠x:=fun c xs r z=>by subst z;rw[r] at mu;exact mu
 by_cases hb:b=x
 ·subst hb;rw[a0b] at q;cases q;exact new
 ·rw[a0g hb] at q
  by_cases hbe:b=e
  ·have q':H b=some (.own x):=by
    rcases he with z |z
    ·exact absurd (hbe.trans z) hb
    ·rw[hbe];exact z
   rw[q] at q';cases q';obtain⟨v,hv⟩:=heo;exact⟨v,by rw[hbe];exact hv⟩
  ·refine(ok b u q).stay (fun c v hc r=>k c v ?_ r) (fun c r=>by rw[a0g (nown c b r)];exact r) fun c xs r=>by rw[a0g (ntup c xs r)];exact r
   rcases hc with rfl |hc
   ·exact hbe
   ·rintro rfl
    rcases he with z |z
    ·exact nown c b hc z
    ·rw[hc] at z;cases z;exact hb rfl
end
structure Un (fs ex:List Addr) (H H':Hp) (h h':Heap):Prop where
 keep:∀b o,h.get? b=some o->H b=none->b∉fs->b∉ex->h'.get? b=some o
 slot:∀b o,h.get? b=some o->H b=none->b∈fs->b∉ex->∃sl,h'.get? b=some { o with slots:=sl }
 free:∀b o,h.get? b=some o->H b=none->b∉ex->H' b=none
 there:∀b o,h.get? b=some o->b∉ex->∃o',h'.get? b=some o'
 tups:∀b xs,H b=some (.tup xs)->H' b=some (.tup xs)
 frzs:∀b o u,H b=some (.frz o u)->H' b=some (.frz o u)
 tbls:∀b ps,H b=some (.tbl ps)->∃more,H' b=some (.tbl (ps++more))
section
variable {fs fs' ex ex':List Addr}{H H1 H2:Hp}{h h1 h2 h':Heap}{a x e:Addr}{o:HO}
theorem Un.any (u:Un fs ex H H1 h h1){b:Addr}{ob:Obj}(q:h.get? b=some ob)(n:H b=none)(hx:b∉ex):∃sl,h1.get? b=some { ob with slots:=sl }:=by
 by_cases hb:b∈fs
 ·exact u.slot b ob q n hb hx
 ·exact⟨ob.slots,u.keep b ob q n hb hx⟩
theorem Un.kept (k:∀b u,h.get? b=some u->h'.get? b=some u):Un fs ex H H h h':=
 ⟨fun b ob q _ _ _=>k b ob q,fun b ob q _ _ _=>⟨ob.slots,k b ob q⟩,fun _ _ _ n _=>n,fun b ob q _=>⟨ob,k b ob q⟩,fun _ _ q=>q,fun _ _ _ q=>q,fun _ ps q=>⟨#[],by rw[q];simp⟩⟩
theorem Un.refl:Un fs ex H H h h:=Un.kept fun _ _ q=>q
theorem Un.laid (k:∀b u,h.get? b=some u->h'.get? b=some u)(hp:h.objs.size<=a)(hn:H a=none):Un fs ex H (upd H a o) h h' where
 keep:=fun b u q _ _ _=>k b u q
 slot:=fun b u q _ _ _=>⟨u.slots,k b u q⟩
 free:=fun b u q n _=>by rw[a0g (nL0 (Nat.lt_of_lt_of_le (hL0 q) hp))];exact n
 there:=fun b u q _=>⟨u,k b u q⟩
 tups:=fun b xs q=>by rw[a0g (a0C q hn)];exact q
 frzs:=fun b u xs q=>by rw[a0g (a0C q hn)];exact q
 tbls:=fun b ps q=>⟨#[],by rw[a0g (a0C q hn),q];simp⟩
theorem Un.write (mu:Mut (H x))(he:e=x\/H e=some (.own x))(k:∀b u,b≠e->h.get? b=some u->h'.get? b=some u)(heo:∃u,h'.get? e=some u):Un fs ex H (upd H x o) h h':=by
 have hx:∀b,H b=none->b≠x:=fun b n z=>by subst z;rw[n] at mu;exact mu
 have hb:∀b,H b=none->b≠e:=fun b n z=>by
  subst z;rcases he with r |r
  ·exact hx b n r
  ·rw[n] at r;cases r
 have hm:∀b u,H b=some u->¬Mut (some u)->b≠x:=fun b u q nm z=>by subst z;rw[q] at mu;exact nm mu
 refine⟨fun b u q n _ _=>k b u (hb b n) q,fun b u q n _ _=>⟨u.slots,k b u (hb b n) q⟩,fun b u q n _=>by rw[a0g (hx b n)];exact n,fun b u q _=>?_,
  fun b xs q=>by rw[a0g (hm b _ q fun z=>z)];exact q,fun b u xs q=>by rw[a0g (hm b _ q fun z=>z)];exact q,fun b ps q=>⟨#[],by rw[a0g (hm b _ q fun z=>z),q];simp⟩⟩
 by_cases hbe:b=e
 ·subst hbe;exact heo
 ·exact⟨u,k b u hbe q⟩
end
def trk (h:Heap)(H:Hp):List Addr:=(List.range h.objs.size).filter fun a=>(H a).isSome
def a6I (h:Heap)(H:Hp):Heap:=PySem.W.hideAll h (trk h H)
theorem a5z (h:Heap)(H:Hp):(a6I h H).objs.size=h.objs.size:=PySem.W.hideAll_size _ _
theorem a7p {h:Heap}{H:Hp}{b:Addr}{o:Obj}(e:h.get? b=some o)(n:H b=none):(a6I h H).get? b=some o:=
 PySem.W.hideAll_get _ e fun hm=>by
  have q:(H b).isSome=true:=(List.mem_filter.mp hm).2;rw[n] at q;simp at q
theorem a8V {h:Heap}{H:Hp}{b:Addr}{o:Obj}(e:(a6I h H).get? b=some o):h.get? b=some o/\H b=none:=by
 have e':h.get? b=some o:=PySem.W.of_hideAll (trk h H) e;refine⟨e',?_⟩;cases q:H b with
 |none=>rfl
 |some x=>
  have hm:b∈trk h H:=List.mem_filter.mpr ⟨List.mem_range.mpr (hL0 e'),by simp[q]⟩;have z:(a6I h H).get? b=none:=PySem.W.hideAll_none (trk h H) hm;rw[z] at e;cases e
structure Mod (K:Fg0) (mg:Str->Option Value) (base:Heap):Prop where
 kin:K.In base
 glob:base.Ns mainGlobals mg
 blt:∃mb,base.Ns builtinsNs mb/\∀x:Str,x≠"__name__"->mb x=bootBuiltins x
 nolimit:base.NoLimit
structure Cx where
 prog:Program
 w:World
 K:Fg0
 mg:Str->Option Value
 base:Heap
 A:Around
 N:List Str
 s₀:Shared
 H₀:Hp
 env:Env
 outer:List Env
 stack:List Env
 ex:List Addr
 fn:Str->Bool
 calm:Bool
 pn:List (Addr×Obj)
 xe:Vs0
def frs (l:List Env):List Addr:=l.filterMap (·.frame)
abbrev Cx.fs (X:Cx):List Addr:=frs X.outer
def Vis (sc:Scope)(x:Str):Prop:=sc.names.lookup x=some .local\/sc.names.lookup x=some .cell\/sc.names.lookup x=some .free
def Loc (sc:Scope)(x:Str):Prop:=sc.names.lookup x=some .local\/sc.names.lookup x=some .cell
def Look (env:Env)(h:Heap)(m:Str->Option Value)(x:Str)(u:Value):Prop:=
 (env.kindOf x=some .local/\m x=some u)\/((env.kindOf x=some .cell\/env.kindOf x=some .free)/\∃c,env.cells.lookup x=some c/\h.IsCell c (some u))
structure Cx.Ok (X:Cx):Prop where
 mod:Mod X.K X.mg X.base
 kind:X.env.scope.kind=.function
 glob:X.env.globals=mainGlobals
 blt:X.env.builtins=builtinsNs
 above:X.s₀.heap.objs.size<=X.env.locals
 inj:∀x y c,X.env.cells.lookup x=some c->X.env.cells.lookup y=some c->x=y
 has:∀x,(X.env.kindOf x=some .cell\/X.env.kindOf x=some .free)->∃c,X.env.cells.lookup x=some c
 cab:∀x c,X.fn x=true->X.env.cells.lookup x=some c->X.s₀.heap.objs.size<=c
 hd:X.calm=true->X.A.handled=none
 frames:X.A.frames=some X.stack
 stk:X.stack=X.outer\/(X.stack=X.env::X.outer/\X.env.frame=some X.env.locals)
 exf:∀b∈X.ex,b≠X.env.locals/\∀x c,X.env.cells.lookup x=some c->c≠b
 bs:∀b o,X.base.get? b=some o->X.s₀.heap.get? b=some o/\X.H₀ b=none
 bsz:X.base.objs.size<=X.s₀.heap.objs.size
 noex:∀b o,X.base.get? b=some o->b∉X.ex
 exfs:∀b∈X.ex,b∉X.fs
 funs:X.s₀.heap.FunFrames X.base X.outer
 frf:∀b∈X.fs,X.H₀ b=none
structure Inv (X:Cx) (pins:List (Addr×Obj)) (σ:List (Option V)) (H:Hp) (s:Shared):Prop where
 ok:X.Ok
 os:s.os=X.s₀.os
 bare:AllBare s.gens
 base:Un X.fs X.ex X.H₀ H X.s₀.heap s.heap
 loc:∃m,s.heap.Ns X.env.locals m/\∀(i:Nat) (x:Str) (v:V),X.N[i]? =some x->σ[i]? =some (some v)->Vis X.env.scope x->∃u,a0Z v u/\Look X.env s.heap m x u
 cell:∀x c,X.env.cells.lookup x=some c->∃v,s.heap.IsCell c v
 free:H X.env.locals=none
 freeC:∀x c,X.env.cells.lookup x=some c->H c=none
 pin:∀p∈X.pn++pins,s.heap.get? p.1=some p.2/\H p.1=none/\p.1≠X.env.locals/\p.1∉X.fs/\∀v,p.2.data≠.cell v
 hok:HOk X.prog X.w H s.heap
 len:σ.length=X.N.length
section
variable {X:Cx}{pins:List (Addr×Obj)}{σ:List (Option V)}{H H':Hp}{s:Shared}{h':Heap}
theorem Cx.Ok.nofr (ok:X.Ok){b:Addr}{o:Obj}(e:X.base.get? b=some o):b∉X.fs:=fun hb=>by
 have:=(ok.funs.mem hb).1
 rw[e] at this;cases this
theorem Inv.bs (I:Inv X pins σ H s):∀b o,X.base.get? b=some o->s.heap.get? b=some o/\H b=none:=fun b o e=>
 ⟨I.base.keep b o (I.ok.bs b o e).1 (I.ok.bs b o e).2 (I.ok.nofr e) (I.ok.noex b o e),I.base.free b o (I.ok.bs b o e).1 (I.ok.bs b o e).2 (I.ok.noex b o e)⟩
theorem Inv.bk (I:Inv X pins σ H s):∀b o,X.base.get? b=some o->s.heap.get? b=some o:=fun b o e=>(I.bs b o e).1
theorem Inv.mod (I:Inv X pins σ H s):Mod X.K X.mg X.base:=I.ok.mod
theorem Inv.kIn (I:Inv X pins σ H s):X.K.In s.heap:=I.ok.mod.kin.keeps I.bk
theorem Inv.lt (I:Inv X pins σ H s):X.env.locals<s.heap.objs.size:=let ⟨_,hn,_⟩:=I.loc;hn.lt
theorem Inv.sz (I:Inv X pins σ H s):X.s₀.heap.objs.size<=s.heap.objs.size:=Nat.le_trans I.ok.above (Nat.le_of_lt I.lt)
theorem Inv.nofs (I:Inv X pins σ H s){a:Addr}(h:s.heap.objs.size<=a):a∉X.fs:=fun hb=>by
 obtain⟨_,o,ho,_⟩:=I.ok.funs.mem hb;exact absurd (Nat.lt_of_lt_of_le (hL0 ho) (Nat.le_trans I.sz h)) (Nat.lt_irrefl _)
theorem Inv.cne (I:Inv X pins σ H s):∀x c,X.env.cells.lookup x=some c->c≠X.env.locals:=fun x c e z=>by
 obtain⟨v,o,ho,hd⟩:=I.cell x c e;obtain⟨m,⟨o',es,ep,ho',hd',_⟩,_⟩:=I.loc;rw[z,ho'] at ho;cases ho;rw[hd'] at hd;cases hd
theorem Inv.funs (I:Inv X pins σ H s):s.heap.FunFrames X.base X.outer:=by
 have all:∀(l:List Env),(∀b∈frs l,b∈X.fs)->X.s₀.heap.FunFrames X.base l->s.heap.FunFrames X.base l:=by
  intro l
  induction l with
  |nil=>intro _ _;trivial
  |cons env r ih=>
   intro hs hl;obtain⟨hk,⟨L,o,hf,hn,ho,hd⟩,hr⟩:=hl;have hL:L∈X.fs:=hs L (by unfold frs;rw[List.filterMap_cons,hf];exact List.mem_cons_self);obtain⟨sl,e⟩:=I.base.slot L o ho (I.ok.frf L hL) hL fun z=>I.ok.exfs L z hL;exact⟨hk,⟨L,_,hf,hn,e,hd⟩,ih (fun b hb=>hs b (by unfold frs;rw[List.filterMap_cons,hf];exact mL0 _ hb)) hr⟩
 exact all X.outer (fun _ hb=>hb) I.ok.funs
theorem Inv.stack (I:Inv X pins σ H s):s.heap.FunFrames X.base X.stack:=by
 rcases I.ok.stk with e |⟨e,hf⟩
 ·rw[e];exact I.funs
 ·rw[e]
  obtain⟨m,hn,_⟩:=I.loc;refine .cons (by rw[I.ok.kind];decide) hf hn ?_ I.funs;exact Heap.get?_none_of_le (Nat.le_trans I.ok.bsz I.ok.above)
theorem Inv.stkSub (I:Inv X pins σ H s):∀b∈frs X.stack,b∈X.env.locals::X.fs:=fun b hb=>by
 rcases I.ok.stk with e |⟨e,hf⟩
 ·rw[e] at hb;exact mL0 _ hb
 ·rw[e] at hb
  unfold frs at hb;rw[List.filterMap_cons,hf] at hb;exact hb
theorem Inv.stkFree (I:Inv X pins σ H s):∀b∈frs X.stack,H b=none:=fun b hb=>by
 rcases mK0.mp (I.stkSub b hb) with e |hb
 ·rw[e];exact I.free
 ·obtain⟨_,o,ho,_⟩:=I.ok.funs.mem hb
  exact I.base.free b o ho (I.ok.frf b hb) fun z=>I.ok.exfs b z hb
theorem Inv.step {g':Array GenState}{t':Nat}{d':Drawn}{ch:List Addr}(I:Inv X pins σ H s)
  (hch:∀b∈ch,(b∈X.ex\/X.s₀.heap.objs.size<=b)/\b≠X.env.locals/\(∀x c,X.env.cells.lookup x=some c->c≠b)/\∀p∈X.pn++pins,p.1≠b)
  (keep:∀b o,b≠X.env.locals->b∉X.fs->b∉ch->s.heap.get? b=some o->H b=none->h'.get? b=some o)
  (slot:∀b o,b≠X.env.locals->b∈X.fs->b∉ch->s.heap.get? b=some o->H b=none->∃sl,h'.get? b=some { o with slots:=sl }) (free:∀b o,b∉ch->s.heap.get? b=some o->H b=none->H' b=none)
  (there:∀b o,b∉ch->s.heap.get? b=some o->∃o',h'.get? b=some o')
  (tups:∀b xs,H b=some (.tup xs)->H' b=some (.tup xs)) (frzs:∀b o u,H b=some (.frz o u)->H' b=some (.frz o u)) (tbls:∀b ps,H b=some (.tbl ps)->∃more,H' b=some (.tbl (ps++more)))
  (ns:∀m,s.heap.Ns X.env.locals m->h'.Ns X.env.locals m) (hok:HOk X.prog X.w H' h') (hg:AllBare g') :
  Inv X pins σ H' { s with heap:=h',gens:=g',drawn:=d',toks:=t' }:=by
 have neL:∀b o,X.s₀.heap.get? b=some o->b≠X.env.locals:=fun b o e=>nL0 (Nat.lt_of_lt_of_le (hL0 e) I.ok.above);have neC:∀b o,X.s₀.heap.get? b=some o->b∉X.ex->b∉ch:=fun b o e hx hb=>by
  rcases (hch b hb).1 with z |z
  ·exact hx z
  ·exact absurd (Nat.lt_of_lt_of_le (hL0 e) z) (Nat.lt_irrefl _)
 have cellK:∀x c,X.env.cells.lookup x=some c->∀v,s.heap.IsCell c v->h'.IsCell c v:=fun x c e v ⟨o,ho,hd⟩=>by
  have nch:c∉ch:=fun z=>(hch c z).2.2.1 x c e rfl
  by_cases hc:c∈X.fs
  ·obtain⟨sl,q⟩:=slot c o (I.cne x c e) hc nch ho (I.freeC x c e)
   exact⟨_,q,hd⟩
  ·exact⟨o,keep c o (I.cne x c e) hc nch ho (I.freeC x c e),hd⟩
 refine⟨I.ok,I.os,hg,⟨fun b o e n hb hx=>?_,fun b o e n hb hx=>?_,fun b o e n hx=>?_,fun b o e hx=>?_,fun b xs e=>tups b xs (I.base.tups b xs e),fun b o xs e=>frzs b o xs (I.base.frzs b o xs e),fun b ps e=>?_⟩,?_,fun x c e=>?_,?_,fun x c e=>?_,fun p hp=>?_,hok,I.len⟩
 ·exact keep b o (neL b o e) hb (neC b o e hx) (I.base.keep b o e n hb hx) (I.base.free b o e n hx)
 ·obtain⟨sl,e1⟩:=I.base.slot b o e n hb hx
  obtain⟨sl',e2⟩:=slot b _ (neL b o e) hb (neC b o e hx) e1 (I.base.free b o e n hx);exact⟨sl',e2⟩
 ·obtain⟨o',e1⟩:=I.base.there b o e hx
  exact free b o' (neC b o e hx) e1 (I.base.free b o e n hx)
 ·obtain⟨o',e1⟩:=I.base.there b o e hx
  exact there b o' (neC b o e hx) e1
 ·obtain⟨m1,e1⟩:=I.base.tbls b ps e
  obtain⟨m2,e2⟩:=tbls b _ e1;exact⟨m1++m2,by rw[e2,Array.append_assoc]⟩
 ·obtain⟨m,hn,hl⟩:=I.loc
  refine⟨m,ns m hn,fun i x v e1 e2 e3=>?_⟩;obtain⟨u,r,l⟩:=hl i x v e1 e2 e3;refine⟨u,r,?_⟩;rcases l with l |⟨k,c,e,z⟩
  ·exact .inl l
  ·exact .inr ⟨k,c,e,cellK x c e _ z⟩
 ·obtain⟨v,z⟩:=I.cell x c e
  exact⟨v,cellK x c e v z⟩
 ·obtain⟨m,⟨o,_,_,ho,_⟩,_⟩:=I.loc
  exact free _ o (fun z=>(hch _ z).2.1 rfl) ho I.free
 ·obtain⟨v,o,ho,hd⟩:=I.cell x c e
  exact free c o (fun z=>(hch c z).2.2.1 x c e rfl) ho (I.freeC x c e)
 ·obtain⟨e,n,ne,nf,d⟩:=I.pin p hp
  have nch:p.1∉ch:=fun z=>(hch p.1 z).2.2.2 p hp rfl;exact⟨keep p.1 p.2 ne nf nch e n,free p.1 p.2 nch e n,ne,nf,d⟩
theorem Inv.un {t':Nat}(I:Inv X pins σ H s)(u:Un X.fs [] H H' s.heap h')(hok:HOk X.prog X.w H' h'):Inv X pins σ H' { s with heap:=h',toks:=t' }:=by
 obtain⟨m,⟨o,es,ep,ho,r⟩,_⟩:=id I.loc;obtain⟨sl,hL⟩:=u.any ho I.free (by simp);exact I.step (g':=s.gens) (d':=s.drawn) (ch:=[]) (fun _ z=>nomatch z) (fun b o _ hb _ e n=>u.keep b o e n hb (by simp)) (fun b o _ hb _ e n=>u.slot b o e n hb (by simp)) (fun b o _ e n=>u.free b o e n (by simp)) (fun b o _ e=>u.there b o e (by simp)) u.tups u.frzs u.tbls (fun m' hm=>by
  obtain⟨o',es',ep',ho',r'⟩:=hm;rw[ho] at ho';cases ho';exact⟨_,es',ep',hL,r'⟩) hok I.bare
theorem Inv.call {g':Array GenState}{t':Nat}{d':Drawn}{ch:List Addr}(I:Inv X pins σ H s)(u:Un (frs X.stack) ch H H' s.heap h')(hok:HOk X.prog X.w H' h')(hg:AllBare g')
  (hch:∀b∈ch,(b∈X.ex\/X.s₀.heap.objs.size<=b)/\b≠X.env.locals/\(∀x c,X.env.cells.lookup x=some c->c≠b)/\∀p∈X.pn++pins,p.1≠b) :
  Inv X pins σ H' { s with heap:=h',gens:=g',drawn:=d',toks:=t' }:=by
 obtain⟨m,⟨o,es,ep,ho,r⟩,_⟩:=id I.loc;obtain⟨sl,hL⟩:=u.any ho I.free fun z=>(hch _ z).2.1 rfl;exact I.step (ch:=ch) hch (fun b o hL hb hc e n=>u.keep b o e n (fun z=>(mK0.mp (I.stkSub b z)).elim hL hb) hc) (fun b o _ _ hc e n=>u.any e n hc) (fun b o hc e n=>u.free b o e n hc) (fun b o hc e=>u.there b o e hc) u.tups u.frzs u.tbls (fun m' hm=>by
  obtain⟨o',es',ep',ho',r'⟩:=hm;rw[ho] at ho';cases ho';exact⟨_,es',ep',hL,r'⟩) hok hg
theorem Inv.turned {t':Nat}{it:Addr}(I:Inv X pins σ H s)(k:∀b o,b≠it->s.heap.get? b=some o->h'.get? b=some o)(hn:H it=none)(hL:it≠X.env.locals)
  (h1:it∈X.ex\/X.s₀.heap.objs.size<=it) (h2:∀x c,X.env.cells.lookup x=some c->c≠it) (h3:∀p∈X.pn++pins,p.1≠it):Inv X pins σ H { s with heap:=h',toks:=t' }:=by
 have nit:∀b u,H b=some u->b≠it:=fun b u e z=>by rw[z,hn] at e;cases e
 refine I.step (g':=s.gens) (d':=s.drawn) (ch:=[it]) (fun b hb=>?_) (fun b o _ _ hc e _=>k b o (fun z=>hc (by simp[z])) e) (fun b o _ _ hc e _=>⟨o.slots,k b o (fun z=>hc (by simp[z])) e⟩) (fun _ _ _ _ n=>n)
  (fun b o hc e=>⟨o,k b o (fun z=>hc (by simp[z])) e⟩) (fun _ _ e=>e) (fun _ _ _ e=>e) (fun b ps e=>⟨#[],by rw[e];simp⟩) (fun m hm=>?_) (fun b u e=>?_) I.bare
 ·have e:b=it:=by simpa using hb
  subst e;exact⟨h1,hL,h2,h3⟩
 ·obtain⟨o,es,ep,ho,r⟩:=hm
  exact⟨o,es,ep,k _ o (Ne.symm hL) ho,r⟩
 ·refine(I.hok b u e).stay (fun c v hc q=>k c v ?_ q) (fun _ q=>q) fun _ _ q=>q
  rcases hc with z |z
  ·rw[z];exact nit b u e
  ·exact nit c _ z
theorem Inv.tok (I:Inv X pins σ H s)(t:Nat):Inv X pins σ H { s with toks:=t }:=I.un (h':=s.heap) (t':=t) Un.refl I.hok
theorem Inv.kept {t':Nat}(I:Inv X pins σ H s)(k:∀b u,s.heap.get? b=some u->h'.get? b=some u):Inv X pins σ H { s with heap:=h',toks:=t' }:=I.un (Un.kept k) (I.hok.kept k)
theorem Inv.laid {a:Addr}{o:HO}{t':Nat}(I:Inv X pins σ H s)(k:∀b u,s.heap.get? b=some u->h'.get? b=some u)(hp:s.heap.objs.size<=a)(new:a1l X.prog X.w (upd H a o) h' a o) :
  Inv X pins σ (upd H a o) { s with heap:=h',toks:=t' }:=I.un (Un.laid k hp (I.hok.fresh hp)) (I.hok.laid k hp new)
theorem Inv.write {x e:Addr}{o:HO}{t':Nat}(I:Inv X pins σ H s)(mu:Mut (H x))(he:e=x\/H e=some (.own x))(k:∀b u,b≠e->s.heap.get? b=some u->h'.get? b=some u)(heo:∃u,h'.get? e=some u)
  (new:a1l X.prog X.w (upd H x o) h' x o):Inv X pins σ (upd H x o) { s with heap:=h',toks:=t' }:=I.un (Un.write mu he k heo) (I.hok.write mu he k heo new)
theorem Inv.pins_of {pins':List (Addr×Obj)}(I:Inv X pins σ H s)(h:∀p∈pins',s.heap.get? p.1=some p.2/\H p.1=none/\p.1≠X.env.locals/\p.1∉X.fs/\∀v,p.2.data≠.cell v):Inv X pins' σ H s:=
 ⟨I.ok,I.os,I.bare,I.base,I.loc,I.cell,I.free,I.freeC,fun p hp=>(mB0.mp hp).elim (fun z=>I.pin p (List.mem_append_left _ z)) (h p),I.hok,I.len⟩
theorem a7h {N:List Str}(hN:N.Nodup){i j:Nat}{x:Str}(a:N[i]? =some x)(b:N[j]? =some x):i=j:=by
 obtain⟨h1,e1⟩:=gS0.mp a;obtain⟨h2,e2⟩:=gS0.mp b;exact(List.getElem_inj hN).mp (e1.trans e2.symm)
theorem a5N {M:Model}{A:Around}{E:Vs0}{i:Nat}{x:Str}{v:V}{u:Value}{Q:Unit->Shared->Prop}(I:Inv X pins σ H s)(hN:X.N.Nodup)(hi:X.N[i]? =some x)(hx:Loc X.env.scope x)(r:a0Z v u)
  (h:∀s',Inv X pins (σ.set i (some v)) H s'->(∃a,Heap.SameBut a s.heap s'.heap/\(a=X.env.locals\/X.env.cells.lookup x=some a))->Q () s') (hf:X.fn x=true\/X.env.scope.names.lookup x=some .local:=by first |exact .inl rfl |exact .inr rfl |assumption):wpAny M A (storeName X.env x u) Q E s:=by
 obtain⟨m,hn,hl⟩:=id I.loc;have hcls:(X.env.scope.kind==.class || (X.env.scope.kind==.module&&X.env.locals != X.env.globals))=false:=by rw[I.ok.kind];rfl
 have hiσ:i<σ.length:=by rw[I.len];exact(gS0.mp hi).1
 have cne:=I.cne;have tracked:∀{a:Addr} {h':Heap},(∃o,s.heap.get? a=some o/\H a=none)->Heap.SameBut a s.heap h'->HOk X.prog X.w H h':=fun {a h'} ha hs b ob e=>by
  obtain⟨_,_,hfree⟩:=ha;refine(I.hok b ob e).stay (fun c w' hc q=>(hs.2 c ?_).trans q) (fun _ q=>q) fun _ _ q=>q;rintro rfl;rcases hc with rfl |hc
  ·rw[hfree] at e;cases e
  ·rw[hfree] at hc;cases hc
 rcases hx with hk |hk
 ·refine wpAny_storeName_local hk hn (fun h' hn' hs=>?_) hcls
  obtain⟨oL,_,_,hoL,_⟩:=id hn;refine h _ ⟨I.ok,I.os,I.bare,⟨fun b o e n hb hx=>?_,fun b o e n hb hx=>?_,I.base.free,fun b o e hx=>?_,I.base.tups,I.base.frzs,I.base.tbls⟩,⟨_,hn',fun j y v' e1 e2 e3=>?_⟩,fun y c e=>?_,I.free,I.freeC,fun p hp=>?_,tracked ⟨oL,hoL,I.free⟩ hs,by simpa using I.len⟩ ⟨_,hs,.inl rfl⟩
  ·exact(hs.2 b (nL0 (Nat.lt_of_lt_of_le (hL0 e) I.ok.above))).trans (I.base.keep b o e n hb hx)
  ·obtain⟨sl,e1⟩:=I.base.slot b o e n hb hx
   exact⟨sl,(hs.2 b (nL0 (Nat.lt_of_lt_of_le (hL0 e) I.ok.above))).trans e1⟩
  ·obtain⟨o',e1⟩:=I.base.there b o e hx
   exact⟨o',(hs.2 b (nL0 (Nat.lt_of_lt_of_le (hL0 e) I.ok.above))).trans e1⟩
  ·by_cases hj:j=i
   ·subst hj
    rw[hi] at e1;cases e1;rw[List.getElem?_set_self hiσ] at e2;cases e2;exact⟨u,r,.inl ⟨hk,by simp⟩⟩
   ·rw[List.getElem?_set_ne (Ne.symm hj)] at e2
    obtain⟨u',r',q⟩:=hl j y v' e1 e2 e3;refine⟨u',r',?_⟩;rcases q with ⟨k,e⟩ |⟨k,c,e,z⟩
    ·refine .inl ⟨k,?_⟩
     have:y≠x:=fun e=>hj (a7h hN e1 (e▸hi))
     simp[this,e]
    ·exact .inr ⟨k,c,e,z.sameBut hs (cne y c e)⟩
  ·obtain⟨w',z⟩:=I.cell y c e
   exact⟨w',z.sameBut hs (cne y c e)⟩
  ·obtain⟨e,n,ne,nf,d⟩:=I.pin p hp
   exact⟨(hs.2 p.1 ne).trans e,n,ne,nf,d⟩
 ·have hfn:X.fn x=true:=by
   rcases hf with z |z
   ·exact z
   ·rw[z] at hk;cases hk
  obtain⟨c,hc⟩:=I.ok.has x (.inl hk);obtain⟨w',z⟩:=I.cell x c hc;refine wpAny_storeName_cell I.ok.kind hk hc z (fun h' hc' hs=>?_);obtain⟨oc,hoc,hocd⟩:=id z;refine h { s with heap:=h' } ⟨I.ok,I.os,I.bare,⟨fun b o e n hb hx=>?_,fun b o e n hb hx=>?_,I.base.free,fun b o e hx=>?_,I.base.tups,I.base.frzs,I.base.tbls⟩,⟨m,hn.sameBut hs (Ne.symm (cne x c hc)),fun j y v' e1 e2 e3=>?_⟩,fun y c' e=>?_,I.free,I.freeC,fun p hp=>?_,tracked ⟨oc,hoc,I.freeC x c hc⟩ hs,by simpa using I.len⟩ ⟨c,hs,.inr hc⟩
  ·exact(hs.2 b (nL0 (Nat.lt_of_lt_of_le (hL0 e) (I.ok.cab x c hfn hc)))).trans (I.base.keep b o e n hb hx)
  ·obtain⟨sl,e1⟩:=I.base.slot b o e n hb hx
   exact⟨sl,(hs.2 b (nL0 (Nat.lt_of_lt_of_le (hL0 e) (I.ok.cab x c hfn hc)))).trans e1⟩
  ·obtain⟨o',e1⟩:=I.base.there b o e hx
   exact⟨o',(hs.2 b (nL0 (Nat.lt_of_lt_of_le (hL0 e) (I.ok.cab x c hfn hc)))).trans e1⟩
  ·by_cases hj:j=i
   ·subst hj
    rw[hi] at e1;cases e1;rw[List.getElem?_set_self hiσ] at e2;cases e2;exact⟨u,r,.inr ⟨.inl hk,c,hc,hc'⟩⟩
   ·rw[List.getElem?_set_ne (Ne.symm hj)] at e2
    obtain⟨u',r',q⟩:=hl j y v' e1 e2 e3;refine⟨u',r',?_⟩;rcases q with q |⟨k,c',e,z'⟩
    ·exact .inl q
    ·refine .inr ⟨k,c',e,z'.sameBut hs ?_⟩
     rintro rfl;exact hj (a7h hN e1 (I.ok.inj _ _ _ e hc▸hi))
  ·by_cases hcc:c'=c
   ·subst hcc;exact⟨_,hc'⟩
   ·obtain⟨w2,z2⟩:=I.cell y c' e
    exact⟨w2,z2.sameBut hs hcc⟩
  ·obtain⟨e,n,ne,nf,d⟩:=I.pin p hp
   refine⟨(hs.2 p.1 ?_).trans e,n,ne,nf,d⟩;intro q;rw[q,hoc] at e;have q':oc=p.2:=Option.some.inj e;exact d w' (by rw[<-q'];exact hocd)
theorem a5b {M:Model}{A:Around}{E:Vs0}{i:Nat}{x:Str}{v:V}{u:Value}{Q:Unit->Shared->Prop}(I:Inv X pins σ H s)(hN:X.N.Nodup)(hi:X.N[i]? =some x)(hx:Loc X.env.scope x)(r:a0Z v u)
  (h:∀s',Inv X pins (σ.set i (some v)) H s'->Q () s') (hf:X.fn x=true\/X.env.scope.names.lookup x=some .local:=by first |exact .inl rfl |exact .inr rfl |assumption):wpAny M A (storeName X.env x u) Q E s:=
 a5N I hN hi hx r (fun s' I' _=>h s' I') hf
theorem Inv.call' {s':Shared}{ch:List Addr}(I:Inv X pins σ H s)(ho:s'.os=s.os)(u:Un (frs X.stack) ch H H' s.heap s'.heap)(hok:HOk X.prog X.w H' s'.heap)(hg:AllBare s'.gens)
  (hch:∀b∈ch,(b∈X.ex\/X.s₀.heap.objs.size<=b)/\b≠X.env.locals/\(∀x c,X.env.cells.lookup x=some c->c≠b)/\∀p∈X.pn++pins,p.1≠b):Inv X pins σ H' s':=by
 obtain⟨h',g',d',t',o'⟩:=s';have e:o'=s.os:=ho;subst e;exact I.call (g':=g') (t':=t') (d':=d') u hok hg hch
end
abbrev XK:=Value->Option Addr->Hp->Prop
abbrev St:=List (Option V)
abbrev VK:=V->Hp->Prop
abbrev TE:=St->Hp->VK->Prop
abbrev TT:=St->Hp->(Bool->Hp->Prop)->Prop
abbrev TA:=St->Hp->(List V->Hp->Prop)->Prop
structure a5o where
 nx:St->Hp->Prop
 rt:VK
 bk:St->Hp->Prop:=fun _ _=>False
 ct:St->Hp->Prop:=fun _ _=>False
abbrev TS:=a5o->St->Hp->Prop
def EP (X:Cx)(pins:List (Addr×Obj))(σ:St)(Q:VK)(u:Value)(s':Shared):Prop:=∃v H',Inv X pins σ H' s'/\a0Z v u/\Q v H'
def TP (X:Cx)(pins:List (Addr×Obj))(σ:St)(Q:Bool->Hp->Prop)(b:Bool)(s':Shared):Prop:=∃H',Inv X pins σ H' s'/\Q b H'
def AP (X:Cx)(pins:List (Addr×Obj))(σ:St)(Q:List V->Hp->Prop)(us:List Value)(s':Shared):Prop:=∃vs H',Inv X pins σ H' s'/\a1c vs us/\Q vs H'
def SP (X:Cx)(pins:List (Addr×Obj))(D:a5o)(f:Flow)(s':Shared):Prop:=
 match f with
 | .next=>∃σ' H',Inv X pins σ' H' s'/\D.nx σ' H'
 | .brk=>∃σ' H',Inv X pins σ' H' s'/\D.bk σ' H'
 | .cont=>∃σ' H',Inv X pins σ' H' s'/\D.ct σ' H'
 | .ret u=>∃v σ' H',Inv X pins σ' H' s'/\a0Z v u/\D.rt v H'
def PE (X:Cx)(e:Expr)(t:TE):Prop:=
 ∀(pins:List (Addr×Obj)) (s:Shared) (σ:St) (H:Hp) (Q:VK),Inv X pins σ H s->t σ H Q->wpAny (model X.prog X.w) X.A (eval e X.env) (EP X pins σ Q) X.xe s
def PT (X:Cx)(e:Expr)(t:TT):Prop:=
 ∀(pins:List (Addr×Obj)) (s:Shared) (σ:St) (H:Hp) (Q:Bool->Hp->Prop),Inv X pins σ H s->t σ H Q->wpAny (model X.prog X.w) X.A (isTrue e X.env (eval e X.env)) (TP X pins σ Q) X.xe s
def PW (X:Cx)(e:Expr)(t:TT):Prop:=
 ∀(whole:Sem Value) (pins:List (Addr×Obj)) (s:Shared) (σ:St) (H:Hp) (Q:Bool->Hp->Prop),Inv X pins σ H s->t σ H Q->wpAny (model X.prog X.w) X.A (isTrue e X.env whole) (TP X pins σ Q) X.xe s
theorem PW.pt {X:Cx}{e:Expr}{t:TT}(h:PW X e t):PT X e t:=h _
def PA (X:Cx)(es:List Expr)(t:TA):Prop:=
 ∀(pos:Pos) (pins:List (Addr×Obj)) (s:Shared) (σ:St) (H:Hp) (Q:List V->Hp->Prop),Inv X pins σ H s->t σ H Q->wpAny (model X.prog X.w) X.A (spliced (backTo pos (starEach es X.env))) (AP X pins σ Q) X.xe s
def PS (X:Cx)(st:Stmt)(t:TS):Prop:=
 ∀(pins:List (Addr×Obj)) (s:Shared) (σ:St) (H:Hp) (D:a5o),Inv X pins σ H s->t D σ H->wpAny (model X.prog X.w) X.A (exec st X.env) (SP X pins D) X.xe s
def PSs (X:Cx)(st:List Stmt)(t:TS):Prop:=
 ∀(pins:List (Addr×Obj)) (s:Shared) (σ:St) (H:Hp) (D:a5o),Inv X pins σ H s->t D σ H->wpAny (model X.prog X.w) X.A (execs st X.env) (SP X pins D) X.xe s
theorem thn {α:Type}{t:Sem α}{Q Q':α->Shared->Prop}{M:Model}{A:Around}{E:Vs0}{s:Shared}(h:wpAny M A t Q E s)(hQ:∀a s,Q a s->Q' a s):wpAny M A t Q' E s:=wpAny_mono h hQ fun _ _ x=>x
section
variable {X:Cx}
theorem bin {a b:Expr}{ta tb:TE}(ha:PE X a ta)(hb:PE X b tb){pins:List (Addr×Obj)}{s:Shared}{σ:St}{H:Hp}{R:V->V->Hp->Prop}(I:Inv X pins σ H s)(h:ta σ H fun x H1=>tb σ H1 fun y H2=>R x y H2)
  {α:Type} {Q:α->Shared->Prop} {f:Value->Value->Sem α}
  (hf:∀v u s2 x y H2,Inv X pins σ H2 s2->a0Z x v->a0Z y u->R x y H2->wpAny (model X.prog X.w) X.A (f v u) Q X.xe s2) :
  wpAny (model X.prog X.w) X.A (eval a X.env) (fun v s₁=>wpAny (model X.prog X.w) X.A (eval b X.env) (fun u s₂=>wpAny (model X.prog X.w) X.A (f v u) Q X.xe s₂) X.xe s₁) X.xe s:=by
 refine thn (ha pins s σ H _ I h) fun v s1 ⟨x,H1,I1,r1,q1⟩=>?_;refine thn (hb pins s1 σ H1 _ I1 q1) fun u s2 ⟨y,H2,I2,r2,q2⟩=>?_;exact hf v u s2 x y H2 I2 r1 r2 q2
def b4Q (i:Nat):TE:=fun σ H Q=>∃v,σ[i]? =some (some v)/\Q v H
def tC (v:V):TE:=fun _ H Q=>Q v H
theorem b4h {i:Nat}{x:Str}{pos:Pos}(hN:X.N[i]? =some x)(hv:Vis X.env.scope x)(hd:(x==("__debug__":Str))=false:=by decide)(hcd:(x==("__classdict__":Str))=false:=by decide):PE X (.Name x pos) (b4Q i):=by
 intro pins s σ H Q I h;obtain⟨v,e,h⟩:=h;obtain⟨m,hn,hl⟩:=I.loc;obtain⟨u,r,l⟩:=hl i x v hN e hv;have fin:EP X pins σ Q u s:=⟨v,H,I,r,h⟩;rcases l with ⟨hk,hm⟩ |⟨hk,c,hc,hcell⟩
 ·exact wpAny_Name (wpAny_loadName_local I.ok.kind hk hn hm fin) hd
 ·rcases hk with hk |hk
  ·exact wpAny_Name (wpAny_loadName_cell I.ok.kind hk hc hcell fin) hd
  ·exact wpAny_Name (wpAny_loadName_free I.ok.kind hk hc hcell fin hcd) hd
theorem a0e {i j pos}:PE X (.Constant (.int i) j pos) (tC (.int i)):=fun _ _ _ H _ I h=>wpAny_Constant_int ⟨.int i,H,I.tok _,⟨_,rfl⟩,h⟩
theorem a3w {b j pos}:PE X (.Constant (.bool b) j pos) (tC (.bl b)):=fun _ _ _ H _ I h=>Constant_bool ⟨.bl b,H,I,rfl,h⟩
theorem a1m {j pos}:PE X (.Constant .none j pos) (tC .non):=fun _ _ _ H _ I h=>Constant_none ⟨.non,H,I,rfl,h⟩
theorem a0H {x j pos}:PE X (.Constant (.str x) j pos) (tC (.str x)):=fun _ _ _ H _ I h=>Calls.Constant_str ⟨.str x,H,I.tok _,⟨_,rfl⟩,h⟩
def Gl (X:Cx)(x:Str):Prop:=X.env.kindOf x=some .globalImplicit
theorem a5k {E:Vs0}{pins:List (Addr×Obj)}{s:Shared}{σ:St}{H:Hp}{x:Str}{u:Value}{pos:Pos}{Q:Vs0}(I:Inv X pins σ H s)(hg:Gl X x)(hm:X.mg x=some u)(h:Q u s)
  (hd:(x==("__debug__":Str))=false:=by decide):wpAny (model X.prog X.w) X.A (eval (.Name x pos) X.env) Q E s:=
 Calls.Name_function_global I.ok.kind hg (Calls.loadGlobal_global (by rw[I.ok.glob];exact I.mod.glob.keeps I.bk) hm h) hd
theorem a3Y {E:Vs0}{pins:List (Addr×Obj)}{s:Shared}{σ:St}{H:Hp}{x:Str}{u:Value}{pos:Pos}{Q:Vs0}(I:Inv X pins σ H s)(hg:Gl X x)(hm:X.mg x=none)(hv:bootBuiltins x=some u)(h:Q u s)
  (hn:x≠"__name__":=by decide) (hd:(x==("__debug__":Str))=false:=by decide):wpAny (model X.prog X.w) X.A (eval (.Name x pos) X.env) Q E s:=by
 obtain⟨mb,h1,h2⟩:=I.mod.blt;exact Calls.Name_function_global I.ok.kind hg (Calls.loadGlobal_builtin (by rw[I.ok.glob];exact I.mod.glob.keeps I.bk) hm (by rw[I.ok.blt];exact h1.keeps I.bk) ((h2 x hn).trans hv) h) hd
theorem a2H {x:Str}{v:V}{u:Value}{pos:Pos}(hg:Gl X x)(hm:X.mg x=some u)(r:a0Z v u)(hd:(x==("__debug__":Str))=false:=by decide):PE X (.Name x pos) (tC v):=
 fun _ _ _ H _ I h=>a5k I hg hm ⟨v,H,I,r,h⟩ hd
theorem a0y {x:Str}{v:V}{u:Value}{pos:Pos}(hg:Gl X x)(hm:X.mg x=none)(hv:bootBuiltins x=some u)(r:a0Z v u)(hn:x≠"__name__":=by decide)(hd:(x==("__debug__":Str))=false:=by decide):PE X (.Name x pos) (tC v):=
 fun _ _ _ H _ I h=>a3Y I hg hm hv ⟨v,H,I,r,h⟩ hn hd
variable {a b:Expr}{ta tb:TE}{pos:Pos}
def PC (X:Cx)(op:CmpOp)(a b:Expr)(t:TE):Prop:=
 ∀(pins:List (Addr×Obj)) (s:Shared) (σ:St) (H:Hp) (Q:VK),Inv X pins σ H s->t σ H Q →
  wpAny (model X.prog X.w) X.A (eval a X.env) (fun v s₁=>wpAny (model X.prog X.w) X.A (eval b X.env) (fun u s₂=>wpAny (model X.prog X.w) X.A (compareOp op v u) (EP X pins σ Q) X.xe s₂) X.xe s₁) X.xe s
def tB (t:TE):TT:=fun σ H Q=>t σ H fun x H1=>∃c,x=.bl c/\Q c H1
theorem b1L {op:CmpOp}{t:TE}(h:PC X op a b t)(h1:behindInMarks op b=false:=by first |exact nobehind _ (by decide) (by decide) |rfl):PE X (.Compare a [op] [b] pos) t:=fun pins s σ H Q I hw=>wpAny_Compare1 (h pins s σ H Q I hw) h1
theorem b3x {op:CmpOp}{t:TE}(h:PC X op a b t)(h1:behindInMarks op b=false:=by first |exact nobehind _ (by decide) (by decide) |rfl):PT X (.Compare a [op] [b] pos) (tB t):=by
 intro pins s σ H Q I hw;refine wpAny_isTrue_Compare1 (thn (h pins s σ H _ I hw) fun v s1 h1=>thn h1 fun u s2 h2=>thn h2 fun c s3 ⟨x,H1,I1,r1,q1⟩=>?_) h1;obtain⟨d,rfl,q⟩:=q1;cases r1;exact wpAny_truthy_bool ⟨H1,I1,q⟩
theorem a0D {e:Expr}{t:TE}(h:PE X e t)(he:∀whole,isTrue e X.env whole=(do let v <-whole;standAt e.pos;holding [v] (truthy v)):=by intro _;rfl):PT X e (tB t):=by
 intro pins s σ H Q I hw;refine isTrue_plain (thn (h pins s σ H _ I hw) fun v s1 ⟨x,H1,I1,r1,q1⟩=>?_) (he _);obtain⟨d,rfl,q⟩:=q1;cases r1;exact wpAny_truthy_bool ⟨H1,I1,q⟩
variable {tA tB':TT}{rest:List Expr}
def tOr (t u:TT):TT:=fun σ H Q=>t σ H fun c H1=>if c=true then Q true H1 else u σ H1 Q
def tNot (t:TT):TT:=fun σ H Q=>t σ H fun c H1=>Q (!c) H1
theorem a1J (ha:PT X a tA):PW X (.BoolOp .Or [a] pos) tA:=by
 intro wh pins s σ H Q I h;refine isTrue_or (thn (ha pins s σ H Q I h) fun c s1 e=>?_);cases c with
 |false=>exact isTrue_or_nil e
 |true=>exact e
theorem a2F (ha:PT X a tA)(hb:PW X (.BoolOp .Or (b::rest) pos) tB'):PW X (.BoolOp .Or (a::b::rest) pos) (tOr tA tB'):=by
 intro wh pins s σ H Q I h;refine isTrue_or (thn (ha pins s σ H _ I h) fun c s1 ⟨H1,I1,q1⟩=>?_);cases c with
 |true=>exact⟨H1,I1,q1⟩
 |false=>exact hb wh pins s1 σ H1 Q I1 q1
theorem a1j (ha:PT X a tA):PT X (.UnaryOp .Not a pos) (tNot tA):=by
 intro pins s σ H Q I h;exact isTrue_not (ha pins s σ H (fun c H1=>Q (!c) H1) I h)
def b5d (ta tb:TE):TE:=fun σ H Q=>ta σ H fun x H1=>∃c,x=.bl c/\if c=true then tb σ H1 Q else Q (.bl false) H1
def b4Z (ta:TE):TE:=fun σ H Q=>ta σ H fun x H1=>∃c,x=.bl c/\Q (.bl (!c)) H1
theorem a2w {op}{t:TE}(h:PE X a t):PE X (.BoolOp op [a] pos) t:=fun pins s σ H Q I hw=>BoolOp_one (h pins s σ H Q I hw)
theorem a1V (ha:PE X a ta)(hb:PE X (.BoolOp .And (b::rest) pos) tb):PE X (.BoolOp .And (a::b::rest) pos) (b5d ta tb):=by
 intro pins s σ H Q I h;refine BoolOp_and (thn (ha pins s σ H _ I h) fun v s1 ⟨x,H1,I1,r1,q1⟩=>?_);obtain⟨c,rfl,q1⟩:=q1;cases r1;refine wpAny_truthy_bool ?_;cases c with
 |true=>exact hb pins s1 σ H1 Q I1 q1
 |false=>exact⟨.bl false,H1,I1,rfl,q1⟩
theorem b3A (ha:PE X a ta):PE X (.UnaryOp .Not a pos) (b4Z ta):=by
 intro pins s σ H Q I h;refine UnaryOp_ (thn (ha pins s σ H _ I h) fun v s1 ⟨x,H1,I1,r1,q1⟩=>?_);obtain⟨c,rfl,q1⟩:=q1;cases r1;exact not_of (wpAny_truthy_bool ⟨.bl (!c),H1,I1,rfl,q1⟩)
def tIf (t:TT)(ta tb:TE):TE:=fun σ H Q=>t σ H fun c H1=>if c=true then ta σ H1 Q else tb σ H1 Q
theorem b0w {c:Expr}(hc:PT X c tA)(ha:PE X a ta)(hb:PE X b tb):PE X (.IfExp c a b pos) (tIf tA ta tb):=by
 intro pins s σ H Q I h;refine wpAny_IfExp (thn (hc pins s σ H _ I h) fun d s1 ⟨H1,I1,q1⟩=>?_);cases d with
 |true=>exact ha pins s1 σ H1 Q I1 q1
 |false=>exact hb pins s1 σ H1 Q I1 q1
end
def SqL (K:Fg0)(H:Hp)(a:Addr)(xs:List V):Prop:=
 Rd H a (.lst xs) ∨
  ∃(o:Obj) (its:Array Value) (n:Nat),K.lookup a=some o/\o.cls=.type "list"/\o.dict=none/\o.data=.seq its n/\its.size<=sizeLine/\a1c xs its.toList
def SqT (K:Fg0)(H:Hp)(a:Addr)(xs:List V):Prop:=
 Rd H a (.tup xs) ∨
  ∃(o:Obj) (its:Array Value) (n:Nat),K.lookup a=some o/\o.cls=.type "tuple"/\o.data=.seq its n/\its.size<=sizeLine/\a1c xs its.toList
def absV:Value->Option V
 | .none=>some .non
 | .bool b=>some (.bl b)
 | .int i _=>some (.int i)
 | .str x _=>some (.str x)
 | .bytes b _=>some (.byt b)
 | .float b _=>some (.flt b)
 | .ref a=>some (.ref a)
 | .type n=>some (.ty n)
 |_=>none
theorem a0Z.abs {x:V}{u:Value}(r:a0Z x u):absV u=some x:=by
 cases x with
 |non=>cases r;rfl
 |bl _=>cases r;rfl
 |int _=>obtain⟨t,rfl⟩:=r;rfl
 |str _=>obtain⟨t,rfl⟩:=r;rfl
 |byt _=>obtain⟨t,rfl⟩:=r;rfl
 |flt _=>obtain⟨t,rfl⟩:=r;rfl
 |ref _=>cases r;rfl
 |ty _=>cases r;rfl
theorem a0Z.inj {x y:V}{u:Value}(r:a0Z x u)(q:a0Z y u):x=y:=Option.some.inj (r.abs.symm.trans q.abs)
theorem a1c.inj:∀{xs ys:List V} {us:List Value},a1c xs us->a1c ys us->xs=ys
 |_,_,_,.nil,.nil=>rfl
 |_,_,_,.cons r t,.cons r' t'=>by rw[r.inj r',a1c.inj t t']
section
variable {X:Cx}{pins:List (Addr×Obj)}{σ:St}{H:Hp}{s:Shared}{a:Addr}{xs ys:List V}
theorem SqL.of {K:Fg0}(h:H a=some (.lst xs)):SqL K H a xs:=.inl (.inl h)
theorem SqT.of {K:Fg0}(h:H a=some (.tup xs)):SqT K H a xs:=.inl (.inl h)
theorem Inv.list (I:Inv X pins σ H s)(h:SqL X.K H a xs):∃its:List Value,a1c xs its/\PlainL s.heap a its.toArray/\xs.length<=sizeLine:=by
 rcases h with h |⟨o,its,n,hk,hc,hd,hs,hz,r⟩
 ·obtain⟨z,its,n,r,e⟩:=h.ok I.hok
  exact⟨its,r,⟨_,n,e,rfl,rfl,rfl⟩,z⟩
 ·refine⟨its.toList,r,⟨o,n,I.kIn a o hk,hc,hd,by simpa using hs⟩,?_⟩
  have e:=r.length;simp only[aL0] at e
  omega
theorem Inv.tuple (I:Inv X pins σ H s)(h:SqT X.K H a xs):∃its:List Value,a1c xs its/\IsTup s.heap a its.toArray/\xs.length<=sizeLine:=by
 rcases h with h |⟨o,its,n,hk,hc,hs,hz,r⟩
 ·obtain⟨z,its,r,p⟩:=h.ok I.hok
  exact⟨its,r,p,z⟩
 ·refine⟨its.toList,r,⟨o,I.kIn a o hk,hc,n,by simpa using hs⟩,?_⟩
  have e:=r.length;simp only[aL0] at e
  omega
theorem Inv.list_inj (I:Inv X pins σ H s)(h:SqL X.K H a xs)(h':SqL X.K H a ys):xs=ys:=by
 obtain⟨its,r,⟨o,n,e,_,_,d⟩,_⟩:=I.list h;obtain⟨its',r',⟨o',n',e',_,_,d'⟩,_⟩:=I.list h';rw[e] at e';cases e';rw[d] at d'
 injection d' with d1 _
 have:its=its':=by simpa using congrArg Array.toList d1
 subst this;exact r.inj r'
theorem Inv.tuple_inj (I:Inv X pins σ H s)(h:SqT X.K H a xs)(h':SqT X.K H a ys):xs=ys:=by
 obtain⟨its,r,⟨o,e,_,n,d⟩,_⟩:=I.tuple h;obtain⟨its',r',⟨o',e',_,n',d'⟩,_⟩:=I.tuple h';rw[e] at e';cases e';rw[d] at d'
 injection d' with d1 _
 have:its=its':=by simpa using congrArg Array.toList d1
 subst this;exact r.inj r'
end
abbrev Cx.wish (X:Cx)(E:Vs0):Cx:={ X with xe:=E }
abbrev Cx.nox (X:Cx):Cx:=X.wish fun _ _=>False
theorem Cx.Ok.wish {X:Cx}(ok:X.Ok)(E:Vs0):(X.wish E).Ok:=
 ⟨ok.mod,ok.kind,ok.glob,ok.blt,ok.above,ok.inj,ok.has,ok.cab,ok.hd,ok.frames,ok.stk,ok.exf,ok.bs,ok.bsz,ok.noex,ok.exfs,ok.funs,ok.frf⟩
theorem Cx.Ok.unwish {X:Cx}{E:Vs0}(ok:(X.wish E).Ok):X.Ok:=
 ⟨ok.mod,ok.kind,ok.glob,ok.blt,ok.above,ok.inj,ok.has,ok.cab,ok.hd,ok.frames,ok.stk,ok.exf,ok.bs,ok.bsz,ok.noex,ok.exfs,ok.funs,ok.frf⟩
section
variable {X:Cx}{pins:List (Addr×Obj)}{σ:St}{H:Hp}{s:Shared}{E:Vs0}
theorem Inv.wish (I:Inv X pins σ H s)(E:Vs0):Inv (X.wish E) pins σ H s:=⟨I.ok.wish E,I.os,I.bare,I.base,I.loc,I.cell,I.free,I.freeC,I.pin,I.hok,I.len⟩
theorem Inv.unwish (I:Inv (X.wish E) pins σ H s):Inv X pins σ H s:=⟨I.ok.unwish,I.os,I.bare,I.base,I.loc,I.cell,I.free,I.freeC,I.pin,I.hok,I.len⟩
theorem SP.unwish {D:a5o}{f:Flow}{s':Shared}(h:SP (X.wish E) pins D f s'):SP X pins D f s':=by
 cases f with
 |next=>obtain⟨σ',H',I,q⟩:=h;exact⟨σ',H',I.unwish,q⟩
 |brk=>obtain⟨σ',H',I,q⟩:=h;exact⟨σ',H',I.unwish,q⟩
 |cont=>obtain⟨σ',H',I,q⟩:=h;exact⟨σ',H',I.unwish,q⟩
 |ret u=>obtain⟨v,σ',H',I,r,q⟩:=h;exact⟨v,σ',H',I.unwish,r,q⟩
theorem PE.nox {e:Expr}{t:TE}(h:PE X.nox e t):PE X e t:=fun pins s σ H Q I hw=>
 wpAny_mono (h pins s σ H Q (I.wish _) hw) (fun _ _ ⟨v,H',I',r,q⟩=>⟨v,H',I'.unwish,r,q⟩) fun _ _ z=>False.elim z
theorem PSs.nox {st:List Stmt}{t:TS}(h:PSs X.nox st t):PSs X st t:=fun pins s σ H D I hw=>
 wpAny_mono (h pins s σ H D (I.wish _) hw) (fun _ _ q=>q.unwish) fun _ _ z=>False.elim z
end
section
variable {X:Cx}{st:Stmt}{rest:List Stmt}{t u:TS}{e:Expr}{te:TE}{pos:Pos}
def b5b:TS:=fun D σ H=>D.nx σ H
def b5z (t u:TS):TS:=fun D σ H=>t { D with nx:=u D } σ H
theorem a0l:PSs X [] b5b:=fun _ _ σ H _ I h=>wpAny_execs_nil ⟨σ,H,I,h⟩
theorem a0d (h1:PS X st t)(h2:PSs X rest u):PSs X (st::rest) (b5z t u):=by
 intro pins s σ H D I h;refine wpAny_execs_cons (thn (h1 pins s σ H { D with nx:=u D } I h) fun f s1 q=>?_);cases f with
 |next=>
  obtain⟨σ',H',I',q⟩:=q;exact h2 pins s1 σ' H' D I' q
 |ret v=>exact q
 |brk=>exact q
 |cont=>exact q
theorem a0h (h1:PS X st t):PSs X [st] t:=by
 intro pins s σ H D I h;refine wpAny_execs_cons (thn (h1 pins s σ H D I h) fun f s1 q=>?_);cases f with
 |next=>exact wpAny_execs_nil q
 |ret v=>exact q
 |brk=>exact q
 |cont=>exact q
theorem Inv.quiet {pins:List (Addr×Obj)}{σ:St}{H:Hp}{s:Shared}(I:Inv X pins σ H s):interactive X.env=false:=by simp[interactive,I.ok.kind]
def b5J (te:TE):TS:=fun D σ H=>te σ H fun _ H1=>D.nx σ H1
theorem a1t (he:PE X e te)(hs:swapsWith e none pos.line X.env=pure false:=by rfl):PS X (.Expr e pos) (b5J te):=by
 intro pins s σ H D I h;exact wpAny_Expr_any (thn (he pins s σ H _ I h) fun v s1 ⟨x,H1,I1,r1,q1⟩=>⟨σ,H1,I1,q1⟩) I.quiet hs
def b5X (te:TE):TS:=fun D σ H=>te σ H D.rt
theorem a0u (he:PE X e te):PS X (.Return (some e) pos) (b5X te):=by
 intro pins s σ H D I h;exact wpAny_Return_some (thn (he pins s σ H _ I h) fun v s1 ⟨x,H1,I1,r1,q1⟩=>⟨x,σ,H1,I1,r1,q1⟩)
def tIfS (c:TT)(t u:TS):TS:=fun D σ H=>c σ H fun b H1=>if b=true then t D σ H1 else u D σ H1
theorem a0A {c:Expr}{a b:List Stmt}{tc:TT}(hc:PT X c tc)(ha:PSs X a t)(hb:PSs X b u):PS X (.If c a b pos) (tIfS tc t u):=by
 intro pins s σ H D I h;refine wpAny_If (thn (hc pins s σ H _ I h) fun d s1 ⟨H1,I1,q1⟩=>?_);cases d with
 |true=>exact ha pins s1 σ H1 D I1 q1
 |false=>exact hb pins s1 σ H1 D I1 q1
def b4F:TS:=fun _ _ _=>False
theorem a0j {sts:List Stmt}:PSs X sts b4F:=fun _ _ _ _ _ _ h=>h.elim
end
abbrev TG:=V->St->Hp->(St->Hp->Prop)->Prop
abbrev TGs:=List V->St->Hp->(St->Hp->Prop)->Prop
def PG (X:Cx)(target:Expr)(t:TG):Prop:=
 ∀(pins:List (Addr×Obj)) (s:Shared) (σ:St) (H:Hp) (v:V) (u:Value) (Q:St->Hp->Prop),Inv X pins σ H s->a0Z v u->t v σ H Q →
  wpAny (model X.prog X.w) X.A (assign target X.env u) (fun _ s'=>∃σ' H',Inv X pins σ' H' s'/\Q σ' H') X.xe s
def PGs (X:Cx)(ts:List Expr)(t:TGs):Prop:=
 ∀(pins:List (Addr×Obj)) (s:Shared) (σ:St) (H:Hp) (vs:List V) (us:List Value) (Q:St->Hp->Prop),Inv X pins σ H s->a1c vs us->t vs σ H Q →
  wpAny (model X.prog X.w) X.A (assignInOrder ((assignEach ts X.env).map (·.2)) us) (fun _ s'=>∃σ' H',Inv X pins σ' H' s'/\Q σ' H') X.xe s
abbrev b5h:=V->V->V->Hp->(Hp->Prop)->Prop
def a6n (X:Cx)(t:b5h):Prop:=
 ∀(pins:List (Addr×Obj)) (s:Shared) (σ:St) (H:Hp) (o i v:V) (ov iv u:Value) (Q:Hp->Prop),Inv X pins σ H s->a0Z o ov->a0Z i iv->a0Z v u->t o i v H Q →
  wpAny (model X.prog X.w) X.A (setItem ov iv u) (fun _ s'=>∃H',Inv X pins σ H' s'/\Q H') X.xe s
section
variable {X:Cx}{pos:Pos}
def b3r (i:Nat):TG:=fun v σ H Q=>Q (σ.set i (some v)) H
theorem a0v {i:Nat}{x:Str}(hN:X.N.Nodup)(hi:X.N[i]? =some x)(hx:Loc X.env.scope x)(hf:X.fn x=true\/X.env.scope.names.lookup x=some .local:=by first |exact .inl rfl |exact .inr rfl |assumption):PG X (.Name x pos) (b3r i):=by
 intro pins s σ H v u Q I r h;exact wpAny_assign_Name (a5b I hN hi hx r (fun s' I'=>⟨_,H,I',h⟩) hf)
def gNil:TGs:=fun vs σ H Q=>vs=[]/\Q σ H
def b5e (t:TG)(u:TGs):TGs:=fun vs σ H Q=>∃v r,vs=v::r/\t v σ H fun σ' H'=>u r σ' H' Q
theorem a2g:PGs X [] gNil:=by
 intro pins s σ H vs us Q I r h;obtain⟨e,h⟩:=h;subst e;cases r;exact assignInOrder_nil ⟨σ,H,I,h⟩
theorem a0G {e:Expr}{es:List Expr}{t:TG}{u:TGs}(h1:PG X e t)(h2:PGs X es u)
  (hs:(assignEach (e::es) X.env).map (·.2)=assign e X.env::(assignEach es X.env).map (·.2):=by rfl):PGs X (e::es) (b5e t u):=by
 intro pins s σ H vs us Q I r h;obtain⟨v,vr,e1,h⟩:=h;subst e1;cases r with
 |cons r rr=>
  rw[hs];refine assignInOrder_cons (thn (h1 pins s σ H _ _ _ I r h) fun _ s1 ⟨σ1,H1,I1,q1⟩=>?_);exact h2 pins s1 σ1 H1 _ _ Q I1 rr q1
def b6g (K:Fg0)(n:Nat)(t:TGs):TG:=fun v σ H Q=>∃a xs,v=.ref a/\SqT K H a xs/\xs.length=n/\t xs σ H Q
theorem a4j {es:List Expr}{k:Nat}{t:TGs}{n:Nat}(hc:X.calm=true)(h:PGs X es t)
  (hn:(assignEach es X.env).length=n:=by rfl) (hst:(assignEach es X.env).findIdx? (·.1)=none:=by rfl):PG X (.Tuple es k pos) (b6g X.K n t):=by
 intro pins s σ H v u Q I r hw;obtain⟨a,xs,e1,hq,hl,hw⟩:=hw;subst e1;cases r;obtain⟨its,rv,ht,hz⟩:=I.tuple hq;refine assign_Tuple_tuple (I.ok.hd hc) ht (by simp[hn,<-hl,rv.length]) hst fun h' hx=>?_;have I1:Inv X pins σ H { s with heap:=h' }:=I.kept (t':=s.toks) fun b o e=>hx b o (nL0 (hL0 e)) e;exact h pins _ σ H xs _ Q I1 (by simpa using rv) hw
def gSub (to ti:TE)(t:b5h):TG:=fun v σ H Q=>to σ H fun o H1=>ti σ H1 fun i H2=>t o i v H2 fun H3=>Q σ H3
theorem b3B {o i:Expr}{to ti:TE}{t:b5h}(ho:PE X o to)(hi:PE X i ti)(hs:a6n X t)
  (ha:∀v,assign (.Subscript o i pos) X.env v=(do
   let ov <-holding [v] (eval o X.env)
   let iv <-holding [v,ov] (eval i X.env)
   standAt pos
   holding [v,ov,iv] (setItem ov iv v)
   release [v,ov,iv] []):=by intro _;rfl):PG X (.Subscript o i pos) (gSub to ti t):=by
 intro pins s σ H v u Q I r h;rw[ha];refine wB0 (wpAny_holding (thn (ho pins s σ H _ I h) fun ov s1 ⟨x,H1,I1,r1,q1⟩=>?_));refine wB0 (wpAny_holding (thn (hi pins s1 σ H1 _ I1 q1) fun iv s2 ⟨y,H2,I2,r2,q2⟩=>?_));refine wB0 (wpAny_standAt (wB0 (wpAny_holding (thn (hs pins s2 σ H2 x y v ov iv u _ I2 r1 r2 r q2) fun _ s3 ⟨H3,I3,q3⟩=>?_))));exact wpAny_release ⟨σ,H3,I3,q3⟩
def b5Z (te:TE)(g:TG):TS:=fun D σ H=>te σ H fun x H1=>g x σ H1 D.nx
theorem b1h {tg e:Expr}{te:TE}{g:TG}(he:PE X e te)(hg:PG X tg g)(hs:swapsWithSole [tg] e pos.line X.env=pure false:=by rfl)(hw:swappedStores [tg] e X.env=pure none:=by rfl)
  (h1:(assignEach [tg] X.env).map (·.2)=[assign tg X.env]:=by rfl):PS X (.Assign [tg] e pos) (b5Z te g):=by
 intro pins s σ H D I h;refine wpAny_Assign_stores (thn (he pins s σ H _ I h) fun v s1 ⟨x,H1,I1,r1,q1⟩=>?_) hs hw;rw[h1];exact thn (hg pins s1 σ H1 x v _ I1 r1 q1) fun _ s2 q=>q
theorem a0E {i:Nat}{x:Str}{e:Expr}{te:TE}{pos':Pos}(hN:X.N.Nodup)(hi:X.N[i]? =some x)(hx:Loc X.env.scope x)(he:PE X e te)(hs:swapsWith e (some (.Name x pos')) pos.line X.env=pure false:=by rfl)(hf:X.fn x=true\/X.env.scope.names.lookup x=some .local:=by first |exact .inl rfl |exact .inr rfl |assumption) :
  PS X (.Assign [.Name x pos'] e pos) (b5Z te (b3r i)):=by
 intro pins s σ H D I h;refine wpAny_Assign_Name (thn (he pins s σ H _ I h) fun v s1 ⟨y,H1,I1,r1,q1⟩=>?_) hs;exact a5b I1 hN hi hx r1 (fun s2 I2=>⟨_,H1,I2,q1⟩) hf
end
structure It where
 go:Nat->Hp->Prop
 yld:Nat->Hp->V->Hp->Prop
 stop:Nat->Hp->Prop
def a3y (X:Cx)(pins:List (Addr×Obj))(H:Hp)(b:Addr):Prop:=
 H b=none/\b≠X.env.locals/\b∉X.fs/\(b∈X.ex\/X.s₀.heap.objs.size<=b)/\(∀x c,X.env.cells.lookup x=some c->c≠b)/\∀p∈X.pn++pins,p.1≠b
theorem Inv.fpOk {X:Cx}{pins:List (Addr×Obj)}{σ:St}{H H':Hp}{s:Shared}{b:Addr}(I:Inv X pins σ H s)(hb:s.heap.objs.size<=b)(hn:H' b=none):a3y X pins H' b:=by
 refine⟨hn,Nat.ne_of_gt (Nat.lt_of_lt_of_le I.lt hb),I.nofs hb,.inr (Nat.le_trans I.sz hb),fun x c e z=>?_,fun p hp z=>?_⟩
 ·obtain⟨v,q⟩:=I.cell x c e
  exact absurd (Nat.lt_of_lt_of_le q.lt (by rw[z];exact hb)) (Nat.lt_irrefl _)
 ·exact absurd (Nat.lt_of_lt_of_le (hL0 (I.pin p hp).1) (by rw[z];exact hb)) (Nat.lt_irrefl _)
structure a9S (P:Program) (w:World) (K:Fg0) (tg:Expr) (J:It) (fp:List Addr) (it:Addr) (tn:Nat->Heap->Prop):Prop where
 mem:it∈fp
 obj:∀i h,tn i h->∀b∈fp,∃o,h.get? b=some o/\∀v,o.data≠.cell v
 keep:∀i h h',tn i h->(∀b∈fp,∀o,h.get? b=some o->h'.get? b=some o)->tn i h'
 item:∀(X:Cx),X.prog=P->X.w=w->X.K=K->X.calm=true->∀(i:Nat) (pins:List (Addr×Obj)) (s:Shared) (σ:St) (H:Hp) (E:Vs0),Inv X pins σ H s->(∀b∈fp,a3y X pins H b)->tn i s.heap->J.go i H →
  wpAny (model P w) X.A (pyNext (.ref it)) (fun r s1=>∃u,r=some u ∧
   wpAny (model P w) X.A (letOwnedTupleGo tg (.ref it) u) (fun _ s2=>∃x H',Inv X pins σ H' s2/\a0Z x u/\J.yld i H x H'/\tn (i+1) s2.heap/\∀b∈fp,H' b=none) E s1) E s
 done:∀(X:Cx),X.prog=P->X.w=w->X.K=K->X.calm=true->∀(i:Nat) (pins:List (Addr×Obj)) (s:Shared) (σ:St) (H:Hp) (E:Vs0),Inv X pins σ H s->(∀b∈fp,a3y X pins H b)->tn i s.heap->J.stop i H →
  wpAny (model P w) X.A (pyNext (.ref it)) (fun r s1=>r=none/\Inv X pins σ H s1) E s
 self:∀(A:Around) (i:Nat) (s:Shared) (Q:Vs0) (E:Vs0),tn i s.heap->Q (.ref it) s->wpAny (model P w) A (pyIter (.ref it)) Q E s
abbrev TI:=St->Hp->(It->Hp->Prop)->Prop
def PIE (X:Cx)(pins:List (Addr×Obj))(σ:St)(tg:Expr)(R:It->Hp->Prop)(itv:Value)(s2:Shared):Prop:=
 ∃(it:Addr) (fp:List Addr) (tn:Nat->Heap->Prop) (J:It) (H':Hp),itv=.ref it/\Inv X pins σ H' s2/\a9S X.prog X.w X.K tg J fp it tn/\tn 0 s2.heap/\(∀b∈fp,a3y X pins H' b)/\R J H'
def PI (X:Cx)(tg iter:Expr)(wi:TI):Prop:=
 ∀(pins:List (Addr×Obj)) (s:Shared) (σ:St) (H:Hp) (R:It->Hp->Prop),Inv X pins σ H s->wi σ H R →
  wpAny (model X.prog X.w) X.A (eval iter X.env) (fun v s1=>wpAny (model X.prog X.w) X.A (pyIter v) (PIE X pins σ tg R) X.xe s1) X.xe s
theorem a8T {M:Model}{A:Around}{E:Vs0}{s:Shared}{tg:Expr}{it:Addr}{u:Value}{o:Obj}{n:String}{vs:Array Value}{Q:Unit->Shared->Prop}(ho:s.heap.get? it=some o)(hc:o.cls=.type n)(hd:o.data=.fields vs)
  (hn:["enumerate","zip","dict_itemiterator","dict_reverseitemiterator","odict_iterator","itertools.zip_longest","itertools.pairwise"].contains n=false) (hQ:Q () s):wpAny M A (letOwnedTupleGo tg (.ref it) u) Q E s:=by
 unfold letOwnedTupleGo;cases tg<;>first
  |exact wP0 hQ
  | (cases u<;>first
    |exact wP0 hQ
    | (refine wB0 (wpAny_load ho ?_)
       rw[hc,hd];show wpAny M A (if (["enumerate","zip","dict_itemiterator","dict_reverseitemiterator","odict_iterator","itertools.zip_longest","itertools.pairwise"].contains n&&vs[0]?==some (rawInt _))=true then _ else _) Q E s;rw[if_neg (by intro h;rw[hn,Bool.false_and] at h;cases h)];exact wP0 hQ))
def Itl (K:Fg0)(a:Addr):It:=
 ⟨fun i H=>∃xs x,SqL K H a xs/\xs[i]? =some x,fun i H x H'=>H'=H/\∀xs,SqL K H a xs->xs[i]? =some x,fun i H=>∃xs,SqL K H a xs/\xs.length<=i⟩
def Itt (K:Fg0)(a:Addr):It:=
 ⟨fun i H=>∃xs x,SqT K H a xs/\xs[i]? =some x,fun i H x H'=>H'=H/\∀xs,SqT K H a xs->xs[i]? =some x,fun i H=>∃xs,SqT K H a xs/\xs.length<=i⟩
def Itr (lo:Int)(n:Nat):It:=⟨fun i _=>i<n,fun i H x H'=>H'=H/\x=.int (lo+i),fun i _=>n<=i⟩
theorem a9h {P:Program}{w:World}{K:Fg0}{tg:Expr}(a it:Addr):a9S P w K tg (Itl K a) [it] it (fun i h=>h.IsListIter it a i) where
 mem:=by simp
 obj:=fun i h st b hb=>by
  have e:b=it:=by simpa using hb
  subst e;obtain⟨o,e,c,d⟩:=st;exact⟨o,e,fun v z=>by rw[d] at z;cases z⟩
 keep:=fun i h h' st k=>st.at fun o e=>k it (by simp) o e
 item:=by
  intro X hP hw hK hc i pins s σ H E I hf st hg;subst hP hw hK;obtain⟨xs,x,hq,hx⟩:=hg;obtain⟨its,rv,p,hz⟩:=I.list hq;obtain⟨u,hu,ru⟩:=rv.get hx;obtain⟨f0,f1,f2,f3,f4,f5⟩:=hf it (by simp);refine wpAny_pyNext_list_item st p.isList (x:=u) (by simpa using hu) fun h' st' sb=>?_;have I1:Inv X pins σ H { s with heap:=h' }:=I.turned (t':=s.toks) (fun b o hb e=>(sb.2 b hb).trans e) f0 f1 f3 f4 f5;obtain⟨o,e,c,d⟩:=id st';exact⟨u,rfl,a8T (s:={ s with heap:=h' }) e c d (by decide) ⟨x,H,I1,ru,⟨rfl,fun ys hy=>by rw[I.list_inj hy hq];exact hx⟩,st',fun b hb=>(hf b hb).1⟩⟩
 done:=by
  intro X hP hw hK hc i pins s σ H E I hf st hg;subst hP hw hK;obtain⟨xs,hq,hx⟩:=hg;obtain⟨its,rv,p,hz⟩:=I.list hq;obtain⟨f0,f1,f2,f3,f4,f5⟩:=hf it (by simp);have hl:=rv.length;exact wpAny_pyNext_list_end (I.ok.hd hc) st p.isList (by simp;omega) fun h' eb=>⟨rfl,I.turned (t':=s.toks) (fun b o hb e=>eb b o hb e) f0 f1 f3 f4 f5⟩
 self:=fun _ _ _ _ _ st h=>wpAny_pyIter_listiter st h
theorem a7P {P:Program}{w:World}{K:Fg0}{tg:Expr}(a it:Addr):a9S P w K tg (Itt K a) [it] it (fun i h=>h.IsTupleIter it a i) where
 mem:=by simp
 obj:=fun i h st b hb=>by
  have e:b=it:=by simpa using hb
  subst e;obtain⟨o,e,c,d⟩:=st;exact⟨o,e,fun v z=>by rw[d] at z;cases z⟩
 keep:=fun i h h' st k=>st.at fun o e=>k it (by simp) o e
 item:=by
  intro X hP hw hK hc i pins s σ H E I hf st hg;subst hP hw hK;obtain⟨xs,x,hq,hx⟩:=hg;obtain⟨its,rv,p,hz⟩:=I.tuple hq;obtain⟨u,hu,ru⟩:=rv.get hx;obtain⟨f0,f1,f2,f3,f4,f5⟩:=hf it (by simp);refine wpAny_pyNext_tuple_item st (show s.heap.IsTuple a its.toArray from p) (x:=u) (by simpa using hu) fun h' st' sb=>?_;have I1:Inv X pins σ H { s with heap:=h' }:=I.turned (t':=s.toks) (fun b o hb e=>(sb.2 b hb).trans e) f0 f1 f3 f4 f5;obtain⟨o,e,c,d⟩:=id st';exact⟨u,rfl,a8T (s:={ s with heap:=h' }) e c d (by decide) ⟨x,H,I1,ru,⟨rfl,fun ys hy=>by rw[I.tuple_inj hy hq];exact hx⟩,st',fun b hb=>(hf b hb).1⟩⟩
 done:=by
  intro X hP hw hK hc i pins s σ H E I hf st hg;subst hP hw hK;obtain⟨xs,hq,hx⟩:=hg;obtain⟨its,rv,p,hz⟩:=I.tuple hq;obtain⟨f0,f1,f2,f3,f4,f5⟩:=hf it (by simp);have hl:=rv.length;exact wpAny_pyNext_tuple_end (I.ok.hd hc) st (show s.heap.IsTuple a its.toArray from p) (by simp;omega) fun h' eb=>⟨rfl,I.turned (t':=s.toks) (fun b o hb e=>eb b o hb e) f0 f1 f3 f4 f5⟩
 self:=fun _ _ _ _ _ st h=>wpAny_pyIter_tupleiter st h
theorem a7Z {P:Program}{w:World}{K:Fg0}{tg:Expr}(it:Addr)(lo:Int)(n:Nat):a9S P w K tg (Itr lo n) [it] it (fun i h=>IsRangeIter h it (lo+(i:Nat) * 1) ((n:Int)-(i:Nat)) 1) where
 mem:=by simp
 obj:=fun i h st b hb=>by
  have e:b=it:=by simpa using hb
  subst e;exact⟨_,st,fun v z=>by
   have z':Data.fields _=Data.cell v:=z;cases z'⟩
 keep:=fun i h h' st k=>k it (by simp) _ st
 item:=by
  intro X hP hw hK hc i pins s σ H E I hf st hg;subst hP hw hK;obtain⟨f0,f1,f2,f3,f4,f5⟩:=hf it (by simp);have W:=Walks.range (prog:=X.prog) (w:=X.w) (I.ok.hd hc) it lo 1 n;refine W.item i s _ _ hg st fun v h' tk hv st' kk=>?_;obtain⟨t,rfl⟩:=hv;have I1:Inv X pins σ H { s with heap:=h',toks:=tk }:=I.turned (fun b o hb e=>kk b o (by simpa using hb) e) f0 f1 f3 f4 f5;refine⟨_,rfl,a8T (s:={ s with heap:=h',toks:=tk }) (n:="range_iterator") st' rfl rfl (by decide) ⟨.int (lo+i),H,I1,⟨t,?_⟩,⟨rfl,rfl⟩,st',fun b hb=>(hf b hb).1⟩⟩;rw[Int.mul_one]
 done:=by
  intro X hP hw hK hc i pins s σ H E I hf st hg;subst hP hw hK;obtain⟨f0,f1,f2,f3,f4,f5⟩:=hf it (by simp);exact wpAny_pyNext_range_end (I.ok.hd hc) st (by have:n<=i:=hg;omega) fun h' eb=>⟨rfl,I.turned (t':=s.toks) (fun b o hb e=>eb b o hb e) f0 f1 f3 f4 f5⟩
 self:=fun _ _ _ _ _ st h=>wpAny_pyIter_rangeiter st h
section
variable {X:Cx}{tg:Expr}
def b5v (K:Fg0)(tl:TE):TI:=fun σ H R=>tl σ H fun x H1=>∃a,x=.ref a/\(∃xs,SqL K H1 a xs)/\R (Itl K a) H1
def iTup (K:Fg0)(tl:TE):TI:=fun σ H R=>tl σ H fun x H1=>∃a,x=.ref a/\(∃xs,SqT K H1 a xs)/\R (Itt K a) H1
theorem a1C {l:Expr}{tl:TE}(hl:PE X l tl):PI X tg l (b5v X.K tl):=by
 intro pins s σ H R I h;refine thn (hl pins s σ H _ I h) fun v s1 ⟨x,H1,I1,r1,q1⟩=>?_;obtain⟨a,e,⟨xs,hq⟩,q⟩:=q1;subst e;cases r1;obtain⟨its,rv,p,hz⟩:=I1.list hq;refine wpAny_pyIter_list p.isList ?_;refine⟨s1.heap.objs.size,[s1.heap.objs.size],_,_,H1,rfl,I1.kept (t':=s1.toks) fun b o e=>hP0 _ e,a9h a _,⟨_,hS0 _ rfl,rfl,rfl⟩,fun b hb=>?_,q⟩;have e:b=s1.heap.objs.size:=by simpa using hb
 subst e;exact I1.fpOk (nR0 _) (I1.hok.fresh (nR0 _))
theorem a7B {l:Expr}{tl:TE}(hl:PE X l tl):PI X tg l (iTup X.K tl):=by
 intro pins s σ H R I h;refine thn (hl pins s σ H _ I h) fun v s1 ⟨x,H1,I1,r1,q1⟩=>?_;obtain⟨a,e,⟨xs,hq⟩,q⟩:=q1;subst e;cases r1;obtain⟨its,rv,p,hz⟩:=I1.tuple hq;refine wpAny_pyIter_tuple (show s1.heap.IsTuple a its.toArray from p) ?_;refine⟨s1.heap.objs.size,[s1.heap.objs.size],_,_,H1,rfl,I1.kept (t':=s1.toks) fun b o e=>hP0 _ e,a7P a _,⟨_,hS0 _ rfl,rfl,rfl⟩,fun b hb=>?_,q⟩;have e:b=s1.heap.objs.size:=by simpa using hb
 subst e;exact I1.fpOk (nR0 _) (I1.hok.fresh (nR0 _))
theorem b1d {pins:List (Addr×Obj)}{σ:St}{H:Hp}{s:Shared}{R:It->Hp->Prop}{E:Vs0}{lo hi:Int}{t u v:Tok}{tk:Nat}(I:Inv X pins σ H s)(h1:-(2 ^ 62)<=lo)(h2:lo<2 ^ 62)(h3:-(2 ^ 62)<=hi)(h4:hi<2 ^ 62)
  (q:R (Itr lo (hi-lo).toNat) H):wpAny (model X.prog X.w) X.A (pyIter (.ref s.heap.objs.size)) (PIE X pins σ tg R) E { s with heap:=s.heap.push { cls:=.type "range",data:=.fields #[.int lo t,.int hi u,.int 1 v] },toks:=tk }:=by
 refine wpAny_pyIter_range (IsRange.new ..) (small_one h1 h2 h3 h4) ?_;have I1:Inv X pins σ H { s with heap:=s.heap.push { cls:=.type "range",data:=.fields #[.int lo t,.int hi u,.int 1 v] },toks:=tk }:=I.kept fun b o e=>hP0 _ e;refine⟨(s.heap.push { cls:=.type "range",data:=.fields #[.int lo t,.int hi u,.int 1 v] }).objs.size,[(s.heap.push { cls:=.type "range",data:=.fields #[.int lo t,.int hi u,.int 1 v] }).objs.size],_,_,H,rfl,
  I1.kept (t':=tk) fun b o e=>hP0 _ e,a7Z _ lo (hi-lo).toNat,?_,fun b hb=>?_,q⟩
 ·have e1:lo+((0:Nat):Int) * 1=lo:=by simp
  have e2:(((hi-lo).toNat:Nat):Int)-((0:Nat):Int)=Builtin.Range.rangeSize lo hi 1:=by rw[rangeSize_one];split<;>omega
  show IsRangeIter _ _ (lo+((0:Nat):Int) * 1) ((((hi-lo).toNat:Nat):Int)-((0:Nat):Int)) 1;rw[e1,e2];exact hS0 _ rfl
 ·have e:b=(s.heap.push { cls:=.type "range",data:=.fields #[.int lo t,.int hi u,.int 1 v] }).objs.size:=by simpa using hb
  subst e;exact I1.fpOk (nR0 _) (I1.hok.fresh (nR0 _))
def b5K (ta:TA):TI:=fun σ H R=>ta σ H fun vs H1=>∃j:Int,vs=[.int j]/\-(2 ^ 62)<=j/\j<2 ^ 62/\R (Itr 0 j.toNat) H1
theorem a3e {a:Expr}{ta:TA}{p pos:Pos}(hg:Gl X "range")(hm:X.mg "range"=none)(ha:PA X [a] ta)(hs:starEach [a] X.env=[(false,eval a X.env)]:=by rfl):PI X tg (.Call (.Name "range" p) [a] [] pos) (b5K ta):=by
 intro pins s σ H R I h;refine Call_ (a3Y I hg hm boot_range (PyProof.Rows.callWith_type1 (thn (ha pos pins s σ H _ I h) fun us s1 ⟨vs,H1,I1,r1,q1⟩=>?_) hs rfl));obtain⟨j,e,q1,q2,q⟩:=q1;subst e;cases r1 with
 |cons r rr=>
  cases rr;obtain⟨t,rfl⟩:=r;exact call_range_1 (b1d I1 (by omega) (by omega) q1 q2 (by simpa using q))
def tFor (wi:TI)(g:TG)(tb:TS):TS:=fun D σ H=>wi σ H fun J H1=>∃W:Nat->Nat->St->Hp->Prop,(∃m,W 0 m σ H1)/\∀i m σ H,W i m σ H →
 (J.stop i H/\D.nx σ H)\/(J.go i H/\∃N:St->Hp->Prop,(∀σ' H',N σ' H'->∃m',m'<m/\W (i+1) m' σ' H')/\∀x H',J.yld i H x H'->g x σ H' fun σ2 H2=>tb { D with nx:=N,ct:=N,bk:=D.nx } σ2 H2)
def a4y (fp:List Addr)(h:Heap):List (Addr×Obj):=fp.filterMap fun b=>(h.get? b).map fun o=>(b,o)
theorem a1U {fp:List Addr}{h:Heap}{b:Addr}{o:Obj}(hb:b∈fp)(e:h.get? b=some o):(b,o)∈a4y fp h:=List.mem_filterMap.mpr ⟨b,hb,by rw[e];rfl⟩
theorem a9k {fp:List Addr}{h:Heap}{p:Addr×Obj}(hp:p∈a4y fp h):p.1∈fp/\h.get? p.1=some p.2:=by
 obtain⟨b,hb,e⟩:=List.mem_filterMap.mp hp;cases q:h.get? b with
 |none=>rw[q] at e;cases e
 |some o=>
  rw[q] at e;have e':(b,o)=p:=Option.some.inj e;subst e';exact⟨hb,q⟩
theorem Inv.pinned {pins:List (Addr×Obj)}{σ:St}{H:Hp}{s:Shared}{fp:List Addr}(I:Inv X pins σ H s)(hf:∀b∈fp,a3y X pins H b)(ho:∀b∈fp,∃o,s.heap.get? b=some o/\∀v,o.data≠.cell v):Inv X (pins++a4y fp s.heap) σ H s:=
 I.pins_of fun p hp=>(mB0.mp hp).elim (fun z=>I.pin p (List.mem_append_right _ z)) fun z=>by
  obtain⟨hb,e⟩:=a9k z;obtain⟨f0,f1,f2,_⟩:=hf p.1 hb;obtain⟨o,e',d⟩:=ho p.1 hb;rw[e] at e';cases e';exact⟨e,f0,f1,f2,d⟩
theorem Inv.unpinned {pins pl:List (Addr×Obj)}{σ:St}{H:Hp}{s:Shared}(I:Inv X (pins++pl) σ H s):Inv X pins σ H s:=I.pins_of fun p hp=>I.pin p (List.mem_append_right _ (List.mem_append_left _ hp))
theorem a1W {iter:Expr}{body:List Stmt}{wi:TI}{g:TG}{tb:TS}{pos:Pos}(hp:PassesOwn (model X.prog X.w) X.A X.env X.xe)(hc:X.calm=true)(hi:PI X tg iter wi)(hg:PG X tg g)(hb:PSs X body tb)
  (hs:∀x,foldedSetIterable iter X.env x=pure x:=by intro _;rfl):PS X (.For tg iter body [] pos) (tFor wi g tb):=by
 intro pins s σ H D I h;refine wpAny_For (thn (hi pins s σ H _ I h) fun v s1 h1=>thn h1 fun itv s2 h2=>?_) hs;obtain⟨it,fp,tn,J,H2,e,I2,T,st2,f2,W,⟨m0,w0⟩,turn⟩:=h2;subst e;have stat:∀{H':Hp},(∀b∈fp,H' b=none)->∀b∈fp,a3y X pins H' b:=fun hn b hb=>⟨hn b hb,(f2 b hb).2⟩;refine codeAny_forLoop_any (fun n s'=>∃i σ' H',Inv X pins σ' H' s'/\tn i s'.heap/\(∀b∈fp,H' b=none)/\W i n σ' H') ?_ m0 ⟨0,σ,H2,I2,st2,fun b hb=>(f2 b hb).1,w0⟩;rintro n s3 ⟨i,σ3,H3,I3,st3,fr3,w3⟩;rcases turn i n σ3 H3 w3 with ⟨stop,qn⟩ |⟨go,N,hN,step⟩
 ·refine wpAny_passesOwn hp (thn (T.done X rfl rfl rfl hc i pins s3 σ3 H3 X.xe I3 (stat fr3) st3 stop) fun r s4 ⟨hr,I4⟩=>?_)
  subst hr;exact wpAny_execs_nil ⟨σ3,H3,I4,qn⟩
 ·refine wpAny_passesOwn hp (thn (T.item X rfl rfl rfl hc i pins s3 σ3 H3 X.xe I3 (stat fr3) st3 go) fun r s4 ⟨u,hr,h4⟩=>?_)
  subst hr;refine wpAny_passesOwn hp (thn h4 fun _ s5 ⟨x,H5,I5,r5,y5,st5,fr5⟩=>?_);have I5':=I5.pinned (stat fr5) (T.obj _ _ st5);refine wpAny_passesOwn hp (thn (hg _ s5 σ3 H5 x u _ I5' r5 (step x H5 y5)) fun _ s6 ⟨σ6,H6,I6,q6⟩=>?_);refine wpAny_passesOwn hp (thn (hb _ s6 σ6 H6 _ I6 q6) fun f s7 q7=>?_);have again:∀{σ7:St} {H7:Hp},Inv X (pins++a4y fp s5.heap) σ7 H7 s7->N σ7 H7->∃m,m<n/\∃i σ' H',Inv X pins σ' H' s7/\tn i s7.heap/\(∀b∈fp,H' b=none)/\W i m σ' H':=fun {σ7 H7} I7 n7=>by
   obtain⟨m',hm,w7⟩:=hN σ7 H7 n7;refine⟨m',hm,i+1,σ7,H7,I7.unpinned,T.keep _ _ _ st5 fun b hb o e=>(I7.pin (b,o) (List.mem_append_right _ (List.mem_append_right _ (a1U hb e)))).1,fun b hb=>?_,w7⟩;obtain⟨o,e,d⟩:=T.obj _ _ st5 b hb;exact(I7.pin (b,o) (List.mem_append_right _ (List.mem_append_right _ (a1U hb e)))).2.1
  cases f with
  |next=>obtain⟨σ7,H7,I7,n7⟩:=q7;exact again I7 n7
  |cont=>obtain⟨σ7,H7,I7,n7⟩:=q7;exact again I7 n7
  |brk=>obtain⟨σ7,H7,I7,q7⟩:=q7;exact⟨σ7,H7,I7.unpinned,q7⟩
  |ret v=>obtain⟨x7,σ7,H7,I7,r7,q7⟩:=q7;exact⟨x7,σ7,H7,I7.unpinned,r7,q7⟩
end
theorem a2K {K:Fg0}{a:Addr}{xs:List V}{g:TG}{tb:TS}{D:a5o}{σ:St}{H:Hp}(Pv:Nat->St->Hp->Prop)(h0:Pv 0 σ H)(hl:∀i σ H,i<=xs.length->Pv i σ H->SqL K H a xs)
  (hs:∀i x σ H,xs[i]? =some x->Pv i σ H->g x σ H fun σ2 H2=>tb { D with nx:=Pv (i+1),ct:=Pv (i+1),bk:=D.nx } σ2 H2) (hd:∀σ H,Pv xs.length σ H->D.nx σ H) :
  ∃W:Nat->Nat->St->Hp->Prop,(∃m,W 0 m σ H)/\∀i m σ H,W i m σ H →
   ((Itl K a).stop i H/\D.nx σ H)\/((Itl K a).go i H/\∃N:St->Hp->Prop,(∀σ' H',N σ' H'->∃m',m'<m/\W (i+1) m' σ' H')/\∀x H',(Itl K a).yld i H x H'->g x σ H' fun σ2 H2=>tb { D with nx:=N,ct:=N,bk:=D.nx } σ2 H2):=by
 refine⟨fun i m σ H=>m=xs.length-i/\i<=xs.length/\Pv i σ H,⟨xs.length,by simp,zL0 _,h0⟩,?_⟩;rintro i m σ H ⟨rfl,hi,p⟩;have q:=hl i σ H hi p
 by_cases hlt:i<xs.length
 ·refine .inr ⟨⟨xs,xs[i],q,by simp[hlt]⟩,Pv (i+1),fun σ' H' p'=>⟨xs.length-(i+1),by omega,rfl,hlt,p'⟩,fun x H' y=>?_⟩
  obtain⟨e,y⟩:=y;subst e;exact hs i x σ _ (y xs q) p
 ·have e:i=xs.length:=by omega
  subst e;exact .inl ⟨⟨xs,q,nR0 _⟩,hd σ H p⟩
theorem b2U {K:Fg0}{a:Addr}{xs:List V}{g:TG}{tb:TS}{D:a5o}{σ:St}{H:Hp}(Pv:Nat->St->Hp->Prop)(h0:Pv 0 σ H)(hl:∀i σ H,i<=xs.length->Pv i σ H->SqT K H a xs)
  (hs:∀i x σ H,xs[i]? =some x->Pv i σ H->g x σ H fun σ2 H2=>tb { D with nx:=Pv (i+1),ct:=Pv (i+1),bk:=D.nx } σ2 H2) (hd:∀σ H,Pv xs.length σ H->D.nx σ H) :
  ∃W:Nat->Nat->St->Hp->Prop,(∃m,W 0 m σ H)/\∀i m σ H,W i m σ H →
   ((Itt K a).stop i H/\D.nx σ H)\/((Itt K a).go i H/\∃N:St->Hp->Prop,(∀σ' H',N σ' H'->∃m',m'<m/\W (i+1) m' σ' H')/\∀x H',(Itt K a).yld i H x H'->g x σ H' fun σ2 H2=>tb { D with nx:=N,ct:=N,bk:=D.nx } σ2 H2):=by
 refine⟨fun i m σ H=>m=xs.length-i/\i<=xs.length/\Pv i σ H,⟨xs.length,by simp,zL0 _,h0⟩,?_⟩;rintro i m σ H ⟨rfl,hi,p⟩;have q:=hl i σ H hi p
 by_cases hlt:i<xs.length
 ·refine .inr ⟨⟨xs,xs[i],q,by simp[hlt]⟩,Pv (i+1),fun σ' H' p'=>⟨xs.length-(i+1),by omega,rfl,hlt,p'⟩,fun x H' y=>?_⟩
  obtain⟨e,y⟩:=y;subst e;exact hs i x σ _ (y xs q) p
 ·have e:i=xs.length:=by omega
  subst e;exact .inl ⟨⟨xs,q,nR0 _⟩,hd σ H p⟩
theorem a5F {lo:Int}{n:Nat}{g:TG}{tb:TS}{D:a5o}{σ:St}{H:Hp}(Pv:Nat->St->Hp->Prop)(h0:Pv 0 σ H)
  (hs:∀i σ H,i<n->Pv i σ H->g (.int (lo+i)) σ H fun σ2 H2=>tb { D with nx:=Pv (i+1),ct:=Pv (i+1),bk:=D.nx } σ2 H2) (hd:∀σ H,Pv n σ H->D.nx σ H) :
  ∃W:Nat->Nat->St->Hp->Prop,(∃m,W 0 m σ H)/\∀i m σ H,W i m σ H →
   ((Itr lo n).stop i H/\D.nx σ H)\/((Itr lo n).go i H/\∃N:St->Hp->Prop,(∀σ' H',N σ' H'->∃m',m'<m/\W (i+1) m' σ' H')/\∀x H',(Itr lo n).yld i H x H'->g x σ H' fun σ2 H2=>tb { D with nx:=N,ct:=N,bk:=D.nx } σ2 H2):=by
 refine⟨fun i m σ H=>m=n-i/\i<=n/\Pv i σ H,⟨n,by simp,zL0 _,h0⟩,?_⟩;rintro i m σ H ⟨rfl,hi,p⟩
 by_cases hlt:i<n
 ·refine .inr ⟨hlt,Pv (i+1),fun σ' H' p'=>⟨n-(i+1),by omega,rfl,hlt,p'⟩,fun x H' y=>?_⟩
  obtain⟨e,y⟩:=y;subst e y;exact hs i σ _ hlt p
 ·have e:i=n:=by omega
  subst e;exact .inl ⟨nR0 _,hd σ H p⟩
abbrev R2:=V->V->Hp->VK->Prop
def OpR (X:Cx)(f:Value->Value->Sem Value)(r:R2):Prop:=
 ∀(pins:List (Addr×Obj)) (s:Shared) (σ:St) (H:Hp) (x y:V) (v u:Value) (Q:VK),Inv X pins σ H s->a0Z x v->a0Z y u->r x y H Q →
  wpAny (model X.prog X.w) X.A (f v u) (EP X pins σ Q) X.xe s
def a1p (X:Cx)(f:Value)(r:List V->Hp->VK->Prop):Prop:=
 ∀(pins:List (Addr×Obj)) (s:Shared) (σ:St) (H:Hp) (xs:List V) (us:List Value) (Q:VK),Inv X pins σ H s->a1c xs us->r xs H Q →
  wpAny (model X.prog X.w) X.A (call f us) (EP X pins σ Q) X.xe s
def tOp (r:R2)(ta tb:TE):TE:=fun σ H Q=>ta σ H fun x H1=>tb σ H1 fun y H2=>r x y H2 Q
def rI (C:Int->Int->Prop)(g:Int->Int->V):R2:=fun x y H Q=>∃i j,x=.int i/\y=.int j/\C i j/\Q (g i j) H
def rI0 (g:Int->Int->V):R2:=fun x y H Q=>∃i j,x=.int i/\y=.int j/\Q (g i j) H
section
variable {X:Cx}{a b c:Expr}{ta tb tc:TE}{pos:Pos}
theorem b5l (ha:PE X a ta)(hb:PE X b tb){pins:List (Addr×Obj)}{s:Shared}{σ:St}{H:Hp}{R:V->V->Hp->Prop}(I:Inv X pins σ H s)
  (h:ta σ H fun x H1=>tb σ H1 fun y H2=>R x y H2) {Q:Vs0} {f:Value->Value->Sem Value}
  (hf:∀v u s2 x y H2,Inv X pins σ H2 s2->a0Z x v->a0Z y u->R x y H2->wpAny (model X.prog X.w) X.A (f v u) Q X.xe s2) :
  wpAny (model X.prog X.w) X.A (eval a X.env) (fun v s₁=>wpAny (model X.prog X.w) X.A (eval b X.env) (fun u s₂=>wpAny (model X.prog X.w) X.A (f v u) Q X.xe s₂) X.xe s₁) X.xe s:=by
 refine thn (ha pins s σ H _ I h) fun v s1 ⟨x,H1,I1,r1,q1⟩=>?_;refine thn (hb pins s1 σ H1 _ I1 q1) fun u s2 ⟨y,H2,I2,r2,q2⟩=>?_;exact hf v u s2 x y H2 I2 r1 r2 q2
theorem a0w {op:Operator}{r:R2}(ho:OpR X (binaryOp op) r)(ha:PE X a ta)(hb:PE X b tb):PE X (.BinOp a op b pos) (tOp r ta tb):=by
 intro pins s σ H Q I h;exact wpAny_BinOp (b5l ha hb I h fun v u s2 x y H2 I2 rx ry q=>ho pins s2 σ H2 x y v u Q I2 rx ry q)
theorem opI {f:Value->Value->Sem Value}{C:Int->Int->Prop}{g:Int->Int->Int}
  (rule:∀(i j:Int) (t u:Tok) (s:Shared) (Q:Vs0) (E:Vs0),C i j->Q (.int (g i j) s.toks) { s with toks:=s.toks+1 }->wpAny (model X.prog X.w) X.A (f (.int i t) (.int j u)) Q E s) :
  OpR X f (rI C fun i j=>.int (g i j)):=by
 intro pins s σ H x y v u Q I rx ry h;obtain⟨i,j,rfl,rfl,hc,q⟩:=h;obtain⟨t,rfl⟩:=rx;obtain⟨t',rfl⟩:=ry;exact rule i j t t' s _ _ hc ⟨.int (g i j),H,I.tok _,⟨_,rfl⟩,q⟩
theorem b5V {f:Value->Value->Sem Value}{g:Int->Int->Int}
  (rule:∀(i j:Int) (t u:Tok) (s:Shared) (Q:Vs0) (E:Vs0),Q (.int (g i j) s.toks) { s with toks:=s.toks+1 }->wpAny (model X.prog X.w) X.A (f (.int i t) (.int j u)) Q E s) :
  OpR X f (rI0 fun i j=>.int (g i j)):=by
 intro pins s σ H x y v u Q I rx ry h;obtain⟨i,j,rfl,rfl,q⟩:=h;obtain⟨t,rfl⟩:=rx;obtain⟨t',rfl⟩:=ry;exact rule i j t t' s _ _ ⟨.int (g i j),H,I.tok _,⟨_,rfl⟩,q⟩
theorem b4M {f:Value->Value->Sem Value}{g:Int->Int->Bool}
  (rule:∀(i j:Int) (t u:Tok) (s:Shared) (Q:Vs0) (E:Vs0),Q (.bool (g i j)) s->wpAny (model X.prog X.w) X.A (f (.int i t) (.int j u)) Q E s) :
  OpR X f (rI0 fun i j=>.bl (g i j)):=by
 intro pins s σ H x y v u Q I rx ry h;obtain⟨i,j,rfl,rfl,q⟩:=h;obtain⟨t,rfl⟩:=rx;obtain⟨t',rfl⟩:=ry;exact rule i j t t' s _ _ ⟨.bl (g i j),H,I,rfl,q⟩
def CDiv (i j:Int):Prop:=0<j/\j<1073741824
def b5M (i j:Int):Prop:=(-(2 ^ 64)<i/\i<2 ^ 64)\/(-(2 ^ 64)<j/\j<2 ^ 64)
theorem b5M.ok {i j:Int}(h:b5M i j):IntMulOk i j:=by
 rcases h with ⟨h1,h2⟩ |⟨h1,h2⟩
 ·exact .of_left (intBits_le_64 h1 h2)
 ·exact .of_right (intBits_le_64 h1 h2)
theorem two_pow_nn (k:Nat):(0:Int)<=2 ^ k:=by
 rw[two_pow_cast];exact Int.natCast_nonneg _
theorem a2N:OpR X (binaryOp .Add) (rI0 fun i j=>.int (i+j)):=b5V fun _ _ _ _ _ _ _ q=>add_int q
theorem a5H:OpR X (binaryOp .Sub) (rI0 fun i j=>.int (i-j)):=b5V fun _ _ _ _ _ _ _ q=>sub_int q
theorem a2O:OpR X (binaryOp .Mult) (rI b5M fun i j=>.int (i * j)):=opI fun _ _ _ _ _ _ _ hc q=>mul_int q hc.ok
theorem a1b:OpR X (binaryOp .FloorDiv) (rI CDiv fun i j=>.int (i/j)):=opI fun i j _ _ _ _ _ hc q=>by
 have h1:(0:Int)<j:=hc.1;have h2:j<1073741824:=hc.2;exact floordiv_int (by omega) (by rw[Int.fdiv_eq_ediv_of_nonneg i (by omega)];exact q) (.inl (PyProof.noPylong_small (by omega)))
theorem a0O:OpR X (binaryOp .Mod) (rI (fun _ j=>0<j) fun i j=>.int (i%j)):=opI fun i j _ _ _ _ _ hc q=>by
 have h1:(0:Int)<j:=hc;exact mod_int' (by omega) (by rw[Int.fmod_eq_emod_of_nonneg i (by omega)];exact q)
def b6f:V->V->Bool
 | .non,.non=>true | .non,.int _=>true | .int _,.non=>true | .non,.bl _=>true | .bl _,.non=>true | .non,.str _=>true | .str _,.non=>true
 | .int _,.int _=>true | .bl _,.bl _=>true | .str _,.str _=>true | .byt _,.byt _=>true
 | .int _,.str _=>true | .str _,.int _=>true | .bl _,.str _=>true | .str _,.bl _=>true
 |_,_=>false
def rEq:R2:=fun x y H Q=>b6f x y=true/\Q (.bl (decide (x=y))) H
def rNe:R2:=fun x y H Q=>b6f x y=true/\Q (.bl (!decide (x=y))) H
theorem a9U {i j:Int}:decide (V.int i=V.int j)=(i==j):=by
 rw[Bool.eq_iff_iff];simp
theorem b1m {i j:Bool}:decide (V.bl i=V.bl j)=(i==j):=by
 rw[Bool.eq_iff_iff];simp
theorem a6s {i j:Str}:decide (V.str i=V.str j)=(i==j):=by
 rw[Bool.eq_iff_iff];simp
theorem a8J {i j:Array UInt8}:decide (V.byt i=V.byt j)=(i.toList==j.toList):=by
 rw[Bool.eq_iff_iff];cases i;cases j;simp
theorem a0Q {pins:List (Addr×Obj)}{σ:St}{H:Hp}{s:Shared}{Q:VK}{k k':Bool}(I:Inv X pins σ H s)(q:Q (.bl k) H)(e:k=k'):EP X pins σ Q (.bool k') s:=by
 subst e;exact⟨.bl k,H,I,rfl,q⟩
theorem a1o:OpR X (compareOp .Eq) rEq:=by
 intro pins s σ H x y v u Q I rx ry h;obtain⟨hs,q⟩:=h;cases x with
 |non=>
  cases rx;cases y with
  |non=>cases ry;exact PySem.EqNone.eq_none_none (a0Q I q (by simp))
  |bl j=>cases ry;exact PySem.EqNone.eq_none_bool (a0Q I q (by simp))
  |int j=>obtain⟨t',rfl⟩:=ry;exact PySem.EqNone.eq_none_int (a0Q I q (by simp))
  |str j=>obtain⟨t',rfl⟩:=ry;exact PySem.EqNone.eq_none_str (a0Q I q (by simp))
  |_=>exact absurd (show false=true from hs) bF0
 |bl i=>
  cases rx;cases y with
  |non=>cases ry;exact PySem.EqNone.eq_bool_none (a0Q I q (by simp))
  |bl j=>cases ry;exact eq_bool (a0Q I q b1m)
  |str j=>obtain⟨t',rfl⟩:=ry;exact PySem.EqMixed.eq_bool_str (a0Q I q (by simp))
  |_=>exact absurd (show false=true from hs) bF0
 |int i=>
  obtain⟨t,rfl⟩:=rx;cases y with
  |non=>cases ry;exact PySem.EqNone.eq_int_none (a0Q I q (by simp))
  |int j=>obtain⟨t',rfl⟩:=ry;exact eq_int (a0Q I q a9U)
  |str j=>obtain⟨t',rfl⟩:=ry;exact PySem.EqMixed.eq_int_str (a0Q I q (by simp))
  |_=>exact absurd (show false=true from hs) bF0
 |str i=>
  obtain⟨t,rfl⟩:=rx;cases y with
  |non=>cases ry;exact PySem.EqNone.eq_str_none (a0Q I q (by simp))
  |bl j=>cases ry;exact PySem.EqMixed.eq_str_bool (a0Q I q (by simp))
  |int j=>obtain⟨t',rfl⟩:=ry;exact PySem.EqMixed.eq_str_int (a0Q I q (by simp))
  |str j=>obtain⟨t',rfl⟩:=ry;exact eq_str (a0Q I q a6s)
  |_=>exact absurd (show false=true from hs) bF0
 |byt i=>
  obtain⟨t,rfl⟩:=rx;cases y with
  |byt j=>obtain⟨t',rfl⟩:=ry;exact PySem.W.eq_bytes (a0Q I q a8J)
  |_=>exact absurd (show false=true from hs) bF0
 |_=>cases y<;>exact absurd (show false=true from hs) bF0
theorem a4p:OpR X (compareOp .NotEq) rNe:=by
 intro pins s σ H x y v u Q I rx ry h;obtain⟨hs,q⟩:=h;cases x with
 |non=>
  cases rx;cases y with
  |non=>cases ry;exact PySem.EqNone.ne_none_none (a0Q I q (by simp))
  |bl j=>cases ry;exact PySem.EqNone.ne_none_bool (a0Q I q (by simp))
  |int j=>obtain⟨t',rfl⟩:=ry;exact PySem.EqNone.ne_none_int (a0Q I q (by simp))
  |str j=>obtain⟨t',rfl⟩:=ry;exact PySem.EqNone.ne_none_str (a0Q I q (by simp))
  |_=>exact absurd (show false=true from hs) bF0
 |bl i=>
  cases rx;cases y with
  |non=>cases ry;exact PySem.EqNone.ne_bool_none (a0Q I q (by simp))
  |bl j=>cases ry;exact ne_bool (a0Q I q (congrArg not b1m))
  |str j=>obtain⟨t',rfl⟩:=ry;exact PySem.EqMixed.ne_bool_str (a0Q I q (by simp))
  |_=>exact absurd (show false=true from hs) bF0
 |int i=>
  obtain⟨t,rfl⟩:=rx;cases y with
  |non=>cases ry;exact PySem.EqNone.ne_int_none (a0Q I q (by simp))
  |int j=>obtain⟨t',rfl⟩:=ry;exact ne_int (a0Q I q (congrArg not a9U))
  |str j=>obtain⟨t',rfl⟩:=ry;exact PySem.EqMixed.ne_int_str (a0Q I q (by simp))
  |_=>exact absurd (show false=true from hs) bF0
 |str i=>
  obtain⟨t,rfl⟩:=rx;cases y with
  |non=>cases ry;exact PySem.EqNone.ne_str_none (a0Q I q (by simp))
  |bl j=>cases ry;exact PySem.EqMixed.ne_str_bool (a0Q I q (by simp))
  |int j=>obtain⟨t',rfl⟩:=ry;exact PySem.EqMixed.ne_str_int (a0Q I q (by simp))
  |str j=>obtain⟨t',rfl⟩:=ry;exact ne_str (a0Q I q (congrArg not a6s))
  |_=>exact absurd (show false=true from hs) bF0
 |byt i=>
  obtain⟨t,rfl⟩:=rx;cases y with
  |byt j=>obtain⟨t',rfl⟩:=ry;exact PySem.W.ne_bytes (a0Q I q (congrArg not a8J))
  |_=>exact absurd (show false=true from hs) bF0
 |_=>cases y<;>exact absurd (show false=true from hs) bF0
theorem b2h:OpR X (compareOp .Lt) (rI0 fun i j=>.bl (decide (i<j))):=b4M fun _ _ _ _ _ _ _ q=>lt_int q
theorem b3s:OpR X (compareOp .LtE) (rI0 fun i j=>.bl (decide (i<=j))):=b4M fun _ _ _ _ _ _ _ q=>le_int q
theorem b5c:OpR X (compareOp .Gt) (rI0 fun i j=>.bl (decide (j<i))):=b4M fun _ _ _ _ _ _ _ q=>gt_int q
theorem b5L:OpR X (compareOp .GtE) (rI0 fun i j=>.bl (decide (j<=i))):=b4M fun _ _ _ _ _ _ _ q=>ge_int q
theorem a8M:OpR X (compareOp .In) (fun x y H Q=>∃i j,x=.str i/\y=.str j/\Q (.bl (!(Builtin.Str.occurrences j i 0 j.length 1).isEmpty)) H):=by
 intro pins s σ H x y v u Q I rx ry h;obtain⟨i,j,rfl,rfl,q⟩:=h;obtain⟨t,rfl⟩:=rx;obtain⟨t',rfl⟩:=ry;exact in_str (a0Q I q rfl)
theorem a3t:OpR X (compareOp .Is) (fun x y H Q=>y=.non/\Q (.bl (decide (x=.non))) H):=by
 intro pins s σ H x y v u Q I rx ry h;obtain⟨rfl,q⟩:=h;cases ry;refine is_none_gen (a0Q I q ?_);cases x<;>first
  | (cases rx;rfl)
  | (obtain⟨t,rfl⟩:=rx;rfl)
theorem a9i:OpR X (compareOp .IsNot) (fun x y H Q=>y=.non/\Q (.bl (!decide (x=.non))) H):=by
 intro pins s σ H x y v u Q I rx ry h;obtain⟨rfl,q⟩:=h;cases ry;refine isnot_none_gen (a0Q I q ?_);cases x<;>first
  | (cases rx;rfl)
  | (obtain⟨t,rfl⟩:=rx;rfl)
theorem a0t (b:Expr){op:CmpOp}(h:op≠.In:=by decide)(h2:op≠.NotIn:=by decide):behindInMarks op b=false:=by
 have e1:(op==CmpOp.In)=false:=by cases op<;>first |rfl |exact absurd rfl h
 have e2:(op==CmpOp.NotIn)=false:=by cases op<;>first |rfl |exact absurd rfl h2
 cases b<;>simp[behindInMarks,e1,e2]
theorem a1d {op:CmpOp}{r:R2}(ho:OpR X (compareOp op) r)(ha:PE X a ta)(hb:PE X b tb)(hm:behindInMarks op b=false):PE X (.Compare a [op] [b] pos) (tOp r ta tb):=by
 intro pins s σ H Q I h;exact wpAny_Compare1 (b5l ha hb I h fun v u s2 x y H2 I2 rx ry q=>ho pins s2 σ H2 x y v u Q I2 rx ry q) hm
def b4e (t:TE):TT:=fun σ H Q=>t σ H fun x H'=>∃k,x=.bl k/\Q k H'
theorem a0q {op:CmpOp}{r:R2}(ho:OpR X (compareOp op) r)(ha:PE X a ta)(hb:PE X b tb)(hm:behindInMarks op b=false):PT X (.Compare a [op] [b] pos) (b4e (tOp r ta tb)):=by
 intro pins s σ H Q I h;refine wpAny_isTrue_Compare1 (thn (ha pins s σ H _ I h) fun v s1 ⟨x,H1,I1,r1,q1⟩=>thn (hb pins s1 σ H1 _ I1 q1) fun u s2 ⟨y,H2,I2,r2,q2⟩=>
  thn (ho pins s2 σ H2 x y v u _ I2 r1 r2 q2) fun c s3 ⟨z,H3,I3,r3,k,e,q3⟩=>?_) hm
 subst e;cases r3;exact wpAny_truthy_bool ⟨H3,I3,q3⟩
def b1B (r r':R2)(ta tb tc:TE):TE:=fun σ H Q=>ta σ H fun x H1=>tb σ H1 fun y H2=>r x y H2 fun z H3=>∃k,z=.bl k ∧
 (if k=true then tc σ H3 fun w' H4=>r' y w' H4 Q else Q (.bl false) H3)
theorem b0q {op op':CmpOp}{r r':R2}(ho:OpR X (compareOp op) r)(ho':OpR X (compareOp op') r')(ha:PE X a ta)(hb:PE X b tb)(hc:PE X c tc)
  (hm:lastMarks [op,op'] [b,c]=false:=by with_unfolding_all rfl):PE X (.Compare a [op,op'] [b,c] pos) (b1B r r' ta tb tc):=by
 intro pins s σ H Q I h;refine Compare_chain (thn (ha pins s σ H _ I h) fun v s1 ⟨x,H1,I1,r1,q1⟩=>chain_link (thn (hb pins s1 σ H1 _ I1 q1) fun u s2 ⟨y,H2,I2,r2,q2⟩=>
  thn (ho pins s2 σ H2 x y v u _ I2 r1 r2 q2) fun d s3 ⟨z,H3,I3,r3,k,e,q3⟩=>?_)) hm
 subst e;cases r3;refine wpAny_truthy_bool ?_;cases k with
 |false=>exact ite_ff ⟨.bl false,H3,I3,rfl,q3⟩
 |true=>exact ite_tt (chain_last (thn (hc pins s3 σ H3 _ I3 q3) fun w' s4 ⟨z',H4,I4,r4,q4⟩=>ho' pins s4 σ H4 y z' u w' Q I4 r2 r4 q4))
theorem b0O {op op':CmpOp}{r r':R2}(ho:OpR X (compareOp op) r)(ho':OpR X (compareOp op') r')(ha:PE X a ta)(hb:PE X b tb)(hc:PE X c tc)
  (hm:lastMarks [op,op'] [b,c]=false:=by with_unfolding_all rfl):PT X (.Compare a [op,op'] [b,c] pos) (b4e (b1B r r' ta tb tc)):=by
 intro pins s σ H Q I h;refine isTrue_chain (thn (ha pins s σ H _ I h) fun v s1 ⟨x,H1,I1,r1,q1⟩=>test_link (thn (hb pins s1 σ H1 _ I1 q1) fun u s2 ⟨y,H2,I2,r2,q2⟩=>
  thn (ho pins s2 σ H2 x y v u _ I2 r1 r2 q2) fun d s3 ⟨z,H3,I3,r3,k,e,q3⟩=>?_)) hm
 subst e;cases r3;refine wpAny_truthy_bool ?_;cases k with
 |false=>
  obtain⟨k',e',q'⟩:=q3;cases e';exact ite_ff ⟨H3,I3,q'⟩
 |true=>
  refine ite_tt (test_last (thn (hc pins s3 σ H3 _ I3 q3) fun w' s4 ⟨z',H4,I4,r4,q4⟩=>thn (ho' pins s4 σ H4 y z' u w' _ I4 r2 r4 q4) fun d' s5 ⟨z2,H5,I5,r5,k2,e2,q5⟩=>?_));subst e2;cases r5;exact wpAny_truthy_bool ⟨H5,I5,q5⟩
theorem a4d:(sizeLine:Nat)<2 ^ 63:=by rw[sizeLine_eq];decide
theorem a4t:OpR X (binaryOp .Add) (fun x y H Q=>∃i j,x=.str i/\y=.str j/\i.length+j.length<=sizeLine/\Q (.str (i++j)) H):=by
 intro pins s σ H x y v u Q I rx ry h;obtain⟨i,j,rfl,rfl,hz,q⟩:=h;obtain⟨t,rfl⟩:=rx;obtain⟨t',rfl⟩:=ry;exact add_str (fun t' tk=>⟨.str (i++j),H,I.tok _,⟨_,rfl⟩,q⟩) hz
theorem a2T {x:V}{us:List Value}(r:a1c [x] us):∃u,us=[u]/\a0Z x u:=by
 cases r with
 |cons r1 r2=>cases r2;exact⟨_,rfl,r1⟩
theorem a7N {x y:V}{us:List Value}(r:a1c [x,y] us):∃u w',us=[u,w']/\a0Z x u/\a0Z y w':=by
 cases r with
 |cons r1 r2=>
  cases r2 with
  |cons r3 r4=>cases r4;exact⟨_,_,rfl,r1,r3⟩
theorem b0G:a1p X (.builtin "abs") (fun xs H Q=>∃i,xs=[.int i]/\Q (.int (if i<0 then -i else i)) H):=by
 intro pins s σ H xs us Q I r h;obtain⟨i,rfl,q⟩:=h;obtain⟨u,rfl,t,rfl⟩:=a2T r;exact call_abs_int fun u tk=>⟨.int (if i<0 then -i else i),H,I.tok _,⟨_,rfl⟩,q⟩
theorem a9M (hc:X.calm=true):a1p X (.builtin "max") (fun xs H Q=>∃i j,xs=[.int i,.int j]/\Q (.int (if j > i then j else i)) H):=by
 intro pins s σ H xs us Q I r h;obtain⟨i,j,rfl,q⟩:=h;obtain⟨u,w',rfl,⟨t,rfl⟩,⟨t',rfl⟩⟩:=a7N r;refine max_two_ints (I.ok.hd hc) fun h' tk k=>⟨_,H,I.kept k,?_,q⟩
 by_cases hj:j > i
 ·rw[if_pos hj,if_pos hj];exact⟨_,rfl⟩
 ·rw[if_neg hj,if_neg hj];exact⟨_,rfl⟩
theorem b0k:a1p X (.builtin "ord") (fun xs H Q=>∃x,xs=[.str x]/\x.length=1/\Q (.int (x.cps.getD 0 0:Nat)) H):=by
 intro pins s σ H xs us Q I r h;obtain⟨x,rfl,hz,q⟩:=h;obtain⟨u,rfl,t,rfl⟩:=a2T r;exact ord_of_one hz ⟨.int _,H,I.tok _,⟨_,rfl⟩,q⟩
end
structure b3b (h:Heap) (x dx C:Addr) (mA:Str->Option Value):Prop where
 obj:h.get? x=some (PySem.W.instObj C dx)
 ns:h.Ns1 dx mA
 ne:dx≠x
theorem a9l {h:Heap}{dx:Addr}{mA:Str->Option Value}(n:h.Ns1 dx mA):∃od,h.get? dx=some od/\∀name,PySem.W.lookIn name od=some (mA name):=by
 obtain⟨o,es,ep,ho,hd,hk,_,hm⟩:=n;refine⟨o,ho,fun name=>?_⟩;have e:=hm name;unfold nsFind findBy at e;rw[<-Array.find?_toList] at e;unfold PySem.W.lookIn;rw[hd]
 dsimp only
 split
 ·rename_i y q
  rw[q] at e;exact congrArg some e
 ·rename_i q
  rw[q] at e;have a:es.toList.any (·.refKey)=false:=by
   rw[List.any_eq_false];intro y hy;obtain⟨z,t,hkey⟩:=hk y (Array.mem_toList_iff.mp hy);simp[DictEntry.refKey,hkey]
  have a':¬es.toList.any (·.refKey)=true:=by rw[a];exact bF0
  rw[if_neg a'];exact congrArg some e
theorem b3b.look {h:Heap}{x dx C:Addr}{mA:Str->Option Value}(I:b3b h x dx C mA):∃od,PySem.W.InstAt h x (PySem.W.instObj C dx) C (some od)/\∀name,PySem.W.lookIn name od=some (mA name):=
 let ⟨od,ho,hl⟩:=a9l I.ns
 ⟨od,⟨I.obj,rfl,rfl,ho⟩,hl⟩
section
variable {prog:Program}{w:World}{A:Around}{E:Vs0}{s:Shared}{K:Fg0}{x dx C f:Addr}{mA:Str->Option Value}{name:Str}{v:Value}
theorem b1W {expr:Bool}{Q:Vs0}(X:K.In s.heap)(I:b3b s.heap x dx C mA)(hg:PySem.W.plainGet K C name=true)(hh:PySem.W.hasDictIn K C=true)
  (ha:PySem.W.findIn K (.ref C) name=some none) (hv:mA name=some v) (hv':PySem.W.handedIn v=true) (h:Q v { s with toks:=s.toks+1 }) :
  wpAny (model prog w) A (getAttr (.ref x) name expr) Q E s:=by
 obtain⟨od,J,hl⟩:=I.look;exact PySem.W.get_value X J (PySem.W.plainGet_of hg).1 (PySem.W.findObj_own hh ha rfl (by rw[hl,hv])) hv' h
theorem b1b {pl:Sem Bool}{Q:Value×List Value->Shared->Prop}(X:K.In s.heap)(I:b3b s.heap x dx C mA)(hg:PySem.W.plainGet K C name=true)
  (hf:PySem.W.findIn K (.ref C) name=some (some (.ref f))) (ht:PySem.W.isFn K (.ref f)=true) (hv:mA name=none) (h:Q (.ref f,[.ref x]) s) :
  wpAny (model prog w) A (getMethod (.ref x) name pl) Q E s:=by
 obtain⟨od,J,hl⟩:=I.look;exact PySem.W.method_fn X J (PySem.W.plainGet_of hg).1 (PySem.W.plainGet_of hg).2 hf (beq_iff_eq.mp ht) (by show(PySem.W.lookIn name od).map (·.isSome)=some false;rw[hl,hv];rfl) h
theorem b2j {ns:List Str}{Q:Unit->Shared->Prop}(X:K.In s.heap)(I:b3b s.heap x dx C mA)
  (hs:PySem.W.findIn K (.ref C) "__setattr__"=some (some (.builtin "object.__setattr__"))) (hp:PySem.W.plainOver K C=true) (ht:PySem.W.takerIn K C name=some none) (hh:PySem.W.hasDictIn K C=true)
  (hw:PySem.Within mA ns) (hsz:ns.length<=sizeLine)
  (h:∀h',b3b h' x dx C (fun y=>if y=name then some v else mA y)->Heap.SameBut dx s.heap h'->Q () { s with heap:=h',toks:=s.toks+2 }) :
  wpAny (model prog w) A (setAttr (.ref x) name v) Q E s:=by
 obtain⟨od,J,hl⟩:=I.look;refine PySem.W.set_plain X J hs (PySem.W.osa_open (s:={ s with toks:=s.toks+1 }) (r:=none) X J hp ht fun b=>?_);obtain⟨cd,hc,hd'⟩:=PySem.W.any_some hh;have hx:s.heap.get? x=some ⟨.ref C,some dx,.plain,#[]⟩:=I.obj;refine wB0 (wP0 (wB0 (wB0 (wpAny_loadPart hx (wB0 (PySem.W.Looks.here (s:={ s with toks:=s.toks+1 }) (PySem.W.looks_clsIn X hc) ?_))))));rw[hd'];refine wP0 (a:=some dx) (wB0 (wP0 (wB0 ?_)));refine wpAny_nsSet1 (s:={ s with toks:=s.toks+1 }) I.ns fun h' hn2 hs2=>?_;obtain⟨oD,esD,epD,hoD,hdD,hcD⟩:=hn2.count (PySem.Within.cons name v hw);refine wB0 (wpAny_lookBehind hoD (by rw[hdD];exact pastItsLine_dict (Nat.le_trans hcD (by rw[List.length_cons];omega))) ?_);exact wP0 (h _ ⟨(hs2.2 _ (Ne.symm I.ne)).trans I.obj,hn2,I.ne⟩ hs2)
theorem b0H {R:Result->Shared->Prop}{vs:List Value}{kw:List (Str×Value)}(X:K.In s.heap)(hm:PySem.W.makesIn K C=true)
  (hi:PySem.W.findIn K (.ref C) "__init__"=some (some (.ref f))) (hf:PySem.W.typeIn K (.ref f)=some (.type "function"))
  (h:codeAny (model prog w) (A.under (.builtin "type.__call__" ⟨.ref C::vs,kw⟩)) (.call (.ref f) ⟨.ref (s.heap.objs.size+1)::vs,kw⟩) (PySem.W.InitBack (s.heap.objs.size+1) R)
   { s with heap:=(s.heap.push PySem.W.emptyDict).push (PySem.W.instObj C s.heap.objs.size) }) :
  codeAny (model prog w) A (.call (.ref C) ⟨vs,kw⟩) R s:=by
 obtain⟨hh,g,d,t,os⟩:=s;exact PySem.W.make_core (PySem.W.makes_of X hm) (PySem.W.looks_findIn X hi) (fun self=>PySem.W.bind_fn X self hf) (.inl rfl) h
end
def a4k (f:Str)(v:V):List (Str×V)->List (Str×V)
 |[]=>[(f,v)]
 | (g,x)::r=>if g=f then(g,v)::r else(g,x)::a4k f v r
theorem a1u (f g:Str)(v:V):∀fs:List (Str×V),(a4k f v fs).lookup g=if g=f then some v else fs.lookup g
 |[]=>by
  show List.lookup g [(f,v)]=_
  by_cases h:g=f
  ·have hb:(g==f)=true:=beq_iff_eq.mpr h
   simp only[List.lookup,hb,if_pos h]
  ·have hb:(g==f)=false:=beq_eq_false_iff_ne.mpr h
   simp only[List.lookup,hb,if_neg h]
 | (k,x)::r=>by
  have ih:=a1u f g v r;rw[show a4k f v ((k,x)::r)=(if k=f then(k,v)::r else(k,x)::a4k f v r) from rfl]
  by_cases hk:k=f
  ·rw[if_pos hk]
   by_cases h:g=k
   ·have hb:(g==k)=true:=beq_iff_eq.mpr h
    simp only[List.lookup,hb,if_pos (h.trans hk)]
   ·have hb:(g==k)=false:=beq_eq_false_iff_ne.mpr h
    simp only[List.lookup,hb,if_neg (fun e:g=f=>h (e.trans hk.symm))]
  ·rw[if_neg hk]
   by_cases h:g=k
   ·have hb:(g==k)=true:=beq_iff_eq.mpr h
    simp only[List.lookup,hb,if_neg (fun e:g=f=>hk (h.symm.trans e))]
   ·have hb:(g==k)=false:=beq_eq_false_iff_ne.mpr h
    simp only[List.lookup,hb];exact ih
theorem a3F (f:Str)(v:V):∀fs:List (Str×V),f∈(a4k f v fs).map (·.1)/\∀g,g∈fs.map (·.1)->g∈(a4k f v fs).map (·.1)
 |[]=>⟨by simp[a4k],fun g h=>by simp at h⟩
 | (k,x)::r=>by
  obtain⟨i1,i2⟩:=a3F f v r;rw[show a4k f v ((k,x)::r)=(if k=f then(k,v)::r else(k,x)::a4k f v r) from rfl]
  by_cases hk:k=f
  ·rw[if_pos hk]
   subst hk;exact⟨by simp,fun g h=>by simpa using h⟩
  ·rw[if_neg hk]
   refine⟨?_,fun g h=>?_⟩
   ·rw[mN0]
    exact mL0 _ i1
   ·rw[mN0] at h ⊢
    rcases mK0.mp h with e |e
    ·exact mK0.mpr (.inl e)
    ·exact mL0 _ (i2 g e)
theorem a2W (f:Str)(v:V):∀fs:List (Str×V),(a4k f v fs).length<=fs.length+1
 |[]=>by simp[a4k]
 | (k,x)::r=>by
  have ih:=a2W f v r;rw[show a4k f v ((k,x)::r)=(if k=f then(k,v)::r else(k,x)::a4k f v r) from rfl]
  by_cases hk:k=f
  ·rw[if_pos hk,List.length_cons,List.length_cons];omega
  ·rw[if_neg hk,List.length_cons,List.length_cons];omega
theorem a6e.some_of {v:V}{o:Option Value}(r:a6e (some v) o):∃u,o=some u/\a0Z v u:=by
 cases o with
 |none=>exact(show False from r).elim
 |some u=>exact⟨u,rfl,r⟩
theorem a6e.none_of {o:Option Value}(r:a6e none o):o=none:=by
 cases o with
 |none=>rfl
 |some u=>exact(show False from r).elim
theorem a8z {v:V}{u:Value}(r:a0Z v u):PySem.W.handedIn u=true:=by
 cases v with
 |non=>cases(show u=Value.none from r);rfl
 |bl b=>cases(show u=Value.bool b from r);rfl
 |int i=>obtain⟨t,e⟩:=(show ∃t,u=Value.int i t from r);cases e;rfl
 |str x=>obtain⟨t,e⟩:=(show ∃t,u=Value.str x t from r);cases e;rfl
 |byt b=>obtain⟨t,e⟩:=(show ∃t,u=Value.bytes b t from r);cases e;rfl
 |flt b=>obtain⟨t,e⟩:=(show ∃t,u=Value.float b t from r);cases e;rfl
 |ref a=>cases(show u=Value.ref a from r);rfl
 |ty n=>cases(show u=Value.type n from r);rfl
section
variable {P:Program}{w:World}{H H':Hp}{h h':Heap}{a C dx:Addr}{fs fs':List (Str×V)}
theorem a4U (hok:HOk P w H h)(e:H a=some (.ins C dx fs)):∃mA,b3b h a dx C mA/\(∀f,a6e (fs.lookup f) (mA f))/\PySem.Within mA (fs.map (·.1))/\fs.length<=1000/\H dx=some (.own a):=by
 obtain⟨d,z,ne,ob,mA,n,r,q⟩:=(show a1l P w H h a (.ins C dx fs) from hok a _ e);exact⟨mA,⟨ob,n,ne⟩,r,q,z,d⟩
end
structure Cls (K:Fg0) (C:Addr):Prop where
 pg:PySem.W.plainGet K C Str.empty=true
 hd:PySem.W.hasDictIn K C=true
 po:PySem.W.plainOver K C=true
 sa:PySem.W.findIn K (.ref C) "__setattr__"=some (some (.builtin "object.__setattr__"))
theorem Cls.get {K:Fg0}{C:Addr}(c:Cls K C)(f:Str):PySem.W.plainGet K C f=true:=c.pg
def a3p (K:Fg0)(C:Addr)(f:Str):Prop:=PySem.W.findIn K (.ref C) f=some none
theorem a3p.taker {K:Fg0}{C:Addr}{f:Str}(n:a3p K C f):PySem.W.takerIn K C f=some none:=by
 unfold PySem.W.takerIn;rw[show PySem.W.findIn K (.ref C) f=some none from n]
 rfl
structure b2l (K:Fg0) (C:Addr) (m:Str) (f:Addr):Prop where
 at_:PySem.W.findIn K (.ref C) m=some (some (.ref f))
 fn:PySem.W.isFn K (.ref f)=true
 kp:PySem.W.keepIn K (.ref f)=true
section
variable {X:Cx}{pins:List (Addr×Obj)}{σ:St}{H:Hp}{s:Shared}{a C dx:Addr}{fs:List (Str×V)}{f:Str}{v:V}{A:Around}{E:Vs0}
theorem a7U {b:Bool}{Q:Vs0}(I:Inv X pins σ H s)(e:H a=some (.ins C dx fs))(c:Cls X.K C)(n:a3p X.K C f)(l:fs.lookup f=some v)
  (h:∀u s',Inv X pins σ H s'->a0Z v u->Q u s'):wpAny (model X.prog X.w) A (getAttr (.ref a) f b) Q E s:=by
 obtain⟨mA,O,r,_,_,_⟩:=a4U I.hok e;obtain⟨u,hu,ru⟩:=a6e.some_of (v:=v) (o:=mA f) (by rw[<-l];exact r f);exact b1W I.kIn O (c.get f) c.hd n hu (a8z ru) (h u _ (I.tok _) ru)
theorem a3n {m:Str}{g:Addr}{pl:Sem Bool}{Q:Value×List Value->Shared->Prop}(I:Inv X pins σ H s)(e:H a=some (.ins C dx fs))(c:Cls X.K C)(k:b2l X.K C m g)(l:fs.lookup m=none)
  (h:Q (.ref g,[.ref a]) s):wpAny (model X.prog X.w) A (getMethod (.ref a) m pl) Q E s:=by
 obtain⟨mA,O,r,_,_,_⟩:=a4U I.hok e;have hn:mA m=none:=a6e.none_of (by rw[<-l];exact r m);exact b1b I.kIn O (c.get m) k.at_ k.fn hn h
theorem a7I {y:V}{u:Value}{Q:Unit->Shared->Prop}(I:Inv X pins σ H s)(e:H a=some (.ins C dx fs))(c:Cls X.K C)(n:a3p X.K C f)(hl:fs.length<1000)(ry:a0Z y u)
  (h:∀s',Inv X pins σ (upd H a (.ins C dx (a4k f y fs))) s'->Q () s'):wpAny (model X.prog X.w) A (setAttr (.ref a) f u) Q E s:=by
 obtain⟨mA,O,r,wi,_,ho⟩:=a4U I.hok e;have hz:(fs.map (·.1)).length<=sizeLine:=by rw[lM0,sizeLine_eq];omega
 refine b2j I.kIn O c.sa c.po n.taker c.hd wi hz fun h' O' sb=>h _ ?_;have hd:∃o,h'.get? dx=some o:=let ⟨o,_,_,e',_⟩:=O'.ns;⟨o,e'⟩
 refine I.write (x:=a) (e:=dx) (by rw[e];exact True.intro) (.inr ho) (fun b q hb z=>(sb.2 b hb).trans z) hd ?_;refine⟨by rw[a0g O.ne];exact ho,?_,O.ne,O'.obj,_,O'.ns,fun g=>?_,fun g hg=>?_⟩
 ·have:=a2W f y fs;omega
 ·show a6e ((a4k f y fs).lookup g) (if g=f then some u else mA g)
  rw[a1u]
  by_cases q:g=f
  ·rw[if_pos q,if_pos q];exact ry
  ·rw[if_neg q,if_neg q];exact r g
 ·by_cases q:g=f
  ·rw[q];exact(a3F f y fs).1
  ·refine(a3F f y fs).2 g (wi g fun z=>hg ?_)
   show(if g=f then some u else mA g)=none
   rw[if_neg q];exact z
theorem Inv.made (I:Inv X pins σ H s):Inv X pins σ (upd (upd H s.heap.objs.size (.own (s.heap.objs.size+1))) (s.heap.objs.size+1) (.ins C s.heap.objs.size []))
  { s with heap:=(s.heap.push PySem.W.emptyDict).push (PySem.W.instObj C s.heap.objs.size) }:=by
 have e1:(s.heap.push PySem.W.emptyDict).get? s.heap.objs.size=some PySem.W.emptyDict:=hS0 s.heap rfl;have e2:((s.heap.push PySem.W.emptyDict).push (PySem.W.instObj C s.heap.objs.size)).get? (s.heap.objs.size+1)=some (PySem.W.instObj C s.heap.objs.size):=by
  have:=hS0 (s.heap.push PySem.W.emptyDict) (o:=PySem.W.instObj C s.heap.objs.size) rfl
  rwa [Heap.size_push] at this
 have e3:(s.heap.push PySem.W.emptyDict).Ns s.heap.objs.size (fun _=>none):=⟨PySem.W.emptyDict,#[],_,e1,rfl,(fun e he=>absurd he (by simp)),fun _=>rfl⟩;have I1:=I.laid (a:=s.heap.objs.size) (o:=.own (s.heap.objs.size+1)) (h':=s.heap.push PySem.W.emptyDict) (t':=s.toks) (fun b u q=>hP0 _ q) (nR0 _) ⟨_,e1⟩;refine I1.laid (a:=s.heap.objs.size+1) (o:=.ins C s.heap.objs.size []) (t':=s.toks) (fun b u q=>hP0 _ q) (Nat.le_of_eq (Heap.size_push _ _)) ?_;have ne:s.heap.objs.size≠s.heap.objs.size+1:=nL0 (Nat.lt_succ_self _);refine⟨by rw[a0g ne,a0b],zL0 _,ne,e2,fun _=>none,(Heap.Ns1.of_empty e3).at fun o q=>hP0 _ q,fun _=>True.intro,fun y hy=>absurd rfl hy⟩
theorem b2W {prog:Program}{w:World}{env:Env}{e:Expr}{f:Str}{pos:Pos}{s:Shared}{Q:Vs0}(hb:attributeBase e f env (eval e env)=eval e env)
  (h:wpAny (model prog w) A (eval e env) (fun o s₁=>wpAny (model prog w) A (getAttr o f true) Q E s₁) E s):wpAny (model prog w) A (eval (.Attribute e f pos) env) Q E s:=
 Attribute_any_ h (by rw[arm_eval_Attribute,hb])
end
def b6d (K:Fg0)(ta:TE)(f:Str):TE:=fun σ H Q=>ta σ H fun x H1=>∃a C dx fs v,x=.ref a/\H1 a=some (.ins C dx fs)/\Cls K C/\a3p K C f/\fs.lookup f=some v/\Q v H1
def sFld (K:Fg0)(ta tv:TE)(f:Str):TS:=fun D σ H=>tv σ H fun y H1=>ta σ H1 fun x H2=>∃a C dx fs,x=.ref a/\H2 a=some (.ins C dx fs)/\Cls K C/\a3p K C f/\fs.length<1000 ∧
 D.nx σ (upd H2 a (.ins C dx (a4k f y fs)))
section
variable {X:Cx}{o e value:Expr}{f:Str}{pos pos' tpos:Pos}{ta tv:TE}
theorem a1s (he:PE X e ta)(hb:attributeBase e f X.env (eval e X.env)=eval e X.env):PE X (.Attribute e f pos) (b6d X.K ta f):=by
 intro pins s σ H Q I h;refine b2W hb (thn (he pins s σ H _ I h) fun u s1 ⟨x,H1,I1,rx,a,C,dx,fs,v,ex,ea,c,n,l,q⟩=>?_);subst ex;obtain rfl:u=Value.ref a:=rx;exact a7U I1 ea c n l fun u' s2 I2 ru=>⟨v,H1,I2,ru,q⟩
theorem b1k (ha:PE X o ta)(hv:PE X value tv)(hs:swapsWith value (some (.Attribute o f pos')) pos.line X.env=pure false):PS X (.Assign [.Attribute o f pos'] value pos) (sFld X.K ta tv f):=by
 intro pins s σ H D I h;refine plainObj_wpAny_Assign_Attribute (thn (hv pins s σ H _ I h) fun u s1 ⟨y,H1,I1,ry,q⟩=>thn (ha pins s1 σ H1 _ I1 q) fun ov s2 ⟨x,H2,I2,rx,a,C,dx,fs,ex,ea,c,n,l,q2⟩=>?_) hs;subst ex;obtain rfl:ov=Value.ref a:=rx;exact a7I I2 ea c n l ry fun s3 I3=>⟨σ,_,I3,q2⟩
theorem b2v {pl:Sem Bool}{m:Str}{apos:Pos}{args:List Expr}{pins:List (Addr×Obj)}{s:Shared}{σ:St}{H:Hp}{Q:Vs0}{te:TE}(he:PE X e te)(I:Inv X pins σ H s)
  (h:te σ H fun x H1=>∃a C dx fs g,x=.ref a/\H1 a=some (.ins C dx fs)/\Cls X.K C/\b2l X.K C m g/\fs.lookup m=none ∧
   ∀s1,Inv X pins σ H1 s1->wpAny (model X.prog X.w) X.A (callWith pos (.ref g) [.ref a] (backTo pos (starEach args X.env)) (backToKw pos (keywordEach [] X.env))) Q X.xe s1)
  (ht:eval (.Call (.Attribute e m apos) args [] pos) X.env=(do
   let ov <-eval e X.env
   standAt apos.atName
   let (f,first) <-holding [ov] (getMethod ov m pl)
   callWith pos f first (backTo pos (starEach args X.env)) (backToKw pos (keywordEach [] X.env)))) :
  wpAny (model X.prog X.w) X.A (eval (.Call (.Attribute e m apos) args [] pos) X.env) Q X.xe s:=by
 refine PySem.W.methodCall_KW (pl:=pl) (thn (he pins s σ H _ I h) fun u s1 ⟨x,H1,I1,rx,a,C,dx,fs,g,ex,ea,c,k,l,q⟩=>?_) ht;subst ex;obtain rfl:u=Value.ref a:=rx;exact a3n I1 ea c k l (q s1 I1)
end
section
variable {X:Cx}{pins:List (Addr×Obj)}{σ:St}{H:Hp}{s:Shared}{A:Around}{E:Vs0}{Q:Vs0}{c:Value}{b:Bool}
inductive a6v (K:Fg0) (H:Hp):V->Value->Prop where
 |non:a6v K H .non (.type "NoneType")
 |bl (x:Bool):a6v K H (.bl x) (.type "bool")
 |int (i:Int):a6v K H (.int i) (.type "int")
 |str (x:Str):a6v K H (.str x) (.type "str")
 |flt (x:UInt64):a6v K H (.flt x) (.type "float")
 |lst {a:Addr} {xs:List V} (e:H a=some (.lst xs)):a6v K H (.ref a) (.type "list")
 |frz {a:Addr} {o:Obj} {xs:List V} (e:H a=some (.frz o (.lst xs))):a6v K H (.ref a) (.type "list")
 |tup {a:Addr} {xs:List V} (e:H a=some (.tup xs)):a6v K H (.ref a) (.type "tuple")
 |dK {a:Addr} {kvs:List (Key×V)} (e:H a=some (.dK kvs)):a6v K H (.ref a) (.type "dict")
 |dT {a:Addr} {kvs:List (List Key×V)} (e:H a=some (.dT kvs)):a6v K H (.ref a) (.type "dict")
 |ins {a C dx:Addr} {fs:List (Str×V)} (e:H a=some (.ins C dx fs)) (cl:Cls K C) (ha:PySem.W.findIn K (.ref C) "__class__"=some (some (.builtin "object.__class__")))
   (hn:PySem.W.specialIn K (.builtin "object.__class__") "__get__"=some (some (.builtin "getset_descriptor.__get__"))) (htk:PySem.W.takesIn K (.builtin "object.__class__")=some true)
   (hm:PySem.W.mroIn K C (.type "object")=some true):a6v K H (.ref a) (.ref C)
theorem a9O {x:V}{u t:Value}(I:Inv X pins σ H s)(rx:a0Z x u)(ty:a6v X.K H x t)(e:PySem.W.kitOne X.K t c=some b)(h:∀tk,Q (.bool b) { s with toks:=tk }) :
  wpAny (model X.prog X.w) A (call (.builtin "isinstance") [u,c]) Q E s:=by
 cases ty with
 |non=>cases(show u=Value.none from rx);exact PySem.W.kia_one PySem.W.kitx_none I.kIn True.intro e (fun z=>nomatch z) h
 |bl y=>cases(show u=Value.bool y from rx);exact PySem.W.kia_one PySem.W.kitx_bool I.kIn True.intro e (fun z=>nomatch z) h
 |int i=>obtain⟨t,q⟩:=(show ∃t,u=Value.int i t from rx);cases q;exact PySem.W.kia_one PySem.W.kitx_int I.kIn True.intro e (fun z=>nomatch z) h
 |str y=>obtain⟨t,q⟩:=(show ∃t,u=Value.str y t from rx);cases q;exact PySem.W.kia_one PySem.W.kitx_str I.kIn True.intro e (fun z=>nomatch z) h
 |flt y=>obtain⟨t,q⟩:=(show ∃t,u=Value.float y t from rx);cases q;exact PySem.W.kia_one PySem.W.kitx_float I.kIn True.intro e (fun z=>nomatch z) h
 |@lst a xs ea=>
  cases(show u=Value.ref a from rx)
  obtain⟨_,_,n,_,h1⟩:=(show a1l X.prog X.w H s.heap a (.lst xs) from I.hok a _ ea);exact PySem.W.kia_one PySem.W.kitx_list I.kIn ⟨_,h1,rfl⟩ e (fun z=>nomatch z) h
 |@frz a ob xs ea=>
  cases(show u=Value.ref a from rx)
  obtain⟨_,_,_,n,_,h1⟩:=(show a1l X.prog X.w H s.heap a (.frz ob (.lst xs)) from I.hok a _ ea);exact PySem.W.kia_one PySem.W.kitx_list I.kIn ⟨_,h1,rfl⟩ e (fun z=>nomatch z) h
 |@tup a xs ea=>
  cases(show u=Value.ref a from rx)
  obtain⟨_,_,_,p⟩:=(show a1l X.prog X.w H s.heap a (.tup xs) from I.hok a _ ea);obtain⟨o,h1,h2,_⟩:=p;exact PySem.W.kia_one PySem.W.kitx_tuple I.kIn ⟨o,h1,h2⟩ e (fun z=>nomatch z) h
 |@dK a kvs ea=>
  cases(show u=Value.ref a from rx)
  obtain⟨_,_,vs,_,p⟩:=(show a1l X.prog X.w H s.heap a (.dK kvs) from I.hok a _ ea);obtain⟨o,es,ep,h1,h2,_⟩:=p;exact PySem.W.kia_one PySem.W.kitx_dict I.kIn ⟨o,h1,h2.1⟩ e (fun z=>nomatch z) h
 |@dT a kvs ea=>
  cases(show u=Value.ref a from rx)
  obtain⟨_,_,xs,_,o,es,ep,h1,h2,_⟩:=(show a1l X.prog X.w H s.heap a (.dT kvs) from I.hok a _ ea);exact PySem.W.kia_one PySem.W.kitx_dict I.kIn ⟨o,h1,h2.1⟩ e (fun z=>nomatch z) h
 |@ins a C dx fs ea cl ha hn htk hm=>
  cases(show u=Value.ref a from rx)
  obtain⟨mA,O,_⟩:=a4U I.hok ea;obtain⟨od,J,_⟩:=O.look;exact PySem.W.kia_one (PySem.W.kitx_own (cl.get _) cl.hd ha hn htk hm) I.kIn J e (fun z=>nomatch z) h
end
structure a1r (k:Nat) (A:Around):Prop where
 hd:A.handled=none
 dp:A.depth+3 * k+5<recursionLimit
 un:A.units+16 * k+200<cLine
theorem a1r.mono {j k:Nat}{A:Around}(r:a1r k A)(h:j<=k):a1r j A:=⟨r.hd,by have:=r.dp;omega,by have:=r.un;omega⟩
theorem a1r.deeper {k:Nat}{A:Around}(r:a1r (k+1) A)(env:Env):a1r k (A.deeper env):=
 ⟨r.hd,by have:=r.dp;show A.depth+1+3 * k+5<_;omega,by have:=r.un;show A.units+3+16 * k+200<_;omega⟩
theorem a1r.in1 {k:Nat}{A:Around}(r:a1r (k+1) A):a1r k A.in1:=
 ⟨r.hd,by have:=r.dp;show A.depth+3 * k+5<_;omega,by have:=r.un;show A.units+1+16 * k+200<_;omega⟩
theorem a7Q {A:Around}{C:Addr}{us:List Value}{kw:List (Str×Value)}:(A.under (.builtin "type.__call__" ⟨.ref C::us,kw⟩)).depth=A.depth+1:=by
 first |rfl |simp[Around.under,Code.weight,Code.isCreation,Code.isGuard,Code.isCaller,Code.frames,Code.isFrame,guardIds]
theorem a7Y {A:Around}{C:Addr}{us:List Value}{kw:List (Str×Value)}:(A.under (.builtin "type.__call__" ⟨.ref C::us,kw⟩)).units=A.units+1:=by
 first |rfl |simp[Around.under,Code.cUnits,Code.frames,Code.isFrame]
theorem a1r.make {k:Nat}{A:Around}(r:a1r (k+1) A)(C:Addr)(us:List Value)(kw:List (Str×Value)):a1r k (A.under (.builtin "type.__call__" ⟨.ref C::us,kw⟩)):=
 ⟨r.hd,by have:=r.dp;rw[a7Q];omega,by have:=r.un;rw[a7Y];omega⟩
theorem a1r.depth {k:Nat}{A:Around}(r:a1r k A):A.depth<recursionLimit:=by have:=r.dp;omega
theorem a1r.units {k:Nat}{A:Around}(r:a1r k A):A.units+64<cLine:=by have:=r.un;omega
theorem a1r.units0 {k:Nat}{A:Around}(r:a1r k A):A.units<cLine:=by have:=r.un;omega
def b6e:TA:=fun _ H Q=>Q [] H
def b5t (ta:TE)(tr:TA):TA:=fun σ H Q=>ta σ H fun x H1=>tr σ H1 fun xs H2=>Q (x::xs) H2
section
variable {X:Cx}{e:Expr}{es:List Expr}{te:TE}{t:TA}{pos:Pos}
theorem a0c:PA X [] b6e:=fun _ _ _ _ H Q I h=>Calls.spliced_nil ⟨[],H,I,.nil,h⟩
theorem a0a (ha:PE X e te)(hr:PA X es t)(hs:starEach (e::es) X.env=(false,eval e X.env)::starEach es X.env:=by rfl):PA X (e::es) (b5t te t):=by
 intro pos pins s σ H Q I h;rw[hs];show wpAny _ _ (spliced ((false,eval e X.env)::backTo pos (starEach es X.env))) _ _ s;refine Calls.spliced_cons (thn (ha pins s σ H _ I h) fun u s1 ⟨x,H1,I1,r1,q1⟩=>?_);exact thn (hr pos pins s1 σ H1 _ I1 q1) fun us s2 ⟨xs,H2,I2,r2,q2⟩=>⟨x::xs,H2,I2,.cons r1 r2,q2⟩
def tTup (t:TA):TE:=fun σ H Q=>t σ H fun xs H1=>xs.length<=sizeLine/\∀p,H1 p=none->Q (.ref p) (upd H1 p (.tup xs))
def tLst (t:TA):TE:=fun σ H Q=>t σ H fun xs H1=>xs.length<=sizeLine/\∀p,H1 p=none->Q (.ref p) (upd H1 p (.lst xs))
theorem a0M {x1}(h:PA X es t):PE X (.Tuple es x1 pos) (tTup t):=by
 intro pins s σ H Q I hq;refine wpAny_Tuple_spliced (thn (h pos pins s σ H _ I hq) fun us s1 ⟨xs,H1,I1,r,z,q⟩=>⟨by rw[<-r.length];exact z,?_⟩);have hf:H1 s1.heap.objs.size=none:=I1.hok.fresh (nR0 _);refine⟨.ref s1.heap.objs.size,upd H1 s1.heap.objs.size (.tup xs),I1.laid (t':=s1.toks) (fun b u e=>hP0 _ e) (nR0 _) ?_,rfl,q _ hf⟩;exact⟨z,us,r,⟨_,hS0 _ rfl,rfl,_,rfl⟩⟩
theorem a1R (h:PA X es t):PE X (.List es pos) (tLst t):=by
 intro pins s σ H Q I hq;refine wpAny_List_spliced (thn (h pos pins s σ H _ I hq) fun us s1 ⟨xs,H1,I1,r,z,q⟩=>⟨by rw[<-r.length];exact z,?_⟩);have hf:H1 s1.heap.objs.size=none:=I1.hok.fresh (nR0 _);refine⟨.ref s1.heap.objs.size,upd H1 s1.heap.objs.size (.lst xs),I1.laid (t':=s1.toks) (fun b u e=>hP0 _ e) (nR0 _) ?_,rfl,q _ hf⟩;exact⟨z,us,0,r,hS0 _ rfl⟩
end
abbrev Sp:=List V->Hp->VK->XK->Prop
abbrev CXT:=List Env->Hp->Shared->XK->Value->Shared->Prop
structure a7n (P:Program) (w:World) (K:Fg0) (mg:Str->Option Value) (base:Heap) (A:Around) (outer:List Env) (s:Shared) (H:Hp):Prop where
 frames:A.frames=some outer
 mod:Mod K mg base
 bs:∀b o,base.get? b=some o->s.heap.get? b=some o/\H b=none
 bsz:base.objs.size<=s.heap.objs.size
 funs:s.heap.FunFrames base outer
 frf:∀b∈frs outer,H b=none
 hok:HOk P w H s.heap
 bare:AllBare s.gens
def CE (outer:List Env)(P:Program)(w:World)(H:Hp)(s:Shared)(Q:VK)(u:Value)(s':Shared):Prop:=
 ∃v H',s'.os=s.os/\AllBare s'.gens/\Un (frs outer) [] H H' s.heap s'.heap/\HOk P w H' s'.heap/\a0Z v u/\Q v H'
def CR (CX:CXT)(outer:List Env)(P:Program)(w:World)(H:Hp)(s:Shared)(Q:VK)(E:XK)(r:Result)(s':Shared):Prop:=
 match r with
 | .ok (.ret u)=>CE outer P w H s Q u s'
 | .ok _=>False
 | .error e=>CX outer H s E e s'
structure a0F (P:Program) (w:World) (K:Fg0) (mg:Str->Option Value) (base:Heap) (CX:CXT) (k:Nat) (f:Addr) (fd:FuncData) (ps:List Str) (sp:Sp):Prop where
 len:∀vs H Q E,sp vs H Q E->vs.length=ps.length
 run:∀(A:Around) (outer:List Env) (s:Shared) (H:Hp) (args:Args) (us:List Value) (vs:List V) (Q:VK) (E:XK),a1r k A->a7n P w K mg base A outer s H->BindsTo s fd args (ps.zip us)->a1c vs us->sp vs H Q E →
  codeAny (model P w) A (.call (.ref f) args) (CR CX outer P w H s Q E) s
theorem a7n.make {P:Program}{w:World}{K:Fg0}{mg:Str->Option Value}{base:Heap}{A:Around}{outer:List Env}{s:Shared}{H:Hp}(e:a7n P w K mg base A outer s H)(C:Addr)(us:List Value)(kw:List (Str×Value)) :
  a7n P w K mg base (A.under (.builtin "type.__call__" ⟨.ref C::us,kw⟩)) outer s H:=⟨by first |exact e.frames | (simpa[Around.under,Code.envs,Code.isFrame,pushEnvs] using e.frames),e.mod,e.bs,e.bsz,e.funs,e.frf,e.hok,e.bare⟩
theorem a7n.in1 {P:Program}{w:World}{K:Fg0}{mg:Str->Option Value}{base:Heap}{A:Around}{outer:List Env}{s:Shared}{H:Hp}(e:a7n P w K mg base A outer s H) :
  a7n P w K mg base A.in1 outer s H:=⟨e.frames,e.mod,e.bs,e.bsz,e.funs,e.frf,e.hok,e.bare⟩
section
variable {X:Cx}{pins:List (Addr×Obj)}{σ:St}{H:Hp}{s s':Shared}
theorem Inv.env0 (I:Inv X pins σ H s):a7n X.prog X.w X.K X.mg X.base X.A X.stack s H:=
 ⟨I.ok.frames,I.ok.mod,I.bs,Nat.le_trans I.ok.bsz I.sz,I.stack,I.stkFree,I.hok,I.bare⟩
theorem Inv.after {Q:VK}{u:Value}(I:Inv X pins σ H s)(h:CE X.stack X.prog X.w H s Q u s'):EP X pins σ Q u s':=by
 obtain⟨v,H',os,bare,un,hok,r,q⟩:=h;obtain⟨hh,g,d,t,os'⟩:=s';obtain rfl:os'=s.os:=os;exact⟨v,H',I.call (h':=hh) (g':=g) (d':=d) (t':=t) (ch:=[]) un hok bare (fun b z=>absurd z (by simp)),r,q⟩
end
def b5g (sp:Sp)(dvs:List V)(E:XK)(t:TA):TE:=fun σ H Q=>t σ H fun vs H1=>sp (vs++dvs) H1 Q E
def b3o (C:Addr)(m:Str)(sp:Sp)(dvs:List V)(E:XK)(ta:TE)(t:TA):TE:=fun σ H Q=>ta σ H fun x H1=>∃a dx fs,x=.ref a/\H1 a=some (.ins C dx fs)/\fs.lookup m=none ∧
 t σ H1 fun vs H2=>sp (x::(vs++dvs)) H2 Q E
def b5a (C:Addr)(sp:Sp)(dvs:List V)(E:XK)(t:TA):TE:=fun σ H Q=>t σ H fun vs H1=>∀x dx,H1 x=none->H1 dx=none->dx≠x →
 sp (.ref x::(vs++dvs)) (upd (upd H1 dx (.own x)) x (.ins C dx [])) (fun v H2=>v=.non/\Q (.ref x) H2) E
def a2i (K:Fg0)(fd:FuncData)(ps:List Str)(ds:List Value):Prop:=
 ∀(s:Shared) (us:List Value),K.In s.heap->(us++ds).length=ps.length->BindsTo s fd ⟨us,[]⟩ (ps.zip (us++ds))
theorem a2i.all {K:Fg0}{fd:FuncData}{ps:List Str}(h:∀us:List Value,us.length=ps.length->bindArgs fd ⟨us,[]⟩=pure (ps.zip us)):a2i K fd ps []:=fun s us _ hl=>by
 rw[List.append_nil] at hl ⊢;exact .of_eq (h us hl)
def a3P (CX:CXT)(X:Cx)(E:XK):Prop:=∀(pins:List (Addr×Obj)) (σ:St) (H:Hp) (s:Shared) (e:Value) (s':Shared),Inv X pins σ H s->CX X.stack H s E e s'->X.xe e s'
section
variable {X:Cx}{CX:CXT}{k:Nat}{f C:Addr}{fd:FuncData}{ps:List Str}{sp:Sp}{dvs:List V}{ds:List Value}{E:XK}{x m:Str}{p pos apos:Pos}{e o:Expr}{es:List Expr}{ta:TE}{t:TA}
theorem a9X {pins:List (Addr×Obj)}{σ:St}{H:Hp}{s:Shared}{Q:VK}{us:List Value}{vs:List V}(F:a0F X.prog X.w X.K X.mg X.base CX k f fd ps sp)(hr:a1r k X.A)(hb:a2i X.K fd ps ds)(hd:a1c dvs ds)(hx:a3P CX X E)
  (I:Inv X pins σ H s) (r:a1c vs us) (h:sp (vs++dvs) H Q E):wpAny (model X.prog X.w) X.A (call (.ref f) us) (EP X pins σ Q) X.xe s:=by
 have r2:a1c (vs++dvs) (us++ds):=r.append hd;have hl:(us++ds).length=ps.length:=by rw[<-r2.length];exact F.len _ _ _ _ h
 refine wpAny_call (codeAny_mono (F.run X.A X.stack s H ⟨us,[]⟩ (us++ds) (vs++dvs) Q E hr I.env0 (hb s us I.kIn hl) r2 h) fun r s' hq=>?_);cases r with
 |error e=>exact hx pins σ H s e s' I hq
 |ok fl=>
  cases fl with
  |ret u=>exact I.after hq
  |next=>exact False.elim hq
  |brk=>exact False.elim hq
  |cont=>exact False.elim hq
theorem a0i (F:a0F X.prog X.w X.K X.mg X.base CX k f fd ps sp)(hr:a1r k X.A)(hg:Gl X x)(hm:X.mg x=some (.ref f))(hk:PySem.W.keepIn X.K (.ref f)=true)(hb:a2i X.K fd ps ds)(hd:a1c dvs ds)(hx:a3P CX X E)
  (ha:PA X (e::es) t) (hdb:(x==("__debug__":Str))=false:=by decide) (he:starEach (e::es) X.env=(false,eval e X.env)::starEach es X.env:=by rfl) (hpl:(backTo pos (starEach es X.env)).any (·.1)=false:=by rfl) :
  PE X (.Call (.Name x p) (e::es) [] pos) (b5g sp dvs E t):=by
 intro pins s σ H Q I h;refine wpAny_Call_Name_kw (a5k I hg hm ?_ hdb);refine PySem.W.callWith_K (h₀:=X.base) I.ok.mod.kin hk (thn (ha pos pins s σ H _ I h) fun us s1 ⟨vs,H1,I1,r,q⟩=>⟨I1.kIn,?_⟩) he hpl;exact a9X F hr hb hd hx I1 r q
theorem a2I {pl:Sem Bool}(he:PE X o ta)(c:Cls X.K C)(hm:b2l X.K C m f)(F:a0F X.prog X.w X.K X.mg X.base CX k f fd ps sp)(hr:a1r k X.A)(hb:a2i X.K fd ps ds)(hd:a1c dvs ds)(hx:a3P CX X E)(ha:PA X (e::es) t)
  (hst:starEach (e::es) X.env=(false,eval e X.env)::starEach es X.env:=by rfl) (hpl:(backTo pos (starEach es X.env)).any (·.1)=false:=by rfl)
  (ht:eval (.Call (.Attribute o m apos) (e::es) [] pos) X.env=(do
   let ov <-eval o X.env
   standAt apos.atName
   let (f,first) <-holding [ov] (getMethod ov m pl)
   callWith pos f first (backTo pos (starEach (e::es) X.env)) (backToKw pos (keywordEach [] X.env))):=by rfl) :
  PE X (.Call (.Attribute o m apos) (e::es) [] pos) (b3o C m sp dvs E ta t):=by
 intro pins s σ H Q I h;refine PySem.W.methodCall_KW (pl:=pl) (thn (he pins s σ H _ I h) fun u s1 ⟨x,H1,I1,rx,a,dx,fs,ex,ea,l,q⟩=>?_) ht;subst ex;obtain rfl:u=Value.ref a:=rx;refine a3n I1 ea c hm l ?_;refine PySem.W.callWith_K (first:=[.ref a]) (h₀:=X.base) I.ok.mod.kin hm.kp (thn (ha pos pins s1 σ H1 _ I1 q) fun us s2 ⟨vs,H2,I2,r,q2⟩=>⟨I2.kIn,?_⟩) hst hpl;exact a9X (us:=.ref a::us) (vs:=.ref a::vs) F hr hb hd hx I2 (.cons rfl r) q2
theorem a4R {pl:Sem Bool}(he:PE X o ta)(c:Cls X.K C)(hm:b2l X.K C m f)(F:a0F X.prog X.w X.K X.mg X.base CX k f fd ps sp)(hr:a1r k X.A)(hb:a2i X.K fd ps ds)(hd:a1c dvs ds)(hx:a3P CX X E)
  (ht:eval (.Call (.Attribute o m apos) [] [] pos) X.env=(do
   let ov <-eval o X.env
   standAt apos.atName
   let (f,first) <-holding [ov] (getMethod ov m pl)
   callWith pos f first (backTo pos (starEach [] X.env)) (backToKw pos (keywordEach [] X.env))):=by rfl) :
  PE X (.Call (.Attribute o m apos) [] [] pos) (b3o C m sp dvs E ta b6e):=by
 intro pins s σ H Q I h;refine PySem.W.methodCall_KW (pl:=pl) (thn (he pins s σ H _ I h) fun u s1 ⟨x,H1,I1,rx,a,dx,fs,ex,ea,l,q⟩=>?_) ht;subst ex;obtain rfl:u=Value.ref a:=rx;refine a3n I1 ea c hm l ?_;exact PySem.W.callWith_K0 (first:=[.ref a]) I1.kIn hm.kp (a9X (us:=[.ref a]) (vs:=[.ref a]) F hr hb hd hx I1 (.cons rfl .nil) q)
structure Mk (K:Fg0) (C f:Addr):Prop where
 makes:PySem.W.makesIn K C=true
 init:PySem.W.findIn K (.ref C) "__init__"=some (some (.ref f))
 fn:PySem.W.isFn K (.ref f)=true
 kp:PySem.W.keepIn K (.ref C)=true
theorem b0g {pins:List (Addr×Obj)}{σ:St}{H:Hp}{s:Shared}{Q:VK}{us:List Value}{vs:List V}(M:Mk X.K C f)(F:a0F X.prog X.w X.K X.mg X.base CX k f fd ps sp)(hr:a1r (k+1) X.A)(hb:a2i X.K fd ps ds)(hd:a1c dvs ds)
  (hx:a3P CX X E) (I:Inv X pins σ H s) (r:a1c vs us)
  (h:∀x dx,H x=none->H dx=none->dx≠x->sp (.ref x::(vs++dvs)) (upd (upd H dx (.own x)) x (.ins C dx [])) (fun v H2=>v=.non/\Q (.ref x) H2) E) :
  wpAny (model X.prog X.w) X.A (call (.ref C) us) (EP X pins σ Q) X.xe s:=by
 have hq:=h (s.heap.objs.size+1) s.heap.objs.size (I.hok.fresh (Nat.le_succ _)) (I.hok.fresh (nR0 _)) (nL0 (Nat.lt_succ_self _));have I2:=Inv.made (C:=C) I;have r2:a1c (V.ref (s.heap.objs.size+1)::(vs++dvs)) (Value.ref (s.heap.objs.size+1)::(us++ds)):=.cons rfl (r.append hd);have hl:(Value.ref (s.heap.objs.size+1)::us++ds).length=ps.length:=by
  have e:=r2.length;rw[F.len _ _ _ _ hq] at e;exact e.symm
 refine wpAny_call (b0H (f:=f) I.kIn M.makes M.init (beq_iff_eq.mp M.fn) (codeAny_mono (F.run _ X.stack _ _ ⟨Value.ref (s.heap.objs.size+1)::us,[]⟩ (Value.ref (s.heap.objs.size+1)::(us++ds)) _ _ E (hr.make C us [])
  (I2.env0.make C us []) (hb _ (Value.ref (s.heap.objs.size+1)::us) I2.kIn hl) r2 hq) fun r s' hq'=>?_))
 cases r with
 |error e=>exact hx pins σ _ _ e s' I2 hq'
 |ok fl=>
  cases fl with
  |ret u=>
   obtain⟨v,H',I3,rv,ev,q3⟩:=I2.after hq';subst ev;exact⟨rv,⟨V.ref (s.heap.objs.size+1),H',I3,rfl,q3⟩⟩
  |next=>exact False.elim hq'
  |brk=>exact False.elim hq'
  |cont=>exact False.elim hq'
theorem b2y (M:Mk X.K C f)(F:a0F X.prog X.w X.K X.mg X.base CX k f fd ps sp)(hr:a1r (k+1) X.A)(hg:Gl X x)(hm:X.mg x=some (.ref C))(hb:a2i X.K fd ps ds)(hd:a1c dvs ds)(hx:a3P CX X E)
  (ha:PA X (e::es) t) (hdb:(x==("__debug__":Str))=false:=by decide) (he:starEach (e::es) X.env=(false,eval e X.env)::starEach es X.env:=by rfl) (hpl:(backTo pos (starEach es X.env)).any (·.1)=false:=by rfl) :
  PE X (.Call (.Name x p) (e::es) [] pos) (b5a C sp dvs E t):=by
 intro pins s σ H Q I h;refine wpAny_Call_Name_kw (a5k I hg hm ?_ hdb);refine PySem.W.callWith_K (h₀:=X.base) I.ok.mod.kin M.kp (thn (ha pos pins s σ H _ I h) fun us s1 ⟨vs,H1,I1,r,q⟩=>⟨I1.kIn,?_⟩) he hpl;exact b0g M F hr hb hd hx I1 r q
end
structure a0o (N P:List Str) (sc:Scope):Prop where
 kind:sc.kind=.function
 co:sc.isCoroutine=false
 gen:sc.isGenerator=false
 nd:N.Nodup
 pre:N.take P.length=P
 par:∀x∈P,sc.names.lookup x=some .local\/sc.names.lookup x=some .cell
 nofree:∀y∈sc.names,y.2≠.free
theorem a5J {kindOf:Str->Option NameKind}{x:Str}:∀{binds:List (Str×Value)} {m:Str->Option Value},(∀v,(x,v)∉binds)->bindL kindOf binds m x=m x
 |[],_,_=>rfl
 | (n,v)::r,m,h=>by
  unfold bindL;rw[a5J fun w hw=>h w (mL0 _ hw)]
  split
  ·have:x≠n:=by rintro rfl;exact h v List.mem_cons_self
   simp[this]
  ·rfl
theorem a5P {kindOf:Str->Option NameKind}{x:Str}:∀{binds:List (Str×Value)} {m:Str->Option Value},(∀v,(x,v)∉binds)->bindC kindOf binds m x=m x
 |[],_,_=>rfl
 | (n,v)::r,m,h=>by
  unfold bindC;rw[a5P fun w hw=>h w (mL0 _ hw)]
  split
  ·rfl
  ·have:x≠n:=by rintro rfl;exact h v List.mem_cons_self
   simp[this]
theorem a5C {kindOf:Str->Option NameKind}{x:Str}{v:Value}:∀{P:List Str} {vs:List Value} {i:Nat} {m:Str->Option Value},P.Nodup->P[i]? =some x->vs[i]? =some v->kindOf x=some .local →
  bindL kindOf (P.zip vs) m x=some v
 |[],_,_,_,_,h,_,_=>by simp at h
 |_::_,[],_,_,_,_,h,_=>by simp at h
 |p::P,w::vs,0,m,nd,h1,h2,hk=>by
  simp at h1 h2;subst h1;subst h2;show bindL kindOf ((p,w)::P.zip vs) m p=_;unfold bindL;rw[a5J fun v hv=>(List.nodup_cons.mp nd).1 (List.of_mem_zip hv).1,if_pos hk];simp
 |p::P,w::vs,i+1,m,nd,h1,h2,hk=>by
  show bindL kindOf ((p,w)::P.zip vs) m x=_;unfold bindL;exact a5C (i:=i) (List.nodup_cons.mp nd).2 (by simpa using h1) (by simpa using h2) hk
theorem a5S {kindOf:Str->Option NameKind}{x:Str}{v:Value}:∀{P:List Str} {vs:List Value} {i:Nat} {m:Str->Option Value},P.Nodup->P[i]? =some x->vs[i]? =some v->kindOf x≠some .local →
  bindC kindOf (P.zip vs) m x=some v
 |[],_,_,_,_,h,_,_=>by simp at h
 |_::_,[],_,_,_,_,h,_=>by simp at h
 |p::P,w::vs,0,m,nd,h1,h2,hk=>by
  simp at h1 h2;subst h1;subst h2;show bindC kindOf ((p,w)::P.zip vs) m p=_;unfold bindC;rw[a5P fun v hv=>(List.nodup_cons.mp nd).1 (List.of_mem_zip hv).1,if_neg hk];simp
 |p::P,w::vs,i+1,m,nd,h1,h2,hk=>by
  show bindC kindOf ((p,w)::P.zip vs) m x=_;unfold bindC;exact a5S (i:=i) (List.nodup_cons.mp nd).2 (by simpa using h1) (by simpa using h2) hk
def a2M (N:List Str)(vs:List V):St:=vs.map some++List.replicate (N.length-vs.length) none
def a5U (CX:CXT)(P:Program)(w:World)(K:Fg0)(mg:Str->Option Value)(base:Heap)(N:List Str)(qual:Str)(scope:Scope)(f:Addr)(cd:Value)(A:Around)(outer:List Env)(s:Shared)(H:Hp)(E:XK):Cx where
 prog:=P
 w:=w
 K:=K
 mg:=mg
 base:=base
 A:=A.deeper (envOfC qual scope s.heap.objs.size f cd)
 N:=N
 s₀:=s
 H₀:=H
 env:=envOfC qual scope s.heap.objs.size f cd
 outer:=outer
 stack:=envOfC qual scope s.heap.objs.size f cd::outer
 ex:=[]
 calm:=true
 fn:=fun _=>true
 pn:=[]
 xe:=fun e s'=>wpAny (model P w) (A.deeper (envOfC qual scope s.heap.objs.size f cd)) (leaving (envOfC qual scope s.heap.objs.size f cd) e) (fun _ s''=>CX outer H s E e s'') (fun e' s''=>CX outer H s E e' s'') s'
theorem a7b {sc:Scope}{n:Nat}{x:Str}(h:sc.names.lookup x=some .cell):∃c,(cellsFrom n sc.names []).lookup x=some c:=by
 have q:=PySem.W.cellsFrom_some sc.names n [] (.inl h);exact Option.isSome_iff_exists.mp q
theorem a4e {CX:CXT}{P:Program}{w:World}{K:Fg0}{mg:Str->Option Value}{base:Heap}{N ps:List Str}{qual:Str}{scope:Scope}{f:Addr}{cd:Value}{A:Around}{outer:List Env}{s s1:Shared}{H:Hp}{E:XK}{us:List Value}{vs:List V}
  (S:a0o N ps scope) (hd:A.handled=none) (e0:a7n P w K mg base A outer s H) (hl:vs.length=ps.length) (r:a1c vs us)
  (x:InCallC s s.heap.objs.size (bindL (envOfC qual scope s.heap.objs.size f cd).kindOf (ps.zip us) fun _=>none) (cellsFrom (s.heap.objs.size+1) scope.names []) (bindC (envOfC qual scope s.heap.objs.size f cd).kindOf (ps.zip us) fun _=>none) s1) :
  Inv (a5U CX P w K mg base N qual scope f cd A outer s H E) [] (a2M N vs) H s1:=by
 have hpl:ps.length<=N.length:=by have:=congrArg List.length S.pre;rw[List.length_take] at this;omega
 obtain⟨h1,tk,rfl,hk⟩:=x.done;have noA:∀b:Addr,b∉(a5U CX P w K mg base N qual scope f cd A outer s H E).ex:=fun b z=>absurd (show b∈([]:List Addr) from z) (by simp);refine⟨⟨e0.mod,S.kind,rfl,rfl,nR0 _,fun y z c h1 h2=>?_,fun y hy=>?_,fun y c _ h=>?_,fun _=>hd,Around.frames_deeper e0.frames,.inr ⟨rfl,rfl⟩,fun b z=>absurd z (noA b),e0.bs,e0.bsz,fun b _ _=>noA b,fun b z=>absurd z (noA b),e0.funs,e0.frf⟩,
  rfl,e0.bare,Un.kept hk,⟨_,x.toInCall.ns,fun i y v h1 h2 h3=>?_⟩,fun y c h=>⟨_,x.cell y c h⟩,e0.hok.fresh (nR0 _),fun y c h=>?_,fun p hp=>absurd (show p∈([]:List (Addr×Obj)) from hp) (by simp),e0.hok.kept hk,?_⟩
 ·exact name_of_addr x.apart (PySem.mem_of_lookup h1) (PySem.mem_of_lookup h2)
 ·have hy:scope.names.lookup y=some .cell\/scope.names.lookup y=some .free:=hy
  rcases hy with hy |hy
  ·exact a7b hy
  ·exact absurd rfl (S.nofree _ (PySem.mem_of_lookup hy))
 ·exact Nat.le_of_lt (x.above y c (PySem.mem_of_lookup h))
 ·have hi:i<vs.length:=by
   unfold a2M at h2
   by_cases hi:i<vs.length
   ·exact hi
   ·rw[gR0 (by simpa using hi)] at h2
    rw[List.getElem?_replicate] at h2
    split at h2<;>cases h2
  have ha:vs[i]? =some v:=by
   unfold a2M at h2;rw[gL0 (by simpa using hi),gM0] at h2;cases e:vs[i]? with
   |none=>rw[e] at h2;cases h2
   |some a=>rw[e] at h2;cases h2;rfl
  obtain⟨u,hu,rv⟩:=r.get ha;have hp:ps[i]? =some y:=by
   rw[<-S.pre,List.getElem?_take_of_lt (by omega)];exact h1
  have ndP:ps.Nodup:=by rw[<-S.pre];exact S.nd.sublist (List.take_sublist _ _)
  refine⟨u,rv,?_⟩;rcases S.par y (gI0 hp) with k |k
  ·exact .inl ⟨k,a5C ndP hp hu k⟩
  ·obtain⟨c,e⟩:=a7b (n:=s.heap.objs.size+1) k
   refine .inr ⟨.inl k,c,e,?_⟩;have q:=x.cell y c e;rw[a5S ndP hp hu (by show scope.names.lookup y≠_;rw[k];decide)] at q;exact q
 ·exact e0.hok.fresh (Nat.le_of_lt (x.above y c (PySem.mem_of_lookup h)))
 ·unfold a2M
  show _=N.length;rw[lA0,lM0,List.length_replicate]
  omega
theorem b2T {CX:CXT}{P:Program}{w:World}{K:Fg0}{mg:Str->Option Value}{base:Heap}{k:Nat}{f:Addr}{name qual:Str}{params:Arguments}{body:List Stmt}{scope:Scope}{dV kV doc pm cdv ct oc:Value}{an od:Option Addr}
  {osl:Array (Option Value)} {N ps:List Str} {sp:Sp} (lk:K.lookup f=some ⟨oc,od,.func (PySem.W.fnOf name qual params body scope dV kV doc pm an cdv ct),osl⟩) (hcd:PySem.W.codeIn K cdv qual=true) (S:a0o N ps scope)
  (len:∀vs H Q E,sp vs H Q E->vs.length=ps.length)
  (hbody:∀(A:Around) (outer:List Env) (s:Shared) (H:Hp) (vs:List V) (Q:VK) (E:XK),a1r k (A.deeper (envOfC qual scope s.heap.objs.size f cdv))->sp vs H Q E →
   ∃t,PSs (a5U CX P w K mg base N qual scope f cdv A outer s H E) body t/\t { nx:=fun _ H'=>Q .non H',rt:=Q } (a2M N vs) H) :
  a0F P w K mg base CX (k+1) f (PySem.W.fnOf name qual params body scope dV kV doc pm an cdv ct) ps sp:=by
 refine⟨len,fun A outer s H args us vs Q E hr e0 hb r hsp=>?_⟩;have hl:=len _ _ _ _ hsp;have KX:K.In s.heap:=e0.mod.kin.keeps fun b o e=>(e0.bs b o e).1;have lim:s.heap.NoLimit:=e0.mod.nolimit.keeps fun b o e=>(e0.bs b o e).1;have hkind:∀y∈ps.zip us,scope.names.lookup y.1=some .local\/(scope.names.lookup y.1=some .cell/\((cellsFrom (s.heap.objs.size+1) scope.names []).lookup y.1).isSome=true):=fun⟨n,v⟩ hy=>by
  rcases S.par n (List.of_mem_zip hy).1 with q |q
  ·exact .inl q
  ·exact .inr ⟨q,PySem.W.cellsFrom_some _ _ _ (.inl q)⟩
 refine codeAny_call_function hr.depth (KX _ _ lk) rfl S.co S.gen rfl (PySem.W.codeRec_of KX hcd) (hb _ _ _ _ ?_);refine wpAny_newFunctionEnv_cells S.kind hkind fun env he s1 x=>?_;subst he;refine⟨lim.keeps x.toInCall.keep,codeAny_func ?_⟩;obtain⟨t,ht,hq⟩:=hbody A outer s H vs Q E (hr.deeper _) hsp;have I:Inv (a5U CX P w K mg base N qual scope f cdv A outer s H E) [] (a2M N vs) H s1:=a4e S hr.hd e0 hl r x;refine wpAny_mono (ht [] s1 (a2M N vs) H _ I hq) (fun fl s' hs=>?_) fun e s' hs=>hs;have fin:∀{σ':St} {H':Hp} {v:V} {u:Value},Inv (a5U CX P w K mg base N qual scope f cdv A outer s H E) [] σ' H' s'->a0Z v u->Q v H'->CE outer P w H s Q u s':=
  fun {σ' H' v u} J rv q=>⟨v,H',J.os,J.bare,J.base,J.hok,rv,q⟩
 cases fl with
 |ret u=>
  obtain⟨v,σ',H',J,rv,q⟩:=hs;exact fin J rv q
 |next=>
  obtain⟨σ',H',J,q⟩:=hs;exact fin (v:=V.non) (u:=Value.none) J rfl q
 |brk=>
  obtain⟨_,_,_,q⟩:=hs;exact False.elim q
 |cont=>
  obtain⟨_,_,_,q⟩:=hs;exact False.elim q
section
variable {X:Cx}{x:Str}{p pos:Pos}{e:Expr}{es:List Expr}{t:TA}{id T:String}{r:List V->Hp->VK->Prop}
def tCB (r:List V->Hp->VK->Prop)(t:TA):TE:=fun σ H Q=>t σ H fun vs H1=>r vs H1 Q
theorem a0k (hc:a1p X (.builtin id) r)(hg:Gl X x)(hm:X.mg x=none)(hv:bootBuiltins x=some (.builtin id))(ha:PA X (e::es) t)(hn:x≠"__name__":=by decide)(hdb:(x==("__debug__":Str))=false:=by decide)
  (he:starEach (e::es) X.env=(false,eval e X.env)::starEach es X.env:=by rfl) (hpl:(backTo pos (starEach es X.env)).any (·.1)=false:=by rfl):PE X (.Call (.Name x p) (e::es) [] pos) (tCB r t):=by
 intro pins s σ H Q I h;refine wpAny_Call_Name_kw (a3Y I hg hm hv ?_ hn hdb);exact PyProof.Rows.callWith_builtin1 (thn (ha pos pins s σ H _ I h) fun us s1 ⟨vs,H1,I1,r1,q1⟩=>hc pins s1 σ H1 vs us Q I1 r1 q1) he hpl
theorem a1k (hc:a1p X (.type T) r)(hg:Gl X x)(hm:X.mg x=none)(hv:bootBuiltins x=some (.type T))(ha:PA X (e::es) t)(hn:x≠"__name__":=by decide)(hdb:(x==("__debug__":Str))=false:=by decide)
  (he:starEach (e::es) X.env=(false,eval e X.env)::starEach es X.env:=by rfl) (hpl:(backTo pos (starEach es X.env)).any (·.1)=false:=by rfl):PE X (.Call (.Name x p) (e::es) [] pos) (tCB r t):=by
 intro pins s σ H Q I h;refine wpAny_Call_Name_kw (a3Y I hg hm hv ?_ hn hdb);exact PyProof.Rows.callWith_type1 (thn (ha pos pins s σ H _ I h) fun us s1 ⟨vs,H1,I1,r1,q1⟩=>hc pins s1 σ H1 vs us Q I1 r1 q1) he hpl
end
end L2
namespace HT
open PySem PyProof.Rows
section
open PySem.SeqAt
open PySem.AutoSeq1 (wpAny_loadPart')
open PySem.MeetsSeq PySem.MeetsSeq2 PySem.MeetsSeq3
end
section
variable {prog:Program}{w:World}{A:Around}{E:Vs0}{s:Shared}
def sIx (n d:Nat):Option Int->Nat
 |none=>d
 |some v=>if v<0 then(v+(n:Int)).toNat else min v.toNat n
theorem a7y (n d:Nat):sIx n d none=d:=rfl
theorem b2A (v:Int)(n d:Nat):(if v<0 then max (v+(n:Int)) 0 else min v (n:Int))=((sIx n d (some v):Nat):Int):=by
 show(if v<0 then max (v+(n:Int)) 0 else min v (n:Int))=(((if v<0 then(v+(n:Int)).toNat else min v.toNat n):Nat):Int)
 by_cases hv:v<0
 ·simp only[if_pos hv];omega
 ·simp only[if_neg hv];omega
end
end HT
namespace L2
open PySem PySem.Spec PyProof.Rows
abbrev TO:=St->Hp->(Option Int->Hp->Prop)->Prop
def PO (X:Cx)(e:Option Expr)(t:TO):Prop:=
 ∀(pins:List (Addr×Obj)) (s:Shared) (σ:St) (H:Hp) (Q:Option Int->Hp->Prop),Inv X pins σ H s->t σ H Q →
  wpAny (model X.prog X.w) X.A (evalPart e X.env) (fun u s'=>∃o H',Inv X pins σ H' s'/\IsPart u o/\Q o H') X.xe s
def b2t:TO:=fun _ H Q=>Q none H
def b4X (t:TE):TO:=fun σ H Q=>t σ H fun x H1=>∃i,x=.int i/\Q (some i) H1
section
variable {X:Cx}{e:Expr}{te:TE}{lo hi:Option Expr}{tl th:TO}{pos p2:Pos}
theorem a4N:PO X none b2t:=by
 intro pins s σ H Q I h;rw[evalPart_none];exact wP0 ⟨none,H,I,.none,h⟩
theorem a5e (h:PE X e te):PO X (some e) (b4X te):=by
 intro pins s σ H Q I hw;rw[evalPart_some];refine thn (h pins s σ H _ I hw) fun u s1 ⟨x,H1,I1,r1,q1⟩=>?_;obtain⟨i,rfl,q⟩:=q1;obtain⟨t,rfl⟩:=r1;exact⟨some i,H1,I1,.int i t,q⟩
def SlR (X:Cx)(r:V->Option Int->Option Int->Hp->VK->Prop):Prop:=
 ∀(pins:List (Addr×Obj)) (s:Shared) (σ:St) (H:Hp) (x:V) (v vl vu:Value) (lo hi:Option Int) (sl:Addr) (Q:VK),Inv X pins σ H s->a0Z x v->s.heap.IsSliceOf sl vl vu .none->IsPart vl lo->IsPart vu hi->r x lo hi H Q →
  ∃T id,typeLookup (.type T) "__getitem__"=pure (some (.builtin id))/\s.TypeIs v T/\wpAny (model X.prog X.w) X.A (getItem v (.ref sl)) (EP X pins σ Q) X.xe s
def tSl (r:V->Option Int->Option Int->Hp->VK->Prop)(te:TE)(tl th:TO):TE:=fun σ H Q=>te σ H fun x H1=>tl σ H1 fun l H2=>th σ H2 fun u H3=>r x l u H3 Q
theorem a3D {r:V->Option Int->Option Int->Hp->VK->Prop}(hr:SlR X r)(he:PE X e te)(hl:PO X lo tl)(hu:PO X hi th):PE X (.Subscript e (.Slice lo hi none p2) pos) (tSl r te tl th):=by
 intro pins s σ H Q I h;refine Subscript_ (thn (he pins s σ H _ I h) fun v s1 ⟨x,H1,I1,r1,q1⟩=>?_);refine wpAny_Slice (thn (hl pins s1 σ H1 _ I1 q1) fun vl s2 ⟨l,H2,I2,pl,q2⟩=>thn (hu pins s2 σ H2 _ I2 q2) fun vu s3 ⟨u,H3,I3,pu,q3⟩=>?_);rw[evalPart_none];refine wP0 ?_;have I4:Inv X pins σ H3 { s3 with heap:=s3.heap.push { cls:=.type "slice",data:=.fields #[vl,vu,.none] } }:=I3.kept (t':=s3.toks) fun b ob q=>hP0 _ q;obtain⟨T,id,hT,ht,hg⟩:=hr pins { s3 with heap:=s3.heap.push { cls:=.type "slice",data:=.fields #[vl,vu,.none] } } σ H3 x v vl vu l u s3.heap.objs.size Q I4 r1 (Heap.IsSliceOf.new ..) pl pu q3;show wpAny (model X.prog X.w) X.A (subscriptTail e (.Slice lo hi none p2) v (.ref s3.heap.objs.size)) (EP X pins σ Q) X.xe { s3 with heap:=s3.heap.push { cls:=.type "slice",data:=.fields #[vl,vu,.none] } };exact tail_any (ops:=[.ref s3.heap.objs.size,v]) ht hT hg (by with_unfolding_all rfl)
def b1K (xs:List V)(lo hi:Option Int):List V:=(xs.drop (HT.sIx xs.length 0 lo)).take (HT.sIx xs.length xs.length hi-HT.sIx xs.length 0 lo)
theorem a6H (xs:List V)(lo hi:Option Int):(b1K xs lo hi).length<=xs.length:=by
 unfold b1K;rw[List.length_take,List.length_drop]
 omega
end
def ixN (n:Nat)(i:Int):Option Nat:=if 0<=i then(if i<n then some i.toNat else none) else if -(n:Int)<=i then some (i+n).toNat else none
def atI {α:Type}(xs:List α)(i:Int):Option α:=(ixN xs.length i).bind fun j=>xs[j]?
theorem a8Y {n:Nat}{i:Int}{j:Nat}(h:ixN n i=some j):seqIndex? i n=some j/\j<n/\-(n:Int)<=i/\i<n:=by
 unfold ixN at h
 by_cases h0:0<=i
 ·rw[if_pos h0] at h
  by_cases h1:i<n
  ·rw[if_pos h1] at h
   have e:i.toNat=j:=Option.some.inj h;exact⟨by rw[seqIndex_of h0 h1,e],by omega,by omega,h1⟩
  ·rw[if_neg h1] at h;cases h
 ·rw[if_neg h0] at h
  by_cases h1:-(n:Int)<=i
  ·rw[if_pos h1] at h
   have e:(i+n).toNat=j:=Option.some.inj h;exact⟨by rw[seqIndex_neg (by omega) h1,e],by omega,h1,by omega⟩
  ·rw[if_neg h1] at h;cases h
theorem a4G {α:Type}{xs:List α}{i:Int}{v:α}(h:atI xs i=some v):∃j,seqIndex? i xs.length=some j/\xs[j]? =some v/\j<xs.length/\-(xs.length:Int)<=i/\i<xs.length:=by
 unfold atI at h;cases e:ixN xs.length i with
 |none=>rw[e] at h;cases h
 |some j=>
  rw[e] at h;obtain⟨h1,h2,h3,h4⟩:=a8Y e;exact⟨j,h1,h,h2,h3,h4⟩
theorem a0U {α:Type}{xs:List α}{j:Nat}{v:α}(h:xs[j]? =some v):atI xs (j:Int)=some v:=by
 have hj:j<xs.length:=(gS0.mp h).1;have e:ixN xs.length (j:Int)=some j:=by
  unfold ixN;rw[if_pos (by omega),if_pos (by omega)];simp
 unfold atI;rw[e];exact h
def a3N (b:Expr):Prop:=∀o i,subscripted b false o i=operate [o,i] (getItem o i)
def IxR (X:Cx)(r:R2):Prop:=
 ∀(value slice:Expr) (pins:List (Addr×Obj)) (s:Shared) (σ:St) (H:Hp) (x y:V) (v u:Value) (Q:VK),Inv X pins σ H s->a0Z x v->a0Z y u->r x y H Q →
  subscripted slice false v u=operate [v,u] (getItem v u)->wpAny (model X.prog X.w) X.A (subscriptTail value slice v u) (EP X pins σ Q) X.xe s
def MtR (X:Cx)(id:String)(r:V->List V->Hp->VK->Prop):Prop:=
 ∀(pins:List (Addr×Obj)) (s:Shared) (σ:St) (H:Hp) (x:V) (xs:List V) (v:Value) (us:List Value) (Q:VK),Inv X pins σ H s->a0Z x v->a1c xs us->r x xs H Q →
  wpAny (model X.prog X.w) X.A (call (.builtin id) (v::us)) (EP X pins σ Q) X.xe s
section
variable {X:Cx}{a b:Expr}{ta tb:TE}{pos:Pos}
theorem a0x {r:R2}(hr:IxR X r)(ha:PE X a ta)(hb:PE X b tb)(hs:a3N b):PE X (.Subscript a b pos) (tOp r ta tb):=by
 intro pins s σ H Q I h;exact Subscript_ (b5l ha hb I h fun v u s2 x y H2 I2 rx ry q=>hr a b pins s2 σ H2 x y v u Q I2 rx ry q (hs _ _))
def b6l (K:Fg0):R2:=fun x y H Q=>∃p xs i v,x=.ref p/\y=.int i/\SqL K H p xs/\atI xs i=some v/\Q v H
def b3q (K:Fg0):R2:=fun x y H Q=>∃p xs i v,x=.ref p/\y=.int i/\SqT K H p xs/\atI xs i=some v/\Q v H
def rIxS:R2:=fun x y H Q=>∃z i c,x=.str z/\y=.int i/\z.length<=sizeLine/\atI z.cps.toList i=some c/\Q (.str ⟨#[c]⟩) H
theorem a0p:IxR X (b6l X.K):=by
 intro value slice pins s σ H x y v u Q I rx ry h hs;obtain⟨p,xs,i,z,rfl,rfl,hq,he,q⟩:=h;cases rx;obtain⟨t,rfl⟩:=ry;obtain⟨its,r,pl,hz⟩:=I.list hq;obtain⟨j,h1,h2,h3,h4,h5⟩:=a4G he;obtain⟨w,ew,rw'⟩:=r.get h2;have hl:=r.length;have hn:=a4d;have fin:EP X pins σ Q w s:=⟨z,H,I,rw',q⟩
 by_cases h0:0<=i
 ·have hj:i.toNat=j:=by
   rw[seqIndex_of h0 h5] at h1;exact Option.some.inj h1
  exact item_listR pl.isList h0 (by omega) (by rw[hj];simpa using ew) fin hs
 ·have hj:(i+(its.toArray.size:Int)).toNat=j:=by
   rw[seqIndex_neg (by omega) h4] at h1;rw[List.size_toArray,<-hl];exact Option.some.inj h1
  exact subscriptTail_builtinR (x:=w) pl.isList.typeIs slot_list_getitem.lookup
   (wpAny_getItem_list_neg (Q:=fun r s'=>r=w/\EP X pins σ Q r s') pl.isList (by omega) (by rw[List.size_toArray]<;>omega) (by omega) (by rw[hj];simpa using ew) ⟨rfl,fin⟩) hs
theorem a0P:IxR X (b3q X.K):=by
 intro value slice pins s σ H x y v u Q I rx ry h hs;obtain⟨p,xs,i,z,rfl,rfl,hq,he,q⟩:=h;cases rx;obtain⟨t,rfl⟩:=ry;obtain⟨its,r,pl,hz⟩:=I.tuple hq;obtain⟨j,h1,h2,h3,h4,h5⟩:=a4G he;obtain⟨w,ew,rw'⟩:=r.get h2;have hl:=r.length;have hn:=a4d;have fin:EP X pins σ Q w s:=⟨z,H,I,rw',q⟩;exact subscriptTail_builtinR (x:=w) pl.typeIs slot_tuple_getitem.lookup
  (getItem_tuple (j:=j) (Q:=fun r s'=>r=w/\EP X pins σ Q r s') pl (by omega) (by omega) (by rw[List.size_toArray,<-hl];exact h1) (by simpa using ew) ⟨rfl,fin⟩) hs
theorem b1M:IxR X rIxS:=by
 intro value slice pins s σ H x y v u Q I rx ry h hs;obtain⟨z,i,c,rfl,rfl,hz,he,q⟩:=h;obtain⟨t,rfl⟩:=rx;obtain⟨t',rfl⟩:=ry;obtain⟨j,h1,h2,h3,h4,h5⟩:=a4G he;have hl:z.cps.toList.length=z.length:=by simp[Str.length]
 rw[hl] at h1 h4 h5;have hn:=a4d;exact tail_any (typeIs_str s z t) slot_str_getitem.lookup (getItem_str (c:=c) (by
  have e1:decide (i < -(2 ^ 63:Int))=false:=dF0 (by omega);have e2:decide (i≥2 ^ 63)=false:=dF0 (by omega);rw[e1,e2,Bool.or_false]) (by rw[h1];simpa using h2) ⟨.str ⟨#[c]⟩,H,I.tok _,⟨_,rfl⟩,q⟩) hs
theorem a7V (its:List Value)(n j:Nat)(u:Value):Obj.mapSeq (·.setIfInBounds j u) { cls:=.type "list",data:=.seq its.toArray n }={ cls:=.type "list",data:=.seq (its.set j u).toArray n }:=by
 simp[Obj.mapSeq]
theorem Inv.lst {pins:List (Addr×Obj)}{σ:St}{H:Hp}{s:Shared}{p:Addr}{xs:List V}(I:Inv X pins σ H s)(h:H p=some (.lst xs)) :
  ∃(its:List Value) (n:Nat),a1c xs its/\s.heap.get? p=some { cls:=.type "list",data:=.seq its.toArray n }/\xs.length<=sizeLine:=by
 obtain⟨z,its,n,r,e⟩:=I.hok p _ h;exact⟨its,n,r,e,z⟩
theorem Inv.lstUpd {pins:List (Addr×Obj)}{σ:St}{H:Hp}{s:Shared}{p:Addr}{xs ys:List V}{its its':List Value}{n n':Nat}{f:Obj->Obj}(I:Inv X pins σ H s)(h:H p=some (.lst xs))
  (ho:s.heap.get? p=some { cls:=.type "list",data:=.seq its.toArray n }) (hf:f { cls:=.type "list",data:=.seq its.toArray n }={ cls:=.type "list",data:=.seq its'.toArray n' }) (r:a1c ys its') (hz:ys.length<=sizeLine) (t:Nat) :
  Inv X pins σ (upd H p (.lst ys)) { s with heap:=s.heap.update p f,toks:=t }:=by
 have e:(s.heap.update p f).get? p=some { cls:=.type "list",data:=.seq its'.toArray n' }:=by
  rw[Heap.get?_update_self f ho (by rw[hf]<;>rfl),hf]
 refine I.write (x:=p) (e:=p) (by rw[h];trivial) (.inl rfl) (fun b u hb q=>(Heap.get?_update_other _ _ (Ne.symm hb)).trans q) ⟨_,e⟩ ?_;exact⟨hz,its',n',r,e⟩
def b5s:V->V->V->Hp->(Hp->Prop)->Prop:=fun o i v H Q=>∃p xs k j,o=.ref p/\i=.int k/\H p=some (.lst xs)/\ixN xs.length k=some j/\Q (upd H p (.lst (xs.set j v)))
theorem b0B:a6n X b5s:=by
 intro pins s σ H o i v ov iv u Q I ro ri rv h;obtain⟨p,xs,k,j,rfl,rfl,hp,hj,q⟩:=h;cases ro;obtain⟨t,rfl⟩:=ri;obtain⟨its,n,r,ho,hz⟩:=I.lst hp;obtain⟨h1,h2,h3,h4⟩:=a8Y hj;have hl:=r.length;have hn:=a4d;have I':Inv X pins σ (upd H p (.lst (xs.set j v))) { s with heap:=s.heap.update p (Obj.mapSeq (·.setIfInBounds j u)) }:=
  I.lstUpd hp ho (a7V its n j u) (r.set rv j) (by rw[List.length_set];exact hz) s.toks
 by_cases h0:0<=k
 ·have hk:k.toNat=j:=by
   rw[seqIndex_of h0 h4] at h1;exact Option.some.inj h1
  exact PySem.W.ki_setAt ho h0 (by omega) (by rw[List.size_toArray,<-hl];exact h4) (by rw[hk];exact⟨_,I',q⟩)
 ·have hk:(k+(its.toArray.size:Int)).toNat=j:=by
   rw[seqIndex_neg (by omega) h3] at h1;rw[List.size_toArray,<-hl];exact Option.some.inj h1
  exact PySem.W.ki_setBack ho (by omega) (by rw[List.size_toArray,<-hl];exact h3) (by omega) (by rw[hk];exact⟨_,I',q⟩)
theorem a5Y (lo hi:Option Int)(n:Nat):(sliceBounds lo hi none n).1=((HT.sIx n 0 lo:Nat):Int)/\(sliceBounds lo hi none n).2.1=((HT.sIx n n hi:Nat):Int)/\(sliceBounds lo hi none n).2.2=1:=by
 refine⟨?_,?_,rfl⟩
 ·cases lo with
  |none=>simp[sliceBounds,HT.sIx]
  |some i=>
   simp only[sliceBounds,HT.sIx,Option.getD_none,show(1:Int) > 0 by decide,if_true]
   by_cases h:i<0
   ·simp only[h,if_true]<;>omega
   ·simp only[h,if_false]<;>omega
 ·cases hi with
  |none=>simp[sliceBounds,HT.sIx]
  |some i=>
   simp only[sliceBounds,HT.sIx,Option.getD_none,show(1:Int) > 0 by decide,if_true]
   by_cases h:i<0
   ·simp only[h,if_true]<;>omega
   ·simp only[h,if_false]<;>omega
theorem a4D (its:List Value)(lo hi:Option Int):slicePick its.toArray lo hi none=((its.drop (HT.sIx its.length 0 lo)).take (HT.sIx its.length its.length hi-HT.sIx its.length 0 lo)).toArray:=by
 obtain⟨h1,h2,h3⟩:=a5Y lo hi its.toArray.size;unfold slicePick;rw[h1,h2,h3];simp only[sliceRange_one,pick_run,List.size_toArray]<;>rfl
def rSlL (K:Fg0):V->Option Int->Option Int->Hp->VK->Prop:=fun x lo hi H Q=>∃a xs,x=.ref a/\SqL K H a xs/\∀p,H p=none->Q (.ref p) (upd H p (.lst (b1K xs lo hi)))
theorem a4K:SlR X (rSlL X.K):=by
 intro pins s σ H x v vl vu lo hi sl Q I rx hs pl pu h;obtain⟨a,xs,rfl,hx,q⟩:=h;cases rx;obtain⟨its,r,ht,hz⟩:=I.list hx;have hlen:=r.length;refine⟨"list",_,slot_list_getitem.lookup,ht.isList.typeIs,?_⟩;refine wpAny_getItem_list_slice ht.isList hs pl pu .none (by simp) ?_ (by rw[List.size_toArray]<;>omega);rw[a4D,<-hlen];refine⟨.ref s.heap.objs.size,_,I.laid (t':=s.toks) (o:=.lst (b1K xs lo hi)) (fun b ob q=>hP0 _ q) (nR0 _) ?_,rfl,q _ (I.hok.fresh (nR0 _))⟩;exact⟨Nat.le_trans (a6H xs lo hi) hz,_,0,(r.drop (HT.sIx xs.length 0 lo)).take (HT.sIx xs.length xs.length hi-HT.sIx xs.length 0 lo),hS0 _ rfl⟩
def a5i:V->Bool
 | .non=>true
 | .bl _=>true
 | .int _=>true
 | .str _=>true
 |_=>false
def eqV:V->V->Bool
 | .non,.non=>true
 | .bl a,.bl b=>a==b
 | .bl a,.int b=>(if a then 1 else 0)==b
 | .int a,.bl b=>a==(if b then 1 else 0)
 | .int a,.int b=>a==b
 | .str a,.str b=>a==b
 |_,_=>false
theorem b3l {A:Around}{s:Shared}{y x:V}{u v:Value}(ry:a0Z y u)(rx:a0Z x v)(fy:a5i y=true)(fx:a5i x=true):SeqAt.EqAt A s u v (eqV y x):=by
 cases y with
 |non=>
  cases ry;cases x with
  |non=>cases rx;exact SeqAt.EqAt.same _
  |bl b=>cases rx;exact SeqAt.EqAt.none_bool b
  |int b=>obtain⟨t,rfl⟩:=rx;exact SeqAt.EqAt.none_int b t
  |str b=>obtain⟨t,rfl⟩:=rx;exact SeqAt.EqAt.none_str b t
  |_=>exact absurd (show false=true from fx) bF0
 |bl a=>
  cases ry;cases x with
  |non=>cases rx;exact SeqAt.EqAt.bool_none a
  |bl b=>cases rx;exact SeqAt.EqAt.bool_bool a b
  |int b=>obtain⟨t,rfl⟩:=rx;exact SeqAt.EqAt.bool_int a b t
  |str b=>obtain⟨t,rfl⟩:=rx;exact SeqAt.EqAt.bool_str a b t
  |_=>exact absurd (show false=true from fx) bF0
 |int a=>
  obtain⟨t',rfl⟩:=ry;cases x with
  |non=>cases rx;exact SeqAt.EqAt.int_none a t'
  |bl b=>cases rx;exact SeqAt.EqAt.int_bool a t' b
  |int b=>obtain⟨t,rfl⟩:=rx;exact SeqAt.EqAt.int_int a t' b t
  |str b=>obtain⟨t,rfl⟩:=rx;exact SeqAt.EqAt.int_str a t' b t
  |_=>exact absurd (show false=true from fx) bF0
 |str a=>
  obtain⟨t',rfl⟩:=ry;cases x with
  |non=>cases rx;exact SeqAt.EqAt.str_none a t'
  |bl b=>cases rx;exact SeqAt.EqAt.str_bool a t' b
  |int b=>obtain⟨t,rfl⟩:=rx;exact SeqAt.EqAt.str_int a t' b t
  |str b=>obtain⟨t,rfl⟩:=rx;exact SeqAt.EqAt.str_str a t' b t
  |_=>exact absurd (show false=true from fx) bF0
 |_=>exact absurd (show false=true from fy) bF0
def eqU (x:V)(u:Value):Bool:=match u with
 | .none=>eqV .non x
 | .bool b=>eqV (.bl b) x
 | .int i _=>eqV (.int i) x
 | .str z _=>eqV (.str z) x
 |_=>false
theorem b1D {x y:V}{u:Value}(r:a0Z y u)(f:a5i y=true):eqU x u=eqV y x:=by
 cases y with
 |non=>cases r;rfl
 |bl b=>cases r;rfl
 |int i=>obtain⟨t,rfl⟩:=r;rfl
 |str z=>obtain⟨t,rfl⟩:=r;rfl
 |_=>exact absurd (show false=true from f) bF0
theorem a3K {x:V}:∀{xs:List V} {us:List Value},a1c xs us->xs.all a5i=true->us.any (eqU x)=xs.any fun y=>eqV y x
 |_,_,.nil,_=>rfl
 |y::xs,u::us,.cons r t,f=>by
  rw[List.all_cons,Bool.and_eq_true] at f;rw[List.any_cons,List.any_cons,b1D r f.1,a3K t f.2]
theorem a3a {A:Around}{s:Shared}{x:V}{v:Value}(rx:a0Z x v)(fx:a5i x=true):∀{xs:List V} {us:List Value},a1c xs us->xs.all a5i=true->∀u∈us,SeqAt.EqAt A s u v (eqU x u)
 |_,_,.nil,_=>fun u hu=>by cases hu
 |y::xs,u::us,.cons r t,f=>fun u' hu=>by
  rw[List.all_cons,Bool.and_eq_true] at f;rcases mK0.mp hu with rfl |hu
  ·rw[b1D r f.1];exact b3l r rx f.1 fx
  ·exact a3a rx fx t f.2 u' hu
def inV (x:V)(xs:List V):Bool:=xs.any fun y=>eqV y x
def rIn (K:Fg0)(neg:Bool):R2:=fun x y H Q=>∃p xs,y=.ref p/\(SqL K H p xs\/SqT K H p xs)/\a5i x=true/\xs.all a5i=true/\Q (.bl (if neg then !inV x xs else inV x xs)) H
theorem a9z:OpR X (compareOp .In) (rIn X.K false):=by
 intro pins s σ H x y v u Q I rx ry h;obtain⟨p,xs,rfl,hq,fx,fs,q⟩:=h;cases ry;rcases hq with hq |hq
 ·obtain⟨its,r,pl,hz⟩:=I.list hq
  refine SeqAt.in_listAt (eqU x) pl.isList (fun w hw=>a3a rx fx r fs w (by simpa using hw)) ⟨.bl _,H,I,rfl,?_⟩;rw[show its.toArray.any (eqU x)=its.any (eqU x) by simp,a3K r fs];exact q
 ·obtain⟨its,r,pl,hz⟩:=I.tuple hq
  refine SeqAt.in_tupleAt (eqU x) pl (fun w hw=>a3a rx fx r fs w (by simpa using hw)) ⟨.bl _,H,I,rfl,?_⟩;rw[show its.toArray.any (eqU x)=its.any (eqU x) by simp,a3K r fs];exact q
theorem a3q:OpR X (compareOp .NotIn) (rIn X.K true):=by
 intro pins s σ H x y v u Q I rx ry h;obtain⟨p,xs,rfl,hq,fx,fs,q⟩:=h;cases ry;rcases hq with hq |hq
 ·obtain⟨its,r,pl,hz⟩:=I.list hq
  refine SeqAt.notIn_listAt (eqU x) pl.isList (fun w hw=>a3a rx fx r fs w (by simpa using hw)) ⟨.bl _,H,I,rfl,?_⟩;rw[show its.toArray.any (eqU x)=its.any (eqU x) by simp,a3K r fs];exact q
 ·obtain⟨its,r,pl,hz⟩:=I.tuple hq
  refine SeqAt.notIn_tupleAt (eqU x) pl (fun w hw=>a3a rx fx r fs w (by simpa using hw)) ⟨.bl _,H,I,rfl,?_⟩;rw[show its.toArray.any (eqU x)=its.any (eqU x) by simp,a3K r fs];exact q
theorem a0S:a1p X (.builtin "len") (fun xs H Q=>∃p ys,xs=[.ref p]/\(SqL X.K H p ys\/SqT X.K H p ys)/\Q (.int ys.length) H):=by
 intro pins s σ H xs us Q I r h;obtain⟨p,ys,rfl,hq,q⟩:=h;obtain⟨u,rfl,rx⟩:=a2T r;cases rx;have hn:=a4d;rcases hq with hq |hq
 ·obtain⟨its,r',pl,hz⟩:=I.list hq
  have hlen:=r'.length;exact Calls.call_len_list pl.isList (by simp only[List.size_toArray]<;>omega) ⟨.int ys.length,H,I.tok _,⟨s.toks+1,by rw[List.size_toArray,hlen]⟩,q⟩
 ·obtain⟨its,r',pl,hz⟩:=I.tuple hq
  have hlen:=r'.length;exact len_tuple pl (by simp only[List.size_toArray]<;>omega) ⟨.int ys.length,H,I.tok _,⟨s.toks+1,by rw[List.size_toArray,hlen]⟩,q⟩
theorem a3u:a1p X (.builtin "len") (fun xs H Q=>∃z,xs=[.str z]/\z.length<=sizeLine/\Q (.int z.length) H):=by
 intro pins s σ H xs us Q I r h;obtain⟨z,rfl,hz,q⟩:=h;obtain⟨u,rfl,t,rfl⟩:=a2T r;have hn:=a4d;exact len_str (by omega) ⟨.int z.length,H,I.tok _,⟨_,rfl⟩,q⟩
theorem a1T:a1p X (.type "tuple") (fun xs H Q=>∃p ys,xs=[.ref p]/\((SqL X.K H p ys/\∀l,H l=none->Q (.ref l) (upd H l (.tup ys)))\/(SqT X.K H p ys/\Q (.ref p) H))):=by
 intro pins s σ H xs us Q I r h;obtain⟨p,ys,rfl,h⟩:=h;obtain⟨u,rfl,rx⟩:=a2T r;cases rx;rcases h with ⟨hq,q⟩ |⟨hq,q⟩
 ·obtain⟨its,r',pl,hz⟩:=I.list hq
  have hlen:=r'.length;refine call_tuple_list pl.isList (fun h' kp=>?_) (by simp only[List.size_toArray]<;>omega);have I1:Inv X pins σ H { s with heap:=h' }:=I.kept (t':=s.toks) kp;have I2:Inv X pins σ (upd H h'.objs.size (.tup ys)) { s with heap:=h'.push { cls:=.type "tuple",data:=.seq its.toArray } }:=
   I1.laid (t':=s.toks) (fun b o e=>hP0 _ e) (nR0 _) (show a1l X.prog X.w _ _ _ (.tup ys) from⟨hz,its,r',IsTup.new _ _⟩)
  exact⟨.ref h'.objs.size,_,I2,rfl,q _ (I1.hok.fresh (nR0 _))⟩
 ·obtain⟨its,r',pl,hz⟩:=I.tuple hq
  exact call_tuple_same pl ⟨.ref p,H,I,rfl,q⟩
def tyV (K:Fg0)(T:String)(x:V)(H:Hp):Prop:=match x with
 | .str _=>T="str"
 | .int _=>T="int"
 | .ref p=>(T="list"/\∃xs,SqL K H p xs)\/(T="tuple"/\∃o,K.lookup p=some o/\o.cls=.type "tuple"/\o.dict=none) ∨
   (T="dict"/\((∃kvs,H p=some (.dK kvs))\/∃kvs,H p=some (.dT kvs)))\/(T="set"/\∃S n,H p=some (.set S n))
 |_=>False
theorem b1i {pins:List (Addr×Obj)}{σ:St}{H:Hp}{s:Shared}{T:String}{x:V}{v:Value}(I:Inv X pins σ H s)(r:a0Z x v)(ty:tyV X.K T x H) :
  s.TypeIs v T/\∀a,v=.ref a->∃ob,s.heap.get? a=some ob/\ob.dict=none:=by
 cases x with
 |str z=>
  obtain⟨t,rfl⟩:=r
  cases(show T="str" from ty)
  exact⟨typeIs_str s z t,fun _ e=>nomatch e⟩
 |int i=>
  obtain⟨t,rfl⟩:=r
  cases(show T="int" from ty)
  exact⟨typeIs_int s i t,fun _ e=>nomatch e⟩
 |ref p=>
  cases r;rcases ty with ⟨rfl,xs,hq⟩ |⟨rfl,o,hk,hc,hd⟩ |⟨rfl,hk⟩ |⟨rfl,S,n,hk⟩
  ·obtain⟨its,_,pl,_⟩:=I.list hq
   refine⟨pl.isList.typeIs,fun a e=>?_⟩;cases e;obtain⟨o,n,e,c,hd,_⟩:=pl;exact⟨o,e,hd⟩
  ·refine⟨⟨o,I.kIn p o hk,hc⟩,fun a e=>?_⟩
   cases e;exact⟨o,I.kIn _ o hk,hd⟩
  ·have z:∃o,s.heap.get? p=some o/\o.ExactDict:=by
    rcases hk with ⟨kvs,hk⟩ |⟨kvs,hk⟩
    ·obtain⟨_,_,_,_,o,_,_,e,ex,_⟩:=I.hok p _ hk
     exact⟨o,e,ex⟩
    ·obtain⟨_,_,_,_,o,_,_,e,ex,_⟩:=I.hok p _ hk
     exact⟨o,e,ex⟩
   obtain⟨o,e,ex⟩:=z;refine⟨⟨o,e,ex.1⟩,fun a e2=>?_⟩;cases e2;exact⟨o,e,ex.2.1⟩
  ·obtain⟨o,_,_,_,e,ex,_⟩:=I.hok p _ hk
   refine⟨⟨o,e,ex.1⟩,fun a e2=>?_⟩;cases e2;exact⟨o,e,ex.2.1⟩
 |_=>exact False.elim ty
def tBM0 (K:Fg0)(T:String)(r:V->List V->Hp->VK->Prop)(to:TE):TE:=fun σ H Q=>to σ H fun x H1=>tyV K T x H1/\r x [] H1 Q
def tBM (K:Fg0)(T:String)(r:V->List V->Hp->VK->Prop)(to:TE)(t:TA):TE:=fun σ H Q=>to σ H fun x H1=>tyV K T x H1/\t σ H1 fun xs H2=>r x xs H2 Q
variable {o e:Expr}{es:List Expr}{to:TE}{t:TA}{name:Str}{apos cpos:Pos}{T id:String}{r:V->List V->Hp->VK->Prop}
theorem a6Y (pa:PlainAttrs T)(slot:Slot T name id)(hty:typeOf (.builtin id)=pure (.type "method_descriptor"))(hm:MtR X id r)(ho:PE X o to)
  (hbase:attributeBase o name X.env (eval o X.env)=eval o X.env:=by rfl) (hline:(apos.endLine==cpos.line)=true:=by rfl):PE X (.Call (.Attribute o name apos) [] [] cpos) (tBM0 X.K T r to):=by
 intro pins s σ H Q I h;refine wpAny_Call_method0_late hbase hline (thn (ho pins s σ H _ I h) fun v s1 ⟨x,H1,I1,r1,ty,q1⟩=>?_);obtain⟨h1,h2⟩:=b1i I1 r1 ty;exact⟨T,id,pa,slot,hty,h1,h2,Calls.callWith_builtin rfl (PySem.evalArgs_none (hm pins s1 σ H1 x [] v [] Q I1 r1 .nil q1))⟩
theorem a8X (pa:PlainAttrs T)(slot:Slot T name id)(hty:typeOf (.builtin id)=pure (.type "method_descriptor"))(hm:MtR X id r)(ho:PE X o to)(ha:PA X (e::es) t)
  (hbase:attributeBase o name X.env (eval o X.env)=eval o X.env:=by rfl)
  (hfew:((backTo cpos (starEach (e::es) X.env)).all (fun x=>!x.1)&&(backToKw cpos (keywordEach [] X.env)).all (fun x=>x.1.isSome)
   && decide ((e::es).length+([]:List Keyword).length+(if ([]:List Keyword).isEmpty then 0 else 1)<30))=true:=by rfl)
  (hline:(apos.endLine==cpos.line)=true:=by rfl) (hs:starEach (e::es) X.env=(false,eval e X.env)::starEach es X.env:=by rfl) (hplain:(backTo cpos (starEach es X.env)).any (·.1)=false:=by rfl) :
  PE X (.Call (.Attribute o name apos) (e::es) [] cpos) (tBM X.K T r to t):=by
 intro pins s σ H Q I h;refine wpAny_Call_method_late hbase hfew hline rfl (thn (ho pins s σ H _ I h) fun v s1 ⟨x,H1,I1,r1,ty,q1⟩=>?_);obtain⟨h1,h2⟩:=b1i I1 r1 ty;refine⟨T,id,pa,slot,hty,h1,h2,?_⟩;have hA:=ha cpos pins s1 σ H1 _ I1 q1;rw[hs] at hA ⊢;refine Calls.callWith_builtin (by show(false || (backTo cpos (starEach es X.env)).any (·.1))=false;rw[hplain]<;>rfl) (Calls.evalArgs_plain ?_);exact thn hA fun us s2 ⟨vs,H2,I2,r2,q2⟩=>hm pins s2 σ H2 x vs v us Q I2 r1 r2 q2
end
def MtM (X:Cx)(id:String)(r:V->List V->Hp->VK->Prop):Prop:=
 ∀(pins:List (Addr×Obj)) (s:Shared) (σ:St) (H:Hp) (x:V) (xs:List V) (v:Value) (us:List Value) (Q:VK),Inv X pins σ H s->a0Z x v->a1c xs us->r x xs H Q →
  wpAny (model X.prog X.w) X.A (call (.builtin id) (v::us)) (EP X pins σ Q) X.xe s
theorem a1c.one:∀{x:V} {us:List Value},a1c [x] us->∃u,us=[u]/\a0Z x u
 |_,_,.cons r .nil=>⟨_,rfl,r⟩
theorem a1c.zero:∀{us:List Value},a1c [] us->us=[]
 |_,.nil=>rfl
theorem a1c.dropLast {xs:List V}{us:List Value}(h:a1c xs us):a1c xs.dropLast us.dropLast:=by
 induction h with
 |nil=>exact .nil
 |cons r t ih=>
  cases t with
  |nil=>exact .nil
  |cons q t'=>exact .cons r ih
theorem a8g {α:Type}(l:List α):l.eraseIdx (l.length-1)=l.dropLast:=by
 induction l with
 |nil=>rfl
 |cons a r ih=>
  cases r with
  |nil=>rfl
  |cons b r=>
   have e:(a::b::r).length-1=((b::r).length-1)+1:=by
    have h1:(a::b::r).length=r.length+2:=rfl;have h2:(b::r).length=r.length+1:=rfl
    omega
   rw[e,List.eraseIdx_cons_succ,ih]
   all_goals rfl
section
variable {X:Cx}{pins:List (Addr×Obj)}{σ:St}{H:Hp}{s:Shared}{l b:Addr}{xs ys zs:List V}
theorem Inv.lset {its its':List Value}{n:Nat}{f:Array Value->Array Value}{t':Nat}(I:Inv X pins σ H s)(hH:H l=some (.lst xs))
  (e:s.heap.get? l=some { cls:=.type "list",data:=.seq its.toArray n }) (hf:f its.toArray=its'.toArray) (hv:a1c ys its') (hz:ys.length<=sizeLine) :
  Inv X pins σ (upd H l (.lst ys)) { s with heap:=s.heap.update l (Obj.mapSeq f),toks:=t' }:=by
 have q:=PySem.IsL.update e f;rw[hf] at q;refine I.write (x:=l) (e:=l) (by rw[hH];exact trivial) (.inl rfl) (fun b' u hb hu=>(Heap.get?_update_other s.heap (Obj.mapSeq f) (Ne.symm hb)).trans hu) ⟨_,q⟩ ?_;exact⟨hz,its',_,hv,q⟩
theorem Inv.lnew {its:List Value}{t':Nat}(I:Inv X pins σ H s)(hv:a1c ys its)(hz:ys.length<=sizeLine) :
  Inv X pins σ (upd H s.heap.objs.size (.lst ys)) { s with heap:=s.heap.push { cls:=.type "list",data:=.seq its.toArray },toks:=t' }:=
 I.laid (fun _ _ q=>hP0 _ q) (nR0 _) ⟨hz,its,0,hv,hS0 _ rfl⟩
theorem Inv.fresh (I:Inv X pins σ H s):H s.heap.objs.size=none:=I.hok.fresh (nR0 _)
theorem Inv.lstM (I:Inv X pins σ H s)(hH:H l=some (.lst xs)):xs.length<=sizeLine/\∃(its:List Value) (n:Nat),a1c xs its/\xs.length=its.length/\s.heap.get? l=some { cls:=.type "list",data:=.seq its.toArray n }:=by
 obtain⟨z,its,n,r,e⟩:=I.hok l _ hH;exact⟨z,its,n,r,r.length,e⟩
theorem b0c {n:Nat}(h:n<=sizeLine):Builtin.List.listTooLong n=false:=by
 unfold Builtin.List.listTooLong;exact dF0 (by omega)
end
section
variable {X:Cx}
def a9G:V->List V->Hp->VK->Prop:=fun x vs H Q=>∃l xs y,x=.ref l/\vs=[y]/\H l=some (.lst xs)/\xs.length<sizeLine/\Q .non (upd H l (.lst (xs++[y])))
theorem a3G:MtM X "list.append" a9G:=by
 intro pins s σ H x vs v us Q I rx rv h;obtain⟨l,xs,y,rfl,rfl,hH,hz,q⟩:=h;cases rx;obtain⟨u,rfl,ru⟩:=rv.one;obtain⟨z,its,n,r,hl,e⟩:=I.lstM hH;refine call_meets F.slot_list_append ⟨_,e,rfl⟩ F.entry_list_append (F.args_list_append_2 _ _) (PySem.list_append l its.toArray n u (by rw[List.size_toArray];omega)) ⟨e,?_⟩;refine⟨.non,_,I.lset (its':=its++[u]) hH e (by simp) (r.append (.cons ru .nil)) ?_,rfl,q⟩;rw[lA0,List.length_singleton]
 omega
def b3a:V->List V->Hp->VK->Prop:=fun x vs H Q=>∃l b xs zs,x=.ref l/\vs=[.ref b]/\H l=some (.lst xs)/\H b=some (.lst zs)/\xs.length+zs.length<=sizeLine/\Q .non (upd H l (.lst (xs++zs)))
theorem b3M:MtM X "list.extend" b3a:=by
 intro pins s σ H x vs v us Q I rx rv h;obtain⟨l,b,xs,zs,rfl,rfl,hH,hB,hz,q⟩:=h;cases rx;obtain⟨u,rfl,ru⟩:=rv.one;cases ru;obtain⟨z,its,n,r,hl,e⟩:=I.lstM hH;obtain⟨z2,its2,n2,r2,hl2,e2⟩:=I.lstM hB;have hsz:its.toArray.size+its2.toArray.size<=sizeLine:=by rw[List.size_toArray,List.size_toArray];omega
 have hlong:¬(!its.toArray.isEmpty&&Builtin.List.listTooLong (its.toArray.size+its2.toArray.size))=true:=by
  rw[b0c hsz,Bool.and_false];exact bF0
 refine call_meets F.slot_list_extend ⟨_,e,rfl⟩ F.entry_list_extend (F.args_list_extend_2 _ _)
  (AutoSeq1.list_extend_list_list_0 l its.toArray n b its2.toArray n2 hlong (by rw[List.size_toArray];omega) (by omega)) ⟨e,e2,?_⟩
 refine⟨.non,_,I.lset (its':=its++its2) hH e (by simp) (r.append r2) ?_,rfl,q⟩;rw[lA0]
 omega
def rPop:V->List V->Hp->VK->Prop:=fun x vs H Q=>∃l xs y,x=.ref l/\vs=[]/\H l=some (.lst xs)/\xs[xs.length-1]? =some y/\Q y (upd H l (.lst xs.dropLast))
theorem b6k:MtM X "list.pop" rPop:=by
 intro pins s σ H x vs v us Q I rx rv h;obtain⟨l,xs,y,rfl,rfl,hH,hy,q⟩:=h;cases rx;have hus:=rv.zero;subst hus;obtain⟨z,its,n,r,hl,e⟩:=I.lstM hH;obtain⟨u,hu,ru⟩:=r.get hy;have hy':its.toArray[its.toArray.size-1]? =some u:=by
  show its.toArray[its.length-1]? =some u;rw[<-Array.getElem?_toList,<-hl];exact hu
 refine call_meets F.slot_list_pop ⟨_,e,rfl⟩ F.entry_list_pop (F.args_list_pop_1 _) (MeetsSeq.list_pop_last l its.toArray n u hy' (by rw[List.size_toArray];omega)) ⟨e,?_⟩;refine⟨y,_,I.lset (its':=its.dropLast) hH e ?_ r.dropLast ?_,ru,q⟩
 ·show its.toArray.eraseIdxIfInBounds (its.toArray.size-1)=its.dropLast.toArray
  rw[List.size_toArray,List.eraseIdxIfInBounds_toArray,a8g]
 ·rw[List.length_dropLast]
  omega
def b1S:V->List V->Hp->VK->Prop:=fun x vs H Q=>∃l xs,x=.ref l/\vs=[]/\H l=some (.lst xs)/\Q .non (upd H l (.lst []))
theorem b0M:MtM X "list.clear" b1S:=by
 intro pins s σ H x vs v us Q I rx rv h;obtain⟨l,xs,rfl,rfl,hH,q⟩:=h;cases rx;have hus:=rv.zero;subst hus;obtain⟨z,its,n,r,hl,e⟩:=I.lstM hH;refine call_meets F.slot_list_clear ⟨_,e,rfl⟩ F.entry_list_clear (F.args_list_clear_1 _) (AutoSeq1.list_clear_list_0 l its.toArray n (by rw[List.size_toArray];omega)) ⟨e,?_⟩;exact⟨.non,_,I.lset (its':=[]) (ys:=[]) hH e rfl .nil (zL0 _),rfl,q⟩
def rCat:R2:=fun x y H Q=>∃l b xs zs,x=.ref l/\y=.ref b/\H l=some (.lst xs)/\H b=some (.lst zs)/\xs.length+zs.length<=sizeLine/\∀p,H p=none->Q (.ref p) (upd H p (.lst (xs++zs)))
theorem b1F:OpR X (binaryOp .Add) rCat:=by
 intro pins s σ H x y v u Q I rx ry h;obtain⟨l,b,xs,zs,rfl,rfl,hH,hB,hz,q⟩:=h;cases rx;cases ry;obtain⟨z,its,n,r,hl,e⟩:=I.lstM hH;obtain⟨z2,its2,n2,r2,hl2,e2⟩:=I.lstM hB;refine PySem.P.add_list e e2 ?_ (by rw[List.size_toArray,List.size_toArray];omega);have ea:its.toArray++its2.toArray=(its++its2).toArray:=by simp
 rw[ea];exact⟨.ref _,_,I.lnew (t':=s.toks) (r.append r2) (by rw[lA0];omega),rfl,q _ I.fresh⟩
end
section
variable {prog:Program}{w:World}{A:Around}{E:Vs0}{s:Shared}
set_option maxRecDepth 100000 in
end
section
variable {κ:Type}[DecidableEq κ]
def a1K (kvs:List (κ×V))(k:κ):Option V:=(kvs.find? fun kv=>decide (kv.1=k)).map (·.2)
def a4w (kvs:List (κ×V))(k:κ)(v:V):List (κ×V):=
 if (kvs.any fun kv=>decide (kv.1=k))=true then kvs.map (fun kv=>if kv.1=k then(kv.1,v) else kv) else kvs++[(k,v)]
def a2m (kvs:List (κ×V))(k:κ):List (κ×V):=kvs.filter fun kv=>decide (kv.1≠k)
theorem a1g {p:κ×V}{r:List (κ×V)}{k:κ}(e:p.1=k):a1K (p::r) k=some p.2:=by simp[a1K,List.find?_cons,e]
theorem a1B {p:κ×V}{r:List (κ×V)}{k:κ}(e:¬p.1=k):a1K (p::r) k=a1K r k:=by simp[a1K,List.find?_cons,e]
theorem a4Z (k:κ):∀kvs:List (κ×V),(kvs.any fun kv=>decide (kv.1=k))=(a1K kvs k).isSome
 |[]=>rfl
 |p::r=>by
  rw[List.any_cons]
  by_cases e:p.1=k
  ·simp only[a1g e,dT0 e,Bool.true_or,Option.isSome_some]
  ·rw[a1B e,dF0 e,Bool.false_or];exact a4Z k r
theorem a2S (kvs:List (κ×V))(k:κ)(v:V):(a4w kvs k v).length<=kvs.length+1:=by
 unfold a4w
 split
 ·rw[lM0];omega
 ·rw[lA0,List.length_cons,List.length_nil];omega
theorem a2e {kvs:List (κ×V)}{k:κ}(v:V)(h:a1K kvs k=none):a4w kvs k v=kvs++[(k,v)]:=by
 unfold a4w;rw[a4Z,h];exact if_neg (by decide)
theorem a6e.isSome_eq {o:Option V}{u:Option Value}(r:a6e o u):o.isSome=u.isSome:=by
 cases o with
 |none=>cases u with
  |none=>rfl
  |some _=>exact(show False from r).elim
 |some _=>cases u with
  |none=>exact(show False from r).elim
  |some _=>rfl
theorem KV.val {kvs:List (κ×V)}{vs:List (κ×Value)}(r:KV kvs vs)(k:κ):a6e (a1K kvs k) (valueAt vs k):=by
 unfold KV at r
 induction r with
 |nil=>exact True.intro
 |@cons p q ps qs h t ih=>
  obtain⟨h1,h2⟩:=h
  by_cases e:p.1=k
  ·have e':q.1=k:=h1.symm.trans e
   have b:valueAt (q::qs) k=some q.2:=by simp[valueAt,List.find?_cons,e']
   rw[a1g e,b];exact h2
  ·have e':¬q.1=k:=fun z=>e (h1.trans z)
   have b:valueAt (q::qs) k=valueAt qs k:=by simp[valueAt,List.find?_cons,e']
   rw[a1B e,b];exact ih
theorem KV.any {kvs:List (κ×V)}{vs:List (κ×Value)}(r:KV kvs vs)(k:κ):(kvs.any fun kv=>decide (kv.1=k))=vs.any fun kv=>decide (kv.1=k):=by
 unfold KV at r
 induction r with
 |nil=>rfl
 |cons h t ih=>rw[List.any_cons,List.any_cons,ih,h.1]
theorem KV.repl {kvs:List (κ×V)}{vs:List (κ×Value)}(r:KV kvs vs)(k:κ){y:V}{u:Value}(ry:a0Z y u) :
  KV (kvs.map fun kv=>if kv.1=k then(kv.1,y) else kv) (vs.map fun kv=>if kv.1=k then(kv.1,u) else kv):=by
 unfold KV at r ⊢
 induction r with
 |nil=>exact .nil
 |@cons p q ps qs h t ih=>
  rw[mN0,mN0];refine .cons ?_ ih;obtain⟨h1,h2⟩:=h
  by_cases e:p.1=k
  ·rw[if_pos e,if_pos (h1.symm.trans e)];exact⟨h1,ry⟩
  ·rw[if_neg e,if_neg (fun z=>e (h1.trans z))];exact⟨h1,h2⟩
theorem KV.put {kvs:List (κ×V)}{vs:List (κ×Value)}(r:KV kvs vs)(k:κ){y:V}{u:Value}(ry:a0Z y u):KV (a4w kvs k y) (stored vs k u):=by
 unfold a4w stored;rw[r.any k]
 by_cases e:(vs.any fun kv=>decide (kv.1=k))=true
 ·rw[if_pos e,if_pos e];exact r.repl k ry
 ·rw[if_neg e,if_neg e];exact Paired.snoc r ⟨rfl,ry⟩
theorem KV.drop {kvs:List (κ×V)}{vs:List (κ×Value)}(r:KV kvs vs)(k:κ):KV (a2m kvs k) (without vs k):=by
 unfold KV at r ⊢;unfold a2m without
 induction r with
 |nil=>exact .nil
 |@cons p q ps qs h t ih=>
  obtain⟨h1,h2⟩:=h;rw[List.filter_cons,List.filter_cons]
  by_cases e:p.1=k
  ·have a:¬decide (p.1≠k)=true:=by simp[e]
   have b:¬decide (q.1≠k)=true:=by simp[h1.symm.trans e]
   rw[if_neg a,if_neg b];exact ih
  ·have e':¬q.1=k:=fun z=>e (h1.trans z)
   have a:decide (p.1≠k)=true:=by simp[e]
   have b:decide (q.1≠k)=true:=by simp[e']
   rw[if_pos a,if_pos b];exact .cons ⟨h1,h2⟩ ih
theorem KV.length {kvs:List (κ×V)}{vs:List (κ×Value)}(r:KV kvs vs):kvs.length=vs.length:=Paired.length r
theorem a7i (kvs:List (κ×V))(k:κ):(a2m kvs k).length<=kvs.length:=List.length_filter_le _ _
end
theorem a4I {P:Program}{w:World}{k:Key}{u:Value}(r:a0Z (kV k) u):(a0z P w).is k u=true:=by
 cases k with
 |inl i=>obtain⟨t,e⟩:=(show ∃t,u=Value.int i t from r);subst e;exact a6B P w i t
 |inr x=>obtain⟨t,e⟩:=(show ∃t,u=Value.str x t from r);subst e;exact a6N P w x t
theorem a6f {P:Program}{w:World}:∀{ks:List Key} {us:List Value},a1c (ks.map kV) us->ItemsAre (a0z P w) ks us
 |[],_,r=>by rw[List.map_nil] at r;cases r;exact .nil
 |k::ks,_,r=>by
  rw[mN0] at r;cases r with
  |cons h t=>exact .cons (a4I h) (a6f t)
abbrev KT (H:Hp):List (List Key×V)->List (List Key×Addr×Value)->Prop:=Paired fun p q=>p.1=q.1/\H q.2.1=some (.tup (p.1.map kV))/\a0Z p.2 q.2.2
theorem KT.val {H:Hp}{kvs:List (List Key×V)}{xs:List (List Key×Addr×Value)}(r:KT H kvs xs)(k:List Key):a6e (a1K kvs k) ((atKey xs k).map (·.2)):=by
 induction r with
 |nil=>exact True.intro
 |@cons p q ps qs h t ih=>
  obtain⟨h1,_,h2⟩:=h
  by_cases e:p.1=k
  ·have e':q.1=k:=h1.symm.trans e
   have b:atKey (q::qs) k=some q.2:=by simp[atKey,List.find?_cons,e']
   rw[a1g e,b];exact h2
  ·have e':¬q.1=k:=fun z=>e (h1.trans z)
   have b:atKey (q::qs) k=atKey qs k:=by simp[atKey,List.find?_cons,e']
   rw[a1B e,b];exact ih
theorem KT.repl {H:Hp}{kvs:List (List Key×V)}{xs:List (List Key×Addr×Value)}(r:KT H kvs xs)(k:List Key){y:V}{u:Value}(ry:a0Z y u) :
  KT H (kvs.map fun kv=>if kv.1=k then(kv.1,y) else kv) (xs.map (putAt k u)):=by
 induction r with
 |nil=>exact .nil
 |@cons p q ps qs h t ih=>
  rw[mN0,mN0];refine .cons ?_ ih;obtain⟨h1,h2,h3⟩:=h;unfold putAt
  by_cases e:p.1=k
  ·rw[if_pos e,if_pos (h1.symm.trans e)];exact⟨h1,h2,ry⟩
  ·rw[if_neg e,if_neg (fun z=>e (h1.trans z))];exact⟨h1,h2,h3⟩
theorem KT.put {H:Hp}{kvs:List (List Key×V)}{xs:List (List Key×Addr×Value)}(r:KT H kvs xs)(k:List Key){b:Addr}{y:V}{u:Value}(hb:H b=some (.tup (k.map kV)))(ry:a0Z y u) :
  KT H (a4w kvs k y) (storedH xs k b u):=by
 have e:(kvs.any fun kv=>decide (kv.1=k))=(atKey xs k).isSome:=by
  rw[a4Z,(r.val k).isSome_eq,Option.isSome_map]
 unfold a4w storedH;rw[e]
 by_cases q:(atKey xs k).isSome=true
 ·rw[if_pos q,if_pos q];exact r.repl k ry
 ·rw[if_neg q,if_neg q];exact Paired.snoc r ⟨rfl,hb,ry⟩
theorem KT.keeps {H H':Hp}{kvs:List (List Key×V)}{xs:List (List Key×Addr×Value)}(r:KT H kvs xs)(ht:∀b ys,H b=some (.tup ys)->H' b=some (.tup ys)):KT H' kvs xs:=
 Paired.mapP r fun _ _ z=>⟨z.1,ht _ _ z.2.1,z.2.2⟩
section
variable {P:Program}{w:World}{H:Hp}{h:Heap}{a:Addr}
theorem b4v {u:HO}(ok:HOk P w H h)(e:Rd H a u):a1l P w H h a u:=e.ok ok
theorem a4a {kvs:List (Key×V)}(ok:HOk P w H h)(e:Rd H a (.dK kvs)):kvs.length<=sizeLine/\(a==sysModules)=false/\∃vs,KV kvs vs/\h.DictOf (a0z P w) a vs:=
 show a1l P w H h a (.dK kvs) from b4v ok e
theorem a6t {kvs:List (Key×V)}(ok:HOk P w H h)(e:H a=some (.dK kvs)):kvs.length<=sizeLine/\(a==sysModules)=false/\∃vs,KV kvs vs/\h.DictOf (a0z P w) a vs:=a4a ok (.inl e)
theorem a5W {ks:List Key}(ok:HOk P w H h)(e:H a=some (.tup (ks.map kV))):(tupleKind (a0z P w)).is h ks a:=by
 obtain⟨_,its,r,o,h1,h2,n,h3⟩:=(show a1l P w H h a (.tup (ks.map kV)) from ok a _ e);exact⟨o,its.toArray,n,h1,h2,h3,by simpa using a6f r⟩
theorem a8a {kvs:List (List Key×V)}(ok:HOk P w H h)(e:Rd H a (.dT kvs)):kvs.length<=sizeLine/\(a==sysModules)=false ∧
  ∃xs,KT H kvs xs/\h.DictOfH (tupleKind (a0z P w)) a xs:=by
 obtain⟨z,y,xs,r,o,es,ep,h1,h2,h3,h4,h5⟩:=(show a1l P w H h a (.dT kvs) from b4v ok e);refine⟨z,y,xs,r,o,es,ep,h1,h2,h3,h4,fun x hx=>?_,h5⟩;have all:∀{l:List (List Key×V)} {m:List (List Key×Addr×Value)},KT H l m->∀x∈m,(tupleKind (a0z P w)).is h x.1 x.2.1:=by
  intro l m q
  induction q with
  |nil=>intro x hx;exact nomatch hx
  |@cons p q ps qs hq t ih=>
   intro x hx;rcases mK0.mp hx with e |hx
   ·subst e
    exact a5W ok (by rw[<-hq.1];exact hq.2.1)
   ·exact ih x hx
 exact all r x hx
theorem b5i {kvs:List (List Key×V)}(ok:HOk P w H h)(e:H a=some (.dT kvs)):kvs.length<=sizeLine/\(a==sysModules)=false ∧
  ∃xs,KT H kvs xs/\h.DictOfH (tupleKind (a0z P w)) a xs:=a8a ok (.inl e)
end
def b2S (H:Hp)(a:Addr)(y:V)(r:Option V):Prop:=
 (∃kvs k,Rd H a (.dK kvs)/\y=kV k/\r=a1K kvs k)\/∃kvs k b,Rd H a (.dT kvs)/\y=.ref b/\H b=some (.tup (k.map kV))/\r=a1K kvs k
def a5w (H:Hp)(a:Addr)(y v:V)(H':Hp):Prop:=
 (∃kvs k,H a=some (.dK kvs)/\y=kV k/\kvs.length<sizeLine/\H'=upd H a (.dK (a4w kvs k v))) ∨
 ∃kvs k b,H a=some (.dT kvs)/\y=.ref b/\H b=some (.tup (k.map kV))/\kvs.length<sizeLine/\H'=upd H a (.dT (a4w kvs k v))
theorem a5w.k {H:Hp}{a:Addr}{kvs:List (Key×V)}{k:Key}{v:V}(e:H a=some (.dK kvs))(hl:kvs.length<sizeLine):a5w H a (kV k) v (upd H a (.dK (a4w kvs k v))):=.inl ⟨kvs,k,e,rfl,hl,rfl⟩
section
variable {X:Cx}{pins:List (Addr×Obj)}{σ:St}{H:Hp}{s:Shared}{a:Addr}{y v:V}{u r:Value}{o:Option V}{A:Around}{E:Vs0}
theorem Inv.big (I:Inv X pins σ H s):sysModules<s.heap.objs.size:=by
 have h:mainGlobals<s.heap.objs.size:=(I.mod.glob.keeps I.bk).lt;exact Nat.lt_trans (by decide) h
theorem a9w {Q:Vs0}(hu:A.units+1<cLine)(I:Inv X pins σ H s)(g:b2S H a y (some v))(ry:a0Z y u)(h:∀w' s',Inv X pins σ H s'->a0Z v w'->Q w' s') :
  wpAny (model X.prog X.w) A (getItem (.ref a) u) Q E s:=by
 rcases g with ⟨kvs,k,e,ey,l⟩ |⟨kvs,k,b,e,ey,eb,l⟩
 ·subst ey
  obtain⟨z,hd,vs,rel,dd⟩:=a4a I.hok e;obtain⟨w',hw,rw'⟩:=a6e.some_of (v:=v) (o:=valueAt vs k) (by rw[l];exact rel.val k);exact wpAny_getItem_of (a4I ry) dd.mapOf hw (h w' _ (I.tok _) rw')
 ·subst ey
  cases(show u=Value.ref b from ry)
  obtain⟨z,hd,xs,rel,dd⟩:=a8a I.hok e;obtain⟨w',hw,rw'⟩:=a6e.some_of (v:=v) (o:=(atKey xs k).map (·.2)) (by rw[l];exact rel.val k);obtain⟨p,hp,hp2⟩:=Option.map_eq_some_iff.mp hw;refine wpAny_getItem_heap (tupleKind_room_in1 hu) (a5W I.hok eb) dd hp ?_;rw[hp2];exact h w' _ (I.tok _) rw'
theorem d_in {Q:Vs0}(hu:A.units+1<cLine)(I:Inv X pins σ H s)(g:b2S H a y o)(ry:a0Z y u)(h:∀s',Inv X pins σ H s'->Q (.bool o.isSome) s') :
  wpAny (model X.prog X.w) A (compareOp .In u (.ref a)) Q E s:=by
 rcases g with ⟨kvs,k,e,ey,l⟩ |⟨kvs,k,b,e,ey,eb,l⟩
 ·subst ey
  obtain⟨z,hd,vs,rel,dd⟩:=a4a I.hok e;refine wpAny_in_of (a4I ry) hd dd.mapOf ?_;rw[<-(rel.val k).isSome_eq,<-l];exact h _ (I.tok _)
 ·subst ey
  cases(show u=Value.ref b from ry)
  obtain⟨z,hd,xs,rel,dd⟩:=a8a I.hok e;refine wpAny_in_heap (tupleKind_room_in1 hu) (a5W I.hok eb) hd dd ?_;have q:=(rel.val k).isSome_eq;rw[Option.isSome_map] at q;rw[<-q,<-l];exact h _ (I.tok _)
theorem b2k {Q:Vs0}(hu:A.units+1<cLine)(I:Inv X pins σ H s)(g:b2S H a y o)(ry:a0Z y u)(h:∀s',Inv X pins σ H s'->Q (.bool (!o.isSome)) s') :
  wpAny (model X.prog X.w) A (compareOp .NotIn u (.ref a)) Q E s:=by
 rcases g with ⟨kvs,k,e,ey,l⟩ |⟨kvs,k,b,e,ey,eb,l⟩
 ·subst ey
  obtain⟨z,hd,vs,rel,dd⟩:=a4a I.hok e;refine wpAny_notIn_of (a4I ry) hd dd.mapOf ?_;rw[<-(rel.val k).isSome_eq,<-l];exact h _ (I.tok _)
 ·subst ey
  cases(show u=Value.ref b from ry)
  obtain⟨z,hd,xs,rel,dd⟩:=a8a I.hok e;refine wpAny_notIn_heap (tupleKind_room_in1 hu) (a5W I.hok eb) hd dd ?_;have q:=(rel.val k).isSome_eq;rw[Option.isSome_map] at q;rw[<-q,<-l];exact h _ (I.tok _)
theorem a3m {h':Heap}{t':Nat}{ob:HO}(I:Inv X pins σ H s)(mu:Mut (H a))(hs:Heap.SameBut a s.heap h')(he:∃q,h'.get? a=some q)(new:a1l X.prog X.w (upd H a ob) h' a ob) :
  Inv X pins σ (upd H a ob) { s with heap:=h',toks:=t' }:=
 I.write (x:=a) (e:=a) mu (.inl rfl) (fun b q hb z=>(hs.2 b hb).trans z) he new
theorem a3W {P:Program}{w:World}{H':Hp}{h':Heap}{kvs:List (Key×V)}{vs:List (Key×Value)}(z:kvs.length<=sizeLine)(hd:(a==sysModules)=false)(rel:KV kvs vs)(dd:h'.DictOf (a0z P w) a vs) :
  a1l P w H' h' a (.dK kvs):=⟨z,hd,vs,rel,dd⟩
theorem a8E {H':Hp}{Q:Unit->Shared->Prop}(hu:A.units+1<cLine)(I:Inv X pins σ H s)(g:a5w H a y v H')(ry:a0Z y u)(rv:a0Z v r)(h:∀s',Inv X pins σ H' s'->Q () s') :
  wpAny (model X.prog X.w) A (setItem (.ref a) u r) Q E s:=by
 rcases g with ⟨kvs,k,e,ey,l,eH⟩ |⟨kvs,k,b,e,ey,eb,l,eH⟩
 ·subst ey eH
  obtain⟨z,hd,vs,rel,dd⟩:=a6t I.hok e;have hz:vs.length<=sizeLine:=by rw[<-rel.length];exact z
  have hl:(a4w kvs k v).length<=sizeLine:=by have:=a2S kvs k v;omega
  refine wpAny_setItem_pairs (hsz:=hz) (a4I ry) dd fun h' dd' hs=>h _ ?_;have he:∃q,h'.get? a=some q:=let ⟨q,_,_,hq,_⟩:=dd';⟨q,hq⟩
  exact a3m I (by rw[e];exact True.intro) hs he (a3W hl hd (rel.put k rv) dd')
 ·subst ey eH
  cases(show u=Value.ref b from ry)
  obtain⟨z,hd,xs,rel,dd⟩:=b5i I.hok e;have hz:xs.length<=sizeLine:=by rw[<-Paired.length rel];exact z
  have hl:(a4w kvs k v).length<=sizeLine:=by have:=a2S kvs k v;omega
  refine wpAny_setItem_heap (hsz:=hz) (tupleKind_room_in1 hu) (a5W I.hok eb) dd fun h' dd' hs=>h _ ?_;obtain⟨q,es,ep,hq,h2,h3,h4,_,h5⟩:=dd';refine a3m I (by rw[e];exact True.intro) hs ⟨q,hq⟩ ⟨hl,hd,_,(rel.put k eb rv).keeps fun c ys ec=>?_,q,es,ep,hq,h2,h3,h4,h5⟩;rw[a0g (b4Y ec e (fun z=>nomatch z))];exact ec
end
section
variable {X:Cx}{pins:List (Addr×Obj)}{σ:St}{H:Hp}{s:Shared}{a:Addr}{kvs:List (Key×V)}{k:Key}{u:Value}{A:Around}{E:Vs0}
theorem b3m {Q:Unit->Shared->Prop}(I:Inv X pins σ H s)(e:H a=some (.dK kvs))(ry:a0Z (kV k) u)(l:(a1K kvs k).isSome=true)(h:∀s',Inv X pins σ (upd H a (.dK (a2m kvs k))) s'->Q () s') :
  wpAny (model X.prog X.w) A (delItem (.ref a) u) Q E s:=by
 obtain⟨z,hd,vs,rel,dd⟩:=a6t I.hok e;refine wpAny_delItem_slot dd.typeIs (by decide) PySem.F.slot_dict_delitem
  (call_meetsIn PySem.F.slot_dict_delitem dd.typeIs PySem.F.entry_dict_delitem (PySem.F.args_dict_delitem_2 _ _) (meets_dict_delitem_pairs (a0z X.prog X.w) a (a4I ry)) ⟨vs,dd,by rw[<-rel.length];exact z,by rw[<-(rel.val k).isSome_eq];exact l,fun h' dd' hs=>h _ ?_⟩)
 have he:∃q,h'.get? a=some q:=let ⟨q,_,_,hq,_⟩:=dd';⟨q,hq⟩
 exact a3m I (by rw[e];exact True.intro) hs he (a3W (Nat.le_trans (a7i kvs k) z) hd (rel.drop k) dd')
theorem b5w {v:V}{more:List Value}{Q:Vs0}(I:Inv X pins σ H s)(e:H a=some (.dK kvs))(ry:a0Z (kV k) u)(l:a1K kvs k=some v)(hm:more=[]\/∃x,more=[x])
  (h:∀w' s',Inv X pins σ (upd H a (.dK (a2m kvs k))) s'->a0Z v w'->Q w' s'):wpAny (model X.prog X.w) A (call (.builtin "dict.pop") (.ref a::u::more)) Q E s:=by
 obtain⟨z,hd,vs,rel,dd⟩:=a6t I.hok e;obtain⟨w',hw,rw'⟩:=a6e.some_of (v:=v) (o:=valueAt vs k) (by rw[<-l];exact rel.val k);have hp:(keyPart u).isSome=true:=by
  cases k with
  |inl i=>obtain⟨t,q⟩:=(show ∃t,u=Value.int i t from ry);subst q;rfl
  |inr x=>obtain⟨t,q⟩:=(show ∃t,u=Value.str x t from ry);subst q;rfl
 have ha:argsOk "dict.pop" ⟨.ref a::u::more,[]⟩:=by
  rcases hm with q |⟨x,q⟩
  ·subst q;exact PySem.F.args_dict_pop_2 _ _
  ·subst q;exact PySem.F.args_dict_pop_3 _ _ _
 refine call_meetsIn PySem.F.slot_dict_pop dd.typeIs PySem.F.entry_dict_pop ha (meets_dict_pop_there (a0z X.prog X.w) a (a4I ry) more hm hp)
  ⟨vs,w',dd,by rw[<-rel.length];exact z,hw,fun h' dd' hs=>h w' _ ?_ rw'⟩
 have he:∃q,h'.get? a=some q:=let ⟨q,_,_,hq,_⟩:=dd';⟨q,hq⟩
 exact a3m I (by rw[e];exact True.intro) hs he (a3W (Nat.le_trans (a7i kvs k) z) hd (rel.drop k) dd')
theorem b3e {Q:Vs0}(I:Inv X pins σ H s)(e:H a=some (.dK kvs))(h:∀s',Inv X pins σ (upd H a (.dK [])) s'->Q .none s'):wpAny (model X.prog X.w) A (call (.builtin "dict.clear") [.ref a]) Q E s:=by
 obtain⟨z,hd,vs,rel,dd⟩:=a6t I.hok e;refine call_meetsIn PySem.F.slot_dict_clear dd.typeIs PySem.F.entry_dict_clear (PySem.F.args_dict_clear_1 _) (meets_dict_clear (a0z X.prog X.w) a) ⟨vs,dd,by rw[<-rel.length];exact z,fun h' dd' hs=>h _ ?_⟩;have he:∃q,h'.get? a=some q:=let ⟨q,_,_,hq,_⟩:=dd';⟨q,hq⟩
 exact a3m (t':=s.toks) I (by rw[e];exact True.intro) hs he (a3W (zL0 _) hd .nil dd')
theorem b5j {Q:Vs0}(I:Inv X pins σ H s)(e:Rd H a (.dK kvs))(h:∀t s',Inv X pins σ H s'->Q (.int kvs.length t) s'):wpAny (model X.prog X.w) A (call (.builtin "len") [.ref a]) Q E s:=by
 obtain⟨z,hd,vs,rel,dd⟩:=a4a I.hok e;refine call_len_dict hd dd (by rw[<-rel.length];rw[sizeLine_eq] at z;omega) ?_;rw[<-rel.length];exact h _ _ (I.tok _)
end
def b5Y (i:Expr):Prop:=∀ov iv,subscripted i false ov iv=operate [ov,iv] (getItem ov iv)
theorem b2Q {prog:Program}{w:World}{A:Around}{E:Vs0}{s:Shared}{env:Env}{value slice:Expr}{pos:Pos}{T id:String}{Q:Vs0}
  (hl:typeLookup (.type T) "__getitem__"=pure (some (.builtin id))) (hs:b5Y slice)
  (h:wpAny (model prog w) A (eval value env) (fun o s₁=>wpAny (model prog w) A (eval slice env) (fun i s₂=>s₂.TypeIs o T/\wpAny (model prog w) A (getItem o i) Q E s₂) E s₁) E s) :
  wpAny (model prog w) A (eval (.Subscript value slice pos) env) Q E s:=by
 refine Subscript_ (wpAny_mono h (fun o s₁ h₁=>wpAny_mono h₁ (fun i s₂ h₂=>?_) fun _ _ x=>x) fun _ _ x=>x);obtain⟨hT,h₂⟩:=h₂;unfold subscriptTail;refine wB0 ?_;rw[getitemInPython_of_ne hT.not_modules];refine wB0 (wpAny_specialOf hT hl ?_);have fin:wpAny (model prog w) A (subscripted slice false o i) (fun r s₃=>wpAny (model prog w) A (letTemporaryGo value o r >>= fun _=>pure r) Q E s₃) E s₂:=by
  rw[hs o i];exact wpAny_operating (wpAny_mono h₂ (fun r s₃ h₃=>wB0 (wpAny_letTemporaryGo (wP0 h₃))) fun _ _ x=>x)
 first
  |exact wP0 (wB0 fin)
  |exact wB0 (wP0 (wB0 fin))
  |exact wB0 fin
theorem a6u {X:Cx}{pins:List (Addr×Obj)}{σ:St}{H:Hp}{s:Shared}{a:Addr}{y:V}{o:Option V}(I:Inv X pins σ H s)(g:b2S H a y o):s.TypeIs (.ref a) "dict":=by
 rcases g with ⟨kvs,k,e,_,_⟩ |⟨kvs,k,b,e,_,_,_⟩
 ·obtain⟨_,_,vs,_,dd⟩:=a4a I.hok e
  exact dd.typeIs
 ·obtain⟨_,_,xs,_,dd⟩:=a8a I.hok e
  exact dd.typeIs
def b4W (td ty:TE):TE:=fun σ H Q=>td σ H fun x H1=>ty σ H1 fun y H2=>∃a v,x=.ref a/\b2S H2 a y (some v)/\Q v H2
def tDIn (ty td:TE):TE:=fun σ H Q=>ty σ H fun y H1=>td σ H1 fun x H2=>∃a o,x=.ref a/\b2S H2 a y o/\Q (.bl o.isSome) H2
def b2N (ty td:TE):TE:=fun σ H Q=>ty σ H fun y H1=>td σ H1 fun x H2=>∃a o,x=.ref a/\b2S H2 a y o/\Q (.bl (!o.isSome)) H2
def b4S (td ty tv:TE):TS:=fun D σ H=>tv σ H fun v H1=>td σ H1 fun x H2=>ty σ H2 fun y H3=>∃a H4,x=.ref a/\a5w H3 a y v H4/\D.nx σ H4
section
variable {X:Cx}{o i e value:Expr}{pos pos' tpos:Pos}{td ty tv:TE}
theorem a1F (hu:X.A.units+1<cLine)(ho:PE X o td)(hi:PE X i ty)(hs:b5Y i):PE X (.Subscript o i pos) (b4W td ty):=by
 intro pins s σ H Q I h;refine b2Q PySem.F.slot_dict_getitem.lookup hs (thn (ho pins s σ H _ I h) fun u s1 ⟨x,H1,I1,rx,q1⟩=>thn (hi pins s1 σ H1 _ I1 q1) fun iv s2 ⟨y,H2,I2,ry,a,v,ex,g,q2⟩=>?_);subst ex;obtain rfl:u=Value.ref a:=rx;exact⟨a6u I2 g,a9w hu I2 g ry fun w' s3 I3 rw'=>⟨v,H2,I3,rw',q2⟩⟩
theorem b3O (hu:X.A.units+1<cLine)(hi:PE X i ty)(ho:PE X o td):PC X .In i o (tDIn ty td):=by
 intro pins s σ H Q I h;refine thn (hi pins s σ H _ I h) fun iv s1 ⟨y,H1,I1,ry,q1⟩=>thn (ho pins s1 σ H1 _ I1 q1) fun u s2 ⟨x,H2,I2,rx,a,ov,ex,g,q2⟩=>?_;subst ex;obtain rfl:u=Value.ref a:=rx;exact d_in hu I2 g ry fun s3 I3=>⟨.bl ov.isSome,H2,I3,rfl,q2⟩
theorem a6j (hu:X.A.units+1<cLine)(hi:PE X i ty)(ho:PE X o td):PC X .NotIn i o (b2N ty td):=by
 intro pins s σ H Q I h;refine thn (hi pins s σ H _ I h) fun iv s1 ⟨y,H1,I1,ry,q1⟩=>thn (ho pins s1 σ H1 _ I1 q1) fun u s2 ⟨x,H2,I2,rx,a,ov,ex,g,q2⟩=>?_;subst ex;obtain rfl:u=Value.ref a:=rx;exact b2k hu I2 g ry fun s3 I3=>⟨.bl (!ov.isSome),H2,I3,rfl,q2⟩
theorem a1y (hu:X.A.units+1<cLine)(ho:PE X o td)(hi:PE X i ty)(hv:PE X value tv)(hs:swapsWith value (some (.Subscript o i pos')) pos.line X.env=pure false) :
  PS X (.Assign [.Subscript o i pos'] value pos) (b4S td ty tv):=by
 intro pins s σ H D I h;refine wpAny_Assign_Subscript (thn (hv pins s σ H _ I h) fun r s1 ⟨v,H1,I1,rv,q1⟩=>thn (ho pins s1 σ H1 _ I1 q1) fun u s2 ⟨x,H2,I2,rx,q2⟩=>thn (hi pins s2 σ H2 _ I2 q2) fun iv s3 ⟨y,H3,I3,ry,a,H4,ex,g,q3⟩=>?_) hs;subst ex;obtain rfl:u=Value.ref a:=rx;exact a8E hu I3 g ry rv fun s4 I4=>⟨σ,H4,I4,q3⟩
end
theorem a7u {P:Program}{w:World}{H:Hp}(h:Heap)(hb:sysModules<h.objs.size):a1l P w H (h.push { cls:=.type "dict",data:=.dict #[] }) h.objs.size (.dK []):=
 ⟨zL0 _,beq_eq_false_iff_ne.mpr (Ne.symm (nL0 hb)),[],.nil,Heap.DictOf.new h⟩
def b3w:TE:=fun _ H Q=>∀p,H p=none->Q (.ref p) (upd H p (.dK []))
section
variable {X:Cx}{pos:Pos}
theorem a3z:PE X (.Dict [] [] pos) b3w:=fun pins s σ H Q I h=>
 wpAny_Dict_empty ⟨.ref s.heap.objs.size,_,I.laid (a:=s.heap.objs.size) (o:=.dK []) (t':=s.toks) (fun _ _ q=>hP0 _ q) (nR0 _) (a7u s.heap I.big),rfl,h _ (I.hok.fresh (nR0 _))⟩
end
def a9r:List (TE×TE)->St->Hp->(List (V×V)->Hp->Prop)->Prop
 |[],_,H,Q=>Q [] H
 | (tk,tv)::r,σ,H,Q=>tk σ H fun x H1=>tv σ H1 fun y H2=>a9r r σ H2 fun ps H3=>Q ((x,y)::ps) H3
abbrev VV:List (V×V)->List (Value×Value)->Prop:=Paired fun p q=>a0Z p.1 q.1/\a0Z p.2 q.2
def PPs (X:Cx)(pos:Pos)(keys:List (Option Expr))(values:List Expr)(trs:List (TE×TE)):Prop:=
 ∀(pins:List (Addr×Obj)) (s:Shared) (σ:St) (H:Hp) (Q:List (V×V)->Hp->Prop),Inv X pins σ H s->a9r trs σ H Q →
  wpAny (model X.prog X.w) X.A (evalPairs (pairTrees keys values X.env pos)) (fun vs s'=>∃ps H',Inv X pins σ H' s'/\VV ps vs/\Q ps H') X.xe s
theorem a2t {X:Cx}{pos:Pos}:PPs X pos [] [] []:=fun pins s σ H Q I h=>pairTrees_nil_walk ⟨[],H,I,.nil,h⟩
theorem a1G {X:Cx}{pos:Pos}{k v:Expr}{ks:List (Option Expr)}{vs:List Expr}{tk tv:TE}{trs:List (TE×TE)}(hk:PE X k tk)(hv:PE X v tv)(hr:PPs X pos ks vs trs) :
  PPs X pos (some k::ks) (v::vs) ((tk,tv)::trs):=fun pins s σ H Q I h=>
 pairTrees_cons_walk (thn (hk pins s σ H _ I h) fun u s1 ⟨x,H1,I1,rx,q1⟩=>thn (hv pins s1 σ H1 _ I1 q1) fun w2 s2 ⟨y,H2,I2,ry,q2⟩=>
  thn (hr pins s2 σ H2 _ I2 q2) fun ws s3 ⟨ps,H3,I3,rel,q3⟩=>⟨(x,y)::ps,H3,I3,.cons ⟨rx,ry⟩ rel,q3⟩)
def a0R (kvs more:List (Key×V)):List (Key×V):=more.foldl (fun acc kv=>a4w acc kv.1 kv.2) kvs
theorem KV.merge:∀{more:List (Key×V)} {rs:List (Key×Value)} {kvs:List (Key×V)} {vs:List (Key×Value)},KV more rs->KV kvs vs->KV (a0R kvs more) (merged vs rs):=by
 intro more rs kvs vs r;unfold KV at r
 induction r generalizing kvs vs with
 |nil=>intro q;exact q
 |@cons p q ps qs h t ih=>
  intro r0;have e:KV (a4w kvs p.1 p.2) (stored vs q.1 q.2):=by
   have:=r0.put p.1 h.2
   rw[<-h.1];exact this
  exact ih e
theorem a3g:∀(more kvs:List (Key×V)),(a0R kvs more).length<=kvs.length+more.length
 |[],kvs=>by show kvs.length<=kvs.length+0;omega
 |p::r,kvs=>by
  have h1:=a3g r (a4w kvs p.1 p.2);have h2:=a2S kvs p.1 p.2
  show(a0R (a4w kvs p.1 p.2) r).length<=_
  rw[List.length_cons];omega
theorem a4r {P:Program}{w:World}:∀{kvs:List (Key×V)} {ws:List (Value×Value)},VV (kvs.map fun kv=>(kV kv.1,kv.2)) ws->∃rs,Carries (a0z P w) ws rs/\KV kvs rs
 |[],_,r=>by rw[List.map_nil] at r;cases r;exact⟨[],True.intro,.nil⟩
 |p::kvs,_,r=>by
  rw[mN0] at r;cases r with
  |@cons a b as bs h t=>
   obtain⟨rs,c,q⟩:=a4r (P:=P) (w:=w) t;obtain⟨b1,b2⟩:=b;exact⟨(p.1,b2)::rs,⟨a4I h.1,rfl,c⟩,.cons ⟨rfl,h.2⟩ q⟩
def b5m (trs:List (TE×TE)):TE:=fun σ H Q=>∀p,H p=none->a9r trs σ (upd H p (.dK [])) fun ps H2=>H2 p=some (.dK [])/\∃kvs:List (Key×V),ps=kvs.map (fun kv=>(kV kv.1,kv.2))/\kvs.length<=15/\Q (.ref p) (upd H2 p (.dK (a0R [] kvs)))
theorem a2p {X:Cx}{pos:Pos}{keys:List (Option Expr)}{values:List Expr}{trs:List (TE×TE)}(h:PPs X pos keys values trs)(hall:keys.all (·.isSome)=true)(hl:keys.length=values.length)(h0:keys≠[])
  (h15:keys.length<=15):PE X (.Dict keys values pos) (b5m trs):=by
 intro pins s σ H Q I q;have hn:=I.hok.fresh (nR0 s.heap.objs.size);have I1:=I.laid (a:=s.heap.objs.size) (o:=.dK []) (h':=s.heap.push { cls:=.type "dict",data:=.dict #[] }) (t':=s.toks) (fun _ _ q=>hP0 _ q) (nR0 _) (a7u s.heap I.big);refine wpAny_Dict_walk (knd:=a0z X.prog X.w) hall hl h0 h15 (thn (h pins _ σ _ _ I1 (q _ hn)) fun ws s2 ⟨ps,H2,I2,rel,e,kvs,ep,lk,q2⟩=>?_);subst ep;obtain⟨rs,c,rk⟩:=a4r (P:=X.prog) (w:=X.w) rel;obtain⟨z,hd,vs0,r0,dd⟩:=a6t I2.hok e;cases r0;refine⟨rs,c,dd,fun h' dd' hs=>⟨.ref s.heap.objs.size,_,?_,rfl,q2⟩⟩;have hz:(a0R [] kvs).length<=sizeLine:=by
  have h1:=a3g kvs [];rw[List.length_nil] at h1;rw[sizeLine_eq];omega
 have he:∃q,h'.get? s.heap.objs.size=some q:=let ⟨q,_,_,hq,_⟩:=dd';⟨q,hq⟩
 exact a3m I2 (by rw[e];exact True.intro) hs he (a3W hz hd (rk.merge .nil) dd')
structure M1 (X:Cx) (o:Expr) (m:Str) (apos:Pos) (e:Expr) (cpos:Pos):Prop where
 base:attributeBase o m X.env (eval o X.env)=eval o X.env
 few:((backTo cpos (starEach [e] X.env)).all (fun x=>!x.1)&&(backToKw cpos (keywordEach [] X.env)).all (fun x=>x.1.isSome)
  && decide (([e]:List Expr).length+([]:List Keyword).length+(if ([]:List Keyword).isEmpty then 0 else 1)<30))=true
 line:(apos.endLine==cpos.line)=true
 trees:backTo cpos (starEach [e] X.env)=[(false,eval e X.env)]
def IsD (H:Hp)(a:Addr):Prop:=(∃kvs,Rd H a (.dK kvs))\/∃kvs,Rd H a (.dT kvs)
theorem b4p {X:Cx}{pins:List (Addr×Obj)}{σ:St}{H:Hp}{s:Shared}{a:Addr}(I:Inv X pins σ H s)(d:IsD H a) :
  s.TypeIs (.ref a) "dict"/\(∀b,Value.ref a=.ref b->∃ob,s.heap.get? b=some ob/\ob.dict=none)/\(a==sysModules)=false:=by
 rcases d with ⟨kvs,e⟩ |⟨kvs,e⟩
 ·obtain⟨_,hd,vs,_,dd⟩:=a4a I.hok e
  refine⟨dd.typeIs,fun b q=>?_,hd⟩;cases q;obtain⟨ob,_,_,h1,h2,_⟩:=dd;exact⟨ob,h1,h2.2.1⟩
 ·obtain⟨_,hd,xs,_,dd⟩:=a8a I.hok e
  refine⟨dd.typeIs,fun b q=>?_,hd⟩;cases q;obtain⟨ob,_,_,h1,h2,_⟩:=dd;exact⟨ob,h1,h2.2.1⟩
def b4w (td ty:TE):TE:=fun σ H Q=>td σ H fun x H1=>∃a,x=.ref a/\IsD H1 a/\ty σ H1 fun y H2=>∃kvs k v,H2 a=some (.dK kvs)/\y=kV k/\a1K kvs k=some v/\Q v (upd H2 a (.dK (a2m kvs k)))
section
variable {X:Cx}{o e f:Expr}{apos cpos:Pos}{td ty tx:TE}
theorem a4Y (ho:PE X o td)(he:PE X e ty)(m:M1 X o "pop" apos e cpos):PE X (.Call (.Attribute o "pop" apos) [e] [] cpos) (b4w td ty):=by
 intro pins s σ H Q I h;refine wpAny_Call_method m.base m.few m.line PySem.F.plainAttrs_dict PySem.F.slot_dict_pop PySem.F.type_dict_pop (thn (ho pins s σ H _ I h) fun u s1 ⟨x,H1,I1,rx,a,ex,d,q1⟩=>?_);subst ex;obtain rfl:u=Value.ref a:=rx;obtain⟨t1,t2,_⟩:=b4p I1 d;refine⟨t1,t2,?_⟩;rw[m.trees];refine Calls.callWith_builtin rfl (Calls.evalArgs_plain (Calls.spliced_cons (thn (he pins s1 σ H1 _ I1 q1) fun iv s2 ⟨y,H2,I2,ry,kvs,k,v,ea,ey,l,q2⟩=>Calls.spliced_nil ?_)));subst ey;exact b5w I2 ea ry l (.inl rfl) fun w' s3 I3 rw'=>⟨v,_,I3,rw',q2⟩
end
section
variable {X:Cx}{pins:List (Addr×Obj)}{σ:St}{H:Hp}{s:Shared}{a:Addr}{kvs:List (Key×V)}{A:Around}{E:Vs0}
theorem b0I {Q:Vs0}(I:Inv X pins σ H s)(e:Rd H a (.dK kvs))(h:∀p s',H p=none->Inv X pins σ (upd H p (.dK kvs)) s'->Q (.ref p) s'):wpAny (model X.prog X.w) A (call (.type "dict") [.ref a]) Q E s:=by
 obtain⟨z,hd,vs,rel,dd⟩:=a4a I.hok e;refine kt_call_dict hd dd (by rw[<-rel.length];exact z) fun h' dd' hs=>?_;refine h _ _ (I.hok.fresh (nR0 _)) (I.laid (a:=s.heap.objs.size) (o:=.dK kvs) (t':=s.toks) (fun b q hq=>?_) (nR0 _) (a3W z (beq_eq_false_iff_ne.mpr (Ne.symm (nL0 I.big))) rel dd'));exact(hs.2 b (nL0 (hL0 hq))).trans (hP0 _ hq)
end
end L2
namespace Att
open PySem PySem.W PySem.Calls PyProof.Rows
theorem a3S {P:Params}{h:Heap}:∀(ns:List Int) (vs:List Value),WellAll P h vs (ns.map WData.int)->IntsAre vs ns:=by
 intro ns
 induction ns with
 |nil=>
  intro vs w;rw[List.map_nil] at w;cases w;exact .nil
 |cons n ns ih=>
  intro vs w;rw[mN0] at w;cases w with
  |cons a b=>
   cases a;exact .cons _ _ (ih _ b)
theorem a9W {l:OpenLaw}{n:Nat}(hn:l.most=some n){P:Params}{h:Heap}{args:List WData}{vals:List Value}
  (hpre:l.row.toRowW.claim.pre args=true) (hwl:WellAll P h vals args) :
  ∃a vs ns,vals=[Value.ref a]/\args=[WData.list (ns.map WData.int)]/\h.get? a=some { cls:=.type "list",data:=.seq vs.toArray }/\IntsAre vs ns/\ns.length<=n:=by
 have hsh:WShape.hasAll [] args [.list .int]=true:=(pre_splitW hpre).1;have hc:l.pre.holds [] { args:=args }=true:=(pre_splitW hpre).2;obtain⟨d,r,rfl,h1,h2⟩:=hasAllW_cons hsh;obtain rfl:=hasAllW_nil h2;obtain⟨xs,rfl,h3⟩:=hasW_list h1;obtain⟨ns,rfl⟩:=items_int h3;have hlen:ns.length<=n:=by
  unfold OpenLaw.pre at hc;have h4:(WTm.not (.lt (.lit (.int (n:Int))) (.len (.arg 0)))).holds [] { args:=[.list (ns.map .int)] }=true:=by
   have h4:=(holds_andW hc).1;rw[hn] at h4;exact h4
  have h5:=condW_of h4 (w_not (w_lt w_lit (w_len_list (w_arg rfl))));rw[lM0] at h5;refine Nat.le_of_not_lt fun q=>?_;have q':(n:Int)<((ns.length:Nat):Int):=by omega
  first
   | (rw[dT0 q'] at h5;exact absurd h5 (by decide))
   | (simp at h5;omega)
 cases hwl with
 |cons w1 w2=>
  cases w2;cases w1 with
  |list ho hall=>exact⟨_,_,ns,rfl,rfl,ho,a3S ns _ hall,hlen⟩
theorem a8v (l:OpenLaw)(args:List WData):l.row.toRowW.claim.post args (.bool true) args=true:=
 postW_of (r:=l.row.toRowW) (X:=(true==true))
  (show WShape.has [] (.bool true) .bool=true by first |rfl |decide |simp[WShape.has,WShape.arms,WShape.armsAll])
  (show(WTm.eq .res (.lit (.bool true))).value [] { args:=args,res:=some (.bool true),after:=args }=some (.bool (true==true)) from w_eq_bool (w_res rfl) w_lit) rfl
theorem a4c {l:OpenLaw}{n:Nat}{q:Program}{loose:List Str}{XP:(Str->Option Value)->Heap->Prop}{YP:World->Heap->Prop}{d:DefRec}
  (hn:l.most=some n) (hdf:d.params.defaults=[])
  (call:∀(w:World) (s₀ s₁:Shared) (mg mb:Str->Option Value) (fa:Addr) (o:Obj) (pm cd doc:Value) (a:Addr) (vs:List Value) (ns:List Int),
   Ground q loose [] XP w s₀ mg mb s₁.heap->YP w s₁.heap →
   s₁.heap.get? fa=some o->o.data=.func (docDef d.name d.params d.body d.scope pm cd doc)->s₁.heap.CodeRec cd d.name->mg d.name=some (.ref fa) →
   s₁.heap.get? a=some { cls:=.type "list",data:=.seq vs.toArray }->IntsAre vs ns->ns.length<=n->s₁.gens=#[] →
   codeAny (model l.prog w) callerA (.call (.ref fa) ⟨[.ref a],[]⟩) (fun r s'=>r=.ok (.ret (.bool true))/\OldK s₁.heap s'.heap/\s'.os=s₁.os/\AllBare s'.gens) s₁) :
  WalkO q loose XP YP l.row.toRowW d [] (fun f vs=>PySem.call f vs):=by
 intro w s₀ s₁ mg mb G Y fa o pm cd doc dV kV ho hd hcd hD hmg hg args vals as hpre hlay hrd hwl hlo;obtain rfl:dV=.none:=Dflts.none hD hdf;obtain rfl:kV=.none:=Dflts.noKw hD;obtain⟨a,vs,ns,rfl,rfl,hobj,hints,hlen⟩:=a9W hn hpre hwl;refine enter_call (codeAny_mono (call w s₀ s₁ mg mb fa o pm cd doc a vs ns G Y ho (fd_plain hd) hcd hmg hobj hints hlen hg) fun r s' hq=>?_);obtain⟨rfl,h2,h3,h4⟩:=hq;exact⟨.inl ⟨.bool true,.bool true,[],rfl,fun _=>rfl,.bool true,a8v l _,fun _=>⟨List.Pairwise.nil,fun _ hm=>(nomatch hm)⟩⟩,h2,h3,h4⟩
end Att
namespace L2
open PySem PySem.Spec PyProof.Rows
theorem a3L:∀{vs:List Value} {ns:List Int},IntsAre vs ns->a1c (ns.map V.int) vs
 |_,_,.nil=>.nil
 |_,_,.cons n t h=>.cons ⟨t,rfl⟩ (a3L h)
def b5N (H:Hp):Prop:=∀b,H b=none\/∃o xs,H b=some (.frz o (.lst xs))
theorem b0Q {P:Program}{w:World}{K:Fg0}{mg mb:Str->Option Value}{CX:CXT}{k:Nat}{fa a:Addr}{fd:FuncData}{x:Str}{sp:Sp}{s₁:Shared}{vs:List Value}{ns:List Int}
  (KX:K.In s₁.heap) (hns:s₁.heap.Ns mainGlobals mg) (hb:s₁.heap.Ns builtinsNs mb) (hbb:∀x:Str,x≠"__name__"->mb x=bootBuiltins x) (hlim:s₁.heap.NoLimit) (hg:s₁.gens=#[])
  (ha:s₁.heap.get? a=some { cls:=.type "list",data:=.seq vs.toArray }) (hi:IntsAre vs ns) (hl:ns.length<=sizeLine) (hr:a1r k callerA)
  (F:∀base:Heap,K.In base->base.Ns mainGlobals mg->a0F P w K mg base CX k fa fd [x] sp) (hbind:∀(s:Shared) (u:Value),BindsTo s fd ⟨[u],[]⟩ [(x,u)])
  (hsp:∀H:Hp,b5N H->SqL K H a (ns.map V.int)->sp [.ref a] H (fun v _=>v=.bl true) fun _ _ _=>False)
  (hCX:∀H e s',CX [] H s₁ (fun _ _ _=>False) e s'->False) :
  codeAny (model P w) callerA (.call (.ref fa) ⟨[.ref a],[]⟩) (fun r s'=>r=.ok (.ret (.bool true))/\OldK s₁.heap s'.heap/\s'.os=s₁.os/\AllBare s'.gens) s₁:=by
 have rv:=a3L hi;have lenV:=hi.length;have core:∀H:Hp,b5N H->SqL K H a (ns.map V.int)->HOk P w H s₁.heap->(∀b,H b≠none->b=a)->(H a≠none->K.lookup a=none) →
   codeAny (model P w) callerA (.call (.ref fa) ⟨[.ref a],[]⟩) (fun r s'=>r=.ok (.ret (.bool true))/\OldK s₁.heap s'.heap/\s'.os=s₁.os/\AllBare s'.gens) s₁:=by
  intro H hO hS hok hA hK;have base_of:∀{b:Addr} {o:Obj},s₁.heap.get? b=some o->H b=none->(a6I s₁.heap H).get? b=some o:=fun e n=>a7p e n;have noA:∀{b:Addr} {o:Obj} {es:Array DictEntry} {ep:Nat},s₁.heap.get? b=some o->o.data=.dict es ep->H b=none:=fun {b o es ep} e d=>by
   cases q:H b with
   |none=>rfl
   |some u=>
    have e':b=a:=hA b (by rw[q];simp);subst e';rw[ha] at e;cases e;have d':Data.seq vs.toArray _=Data.dict es ep:=d;cases d'
  have nsK:∀{b:Addr} {m:Str->Option Value},s₁.heap.Ns b m->(a6I s₁.heap H).Ns b m:=fun {b m} ⟨o,es,ep,e,d,r⟩=>⟨o,es,ep,base_of e (noA e d),d,r⟩;have hKb:K.In (a6I s₁.heap H):=fun b o e=>base_of (KX b o e) (by
   cases q:H b with
   |none=>rfl
   |some u=>
    have e':b=a:=hA b (by rw[q];simp);subst e';rw[hK (by rw[q];simp)] at e;cases e)
  have hM:Mod K mg (a6I s₁.heap H):=⟨hKb,nsK hns,⟨mb,nsK hb,hbb⟩,let ⟨mc,h1,h2⟩:=hlim;⟨mc,nsK h1,h2⟩⟩;have e0:a7n P w K mg (a6I s₁.heap H) callerA [] s₁ H:=⟨rfl,hM,fun b o e=>a8V e,Nat.le_of_eq (a5z _ _),trivial,fun b hb=>absurd (show b∈([]:List Addr) from hb) (by simp),hok,.of_eq hg⟩;refine codeAny_mono ((F _ hKb (nsK hns)).run callerA [] s₁ H ⟨[.ref a],[]⟩ [.ref a] [.ref a] _ _ hr e0 (hbind s₁ (.ref a)) (.cons rfl .nil) (hsp H hO hS)) fun r s' h=>?_;cases r with
  |error e=>exact(hCX H e s' h).elim
  |ok fl=>
   cases fl with
   |next=>exact False.elim h
   |brk=>exact False.elim h
   |cont=>exact False.elim h
   |ret u=>
    obtain⟨v,H',os,bare,un,hok',r',q⟩:=h;have q':v=.bl true:=q;subst q';obtain rfl:u=Value.bool true:=r';refine⟨rfl,OldK.of_keep fun b o e=>?_,os,bare⟩;cases q:H b with
    |none=>exact un.keep b o e q (by intro z;exact absurd (show b∈([]:List Addr) from z) (by simp)) (by simp)
    |some u=>
     rcases hO b with z |⟨ob,xs,z⟩
     ·rw[q] at z;cases z
     ·have z2:=un.frzs b ob _ z
      obtain⟨e1,_⟩:=hok b _ z;obtain⟨e2,_⟩:=hok' b _ z2;rw[e] at e1;cases e1;exact e2
 cases hk:K.lookup a with
 |some o=>
  have e:=KX a o hk;rw[ha] at e;cases e;refine core (fun _=>none) (fun _=>.inl rfl) (.inr ⟨_,vs.toArray,_,hk,rfl,rfl,rfl,by rw[List.size_toArray,lenV];exact hl,by simpa using rv⟩) (fun b u z=>by have z':(none:Option HO)=some u:=z;cases z') (fun b z=>absurd rfl z) fun z=>absurd rfl z
 |none=>
  refine core (fun b=>if b=a then some (.frz { cls:=.type "list",data:=.seq vs.toArray } (.lst (ns.map V.int))) else none) (fun b=>?_) (.inl (.inr ⟨{ cls:=.type "list",data:=.seq vs.toArray },if_pos rfl⟩)) (fun b u z=>?_) (fun b z=>?_) fun _=>hk
  ·by_cases hb:b=a
   ·exact .inr ⟨_,_,if_pos hb⟩
   ·exact .inl (if_neg hb)
  ·by_cases hb:b=a
   ·have z':=(if_pos hb).symm.trans z
    cases z';subst hb;exact⟨ha,by rw[lM0];exact hl,vs,_,rv,ha⟩
   ·have z':=(if_neg hb).symm.trans z
    cases z'
  ·by_cases hb:b=a
   ·exact hb
   ·exact absurd (if_neg hb) z
theorem b2K {l:PySem.W.OpenLaw}{n k:Nat}{q:Program}{loose:List Str}{XP:(Str->Option Value)->Heap->Prop}{YP:World->Heap->Prop}{d:DefRec}{K:Params->Fg0}{CX:World->CXT}{sp:World->Sp}{x:Str}
  (hn:l.most=some n) (hn2:n<=sizeLine) (hdf:d.params.defaults=[]) (hr:a1r k callerA)
  (hY:∀(w:World) (h:Heap),YP w h->(K w.params).In h)
  (F:∀(w:World) (mg:Str->Option Value) (fa:Addr) (h:Heap),(K w.params).In h->h.Ns mainGlobals mg->mg d.name=some (.ref fa) →
   ∃fd:FuncData,(∀(s:Shared) (u:Value),BindsTo s fd ⟨[u],[]⟩ [(x,u)]) ∧
    ∀base:Heap,(K w.params).In base->base.Ns mainGlobals mg->a0F l.prog w (K w.params) mg base (CX w) k fa fd [x] (sp w))
  (hsp:∀(w:World) (H:Hp) (a:Addr) (ns:List Int),ns.length<=n->b5N H->SqL (K w.params) H a (ns.map V.int)->sp w [.ref a] H (fun v _=>v=.bl true) fun _ _ _=>False)
  (hCX:∀(w:World) (H:Hp) (s:Shared) (e:Value) (s':Shared),CX w [] H s (fun _ _ _=>False) e s'->False) :
  PySem.W.WalkO q loose XP YP l.row.toRowW d [] (fun f vs=>PySem.call f vs):=by
 refine Att.a4c hn hdf fun w s₀ s₁ mg mb fa o pm cd doc a vs ns G Y ho hd hcd hmg hobj hints hlen hg=>?_;have KX:=hY w _ Y;obtain⟨fd,hb,hF⟩:=F w mg fa _ KX G.T.g hmg;exact b0Q KX G.T.g G.T.b G.T.builtins G.T.nolimit hg hobj hints (Nat.le_trans hlen hn2) hr hF hb (fun H hO hS=>hsp w H a ns hlen hO hS) fun H e s'=>hCX w H s₁ e s'
def a0X (s:Stmt)(j:Nat):Stmt:=match s with
 | .ClassDef _ _ _ body _ _ _ _ _ _ _=>body.getD j (.Pass ⟨0,0,0,0⟩)
 |_=>.Pass ⟨0,0,0,0⟩
def a0Y (s:Stmt):Arguments:=match s with
 | .FunctionDef _ a _ _ _ _ _ _ _ _=>a
 |_=>{ posonlyargs:=[],args:=[],vararg:=none,kwonlyargs:=[],kw_defaults:=[],kwarg:=none,defaults:=[] }
def a0J (s:Stmt):List Stmt:=match s with
 | .FunctionDef _ _ b _ _ _ _ _ _ _=>b
 |_=>[]
def a0f (s:Stmt):Scope:=match s with
 | .FunctionDef _ _ _ _ _ _ sc _ _ _=>sc
 |_=>{ kind:=.function,names:=[],isGenerator:=false,isCoroutine:=false }
abbrev CX0:CXT:=fun _ _ _ _ _ _=>False
abbrev E0:XK:=fun _ _ _=>False
theorem a0r {X:Cx}:a3P CX0 X E0:=fun _ _ _ _ _ _ _ h=>h.elim
structure Fun (K:Fg0) (x qual:Str) (st:Stmt) (f:Addr) (fd:FuncData):Prop where
 ex:∃(oc:Value) (od:Option Addr) (kV doc pm:Value) (an:Option Addr) (cdv ct:Value) (osl:Array (Option Value)),
  fd=PySem.W.fnOf x qual (a0Y st) (a0J st) (a0f st) .none kV doc pm an cdv ct/\K.lookup f=some ⟨oc,od,.func fd,osl⟩/\PySem.W.codeIn K cdv qual=true
 kp:PySem.W.keepIn K (.ref f)=true
section
variable {P:Program}{w:World}{K:Fg0}{mg:Str->Option Value}{base:Heap}
theorem Fun.ok {x qual:Str}{st:Stmt}{f:Addr}{fd:FuncData}{N ps:List Str}{k:Nat}{sp:Sp}(F:Fun K x qual st f fd)(S:a0o N ps (a0f st))(len:∀vs H Q E,sp vs H Q E->vs.length=ps.length)
  (hbody:∀(cdv:Value) (A:Around) (outer:List Env) (s:Shared) (H:Hp) (vs:List V) (Q:VK) (E:XK),a1r k (A.deeper (envOfC qual (a0f st) s.heap.objs.size f cdv))->sp vs H Q E →
   ∃t,PSs (a5U CX0 P w K mg base N qual (a0f st) f cdv A outer s H E).nox (a0J st) t/\t { nx:=fun _ H'=>Q .non H',rt:=Q } (a2M N vs) H):a0F P w K mg base CX0 (k+1) f fd ps sp:=by
 obtain⟨oc,od,kV,doc,pm,an,cdv,ct,osl,rfl,lk,hcd⟩:=F.ex;refine b2T lk hcd S len fun A outer s H vs Q E hr hsp=>?_;obtain⟨t,h,q⟩:=hbody cdv A outer s H vs Q E hr hsp;exact⟨t,h.nox,q⟩
theorem Fun.binds {x qual:Str}{st:Stmt}{f:Addr}{fd:FuncData}{ps:List Str}(F:Fun K x qual st f fd)
  (h:∀(kV doc pm:Value) (an:Option Addr) (cdv ct:Value) (us:List Value),us.length=ps.length->bindArgs (PySem.W.fnOf x qual (a0Y st) (a0J st) (a0f st) .none kV doc pm an cdv ct) ⟨us,[]⟩=pure (ps.zip us)):a2i K fd ps []:=by
 obtain⟨oc,od,kV,doc,pm,an,cdv,ct,osl,rfl,lk,hcd⟩:=F.ex;exact .all (h kV doc pm an cdv ct)
theorem a8x {x qual:Str}{st:Stmt}{f:Addr}{oc:Value}{od an:Option Addr}{osl:Array (Option Value)}{kV doc pm cdv ct:Value}(l:K.lookup f=some ⟨oc,od,.func (PySem.W.fnOf x qual (a0Y st) (a0J st) (a0f st) .none kV doc pm an cdv ct),osl⟩)
  (c:PySem.W.codeIn K cdv qual=true) (k:PySem.W.keepIn K (.ref f)=true):Fun K x qual st f (PySem.W.fnOf x qual (a0Y st) (a0J st) (a0f st) .none kV doc pm an cdv ct):=⟨⟨oc,od,kV,doc,pm,an,cdv,ct,osl,rfl,l,c⟩,k⟩
end
theorem a2E {A:Around}{k:Nat}(hr:a1r k A):A.units+1<cLine:=Nat.lt_of_le_of_lt (Nat.add_le_add_left (by decide:1<=64) _) hr.units
section
variable {X:Cx}
theorem pv (i:Nat){x:Str}{pos:Pos}(hN:X.N[i]? =some x:=by rfl)(hv:Vis X.env.scope x:=by first |exact Or.inl rfl |exact Or.inr (Or.inl rfl) |exact Or.inr (Or.inr rfl))(hd:(x==("__debug__":Str))=false:=by decide)
  (hcd:(x==("__classdict__":Str))=false:=by decide):PE X (.Name x pos) (b4Q i):=b4h hN hv hd hcd
end
theorem a2b {A B:Prop}(h:B):if false=true then A else B:=by
 rw[if_neg bF0];exact h
theorem a5p {A B:Prop}(h:A):if true=true then A else B:=by
 rw[if_pos rfl];exact h
theorem a4q {c A B:Prop}[Decidable c](h1:c->A)(h2:¬c->B):if c then A else B:=by
 by_cases h:c
 ·rw[if_pos h]
  exact h1 h
 ·rw[if_neg h]
  exact h2 h
theorem a6q {c A B:Prop}[Decidable c](hc:c)(h:B):if (!decide c)=true then A else B:=by
 rw[dT0 hc];exact a2b h
def a0m (H H':Hp):Prop:=∀b o,H b=some o->H' b=some o
theorem a0m.refl (H:Hp):a0m H H:=fun _ _ h=>h
theorem a0m.trans {H H1 H2:Hp}(a:a0m H H1)(b:a0m H1 H2):a0m H H2:=fun c o h=>b c o (a c o h)
theorem a0m.seq {K:Fg0}{H H':Hp}{a:Addr}{xs:List V}(e:a0m H H')(h:SqL K H a xs):SqL K H' a xs:=by
 rcases h with (h |⟨o,h⟩) |h
 ·exact .inl (.inl (e _ _ h))
 ·exact .inl (.inr ⟨o,e _ _ h⟩)
 ·exact .inr h
section
variable {κ:Type}[DecidableEq κ]
theorem a8U {p:κ×V}{r:List (κ×V)}{k:κ}(e:p.1=k):a2m (p::r) k=a2m r k:=by
 unfold a2m;rw[List.filter_cons,if_neg (by simp[e])]
theorem a6k {p:κ×V}{r:List (κ×V)}{k:κ}(e:¬p.1=k):a2m (p::r) k=p::a2m r k:=by
 unfold a2m;rw[List.filter_cons,if_pos (by simp[e])]
end
theorem Fun.b1 {K:Fg0}{x q:Str}{st:Stmt}{f:Addr}{fd:FuncData}(F:Fun K x q st f fd)(p0:Str)(h:∀(kV doc pm:Value) (an:Option Addr) (cdv ct u0:Value),bindArgs (PySem.W.fnOf x q (a0Y st) (a0J st) (a0f st) .none kV doc pm an cdv ct) ⟨[u0],[]⟩=pure [(p0,u0)]):a2i K fd [p0] []:=F.binds fun kV doc pm an cdv ct us hl=>by
 match us,hl with
 |[u0],_=>exact h kV doc pm an cdv ct u0
theorem Fun.b2 {K:Fg0}{x q:Str}{st:Stmt}{f:Addr}{fd:FuncData}(F:Fun K x q st f fd)(p0 p1:Str)(h:∀(kV doc pm:Value) (an:Option Addr) (cdv ct u0 u1:Value),bindArgs (PySem.W.fnOf x q (a0Y st) (a0J st) (a0f st) .none kV doc pm an cdv ct) ⟨[u0,u1],[]⟩=pure [(p0,u0),(p1,u1)]):a2i K fd [p0,p1] []:=F.binds fun kV doc pm an cdv ct us hl=>by
 match us,hl with
 |[u0,u1],_=>exact h kV doc pm an cdv ct u0 u1
theorem Fun.b3 {K:Fg0}{x q:Str}{st:Stmt}{f:Addr}{fd:FuncData}(F:Fun K x q st f fd)(p0 p1 p2:Str)(h:∀(kV doc pm:Value) (an:Option Addr) (cdv ct u0 u1 u2:Value),bindArgs (PySem.W.fnOf x q (a0Y st) (a0J st) (a0f st) .none kV doc pm an cdv ct) ⟨[u0,u1,u2],[]⟩=pure [(p0,u0),(p1,u1),(p2,u2)]):a2i K fd [p0,p1,p2] []:=F.binds fun kV doc pm an cdv ct us hl=>by
 match us,hl with
 |[u0,u1,u2],_=>exact h kV doc pm an cdv ct u0 u1 u2
theorem Fun.b4 {K:Fg0}{x q:Str}{st:Stmt}{f:Addr}{fd:FuncData}(F:Fun K x q st f fd)(p0 p1 p2 p3:Str)(h:∀(kV doc pm:Value) (an:Option Addr) (cdv ct u0 u1 u2 u3:Value),bindArgs (PySem.W.fnOf x q (a0Y st) (a0J st) (a0f st) .none kV doc pm an cdv ct) ⟨[u0,u1,u2,u3],[]⟩=pure [(p0,u0),(p1,u1),(p2,u2),(p3,u3)]):a2i K fd [p0,p1,p2,p3] []:=F.binds fun kV doc pm an cdv ct us hl=>by
 match us,hl with
 |[u0,u1,u2,u3],_=>exact h kV doc pm an cdv ct u0 u1 u2 u3
theorem a0o.k {N P:List Str}{sc:Scope}(h:sc.kind=.function/\sc.isCoroutine=false/\sc.isGenerator=false/\N.Nodup/\N.take P.length=P/\(∀x∈P,sc.names.lookup x=some .local\/sc.names.lookup x=some .cell)/\∀y∈sc.names,y.2≠.free):a0o N P sc:=let ⟨a,b,c,d,e,f,g⟩:=h;⟨a,b,c,d,e,f,g⟩
def a3M (env:Env)(cs:List (Str×Addr))(y:Str×NameKind):List (Str×Addr):=
 if (y.2==NameKind.free)=true then(y.1,(env.cells.lookup y.1).getD 0)::cs else cs
def a4h (env:Env)(names:List (Str×NameKind)):List (Str×Addr):=names.foldl (a3M env) []
theorem a4b {env:Env}:∀(names:List (Str×NameKind)) (cs:List (Str×Addr)),(∀y∈names,y.2=.free->∃c,env.cells.lookup y.1=some c) →
  (forIn names cs fun y r=>(if (y.2==NameKind.free)=true then do let a <-cellOf env y.1;pure (ForInStep.yield ((y.1,a)::r)) else pure (ForInStep.yield r):Sem (ForInStep (List (Str×Addr)))))=pure (names.foldl (a3M env) cs)
 |[],cs,_=>rfl
 |y::r,cs,h=>by
  rw[List.forIn_cons,List.foldl_cons]
  by_cases hy:(y.2==NameKind.free)=true
  ·obtain⟨c,hc⟩:=h y List.mem_cons_self (eq_of_beq hy)
   have e:cellOf env y.1=pure c:=by unfold cellOf;rw[hc]
   rw[if_pos hy,e,pure_bind,pure_bind];have e2:a3M env cs y=(y.1,c)::cs:=by unfold a3M;rw[if_pos hy,hc];rfl
   rw[e2];exact a4b r _ fun z hz=>h z (mL0 _ hz)
  ·rw[if_neg hy,pure_bind]
   have e2:a3M env cs y=cs:=by unfold a3M;rw[if_neg hy]
   rw[e2];exact a4b r _ fun z hz=>h z (mL0 _ hz)
theorem a6G {env:Env}{scope:Scope}(h:∀y∈scope.names,y.2=.free->∃c,env.cells.lookup y.1=some c):closureFor scope env=pure (a4h env scope.names):=by
 have e:=a4b (env:=env) scope.names [] h;unfold a4h;rw[<-e];simp only[closureFor,bind_pure_comp,map_pure,bind_pure]
theorem a7k {env:Env}:∀(names:List (Str×NameKind)) (cs:List (Str×Addr)),(∀y∈names,y.2=.free->∃c,env.cells.lookup y.1=some c)->(∀x c,cs.lookup x=some c->env.cells.lookup x=some c) →
  ∀x c,(names.foldl (a3M env) cs).lookup x=some c->env.cells.lookup x=some c
 |[],cs,_,hc,x,c,e=>hc x c e
 |y::r,cs,h,hc,x,c,e=>by
  rw[List.foldl_cons] at e;refine a7k r _ (fun z hz=>h z (mL0 _ hz)) (fun z d q=>?_) x c e;unfold a3M at q
  by_cases hy:(y.2==NameKind.free)=true
  ·obtain⟨c',hc'⟩:=h y List.mem_cons_self (eq_of_beq hy)
   rw[if_pos hy,List.lookup_cons,hc'] at q;cases hz:z==y.1 with
   |true=>
    rw[hz] at q;have q':c'=d:=Option.some.inj q;rw[eq_of_beq hz,hc',q']
   |false=>
    rw[hz] at q;exact hc z d q
  ·rw[if_neg hy] at q
   exact hc z d q
theorem a4X {env:Env}:∀(names:List (Str×NameKind)) (cs:List (Str×Addr)) (x:Str),((x,NameKind.free)∈names\/∃c,cs.lookup x=some c)->∃c,(names.foldl (a3M env) cs).lookup x=some c
 |[],cs,x,h=>by
  rcases h with h |h
  ·cases h
  ·exact h
 |y::r,cs,x,h=>by
  rw[List.foldl_cons];refine a4X r _ x ?_;rcases h with h |⟨c,h⟩
  ·rcases mK0.mp h with e |e
   ·subst e
    refine .inr ⟨(env.cells.lookup x).getD 0,?_⟩;unfold a3M;rw[if_pos (show((x,NameKind.free).2==NameKind.free)=true from rfl),List.lookup_cons,beq_self_eq_true]
   ·exact .inl e
  ·refine .inr ?_
   unfold a3M
   by_cases hy:(y.2==NameKind.free)=true
   ·rw[if_pos hy,List.lookup_cons]
    cases hz:x==y.1 with
    |true=>exact⟨_,rfl⟩
    |false=>exact⟨c,h⟩
   ·rw[if_neg hy]
    exact⟨c,h⟩
abbrev a0T (X:Cx)(scope:Scope)(N:List Str)(s:Shared)(H:Hp)(fp:List Addr):Cx where
 prog:=X.prog
 w:=X.w
 K:=X.K
 mg:=X.mg
 base:=X.base
 A:=X.A
 N:=N
 s₀:=s
 H₀:=H
 env:=compEnvC scope (a4h X.env scope.names) s.heap.objs.size X.env
 outer:=X.stack
 stack:=X.stack
 ex:=fp
 fn:=fun _=>false
 calm:=X.calm
 pn:=[]
 xe:=fun _ _=>False
structure a3H (osc scope:Scope) (N0:List Str) (xs:List Str) (fr:List Nat):Prop where
 kind:scope.kind=.function
 nocell:∀y∈scope.names,y.2≠.cell
 names:∀y∈scope.names,y.2=.local->scope.names.lookup y.1=some .local
 free:∀y∈scope.names,y.2=.free->osc.names.lookup y.1=some .cell\/osc.names.lookup y.1=some .free
 fro:∀j∈fr,∃x,N0[j]? =some x/\scope.names.lookup x=some .free
 nd:(xs++fr.map fun j=>N0.getD j "").Nodup
def a1i (N0:List Str)(xs:List Str)(fr:List Nat):List Str:=xs++fr.map fun j=>N0.getD j ""
def a2Z (xs:List Str)(fr:List Nat)(σ:St):St:=xs.map (fun _=>none)++fr.map fun j=>(σ[j]?).join
theorem a1f {κ:Type}:∀{l:List (Str×κ)} {x:Str} {k:κ},l.lookup x=some k->(x,k)∈l
 |[],_,_,h=>by cases h
 | (n,k')::r,x,k,h=>by
  rw[List.lookup_cons] at h;cases hx:x==n with
  |true=>
   rw[hx] at h;have h':k'=k:=Option.some.inj h;rw[eq_of_beq hx,h'];exact List.mem_cons_self
  |false=>
   rw[hx] at h;exact mL0 _ (a1f h)
theorem a2z {env:Env}:∀{names:List (Str×NameKind)} {x:Str} {k:NameKind},
  (names.map fun(n,k)=>if (k==NameKind.free&&env.scope.kind==.function&&env.kindOf n==some .cell) then(n,NameKind.cell) else(n,k)).lookup x=some k →
  names.lookup x=some k\/(k=.cell/\names.lookup x=some .free)
 |[],_,_,h=>by cases h
 | (n,k')::r,x,k,h=>by
  have ih:=@a2z env r x k;rw[mN0] at h;rw[List.lookup_cons]
  by_cases hc:(k'==NameKind.free&&env.scope.kind==.function&&env.kindOf n==some .cell)=true
  ·have h':List.lookup x ((n,NameKind.cell)::(r.map fun(n,k)=>if (k==NameKind.free&&env.scope.kind==.function&&env.kindOf n==some .cell) then(n,NameKind.cell) else(n,k)))=some k:=by
    rw[<-h];simp only[hc,if_true]
   rw[List.lookup_cons] at h';cases hx:x==n with
   |true=>
    rw[hx] at h';have h2:NameKind.cell=k:=Option.some.inj h';rw[Bool.and_eq_true,Bool.and_eq_true] at hc;exact .inr ⟨h2.symm,congrArg some (eq_of_beq hc.1.1)⟩
   |false=>
    rw[hx] at h';exact ih h'
  ·have h':List.lookup x ((n,k')::(r.map fun(n,k)=>if (k==NameKind.free&&env.scope.kind==.function&&env.kindOf n==some .cell) then(n,NameKind.cell) else(n,k)))=some k:=by
    rw[<-h];simp only[hc];rfl
   rw[List.lookup_cons] at h';cases hx:x==n with
   |true=>
    rw[hx] at h';exact .inl h'
   |false=>
    rw[hx] at h';exact ih h'
theorem a3v {env:Env}:∀{names:List (Str×NameKind)} {x:Str},names.lookup x=some .free →
  (names.map fun(n,k)=>if (k==NameKind.free&&env.scope.kind==.function&&env.kindOf n==some .cell) then(n,NameKind.cell) else(n,k)).lookup x=some .cell ∨
  (names.map fun(n,k)=>if (k==NameKind.free&&env.scope.kind==.function&&env.kindOf n==some .cell) then(n,NameKind.cell) else(n,k)).lookup x=some .free
 |[],_,h=>by cases h
 | (n,k')::r,x,h=>by
  have ih:=@a3v env r x;rw[List.lookup_cons] at h;rw[mN0]
  by_cases hc:(k'==NameKind.free&&env.scope.kind==.function&&env.kindOf n==some .cell)=true
  ·have e:(match (n,k') with | (n,k)=>if (k==NameKind.free&&env.scope.kind==.function&&env.kindOf n==some .cell) then(n,NameKind.cell) else(n,k))=(n,NameKind.cell):=by
    simp only[hc,if_true]
   rw[e,List.lookup_cons];cases hx:x==n with
   |true=>exact .inl rfl
   |false=>rw[hx] at h;exact ih h
  ·have e:(match (n,k') with | (n,k)=>if (k==NameKind.free&&env.scope.kind==.function&&env.kindOf n==some .cell) then(n,NameKind.cell) else(n,k))=(n,k'):=by
    simp only[hc];rfl
   rw[e,List.lookup_cons];cases hx:x==n with
   |true=>
    rw[hx] at h;exact .inr h
   |false=>rw[hx] at h;exact ih h
section
variable {X:Cx}
theorem a3b {osc scope:Scope}{N0 xs:List Str}{fr:List Nat}{pins:List (Addr×Obj)}{σ:St}{H:Hp}{s:Shared}(C:a3H osc scope N0 xs fr)(ho:X.env.scope=osc)(I:Inv X pins σ H s) :
  ∀y∈scope.names,y.2=.free->∃c,X.env.cells.lookup y.1=some c:=fun y hy e=>by
 refine I.ok.has y.1 ?_;rw[<-ho] at C;exact C.free y hy e
theorem a4C {osc scope:Scope}{N0 xs:List Str}{fr:List Nat}{pins:List (Addr×Obj)}{σ:St}{H:Hp}{s:Shared}{fp:List Addr}{h₁:Heap}{tk:Nat}(C:a3H osc scope N0 xs fr)(ho:X.env.scope=osc)(hN0:X.N=N0)(I:Inv X pins σ H s)
  (hf:∀b∈fp,a3y X pins H b) (hlt:∀b∈fp,b<s.heap.objs.size) (hn:h₁.Ns s.heap.objs.size fun _=>none) (hk:∀b o,s.heap.get? b=some o->h₁.get? b=some o) :
  Inv (a0T X scope (a1i N0 xs fr) s H fp) [] (a2Z xs fr σ) H { s with heap:=h₁,toks:=tk }:=by
 subst hN0;have hfree:=a3b C ho I;have sub:=a7k (env:=X.env) scope.names [] hfree (fun x c e=>by cases e);have nC:∀x c,X.env.cells.lookup x=some c->c≠s.heap.objs.size:=fun x c e z=>by
  obtain⟨v,q⟩:=I.cell x c e;exact absurd q.lt (by rw[z];exact Nat.lt_irrefl _)
 refine⟨⟨I.ok.mod,C.kind,I.ok.glob,I.ok.blt,nR0 _,fun x y c h1 h2=>I.ok.inj x y c (sub x c h1) (sub y c h2),fun x hx=>?_,fun x c h _=>(bF0 h).elim,I.ok.hd,I.ok.frames,.inl rfl,fun b hb=>?_,I.bs,Nat.le_trans I.ok.bsz I.sz,fun b o e hb=>?_,fun b hb hz=>?_,I.stack,I.stkFree⟩,
  rfl,I.bare,Un.kept hk,⟨_,hn,fun i x v h1 h2 h3=>?_⟩,fun x c h=>?_,I.hok.fresh (nR0 _),fun x c h=>I.freeC x c (sub x c h),fun p hp=>absurd (show p∈([]:List (Addr×Obj)) from hp) (by simp),I.hok.kept hk,?_⟩
 ·have hx':(relabel scope X.env).names.lookup x=some .cell\/(relabel scope X.env).names.lookup x=some .free:=hx
  refine a4X (env:=X.env) scope.names [] x (.inl ?_);rcases hx' with q |q
  ·rcases a2z q with z |⟨_,z⟩
   ·exact absurd rfl (C.nocell _ (a1f z))
   ·exact a1f z
  ·rcases a2z q with z |⟨z,_⟩
   ·exact a1f z
   ·cases z
 ·exact⟨nL0 (hlt b hb),fun x c h=>(hf b hb).2.2.2.2.1 x c (sub x c h)⟩
 ·rcases (hf b hb).2.2.2.1 with z |z
  ·exact I.ok.noex b o e z
  ·exact absurd (Nat.lt_of_lt_of_le (hL0 e) (Nat.le_trans I.ok.bsz z)) (Nat.lt_irrefl _)
 ·rcases mK0.mp (I.stkSub b hz) with z |z
  ·exact(hf b hb).2.1 z
  ·exact(hf b hb).2.2.1 z
 ·
  have hi:¬i<xs.length:=fun hi=>by
   unfold a2Z at h2;rw[gL0 (by rw[lM0];exact hi),gM0] at h2;cases q:xs[i]? with
   |none=>rw[q] at h2;cases h2
   |some y=>rw[q] at h2;cases h2
  have hi':xs.length<=i:=Nat.le_of_not_lt hi;have e2:(fr.map fun j=>(σ[j]?).join)[i-xs.length]? =some (some v):=by
   have:=h2
   unfold a2Z at this;rw[gR0 (by rw[lM0];exact hi'),lM0] at this;exact this
  rw[gM0] at e2;cases q:fr[i-xs.length]? with
  |none=>rw[q] at e2;cases e2
  |some j=>
   rw[q] at e2;have e3:(σ[j]?).join=some v:=Option.some.inj e2;have e4:σ[j]? =some (some v):=by
    cases z:σ[j]? with
    |none=>rw[z] at e3;cases e3
    |some u=>rw[z] at e3;rw[show u=some v from e3]
   obtain⟨y,hy,hyf⟩:=C.fro j (gI0 q);have ex:x=y:=by
    have h1':(a1i X.N xs fr)[i]? =some x:=h1;unfold a1i at h1';rw[gR0 hi',gM0,q] at h1';have h5:X.N.getD j ""=x:=Option.some.inj h1';rw[<-h5,List.getD_eq_getElem?_getD,hy]
    rfl
   subst ex;obtain⟨m,_,hl⟩:=I.loc;have kf:=C.free _ (a1f hyf) rfl;rw[<-ho] at kf;have vis:Vis X.env.scope x:=by
    rcases kf with z |z
    ·exact .inr (.inl z)
    ·exact .inr (.inr z)
   obtain⟨u,r,l⟩:=hl j x v hy e4 vis;refine⟨u,r,.inr ⟨a3v hyf,?_⟩⟩;rcases l with ⟨z,_⟩ |⟨_,c,hc,hcell⟩
   ·have z':X.env.scope.names.lookup x=some .local:=z
    rcases kf with w |w
    ·rw[z'] at w;cases w
    ·rw[z'] at w;cases w
   ·obtain⟨c',hc'⟩:=a4X (env:=X.env) scope.names [] x (.inl (a1f hyf))
    have e5:=sub x c' hc';rw[hc] at e5;cases e5;refine⟨c,hc',?_⟩;obtain⟨o,ho',hd⟩:=hcell;exact⟨o,hk _ _ ho',hd⟩
 ·obtain⟨v,o,ho',hd⟩:=I.cell x c (sub x c h)
  exact⟨v,o,hk _ _ ho',hd⟩
 ·show(a2Z xs fr σ).length=(a1i X.N xs fr).length
  unfold a2Z a1i;simp
def PIf (X:Cx)(ifs:List Expr)(t:TT):Prop:=
 ∀(pins:List (Addr×Obj)) (s:Shared) (σ:St) (H:Hp) (Q:Bool->Hp->Prop),Inv X pins σ H s->t σ H Q →
  wpAny (model X.prog X.w) X.A (forIn ifs true fun c r=>if r=true then do let ok <-isTrue c X.env (eval c X.env);pure (ForInStep.yield ok) else pure (ForInStep.yield r)) (TP X pins σ Q) X.xe s
def b5O:TT:=fun _ H Q=>Q true H
theorem a1E {X:Cx}:PIf X [] b5O:=fun _ _ σ H Q I h=>wpAny_tests_nil ⟨H,I,h⟩
theorem b2M {X:Cx}{c:Expr}{t:TT}(h:PT X c t):PIf X [c] t:=fun pins s σ H Q I hw=>wpAny_tests_one (h pins s σ H Q I hw)
def a6P (J:It)(g:TG)(tt:TT)(te:TE)(R:Addr->Hp->Prop)(D:Addr)(σ0:St)(H0:Hp):Prop:=
 ∃W:Nat->Nat->St->Hp->Prop,(∃m,W 0 m σ0 H0)/\∀i m σ H,W i m σ H →
  (J.stop i H/\R D H) ∨
  (J.go i H/\∃(N:St->V->Hp->Prop) (M:St->Hp->Prop),(∀σ2 y H4,N σ2 y H4->∃ys,H4 D=some (.lst ys)/\ys.length<sizeLine/\∃m',m'<m/\W (i+1) m' σ2 (upd H4 D (.lst (ys++[y])))) ∧
   (∀σ2 H3,M σ2 H3->∃m',m'<m/\W (i+1) m' σ2 H3) ∧
   ∀x H',J.yld i H x H'->g x σ H' fun σ2 H2=>tt σ2 H2 fun b H3=>if b=true then te σ2 H3 (N σ2) else M σ2 H3)
def b4I (xs:List Str)(fr:List Nat)(wi:TI)(g:TG)(tt:TT)(te:TE):TE:=fun σ H Q=>wi σ H fun J H1=>∀D,H1 D=none->a6P J g tt te (fun D H2=>Q (.ref D) H2) D (a2Z xs fr σ) (upd H1 D (.lst []))
def b5A (i:Nat)(xs:List Str)(fr:List Nat)(wi:TI)(g:TG)(tt:TT)(te:TE):TS:=fun E σ H=>wi σ H fun J H1=>∀D,H1 D=none->a6P J g tt te (fun D H2=>E.nx (σ.set i (some (.ref D))) H2) D (a2Z xs fr σ) (upd H1 D (.lst []))
theorem a4x {osc scope:Scope}{N0 xs:List Str}{fr:List Nat}{pins:List (Addr×Obj)}{σ:St}{H2:Hp}{s2:Shared}{fp:List Addr}{it:Addr}{tn:Nat->Heap->Prop}{J:It}{elt tg iter:Expr}{ifs:List Expr}{pos:Pos}
  {g:TG} {tt:TT} {te:TE} {E:Vs0} {R:Addr->Hp->Prop} {RR:Value->Addr->Result->Shared->Prop} (C:a3H osc scope N0 xs fr) (ho:X.env.scope=osc) (hN0:X.N=N0) (hc:X.calm=true)
  (hg:∀s H fp,PG (a0T X scope (a1i N0 xs fr) s H fp) tg g) (ht:∀s H fp,PIf (a0T X scope (a1i N0 xs fr) s H fp) ifs tt) (he:∀s H fp,PE (a0T X scope (a1i N0 xs fr) s H fp) elt te)
  (I2:Inv X pins σ H2 s2) (T:a9S X.prog X.w X.K tg J fp it tn) (st2:tn 0 s2.heap) (f2:∀b∈fp,a3y X pins H2 b)
  (hR:∀D,H2 D=none->a6P J g tt te R D (a2Z xs fr σ) (upd H2 D (.lst [])))
  (hRR:∀(D C:Addr) (s':Shared) (H':Hp) (m:Str->Option Value),Inv X pins σ H' s'->s'.heap.Ns C m->a3y X pins H' C->R D H'->RR (.ref D) C (.ok .next) s') :
  wpAny (model X.prog X.w) X.A (newList []) (fun acc s₃=>wpAny (model X.prog X.w) X.A (newFunctionEnv scope X.env.globals (a4h X.env scope.names) [] X.env.qual none .none (some X.env)) (fun cenv s₄=>
   codeAny (model X.prog X.w) X.A (.compStart (.ListComp elt [⟨tg,iter,ifs,0⟩] scope pos) 0 (.ref it) acc { cenv with scope:=relabel scope X.env }) (RR acc cenv.locals) s₄) E s₃) E s2:=by
 refine wpAny_newObj_type (wpAny_newFunctionEnv C.nocell (by intro y hy;simp at hy) (fun h₁ hns₁ hsb₁=>?_) C.kind)
 dsimp only at hns₁ hsb₁ ⊢
 have I3:Inv X pins σ (upd H2 s2.heap.objs.size (.lst [])) { s2 with heap:=s2.heap.push { cls:=.type "list",data:=.seq ([]:List Value).toArray } }:=I2.lnew (its:=[]) (t':=s2.toks) .nil (by simp);have flt:∀b∈fp,b<s2.heap.objs.size:=fun b hb=>by
  obtain⟨o,e,_⟩:=T.obj 0 _ st2 b hb;exact hL0 e
 have f3:∀b∈fp,a3y X pins (upd H2 s2.heap.objs.size (.lst [])) b:=fun b hb=>⟨by rw[a0g (nL0 (flt b hb))];exact(f2 b hb).1,(f2 b hb).2⟩;have flt3:∀b∈fp,b<(s2.heap.push { cls:=.type "list",data:=.seq ([]:List Value).toArray }).objs.size:=fun b hb=>by
  rw[Heap.size_push];exact Nat.lt_succ_of_lt (flt b hb)
 obtain⟨W,⟨m0,w0⟩,turn⟩:=hR s2.heap.objs.size I2.fresh;generalize hD:s2.heap.objs.size=D at *;generalize hs3:s2.heap.push { cls:=.type "list",data:=.seq ([]:List Value).toArray }=h3 at *;have up2:∀b o,s2.heap.get? b=some o->h3.get? b=some o:=fun b o e=>by rw[<-hs3];exact hP0 _ e
 have old:∀b o,h3.get? b=some o->h₁.get? b=some o:=fun b o e=>hsb₁.extBut b o (nL0 (hL0 e)) (hP0 _ e);have Ic:=a4C (tk:=s2.toks+([]:List (Str×Value)).length) C ho hN0 I3 f3 flt3 hns₁ old;have st4:tn 0 h₁:=T.keep 0 _ _ st2 fun b hb o e=>old b o (up2 b o e);have stat:∀{H':Hp},(∀b∈fp,H' b=none)->∀b∈fp,a3y (a0T X scope (a1i N0 xs fr) { s2 with heap:=h3 } (upd H2 D (.lst [])) fp) [] H' b:=fun hn b hb=>
  ⟨hn b hb,nL0 (flt3 b hb),fun z=>by
   rcases mK0.mp (I3.stkSub b z) with q |q
   ·exact(f3 b hb).2.1 q
   ·exact(f3 b hb).2.2.1 q,.inl hb,fun x c h=>(Ic.ok.exf b hb).2 x c h,fun p hp=>absurd (show p∈([]:List (Addr×Obj)) from hp) (by simp)⟩
 have fin:∀{σ':St} {H':Hp} {s':Shared},Inv (a0T X scope (a1i N0 xs fr) { s2 with heap:=h3 } (upd H2 D (.lst [])) fp) [] σ' H' s'->R D H'->RR (.ref D) h3.objs.size (.ok .next) s':=fun {σ' H' s'} I' q=>by
  obtain⟨m,hm,_⟩:=I'.loc;refine hRR D h3.objs.size s' H' m (I3.call' I'.os I'.base I'.hok I'.bare fun b hb=>?_) hm (I3.fpOk (nR0 _) I'.free) q;exact⟨(f3 b hb).2.2.2.1,(f3 b hb).2.1,(f3 b hb).2.2.2.2.1,(f3 b hb).2.2.2.2.2⟩
 have loop:codeAny (model X.prog X.w) X.A (.compLoop (.ListComp elt [⟨tg,iter,ifs,0⟩] scope pos) 0 (.ref it) (.ref D) (compEnvC scope (a4h X.env scope.names) h3.objs.size X.env)) (RR (.ref D) h3.objs.size) { s2 with heap:=h₁,toks:=s2.toks+([]:List (Str×Value)).length }:=by
  refine codeAny_loop rfl (fun n s'=>∃i σ' H',Inv (a0T X scope (a1i N0 xs fr) { s2 with heap:=h3 } (upd H2 D (.lst [])) fp) [] σ' H' s'/\tn i s'.heap/\(∀b∈fp,H' b=none)/\W i n σ' H') (fun n s' hI=>?_) m0 ⟨0,_,_,Ic,st4,fun b hb=>(f3 b hb).1,w0⟩;show wpAny _ X.A ((compTurn (.ListComp elt [⟨tg,iter,ifs,0⟩] scope pos) 0 (.ref it) (.ref D) (compEnvC scope (a4h X.env scope.names) h3.objs.size X.env)).onRaise (fun x=>do noteFrame x (compEnvC scope (a4h X.env scope.names) h3.objs.size X.env);theTreesLotGoes x)) _ _ s';refine wpAny_noted ?_;rw[compTurn_list];obtain⟨i,σ',H',I',st',fr',w'⟩:=hI;refine wB0 (wpAny_standAt (wB0 ?_));rcases turn i n σ' H' w' with ⟨stop,q⟩ |⟨go,N,M,hN,hM,step⟩
  ·refine thn (T.done (a0T X scope (a1i N0 xs fr) { s2 with heap:=h3 } (upd H2 D (.lst [])) fp) rfl rfl rfl hc i [] s' σ' H' _ I' (stat fr') st' stop) fun r s4 ⟨hr,I4⟩=>?_
   subst hr;exact wP0 (fin I4 q)
  ·refine thn (T.item (a0T X scope (a1i N0 xs fr) { s2 with heap:=h3 } (upd H2 D (.lst [])) fp) rfl rfl rfl hc i [] s' σ' H' _ I' (stat fr') st' go) fun r s4 ⟨u,hr,h4⟩=>?_
   subst hr;refine wB0 (thn h4 fun _ s5 ⟨x,H5,I5,r5,y5,st5,fr5⟩=>?_);have I5':=I5.pinned (stat fr5) (T.obj _ _ st5);have again:∀{σ7:St} {H7:Hp} {s7:Shared},Inv (a0T X scope (a1i N0 xs fr) { s2 with heap:=h3 } (upd H2 D (.lst [])) fp) ([]++a4y fp s5.heap) σ7 H7 s7->(∃m',m'<n/\W (i+1) m' σ7 H7) →
     ∃m,m<n/\∃i σ' H',Inv (a0T X scope (a1i N0 xs fr) { s2 with heap:=h3 } (upd H2 D (.lst [])) fp) [] σ' H' s7/\tn i s7.heap/\(∀b∈fp,H' b=none)/\W i m σ' H':=fun {σ7 H7 s7} I7 n7=>by
    obtain⟨m',hm,w7⟩:=n7;refine⟨m',hm,i+1,σ7,H7,I7.unpinned,T.keep _ _ _ st5 fun b hb o e=>(I7.pin (b,o) (List.mem_append_right _ (List.mem_append_right _ (a1U hb e)))).1,fun b hb=>?_,w7⟩;obtain⟨o,e,d⟩:=T.obj _ _ st5 b hb;exact(I7.pin (b,o) (List.mem_append_right _ (List.mem_append_right _ (a1U hb e)))).2.1
   refine wB0 (wpAny_mono (hg _ _ _ _ s5 σ' H5 x u _ I5' r5 (step x H5 y5)) (fun _ s6 ⟨σ6,H6,I6,q6⟩=>?_) fun _ _ z=>False.elim z);refine wB0 (wpAny_mono (ht _ _ _ _ s6 σ6 H6 _ I6 q6) (fun ok s7 ⟨H7,I7,q7⟩=>?_) fun _ _ z=>False.elim z);cases ok with
   |false=>
    rw[if_neg bF0] at q7;exact wP0 ⟨rfl,again I7 (hM _ _ q7)⟩
   |true=>
    rw[if_pos rfl] at q7;refine wB0 (wB0 (wpAny_mono (he _ _ _ _ s7 σ6 H7 _ I7 q7) (fun y s8 ⟨v,H8,I8,r8,q8⟩=>?_) fun _ _ z=>False.elim z));obtain⟨ys,eD,hz,q8⟩:=hN _ _ _ q8;refine wB0 (wpAny_mono (a3G (X:=a0T X scope (a1i N0 xs fr) { s2 with heap:=h3 } (upd H2 D (.lst [])) fp) _ s8 σ6 H8 (.ref D) [v] (.ref D) [y] (fun _ H9=>∃m',m'<n/\W (i+1) m' σ6 H9) I8 rfl (.cons r8 .nil) ⟨D,ys,v,rfl,rfl,eD,hz,q8⟩) (fun _ s9 ⟨_,H9,I9,_,q9⟩=>?_) fun _ _ z=>False.elim z);exact wP0 (wP0 ⟨rfl,again I9 q9⟩)
 exact codeAny_compStart_list loop (T.self X.A 0 _ _ _ st4 loop)
variable {osc scope:Scope}{N0 xs:List Str}{fr:List Nat}{elt tg iter:Expr}{ifs:List Expr}{pos:Pos}{wi:TI}{g:TG}{tt:TT}{te:TE}
theorem a1Z (C:a3H osc scope N0 xs fr)(ho:X.env.scope=osc)(hN0:X.N=N0)(hc:X.calm=true)(hi:PI X tg iter wi)
  (hg:∀s H fp,PG (a0T X scope (a1i N0 xs fr) s H fp) tg g) (ht:∀s H fp,PIf (a0T X scope (a1i N0 xs fr) s H fp) ifs tt) (he:∀s H fp,PE (a0T X scope (a1i N0 xs fr) s H fp) elt te)
  (hs:∀x,foldedSetIterable iter X.env x=pure x:=by intro _;rfl):PE X (.ListComp elt [⟨tg,iter,ifs,0⟩] scope pos) (b4I xs fr wi g tt te):=by
 intro pins s σ H Q I h;rw[eval_ListComp];refine wpAny_comprehension_free (use:=none) rfl hs (a6G (a3b C ho I)) C.kind C.names (thn (hi pins s σ H _ I h) fun v s1 h1=>thn h1 fun itv s2 h2=>?_);obtain⟨it,fp,tn,J,H2,e,I2,T,st2,f2,hR⟩:=h2;subst e;refine a4x C ho hN0 hc hg ht he I2 T st2 f2 hR fun D C s' H' m I' hm fC q=>?_;refine⟨m,hm,fun h' sb=>⟨.ref D,H',?_,rfl,q⟩⟩;exact I'.turned (t':=s'.toks) (fun b o hb e=>(sb.2 b hb).trans e) fC.1 fC.2.1 fC.2.2.2.1 fC.2.2.2.2.1 fC.2.2.2.2.2
theorem a9p {i:Nat}{y:Str}{py spos:Pos}(C:a3H osc scope N0 xs fr)(ho:X.env.scope=osc)(hN0:X.N=N0)(hc:X.calm=true)(hi:PI X tg iter wi)
  (hg:∀s H fp,PG (a0T X scope (a1i N0 xs fr) s H fp) tg g) (ht:∀s H fp,PIf (a0T X scope (a1i N0 xs fr) s H fp) ifs tt) (he:∀s H fp,PE (a0T X scope (a1i N0 xs fr) s H fp) elt te)
  (hN:X.N.Nodup) (hy:X.N[i]? =some y) (hx:Loc X.env.scope y)
  (hsw:swapsWith (.ListComp elt [⟨tg,iter,ifs,0⟩] scope pos) (some (.Name y py)) spos.line X.env=pure true:=by rfl)
  (hf:X.fn y=true\/X.env.scope.names.lookup y=some .local:=by first |exact .inl rfl |exact .inr rfl |assumption)
  (hs:∀x,foldedSetIterable iter X.env x=pure x:=by intro _;rfl):PS X (.Assign [.Name y py] (.ListComp elt [⟨tg,iter,ifs,0⟩] scope pos) spos) (b5A i xs fr wi g tt te):=by
 intro pins s σ H D I h;rw[exec_Assign_Name_used _ _ _ _ hsw];refine wB0 (wpAny_standAt (wB0 ?_));show wpAny _ X.A (do let _ <-comprehension (.ListComp elt [⟨tg,iter,ifs,0⟩] scope pos) scope X.env _ (newList []) false (eval iter X.env) (some (assign (.Name y py) X.env))) _ _ s;refine wB0 (wpAny_mono (wpAny_comprehension_free (use:=some (assign (.Name y py) X.env)) (Q:=fun _ s'=>SP X pins D .next s') rfl hs (a6G (a3b C ho I)) C.kind C.names
  (thn (hi pins s σ H _ I h) fun v s1 h1=>thn h1 fun itv s2 h2=>?_)) (fun _ s' hq=>wP0 (wP0 hq)) fun _ _ e=>e)
 obtain⟨it,fp,tn,J,H2,e,I2,T,st2,f2,hR⟩:=h2;subst e;refine a4x C ho hN0 hc hg ht he I2 T st2 f2 hR fun Dl C s' H' m I' hm fC q=>?_;refine wpAny_assign_Name (a5N I' hN hy hx (show a0Z (.ref Dl) (.ref Dl) from rfl) (fun s3 I3 hsb=>?_) hf);obtain⟨a,sb,ha⟩:=hsb;have hCa:C≠a:=by
  rcases ha with z |z
  ·rw[z];exact fC.2.1
  ·exact fun w=>fC.2.2.2.2.1 y a z w.symm
 refine⟨m,hm.sameBut sb hCa,fun h' sb'=>⟨_,H',?_,q⟩⟩;exact I3.turned (t':=s3.toks) (fun b o hb e=>(sb'.2 b hb).trans e) fC.1 fC.2.1 fC.2.2.2.1 fC.2.2.2.2.1 fC.2.2.2.2.2
end
def Its (x:Str):It:=⟨fun i _=>i<x.cps.size,fun i H v H'=>H'=H/\∃c,x.cps[i]? =some c/\v=.str ⟨#[c]⟩,fun i _=>x.cps.size<=i⟩
theorem a2J (x:Str):strIterType x="str_ascii_iterator"\/strIterType x="str_iterator":=by
 unfold strIterType
 split
 ·exact .inl rfl
 ·exact .inr rfl
theorem b0x {P:Program}{w:World}{K:Fg0}{tg:Expr}(x:Str)(t:Tok)(it:Addr):a9S P w K tg (Its x) [it] it (fun i h=>h.IsStrIter it (strIterType x) x t i) where
 mem:=by simp
 obj:=fun i h st b hb=>by
  have e:b=it:=by simpa using hb
  subst e;obtain⟨o,e,c,d⟩:=st;exact⟨o,e,fun v z=>by rw[d] at z;cases z⟩
 keep:=fun i h h' st k=>by
  obtain⟨o,e,r⟩:=st;exact⟨o,k it (by simp) o e,r⟩
 item:=by
  intro X hP hw hK hc i pins s σ H E I hf st hg;subst hP hw hK;have hg':i<x.cps.size:=hg;obtain⟨f0,f1,f2,f3,f4,f5⟩:=hf it (by simp);have key:∀h',h'.IsStrIter it (strIterType x) x t (i+1)->Heap.SameBut it s.heap h'->∃u,some (Value.str ⟨#[x.cps[i]]⟩ s.toks)=some u ∧
   wpAny (model X.prog X.w) X.A (letOwnedTupleGo tg (.ref it) u) (fun _ s2=>∃v H',Inv X pins σ H' s2/\a0Z v u/\(Its x).yld i H v H'/\s2.heap.IsStrIter it (strIterType x) x t (i+1)/\∀b∈[it],H' b=none) E { s with heap:=h',toks:=s.toks+1 }:=fun h' st' sb=>by
   have I1:Inv X pins σ H { s with heap:=h',toks:=s.toks+1 }:=I.turned (t':=s.toks+1) (fun b o hb e=>(sb.2 b hb).trans e) f0 f1 f3 f4 f5;obtain⟨o,e,c,d⟩:=id st';refine⟨_,rfl,a8T (s:={ s with heap:=h',toks:=s.toks+1 }) e c d ?_ ⟨.str ⟨#[x.cps[i]]⟩,H,I1,⟨_,rfl⟩,⟨rfl,_,by simp[hg'],rfl⟩,st',fun b hb=>(hf b hb).1⟩⟩;rcases a2J x with z |z<;>rw[z]<;>decide
  rcases a2J x with z |z
  ·rw[z] at st key
   rw[z];exact wpAny_pyNext_ascii_item st (c:=x.cps[i]) (by simp[hg']) fun h' a b=>key h' a b
  ·rw[z] at st key
   rw[z];exact wpAny_pyNext_wide_item st (c:=x.cps[i]) (by simp[hg']) fun h' a b=>key h' a b
 done:=by
  intro X hP hw hK hc i pins s σ H E I hf st hg;subst hP hw hK;have hg':x.cps.size<=i:=hg;obtain⟨f0,f1,f2,f3,f4,f5⟩:=hf it (by simp);have hx:x.cps[i]? =none:=by simp[hg']
  rcases a2J x with z |z
  ·rw[z] at st
   exact wpAny_pyNext_ascii_end (I.ok.hd hc) st hx fun h' eb=>⟨rfl,I.turned (t':=s.toks) (fun b o hb e=>eb b o hb e) f0 f1 f3 f4 f5⟩
  ·rw[z] at st
   exact wpAny_pyNext_wide_end (I.ok.hd hc) st hx fun h' eb=>⟨rfl,I.turned (t':=s.toks) (fun b o hb e=>eb b o hb e) f0 f1 f3 f4 f5⟩
 self:=fun A i s Q E st h=>by
  rcases a2J x with z |z
  ·rw[z] at st
   exact wpAny_pyIter_striter_ascii st h
  ·rw[z] at st
   exact wpAny_pyIter_striter_wide st h
section
variable {X:Cx}{tg:Expr}
def iStr (tl:TE):TI:=fun σ H R=>tl σ H fun x H1=>∃z,x=.str z/\R (Its z) H1
theorem b3R {l:Expr}{tl:TE}(hl:PE X l tl):PI X tg l (iStr tl):=by
 intro pins s σ H R I h;refine thn (hl pins s σ H _ I h) fun v s1 ⟨x,H1,I1,r1,q1⟩=>?_;obtain⟨z,e,q⟩:=q1;subst e;obtain⟨t,rfl⟩:=r1;refine wpAny_pyIter_strU ?_;refine⟨s1.heap.objs.size,[s1.heap.objs.size],_,_,H1,rfl,I1.kept (t':=s1.toks) fun b o e=>hP0 _ e,b0x z t _,⟨_,hS0 _ rfl,rfl,rfl⟩,fun b hb=>?_,q⟩;have e:b=s1.heap.objs.size:=by simpa using hb
 subst e;exact I1.fpOk (nR0 _) (I1.hok.fresh (nR0 _))
theorem a6X:∀{bs:List Bool} {us:List Value},a1c (bs.map V.bl) us->LSm.BoolsAre us bs
 |[],_,r=>by rw[List.map_nil] at r;cases r;exact .nil
 |b::bs,_,r=>by
  rw[mN0] at r;cases r with
  |cons h t=>
   cases h;exact .cons b (a6X t)
theorem b0X (hc:X.calm=true):a1p X (.builtin "all") (fun xs H Q=>∃(p:Addr) (bs:List Bool),xs=[.ref p]/\SqL X.K H p (bs.map V.bl)/\Q (.bl (bs.all id)) H):=by
 intro pins s σ H xs us Q I r h;obtain⟨l,bs,rfl,hq,q⟩:=h;obtain⟨u,rfl,rx⟩:=a2T r;cases rx;obtain⟨vs,r',pl,hz⟩:=I.list hq;have hb:LSm.BoolsAre vs bs:=a6X r';have hl:=pl.isList;have hlt:l<s.heap.objs.size:=by obtain⟨_,e,_⟩:=hl;exact hL0 e
 refine call_all_walk (wpAny_pyIter_list hl ?_);refine⟨s.heap.objs.size,[s.heap.objs.size,l],[s.heap.objs.size],vs.toArray.size,_,_,fun i=>(bs[i]?).getD true,rfl,Walks.list (A:=X.A.in1) (I.ok.hd hc) _ l (nL0 hlt) vs.toArray,
  ⟨⟨_,hS0 _ rfl,rfl,rfl⟩,hl.push _⟩,fun i v s' Q' E' hP hQ=>?_,fun h' tk hk=>?_⟩
 ·obtain⟨b,e,rfl⟩:=hb.get i v (by simpa using hP)
  simp only[e,Option.getD_some] at hQ;exact wpAny_truthy_bool hQ
 ·have e:((List.range vs.toArray.size).all fun i=>(bs[i]?).getD true)=bs.all id:=by
   rw[List.size_toArray,hb.length];exact LSm.range_all bs
  rw[e];exact⟨.bl (bs.all id),H,I.kept (LSm.kept_iter hk),rfl,q⟩
theorem a2n:a1p X (.builtin "isinstance") (fun xs H Q=>∃x n t b,xs=[x,.ty n]/\a6v X.K H x t/\PySem.W.kitOne X.K t (.type n)=some b/\Q (.bl b) H):=by
 intro pins s σ H xs us Q I r h;obtain⟨x,n,t,b,rfl,ty,e,q⟩:=h;obtain⟨u,w',rfl,rx,rc⟩:=a7N r
 cases(show w'=Value.type n from rc)
 exact a9O I rx ty e fun tk=>⟨.bl b,H,I.tok tk,rfl,q⟩
end
theorem a2C {J:It}{g:TG}{te:TE}{R:Addr->Hp->Prop}{D:Addr}{σ0:St}{H0:Hp}(n:Nat)(ev:Nat->V)(Pv:Nat->St->Hp->Prop)(hn:n<=sizeLine)(h0:Pv 0 σ0 H0)(hD0:H0 D=some (.lst []))
  (hs:∀i σ H,i<n->Pv i σ H->H D=some (.lst ((List.range i).map ev))->J.go i H/\∀x H',J.yld i H x H'->g x σ H' fun σ2 H2=>te σ2 H2 fun y H4=>y=ev i/\H4 D=some (.lst ((List.range i).map ev))/\Pv (i+1) σ2 (upd H4 D (.lst ((List.range (i+1)).map ev))))
  (hd:∀σ H,Pv n σ H->H D=some (.lst ((List.range n).map ev))->J.stop n H/\R D H):a6P J g b5O te R D σ0 H0:=by
 refine⟨fun i m σ H=>m=n-i/\i<=n/\Pv i σ H/\H D=some (.lst ((List.range i).map ev)),⟨n,by omega,zL0 _,h0,hD0⟩,?_⟩;rintro i m σ H ⟨rfl,hi,p,hD⟩
 by_cases hlt:i<n
 ·obtain⟨go,st⟩:=hs i σ H hlt p hD
  refine .inr ⟨go,fun σ2 y H4=>y=ev i/\H4 D=some (.lst ((List.range i).map ev))/\Pv (i+1) σ2 (upd H4 D (.lst ((List.range (i+1)).map ev))),fun _ _=>False,?_,fun _ _ z=>z.elim,st⟩;rintro σ2 y H4 ⟨rfl,e,p'⟩;refine⟨_,e,by simp;omega,n-(i+1),by omega,rfl,hlt,?_,?_⟩
  ·rw[List.range_succ,mA0] at p'
   exact p'
  ·rw[a0b,List.range_succ,mA0]
   rfl
 ·have e:i=n:=by omega
  subst e;exact .inl (hd σ H p hD)
theorem a1I {α β:Type}(l:List α)(d:α)(f:α->β):((List.range l.length).map fun i=>f (l.getD i d))=l.map f:=by
 apply List.ext_getElem?;intro i;rw[gM0,gM0]
 by_cases h:i<l.length
 ·rw[List.getElem?_range h,gE0 h]
  simp[List.getD_eq_getElem?_getD,gE0 h]
 ·rw[List.getElem?_eq_none (by simpa using h),List.getElem?_eq_none (by simpa using h)]
  rfl
theorem a0m.upd {H:Hp}{D:Addr}{o:HO}(h:H D=none):a0m H (L2.upd H D o):=fun b u e=>by
 rw[a0g (a0C e h)];exact e
def a0V (a b:String):Option Bool:=if (Value.type a==Value.type b)=true then some true else if PySem.W.kitMeta b=true then(fastBuiltinMro a).map (·.contains (.type b)) else none
theorem a2B {K:Fg0}{a b:String}:PySem.W.kitOne K (.type a) (.type b)=a0V a b:=rfl
def a4f:List String:=["NoneType","bool","int","str","list","tuple","dict"]
theorem b2E:∀n∈a4f,a0V n "int"=some (n=="int" || n=="bool"):=by decide +kernel
theorem b0T:∀n∈a4f,a0V n "bool"=some (n=="bool"):=by decide +kernel
theorem a9Q:∀n∈a4f,a0V n "str"=some (n=="str"):=by decide +kernel
theorem a5E:∀n∈a4f,a0V n "tuple"=some (n=="tuple"):=by decide +kernel
def Is (K:Fg0)(H:Hp)(v:V)(n:String):Prop:=a6v K H v (.type n)/\n∈a4f
theorem Is.non {K:Fg0}{H:Hp}:Is K H .non "NoneType":=⟨.non,by decide⟩
theorem Is.bl {K:Fg0}{H:Hp}{b:Bool}:Is K H (.bl b) "bool":=⟨.bl b,by decide⟩
theorem Is.int {K:Fg0}{H:Hp}{i:Int}:Is K H (.int i) "int":=⟨.int i,by decide⟩
theorem Is.str {K:Fg0}{H:Hp}{x:Str}:Is K H (.str x) "str":=⟨.str x,by decide⟩
theorem Is.lst {K:Fg0}{H:Hp}{a:Addr}{xs:List V}(h:H a=some (.lst xs)):Is K H (.ref a) "list":=⟨.lst h,by decide⟩
theorem Is.tup {K:Fg0}{H:Hp}{a:Addr}{xs:List V}(h:H a=some (.tup xs)):Is K H (.ref a) "tuple":=⟨.tup h,by decide⟩
theorem Is.dK {K:Fg0}{H:Hp}{a:Addr}{kvs:List (Key×V)}(h:H a=some (.dK kvs)):Is K H (.ref a) "dict":=⟨.dK h,by decide⟩
theorem Is.str_of {K:Fg0}{H:Hp}{v:V}(h:Is K H v "str"):∃x,v=.str x:=by
 obtain⟨t,_⟩:=h;generalize e:Value.type "str"=u at t;cases t<;>first |exact⟨_,rfl⟩ |exact absurd (Value.type.inj e) (by decide) |cases e
def a1e (K:Fg0)(x:Str)(st:Stmt):Prop:=∃(f:Addr) (oc:Value) (od:Option Addr) (kV doc pm:Value) (an:Option Addr) (cdv ct:Value) (osl:Array (Option Value)),
 PySem.W.nsIn K mainGlobals x=some (some (.ref f))/\K.lookup f=some ⟨oc,od,.func (PySem.W.fnOf x x (a0Y st) (a0J st) (a0f st) .none kV doc pm an cdv ct),osl⟩/\PySem.W.codeIn K cdv x=true/\PySem.W.keepIn K (.ref f)=true
theorem b0t {K:Fg0}{x:Str}{st:Stmt}{f:Addr}{oc:Value}{od an:Option Addr}{osl:Array (Option Value)}{kV doc pm cdv ct:Value}(a:PySem.W.nsIn K mainGlobals x=some (some (.ref f)))
  (l:K.lookup f=some ⟨oc,od,.func (PySem.W.fnOf x x (a0Y st) (a0J st) (a0f st) .none kV doc pm an cdv ct),osl⟩) (c:PySem.W.codeIn K cdv x=true) (k:PySem.W.keepIn K (.ref f)=true):a1e K x st:=
 ⟨f,oc,od,kV,doc,pm,an,cdv,ct,osl,a,l,c,k⟩
structure Df (K:Fg0) (mg:Str->Option Value) (x:Str) (st:Stmt) (f:Addr) (fd:FuncData):Prop where
 fn:Fun K x x st f fd
 mg:mg x=some (.ref f)
theorem a1e.df {K:Fg0}{h:Heap}{mg:Str->Option Value}{x:Str}{st:Stmt}(d:a1e K x st)(X:K.In h)(G:h.Ns mainGlobals mg):∃f fd,Df K mg x st f fd:=by
 obtain⟨f,oc,od,kV,doc,pm,an,cdv,ct,osl,a,l,c,k⟩:=d;exact⟨f,_,a8x l c k,PySem.W.mg_of X G a⟩
end L2
namespace PySem.SeqAt
open MeetsSeq
open AutoSeq1 (wpAny_loadPart')
theorem a1Q (l:Addr)(es:Array DictEntry)(ep:Nat)(dd:Option Addr)(sl:Array (Option Value))(b:Str)(u:Tok) :
  Meets (Builtin.«dict.__eq__» ⟨[.ref l,.str b u],[]⟩) (fun _ R s=>s.heap.get? l=some { cls:=.type "dict",dict:=dd,data:=.dict es ep,slots:=sl }/\R (.ok (.ret .notImplemented)) s):=
 .of_wp fun prog w A R s h=>by obtain⟨hp,g,d,tk,os⟩:=s;obtain⟨hl,h⟩:=h;have f1:=F.sub_str_dict;wp_walk using wpAny_loadPart' hl;exact⟨_,rfl,h⟩
theorem a1S (b:Str)(u:Tok)(l:Addr)(c:Value)(es:Array DictEntry)(ep:Nat)(dd:Option Addr)(sl:Array (Option Value)) :
  Meets (Builtin.«str.__eq__» ⟨[.str b u,.ref l],[]⟩) (fun _ R s=>s.heap.get? l=some { cls:=c,dict:=dd,data:=.dict es ep,slots:=sl }/\R (.ok (.ret .notImplemented)) s):=
 .of_wp fun prog w A R s h=>by obtain⟨hp,g,d,tk,os⟩:=s;obtain⟨hl,h⟩:=h;wp_walk using wpAny_loadPart' hl,wpAny_load hl;exact⟨_,rfl,h⟩
section
variable {A:Around}{s:Shared}
theorem RcAt.dict_str {l:Addr}{o:Obj}{es:Array DictEntry}{ep:Nat}(b:Str)(u:Tok)(ho:s.heap.get? l=some o)(hc:o.cls=.type "dict")(hd:o.data=.dict es ep)(hu:A.units<cLine):RcAt A s (.ref l) (.str b u) false:=fun prog w E Q h=>by
 obtain⟨cls,dd,data,sl⟩:=o;simp only at hc hd;subst hc hd;exact rc_eq_decline_or (k:=false) ⟨_,ho,rfl⟩ (typeIs_str s b u) (by decide) F.sub_str_dict F.slot_dict_eq F.slot_str_eq_refl
  (fun _ hq=>call_meets F.slot_dict_eq ⟨_,ho,rfl⟩ F.entry_dict_eq (F.args_dict_eq_2 _ _) (a1Q l es ep dd sl b u) ⟨ho,hq⟩)
  (fun _ hq=>call_meets F.slot_str_eq_refl (typeIs_str s b u) F.entry_str_eq (F.args_str_eq_2 _ _) (a1S b u l (.type "dict") es ep dd sl) ⟨ho,hq⟩)
  (fun _ hq=>wpAny_of_eq (rfl:isSame (.ref l) (.str b u)=pure false) hq) (.inr hu) h
theorem EqAt.str_dict {l:Addr}{o:Obj}{es:Array DictEntry}{ep:Nat}(b:Str)(u:Tok)(ho:s.heap.get? l=some o)(hc:o.cls=.type "dict")(hd:o.data=.dict es ep)(hu:A.units<cLine):EqAt A s (.str b u) (.ref l) false:=fun prog w E Q h=>by
 obtain⟨cls,dd,data,sl⟩:=o;simp only at hc hd;subst hc hd;unfold eqBool;refine wpAny_holding ?_;refine wpAny_ite_split (fun hab=>absurd (eq_of_beq hab) nofun) (fun _=>?_);refine wB0 (rc_eq_decline_or (k:=false) (typeIs_str s b u) ⟨_,ho,rfl⟩ (by decide) F.sub_dict_str F.slot_str_eq F.slot_dict_eq_refl
  (fun _ hq=>call_meets F.slot_str_eq (typeIs_str s b u) F.entry_str_eq (F.args_str_eq_2 _ _) (a1S b u l (.type "dict") es ep dd sl) ⟨ho,hq⟩)
  (fun _ hq=>call_meets F.slot_dict_eq_refl ⟨_,ho,rfl⟩ F.entry_dict_eq (F.args_dict_eq_2 _ _) (a1Q l es ep dd sl b u) ⟨ho,hq⟩)
  (fun _ hq=>wpAny_of_eq (rfl:isSame (.str b u) (.ref l)=pure false) hq) (.inr hu) (wpAny_truthy_bool h))
end
end PySem.SeqAt
namespace L2
open PySem PySem.Spec PyProof.Rows
inductive Dt where
 |non |bl (b:Bool) |int (i:Int) |str (z:Str) |tup (ds:List Dt) |lst (ds:List Dt) |dct
mutual
def Rep (H:Hp):Dt->V->Prop
 | .non,v=>v=.non
 | .bl b,v=>v=.bl b
 | .int i,v=>v=.int i
 | .str z,v=>v=.str z/\z.length<=1000
 | .tup ds,v=>∃a xs,v=.ref a/\H a=some (.tup xs)/\a2c H ds xs
 | .lst ds,v=>∃a xs,v=.ref a/\H a=some (.lst xs)/\a2c H ds xs
 | .dct,v=>∃a kvs,v=.ref a/\H a=some (.dK kvs)
def a2c (H:Hp):List Dt->List V->Prop
 |[],xs=>xs=[]
 |d::ds,xs=>∃v vs,xs=v::vs/\Rep H d v/\a2c H ds vs
end
mutual
theorem Rep.same {H H':Hp}(e:a0m H H'):∀{d:Dt} {v:V},Rep H d v->Rep H' d v
 | .non,v,h=>by unfold Rep at h ⊢;exact h
 | .bl b,v,h=>by unfold Rep at h ⊢;exact h
 | .int i,v,h=>by unfold Rep at h ⊢;exact h
 | .str z,v,h=>by unfold Rep at h ⊢;exact h
 | .tup ds,v,h=>by
  unfold Rep at h ⊢;obtain⟨a,xs,h1,h2,h3⟩:=h;exact⟨a,xs,h1,e _ _ h2,a2c.same e h3⟩
 | .lst ds,v,h=>by
  unfold Rep at h ⊢;obtain⟨a,xs,h1,h2,h3⟩:=h;exact⟨a,xs,h1,e _ _ h2,a2c.same e h3⟩
 | .dct,v,h=>by
  unfold Rep at h ⊢;obtain⟨a,xs,h1,h2⟩:=h;exact⟨a,xs,h1,e _ _ h2⟩
theorem a2c.same {H H':Hp}(e:a0m H H'):∀{ds:List Dt} {vs:List V},a2c H ds vs->a2c H' ds vs
 |[],vs,h=>by unfold a2c at h ⊢;exact h
 |d::ds,vs,h=>by
  unfold a2c at h ⊢;obtain⟨v,ws,h1,h2,h3⟩:=h;exact⟨v,ws,h1,Rep.same e h2,a2c.same e h3⟩
end
def tyD:Dt->String
 | .non=>"NoneType" | .bl _=>"bool" | .int _=>"int" | .str _=>"str" | .tup _=>"tuple" | .lst _=>"list" | .dct=>"dict"
theorem Rep.is {K:Fg0}{H:Hp}:∀{d:Dt} {v:V},Rep H d v->Is K H v (tyD d)
 | .non,v,h=>by unfold Rep at h;subst h;exact .non
 | .bl b,v,h=>by unfold Rep at h;subst h;exact .bl
 | .int i,v,h=>by unfold Rep at h;subst h;exact .int
 | .str z,v,h=>by unfold Rep at h;obtain⟨rfl,_⟩:=h;exact .str
 | .tup ds,v,h=>by unfold Rep at h;obtain⟨a,xs,rfl,h2,_⟩:=h;exact .tup h2
 | .lst ds,v,h=>by unfold Rep at h;obtain⟨a,xs,rfl,h2,_⟩:=h;exact .lst h2
 | .dct,v,h=>by unfold Rep at h;obtain⟨a,xs,rfl,h2⟩:=h;exact .dK h2
theorem a2c.length {H:Hp}:∀{ds:List Dt} {vs:List V},a2c H ds vs->vs.length=ds.length
 |[],vs,h=>by unfold a2c at h;subst h;rfl
 |d::ds,vs,h=>by
  unfold a2c at h;obtain⟨v,ws,rfl,_,h3⟩:=h;rw[List.length_cons,List.length_cons,a2c.length h3]
def a1x:Dt->Str->Bool
 | .str y,z=>y==z
 |_,_=>false
section
variable {X:Cx}{pins:List (Addr×Obj)}{σ:St}{H:Hp}{s:Shared}
theorem a6Q (hu:X.A.units<cLine):OpR X (compareOp .Eq) (fun x y H Q=>∃d z,Rep H d x/\y=.str z/\Q (.bl (a1x d z)) H):=by
 intro pins s σ H x y v u Q I rx ry h;obtain⟨d,z,hd,rfl,q⟩:=h;obtain⟨t,rfl⟩:=ry;cases d with
 |non=>
  unfold Rep at hd;subst hd;exact a1o pins s σ H .non (.str z) v _ Q I rx ⟨t,rfl⟩ ⟨rfl,by simpa[a1x] using q⟩
 |bl b=>
  unfold Rep at hd;subst hd;exact a1o pins s σ H (.bl b) (.str z) v _ Q I rx ⟨t,rfl⟩ ⟨rfl,by simpa[a1x] using q⟩
 |int i=>
  unfold Rep at hd;subst hd;exact a1o pins s σ H (.int i) (.str z) v _ Q I rx ⟨t,rfl⟩ ⟨rfl,by simpa[a1x] using q⟩
 |str y=>
  unfold Rep at hd;obtain⟨rfl,_⟩:=hd;exact a1o pins s σ H (.str y) (.str z) v _ Q I rx ⟨t,rfl⟩ ⟨rfl,by rw[a6s];exact q⟩
 |tup ds=>
  unfold Rep at hd;obtain⟨a,xs,rfl,ha,_⟩:=hd;cases rx;obtain⟨its,_,p,_⟩:=I.tuple (SqT.of ha);exact SeqAt.RcAt.tuple_str z t p hu X.prog X.w X.xe _ ⟨.bl false,H,I,rfl,q⟩
 |lst ds=>
  unfold Rep at hd;obtain⟨a,xs,rfl,ha,_⟩:=hd;cases rx;obtain⟨its,_,p,_⟩:=I.list (SqL.of ha);exact SeqAt.RcAt.list_str z t p.isList hu X.prog X.w X.xe _ ⟨.bl false,H,I,rfl,q⟩
 |dct=>
  unfold Rep at hd;obtain⟨a,kvs,rfl,ha⟩:=hd;cases rx;obtain⟨_,_,vs,_,o,es,ep,h1,h2,h3,_⟩:=a6t I.hok ha;exact SeqAt.RcAt.dict_str z t h1 h2.1 h3 hu X.prog X.w X.xe _ ⟨.bl false,H,I,rfl,q⟩
theorem b3V {A:Around}{d:Dt}{x:V}{v:Value}(hu:A.units<cLine)(I:Inv X pins σ H s)(hd:Rep H d x)(rx:a0Z x v)(z:Str)(t:Tok):SeqAt.EqAt A s (.str z t) v (a1x d z):=by
 cases d with
 |non=>
  unfold Rep at hd;subst hd;cases rx;exact SeqAt.EqAt.str_none z t
 |bl b=>
  unfold Rep at hd;subst hd;cases rx;exact SeqAt.EqAt.str_bool z t b
 |int i=>
  unfold Rep at hd;subst hd;obtain⟨t',rfl⟩:=rx;exact SeqAt.EqAt.str_int z t i t'
 |str y=>
  unfold Rep at hd;obtain⟨rfl,_⟩:=hd;obtain⟨t',rfl⟩:=rx;have e:a1x (.str y) z=(z==y):=by
   show(y==z)=(z==y)
   rw[Bool.eq_iff_iff,beq_iff_eq,beq_iff_eq];exact⟨Eq.symm,Eq.symm⟩
  rw[e];exact SeqAt.EqAt.str_str z t y t'
 |tup ds=>
  unfold Rep at hd;obtain⟨a,xs,rfl,ha,_⟩:=hd;cases rx;obtain⟨its,_,p,_⟩:=I.tuple (SqT.of ha);exact SeqAt.EqAt.str_tuple z t p hu
 |lst ds=>
  unfold Rep at hd;obtain⟨a,xs,rfl,ha,_⟩:=hd;cases rx;obtain⟨its,_,p,_⟩:=I.list (SqL.of ha);exact SeqAt.EqAt.str_list z t p.isList hu
 |dct=>
  unfold Rep at hd;obtain⟨a,kvs,rfl,ha⟩:=hd;cases rx;obtain⟨_,_,vs,_,o,es,ep,h1,h2,h3,_⟩:=a6t I.hok ha;exact SeqAt.EqAt.str_dict z t h1 h2.1 h3 hu
def b4O (d:Dt):Value->Bool
 | .str z _=>a1x d z
 |_=>false
theorem a7F {d:Dt}:∀{zs:List Str} {us:List Value},a1c (zs.map V.str) us->us.any (b4O d)=zs.any (a1x d)
 |[],_,r=>by rw[List.map_nil] at r;cases r;rfl
 |z::zs,_,r=>by
  rw[mN0] at r;cases r with
  |cons h t=>
   obtain⟨t',rfl⟩:=h;rw[List.any_cons,List.any_cons,a7F t]
   rfl
theorem b0L {zs:List Str}{us:List Value}(r:a1c (zs.map V.str) us):∀u∈us,∃z t,u=.str z t:=by
 intro u hu;obtain⟨i,hi,e⟩:=List.getElem_of_mem hu;have hl:=r.length
 have:(zs.map V.str)[i]? =some (.str (zs[i]'(by rw[lM0] at hl;omega))):=by
  rw[gM0,gE0 (by rw[lM0] at hl;omega)]
  rfl
 obtain⟨w,hw,rw'⟩:=r.get this;rw[gE0 hi,e] at hw;cases hw;obtain⟨t,rfl⟩:=rw';exact⟨_,t,rfl⟩
theorem b1x (hu:X.A.units+1<cLine):OpR X (compareOp .In) (fun x y H Q=>∃(d:Dt) (p:Addr) (zs:List Str),Rep H d x/\y=.ref p/\H p=some (.tup (zs.map V.str))/\Q (.bl (zs.any (a1x d))) H):=by
 intro pins s σ H x y v u Q I rx ry h;obtain⟨d,p,zs,hd,rfl,hp,q⟩:=h;cases ry;obtain⟨its,r,pl,_⟩:=I.tuple (SqT.of hp);refine SeqAt.in_tupleAt (b4O d) pl (fun w' hw=>?_) ⟨.bl _,H,I,rfl,?_⟩
 ·obtain⟨z,t,rfl⟩:=b0L r w' (by simpa using hw)
  exact b3V (A:=X.A.in1) hu I hd rx z t
 ·rw[show its.toArray.any (b4O d)=its.any (b4O d) by simp,a7F r]
  exact q
theorem a6i:OpR X (compareOp .LtE) (fun x y H Q=>∃i j,x=.str i/\y=.str j/\Q (.bl (!decide (j.cps.toList<i.cps.toList))) H):=by
 intro pins s σ H x y v u Q I rx ry h;obtain⟨i,j,rfl,rfl,q⟩:=h;obtain⟨t,rfl⟩:=rx;obtain⟨t',rfl⟩:=ry;exact PySem.P.le_str ⟨.bl _,H,I,rfl,q⟩
end
end L2
namespace My
open PySem L2 PyProof.Rows
theorem pos {j:Int}(h:decide ((0:Int)<j)=true):0<j:=of_decide_eq_true h
def a6K (K:Fg0):Sp:=fun vs H Q _=>∃(v:V) (n:String),vs=[v]/\Is K H v n/\Q (.bl (n=="int")) H
theorem a5q {ns:List Int}{k:Int}(h0:0<=k)(h1:k<ns.length):atI (ns.map V.int) k=some (.int (ns.getD k.toNat 0)):=by
 obtain⟨j,rfl⟩:=Int.eq_ofNat_of_zero_le h0;refine a0U ?_;have hj:j<ns.length:=by omega
 rw[gM0,gE0 hj];simp[List.getD_eq_getElem?_getD,gE0 hj]
theorem boot_isi:bootBuiltins "isinstance"=some (.builtin "isinstance"):=by decide +kernel
theorem boot_int:bootBuiltins "int"=some (.type "int"):=by decide +kernel
theorem boot_bool:bootBuiltins "bool"=some (.type "bool"):=by decide +kernel
theorem boot_str:bootBuiltins "str"=some (.type "str"):=by decide +kernel
theorem boot_list:bootBuiltins "list"=some (.type "list"):=by decide +kernel
theorem boot_tuple:bootBuiltins "tuple"=some (.type "tuple"):=by decide +kernel
theorem boot_dict:bootBuiltins "dict"=some (.type "dict"):=by decide +kernel
theorem boot_abs:bootBuiltins "abs"=some (.builtin "abs"):=by decide +kernel
theorem boot_ord:bootBuiltins "ord"=some (.builtin "ord"):=by decide +kernel
structure Bl (mg:Str->Option Value):Prop where
 len:mg "len"=none
 isi:mg "isinstance"=none
 int:mg "int"=none
 bool:mg "bool"=none
 str:mg "str"=none
 all:mg "all"=none
 range:mg "range"=none
 abs:mg "abs"=none
 ord:mg "ord"=none
 list:mg "list"=none
 tuple:mg "tuple"=none
 dict:mg "dict"=none
 any:mg "any"=none
 sorted:mg "sorted"=none
 set:mg "set"=none
 enum:mg "enumerate"=none
structure BlK (K:Fg0):Prop where
 len:PySem.W.nsIn K mainGlobals "len"=some none
 isi:PySem.W.nsIn K mainGlobals "isinstance"=some none
 int:PySem.W.nsIn K mainGlobals "int"=some none
 bool:PySem.W.nsIn K mainGlobals "bool"=some none
 str:PySem.W.nsIn K mainGlobals "str"=some none
 all:PySem.W.nsIn K mainGlobals "all"=some none
 range:PySem.W.nsIn K mainGlobals "range"=some none
 abs:PySem.W.nsIn K mainGlobals "abs"=some none
 ord:PySem.W.nsIn K mainGlobals "ord"=some none
 list:PySem.W.nsIn K mainGlobals "list"=some none
 tuple:PySem.W.nsIn K mainGlobals "tuple"=some none
 dict:PySem.W.nsIn K mainGlobals "dict"=some none
 any:PySem.W.nsIn K mainGlobals "any"=some none
 sorted:PySem.W.nsIn K mainGlobals "sorted"=some none
 set:PySem.W.nsIn K mainGlobals "set"=some none
 enum:PySem.W.nsIn K mainGlobals "enumerate"=some none
theorem BlK.bl {K:Fg0}{h:Heap}{mg:Str->Option Value}(b:BlK K)(X:K.In h)(G:h.Ns mainGlobals mg):Bl mg:=
 ⟨PySem.W.mg_none_of X G b.len,PySem.W.mg_none_of X G b.isi,PySem.W.mg_none_of X G b.int,PySem.W.mg_none_of X G b.bool,PySem.W.mg_none_of X G b.str,PySem.W.mg_none_of X G b.all,PySem.W.mg_none_of X G b.range,PySem.W.mg_none_of X G b.abs,PySem.W.mg_none_of X G b.ord,PySem.W.mg_none_of X G b.list,PySem.W.mg_none_of X G b.tuple,PySem.W.mg_none_of X G b.dict,PySem.W.mg_none_of X G b.any,PySem.W.mg_none_of X G b.sorted,PySem.W.mg_none_of X G b.set,PySem.W.mg_none_of X G b.enum⟩
theorem a5d {b:Bool}{A B:Prop}(h:b=true)(a:A):if b=true then A else B:=by rw[if_pos h];exact a
theorem a2j {b:Bool}{A B:Prop}(h:b=false)(a:B):if b=true then A else B:=by rw[h,if_neg bF0];exact a
theorem a8c {n k:Nat}:decide (V.int (n:Int)=V.int (k:Int))=decide (n=k):=by
 rw[Bool.eq_iff_iff,decide_eq_true_iff,decide_eq_true_iff]
 constructor
 ·intro e;injection e with e;omega
 ·intro e;rw[e]
def b3X (K:Fg0):Sp:=fun vs H Q _=>∃(a:Addr) (ns:List Int),vs=[.ref a]/\SqL K H a (ns.map V.int)/\ns.length<=63/\∀H',Q (.bl true) H'
theorem walk (k:Nat){l:PySem.W.OpenLaw}{q:Program}{loose:List Str}{XP:(Str->Option Value)->Heap->Prop}{YP:World->Heap->Prop}{d:DefRec}{K:Params->Fg0}(hk:a1r k callerA)(hn:l.most=some 63)(hdf:d.params.defaults=[])
  (hY:∀(w:World) (h:Heap),YP w h->(K w.params).In h)
  (F:∀(w:World) (mg:Str->Option Value) (fa:Addr) (h:Heap),(K w.params).In h->h.Ns mainGlobals mg->mg d.name=some (.ref fa) →
   ∃fd:FuncData,(∀(s:Shared) (u:Value),BindsTo s fd ⟨[u],[]⟩ [("_law_script",u)])/\∀base:Heap,(K w.params).In base->base.Ns mainGlobals mg->a0F l.prog w (K w.params) mg base CX0 k fa fd ["_law_script"] (b3X (K w.params))) :
  PySem.W.WalkO q loose XP YP l.row.toRowW d [] (fun f vs=>PySem.call f vs):=
 L2.b2K (n:=63) (k:=k) (x:="_law_script") (CX:=fun _=>CX0) (sp:=fun w=>b3X (K w.params)) hn (by decide) hdf hk hY F (fun _ _ a ns hl _ hS=>⟨a,ns,rfl,hS,hl,fun _=>rfl⟩) fun _ _ _ _ _ z=>z
end My
namespace L2
open PySem PySem.Spec PyProof.Rows
theorem b1g:∀{zs:List Str} {us:List Value},a1c (zs.map V.str) us->StrsAre us zs
 |[],_,.nil=>.nil
 |z::_,_,.cons r1 r2=>by
  obtain⟨t,rfl⟩:=r1;exact .cons z t (b1g r2)
section
variable {X:Cx}
theorem b1c:MtR X "str.join" (fun x xs H Q=>∃(z:Str) (p:Addr) (ys:List Str),x=.str z/\xs=[.ref p]/\SqL X.K H p (ys.map V.str)/\(ys.map (·.length)).sum+ys.length * z.length<=16777216/\Q (.str (Txt.join z ys)) H):=by
 intro pins s σ H x xs v us Q I rx r h;obtain⟨z,p,ys,rfl,rfl,hp,hz,q⟩:=h;obtain⟨t,rfl⟩:=rx;obtain⟨u,rfl,r1⟩:=a2T r;cases r1;obtain⟨its,r',pl,_⟩:=I.list hp;exact join_list pl.isList (by simpa using b1g r') hz fun t' k=>⟨.str (Txt.join z ys),H,I.tok _,⟨_,rfl⟩,q⟩
end
end L2
namespace Nm
open PySem PySem.NumText PySem.W PyProof.Rows
end Nm
namespace L2
open PySem PySem.Spec PyProof.Rows
theorem a6m {α:Type}{t:Sem α}{Q Q':α->Shared->Prop}{M:Model}{A:Around}{E:Vs0}{s:Shared}{n:Nat}(hn:n<=s.toks)(h:wpAny M A t Q E s)(hQ:∀a s',n<=s'.toks->Q a s'->Q' a s'):wpAny M A t Q' E s:=
 wpAny_mono (wpAny_toks_of hn h) (fun a s' x=>hQ a s' x.1 x.2) fun _ _ x=>x.2
def PEk (n:Nat)(X:Cx)(e:Expr)(t:TE):Prop:=
 ∀(pins:List (Addr×Obj)) (s:Shared) (σ:St) (H:Hp) (Q:VK),n<=s.toks->Inv X pins σ H s->t σ H Q->wpAny (model X.prog X.w) X.A (eval e X.env) (EP X pins σ Q) X.xe s
def PSk (n:Nat)(X:Cx)(st:Stmt)(t:TS):Prop:=
 ∀(pins:List (Addr×Obj)) (s:Shared) (σ:St) (H:Hp) (D:a5o),n<=s.toks->Inv X pins σ H s->t D σ H->wpAny (model X.prog X.w) X.A (exec st X.env) (SP X pins D) X.xe s
def b0a (n:Nat)(X:Cx)(st:List Stmt)(t:TS):Prop:=
 ∀(pins:List (Addr×Obj)) (s:Shared) (σ:St) (H:Hp) (D:a5o),n<=s.toks->Inv X pins σ H s->t D σ H->wpAny (model X.prog X.w) X.A (execs st X.env) (SP X pins D) X.xe s
section
variable {n:Nat}{X:Cx}{st:Stmt}{rest:List Stmt}{t u:TS}{e a b:Expr}{te ta tb:TE}{pos:Pos}
theorem PS.k (h:PS X st t):PSk n X st t:=fun pins s σ H Q _ I q=>h pins s σ H Q I q
theorem PSs.k (h:PSs X rest t):b0a n X rest t:=fun pins s σ H Q _ I q=>h pins s σ H Q I q
theorem a2a (h1:PSk n X st t)(h2:b0a n X rest u):b0a n X (st::rest) (b5z t u):=by
 intro pins s σ H D hn I h;refine wpAny_execs_cons (a6m hn (h1 pins s σ H { D with nx:=u D } hn I h) fun f s1 hn1 q=>?_);cases f with
 |next=>
  obtain⟨σ',H',I',q⟩:=q;exact h2 pins s1 σ' H' D hn1 I' q
 |ret v=>exact q
 |brk=>exact q
 |cont=>exact q
theorem a7e (h1:PSk n X st t):b0a n X [st] t:=by
 intro pins s σ H D hn I h;refine wpAny_execs_cons (thn (h1 pins s σ H D hn I h) fun f s1 q=>?_);cases f with
 |next=>exact wpAny_execs_nil q
 |ret v=>exact q
 |brk=>exact q
 |cont=>exact q
theorem a9e (he:PEk n X e te):PSk n X (.Return (some e) pos) (b5X te):=by
 intro pins s σ H D hn I h;exact wpAny_Return_some (thn (he pins s σ H _ hn I h) fun v s1 ⟨x,H1,I1,r1,q1⟩=>⟨x,σ,H1,I1,r1,q1⟩)
end
abbrev WK:=Value->Nat->V->Hp->Prop
abbrev SpW:=List V->Hp->WK->Prop
def CRW (outer:List Env)(P:Program)(w:World)(H:Hp)(s:Shared)(Q:WK)(r:Result)(s':Shared):Prop:=
 match r with
 | .ok (.ret u)=>∃v H',s'.os=s.os/\AllBare s'.gens/\Un (frs outer) [] H H' s.heap s'.heap/\HOk P w H' s'.heap/\a0Z v u/\Q u s'.toks v H'
 |_=>False
structure a3j (n:Nat) (P:Program) (w:World) (K:Fg0) (mg:Str->Option Value) (base:Heap) (k:Nat) (f:Addr) (fd:FuncData) (ps:List Str) (sp:SpW):Prop where
 len:∀vs H Q,sp vs H Q->vs.length=ps.length
 run:∀(A:Around) (outer:List Env) (s:Shared) (H:Hp) (args:Args) (us:List Value) (vs:List V) (Q:WK),n<=s.toks->a1r k A->a7n P w K mg base A outer s H->BindsTo s fd args (ps.zip us)->a1c vs us->sp vs H Q →
  codeAny (model P w) A (.call (.ref f) args) (CRW outer P w H s Q) s
def SPW (X:Cx)(pins:List (Addr×Obj))(Q:WK)(f:Flow)(s':Shared):Prop:=
 match f with
 | .ret u=>∃v σ' H',Inv X pins σ' H' s'/\a0Z v u/\Q u s'.toks v H'
 |_=>False
section
variable {P:Program}{w:World}{K:Fg0}{mg:Str->Option Value}{base:Heap}
theorem Fun.okW {x qual:Str}{st:Stmt}{f:Addr}{fd:FuncData}{N ps:List Str}{n k:Nat}{sp:SpW}(F:Fun K x qual st f fd)(S:a0o N ps (a0f st))(len:∀vs H Q,sp vs H Q->vs.length=ps.length)
  (hbody:∀(cdv:Value) (A:Around) (outer:List Env) (s:Shared) (H:Hp) (vs:List V) (Q:WK) (s1:Shared),a1r k (A.deeper (envOfC qual (a0f st) s.heap.objs.size f cdv))->sp vs H Q->n<=s1.toks →
   Inv (a5U CX0 P w K mg base N qual (a0f st) f cdv A outer s H (fun _ _ _=>False)).nox [] (a2M N vs) H s1 →
   wpAny (model P w) (A.deeper (envOfC qual (a0f st) s.heap.objs.size f cdv)) (execs (a0J st) (envOfC qual (a0f st) s.heap.objs.size f cdv)) (SPW (a5U CX0 P w K mg base N qual (a0f st) f cdv A outer s H (fun _ _ _=>False)).nox [] Q) (fun _ _=>False) s1) :
  a3j n P w K mg base (k+1) f fd ps sp:=by
 obtain⟨oc,od,kV,doc,pm,an,cdv,ct,osl,rfl,lk,hcd⟩:=F.ex;refine⟨len,fun A outer s H args us vs Q hn hr e0 hb r hsp=>?_⟩;have hl:=len _ _ _ hsp;have KX:K.In s.heap:=e0.mod.kin.keeps fun b o e=>(e0.bs b o e).1;have lim:s.heap.NoLimit:=e0.mod.nolimit.keeps fun b o e=>(e0.bs b o e).1;have hkind:∀y∈ps.zip us,(a0f st).names.lookup y.1=some .local\/((a0f st).names.lookup y.1=some .cell/\((cellsFrom (s.heap.objs.size+1) (a0f st).names []).lookup y.1).isSome=true):=fun⟨n,v⟩ hy=>by
  rcases S.par n (List.of_mem_zip hy).1 with q |q
  ·exact .inl q
  ·exact .inr ⟨q,PySem.W.cellsFrom_some _ _ _ (.inl q)⟩
 refine codeAny_call_function hr.depth (KX _ _ lk) rfl S.co S.gen rfl (PySem.W.codeRec_of KX hcd) (hb _ _ _ _ ?_);refine wpAny_with_toks hn ?_;refine wpAny_newFunctionEnv_cells S.kind hkind fun env he s1 x hn1=>?_;subst he;refine⟨lim.keeps x.toInCall.keep,codeAny_func ?_⟩;have I:Inv (a5U CX0 P w K mg base N qual (a0f st) f cdv A outer s H (fun _ _ _=>False)) [] (a2M N vs) H s1:=a4e S hr.hd e0 hl r x;refine wpAny_mono (hbody cdv A outer s H vs Q s1 (hr.deeper _) hsp hn1 (I.wish _)) (fun fl s' hs=>?_) fun e s' hs=>False.elim hs;cases fl with
 |ret u=>
  obtain⟨v,σ',H',J,rv,q⟩:=hs;exact⟨v,H',J.os,J.bare,J.base,J.hok,rv,q⟩
 |next=>exact False.elim hs
 |brk=>exact False.elim hs
 |cont=>exact False.elim hs
end
def EW (X:Cx)(pins:List (Addr×Obj))(σ:St)(Q:WK)(u:Value)(s':Shared):Prop:=∃v H',Inv X pins σ H' s'/\a0Z v u/\Q u s'.toks v H'
section
variable {n:Nat}{X:Cx}{k:Nat}{f:Addr}{fd:FuncData}{ps:List Str}{sp:SpW}{x:Str}{p pos:Pos}{e:Expr}{es:List Expr}{t:TA}
theorem b1T {pins:List (Addr×Obj)}{σ:St}{H:Hp}{s:Shared}{Q:WK}{us:List Value}{vs:List V}(F:a3j n X.prog X.w X.K X.mg X.base k f fd ps sp)(hr:a1r k X.A)(hb:a2i X.K fd ps [])(hn:n<=s.toks)
  (I:Inv X pins σ H s) (r:a1c vs us) (h:sp vs H Q):wpAny (model X.prog X.w) X.A (call (.ref f) us) (EW X pins σ Q) X.xe s:=by
 have hl:us.length=ps.length:=by rw[<-r.length];exact F.len _ _ _ h
 have hb':=hb s us I.kIn (by rw[List.append_nil];exact hl);rw[List.append_nil] at hb';refine wpAny_call (codeAny_mono (F.run X.A X.stack s H ⟨us,[]⟩ us vs Q hn hr I.env0 hb' r h) fun r s' hq=>?_);cases r with
 |error e=>exact False.elim hq
 |ok fl=>
  cases fl with
  |ret u=>
   obtain⟨v,H',os,bare,un,hok,rv,q⟩:=hq;exact⟨v,H',I.call' (ch:=[]) os un hok bare (fun b z=>absurd z (by simp)),rv,q⟩
  |next=>exact False.elim hq
  |brk=>exact False.elim hq
  |cont=>exact False.elim hq
theorem a7q (F:a3j n X.prog X.w X.K X.mg X.base k f fd ps sp)(hr:a1r k X.A)(hg:Gl X x)(hm:X.mg x=some (.ref f))(hk:PySem.W.keepIn X.K (.ref f)=true)(hb:a2i X.K fd ps [])
  (ha:PA X (e::es) t) {pins:List (Addr×Obj)} {s:Shared} {σ:St} {H:Hp} {Q:WK} (hn:n<=s.toks) (I:Inv X pins σ H s) (h:t σ H fun vs H1=>sp vs H1 Q)
  (hdb:(x==("__debug__":Str))=false:=by decide) (he:starEach (e::es) X.env=(false,eval e X.env)::starEach es X.env:=by rfl) (hpl:(backTo pos (starEach es X.env)).any (·.1)=false:=by rfl) :
  wpAny (model X.prog X.w) X.A (eval (.Call (.Name x p) (e::es) [] pos) X.env) (EW X pins σ Q) X.xe s:=by
 refine wpAny_Call_Name_kw (a5k I hg hm ?_ hdb);refine PySem.W.callWith_K (h₀:=X.base) I.ok.mod.kin hk (a6m hn (ha pos pins s σ H _ I h) fun us s1 hn1 ⟨vs,H1,I1,r,q⟩=>⟨I1.kIn,?_⟩) he hpl;exact b1T F hr hb hn1 I1 r q
def b4z (sp:SpW)(t:TA):TE:=fun σ H Q=>t σ H fun vs H1=>sp vs H1 fun _ _ v H2=>Q v H2
theorem a8n (F:a3j n X.prog X.w X.K X.mg X.base k f fd ps sp)(hr:a1r k X.A)(hg:Gl X x)(hm:X.mg x=some (.ref f))(hk:PySem.W.keepIn X.K (.ref f)=true)(hb:a2i X.K fd ps [])
  (ha:PA X (e::es) t) (hdb:(x==("__debug__":Str))=false:=by decide) (he:starEach (e::es) X.env=(false,eval e X.env)::starEach es X.env:=by rfl) (hpl:(backTo pos (starEach es X.env)).any (·.1)=false:=by rfl) :
  PEk n X (.Call (.Name x p) (e::es) [] pos) (b4z sp t):=by
 intro pins s σ H Q hn I h;exact thn (a7q F hr hg hm hk hb ha hn I h hdb he hpl) fun u s' ⟨v,H',I',r',q'⟩=>⟨v,H',I',r',q'⟩
end
theorem b0e {α:Type}{t:Sem α}{Q Q':α->Shared->Prop}{M:Model}{A:Around}{E:Vs0}{s:Shared}{n:Nat}(hn:n<=s.toks)(h:wpAny M A t Q (fun _ _=>False) s)(hQ:∀a s',n<=s'.toks->Q a s'->Q' a s'):wpAny M A t Q' E s:=
 wpAny_mono (wpAny_toks_of hn h) (fun a s' x=>hQ a s' x.1 x.2) fun _ _ x=>x.2.elim
section
variable {n:Nat}{X:Cx}
theorem a6z {osc scope:Scope}{N0 xs:List Str}{fr:List Nat}{pins:List (Addr×Obj)}{σ:St}{H2:Hp}{s2:Shared}{fp:List Addr}{it:Addr}{tn:Nat->Heap->Prop}{J:It}{elt tg iter:Expr}{ifs:List Expr}{pos:Pos}
  {g:TG} {tt:TT} {te:TE} {E:Vs0} {R:Addr->Hp->Prop} {RR:Value->Addr->Result->Shared->Prop} (C:a3H osc scope N0 xs fr) (ho:X.env.scope=osc) (hN0:X.N=N0) (hc:X.calm=true)
  (hg:∀s H fp,PG (a0T X scope (a1i N0 xs fr) s H fp) tg g) (ht:∀s H fp,PIf (a0T X scope (a1i N0 xs fr) s H fp) ifs tt) (he:∀s H fp,PEk n (a0T X scope (a1i N0 xs fr) s H fp) elt te)
  (hn2:n<=s2.toks) (I2:Inv X pins σ H2 s2) (T:a9S X.prog X.w X.K tg J fp it tn) (st2:tn 0 s2.heap) (f2:∀b∈fp,a3y X pins H2 b)
  (hR:∀D,H2 D=none->a6P J g tt te R D (a2Z xs fr σ) (upd H2 D (.lst [])))
  (hRR:∀(D C:Addr) (s':Shared) (H':Hp) (m:Str->Option Value),Inv X pins σ H' s'->s'.heap.Ns C m->a3y X pins H' C->R D H'->RR (.ref D) C (.ok .next) s') :
  wpAny (model X.prog X.w) X.A (newList []) (fun acc s₃=>wpAny (model X.prog X.w) X.A (newFunctionEnv scope X.env.globals (a4h X.env scope.names) [] X.env.qual none .none (some X.env)) (fun cenv s₄=>
   codeAny (model X.prog X.w) X.A (.compStart (.ListComp elt [⟨tg,iter,ifs,0⟩] scope pos) 0 (.ref it) acc { cenv with scope:=relabel scope X.env }) (RR acc cenv.locals) s₄) E s₃) E s2:=by
 refine wpAny_newObj_type (wpAny_newFunctionEnv C.nocell (by intro y hy;simp at hy) (fun h₁ hns₁ hsb₁=>?_) C.kind)
 dsimp only at hns₁ hsb₁ ⊢
 have I3:Inv X pins σ (upd H2 s2.heap.objs.size (.lst [])) { s2 with heap:=s2.heap.push { cls:=.type "list",data:=.seq ([]:List Value).toArray } }:=I2.lnew (its:=[]) (t':=s2.toks) .nil (by simp);have flt:∀b∈fp,b<s2.heap.objs.size:=fun b hb=>by
  obtain⟨o,e,_⟩:=T.obj 0 _ st2 b hb;exact hL0 e
 have f3:∀b∈fp,a3y X pins (upd H2 s2.heap.objs.size (.lst [])) b:=fun b hb=>⟨by rw[a0g (nL0 (flt b hb))];exact(f2 b hb).1,(f2 b hb).2⟩;have flt3:∀b∈fp,b<(s2.heap.push { cls:=.type "list",data:=.seq ([]:List Value).toArray }).objs.size:=fun b hb=>by
  rw[Heap.size_push];exact Nat.lt_succ_of_lt (flt b hb)
 obtain⟨W,⟨m0,w0⟩,turn⟩:=hR s2.heap.objs.size I2.fresh;generalize hD:s2.heap.objs.size=D at *;generalize hs3:s2.heap.push { cls:=.type "list",data:=.seq ([]:List Value).toArray }=h3 at *;have up2:∀b o,s2.heap.get? b=some o->h3.get? b=some o:=fun b o e=>by rw[<-hs3];exact hP0 _ e
 have old:∀b o,h3.get? b=some o->h₁.get? b=some o:=fun b o e=>hsb₁.extBut b o (nL0 (hL0 e)) (hP0 _ e);have Ic:=a4C (tk:=s2.toks+([]:List (Str×Value)).length) C ho hN0 I3 f3 flt3 hns₁ old;have st4:tn 0 h₁:=T.keep 0 _ _ st2 fun b hb o e=>old b o (up2 b o e);have stat:∀{H':Hp},(∀b∈fp,H' b=none)->∀b∈fp,a3y (a0T X scope (a1i N0 xs fr) { s2 with heap:=h3 } (upd H2 D (.lst [])) fp) [] H' b:=fun hn b hb=>
  ⟨hn b hb,nL0 (flt3 b hb),fun z=>by
   rcases mK0.mp (I3.stkSub b z) with q |q
   ·exact(f3 b hb).2.1 q
   ·exact(f3 b hb).2.2.1 q,.inl hb,fun x c h=>(Ic.ok.exf b hb).2 x c h,fun p hp=>absurd (show p∈([]:List (Addr×Obj)) from hp) (by simp)⟩
 have fin:∀{σ':St} {H':Hp} {s':Shared},Inv (a0T X scope (a1i N0 xs fr) { s2 with heap:=h3 } (upd H2 D (.lst [])) fp) [] σ' H' s'->R D H'->RR (.ref D) h3.objs.size (.ok .next) s':=fun {σ' H' s'} I' q=>by
  obtain⟨m,hm,_⟩:=I'.loc;refine hRR D h3.objs.size s' H' m (I3.call' I'.os I'.base I'.hok I'.bare fun b hb=>?_) hm (I3.fpOk (nR0 _) I'.free) q;exact⟨(f3 b hb).2.2.2.1,(f3 b hb).2.1,(f3 b hb).2.2.2.2.1,(f3 b hb).2.2.2.2.2⟩
 have loop:codeAny (model X.prog X.w) X.A (.compLoop (.ListComp elt [⟨tg,iter,ifs,0⟩] scope pos) 0 (.ref it) (.ref D) (compEnvC scope (a4h X.env scope.names) h3.objs.size X.env)) (RR (.ref D) h3.objs.size) { s2 with heap:=h₁,toks:=s2.toks+([]:List (Str×Value)).length }:=by
  refine codeAny_loop rfl (fun mm s'=>n<=s'.toks/\∃i σ' H',Inv (a0T X scope (a1i N0 xs fr) { s2 with heap:=h3 } (upd H2 D (.lst [])) fp) [] σ' H' s'/\tn i s'.heap/\(∀b∈fp,H' b=none)/\W i mm σ' H') (fun mm s' hI=>?_) m0 ⟨hn2,0,_,_,Ic,st4,fun b hb=>(f3 b hb).1,w0⟩;show wpAny _ X.A ((compTurn (.ListComp elt [⟨tg,iter,ifs,0⟩] scope pos) 0 (.ref it) (.ref D) (compEnvC scope (a4h X.env scope.names) h3.objs.size X.env)).onRaise (fun x=>do noteFrame x (compEnvC scope (a4h X.env scope.names) h3.objs.size X.env);theTreesLotGoes x)) _ _ s';refine wpAny_noted ?_;rw[compTurn_list];obtain⟨hn',i,σ',H',I',st',fr',w'⟩:=hI;refine wB0 (wpAny_standAt (wB0 ?_));rcases turn i mm σ' H' w' with ⟨stop,q⟩ |⟨go,N,M,hN,hM,step⟩
  ·refine thn (T.done (a0T X scope (a1i N0 xs fr) { s2 with heap:=h3 } (upd H2 D (.lst [])) fp) rfl rfl rfl hc i [] s' σ' H' _ I' (stat fr') st' stop) fun r s4 ⟨hr,I4⟩=>?_
   subst hr;exact wP0 (fin I4 q)
  ·refine a6m hn' (T.item (a0T X scope (a1i N0 xs fr) { s2 with heap:=h3 } (upd H2 D (.lst [])) fp) rfl rfl rfl hc i [] s' σ' H' _ I' (stat fr') st' go) fun r s4 hn4 ⟨u,hr,h4⟩=>?_
   subst hr;refine wB0 (a6m hn4 h4 fun _ s5 hn5 ⟨x,H5,I5,r5,y5,st5,fr5⟩=>?_);have I5':=I5.pinned (stat fr5) (T.obj _ _ st5);have again:∀{σ7:St} {H7:Hp} {s7:Shared},Inv (a0T X scope (a1i N0 xs fr) { s2 with heap:=h3 } (upd H2 D (.lst [])) fp) ([]++a4y fp s5.heap) σ7 H7 s7->n<=s7.toks->(∃m',m'<mm/\W (i+1) m' σ7 H7) →
     ∃m,m<mm/\n<=s7.toks/\∃i σ' H',Inv (a0T X scope (a1i N0 xs fr) { s2 with heap:=h3 } (upd H2 D (.lst [])) fp) [] σ' H' s7/\tn i s7.heap/\(∀b∈fp,H' b=none)/\W i m σ' H':=fun {σ7 H7 s7} I7 hn7 n7=>by
    obtain⟨m',hm,w7⟩:=n7;refine⟨m',hm,hn7,i+1,σ7,H7,I7.unpinned,T.keep _ _ _ st5 fun b hb o e=>(I7.pin (b,o) (List.mem_append_right _ (List.mem_append_right _ (a1U hb e)))).1,fun b hb=>?_,w7⟩;obtain⟨o,e,d⟩:=T.obj _ _ st5 b hb;exact(I7.pin (b,o) (List.mem_append_right _ (List.mem_append_right _ (a1U hb e)))).2.1
   refine wB0 (b0e hn5 (hg _ _ _ _ s5 σ' H5 x u _ I5' r5 (step x H5 y5)) (fun _ s6 hn6 ⟨σ6,H6,I6,q6⟩=>?_));refine wB0 (b0e hn6 (ht _ _ _ _ s6 σ6 H6 _ I6 q6) (fun ok s7 hn7 ⟨H7,I7,q7⟩=>?_));cases ok with
   |false=>
    rw[if_neg bF0] at q7;exact wP0 ⟨rfl,again I7 hn7 (hM _ _ q7)⟩
   |true=>
    rw[if_pos rfl] at q7;refine wB0 (wB0 (b0e hn7 (he _ _ _ _ s7 σ6 H7 _ hn7 I7 q7) (fun y s8 hn8 ⟨v,H8,I8,r8,q8⟩=>?_)));obtain⟨ys,eD,hz,q8⟩:=hN _ _ _ q8;refine wB0 (b0e hn8 (a3G (X:=a0T X scope (a1i N0 xs fr) { s2 with heap:=h3 } (upd H2 D (.lst [])) fp) _ s8 σ6 H8 (.ref D) [v] (.ref D) [y] (fun _ H9=>∃m',m'<mm/\W (i+1) m' σ6 H9) I8 rfl (.cons r8 .nil) ⟨D,ys,v,rfl,rfl,eD,hz,q8⟩) (fun _ s9 hn9 ⟨_,H9,I9,_,q9⟩=>?_));exact wP0 (wP0 ⟨rfl,again I9 hn9 q9⟩)
 exact codeAny_compStart_list loop (T.self X.A 0 _ _ _ st4 loop)
variable {osc scope:Scope}{N0 xs:List Str}{fr:List Nat}{elt tg iter:Expr}{ifs:List Expr}{pos:Pos}{wi:TI}{g:TG}{tt:TT}{te:TE}
end
section
variable {n:Nat}{X:Cx}{pins:List (Addr×Obj)}{s:Shared}{σ:St}{H:Hp}
theorem b3z {a b:Expr}{ta tb:TE}{pos:Pos}{Q:WK}(ha:PE X a ta)(hb:PE X b tb)(hs:a3N b)(hn:n<=s.toks)(I:Inv X pins σ H s)
  (h:ta σ H fun x H1=>tb σ H1 fun y H2=>∃z i c,x=.str z/\y=.int i/\z.length<=sizeLine/\atI z.cps.toList i=some c/\∀tk,n<=tk->Q (.str ⟨#[c]⟩ tk) (tk+1) (.str ⟨#[c]⟩) H2) :
  wpAny (model X.prog X.w) X.A (eval (.Subscript a b pos) X.env) (EW X pins σ Q) X.xe s:=by
 refine Subscript_ ?_;refine a6m hn (ha pins s σ H _ I h) fun v s1 hn1 ⟨x,H1,I1,r1,q1⟩=>?_;refine a6m hn1 (hb pins s1 σ H1 _ I1 q1) fun u s2 hn2 ⟨y,H2,I2,r2,q2⟩=>?_;obtain⟨z,i,c,rfl,rfl,hz,he,q⟩:=q2;obtain⟨t,rfl⟩:=r1;obtain⟨t',rfl⟩:=r2;obtain⟨j,h1,h2,h3,h4,h5⟩:=a4G he;have hl:z.cps.toList.length=z.length:=by simp[Str.length]
 rw[hl] at h1 h4 h5;have hn:=a4d;exact tail_any (typeIs_str s2 z t) slot_str_getitem.lookup (getItem_str (c:=c) (by
  have e1:decide (i < -(2 ^ 63:Int))=false:=dF0 (by omega);have e2:decide (i≥2 ^ 63)=false:=dF0 (by omega);rw[e1,e2,Bool.or_false]) (by rw[h1];simpa using h2) ⟨.str ⟨#[c]⟩,H2,I2.tok _,⟨_,rfl⟩,q s2.toks hn2⟩) (hs _ _)
def a2h (H:Hp)(a:Addr)(y z:Str)(u:Tok):Prop:=∃o u0 m,H a=some (.frz o (.tup [.str y,.str z]))/\o.data=.seq #[u0,.str z u] m
theorem a2h.same {H H':Hp}{a:Addr}{y z:Str}{u:Tok}(h:a2h H a y z u)(e:a0m H H'):a2h H' a y z u:=by
 obtain⟨o,u0,m,h1,h2⟩:=h;exact⟨o,u0,m,e _ _ h1,h2⟩
theorem a2h.sq {K:Fg0}{H:Hp}{a:Addr}{y z:Str}{u:Tok}(h:a2h H a y z u):SqT K H a [.str y,.str z]:=by
 obtain⟨o,u0,m,h1,h2⟩:=h;exact .inl (.inr ⟨o,h1⟩)
theorem a9K {a:Expr}{ta:TE}{pos cp:Pos}{j:Nat}{p:Addr}{y z:Str}{t:Tok}(ha:PE X a ta)(I:Inv X pins σ H s)(h:ta σ H fun x H1=>x=.ref p/\H1=H)(hp:a2h H p y z t)(hs:a3N (.Constant (.int 1) j cp)) :
  wpAny (model X.prog X.w) X.A (eval (.Subscript a (.Constant (.int 1) j cp) pos) X.env) (fun u s'=>u=.str z t/\Inv X pins σ H s') X.xe s:=by
 refine Subscript_ ?_;refine thn (ha pins s σ H _ I h) fun v s1 ⟨x,H1,I1,r1,e1,e2⟩=>?_;subst e1 e2;cases r1;refine thn (a0e pins s1 σ H1 (fun y H2=>y=.int 1/\H2=H1) I1 ⟨rfl,rfl⟩) fun u s2 ⟨y2,H2,I2,r2,e3,e4⟩=>?_;subst e3 e4;obtain⟨t',rfl⟩:=r2;obtain⟨o,u0,m,h1,h2⟩:=hp;obtain⟨g,_,its,r,o',g',c',m',d'⟩:=I2.hok p _ h1;have pl:IsTup s2.heap p #[u0,.str z t]:=⟨o,g,(by rw[g] at g';cases g';exact c'),m,h2⟩;exact subscriptTail_builtinR (x:=.str z t) pl.typeIs slot_tuple_getitem.lookup
  (getItem_tuple (j:=1) (Q:=fun r s'=>r=.str z t/\r=.str z t/\Inv X pins σ H2 s') pl (by decide) (by decide) (by rfl) (by rfl) ⟨rfl,rfl,I2⟩) (hs _ _)
end
section
variable {P:Program}{w:World}{K:Fg0}{mg:Str->Option Value}{base:Heap}
abbrev SpK:=List V->Hp->VK->Prop
def toW (sp:SpK):SpW:=fun vs H Q=>sp vs H fun v H'=>∀u tk,Q u tk v H'
theorem Fun.okK {x qual:Str}{st:Stmt}{f:Addr}{fd:FuncData}{N ps:List Str}{n k:Nat}{sp:SpK}(F:Fun K x qual st f fd)(S:a0o N ps (a0f st))(len:∀vs H Q,sp vs H Q->vs.length=ps.length)
  (hbody:∀(cdv:Value) (A:Around) (outer:List Env) (s:Shared) (H:Hp) (vs:List V) (Q:VK),a1r k (A.deeper (envOfC qual (a0f st) s.heap.objs.size f cdv))->sp vs H Q →
   ∃t,b0a n (a5U CX0 P w K mg base N qual (a0f st) f cdv A outer s H (fun _ _ _=>False)).nox (a0J st) t/\t { nx:=fun _ _=>False,rt:=Q } (a2M N vs) H) :
  a3j n P w K mg base (k+1) f fd ps (toW sp):=by
 refine F.okW S (fun vs H Q h=>len _ _ _ h) (fun cdv A outer s H vs Q s1 hr h hn I=>?_);obtain⟨t,ht,hq⟩:=hbody cdv A outer s H vs _ hr h;refine thn (ht [] s1 _ H _ hn I hq) fun fl s' hs=>?_;cases fl with
 |ret u=>
  obtain⟨v,σ',H',J,rv,q⟩:=hs;exact⟨v,σ',H',J,rv,q u _⟩
 |next=>obtain⟨_,_,_,z⟩:=hs;exact z.elim
 |brk=>obtain⟨_,_,_,z⟩:=hs;exact z.elim
 |cont=>obtain⟨_,_,_,z⟩:=hs;exact z.elim
end
end L2
namespace L2
open PySem
end L2
namespace L2
open PySem PySem.Spec PyProof.Rows
structure Our (X:Cx) (pins:List (Addr×Obj)) (H:Hp) (b:Addr):Prop where
 new:X.s₀.heap.objs.size<=b
 loc:b≠X.env.locals
 cel:∀y c,X.env.cells.lookup y=some c->c≠b
 pin:∀p∈X.pn++pins,p.1≠b
 unt:H b=none
section
variable {X:Cx}{pins:List (Addr×Obj)}{σ:St}{H H':Hp}{s s':Shared}{x b:Addr}{C:Value}{od:Option Addr}
theorem Inv.our' (I:Inv X pins σ H s)(h:s.heap.objs.size<=b)(hn:H' b=none):Our X pins H' b:=by
 have lt:∀c o,s.heap.get? c=some o->c≠b:=fun c o e z=>by
  subst z;exact absurd (Nat.lt_of_lt_of_le (hL0 e) h) (Nat.lt_irrefl _)
 refine⟨Nat.le_trans I.sz h,fun z=>?_,fun y c e=>?_,fun p hp=>?_,hn⟩
 ·obtain⟨m,⟨o,_,_,ho,_⟩,_⟩:=I.loc
  exact lt _ o ho z.symm
 ·obtain⟨v,o,ho,_⟩:=I.cell y c e
  exact lt c o ho
 ·exact lt p.1 _ (I.pin p hp).1
theorem Inv.our (I:Inv X pins σ H s)(h:s.heap.objs.size<=b):Our X pins H b:=I.our' h (I.hok.fresh h)
end
end L2
namespace L2
open PySem PySem.Spec PyProof.Rows Builtin Builtin.ObjectAttr
abbrev bmV:List Value:=[.type "ValueError",.type "Exception",.type "BaseException",.type "object"]
def b2O:List Value->Bool
 |[]=>false
 |v::r=>(v::r)==bmV || match v with | .ref _=>b2O r |_=>false
structure XCl (K:Fg0) (C:Addr):Prop where
 at_:∃(nm q:Str) (N:Addr) (bs bm:List Value) (sn:List Str) (sub:List Value) (ab:Bool) (col:Option Bool) (dd:Option Addr) (k0 k1 k2 k3 k5:Option Value),K.lookup C=some (excClassObj nm q C N bs bm true sn sub ab col dd k0 k1 k2 k3 k5 "ValueError.__new__")/\b2O bm=true
 ga:PySem.W.findIn K (.ref C) "__getattribute__"=some (some (.builtin "BaseException.__getattribute__"))
 gx:PySem.W.findIn K (.ref C) "__getattr__"=some none
 sa:PySem.W.findIn K (.ref C) "__setattr__"=some (some (.builtin "object.__setattr__"))
 kp:PySem.W.keepIn K (.ref C)=true
theorem b6h {K:Fg0}{C N:Addr}{nm q:Str}{bs bm:List Value}{sn:List Str}{sub:List Value}{ab:Bool}{col:Option Bool}{dd:Option Addr}{k0 k1 k2 k3 k5:Option Value}
  (l:K.lookup C=some (excClassObj nm q C N bs bm true sn sub ab col dd k0 k1 k2 k3 k5 "ValueError.__new__")) (t:b2O bm=true) (ga:PySem.W.findIn K (.ref C) "__getattribute__"=some (some (.builtin "BaseException.__getattribute__")))
  (gx:PySem.W.findIn K (.ref C) "__getattr__"=some none) (sa:PySem.W.findIn K (.ref C) "__setattr__"=some (some (.builtin "object.__setattr__"))) (kp:PySem.W.keepIn K (.ref C)=true):XCl K C:=
 ⟨⟨nm,q,N,bs,bm,sn,sub,ab,col,dd,k0,k1,k2,k3,k5,l,t⟩,ga,gx,sa,kp⟩
section
variable {X:Cx}{pins:List (Addr×Obj)}{σ:St}{H:Hp}{s:Shared}{x dx C:Addr}{φ:Heap->Prop}{od:Option Addr}
theorem Inv.track {o:HO}(I:Inv X pins σ H s)(hx:Our X pins H x)(new:a1l X.prog X.w (upd H x o) s.heap x o):Inv X pins σ (upd H x o) s:=by
 have ne:∀b u,H b=some u->b≠x:=fun b u q z=>by rw[z,hx.unt] at q;cases q
 refine I.step (h':=s.heap) (g':=s.gens) (d':=s.drawn) (t':=s.toks) (ch:=[x]) (fun b hb=>?_) (fun b o _ _ _ e _=>e) (fun b o _ _ _ e _=>⟨o.slots,e⟩) (fun b o hc e n=>?_) (fun b o _ e=>⟨o,e⟩) (fun b xs e=>?_) (fun b u xs e=>?_) (fun b ps e=>⟨#[],?_⟩) (fun m hm=>hm) (fun b u q=>?_) I.bare
 ·rw[mS0.mp hb]
  exact⟨.inr hx.new,hx.loc,hx.cel,hx.pin⟩
 ·rw[a0g fun z=>hc (by rw[z];exact mS0.mpr rfl)]
  exact n
 ·rw[a0g (ne b _ e)];exact e
 ·rw[a0g (ne b _ e)];exact e
 ·rw[a0g (ne b _ e),e];simp
 ·by_cases hb:b=x
  ·subst hb
   rw[a0b] at q;cases q;exact new
  ·rw[a0g hb] at q
   exact(I.hok b u q).stay (fun _ _ _ r=>r) (fun c r=>by rw[a0g (ne c _ r)];exact r) fun c xs r=>by rw[a0g (ne c _ r)];exact r
end
end L2
namespace L2
open PySem PySem.Spec PyProof.Rows
section
variable {X:Cx}
def b2Y (K:Fg0)(a:Addr)(D:List (Str×KTD.Dat)):Prop:=KTD.tabLook (KTD.datLooks fun a=>List.lookup a K) (fun a=>List.lookup a K) a D=true
theorem a5I {pins:List (Addr×Obj)}{s:Shared}{σ:St}{H:Hp}{a:Addr}{D:List (Str×KTD.Dat)}(I:Inv X pins σ H s)(h:b2Y X.K a D):KTD.Here s.heap s.heap a D:=
 ⟨KTD.text_of_look (fun a o e=>I.kIn a o e) h,fun _ _ e=>e⟩
theorem a5y:OpR X (compareOp .In) (fun x y H Q=>∃z a D,x=.str z/\y=.ref a/\b2Y X.K a D/\Q (.bl (KTD.inKeys z D)) H):=by
 intro pins s σ H x y v u Q I rx ry h;obtain⟨z,a,D,rfl,rfl,hk,q⟩:=h;obtain⟨t,rfl⟩:=rx;cases ry;exact KTD.in_text (a5I I hk) ⟨.bl _,H,I.tok _,rfl,q⟩
theorem b1H:IxR X (fun x y H Q=>∃(z:Str) (a:Addr) (D:List (Str×Str)) (c:Str),x=.ref a/\y=.str z/\b2Y X.K a (D.map fun p=>(p.1,KTD.Dat.flat (.str p.2)))/\D.lookup z=some c/\Q (.str c) H):=by
 intro value slice pins s σ H x y v u Q I rx ry h hs;obtain⟨z,a,D,c,rfl,rfl,hk,hc,q⟩:=h;cases rx;obtain⟨t,rfl⟩:=ry;have hm:∀(D:List (Str×Str)),D.lookup z=some c->KTD.inKeys z (D.map fun p=>(p.1,KTD.Dat.flat (PyData.str p.2)))=true/\∀P:Value->Prop,(∀t,P (.str c t))->KTD.EachL s.heap z P (D.map fun p=>(p.1,KTD.Dat.flat (PyData.str p.2))):=by
  intro D
  induction D with
  |nil=>intro h;cases h
  |cons p D ih=>
   intro h
   by_cases e:z=p.1
   ·have hp:p.2=c:=by
     rw[List.lookup_cons,beq_iff_eq.mpr e] at h;exact Option.some.inj h
    refine⟨?_,fun P hP=>KTD.eachL_hit e ?_⟩
    ·show(decide (z=p.1) || _)=true
     rw[dT0 e];rfl
    ·rw[hp]
     exact KTD.opened_str hP
   ·have h':D.lookup z=some c:=by
     rw[List.lookup_cons,beq_eq_false_iff_ne.mpr e] at h;exact h
    refine⟨?_,fun P hP=>KTD.eachL_miss e ((ih h').2 P hP)⟩
    show(decide (z=p.1) || _)=true
    rw[(ih h').1];simp
 have hpl:∀D:List (Str×Str),((D.map fun p=>(p.1,KTD.Dat.flat (PyData.str p.2))).all fun p=>KTD.plain p.2)=true:=by
  intro D
  induction D with
  |nil=>rfl
  |cons p D ih=>rw[mN0,List.all_cons,ih];rfl
 exact KTD.item_textA (a5I I hk) (hpl D) (hm D hc).1 ((hm D hc).2 _ fun t=>⟨.str c,H,I.tok _,⟨t,rfl⟩,q⟩) hs
variable {n:Nat}
end
end L2
namespace L2
open PySem
section
variable {prog:Program}{w:World}{A:Around}{E:Vs0}{s:Shared}
theorem a4v {it t:Addr}{i:Nat}{xs:Array Value}{x:Value}{Q:Vs0}(hi:s.heap.IsTupleIter it t i)(ht:s.heap.IsTuple t xs)(hx:xs[i]? =some x)
  (hQ:∀h',h'.IsTupleIter it t (i+1)->Heap.SameBut it s.heap h'->Q x { s with heap:=h' }):wpAny (model prog w) A (Builtin.SmallTypes.nextOf (.ref it)) Q E s:=by
 obtain⟨o,ho,hc,hd⟩:=id hi;obtain⟨ot,hot,_,nt,hdt⟩:=ht;unfold Builtin.SmallTypes.nextOf;refine wB0 (wpAny_callSpecial?_slot (name:=Str.ofString "__next__") hi.typeIs F.slot_tuple_iterator_next (wpAny_call_entry F.slot_tuple_iterator_next hi.typeIs F.entry_tuple_iterator_next ?_ (F.args_tuple_iterator_next_1 _)));show wpAny _ _ (field (.ref it) 0 >>= _) _ _ s;refine wB0 (wpAny_field ho hd (x:=.ref t) rfl ?_);show wpAny _ _ (if (Value.ref t==Value.none)=true then _ else _) _ _ s;rw[if_neg (show ¬((Value.ref t==Value.none)=true) from bF0)];show wpAny _ _ (field (.ref it) 1 >>= _) _ _ s;refine wB0 (wpAny_field ho hd (x:=.int i 0) rfl ?_);show wpAny _ _ (seqItems? (.ref t) >>= _) _ _ s;refine wB0 (wpAny_seqItems hot hdt ?_);simp only[Int.toNat_natCast,hx];refine wB0 (wpAny_setField ho hd (by simp) (wP0 ⟨x,rfl,wP0 (hQ _ ⟨_,Heap.get?_update_self _ ho (Obj.isFreed_of_fields (Obj.data_mapFields hd _)),(Obj.cls_mapFields ..).trans hc,?_⟩ (Heap.SameBut.update ..))⟩));rw[Obj.data_mapFields hd];simp[rawInt]
theorem a9Y {it t:Addr}{i:Nat}{xs:Array Value}{Q:Vs0}(hh:A.handled=none)(hi:s.heap.IsTupleIter it t i)(ht:s.heap.IsTuple t xs)(hx:xs[i]? =none)
  (hE:∀h' e,Heap.ExtBut it s.heap h'->(∃o,h'.get? e=some o/\o.cls=.type "StopIteration")->E (.ref e) { s with heap:=h' }):wpAny (model prog w) A (Builtin.SmallTypes.nextOf (.ref it)) Q E s:=by
 obtain⟨o,ho,hc,hd⟩:=id hi;obtain⟨ot,hot,_,nt,hdt⟩:=ht;unfold Builtin.SmallTypes.nextOf;refine wB0 (wpAny_callSpecial?_slot (name:=Str.ofString "__next__") hi.typeIs F.slot_tuple_iterator_next (wpAny_call_entry F.slot_tuple_iterator_next hi.typeIs F.entry_tuple_iterator_next ?_ (F.args_tuple_iterator_next_1 _)));show wpAny _ _ (field (.ref it) 0 >>= _) _ _ s;refine wB0 (wpAny_field ho hd (x:=.ref t) rfl ?_);show wpAny _ _ (if (Value.ref t==Value.none)=true then _ else _) _ _ s;rw[if_neg (show ¬((Value.ref t==Value.none)=true) from bF0)];show wpAny _ _ (field (.ref it) 1 >>= _) _ _ s;refine wB0 (wpAny_field ho hd (x:=.int i 0) rfl ?_);show wpAny _ _ (seqItems? (.ref t) >>= _) _ _ s;refine wB0 (wpAny_seqItems hot hdt ?_);simp only[Int.toNat_natCast,hx];refine wB0 (wpAny_rule (wB0 (wpAny_setField ho hd (by simp) ?_)));show wpAny _ _ (newExc (.type "StopIteration") [] >>= _) _ _ _;refine wB0 ?_;simp only[newExc,newTuple];refine wB0 (wpAny_newObj_type ?_ (by size_fits));refine wB0 (m:=firstArgMember _ _) (wpAny_of_eq (a:=Value.none) (by first |rfl | (simp only[firstArgMember];rfl)) ?_);refine wpAny_newObj_type ?_ (by size_fits);simp only[raiseNew];refine wB0 (wpAny_handled ?_)
 first |rw[show A.in1.handled=none from hh] |rw[hh]
 refine wB0 (wP0 (wpAny_throw ?_));exact hE _ _ (((Heap.SameBut.update ..).extBut.push _).push _) ⟨_,hS0 _ rfl,rfl⟩
structure ZT (h:Heap) (z TI TO i1 i2 t1 t2:Addr) (k:Nat) (xs ys:Array Value) (f0:Value):Prop where
 zp:IsZip h z TI TO f0
 ti:IsPair h TI (.ref i1) (.ref i2)
 to:∃a b,IsPair h TO a b
 j1:h.IsTupleIter i1 t1 k
 j2:h.IsTupleIter i2 t2 k
 l1:h.IsTuple t1 xs
 l2:h.IsTuple t2 ys
theorem a8Q {z TI TO i1 i2 t1 t2:Addr}{k:Nat}{xs ys:Array Value}{x y:Value}{Q:Vs0}(D:ZipApart z TI TO i1 i2 t1 t2)(Z:ZT s.heap z TI TO i1 i2 t1 t2 k xs ys .none)(hx:xs[k]? =some x)(hy:ys[k]? =some y)
  (hQ:∀h',ZT h' z TI TO i1 i2 t1 t2 (k+1) xs ys (rawInt s.heap.objs.size)->IsPair h' s.heap.objs.size x y->h'.objs.size=s.heap.objs.size+1->(∀c o,c≠z->c≠TO->c≠i1->c≠i2->s.heap.get? c=some o->h'.get? c=some o)->Q (.ref s.heap.objs.size) { s with heap:=h' }) :
  wpAny (model prog w) A (Builtin.«zip.__next__» ⟨[.ref z],[]⟩) (fun fin s'=>∃v,fin=.done (.ret v)/\Q v s') E s:=by
 obtain⟨hz,hTI,⟨a,b,hTO⟩,h1,h2,hl1,hl2⟩:=Z;show wpAny _ _ (field (.ref z) 2 >>= _) _ _ _;refine wB0 (wpAny_field hz rfl (x:=.bool false) rfl ?_);show wpAny _ _ (field (.ref z) 3 >>= _) _ _ _;refine wB0 (wpAny_field hz rfl (x:=.ref TI) rfl ?_);refine wB0 (wpAny_seqItems hTI rfl ?_);show wpAny _ _ (Builtin.SmallTypes.ownedTupleIsFree (.ref z) >>= _) _ _ _;refine wB0 ?_;unfold Builtin.SmallTypes.ownedTupleIsFree;refine wB0 (wpAny_field hz rfl (x:=.none) rfl (wP0 ?_));simp only[if_true];refine wB0 (wpAny_rule ?_);refine wB0 (wpAny_field hz rfl (x:=.ref TO) rfl ?_);refine wB0 (wpAny_setField_rec hz (by simp) fun g1 z1 b1=>?_)
 replace z1:IsZip g1 z TI TO .ellipsis:=z1
 refine wB0 ?_;simp only[List.zipIdx_cons,List.zipIdx_nil,List.forIn_cons,List.forIn_nil];refine wB0 (wB0 (wpAny_onRaise ?_));show wpAny _ _ (Builtin.SmallTypes.nextOf (.ref i1) >>= _) _ _ _;refine wB0 (a4v (s:={ s with heap:=g1 }) (h1.extBut b1.extBut D.i1z) (hl1.extBut b1.extBut D.l1z) hx fun g2 j2 b2=>wP0 ?_);have o2:IsPair g2 TO a b:=b2.extBut _ _ D.TOi1 (b1.extBut _ _ D.TOz hTO);refine wB0 (wpAny_seqItems o2 rfl ?_);refine wB0 (wpAny_updateSeq_pair o2 fun g3 o3 b3=>?_)
 replace o3:IsPair g3 TO x b:=o3
 refine wB0 (wpAny_letGo (wP0 ?_));refine wB0 (wB0 (wpAny_onRaise ?_));show wpAny _ _ (Builtin.SmallTypes.nextOf (.ref i2) >>= _) _ _ _;refine wB0 (a4v (s:={ s with heap:=g3 }) (((h2.extBut b1.extBut D.i2z).extBut b2.extBut D.i12.symm).extBut b3.extBut D.TOi2.symm) (((hl2.extBut b1.extBut D.l2z).extBut b2.extBut D.l2i1).extBut b3.extBut D.l2TO) hy fun g4 j4 b4=>wP0 ?_);have o4:IsPair g4 TO x b:=b4.extBut _ _ D.TOi2 o3;refine wB0 (wpAny_seqItems o4 rfl ?_);refine wB0 (wpAny_updateSeq_pair o4 fun g5 o5 b5=>?_)
 replace o5:IsPair g5 TO x y:=o5
 refine wB0 (wpAny_letGo (wP0 (wP0 ?_)));refine wB0 (wpAny_seqItems o5 rfl ?_);refine wB0 (wpAny_newTuple ?_);have sz:g5.objs.size=s.heap.objs.size:=by rw[b5.1,b4.1,b3.1,b2.1,b1.1]
 have z5:IsZip g5 z TI TO .ellipsis:=b5.extBut _ _ D.TOz.symm (b4.extBut _ _ D.i2z.symm (b3.extBut _ _ D.TOz.symm (b2.extBut _ _ D.i1z.symm z1)));have k5:∀c o,c≠z->c≠TO->c≠i1->c≠i2->s.heap.get? c=some o->g5.get? c=some o:=fun c o c1 c2 c3 c4 e=>b5.extBut _ _ c2 (b4.extBut _ _ c4 (b3.extBut _ _ c2 (b2.extBut _ _ c3 (b1.extBut _ _ c1 e))));have p1:g5.IsTupleIter i1 t1 (k+1):=((j2.extBut b3.extBut D.TOi1.symm).extBut b4.extBut D.i12).extBut b5.extBut D.TOi1.symm;have p2:g5.IsTupleIter i2 t2 (k+1):=j4.extBut b5.extBut D.TOi2.symm;have zlt:z<g5.objs.size:=hL0 z5;show wpAny _ _ (Builtin.SmallTypes.ownedTupleHandOut (.ref z) (.ref g5.objs.size) >>= _) _ _ _;refine wB0 ?_;unfold Builtin.SmallTypes.ownedTupleHandOut;have z6:IsZip (g5.push { cls:=.type "tuple",data:=.seq #[x,y] }) z TI TO .ellipsis:=hP0 _ z5;refine wB0 (wpAny_setField_rec z6 (by simp) fun g7 z7 b7=>?_)
 replace z7:IsZip g7 z TI TO (rawInt g5.objs.size):=z7
 refine wpAny_setField_rec z7 (by simp) fun g8 z8 b8=>?_
 replace z8:IsZip g8 z TI TO (rawInt g5.objs.size):=z8
 have up:∀c o,c≠z->g5.get? c=some o->g8.get? c=some o:=fun c o c1 e=>b8.extBut _ _ c1 (b7.extBut _ _ c1 (hP0 _ e));have T8:IsPair g8 g5.objs.size x y:=b8.extBut _ _ (Nat.ne_of_gt zlt) (b7.extBut _ _ (Nat.ne_of_gt zlt) (hS0 _ rfl));have s8:g8.objs.size=g5.objs.size+1:=by rw[b8.1,b7.1,Heap.size_push]
 rw[sz] at z8 T8 s8;refine wP0 ⟨_,rfl,?_⟩;show Q (.ref g5.objs.size) _;rw[sz];have kk:∀c o,c≠z->c≠TO->c≠i1->c≠i2->s.heap.get? c=some o->g8.get? c=some o:=fun c o c1 c2 c3 c4 e=>up c o c1 (k5 c o c1 c2 c3 c4 e);refine hQ g8 ⟨z8,kk _ _ D.TIz D.TITO D.TIi1 D.TIi2 hTI,⟨x,y,up _ _ D.TOz o5⟩,?_,?_,?_,?_⟩ T8 s8 kk
 ·obtain⟨o,e,r⟩:=p1;exact⟨o,up _ o D.i1z e,r⟩
 ·obtain⟨o,e,r⟩:=p2;exact⟨o,up _ o D.i2z e,r⟩
 ·obtain⟨o,e,r⟩:=hl1;exact⟨o,kk _ o D.l1z D.l1TO D.l1i1 D.l1i2 e,r⟩
 ·obtain⟨o,e,r⟩:=hl2;exact⟨o,kk _ o D.l2z D.l2TO D.l2i1 D.l2i2 e,r⟩
theorem b0V {z TI TO i1 i2 t1 t2:Addr}{k:Nat}{xs ys:Array Value}{Q:Fin->Shared->Prop}(hh:A.handled=none)(D:ZipApart z TI TO i1 i2 t1 t2)(Z:ZT s.heap z TI TO i1 i2 t1 t2 k xs ys .none)(hx:xs[k]? =none)
  (hE:∀h' e,(∀c o,c≠z->c≠TO->c≠i1->c≠i2->s.heap.get? c=some o->h'.get? c=some o)->(∃o,h'.get? e=some o/\o.cls=.type "StopIteration")->E (.ref e) { s with heap:=h' }) :
  wpAny (model prog w) A (Builtin.«zip.__next__» ⟨[.ref z],[]⟩) Q E s:=by
 obtain⟨hz,hTI,⟨a,b,hTO⟩,h1,h2,hl1,hl2⟩:=Z;show wpAny _ _ (field (.ref z) 2 >>= _) _ _ _;refine wB0 (wpAny_field hz rfl (x:=.bool false) rfl ?_);show wpAny _ _ (field (.ref z) 3 >>= _) _ _ _;refine wB0 (wpAny_field hz rfl (x:=.ref TI) rfl ?_);refine wB0 (wpAny_seqItems hTI rfl ?_);show wpAny _ _ (Builtin.SmallTypes.ownedTupleIsFree (.ref z) >>= _) _ _ _;refine wB0 ?_;unfold Builtin.SmallTypes.ownedTupleIsFree;refine wB0 (wpAny_field hz rfl (x:=.none) rfl (wP0 ?_));simp only[if_true];refine wB0 (wpAny_rule ?_);refine wB0 (wpAny_field hz rfl (x:=.ref TO) rfl ?_);refine wB0 (wpAny_setField_rec hz (by simp) fun g1 z1 b1=>?_)
 replace z1:IsZip g1 z TI TO .ellipsis:=z1
 refine wB0 ?_;simp only[List.zipIdx_cons,List.zipIdx_nil,List.forIn_cons,List.forIn_nil];refine wB0 (wB0 (wpAny_onRaise ?_));show wpAny _ _ (Builtin.SmallTypes.nextOf (.ref i1) >>= _) _ _ _;refine wB0 (a9Y (s:={ s with heap:=g1 }) hh (h1.extBut b1.extBut D.i1z) (hl1.extBut b1.extBut D.l1z) hx fun g2 e b2 he=>?_);obtain⟨oe,hoe,hce⟩:=he;have z2:IsZip g2 z TI TO .ellipsis:=b2 _ _ D.i1z.symm z1;have hez:e≠z:=fun q=>by subst q;rw[z2] at hoe;cases hoe;simp at hce
 exact wpAny_setField_rec z2 (by simp) fun g3 _ b3=>hE g3 e (fun c o c1 _ c3 _ q=>b3.extBut _ _ c1 (b2 _ _ c3 (b1.extBut _ _ c1 q))) ⟨oe,b3.extBut _ _ hez hoe,hce⟩
theorem a8m {z TI TO i1 i2 t1 t2:Addr}{k:Nat}{xs ys:Array Value}{x y:Value}{Q:Option Value->Shared->Prop}(D:ZipApart z TI TO i1 i2 t1 t2)(Z:ZT s.heap z TI TO i1 i2 t1 t2 k xs ys .none)(hx:xs[k]? =some x)(hy:ys[k]? =some y)
  (hQ:∀h',ZT h' z TI TO i1 i2 t1 t2 (k+1) xs ys (rawInt s.heap.objs.size)->IsPair h' s.heap.objs.size x y->h'.objs.size=s.heap.objs.size+1->(∀c o,c≠z->c≠TO->c≠i1->c≠i2->s.heap.get? c=some o->h'.get? c=some o)->Q (some (.ref s.heap.objs.size)) { s with heap:=h' }) :
  wpAny (model prog w) A (pyNext (.ref z)) Q E s:=by
 have hT:s.TypeIs (.ref z) "zip":=⟨_,Z.zp,rfl⟩;unfold pyNext;exact wB0 (wpAny_attempt (wpAny_callSpecial?_slot (name:=Str.ofString "__next__") hT F.slot_zip_next (wpAny_call_entry F.slot_zip_next hT F.entry_zip_next (a8Q D Z hx hy fun h' a1 a2 a3 a4=>wP0 (hQ h' a1 a2 a3 a4)) (F.args_zip_next_1 _))))
theorem a9L {z TI TO i1 i2 t1 t2:Addr}{k:Nat}{xs ys:Array Value}{Q:Option Value->Shared->Prop}(hh:A.handled=none)(D:ZipApart z TI TO i1 i2 t1 t2)(Z:ZT s.heap z TI TO i1 i2 t1 t2 k xs ys .none)(hx:xs[k]? =none)
  (hQ:∀h',(∀c o,c≠z->c≠TO->c≠i1->c≠i2->s.heap.get? c=some o->h'.get? c=some o)->Q none { s with heap:=h' }):wpAny (model prog w) A (pyNext (.ref z)) Q E s:=by
 have hT:s.TypeIs (.ref z) "zip":=⟨_,Z.zp,rfl⟩;unfold pyNext;refine wB0 (wpAny_attempt (wpAny_callSpecial?_slot (name:=Str.ofString "__next__") hT F.slot_zip_next (wpAny_call_entry F.slot_zip_next hT F.entry_zip_next (b0V hh D Z hx fun h' e hk he=>?_) (F.args_zip_next_1 _))));obtain⟨o,ho,hc⟩:=he;refine wB0 (wpAny_isInstance (T:="StopIteration") (b:=true) ⟨o,ho,hc⟩ isSubtype_stop ?_);exact wP0 (hQ _ hk)
end
abbrev zT1 (h:Heap)(l1:Addr):Heap:=h.push { cls:=.type "tuple_iterator",data:=.fields #[.ref l1,.int 0 0] }
abbrev zT2 (h:Heap)(l1 l2:Addr):Heap:=(zT1 h l1).push { cls:=.type "tuple_iterator",data:=.fields #[.ref l2,.int 0 0] }
abbrev zT3 (h:Heap)(l1 l2:Addr):Heap:=(zT2 h l1 l2).push { cls:=.type "tuple",data:=.seq #[.ref h.objs.size,.ref (zT1 h l1).objs.size] }
abbrev zT4 (h:Heap)(l1 l2:Addr):Heap:=(zT3 h l1 l2).push { cls:=.type "tuple",data:=.seq #[.none,.none] }
abbrev zT5 (h:Heap)(l1 l2:Addr):Heap:=(zT4 h l1 l2).push { cls:=.type "zip",data:=.fields #[.none,.bool false,.bool false,.ref (zT2 h l1 l2).objs.size,.ref (zT3 h l1 l2).objs.size] }
theorem a7W (l1 l2:Addr)(xs ys:Array Value) :
  Meets (Builtin.«zip.__new__» ⟨[.type "zip",.ref l1,.ref l2],[]⟩) (fun _ R s=>s.heap.IsTuple l1 xs/\s.heap.IsTuple l2 ys/\R (.ok (.ret (.ref (zT4 s.heap l1 l2).objs.size))) { s with heap:=zT5 s.heap l1 l2 }):=
 .of_wp fun prog w A R s h=>by
  obtain⟨hp,g,d,tk,os⟩:=s;obtain⟨hl1,hl2,h⟩:=h;have hsub:=sub_zip;have m1:Heap.IsTuple (Shared.heap ⟨hp,g,d,tk,os⟩) l1 xs:=hl1;have m2:Heap.IsTuple (Shared.heap ⟨hp.push { cls:=.type "tuple_iterator",data:=.fields #[.ref l1,.int 0 0] },g,d,tk,os⟩) l2 ys:=Heap.IsTuple.push hl2 _
  wp_walk using wpAny_pyIter_tuple m1,wpAny_pyIter_tuple m2
  exact⟨_,rfl,h⟩
theorem a8l {prog:Program}{w:World}{A:Around}{E:Vs0}{s:Shared}{l1 l2:Addr}{xs ys:Array Value}{Q:Vs0}(hl1:s.heap.IsTuple l1 xs)(hl2:s.heap.IsTuple l2 ys)
  (h:∀h',ZT h' (s.heap.objs.size+4) (s.heap.objs.size+2) (s.heap.objs.size+3) s.heap.objs.size (s.heap.objs.size+1) l1 l2 0 xs ys .none->h'.objs.size=s.heap.objs.size+5->(∀c o,s.heap.get? c=some o->h'.get? c=some o)->Q (.ref (s.heap.objs.size+4)) { s with heap:=h' }) :
  wpAny (model prog w) A (call (.type "zip") [.ref l1,.ref l2]) Q E s:=by
 refine callType_new F.called_zip (by decide) (F.typeCall_zip_2 _ _) (F.newCall_zip_2 _ _) (fun obj=>F.args_object_init_3 obj _ _) F.entry_zip_new (a7W l1 l2 xs ys) ⟨hl1,hl2,?_⟩;have z1:(zT1 s.heap l1).objs.size=s.heap.objs.size+1:=Heap.size_push ..;have z2:(zT2 s.heap l1 l2).objs.size=s.heap.objs.size+2:=by rw[Heap.size_push,z1]
 have z3:(zT3 s.heap l1 l2).objs.size=s.heap.objs.size+3:=by rw[Heap.size_push,z2]
 have z4:(zT4 s.heap l1 l2).objs.size=s.heap.objs.size+4:=by rw[Heap.size_push,z3]
 have z5:(zT5 s.heap l1 l2).objs.size=s.heap.objs.size+5:=by rw[Heap.size_push,z4]
 have kp:∀c o,s.heap.get? c=some o->(zT5 s.heap l1 l2).get? c=some o:=fun c o x=>hP0 _ (hP0 _ (hP0 _ (hP0 _ (hP0 _ x))));have g5:(zT5 s.heap l1 l2).get? (zT4 s.heap l1 l2).objs.size=some _:=hS0 _ rfl;have g4:(zT5 s.heap l1 l2).get? (zT3 s.heap l1 l2).objs.size=some _:=hP0 _ (hS0 _ rfl);have g3:(zT5 s.heap l1 l2).get? (zT2 s.heap l1 l2).objs.size=some _:=hP0 _ (hP0 _ (hS0 _ rfl));have g2:(zT5 s.heap l1 l2).get? (zT1 s.heap l1).objs.size=some _:=hP0 _ (hP0 _ (hP0 _ (hS0 _ rfl)));have g1:(zT5 s.heap l1 l2).get? s.heap.objs.size=some _:=hP0 _ (hP0 _ (hP0 _ (hP0 _ (hS0 _ rfl))));show _/\_;rw[z2,z3,z4] at g5;rw[z1,z2] at g3;rw[z3] at g4;rw[z1] at g2;rw[z4];refine⟨⟨_,g5,rfl⟩,h _ ⟨g5,g3,⟨_,_,g4⟩,⟨_,g1,rfl,rfl⟩,⟨_,g2,rfl,rfl⟩,?_,?_⟩ z5 kp⟩
 ·obtain⟨o,e,r⟩:=hl1;exact⟨o,kp _ o e,r⟩
 ·obtain⟨o,e,r⟩:=hl2;exact⟨o,kp _ o e,r⟩
end L2
namespace L2
open PySem PySem.Spec PyProof.Rows
section
variable {X:Cx}{pins:List (Addr×Obj)}{σ:St}{H:Hp}{s:Shared}{h':Heap}
theorem Inv.turnedL {t':Nat}{ch:List Addr}(I:Inv X pins σ H s)(k:∀b o,b∉ch->s.heap.get? b=some o->h'.get? b=some o)(f:∀b∈ch,a3y X pins H b):Inv X pins σ H { s with heap:=h',toks:=t' }:=by
 have nit:∀b u,H b=some u->b∉ch:=fun b u e z=>by rw[(f b z).1] at e;cases e
 refine I.step (g':=s.gens) (d':=s.drawn) (ch:=ch) (fun b hb=>?_) (fun b o _ _ hc e _=>k b o hc e) (fun b o _ _ hc e _=>⟨o.slots,k b o hc e⟩) (fun _ _ _ _ n=>n) (fun b o hc e=>⟨o,k b o hc e⟩) (fun _ _ e=>e) (fun _ _ _ e=>e) (fun b ps e=>⟨#[],by rw[e];simp⟩) (fun m hm=>?_) (fun b u e=>?_) I.bare
 ·obtain⟨f0,f1,f2,f3,f4,f5⟩:=f b hb
  exact⟨f3,f1,f4,f5⟩
 ·obtain⟨o,es,ep,ho,r⟩:=hm
  refine⟨o,es,ep,k _ o (fun z=>?_) ho,r⟩;obtain⟨f0,f1,_⟩:=f _ z;exact f1 rfl
 ·refine(I.hok b u e).stay (fun c v hc q=>k c v ?_ q) (fun _ q=>q) fun _ _ q=>q
  rcases hc with z |z
  ·rw[z];exact nit b u e
  ·exact nit c _ z
end
structure ZM (h:Heap) (z TI TO i1 i2 a b:Addr) (k:Nat):Prop where
 zp:IsZip h z TI TO .none
 ti:IsPair h TI (.ref i1) (.ref i2)
 to:∃u v,IsPair h TO u v
 j1:h.IsTupleIter i1 a k
 j2:h.IsTupleIter i2 b k
def ItZ (K:Fg0)(a b:Addr):It:=
 ⟨fun i H=>∃xs ys x y,SqT K H a xs/\SqT K H b ys/\xs[i]? =some x/\ys[i]? =some y,fun i H x H'=>∃u v p,(∀xs ys,SqT K H a xs->SqT K H b ys->xs[i]? =some u/\ys[i]? =some v)/\x=.ref p/\H p=none/\H'=upd H p (.tup [u,v]),fun i H=>∃xs ys,SqT K H a xs/\SqT K H b ys/\xs.length<=i⟩
theorem a8y {P:Program}{w:World}{K:Fg0}{es:List Expr}{x1:Nat}{tp:Pos}(a b z TI TO i1 i2:Addr)(D:ZipApart z TI TO i1 i2 a b):a9S P w K (.Tuple es x1 tp) (ItZ K a b) [z,TI,TO,i1,i2] z (fun i h=>ZM h z TI TO i1 i2 a b i) where
 mem:=by simp
 obj:=fun i h st c hc=>by
  obtain⟨s1,s2,⟨u,v,s3⟩,s4,s5⟩:=st;simp only[mK0,List.not_mem_nil,or_false] at hc;rcases hc with q |q |q |q |q
  ·subst q;exact⟨_,s1,fun v z=>by cases z⟩
  ·subst q;exact⟨_,s2,fun v z=>by cases z⟩
  ·subst q;exact⟨_,s3,fun v z=>by cases z⟩
  ·subst q;obtain⟨o,e,_,d⟩:=s4;exact⟨o,e,fun v z=>by rw[d] at z;cases z⟩
  ·subst q;obtain⟨o,e,_,d⟩:=s5;exact⟨o,e,fun v z=>by rw[d] at z;cases z⟩
 keep:=fun i h h' st k=>by
  obtain⟨s1,s2,⟨u,v,s3⟩,⟨o4,e4,r4⟩,⟨o5,e5,r5⟩⟩:=st;exact⟨k z (by simp) _ s1,k TI (by simp) _ s2,⟨u,v,k TO (by simp) _ s3⟩,⟨o4,k i1 (by simp) _ e4,r4⟩,⟨o5,k i2 (by simp) _ e5,r5⟩⟩
 item:=by
  intro X hP hw hK hc i pins s σ H E I hf st hg;subst hP hw hK;obtain⟨s1,s2,s3,s4,s5⟩:=st;obtain⟨xs,ys,x,y,hq1,hq2,hx,hy⟩:=hg;obtain⟨its,rv,p,hz⟩:=I.tuple hq1;obtain⟨jts,rw',p',hz'⟩:=I.tuple hq2;obtain⟨u,hu,ru⟩:=rv.get hx;obtain⟨v,hv,rv'⟩:=rw'.get hy;have Z:ZT s.heap z TI TO i1 i2 a b i its.toArray jts.toArray .none:=⟨s1,s2,s3,s4,s5,p,p'⟩;refine a8m D Z (x:=u) (y:=v) (by simpa using hu) (by simpa using hv) fun h' Z' ht hsz kp=>?_;refine⟨_,rfl,?_⟩;refine wpAny_letOwnedTupleGo_zip (s:={ s with heap:=h' }) Z'.zp fun h'' zp'' sb=>?_;have zlt:z<s.heap.objs.size:=hL0 s1;have kp2:∀c o,c∉[z,TI,TO,i1,i2]->s.heap.get? c=some o->h''.get? c=some o:=fun c o hc e=>by
   simp only[mK0,List.not_mem_nil,or_false,not_or] at hc;exact(sb.2 c hc.1).trans (kp c o hc.1 hc.2.2.1 hc.2.2.2.1 hc.2.2.2.2 e)
  have I1:Inv X pins σ H { s with heap:=h'' }:=I.turnedL (t':=s.toks) kp2 hf;have hp:H s.heap.objs.size=none:=I.hok.fresh (nR0 _);have e2:h''.get? s.heap.objs.size=some { cls:=.type "tuple",data:=.seq #[u,v] }:=(sb.2 _ (Nat.ne_of_gt zlt)).trans ht;have I2:Inv X pins σ (upd H s.heap.objs.size (.tup [x,y])) { s with heap:=h'' }:=I1.track (I.our (nR0 _)) ⟨(show 2<=sizeLine by decide),[u,v],.cons ru (.cons rv' .nil),⟨_,e2,rfl,_,rfl⟩⟩;refine⟨.ref s.heap.objs.size,_,I2,rfl,⟨x,y,_,fun ws us h1 h2=>?_,rfl,hp,rfl⟩,?_,fun c hc=>?_⟩
  ·rw[I.tuple_inj h1 hq1,I.tuple_inj h2 hq2]
   exact⟨hx,hy⟩
  ·have up:∀c o,c≠z->h'.get? c=some o->h''.get? c=some o:=fun c o hc e=>(sb.2 c hc).trans e
   obtain⟨_,q2,⟨q3a,q3b,q3⟩,⟨o4,e4,r4⟩,⟨o5,e5,r5⟩,_,_⟩:=Z';exact⟨zp'',up _ _ D.TIz q2,⟨q3a,q3b,up _ _ D.TOz q3⟩,⟨o4,up _ _ D.i1z e4,r4⟩,⟨o5,up _ _ D.i2z e5,r5⟩⟩
  ·obtain⟨f0,_⟩:=hf c hc
   rw[a0g fun q=>?_]
   ·exact f0
   ·have lt:∀c o,s.heap.get? c=some o->c≠s.heap.objs.size:=fun c o e=>nL0 (hL0 e)
    obtain⟨q3a,q3b,q3⟩:=s3;obtain⟨o4,e4,_⟩:=s4;obtain⟨o5,e5,_⟩:=s5;simp only[mK0,List.not_mem_nil,or_false] at hc;rcases hc with r |r |r |r |r
    ·exact lt z _ s1 (r▸q)
    ·exact lt TI _ s2 (r▸q)
    ·exact lt TO _ q3 (r▸q)
    ·exact lt i1 _ e4 (r▸q)
    ·exact lt i2 _ e5 (r▸q)
 done:=by
  intro X hP hw hK hc i pins s σ H E I hf st hg;subst hP hw hK;obtain⟨s1,s2,s3,s4,s5⟩:=st;obtain⟨xs,ys,hq1,hq2,hx⟩:=hg;obtain⟨its,rv,p,hz⟩:=I.tuple hq1;obtain⟨jts,rw',p',hz'⟩:=I.tuple hq2;have hl:=rv.length;have Z:ZT s.heap z TI TO i1 i2 a b i its.toArray jts.toArray .none:=⟨s1,s2,s3,s4,s5,p,p'⟩;refine a9L (I.ok.hd hc) D Z (by simp;omega) fun h' kp=>⟨rfl,I.turnedL (t':=s.toks) (fun c o hc e=>?_) hf⟩;simp only[mK0,List.not_mem_nil,or_false,not_or] at hc;exact kp c o hc.1 hc.2.2.1 hc.2.2.2.1 hc.2.2.2.2 e
 self:=fun A i s Q E st h=>wpAny_pyIter_zip st.zp h
section
variable {X:Cx}
theorem boot_zip:bootBuiltins "zip"=some (.type "zip"):=by decide +kernel
def b5G (K:Fg0)(ta:TA):TI:=fun σ H R=>ta σ H fun vs H1=>∃a b,vs=[.ref a,.ref b]/\(∃xs,SqT K H1 a xs)/\(∃ys,SqT K H1 b ys)/\R (ItZ K a b) H1
theorem b2R {es:List Expr}{x1:Nat}{tp:Pos}{l m:Expr}{ta:TA}{p pos:Pos}(hg:Gl X "zip")(hm:X.mg "zip"=none)(ha:PA X [l,m] ta)(hs:starEach [l,m] X.env=(false,eval l X.env)::starEach [m] X.env:=by rfl)(hpl:(backTo pos (starEach [m] X.env)).any (·.1)=false:=by rfl) :
  PI X (.Tuple es x1 tp) (.Call (.Name "zip" p) [l,m] [] pos) (b5G X.K ta):=by
 intro pins s σ H R I h;refine Call_ (a3Y I hg hm boot_zip (PyProof.Rows.callWith_type1 (thn (ha pos pins s σ H _ I h) fun us s1 ⟨vs,H1,I1,r1,q1⟩=>?_) hs hpl));obtain⟨a,b,e,⟨xs,hq1⟩,⟨ys,hq2⟩,q⟩:=q1;subst e;obtain⟨u,v,rfl,rx,ry⟩:=a7N r1;cases rx;cases ry;obtain⟨its,rv,p1,hz⟩:=I1.tuple hq1;obtain⟨jts,rw',p2,hz'⟩:=I1.tuple hq2;have la:a<s1.heap.objs.size:=by obtain⟨o,e,_⟩:=p1;exact hL0 e
 have lb:b<s1.heap.objs.size:=by obtain⟨o,e,_⟩:=p2;exact hL0 e
 have D:ZipApart (s1.heap.objs.size+4) (s1.heap.objs.size+2) (s1.heap.objs.size+3) s1.heap.objs.size (s1.heap.objs.size+1) a b:=by
  generalize s1.heap.objs.size=n at la lb
  constructor<;>(intro z;simp only[Addr] at *;omega)
 refine a8l p1 p2 fun h' Z hsz hk=>?_;have I2:Inv X pins σ H1 { s1 with heap:=h' }:=I1.kept (t':=s1.toks) hk;refine wpAny_pyIter_zip (s:={ s1 with heap:=h' }) Z.zp ?_;refine⟨s1.heap.objs.size+4,[s1.heap.objs.size+4,s1.heap.objs.size+2,s1.heap.objs.size+3,s1.heap.objs.size,s1.heap.objs.size+1],_,_,H1,rfl,I2,a8y a b _ _ _ _ _ D,⟨Z.zp,Z.ti,Z.to,Z.j1,Z.j2⟩,fun c hc=>?_,q⟩;have nb:s1.heap.objs.size<=c:=by
  simp only[mK0,List.not_mem_nil,or_false] at hc;rcases hc with r |r |r |r |r<;>(rw[r];first |exact nR0 _ |exact Nat.le_add_right _ _)
 exact I1.fpOk nb (I1.hok.fresh nb)
theorem b0o {K:Fg0}{a b:Addr}{xs ys:List V}{g:TG}{tb:TS}{D:a5o}{σ:St}{H:Hp}(Pv:Nat->St->Hp->Prop)(hlen:xs.length=ys.length)(h0:Pv 0 σ H)(hl:∀i σ H,i<=xs.length->Pv i σ H->SqT K H a xs/\SqT K H b ys)
  (hs:∀i x y p σ H,xs[i]? =some x->ys[i]? =some y->Pv i σ H->H p=none->g (.ref p) σ (upd H p (.tup [x,y])) fun σ2 H2=>tb { D with nx:=Pv (i+1),ct:=Pv (i+1),bk:=D.nx } σ2 H2) (hd:∀σ H,Pv xs.length σ H->D.nx σ H) :
  ∃W:Nat->Nat->St->Hp->Prop,(∃m,W 0 m σ H)/\∀i m σ H,W i m σ H →
   ((ItZ K a b).stop i H/\D.nx σ H)\/((ItZ K a b).go i H/\∃N:St->Hp->Prop,(∀σ' H',N σ' H'->∃m',m'<m/\W (i+1) m' σ' H')/\∀x H',(ItZ K a b).yld i H x H'->g x σ H' fun σ2 H2=>tb { D with nx:=N,ct:=N,bk:=D.nx } σ2 H2):=by
 refine⟨fun i m σ H=>m=xs.length-i/\i<=xs.length/\Pv i σ H,⟨xs.length,by simp,zL0 _,h0⟩,?_⟩;rintro i m σ H ⟨rfl,hi,p⟩;obtain⟨q1,q2⟩:=hl i σ H hi p
 by_cases hlt:i<xs.length
 ·have hlt2:i<ys.length:=by omega
  refine .inr ⟨⟨xs,ys,xs[i],ys[i],q1,q2,by simp[hlt],by simp[hlt2]⟩,Pv (i+1),fun σ' H' p'=>⟨xs.length-(i+1),by omega,rfl,hlt,p'⟩,fun x H' y=>?_⟩;obtain⟨u,v,pa,hk,ex,hn,e⟩:=y;subst e ex;exact hs i u v pa σ H (hk xs ys q1 q2).1 (hk xs ys q1 q2).2 p hn
 ·have e:i=xs.length:=by omega
  subst e;exact .inl ⟨⟨xs,ys,q1,q2,nR0 _⟩,hd σ H p⟩
end
end L2
namespace My
open PySem L2 PyProof.Rows
def top (i:Nat):Stmt:=PySem.Challenge.pw_halfmoved_k34_rows_of_a_tuple.main.body.getD i (.Pass ⟨0,0,0,0⟩)
section
variable {P:Program}{w:World}{K:Fg0}{mg:Str->Option Value}{base:Heap}
theorem a7H {f:Addr}{fd:FuncData}(F:Fun K "is_whole" "is_whole" (top 10) f fd)(B:Bl mg):a0F P w K mg base CX0 1 f fd ["thing"] (a6K K):=by
 have sc:a0o ["thing"] ["thing"] (a0f (top 10)):=.k (by decide +kernel);refine F.ok sc (fun vs H Q E h=>?_) (fun cdv A outer s H vs Q E hr h=>?_)
 ·obtain⟨v,n,rfl,_⟩:=h
  rfl
 ·obtain⟨v,n,rfl,⟨ty,hn⟩,q⟩:=h
  refine⟨_,a0h (a0u (a1V (a0k a2n (by rfl) B.isi boot_isi (a0a (pv 0) (a0a (a0y (v:=.ty "int") (by rfl) B.int boot_int rfl) a0c)))
   (a2w (b3A (a0k a2n (by rfl) B.isi boot_isi (a0a (pv 0) (a0a (a0y (v:=.ty "bool") (by rfl) B.bool boot_bool rfl) a0c))))))),?_⟩
  refine⟨_,rfl,_,_,_,_,rfl,ty,a2B.trans (b2E n hn),_,rfl,?_⟩;refine a4q (fun c=>?_) (fun c=>?_)
  ·refine⟨_,rfl,_,_,_,_,rfl,ty,a2B.trans (b0T n hn),_,rfl,?_⟩
   have e:(!(n=="bool"))=(n=="int"):=by
    revert c hn
    clear ty q
    revert n
    decide +kernel
   rw[e];exact q
  ·have e:(n=="int")=false:=by
    cases z:n=="int" with
    |false=>rfl
    |true=>rw[z] at c;exact(c rfl).elim
   rw[e] at q;exact q
def a4g:Dt->Bool
 | .int _=>true
 |_=>false
def b3d (l:List Nat):Bool:=match l with
 |[c]=>decide (32<=c)&&(decide (c<=126)&&!decide (c=37))
 |_=>false
def a6E:Dt->Bool
 | .str z=>b3d z.cps.toList
 |_=>false
def geD:Dt->Bool
 | .int i=>decide (1<=i)
 |_=>false
def a2Y (s b:Dt):Bool:=if a1x s "below"=true then geD b else if a1x s "upto"=true then a4g b else a1x s "without"&&a6E b
def w2:List Str:=["whole","word"]
def w3:List Str:=["list","some","once"]
def a1N:Dt->Bool
 | .tup [s]=>w2.any (a1x s)
 | .tup [s,b]=>a2Y s b
 |_=>false
def a9C:Dt->Bool
 | .tup [s]=>a1x s "key"
 | .tup [s,b]=>w3.any (a1x s)&&a1N b
 |_=>false
def a2y (d:Dt):Bool:=a1N d || a9C d
theorem a3R (d:Dt):(tyD d=="int")=a4g d:=by cases d<;>simp[tyD,a4g]
theorem b2d {f:Addr}{fd:FuncData}(F:Fun K "is_sign" "is_sign" (top 12) f fd)(B:Bl mg){uP:Value}(hP:mg "PERCENT"=some uP)(rP:a0Z (.int 37) uP) :
  a0F P w K mg base CX0 1 f fd ["thing"] (fun vs H Q _=>∃(v:V) (d:Dt),vs=[v]/\Rep H d v/\Q (.bl (a6E d)) H):=by
 have sc:a0o ["thing"] ["thing"] (a0f (top 12)):=.k (by decide +kernel);refine F.ok sc (fun vs H Q E h=>?_) (fun cdv A outer s H vs Q E hr h=>?_)
 ·obtain⟨v,d,rfl,_⟩:=h
  rfl
 ·obtain⟨v,d,rfl,hd,q⟩:=h
  refine⟨_,a0d (a0A (PW.pt (a2F (a1j (a0D (a0k a2n (by rfl) B.isi boot_isi (a0a (pv 0) (a0a (a0y (v:=.ty "str") (by rfl) B.str boot_str rfl) a0c)))))
    (a1J (a0q a4p (a0k a3u (by rfl) B.len PySem.boot_len (a0a (pv 0) a0c)) a0e (a0t _))))) (a0h (a0u a3w)) a0l)
   (a0h (a0u (a1V (b0q a6i a6i a0H (pv 0) a0H) (a2w (a1d a4p (a0k b0k (by rfl) B.ord boot_ord (a0a (pv 0) a0c)) (a2H (by rfl) hP rP) (a0t _)))))),?_⟩
  by_cases hs:tyD d="str"
  ·obtain⟨z,rfl⟩:∃z,d=.str z:=by
    cases d<;>first |exact⟨_,rfl⟩ | (simp[tyD] at hs)
   unfold Rep at hd;obtain⟨rfl,hz⟩:=hd;have hzs:z.length<=sizeLine:=by rw[sizeLine_eq];omega
   refine⟨_,rfl,_,_,_,_,rfl,.str z,a2B.trans (show a0V "str" "str"=some true by decide +kernel),_,rfl,?_⟩;refine a2b ?_;refine⟨_,rfl,_,rfl,hzs,rfl,_,rfl,?_⟩;have hl:z.cps.toList.length=z.length:=by simp[Str.length]
   by_cases h1:z.length=1
   ·obtain⟨c,hc⟩:∃c,z.cps.toList=[c]:=by
     rw[h1] at hl
     match h:z.cps.toList,hl with
     |[c],_=>exact⟨c,rfl⟩
    have hg:z.cps.getD 0 0=c:=by
     have:z.cps=#[c]:=by rw[<-Array.toArray_toList (xs:=z.cps),hc]
     rw[this]
     rfl
    refine a2j (by rw[h1];rfl) ?_;have hq:a6E (.str z)=(decide (32<=c)&&(decide (c<=126)&&!decide (c=37))):=by
     show b3d z.cps.toList=_;rw[hc]
     rfl
    rw[hq] at q;have e32:(" ":Str).cps.toList=[32]:=by decide +kernel
    have e126:("~":Str).cps.toList=[126]:=by decide +kernel
    have l1:(!decide (z.cps.toList<(" ":Str).cps.toList))=decide (32<=c):=by
     rw[hc,e32,StrLaws.lt_cons_cons,StrLaws.lt_nil_nil,Bool.and_false,Bool.or_false]
     by_cases h:32<=c
     ·rw[dT0 h,dF0 (by omega)];rfl
     ·rw[dF0 h,dT0 (by omega)];rfl
    have l2:(!decide (("~":Str).cps.toList<z.cps.toList))=decide (c<=126):=by
     rw[hc,e126,StrLaws.lt_cons_cons,StrLaws.lt_nil_nil,Bool.and_false,Bool.or_false]
     by_cases h:c<=126
     ·rw[dT0 h,dF0 (by omega)];rfl
     ·rw[dF0 h,dT0 (by omega)];rfl
    refine⟨_,rfl,_,_,rfl,rfl,_,rfl,?_⟩
    by_cases h32:32<=c
    ·refine a5d (l1.trans (dT0 h32)) ?_
     refine⟨_,_,rfl,rfl,_,rfl,?_⟩;rw[dT0 h32,Bool.true_and] at q
     by_cases h126:c<=126
     ·refine a5d (l2.trans (dT0 h126)) ?_
      rw[dT0 h126,Bool.true_and] at q;refine⟨_,rfl,_,rfl,h1,rfl,?_⟩;have e:decide (V.int (z.cps.getD 0 0:Nat)=V.int 37)=decide (c=37):=by
       rw[hg];exact a8c (k:=37)
      rw[e];exact q
     ·refine a2j (l2.trans (dF0 h126)) ?_
      rw[dF0 h126,Bool.false_and] at q;exact q
    ·refine a2j (l1.trans (dF0 h32)) ?_
     rw[dF0 h32,Bool.false_and] at q;exact⟨_,rfl,a2b q⟩
   ·refine a5d ?_ ?_
    ·have e:decide (V.int (z.length:Int)=V.int 1)=decide (z.length=1):=a8c (k:=1)
     rw[e,dF0 h1]
     rfl
    ·have hq:a6E (.str z)=false:=by
      show b3d z.cps.toList=_;rw[<-hl] at h1
      match h:z.cps.toList,h1 with
      |[],_=>rfl
      |[c],h1=>exact(h1 rfl).elim
      |_::_::_,_=>rfl
     rw[hq] at q;exact q
  ·have e:(tyD d=="str")=false:=beq_eq_false_iff_ne.mpr hs
   have hi:=hd.is (K:=K);refine⟨_,rfl,_,_,_,_,rfl,hi.1,a2B.trans ((a9Q _ hi.2).trans (congrArg some e)),_,rfl,?_⟩;refine a5p ?_;have hq:a6E d=false:=by
    cases d<;>first |rfl |exact(hs rfl).elim
   rw[hq] at q;exact q
theorem b1X {f fW fS:Addr}{fd fdW fdS:FuncData}(F:Fun K "is_plain_pair" "is_plain_pair" (top 14) f fd)(B:Bl mg)(DW:Df K mg "is_whole" (top 10) fW fdW)(DS:Df K mg "is_sign" (top 12) fS fdS){uP:Value}(hP:mg "PERCENT"=some uP)(rP:a0Z (.int 37) uP) :
  a0F P w K mg base CX0 2 f fd ["sort","bound"] (fun vs H Q _=>∃(u v:V) (s b:Dt),vs=[u,v]/\Rep H s u/\Rep H b v/\Q (.bl (a2Y s b)) H):=by
 have sc:a0o ["sort","bound"] ["sort","bound"] (a0f (top 14)):=.k (by decide +kernel);have GW:a0F P w K mg base CX0 1 fW fdW ["thing"] (a6K K):=a7H DW.fn B;have GS:=b2d (P:=P) (w:=w) (base:=base) DS.fn B hP rP;have bW:=DW.fn.b1 "thing" (by intros;rfl);have bS:=DS.fn.b1 "thing" (by intros;rfl);refine F.ok sc (fun vs H Q E h=>?_) (fun cdv A outer s H vs Q E hr h=>?_)
 ·obtain⟨u,v,s,b,rfl,_⟩:=h
  rfl
 ·obtain⟨u,v,ds,db,rfl,hds,hdb,q⟩:=h
  have hu:(A.deeper (envOfC "is_plain_pair" (a0f (top 14)) s.heap.objs.size f cdv)).units<cLine:=hr.units0;refine⟨_,a0d (a0A (a0q (a6Q hu) (pv 0) a0H (a0t _)) (a0h (a0u (a1V (a0i GW hr (by rfl) DW.mg DW.fn.kp bW .nil a0r (a0a (pv 1) a0c)) (a2w (a1d b5L (pv 1) a0e (a0t _)))))) a0l)
   (a0d (a0A (a0q (a6Q hu) (pv 0) a0H (a0t _)) (a0h (a0u (a0i GW hr (by rfl) DW.mg DW.fn.kp bW .nil a0r (a0a (pv 1) a0c)))) a0l)
   (a0h (a0u (a1V (a1d (a6Q hu) (pv 0) a0H (a0t _)) (a2w (a0i GS hr (by rfl) DS.mg DS.fn.kp bS .nil a0r (a0a (pv 1) a0c))))))),?_⟩
  refine⟨_,rfl,ds,_,hds,rfl,_,rfl,?_⟩
  by_cases c1:a1x ds "below"=true
  ·refine a5d c1 ?_
   have e:a2Y ds db=geD db:=by unfold a2Y;rw[if_pos c1]
   rw[e] at q;refine⟨_,rfl,_,_,rfl,hdb.is,_,rfl,?_⟩
   by_cases hw:a4g db=true
   ·refine a5d ((a3R db).trans hw) ?_
    obtain⟨i,rfl⟩:∃i,db=.int i:=by
     cases db<;>first |exact⟨_,rfl⟩ | (simp[a4g] at hw)
    unfold Rep at hdb;subst hdb;exact⟨_,rfl,_,_,rfl,rfl,q⟩
   ·refine a2j ((a3R db).trans (by simpa using hw)) ?_
    have e2:geD db=false:=by
     cases db<;>first |rfl |exact(hw rfl).elim
    rw[e2] at q;exact q
  ·refine a2j (by simpa using c1) ?_
   refine⟨_,rfl,ds,_,hds,rfl,_,rfl,?_⟩
   by_cases c2:a1x ds "upto"=true
   ·refine a5d c2 ?_
    have e:a2Y ds db=a4g db:=by unfold a2Y;rw[if_neg c1,if_pos c2]
    rw[e,<-a3R db] at q;exact⟨_,rfl,_,_,rfl,hdb.is,q⟩
   ·refine a2j (by simpa using c2) ?_
    have e:a2Y ds db=(a1x ds "without"&&a6E db):=by unfold a2Y;rw[if_neg c1,if_neg c2]
    rw[e] at q;refine⟨_,rfl,ds,_,hds,rfl,_,rfl,?_⟩
    by_cases c3:a1x ds "without"=true
    ·refine a5d c3 ?_
     rw[c3,Bool.true_and] at q;exact⟨_,rfl,_,_,rfl,hdb,q⟩
    ·refine a2j (by simpa using c3) ?_
     rw[(by simpa using c3:a1x ds "without"=false),Bool.false_and] at q;exact q
def a5j:Sp:=fun vs H Q _=>∃(v:V) (d:Dt),vs=[v]/\Rep H d v/\∀H',a0m H H'->Q (.bl (a1N d)) H'
theorem b0r {f fW fS fR:Addr}{fd fdW fdS fdR:FuncData}(F:Fun K "is_plain" "is_plain" (top 13) f fd)(B:Bl mg)(DW:Df K mg "is_whole" (top 10) fW fdW)(DS:Df K mg "is_sign" (top 12) fS fdS)(DR:Df K mg "is_plain_pair" (top 14) fR fdR)
  {uP:Value} (hP:mg "PERCENT"=some uP) (rP:a0Z (.int 37) uP):a0F P w K mg base CX0 3 f fd ["thing"] a5j:=by
 have sc:a0o ["thing"] ["thing"] (a0f (top 13)):=.k (by decide +kernel);have GR:=b1X (P:=P) (w:=w) (base:=base) DR.fn B DW DS hP rP;have bR:=DR.fn.b2 "sort" "bound" (by intros;rfl);refine F.ok sc (fun vs H Q E h=>?_) (fun cdv A outer s H vs Q E hr h=>?_)
 ·obtain⟨v,d,rfl,_⟩:=h
  rfl
 ·obtain⟨v,d,rfl,hd,q⟩:=h
  have hu:=a2E hr;refine⟨_,a0d (a0A (a1j (a0D (a0k a2n (by rfl) B.isi boot_isi (a0a (pv 0) (a0a (a0y (v:=.ty "tuple") (by rfl) B.tuple boot_tuple rfl) a0c))))) (a0h (a0u a3w)) a0l)
   (a0d (a0A (a0q a1o (a0k a0S (by rfl) B.len PySem.boot_len (a0a (pv 0) a0c)) a0e (a0t _)) (a0h (a0u (a1d (b1x hu) (a0x a0P (pv 0) a0e (fun _ _=>rfl)) (a0M (a0a a0H (a0a a0H a0c))) (by with_unfolding_all rfl)))) a0l)
   (a0h (a0u (a1V (a1d a1o (a0k a0S (by rfl) B.len PySem.boot_len (a0a (pv 0) a0c)) a0e (a0t _))
    (a2w (a0i GR hr (by rfl) DR.mg DR.fn.kp bR .nil a0r (a0a (a0x a0P (pv 0) a0e (fun _ _=>rfl)) (a0a (a0x a0P (pv 0) a0e (fun _ _=>rfl)) a0c)))))))),?_⟩
  have hi:=hd.is (K:=K)
  by_cases ht:tyD d="tuple"
  ·obtain⟨ds,rfl⟩:∃ds,d=.tup ds:=by
    cases d<;>first |exact⟨_,rfl⟩ | (simp[tyD] at ht)
   have hd':=hd;unfold Rep at hd';obtain⟨a,xs,rfl,ha,hr2⟩:=hd';have hl:=hr2.length;refine⟨_,rfl,_,_,_,_,rfl,hi.1,a2B.trans (show a0V "tuple" "tuple"=some true by decide +kernel),_,rfl,?_⟩;refine a2b ?_;refine⟨_,rfl,_,_,rfl,.inr (SqT.of ha),rfl,_,rfl,?_⟩;have e1:decide (V.int (xs.length:Int)=V.int 1)=decide (xs.length=1):=a8c (k:=1);have e2:decide (V.int (xs.length:Int)=V.int 2)=decide (xs.length=2):=a8c (k:=2)
   match ds,hr2,hl,q with
   |[],hr2,hl,q=>
    refine a2j (e1.trans (dF0 (by rw[hl];simp))) ?_;refine⟨_,rfl,_,_,rfl,.inr (SqT.of ha),rfl,_,rfl,?_⟩;refine a2j (e2.trans (dF0 (by rw[hl];simp))) ?_;exact q H (a0m.refl H)
   |[d0],hr2,hl,q=>
    refine a5d (e1.trans (dT0 hl)) ?_;unfold a2c at hr2;obtain⟨v0,r0,rfl,h0,hn⟩:=hr2;unfold a2c at hn;subst hn;refine⟨_,rfl,_,_,_,v0,rfl,rfl,SqT.of ha,rfl,?_⟩;refine⟨(by decide),fun p hp=>?_⟩;have sm:=a0m.upd (o:=.tup [.str "whole",.str "word"]) hp;exact⟨d0,p,w2,h0.same sm,rfl,a0b,q _ sm⟩
   |[d0,d1],hr2,hl,q=>
    refine a2j (e1.trans (dF0 (by rw[hl];simp))) ?_;unfold a2c at hr2;obtain⟨v0,r0,rfl,h0,hn⟩:=hr2;unfold a2c at hn;obtain⟨v1,r1,rfl,h1,hn⟩:=hn;unfold a2c at hn;subst hn;refine⟨_,rfl,_,_,rfl,.inr (SqT.of ha),rfl,_,rfl,?_⟩;refine a5d (e2.trans (dT0 hl)) ?_;refine⟨_,rfl,_,_,_,v0,rfl,rfl,SqT.of ha,rfl,_,rfl,_,_,_,v1,rfl,rfl,SqT.of ha,rfl,?_⟩;exact⟨v0,v1,d0,d1,rfl,h0,h1,q H (a0m.refl H)⟩
   |d0::d1::d2::r,hr2,hl,q=>
    refine a2j (e1.trans (dF0 (by rw[hl];simp))) ?_;refine⟨_,rfl,_,_,rfl,.inr (SqT.of ha),rfl,_,rfl,?_⟩;refine a2j (e2.trans (dF0 (by rw[hl];simp))) ?_;exact q H (a0m.refl H)
  ·have e:(tyD d=="tuple")=false:=beq_eq_false_iff_ne.mpr ht
   refine⟨_,rfl,_,_,_,_,rfl,hi.1,a2B.trans ((a5E _ hi.2).trans (congrArg some e)),_,rfl,?_⟩;refine a5p ?_;have hq:a1N d=false:=by
    cases d<;>first |rfl |exact(ht rfl).elim
   have:=q H (a0m.refl H)
   rw[hq] at this;exact this
def a8A:Sp:=fun vs H Q _=>∃(v:V) (d:Dt),vs=[v]/\Rep H d v/\∀H',a0m H H'->Q (.bl (a2y d)) H'
theorem b2g {f fP:Addr}{fd fdP:FuncData}(F:Fun K "is_kind" "is_kind" (top 15) f fd)(B:Bl mg)(DP:Df K mg "is_plain" (top 13) fP fdP)(GP:a0F P w K mg base CX0 3 fP fdP ["thing"] a5j):a0F P w K mg base CX0 4 f fd ["thing"] a8A:=by
 have sc:a0o ["thing"] ["thing"] (a0f (top 15)):=.k (by decide +kernel);have bP:=DP.fn.b1 "thing" (by intros;rfl);refine F.ok sc (fun vs H Q E h=>?_) (fun cdv A outer s H vs Q E hr h=>?_)
 ·obtain⟨v,d,rfl,_⟩:=h
  rfl
 ·obtain⟨v,d,rfl,hd,q⟩:=h
  have hu:=a2E hr;refine⟨_,a0d (a0A (a0D (a0i GP hr (by rfl) DP.mg DP.fn.kp bP .nil a0r (a0a (pv 0) a0c))) (a0h (a0u a3w)) a0l)
   (a0d (a0A (a1j (a0D (a0k a2n (by rfl) B.isi boot_isi (a0a (pv 0) (a0a (a0y (v:=.ty "tuple") (by rfl) B.tuple boot_tuple rfl) a0c))))) (a0h (a0u a3w)) a0l)
   (a0d (a0A (a0q a1o (a0k a0S (by rfl) B.len PySem.boot_len (a0a (pv 0) a0c)) a0e (a0t _)) (a0h (a0u (a1d (a6Q (Nat.lt_of_succ_lt hu)) (a0x a0P (pv 0) a0e (fun _ _=>rfl)) a0H (a0t _)))) a0l)
   (a0h (a0u (a1V (a1d a1o (a0k a0S (by rfl) B.len PySem.boot_len (a0a (pv 0) a0c)) a0e (a0t _))
    (a1V (a1d (b1x hu) (a0x a0P (pv 0) a0e (fun _ _=>rfl)) (a0M (a0a a0H (a0a a0H (a0a a0H a0c)))) (by with_unfolding_all rfl))
    (a2w (a0i GP hr (by rfl) DP.mg DP.fn.kp bP .nil a0r (a0a (a0x a0P (pv 0) a0e (fun _ _=>rfl)) a0c))))))))),?_⟩
  refine⟨_,rfl,v,d,rfl,hd,fun H1 s1=>?_⟩;refine⟨_,rfl,?_⟩
  by_cases hp:a1N d=true
  ·refine a5d hp ?_
   have e:a2y d=true:=by unfold a2y;rw[hp];rfl
   have:=q H1 s1
   rw[e] at this;exact this
  ·refine a2j (by simpa using hp) ?_
   have ek:a2y d=a9C d:=by unfold a2y;rw[(by simpa using hp:a1N d=false)];rfl
   rw[ek] at q;have hd1:=hd.same s1;have hi:=hd1.is (K:=K)
   by_cases ht:tyD d="tuple"
   ·obtain⟨ds,rfl⟩:∃ds,d=.tup ds:=by
     cases d<;>first |exact⟨_,rfl⟩ | (simp[tyD] at ht)
    have hd':=hd1;unfold Rep at hd';obtain⟨a,xs,rfl,ha,hr2⟩:=hd';have hl:=hr2.length;refine⟨_,rfl,_,_,_,_,rfl,hi.1,a2B.trans (show a0V "tuple" "tuple"=some true by decide +kernel),_,rfl,?_⟩;refine a2b ?_;refine⟨_,rfl,_,_,rfl,.inr (SqT.of ha),rfl,_,rfl,?_⟩;have e1:decide (V.int (xs.length:Int)=V.int 1)=decide (xs.length=1):=a8c (k:=1);have e2:decide (V.int (xs.length:Int)=V.int 2)=decide (xs.length=2):=a8c (k:=2)
    match ds,hr2,hl,q with
    |[],hr2,hl,q=>
     refine a2j (e1.trans (dF0 (by rw[hl];simp))) ?_;refine⟨_,rfl,_,_,rfl,.inr (SqT.of ha),rfl,_,rfl,?_⟩;refine a2j (e2.trans (dF0 (by rw[hl];simp))) ?_;exact q H1 s1
    |[d0],hr2,hl,q=>
     refine a5d (e1.trans (dT0 hl)) ?_;unfold a2c at hr2;obtain⟨v0,r0,rfl,h0,hn⟩:=hr2;unfold a2c at hn;subst hn;refine⟨_,rfl,_,_,_,v0,rfl,rfl,SqT.of ha,rfl,?_⟩;exact⟨d0,_,h0,rfl,q H1 s1⟩
    |[d0,d1],hr2,hl,q=>
     refine a2j (e1.trans (dF0 (by rw[hl];simp))) ?_;unfold a2c at hr2;obtain⟨v0,r0,rfl,h0,hn⟩:=hr2;unfold a2c at hn;obtain⟨v1,r1,rfl,h1,hn⟩:=hn;unfold a2c at hn;subst hn;refine⟨_,rfl,_,_,rfl,.inr (SqT.of ha),rfl,_,rfl,?_⟩;refine a5d (e2.trans (dT0 hl)) ?_;refine⟨_,rfl,_,_,_,v0,rfl,rfl,SqT.of ha,rfl,?_⟩;refine⟨(by decide),fun p hp'=>?_⟩;have sm:=a0m.upd (o:=.tup [.str "list",.str "some",.str "once"]) hp';have s2:=s1.trans sm;refine⟨d0,p,w3,h0.same sm,rfl,a0b,_,rfl,?_⟩;have em:a9C (.tup [d0,d1])=(w3.any (a1x d0)&&a1N d1):=rfl;rw[em] at q
     by_cases c:w3.any (a1x d0)=true
     ·refine a5d c ?_
      rw[c,Bool.true_and] at q;refine⟨_,rfl,_,_,_,v1,rfl,rfl,SqT.of (sm _ _ ha),rfl,?_⟩;exact⟨v1,d1,rfl,h1.same sm,fun H3 s3=>q H3 (s2.trans s3)⟩
     ·refine a2j (by simpa using c) ?_
      rw[(by simpa using c:w3.any (a1x d0)=false),Bool.false_and] at q;exact q _ s2
    |d0::d1::d2::r,hr2,hl,q=>
     refine a2j (e1.trans (dF0 (by rw[hl];simp))) ?_;refine⟨_,rfl,_,_,rfl,.inr (SqT.of ha),rfl,_,rfl,?_⟩;refine a2j (e2.trans (dF0 (by rw[hl];simp))) ?_;exact q H1 s1
   ·have e:(tyD d=="tuple")=false:=beq_eq_false_iff_ne.mpr ht
    refine⟨_,rfl,_,_,_,_,rfl,hi.1,a2B.trans ((a5E _ hi.2).trans (congrArg some e)),_,rfl,?_⟩;refine a5p ?_;have hq:a9C d=false:=by
     cases d<;>first |rfl |exact(ht rfl).elim
    have:=q H1 s1
    rw[hq] at this;exact this
end
end My
namespace L2
open PySem PySem.Spec PyProof.Rows
section
variable {X:Cx}{pins:List (Addr×Obj)}{σ:St}{H:Hp}{s:Shared}{a:Addr}{kvs:List (Key×V)}{o:Obj}
theorem Inv.freeze (I:Inv X pins σ H s)(e:H a=some (.dK kvs))(ho:s.heap.get? a=some o):Inv X pins σ (upd H a (.frz o (.dK kvs))) s:=by
 have ne:∀b u,H b=some u->u≠.dK kvs->b≠a:=fun b u q n z=>by
  subst z;rw[e] at q;exact n (Option.some.inj q).symm
 have nn:∀b,H b=none->b≠a:=fun b q z=>by subst z;rw[e] at q;cases q
 refine⟨I.ok,I.os,I.bare,⟨I.base.keep,I.base.slot,fun b ob q n hx=>?_,I.base.there,fun b xs q=>?_,fun b ob u q=>?_,fun b ps q=>?_⟩,I.loc,I.cell,?_,fun x c q=>?_,fun p hp=>?_,fun b u q=>?_,I.len⟩
 ·have h:=I.base.free b ob q n hx
  rw[a0g (nn b h)];exact h
 ·have h:=I.base.tups b xs q
  rw[a0g (ne b _ h (by simp))];exact h
 ·have h:=I.base.frzs b ob u q
  rw[a0g (ne b _ h (by simp))];exact h
 ·obtain⟨m,h⟩:=I.base.tbls b ps q
  exact⟨m,by rw[a0g (ne b _ h (by simp))];exact h⟩
 ·rw[a0g (nn _ I.free)]
  exact I.free
 ·rw[a0g (nn _ (I.freeC x c q))]
  exact I.freeC x c q
 ·obtain⟨h1,h2,h3⟩:=I.pin p hp
  exact⟨h1,by rw[a0g (nn _ h2)];exact h2,h3⟩
 ·by_cases hb:b=a
  ·subst hb
   rw[a0b] at q;cases q;exact⟨ho,I.hok b _ e⟩
  ·rw[a0g hb] at q
   exact(I.hok b u q).stay (fun c v _ r=>r) (fun c r=>by rw[a0g (ne c _ r (by simp))];exact r) fun c xs r=>by rw[a0g (ne c _ r (by simp))];exact r
theorem Inv.thaw (I:Inv X pins σ H s)(n0:∀ob u,X.H₀ a≠some (.frz ob u))(e:H a=some (.frz o (.dK kvs))):Inv X pins σ (upd H a (.dK kvs)) s:=by
 have ne:∀b u,H b=some u->u≠.frz o (.dK kvs)->b≠a:=fun b u q n z=>by
  subst z;rw[e] at q;exact n (Option.some.inj q).symm
 have nn:∀b,H b=none->b≠a:=fun b q z=>by subst z;rw[e] at q;cases q
 refine⟨I.ok,I.os,I.bare,⟨I.base.keep,I.base.slot,fun b ob q n hx=>?_,I.base.there,fun b xs q=>?_,fun b ob u q=>?_,fun b ps q=>?_⟩,I.loc,I.cell,?_,fun x c q=>?_,fun p hp=>?_,fun b u q=>?_,I.len⟩
 ·have h:=I.base.free b ob q n hx
  rw[a0g (nn b h)];exact h
 ·have h:=I.base.tups b xs q
  rw[a0g (ne b _ h (by simp))];exact h
 ·have h:=I.base.frzs b ob u q
  rw[a0g (fun z=>by subst z;exact n0 _ _ q)];exact h
 ·obtain⟨m,h⟩:=I.base.tbls b ps q
  exact⟨m,by rw[a0g (ne b _ h (by simp))];exact h⟩
 ·rw[a0g (nn _ I.free)]
  exact I.free
 ·rw[a0g (nn _ (I.freeC x c q))]
  exact I.freeC x c q
 ·obtain⟨h1,h2,h3⟩:=I.pin p hp
  exact⟨h1,by rw[a0g (nn _ h2)];exact h2,h3⟩
 ·by_cases hb:b=a
  ·subst hb
   rw[a0b] at q;cases q;exact(I.hok b _ e).2
  ·rw[a0g hb] at q
   exact(I.hok b u q).stay (fun c v _ r=>r) (fun c r=>by rw[a0g (ne c _ r (by simp))];exact r) fun c xs r=>by rw[a0g (ne c _ r (by simp))];exact r
theorem Inv.dk_obj (I:Inv X pins σ H s)(e:H a=some (.dK kvs)):∃o,s.heap.get? a=some o:=by
 obtain⟨_,_,_,_,o,_,_,g,_⟩:=I.hok a _ e;exact⟨o,g⟩
theorem Inv.not_frz (I:Inv X pins σ H s)(e:H a=some (.dK kvs)):∀ob u,X.H₀ a≠some (.frz ob u):=fun ob u q=>by
 have:=I.base.frzs a ob u q
 rw[e] at this;cases this
def b6q (a:Addr)(o:Obj)(kvs:List (Key×V))(D:a5o):a5o where
 nx:=fun σ' H'=>H' a=some (.frz o (.dK kvs))/\D.nx σ' (upd H' a (.dK kvs))
 rt:=fun v H'=>H' a=some (.frz o (.dK kvs))/\D.rt v (upd H' a (.dK kvs))
 bk:=fun σ' H'=>H' a=some (.frz o (.dK kvs))/\D.bk σ' (upd H' a (.dK kvs))
 ct:=fun σ' H'=>H' a=some (.frz o (.dK kvs))/\D.ct σ' (upd H' a (.dK kvs))
def sFrz (t:TS):TS:=fun D σ H=>∃a kvs,H a=some (.dK kvs)/\∀o,t (b6q a o kvs D) σ (upd H a (.frz o (.dK kvs)))
theorem a7a {st:Stmt}{t:TS}(h:PS X st t):PS X st (sFrz t):=by
 intro pins s σ H D I hq;obtain⟨a,kvs,e,q⟩:=hq;obtain⟨o,ho⟩:=I.dk_obj e;have n0:=I.not_frz e;refine thn (h pins s σ _ _ (I.freeze e ho) (q o)) fun f s' hs=>?_;cases f with
 |next=>obtain⟨σ',H',I',e',z⟩:=hs;exact⟨σ',_,I'.thaw n0 e',z⟩
 |brk=>obtain⟨σ',H',I',e',z⟩:=hs;exact⟨σ',_,I'.thaw n0 e',z⟩
 |cont=>obtain⟨σ',H',I',e',z⟩:=hs;exact⟨σ',_,I'.thaw n0 e',z⟩
 |ret u=>obtain⟨v,σ',H',I',r,e',z⟩:=hs;exact⟨v,σ',_,I'.thaw n0 e',r,z⟩
end
def b2Z (o:Obj):Nat:=match o.data with
 | .dict _ ep=>ep
 |_=>0
theorem a8f {P:Program}{w:World}:∀{k:Key} {u:Value},(a0z P w).is k u=true->a0Z (kV k) u:=by
 intro k u h;rcases a0K (k:=k) (v:=u) h with ⟨i,t,rfl,rfl⟩ |⟨x,t,rfl,rfl⟩
 ·exact⟨t,rfl⟩
 ·exact⟨t,rfl⟩
def Itd (a:Addr)(o:Obj)(kvs:List (Key×V)):It:=
 ⟨fun i H=>i<kvs.length/\H a=some (.frz o (.dK kvs)),fun i H x H'=>H'=H/\∃k v,kvs[i]? =some (k,v)/\x=kV k,fun i H=>kvs.length<=i/\H a=some (.frz o (.dK kvs))⟩
section
variable {X:Cx}
theorem a7A:∀{kvs:List (Key×V)} {vs:List (Key×Value)} {i:Nat} {p:Key×V},KV kvs vs->kvs[i]? =some p->∃u,vs[i]? =some (p.1,u)/\a0Z p.2 u
 |_,_,_,_,.nil,e=>by simp at e
 |_,_,0,_,.cons (b:=q) r _,e=>by
  simp at e;subst e;obtain⟨q1,q2⟩:=q;obtain⟨r1,r2⟩:=r;exact⟨q2,by rw[List.getElem?_cons_zero];exact congrArg (fun z=>some (z,q2)) r1.symm,r2⟩
 |_,_,i+1,p,.cons _ t,e=>by
  obtain⟨u,h1,h2⟩:=a7A (i:=i) (p:=p) t (by simpa using e);exact⟨u,by simpa using h1,h2⟩
theorem Inv.dictAt {pins:List (Addr×Obj)}{σ:St}{H:Hp}{s:Shared}{a:Addr}{o:Obj}{kvs:List (Key×V)}(I:Inv X pins σ H s)(e:H a=some (.frz o (.dK kvs))) :
  ∃vs,KV kvs vs/\s.heap.DictAt (a0z X.prog X.w) a vs (b2Z o)/\(a==sysModules)=false:=by
 obtain⟨g,_,hs,vs,kv,o',es,ep,g',ex,hd,hk,hp,hn⟩:=I.hok a _ e;rw[g] at g';cases g';have he:b2Z o=ep:=by unfold b2Z;rw[hd]
 exact⟨vs,kv,⟨o,es,g,ex,by rw[he];exact hd,hk,hp,hn⟩,hs⟩
theorem KV.len {kvs:List (Key×V)}{vs:List (Key×Value)}(r:KV kvs vs):kvs.length=vs.length:=Paired.length r
theorem a8k {P:Program}{w:World}{K:Fg0}{tg:Expr}(a it:Addr)(o:Obj)(kvs:List (Key×V)):a9S P w K tg (Itd a o kvs) [it] it (fun i h=>h.IsKeyIter it a i kvs.length (b2Z o)) where
 mem:=by simp
 obj:=fun i h st b hb=>by
  have e:b=it:=by simpa using hb
  subst e;obtain⟨o,e,c,d⟩:=st;exact⟨o,e,fun v z=>by rw[d] at z;cases z⟩
 keep:=fun i h h' st k=>st.at fun o e=>k it (by simp) o e
 item:=by
  intro X hP hw hK hc i pins s σ H E I hf st hg;subst hP hw hK;obtain⟨hi,hq⟩:=hg;obtain⟨vs,kv,da,_⟩:=I.dictAt hq;have hl:=kv.len;obtain⟨u,hu,ru⟩:=a7A kv (show kvs[i]? =some (kvs[i].1,kvs[i].2) by simp[hi]);obtain⟨f0,f1,f2,f3,f4,f5⟩:=hf it (by simp);rw[hl] at st;refine wpAny_pyNext_dict_item st da hu fun key h' hkey st' sb=>?_;rw[<-hl] at st';have I1:Inv X pins σ H { s with heap:=h' }:=I.turned (t':=s.toks) (fun b o hb e=>(sb.2 b hb).trans e) f0 f1 f3 f4 f5;obtain⟨oi,e,c,d⟩:=id st';exact⟨key,rfl,a8T (s:={ s with heap:=h' }) e c d (by decide) ⟨kV kvs[i].1,H,I1,a8f hkey,⟨rfl,kvs[i].1,kvs[i].2,by simp[hi],rfl⟩,st',fun b hb=>(hf b hb).1⟩⟩
 done:=by
  intro X hP hw hK hc i pins s σ H E I hf st hg;subst hP hw hK;obtain⟨hi,hq⟩:=hg;obtain⟨vs,kv,da,_⟩:=I.dictAt hq;have hl:=kv.len;obtain⟨f0,f1,f2,f3,f4,f5⟩:=hf it (by simp);rw[hl] at st;exact wpAny_pyNext_dict_end (I.ok.hd hc) st da (by simp;omega) fun h' eb=>⟨rfl,I.turned (t':=s.toks) (fun b o hb e=>eb b o hb e) f0 f1 f3 f4 f5⟩
 self:=fun _ _ _ _ _ st h=>wpAny_pyIter_keyiter st h
def b5x (tl:TE):TI:=fun σ H R=>tl σ H fun x H1=>∃a o kvs,x=.ref a/\H1 a=some (.frz o (.dK kvs))/\R (Itd a o kvs) H1
theorem a9v {tg l:Expr}{tl:TE}(hl:PE X l tl):PI X tg l (b5x tl):=by
 intro pins s σ H R I h;refine thn (hl pins s σ H _ I h) fun v s1 ⟨x,H1,I1,r1,q1⟩=>?_;obtain⟨a,o,kvs,e,hq,q⟩:=q1;subst e;cases r1;obtain⟨vs,kv,da,hs⟩:=I1.dictAt hq;refine wpAny_pyIter_dict hs da ?_;refine⟨s1.heap.objs.size,[s1.heap.objs.size],_,_,H1,rfl,I1.kept (t':=s1.toks) fun b o e=>hP0 _ e,a8k a _ o kvs,⟨_,hS0 _ rfl,rfl,by rw[kv.len];rfl⟩,fun b hb=>?_,q⟩;have e:b=s1.heap.objs.size:=by simpa using hb
 subst e;exact I1.fpOk (nR0 _) (I1.hok.fresh (nR0 _))
theorem a4S {a:Addr}{o:Obj}{kvs:List (Key×V)}{g:TG}{tb:TS}{D:a5o}{σ:St}{H:Hp}(Pv:Nat->St->Hp->Prop)(h0:Pv 0 σ H)(hl:∀i σ H,i<=kvs.length->Pv i σ H->H a=some (.frz o (.dK kvs)))
  (hs:∀i k v σ H,kvs[i]? =some (k,v)->Pv i σ H->g (kV k) σ H fun σ2 H2=>tb { D with nx:=Pv (i+1),ct:=Pv (i+1),bk:=D.nx } σ2 H2) (hd:∀σ H,Pv kvs.length σ H->D.nx σ H) :
  ∃W:Nat->Nat->St->Hp->Prop,(∃m,W 0 m σ H)/\∀i m σ H,W i m σ H →
   ((Itd a o kvs).stop i H/\D.nx σ H)\/((Itd a o kvs).go i H/\∃N:St->Hp->Prop,(∀σ' H',N σ' H'->∃m',m'<m/\W (i+1) m' σ' H')/\∀x H',(Itd a o kvs).yld i H x H'->g x σ H' fun σ2 H2=>tb { D with nx:=N,ct:=N,bk:=D.nx } σ2 H2):=by
 refine⟨fun i m σ H=>m=kvs.length-i/\i<=kvs.length/\Pv i σ H,⟨kvs.length,by simp,zL0 _,h0⟩,?_⟩;rintro i m σ H ⟨rfl,hi,p⟩;have q:=hl i σ H hi p
 by_cases hlt:i<kvs.length
 ·refine .inr ⟨⟨hlt,q⟩,Pv (i+1),fun σ' H' p'=>⟨kvs.length-(i+1),by omega,rfl,hlt,p'⟩,fun x H' y=>?_⟩
  obtain⟨e,k,v,hk,ex⟩:=y;subst e ex;exact hs i k v σ _ hk p
 ·have e:i=kvs.length:=by omega
  subst e;exact .inl ⟨⟨nR0 _,q⟩,hd σ H p⟩
theorem a9j:∀{zs:List Str} {us:List Value},a1c (zs.map V.str) us->StrsAre us zs
 |[],_,r=>by rw[List.map_nil] at r;cases r;exact .nil
 |z::zs,_,r=>by
  rw[mN0] at r;cases r with
  |cons h t=>
   obtain⟨k,rfl⟩:=h;exact .cons _ _ (a9j t)
theorem a3I:∀{us:List Value} {zs:List Str},StrsAre us zs->a1c (zs.map V.str) us
 |_,_,.nil=>.nil
 |_,_,.cons _ k t=>.cons ⟨_,rfl⟩ (a3I t)
theorem a2Q:entryFor table "dict_itemiterator.__iter__"=some Builtin.«dict_keyiterator.__iter__»:=
 entryFor_alias (id':="dict_keyiterator.__iter__") (by kernel_rfl) rfl (by decide +kernel) (by kernel_rfl)
theorem a4F {prog:Program}{w:World}{A:Around}{E:Vs0}{s:Shared}{it d:Addr}{i n ep:Nat}{ok ov:Value}{Q:Vs0}(hit:IsItemIter s.heap it d i n ep ok ov)(h:Q (.ref it) s):wpAny (model prog w) A (pyIter (.ref it)) Q E s:=by
 have hT:s.TypeIs (.ref it) "dict_itemiterator":=⟨_,hit,rfl⟩;refine wpAny_pyIter_slot hT F.slot_dict_itemiterator_iter (wpAny_call_entry F.slot_dict_itemiterator_iter hT a2Q ?_ (F.args_dict_itemiterator_iter_1 _));show wpAny _ _ (ret (.ref it)) _ _ s;exact wP0 ⟨_,rfl,"dict_itemiterator",_,hT,F.slot_dict_itemiterator_next.lookup,h⟩
def Itm (a:Addr)(o:Obj)(kvs:List (Key×V)):It:=
 ⟨fun i H=>i<kvs.length/\H a=some (.frz o (.dK kvs)),fun i H x H'=>∃k v p,kvs[i]? =some (k,v)/\x=.ref p/\H p=none/\H'=upd H p (.tup [kV k,v]),fun i H=>kvs.length<=i/\H a=some (.frz o (.dK kvs))⟩
theorem a7M {P:Program}{w:World}{K:Fg0}{es:List Expr}{x1:Nat}{tp:Pos}(a it:Addr)(o:Obj)(kvs:List (Key×V)):a9S P w K (.Tuple es x1 tp) (Itm a o kvs) [it] it (fun i h=>∃ok ov,IsItemIter h it a i kvs.length (b2Z o) ok ov) where
 mem:=by simp
 obj:=fun i h st b hb=>by
  have e:b=it:=by simpa using hb
  subst e;obtain⟨ok,ov,st⟩:=st;exact⟨_,st,fun v z=>by cases z⟩
 keep:=fun i h h' st k=>by
  obtain⟨ok,ov,st⟩:=st;exact⟨ok,ov,k it (by simp) _ st⟩
 item:=by
  intro X hP hw hK hc i pins s σ H E I hf st hg;subst hP hw hK;obtain⟨hi,hq⟩:=hg;obtain⟨ok,ov,st⟩:=st;obtain⟨vs,kv,da,_⟩:=I.dictAt hq;have hl:=kv.len;obtain⟨u,hu,ru⟩:=a7A kv (show kvs[i]? =some (kvs[i].1,kvs[i].2) by simp[hi]);obtain⟨f0,f1,f2,f3,f4,f5⟩:=hf it (by simp);have hit:it<s.heap.objs.size:=hL0 st;rw[hl] at st;refine wpAny_pyNext_items_item st da hu fun key h' hkey st' ht hsz kp=>?_;refine⟨_,rfl,?_⟩;refine wpAny_letOwnedTupleGo_items (s:={ s with heap:=h' }) st' fun h'' st'' sb=>?_;rw[<-hl] at st'';have I0:Inv X pins σ H { s with heap:=s.heap.update it fun _=>{ cls:=.type "dict_itemiterator",dict:=none,data:=.fields #[.none,.bool false,.ref a,.int (i+1:Nat) 0,.int kvs.length 0,.int (b2Z o) 0,key,u],slots:=#[] } }:=
   I.turned (t':=s.toks) (fun b ob hb e=>by rw[Heap.get?_update_ne _ _ _ _ hb];exact e) f0 f1 f3 f4 f5
  have hp:H s.heap.objs.size=none:=I.hok.fresh (nR0 _);refine⟨.ref s.heap.objs.size,upd H s.heap.objs.size (.tup [kV kvs[i].1,kvs[i].2]),I0.laid (t':=s.toks) (h':=h'') (fun b ob e=>?_) (by rw[Heap.size_update];exact nR0 _) ?_,rfl,⟨_,_,_,by simp[hi],rfl,hp,rfl⟩,⟨key,u,st''⟩,fun b hb=>?_⟩
  ·by_cases hb:b=it
   ·subst hb
    rw[Heap.get?_update_self _ st rfl] at e;rw[<-e];exact st''
   ·rw[Heap.get?_update_ne _ _ _ _ hb] at e
    exact(sb.2 b hb).trans (kp b ob hb e)
  ·refine⟨(show 2<=sizeLine by decide),[key,u],.cons (a8f hkey) (.cons ru .nil),⟨_,(sb.2 _ (Nat.ne_of_gt hit)).trans ht,rfl,_,rfl⟩⟩
  ·have e:b=it:=by simpa using hb
   subst e;rw[a0g (nL0 hit)];exact f0
 done:=by
  intro X hP hw hK hc i pins s σ H E I hf st hg;subst hP hw hK;obtain⟨hi,hq⟩:=hg;obtain⟨ok,ov,st⟩:=st;obtain⟨vs,kv,da,_⟩:=I.dictAt hq;have hl:=kv.len;obtain⟨f0,f1,f2,f3,f4,f5⟩:=hf it (by simp);rw[hl] at st;exact wpAny_pyNext_items_end (I.ok.hd hc) st da (by simp;omega) fun h' eb=>⟨rfl,I.turned (t':=s.toks) (fun b o hb e=>eb b o hb e) f0 f1 f3 f4 f5⟩
 self:=fun A i s Q E st h=>by
  obtain⟨ok,ov,st⟩:=st;exact a4F st h
def b3G (tl:TE):TI:=fun σ H R=>tl σ H fun x H1=>∃a o kvs,x=.ref a/\H1 a=some (.frz o (.dK kvs))/\R (Itm a o kvs) H1
theorem a7C {es:List Expr}{x1:Nat}{tp:Pos}{l:Expr}{tl:TE}{apos cpos:Pos}(hl:PE X l tl)(hbase:attributeBase l "items" X.env (eval l X.env)=eval l X.env:=by rfl)(hline:(apos.endLine==cpos.line)=true:=by rfl) :
  PI X (.Tuple es x1 tp) (.Call (.Attribute l "items" apos) [] [] cpos) (b3G tl):=by
 intro pins s σ H R I h;refine wpAny_Call_method0_late hbase hline (thn (hl pins s σ H _ I h) fun v s1 ⟨x,H1,I1,r1,q1⟩=>?_);obtain⟨a,o,kvs,e,hq,q⟩:=q1;subst e;cases r1;obtain⟨vs,kv,da,hs⟩:=I1.dictAt hq;obtain⟨g,_⟩:=I1.hok a _ hq;have ex:o.ExactDict:=by
  obtain⟨o',es',g',x',_⟩:=id da;rw[g] at g';cases g';exact x'
 refine⟨"dict","dict.items",F.plainAttrs_dict,F.slot_dict_items,F.type_dict_items,da.dictOf.typeIs,(fun b e=>by cases e;exact⟨o,g,ex.2.1⟩),Calls.callWith_builtin rfl (PySem.evalArgs_none ?_)⟩;refine call_meetsIn F.slot_dict_items da.dictOf.typeIs F.entry_dict_items (F.args_dict_items_1 _) (meets_dict_items (a0z X.prog X.w) a hs) ⟨⟨vs,da.dictOf⟩,?_⟩;have I2:Inv X pins σ H1 { s1 with heap:=s1.heap.push { cls:=.type "dict_items",data:=.fields #[.ref a] } }:=I1.kept (t':=s1.toks) fun b o e=>hP0 _ e;refine wpAny_pyIter_items (s:={ s1 with heap:=s1.heap.push { cls:=.type "dict_items",data:=.fields #[.ref a] } }) (knd:=a0z X.prog X.w) (kvs:=vs) (ep:=b2Z o) ⟨_,hS0 _ rfl,rfl,rfl⟩ (da.push _) ?_;refine⟨_,[_],_,_,H1,rfl,I2.kept (t':=s1.toks) fun b o e=>hP0 _ e,a7M a _ o kvs,⟨.none,.none,by rw[kv.len];exact hS0 _ rfl⟩,fun b hb=>?_,q⟩;have e:=mS0.mp hb;subst e;exact I2.fpOk (nR0 _) (I2.hok.fresh (nR0 _))
theorem a5M {a:Addr}{o:Obj}{kvs:List (Key×V)}{g:TG}{tb:TS}{D:a5o}{σ:St}{H:Hp}(Pv:Nat->St->Hp->Prop)(h0:Pv 0 σ H)(hl:∀i σ H,i<=kvs.length->Pv i σ H->H a=some (.frz o (.dK kvs)))
  (hs:∀i k v p σ H,kvs[i]? =some (k,v)->Pv i σ H->H p=none->g (.ref p) σ (upd H p (.tup [kV k,v])) fun σ2 H2=>tb { D with nx:=Pv (i+1),ct:=Pv (i+1),bk:=D.nx } σ2 H2) (hd:∀σ H,Pv kvs.length σ H->D.nx σ H) :
  ∃W:Nat->Nat->St->Hp->Prop,(∃m,W 0 m σ H)/\∀i m σ H,W i m σ H →
   ((Itm a o kvs).stop i H/\D.nx σ H)\/((Itm a o kvs).go i H/\∃N:St->Hp->Prop,(∀σ' H',N σ' H'->∃m',m'<m/\W (i+1) m' σ' H')/\∀x H',(Itm a o kvs).yld i H x H'->g x σ H' fun σ2 H2=>tb { D with nx:=N,ct:=N,bk:=D.nx } σ2 H2):=by
 refine⟨fun i m σ H=>m=kvs.length-i/\i<=kvs.length/\Pv i σ H,⟨kvs.length,by simp,zL0 _,h0⟩,?_⟩;rintro i m σ H ⟨rfl,hi,p⟩;have q:=hl i σ H hi p
 by_cases hlt:i<kvs.length
 ·refine .inr ⟨⟨hlt,q⟩,Pv (i+1),fun σ' H' p'=>⟨kvs.length-(i+1),by omega,rfl,hlt,p'⟩,fun x H' y=>?_⟩
  obtain⟨k,v,pa,hk,ex,hn,e⟩:=y;subst e ex;exact hs i k v pa σ H hk p hn
 ·have e:i=kvs.length:=by omega
  subst e;exact .inl ⟨⟨nR0 _,q⟩,hd σ H p⟩
theorem a9y:MtR X "dict.clear" (fun x xs H Q=>∃a kvs,x=.ref a/\xs=[]/\H a=some (.dK kvs)/\Q .non (upd H a (.dK []))):=by
 intro pins s σ H x xs v us Q I rx r h;obtain⟨a,kvs,rfl,rfl,e,q⟩:=h;cases rx;cases r;exact b3e I e fun s' I'=>⟨.non,_,I',rfl,q⟩
theorem a5L:a1p X (.type "dict") (fun xs H Q=>∃a kvs,xs=[.ref a]/\Rd H a (.dK kvs)/\∀p,H p=none->Q (.ref p) (upd H p (.dK kvs))):=by
 intro pins s σ H xs us Q I r h;obtain⟨a,kvs,rfl,e,q⟩:=h;obtain⟨u,rfl,rx⟩:=a2T r;cases rx;exact b0I I e fun p s' hp I'=>⟨.ref p,_,I',rfl,q p hp⟩
end
theorem a1l.there {P:Program}{w:World}{H:Hp}{h:Heap}{a:Addr}{o:HO}(x:a1l P w H h a o):∃ob,h.get? a=some ob:=by
 cases o with
 |lst xs=>obtain⟨_,_,_,_,e⟩:=x;exact⟨_,e⟩
 |tup xs=>obtain⟨_,_,_,o,e,_⟩:=x;exact⟨_,e⟩
 |dK kvs=>obtain⟨_,_,_,_,o,_,_,e,_⟩:=x;exact⟨_,e⟩
 |dT kvs=>obtain⟨_,_,_,_,o,_,_,e,_⟩:=x;exact⟨_,e⟩
 |set S n=>obtain⟨o,_,_,_,e,_⟩:=x;exact⟨_,e⟩
 |ins C dx fs=>obtain⟨_,_,_,e,_⟩:=x;exact⟨_,e⟩
 |own y=>exact x
 |xd fs=>obtain⟨_,⟨_,_,_,e,_⟩,_⟩:=x;exact⟨_,e⟩
 |met f y=>exact⟨_,x⟩
 |rng lo hi=>obtain⟨_,_,_,e⟩:=x;exact⟨_,e⟩
 |frz ob u=>exact⟨_,x.1⟩
 |tbl ps=>exact⟨_,x⟩
 |ext φ=>exact x.2.1
section
variable {X:Cx}{pins:List (Addr×Obj)}{σ:St}{H:Hp}{s:Shared}{h':Heap}{a:Addr}{o:HO}
theorem Inv.none_at (I:Inv X pins σ H s)(hn:s.heap.get? a=none):H a=none:=by
 cases e:H a with
 |none=>rfl
 |some u=>
  obtain⟨ob,q⟩:=(I.hok a u e).there;rw[hn] at q;cases q
theorem Inv.laidAt {t':Nat}(I:Inv X pins σ H s)(k:∀b u,s.heap.get? b=some u->h'.get? b=some u)(hn:s.heap.get? a=none)(new:a1l X.prog X.w (upd H a o) h' a o):Inv X pins σ (upd H a o) { s with heap:=h',toks:=t' }:=by
 have hH:=I.none_at hn;have ne:∀b u,s.heap.get? b=some u->b≠a:=fun b u q z=>by subst z;rw[hn] at q;cases q
 refine I.un ⟨fun b u q _ _ _=>k b u q,fun b u q _ _ _=>⟨u.slots,k b u q⟩,fun b u q n _=>by rw[a0g (ne b u q)];exact n,fun b u q _=>⟨u,k b u q⟩,
  fun b xs q=>by rw[a0g (a0C q hH)];exact q,fun b u xs q=>by rw[a0g (a0C q hH)];exact q,fun b ps q=>⟨#[],by rw[a0g (a0C q hH),q];simp⟩⟩ fun b u q=>?_
 by_cases hb:b=a
 ·subst hb
  rw[a0b] at q;cases q;exact new
 ·rw[a0g hb] at q
  exact(I.hok b u q).stay (fun c v _ r=>k c v r) (fun c r=>by rw[a0g (a0C r hH)];exact r) fun c xs r=>by rw[a0g (a0C r hH)];exact r
end
theorem a6A:∀(us:List Value) (zs:List Str),us.length=zs.length->(∀(j:Nat) (v:Value) (z:Str),us[j]? =some v->zs[j]? =some z->∃t,v=Value.str z t)->StrsAre us zs
 |[],[],_,_=>.nil
 |[],_::_,h,_=>by simp at h
 |_::_,[],h,_=>by simp at h
 |u::us,z::zs,h,f=>by
  obtain⟨t,rfl⟩:=f 0 u z rfl rfl;exact .cons _ _ (a6A us zs (by simpa using h) fun j v y h1 h2=>f (j+1) v y (by simpa using h1) (by simpa using h2))
theorem a7d:∀{kvs:List (Key×V)} {vs:List (Key×Value)} {i:Nat} {q:Key×Value},KV kvs vs->vs[i]? =some q->(kvs.map (·.1))[i]? =some q.1
 |_,_,_,_,.nil,e=>by simp at e
 |_,_,0,_,.cons r _,e=>by
  simp at e;subst e;simp[r.1]
 |_,_,i+1,q,.cons _ t,e=>by
  have h:=a7d (i:=i) (q:=q) t (by simpa using e);simpa using h
section
variable {X:Cx}
theorem a3o (hc:X.calm=true):a1p X (.builtin "sorted") (fun xs H Q=>∃p kvs zs,xs=[.ref p]/\Rd H p (.dK kvs)/\kvs.map (·.1)=zs.map Sum.inr/\zs.length<64/\∀l ys,H l=none->ys.Perm zs->sortedS ys=true->Q (.ref l) (upd H l (.lst (ys.map V.str)))):=by
 intro pins s σ H xs us Q I r h;obtain⟨p,kvs,zs,rfl,hq,hz,h64,q⟩:=h;obtain⟨u,rfl,rx⟩:=a2T r;cases rx;obtain⟨hlen,lo,vs,kv,dd⟩:=hq.ok I.hok;obtain⟨ep,da⟩:=dd.dictAt;have hl:=kv.len;have hl2:kvs.length=zs.length:=by simpa using congrArg List.length hz
 refine Calls.call_function_entry kind_sorted plain_sorted entry_sorted (args_sorted1 _) ?_;unfold Builtin.«sorted»;refine wB0 (m:=checkCount "sorted" 1 1 _) (wP0 ?_);refine wB0 (PySem.W.kdu_collect (PySem.W.kdl_dict (knd:=a0z X.prog X.w) (kvs:=vs) (ep:=ep) lo) (I.ok.hd hc) da (by rw[<-hl];exact hlen) fun h' tk acc hk hacc=>?_);have hS:StrsAre acc.toList zs:=by
  refine a6A _ _ (by rw[aL0,hacc.1,<-hl,hl2]) fun j v z h1 h2=>?_;obtain⟨k,x,hx,hkv⟩:=hacc.2 j v (by rw[<-Array.getElem?_toList];exact h1);have hk':=a7d kv hx;rw[hz,gM0,h2] at hk';have e:Sum.inr z=k:=by simpa using hk'
  subst e;exact a8f hkv
 have hal:acc.toList.length=zs.length:=by
  rw[aL0,hacc.1,<-hl,hl2]
 refine wB0 (wpAny_newList ?_ (by rw[hal,<-hl2];exact hlen));have hoL:(h'.push (seqObj "list" acc.toList.toArray 0)).get? h'.objs.size=some (seqObj "list" acc.toList.toArray 0):=hS0 _ rfl;refine wB0 (wpAny_holding (wpAny_call_entry slot_list_sort ⟨_,hoL,rfl⟩ entry_list_sort (list_sort_treeK (s:={ s with heap:=h'.push (seqObj "list" acc.toList.toArray 0),toks:=tk }) strKind_oneLt hoL hS.keysOf (fun v₁ v₂ rest e=>keyKind_strs (by rw[<-e];exact hS)) (by rw[hal];exact h64) fun st' hp hs=>⟨_,rfl,?_⟩) (args_list_sort _)));obtain⟨ss',h1,h2,h3⟩:=sorted_out_str hS hp hs;obtain⟨e,he⟩:=sortedHeap_at (out:=(arrOf st').map (·.2)) hoL;have hn:s.heap.get? h'.objs.size=none:=by
  cases q:s.heap.get? h'.objs.size with
  |none=>rfl
  |some ob=>exact absurd (hL0 (hk _ _ q)) (Nat.lt_irrefl _)
 refine wP0 ⟨_,rfl,.ref h'.objs.size,_,I.laidAt (t':=tk) (o:=.lst (ss'.map V.str)) (fun b ob q=>?_) hn ?_,rfl,q _ ss' (I.none_at hn) h2 h3⟩
 ·have q':=hk b ob q
  have hlt:=hL0 q';rw[sortedHeap_old (nL0 hlt) (by rw[size_push'];exact Nat.lt_succ_of_lt hlt)];exact hP0 _ q'
 ·exact⟨by rw[lM0,h2.length_eq,<-hl2];exact hlen,_,e,a3I h1,he⟩
def b5U (z:Str):Value->Bool
 | .str a _=>a==z
 |_=>false
theorem a7D {z:Str}:∀{us:List Value} {zs:List Str},StrsAre us zs->us.countP (b5U z)=zs.count z
 |_,_,.nil=>rfl
 |_,_,.cons y t r=>by
  rw[List.countP_cons,a7D r,List.count_cons]
  rfl
theorem b1e:MtR X "list.count" (fun x xs H Q=>∃(p:Addr) (zs:List Str) (z:Str),x=.ref p/\xs=[.str z]/\SqL X.K H p (zs.map V.str)/\Q (.int (zs.count z:Nat)) H):=by
 intro pins s σ H x xs v us Q I rx r h;obtain⟨p,zs,z,rfl,rfl,hq,q⟩:=h;cases rx;obtain⟨u,rfl,t,rfl⟩:=a2T r;obtain⟨its,r',pl,hz⟩:=I.list hq;have hS:=a9j r';obtain⟨⟨c,dd,dt,sl⟩,e,hc,n,hd⟩:=pl.isList;simp only at hc hd;subst hc hd;refine call_meets F.slot_list_count ⟨_,e,rfl⟩ F.entry_list_count (F.args_list_count_2 _ _) (SeqAt.list_countAt p its.toArray n dd sl (.str z t) (b5U z)) ⟨e,fun y hy=>?_,?_⟩
 ·obtain⟨a,ta,rfl⟩:=hS.all y (by simpa using hy)
  exact SeqAt.EqAt.str_str a ta z t
 ·refine⟨.int (zs.count z:Nat),H,I.tok _,⟨s.toks,?_⟩,q⟩
  show Value.int (its.toArray.toList.countP (b5U z):Nat) s.toks=Value.int (zs.count z:Nat) s.toks;rw[List.toList_toArray,a7D hS]
theorem a4T:∀{us:List Value} {zs:List Str} {j:Nat},StrsAre us zs->(h:j<us.length)->∃a t,us[j]=.str a t/\zs[j]? =some a
 |_,_,_,.nil,h=>by simp at h
 |_,_,0,.cons y t _,_=>⟨y,t,rfl,rfl⟩
 |_,_,j+1,.cons y t r,h=>by
  obtain⟨a,t',h1,h2⟩:=a4T (j:=j) r (by simpa using h);exact⟨a,t',by simpa using h1,by simpa using h2⟩
end
end L2
namespace Srt
open PySem PySem.W PyProof.Rows
structure Ord (N:Nat) (r:Nat->Nat->Bool):Prop where
 asym:∀a b,a<N->b<N->r a b=true->r b a=false
 trans:∀a b c,a<N->b<N->c<N->r b a=false->r c b=false->r c a=false
 dist:∀a b,a<N->b<N->a≠b->r a b=true\/r b a=true
def Cmp (N:Nat)(r:Nat->Nat->Bool)(cmp:Nat->Nat->(Bool->Shared->Prop)->Shared->Prop)(P:Shared->Prop):Prop:=
 ∀(i j:Nat) (C:Bool->Shared->Prop) (s:Shared),i<N->j<N->i≠j->P s->(∀s',P s'->C (r i j) s')->cmp i j C s
def PN (N:Nat)(p:Array Nat):Prop:=p.toList.Perm (List.range N)
def Up (r:Nat->Nat->Bool)(p:Array Nat)(k:Nat):Prop:=∀i j,i<=j->j<k->r (p.getD j 0) (p.getD i 0)=false
def Dn (r:Nat->Nat->Bool)(p:Array Nat)(k:Nat):Prop:=∀i j,i<=j->j<k->r (p.getD i 0) (p.getD j 0)=false
section
variable {N:Nat}{r:Nat->Nat->Bool}{cmp:Nat->Nat->(Bool->Shared->Prop)->Shared->Prop}{P:Shared->Prop}{p:Array Nat}
theorem Ord.refl (O:Ord N r){a:Nat}(h:a<N):r a a=false:=by
 cases e:r a a with
 |false=>rfl
 |true=>exact(O.asym a a h h e).symm.trans e |>.symm
theorem PN.size (h:PN N p):p.size=N:=by
 have:=h.length_eq
 simpa using this
theorem a2s {i:Nat}(hi:i<p.size):p.getD i 0=p[i]:=by simp[Array.getD,hi]
theorem PN.lt (h:PN N p){i:Nat}(hi:i<N):p.getD i 0<N:=by
 have hs:=h.size;rw[a2s (by omega)]
 have:p[i]'(by omega)∈p.toList:=by simp
 exact List.mem_range.mp (h.mem_iff.mp this)
theorem PN.inj (h:PN N p){i j:Nat}(hi:i<N)(hj:j<N)(e:p.getD i 0=p.getD j 0):i=j:=by
 have hs:=h.size;rw[a2s (by omega),a2s (by omega)] at e;have nd:p.toList.Nodup:=h.nodup_iff.mpr List.nodup_range;rcases Nat.lt_trichotomy i j with h1 |h1 |h1
 ·exact absurd (show p.toList[i]'(by simp;omega)=p.toList[j]'(by simp;omega) by rw[Array.getElem_toList,Array.getElem_toList];exact e) (List.pairwise_iff_getElem.mp nd i j (by simp;omega) (by simp;omega) h1)
 ·exact h1
 ·exact absurd (show p.toList[j]'(by simp;omega)=p.toList[i]'(by simp;omega) by rw[Array.getElem_toList,Array.getElem_toList];exact e.symm) (List.pairwise_iff_getElem.mp nd j i (by simp;omega) (by simp;omega) h1)
theorem asc (O:Ord N r)(hc:Cmp N r cmp P)(hp:PN N p):∀(f n:Nat) (s:Shared) (Q:Nat->Shared->Prop),1<=n->n+f<=N->Up r p n->P s →
  (∀m s',n<=m->m<=n+f->(m=n+f\/r (p.getD m 0) (p.getD (m-1) 0)=true)->Up r p m->P s'->Q m s')->(kas_asc p f n).kasWp cmp Q s
 |0,n,s,Q,h1,hn,hu,hP,hq=>hq n s (nR0 _) (nR0 _) (.inl rfl) hu hP
 |f+1,n,s,Q,h1,hn,hu,hP,hq=>by
  show cmp _ _ _ s;refine hc _ _ _ s (hp.lt (by omega)) (hp.lt (by omega)) (fun z=>by have:=hp.inj (by omega) (by omega) z;omega) hP fun s' hs'=>?_;cases e:r (p.getD n 0) (p.getD (n-1) 0) with
  |true=>
   dsimp only
   rw[if_pos rfl];exact hq n s' (nR0 _) (by omega) (.inr e) hu hs'
  |false=>
   dsimp only
   rw[if_neg (by decide)];refine asc O hc hp f (n+1) s' Q (by omega) (by omega) (fun i j hij hj=>?_) hs' fun m s'' h2 h3 h4 h5 h6=>hq m s'' (by omega) (by omega) (h4.imp (fun z=>by omega) id) h5 h6
   by_cases hjn:j<n
   ·exact hu i j hij hjn
   ·have ej:j=n:=by omega
    subst ej
    by_cases hi:i=j
    ·subst hi
     exact O.refl (hp.lt (by omega))
    ·exact O.trans _ _ _ (hp.lt (by omega)) (hp.lt (by omega)) (hp.lt (by omega)) (hu i (j-1) (by omega) (by omega)) e
theorem b6i (O:Ord N r)(hc:Cmp N r cmp P)(hp:PN N p):∀(f n:Nat) (s:Shared) (Q:Array Nat×Nat×Nat->Shared->Prop),1<=n->n+f<=N->Dn r p n->P s →
  (∀m s',n<=m->m<=n+f->Dn r p m->P s'->Q (p,m,0) s')->(kas_desc f p n 0).kasWp cmp Q s
 |0,n,s,Q,h1,hn,hu,hP,hq=>hq n s (nR0 _) (nR0 _) hu hP
 |f+1,n,s,Q,h1,hn,hu,hP,hq=>by
  show cmp _ _ _ s;refine hc _ _ _ s (hp.lt (by omega)) (hp.lt (by omega)) (fun z=>by have:=hp.inj (by omega) (by omega) z;omega) hP fun s' hs'=>?_;cases e:r (p.getD n 0) (p.getD (n-1) 0) with
  |true=>
   dsimp only
   rw[if_pos rfl,if_neg (by omega)];refine b6i O hc hp f (n+1) s' Q (by omega) (by omega) (fun i j hij hj=>?_) hs' fun m s'' h2 h3 h5 h6=>hq m s'' (by omega) (by omega) h5 h6
   by_cases hjn:j<n
   ·exact hu i j hij hjn
   ·have ej:j=n:=by omega
    subst ej
    by_cases hi:i=j
    ·subst hi
     exact O.refl (hp.lt (by omega))
    ·exact O.trans _ _ _ (hp.lt (by omega)) (hp.lt (by omega)) (hp.lt (by omega)) (O.asym _ _ (hp.lt (by omega)) (hp.lt (by omega)) e) (hu i (j-1) (by omega) (by omega))
  |false=>
   dsimp only
   rw[if_neg (by decide)];show cmp _ _ _ s';refine hc _ _ _ s' (hp.lt (by omega)) (hp.lt (by omega)) (fun z=>by have:=hp.inj (by omega) (by omega) z;omega) hs' fun s'' hs''=>?_;have hd:r (p.getD (n-1) 0) (p.getD n 0)=true:=by
    rcases O.dist _ _ (hp.lt (i:=n-1) (by omega)) (hp.lt (i:=n) (by omega)) (fun z=>by have:=hp.inj (by omega) (by omega) z;omega) with h |h
    ·exact h
    ·rw[e] at h;cases h
   dsimp only
   rw[hd,if_pos rfl];exact hq n s'' (nR0 _) (by omega) hu hs''
theorem b1r {i j:Nat}(hj:j<=p.size)(k:Nat):(kas_rev p i j).getD k 0=if i<=k/\k<j then p.getD (i+j-1-k) 0 else p.getD k 0:=by
 have h:=getElem?_mirror_all (xs:=p) (i:=i) (j:=j) hj k;unfold kas_rev;rw[Array.getD_eq_getD_getElem?,h]
 split<;>rw[Array.getD_eq_getD_getElem?]
theorem b1N {i j:Nat}(h:PN N p):PN N (kas_rev p i j):=(Array.perm_iff_toList_perm.mp (mirror_perm p i j _)).trans h
theorem b5D (O:Ord N r)(hc:Cmp N r cmp P)(hp:PN N p){n:Nat}{s:Shared}{Q:Nat×Array Nat->Shared->Prop}(h1:1<=n)(hn:n<=N)(hd:Dn r p n)(hP:P s)
  (hq:∀m p' s',n<=m->m<=N->PN N p'->Up r p' m->P s'->Q (m,p') s'):(kas_tail3 n N p).kasWp cmp Q s:=by
 unfold kas_tail3;rw[KasT.kasWp_bind];have hs:=hp.size;refine asc O hc (b1N hp) (N-n) n s _ h1 (by omega) (fun i j hij hj=>?_) hP fun m s' h2 h3 _ h5 h6=>hq m _ s' h2 (by omega) (b1N hp) h5 h6;rw[b1r (by omega),b1r (by omega),if_pos (by omega),if_pos (by omega)];exact hd _ _ (by omega) (by omega)
theorem b5k (O:Ord N r)(hc:Cmp N r cmp P)(hp:PN N p){s:Shared}{Q:Nat×Array Nat->Shared->Prop}(h1:1<=N)(hP:P s)
  (hq:∀m p' s',1<=m->m<=N->PN N p'->Up r p' m->P s'->Q (m,p') s'):(kas_count N p).kasWp cmp Q s:=by
 unfold kas_count;rw[KasT.kasWp_bind];refine asc O hc hp (N-1) 1 s _ (nR0 _) (by omega) (fun i j hij hj=>?_) hP fun m s' h2 h3 h4 h5 h6=>?_
 ·have ei:i=0:=by omega
  have ej:j=0:=by omega
  subst ei ej;exact O.refl (hp.lt (by omega))
 ·by_cases hm:m=N
  ·rw[if_pos (by rw[hm];exact beq_self_eq_true N)]
   exact hq m p s' h2 (by omega) hp h5 h6
  ·rw[if_neg (by rw[beq_iff_eq];exact hm)]
   have hr:r (p.getD m 0) (p.getD (m-1) 0)=true:=h4.resolve_left (by omega)
   by_cases hm1:m > 1
   ·rw[if_pos hm1]
    show cmp _ _ _ s';refine hc _ _ _ s' (hp.lt (by omega)) (hp.lt (by omega)) (fun z=>by have:=hp.inj (by omega) (by omega) z;omega) h6 fun s'' hs''=>?_;have hd:r (p.getD 0 0) (p.getD (m-1) 0)=true:=by
     rcases O.dist _ _ (hp.lt (i:=0) (by omega)) (hp.lt (i:=m-1) (by omega)) (fun z=>by have:=hp.inj (by omega) (by omega) z;omega) with h |h
     ·exact h
     ·rw[h5 0 (m-1) (by omega) (by omega)] at h;cases h
    dsimp only
    rw[hd,if_pos rfl];exact hq m p s'' h2 (by omega) hp h5 hs''
   ·rw[if_neg hm1]
    have em:m=1:=by omega
    subst em;unfold kas_descPart;rw[KasT.kasWp_bind];refine b6i O hc hp (N-(1+1)) (1+1) s' _ (by omega) (by omega) (fun i j hij hj=>?_) h6 fun m s'' g2 g3 g5 g6=>?_
    ·by_cases hi:i=j
     ·subst hi
      exact O.refl (hp.lt (by omega))
     ·have ei:i=0:=by omega
      have ej:j=1:=by omega
      subst ei ej;exact O.asym _ _ (hp.lt (by omega)) (hp.lt (by omega)) hr
    ·rw[if_neg (by show ¬(0 > 0);omega)]
     exact b5D O hc hp (by show 1<=m;omega) (by show m<=N;omega) g5 g6 fun m' p' s3 a1 a2 a3 a4 a5=>hq m' p' s3 (by have:m<=m':=a1;omega) a2 a3 a4 a5
theorem b2P (O:Ord N r)(hc:Cmp N r cmp P)(hp:PN N p){k:Nat}(hk:k<N)(hu:Up r p k):∀(f l q:Nat) (s:Shared) (Q:Nat->Shared->Prop),l<=q->q<=k->q-l<=f->(∀i,i<l->r (p.getD k 0) (p.getD i 0)=false) →
  (∀i,q<=i->i<k->r (p.getD k 0) (p.getD i 0)=true)->P s →
  (∀m s',m<=k->(∀i,i<m->r (p.getD k 0) (p.getD i 0)=false)->(∀i,m<=i->i<k->r (p.getD k 0) (p.getD i 0)=true)->P s'->Q m s')->(kas_place p k f l q).kasWp cmp Q s
 |0,l,q,s,Q,hl,hq,hf,lo,hi,hP,h=>h l s (by omega) lo (fun i h1 h2=>hi i (by omega) h2) hP
 |f+1,l,q,s,Q,hl,hq,hf,lo,hi,hP,h=>by
  unfold kas_place
  by_cases e:l≥q
  ·rw[if_pos e]
   exact h l s (by omega) lo (fun i h1 h2=>hi i (by omega) h2) hP
  ·rw[if_neg e]
   show cmp _ _ _ s;have hm:(l+q)/2<q:=by omega
   have hm2:l<=(l+q)/2:=by omega
   refine hc _ _ _ s (hp.lt (by omega)) (hp.lt (by omega)) (fun z=>by have:=hp.inj (by omega) (by omega) z;omega) hP fun s' hs'=>?_;cases c:r (p.getD k 0) (p.getD ((l+q)/2) 0) with
   |true=>
    dsimp only
    rw[if_pos rfl];refine b2P O hc hp hk hu f l ((l+q)/2) s' Q (by omega) (by omega) (by omega) lo (fun i h1 h2=>?_) hs' h;cases d:r (p.getD k 0) (p.getD i 0) with
    |true=>rfl
    |false=>
     have:=O.trans _ _ _ (hp.lt (i:=(l+q)/2) (by omega)) (hp.lt (i:=i) (by omega)) (hp.lt (i:=k) (by omega)) (hu _ i h1 h2) d
     rw[this] at c;cases c
   |false=>
    dsimp only
    rw[if_neg (by decide)];refine b2P O hc hp hk hu f ((l+q)/2+1) q s' Q (by omega) (by omega) (by omega) (fun i h1=>?_) hi hs' h;exact O.trans _ _ _ (hp.lt (by omega)) (hp.lt (by omega)) (hp.lt (by omega)) (hu i ((l+q)/2) (by omega) (by omega)) c
theorem b1w {src d:Nat}(hs:src<p.size)(hd:d<=src)(k:Nat):(bubble p src d).getD k 0=if k=src-d then p.getD src 0 else if src-d<k/\k<=src then p.getD (k-1) 0 else p.getD k 0:=by
 have h:=getElem?_bubble hs d hd k;rw[Array.getD_eq_getD_getElem?,h,Array.getD_eq_getD_getElem?,Array.getD_eq_getD_getElem?,Array.getD_eq_getD_getElem?]
 by_cases e1:k=src-d
 ·rw[if_pos e1,if_pos e1]
 ·rw[if_neg e1,if_neg e1]
  by_cases e2:src-d<k/\k<=src
  ·rw[if_pos e2,if_pos e2]
  ·rw[if_neg e2,if_neg e2]
theorem bin (O:Ord N r)(hc:Cmp N r cmp P):∀(f:Nat) (p:Array Nat) (k:Nat) (s:Shared) (Q:Array Nat->Shared->Prop),PN N p->k+f=N->Up r p k->P s →
  (∀p' s',PN N p'->Up r p' N->P s'->Q p' s')->(kas_bin f p k).kasWp cmp Q s
 |0,p,k,s,Q,hp,hk,hu,hP,h=>h p s hp ((show k=N from hk)▸hu) hP
 |f+1,p,k,s,Q,hp,hk,hu,hP,h=>by
  unfold kas_bin;rw[KasT.kasWp_bind];have hs:=hp.size;refine b2P O hc hp (k:=k) (by omega) hu k 0 k s _ (zL0 _) (nR0 _) (by omega) (fun i hi=>absurd hi (Nat.not_lt_zero _)) (fun i h1 h2=>absurd h2 (by omega)) hP fun m s' h1 lo hi hs'=>?_;refine bin O hc f _ (k+1) s' Q ((Array.perm_iff_toList_perm.mp (bubble_perm p k _)).trans hp) (by omega) (fun i j hij hj=>?_) hs' h;rw[b1w (by omega) (by omega),b1w (by omega) (by omega)];have e:k-(k-m)=m:=by omega
  rw[e];have hi':∀i,m<=i->i<k->r (p.getD i 0) (p.getD k 0)=false:=fun i a b=>O.asym _ _ (hp.lt (by omega)) (hp.lt (by omega)) (hi i a b)
  by_cases ej:j=m
  ·rw[if_pos ej]
   by_cases ei:i=m
   ·rw[if_pos ei]
    exact O.refl (hp.lt (by omega))
   ·rw[if_neg ei,if_neg (by omega)]
    exact lo i (by omega)
  ·rw[if_neg ej]
   by_cases ei:i=m
   ·rw[if_pos ei,if_pos (by omega)]
    exact hi' (j-1) (by omega) (by omega)
   ·rw[if_neg ei]
    by_cases bj:m<j/\j<=k
    ·rw[if_pos bj]
     by_cases bi:m<i/\i<=k
     ·rw[if_pos bi]
      exact hu _ _ (by omega) (by omega)
     ·rw[if_neg bi]
      exact hu _ _ (by omega) (by omega)
    ·rw[if_neg bj,if_neg (by omega)]
     exact hu _ _ hij (by omega)
theorem sort (O:Ord N r)(hc:Cmp N r cmp P){s:Shared}{Q:Array Nat->Shared->Prop}(h1:1<=N)(hP:P s)(h:∀p' s',PN N p'->Up r p' N->P s'->Q p' s'):(kas_sort N).kasWp cmp Q s:=by
 unfold kas_sort;rw[KasT.kasWp_bind];refine b5k O hc (by unfold PN;simp) h1 hP fun m p' s' a1 a2 a3 a4 a5=>?_
 show(if m<N then kas_bin (N-max m 1) p' (max m 1) else .ret p').kasWp cmp Q s'
 have em:max m 1=m:=by omega
 rw[em]
 by_cases hm:m<N
 ·rw[if_pos hm]
  exact bin O hc _ p' m s' Q a3 (by omega) a4 a5 h
 ·rw[if_neg hm]
  have:m=N:=by omega
  subst this;exact h p' s' a3 a4 a5
end
def TA1 (h:Heap)(vs:List Value)(zs:List Str):Prop:=vs.length=zs.length/\∀(i:Nat) (z:Str),zs[i]? =some z->∃a o t rest n,vs[i]? =some (.ref a)/\h.get? a=some o/\o.cls=.type "tuple"/\o.data=.seq (Value.str z t::rest).toArray n
def rz (zs:List Str)(i j:Nat):Bool:=decide ((zs.getD i "").cps.toList<(zs.getD j "").cps.toList)
theorem b2C {a b:Str}(h:a.cps.toList=b.cps.toList):a=b:=by
 cases a;cases b;simp at h;rw[h]
theorem b3k {zs:List Str}(nd:zs.Nodup):Ord zs.length (rz zs) where
 asym:=fun a b _ _ h=>by
  unfold rz at h ⊢;rw[decide_eq_true_iff] at h;rw[decide_eq_false_iff_not];exact List.lt_asymm h
 trans:=fun a b c _ _ _ h1 h2=>by
  unfold rz at h1 h2 ⊢;rw[decide_eq_false_iff_not] at h1 h2 ⊢;rw[List.not_lt] at h1 h2 ⊢;exact List.le_trans h1 h2
 dist:=fun a b ha hb n=>by
  unfold rz;rw[decide_eq_true_iff,decide_eq_true_iff];apply Classical.byContradiction;intro h;rw[not_or,List.not_lt,List.not_lt] at h;have e:=b2C (List.le_antisymm h.2 h.1);simp only[List.getD_eq_getElem?_getD,gE0 ha,gE0 hb,Option.getD_some] at e;rcases Nat.lt_trichotomy a b with q |q |q
  ·exact List.pairwise_iff_getElem.mp nd a b ha hb q e
  ·exact n q
  ·exact List.pairwise_iff_getElem.mp nd b a hb ha q e.symm
theorem TA1.keep {h h':Heap}{vs:List Value}{zs:List Str}(t:TA1 h vs zs)(k:∀b o,o.cls=.type "tuple"->h.get? b=some o->h'.get? b=some o):TA1 h' vs zs:=
 ⟨t.1,fun i z e=>by
  obtain⟨a,o,tk,rest,n,h1,h2,h3,h4⟩:=t.2 i z e;exact⟨a,o,tk,rest,n,h1,k a o h3 h2,h3,h4⟩⟩
theorem TA1.kat {h:Heap}:∀{vs:List Value} {zs:List Str},TA1 h vs zs->∃fs,KatTups h vs fs/\fs.length=zs.length/\∀v∈fs,∃z t,v=Value.str z t
 |[],[],_=>⟨[],KatTups.nil,rfl,fun v hv=>by simp at hv⟩
 |[],_::_,t=>by have:=t.1;simp at this
 |_::_,[],t=>by have:=t.1;simp at this
 |v::vs,z::zs,t=>by
  obtain⟨a,o,tk,rest,n,h1,h2,h3,h4⟩:=t.2 0 z rfl;have ev:v=.ref a:=by simpa using h1
  subst ev;obtain⟨fs,k,hl,hs⟩:=TA1.kat (vs:=vs) (zs:=zs) ⟨by have:=t.1;simpa using this,fun i y e=>by
   obtain⟨a,o,tk,rest,n,g1,g2⟩:=t.2 (i+1) y (by simpa using e);exact⟨a,o,tk,rest,n,by simpa using g1,g2⟩⟩
  refine⟨.str z tk::fs,KatTups.cons h2 h3 h4 (by simp) k,by simp[hl],fun w hw=>?_⟩;rcases mK0.mp hw with e |hw
  ·exact⟨z,tk,e⟩
  ·exact hs w hw
section
variable {prog:Program}{w:World}{A:Around}{E:Vs0}{s:Shared}
theorem b5u {vs:List Value}{zs:List Str}{s1:Shared}(t:TA1 s1.heap vs zs)(nd:zs.Nodup):Cmp zs.length (rz zs) (kas_ask prog w A (tuples' true) vs) (fun s'=>s'=s1):=by
 intro i j C s' hi hj hij hs' hC;subst hs';obtain⟨a,o,tk,rest,n,h1,h2,h3,h4⟩:=t.2 i zs[i] (by simp[hi]);obtain⟨b,o',tk',rest',n',g1,g2,g3,g4⟩:=t.2 j zs[j] (by simp[hj]);unfold kas_ask;have e1:vs.getD i Value.none=.ref a:=by rw[List.getD_eq_getElem?_getD,h1];rfl
 have e2:vs.getD j Value.none=.ref b:=by rw[List.getD_eq_getElem?_getD,g1];rfl
 rw[e1,e2];refine kat_lt h2 h4 g2 g4 ?_;have ez:(Value.str zs[i] tk::rest).toArray.toList.zip (Value.str zs[j] tk'::rest').toArray.toList=(Value.str zs[i] tk,Value.str zs[j] tk')::rest.zip rest':=by simp
 rw[ez];refine kat_cons (wpAny_eqBool_str ?_);have en:decide (zs[i]=zs[j])=false:=by
  rw[decide_eq_false_iff_not];intro e;rcases Nat.lt_trichotomy i j with q |q |q
  ·exact List.pairwise_iff_getElem.mp nd i j hi hj q e
  ·exact hij q
  ·exact List.pairwise_iff_getElem.mp nd j i hj hi q e.symm
 rw[en];refine kat_no (oneLt_str ?_);have er:rz zs i j=decide (zs[i].cps.toList<zs[j].cps.toList):=by
  unfold rz;simp only[List.getD_eq_getElem?_getD,gE0 hi,gE0 hj,Option.getD_some]
 rw[<-er];exact hC s' rfl
theorem a5f {a:Addr}{vs:List Value}{zs:List Str}{n:Nat}{P:PySem.Fin->Shared->Prop}(ho:s.heap.get? a=some (seqObj "list" vs.toArray n))(t:TA1 s.heap vs zs)(nd:zs.Nodup)(h64:vs.length<64)
  (h:∀(p:Array Nat),PN vs.length p->Up (rz zs) p vs.length->P (.done (.ret .none)) { s with heap:=sortedHeap s.heap a vs (List.toArray (p.toList.map fun i=>vs.getD i Value.none)) }) :
  wpAny (model prog w) A (Builtin.«list.sort» ⟨[.ref a],[]⟩) P E s:=by
 rw[list_sort_plain];have ha:a<s.heap.objs.size:=hL0 ho;refine wB0 (listItems_at ho rfl ?_);refine wB0 (listUpdate_at ho rfl ?_ (by rw[List.size_toArray,sizeLine_eq];omega) (zL0 _));obtain⟨e1,ho1⟩:∃e1,(s.heap.update a (Obj.mapSeq fun _=>(#[]:Array Value))).get? a=some (seqObj "list" #[] e1):=⟨_,get?_update_seq ho (fun _=>#[])⟩;refine wB0 (seqEpoch_at ho1 rfl ?_);refine wB0 (wpAny_newTuple ?_ (by show vs.length<=_;rw[sizeLine_eq];omega));refine wB0 (wpAny_newList ?_ (zL0 _));refine wpAny_holding ?_;have ho6:(((s.heap.update a (Obj.mapSeq fun _=>(#[]:Array Value))).push (seqObj "tuple" vs.toArray 0)).push (seqObj "list" #[] 0)).get? a=some (seqObj "list" #[] e1):=by
  rw[Heap.get?_push_ne _ _ _ (by rw[size_push',Heap.size_update];exact nL0 (Nat.lt_succ_of_lt ha)),Heap.get?_push_ne _ _ _ (by rw[Heap.size_update];exact nL0 ha)];exact ho1
 have tk:TA1 (((s.heap.update a (Obj.mapSeq fun _=>(#[]:Array Value))).push (seqObj "tuple" vs.toArray 0)).push (seqObj "list" #[] 0)) vs zs:=t.keep fun b o hc e=>by
  have nb:b≠a:=fun z=>by
   rw[z,ho] at e;have e':=Option.some.inj e;rw[<-e'] at hc;exact absurd (show Value.type "list"=Value.type "tuple" from hc) (by decide)
  exact hP0 _ (hP0 _ ((Heap.get?_update_ne _ _ _ _ nb).trans e))
 show wpAny (model prog w) A _ P E { s with heap:=((s.heap.update a (Obj.mapSeq fun _=>(#[]:Array Value))).push (seqObj "tuple" vs.toArray 0)).push (seqObj "list" #[] 0) }
 dsimp only
 have hsz:vs.toArray.size=vs.length:=by simp
 by_cases h2:vs.toArray.size<2
 ·rw[if_pos h2,if_pos h2]
  refine wB0 (wP0 ?_);rw[StateT.run_pure];refine wB0 (wP0 ?_)
  dsimp only
  have hout:=kat_snds (vs:=vs) (ks:=vs) rfl (st:=SortSt.mk' general' (vs.toArray.zip vs.toArray) #[] 7 none) (p:=List.toArray (List.range vs.length)) (by
   have e:=kas_range (vs.toArray.zip vs.toArray);rw[show(vs.toArray.zip vs.toArray).size=vs.length by simp] at e;exact e.symm)
  rw[hout];refine wB0 (seqEpoch_at ho6 rfl ?_);refine wB0 (listUpdate_at ho6 rfl ?_ (zL0 _) (by rw[List.size_toArray,lM0,List.length_range,sizeLine_eq];omega));simp only[bne_self_eq_false,Bool.false_eq_true,if_false];refine wP0 (h (List.toArray (List.range vs.length)) (by unfold PN;simp) fun i j hij hj=>?_);have ei:i=0:=by omega
  have ej:j=0:=by omega
  subst ei ej;unfold rz;rw[decide_eq_false_iff_not];exact List.lt_irrefl _
 ·have hn2:2<=vs.length:=by omega
  rw[if_neg h2,if_neg h2];obtain⟨fs,kt,hl,hs⟩:=tk.kat;refine wB0 (kat_kind (T:=.type "str") kt (by have:=t.1;omega) (fun v hv=>?_) rfl ?_)
  ·obtain⟨z,u,rfl⟩:=hs v hv
   exact PySem.W.Looks.of_pure rfl
  ·refine wB0 (wpAny_mono (kat_run (prog:=prog) (w:=w) (A:=A) (E:=E) (κ:=tuples' true) (ks:=vs) (vs:=vs) (s:={ s with heap:=((s.heap.update a (Obj.mapSeq fun _=>(#[]:Array Value))).push (seqObj "tuple" vs.toArray 0)).push (seqObj "list" #[] 0) })
    (Q:=fun st' s'=>∃p:Array Nat,p.size=vs.length/\arrOf st'=p.map (kas_item (vs.toArray.zip vs.toArray))/\failedOf st'=none/\PN vs.length p/\Up (rz zs) p vs.length/\s'={ s with heap:=((s.heap.update a (Obj.mapSeq fun _=>(#[]:Array Value))).push (seqObj "tuple" vs.toArray 0)).push (seqObj "list" #[] 0) })
    (G:=fun p s'=>PN vs.length p/\Up (rz zs) p vs.length/\s'={ s with heap:=((s.heap.update a (Obj.mapSeq fun _=>(#[]:Array Value))).push (seqObj "tuple" vs.toArray 0)).push (seqObj "list" #[] 0) })
    rfl hn2 h64 (fun p' st' s' a1 a2 a3 a4=>⟨p',a1,a2,a3,a4⟩) ?_) ?_ fun _ _ e=>e)
   ·have el:=t.1
    rw[el];exact sort (b3k nd) (b5u (s1:={ s with heap:=((s.heap.update a (Obj.mapSeq fun _=>(#[]:Array Value))).push (seqObj "tuple" vs.toArray 0)).push (seqObj "list" #[] 0) }) tk nd) (by omega) rfl fun p' s' b1 b2 b3=>⟨b1,b2,b3⟩
   ·rintro⟨⟨⟩,st'⟩ s' ⟨p,hp,har,hf,pn,up,rfl⟩
    dsimp only
    have hout:=kat_snds (vs:=vs) (ks:=vs) rfl har;rw[hout];refine wB0 (seqEpoch_at ho6 rfl ?_);refine wB0 (listUpdate_at ho6 rfl ?_ (zL0 _) (by rw[List.size_toArray,lM0,aL0,hp,sizeLine_eq];omega));rw[hf];simp only[bne_self_eq_false,Bool.false_eq_true,if_false];exact wP0 (h p pn up)
end
end Srt
namespace L2
open PySem PySem.Spec PyProof.Rows
theorem a8K {α:Type}(d:α)(l:List α){q:List Nat}(h:q.Perm (List.range l.length)):(q.map fun i=>l.getD i d).Perm l:=by
 have h1:=h.map fun i=>l.getD i d;have e:(List.range l.length).map (fun i=>l.getD i d)=l:=by
  apply List.ext_getElem
  ·simp
  ·intro i a b
   rw[List.getElem_map,List.getElem_range,List.getD_eq_getElem?_getD,gE0 b,Option.getD_some]
 rw[e] at h1;exact h1
theorem a5l {xs:List V}{us:List Value}(r:a1c xs us):∀(q:List Nat),(∀i∈q,i<xs.length)->a1c (q.map fun i=>xs.getD i .non) (q.map fun i=>us.getD i Value.none)
 |[],_=>.nil
 |i::q,h=>by
  refine .cons ?_ (a5l r q fun j hj=>h j (mL0 _ hj));have hi:=h i List.mem_cons_self;have hu:i<us.length:=by rw[<-r.length];exact hi
  obtain⟨u,e,ru⟩:=r.get (i:=i) (x:=xs[i]) (by simp[hi]);simp only[List.getD_eq_getElem?_getD,gE0 hi,e,Option.getD_some];exact ru
def a6L (zs:List Str):Prop:=zs.Pairwise fun a b=>¬b.cps.toList<a.cps.toList
end L2
namespace L2
open PySem PySem.Spec PyProof.Rows PySem.Builtin PySem.Builtin.Dict
theorem a5Z (a b:Value):Builtin.«dict.__eq__» ⟨[a,b],[]⟩=(do
  let (self,other) <-dictSlotArgs "__eq__" ⟨[a,b],[]⟩
  if !(<-isInstance other (.type "dict")) then rule s!"dict.{("__eq__" : String)}.not-a-dict";return <-ret .notImplemented
  ret (.bool ((<-Dict.samePairs s!"dict.{("__eq__" : String)}" (<-addrOf self) (<-addrOf other))==true))):=rfl
theorem a4J:isSubtype (.type "dict") (.type "dict")=pure true:=by rw[isSubtype_type];kernel_rfl
section
variable {prog:Program}{w:World}{A:Around}{E:Vs0}{s:Shared}{a b:Addr}{oa ob:Obj}{es fs:Array DictEntry}{ep fp:Nat}
theorem a7L {id:String}{Q:Bool->Shared->Prop}(ha:s.heap.get? a=some oa)(da:oa.data=.dict es ep)(hb:s.heap.get? b=some ob)(db:ob.data=.dict fs fp)(na:(a==sysModules)=false)(nb:(b==sysModules)=false)(hsz:es.size=fs.size)
  (hf:∀(i:Nat) (e:DictEntry),es[i]? =some e->∃(j:Nat) (f:DictEntry),fs[j]? =some f/\(∀(R:Option Nat->Shared->Prop),R (some j) s->wpAny (model prog w) A (dictFind b e.key e.hash) R E s)/\∀(R:Bool->Shared->Prop),R true s->wpAny (model prog w) A (eqBool e.val f.val) R E s)
  (hq:Q true s):wpAny (model prog w) A (Dict.samePairs id a b) Q E s:=by
 unfold Dict.samePairs Dict.showsAll;simp only[na,nb,Bool.false_eq_true,if_false];refine wB0 (wP0 (wB0 (wP0 ?_)));refine wB0 (wpAny_dictEntries ha da ?_);refine wB0 (wpAny_dictEntries hb db ?_);rw[if_neg (by rw[hsz];simp)];refine wB0 (wpAny_dictEpoch ha da ?_);rw[Std.Legacy.Range.forIn_eq_forIn_range'];refine wB0 (wpAny_forIn_list _ (fun rest b s'=>b=(none,())/\s'=s/\∀x∈rest,x<es.size) _ (fun i rest b s' hI=>?_) (fun b s' hI=>?_) _ _ ⟨rfl,rfl,fun x hx=>?_⟩)
 ·obtain⟨rfl,rfl,hl⟩:=hI
  have hi:=hl i List.mem_cons_self;obtain⟨j,f,hj,h1,h2⟩:=hf i es[i] (by simp[hi]);refine wB0 (wpAny_dictEntries ha da ?_);have ei:es[i]? =some es[i]:=by simp[hi]
  rw[ei]
  dsimp only
  refine wB0 (wpAny_holding (wB0 (h1 _ ?_)))
  dsimp only
  refine wB0 (wpAny_dictEntries hb db ?_);rw[hj]
  dsimp only
  refine wpAny_holding (h2 _ ?_);rw[if_neg (by decide)];refine wB0 (wpAny_dictEpoch ha da ?_);rw[if_neg (by simp)];exact wP0 ⟨rfl,rfl,fun x hx=>hl x (mL0 _ hx)⟩
 ·obtain⟨rfl,rfl,_⟩:=hI
  exact wP0 hq
 ·have:=List.mem_range'.mp hx
  obtain⟨k,hk,rfl⟩:=this;simp[Std.Legacy.Range.size] at hk ⊢
  omega
end
theorem a3Z {P:Program}{w:World}:∀{es:List DictEntry} {kvs:List (Key×Value)},Pairs (a0z P w) es kvs->es.length=kvs.length
 |_,_,.nil=>rfl
 |_,_,.cons _ _ r=>by simp[a3Z r]
theorem b0F {prog:Program}{w:World}{A:Around}{E:Vs0}{s:Shared}{d:Addr}{o:Obj}{es:Array DictEntry}{ep j:Nat}{x:Str}{t:Tok}{hs:Int}{Q:Option Nat->Shared->Prop}(ho:s.heap.get? d=some o)(hd:o.data=.dict es ep)
  (hall:∀e∈es,∃z t,e.key=Value.str z t) (hj:es.findIdx? (fun e=>e.key.isStr x)=some j) (h:Q (some j) s):wpAny (model prog w) A (dictFind d (.str x t) hs) Q E s:=by
 obtain⟨hjs,hjt,_⟩:=Array.findIdx?_eq_some_iff_getElem.mp hj;have ha:(es.all fun e=>isExactStrKey e.key)=true:=by
  rw[Array.all_eq_true'];intro e he;obtain⟨z,t,q⟩:=hall e he;rw[q]
  rfl
 obtain⟨z,tz,ez⟩:=hall es[j] (Array.getElem_mem hjs);have zx:z=x:=by
  rw[ez] at hjt;exact eq_of_beq hjt
 subst zx;unfold dictFind;refine wpAny_holding ?_;refine wB0 (wpAny_dictEntries ho hd ?_)
 dsimp only
 rw[if_pos ha];unfold foundByValue;rw[hj]
 dsimp only
 rw[Array.getElem?_eq_getElem hjs]
 dsimp only
 rw[ez];refine wB0 (wpAny_dictEpoch ho hd (wB0 (wpAny_eqBool_str (wB0 (wpAny_dictEpoch ho hd ?_)))));rw[if_neg (by simp),if_pos (by simp)];exact wB0 (wpAny_rule (wP0 h))
section
variable {A:Around}{s:Shared}{P:Program}{w:World}
theorem a8e {a b:Addr}{kvs kws:List (Key×Value)}(da:s.heap.DictOf (a0z P w) a kvs)(db:s.heap.DictOf (a0z P w) b kws)(na:(a==sysModules)=false)(nb:(b==sysModules)=false)(hl:kvs.length=kws.length)(tx:∀(k:Key) (v:Value),(k,v)∈kws->∃x,k=.inr x)
  (he:∀(k:Key) (v:Value),(k,v)∈kvs->∃v',(k,v')∈kws/\SeqAt.EqAt A.in1 s v v' true) (hu:A.units<cLine):SeqAt.EqAt A s (.ref a) (.ref b) true:=by
 by_cases hab:a=b
 ·rw[hab]
  exact SeqAt.EqAt.same _
 refine SeqAt.EqAt.of_refs hab fun prog w' E Q hq=>?_;obtain⟨oa,es,ep,ha,xa,dda,ka,pa,nda⟩:=da;obtain⟨ob,fs,fp,hb,xb,ddb,kb,pb,ndb⟩:=db;have Ta:s.TypeIs (.ref a) "dict":=⟨oa,ha,xa.1⟩;have Tb:s.TypeIs (.ref b) "dict":=⟨ob,hb,xb.1⟩;have la:es.size=kvs.length:=by have:=a3Z pa;simpa using this
 have lb:fs.size=kws.length:=by have:=a3Z pb;simpa using this
 have kb':∀e∈fs,∃z t,e.key=Value.str z t:=fun e he'=>by
  obtain⟨m,hm,rfl⟩:=Array.mem_iff_getElem.mp he';obtain⟨⟨k,v⟩,hk⟩:∃kv,kws[m]? =some kv:=⟨_,gE0 (by omega)⟩;obtain⟨g1,_⟩:=pb.get? (i:=m) (e:=fs[m]) (by simp[hm]) hk;obtain⟨x,rfl⟩:=tx k v (gI0 hk);rcases a0K (k:=.inr x) (v:=fs[m].key) g1 with ⟨i,t,q,_⟩ |⟨z,t,q,q2⟩
  ·cases q
  ·exact⟨z,t,q2⟩
 refine wpAny_richCompare_same_room Ta Tb F.slot_dict_eq (wpAny_call_entry F.slot_dict_eq Ta F.entry_dict_eq ?_ (F.args_dict_eq_2 _ _)) hu;rw[a5Z];refine wB0 ?_;show wpAny _ _ (pure (Value.ref a,Value.ref b)) _ _ _;refine wP0 ?_
 dsimp only
 refine wB0 (wpAny_isInstance (T:="dict") (b:=true) Tb a4J ?_);simp only[Bool.not_true,Bool.false_eq_true,if_false];refine wB0 (wP0 (wB0 (wP0 (wB0 (a7L ha dda hb ddb na nb (by omega) (fun i e ei=>?_) ?_)))))
 ·have hi:i<es.size:=(Array.getElem?_eq_some_iff.mp ei).1
  obtain⟨⟨k,v⟩,hk⟩:∃kv,kvs[i]? =some kv:=⟨_,gE0 (by omega)⟩;obtain⟨g1,g2⟩:=pa.get? (i:=i) (e:=e) (by simpa using ei) hk;obtain⟨k2,g3,g4⟩:=ka e (Array.mem_of_getElem? ei);have ek:k2=k:=(a0z P w).inj _ _ _ g3 g1;subst ek;obtain⟨v',hv',eq⟩:=he k2 v (gI0 hk);obtain⟨x,rfl⟩:=tx k2 v' hv';obtain⟨t0,ek0⟩:∃t,e.key=Value.str x t:=by
   rcases a0K (k:=.inr x) (v:=e.key) g1 with ⟨i,t,q,_⟩ |⟨z,t,q,q2⟩
   ·cases q
   ·cases q
    exact⟨t,q2⟩
  obtain⟨m,hm⟩:=List.getElem?_of_mem hv';have hm':m<fs.size:=by have:=(gS0.mp hm).1;omega
  have em:fs.toList[m]? =some fs[m]:=by simp[hm']
  obtain⟨q1,q2⟩:=pb.get? em hm;obtain⟨j,hj⟩:∃j,fs.findIdx? (fun e=>e.key.isStr x)=some j:=by
   cases z:fs.findIdx? (fun e=>e.key.isStr x) with
   |some j=>exact⟨j,rfl⟩
   |none=>
    have:=Array.findIdx?_eq_none_iff.mp z fs[m] (Array.getElem_mem hm')
    have q1':fs[m].key.isStr x=true:=by
     rcases a0K (k:=.inr x) (v:=fs[m].key) q1 with ⟨i,t,q,_⟩ |⟨z,t,q,q2⟩
     ·cases q
     ·cases q
      rw[q2];exact beq_self_eq_true x
    rw[q1'] at this;cases this
  obtain⟨hjs,hjt,_⟩:=Array.findIdx?_eq_some_iff_getElem.mp hj;obtain⟨⟨k3,v3⟩,hk3⟩:∃kv,kws[j]? =some kv:=⟨_,gE0 (by omega)⟩;obtain⟨r1,r2⟩:=pb.get? (i:=j) (e:=fs[j]) (by simp[hjs]) hk3;have hjk:(a0z P w).is (.inr x) fs[j].key=true:=by
   obtain⟨z,t,q⟩:=kb' fs[j] (Array.getElem_mem hjs);rw[q] at hjt ⊢;have zx:z=x:=eq_of_beq hjt;rw[zx];rw[(a0z P w).strs (.inr x) x t0 _ (by rw[<-ek0];exact g1)];exact beq_self_eq_true x
  have e3:k3=.inr x:=(a0z P w).inj _ _ _ r1 hjk;subst e3;have jm:j=m:=by
   have hj1:(kws.map (·.1))[j]? =some (Sum.inr x):=by rw[gM0,hk3];rfl
   have hm1:(kws.map (·.1))[m]? =some (Sum.inr x):=by rw[gM0,hm];rfl
   obtain⟨x1,y1⟩:=gS0.mp hj1;obtain⟨x2,y2⟩:=gS0.mp hm1;rcases Nat.lt_trichotomy j m with z |z |z
   ·exact absurd (y1.trans y2.symm) (List.pairwise_iff_getElem.mp ndb j m x1 x2 z)
   ·exact z
   ·exact absurd (y2.trans y1.symm) (List.pairwise_iff_getElem.mp ndb m j x2 x1 z)
  subst jm;rw[hm] at hk3;cases hk3;refine⟨j,fs[j],by simp[hjs],fun R hR=>?_,fun R hR=>?_⟩
  ·rw[ek0]
   exact b0F hb ddb kb' hj hR
  ·rw[g2,r2]
   exact eq prog w' E R hR
 ·exact wP0 ⟨_,rfl,(fun z=>nomatch z),hq⟩
end
end L2
namespace L2
open PySem PySem.Spec PyProof.Rows
inductive Dq (H:Hp):Nat->V->V->Prop
 |non {n:Nat}:Dq H n .non .non
 |bl {n:Nat} {b:Bool}:Dq H n (.bl b) (.bl b)
 |int {n:Nat} {i:Int}:Dq H n (.int i) (.int i)
 |str {n:Nat} {z:Str}:Dq H n (.str z) (.str z)
 |ref {n:Nat} {a:Addr}:Dq H n (.ref a) (.ref a)
 |tup {n:Nat} {a b:Addr} {xs ys:List V} (ha:H a=some (.tup xs)) (hb:H b=some (.tup ys)) (hl:xs.length=ys.length) (h:∀(i:Nat) (x y:V),xs[i]? =some x->ys[i]? =some y->Dq H n x y):Dq H (n+1) (.ref a) (.ref b)
 |lst {n:Nat} {a b:Addr} {xs ys:List V} (ha:H a=some (.lst xs)) (hb:H b=some (.lst ys)) (hl:xs.length=ys.length) (h:∀(i:Nat) (x y:V),xs[i]? =some x->ys[i]? =some y->Dq H n x y):Dq H (n+1) (.ref a) (.ref b)
 |dct {n:Nat} {a b:Addr} {kvs kws:List (Key×V)} (f:Key->V) (ha:Rd H a (.dK kvs)) (hb:Rd H b (.dK kws)) (hl:kvs.length=kws.length) (tx:∀(k:Key) (v:V),(k,v)∈kws->∃x,k=.inr x)
   (hf:∀(k:Key) (v:V),(k,v)∈kvs->(k,f k)∈kws) (h:∀(k:Key) (v:V),(k,v)∈kvs->Dq H n v (f k)):Dq H (n+1) (.ref a) (.ref b)
theorem a5h:∀{kvs:List (Key×V)} {vs:List (Key×Value)} {k:Key} {u:Value} {i:Nat},KV kvs vs->vs[i]? =some (k,u)->∃v,kvs[i]? =some (k,v)/\a0Z v u
 |_,_,_,_,_,.nil,e=>by simp at e
 |_,_,k,u,0,.cons (a:=p) r _,e=>by
  simp at e;subst e;obtain⟨p1,p2⟩:=p;obtain⟨r1,r2⟩:=r;simp only at r1;subst r1;exact⟨p2,rfl,r2⟩
 |_,_,k,u,i+1,.cons _ t,e=>by
  obtain⟨v,h1,h2⟩:=a5h (i:=i) t (by simpa using e);exact⟨v,by simpa using h1,h2⟩
section
variable {X:Cx}{pins:List (Addr×Obj)}{σ:St}{H:Hp}{s:Shared}
theorem b1Z (I:Inv X pins σ H s){n:Nat}{x y:V}(d:Dq H n x y):∀{u u':Value} {A:Around},a0Z x u->a0Z y u'->A.units+n<cLine->SeqAt.EqAt A s u u' true:=by
 induction d with
 |non=>intro u u' A r r' _;cases r;cases r';exact SeqAt.EqAt.same _
 |bl=>intro u u' A r r' _;cases r;cases r';exact SeqAt.EqAt.same _
 |@int n i=>
  intro u u' A r r' _;obtain⟨t,rfl⟩:=r;obtain⟨t',rfl⟩:=r';have h:=SeqAt.EqAt.int_int (A:=A) (s:=s) i t i t'
  rwa [beq_self_eq_true] at h
 |@str n z=>
  intro u u' A r r' _;obtain⟨t,rfl⟩:=r;obtain⟨t',rfl⟩:=r';have h:=SeqAt.EqAt.str_str (A:=A) (s:=s) z t z t'
  rwa [beq_self_eq_true] at h
 |ref=>intro u u' A r r' _;cases r;cases r';exact SeqAt.EqAt.same _
 |@tup n a b xs ys ha hb hl h ih=>
  intro u u' A r r' hu;cases r;cases r'
  by_cases hab:a=b
  ·rw[hab];exact SeqAt.EqAt.same _
  obtain⟨its,r1,pl,_⟩:=I.tuple (SqT.of (K:=X.K) ha);obtain⟨jts,r2,ql,_⟩:=I.tuple (SqT.of (K:=X.K) hb);have l1:=r1.length;have l2:=r2.length;have h0:=SeqAt.RcAt.tuples (A:=A) (e:=fun _=>true) pl ql (by omega) (fun j g1 g2=>?_)
  ·have e:((List.range (min its.toArray.size jts.toArray.size)).all (fun _=>true)&&its.toArray.size==jts.toArray.size)=true:=by
    simp
    omega
   rw[e] at h0;exact SeqAt.EqAt.of_refs hab h0
  ·have g1':j<its.length:=by simpa using g1
   have g2':j<jts.length:=by simpa using g2
   obtain⟨u1,e1,k1⟩:=r1.get (i:=j) (x:=xs[j]'(by omega)) (by simp);obtain⟨u2,e2,k2⟩:=r2.get (i:=j) (x:=ys[j]'(by omega)) (by simp);have w1:its.toArray[j]=u1:=by have:=(gS0.mp e1).2;simpa using this
   have w2:jts.toArray[j]=u2:=by have:=(gS0.mp e2).2;simpa using this
   rw[w1,w2];exact ih j _ _ (by simp) (by simp) k1 k2 (by show A.units+1+n<cLine;omega)
 |@lst n a b xs ys ha hb hl h ih=>
  intro u u' A r r' hu;cases r;cases r'
  by_cases hab:a=b
  ·rw[hab];exact SeqAt.EqAt.same _
  obtain⟨its,r1,pl,_⟩:=I.list (xs:=xs) (.inl (.inl ha));obtain⟨jts,r2,ql,_⟩:=I.list (xs:=ys) (.inl (.inl hb));have l1:=r1.length;have l2:=r2.length;have h0:=SeqAt.RcAt.lists (A:=A) (e:=fun _=>true) pl.isList ql.isList (by simp;omega) (by omega) (fun j g1 g2=>?_)
  ·have e:((List.range its.toArray.size).all (fun _=>true))=true:=by simp
   rw[e] at h0;exact SeqAt.EqAt.of_refs hab h0
  ·have g1':j<its.length:=by simpa using g1
   have g2':j<jts.length:=by simpa using g2
   obtain⟨u1,e1,k1⟩:=r1.get (i:=j) (x:=xs[j]'(by omega)) (by simp);obtain⟨u2,e2,k2⟩:=r2.get (i:=j) (x:=ys[j]'(by omega)) (by simp);have w1:its.toArray[j]=u1:=by have:=(gS0.mp e1).2;simpa using this
   have w2:jts.toArray[j]=u2:=by have:=(gS0.mp e2).2;simpa using this
   rw[w1,w2];exact ih j _ _ (by simp) (by simp) k1 k2 (by show A.units+1+n<cLine;omega)
 |@dct n a b kvs kws f ha hb hl tx hf h ih=>
  intro u u' A r r' hu;cases r;cases r';obtain⟨_,na,vs,kv,da⟩:=a4a I.hok ha;obtain⟨_,nb,ws,kw,db⟩:=a4a I.hok hb;have l1:=kv.length;have l2:=kw.length;refine a8e da db na nb (by omega) (fun k v hk=>?_) (fun k v hk=>?_) (by omega)
  ·obtain⟨i,hi⟩:=List.getElem?_of_mem hk
   obtain⟨v0,e0,_⟩:=a5h kw hi;exact tx k v0 (gI0 e0)
  ·obtain⟨i,hi⟩:=List.getElem?_of_mem hk
   obtain⟨v0,e0,rv⟩:=a5h kv hi;have m0:=gI0 e0;obtain⟨m,hm⟩:=List.getElem?_of_mem (hf k v0 m0);obtain⟨u',e1,rv'⟩:=a7A kw hm;exact⟨u',gI0 e1,ih k v0 m0 rv rv' (by show A.units+1+n<cLine;omega)⟩
theorem a7G {A:Around}(I:Inv X pins σ H s){n:Nat}{a b:Addr}{xs ys:List V}(ha:SqL X.K H a xs)(hb:SqL X.K H b ys)(hl:xs.length=ys.length)(h:∀(i:Nat) (x y:V),xs[i]? =some x->ys[i]? =some y->Dq H n x y)(hu:A.units+n+1<cLine) :
  SeqAt.RcAt A s (.ref a) (.ref b) true/\SeqAt.RcNeAt A s (.ref a) (.ref b) false:=by
 obtain⟨its,r1,pl,_⟩:=I.list ha;obtain⟨jts,r2,ql,_⟩:=I.list hb;have l1:=r1.length;have l2:=r2.length;have el:∀j (g1:j<its.toArray.size) (g2:j<jts.toArray.size),SeqAt.EqAt A.in1 s its.toArray[j] jts.toArray[j] true:=fun j g1 g2=>by
  have g1':j<its.length:=by simpa using g1
  have g2':j<jts.length:=by simpa using g2
  obtain⟨u1,e1,k1⟩:=r1.get (i:=j) (x:=xs[j]'(by omega)) (by simp);obtain⟨u2,e2,k2⟩:=r2.get (i:=j) (x:=ys[j]'(by omega)) (by simp);have w1:its.toArray[j]=u1:=by have:=(gS0.mp e1).2;simpa using this
  have w2:jts.toArray[j]=u2:=by have:=(gS0.mp e2).2;simpa using this
  rw[w1,w2];exact b1Z I (h j _ _ (by simp) (by simp)) k1 k2 (by show A.units+1+n<cLine;omega)
 have e:((List.range its.toArray.size).all (fun _=>true))=true:=by simp
 have h1:=SeqAt.RcAt.lists (A:=A) (e:=fun _=>true) pl.isList ql.isList (by simp;omega) (by omega) el;have h2:=SeqAt.RcNeAt.lists (A:=A) (e:=fun _=>true) pl.isList ql.isList (by simp;omega) (by omega) el;rw[e] at h1 h2;exact⟨h1,h2⟩
theorem b3K:OpR X (compareOp .Eq) (fun x y H Q=>∃(n:Nat) (a b:Addr) (xs ys:List V),x=.ref a/\y=.ref b/\SqL X.K H a xs/\SqL X.K H b ys/\xs.length=ys.length/\(∀(i:Nat) (x y:V),xs[i]? =some x->ys[i]? =some y->Dq H n x y)/\X.A.units+n+1<cLine/\Q (.bl true) H):=by
 intro pins s σ H x y v u Q I rx ry h;obtain⟨n,a,b,xs,ys,rfl,rfl,ha,hb,hl,hd,hu,q⟩:=h;cases rx;cases ry;exact(a7G I ha hb hl hd hu).1 X.prog X.w X.xe _ ⟨.bl true,H,I,rfl,q⟩
theorem b3t:OpR X (compareOp .NotEq) (fun x y H Q=>∃(n:Nat) (a b:Addr) (xs ys:List V),x=.ref a/\y=.ref b/\SqL X.K H a xs/\SqL X.K H b ys/\xs.length=ys.length/\(∀(i:Nat) (x y:V),xs[i]? =some x->ys[i]? =some y->Dq H n x y)/\X.A.units+n+1<cLine/\Q (.bl false) H):=by
 intro pins s σ H x y v u Q I rx ry h;obtain⟨n,a,b,xs,ys,rfl,rfl,ha,hb,hl,hd,hu,q⟩:=h;cases rx;cases ry;exact(a7G I ha hb hl hd hu).2 X.prog X.w X.xe _ ⟨.bl false,H,I,rfl,q⟩
end
theorem a8P {X:Cx}:MtR X "list.append" a9G:=a3G
theorem a0m.put {H H':Hp}{d:Addr}{o:HO}(s:a0m H H')(h:H d=none):a0m H (L2.upd H' d o):=fun b u e=>by
 rw[a0g (a0C e h)];exact s b u e
end L2
namespace My
open PySem L2 PyProof.Rows
seal L2.PE L2.PT L2.PW L2.PS L2.PSs L2.PA L2.PI L2.PG L2.PGs L2.OpR L2.a1p L2.IxR L2.SlR L2.MtR L2.PIf L2.PO L2.MtM L2.PC L2.a6n
def a1n:List Nat:=("abcdefghijklmnopqrstuvwxyz":Str).cps.toList
def a1P (z:Str):Bool:=decide (1<=z.length/\z.length<=8)&&z.cps.toList.all fun c=>decide (c∈a1n)
def a5t (K:Fg0):Sp:=fun vs H Q _=>∃(v:V) (n:String),vs=[v]/\Is K H v n/\(∀z,v=.str z->z.length<=sizeLine/\∀H',a0m H H'->Q (.bl (a1P z)) H')/\(n≠"str"->Q (.bl false) H)
section
variable {P:Program}{w:World}{K:Fg0}{mg:Str->Option Value}{base:Heap}
theorem b2c {f:Addr}{fd:FuncData}(F:Fun K "is_name" "is_name" (top 11) f fd)(B:Bl mg){uL uN:Value}(hL:mg "LETTERS"=some uL)(rL:a0Z (.str "abcdefghijklmnopqrstuvwxyz") uL)(hN:mg "LONGEST_NAME"=some uN)(rN:a0Z (.int 8) uN) :
  a0F P w K mg base CX0 1 f fd ["thing"] (a5t K):=by
 have sc:a0o ["thing"] ["thing"] (a0f (top 11)):=.k (by decide +kernel);refine F.ok sc (fun vs H Q E h=>?_) (fun cdv A outer s H vs Q E hr h=>?_)
 ·obtain⟨v,n,rfl,_⟩:=h
  rfl
 ·obtain⟨v,n,rfl,⟨ty,hn⟩,q1,q2⟩:=h
  refine⟨_,a0d (a0A (PW.pt (a2F (a1j (a0D (a0k a2n (by rfl) B.isi boot_isi (a0a (pv 0) (a0a (a0y (v:=.ty "str") (by rfl) B.str boot_str rfl) a0c)))))
    (a1J (a1j (b0O b3s b3s a0e (a0k a3u (by rfl) B.len PySem.boot_len (a0a (pv 0) a0c)) (a2H (by rfl) hN rN)))))) (a0h (a0u a3w)) a0l)
   (a0h (a0u (a0k (b0X rfl) (by rfl) B.all boot_all (a0a (a1Z (osc:=a0f (top 11)) (N0:=["thing"]) (xs:=["sign"]) (fr:=[]) ⟨rfl,by decide +kernel,by decide +kernel,by decide +kernel,by decide,by decide +kernel⟩ rfl rfl rfl (b3R (pv 0))
    (fun s H fp=>a0v (i:=0) (show(["sign"]:List Str).Nodup by decide +kernel) rfl (Or.inl rfl)) (fun s H fp=>a1E) (fun s H fp=>a1d a8M (pv 0) (a2H (by rfl) hL rL) (by with_unfolding_all rfl))) a0c)))),?_⟩
  by_cases hs:n="str"
  ·subst hs
   obtain⟨z,rfl⟩:=Is.str_of ⟨ty,hn⟩;obtain⟨hz,q⟩:=q1 z rfl;have q0:a1P z=false->Q (.bl false) H:=fun e=>by
    have:=q H (a0m.refl H)
    rw[e] at this;exact this
   refine⟨_,rfl,_,_,_,_,rfl,ty,a2B.trans (show a0V "str" "str"=some true by decide +kernel),_,rfl,?_⟩;refine a2b ?_;refine⟨_,rfl,_,rfl,hz,_,_,rfl,rfl,_,rfl,?_⟩;refine a4q (fun c1=>?_) (fun c1=>?_)
   ·have d1:(1:Int)<=z.length:=of_decide_eq_true c1
    refine⟨_,_,rfl,rfl,_,rfl,?_⟩;refine a4q (fun c2=>?_) (fun c2=>?_)
    ·refine q0 ?_
     have d2:¬((z.length:Int)<=8):=by
      intro e;rw[dT0 e] at c2;cases c2
     have e:decide (1<=z.length/\z.length<=8)=false:=dF0 (by omega);unfold a1P;rw[e]
     rfl
    ·have d2:(z.length:Int)<=8:=by
      by_cases e:(z.length:Int)<=8
      ·exact e
      ·rw[dF0 e] at c2
       exact(c2 rfl).elim
     refine⟨_,rfl,_,rfl,fun D hD=>?_⟩;have hlen:z.cps.toList.length=z.cps.size:=aL0;refine a2C z.cps.size (fun i=>.bl (decide (z.cps.toList.getD i 0∈a1n))) (fun i σ' Hc=>(∃a,σ'=[a])/\Hc=upd H D (.lst ((List.range i).map fun i=>.bl (decide (z.cps.toList.getD i 0∈a1n))))) hz ⟨⟨none,rfl⟩,rfl⟩ a0b ?_ ?_
     ·rintro i σ' Hc hi ⟨⟨a,rfl⟩,rfl⟩ hD'
      refine⟨hi,?_⟩;rintro x H' ⟨rfl,c,hc,rfl⟩;refine⟨_,rfl,_,_,rfl,rfl,?_,hD',⟨_,rfl⟩,b2z⟩;have ec:z.cps.toList.getD i 0=c:=by
       rw[List.getD_eq_getElem?_getD,Array.getElem?_toList,hc]
       rfl
      rw[ec];exact congrArg V.bl (StrLaws.found_one "abcdefghijklmnopqrstuvwxyz" c)
     ·rintro σ' Hc ⟨_,rfl⟩ hDn
      refine⟨nR0 _,?_⟩;refine⟨D,z.cps.toList.map fun c=>decide (c∈a1n),rfl,SqL.of ?_,?_⟩
      ·rw[a0b,<-hlen,a1I z.cps.toList 0 (fun c=>V.bl (decide (c∈a1n))),mC0]
       rfl
      ·have e:a1P z=(z.cps.toList.map fun c=>decide (c∈a1n)).all id:=by
        unfold a1P;rw[dT0 (show 1<=z.length/\z.length<=8 by omega),Bool.true_and,List.all_map]
        rfl
       rw[<-e];exact q _ (a0m.upd hD)
   ·refine⟨_,rfl,?_⟩
    refine a5p ?_;refine q0 ?_;have d1:¬((1:Int)<=z.length):=fun e=>c1 (dT0 e);have e:decide (1<=z.length/\z.length<=8)=false:=dF0 (by omega);unfold a1P;rw[e]
    rfl
  ·have e:(n=="str")=false:=beq_eq_false_iff_ne.mpr hs
   refine⟨_,rfl,_,_,_,_,rfl,ty,a2B.trans ((a9Q n hn).trans (congrArg some e)),_,rfl,?_⟩;refine a5p ?_;exact q2 hs
end
def b0f (i:Int):Nat:=(a1n[(i%26).toNat]?).getD 0
theorem a6O:a1n.length=26:=by decide +kernel
theorem a9A (i:Int):atI a1n (i%26)=some (b0f i)/\b0f i∈a1n:=by
 have h0:=Int.emod_nonneg i (show(26:Int)≠0 by decide);have h1:=Int.emod_lt_of_pos i (show(0:Int)<26 by decide);obtain⟨n,hn⟩:=Int.eq_ofNat_of_zero_le h0;have hl:n<a1n.length:=by rw[a6O];omega
 have e:b0f i=a1n[n]:=by
  unfold b0f;rw[hn,Int.toNat_natCast,gE0 hl]
  rfl
 rw[e,hn];exact⟨a0U (gE0 hl),gQ0 hl⟩
theorem b3N:a1n.Nodup:=by decide +kernel
theorem b0N {i j:Int}(h:b0f i=b0f j):i%26=j%26:=by
 have a0:=Int.emod_nonneg i (show(26:Int)≠0 by decide);have a1:=Int.emod_lt_of_pos i (show(0:Int)<26 by decide);have b0:=Int.emod_nonneg j (show(26:Int)≠0 by decide);have b1:=Int.emod_lt_of_pos j (show(0:Int)<26 by decide);obtain⟨n,hn⟩:=Int.eq_ofNat_of_zero_le a0;obtain⟨m,hm⟩:=Int.eq_ofNat_of_zero_le b0;have hl:n<a1n.length:=by rw[a6O];omega
 have hk:m<a1n.length:=by rw[a6O];omega
 unfold b0f at h;rw[hn,hm,Int.toNat_natCast,Int.toNat_natCast,gE0 hl,gE0 hk] at h
 have:n=m:=(List.getElem_inj b3N).mp h
 omega
def AllL (l:List Nat):Prop:=∀c∈l,c∈a1n
theorem b0J {z:Str}(h:AllL z.cps.toList)(h1:1<=z.length)(h8:z.length<=8):a1P z=true:=by
 unfold a1P;rw[dT0 ⟨h1,h8⟩,Bool.true_and,List.all_eq_true];exact fun c hc=>dT0 (h c hc)
end My
namespace L2
open PySem PySem.Spec PyProof.Rows PySem.Builtin PySem.Builtin.Dict
theorem a6r:typeLookup (.type "tuple") "keys"=pure none:=am_miss_of_fast (by decide +kernel)
theorem a9I {prog:Program}{w:World}{A:Around}{E:Vs0}{s:Shared}{a:Addr}{o:Obj}{xs:Array Value}{k:Nat}{Q:Option Value->Shared->Prop}
  (hx:s.heap.get? a=some o) (hc:o.cls=.type "tuple") (hdat:o.data=.seq xs k) (hd:o.dict=none) (hA:A.handled=none)
  (h:∀h' tk,(∀b ob,s.heap.get? b=some ob->h'.get? b=some ob)->Q none { s with heap:=h',toks:=tk }):wpAny (model prog w) A (getAttr? (.ref a) "keys") Q E s:=by
 obtain⟨c,dct,dat,sl⟩:=o;simp only at hc hdat hd;subst hc hdat hd;obtain⟨hp,g,d,tk,os⟩:=s;have hT:∀tk',(⟨hp,g,d,tk',os⟩:Shared).TypeIs (.ref a) "tuple":=fun _=>⟨_,hx,rfl⟩;have f1:=sub_AttributeError;have f3:=F.slot_tuple_getattribute.lookup;have f4:=F.slot_tuple_getattribute.bind (.ref a);have f5:=am_tuple_getattr_none;unfold getAttr? getAttrBy? getAttrBy
 repeat (any_goals (first |assumption |exact hT _ | ((with_reducible show wpAny _ _ (call (Value.builtin "tuple.__getattribute__") _ _) _ _ _);refine call_meets F.slot_tuple_getattribute (hT _) am_entry_tuple_getattribute (F.args_tuple_getattribute_2 _ _) (meets_getattribute_miss_tuple a xs k sl "keys" _ a6r (by decide +kernel) (by size_fits)) ⟨hx,hA,fun h' tk' e hx'=>?_⟩) |wp_step))
 obtain⟨t',u',he⟩:=hx'.there;show wpAny _ _ (getattributeRaised _ _ _ _ _ _ _) _ _ _;unfold getattributeRaised
 repeat (any_goals (first |assumption |wp_step))
 exact h _ _ hx'.keeps
theorem a2P:entryFor table "dict.update.loop"=some Builtin.«dict.update.loop»:=entryFor_of_tree (by kernel_rfl)
section
variable {prog:Program}{w:World}{A:Around}{R:Result->Shared->Prop}
theorem a6W {h0:Heap}{d it t:Addr}{items:Array Value}{ps:List (Key×Value)}(hh:A.handled=none)(ht:h0.IsTuple t items)(tne:t≠it/\t≠d)(idne:it≠d)(hl:ps.length=items.size)(hz:items.size<=1000)
  (hp:∀(j:Nat) (k:Key) (v:Value),ps[j]? =some (k,v)->∃a o key n,items[j]? =some (.ref a)/\h0.get? a=some o/\o.cls=.type "tuple"/\o.data=.seq #[key,v] n/\(a0z prog w).is k key=true/\a≠it/\a≠d)
  (nd:(ps.map (·.1)).Nodup):∀(m i:Nat) (tk:Tok) (s:Shared),i+m=items.size->s.heap.IsTupleIter it t i->s.heap.DictOf (a0z prog w) d (ps.take i)->(∀b o,b≠it->b≠d->h0.get? b=some o->s.heap.get? b=some o) →
  (∀(h':Heap) (k:Nat),h'.DictOf (a0z prog w) d ps->(∀b o,b≠it->b≠d->h0.get? b=some o->h'.get? b=some o)->R (.ok (.ret .none)) { s with heap:=h',toks:=k }) →
  codeAny (model prog w) A (.builtin "dict.update.loop" ⟨[.ref d,.ref it,.int i tk,.none],[]⟩) R s
 |0,i,tk,s,hi,hit,hd,kp,hq=>by
  refine codeAny_builtin a2P ?_;unfold Builtin.«dict.update.loop»
  dsimp only
  obtain⟨o,ho,hc,n,hdt⟩:=id ht;refine wB0 (wpAny_pyNext_tuple_end (items:=items) hh hit ⟨o,kp t o tne.1 tne.2 ho,hc,n,hdt⟩ (by rw[Array.getElem?_eq_none (by omega)]) fun h' ex=>?_)
  dsimp only
  refine wB0 (wP0 (wP0 ?_));have e:ps.take i=ps:=List.take_of_length_le (by omega);rw[e] at hd;exact hq h' s.toks (hd.extBut ex idne.symm) fun b o hb1 hb2 q=>ex b o hb1 (kp b o hb1 hb2 q)
 |m+1,i,tk,s,hi,hit,hd,kp,hq=>by
  refine codeAny_builtin a2P ?_;unfold Builtin.«dict.update.loop»
  dsimp only
  obtain⟨o,ho,hc,n,hdt⟩:=id ht;obtain⟨⟨k,v⟩,hk⟩:∃kv,ps[i]? =some kv:=⟨_,gE0 (by omega)⟩;obtain⟨a,oa,key,na,e1,e2,e3,e4,e5,e6,e7⟩:=hp i k v hk;refine wB0 (wpAny_pyNext_tuple_item (items:=items) hit ⟨o,kp t o tne.1 tne.2 ho,hc,n,hdt⟩ e1 fun h1 it1 sb=>?_)
  dsimp only
  have ha1:h1.get? a=some oa:=(sb.2 a e6).trans (kp a oa e6 e7 e2);have hd1:h1.DictOf (a0z prog w) d (ps.take i):=by
   obtain⟨od,es,ep,g,r⟩:=hd;exact⟨od,es,ep,(sb.2 d idne.symm).trans g,r⟩
  refine wB0 (wpAny_holding (wB0 (wpAny_tryCatch ?_)));unfold Dict.pairItems;refine wB0 (wpAny_typeOf (T:="tuple") ⟨oa,ha1,e3⟩ ?_);rw[if_pos (by decide)];refine wB0 (wpAny_seqItems ha1 e4 (wP0 ?_));show wpAny _ _ (holding [key,v] (dictSet d key v)) _ _ _;refine wpAny_holding (wpAny_dictSet_pairs (knd:=a0z prog w) (k:=k) e5 hd1 (fun h2 hd2 sb2=>?_) (by rw[List.length_take,sizeLine_eq];omega));refine wP0 ⟨Code.quiet_builtin _ (by decide +kernel),?_⟩;have es:stored (ps.take i) k v=ps.take (i+1):=by
   have no:((ps.take i).any fun kv=>decide (kv.1=k))=false:=by
    rw[List.any_eq_false];intro kv hkv;rw[decide_eq_true_iff];intro ek;obtain⟨j,hj,ej⟩:=List.mem_take_iff_getElem.mp hkv;have hj2:j<ps.length:=by omega
    have hij:j<i:=by omega
    have hi2:i<ps.length:=by omega
    have ei:ps[i]=(k,v):=(gS0.mp hk).2;refine List.pairwise_iff_getElem.mp nd j i (by simpa using hj2) (by simpa using hi2) hij ?_;rw[List.getElem_map,List.getElem_map,ej,ei,ek]
   unfold stored;rw[if_neg (by rw[no];decide),List.take_add_one,hk]
   rfl
  rw[es] at hd2;exact a6W hh ht tne idne hl hz hp nd m (i+1) _ _ (by omega) (by
   obtain⟨oi,g1,g2⟩:=it1;exact⟨oi,(sb2.2 it idne).trans g1,g2⟩) hd2 (fun b o hb1 hb2 q=>(sb2.2 b hb2).trans ((sb.2 b hb1).trans (kp b o hb1 hb2 q))) fun h' k' x y=>hq h' k' x y
end
theorem b6o {α β:Type}:∀(l:List α) (P:Nat->α->β->Prop),(∀(j:Nat) (x:α),l[j]? =some x->∃u,P j x u)->∃us:List β,us.length=l.length/\∀(j:Nat) (x:α),l[j]? =some x->∃u,us[j]? =some u/\P j x u
 |[],_,_=>⟨[],rfl,fun j x e=>by simp at e⟩
 |y::l,P,h=>by
  obtain⟨u,hu⟩:=h 0 y rfl;obtain⟨us,hl,hs⟩:=b6o l (fun j=>P (j+1)) fun j x e=>h (j+1) x (by simpa using e);refine⟨u::us,by simp[hl],fun j x e=>?_⟩;cases j with
  |zero=>
   simp at e;subst e;exact⟨u,rfl,hu⟩
  |succ j=>
   obtain⟨v,h1,h2⟩:=hs j x (by simpa using e);exact⟨v,by simpa using h1,h2⟩
theorem b4u:∀{kvs:List (Key×V)} {ps:List (Key×Value)},ps.length=kvs.length->(∀(j:Nat) (k:Key) (v:V),kvs[j]? =some (k,v)->∃u,ps[j]? =some (k,u)/\a0Z v u)->KV kvs ps
 |[],[],_,_=>.nil
 |[],_::_,h,_=>by simp at h
 |_::_,[],h,_=>by simp at h
 | (k,v)::kvs,(k',u')::ps,h,f=>by
  obtain⟨u,e,r⟩:=f 0 k v rfl;simp at e;obtain⟨rfl,rfl⟩:=e;exact .cons ⟨rfl,r⟩ (b4u (by simpa using h) fun j k v e=>f (j+1) k v (by simpa using e))
section
variable {X:Cx}
theorem a2V:a1p X (.type "tuple") (fun xs H Q=>∃p ys,xs=[.ref p]/\SqL X.K H p ys/\∀l o,H l=none->o.dict=none->Q (.ref l) (upd H l (.frz o (.tup ys)))):=by
 intro pins s σ H xs us Q I r h;obtain⟨p,ys,rfl,hq,q⟩:=h;obtain⟨u,rfl,rx⟩:=a2T r;cases rx;obtain⟨its,r',pl,hz⟩:=I.list hq;have hlen:=r'.length;refine call_tuple_list pl.isList (fun h' kp=>?_) (by simp only[List.size_toArray]<;>omega);have I1:Inv X pins σ H { s with heap:=h' }:=I.kept (t':=s.toks) kp;have I2:Inv X pins σ (upd H h'.objs.size (.frz { cls:=.type "tuple",data:=.seq its.toArray } (.tup ys))) { s with heap:=h'.push { cls:=.type "tuple",data:=.seq its.toArray } }:=
  I1.laid (t':=s.toks) (fun b o e=>hP0 _ e) (nR0 _) (show a1l X.prog X.w _ _ _ (.frz _ (.tup ys)) from⟨hS0 _ rfl,hz,its,r',IsTup.new _ _⟩)
 exact⟨.ref h'.objs.size,_,I2,rfl,q _ _ (I1.hok.fresh (nR0 _)) rfl⟩
theorem a4z (hc:X.calm=true):a1p X (.type "dict") (fun xs H Q=>∃(t:Addr) (o:Obj) (ys:List V) (kvs:List (Key×V)),xs=[.ref t]/\H t=some (.frz o (.tup ys))/\o.dict=none/\ys.length<=1000/\kvs.length=ys.length ∧
  (∀(j:Nat) (k:Key) (v:V),kvs[j]? =some (k,v)->∃a,ys[j]? =some (.ref a)/\SqT X.K H a [kV k,v])/\(kvs.map (·.1)).Nodup/\∀p,H p=none->Q (.ref p) (upd H p (.dK kvs))):=by
 intro pins s σ H xs us Q I r h;obtain⟨t,o,ys,kvs,rfl,ht,hod,hys,hkl,hp,nd,q⟩:=h;obtain⟨u,rfl,rx⟩:=a2T r;cases rx;obtain⟨g,hz,its,r',tp⟩:=I.hok t _ ht;obtain⟨o',g',hcl,n,hdat⟩:=tp;rw[g] at g';cases g';have hlen:=r'.length;have hh:=I.ok.hd hc;have hpk:∃ps:List (Key×Value),ps.length=kvs.length/\∀(j:Nat) (kv:Key×V),kvs[j]? =some kv->∃u,ps[j]? =some u/\(u.1=kv.1/\a0Z kv.2 u.2/\∃a oa key na,its[j]? =some (.ref a)/\s.heap.get? a=some oa/\oa.cls=.type "tuple"/\oa.data=.seq #[key,u.2] na/\(a0z X.prog X.w).is kv.1 key=true):=by
  refine b6o kvs (fun(j:Nat) (kv:Key×V) (u:Key×Value)=>u.1=kv.1/\a0Z kv.2 u.2/\∃a oa key na,its[j]? =some (.ref a)/\s.heap.get? a=some oa/\oa.cls=.type "tuple"/\oa.data=.seq #[key,u.2] na/\(a0z X.prog X.w).is kv.1 key=true) fun j kv hj=>?_;obtain⟨k,v⟩:=kv;obtain⟨a,ea,sq⟩:=hp j k v hj;obtain⟨jts,rj,pj,_⟩:=I.tuple sq;cases rj with
  |@cons _ j1 _ jr rk rr=>cases rr with
   |@cons _ j2 _ jr2 rv rr2=>
    cases rr2;obtain⟨oa,ga,ca,na,da⟩:=pj;refine⟨(k,j2),rfl,rv,a,oa,j1,na,?_,ga,ca,da,a4I rk⟩;obtain⟨w,ew,rw1⟩:=a1c.get r' ea;cases rw1;exact ew
 obtain⟨ps,hpl,hps⟩:=hpk;have gt:s.heap.get? t=some o:=g;have tlt:t<s.heap.objs.size:=hL0 gt;refine callType_codes (Q₁:=fun obj s₁=>obj=.ref s.heap.objs.size/\s₁={ s with heap:=s.heap.push { cls:=.type "dict",data:=.dict #[] } }) F.kt_called_dict (F.kt_typeCall_dict_1 _) F.entry_dict_init (kt_code_dict_new _ ⟨rfl,rfl⟩) ?_;rintro obj s₁ ⟨rfl,rfl⟩;have hnew:(s.heap.push { cls:=.type "dict",data:=.dict #[] }).DictOf (a0z X.prog X.w) s.heap.objs.size []:=Heap.DictOf.new s.heap;have gt1:(s.heap.push { cls:=.type "dict",data:=.dict #[] }).get? t=some o:=hP0 _ gt;refine⟨hnew.typeIs,F.args_dict_init_2 _ _,?_⟩;unfold Builtin.«dict.__init__»;refine wB0 ?_;unfold Builtin.Dict.selfAndRest;refine wB0 (wpAny_notOrdered_dict hnew.typeIs ?_);show wpAny _ _ (pure (s.heap.objs.size,[Value.ref t])) _ _ _;refine wP0 ?_;show wpAny _ _ (Builtin.Dict.updateFrom "dict.__init__" s.heap.objs.size (.ref t) [] .none) _ _ _;unfold Builtin.Dict.updateFrom;refine wB0 (wpAny_typeOf (T:="tuple") ⟨o,gt1,hcl⟩ ?_);rw[if_pos (by decide)];refine wB0 (a9I (o:=o) (xs:=its.toArray) (k:=n) gt1 hcl hdat hod hh fun h1 tk1 kp1=>?_);rw[if_pos (show(none:Option Value).isNone=true from rfl)];have kp:∀b ob,s.heap.get? b=some ob->h1.get? b=some ob:=fun b ob e=>kp1 b ob (hP0 _ e);have gt2:=kp t o gt;have gd2:h1.get? s.heap.objs.size=some { cls:=.type "dict",data:=.dict #[] }:=kp1 _ _ (hS0 _ rfl);have dlt:s.heap.objs.size<h1.objs.size:=hL0 gd2;have dd1:h1.DictOf (a0z X.prog X.w) s.heap.objs.size []:=by
  obtain⟨od,es,ep,gg,rr⟩:=hnew;exact⟨od,es,ep,kp1 _ _ gg,rr⟩
 refine wB0 (wpAny_rule ?_);refine wB0 (wpAny_pyIter_tuple (items:=its.toArray) ⟨o,gt2,hcl,n,hdat⟩ ?_);refine wP0 ⟨Code.quiet_builtin _ (by decide +kernel),?_⟩;have epl:ps.length=its.toArray.size:=by simp;omega
 have fsts:ps.map (·.1)=kvs.map (·.1):=by
  refine List.ext_getElem (by simp[hpl]) fun j h1 h2=>?_;rw[List.getElem_map,List.getElem_map];rw[lM0] at h1 h2;obtain⟨u,eu,e1,_⟩:=hps j kvs[j] (gE0 h2);rw[gE0 h1] at eu;cases eu;exact e1
 refine a6W (A:=X.A.in1) (ps:=ps) (items:=its.toArray) (h0:=h1.push { cls:=.type "tuple_iterator",data:=.fields #[.ref t,.int 0 0] }) (t:=t) (d:=s.heap.objs.size) (it:=h1.objs.size) (show X.A.in1.handled=none from hh) ⟨o,hP0 _ gt2,hcl,n,hdat⟩ ⟨nL0 (Nat.lt_trans tlt dlt),nL0 tlt⟩ (Nat.ne_of_gt dlt) epl (by rw[<-epl,hpl,hkl];exact hys) (fun j k v hj=>?_) (by rw[fsts];exact nd) its.toArray.size 0 _ { s with heap:=h1.push { cls:=.type "tuple_iterator",data:=.fields #[.ref t,.int 0 0] },toks:=tk1 } (by omega) ⟨_,hS0 _ rfl,rfl,rfl⟩ (dd1.push _) (fun b o _ _ e=>e) (fun h2 k2 dd2 kp2=>?_)
 ·have hjl:j<kvs.length:=by
   have:=(gS0.mp hj).1
   omega
  obtain⟨u,eu,e1,e2,a,oa,key,na,e3,e4,e5,e6,e7⟩:=hps j kvs[j] (gE0 hjl);rw[hj] at eu;cases eu;have alt:=hL0 e4;refine⟨a,oa,key,na,by simpa using e3,hP0 _ (kp a oa e4),e5,e6,?_,nL0 (Nat.lt_trans alt dlt),nL0 alt⟩;rw[show k=kvs[j].1 from e1];exact e7
 ·refine⟨rfl,.ref s.heap.objs.size,_,?_,rfl,q s.heap.objs.size (I.hok.fresh (nR0 _))⟩
  have rel:KV kvs ps:=b4u hpl fun j k v e=>by
   obtain⟨u,eu,e1,e2,_⟩:=hps j (k,v) e;obtain⟨u1,u2⟩:=u
   cases(show u1=k from e1)
   exact⟨u2,eu,e2⟩
  refine I.laid (a:=s.heap.objs.size) (o:=.dK kvs) (fun b qo hb=>?_) (nR0 _) (a3W (by rw[sizeLine_eq];omega) (beq_eq_false_iff_ne.mpr (Ne.symm (nL0 I.big))) rel dd2);have blt:=hL0 hb;exact kp2 b qo (nL0 (Nat.lt_trans blt dlt)) (nL0 blt) (hP0 _ (kp b qo hb))
end
end L2
namespace L2
open PySem PySem.Spec PyProof.Rows
theorem b1u {n d:Nat}{k:Int}(h0:0<=k)(h1:k<=n):HT.sIx n d (some k)=k.toNat:=by
 have e:=HT.b2A k n d;rw[if_neg (by omega)] at e
 omega
theorem b1v {xs:List V}{k:Int}(h0:0<=k)(h1:k<=xs.length):b1K xs none (some k)=xs.take k.toNat:=by
 unfold b1K;rw[b1u h0 h1,HT.a7y,List.drop_zero,Nat.sub_zero]
theorem a7f {xs:List V}{k:Int}(h0:0<=k)(h1:k<=xs.length):b1K xs (some k) none=xs.drop k.toNat:=by
 unfold b1K;rw[b1u h0 h1,HT.a7y];refine List.take_of_length_le ?_;rw[List.length_drop]
 omega
theorem a1M {J:It}{g:TG}{te:TE}{R:Addr->Hp->Prop}{D:Addr}{σ0:St}{H0:Hp}(n:Nat)(Pv:Nat->List V->St->Hp->Prop)(hn:n<=sizeLine)(h0:Pv 0 [] σ0 H0)(hD0:H0 D=some (.lst []))
  (hs:∀i σ H ys,i<n->Pv i ys σ H->ys.length=i->H D=some (.lst ys)->J.go i H/\∀x H',J.yld i H x H'->g x σ H' fun σ2 H2=>te σ2 H2 fun y H4=>H4 D=some (.lst ys)/\Pv (i+1) (ys++[y]) σ2 (upd H4 D (.lst (ys++[y]))))
  (hd:∀σ H ys,Pv n ys σ H->H D=some (.lst ys)->ys.length=n->J.stop n H/\R D H):a6P J g b5O te R D σ0 H0:=by
 refine⟨fun i m σ H=>m=n-i/\i<=n/\∃ys,Pv i ys σ H/\H D=some (.lst ys)/\ys.length=i,⟨n,by omega,zL0 _,[],h0,hD0,rfl⟩,?_⟩;rintro i m σ H ⟨rfl,hi,ys,p,hD,hl⟩
 by_cases hlt:i<n
 ·obtain⟨go,st⟩:=hs i σ H ys hlt p hl hD
  refine .inr ⟨go,fun σ2 y H4=>H4 D=some (.lst ys)/\Pv (i+1) (ys++[y]) σ2 (upd H4 D (.lst (ys++[y]))),fun _ _=>False,?_,fun _ _ z=>z.elim,st⟩;rintro σ2 y H4 ⟨e,p'⟩;exact⟨_,e,by rw[hl];omega,n-(i+1),by omega,rfl,hlt,_,p',a0b,by simp[hl]⟩
 ·have e:i=n:=by omega
  subst e;exact .inl (hd σ H ys p hD hl)
end L2
namespace My
open PySem L2 PyProof.Rows
seal L2.PE L2.PT L2.PW L2.PS L2.PSs L2.PA L2.PI L2.PG L2.PGs L2.OpR L2.a1p L2.IxR L2.SlR L2.MtR L2.PIf L2.PO L2.MtM L2.PC L2.a6n
def a4o:List Str:=["twin","many","some"]
def b1A:Sp:=fun vs H Q _=>∃(p:Addr) (ss:List Str),vs=[.ref p]/\H p=some (.lst ((("head":Str)::ss).map V.str))/\(∀z∈ss,z∈a4o)/\∀H',a0m H H'->Q .non H'
def b1p:Sp:=fun vs H Q _=>∃(p:Addr) (zs:List Str),vs=[.ref p]/\H p=some (.lst (zs.map V.str))/\zs.Nodup/\(∀z∈zs,a1P z=true)/\∀H',a0m H H'->Q .non H'
def kvC (cols:List (Str×V)):List (Key×V):=cols.map fun p=>(.inr p.1,p.2)
def vOf (cols:List (Str×V))(z:Str):V:=(a1K (kvC cols) (.inr z)).getD .non
mutual
def a2d:Dt->Bool
 | .dct=>false
 | .tup ds=>a3s ds
 | .lst _=>false
 | .non=>true
 | .bl _=>true
 | .int _=>true
 | .str _=>true
def a3s:List Dt->Bool
 |[]=>true
 |d::ds=>a2d d&&a3s ds
end
mutual
theorem Rep.beside {H:Hp}{a:Addr}{u:HO}(e:∀xs,H a≠some (.tup xs)):∀{d:Dt} {v:V},a2d d=true->Rep H d v->Rep (L2.upd H a u) d v
 | .non,v,_,h=>by unfold Rep at h ⊢;exact h
 | .bl b,v,_,h=>by unfold Rep at h ⊢;exact h
 | .int i,v,_,h=>by unfold Rep at h ⊢;exact h
 | .str z,v,_,h=>by unfold Rep at h ⊢;exact h
 | .tup ds,v,n,h=>by
  unfold Rep at h ⊢;obtain⟨b,xs,h1,h2,h3⟩:=h;have hne:b≠a:=fun q=>e _ (by rw[<-q];exact h2);exact⟨b,xs,h1,by rw[a0g hne];exact h2,a2c.beside e (by simpa[a2d] using n) h3⟩
 | .lst ds,v,n,h=>by simp[a2d] at n
 | .dct,v,n,h=>by simp[a2d] at n
theorem a2c.beside {H:Hp}{a:Addr}{u:HO}(e:∀xs,H a≠some (.tup xs)):∀{ds:List Dt} {vs:List V},a3s ds=true->a2c H ds vs->a2c (L2.upd H a u) ds vs
 |[],vs,_,h=>by unfold a2c at h ⊢;exact h
 |d::ds,vs,n,h=>by
  unfold a2c at h ⊢;obtain⟨v,ws,h1,h2,h3⟩:=h;have n':a2d d=true/\a3s ds=true:=by simpa[a3s] using n
  exact⟨v,ws,h1,Rep.beside e n'.1 h2,a2c.beside e n'.2 h3⟩
end
def a0L (H:Hp)(cols:List (Str×V)):Prop:=(cols.map (·.1)).Nodup/\cols.length<=12/\∀p∈cols,a1P p.1=true/\∃d,Rep H d p.2/\a2y d=true/\a2d d=true
theorem a0L.same {H H':Hp}{cols:List (Str×V)}(h:a0L H cols)(e:a0m H H'):a0L H' cols:=⟨h.1,h.2.1,fun p hp=>⟨(h.2.2 p hp).1,let ⟨d,h1,h2⟩:=(h.2.2 p hp).2;⟨d,h1.same e,h2⟩⟩⟩
theorem a7v:∀{cols:List (Str×V)} {z:Str},z∈cols.map (·.1)->a1K (kvC cols) (.inr z)=some (vOf cols z)
 |[],z,h=>nomatch h
 |p::r,z,h=>by
  unfold vOf
  by_cases e:p.1=z
  ·rw[show kvC (p::r)=(.inr p.1,p.2)::kvC r from rfl,a1g (by rw[e])]
   rfl
  ·have hz:z∈r.map (·.1):=by
    rcases mK0.mp h with h |h
    ·exact absurd h.symm e
    ·exact h
   rw[show kvC (p::r)=(.inr p.1,p.2)::kvC r from rfl,a1B (fun h=>e (by injection h)),a7v hz]
   rfl
def a1z (H:Hp)(t:Addr)(cols:List (Str×V)):Prop:=∃(o:Obj) (ps:List Addr) (zs:List Str),zs.Perm (cols.map (·.1))/\sortedS zs=true/\o.dict=none/\H t=some (.frz o (.tup (ps.map V.ref)))/\ps.length=zs.length/\∀(j:Nat) (p:Addr) (z:Str),ps[j]? =some p->zs[j]? =some z->H p=some (.tup [.str z,vOf cols z])
theorem a1z.same {H H':Hp}{t:Addr}{cols:List (Str×V)}(h:a1z H t cols)(e:a0m H H'):a1z H' t cols:=by
 obtain⟨o,ps,zs,h1,h2,h3,h4,h5,h6⟩:=h;exact⟨o,ps,zs,h1,h2,h3,e _ _ h4,h5,fun j p z a b=>e _ _ (h6 j p z a b)⟩
def b1q:Sp:=fun vs H Q _=>∃(a:Addr) (cols:List (Str×V)),vs=[.ref a]/\H a=some (.dK (kvC cols))/\a0L H cols/\∀t H',a0m H H'->a1z H' t cols->Q (.ref t) H'
section
variable {P:Program}{w:World}{K:Fg0}{mg:Str->Option Value}{base:Heap}
theorem b2B {f sA:Addr}{fd:FuncData}(F:Fun K "ask_sorts" "ask_sorts" (top 19) f fd)(mS:mg "SIDE_SORTS"=some (.ref sA))(qS:∀H,SqT K H sA (a4o.map V.str)):a0F P w K mg base CX0 1 f fd ["sorts"] b1A:=by
 have sc:a0o ["sorts","sort"] ["sorts"] (a0f (top 19)):=.k (by decide +kernel);refine F.ok sc (fun vs H Q E h=>?_) (fun cdv A outer s H vs Q E hr h=>?_)
 ·obtain⟨p,ss,rfl,_⟩:=h
  rfl
 ·obtain⟨p,ss,rfl,hp,hss,q⟩:=h
  have hu:=a2E hr;refine⟨_,a0d (a0A (a0q b3t (a3D a4K (pv 0) a4N (a5e a0e)) (a1R (a0a a0H a0c)) (a0t _)) a0j a0l)
   (a0h (a1W PassesOwn.never rfl (a1C (a3D a4K (pv 0) (a5e a0e) a4N)) (a0v (i:=1) sc.nd rfl (Or.inl rfl))
    (a0h (a0A (a0q a3q (pv 1) (a2H (v:=.ref sA) (by rfl) mS rfl) (by with_unfolding_all rfl)) a0j a0l)))),?_⟩
  refine⟨_,rfl,_,rfl,p,_,rfl,SqL.of hp,fun p1 e1=>?_⟩;rw[b1v (by decide) (by rw[lM0,List.length_cons];omega)];have T1:=a0m.upd (o:=.lst [V.str "head"]) e1;refine⟨(by show 1<=sizeLine;decide),fun p2 e2=>?_⟩;have T2:=a0m.upd (o:=.lst [V.str "head"]) e2;refine⟨0,p1,p2,[V.str "head"],[V.str "head"],rfl,rfl,SqL.of (T2 _ _ a0b),SqL.of a0b,rfl,(fun i x y h1 h2=>?_),hu,_,rfl,?_⟩
  ·rw[h1] at h2
   cases h2
   have:x=V.str "head":=by simpa using gI0 h1
   rw[this];exact .str
  refine a2b ?_;have S2:=T1.trans T2;refine⟨_,rfl,_,rfl,p,_,rfl,SqL.of (S2 _ _ hp),fun p3 e3=>?_⟩;rw[a7f (by decide) (by rw[lM0,List.length_cons];omega)];have T3:=a0m.upd (o:=.lst (ss.map V.str)) e3;refine⟨p3,rfl,⟨_,SqL.of a0b⟩,a2K (K:=K) (a:=p3) (xs:=ss.map V.str) (fun j σ H4=>H4=upd _ p3 (.lst (ss.map V.str))/\∃u,σ=[some (.ref p),u]) ⟨rfl,_,rfl⟩ (fun j σ H4 _ pp=>by rw[pp.1];exact SqL.of a0b) ?_ ?_⟩
  ·rintro j x σ H4 hx ⟨rfl,u,rfl⟩
   obtain⟨z,hz,rfl⟩:=mM0.mp (gI0 hx);refine⟨_,rfl,sA,_,rfl,.inr (qS _),rfl,(by decide),_,rfl,?_⟩;have hin:inV (.str z) (a4o.map V.str)=true:=by
    have:∀z∈a4o,inV (.str z) (a4o.map V.str)=true:=by decide +kernel
    exact this z (hss z hz)
   refine a2j (by rw[hin];rfl) ?_;exact⟨rfl,_,rfl⟩
  ·rintro σ H4 ⟨rfl,u,rfl⟩
   exact q _ (S2.trans T3)
theorem b2n {f fN:Addr}{fd fdN:FuncData}(F:Fun K "ask_names" "ask_names" (top 20) f fd)(DN:Df K mg "is_name" (top 11) fN fdN)(GN:a0F P w K mg base CX0 1 fN fdN ["thing"] (a5t K)):a0F P w K mg base CX0 2 f fd ["names"] b1p:=by
 have sc:a0o ["names","name"] ["names"] (a0f (top 20)):=.k (by decide +kernel);have bN:=DN.fn.b1 "thing" (by intros;rfl);refine F.ok sc (fun vs H Q E h=>?_) (fun cdv A outer s H vs Q E hr h=>?_)
 ·obtain⟨p,zs,rfl,_⟩:=h
  rfl
 ·obtain⟨p,zs,rfl,hp,nd,hz,q⟩:=h
  refine⟨_,a0h (a1W PassesOwn.never rfl (a1C (pv 0)) (a0v (i:=1) sc.nd rfl (Or.inl rfl))
    (a0d (a0A (a1j (a0D (a0i GN hr (by rfl) DN.mg DN.fn.kp bN .nil a0r (a0a (pv 1) a0c)))) a0j a0l)
    (a0h (a0A (a0q b5c (a8X PySem.F.plainAttrs_list PySem.F.slot_list_count PySem.F.type_list_count b1e (pv 0) (a0a (pv 1) a0c)) a0e (a0t _)) a0j a0l)))),?_⟩
  refine⟨_,rfl,p,rfl,⟨_,SqL.of hp⟩,a2K (K:=K) (a:=p) (xs:=zs.map V.str) (fun j σ H4=>a0m H H4/\∃u,σ=[some (.ref p),u]) ⟨a0m.refl H,_,rfl⟩ (fun j σ H4 _ pp=>SqL.of (pp.1 _ _ hp)) ?_ ?_⟩
  ·rintro j x σ H4 hx ⟨s4,u,rfl⟩
   obtain⟨z,hzm,rfl⟩:=mM0.mp (gI0 hx);have h8:z.length<=8:=by
    have:=hz z hzm
    unfold a1P at this;exact(of_decide_eq_true (Bool.and_eq_true_iff.mp this).1).2
   refine⟨_,rfl,_,_,rfl,Is.str,(fun z' e=>?_),(fun h=>absurd rfl h)⟩;cases e;refine⟨by rw[sizeLine_eq];omega,fun H5 s5=>⟨_,rfl,?_⟩⟩;rw[hz z hzm];refine a2b ?_;have hp5:=s5 _ _ (s4 _ _ hp);refine⟨_,rfl,.inl ⟨rfl,_,SqL.of hp5⟩,_,rfl,p,zs,z,rfl,rfl,SqL.of hp5,_,_,rfl,rfl,_,rfl,?_⟩;have hc:zs.count z<=1:=List.nodup_iff_count.mp nd z;refine a2j (dF0 (by omega)) ?_;exact⟨s4.trans s5,_,rfl⟩
  ·rintro σ H4 ⟨s4,u,rfl⟩
   exact q _ s4
theorem b2f {f fN fK:Addr}{fd fdN fdK:FuncData}(F:Fun K "columns_made" "columns_made" (top 21) f fd)(B:Bl mg)(DN:Df K mg "is_name" (top 11) fN fdN)(GN:a0F P w K mg base CX0 1 fN fdN ["thing"] (a5t K))(DK:Df K mg "is_kind" (top 15) fK fdK)(GK:a0F P w K mg base CX0 4 fK fdK ["thing"] a8A) :
  a0F P w K mg base CX0 5 f fd ["columns"] b1q:=by
 have sc:a0o ["columns","column","kind"] ["columns"] (a0f (top 21)):=.k (by decide +kernel);have bN:=DN.fn.b1 "thing" (by intros;rfl);have bK:=DK.fn.b1 "thing" (by intros;rfl);refine F.ok sc (fun vs H Q E h=>?_) (fun cdv A outer s H vs Q E hr h=>?_)
 ·obtain⟨a,cols,rfl,_⟩:=h
  rfl
 ·obtain⟨a,cols,rfl,hc,ok,q⟩:=h
  have hr1:a1r 1 _:=hr.mono (by decide);have hu:=a2E hr;refine⟨_,a0d (a7a (a1W PassesOwn.never rfl (a7C (pv 0)) (a4j rfl (a0G (a0v (i:=1) sc.nd rfl (Or.inl rfl)) (a0G (a0v (i:=2) sc.nd rfl (Or.inl rfl)) a2g)))
    (a0d (a0A (a1j (a0D (a0i GN hr1 (by rfl) DN.mg DN.fn.kp bN .nil a0r (a0a (pv 1) a0c)))) a0j a0l)
    (a0h (a0A (a1j (a0D (a0i GK hr (by rfl) DK.mg DK.fn.kp bK .nil a0r (a0a (pv 2) a0c)))) a0j a0l)))))
   (a0h (a0u (a1k a2V (by rfl) B.tuple boot_tuple (a0a (a1Z (osc:=a0f (top 21)) (N0:=["columns","column","kind"]) (xs:=["column"]) (fr:=[0]) ⟨rfl,by decide +kernel,by decide +kernel,by decide +kernel,(fun j hj=>by
       have e:j=0:=by simpa using hj
       subst e;exact⟨_,rfl,by decide +kernel⟩),by decide +kernel⟩ rfl rfl rfl (a1C (a0k (a3o rfl) (by rfl) B.sorted boot_sorted (a0a (pv 0) a0c)))
      (fun s H fp=>a0v (i:=0) (show(["column","columns"]:List Str).Nodup by decide +kernel) rfl (Or.inl rfl)) (fun s H fp=>a1E)
      (fun s H fp=>a0M (a0a (pv 0) (a0a (a1F hu (pv 1) (pv 0) (fun _ _=>rfl)) a0c)))) a0c)))),?_⟩
  refine⟨a,_,hc,fun o=>?_⟩;have hfa:(upd H a (.frz o (.dK (kvC cols)))) a=some (.frz o (.dK (kvC cols))):=a0b;have back:∀H1:Hp,a0m H (upd H1 a (.dK (kvC cols)))\/¬a0m (upd H a (.frz o (.dK (kvC cols)))) H1:=fun H1=>by
   by_cases e:a0m (upd H a (.frz o (.dK (kvC cols)))) H1
   ·refine .inl fun b u hb=>?_
    by_cases eb:b=a
    ·subst eb
     rw[hc] at hb;rw[<-hb];exact a0b
    ·rw[a0g eb]
     exact e b u (by rw[a0g eb];exact hb)
   ·exact .inr e
  refine⟨_,rfl,a,o,_,rfl,hfa,a5M (a:=a) (o:=o) (kvs:=kvC cols) (fun i σ H1=>a0m (upd H a (.frz o (.dK (kvC cols)))) H1/\∃u1 u2,σ=[some (.ref a),u1,u2]) ⟨a0m.refl _,_,_,rfl⟩ (fun i σ H1 _ p=>p.1 _ _ hfa) ?_ ?_⟩
  ·rintro i k v p σ H1 hk ⟨s1,u1,u2,rfl⟩ hp
   obtain⟨⟨z,v'⟩,hm,e⟩:=mM0.mp (gI0 hk);cases e;obtain⟨hn,d,hd,hkd,hnd⟩:=ok.2.2 _ hm;have h8:z.length<=8:=by
    unfold a1P at hn;exact(of_decide_eq_true (Bool.and_eq_true_iff.mp hn).1).2
   have T:=a0m.upd (o:=.tup [kV (.inr z),v']) hp;refine⟨p,_,rfl,SqT.of a0b,rfl,_,_,rfl,_,_,rfl,rfl,?_⟩;refine⟨_,rfl,_,_,rfl,Is.str,(fun z' e=>?_),(fun h=>absurd rfl h)⟩;cases e;refine⟨by show z.length<=sizeLine;rw[sizeLine_eq];omega,fun H5 s5=>⟨_,rfl,?_⟩⟩;rw[hn];refine a2b ?_;have S5:=s1.trans (T.trans s5);refine⟨_,rfl,_,d,rfl,(Rep.beside (fun xs h=>by rw[hc] at h;cases h) hnd hd).same S5,fun H6 s6=>⟨_,rfl,?_⟩⟩;rw[hkd];refine a2b ?_;exact⟨S5.trans s6,_,_,rfl⟩
  ·rintro σ H1 ⟨s1,u1,u2,rfl⟩
   refine⟨s1 _ _ hfa,?_⟩;have S1:a0m H (L2.upd H1 a (.dK (kvC cols))):=by
    rcases back H1 with h |h
    ·exact h
    ·exact absurd s1 h
   generalize L2.upd H1 a (.dK (kvC cols))=H2 at S1 ⊢;have hc2:=S1 _ _ hc;have hkm:(kvC cols).map (·.1)=(cols.map (·.1)).map Sum.inr:=by
    unfold kvC;rw[mC0,mC0]
    rfl
   refine⟨_,rfl,a,_,_,rfl,.inl hc2,hkm,(by rw[lM0];have:=ok.2.1;omega),fun l zs hl hpm hso=>?_⟩;have T3:=a0m.upd (o:=.lst (zs.map V.str)) hl;have S3:=S1.trans T3;refine⟨l,rfl,⟨_,SqL.of a0b⟩,fun D hD=>?_⟩;have hD0:H D=none:=by
    cases e:H D with
    |none=>rfl
    |some o=>rw[S3 _ _ e] at hD;cases hD
   have hlD:l≠D:=fun e=>by rw[<-e,a0b] at hD;cases hD
   have hzl:zs.length<=12:=by
    have:=hpm.length_eq
    rw[lM0] at this
    have:=ok.2.1
    omega
   refine a1M zs.length (fun i ys σ' Hc=>(∃t,σ'=[t,some (.ref a)])/\a0m H Hc/\Hc l=some (.lst (zs.map V.str))/\∃ps:List Addr,ys=ps.map V.ref/\∀(j:Nat) (p:Addr) (z:Str),ps[j]? =some p->zs[j]? =some z->Hc p=some (.tup [.str z,vOf cols z])) (by rw[sizeLine_eq];omega) ⟨⟨none,rfl⟩,S3.trans (a0m.upd hD),(a0m.upd hD) _ _ a0b,[],rfl,fun j p z h=>nomatch h⟩ a0b ?_ ?_
   ·rintro i σ' Hc ys hi ⟨⟨t,rfl⟩,sm,hlc,ps,rfl,hps⟩ hyl hD'
    rw[lM0] at hyl;refine⟨⟨_,V.str zs[i],SqL.of hlc,by rw[gM0,gE0 hi];rfl⟩,?_⟩;rintro x H' ⟨rfl,hx'⟩;have ex:=hx' _ (SqL.of hlc);rw[gM0,gE0 hi] at ex;cases ex;have hzm:zs[i]∈cols.map (·.1):=hpm.mem_iff.mp (gQ0 hi);refine⟨_,rfl,_,rfl,_,rfl,a,_,rfl,.inl ⟨_,.inr zs[i],.inl (sm _ _ hc),rfl,(a7v hzm).symm⟩,(by show 2<=sizeLine;decide),fun p hp=>?_⟩;have T:=a0m.upd (o:=.tup [.str zs[i],vOf cols zs[i]]) hp;have hpD:p≠D:=fun e=>by rw[e,hD'] at hp;cases hp
    refine⟨T _ _ hD',⟨_,rfl⟩,(sm.trans T).put hD0,by rw[a0g hlD];exact T _ _ hlc,ps++[p],by rw[mA0];rfl,fun j p' z' h1 h2=>?_⟩
    by_cases hj:j<ps.length
    ·rw[gL0 hj] at h1
     have hh:=hps j p' z' h1 h2;have hne:p'≠D:=fun e=>by rw[e,hD'] at hh;cases hh
     rw[a0g hne];exact T _ _ hh
    ·have hj':j=ps.length:=by
      have:=(gS0.mp h1).1
      rw[lA0] at this;simp at this
      omega
     subst hj';rw[gR0 (nR0 _),Nat.sub_self] at h1;cases h1;rw[hyl,gE0 hi] at h2;cases h2;rw[a0g hpD];exact a0b
   ·rintro σ' Hc ys ⟨_,sm,hlc,ps,rfl,hps⟩ hDn hyl
    rw[lM0] at hyl;refine⟨⟨_,SqL.of hlc,by rw[lM0];exact nR0 _⟩,?_⟩;refine⟨D,_,rfl,SqL.of hDn,fun t o2 ht ho2=>?_⟩;have T:=a0m.upd (o:=.frz o2 (.tup (ps.map V.ref))) ht;exact q t _ (sm.trans T) ⟨o2,ps,zs,hpm,hso,ho2,a0b,hyl,fun j p z h1 h2=>T _ _ (hps j p z h1 h2)⟩
structure Tb where
 name:Str
 sort:Str
 cols:List (Str×V)
def a2q (H:Hp)(e:Addr)(T:Tb):Prop:=∃ct,H e=some (.tup [.str T.name,.str T.sort,.ref ct])/\a1z H ct T.cols
def a0W (H:Hp)(f:Addr)(sz:Int)(Ts:List Tb):Prop:=∃(tt:Addr) (es:List Addr),H f=some (.tup [.int sz,.ref tt])/\H tt=some (.tup (es.map V.ref))/\es.length=Ts.length/\∀(j:Nat) (e:Addr) (T:Tb),es[j]? =some e->Ts[j]? =some T->a2q H e T
theorem a2q.same {H H':Hp}{e:Addr}{T:Tb}(h:a2q H e T)(s:a0m H H'):a2q H' e T:=by
 obtain⟨ct,h1,h2⟩:=h;exact⟨ct,s _ _ h1,h2.same s⟩
theorem a0W.same {H H':Hp}{f:Addr}{sz:Int}{Ts:List Tb}(h:a0W H f sz Ts)(s:a0m H H'):a0W H' f sz Ts:=by
 obtain⟨tt,es,h1,h2,h3,h4⟩:=h;exact⟨tt,es,s _ _ h1,s _ _ h2,h3,fun j e T a b=>(h4 j e T a b).same s⟩
def a8s:Sp:=fun vs H Q _=>∃(f:Addr) (sz:Int) (Ts:List Tb),vs=[.ref f]/\a0W H f sz Ts/\Ts.length<=8/\∀p H',H p=none->a0m H H'->H' p=some (.lst ((Ts.map (·.name)).map V.str))->Q (.ref p) H'
def a5x:Sp:=fun vs H Q _=>∃(f:Addr) (sz:Int) (T:Tb) (Ts:List Tb),vs=[.ref f]/\a0W H f sz (T::Ts)/\Q (.str T.name) H
def a3l:Sp:=fun vs H Q _=>∃(f:Addr) (sz:Int) (Ts:List Tb) (T:Tb),vs=[.ref f,.str T.name]/\a0W H f sz Ts/\(Ts.map (·.name)).Nodup/\T∈Ts/\∀e,a2q H e T->Q (.ref e) H
def a7o:Sp:=fun vs H Q _=>∃(f:Addr) (sz:Int) (Ts:List Tb) (T:Tb),vs=[.ref f,.str T.name]/\a0W H f sz Ts/\(Ts.map (·.name)).Nodup/\T∈Ts/\Q (.str T.sort) H
def a3i:Sp:=fun vs H Q _=>∃(f:Addr) (sz:Int) (Ts:List Tb) (T:Tb),vs=[.ref f,.str T.name]/\a0W H f sz Ts/\(Ts.map (·.name)).Nodup/\T∈Ts/\(T.cols.map (·.1)).Nodup/\T.cols.length<=12 ∧
 ∀(p:Addr) (H':Hp) (zs:List Str),H p=none->a0m H H'->zs.Perm (T.cols.map (·.1))->sortedS zs=true->H' p=some (.dK (zs.map fun z=>(.inr z,vOf T.cols z)))->Q (.ref p) H'
theorem a9o {f:Addr}{fd:FuncData}(F:Fun K "tables_of" "tables_of" (top 22) f fd):a0F P w K mg base CX0 1 f fd ["form"] a8s:=by
 have sc:a0o ["form"] ["form"] (a0f (top 22)):=.k (by decide +kernel);refine F.ok sc (fun vs H Q E h=>?_) (fun cdv A outer s H vs Q E hr h=>?_)
 ·obtain⟨f,sz,Ts,rfl,_⟩:=h
  rfl
 ·obtain⟨f,sz,Ts,rfl,⟨tt,es,h1,h2,h3,h4⟩,h8,q⟩:=h
  refine⟨_,a0h (a0u (a1Z (osc:=a0f (top 22)) (N0:=["form"]) (xs:=["entry"]) (fr:=[]) ⟨rfl,by decide +kernel,by decide +kernel,by decide +kernel,by decide,by decide +kernel⟩ rfl rfl rfl (a7B (a0x a0P (pv 0) a0e (fun _ _=>rfl)))
    (fun s H fp=>a0v (i:=0) (show(["entry"]:List Str).Nodup by decide +kernel) rfl (Or.inl rfl)) (fun s H fp=>a1E) (fun s H fp=>a0x (r:=b3q K) a0P (pv 0) a0e (fun _ _=>rfl)))),?_⟩
  refine⟨_,rfl,_,_,1,_,rfl,rfl,SqT.of h1,rfl,tt,rfl,⟨_,SqT.of h2⟩,fun D hD=>?_⟩;refine a2C Ts.length (fun i=>.str ((Ts.map (·.name)).getD i "")) (fun i σ' Hc=>(∃t,σ'=[t])/\a0m H Hc) (by rw[sizeLine_eq];omega) ⟨⟨none,rfl⟩,a0m.upd hD⟩ a0b ?_ ?_
  ·rintro i σ' Hc hi ⟨⟨t,rfl⟩,sm⟩ hD'
   have hie:i<es.length:=by omega
   refine⟨⟨_,V.ref es[i],SqT.of (sm _ _ h2),by rw[gM0,gE0 hie];rfl⟩,?_⟩;rintro x H' ⟨rfl,hx'⟩;have ex:=hx' _ (SqT.of (sm _ _ h2));rw[gM0,gE0 hie] at ex;cases ex;obtain⟨ct,g1,_⟩:=h4 i es[i] Ts[i] (gE0 hie) (gE0 hi);refine⟨_,rfl,_,_,0,_,rfl,rfl,SqT.of (sm _ _ g1),rfl,?_,hD',⟨_,rfl⟩,sm.put hD⟩;rw[List.getD_eq_getElem?_getD,gM0,gE0 hi]
   rfl
  ·rintro σ' Hc ⟨_,sm⟩ hDn
   refine⟨⟨_,SqT.of (sm _ _ h2),by rw[lM0];omega⟩,q D Hc hD sm ?_⟩
   have:=a1I (Ts.map (·.name)) ("":Str) (fun z=>V.str z)
   rw[lM0] at this;rw[hDn,this]
theorem a5a {f:Addr}{fd:FuncData}(F:Fun K "table_in" "table_in" (top 26) f fd):a0F P w K mg base CX0 1 f fd ["form","table"] a3l:=by
 have sc:a0o ["form","table","entry"] ["form","table"] (a0f (top 26)):=.k (by decide +kernel);refine F.ok sc (fun vs H Q E h=>?_) (fun cdv A outer s H vs Q E hr h=>?_)
 ·obtain⟨f,sz,Ts,T,rfl,_⟩:=h
  rfl
 ·obtain⟨f,sz,Ts,T,rfl,⟨tt,es,h1,h2,h3,h4⟩,nd,hT,q⟩:=h
  refine⟨_,a0d (a1W PassesOwn.never rfl (a7B (a0x a0P (pv 0) a0e (fun _ _=>rfl))) (a0v (i:=2) sc.nd rfl (Or.inl rfl))
    (a0h (a0A (a0q a1o (a0x a0P (pv 2) a0e (fun _ _=>rfl)) (pv 1) (a0t _)) (a0h (a0u (pv 2))) a0l))) a0j,?_⟩
  refine⟨_,rfl,_,_,1,_,rfl,rfl,SqT.of h1,rfl,tt,rfl,⟨_,SqT.of h2⟩,b2U (K:=K) (a:=tt) (xs:=es.map V.ref) (fun i σ H'=>H'=H/\(∃u,σ=[some (.ref f),some (.str T.name),u])/\∀j T',j<i->Ts[j]? =some T'->T'.name≠T.name) ⟨rfl,⟨_,rfl⟩,fun j _ hj=>absurd hj (Nat.not_lt_zero _)⟩ (fun i σ H' _ p=>by rw[p.1];exact SqT.of h2) ?_ ?_⟩
  ·rintro i x σ H' hx ⟨rfl,⟨u,rfl⟩,hn⟩
   have hie:i<es.length:=by
    have:=(gS0.mp hx).1
    rwa [lM0] at this
   have hit:i<Ts.length:=by omega
   rw[gM0,gE0 hie] at hx;cases hx;have ent:=h4 i es[i] Ts[i] (gE0 hie) (gE0 hit);obtain⟨ct,g1,g2⟩:=id ent;refine⟨_,rfl,_,_,0,_,rfl,rfl,SqT.of g1,rfl,_,rfl,rfl,_,rfl,?_⟩;refine a4q (fun hc=>?_) (fun hc=>?_)
   ·have en:Ts[i].name=T.name:=by
     have:=of_decide_eq_true hc
     injection this
    have eT:Ts[i]=T:=by
     obtain⟨k,hk,ek⟩:=List.mem_iff_getElem.mp hT
     have:i=k:=by
      refine(List.getElem_inj (h₀:=by rw[lM0];exact hit) (h₁:=by rw[lM0];exact hk) nd).mp ?_;rw[List.getElem_map,List.getElem_map,ek,en]
     subst this;exact ek
    rw[eT] at ent;exact⟨_,rfl,q _ ent⟩
   ·refine⟨rfl,⟨_,rfl⟩,fun j T' hj hT'=>?_⟩
    by_cases hji:j<i
    ·exact hn j T' hji hT'
    ·have:j=i:=by omega
     subst this;rw[gE0 hit] at hT';cases hT';exact fun e=>hc (by rw[e];exact dT0 rfl)
  ·rintro σ H' ⟨rfl,⟨u,rfl⟩,hn⟩
   obtain⟨k,hk,ek⟩:=List.mem_iff_getElem.mp hT;exact absurd rfl (hn k T (by rw[lM0];omega) (by rw[gE0 hk,ek]))
theorem a8r {f fT:Addr}{fd fdT:FuncData}(F:Fun K "sort_of" "sort_of" (top 24) f fd)(DT:Df K mg "table_in" (top 26) fT fdT):a0F P w K mg base CX0 2 f fd ["form","table"] a7o:=by
 have sc:a0o ["form","table"] ["form","table"] (a0f (top 24)):=.k (by decide +kernel);have GT:a0F P w K mg base CX0 1 fT fdT ["form","table"] a3l:=a5a DT.fn;have bT:=DT.fn.b2 "form" "table" (by intros;rfl);refine F.ok sc (fun vs H Q E h=>?_) (fun cdv A outer s H vs Q E hr h=>?_)
 ·obtain⟨f,sz,Ts,T,rfl,_⟩:=h
  rfl
 ·obtain⟨f,sz,Ts,T,rfl,hf,nd,hT,q⟩:=h
  refine⟨_,a0h (a0u (a0x a0P (a0i GT hr (by rfl) DT.mg DT.fn.kp bT .nil a0r (a0a (pv 0) (a0a (pv 1) a0c))) a0e (fun _ _=>rfl))),?_⟩;refine⟨_,rfl,_,rfl,f,sz,Ts,T,rfl,hf,nd,hT,fun e he=>?_⟩;obtain⟨ct,g1,_⟩:=he;exact⟨_,_,1,_,rfl,rfl,SqT.of g1,rfl,q⟩
theorem a6b {f fT:Addr}{fd fdT:FuncData}(F:Fun K "columns_of" "columns_of" (top 25) f fd)(B:Bl mg)(DT:Df K mg "table_in" (top 26) fT fdT):a0F P w K mg base CX0 2 f fd ["form","table"] a3i:=by
 have sc:a0o ["form","table"] ["form","table"] (a0f (top 25)):=.k (by decide +kernel);have GT:a0F P w K mg base CX0 1 fT fdT ["form","table"] a3l:=a5a DT.fn;have bT:=DT.fn.b2 "form" "table" (by intros;rfl);refine F.ok sc (fun vs H Q E h=>?_) (fun cdv A outer s H vs Q E hr h=>?_)
 ·obtain⟨f,sz,Ts,T,rfl,_⟩:=h
  rfl
 ·obtain⟨f,sz,Ts,T,rfl,hf,nd,hT,ndc,c12,q⟩:=h
  refine⟨_,a0h (a0u (a1k (a4z rfl) (by rfl) B.dict boot_dict (a0a (a0x a0P (a0i GT hr (by rfl) DT.mg DT.fn.kp bT .nil a0r (a0a (pv 0) (a0a (pv 1) a0c))) a0e (fun _ _=>rfl)) a0c))),?_⟩;refine⟨_,rfl,_,rfl,f,sz,Ts,T,rfl,hf,nd,hT,fun e he=>?_⟩;obtain⟨ct,g1,o,ps,zs,hpm,hso,ho,hct,hpl,hpz⟩:=he;have hzl:zs.length<=12:=by
   have:=hpm.length_eq
   rw[lM0] at this
   omega
  refine⟨_,_,2,_,rfl,rfl,SqT.of g1,rfl,ct,o,_,zs.map (fun z=>(.inr z,vOf T.cols z)),rfl,hct,ho,(by rw[lM0];omega),(by rw[lM0,lM0];omega),(fun j k v hj=>?_),?_,fun p hp=>q p _ zs hp (a0m.upd hp) hpm hso a0b⟩
  ·have hjz:j<zs.length:=by
    have:=(gS0.mp hj).1
    rwa [lM0] at this
   have hjp:j<ps.length:=by omega
   rw[gM0,gE0 hjz] at hj;cases hj;exact⟨ps[j],by rw[gM0,gE0 hjp];rfl,SqT.of (hpz j ps[j] zs[j] (gE0 hjp) (gE0 hjz))⟩
  ·rw[mC0]
   have e:((fun x:Key×V=>x.1)∘fun z=>((Sum.inr z:Key),vOf T.cols z))=fun z=>(Sum.inr z:Key):=rfl;rw[e];exact List.Pairwise.map _ (fun a b hab h=>hab (by injection h)) (hpm.nodup_iff.mpr ndc)
end
end My
namespace L2
open PySem PySem.Spec PyProof.Rows
def b2a (tabs:List Addr)(H:Hp):Prop:=(∀b,H b=none\/(∃o xs,H b=some (.frz o (.lst xs)))\/(b∈tabs/\H b=some (.tbl #[])))/\∀b∈tabs,H b=some (.tbl #[])
def a5A (h:Heap)(mg:Str->Option Value):Prop:=∃bm ob,mg "__builtins__"=some (.ref bm)/\bm≠builtinsNs/\h.get? bm=some ob/\ob.cls=.type "module"/\ob.dict=some builtinsNs/\ob.data=.plain
theorem a9P {P:Program}{w:World}{K:Fg0}{mg mb:Str->Option Value}{CX:CXT}{k:Nat}{fa a:Addr}{fd:FuncData}{x:Str}{sp:Sp}{s₁:Shared}{vs:List Value}{ns:List Int}{tabs:List Addr}
  (KX:K.In s₁.heap) (hns:s₁.heap.Ns mainGlobals mg) (hb:s₁.heap.Ns builtinsNs mb) (hbb:∀x:Str,x≠"__name__"->mb x=bootBuiltins x) (hlim:s₁.heap.NoLimit) (hg:s₁.gens=#[])
  (ha:s₁.heap.get? a=some { cls:=.type "list",data:=.seq vs.toArray }) (hi:IntsAre vs ns) (hl:ns.length<=sizeLine) (hr:a1r k callerA)
  (hT:∀b∈tabs,(∃c,s₁.heap.TableAt c b #[])/\K.lookup b=none)
  (hbm:a5A s₁.heap mg)
  (F:∀base:Heap,K.In base->base.Ns mainGlobals mg->a5A base mg->a0F P w K mg base CX k fa fd [x] sp) (hbind:∀(s:Shared) (u:Value),BindsTo s fd ⟨[u],[]⟩ [(x,u)])
  (hsp:∀H:Hp,b2a tabs H->SqL K H a (ns.map V.int)->sp [.ref a] H (fun v _=>v=.bl true) fun _ _ _=>False)
  (hCX:∀H e s',CX [] H s₁ (fun _ _ _=>False) e s'->False) :
  codeAny (model P w) callerA (.call (.ref fa) ⟨[.ref a],[]⟩) (fun r s'=>r=.ok (.ret (.bool true))/\OldK s₁.heap s'.heap/\s'.os=s₁.os/\AllBare s'.gens) s₁:=by
 have rv:=a3L hi;have lenV:=hi.length;have tabG:∀b∈tabs,s₁.heap.get? b=some (PySem.W.tabObj #[]):=fun b hb=>(hT b hb).1.elim fun c h=>h.2;have core:∀H:Hp,b2a tabs H->SqL K H a (ns.map V.int)->HOk P w H s₁.heap->(∀b,H b≠none->b=a\/b∈tabs)->(H a≠none->K.lookup a=none) →
   codeAny (model P w) callerA (.call (.ref fa) ⟨[.ref a],[]⟩) (fun r s'=>r=.ok (.ret (.bool true))/\OldK s₁.heap s'.heap/\s'.os=s₁.os/\AllBare s'.gens) s₁:=by
  intro H hO hS hok hA hK;have base_of:∀{b:Addr} {o:Obj},s₁.heap.get? b=some o->H b=none->(a6I s₁.heap H).get? b=some o:=fun e n=>a7p e n;have noA:∀{b:Addr} {o:Obj} {es:Array DictEntry} {ep:Nat},s₁.heap.get? b=some o->o.data=.dict es ep->H b=none:=fun {b o es ep} e d=>by
   cases q:H b with
   |none=>rfl
   |some u=>
    rcases hA b (by rw[q];simp) with e' |e'
    ·subst e'
     rw[ha] at e;cases e;have d':Data.seq vs.toArray _=Data.dict es ep:=d;cases d'
    ·rw[tabG b e'] at e;cases e
     have d':Data.fields #[]=Data.dict es ep:=d;cases d'
  have nsK:∀{b:Addr} {m:Str->Option Value},s₁.heap.Ns b m->(a6I s₁.heap H).Ns b m:=fun {b m} ⟨o,es,ep,e,d,r⟩=>⟨o,es,ep,base_of e (noA e d),d,r⟩;have hKb:K.In (a6I s₁.heap H):=fun b o e=>base_of (KX b o e) (by
   cases q:H b with
   |none=>rfl
   |some u=>
    rcases hA b (by rw[q];simp) with e' |e'
    ·subst e'
     rw[hK (by rw[q];simp)] at e;cases e
    ·rw[(hT b e').2] at e;cases e)
  have hM:Mod K mg (a6I s₁.heap H):=⟨hKb,nsK hns,⟨mb,nsK hb,hbb⟩,let ⟨mc,h1,h2⟩:=hlim;⟨mc,nsK h1,h2⟩⟩;have e0:a7n P w K mg (a6I s₁.heap H) callerA [] s₁ H:=⟨rfl,hM,fun b o e=>a8V e,Nat.le_of_eq (a5z _ _),trivial,fun b hb=>absurd (show b∈([]:List Addr) from hb) (by simp),hok,.of_eq hg⟩;have hB:a5A (a6I s₁.heap H) mg:=by
   obtain⟨bm,ob,b1,b2,b3,b4,b5,b6⟩:=hbm;refine⟨bm,ob,b1,b2,base_of b3 ?_,b4,b5,b6⟩;cases q:H bm with
   |none=>rfl
   |some u=>
    rcases hA bm (by rw[q];simp) with e' |e'
    ·rw[e',ha] at b3
     cases b3;cases b6
    ·rw[tabG bm e'] at b3
     cases b3;cases b6
  refine codeAny_mono ((F _ hKb (nsK hns) hB).run callerA [] s₁ H ⟨[.ref a],[]⟩ [.ref a] [.ref a] _ _ hr e0 (hbind s₁ (.ref a)) (.cons rfl .nil) (hsp H hO hS)) fun r s' h=>?_;cases r with
  |error e=>exact(hCX H e s' h).elim
  |ok fl=>
   cases fl with
   |next=>exact False.elim h
   |brk=>exact False.elim h
   |cont=>exact False.elim h
   |ret u=>
    obtain⟨v,H',os,bare,un,hok',r',q⟩:=h;have q':v=.bl true:=q;subst q';obtain rfl:u=Value.bool true:=r';refine⟨rfl,⟨fun b o e=>?_,fun b o e=>un.there b o e (by simp)⟩,os,bare⟩;cases q:H b with
    |none=>exact .inl (un.keep b o e q (by intro z;exact absurd (show b∈([]:List Addr) from z) (by simp)) (by simp))
    |some u=>
     rcases hO.1 b with z |⟨ob,xs,z⟩ |⟨hb,z⟩
     ·rw[q] at z;cases z
     ·have z2:=un.frzs b ob _ z
      obtain⟨e1,_⟩:=hok b _ z;obtain⟨e2,_⟩:=hok' b _ z2;rw[e] at e1;cases e1;exact .inl e2
     ·obtain⟨more,z2⟩:=un.tbls b _ z
      have e2:=hok' b _ z2;obtain⟨c,ht⟩:=(hT b hb).1;rw[tabG b hb] at e;cases e;exact .inr (.inl ⟨ht.isCodeTable,rfl,#[],more,rfl,e2⟩)
 have na:a∉tabs:=fun z=>by
  have e:=tabG a z;rw[ha] at e;have e':=congrArg Obj.data (Option.some.inj e);have e2:Data.seq vs.toArray 0=Data.fields #[]:=e';cases e2
 cases hk:K.lookup a with
 |some o=>
  have e:=KX a o hk;rw[ha] at e;cases e;refine core (fun b=>if b∈tabs then some (.tbl #[]) else none) ⟨fun b=>?_,fun b hb=>if_pos hb⟩ (.inr ⟨_,vs.toArray,_,hk,rfl,rfl,rfl,by rw[List.size_toArray,lenV];exact hl,by simpa using rv⟩) (fun b u z=>?_) (fun b z=>?_) (fun z=>absurd (if_neg na) z)
  ·by_cases hb:b∈tabs
   ·exact .inr (.inr ⟨hb,if_pos hb⟩)
   ·exact .inl (if_neg hb)
  ·by_cases hb:b∈tabs
   ·have z':=(if_pos hb).symm.trans z
    cases z';exact tabG b hb
   ·have z':=(if_neg hb).symm.trans z
    cases z'
  ·by_cases hb:b∈tabs
   ·exact .inr hb
   ·exact absurd (if_neg hb) z
 |none=>
  refine core (fun b=>if b∈tabs then some (.tbl #[]) else if b=a then some (.frz { cls:=.type "list",data:=.seq vs.toArray } (.lst (ns.map V.int))) else none) ⟨fun b=>?_,fun b hb=>if_pos hb⟩ (.inl (.inr ⟨{ cls:=.type "list",data:=.seq vs.toArray },by
   show(if a∈tabs then _ else if a=a then _ else _)=_
   rw[if_neg na,if_pos rfl]⟩)) (fun b u z=>?_) (fun b z=>?_) (fun _=>hk)
  ·by_cases hb:b∈tabs
   ·exact .inr (.inr ⟨hb,if_pos hb⟩)
   ·by_cases hb2:b=a
    ·refine .inr (.inl ⟨{ cls:=.type "list",data:=.seq vs.toArray },ns.map V.int,?_⟩)
     show(if b∈tabs then _ else if b=a then _ else _)=_
     rw[if_neg hb,if_pos hb2]
    ·refine .inl ?_
     show(if b∈tabs then _ else if b=a then _ else _)=_
     rw[if_neg hb,if_neg hb2]
  ·have z0:(if b∈tabs then some (HO.tbl #[]) else if b=a then some (.frz { cls:=.type "list",data:=.seq vs.toArray } (.lst (ns.map V.int))) else none)=some u:=z
   by_cases hb:b∈tabs
   ·rw[if_pos hb] at z0
    cases z0;exact tabG b hb
   ·rw[if_neg hb] at z0
    by_cases hb2:b=a
    ·rw[if_pos hb2] at z0
     cases z0;subst hb2;exact⟨ha,by rw[lM0];exact hl,vs,_,rv,ha⟩
    ·rw[if_neg hb2] at z0
     cases z0
  ·by_cases hb:b∈tabs
   ·exact .inr hb
   ·by_cases hb2:b=a
    ·exact .inl hb2
    ·refine absurd ?_ z
     show(if b∈tabs then _ else if b=a then _ else _)=_
     rw[if_neg hb,if_neg hb2]
theorem b3v {K:Fg0}{h:Heap}{c P:Addr}(X:K.In h)(g:h.get? P=some (PySem.W.tabObj #[]))(e:PySem.W.codeHdIn K c P=true)(n:K.lookup P=none):(∃c,h.TableAt c P #[])/\K.lookup P=none:=
 ⟨⟨c,(PySem.W.codeHd_of_K X e).tab g⟩,n⟩
theorem b0S {l:PySem.W.OpenLaw}{n k:Nat}{q:Program}{loose:List Str}{XP:(Str->Option Value)->Heap->Prop}{YP:World->Heap->Prop}{d:DefRec}{K:Params->Fg0}{CX:World->CXT}{sp:World->Sp}{x:Str}{tx:World->List Addr}
  (hn:l.most=some n) (hn2:n<=sizeLine) (hdf:d.params.defaults=[]) (hr:a1r k callerA)
  (hY:∀(w:World) (h:Heap),YP w h->(K w.params).In h)
  (hT:∀(w:World) (h:Heap),YP w h->∀b∈tx w,(∃c,h.TableAt c b #[])/\(K w.params).lookup b=none)
  (F:∀(w:World) (mg:Str->Option Value) (fa:Addr) (h:Heap),(K w.params).In h->h.Ns mainGlobals mg->mg d.name=some (.ref fa) →
   ∃fd:FuncData,(∀(s:Shared) (u:Value),BindsTo s fd ⟨[u],[]⟩ [(x,u)]) ∧
    ∀base:Heap,(K w.params).In base->base.Ns mainGlobals mg->a5A base mg->a0F l.prog w (K w.params) mg base (CX w) k fa fd [x] (sp w))
  (hsp:∀(w:World) (H:Hp) (a:Addr) (ns:List Int),ns.length<=n->b2a (tx w) H->SqL (K w.params) H a (ns.map V.int)->sp w [.ref a] H (fun v _=>v=.bl true) fun _ _ _=>False)
  (hCX:∀(w:World) (H:Hp) (s:Shared) (e:Value) (s':Shared),CX w [] H s (fun _ _ _=>False) e s'->False) :
  PySem.W.WalkO q loose XP YP l.row.toRowW d [] (fun f vs=>PySem.call f vs):=by
 refine Att.a4c hn hdf fun w s₀ s₁ mg mb fa o pm cd doc a vs ns G Y ho hd hcd hmg hobj hints hlen hg=>?_;have KX:=hY w _ Y;obtain⟨fd,hb,hF⟩:=F w mg fa _ KX G.T.g hmg;exact a9P KX G.T.g G.T.b G.T.builtins G.T.nolimit hg hobj hints (Nat.le_trans hlen hn2) hr (hT w _ Y) G.T.bmain hF hb (fun H hO hS=>hsp w H a ns hlen hO hS) fun H e s'=>hCX w H s₁ e s'
def a4n (c:Addr)(q:Str)(h:Heap):Prop:=h.CodeRec (.ref c) q
def a9N (f:Addr)(q:Str)(params:Arguments)(body:Expr)(scope:Scope)(pm:Value)(c':Addr)(h:Heap):Prop:=∃ctv,h.get? f=some (PySem.W.kla_obj "<lambda>" q params body scope [] pm c' ctv)
section
variable {P:Program}{w:World}{H:Hp}{h:Heap}{f c:Addr}{q:Str}{params:Arguments}{body:Expr}{scope:Scope}{pm:Value}
theorem b0n (e:h.CodeRec (.ref c) q):a1l P w H h c (.ext (a4n c q)):=by
 refine⟨e,?_,fun h1 h2 x k=>?_⟩
 ·obtain⟨c',o,vs,t,e1,e2,_⟩:=e
  cases e1;exact⟨o,e2⟩
 ·obtain⟨c',o,vs,t,e1,e2,e3⟩:=x
  cases e1;exact⟨c,o,vs,t,rfl,k o e2,e3⟩
theorem a8u {ctv:Value}(e:h.get? f=some (PySem.W.kla_obj "<lambda>" q params body scope [] pm c ctv)):a1l P w H h f (.ext (a9N f q params body scope pm c)):=⟨⟨ctv,e⟩,⟨_,e⟩,fun _ _ ⟨ctv,e⟩ k=>⟨ctv,k _ e⟩⟩
end
def b6s (P:Addr)(pos:Pos)(q:Str)(params:Arguments)(body:Expr)(scope:Scope)(pm:Value):TE:=fun σ H Q=>∃ps,H P=some (.tbl ps)/\TriplesOk ps.toList ∧
 ((codeAmong pos ps.toList=none/\∀c' f,H c'=none->H f=none->c'≠f->c'≠P->f≠P->Q (.ref f) (upd (upd (upd H P (.tbl (ps++#[rawInt pos.line,rawInt pos.col,.ref c']))) c' (.ext (a4n c' q))) f (.ext (a9N f q params body scope pm c')))) ∨
  ∃c',codeAmong pos ps.toList=some (.ref c')/\∀f,H f=none->Q (.ref f) (upd H f (.ext (a9N f q params body scope pm c'))))
section
variable {X:Cx}{params:Arguments}{body:Expr}{scope:Scope}{pos:Pos}{c P:Addr}
theorem b3I (hcode:X.env.code=.ref c)(hC:PySem.W.codeHdIn X.K c P=true)(hB:a5A X.base X.mg)(hcl:closureFor scope X.env=pure []:=by rfl)(hdef:defaultsOf params X.env=([],[]):=by rfl) :
  PE X (.Lambda params body scope pos) (b6s P pos (X.env.qual++"<lambda>") params body scope ((X.mg "__name__").getD .none)):=by
 intro pins s σ H Q I h;obtain⟨ps,hp,tr,h⟩:=h;have hg:s.heap.Ns mainGlobals X.mg:=I.mod.glob.keeps I.bk;have C:=PySem.W.codeHd_of_K I.kIn hC;have hP:s.heap.get? P=some (PySem.W.tabObj ps):=I.hok P _ hp;have hgP:mainGlobals≠P:=fun z=>by
  obtain⟨o,es,ep,e,d,_⟩:=id hg;rw[z,hP] at e;cases e;cases d
 have hb:s.heap.BuiltinsAt X.mg P:=by
  obtain⟨bm,ob,b1,b2,b3,b4,b5,b6⟩:=hB;have b3':=I.bk _ _ b3;refine⟨bm,ob,b1,b2,fun z=>?_,fun z=>?_,b3',b4,b5,b6⟩
  ·obtain⟨o,es,ep,e,d,_⟩:=id hg
   rw[z,e] at b3';cases b3';rw[d] at b6;cases b6
  ·rw[z,hP] at b3'
   cases b3';cases b6
 refine PySem.W.kla_eval hdef ?_;rcases h with ⟨hnf,q⟩ |⟨c',hf,q⟩
 ·refine PySem.W.kla_makeFunction hcl I.ok.glob hg hcode C hP tr hnf hgP hb fun c' ctv h' tk hx hge hlt hrec htb=>?_
  have hcN:H c'=none:=I.hok.fresh hge;have hfN:H h'.objs.size=none:=I.hok.fresh (Nat.le_trans hge (Nat.le_of_lt hlt));have cf:c'≠h'.objs.size:=nL0 hlt;have cP:c'≠P:=fun z=>by rw[z,hp] at hcN;cases hcN
  have fP:h'.objs.size≠P:=fun z=>by rw[z,hp] at hfN;cases hfN
  have keep:∀b o,b≠P->s.heap.get? b=some o->(h'.push (PySem.W.kla_obj "<lambda>" (X.env.qual++"<lambda>") params body scope [] ((X.mg "__name__").getD .none) c' ctv)).get? b=some o:=fun b o hb e=>hP0 _ (hx b o hb e);have nP:∀b,H b=none->b≠P:=fun b n z=>by rw[z,hp] at n;cases n
  have old:∀b u,H b=some u->b≠P->upd (upd (upd H P (.tbl (ps++#[rawInt pos.line,rawInt pos.col,.ref c']))) c' (.ext (a4n c' (X.env.qual++"<lambda>")))) h'.objs.size (.ext (a9N h'.objs.size (X.env.qual++"<lambda>") params body scope ((X.mg "__name__").getD .none) c')) b=some u:=fun b u e hb=>by
   rw[a0g (fun z=>by rw[z,hfN] at e;cases e),a0g (fun z=>by rw[z,hcN] at e;cases e),a0g hb];exact e
  have atP:upd (upd (upd H P (.tbl (ps++#[rawInt pos.line,rawInt pos.col,.ref c']))) c' (.ext (a4n c' (X.env.qual++"<lambda>")))) h'.objs.size (.ext (a9N h'.objs.size (X.env.qual++"<lambda>") params body scope ((X.mg "__name__").getD .none) c')) P=some (.tbl (ps++#[rawInt pos.line,rawInt pos.col,.ref c'])):=by
   rw[a0g (Ne.symm fP),a0g (Ne.symm cP),a0b]
  have noT:∀b u,H b=some u->(∀zs,u≠.tbl zs)->b≠P:=fun b u e hu z=>by
   rw[z,hp] at e;cases e;exact hu ps rfl
  refine⟨.ref h'.objs.size,_,I.un (t':=tk) ⟨fun b o e n _ _=>keep b o (nP b n) e,fun b o e n _ _=>⟨o.slots,keep b o (nP b n) e⟩,fun b o e n _=>?_,fun b o e _=>?_,fun b xs e=>old b _ e (noT b _ e fun zs z=>by cases z),fun b o u e=>old b _ e (noT b _ e fun zs z=>by cases z),fun b zs e=>?_⟩ fun b u e=>?_,rfl,q c' h'.objs.size hcN hfN cf cP fP⟩
  ·have hlt':b<s.heap.objs.size:=hL0 e
   rw[a0g (nL0 (Nat.lt_of_lt_of_le hlt' (Nat.le_trans hge (Nat.le_of_lt hlt)))),a0g (nL0 (Nat.lt_of_lt_of_le hlt' hge)),a0g (nP b n)];exact n
  ·by_cases hbP:b=P
   ·rw[hbP]
    exact⟨_,hP0 _ htb⟩
   ·exact⟨o,keep b o hbP e⟩
  ·by_cases hbP:b=P
   ·subst hbP
    rw[hp] at e;cases e;exact⟨_,atP⟩
   ·exact⟨#[],by rw[old b _ e hbP];simp⟩
  ·by_cases hbf:b=h'.objs.size
   ·subst hbf
    rw[a0b] at e;cases e;exact a8u (hS0 _ rfl)
   ·rw[a0g hbf] at e
    by_cases hbc:b=c'
    ·subst hbc
     rw[a0b] at e;cases e;exact b0n (hrec.push _)
    ·rw[a0g hbc] at e
     by_cases hbP:b=P
     ·subst hbP
      rw[a0b] at e;cases e;exact hP0 _ htb
     ·rw[a0g hbP] at e
      refine(I.hok b u e).stay (fun d v hd r=>keep d v ?_ r) (fun d r=>old d _ r (noT d _ r fun zs z=>by cases z)) fun d xs r=>old d _ r (noT d _ r fun zs z=>by cases z);rcases hd with rfl |hd
      ·exact hbP
      ·exact noT d _ hd fun zs z=>by cases z
 ·refine PySem.W.kla_makeFunctionHit hcl I.ok.glob hg hcode C hP tr hf hb fun ctv h' tk hk hsz=>?_
  have hfN:H h'.objs.size=none:=I.hok.fresh hsz;exact⟨.ref h'.objs.size,_,I.laid (a:=h'.objs.size) (t':=tk) (fun b o e=>hP0 _ (hk b o e)) hsz (a8u (hS0 _ rfl)),rfl,q _ hfN⟩
end
section
variable {X:Cx}{pins:List (Addr×Obj)}{σ:St}{H:Hp}{s:Shared}{Q:VK}{f c':Addr}{q x:Str}{params:Arguments}{body:Expr}{scope:Scope}{pm:Value}{u:Value}{v:V}{k:Nat}
theorem b0h {t:TE}{A:Around}{outer:List Env}(e0:a7n X.prog X.w X.K X.mg X.base A outer s H)(hr:a1r (k+1) A)(hf:H f=some (.ext (a9N f q params body scope pm c')))(hc:H c'=some (.ext (a4n c' q)))(S:a0o [x] [x] scope)
  (hb:∀(ctv u:Value),bindArgs (PySem.W.kla_fn "<lambda>" q params body scope [] pm (.ref c') ctv) ⟨[u],[]⟩=pure [(x,u)])
  (hbody:PE (a5U CX0 X.prog X.w X.K X.mg X.base [x] q scope f (.ref c') A outer s H E0).nox body t) (r:a0Z v u) (ht:t [some v] H Q) :
  codeAny (model X.prog X.w) A (.call (.ref f) ⟨[u],[]⟩) (CR CX0 outer X.prog X.w H s Q E0) s:=by
 obtain⟨⟨ctv,ho⟩,_⟩:=e0.hok f _ hf;obtain⟨hcd,_⟩:=e0.hok c' _ hc;have lim:s.heap.NoLimit:=e0.mod.nolimit.keeps fun b o e=>(e0.bs b o e).1;have hkind:∀y∈([x].zip [u]),scope.names.lookup y.1=some .local\/(scope.names.lookup y.1=some .cell/\((cellsFrom (s.heap.objs.size+1) scope.names []).lookup y.1).isSome=true):=fun⟨n,v⟩ hy=>by
  rcases S.par n (List.of_mem_zip hy).1 with q |q
  ·exact .inl q
  ·exact .inr ⟨q,PySem.W.cellsFrom_some _ _ _ (.inl q)⟩
 refine PySem.W.kla_callFunE hr.depth ho rfl S.co S.gen rfl hcd ?_;rw[hb];refine wP0 (wpAny_newFunctionEnv_cells (binds:=[x].zip [u]) S.kind hkind fun env he s1 z=>?_);subst he;refine⟨lim.keeps z.toInCall.keep,PySem.W.kla_codeExpr ?_⟩;have I:Inv (a5U CX0 X.prog X.w X.K X.mg X.base [x] q scope f (.ref c') A outer s H E0) [] (a2M [x] [v]) H s1:=a4e S hr.hd e0 rfl (.cons r .nil) z;refine wpAny_mono (hbody.nox [] s1 (a2M [x] [v]) H Q I ht) (fun u' s' hs=>?_) fun e s' hs=>hs;obtain⟨v',H',J,rv,q'⟩:=hs;exact⟨v',H',J.os,J.bare,J.base,J.hok,rv,q'⟩
end
end L2
namespace L2
open PySem PySem.Spec PyProof.Rows PySem.W
theorem b4T {prog:Program}{w:World}{A:Around}{ks:List Value}{zs:List Str}{s1:Shared}(t:StrsAre ks zs):Srt.Cmp zs.length (Srt.rz zs) (kas_ask prog w A oneType' ks) (fun s'=>s'=s1):=by
 intro i j C s' hi hj hij hs' hC;subst hs';have hl:ks.length=zs.length:=t.length;obtain⟨a,ta,e1,e1'⟩:=a4T (j:=i) t (by omega);obtain⟨b,tb,e2,e2'⟩:=a4T (j:=j) t (by omega);unfold kas_ask;have g1:ks.getD i Value.none=.str a ta:=by rw[List.getD_eq_getElem?_getD,gE0 (by omega),Option.getD_some,e1]
 have g2:ks.getD j Value.none=.str b tb:=by rw[List.getD_eq_getElem?_getD,gE0 (by omega),Option.getD_some,e2]
 rw[g1,g2];refine kas_lt_str ?_;have er:Srt.rz zs i j=decide (a.cps.toList<b.cps.toList):=by
  unfold Srt.rz;rw[List.getD_eq_getElem?_getD,List.getD_eq_getElem?_getD,e1',e2',Option.getD_some,Option.getD_some]
 rw[<-er];exact hC s' rfl
theorem a5r {z:Str}{t:Tok}:∀{vs:List Value} {zs:List Str},StrsAre vs zs->StrsAre (vs++[.str z t]) (zs++[z])
 |_,_,.nil=>.cons z t .nil
 |_,_,.cons y u r=>.cons y u (a5r r)
section
variable {X:Cx}{pins:List (Addr×Obj)}{σ:St}{H:Hp}{s:Shared}
theorem Inv.moved {h':Heap}{it:Addr}{t':Nat}(I:Inv X pins σ H s)(fp:a3y X pins H it)(k:∀b o,b≠it->s.heap.get? b=some o->h'.get? b=some o):Inv X pins σ H { s with heap:=h',toks:=t' }:=
 I.turned k fp.1 fp.2.1 fp.2.2.2.1 fp.2.2.2.2.1 fp.2.2.2.2.2
theorem a7g {A:Around}{E:Vs0}{a kS:Addr}{vs ks:List Value}{e e1:Nat}{p:Array Nat}{st:SortSt}{P:PySem.Fin->Shared->Prop}(I:Inv X pins σ H s)(fa:a3y X pins H a)(fk:a3y X pins H kS)(hka:kS≠a)
  (hk:s.heap.get? kS=some (seqObj "list" ks.toArray e)) (ha:s.heap.get? a=some (seqObj "list" #[] e1)) (hl:ks.length=vs.length) (h64:vs.length<64) (hp:p.size=vs.length) (har:arrOf st=p.map (kas_item (ks.toArray.zip vs.toArray))) (hf:failedOf st=none)
  (h:∀(s':Shared) (e:Nat),Inv X pins σ H s'->s'.heap.get? a=some (seqObj "list" (List.toArray (p.toList.map fun i=>vs.getD i Value.none)) e)->P (.done (.ret .none)) s') :
  wpAny (model X.prog X.w) A (ksk_tail a false e1 (.ref kS) st) P E s:=by
 have hout:=kat_snds (vs:=vs) (ks:=ks) hl har;unfold ksk_tail
 try dsimp only
 have s1:=Heap.SameBut.update s.heap kS (Obj.mapSeq fun _=>(#[]:Array Value));have ha1:(s.heap.update kS (Obj.mapSeq fun _=>(#[]:Array Value))).get? a=some (seqObj "list" #[] e1):=(s1.2 a hka.symm).trans ha;refine wB0 (listUpdate_at hk rfl ?_ (by rw[List.size_toArray,hl,sizeLine_eq];omega) (zL0 _));refine wB0 (wpAny_letGo ?_);refine wB0 (seqEpoch_at ha1 rfl ?_);simp only[Bool.false_eq_true,if_false];rw[hout];have s2:=Heap.SameBut.update (s.heap.update kS (Obj.mapSeq fun _=>(#[]:Array Value))) a (Obj.mapSeq fun _=>List.toArray (p.toList.map fun i=>vs.getD i Value.none));obtain⟨c2,hc2⟩:∃c2,((s.heap.update kS (Obj.mapSeq fun _=>(#[]:Array Value))).update a (Obj.mapSeq fun _=>List.toArray (p.toList.map fun i=>vs.getD i Value.none))).get? a=some (seqObj "list" (List.toArray (p.toList.map fun i=>vs.getD i Value.none)) c2):=
  ⟨_,get?_update_seq ha1 fun _=>List.toArray (p.toList.map fun i=>vs.getD i Value.none)⟩
 refine wB0 (listUpdate_at ha1 rfl ?_ (zL0 _) (by rw[List.size_toArray,lM0,aL0,hp,sizeLine_eq];omega));rw[hf];simp only[bne_self_eq_false,Bool.false_eq_true,if_false];have I1:Inv X pins σ H { s with heap:=s.heap.update kS (Obj.mapSeq fun _=>(#[]:Array Value)) }:=I.moved (t':=s.toks) fk fun b o hb q=>(s1.2 b hb).trans q;exact wP0 (h _ c2 (I1.moved (t':=s.toks) fa fun b o hb q=>(s2.2 b hb).trans q) hc2)
theorem a4O {A:Around}{E:Vs0}{a:Addr}{vs:List Value}{n:Nat}{f:Value}{zs:List Str}{P:PySem.Fin->Shared->Prop}(I:Inv X pins σ H s)(fa:a3y X pins H a)(ho:s.heap.get? a=some (seqObj "list" vs.toArray n))(hlen:zs.length=vs.length)(nd:zs.Nodup)(h64:vs.length<64)
  (turn:∀(i:Nat) (v:Value) (z:Str),vs[i]? =some v->zs[i]? =some z->∀s':Shared,Inv X pins σ H s'->wpAny (model X.prog X.w) A (call f [v]) (fun k s''=>(∃t,k=.str z t)/\Inv X pins σ H s''/\∀b o,a3y X pins H b->s'.heap.get? b=some o->s''.heap.get? b=some o) (fun _ _=>False) s')
  (h:∀(p:Array Nat) (s':Shared) (e:Nat),Srt.PN vs.length p->Srt.Up (Srt.rz zs) p vs.length->Inv X pins σ H s'->s'.heap.get? a=some (seqObj "list" (List.toArray (p.toList.map fun i=>vs.getD i Value.none)) e)->P (.done (.ret .none)) s') :
  wpAny (model X.prog X.w) A (ksk_tree a f false) P E s:=by
 have haL:a<s.heap.objs.size:=hL0 ho;have s1:=Heap.SameBut.update s.heap a (Obj.mapSeq fun _=>(#[]:Array Value));obtain⟨e1,ho1⟩:∃e1,(s.heap.update a (Obj.mapSeq fun _=>(#[]:Array Value))).get? a=some (seqObj "list" #[] e1):=⟨_,get?_update_seq ho fun _=>#[]⟩;have I1:Inv X pins σ H { s with heap:=s.heap.update a (Obj.mapSeq fun _=>(#[]:Array Value)) }:=I.moved (t':=s.toks) fa fun b o hb q=>(s1.2 b hb).trans q;have I2:Inv X pins σ H { s with heap:=(s.heap.update a (Obj.mapSeq fun _=>(#[]:Array Value))).push (seqObj "tuple" vs.toArray 0) }:=I1.kept (t':=s.toks) fun b o q=>hP0 _ q;have I3:Inv X pins σ H { s with heap:=((s.heap.update a (Obj.mapSeq fun _=>(#[]:Array Value))).push (seqObj "tuple" vs.toArray 0)).push (seqObj "list" #[] 0) }:=I2.kept (t':=s.toks) fun b o q=>hP0 _ q;have fk:a3y X pins H ((s.heap.update a (Obj.mapSeq fun _=>(#[]:Array Value))).push (seqObj "tuple" vs.toArray 0)).objs.size:=I2.fpOk (nR0 _) (I2.hok.fresh (nR0 _));have hkS:((s.heap.update a (Obj.mapSeq fun _=>(#[]:Array Value))).push (seqObj "tuple" vs.toArray 0)).objs.size=s.heap.objs.size+1:=by rw[size_push',Heap.size_update]
 have hka:((s.heap.update a (Obj.mapSeq fun _=>(#[]:Array Value))).push (seqObj "tuple" vs.toArray 0)).objs.size≠a:=by rw[hkS];exact Nat.ne_of_gt (Nat.lt_succ_of_lt haL)
 unfold ksk_tree;refine wB0 (listItems_at ho rfl ?_);refine wB0 (listUpdate_at ho rfl ?_ (by rw[List.size_toArray,sizeLine_eq];omega) (zL0 _));refine wB0 (seqEpoch_at ho1 rfl ?_);refine wB0 (wpAny_newTuple ?_ (by show vs.length<=_;rw[sizeLine_eq];omega));refine wB0 (wpAny_newList ?_ (zL0 _));refine wpAny_holding ?_;generalize ekS:((s.heap.update a (Obj.mapSeq fun _=>(#[]:Array Value))).push (seqObj "tuple" vs.toArray 0)).objs.size=kS at fk hka;show wpAny (model X.prog X.w) A (ksk_rest a f false vs.toArray e1 (.ref kS)) P E { s with heap:=((s.heap.update a (Obj.mapSeq fun _=>(#[]:Array Value))).push (seqObj "tuple" vs.toArray 0)).push (seqObj "list" #[] 0) };have hk0:(((s.heap.update a (Obj.mapSeq fun _=>(#[]:Array Value))).push (seqObj "tuple" vs.toArray 0)).push (seqObj "list" #[] 0)).get? kS=some (seqObj "list" #[] 0):=by rw[<-ekS];exact hS0 _ rfl
 have ha0:(((s.heap.update a (Obj.mapSeq fun _=>(#[]:Array Value))).push (seqObj "tuple" vs.toArray 0)).push (seqObj "list" #[] 0)).get? a=some (seqObj "list" #[] e1):=hP0 _ (hP0 _ ho1);unfold ksk_rest;refine wB0 (wpAny_rule ?_)
 first
  |rw[List.forIn_toArray]
  | (rw[<-Array.forIn_toList];simp only[List.toList_toArray])
  |rw[<-Array.forIn_toList]
 refine wB0 (ksk_fold (fun i s'=>∃(kA:List Value) (e:Nat),Inv X pins σ H s'/\s'.heap.get? kS=some (seqObj "list" kA.toArray e)/\s'.heap.get? a=some (seqObj "list" #[] e1)/\StrsAre kA (zs.take i)) vs 0 _ ⟨[],0,I3,hk0,ha0,by simpa using StrsAre.nil⟩ ?step ?done)
 case step=>
  rintro j x s' hx ⟨kA,e,J,hk,ha,hs⟩;simp only[Nat.zero_add] at hs ⊢;have hj:j<vs.length:=(gS0.mp hx).1;obtain⟨z,hz⟩:∃z,zs[j]? =some z:=⟨_,gE0 (by omega)⟩;have hsz:kA.length<=vs.length:=by
   have h1:kA.length=(zs.take j).length:=hs.length;rw[List.length_take] at h1
   omega
  refine wB0 (wpAny_attempt (wpAny_mono (turn j x z hx hz s' J) (fun v s'' he=>?_) fun _ _ hF=>hF.elim));obtain⟨⟨t,rfl⟩,J2,kp⟩:=he
  try dsimp only
  have hk2:=kp kS _ fk hk;have ha2:=kp a _ fa ha;have u1:=Heap.SameBut.update s''.heap kS (Obj.mapSeq (·.push (.str z t)));obtain⟨c2,hc2⟩:∃c2,(s''.heap.update kS (Obj.mapSeq (·.push (.str z t)))).get? kS=some (seqObj "list" (kA.toArray.push (.str z t)) c2):=⟨_,get?_update_seq hk2 (·.push (.str z t))⟩;have ek:zs.take (j+1)=zs.take j++[z]:=by rw[List.take_add_one,hz];simp
  refine wB0 (listUpdate_at hk2 rfl ?_ (by rw[List.size_toArray,sizeLine_eq];omega) (Nat.le_trans (Nat.le_of_eq (Array.size_push ..)) (by rw[List.size_toArray,sizeLine_eq];omega)));exact wP0 ⟨rfl,kA++[.str z t],c2,J2.moved (t':=s''.toks) fk fun b o hb q=>(u1.2 b hb).trans q,by rw[hc2];simp,(u1.2 a hka.symm).trans ha2,by rw[ek];exact a5r hs⟩
 case done=>
  rintro s' ⟨kA,e,J,hk,ha,hs⟩;have hs':StrsAre kA zs:=by
   have e3:zs.take (0+vs.length)=zs:=List.take_of_length_le (by omega);rw[e3] at hs;exact hs
  have hl:kA.length=vs.length:=by have h1:kA.length=zs.length:=hs'.length;omega
  try dsimp only
  refine wB0 (listItems_at hk rfl ?_);unfold ksk_end
  try dsimp only
  rw[if_neg (by decide)]
  by_cases h2:vs.toArray.size<2
  ·rw[if_pos h2,if_pos h2]
   refine wB0 (wP0 ?_);rw[StateT.run_pure];refine wB0 (wP0 ?_)
   try dsimp only
   simp only[Bool.false_eq_true,if_false];refine a7g (vs:=vs) (ks:=kA) (p:=List.toArray (List.range vs.length)) J fa fk hka hk ha hl h64 (by simp) (by
    have e:=kas_range (kA.toArray.zip vs.toArray);rw[show(kA.toArray.zip vs.toArray).size=vs.length by simp[hl]] at e;exact e.symm) rfl fun s3 e3 J3 g3=>h (List.toArray (List.range vs.length)) s3 e3 (by unfold Srt.PN;simp) (fun i j hij hj=>?_) J3 g3
   rw[List.size_toArray] at h2;have ei:i=0:=by omega
   have ej:j=0:=by omega
   subst ei ej;unfold Srt.rz;rw[decide_eq_false_iff_not];exact List.lt_irrefl _
  ·have hn2:2<=vs.length:=by rw[List.size_toArray] at h2;omega
   rw[if_neg h2,if_neg h2];obtain⟨v₁,v₂,rest,ev⟩:∃v₁ v₂ rest,kA=v₁::v₂::rest:=by
    match kA,hl with
    |[],hl=>simp at hl;omega
    |[_],hl=>simp at hl;omega
    |v₁::v₂::rest,_=>exact⟨v₁,v₂,rest,rfl⟩
   have hkk:keyKind' kA.toArray=pure oneType':=by rw[ev];exact keyKind_strs (by rw[<-ev];exact hs')
   rw[hkk];refine wB0 (wP0 ?_);simp only[Bool.false_eq_true,if_false];refine wB0 (wpAny_mono (kat_run (prog:=X.prog) (w:=X.w) (A:=A) (E:=E) (κ:=oneType') (ks:=kA) (vs:=vs) (s:=s')
    (Q:=fun st' s''=>∃p:Array Nat,p.size=vs.length/\arrOf st'=p.map (kas_item (kA.toArray.zip vs.toArray))/\failedOf st'=none/\Srt.PN vs.length p/\Srt.Up (Srt.rz zs) p vs.length/\s''=s')
    (G:=fun p s''=>Srt.PN vs.length p/\Srt.Up (Srt.rz zs) p vs.length/\s''=s')
    hl hn2 h64 (fun p' st' s'' a1 a2 a3 a4=>⟨p',a1,a2,a3,a4⟩) ?_) ?_ fun _ _ e=>e)
   ·rw[<-hlen]
    exact Srt.sort (Srt.b3k nd) (b4T (s1:=s') hs') (by omega) rfl fun p' s'' b1 b2 b3=>⟨b1,b2,b3⟩
   ·rintro⟨⟨⟩,st'⟩ s'' ⟨p,hp,har,hf,pn,up,rfl⟩
    try dsimp only
    exact a7g (vs:=vs) (ks:=kA) J fa fk hka hk ha hl h64 hp har hf fun s3 e3 J3 g3=>h p s3 e3 pn up J3 g3
end
section
variable {X:Cx}{pins:List (Addr×Obj)}{σ:St}{H:Hp}{s:Shared}{f c':Addr}{q x:Str}{params:Arguments}{body:Expr}{scope:Scope}{pm:Value}{k:Nat}
theorem b0U {t:TE}{A:Around}{u:Value}{v:V}{z:Str}(I:Inv X pins σ H s)(e0:a7n X.prog X.w X.K X.mg X.base A X.stack s H)(hr:a1r (k+1) A)(hf:H f=some (.ext (a9N f q params body scope pm c')))(hc:H c'=some (.ext (a4n c' q)))(S:a0o [x] [x] scope)
  (hb:∀(ctv u:Value),bindArgs (PySem.W.kla_fn "<lambda>" q params body scope [] pm (.ref c') ctv) ⟨[u],[]⟩=pure [(x,u)])
  (hbody:PE (a5U CX0 X.prog X.w X.K X.mg X.base [x] q scope f (.ref c') A X.stack s H E0).nox body t) (r:a0Z v u) (ht:t [some v] H fun v' H'=>v'=.str z/\H'=H) :
  wpAny (model X.prog X.w) A (call (.ref f) [u]) (fun k s''=>(∃t,k=.str z t)/\Inv X pins σ H s''/\∀b o,a3y X pins H b->s.heap.get? b=some o->s''.heap.get? b=some o) (fun _ _=>False) s:=by
 refine wpAny_call (codeAny_mono (b0h e0 hr hf hc S hb hbody r ht) fun r s' hq=>?_);cases r with
 |error e=>exact hq
 |ok fl=>
  cases fl with
  |ret w'=>
   have hq':CE X.stack X.prog X.w H s (fun v' H'=>v'=.str z/\H'=H) w' s':=hq;obtain⟨v1,H1,J,rv,rfl,rfl⟩:=I.after hq';obtain⟨v2,H2,os,bare,un,hok,rv2,rfl,rfl⟩:=hq';refine⟨rv,J,fun b o fb e=>un.keep b o e fb.1 (fun hm=>?_) (by simp)⟩;rcases mK0.mp (I.stkSub b hm) with y |y
   ·exact fb.2.1 y
   ·exact fb.2.2.1 y
  |next=>exact False.elim hq
  |brk=>exact False.elim hq
  |cont=>exact False.elim hq
theorem a8d {p:Addr}{xs:List V}{zs:List Str}{fv:Value}{Q:VK}(I:Inv X pins σ H s)(hp:SqL X.K H p xs)(hlen:zs.length=xs.length)(nd:zs.Nodup)(h64:xs.length<64)(hfv:∃f,fv=.ref f)
  (turn:∀(i:Nat) (v:V) (u:Value) (z:Str),xs[i]? =some v->a0Z v u->zs[i]? =some z->∀s':Shared,Inv X pins σ H s'->wpAny (model X.prog X.w) X.A.in1.in1 (call fv [u]) (fun k s''=>(∃t,k=.str z t)/\Inv X pins σ H s''/\∀b o,a3y X pins H b->s'.heap.get? b=some o->s''.heap.get? b=some o) (fun _ _=>False) s')
  (h:∀(l:Addr) (ix:List Nat),H l=none->ix.Perm (List.range xs.length)->a6L (ix.map fun i=>zs.getD i "")->Q (.ref l) (upd H l (.lst (ix.map fun i=>xs.getD i .non)))) :
  wpAny (model X.prog X.w) X.A (call (.builtin "sorted") [.ref p] [(Str.ofString "key",fv)]) (EP X pins σ Q) X.xe s:=by
 obtain⟨f,rfl⟩:=hfv;obtain⟨vs,r',pl,hz⟩:=I.list hp;have hl:=r'.length;refine call_function_entry_kw kind_sorted plain_sorted entry_sorted (ksk_s1 _ _) ?_;unfold Builtin.«sorted»;refine wB0 (m:=checkCount "sorted" 1 1 _) (wP0 ?_);refine wB0 (collect_list pl.isList ?_ (by rw[sizeLine_eq];omega));refine wB0 (wpAny_newList ?_ (by rw[sizeLine_eq];omega));have hsz:((s.heap.push (seqObj "list" #[] 0)).update s.heap.objs.size (Obj.mapSeq (·++vs.toArray))).objs.size=s.heap.objs.size+1:=by
  rw[Heap.size_update,size_push']
 have hoL:(((s.heap.push (seqObj "list" #[] 0)).update s.heap.objs.size (Obj.mapSeq (·++vs.toArray))).push (seqObj "list" vs.toArray 0)).get? (s.heap.objs.size+1)=some (seqObj "list" vs.toArray 0):=by
  rw[<-hsz];exact hS0 _ rfl
 have keep:∀b o,s.heap.get? b=some o->(((s.heap.push (seqObj "list" #[] 0)).update s.heap.objs.size (Obj.mapSeq (·++vs.toArray))).push (seqObj "list" vs.toArray 0)).get? b=some o:=fun b o q=>by
  have hlt:b<s.heap.objs.size:=hL0 q;rw[Heap.get?_push_ne _ _ _ (by rw[hsz];exact nL0 (Nat.lt_succ_of_lt hlt)),Heap.get?_update_ne _ _ _ _ (nL0 hlt),Heap.get?_push_ne _ _ _ (nL0 hlt)];exact q
 have I2:Inv X pins σ H { s with heap:=((s.heap.push (seqObj "list" #[] 0)).update s.heap.objs.size (Obj.mapSeq (·++vs.toArray))).push (seqObj "list" vs.toArray 0) }:=I.kept (t':=s.toks) keep;have fa:a3y X pins H (s.heap.objs.size+1):=I.fpOk (Nat.le_succ _) (I.hok.fresh (Nat.le_succ _));have our:Our X pins H (s.heap.objs.size+1):=⟨Nat.le_trans I.sz (Nat.le_succ _),fa.2.1,fa.2.2.2.2.1,fa.2.2.2.2.2,fa.1⟩;show wpAny _ _ _ _ _ { s with heap:=((s.heap.push (seqObj "list" #[] 0)).update s.heap.objs.size (Obj.mapSeq (·++vs.toArray))).push (seqObj "list" vs.toArray 0) };rw[hsz];refine wB0 (wpAny_holding (wpAny_call_entry_kw slot_list_sort ⟨_,hoL,rfl⟩ entry_list_sort ?body (ksk_l1 _ _)))
 case body=>
  show wpAny (model X.prog X.w) X.A.in1.in1 (Builtin.«list.sort» ⟨[.ref (s.heap.objs.size+1)],[(Str.ofString "key",.ref f)]⟩) _ _ _;rw[ksk_t1];refine a4O (zs:=zs) I2 fa hoL (by omega) nd (by omega) (fun i v z hv hzi s' J=>?_) fun p' s3 e pn up J3 g3=>⟨_,rfl,?_⟩
  ·have hi:i<vs.length:=(gS0.mp hv).1
   obtain⟨u,hu,ru⟩:=r'.get (i:=i) (x:=xs[i]'(by omega)) (by simp);rw[hv] at hu;cases hu;exact turn i (xs[i]'(by omega)) v z (by simp) ru hzi s' J
  ·have hs:=pn.size
   have lt:∀i∈p'.toList,i<vs.length:=fun i hi=>List.mem_range.mp (pn.mem_iff.mp hi);refine wP0 ⟨_,rfl,.ref (s.heap.objs.size+1),_,J3.track our (o:=.lst (p'.toList.map fun i=>xs.getD i .non)) ?_,rfl,h _ p'.toList (I.hok.fresh (Nat.le_succ _)) (by rw[hl];exact pn) ?_⟩
   ·refine⟨by rw[lM0,aL0,hs,<-hl];exact hz,_,e,?_,g3⟩
    exact a5l r' _ fun i hi=>by have:=lt i hi;omega
   ·unfold a6L
    rw[List.pairwise_map,List.pairwise_iff_getElem];intro i j hi hj hij;have hi':i<p'.size:=by simpa using hi
    have hj':j<p'.size:=by simpa using hj
    have h0:=up i j (by omega) (by omega);unfold Srt.rz at h0;rw[decide_eq_false_iff_not,Srt.a2s hi',Srt.a2s hj'] at h0;rw[Array.getElem_toList,Array.getElem_toList];exact h0
def b4E (K:Fg0)(q:Str)(params:Arguments)(body:Expr)(scope:Scope)(pm:Value)(te tl tb:TE):TE:=fun σ H Q=>te σ H fun y H1=>tl σ H1 fun g H2=>∃(p f c':Addr) (xs:List V) (zs:List Str),y=.ref p/\g=.ref f ∧
 H2 f=some (.ext (a9N f q params body scope pm c'))/\H2 c'=some (.ext (a4n c' q))/\SqL K H2 p xs/\zs.length=xs.length/\zs.Nodup/\xs.length<64 ∧
 (∀(i:Nat) (v:V) (z:Str),xs[i]? =some v->zs[i]? =some z->tb [some v] H2 fun v' H'=>v'=.str z/\H'=H2) ∧
 ∀(l:Addr) (ix:List Nat),H2 l=none->ix.Perm (List.range xs.length)->a6L (ix.map fun i=>zs.getD i "")->Q (.ref l) (upd H2 l (.lst (ix.map fun i=>xs.getD i .non)))
theorem a7K {e lam:Expr}{te tl tb:TE}{np kpos pos:Pos}(hr:a1r (k+3) X.A)(hg:Gl X "sorted")(hm:X.mg "sorted"=none)(he:PE X e te)(hlam:PE X lam tl)(S:a0o [x] [x] scope)
  (hb:∀(c':Addr) (ctv u:Value),bindArgs (PySem.W.kla_fn "<lambda>" q params body scope [] pm (.ref c') ctv) ⟨[u],[]⟩=pure [(x,u)])
  (hbody:∀(f c':Addr) (s:Shared) (H:Hp),PE (a5U CX0 X.prog X.w X.K X.mg X.base [x] q scope f (.ref c') X.A.in1.in1 X.stack s H E0).nox body tb) (hstar:starEach [e] X.env=[(false,eval e X.env)]:=by rfl) :
  PE X (.Call (.Name "sorted" np) [e] [⟨some "key",lam,kpos⟩] pos) (b4E X.K q params body scope pm te tl tb):=by
 intro pins s σ H Q I h;refine wpAny_Call_Name_kw (a3Y I hg hm (show bootBuiltins "sorted"=some (.builtin "sorted") by decide +kernel) ?_ (by decide) (by decide));refine callWith_kw (e:=e) (rest:=[]) (kws:=[⟨some "key",lam,kpos⟩]) ?_ (by rw[hstar];rfl) (by rw[hstar];rfl);rw[hstar];show wpAny _ _ (spliced [(false,eval e X.env)]) _ _ s;refine Calls.spliced_cons (thn (he pins s σ H _ I h) fun u s1 ⟨y,H1,I1,ry,q1⟩=>Calls.spliced_nil ?_);show wpAny _ _ (evalAll [(do let v <-eval lam X.env;standAt pos;pure v)]) _ _ s1;refine wpAny_evalAll_cons (wB0 (thn (hlam pins s1 σ H1 _ I1 q1) fun gv s2 ⟨g,H2,I2,rg,q2⟩=>wB0 (wpAny_standAt (wP0 (wpAny_evalAll_nil ?_)))));obtain⟨p,f,c',xs,zs,rfl,rfl,hf,hc,hp,hlen,nd,h64,ht,hq⟩:=q2;cases ry;cases rg;have hr1:a1r (k+1) X.A.in1.in1:=hr.in1.in1;exact a8d I2 hp hlen nd h64 ⟨f,rfl⟩ (fun i v u z hv ru hz s' J=>b0U J J.env0.in1.in1 hr1 hf hc S (hb c') (hbody f c' s' H2) ru (ht i v z hv hz)) hq
end
end L2
namespace L2
open PySem PySem.Spec PyProof.Rows
structure b3h (K:Fg0) (x qual:Str) (st:Stmt) (f:Addr) (fd:FuncData) (c:Addr):Prop where
 ex:∃(oc:Value) (od:Option Addr) (kV doc pm:Value) (an:Option Addr) (ct:Value) (osl:Array (Option Value)),
  fd=PySem.W.fnOf x qual (a0Y st) (a0J st) (a0f st) .none kV doc pm an (.ref c) ct/\K.lookup f=some ⟨oc,od,.func fd,osl⟩/\PySem.W.codeIn K (.ref c) qual=true
 kp:PySem.W.keepIn K (.ref f)=true
section
variable {P:Program}{w:World}{K:Fg0}{mg:Str->Option Value}{base:Heap}
theorem b3h.fn {x qual:Str}{st:Stmt}{f c:Addr}{fd:FuncData}(F:b3h K x qual st f fd c):Fun K x qual st f fd:=by
 obtain⟨⟨oc,od,kV,doc,pm,an,ct,osl,h1,h2,h3⟩,kp⟩:=F;exact⟨⟨oc,od,kV,doc,pm,an,.ref c,ct,osl,h1,h2,h3⟩,kp⟩
theorem b3h.ok {x qual:Str}{st:Stmt}{f c:Addr}{fd:FuncData}{N ps:List Str}{k:Nat}{sp:Sp}(F:b3h K x qual st f fd c)(S:a0o N ps (a0f st))(len:∀vs H Q E,sp vs H Q E->vs.length=ps.length)
  (hbody:∀(A:Around) (outer:List Env) (s:Shared) (H:Hp) (vs:List V) (Q:VK) (E:XK),a1r k (A.deeper (envOfC qual (a0f st) s.heap.objs.size f (.ref c)))->sp vs H Q E →
   ∃t,PSs (a5U CX0 P w K mg base N qual (a0f st) f (.ref c) A outer s H E).nox (a0J st) t/\t { nx:=fun _ H'=>Q .non H',rt:=Q } (a2M N vs) H):a0F P w K mg base CX0 (k+1) f fd ps sp:=by
 obtain⟨oc,od,kV,doc,pm,an,ct,osl,rfl,lk,hcd⟩:=F.ex;refine b2T lk hcd S len fun A outer s H vs Q E hr hsp=>?_;obtain⟨t,h,q⟩:=hbody A outer s H vs Q E hr hsp;exact⟨t,h.nox,q⟩
end
theorem a5c {X:Cx}{K:Fg0}{es:List Expr}{k:Nat}{pos:Pos}{t:TGs}{n:Nat}(hK:X.K=K)(hc:X.calm=true)(h:PGs X es t)
  (hn:(assignEach es X.env).length=n:=by rfl) (hst:(assignEach es X.env).findIdx? (·.1)=none:=by rfl):PG X (.Tuple es k pos) (b6g K n t):=by
 subst hK;exact a4j hc h hn hst
def notT:HO->Bool
 | .tbl _=>false
 |_=>true
def Sb (H H':Hp):Prop:=∀a o,notT o=true->H a=some o->H' a=some o
theorem Sb.trans {H H1 H2:Hp}(a:Sb H H1)(b:Sb H1 H2):Sb H H2:=fun x o n e=>b x o n (a x o n e)
theorem a0m.sb {H H':Hp}(s:a0m H H'):Sb H H':=fun a o _ e=>s a o e
end L2
namespace My
open PySem L2 PyProof.Rows
mutual
theorem Rep.sb {H H':Hp}(e:Sb H H'):∀{d:Dt} {v:V},Rep H d v->Rep H' d v
 | .non,v,h=>by unfold Rep at h ⊢;exact h
 | .bl b,v,h=>by unfold Rep at h ⊢;exact h
 | .int i,v,h=>by unfold Rep at h ⊢;exact h
 | .str z,v,h=>by unfold Rep at h ⊢;exact h
 | .tup ds,v,h=>by
  unfold Rep at h ⊢;obtain⟨a,xs,h1,h2,h3⟩:=h;exact⟨a,xs,h1,e _ _ rfl h2,a2c.sb e h3⟩
 | .lst ds,v,h=>by
  unfold Rep at h ⊢;obtain⟨a,xs,h1,h2,h3⟩:=h;exact⟨a,xs,h1,e _ _ rfl h2,a2c.sb e h3⟩
 | .dct,v,h=>by
  unfold Rep at h ⊢;obtain⟨a,xs,h1,h2⟩:=h;exact⟨a,xs,h1,e _ _ rfl h2⟩
theorem a2c.sb {H H':Hp}(e:Sb H H'):∀{ds:List Dt} {vs:List V},a2c H ds vs->a2c H' ds vs
 |[],vs,h=>by unfold a2c at h ⊢;exact h
 |d::ds,vs,h=>by
  unfold a2c at h ⊢;obtain⟨v,ws,h1,h2,h3⟩:=h;exact⟨v,ws,h1,Rep.sb e h2,a2c.sb e h3⟩
end
theorem a0L.sb {H H':Hp}{cols:List (Str×V)}(h:a0L H cols)(e:Sb H H'):a0L H' cols:=⟨h.1,h.2.1,fun p hp=>⟨(h.2.2 p hp).1,let ⟨d,h1,h2⟩:=(h.2.2 p hp).2;⟨d,Rep.sb e h1,h2⟩⟩⟩
theorem a1z.sb {H H':Hp}{t:Addr}{cols:List (Str×V)}(h:a1z H t cols)(e:Sb H H'):a1z H' t cols:=by
 obtain⟨o,ps,zs,h1,h2,h3,h4,h5,h6⟩:=h;exact⟨o,ps,zs,h1,h2,h3,e _ _ rfl h4,h5,fun j p z a b=>e _ _ rfl (h6 j p z a b)⟩
theorem a2q.sb {H H':Hp}{e:Addr}{T:Tb}(h:a2q H e T)(s:Sb H H'):a2q H' e T:=by
 obtain⟨ct,h1,h2⟩:=h;exact⟨ct,s _ _ rfl h1,h2.sb s⟩
theorem a0W.sb {H H':Hp}{f:Addr}{sz:Int}{Ts:List Tb}(h:a0W H f sz Ts)(s:Sb H H'):a0W H' f sz Ts:=by
 obtain⟨tt,es,h1,h2,h3,h4⟩:=h;exact⟨tt,es,s _ _ rfl h1,s _ _ rfl h2,h3,fun j e T a b=>(h4 j e T a b).sb s⟩
def a2D (P:Addr)(pos:Pos)(q:Str)(H:Hp):Prop:=H P=some (.tbl #[])\/∃c',H P=some (.tbl #[rawInt pos.line,rawInt pos.col,.ref c'])/\H c'=some (.ext (a4n c' q))
theorem a2D.same {P:Addr}{pos:Pos}{q:Str}{H H':Hp}(h:a2D P pos q H)(s:a0m H H'):a2D P pos q H':=by
 rcases h with h |⟨c',h1,h2⟩
 ·exact .inl (s _ _ h)
 ·exact .inr ⟨c',s _ _ h1,s _ _ h2⟩
theorem b0E {P:Addr}{pos:Pos}{q:Str}{params:Arguments}{body:Expr}{scope:Scope}{pm:Value}{σ:L2.St}{H:Hp}{Q:VK}(h:a2D P pos q H)
  (hq:∀f c' H',Sb H H'->(∀a,a≠P->H a≠none->H' a=H a)->a2D P pos q H'->H' f=some (.ext (a9N f q params body scope pm c'))->H' c'=some (.ext (a4n c' q))->Q (.ref f) H'):b6s P pos q params body scope pm σ H Q:=by
 rcases h with h |⟨c',h1,h2⟩
 ·refine⟨#[],h,trivial,.inl ⟨rfl,fun c' f n1 n2 n3 n4 n5=>?_⟩⟩
  have fr:∀a,a≠P->H a≠none->(L2.upd (L2.upd (L2.upd H P (.tbl (#[]++#[rawInt pos.line,rawInt pos.col,.ref c']))) c' (.ext (a4n c' q))) f (.ext (a9N f q params body scope pm c'))) a=H a:=fun a n n0=>by
   rw[a0g (fun e=>n0 (by rw[e];exact n2)),a0g (fun e=>n0 (by rw[e];exact n1)),a0g n]
  refine hq f c' _ (fun a o n e=>?_) fr ?_ a0b (by rw[a0g n3];exact a0b)
  ·rw[fr a (fun e'=>by rw[e',h] at e;cases e;cases n) (by rw[e];simp)]
   exact e
  ·refine .inr ⟨c',?_,by rw[a0g n3];exact a0b⟩
   rw[a0g (Ne.symm n5),a0g (Ne.symm n4)];exact a0b
 ·refine⟨_,h1,trivial,.inr ⟨c',by simp[codeAmong,rawInt],fun f n=>?_⟩⟩
  have S:=a0m.upd (o:=.ext (a9N f q params body scope pm c')) n;exact hq f c' _ S.sb (fun a _ n0=>a0g fun e=>n0 (by rw[e];exact n)) (.inr ⟨c',S _ _ h1,S _ _ h2⟩) a0b (S _ _ h2)
seal L2.PE L2.PT L2.PW L2.PS L2.PSs L2.PA L2.PI L2.PG L2.PGs L2.OpR L2.a1p L2.IxR L2.SlR L2.MtR L2.PIf L2.PO L2.MtM L2.PC L2.a6n
def a1D (H:Hp)(e d:Addr)(T:Tb):Prop:=H e=some (.tup [.str T.name,.str T.sort,.ref d])/\H d=some (.dK (kvC T.cols))/\a0L H T.cols
def a1X (H:Hp)(l:Addr)(es ds:List Addr)(Ts:List Tb):Prop:=H l=some (.lst (es.map V.ref))/\es.length=Ts.length/\ds.length=Ts.length/\∀(j:Nat) (e d:Addr) (T:Tb),es[j]? =some e->ds[j]? =some d->Ts[j]? =some T->a1D H e d T
theorem a1D.sb {H H':Hp}{e d:Addr}{T:Tb}(h:a1D H e d T)(s:Sb H H'):a1D H' e d T:=⟨s _ _ rfl h.1,s _ _ rfl h.2.1,h.2.2.sb s⟩
theorem a1X.sb {H H':Hp}{l:Addr}{es ds:List Addr}{Ts:List Tb}(h:a1X H l es ds Ts)(s:Sb H H'):a1X H' l es ds Ts:=⟨s _ _ rfl h.1,h.2.1,h.2.2.1,fun j e d T a b c=>(h.2.2.2 j e d T a b c).sb s⟩
def a9Z (T0:Tb)(R:List Tb):Prop:=R.length<=7/\((T0::R).map (·.name)).Nodup/\(∀T∈T0::R,a1P T.name=true)/\T0.sort="head"/\∀T∈R,T.sort∈a4o
def Fr (P:Addr)(H H':Hp):Prop:=∀a o,a≠P->H a=some o->H' a=some o
def b5n:Stmt->Expr
 | .Assign _ (.Call _ _ [⟨_,e,_⟩] _) _=>e
 |_=>.Constant .none 0 ⟨0,0,0,0⟩
def b3H:Expr->Pos
 | .Lambda _ _ _ p=>p
 |_=>⟨0,0,0,0⟩
def b0d:Expr:=b5n ((a0J (top 18)).getD 4 (.Pass ⟨0,0,0,0⟩))
def b2H:Expr->Arguments
 | .Lambda a _ _ _=>a
 |_=>a0Y (top 18)
def b2D:Expr->Expr
 | .Lambda _ b _ _=>b
 |e=>e
def b0P:Expr->Scope
 | .Lambda _ _ s _=>s
 |_=>a0f (top 18)
def a3x:Pos:=b3H b0d
def foQ:Str:="form_of.<locals>.<lambda>"
def a6c (PF:Addr):Sp:=fun vs H Q _=>∃(l:Addr) (sz:Int) (es ds:List Addr) (T0:Tb) (R:List Tb),vs=[.int sz,.ref l]/\1<=sz/\a1X H l es ds (T0::R)/\a9Z T0 R/\a2D PF a3x foQ H ∧
 ∀(f:Addr) (H':Hp) (R':List Tb),Sb H H'->Fr PF H H'->a2D PF a3x foQ H'->R'.Perm R->a6L (R'.map (·.name))->a0W H' f sz (T0::R')->Q (.ref f) H'
def a4A (o:Option HO):Prop:=(∀xs,o≠some (.tup xs))/\∀ob xs,o≠some (.frz ob (.tup xs))
theorem a4A.lst {H:Hp}{D:Addr}{ys:List V}(e:H D=some (.lst ys)):a4A (H D):=by rw[e];exact⟨(fun _ h=>by cases h),(fun _ _ h=>by cases h)⟩
theorem a1z.beside {H:Hp}{D t:Addr}{u:HO}{cols:List (Str×V)}(n:a4A (H D))(h:a1z H t cols):a1z (L2.upd H D u) t cols:=by
 obtain⟨o,ps,zs,h1,h2,h3,h4,h5,h6⟩:=h;refine⟨o,ps,zs,h1,h2,h3,?_,h5,fun j p z a b=>?_⟩
 ·rw[a0g (fun e=>n.2 _ _ (by rw[<-e];exact h4))];exact h4
 ·have:=h6 j p z a b
  rw[a0g (fun e=>n.1 _ (by rw[<-e];exact this))];exact this
theorem a2q.beside {H:Hp}{D e:Addr}{u:HO}{T:Tb}(n:a4A (H D))(h:a2q H e T):a2q (L2.upd H D u) e T:=by
 obtain⟨ct,h1,h2⟩:=h;exact⟨ct,by rw[a0g (fun e=>n.1 _ (by rw[<-e];exact h1))];exact h1,h2.beside n⟩
section
variable {P:Program}{w:World}{K:Fg0}{mg:Str->Option Value}{base:Heap}
theorem b2e {f c PF fW fS fN fC:Addr}{fd fdW fdS fdN fdC:FuncData}(F:b3h K "form_of" "form_of" (top 18) f fd c)(B:Bl mg)(hC:PySem.W.codeHdIn K c PF=true)(hB:L2.a5A base mg)
  (DW:Df K mg "is_whole" (top 10) fW fdW) (GW:a0F P w K mg base CX0 1 fW fdW ["thing"] (a6K K)) (DS:Df K mg "ask_sorts" (top 19) fS fdS) (GS:a0F P w K mg base CX0 1 fS fdS ["sorts"] b1A) (DN:Df K mg "ask_names" (top 20) fN fdN) (GN:a0F P w K mg base CX0 2 fN fdN ["names"] b1p)
  (DC:Df K mg "columns_made" (top 21) fC fdC) (GC:a0F P w K mg base CX0 5 fC fdC ["columns"] b1q):a0F P w K mg base CX0 6 f fd ["size","tables"] (a6c PF):=by
 have sc:a0o ["size","tables","made","sides"] ["size","tables"] (a0f (top 18)):=.k (by decide +kernel);have bW:=DW.fn.b1 "thing" (by intros;rfl);have bS:=DS.fn.b1 "sorts" (by intros;rfl);have bN:=DN.fn.b1 "names" (by intros;rfl);have bC:=DC.fn.b1 "columns" (by intros;rfl);refine F.ok sc (fun vs H Q E h=>?_) (fun A outer s H vs Q E hr h=>?_)
 ·obtain⟨l,sz,es,ds,T0,R,rfl,_⟩:=h
  rfl
 ·obtain⟨l,sz,es,ds,T0,R,rfl,sz1,hP,hT,hTab,q⟩:=h
  have hr1:a1r 1 _:=hr.mono (by decide);have hr2:a1r 2 _:=hr.mono (by decide);refine⟨_,a0d (a0A (PW.pt (a2F (a1j (a0D (a0i GW hr1 (by rfl) DW.mg DW.fn.kp bW .nil a0r (a0a (pv 0) a0c)))) (a1J (a0q b2h (pv 0) a0e (a0t _))))) a0j a0l)
   (a0d (a1t (a0i GS hr1 (by rfl) DS.mg DS.fn.kp bS .nil a0r (a0a (a1Z (osc:=a0f (top 18)) (N0:=["size","tables","made","sides"]) (xs:=["name","sort","columns"]) (fr:=[]) ⟨rfl,by decide +kernel,by decide +kernel,by decide +kernel,by decide,by decide +kernel⟩ rfl rfl rfl (a1C (pv 1))
     (fun s H fp=>a5c (K:=K) (n:=3) rfl rfl (a0G (a0v (i:=0) (show(["name","sort","columns"]:List Str).Nodup by decide +kernel) rfl (Or.inl rfl)) (a0G (a0v (i:=1) (show(["name","sort","columns"]:List Str).Nodup by decide +kernel) rfl (Or.inl rfl)) (a0G (a0v (i:=2) (show(["name","sort","columns"]:List Str).Nodup by decide +kernel) rfl (Or.inl rfl)) a2g)))) (fun s H fp=>a1E)
     (fun s H fp=>pv 1)) a0c)))
   (a0d (a1t (a0i GN hr2 (by rfl) DN.mg DN.fn.kp bN .nil a0r (a0a (a1Z (osc:=a0f (top 18)) (N0:=["size","tables","made","sides"]) (xs:=["name","sort","columns"]) (fr:=[]) ⟨rfl,by decide +kernel,by decide +kernel,by decide +kernel,by decide,by decide +kernel⟩ rfl rfl rfl (a1C (pv 1))
     (fun s H fp=>a5c (K:=K) (n:=3) rfl rfl (a0G (a0v (i:=0) (show(["name","sort","columns"]:List Str).Nodup by decide +kernel) rfl (Or.inl rfl)) (a0G (a0v (i:=1) (show(["name","sort","columns"]:List Str).Nodup by decide +kernel) rfl (Or.inl rfl)) (a0G (a0v (i:=2) (show(["name","sort","columns"]:List Str).Nodup by decide +kernel) rfl (Or.inl rfl)) a2g)))) (fun s H fp=>a1E)
     (fun s H fp=>pv 0)) a0c)))
   (a0d (a9p (i:=2) (osc:=a0f (top 18)) (N0:=["size","tables","made","sides"]) (xs:=["name","sort","columns"]) (fr:=[]) ⟨rfl,by decide +kernel,by decide +kernel,by decide +kernel,by decide,by decide +kernel⟩ rfl rfl rfl (a1C (pv 1))
     (fun s H fp=>a5c (K:=K) (n:=3) rfl rfl (a0G (a0v (i:=0) (show(["name","sort","columns"]:List Str).Nodup by decide +kernel) rfl (Or.inl rfl)) (a0G (a0v (i:=1) (show(["name","sort","columns"]:List Str).Nodup by decide +kernel) rfl (Or.inl rfl)) (a0G (a0v (i:=2) (show(["name","sort","columns"]:List Str).Nodup by decide +kernel) rfl (Or.inl rfl)) a2g)))) (fun s H fp=>a1E)
     (fun s H fp=>a0M (a0a (pv 0) (a0a (pv 1) (a0a (a0i GC hr (by rfl) DC.mg DC.fn.kp bC .nil a0r (a0a (pv 2) a0c)) a0c)))) sc.nd rfl (Or.inl rfl))
   (a0d (a0E (i:=3) sc.nd rfl (Or.inl rfl) (a7K (k:=2) (x:="table") (q:=foQ) (params:=b2H b0d) (body:=b2D b0d) (scope:=b0P b0d) (pm:=(mg "__name__").getD .none) (tb:=tOp (b3q K) (b4Q 0) (tC (.int 0))) hr (by rfl) B.sorted (a3D a4K (pv 2) (a5e a0e) a4N) (b3I rfl hC hB) ⟨rfl,rfl,rfl,by decide +kernel,rfl,by decide +kernel,by decide +kernel⟩ (fun _ _ _=>rfl) (fun f c' s H=>a0x (r:=b3q K) a0P (pv 0) a0e (fun _ _=>rfl))))
   (a0h (a0u (a0M (a0a (pv 0) (a0a (a1k a1T (by rfl) B.tuple boot_tuple (a0a (a0w b1F (a3D a4K (pv 2) a4N (a5e a0e)) (pv 3)) a0c)) a0c)))))))))
   ,?_⟩
  obtain⟨Ts,eTs⟩:∃Ts,Ts=T0::R:=⟨_,rfl⟩;rw[<-eTs] at hP;obtain⟨r7,ndn,hnm,hhd,hsd⟩:=hT;rw[<-eTs] at ndn hnm;have tl:Ts.length=R.length+1:=by rw[eTs];rfl
  have e1l:=hP.2.1;have e2l:=hP.2.2.1;refine⟨_,rfl,.int sz,"int",rfl,Is.int,_,rfl,a2j (by decide) ?_⟩;refine⟨_,rfl,_,_,rfl,rfl,_,rfl,a2j (dF0 (by omega)) ?_⟩;obtain⟨HX,eHX⟩:∃HX,HX=H:=⟨_,rfl⟩;have SX:a0m H HX:=by rw[eHX];exact a0m.refl H
  rw[<-eHX];refine⟨_,rfl,l,rfl,⟨_,SqL.of (SX _ _ hP.1)⟩,fun D2 hD2=>?_⟩;refine a2C Ts.length (fun i=>.str ((Ts.map (·.sort)).getD i "")) (fun i σ' Hc=>(∃t0 t1 t2,σ'=[t0,t1,t2])/\a0m HX Hc) (by rw[sizeLine_eq];omega) ⟨⟨_,_,_,rfl⟩,a0m.upd hD2⟩ a0b ?_ ?_
  ·rintro i σ' Hc hi ⟨⟨t0,t1,t2,rfl⟩,sm⟩ hD'
   have hie:i<es.length:=by omega
   have hid:i<ds.length:=by omega
   have sc:=SX.trans sm;have pt:=hP.2.2.2 i es[i] ds[i] Ts[i] (gE0 hie) (gE0 hid) (gE0 hi);refine⟨⟨_,V.ref es[i],SqL.of (sc _ _ hP.1),by rw[gM0,gE0 hie];rfl⟩,?_⟩;rintro x H' ⟨rfl,hx'⟩;have ex:=hx' _ (SqL.of (sc _ _ hP.1));rw[gM0,gE0 hie] at ex;cases ex;refine⟨_,_,rfl,SqT.of (sc _ _ pt.1),rfl,_,_,rfl,_,_,rfl,_,_,rfl,rfl,_,rfl,?_,hD',⟨_,_,_,rfl⟩,sm.put hD2⟩;rw[List.getD_eq_getElem?_getD,gM0,gE0 hi]
   rfl
  rintro σ2 H2 ⟨_,sm2⟩ hDn2;refine⟨⟨_,SqL.of ((SX.trans sm2) _ _ hP.1),by rw[lM0];omega⟩,?_⟩;rw[show(List.range Ts.length).map (fun i=>V.str ((Ts.map (·.sort)).getD i ""))=(Ts.map (·.sort)).map V.str from by
   have:=a1I (Ts.map (·.sort)) ("":Str) (fun z=>V.str z)
   rw[lM0] at this;exact this] at hDn2
  refine⟨D2,R.map (·.sort),rfl,by rw[hDn2,eTs,mN0,hhd],(fun z hz=>?_),fun H3 s3=>?_⟩
  ·obtain⟨T,hT',rfl⟩:=mM0.mp hz
   exact hsd T hT'
  have S3:a0m H H3:=(SX.trans sm2).trans s3;clear SX eHX hD2 sm2 hDn2 s3;clear H2;obtain⟨HX,eHX⟩:∃HX,HX=H3:=⟨_,rfl⟩;have SX:a0m H HX:=by rw[eHX];exact S3
  rw[<-eHX];refine⟨_,rfl,l,rfl,⟨_,SqL.of (SX _ _ hP.1)⟩,fun D4 hD4=>?_⟩;refine a2C Ts.length (fun i=>.str ((Ts.map (·.name)).getD i "")) (fun i σ' Hc=>(∃t0 t1 t2,σ'=[t0,t1,t2])/\a0m HX Hc) (by rw[sizeLine_eq];omega) ⟨⟨_,_,_,rfl⟩,a0m.upd hD4⟩ a0b ?_ ?_
  ·rintro i σ' Hc hi ⟨⟨t0,t1,t2,rfl⟩,sm⟩ hD'
   have hie:i<es.length:=by omega
   have hid:i<ds.length:=by omega
   have sc:=SX.trans sm;have pt:=hP.2.2.2 i es[i] ds[i] Ts[i] (gE0 hie) (gE0 hid) (gE0 hi);refine⟨⟨_,V.ref es[i],SqL.of (sc _ _ hP.1),by rw[gM0,gE0 hie];rfl⟩,?_⟩;rintro x H' ⟨rfl,hx'⟩;have ex:=hx' _ (SqL.of (sc _ _ hP.1));rw[gM0,gE0 hie] at ex;cases ex;refine⟨_,_,rfl,SqT.of (sc _ _ pt.1),rfl,_,_,rfl,_,_,rfl,_,_,rfl,rfl,_,rfl,?_,hD',⟨_,_,_,rfl⟩,sm.put hD4⟩;rw[List.getD_eq_getElem?_getD,gM0,gE0 hi]
   rfl
  rintro σ4 H4 ⟨_,sm4⟩ hDn4;refine⟨⟨_,SqL.of ((SX.trans sm4) _ _ hP.1),by rw[lM0];omega⟩,?_⟩;rw[show(List.range Ts.length).map (fun i=>V.str ((Ts.map (·.name)).getD i ""))=(Ts.map (·.name)).map V.str from by
   have:=a1I (Ts.map (·.name)) ("":Str) (fun z=>V.str z)
   rw[lM0] at this;exact this] at hDn4
  refine⟨D4,Ts.map (·.name),rfl,hDn4,ndn,(fun z hz=>?_),fun H5 s5=>?_⟩
  ·obtain⟨T,hT',rfl⟩:=mM0.mp hz
   exact hnm T hT'
  have S5:a0m H H5:=(SX.trans sm4).trans s5;refine⟨_,rfl,l,rfl,⟨_,SqL.of (S5 _ _ hP.1)⟩,fun D6 hD6=>?_⟩;have hD60:H D6=none:=by
   cases e:H D6 with
   |none=>rfl
   |some o=>rw[S5 _ _ e] at hD6;cases hD6
  refine a1M Ts.length (fun i ys σ' Hc=>(∃t0 t1 t2,σ'=[t0,t1,t2])/\a0m H Hc/\∃es':List Addr,ys=es'.map V.ref/\∀(j:Nat) (e:Addr) (T:Tb),es'[j]? =some e->Ts[j]? =some T->a2q Hc e T) (by rw[sizeLine_eq];omega) ⟨⟨_,_,_,rfl⟩,S5.trans (a0m.upd hD6),[],rfl,fun j e T h=>nomatch h⟩ a0b ?_ ?_
  ·rintro i σ' Hc ys hi ⟨⟨t0,t1,t2,rfl⟩,sm,es',rfl,hes⟩ hyl hD'
   rw[lM0] at hyl;have hie:i<es.length:=by omega
   have hid:i<ds.length:=by omega
   have pt:=hP.2.2.2 i es[i] ds[i] Ts[i] (gE0 hie) (gE0 hid) (gE0 hi);refine⟨⟨_,V.ref es[i],SqL.of (sm _ _ hP.1),by rw[gM0,gE0 hie];rfl⟩,?_⟩;rintro x H' ⟨rfl,hx'⟩;have ex:=hx' _ (SqL.of (sm _ _ hP.1));rw[gM0,gE0 hie] at ex;cases ex;refine⟨_,_,rfl,SqT.of (sm _ _ pt.1),rfl,_,_,rfl,_,_,rfl,_,_,rfl,rfl,?_⟩;refine⟨_,rfl,_,rfl,_,rfl,ds[i],Ts[i].cols,rfl,sm _ _ pt.2.1,pt.2.2.sb sm.sb,fun t H7 s7 hct=>?_⟩;refine⟨(by show 3<=sizeLine;decide),fun p hp=>?_⟩;have T:=a0m.upd (o:=.tup [.str Ts[i].name,.str Ts[i].sort,.ref t]) hp;have nD:a4A ((L2.upd H7 p (.tup [.str Ts[i].name,.str Ts[i].sort,.ref t])) D6):=a4A.lst (T _ _ (s7 _ _ hD'));refine⟨T _ _ (s7 _ _ hD'),⟨_,_,_,rfl⟩,((sm.trans s7).trans T).put hD60,es'++[p],by rw[mA0];rfl,fun j e T' h1 h2=>?_⟩
   by_cases hj:j<es'.length
   ·rw[gL0 hj] at h1
    exact((hes j e T' h1 h2).same (s7.trans T)).beside nD
   ·have hj':j=es'.length:=by
     have:=(gS0.mp h1).1
     rw[lA0] at this;simp at this
     omega
    subst hj';rw[gR0 (nR0 _),Nat.sub_self] at h1;cases h1;rw[hyl,gE0 hi] at h2;cases h2;exact a2q.beside nD ⟨t,a0b,hct.same T⟩
  rintro σ6 H6 ys ⟨_,S6,es',rfl,hes⟩ hD6n hyl;rw[lM0] at hyl;refine⟨⟨_,SqL.of (S6 _ _ hP.1),by rw[lM0];omega⟩,?_⟩;refine⟨_,rfl,_,rfl,D6,_,rfl,SqL.of hD6n,fun p7 e7=>?_⟩;rw[a7f (by decide) (by rw[lM0];omega),<-List.map_drop];have T7:=a0m.upd (o:=.lst ((es'.drop (1:Int).toNat).map V.ref)) e7;have S7:=S6.trans T7;refine b0E (hTab.same S7) fun lf c' H8 sb8 fr8 tab8 hlf hc8=>?_;have hPF:∀o,H PF=some o->∃ps,o=.tbl ps:=fun o e=>by
   rcases hTab with h |⟨c'',h,_⟩
   ·rw[h] at e;cases e;exact⟨_,rfl⟩
   ·rw[h] at e;cases e;exact⟨_,rfl⟩
  have SB8:=S7.sb.trans sb8;have FR8:Fr PF H H8:=fun b o nb e=>by
   have:=S7 _ _ e
   rw[fr8 b nb (by rw[this];simp)];exact this
  have hes8:∀(j:Nat) (e:Addr) (T:Tb),es'[j]? =some e->Ts[j]? =some T->a2q H8 e T:=fun j e T a b=>((hes j e T a b).same T7).sb sb8;refine⟨p7,lf,c',_,R.map (·.name),rfl,rfl,hlf,hc8,SqL.of (sb8 _ _ rfl a0b),?_,?_,?_,(fun i v z h1 h2=>?_),fun l9 ix n9 hix hri=>?_⟩
  ·rw[lM0,lM0,List.length_drop]
   show R.length=es'.length-1
   omega
  ·rw[eTs,mN0] at ndn
   exact(List.nodup_cons.mp ndn).2
  ·rw[lM0,List.length_drop]
   show es'.length-1<64
   omega
  ·have h1':(es'.drop 1)[i]?.map V.ref=some v:=by rw[<-gM0];exact h1
   rw[List.getElem?_drop] at h1';obtain⟨e,he,rfl⟩:=Option.map_eq_some_iff.mp h1';rw[gM0] at h2;obtain⟨T,hT',rfl⟩:=Option.map_eq_some_iff.mp h2;obtain⟨ct,g1,_⟩:=hes8 (1+i) e T he (by rw[eTs,Nat.add_comm,List.getElem?_cons_succ];exact hT');exact⟨_,rfl,_,_,0,_,rfl,rfl,SqT.of g1,rfl,rfl,rfl⟩
  rw[lM0,List.length_drop] at hix;have hix':ix.Perm (List.range R.length):=by
   have:es'.length-(1:Int).toNat=R.length:=by
    show es'.length-1=R.length
    omega
   rw[this] at hix;exact hix
  have ixlt:∀i∈ix,i<R.length:=fun i hi=>List.mem_range.mp (hix'.mem_iff.mp hi);have elst:(ix.map fun i=>((es'.drop (1:Int).toNat).map V.ref).getD i .non)=(ix.map fun i=>(es'.drop 1).getD i 0).map V.ref:=by
   rw[mC0];refine List.map_congr_left fun i hi=>?_;have hl:i<(es'.drop 1).length:=by
    rw[List.length_drop]
    have:=ixlt i hi
    omega
   show(((es'.drop 1).map V.ref).getD i .non)=V.ref ((es'.drop 1).getD i 0)
   rw[List.getD_eq_getElem?_getD,List.getD_eq_getElem?_getD,gM0,gE0 hl]
   rfl
  rw[elst];have T9:=a0m.upd (o:=.lst ((ix.map fun i=>(es'.drop 1).getD i 0).map V.ref)) n9;have hD9:=T9 _ _ (sb8 _ _ rfl (T7 _ _ hD6n));have ixl:ix.length=R.length:=by rw[hix'.length_eq,List.length_range]
  have he0:0<es'.length:=by omega
  have etk:es'.take (1:Int).toNat=[es'[0]]:=by
   show es'.take 1=[es'[0]];cases es' with
   |nil=>simp at he0
   |cons a r=>rfl
  refine⟨_,rfl,_,rfl,_,rfl,D6,_,rfl,SqL.of hD9,fun p10 e10=>?_⟩;rw[b1v (by decide) (by rw[lM0];omega),<-List.map_take,etk];have T10:=a0m.upd (o:=.lst ([es'[0]].map V.ref)) e10;refine⟨_,rfl,p10,l9,_,_,rfl,rfl,a0b,T10 _ _ a0b,?_,fun p11 e11=>?_⟩
  ·rw[lM0,lM0,lM0,sizeLine_eq,ixl]
   simp only[List.length_cons,List.length_nil]
   omega
  rw[show([es'[0]].map V.ref++(ix.map fun i=>(es'.drop 1).getD i 0).map V.ref)=(es'[0]::ix.map fun i=>(es'.drop 1).getD i 0).map V.ref from rfl];have T11:=a0m.upd (o:=.lst ((es'[0]::ix.map fun i=>(es'.drop 1).getD i 0).map V.ref)) e11;refine⟨p11,_,rfl,.inl ⟨SqL.of a0b,fun t12 e12=>?_⟩⟩;have T12:=a0m.upd (o:=.tup ((es'[0]::ix.map fun i=>(es'.drop 1).getD i 0).map V.ref)) e12;refine⟨(by show 2<=sizeLine;decide),fun f13 e13=>?_⟩;have T13:=a0m.upd (o:=.tup [.int sz,.ref t12]) e13;have S13:=T9.trans (T10.trans (T11.trans (T12.trans T13)));refine q f13 _ (ix.map fun i=>R.getD i T0) (SB8.trans S13.sb) (fun b o nb e=>S13 _ _ (FR8 b o nb e)) (tab8.same S13) (L2.a8K T0 R hix') ?_ ⟨t12,es'[0]::ix.map fun i=>(es'.drop 1).getD i 0,a0b,T13 _ _ a0b,?_,fun j e T h1 h2=>?_⟩
  ·have:(ix.map fun i=>(R.map (·.name)).getD i ("":Str))=(ix.map fun i=>R.getD i T0).map (·.name):=by
    rw[mC0];refine List.map_congr_left fun i hi=>?_;have hl:=ixlt i hi
    show(R.map (·.name)).getD i ("":Str)=(R.getD i T0).name
    rw[List.getD_eq_getElem?_getD,List.getD_eq_getElem?_getD,gM0,gE0 hl]
    rfl
   rw[<-this];exact hri
  ·rw[List.length_cons,List.length_cons,lM0,lM0]
  ·refine a2q.same ?_ S13
   cases j with
   |zero=>
    cases h1;cases h2;exact hes8 0 es'[0] T0 (gE0 he0) (by rw[eTs];rfl)
   |succ j=>
    rw[List.getElem?_cons_succ,gM0] at h1 h2;obtain⟨i,hi,rfl⟩:=Option.map_eq_some_iff.mp h1;rw[hi] at h2;cases h2;have hl:=ixlt i (gI0 hi);have hl2:i<(es'.drop 1).length:=by rw[List.length_drop];omega
    refine hes8 (1+i) _ _ ?_ ?_
    ·show es'[1+i]? =some ((es'.drop 1).getD i 0)
     rw[<-List.getElem?_drop,List.getD_eq_getElem?_getD,gE0 hl2]
     rfl
    ·show Ts[1+i]? =some (R.getD i T0)
     rw[eTs,Nat.add_comm,List.getElem?_cons_succ,List.getD_eq_getElem?_getD,gE0 hl]
     rfl
end
def leS (a b:Str):Bool:=!decide (b.cps.toList<a.cps.toList)
theorem a2R {a b:Str}:leS a b=true↔a.cps.toList<=b.cps.toList:=by
 unfold leS;rw[Bool.not_eq_true',decide_eq_false_iff_not];exact Iff.rfl
theorem a6a (a b c:Str)(h:leS a b=true)(h':leS b c=true):leS a c=true:=a2R.mpr (List.le_trans (a2R.mp h) (a2R.mp h'))
theorem b0i {a b:Str}(h:a.cps.toList=b.cps.toList):a=b:=Str.ext' (Array.toList_inj.mp h)
theorem a5m {a b:Str}(h:leS a b=true)(h':leS b a=true):a=b:=b0i (List.le_antisymm (a2R.mp h) (a2R.mp h'))
theorem a5u:∀{l:List Str} {p:Str},PyProof.Rows.risingS p l=true->(p::l).Pairwise fun a b=>leS a b=true
 |[],p,_=>List.pairwise_singleton _ _
 |x::r,p,h=>by
  unfold PyProof.Rows.risingS at h;rw[Bool.and_eq_true] at h;have hx:leS p x=true:=by
   unfold leS;rw[PyProof.Rows.le_meets];exact h.1
  have ih:=a5u (l:=r) (p:=x) h.2;refine List.Pairwise.cons (fun y hy=>?_) ih;rcases mK0.mp hy with rfl |hy
  ·exact hx
  ·exact a6a p x y hx ((List.pairwise_cons.mp ih).1 y hy)
theorem a2L:∀{l:List Str},PyProof.Rows.sortedS l=true->l.Pairwise fun a b=>leS a b=true
 |[],_=>List.Pairwise.nil
 |x::r,h=>a5u h
theorem a9R {l m k:List Str}(h1:sortedS l=true)(h2:sortedS m=true)(p1:l.Perm k)(p2:m.Perm k):l=m:=
 List.Perm.eq_of_pairwise (fun a b _ _ h1 h2=>a5m h1 h2) (a2L h1) (a2L h2) (p1.trans p2.symm)
def Sl (d:Addr)(H H':Hp):Prop:=∀b o,b≠d->H b=some o->H' b=some o
theorem Sl.of {d:Addr}{H H':Hp}(s:a0m H H'):Sl d H H':=fun b o _ e=>s b o e
theorem Sl.put {d:Addr}{H H1 H2:Hp}{o:HO}(a:Sl d H H1)(s:a0m H1 H2):Sl d H (L2.upd H2 d o):=fun b u nb e=>by
 rw[a0g nb];exact s _ _ (a b u nb e)
theorem a1D.besideL {H:Hp}{D e d:Addr}{u:HO}{ys:List V}{T:Tb}(hD:H D=some (.lst ys))(h:a1D H e d T):a1D (L2.upd H D u) e d T:=by
 refine⟨?_,?_,h.2.2.1,h.2.2.2.1,fun p hp=>⟨(h.2.2.2.2 p hp).1,?_⟩⟩
 ·rw[a0g (fun q=>by have:=h.1;rw[q,hD] at this;cases this)];exact h.1
 ·rw[a0g (fun q=>by have:=h.2.1;rw[q,hD] at this;cases this)];exact h.2.1
 ·obtain⟨dt,h1,h2,h3⟩:=(h.2.2.2.2 p hp).2
  exact⟨dt,Rep.beside (fun xs q=>by rw[hD] at q;cases q) h3 h1,h2,h3⟩
end My
namespace L2
open PySem PySem.Spec PyProof.Rows
theorem a8L {J:It}{g:TG}{tt:TT}{te:TE}{R:Addr->Hp->Prop}{D:Addr}{σ0:St}{H0:Hp}(n:Nat)(Pv:Nat->List V->St->Hp->Prop)(hn:n<=sizeLine)(h0:Pv 0 [] σ0 H0)(hD0:H0 D=some (.lst []))
  (hs:∀i σ H ys,i<n->Pv i ys σ H->H D=some (.lst ys)->J.go i H/\∀x H',J.yld i H x H'->g x σ H' fun σ2 H2=>tt σ2 H2 fun b H3=>if b=true then te σ2 H3 (fun y H4=>H4 D=some (.lst ys)/\Pv (i+1) (ys++[y]) σ2 (upd H4 D (.lst (ys++[y])))) else H3 D=some (.lst ys)/\Pv (i+1) ys σ2 H3)
  (hd:∀σ H ys,Pv n ys σ H->H D=some (.lst ys)->J.stop n H/\R D H):a6P J g tt te R D σ0 H0:=by
 refine⟨fun i m σ H=>m=n-i/\i<=n/\∃ys,Pv i ys σ H/\H D=some (.lst ys)/\ys.length<=i,⟨n,by omega,zL0 _,[],h0,hD0,nR0 _⟩,?_⟩;rintro i m σ H ⟨rfl,hi,ys,p,hD,hl⟩
 by_cases hlt:i<n
 ·obtain⟨go,st⟩:=hs i σ H ys hlt p hD
  refine .inr ⟨go,fun σ2 y H4=>H4 D=some (.lst ys)/\Pv (i+1) (ys++[y]) σ2 (upd H4 D (.lst (ys++[y]))),fun σ2 H3=>H3 D=some (.lst ys)/\Pv (i+1) ys σ2 H3,?_,?_,st⟩
  ·rintro σ2 y H4 ⟨e,p'⟩
   exact⟨_,e,by omega,n-(i+1),by omega,rfl,hlt,_,p',a0b,by simp;omega⟩
  ·rintro σ2 H3 ⟨e,p'⟩
   exact⟨n-(i+1),by omega,rfl,hlt,_,p',e,by omega⟩
 ·have e:i=n:=by omega
  subst e;exact .inl (hd σ H ys p hD)
def b3T (K:Fg0)(xs:List V)(H:Hp)(Q:VK):Prop:=∃(t:Addr) (o:Obj) (ys:List V) (kvs:List (Key×V)),xs=[.ref t]/\H t=some (.frz o (.tup ys))/\o.dict=none/\ys.length<=1000/\kvs.length=ys.length ∧
  (∀(j:Nat) (k:Key) (v:V),kvs[j]? =some (k,v)->∃a,ys[j]? =some (.ref a)/\SqT K H a [kV k,v])/\(kvs.map (·.1)).Nodup/\∀p,H p=none->Q (.ref p) (upd H p (.dK kvs))
theorem a6l {X:Cx}{K:Fg0}(hK:X.K=K)(hc:X.calm=true):a1p X (.type "dict") (b3T K):=by
 subst hK;exact a4z hc
end L2
namespace My
open PySem L2 PyProof.Rows
def srt (l:List Str):List Str:=l.mergeSort leS
theorem a1a (l:List Str):(srt l).Perm l:=List.mergeSort_perm l leS
theorem a8N (a b:Str):(leS a b || leS b a)=true:=by
 rw[Bool.or_eq_true];rcases List.le_total a.cps.toList b.cps.toList with h |h
 ·exact .inl (a2R.mpr h)
 ·exact .inr (a2R.mpr h)
theorem a5X (l:List Str):(srt l).Pairwise fun a b=>leS a b=true:=List.pairwise_mergeSort a6a a8N l
theorem b2o {l m:List Str}(h1:l.Pairwise fun a b=>leS a b=true)(h2:m.Pairwise fun a b=>leS a b=true)(p:l.Perm m):l=m:=List.Perm.eq_of_pairwise (fun a b _ _ h1 h2=>a5m h1 h2) h1 h2 p
theorem b4r {zs l:List Str}(p:zs.Perm l)(h:sortedS zs=true):zs=srt l:=b2o (a2L h) (a5X l) (p.trans (a1a l).symm)
theorem b2b (l:List Str):srt (srt l)=srt l:=b2o (a5X _) (a5X _) (a1a _)
def cnC (cols:List (Str×V)):List (Str×V):=(srt (cols.map (·.1))).map fun z=>(z,vOf cols z)
def cn (T:Tb):Tb:=⟨T.name,T.sort,cnC T.cols⟩
def nmS (T:Tb):Str×Str:=(T.name,T.sort)
theorem a1A (cols:List (Str×V)):(cnC cols).map (·.1)=srt (cols.map (·.1)):=by
 unfold cnC;rw[mC0];exact List.map_id _
theorem b1R (cols:List (Str×V)):kvC (cnC cols)=(srt (cols.map (·.1))).map fun z=>(.inr z,vOf cols z):=by
 unfold kvC cnC;rw[mC0]
 rfl
theorem a7z {zs:List Str}{f:Str->V}{z:Str}(h:z∈zs):a1K (zs.map fun z=>((.inr z:Key),f z)) (.inr z)=some (f z):=by
 induction zs with
 |nil=>cases h
 |cons y r ih=>
  by_cases e:y=z
  ·rw[mN0,a1g (by rw[e]),e]
  ·rw[mN0,a1B (fun q=>e (by injection q))]
   rcases mK0.mp h with h |h
   ·exact absurd h.symm e
   ·exact ih h
theorem a3O {cols:List (Str×V)}{z:Str}(h:z∈cols.map (·.1)):vOf (cnC cols) z=vOf cols z:=by
 have e:a1K (kvC (cnC cols)) (.inr z)=some (vOf cols z):=by
  rw[b1R];exact a7z ((a1a _).mem_iff.mpr h)
 unfold vOf at e ⊢;rw[e]
 rfl
theorem b2J (cols:List (Str×V)):cnC (cnC cols)=cnC cols:=by
 show(srt ((cnC cols).map (·.1))).map (fun z=>(z,vOf (cnC cols) z))=cnC cols
 rw[a1A,b2b];refine List.map_congr_left fun z hz=>?_;rw[a3O ((a1a _).mem_iff.mp hz)]
theorem a7S (T:Tb):cn (cn T)=cn T:=by
 unfold cn;rw[b2J]
theorem a1z.cn {H:Hp}{t:Addr}{cols:List (Str×V)}(h:a1z H t cols):a1z H t (cnC cols):=by
 obtain⟨o,ps,zs,h1,h2,h3,h4,h5,h6⟩:=h;refine⟨o,ps,zs,by rw[a1A];exact h1.trans (a1a _).symm,h2,h3,h4,h5,fun j p z a b=>?_⟩;rw[a3O (h1.mem_iff.mp (gI0 b))];exact h6 j p z a b
theorem a0W.cn {H:Hp}{f:Addr}{sz:Int}{Ts:List Tb}(h:a0W H f sz Ts):a0W H f sz (Ts.map cn):=by
 obtain⟨tt,es,h1,h2,h3,h4⟩:=h;refine⟨tt,es,h1,h2,by rw[lM0];exact h3,fun j e T a b=>?_⟩;rw[gM0] at b;obtain⟨T',hT,rfl⟩:=Option.map_eq_some_iff.mp b;obtain⟨ct,g1,g2⟩:=h4 j e T' a hT;exact⟨ct,g1,g2.cn⟩
theorem a3k {H:Hp}{cols:List (Str×V)}(ok:a0L H cols){z:Str}(h:z∈cols.map (·.1)):a1P z=true/\∃d,Rep H d (vOf cols z)/\a2y d=true/\a2d d=true:=by
 have hval:=a7v h;unfold a1K at hval;obtain⟨kv,hf,e⟩:=Option.map_eq_some_iff.mp hval;have hmem:=List.mem_of_find?_eq_some hf;have hk:=List.find?_some hf;obtain⟨pr,hpr,rfl⟩:=mM0.mp hmem;obtain⟨hn,d,h1,h2,h3⟩:=ok.2.2 pr hpr;have ez:pr.1=z:=by
  have:(Sum.inr pr.1:Key)=.inr z:=by simpa using hk
  injection this
 rw[<-e,<-ez];exact⟨hn,d,h1,h2,h3⟩
theorem a0L.cn {H:Hp}{cols:List (Str×V)}(ok:a0L H cols):a0L H (cnC cols):=by
 refine⟨by rw[a1A];exact(a1a _).nodup_iff.mpr ok.1,?_,fun p hp=>?_⟩
 ·unfold cnC
  rw[lM0,(a1a _).length_eq,lM0];exact ok.2.1
 ·obtain⟨z,hz,rfl⟩:=mM0.mp hp
  exact a3k ok ((a1a _).mem_iff.mp hz)
theorem a9Z.perm {T0 X0:Tb}{R X:List Tb}(h:a9Z T0 R)(e:nmS X0=nmS T0)(p:(X.map nmS).Perm (R.map nmS)):a9Z X0 X:=by
 have e1:X0.name=T0.name:=congrArg Prod.fst e;have e2:X0.sort=T0.sort:=congrArg Prod.snd e;have nn:∀L:List Tb,L.map (·.name)=(L.map nmS).map (·.1):=fun L=>by rw[mC0];rfl
 have pn:(X.map (·.name)).Perm (R.map (·.name)):=by rw[nn,nn];exact p.map _
 have mem:∀T∈X,∃T'∈R,nmS T'=nmS T:=fun T hT=>by
  obtain⟨T',h1,h2⟩:=mM0.mp (p.mem_iff.mp (mM0.mpr ⟨T,hT,rfl⟩));exact⟨T',h1,h2⟩
 obtain⟨h7,nd,hn,hh,hs⟩:=h;refine⟨?_,?_,fun T hT=>?_,by rw[e2];exact hh,fun T hT=>?_⟩
 ·have:=p.length_eq
  rw[lM0,lM0] at this
  omega
 ·rw[mN0] at nd ⊢
  rw[e1];exact((pn.cons _).nodup_iff).mpr nd
 ·rcases mK0.mp hT with rfl |hT
  ·rw[e1];exact hn T0 List.mem_cons_self
  ·obtain⟨T',h1,h2⟩:=mem T hT
   have e3:T'.name=T.name:=congrArg Prod.fst h2;rw[<-e3];exact hn T' (mL0 _ h1)
 ·obtain⟨T',h1,h2⟩:=mem T hT
  have e3:T'.sort=T.sort:=congrArg Prod.snd h2;rw[<-e3];exact hs T' h1
def FAt (H:Hp)(f:Addr)(sz:Int)(T0:Tb)(R:List Tb):Prop:=∃U:List Tb,a0W H f sz (cn T0::U)/\U.Perm (R.map cn)/\a6L (U.map (·.name))
theorem FAt.sb {H H':Hp}{f:Addr}{sz:Int}{T0:Tb}{R:List Tb}(h:FAt H f sz T0 R)(s:Sb H H'):FAt H' f sz T0 R:=by
 obtain⟨U,h1,h2,h3⟩:=h;exact⟨U,h1.sb s,h2,h3⟩
theorem a2o (L:List Tb):(L.map cn).map (·.name)=L.map (·.name):=by rw[mC0];rfl
theorem a4B (L:List Tb):(L.map cn).map nmS=L.map nmS:=by rw[mC0];rfl
theorem FAt.of {H:Hp}{f:Addr}{sz:Int}{X0 T0:Tb}{V X R:List Tb}(h:a0W H f sz (X0::V))(e0:cn X0=cn T0)(p:V.Perm X)(pr:(X.map cn).Perm (R.map cn))(hr:a6L (V.map (·.name))):FAt H f sz T0 R:=by
 refine⟨V.map cn,?_,(p.map cn).trans pr,by rw[a2o];exact hr⟩
 have:=h.cn
 rw[mN0,e0] at this;exact this
structure FK (H:Hp) (f:Addr) (sz:Int) (T0:Tb) (R:List Tb):Prop where
 at_:FAt H f sz T0 R
 ts:a9Z T0 R
 co:∀T∈T0::R,a0L H T.cols
 sz1:1<=sz
theorem FK.get {H:Hp}{f:Addr}{sz:Int}{T0:Tb}{R:List Tb}(h:FK H f sz T0 R):∃U:List Tb,a0W H f sz (cn T0::U)/\U.Perm (R.map cn)/\(∀T∈cn T0::U,cn T=T)/\(∀T∈cn T0::U,a0L H T.cols)/\(cn T0::U).length<=8/\a9Z (cn T0) U/\U.map cn=U:=by
 obtain⟨U,h1,h2,h3⟩:=h.at_;have mem:∀T∈U,∃T'∈R,cn T'=T:=fun T hT=>by
  obtain⟨T',a,b⟩:=mM0.mp (h2.mem_iff.mp hT);exact⟨T',a,b⟩
 have fx:∀T∈U,cn T=T:=fun T hT=>by
  obtain⟨T',_,rfl⟩:=mem T hT;exact a7S T'
 refine⟨U,h1,h2,fun T hT=>?_,fun T hT=>?_,?_,h.ts.perm rfl ?_,?_⟩
 ·rcases mK0.mp hT with rfl |hT
  ·exact a7S T0
  ·exact fx T hT
 ·rcases mK0.mp hT with rfl |hT
  ·exact(h.co T0 List.mem_cons_self).cn
  ·obtain⟨T',a,rfl⟩:=mem T hT
   exact(h.co T' (mL0 _ a)).cn
 ·have:=h2.length_eq
  rw[lM0] at this
  have:=h.ts.1
  rw[List.length_cons]
  omega
 ·rw[<-a4B R]
  exact h2.map _
 ·exact(List.map_congr_left fx).trans (List.map_id _)
theorem a1D.same {H H':Hp}{e d:Addr}{T:Tb}(h:a1D H e d T)(s:a0m H H'):a1D H' e d T:=h.sb s.sb
theorem a1X.same {H H':Hp}{l:Addr}{es ds:List Addr}{Ts:List Tb}(h:a1X H l es ds Ts)(s:a0m H H'):a1X H' l es ds Ts:=h.sb s.sb
theorem a1X.snoc {H:Hp}{l l' p cd:Addr}{es ds:List Addr}{Ts:List Tb}{T:Tb}(h:a1X H l es ds Ts)(hl:H l'=some (.lst ((es++[p]).map V.ref)))(hp:a1D H p cd T):a1X H l' (es++[p]) (ds++[cd]) (Ts++[T]):=by
 obtain⟨_,h2,h3,h4⟩:=h;refine⟨hl,by rw[lA0,lA0,h2];rfl,by rw[lA0,lA0,h3];rfl,fun j e d T' a b c=>?_⟩
 by_cases hj:j<Ts.length
 ·rw[gL0 (by omega)] at a b c
  exact h4 j e d T' a b c
 ·have:j=Ts.length:=by
   have:=(gS0.mp c).1
   rw[lA0] at this;simp at this
   omega
  subst this;rw[gR0 (by omega),h2,Nat.sub_self] at a;rw[gR0 (by omega),h3,Nat.sub_self] at b;rw[gR0 (by omega),Nat.sub_self] at c;cases a;cases b;cases c;exact hp
seal L2.PE L2.PT L2.PW L2.PS L2.PSs L2.PA L2.PI L2.PG L2.PGs L2.OpR L2.a1p L2.IxR L2.SlR L2.MtR L2.PIf L2.PO L2.MtM L2.PC L2.a6n
def a3T:Sp:=fun vs H Q _=>∃(f:Addr) (sz:Int) (Ts:List Tb),vs=[.ref f]/\a0W H f sz Ts/\(∀T∈Ts,cn T=T)/\(∀T∈Ts,a0L H T.cols)/\Ts.length<=8/\∀l es ds H',a0m H H'->H l=none->a1X H' l es ds Ts->Q (.ref l) H'
section
variable {P:Program}{w:World}{K:Fg0}{mg:Str->Option Value}{base:Heap}{CT CO CN:Addr}
theorem b1f {f:Addr}{fd:FuncData}(F:Fun K "parts_of" "parts_of" (top 27) f fd)(B:Bl mg):a0F P w K mg base CX0 1 f fd ["form"] a3T:=by
 have sc:a0o ["form"] ["form"] (a0f (top 27)):=.k (by decide +kernel);refine F.ok sc (fun vs H Q E h=>?_) (fun cdv A outer s H vs Q E hr h=>?_)
 ·obtain⟨f,sz,Ts,rfl,_⟩:=h
  rfl
 ·obtain⟨f,sz,Ts,rfl,⟨tt,es0,h1,h2,h3,h4⟩,fx,co,t8,q⟩:=h
  refine⟨_,a0h (a0u (a1Z (osc:=a0f (top 27)) (N0:=["form"]) (xs:=["name","sort","columns"]) (fr:=[]) ⟨rfl,by decide +kernel,by decide +kernel,by decide +kernel,by decide,by decide +kernel⟩ rfl rfl rfl (a7B (a0x a0P (pv 0) a0e (fun _ _=>rfl)))
     (fun s H fp=>a5c (K:=K) (n:=3) rfl rfl (a0G (a0v (i:=0) (show(["name","sort","columns"]:List Str).Nodup by decide +kernel) rfl (Or.inl rfl)) (a0G (a0v (i:=1) (show(["name","sort","columns"]:List Str).Nodup by decide +kernel) rfl (Or.inl rfl)) (a0G (a0v (i:=2) (show(["name","sort","columns"]:List Str).Nodup by decide +kernel) rfl (Or.inl rfl)) a2g)))) (fun s H fp=>a1E)
     (fun s H fp=>a0M (a0a (pv 0) (a0a (pv 1) (a0a (a1k (a6l (K:=K) rfl rfl) (by rfl) B.dict boot_dict (a0a (pv 2) a0c)) a0c)))))),?_⟩
  refine⟨_,rfl,_,_,1,_,rfl,rfl,SqT.of h1,rfl,tt,rfl,⟨_,SqT.of h2⟩,fun D hD=>?_⟩;refine a1M Ts.length (fun i ys σ' Hc=>(∃t0 t1 t2,σ'=[t0,t1,t2])/\a0m H Hc/\∃es ds:List Addr,ys=es.map V.ref/\ds.length=i/\∀(j:Nat) (e d:Addr) (T:Tb),es[j]? =some e->ds[j]? =some d->Ts[j]? =some T->a1D Hc e d T) (by rw[sizeLine_eq];omega) ⟨⟨_,_,_,rfl⟩,a0m.upd hD,[],[],rfl,rfl,fun j e d T h=>nomatch h⟩ a0b ?_ ?_
  ·rintro i σ' Hc ys hi ⟨⟨t0,t1,t2,rfl⟩,sm,es,ds,rfl,hdl,hpt⟩ hyl hD'
   rw[lM0] at hyl;have hie:i<es0.length:=by omega
   refine⟨⟨_,V.ref es0[i],SqT.of (sm _ _ h2),by rw[gM0,gE0 hie];rfl⟩,?_⟩;rintro x H' ⟨rfl,hx'⟩;have ex:=hx' _ (SqT.of (sm _ _ h2));rw[gM0,gE0 hie] at ex;cases ex;obtain⟨ct,g1,o,ps,zs,hpm,hso,ho,hct,hpl,hpz⟩:=h4 i es0[i] Ts[i] (gE0 hie) (gE0 hi);have eT:=fx Ts[i] (gQ0 hi);have cT:=co Ts[i] (gQ0 hi);obtain⟨T,eTi⟩:∃T,Ts[i]=T:=⟨_,rfl⟩;rw[eTi] at g1 hpm hpz eT cT;have hzl:zs.length<=12:=by
    have:=hpm.length_eq
    rw[lM0] at this
    have:=cT.2.1
    omega
   have ekv:zs.map (fun z=>((.inr z:Key),vOf T.cols z))=kvC T.cols:=by
    rw[b4r hpm hso,<-b1R,show cnC T.cols=T.cols from congrArg Tb.cols eT]
   refine⟨_,_,rfl,SqT.of (sm _ _ g1),rfl,_,_,rfl,_,_,rfl,_,_,rfl,rfl,?_⟩;refine⟨_,rfl,_,rfl,_,rfl,ct,o,_,zs.map (fun z=>(.inr z,vOf T.cols z)),rfl,sm _ _ hct,ho,(by rw[lM0];omega),(by rw[lM0,lM0];omega),(fun j k v hj=>?_),?_,fun d1 n1=>?_⟩
   ·have hjz:j<zs.length:=by
     have:=(gS0.mp hj).1
     rwa [lM0] at this
    have hjp:j<ps.length:=by omega
    rw[gM0,gE0 hjz] at hj;cases hj;exact⟨ps[j],by rw[gM0,gE0 hjp];rfl,SqT.of (sm _ _ (hpz j ps[j] zs[j] (gE0 hjp) (gE0 hjz)))⟩
   ·rw[mC0]
    have e:((fun x:Key×V=>x.1)∘fun z=>((Sum.inr z:Key),vOf T.cols z))=fun z=>(Sum.inr z:Key):=rfl;rw[e];exact List.Pairwise.map _ (fun a b hab h=>hab (by injection h)) (hpm.nodup_iff.mpr cT.1)
   rw[ekv];have T3:=a0m.upd (o:=.dK (kvC T.cols)) n1;refine⟨(by show 3<=sizeLine;decide),fun p hp=>?_⟩;have T4:=a0m.upd (o:=.tup [.str T.name,.str T.sort,.ref d1]) hp;have S4:=T3.trans T4;have hD4:=S4 _ _ hD';refine⟨hD4,⟨_,_,_,rfl⟩,(sm.trans S4).put hD,es++[p],ds++[d1],by rw[mA0];rfl,by rw[lA0,hdl];rfl,fun j e d T' a1 a2 a3=>?_⟩;refine a1D.besideL hD4 ?_
   by_cases hj:j<i
   ·rw[gL0 (by omega)] at a1 a2
    exact(hpt j e d T' a1 a2 a3).sb S4.sb
   ·have:j=i:=by
     have:=(gS0.mp a1).1
     rw[lA0] at this;simp at this
     omega
    subst this;rw[gR0 (by omega),hyl,Nat.sub_self] at a1;rw[gR0 (by omega),hdl,Nat.sub_self] at a2;cases a1;cases a2;rw[gE0 hi,eTi] at a3;cases a3;exact⟨a0b,T4 _ _ a0b,cT.same (sm.trans S4)⟩
  ·rintro σ' Hc ys ⟨_,sm,es,ds,rfl,hdl,hpt⟩ hDn hyl
   rw[lM0] at hyl;exact⟨⟨_,SqT.of (sm _ _ h2),by rw[lM0];omega⟩,q D es ds Hc sm hD ⟨hDn,hyl,hdl,hpt⟩⟩
end
theorem b0m {z:Str}(h:a1P z=true):z.length<=8:=by
 unfold a1P at h;exact(of_decide_eq_true (Bool.and_eq_true_iff.mp h).1).2
def a6J (PF:Addr):Sp:=fun vs H Q _=>∃(f:Addr) (sz:Int) (T0:Tb) (R:List Tb) (z so:Str) (cd:Addr) (cols:List (Str×V)),vs=[.ref f,.str z,.str so,.ref cd]/\FK H f sz T0 R/\H cd=some (.dK (kvC cols))/\a0L H cols/\a2D PF a3x foQ H ∧
 a9Z T0 (R++[⟨z,so,cols⟩])/\∀f' H',Sb H H'->Fr PF H H'->a2D PF a3x foQ H'->FAt H' f' sz T0 (R++[⟨z,so,cols⟩])->Q (.ref f') H'
section
variable {P:Program}{w:World}{K:Fg0}{mg:Str->Option Value}{base:Heap}{PF:Addr}
theorem b0y {f fF fP:Addr}{fd fdF fdP:FuncData}(F:Fun K "with_table" "with_table" (top 29) f fd)(DF:Df K mg "form_of" (top 18) fF fdF)(GF:a0F P w K mg base CX0 6 fF fdF ["size","tables"] (a6c PF))(DP:Df K mg "parts_of" (top 27) fP fdP)(GP:a0F P w K mg base CX0 1 fP fdP ["form"] a3T) :
  a0F P w K mg base CX0 7 f fd ["form","name","sort","columns"] (a6J PF):=by
 have sc:a0o ["form","name","sort","columns"] ["form","name","sort","columns"] (a0f (top 29)):=.k (by decide +kernel);have bF:=DF.fn.b2 "size" "tables" (by intros;rfl);have bP:=DP.fn.b1 "form" (by intros;rfl);refine F.ok sc (fun vs H Q E h=>?_) (fun cdv A outer s H vs Q E hr h=>?_)
 ·obtain⟨f,sz,T0,R,z,so,cd,cols,rfl,_⟩:=h
  rfl
 ·obtain⟨f,sz,T0,R,z,so,cd,cols,rfl,fk,hcd,hco,tab,ts,q⟩:=h
  have hr1:a1r 1 _:=hr.mono (by decide);refine⟨_,a0h (a0u (a0i GF hr (by rfl) DF.mg DF.fn.kp bF .nil a0r (a0a (a0x a0P (pv 0) a0e (fun _ _=>rfl)) (a0a (a0w b1F (a0i GP hr1 (by rfl) DP.mg DP.fn.kp bP .nil a0r (a0a (pv 0) a0c)) (a1R (a0a (a0M (a0a (pv 1) (a0a (pv 2) (a0a (pv 3) a0c)))) a0c))) a0c)))),?_⟩;obtain⟨U,hF,hU,fx,co,t8,tsU,eU⟩:=fk.get;have hF1:=hF;obtain⟨tt,es0,h1,_⟩:=hF1;refine⟨_,rfl,_,_,0,_,rfl,rfl,SqT.of h1,rfl,?_⟩;refine⟨_,rfl,f,sz,cn T0::U,rfl,hF,fx,co,t8,fun l es ds H1 s1 nl hP=>?_⟩;refine⟨_,rfl,_,rfl,_,rfl,(by show 3<=sizeLine;decide),fun p hp=>?_⟩;have T1:=a0m.upd (o:=.tup [.str z,.str so,.ref cd]) hp;refine⟨(by show 1<=sizeLine;decide),fun l2 hl2=>?_⟩;have T2:=a0m.upd (o:=.lst [V.ref p]) hl2;have hel:es.length<=8:=by rw[hP.2.1];exact t8
  refine⟨l,l2,_,_,rfl,rfl,T2 _ _ (T1 _ _ hP.1),a0b,?_,fun l3 e3=>?_⟩
  ·rw[lM0,sizeLine_eq]
   simp only[List.length_cons,List.length_nil]
   omega
  have T3:=a0m.upd (o:=.lst (es.map V.ref++[V.ref p])) e3;have S3:=T1.trans (T2.trans T3);have SH:=s1.trans S3;have hl3:(L2.upd (L2.upd (L2.upd H1 p (.tup [.str z,.str so,.ref cd])) l2 (.lst [V.ref p])) l3 (.lst (es.map V.ref++[V.ref p]))) l3=some (.lst ((es++[p]).map V.ref)):=by rw[a0b,mA0];rfl
  have hp3:(L2.upd (L2.upd (L2.upd H1 p (.tup [.str z,.str so,.ref cd])) l2 (.lst [V.ref p])) l3 (.lst (es.map V.ref++[V.ref p]))) p=some (.tup [.str z,.str so,.ref cd]):=(T2.trans T3) _ _ a0b;refine⟨l3,sz,es++[p],ds++[cd],cn T0,U++[⟨z,so,cols⟩],rfl,fk.sz1,(hP.same S3).snoc hl3 ⟨hp3,SH _ _ hcd,hco.same SH⟩,ts.perm rfl ?_,tab.same SH,fun f' H' V sb fr tb pV hr hf=>?_⟩
  ·rw[mA0,mA0]
   refine List.Perm.append_right _ ?_;rw[<-a4B R];exact hU.map _
  ·refine q f' H' (SH.sb.trans sb) (fun b o nb e=>fr b o nb (SH b o e)) tb (FAt.of hf (a7S T0) pV ?_ hr)
   rw[mA0,mA0];refine List.Perm.append_right _ ?_;rw[eU];exact hU
def rc (z:Str)(cols:List (Str×V))(T:Tb):Tb:=if T.name=z then⟨T.name,T.sort,cols⟩ else T
theorem b4b (z:Str)(cols:List (Str×V))(T:Tb):nmS (rc z cols T)=nmS T:=by
 unfold rc
 split<;>rfl
theorem b4G (z:Str)(cols:List (Str×V))(T:Tb):cn (rc z cols (cn T))=cn (rc z cols T):=by
 unfold rc;show cn (if T.name=z then _ else _)=_
 split
 ·rfl
 ·exact a7S T
def a4W (PF:Addr):Sp:=fun vs H Q _=>∃(f:Addr) (sz:Int) (T0:Tb) (R:List Tb) (z:Str) (cd:Addr) (cols:List (Str×V)),vs=[.ref f,.str z,.ref cd]/\FK H f sz T0 R/\a2D PF a3x foQ H/\z∈(T0::R).map (·.name) ∧
 H cd=some (.dK (kvC cols))/\a0L H cols/\∀f' H',Sb H H'->Fr PF H H'->a2D PF a3x foQ H'->FAt H' f' sz (rc z cols T0) (R.map (rc z cols))->Q (.ref f') H'
def wcN:List Str:=["form","table","columns","parts","name","sort","had"]
theorem a4L {U R:List Tb}{T0:Tb}(h:U.Perm (R.map cn)):((cn T0::U).map (·.name)).Perm ((T0::R).map (·.name)):=by
 rw[mN0,mN0];refine List.Perm.cons _ ?_;rw[<-a2o R];exact h.map _
theorem b0z {fself fF fP fT:Addr}{fd fdF fdP fdT:FuncData}(F:Fun K "with_columns" "with_columns" (top 28) fself fd)(DF:Df K mg "form_of" (top 18) fF fdF)(GF:a0F P w K mg base CX0 6 fF fdF ["size","tables"] (a6c PF))(DP:Df K mg "parts_of" (top 27) fP fdP)(GP:a0F P w K mg base CX0 1 fP fdP ["form"] a3T)
  (DT:Df K mg "table_in" (top 26) fT fdT) (GT:a0F P w K mg base CX0 1 fT fdT ["form","table"] a3l) :
  a0F P w K mg base CX0 7 fself fd ["form","table","columns"] (a4W PF):=by
 have sc:a0o wcN ["form","table","columns"] (a0f (top 28)):=.k (by decide +kernel);have bF:=DF.fn.b2 "size" "tables" (by intros;rfl);have bP:=DP.fn.b1 "form" (by intros;rfl);have bT:=DT.fn.b2 "form" "table" (by intros;rfl);refine F.ok sc (fun vs H Q E h=>?_) (fun cdv A outer s H vs Q E hr h=>?_)
 ·obtain⟨f,sz,T0,R,z,cd,cols,rfl,_⟩:=h
  rfl
 ·obtain⟨f,sz,T0,R,z,cd,cols,rfl,fk,tab,hz,hcd,hco,q⟩:=h
  have hr1:a1r 1 _:=hr.mono (by decide);refine⟨_,a0d (a1t (a0i GT hr1 (by rfl) DT.mg DT.fn.kp bT .nil a0r (a0a (pv 0) (a0a (pv 1) a0c))))
   (a0d (a0E (i:=3) sc.nd rfl (Or.inl rfl) (a1R a0c))
   (a0d (a1W PassesOwn.never rfl (a1C (a0i GP hr1 (by rfl) DP.mg DP.fn.kp bP .nil a0r (a0a (pv 0) a0c))) (a4j rfl (a0G (a0v (i:=4) sc.nd rfl (Or.inl rfl)) (a0G (a0v (i:=5) sc.nd rfl (Or.inl rfl)) (a0G (a0v (i:=6) sc.nd rfl (Or.inl rfl)) a2g))))
    (a0h (a1t (a8X PySem.F.plainAttrs_list PySem.F.slot_list_append PySem.F.type_list_append a8P (pv 3) (a0a (a0M (a0a (pv 4) (a0a (pv 5) (a0a (b0w (a0q a1o (pv 4) (pv 1) (a0t _)) (pv 2) (pv 6)) a0c)))) a0c)))))
   (a0h (a0u (a0i GF hr (by rfl) DF.mg DF.fn.kp bF .nil a0r (a0a (a0x a0P (pv 0) a0e (fun _ _=>rfl)) (a0a (pv 3) a0c))))))),?_⟩
  obtain⟨U,hF,hU,fx,co,t8,tsU,eU⟩:=fk.get;have hF1:=hF;obtain⟨tt,es0,h1,_⟩:=hF1;have pN:=a4L (T0:=T0) hU;refine⟨_,rfl,_,rfl,?_⟩;obtain⟨Tz,hTz,eTz⟩:=mM0.mp (pN.mem_iff.mpr hz);refine⟨f,sz,cn T0::U,Tz,(by rw[eTz];rfl),hF,tsU.2.1,hTz,fun e _=>?_⟩;refine⟨zL0 _,fun D hD=>?_⟩;have T1:=a0m.upd (o:=.lst []) hD;refine⟨_,rfl,f,sz,cn T0::U,rfl,hF.same T1,fx,(fun T hT=>(co T hT).same T1),t8,fun l es ds H2 s2 nl hP=>?_⟩;have S2:=T1.trans s2;have hD2:H2 D=some (.lst []):=s2 _ _ a0b;generalize eTs:(cn T0::U)=Ts at *;obtain⟨hl,e1l,e2l,hpt⟩:=id hP;have lD:l≠D:=fun e=>by rw[e,hD2] at hl;cases es<;>simp at hl;subst eTs;simp at e1l
  let dn:Nat->Addr:=fun j=>if (Ts.map (fun T:Tb=>T.name)).getD j ("":Str)=z then cd else ds.getD j 0
  refine⟨l,rfl,⟨_,SqL.of hl⟩,a2K (K:=K) (a:=l) (xs:=es.map V.ref) (fun i σ Hc=>∃(rs:List Addr) (u4 u5 u6:Option V),σ=[some (.ref f),some (.str z),some (.ref cd),some (.ref D),u4,u5,u6]/\Sl D H2 Hc/\Hc D=some (.lst (rs.map V.ref))/\rs.length=i/\∀(j:Nat) (e:Addr) (T:Tb),rs[j]? =some e->Ts[j]? =some T->Hc e=some (.tup [.str T.name,.str T.sort,.ref (dn j)])) ⟨[],_,_,_,rfl,Sl.of (a0m.refl _),hD2,rfl,fun j e T h=>nomatch h⟩ (fun i σ Hc _ pp=>by obtain⟨rs,u4,u5,u6,_,sl,_⟩:=pp;exact SqL.of (sl _ _ lD hl)) ?_ ?_⟩
  ·rintro i x σ Hc hx ⟨rs,u4,u5,u6,rfl,sl,hDc,hrl,hent⟩
   have hie:i<es.length:=by
    have:=(gS0.mp hx).1
    rwa [lM0] at this
   have hid:i<ds.length:=by omega
   have hit:i<Ts.length:=by omega
   rw[gM0,gE0 hie] at hx;cases hx;have pt:=hpt i es[i] ds[i] Ts[i] (gE0 hie) (gE0 hid) (gE0 hit);have ne1:es[i]≠D:=fun q=>by have:=pt.1;rw[q,hD2] at this;cases this
   have edn:dn i=if Ts[i].name=z then cd else ds[i]:=by
    show(if (Ts.map (fun T:Tb=>T.name)).getD i ("":Str)=z then cd else ds.getD i 0)=_
    rw[List.getD_eq_getElem?_getD,List.getD_eq_getElem?_getD,gM0,gE0 hit,gE0 hid]
    rfl
   refine⟨_,_,rfl,SqT.of (sl _ _ ne1 pt.1),rfl,_,_,rfl,_,_,rfl,_,_,rfl,rfl,?_⟩;refine⟨_,rfl,.inl ⟨rfl,_,SqL.of hDc⟩,_,rfl,_,rfl,_,rfl,_,rfl,rfl,_,rfl,?_⟩;have fin:∀dd:Addr,dn i=dd->([V.str Ts[i].name,.str Ts[i].sort,.ref dd].length<=sizeLine/\∀p,Hc p=none->∃d ys v,V.ref D=.ref d/\[V.ref p]=[v]/\(L2.upd Hc p (.tup [.str Ts[i].name,.str Ts[i].sort,.ref dd])) d=some (.lst ys)/\ys.length<sizeLine ∧
     ∃(rs:List Addr) (u4 u5 u6:Option V),[some (.ref f),some (.str z),some (.ref cd),some (.ref D),some (.str Ts[i].name),some (.str Ts[i].sort),some (.ref ds[i])]=[some (.ref f),some (.str z),some (.ref cd),some (.ref D),u4,u5,u6]/\Sl D H2 (L2.upd (L2.upd Hc p (.tup [.str Ts[i].name,.str Ts[i].sort,.ref dd])) d (.lst (ys++[v])))/\(L2.upd (L2.upd Hc p (.tup [.str Ts[i].name,.str Ts[i].sort,.ref dd])) d (.lst (ys++[v]))) D=some (.lst (rs.map V.ref))/\rs.length=i+1/\∀(j:Nat) (e:Addr) (T:Tb),rs[j]? =some e->Ts[j]? =some T->(L2.upd (L2.upd Hc p (.tup [.str Ts[i].name,.str Ts[i].sort,.ref dd])) d (.lst (ys++[v]))) e=some (.tup [.str T.name,.str T.sort,.ref (dn j)])):=by
    intro dd edd;refine⟨(by show 3<=sizeLine;decide),fun p hp=>?_⟩;have T5:=a0m.upd (o:=.tup [.str Ts[i].name,.str Ts[i].sort,.ref dd]) hp;have hD5:=T5 _ _ hDc;have pD:p≠D:=fun q=>by rw[q,hDc] at hp;cases hp
    refine⟨D,_,_,rfl,rfl,hD5,by rw[lM0,hrl,sizeLine_eq];omega,rs++[p],_,_,_,rfl,sl.put T5,by rw[a0b,mA0];rfl,by rw[lA0,hrl];rfl,fun j e T a1 a2=>?_⟩
    by_cases hj:j<rs.length
    ·rw[gL0 hj] at a1
     have he:=hent j e T a1 a2;rw[a0g (fun q=>by rw[q,hDc] at he;cases he)];exact T5 _ _ he
    ·have hj':j=rs.length:=by
      have:=(gS0.mp a1).1
      rw[lA0] at this;simp at this
      omega
     subst hj';rw[gR0 (nR0 _),Nat.sub_self] at a1;cases a1;rw[hrl,gE0 hit] at a2;cases a2;rw[a0g pD,a0b,hrl,edd]
   refine a4q (fun hc=>?_) (fun hc=>?_)
   ·have en:Ts[i].name=z:=by
     have:=of_decide_eq_true hc
     injection this
    exact⟨_,rfl,fin cd (by rw[edn,if_pos en])⟩
   ·have en:¬Ts[i].name=z:=fun e=>hc (by rw[e];exact dT0 rfl)
    exact⟨_,rfl,fin ds[i] (by rw[edn,if_neg en])⟩
  ·rintro σ Hc ⟨rs,u4,u5,u6,rfl,sl,hDc,hrl,hent⟩
   rw[lM0] at hrl;have SC:a0m H Hc:=fun b o e=>sl b o (fun q=>by rw[q,hD] at e;cases e) (S2 b o e);refine⟨_,rfl,_,_,0,_,rfl,rfl,SqT.of (SC _ _ h1),rfl,_,rfl,?_⟩;have part:∀{j:Nat} {e:Addr} {T:Tb},rs[j]? =some e->Ts[j]? =some T->¬T.name=z->a1D Hc e (dn j) T:=fun {j e T} a1 a2 n=>by
    have hjt:j<Ts.length:=(gS0.mp a2).1;have hje:j<es.length:=by omega
    have hjd:j<ds.length:=by omega
    have pt:=hpt j es[j] ds[j] T (gE0 hje) (gE0 hjd) a2;have edn:dn j=ds[j]:=by
     show(if (Ts.map (fun T:Tb=>T.name)).getD j ("":Str)=z then cd else ds.getD j 0)=_
     rw[List.getD_eq_getElem?_getD,List.getD_eq_getElem?_getD,gM0,a2,gE0 hjd];exact if_neg n
    refine⟨hent j e T a1 a2,?_,(co T (gI0 a2)).same SC⟩;rw[edn];exact sl _ _ (fun q=>by have:=pt.2.1;rw[q,hD2] at this;cases this) pt.2.1
   have dnz:∀{j:Nat} {T:Tb},Ts[j]? =some T->T.name=z->dn j=cd:=fun {j T} a2 n=>by
    show(if (Ts.map (fun T:Tb=>T.name)).getD j ("":Str)=z then cd else ds.getD j 0)=_
    rw[List.getD_eq_getElem?_getD,gM0,a2];exact if_pos n
   have nmX:(U.map (rc z cols)).map nmS=U.map nmS:=by
    rw[mC0];exact List.map_congr_left fun T _=>b4b z cols T
   refine⟨D,sz,rs,(List.range rs.length).map dn,rc z cols (cn T0),U.map (rc z cols),rfl,fk.sz1,⟨hDc,?_,?_,fun j e d T a1 a2 a3=>?_⟩,tsU.perm (b4b z cols (cn T0)) (by rw[nmX]),tab.same SC,fun f' H' V sb fr tb pV hr hf=>?_⟩
   ·rw[hrl,e1l,<-eTs]
    simp
   ·rw[lM0,List.length_range,hrl,e1l,<-eTs]
    simp
   ·have hjr:j<rs.length:=(gS0.mp a1).1
    rw[gM0,List.getElem?_range hjr] at a2;cases a2;have a3':(Ts.map (rc z cols))[j]? =some T:=by rw[<-eTs];exact a3
    rw[gM0] at a3';obtain⟨T',hT',rfl⟩:=Option.map_eq_some_iff.mp a3'
    by_cases n:T'.name=z
    ·have hrc:rc z cols T'=⟨T'.name,T'.sort,cols⟩:=if_pos n
     rw[hrc];refine⟨hent j e T' a1 hT',?_,hco.same SC⟩;rw[dnz hT' n];exact SC _ _ hcd
    ·have hrc:rc z cols T'=T':=if_neg n
     rw[hrc];exact part a1 hT' n
   ·refine q f' H' (SC.sb.trans sb) (fun b o nb e=>fr b o nb (SC b o e)) tb (FAt.of hf (b4G z cols T0) pV ?_ hr)
    have:((R.map cn).map (rc z cols)).map cn=(R.map (rc z cols)).map cn:=by
     rw[mC0,mC0,mC0];exact List.map_congr_left fun T _=>b4G z cols T
    rw[<-this];exact(hU.map _).map _
def nz (z:Str)(T:Tb):Bool:=decide (T.name≠z)
def a3E (PF:Addr):Sp:=fun vs H Q _=>∃(f:Addr) (sz:Int) (T0:Tb) (R:List Tb) (z:Str),vs=[.ref f,.str z]/\FK H f sz T0 R/\a2D PF a3x foQ H ∧
  z∈R.map (·.name)/\∀f' H',Sb H H'->Fr PF H H'->a2D PF a3x foQ H'->FAt H' f' sz T0 (R.filter (nz z))->Q (.ref f') H'
def PP (H:Hp)(es ds:List Addr)(Ts:List Tb):Prop:=es.length=Ts.length/\ds.length=Ts.length/\∀(j:Nat) (e d:Addr) (T:Tb),es[j]? =some e->ds[j]? =some d->Ts[j]? =some T->a1D H e d T
theorem PP.snoc {H:Hp}{p cd:Addr}{es ds:List Addr}{Ts:List Tb}{T:Tb}(h:PP H es ds Ts)(hp:a1D H p cd T):PP H (es++[p]) (ds++[cd]) (Ts++[T]):=by
 obtain⟨h2,h3,h4⟩:=h;refine⟨by rw[lA0,lA0,h2];rfl,by rw[lA0,lA0,h3];rfl,fun j e d T' a b c=>?_⟩
 by_cases hj:j<Ts.length
 ·rw[gL0 (by omega)] at a b c
  exact h4 j e d T' a b c
 ·have:j=Ts.length:=by
   have:=(gS0.mp c).1
   rw[lA0] at this;simp at this
   omega
  subst this;rw[gR0 (by omega),h2,Nat.sub_self] at a;rw[gR0 (by omega),h3,Nat.sub_self] at b;rw[gR0 (by omega),Nat.sub_self] at c;cases a;cases b;cases c;exact hp
theorem PP.map {H H':Hp}{es ds:List Addr}{Ts:List Tb}(h:PP H es ds Ts)(k:∀e d T,a1D H e d T->a1D H' e d T):PP H' es ds Ts:=⟨h.1,h.2.1,fun j e d T a b c=>k e d T (h.2.2 j e d T a b c)⟩
theorem a9Z.filter {T0:Tb}{R:List Tb}(h:a9Z T0 R)(p:Tb->Bool):a9Z T0 (R.filter p):=by
 obtain⟨h7,nd,hn,hh,hs⟩:=h;have sl:(R.filter p).Sublist R:=List.filter_sublist;refine⟨Nat.le_trans sl.length_le h7,nd.sublist ((sl.cons₂ T0).map _),fun T hT=>?_,hh,fun T hT=>hs T (sl.subset hT)⟩;exact hn T ((sl.cons₂ T0).subset hT)
theorem a7J {fself fF fP fT:Addr}{fd fdF fdP fdT:FuncData}(F:Fun K "without_table" "without_table" (top 30) fself fd)(DF:Df K mg "form_of" (top 18) fF fdF)(GF:a0F P w K mg base CX0 6 fF fdF ["size","tables"] (a6c PF))(DP:Df K mg "parts_of" (top 27) fP fdP)(GP:a0F P w K mg base CX0 1 fP fdP ["form"] a3T)
  (DT:Df K mg "table_in" (top 26) fT fdT) (GT:a0F P w K mg base CX0 1 fT fdT ["form","table"] a3l) :
  a0F P w K mg base CX0 7 fself fd ["form","name"] (a3E PF):=by
 have sc:a0o ["form","name"] ["form","name"] (a0f (top 30)):=.k (by decide +kernel);have bF:=DF.fn.b2 "size" "tables" (by intros;rfl);have bP:=DP.fn.b1 "form" (by intros;rfl);have bT:=DT.fn.b2 "form" "table" (by intros;rfl);refine F.ok sc (fun vs H Q E h=>?_) (fun cdv A outer s H vs Q E hr h=>?_)
 ·obtain⟨f,sz,T0,R,z,rfl,_⟩:=h
  rfl
 ·obtain⟨f,sz,T0,R,z,rfl,fk,tab,hzR,q⟩:=h
  have hr1:a1r 1 _:=hr.mono (by decide);refine⟨_,a0d (a1t (a0i GT hr1 (by rfl) DT.mg DT.fn.kp bT .nil a0r (a0a (pv 0) (a0a (pv 1) a0c))))
   (a0h (a0u (a0i GF hr (by rfl) DF.mg DF.fn.kp bF .nil a0r (a0a (a0x a0P (pv 0) a0e (fun _ _=>rfl)) (a0a (a1Z (osc:=a0f (top 30)) (N0:=["form","name"]) (xs:=["part"]) (fr:=[1]) ⟨rfl,by decide +kernel,by decide +kernel,by decide +kernel,(fun j hj=>by
       have e:j=1:=by simpa using hj
       subst e;exact⟨_,rfl,by decide +kernel⟩),by decide +kernel⟩ rfl rfl rfl (a1C (a0i GP hr1 (by rfl) DP.mg DP.fn.kp bP .nil a0r (a0a (pv 0) a0c)))
      (fun s H fp=>a0v (i:=0) (show(["part","name"]:List Str).Nodup by decide +kernel) rfl (Or.inl rfl)) (fun s H fp=>b2M (a0q a4p (a0x (r:=b3q K) a0P (pv 0) a0e (fun _ _=>rfl)) (pv 1) (a0t _)))
      (fun s H fp=>pv 0)) a0c))))),?_⟩
  obtain⟨U,hF,hU,fx,co,t8,tsU,eU⟩:=fk.get;have hF1:=hF;obtain⟨tt,es0,h1,_⟩:=hF1;have pN:=a4L (T0:=T0) hU;refine⟨_,rfl,_,rfl,?_⟩;have hz:z∈(T0::R).map (·.name):=by
   rw[mN0];exact mL0 _ hzR
  obtain⟨Tz,hTz,eTz⟩:=mM0.mp (pN.mem_iff.mpr hz);refine⟨f,sz,cn T0::U,Tz,(by rw[eTz];rfl),hF,tsU.2.1,hTz,fun e _=>?_⟩;refine⟨_,rfl,_,_,0,_,rfl,rfl,SqT.of h1,rfl,?_⟩;refine⟨_,rfl,f,sz,cn T0::U,rfl,hF,fx,co,t8,fun l es ds H2 s2 nl hP=>?_⟩;generalize eTs:(cn T0::U)=Ts at *;obtain⟨hl,e1l,e2l,hpt⟩:=id hP;refine⟨l,rfl,⟨_,SqL.of hl⟩,fun D hD=>?_⟩;refine a8L Ts.length (fun i ys σ' Hc=>(∃t,σ'=[t,some (.str z)])/\a0m H2 Hc/\∃es' ds':List Addr,ys=es'.map V.ref/\PP Hc es' ds' ((Ts.take i).filter (nz z))) (by rw[sizeLine_eq];omega) ⟨⟨_,rfl⟩,a0m.upd hD,[],[],rfl,rfl,rfl,fun j e d T h=>nomatch h⟩ a0b ?_ ?_
  ·rintro i σ' Hc ys hi ⟨⟨t,rfl⟩,sm,es',ds',rfl,pp⟩ hD'
   have hie:i<es.length:=by omega
   have hid:i<ds.length:=by omega
   have pt:=hpt i es[i] ds[i] Ts[i] (gE0 hie) (gE0 hid) (gE0 hi);have etk:Ts.take (i+1)=Ts.take i++[Ts[i]]:=by rw[List.take_add_one,gE0 hi];rfl
   refine⟨⟨_,V.ref es[i],SqL.of (sm _ _ hl),by rw[gM0,gE0 hie];rfl⟩,?_⟩;rintro x H' ⟨rfl,hx'⟩;have ex:=hx' _ (SqL.of (sm _ _ hl));rw[gM0,gE0 hie] at ex;cases ex;refine⟨_,rfl,_,_,0,_,rfl,rfl,SqT.of (sm _ _ pt.1),rfl,_,rfl,rfl,_,rfl,?_⟩;refine a4q (fun hc=>?_) (fun hc=>?_)
   ·have n:nz z Ts[i]=true:=by
     unfold nz;refine dT0 fun e=>?_;rw[e,dT0 rfl] at hc;cases hc
    refine⟨_,rfl,hD',⟨_,rfl⟩,sm.put hD,es'++[es[i]],ds'++[ds[i]],by rw[mA0];rfl,?_⟩;rw[etk,List.filter_append,show[Ts[i]].filter (nz z)=[Ts[i]] from by rw[List.filter_cons_of_pos n];rfl];exact(pp.snoc (pt.same sm)).map fun e d T h=>a1D.besideL hD' h
   ·have n:nz z Ts[i]=false:=by
     unfold nz;refine dF0 fun e=>hc ?_;rw[dF0 (fun q=>e (by injection q))]
     rfl
    refine⟨hD',⟨_,rfl⟩,sm,es',ds',rfl,?_⟩;rw[etk,List.filter_append,show[Ts[i]].filter (nz z)=[] from by rw[List.filter_cons_of_neg (by rw[n];decide)];rfl,List.append_nil];exact pp
  ·rintro σ' Hc ys ⟨_,sm,es',ds',rfl,pp⟩ hDc
   refine⟨⟨_,SqL.of (sm _ _ hl),by rw[lM0];omega⟩,?_⟩;rw[List.take_length] at pp;have SC:=s2.trans sm;have nd:=tsU.2.1;rw[mN0] at nd;have n0:¬T0.name=z:=fun e=>by
    have hn:=fk.ts.2.1;rw[mN0] at hn;exact(List.nodup_cons.mp hn).1 (by rw[e];exact hzR)
   have eF:Ts.filter (nz z)=cn T0::U.filter (nz z):=by
    rw[<-eTs,List.filter_cons_of_pos (by unfold nz;exact dT0 n0)]
   rw[eF] at pp;refine⟨D,sz,es',ds',cn T0,U.filter (nz z),rfl,fk.sz1,⟨hDc,pp⟩,tsU.filter _,tab.same SC,fun f' H' V sb fr tb pV hr hf=>?_⟩;refine q f' H' (SC.sb.trans sb) (fun b o nb e=>fr b o nb (SC b o e)) tb (FAt.of hf (a7S T0) pV ?_ hr);have e1:((R.map cn).filter (nz z)).map cn=(R.filter (nz z)).map cn:=by
    rw[List.filter_map,mC0,show(nz z∘cn)=nz z from rfl];exact List.map_congr_left fun T _=>a7S T
   rw[<-e1];exact(hU.filter _).map _
end
end My
namespace L2
open PySem PySem.Spec PyProof.Rows
section
variable {X:Cx}
theorem a5s:a1p X (.builtin "len") (fun xs H Q=>∃a kvs,xs=[V.ref a]/\Rd H a (.dK kvs)/\Q (.int kvs.length) H):=by
 intro pins s σ H xs us Q I r h;obtain⟨a,kvs,rfl,ha,q⟩:=h;obtain⟨u,rfl,rx⟩:=a2T r;cases rx;exact b5j I ha fun t s' J=>⟨.int kvs.length,H,J,⟨t,rfl⟩,q⟩
theorem a2k:a1p X (.builtin "isinstance") (fun xs H Q=>∃a kvs n b,xs=[V.ref a,.ty n]/\Rd H a (.dK kvs)/\PySem.W.kitOne X.K (.type "dict") (.type n)=some b/\Q (.bl b) H):=by
 intro pins s σ H xs us Q I r h;obtain⟨a,kvs,n,b,rfl,ha,e,q⟩:=h;obtain⟨u,w',rfl,rx,rc⟩:=a7N r;cases rx
 cases(show w'=Value.type n from rc)
 obtain⟨_,_,vs,_,o,es,ep,h1,h2,_⟩:=a4a I.hok ha;exact PySem.W.kia_one PySem.W.kitx_dict I.kIn ⟨o,h1,h2.1⟩ e (fun z=>nomatch z) fun tk=>⟨.bl b,H,I.tok tk,rfl,q⟩
def b4R (t:TS):TS:=fun D σ H=>∃a kvs,Rd H a (.dK kvs)/\(∀o,H a=some (.frz o (.dK kvs))->t D σ H)/\(H a=some (.dK kvs)->∀o,t (b6q a o kvs D) σ (upd H a (.frz o (.dK kvs))))
theorem b2q {st:Stmt}{t:TS}(h:PS X st t):PS X st (b4R t):=by
 intro pins s σ H D I hq;obtain⟨a,kvs,rd,h1,h2⟩:=hq;rcases rd with e |⟨o,e⟩
 ·exact a7a h pins s σ H D I ⟨a,kvs,e,h2 e⟩
 ·exact h pins s σ H D I (h1 o e)
end
inductive Lq (H:Hp):Nat->V->V->Prop
 |non {n:Nat}:Lq H n .non .non
 |bl {n:Nat} {b:Bool}:Lq H n (.bl b) (.bl b)
 |int {n:Nat} {i:Int}:Lq H n (.int i) (.int i)
 |str {n:Nat} {z:Str}:Lq H n (.str z) (.str z)
 |tup {n:Nat} {a b:Addr} {xs ys:List V} (ha:Rd H a (.tup xs)) (hb:Rd H b (.tup ys)) (hl:xs.length=ys.length) (h:∀(i:Nat) (x y:V),xs[i]? =some x->ys[i]? =some y->Lq H n x y):Lq H (n+1) (.ref a) (.ref b)
 |lst {n:Nat} {a b:Addr} {xs ys:List V} (ha:H a=some (.lst xs)) (hb:H b=some (.lst ys)) (hl:xs.length=ys.length) (h:∀(i:Nat) (x y:V),xs[i]? =some x->ys[i]? =some y->Lq H n x y):Lq H (n+1) (.ref a) (.ref b)
 |dct {n:Nat} {a b:Addr} {kvs kws:List (Key×V)} (f:Key->V) (ha:Rd H a (.dK kvs)) (hb:Rd H b (.dK kws)) (hl:kvs.length=kws.length)
   (hf:∀(k:Key) (v:V),(k,v)∈kws->a1K kvs k=some (f k)) (hg:∀(k:Key) (v:V),(k,v)∈kws->a1K kws k=some v) (h:∀(k:Key) (v:V),(k,v)∈kws->Lq H n (f k) v):Lq H (n+1) (.ref a) (.ref b)
theorem Rd.same {H H':Hp}(s:a0m H H'){a:Addr}{u:HO}(r:Rd H a u):Rd H' a u:=by
 rcases r with e |⟨o,e⟩
 ·exact .inl (s _ _ e)
 ·exact .inr ⟨o,s _ _ e⟩
theorem Lq.same {H H':Hp}(s:a0m H H'){n:Nat}{x y:V}(h:Lq H n x y):Lq H' n x y:=by
 induction h with
 |non=>exact .non
 |bl=>exact .bl
 |int=>exact .int
 |str=>exact .str
 |tup ha hb hl _ ih=>exact .tup (ha.same s) (hb.same s) hl ih
 |lst ha hb hl _ ih=>exact .lst (s _ _ ha) (s _ _ hb) hl ih
 |dct f ha hb hl hf hg _ ih=>exact .dct f (ha.same s) (hb.same s) hl hf hg ih
theorem Rd.frz {H:Hp}{a c:Addr}{o:Obj}{kvs:List (Key×V)}(e:H a=some (.dK kvs)){kws:List (Key×V)}(r:Rd H c (.dK kws)):Rd (upd H a (.frz o (.dK kvs))) c (.dK kws):=by
 by_cases z:c=a
 ·subst z
  rcases r with q |⟨o',q⟩
  ·rw[e] at q
   cases q;exact .inr ⟨o,a0b⟩
  ·rw[e] at q
   cases q
 ·rcases r with q |⟨o',q⟩
  ·exact .inl ((a0g z).trans q)
  ·exact .inr ⟨o',(a0g z).trans q⟩
theorem Lq.frz {H:Hp}{a:Addr}{o:Obj}{kvs:List (Key×V)}(e:H a=some (.dK kvs)){n:Nat}{x y:V}(h:Lq H n x y):Lq (upd H a (.frz o (.dK kvs))) n x y:=by
 have ne:∀b u,H b=some u->u≠.dK kvs->upd H a (.frz o (.dK kvs)) b=some u:=fun b u q n=>(a0g fun z=>by rw[z,e] at q;cases q;exact n rfl).trans q;have nr:∀b xs,Rd H b (.tup xs)->Rd (upd H a (.frz o (.dK kvs))) b (.tup xs):=fun b xs r=>by
  rcases r with q |⟨o',q⟩
  ·exact .inl (ne b _ q (by simp))
  ·exact .inr ⟨o',ne b _ q (by simp)⟩
 induction h with
 |non=>exact .non
 |bl=>exact .bl
 |int=>exact .int
 |str=>exact .str
 |tup ha hb hl _ ih=>exact .tup (nr _ _ ha) (nr _ _ hb) hl ih
 |lst ha hb hl _ ih=>exact .lst (ne _ _ ha (by simp)) (ne _ _ hb (by simp)) hl ih
 |dct f ha hb hl hf hg _ ih=>exact .dct f (ha.frz e) (hb.frz e) hl hf hg ih
structure b3j (K:Fg0) (x qual:Str) (st:Stmt) (f:Addr) (fd:FuncData):Prop where
 ex:∃(oc:Value) (od:Option Addr) (dV kV doc pm:Value) (an:Option Addr) (cdv ct:Value) (osl:Array (Option Value)),
  fd=PySem.W.fnOf x qual (a0Y st) (a0J st) (a0f st) dV kV doc pm an cdv ct/\K.lookup f=some ⟨oc,od,.func fd,osl⟩/\PySem.W.codeIn K cdv qual=true
 kp:PySem.W.keepIn K (.ref f)=true
theorem b2p {K:Fg0}{x qual:Str}{st:Stmt}{f:Addr}{oc:Value}{od an:Option Addr}{osl:Array (Option Value)}{dV kV doc pm cdv ct:Value}(l:K.lookup f=some ⟨oc,od,.func (PySem.W.fnOf x qual (a0Y st) (a0J st) (a0f st) dV kV doc pm an cdv ct),osl⟩)
  (c:PySem.W.codeIn K cdv qual=true) (k:PySem.W.keepIn K (.ref f)=true):b3j K x qual st f (PySem.W.fnOf x qual (a0Y st) (a0J st) (a0f st) dV kV doc pm an cdv ct):=⟨⟨oc,od,dV,kV,doc,pm,an,cdv,ct,osl,rfl,l,c⟩,k⟩
section
variable {P:Program}{w:World}{K:Fg0}{mg:Str->Option Value}{base:Heap}
theorem b3j.ok {x qual:Str}{st:Stmt}{f:Addr}{fd:FuncData}{N ps:List Str}{k:Nat}{sp:Sp}(F:b3j K x qual st f fd)(S:a0o N ps (a0f st))(len:∀vs H Q E,sp vs H Q E->vs.length=ps.length)
  (hbody:∀(cdv:Value) (A:Around) (outer:List Env) (s:Shared) (H:Hp) (vs:List V) (Q:VK) (E:XK),a1r k (A.deeper (envOfC qual (a0f st) s.heap.objs.size f cdv))->sp vs H Q E →
   ∃t,PSs (a5U CX0 P w K mg base N qual (a0f st) f cdv A outer s H E).nox (a0J st) t/\t { nx:=fun _ H'=>Q .non H',rt:=Q } (a2M N vs) H):a0F P w K mg base CX0 (k+1) f fd ps sp:=by
 obtain⟨oc,od,dV,kV,doc,pm,an,cdv,ct,osl,rfl,lk,hcd⟩:=F.ex;refine b2T lk hcd S len fun A outer s H vs Q E hr hsp=>?_;obtain⟨t,h,q⟩:=hbody cdv A outer s H vs Q E hr hsp;exact⟨t,h.nox,q⟩
end
structure ZL (h:Heap) (z TI TO i1 i2 a b:Addr) (k:Nat):Prop where
 zp:IsZip h z TI TO .none
 ti:IsPair h TI (.ref i1) (.ref i2)
 to:∃u v,IsPair h TO u v
 j1:h.IsListIter i1 a k
 j2:h.IsListIter i2 b k
def ItY (K:Fg0)(a b:Addr):It:=
 ⟨fun i H=>∃xs ys x y,SqL K H a xs/\SqL K H b ys/\xs[i]? =some x/\ys[i]? =some y,fun i H x H'=>∃u v p,(∀xs ys,SqL K H a xs->SqL K H b ys->xs[i]? =some u/\ys[i]? =some v)/\x=.ref p/\H p=none/\H'=upd H p (.tup [u,v]),fun i H=>∃xs ys,SqL K H a xs/\SqL K H b ys/\xs.length<=i⟩
theorem a8R {P:Program}{w:World}{K:Fg0}{es:List Expr}{x1:Nat}{tp:Pos}(a b z TI TO i1 i2:Addr)(D:ZipApart z TI TO i1 i2 a b):a9S P w K (.Tuple es x1 tp) (ItY K a b) [z,TI,TO,i1,i2] z (fun i h=>ZL h z TI TO i1 i2 a b i) where
 mem:=by simp
 obj:=fun i h st c hc=>by
  obtain⟨s1,s2,⟨u,v,s3⟩,s4,s5⟩:=st;simp only[mK0,List.not_mem_nil,or_false] at hc;rcases hc with q |q |q |q |q
  ·subst q;exact⟨_,s1,fun v z=>by cases z⟩
  ·subst q;exact⟨_,s2,fun v z=>by cases z⟩
  ·subst q;exact⟨_,s3,fun v z=>by cases z⟩
  ·subst q;obtain⟨o,e,_,d⟩:=s4;exact⟨o,e,fun v z=>by rw[d] at z;cases z⟩
  ·subst q;obtain⟨o,e,_,d⟩:=s5;exact⟨o,e,fun v z=>by rw[d] at z;cases z⟩
 keep:=fun i h h' st k=>by
  obtain⟨s1,s2,⟨u,v,s3⟩,⟨o4,e4,r4⟩,⟨o5,e5,r5⟩⟩:=st;exact⟨k z (by simp) _ s1,k TI (by simp) _ s2,⟨u,v,k TO (by simp) _ s3⟩,⟨o4,k i1 (by simp) _ e4,r4⟩,⟨o5,k i2 (by simp) _ e5,r5⟩⟩
 item:=by
  intro X hP hw hK hc i pins s σ H E I hf st hg;subst hP hw hK;obtain⟨s1,s2,s3,s4,s5⟩:=st;obtain⟨xs,ys,x,y,hq1,hq2,hx,hy⟩:=hg;obtain⟨its,rv,p,hz⟩:=I.list hq1;obtain⟨jts,rw',p',hz'⟩:=I.list hq2;obtain⟨u,hu,ru⟩:=rv.get hx;obtain⟨v,hv,rv'⟩:=rw'.get hy;obtain⟨t3a,t3b,t3⟩:=id s3;refine wpAny_pyNext_zip_item D s1 s2 t3 s4 s5 p.isList p'.isList (x:=u) (y:=v) (by simpa using hu) (by simpa using hv) fun h' z1 z3 z4 z5 ht hsz kp=>?_;refine⟨_,rfl,?_⟩;refine wpAny_letOwnedTupleGo_zip (s:={ s with heap:=h' }) z1 fun h'' zp'' sb=>?_;have zlt:z<s.heap.objs.size:=hL0 s1;have kp2:∀c o,c∉[z,TI,TO,i1,i2]->s.heap.get? c=some o->h''.get? c=some o:=fun c o hc e=>by
   simp only[mK0,List.not_mem_nil,or_false,not_or] at hc;exact(sb.2 c hc.1).trans (kp c o hc.1 hc.2.2.1 hc.2.2.2.1 hc.2.2.2.2 e)
  have I1:Inv X pins σ H { s with heap:=h'' }:=I.turnedL (t':=s.toks) kp2 hf;have hp:H s.heap.objs.size=none:=I.hok.fresh (nR0 _);have e2:h''.get? s.heap.objs.size=some { cls:=.type "tuple",data:=.seq #[u,v] }:=(sb.2 _ (Nat.ne_of_gt zlt)).trans ht;have I2:Inv X pins σ (upd H s.heap.objs.size (.tup [x,y])) { s with heap:=h'' }:=I1.track (I.our (nR0 _)) ⟨(show 2<=sizeLine by decide),[u,v],.cons ru (.cons rv' .nil),⟨_,e2,rfl,_,rfl⟩⟩;refine⟨.ref s.heap.objs.size,_,I2,rfl,⟨x,y,_,fun ws us h1 h2=>?_,rfl,hp,rfl⟩,?_,fun c hc=>?_⟩
  ·rw[I.list_inj h1 hq1,I.list_inj h2 hq2]
   exact⟨hx,hy⟩
  ·have up:∀c o,c≠z->h'.get? c=some o->h''.get? c=some o:=fun c o hc e=>(sb.2 c hc).trans e
   obtain⟨o4,e4,r4⟩:=z4;obtain⟨o5,e5,r5⟩:=z5;exact⟨zp'',up _ _ D.TIz (kp _ _ D.TIz D.TITO D.TIi1 D.TIi2 s2),⟨_,_,up _ _ D.TOz z3⟩,⟨o4,up _ _ D.i1z e4,r4⟩,⟨o5,up _ _ D.i2z e5,r5⟩⟩
  ·obtain⟨f0,_⟩:=hf c hc
   rw[a0g fun q=>?_]
   ·exact f0
   ·have lt:∀c o,s.heap.get? c=some o->c≠s.heap.objs.size:=fun c o e=>nL0 (hL0 e)
    obtain⟨q3a,q3b,q3⟩:=s3;obtain⟨o4,e4,_⟩:=s4;obtain⟨o5,e5,_⟩:=s5;simp only[mK0,List.not_mem_nil,or_false] at hc;rcases hc with r |r |r |r |r
    ·exact lt z _ s1 (r▸q)
    ·exact lt TI _ s2 (r▸q)
    ·exact lt TO _ q3 (r▸q)
    ·exact lt i1 _ e4 (r▸q)
    ·exact lt i2 _ e5 (r▸q)
 done:=by
  intro X hP hw hK hc i pins s σ H E I hf st hg;subst hP hw hK;obtain⟨s1,s2,s3,s4,s5⟩:=st;obtain⟨xs,ys,hq1,hq2,hx⟩:=hg;obtain⟨its,rv,p,hz⟩:=I.list hq1;obtain⟨jts,rw',p',hz'⟩:=I.list hq2;have hl:=rv.length;obtain⟨t3a,t3b,t3⟩:=id s3;refine wpAny_pyNext_zip_end (I.ok.hd hc) D s1 s2 t3 s4 s5 p.isList p'.isList (.inl (by simp;omega)) fun h' kp=>⟨rfl,I.turnedL (t':=s.toks) (fun c o hc e=>?_) hf⟩;simp only[mK0,List.not_mem_nil,or_false,not_or] at hc;exact kp c o hc.1 hc.2.2.1 hc.2.2.2.1 hc.2.2.2.2 e
 self:=fun A i s Q E st h=>wpAny_pyIter_zip st.zp h
section
variable {X:Cx}
def b4U (K:Fg0)(ta:TA):TI:=fun σ H R=>ta σ H fun vs H1=>∃a b,vs=[.ref a,.ref b]/\(∃xs,SqL K H1 a xs)/\(∃ys,SqL K H1 b ys)/\R (ItY K a b) H1
theorem b2m {es:List Expr}{x1:Nat}{tp:Pos}{l m:Expr}{ta:TA}{p pos:Pos}(hg:Gl X "zip")(hm:X.mg "zip"=none)(ha:PA X [l,m] ta)(hs:starEach [l,m] X.env=(false,eval l X.env)::starEach [m] X.env:=by rfl)(hpl:(backTo pos (starEach [m] X.env)).any (·.1)=false:=by rfl) :
  PI X (.Tuple es x1 tp) (.Call (.Name "zip" p) [l,m] [] pos) (b4U X.K ta):=by
 intro pins s σ H R I h;refine Call_ (a3Y I hg hm boot_zip (PyProof.Rows.callWith_type1 (thn (ha pos pins s σ H _ I h) fun us s1 ⟨vs,H1,I1,r1,q1⟩=>?_) hs hpl));obtain⟨a,b,e,⟨xs,hq1⟩,⟨ys,hq2⟩,q⟩:=q1;subst e;obtain⟨u,v,rfl,rx,ry⟩:=a7N r1;cases rx;cases ry;obtain⟨its,rv,p1,hz⟩:=I1.list hq1;obtain⟨jts,rw',p2,hz'⟩:=I1.list hq2;have la:a<s1.heap.objs.size:=by obtain⟨o,e,_⟩:=p1.isList;exact hL0 e
 have lb:b<s1.heap.objs.size:=by obtain⟨o,e,_⟩:=p2.isList;exact hL0 e
 have D:ZipApart (s1.heap.objs.size+4) (s1.heap.objs.size+2) (s1.heap.objs.size+3) s1.heap.objs.size (s1.heap.objs.size+1) a b:=by
  generalize s1.heap.objs.size=n at la lb
  constructor<;>(intro z;simp only[Addr] at *;omega)
 refine call_zip_2 p1.isList p2.isList fun h' z1 z2 z3 z4 z5 hsz hk=>?_;have I2:Inv X pins σ H1 { s1 with heap:=h' }:=I1.kept (t':=s1.toks) hk;refine wpAny_pyIter_zip (s:={ s1 with heap:=h' }) z1 ?_;refine⟨s1.heap.objs.size+4,[s1.heap.objs.size+4,s1.heap.objs.size+2,s1.heap.objs.size+3,s1.heap.objs.size,s1.heap.objs.size+1],_,_,H1,rfl,I2,a8R a b _ _ _ _ _ D,⟨z1,z2,⟨_,_,z3⟩,z4,z5⟩,fun c hc=>?_,q⟩;have nb:s1.heap.objs.size<=c:=by
  simp only[mK0,List.not_mem_nil,or_false] at hc;rcases hc with r |r |r |r |r<;>(rw[r];first |exact nR0 _ |exact Nat.le_add_right _ _)
 exact I1.fpOk nb (I1.hok.fresh nb)
theorem b0W {K:Fg0}{a b:Addr}{xs ys:List V}{g:TG}{tb:TS}{D:a5o}{σ:St}{H:Hp}(Pv:Nat->St->Hp->Prop)(hlen:xs.length=ys.length)(h0:Pv 0 σ H)(hl:∀i σ H,i<=xs.length->Pv i σ H->SqL K H a xs/\SqL K H b ys)
  (hs:∀i x y p σ H,xs[i]? =some x->ys[i]? =some y->Pv i σ H->H p=none->g (.ref p) σ (upd H p (.tup [x,y])) fun σ2 H2=>tb { D with nx:=Pv (i+1),ct:=Pv (i+1),bk:=D.nx } σ2 H2) (hd:∀σ H,Pv xs.length σ H->D.nx σ H) :
  ∃W:Nat->Nat->St->Hp->Prop,(∃m,W 0 m σ H)/\∀i m σ H,W i m σ H →
   ((ItY K a b).stop i H/\D.nx σ H)\/((ItY K a b).go i H/\∃N:St->Hp->Prop,(∀σ' H',N σ' H'->∃m',m'<m/\W (i+1) m' σ' H')/\∀x H',(ItY K a b).yld i H x H'->g x σ H' fun σ2 H2=>tb { D with nx:=N,ct:=N,bk:=D.nx } σ2 H2):=by
 refine⟨fun i m σ H=>m=xs.length-i/\i<=xs.length/\Pv i σ H,⟨xs.length,by simp,zL0 _,h0⟩,?_⟩;rintro i m σ H ⟨rfl,hi,p⟩;obtain⟨q1,q2⟩:=hl i σ H hi p
 by_cases hlt:i<xs.length
 ·have hlt2:i<ys.length:=by omega
  refine .inr ⟨⟨xs,ys,xs[i],ys[i],q1,q2,by simp[hlt],by simp[hlt2]⟩,Pv (i+1),fun σ' H' p'=>⟨xs.length-(i+1),by omega,rfl,hlt,p'⟩,fun x H' y=>?_⟩;obtain⟨u,v,pa,hk,ex,hn,e⟩:=y;subst e ex;exact hs i u v pa σ H (hk xs ys q1 q2).1 (hk xs ys q1 q2).2 p hn
 ·have e:i=xs.length:=by omega
  subst e;exact .inl ⟨⟨xs,ys,q1,q2,nR0 _⟩,hd σ H p⟩
end
theorem a6g {H H1:Hp}{a:Addr}{o:Obj}{kvs:List (Key×V)}(hc:H a=some (.dK kvs))(e:a0m (L2.upd H a (.frz o (.dK kvs))) H1):a0m H (L2.upd H1 a (.dK kvs)):=fun b u hb=>by
 by_cases eb:b=a
 ·subst eb
  rw[hc] at hb;rw[<-hb];exact a0b
 ·rw[a0g eb]
  exact e b u (by rw[a0g eb];exact hb)
end L2
namespace L2
open PySem PySem.Spec PyProof.Rows PySem.Builtin PySem.Builtin.Dict
end L2
namespace L2
open PySem PySem.Spec PyProof.Rows
section
variable {X:Cx}{pins:List (Addr×Obj)}{σ:St}{H H':Hp}{s:Shared}{h':Heap}
theorem Inv.laidM {t':Nat}(I:Inv X pins σ H s)(k:∀b u,s.heap.get? b=some u->h'.get? b=some u)(old:∀b u,s.heap.get? b=some u->H' b=H b)(new:∀b u,H' b=some u->s.heap.get? b=none->a1l X.prog X.w H' h' b u):Inv X pins σ H' { s with heap:=h',toks:=t' }:=by
 have oldH:∀b u,H b=some u->H' b=some u:=fun b u q=>by
  obtain⟨ob,e⟩:=(I.hok b u q).there;rw[old b ob e];exact q
 refine I.un ⟨fun b u q _ _ _=>k b u q,fun b u q _ _ _=>⟨u.slots,k b u q⟩,fun b u q n _=>by rw[old b u q];exact n,fun b u q _=>⟨u,k b u q⟩,
  fun b xs q=>oldH _ _ q,fun b u xs q=>oldH _ _ q,fun b ps q=>⟨#[],by rw[oldH _ _ q];simp⟩⟩ fun b u q=>?_
 cases e:s.heap.get? b with
 |none=>exact new b u q e
 |some ob=>
  rw[old b ob e] at q;exact(I.hok b u q).stay (fun c v _ r=>k c v r) (fun c r=>oldH _ _ r) fun c xs r=>oldH _ _ r
end
theorem b1Q:∀{as:List Addr} {j:Nat} {a:Addr},as.Nodup->as[j]? =some a->as.idxOf a=j
 |[],_,_,_,h=>by simp at h
 |b::r,0,a,nd,h=>by
  have e:b=a:=by simpa using h
  subst e;exact List.idxOf_cons_self
 |b::r,j+1,a,nd,h=>by
  have h':r[j]? =some a:=by simpa using h
  have ne:¬b=a:=fun e=>(List.nodup_cons.mp nd).1 (by rw[e];exact gI0 h');have nb:(b==a)=false:=by simpa using ne
  rw[List.idxOf_cons,nb,b1Q (List.nodup_cons.mp nd).2 h']
  rfl
def vwP (p d:Addr)(h:Heap):Prop:=h.IsItemsView p d
section
variable {X:Cx}
theorem a6T:MtR X "dict.items" (fun x xs H Q=>∃a kvs,x=.ref a/\xs=[]/\Rd H a (.dK kvs)/\∀p,H p=none->Q (.ref p) (upd H p (.ext (vwP p a)))):=by
 intro pins s σ H x xs v us Q I rx r h;obtain⟨a,kvs,rfl,rfl,e,q⟩:=h;cases rx;have hus:=r.zero;subst hus;obtain⟨_,lo,vs,kv,dd⟩:=e.ok I.hok;refine call_meetsIn F.slot_dict_items dd.typeIs F.entry_dict_items (F.args_dict_items_1 _) (meets_dict_items (a0z X.prog X.w) a lo) ⟨⟨vs,dd⟩,?_⟩;have hv:vwP s.heap.objs.size a (s.heap.push { cls:=.type "dict_items",data:=.fields #[.ref a] }):=⟨_,hS0 _ rfl,rfl,rfl⟩;refine⟨.ref s.heap.objs.size,_,I.laid (t':=s.toks) (o:=.ext (vwP s.heap.objs.size a)) (fun b ob e'=>hP0 _ e') (nR0 _) ⟨hv,?_,fun h1 h2 x k=>?_⟩,rfl,q _ (I.hok.fresh (nR0 _))⟩
 ·obtain⟨o,ho,_⟩:=hv
  exact⟨o,ho⟩
 ·obtain⟨o,ho,r⟩:=x
  exact⟨o,k o ho,r⟩
def itH (H:Hp)(l:Addr)(o:HO)(as:List Addr)(kvs:List (Key×V)):Hp:=fun b=>if b=l then some o else if b∈as then some (.tup [kV (kvs.getD (as.idxOf b) (.inl 0,.non)).1,(kvs.getD (as.idxOf b) (.inl 0,.non)).2]) else H b
theorem a3f (hc:X.calm=true):a1p X (.builtin "sorted") (fun xs H Q=>∃(p d:Addr) (kvs:List (Key×V)) (zs:List Str),xs=[.ref p]/\H p=some (.ext (vwP p d))/\Rd H d (.dK kvs)/\kvs.map (·.1)=zs.map Sum.inr/\zs.Nodup/\zs.length<64 ∧
  ∀(l:Addr) (as:List Addr) (ix:List Nat) (H':Hp),H l=none->(∀a∈as,H a=none)->l∉as->as.Nodup->as.length=kvs.length->a0m H H'->(∀(j:Nat) (a:Addr) (k:Key) (v:V),as[j]? =some a->kvs[j]? =some (k,v)->H' a=some (.tup [kV k,v])) →
   ix.Perm (List.range as.length)->a6L (ix.map fun i=>zs.getD i "")->H' l=some (.lst ((ix.map fun i=>as.getD i 0).map V.ref))->Q (.ref l) H'):=by
 intro pins s σ H xs us Q I r h;obtain⟨p,d,kvs,zs,rfl,hp,hq,hz,nd,h64,q⟩:=h;obtain⟨u,rfl,rx⟩:=a2T r;cases rx;obtain⟨hlen,lo,vs,kv,dd⟩:=hq.ok I.hok;obtain⟨ep,da⟩:=dd.dictAt;obtain⟨hv,_⟩:=I.hok p _ hp;have hl:=kv.len;have hl2:kvs.length=zs.length:=by simpa using congrArg List.length hz
 refine Calls.call_function_entry kind_sorted plain_sorted entry_sorted (args_sorted1 _) ?_;unfold Builtin.«sorted»;refine wB0 (m:=checkCount "sorted" 1 1 _) (wP0 ?_);refine wB0 (PySem.W.kdx_collect (knd:=a0z X.prog X.w) (kvs:=vs) (ep:=ep) (I.ok.hd hc) hv da (by rw[<-hl];exact hlen) fun h' tk as hk hal hG=>?_);have hal':(as.map Value.ref).length=zs.length:=by rw[lM0,hal,<-hl,hl2]
 refine wB0 (wpAny_newList ?_ (by rw[hal',<-hl2];exact hlen));have hoL:(h'.push (seqObj "list" (as.map Value.ref).toArray 0)).get? h'.objs.size=some (seqObj "list" (as.map Value.ref).toArray 0):=hS0 _ rfl;have ta:Srt.TA1 (h'.push (seqObj "list" (as.map Value.ref).toArray 0)) (as.map Value.ref) zs:=⟨hal',fun i z e=>by
  have hi:i<zs.length:=(gS0.mp e).1;have hia:i<as.length:=by rw[lM0] at hal';omega
  obtain⟨key,k,x,e1,e2,e3⟩:=hG.pairs i as[i] (gE0 hia);have hk':=a7d kv e1;rw[hz,gM0,e] at hk';have ek:Sum.inr z=k:=by simpa using hk'
  subst ek;obtain⟨t,rfl⟩:=a8f e2;exact⟨as[i],_,t,[x],0,by rw[gM0,gE0 hia];rfl,hP0 _ e3,rfl,rfl⟩⟩
 refine wB0 (wpAny_holding (wpAny_call_entry slot_list_sort ⟨_,hoL,rfl⟩ entry_list_sort (Srt.a5f (s:={ s with heap:=h'.push (seqObj "list" (as.map Value.ref).toArray 0),toks:=tk }) (zs:=zs) hoL ta nd (by rw[hal'];exact h64) fun p' pn up=>⟨_,rfl,?_⟩) (args_list_sort _)));have hndA:as.Nodup:=hG.rise.imp fun h=>nL0 h;have hltA:∀a∈as,a<h'.objs.size:=fun a ha=>hG.there ha;have hlA:h'.objs.size∉as:=fun hm=>Nat.lt_irrefl _ (hltA _ hm);have hgA:∀a∈as,s.heap.get? a=none:=fun a ha=>by
  cases e:s.heap.get? a with
  |none=>rfl
  |some ob=>exact absurd (hL0 e) (Nat.lt_asymm (hG.above a ha))
 have hnL:s.heap.get? h'.objs.size=none:=by
  cases e:s.heap.get? h'.objs.size with
  |none=>rfl
  |some ob=>exact absurd (hL0 (hk _ _ e)) (Nat.lt_irrefl _)
 obtain⟨e,he⟩:=sortedHeap_at (out:=List.toArray (p'.toList.map fun i=>(as.map Value.ref).getD i Value.none)) hoL;have keep:∀b ob,h'.get? b=some ob->(sortedHeap (h'.push (seqObj "list" (as.map Value.ref).toArray 0)) h'.objs.size (as.map Value.ref) (List.toArray (p'.toList.map fun i=>(as.map Value.ref).getD i Value.none))).get? b=some ob:=fun b ob q'=>by
  have hlt:=hL0 q';rw[sortedHeap_old (nL0 hlt) (by rw[size_push'];exact Nat.lt_succ_of_lt hlt)];exact hP0 _ q'
 have la:as.length=kvs.length:=by rw[hal,<-hl]
 have lt:∀i∈p'.toList,i<as.length:=fun i hi=>by
  have:=List.mem_range.mp (pn.mem_iff.mp hi)
  rwa [lM0] at this
 have ev:(p'.toList.map fun i=>as.getD i 0).map V.ref=p'.toList.map fun i=>(as.map V.ref).getD i .non:=by
  rw[mC0];apply List.map_congr_left;intro i hi;have h1:=lt i hi;simp[List.getD_eq_getElem?_getD,h1]
 have hs:=pn.size;have rr:∀{bs:List Addr},a1c (bs.map V.ref) (bs.map Value.ref):=fun {bs}=>by
  induction bs with
  |nil=>exact .nil
  |cons b r ih=>exact .cons rfl ih
 have at_:∀(j:Nat) (a:Addr) (k:Key) (v:V),as[j]? =some a->kvs[j]? =some (k,v)->itH H h'.objs.size (.lst ((p'.toList.map fun i=>as.getD i 0).map V.ref)) as kvs a=some (.tup [kV k,v]):=fun j a k v h1 h2=>by
  have hm:=gI0 h1;unfold itH;rw[if_neg (nL0 (hltA a hm)),if_pos hm,b1Q hndA h1,List.getD_eq_getElem?_getD,h2]
  rfl
 have oldI:∀b u,s.heap.get? b=some u->itH H h'.objs.size (.lst ((p'.toList.map fun i=>as.getD i 0).map V.ref)) as kvs b=H b:=fun b u e=>by
  unfold itH;rw[if_neg (fun z=>by rw[z,hnL] at e;cases e),if_neg (fun z=>by rw[hgA b z] at e;cases e)]
 refine wP0 ⟨_,rfl,.ref h'.objs.size,itH H h'.objs.size (.lst ((p'.toList.map fun i=>as.getD i 0).map V.ref)) as kvs,I.laidM (t':=tk) (fun b ob e=>keep b ob (hk b ob e)) oldI fun b u hu hn=>?_,rfl,
  q _ as p'.toList _ (I.none_at hnL) (fun a ha=>I.none_at (hgA a ha)) hlA hndA la (fun b u hb=>?_) at_ (by have:=pn;unfold Srt.PN at this;rw[lM0] at this;exact this) ?_ (by unfold itH;rw[if_pos rfl])⟩
 ·by_cases hbl:b=h'.objs.size
  ·subst hbl
   unfold itH at hu;rw[if_pos rfl] at hu;cases hu;refine⟨?_,_,e,?_,he⟩
   ·rw[lM0,lM0,aL0,hs,lM0,la]
    exact hlen
   ·rw[ev]
    exact a5l rr _ fun i hi=>by rw[lM0];exact lt i hi
  ·by_cases hba:b∈as
   ·obtain⟨j,hj⟩:=List.getElem?_of_mem hba
    obtain⟨key,k,x,e1,e2,e3⟩:=hG.pairs j b hj;obtain⟨v,e4,rv⟩:=a5h kv e1;rw[at_ j b k v hj e4] at hu;cases hu;exact⟨by show 2<=sizeLine;decide,[key,x],.cons (a8f e2) (.cons rv .nil),_,keep _ _ e3,rfl,0,rfl⟩
   ·unfold itH at hu
    rw[if_neg hbl,if_neg hba] at hu;obtain⟨ob,z⟩:=(I.hok b u hu).there;rw[hn] at z;cases z
 ·obtain⟨ob,z⟩:=(I.hok b u hb).there
  rw[oldI b ob z];exact hb
 ·unfold a6L
  rw[List.pairwise_map,List.pairwise_iff_getElem];intro i j hi hj hij;have hi':i<p'.size:=by simpa using hi
  have hj':j<p'.size:=by simpa using hj
  have h0:=up i j (by omega) (by omega);unfold Srt.rz at h0;rw[decide_eq_false_iff_not,Srt.a2s hi',Srt.a2s hj'] at h0;rw[Array.getElem_toList,Array.getElem_toList];exact h0
def flt:V->Bool
 | .non=>true
 | .bl _=>true
 | .int _=>true
 | .str _=>true
 |_=>false
theorem a5T {zs:List Str}{vs:List V}{i:Nat}:(zs.zipWith (fun z v=>((Sum.inr z:Key),v)) vs)[i]? =match zs[i]?,vs[i]? with |some z,some v=>some (.inr z,v) |_,_=>none:=by
 rw[List.getElem?_zipWith];cases zs[i]?<;>cases vs[i]?<;>rfl
theorem b4l {zs:List Str}{vs:List V}(h:vs.length=zs.length):(zs.zipWith (fun z v=>((Sum.inr z:Key),v)) vs).length=zs.length:=by
 rw[List.length_zipWith];omega
theorem b4m {zs:List Str}{vs:List V}{k:Key}{v:V}(h:(k,v)∈zs.zipWith (fun z v=>((Sum.inr z:Key),v)) vs):∃(i:Nat) (z:Str),zs[i]? =some z/\vs[i]? =some v/\k=.inr z:=by
 obtain⟨i,hi⟩:=List.getElem?_of_mem h;rw[a5T] at hi;cases h1:zs[i]? with
 |none=>rw[h1] at hi;cases hi
 |some z=>
  cases h2:vs[i]? with
  |none=>rw[h1,h2] at hi;cases hi
  |some u=>
   rw[h1,h2] at hi
   injection hi with hi
   injection hi with e1 e2
   exact⟨i,z,h1,by rw[h2,e2],e1.symm⟩
def del (H:Hp)(c:Addr):Hp:=fun b=>if b=c then none else H b
theorem a3C {H:Hp}{c:Addr}:del H c c=none:=if_pos rfl
theorem a2G {H:Hp}{b c:Addr}(h:b≠c):del H c b=H b:=if_neg h
def b3Y (t:TS):TS:=fun D σ H=>∃R:St->Hp->Prop,t { D with nx:=R } σ H/\∀σ' H',R σ' H'->D.nx σ' H'
theorem a1H {X:Cx}{st:Stmt}{t:TS}(h:PS X st t):PS X st (b3Y t):=by
 intro pins s σ H D I hq;obtain⟨R,h1,h2⟩:=hq;refine thn (h pins s σ H _ I h1) fun f s' hs=>?_;cases f with
 |next=>obtain⟨σ',H',I',z⟩:=hs;exact⟨σ',H',I',h2 _ _ z⟩
 |brk=>exact hs
 |cont=>exact hs
 |ret u=>exact hs
theorem b3y (hu:X.A.units<cLine):OpR X (compareOp .Eq) (fun x y H Q=>∃(p b:Addr) (xs:List V),x=.ref p/\y=.ref b/\SqL X.K H p xs/\SqL X.K H b []/\Q (.bl (decide (xs.length=0))) H):=by
 intro pins s σ H x y v u Q I rx ry h;obtain⟨p,b,xs,rfl,rfl,hp,hb,q⟩:=h;cases rx;cases ry;obtain⟨its,r1,pl,_⟩:=I.list hp;obtain⟨jts,r2,ql,_⟩:=I.list hb;have l1:xs.length=its.length:=r1.length;have l2:([]:List V).length=jts.length:=r2.length
 by_cases hl:its.length=jts.length
 ·refine SeqAt.eq_listAt (e:=fun _=>true) pl.isList ql.isList (by simpa using hl) hu (fun j g1 g2=>?_) ?_
  ·have g2':j<jts.length:=by simpa using g2
   rw[<-l2] at g2';exact absurd g2' (Nat.not_lt_zero _)
  ·have e:((List.range its.toArray.size).all fun _=>true)=decide (xs.length=0):=by
    rw[dT0 (show xs.length=0 by rw[l1,hl,<-l2];rfl)];simp
   rw[e];exact⟨.bl _,H,I,rfl,q⟩
 ·refine SeqAt.eq_list_lengthsAt pl.isList ql.isList (by simpa using hl) hu ⟨.bl (decide (xs.length=0)),H,I,?_,q⟩
  have:¬xs.length=0:=fun e=>hl (by rw[<-l1,<-l2,e];rfl)
  rw[dF0 this]
  rfl
end
end L2
namespace My
open PySem L2 PyProof.Rows
seal L2.PE L2.PT L2.PW L2.PS L2.PSs L2.PA L2.PI L2.PG L2.PGs L2.OpR L2.a1p L2.IxR L2.SlR L2.MtR L2.PIf L2.PO L2.MtM L2.PC L2.a6n
def cel (ns:List Int)(k:Int):Int:=if k<ns.length then ns.getD k.toNat 0 else if ns.length=0 then k * 48271%65537 else ns.getD (k%ns.length).toNat 0 * 48271%2147483647+7919 * k
def b3p (K:Fg0):Sp:=fun vs H Q _=>∃(a:Addr) (ns:List Int) (k:Int),vs=[.ref a,.int k]/\SqL K H a (ns.map V.int)/\0<=k/\k<=1000000/\ns.length<=63/\∀H':Hp,a0m H H'->Q (.int (cel ns k)) H'
def b3g:Str:="abcdefghijklmnopqrstuvwxyz"
def nmC (fi st at_ k:Int)(n:Nat):List Nat:=(List.range n).map fun(j:Nat)=>b0f (if (0+(j:Int))=at_ then fi+(0+(j:Int)) * st+k else fi+(0+(j:Int)) * st)
theorem a9E {fi st at_ k:Int}{n:Nat}:(nmC fi st at_ k n).length=n:=by unfold nmC;rw[lM0,List.length_range]
theorem b2i {fi st at_ k k':Int}{n:Nat}(h0:0<=at_)(h1:at_<n)(e:nmC fi st at_ k n=nmC fi st at_ k' n):(fi+(0+at_) * st+k)%26=(fi+(0+at_) * st+k')%26:=by
 obtain⟨j,rfl⟩:=Int.eq_ofNat_of_zero_le h0;have hj:j<n:=by omega
 have g:=congrArg (fun l:List Nat=>l[j]?) e;simp only[nmC,gM0,List.getElem?_range hj,Option.map_some] at g;have g':=Option.some.inj g;rw[if_pos (by omega),if_pos (by omega)] at g';exact b0N g'
def a9s:Sp:=fun vs H Q _=>∃c m:Int,vs=[.int c,.int m]/\0<=m/\m<=12/\∀(l:Addr) (zs:List Str) (H':Hp),a0m H H'->H l=none->H' l=some (.lst (zs.map V.str))->(zs.length:Int)=m->zs.Nodup->(∀z∈zs,a1P z=true)->Q (.ref l) H'
theorem a6S {H H1:Hp}{p:Addr}{o:HO}(s:a0m H H1)(h:H p=none):a0m H (upd H1 p o):=fun b u e=>by
 rw[a0g (a0C e h)];exact s _ _ e
theorem b0l {fi st at_ k:Int}{n:Nat}:nmC fi st at_ k (n+1)=nmC fi st at_ k n++[b0f (if (0+(n:Int))=at_ then fi+(0+(n:Int)) * st+k else fi+(0+(n:Int)) * st)]:=by
 unfold nmC;rw[List.range_succ,mA0]
 rfl
section
variable {P:Program}{w:World}{K:Fg0}{mg:Str->Option Value}{base:Heap}
theorem a5n {f:Addr}{fd:FuncData}(F:Fun K "_law_cell" "_law_cell" (top 42) f fd)(B:Bl mg):a0F P w K mg base CX0 1 f fd ["_law_script","_law_k"] (b3p K):=by
 have sc:a0o ["_law_script","_law_k"] ["_law_script","_law_k"] (a0f (top 42)):=.k (by decide +kernel);refine F.ok sc (fun vs H Q E h=>?_) (fun cdv A outer s H vs Q E hr h=>?_)
 ·obtain⟨a,ns,k,rfl,_⟩:=h
  rfl
 ·obtain⟨a,ns,k,rfl,hS,h0,h1,h63,q⟩:=h
  have hl:(ns.map V.int).length=ns.length:=lM0 ..;have hu:_+1<cLine:=a2E hr;refine⟨_,a0d (a0A (a0q b2h (pv 1) (a0k a0S (by rfl) B.len PySem.boot_len (a0a (pv 0) a0c)) (a0t _)) (a0h (a0u (a0x a0p (pv 0) (pv 1) (fun _ _=>rfl)))) a0l)
   (a0d (a0A (a0q (b3y (Nat.lt_of_succ_lt hu)) (pv 0) (a1R a0c) (a0t _)) (a0h (a0u (a0w a0O (a0w a2O (pv 1) a0e) a0e))) a0l)
   (a0h (a0u (a0w a2N (a0w a0O (a0w a2O (a0x a0p (pv 0) (a0w a0O (pv 1) (a0k a0S (by rfl) B.len PySem.boot_len (a0a (pv 0) a0c))) (fun _ _=>rfl)) a0e) a0e) (a0w a2O a0e (pv 1)))))),?_⟩
  refine⟨_,rfl,_,rfl,_,_,rfl,.inl hS,_,_,rfl,rfl,_,rfl,?_⟩;refine a4q (fun c=>?_) (fun c=>?_)
  ·have c':k<ns.length:=by rw[<-hl];exact of_decide_eq_true c
   exact⟨_,rfl,_,rfl,_,_,_,_,rfl,rfl,hS,a5q h0 c',(by have:=q _ (a0m.refl H);unfold cel at this;rw[if_pos c'] at this;exact this)⟩
  ·have nc:¬k<ns.length:=fun e=>c (dT0 (by rw[hl];exact e))
   refine⟨_,rfl,zL0 _,fun p hp=>?_⟩;have s1:a0m H (upd H p (.lst [])):=a0m.upd hp;refine⟨_,_,_,rfl,rfl,s1.seq hS,SqL.of a0b,_,rfl,?_⟩;refine a4q (fun c2=>?_) (fun c2=>?_)
   ·exact⟨_,rfl,_,_,rfl,rfl,.inr ⟨by decide,by decide⟩,_,_,rfl,rfl,(pos rfl),(by have:=q _ s1;unfold cel at this;rw[if_neg nc,if_pos (by rw[<-hl];exact of_decide_eq_true c2)] at this;exact this)⟩
   ·have c3:(0:Int)<ns.length:=by
     have:¬(ns.map V.int).length=0:=fun e=>c2 (dT0 e)
     rw[hl] at this
     omega
    have m0:0<=k%(ns.length:Int):=Int.emod_nonneg _ (by omega);have m1:k%(ns.length:Int)<ns.length:=Int.emod_lt_of_pos _ c3;exact⟨_,rfl,_,rfl,_,rfl,_,_,rfl,.inl (s1.seq hS),_,_,rfl,rfl,(by rw[hl];exact c3),_,_,_,_,rfl,rfl,s1.seq hS,(by rw[hl];exact a5q m0 m1),_,_,rfl,rfl,.inr ⟨by decide,by decide⟩,_,_,rfl,rfl,(pos rfl),_,rfl,_,_,rfl,rfl,.inl ⟨by decide,by decide⟩,_,_,rfl,rfl,(by have:=q _ s1;unfold cel at this;rw[if_neg nc,if_neg (by omega)] at this;exact this)⟩
theorem b0u {f:Addr}{fd:FuncData}(F:Fun K "_law_names" "_law_names" (top 43) f fd)(B:Bl mg):a0F P w K mg base CX0 1 f fd ["_law_cell_here","_law_many"] a9s:=by
 have sc:a0o ["_law_cell_here","_law_many","_law_letters","_law_long","_law_at","_law_names_here","_law_k","_law_name","_law_j","_law_step"] ["_law_cell_here","_law_many"] (a0f (top 43)):=.k (by decide +kernel);refine F.ok sc (fun vs H Q E h=>?_) (fun cdv A outer s H vs Q E hr h=>?_)
 ·obtain⟨c,m,rfl,_⟩:=h
  rfl
 ·obtain⟨c,m,rfl,m0,m12,q⟩:=h
  refine⟨_,a0d (a0E (i:=2) sc.nd rfl (Or.inl rfl) a0H)
   (a0d (a0E (i:=3) sc.nd rfl (Or.inl rfl) (a0w a2N a0e (a0w a0O (pv 0) a0e)))
   (a0d (a0E (i:=4) sc.nd rfl (Or.inl rfl) (a0w a0O (a0w a1b (pv 0) a0e) (pv 3)))
   (a0d (a0E (i:=5) sc.nd rfl (Or.inl rfl) (a1R a0c))
   (a0d (a1W PassesOwn.never rfl (a3e rfl B.range (a0a (pv 1) a0c)) (a0v (i:=6) sc.nd rfl (Or.inl rfl))
    (a0d (a0E (i:=7) sc.nd rfl (Or.inl rfl) a0H)
    (a0d (a1W PassesOwn.never rfl (a3e rfl B.range (a0a (pv 3) a0c)) (a0v (i:=8) sc.nd rfl (Or.inl rfl))
     (a0d (a0E (i:=9) sc.nd rfl (Or.inl rfl) (a0w a2N (a0w a1b (pv 0) a0e) (a0w a2O (pv 8) (a0w a1b (pv 0) a0e))))
     (a0d (a1H (a0A (a0q a1o (pv 8) (pv 4) (a0t _)) (a0h (a0E (i:=9) sc.nd rfl (Or.inl rfl) (a0w a2N (pv 9) (pv 6)))) a0l))
     (a0h (a0E (i:=7) sc.nd rfl (Or.inl rfl) (a0w a4t (pv 7) (a0x b1M (pv 2) (a0w a0O (pv 9) a0e) (fun _ _=>rfl))))))))
    (a0h (a1t (a8X PySem.F.plainAttrs_list PySem.F.slot_list_append PySem.F.type_list_append a8P (pv 5) (a0a (pv 7) a0c)))))))
   (a0h (a0u (pv 5))))))),?_⟩
  have l0:=Int.emod_nonneg c (show(8:Int)≠0 by decide);have l8:=Int.emod_lt_of_pos c (show(0:Int)<8 by decide);refine⟨_,rfl,_,_,rfl,rfl,(pos rfl),_,_,rfl,rfl,?_⟩;have lp:(0:Int)<1+c%8:=by omega
  refine⟨_,rfl,_,_,rfl,rfl,⟨by decide,by decide⟩,_,rfl,_,_,rfl,rfl,lp,?_⟩;have a0:=Int.emod_nonneg (c/8) (show(1+c%8:Int)≠0 by omega);have a9:=Int.emod_lt_of_pos (c/8) lp;refine⟨zL0 _,fun l hl=>?_⟩;have T1:=a0m.upd (o:=.lst []) hl;have e1:=a0b (H:=H) (a:=l) (o:=.lst []);show b5z _ _ _ [some (.int c),some (.int m),some (.str b3g),some (.int (1+c%8)),some (.int (c/8%(1+c%8))),some (.ref l),none,none,none,none] _;generalize upd H l (.lst [])=H1 at *;generalize c/8%(1+c%8)=at_ at *;generalize hln:1+c%8=ln at *;have abz:b3g.length<=sizeLine:=by decide +kernel
  obtain⟨nL,hnL⟩:=Int.eq_ofNat_of_zero_le (show 0<=ln by omega);refine⟨_,rfl,_,rfl,(by omega),(by omega),a5F (fun i σ H'=>a0m H H'/\(∃u8 u9 u10 u11,σ=[some (.int c),some (.int m),some (.str b3g),some (.int ln),some (.int at_),some (.ref l),u8,u9,u10,u11])/\∃zs:List Str,H' l=some (.lst (zs.map V.str))/\zs.length=i/\∀(j:Nat) (z:Str),zs[j]? =some z->z.cps.toList=nmC (c/64) (c/1664) at_ (0+(j:Int)) nL) ⟨T1,⟨_,_,_,_,rfl⟩,[],e1,rfl,fun j z h=>nomatch h⟩ ?_ ?_⟩
  ·rintro i σ H' hi ⟨sm,⟨u8,u9,u10,u11,rfl⟩,zs,g1,g2,g3⟩
   refine⟨_,rfl,_,rfl,(by omega),(by omega),a5F (fun j σ H2=>H2=H'/\∃(z:Str) (u10 u11:Option V),σ=[some (.int c),some (.int m),some (.str b3g),some (.int ln),some (.int at_),some (.ref l),some (.int (0+(i:Int))),some (.str z),u10,u11]/\z.cps.toList=nmC (c/64) (c/1664) at_ (0+(i:Int)) j) ⟨rfl,"",_,_,rfl,rfl⟩ ?_ ?_⟩
   ·rintro j σ H2 hj ⟨rfl,z,v10,v11,rfl,hz⟩
    refine⟨_,rfl,_,_,rfl,rfl,⟨by decide,by decide⟩,_,rfl,_,rfl,_,_,rfl,rfl,⟨by decide,by decide⟩,_,_,rfl,rfl,.inl ⟨by omega,by omega⟩,_,_,rfl,rfl,?_⟩;refine⟨fun σ' H3=>H3=H2/\σ'=[some (.int c),some (.int m),some (.str b3g),some (.int ln),some (.int at_),some (.ref l),some (.int (0+(i:Int))),some (.str z),some (.int (0+(j:Int))),some (.int (if (0+(j:Int))=at_ then c/64+(0+(j:Int)) * (c/1664)+(0+(i:Int)) else c/64+(0+(j:Int)) * (c/1664)))],?_,?_⟩
    ·refine⟨_,rfl,_,rfl,rfl,_,rfl,?_⟩
     by_cases hc:(0+(j:Int))=at_
     ·refine a5d (by rw[hc];exact dT0 rfl) ⟨_,rfl,_,rfl,_,_,rfl,rfl,rfl,?_⟩
      rw[if_pos hc]
      rfl
     ·refine a2j (dF0 fun e=>hc (by injection e)) ⟨rfl,?_⟩
      rw[if_neg hc]
      rfl
    rintro σ3 H3 ⟨rfl,rfl⟩;have lt:=a9A (if (0+(j:Int))=at_ then c/64+(0+(j:Int)) * (c/1664)+(0+(i:Int)) else c/64+(0+(j:Int)) * (c/1664));have zl:z.length=j:=by
     have:=congrArg List.length hz
     rw[a9E] at this;show z.cps.size=j;rw[<-aL0];exact this
    refine⟨_,rfl,_,rfl,_,rfl,_,_,rfl,rfl,(pos rfl),b3g,_,_,rfl,rfl,abz,lt.1,_,_,rfl,rfl,(by rw[sizeLine_eq];show z.length+1<=_;omega),rfl,_,_,_,rfl,?_⟩;rw[Str.cps_append,Array.toList_append,hz,b0l]
   ·rintro σ H2 ⟨rfl,z,v10,v11,rfl,hz⟩
    refine⟨_,rfl,.inl ⟨rfl,_,SqL.of g1⟩,_,rfl,l,_,_,rfl,rfl,g1,(by rw[lM0,sizeLine_eq];omega),?_⟩;refine⟨a6S sm hl,⟨_,_,_,_,rfl⟩,zs++[z],by rw[a0b,mA0];rfl,by rw[lA0,g2];rfl,fun j z' hj=>?_⟩
    by_cases hjl:j<zs.length
    ·rw[gL0 hjl] at hj
     exact g3 j z' hj
    ·have e:j=zs.length:=by
      have:=(gS0.mp hj).1
      rw[lA0] at this;simp at this
      omega
     subst e;rw[gR0 (nR0 _),Nat.sub_self] at hj;cases hj;rw[g2];have en:ln.toNat=nL:=by rw[hnL];simp
     rw[en] at hz;exact hz
  ·rintro σ H' ⟨sm,⟨u8,u9,u10,u11,rfl⟩,zs,g1,g2,g3⟩
   refine⟨_,rfl,q l zs H' sm hl g1 (by omega) ?_ fun z hz=>?_⟩
   ·rw[List.nodup_iff_pairwise_ne,List.pairwise_iff_getElem]
    intro i j hi hj hij e;have h1:=g3 i zs[i] (gE0 hi);have h2:=g3 j zs[j] (gE0 hj);rw[e,h2] at h1
    have:=b2i a0 (by omega) h1
    omega
   ·obtain⟨j,hj⟩:=List.getElem?_of_mem hz
    have:=congrArg List.length (g3 j z hj)
    rw[a9E] at this;have zl:z.length=nL:=by
     show z.cps.size=nL;rw[<-aL0];exact this
    refine b0J (fun x hx=>?_) (by omega) (by omega);rw[g3 j z hj] at hx;obtain⟨k,_,rfl⟩:=mM0.mp hx;exact(a9A _).2
end
end My
namespace L2
open PySem PySem.Spec PyProof.Rows
structure a6o where
 nx:Nat->St->Hp->Prop
 rt:Nat->VK
abbrev TSM:=a6o->Nat->St->Hp->Prop
def a6o.at (D:a6o)(m:Nat):a5o:={ nx:=D.nx m,rt:=D.rt m }
def SPM (X:Cx)(pins:List (Addr×Obj))(D:a6o)(f:Flow)(s':Shared):Prop:=match f with
 | .next=>∃m σ' H',m<=s'.toks/\Inv X pins σ' H' s'/\D.nx m σ' H'
 | .ret u=>∃m v σ' H',m<=s'.toks/\Inv X pins σ' H' s'/\a0Z v u/\D.rt m v H'
 |_=>False
def PSM (X:Cx)(st:Stmt)(T:TSM):Prop:=∀(pins:List (Addr×Obj)) (s:Shared) (m:Nat) (σ:St) (H:Hp) (D:a6o),m<=s.toks->Inv X pins σ H s->T D m σ H->wpAny (model X.prog X.w) X.A (exec st X.env) (SPM X pins D) X.xe s
def a8i (X:Cx)(st:List Stmt)(T:TSM):Prop:=∀(pins:List (Addr×Obj)) (s:Shared) (m:Nat) (σ:St) (H:Hp) (D:a6o),m<=s.toks->Inv X pins σ H s->T D m σ H->wpAny (model X.prog X.w) X.A (execs st X.env) (SPM X pins D) X.xe s
section
variable {X:Cx}{st:Stmt}{rest:List Stmt}{T U:TSM}{pos:Pos}
theorem b6p {pins:List (Addr×Obj)}{D:a6o}{m:Nat}{f:Flow}{s':Shared}(hm:m<=s'.toks)(q:SP X pins (D.at m) f s'):SPM X pins D f s':=by
 cases f with
 |next=>obtain⟨σ',H',I',q⟩:=q;exact⟨m,σ',H',hm,I',q⟩
 |ret u=>obtain⟨v,σ',H',I',r,q⟩:=q;exact⟨m,v,σ',H',hm,I',r,q⟩
 |brk=>obtain⟨_,_,_,z⟩:=q;exact z
 |cont=>obtain⟨_,_,_,z⟩:=q;exact z
theorem PSk.m {t:Nat->TS}(h:∀n,PSk n X st (t n)):PSM X st (fun D m σ H=>t m (D.at m) σ H):=fun pins s m σ H D hm I q=>a6m hm (h m pins s σ H (D.at m) hm I q) fun f s' hm' q'=>b6p hm' q'
theorem b0a.m {t:Nat->TS}(h:∀n,b0a n X rest (t n)):a8i X rest (fun D m σ H=>t m (D.at m) σ H):=fun pins s m σ H D hm I q=>a6m hm (h m pins s σ H (D.at m) hm I q) fun f s' hm' q'=>b6p hm' q'
theorem PS.m {t:TS}(h:PS X st t):PSM X st (fun D m σ H=>t (D.at m) σ H):=PSk.m fun _=>h.k
theorem PSs.m {t:TS}(h:PSs X rest t):a8i X rest (fun D m σ H=>t (D.at m) σ H):=b0a.m fun _=>h.k
theorem a2r (h1:PSM X st T)(h2:a8i X rest U):a8i X (st::rest) (fun D m σ H=>T { D with nx:=U D } m σ H):=by
 intro pins s m σ H D hm I h;refine wpAny_execs_cons (thn (h1 pins s m σ H { D with nx:=U D } hm I h) fun f s1 q=>?_);cases f with
 |next=>
  obtain⟨m',σ',H',hm',I',q⟩:=q;exact h2 pins s1 m' σ' H' D hm' I' q
 |ret v=>exact q
 |brk=>exact q
 |cont=>exact q
theorem a3X (h1:PSM X st T):a8i X [st] T:=by
 intro pins s m σ H D hm I h;refine wpAny_execs_cons (thn (h1 pins s m σ H D hm I h) fun f s1 q=>?_);cases f with
 |next=>exact wpAny_execs_nil q
 |ret v=>exact q
 |brk=>exact q
 |cont=>exact q
theorem a5g:a8i X [] (fun D m σ H=>D.nx m σ H):=fun pins s m σ H D hm I q=>wpAny_execs_nil ⟨m,σ,H,hm,I,q⟩
theorem a7s {c:Expr}{xs ys:List Stmt}{tc:TT}(hc:PT X c tc)(ha:a8i X xs T)(hb:a8i X ys U):PSM X (.If c xs ys pos) (fun D m σ H=>tc σ H fun b H1=>if b=true then T D m σ H1 else U D m σ H1):=by
 intro pins s m σ H D hm I h;refine wpAny_If (a6m hm (hc pins s σ H _ I h) fun d s1 hm1 ⟨H1,I1,q1⟩=>?_);cases d with
 |true=>exact ha pins s1 m σ H1 D hm1 I1 q1
 |false=>exact hb pins s1 m σ H1 D hm1 I1 q1
def EWn (X:Cx)(e:Expr)(w:Nat->St->Hp->WK->Prop):Prop:=∀(pins:List (Addr×Obj)) (s:Shared) (m:Nat) (σ:St) (H:Hp) (Q:WK),m<=s.toks->Inv X pins σ H s->w m σ H Q->wpAny (model X.prog X.w) X.A (eval e X.env) (EW X pins σ Q) X.xe s
theorem a9u {e:Expr}{w:Nat->St->Hp->WK->Prop}{i:Nat}{x:Str}{pos':Pos}(he:EWn X e w)(hN:X.N.Nodup)(hi:X.N[i]? =some x)(hx:Loc X.env.scope x)(hs:swapsWith e (some (.Name x pos')) pos.line X.env=pure false:=by rfl)(hf:X.fn x=true\/X.env.scope.names.lookup x=some .local:=by first |exact .inl rfl |exact .inr rfl |assumption) :
  PSM X (.Assign [.Name x pos'] e pos) (fun D m σ H=>w m σ H fun _ k v H'=>D.nx k (σ.set i (some v)) H'):=by
 intro pins s m σ H D hm I h;refine wpAny_Assign_Name (thn (he pins s m σ H _ hm I h) fun u s1 ⟨v,H1,I1,r1,q1⟩=>?_) hs;exact a6m (nR0 s1.toks) (a5b (Q:=fun _ s'=>Inv X pins (σ.set i (some v)) H1 s') I1 hN hi hx r1 (fun s2 I2=>I2) hf) fun _ s2 hj I2=>⟨_,_,_,hj,I2,q1⟩
theorem a3Q {e:Expr}{w:Nat->St->Hp->WK->Prop}(he:EWn X e w):PSM X (.Return (some e) pos) (fun D m σ H=>w m σ H fun _ k v H'=>D.rt k v H'):=by
 intro pins s m σ H D hm I h;exact wpAny_Return_some (thn (he pins s m σ H _ hm I h) fun u s1 ⟨v,H1,I1,r1,q1⟩=>⟨s1.toks,v,σ,H1,nR0 _,I1,r1,q1⟩)
theorem a6d {k:Nat}{f:Addr}{fd:FuncData}{ps:List Str}{sp:Nat->SpW}{x:Str}{p:Pos}{e:Expr}{es:List Expr}{t:TA}(F:∀n,a3j n X.prog X.w X.K X.mg X.base k f fd ps (sp n))(hr:a1r k X.A)(hg:Gl X x)(hm:X.mg x=some (.ref f))(hk:PySem.W.keepIn X.K (.ref f)=true)(hb:a2i X.K fd ps [])
  (ha:PA X (e::es) t) (hdb:(x==("__debug__":Str))=false:=by decide) (he:starEach (e::es) X.env=(false,eval e X.env)::starEach es X.env:=by rfl) (hpl:(backTo pos (starEach es X.env)).any (·.1)=false:=by rfl) :
  EWn X (.Call (.Name x p) (e::es) [] pos) (fun m σ H Q=>t σ H fun vs H1=>sp m vs H1 Q):=fun pins s m σ H Q hm' I h=>a7q (F m) hr hg hm hk hb ha hm' I h hdb he hpl
end
section
variable {P:Program}{w:World}{K:Fg0}{mg:Str->Option Value}{base:Heap}
theorem Fun.okM {x qual:Str}{st:Stmt}{f:Addr}{fd:FuncData}{N ps:List Str}{n k:Nat}{sp:SpW}(F:Fun K x qual st f fd)(S:a0o N ps (a0f st))(len:∀vs H Q,sp vs H Q->vs.length=ps.length)
  (hbody:∀(cdv:Value) (A:Around) (outer:List Env) (s:Shared) (H:Hp) (vs:List V) (Q:WK),a1r k (A.deeper (envOfC qual (a0f st) s.heap.objs.size f cdv))->sp vs H Q →
   ∃T,a8i (a5U CX0 P w K mg base N qual (a0f st) f cdv A outer s H (fun _ _ _=>False)).nox (a0J st) T/\T { nx:=fun _ _ _=>False,rt:=fun m v H'=>∀u tk,m<=tk->Q u tk v H' } n (a2M N vs) H) :
  a3j n P w K mg base (k+1) f fd ps sp:=by
 refine F.okW S (fun vs H Q h=>len _ _ _ h) (fun cdv A outer s H vs Q s1 hr h hn I=>?_);obtain⟨T,hT,hq⟩:=hbody cdv A outer s H vs Q hr h;refine thn (hT [] s1 n _ H _ hn I hq) fun fl s' hs=>?_;cases fl with
 |next=>obtain⟨_,_,_,_,_,z⟩:=hs;exact z
 |ret u=>obtain⟨m,v,σ',H',hm,J,r,q⟩:=hs;exact⟨v,σ',H',J,r,q u _ hm⟩
 |brk=>exact hs
 |cont=>exact hs
end
end L2
namespace My
open PySem L2 PyProof.Rows
seal L2.PE L2.PT L2.PW L2.PS L2.PSs L2.PA L2.PI L2.PG L2.PGs L2.OpR L2.a1p L2.IxR L2.SlR L2.MtR L2.PIf L2.PO L2.MtM L2.PC L2.a6n
theorem b6r:∀l:List Nat,(l.map fun _=>1).sum=l.length
 |[]=>rfl
 |_::l=>by rw[mN0,List.sum_cons,b6r l,List.length_cons,Nat.add_comm]
def sgA:Str:=" !\"#$&'()*+,-./0123456789:;<=>?@ABCDEFGHIJKLMNOPQRSTUVWXYZ[\\]^_`"
def sgB:Str:="abcdefghijklmnopqrstuvwxyz{|}~"
def sgN (i:Int):Nat:=((sgA++sgB).cps.toList[(i%94).toNat]?).getD 0
theorem b3J:(sgA++sgB).cps.toList.length=94:=by decide +kernel
theorem b4y (i:Int):atI (sgA++sgB).cps.toList (i%94)=some (sgN i):=by
 have h0:=Int.emod_nonneg i (show(94:Int)≠0 by decide);have h1:=Int.emod_lt_of_pos i (show(0:Int)<94 by decide);obtain⟨n,hn⟩:=Int.eq_ofNat_of_zero_le h0;have hl:n<(sgA++sgB).cps.toList.length:=by rw[b3J];omega
 have e:sgN i=(sgA++sgB).cps.toList[n]:=by
  unfold sgN;rw[hn,Int.toNat_natCast,gE0 hl]
  rfl
 rw[e,hn];exact a0U (gE0 hl)
def txL (c:Int):List Str:=(List.range (c%7).toNat).map fun(k:Nat)=>(⟨#[sgN (c/7+(0+(k:Int)) * (c/658%94))]⟩:Str)
def txF (c:Int):Str:=Txt.join "" (txL c)
def b5T:Sp:=fun vs H Q _=>∃c:Int,vs=[.int c]/\∀H',a0m H H'->Q (.str (txF c)) H'
section
variable {P:Program}{w:World}{K:Fg0}{mg:Str->Option Value}{base:Heap}
theorem b3U {f:Addr}{fd:FuncData}(F:Fun K "_law_text" "_law_text" (top 46) f fd)(B:Bl mg):a0F P w K mg base CX0 1 f fd ["_law_cell_here"] b5T:=by
 have sc:a0o ["_law_cell_here","_law_some"] ["_law_cell_here"] (a0f (top 46)):=.k (by decide +kernel);refine F.ok sc (fun vs H Q E h=>?_) (fun cdv A outer s H vs Q E hr h=>?_)
 ·obtain⟨c,rfl,_⟩:=h
  rfl
 ·obtain⟨c,rfl,q⟩:=h
  refine⟨_,a0d (a0E (i:=1) sc.nd rfl (Or.inr rfl) a0H) (a0d (a0E (i:=1) sc.nd rfl (Or.inr rfl) (a0w a4t (pv 1) a0H))
   (a0h (a0u (a8X PySem.F.plainAttrs_str PySem.F.slot_str_join PySem.F.type_str_join b1c a0H (a0a
    (a1Z (osc:=a0f (top 46)) (N0:=["_law_cell_here","_law_some"]) (xs:=["_law_k"]) (fr:=[0,1]) ⟨rfl,by decide +kernel,by decide +kernel,by decide +kernel,(fun j hj=>by
      have e:j=0\/j=1:=by simpa using hj
      rcases e with rfl |rfl
      ·exact⟨_,rfl,by decide +kernel⟩
      ·exact⟨_,rfl,by decide +kernel⟩),by decide +kernel⟩ rfl rfl rfl (a3e rfl B.range (a0a (a0w a0O (pv 0) a0e) a0c))
     (fun s H fp=>a0v (i:=0) (show(["_law_k","_law_cell_here","_law_some"]:List Str).Nodup by decide +kernel) rfl (Or.inl rfl)) (fun s H fp=>a1E)
     (fun s H fp=>a0x b1M (pv 2) (a0w a0O (a0w a2N (a0w a1b (pv 1) a0e) (a0w a2O (pv 0) (a0w a0O (a0w a1b (pv 1) a0e) a0e))) a0e) (fun _ _=>rfl))) a0c))))),?_⟩
  have m0:=Int.emod_nonneg c (show(7:Int)≠0 by decide);have m1:=Int.emod_lt_of_pos c (show(0:Int)<7 by decide);refine⟨_,rfl,sgA,sgB,rfl,rfl,(by decide +kernel),?_⟩;refine⟨rfl,_,rfl,_,_,rfl,rfl,(pos rfl),_,rfl,(by omega),(by omega),fun D hD=>?_⟩;have e3:((c%7).toNat:Int)=c%7:=Int.toNat_of_nonneg m0;refine a2C (c%7).toNat (fun k=>.str ⟨#[sgN (c/7+(0+(k:Int)) * (c/658%94))]⟩) (fun i σ' Hc=>(∃t,σ'=[t,some (.int c),some (.str (sgA++sgB))])/\a0m H Hc) (by rw[sizeLine_eq];omega) ⟨⟨none,rfl⟩,a0m.upd hD⟩ a0b ?_ ?_
  ·rintro i σ' Hc hi ⟨⟨t,rfl⟩,sm⟩ hDc
   refine⟨hi,?_⟩;rintro x H' ⟨rfl,rfl⟩;refine⟨_,rfl,_,rfl,_,_,rfl,rfl,⟨by decide,by decide⟩,_,rfl,_,rfl,_,_,rfl,rfl,⟨by decide,by decide⟩,_,_,rfl,rfl,(pos rfl),_,_,rfl,rfl,.inl ⟨by omega,by omega⟩,_,_,rfl,rfl,_,_,rfl,rfl,(pos rfl),sgA++sgB,_,_,rfl,rfl,(by decide +kernel),b4y _,rfl,hDc,⟨_,rfl⟩,a6S sm hD⟩
  ·rintro σ' Hc ⟨_,sm⟩ hDc
   refine⟨by show _<=_;omega,"",D,txL c,rfl,rfl,SqL.of ?_,?_,q _ sm⟩
   ·rw[hDc]
    unfold txL;rw[mC0]
    rfl
   ·have e0:("":Str).length=0:=by decide +kernel
    have e1:((txL c).map (·.length)).sum=(c%7).toNat:=by
     unfold txL;rw[mC0]
     have:((fun x:Str=>x.length)∘fun(k:Nat)=>(⟨#[sgN (c/7+(0+(k:Int)) * (c/658%94))]⟩:Str))=fun _=>1:=rfl
     rw[this,b6r,List.length_range]
    rw[e0,e1]
    omega
end
end My
namespace L2
open PySem PySem.Spec PyProof.Rows
theorem SqT.rd {K:Fg0}{H:Hp}{a:Addr}{xs:List V}(h:Rd H a (.tup xs)):SqT K H a xs:=.inl h
theorem a0s {X:Cx}:a1p X (.builtin "isinstance") (fun xs H Q=>∃x n t b,xs=[x,.ty n]/\(a6v X.K H x t\/∃a ys,x=.ref a/\Rd H a (.tup ys)/\t=.type "tuple")/\PySem.W.kitOne X.K t (.type n)=some b/\Q (.bl b) H):=by
 intro pins s σ H xs us Q I r h;obtain⟨x,n,t,b,rfl,hx,e,q⟩:=h;rcases hx with hx |⟨a,ys,rfl,ha,rfl⟩
 ·exact a2n pins s σ H _ us Q I r ⟨x,n,t,b,rfl,hx,e,q⟩
 ·obtain⟨u,w',rfl,rx,rc⟩:=a7N r
  cases rx
  cases(show w'=Value.type n from rc)
  obtain⟨its,_,⟨o,h1,h2,_⟩,_⟩:=I.tuple (SqT.rd ha);exact PySem.W.kia_one PySem.W.kitx_tuple I.kIn ⟨o,h1,h2⟩ e (fun z=>nomatch z) fun tk=>⟨.bl b,H,I.tok tk,rfl,q⟩
end L2
namespace My
open PySem L2 PyProof.Rows
seal L2.PE L2.PT L2.PW L2.PS L2.PSs L2.PA L2.PI L2.PG L2.PGs L2.OpR L2.a1p L2.IxR L2.SlR L2.MtR L2.PIf L2.PO L2.MtM L2.PC L2.a6n
def b4P (n:Nat):Sp:=fun vs H Q _=>∃x y,vs=[x,y]/\Lq H n x y/\∀H',a0m H H'->Q (.bl true) H'
section
variable {P:Program}{w:World}{K:Fg0}{mg:Str->Option Value}{base:Heap}
theorem kq {a b:String}{r:Bool}(h:a0V a b=some r):PySem.W.kitOne K (.type a) (.type b)=some r:=a2B.trans h
theorem b4k {fself:Addr}{fd:FuncData}(D:Df K mg "_law_alike" (top 44) fself fd)(B:Bl mg)(hz:mg "zip"=none)(n:Nat)(ih:∀m,n=m+1->a0F P w K mg base CX0 (m+1) fself fd ["_law_found","_law_due"] (b4P m)) :
  a0F P w K mg base CX0 (n+1) fself fd ["_law_found","_law_due"] (b4P n):=by
 have sc:a0o ["_law_found","_law_due","_law_name","_law_one","_law_other"] ["_law_found","_law_due"] (a0f (top 44)):=.k (by decide +kernel);have bA:=D.fn.b2 "_law_found" "_law_due" (by intros;rfl);refine D.fn.ok sc (fun vs H Q E h=>?_) (fun cdv A outer s H vs Q E' hr h=>?_)
 ·obtain⟨x,y,rfl,_⟩:=h
  rfl
 ·obtain⟨x,y,rfl,hl,q⟩:=h
  cases hl with
  |non=>
   refine⟨_,(a0d (a0A (a0q a3t (pv 1) a1m (a0t _)) (a0h (a0u (a1d a3t (pv 0) a1m (a0t _)))) a0l)
     a0j),?_⟩
   refine⟨_,rfl,rfl,_,rfl,a5d (dT0 rfl) ?_⟩;refine⟨_,rfl,rfl,?_⟩;rw[dT0 rfl];exact q H (a0m.refl H)
  |bl=>
   refine⟨_,(a0d (a0A (a0q a3t (pv 1) a1m (a0t _)) a0j a0l)
     (a0d (a0A (PW.pt (a2F (a0D (a0k a0s (by rfl) B.isi boot_isi (a0a (pv 1) (a0a (a0y (v:=.ty "bool") (by rfl) B.bool boot_bool rfl) a0c)))) (a1J (a0D (a0k a0s (by rfl) B.isi boot_isi (a0a (pv 0) (a0a (a0y (v:=.ty "bool") (by rfl) B.bool boot_bool rfl) a0c))))))) (a0h (a0u (a1V (a0k a0s (by rfl) B.isi boot_isi (a0a (pv 1) (a0a (a0y (v:=.ty "bool") (by rfl) B.bool boot_bool rfl) a0c))) (a1V (a0k a0s (by rfl) B.isi boot_isi (a0a (pv 0) (a0a (a0y (v:=.ty "bool") (by rfl) B.bool boot_bool rfl) a0c))) (a2w (a1d a1o (pv 0) (pv 1) (a0t _))))))) a0l)
     a0j)),?_⟩
   refine⟨_,rfl,rfl,_,rfl,a2j (dF0 fun e=>by cases e) ?_⟩;refine⟨_,rfl,_,_,_,_,rfl,.inl (.bl _),kq (show a0V "bool" "bool"=some true by decide +kernel),_,rfl,?_⟩;refine a5p ?_;refine a5p ?_;refine⟨_,rfl,_,_,_,_,rfl,.inl (.bl _),kq (show a0V "bool" "bool"=some true by decide +kernel),_,rfl,?_⟩;refine a5p ?_;refine⟨_,rfl,_,_,_,_,rfl,.inl (.bl _),kq (show a0V "bool" "bool"=some true by decide +kernel),_,rfl,?_⟩;refine a5p ?_;refine⟨_,rfl,_,rfl,rfl,?_⟩;rw[dT0 rfl];exact q H (a0m.refl H)
  |int=>
   refine⟨_,(a0d (a0A (a0q a3t (pv 1) a1m (a0t _)) a0j a0l)
     (a0d (a0A (PW.pt (a2F (a0D (a0k a0s (by rfl) B.isi boot_isi (a0a (pv 1) (a0a (a0y (v:=.ty "bool") (by rfl) B.bool boot_bool rfl) a0c)))) (a1J (a0D (a0k a0s (by rfl) B.isi boot_isi (a0a (pv 0) (a0a (a0y (v:=.ty "bool") (by rfl) B.bool boot_bool rfl) a0c))))))) a0j a0l)
     (a0d (a0A (a0D (a0k a0s (by rfl) B.isi boot_isi (a0a (pv 1) (a0a (a0y (v:=.ty "int") (by rfl) B.int boot_int rfl) a0c)))) (a0h (a0u (a1V (a0k a0s (by rfl) B.isi boot_isi (a0a (pv 0) (a0a (a0y (v:=.ty "int") (by rfl) B.int boot_int rfl) a0c))) (a2w (a1d a1o (pv 0) (pv 1) (a0t _)))))) a0l)
     a0j))),?_⟩
   refine⟨_,rfl,rfl,_,rfl,a2j (dF0 fun e=>by cases e) ?_⟩;refine⟨_,rfl,_,_,_,_,rfl,.inl (.int _),kq (show a0V "int" "bool"=some false by decide +kernel),_,rfl,?_⟩;refine a2b ?_;refine⟨_,rfl,_,_,_,_,rfl,.inl (.int _),kq (show a0V "int" "bool"=some false by decide +kernel),_,rfl,?_⟩;refine a2b ?_;refine⟨_,rfl,_,_,_,_,rfl,.inl (.int _),kq (show a0V "int" "int"=some true by decide +kernel),_,rfl,?_⟩;refine a5p ?_;refine⟨_,rfl,_,_,_,_,rfl,.inl (.int _),kq (show a0V "int" "int"=some true by decide +kernel),_,rfl,?_⟩;refine a5p ?_;refine⟨_,rfl,_,rfl,rfl,?_⟩;rw[dT0 rfl];exact q H (a0m.refl H)
  |str=>
   refine⟨_,(a0d (a0A (a0q a3t (pv 1) a1m (a0t _)) a0j a0l)
     (a0d (a0A (PW.pt (a2F (a0D (a0k a0s (by rfl) B.isi boot_isi (a0a (pv 1) (a0a (a0y (v:=.ty "bool") (by rfl) B.bool boot_bool rfl) a0c)))) (a1J (a0D (a0k a0s (by rfl) B.isi boot_isi (a0a (pv 0) (a0a (a0y (v:=.ty "bool") (by rfl) B.bool boot_bool rfl) a0c))))))) a0j a0l)
     (a0d (a0A (a0D (a0k a0s (by rfl) B.isi boot_isi (a0a (pv 1) (a0a (a0y (v:=.ty "int") (by rfl) B.int boot_int rfl) a0c)))) a0j a0l)
     (a0d (a0A (a0D (a0k a0s (by rfl) B.isi boot_isi (a0a (pv 1) (a0a (a0y (v:=.ty "str") (by rfl) B.str boot_str rfl) a0c)))) (a0h (a0u (a1V (a0k a0s (by rfl) B.isi boot_isi (a0a (pv 0) (a0a (a0y (v:=.ty "str") (by rfl) B.str boot_str rfl) a0c))) (a2w (a1d a1o (pv 0) (pv 1) (a0t _)))))) a0l)
     a0j)))),?_⟩
   refine⟨_,rfl,rfl,_,rfl,a2j (dF0 fun e=>by cases e) ?_⟩;refine⟨_,rfl,_,_,_,_,rfl,.inl (.str _),kq (show a0V "str" "bool"=some false by decide +kernel),_,rfl,?_⟩;refine a2b ?_;refine⟨_,rfl,_,_,_,_,rfl,.inl (.str _),kq (show a0V "str" "bool"=some false by decide +kernel),_,rfl,?_⟩;refine a2b ?_;refine⟨_,rfl,_,_,_,_,rfl,.inl (.str _),kq (show a0V "str" "int"=some false by decide +kernel),_,rfl,?_⟩;refine a2b ?_;refine⟨_,rfl,_,_,_,_,rfl,.inl (.str _),kq (show a0V "str" "str"=some true by decide +kernel),_,rfl,?_⟩;refine a5p ?_;refine⟨_,rfl,_,_,_,_,rfl,.inl (.str _),kq (show a0V "str" "str"=some true by decide +kernel),_,rfl,?_⟩;refine a5p ?_;refine⟨_,rfl,_,rfl,rfl,?_⟩;rw[dT0 rfl];exact q H (a0m.refl H)
  |@tup m a b xs ys ha hb hlen hi=>
   have ihS:=ih m rfl;have hrS:a1r (m+1) _:=hr;refine⟨_,(a0d (a0A (a0q a3t (pv 1) a1m (a0t _)) a0j a0l)
     (a0d (a0A (PW.pt (a2F (a0D (a0k a0s (by rfl) B.isi boot_isi (a0a (pv 1) (a0a (a0y (v:=.ty "bool") (by rfl) B.bool boot_bool rfl) a0c)))) (a1J (a0D (a0k a0s (by rfl) B.isi boot_isi (a0a (pv 0) (a0a (a0y (v:=.ty "bool") (by rfl) B.bool boot_bool rfl) a0c))))))) a0j a0l)
     (a0d (a0A (a0D (a0k a0s (by rfl) B.isi boot_isi (a0a (pv 1) (a0a (a0y (v:=.ty "int") (by rfl) B.int boot_int rfl) a0c)))) a0j a0l)
     (a0d (a0A (a0D (a0k a0s (by rfl) B.isi boot_isi (a0a (pv 1) (a0a (a0y (v:=.ty "str") (by rfl) B.str boot_str rfl) a0c)))) a0j a0l)
     (a0d (a0A (a0D (a0k a0s (by rfl) B.isi boot_isi (a0a (pv 1) (a0a (a0y (v:=.ty "dict") (by rfl) B.dict boot_dict rfl) a0c)))) a0j a0l)
     (a0d (a0A (PW.pt (a2F (a0q a4p (a0k a0s (by rfl) B.isi boot_isi (a0a (pv 1) (a0a (a0y (v:=.ty "list") (by rfl) B.list boot_list rfl) a0c))) (a0k a0s (by rfl) B.isi boot_isi (a0a (pv 0) (a0a (a0y (v:=.ty "list") (by rfl) B.list boot_list rfl) a0c))) (a0t _)) (a1J (a0q a4p (a0k a0s (by rfl) B.isi boot_isi (a0a (pv 1) (a0a (a0y (v:=.ty "tuple") (by rfl) B.tuple boot_tuple rfl) a0c))) (a0k a0s (by rfl) B.isi boot_isi (a0a (pv 0) (a0a (a0y (v:=.ty "tuple") (by rfl) B.tuple boot_tuple rfl) a0c))) (a0t _))))) a0j a0l)
     (a0d (a0A (a0q a4p (a0k a0S (by rfl) B.len PySem.boot_len (a0a (pv 0) a0c)) (a0k a0S (by rfl) B.len PySem.boot_len (a0a (pv 1) a0c)) (a0t _)) a0j a0l)
     (a0d (a1W PassesOwn.never rfl (b2R (by rfl) hz (a0a (pv 0) (a0a (pv 1) a0c))) (a4j rfl (a0G (a0v (i:=3) sc.nd rfl (Or.inl rfl)) (a0G (a0v (i:=4) sc.nd rfl (Or.inl rfl)) a2g)))
      (a0h (a0A (a1j (a0D (a0i ihS hrS (by rfl) D.mg D.fn.kp bA .nil a0r (a0a (pv 3) (a0a (pv 4) a0c))))) a0j a0l)))
     (a0h (a0u a3w)))))))))),?_⟩
   refine⟨_,rfl,rfl,_,rfl,a2j (dF0 fun e=>by cases e) ?_⟩;refine⟨_,rfl,_,_,_,_,rfl,.inr ⟨_,_,rfl,hb,rfl⟩,kq (show a0V "tuple" "bool"=some false by decide +kernel),_,rfl,?_⟩;refine a2b ?_;refine⟨_,rfl,_,_,_,_,rfl,.inr ⟨_,_,rfl,ha,rfl⟩,kq (show a0V "tuple" "bool"=some false by decide +kernel),_,rfl,?_⟩;refine a2b ?_;refine⟨_,rfl,_,_,_,_,rfl,.inr ⟨_,_,rfl,hb,rfl⟩,kq (show a0V "tuple" "int"=some false by decide +kernel),_,rfl,?_⟩;refine a2b ?_;refine⟨_,rfl,_,_,_,_,rfl,.inr ⟨_,_,rfl,hb,rfl⟩,kq (show a0V "tuple" "str"=some false by decide +kernel),_,rfl,?_⟩;refine a2b ?_;refine⟨_,rfl,_,_,_,_,rfl,.inr ⟨_,_,rfl,hb,rfl⟩,kq (show a0V "tuple" "dict"=some false by decide +kernel),_,rfl,?_⟩;refine a2b ?_;refine⟨_,rfl,_,_,_,_,rfl,.inr ⟨_,_,rfl,hb,rfl⟩,kq (show a0V "tuple" "list"=some false by decide +kernel),_,rfl,_,_,_,_,rfl,.inr ⟨_,_,rfl,ha,rfl⟩,kq (show a0V "tuple" "list"=some false by decide +kernel),rfl,_,rfl,?_⟩;refine a6q rfl ?_;refine⟨_,rfl,_,_,_,_,rfl,.inr ⟨_,_,rfl,hb,rfl⟩,kq (show a0V "tuple" "tuple"=some true by decide +kernel),_,rfl,_,_,_,_,rfl,.inr ⟨_,_,rfl,ha,rfl⟩,kq (show a0V "tuple" "tuple"=some true by decide +kernel),rfl,_,rfl,?_⟩;refine a6q rfl ?_;refine⟨_,rfl,_,_,rfl,.inr (SqT.rd ha),_,rfl,_,_,rfl,.inr (SqT.rd hb),rfl,_,rfl,?_⟩;refine a6q (by rw[hlen]) ?_;refine⟨_,rfl,_,rfl,a,b,rfl,⟨_,SqT.rd ha⟩,⟨_,SqT.rd hb⟩,b0o (K:=K) (xs:=xs) (ys:=ys) (fun i σ H'=>a0m H H'/\∃(u v:Option V),σ=[some (.ref a),some (.ref b),none,u,v]) hlen ⟨a0m.refl H,_,_,rfl⟩ (fun i σ H' _ p=>⟨SqT.rd (ha.same p.1),SqT.rd (hb.same p.1)⟩) ?_ ?_⟩
   ·rintro i x y p σ H' hx hy ⟨s1,u,v,rfl⟩ hp
    refine⟨p,[x,y],rfl,SqT.of a0b,rfl,x,[y],rfl,y,[],rfl,rfl,?_⟩;have s2:=s1.trans (a0m.upd (o:=.tup [x,y]) hp);refine⟨_,rfl,_,rfl,x,y,rfl,(hi i x y hx hy).same s2,fun H2 s3=>⟨_,rfl,?_⟩⟩;refine a2b ?_;exact⟨s2.trans s3,_,_,rfl⟩
   ·rintro σ H' ⟨s1,u,v,rfl⟩
    exact q H' s1
  |@lst m a b xs ys ha hb hlen hi=>
   have ihS:=ih m rfl;have hrS:a1r (m+1) _:=hr;refine⟨_,(a0d (a0A (a0q a3t (pv 1) a1m (a0t _)) a0j a0l)
     (a0d (a0A (PW.pt (a2F (a0D (a0k a0s (by rfl) B.isi boot_isi (a0a (pv 1) (a0a (a0y (v:=.ty "bool") (by rfl) B.bool boot_bool rfl) a0c)))) (a1J (a0D (a0k a0s (by rfl) B.isi boot_isi (a0a (pv 0) (a0a (a0y (v:=.ty "bool") (by rfl) B.bool boot_bool rfl) a0c))))))) a0j a0l)
     (a0d (a0A (a0D (a0k a0s (by rfl) B.isi boot_isi (a0a (pv 1) (a0a (a0y (v:=.ty "int") (by rfl) B.int boot_int rfl) a0c)))) a0j a0l)
     (a0d (a0A (a0D (a0k a0s (by rfl) B.isi boot_isi (a0a (pv 1) (a0a (a0y (v:=.ty "str") (by rfl) B.str boot_str rfl) a0c)))) a0j a0l)
     (a0d (a0A (a0D (a0k a0s (by rfl) B.isi boot_isi (a0a (pv 1) (a0a (a0y (v:=.ty "dict") (by rfl) B.dict boot_dict rfl) a0c)))) a0j a0l)
     (a0d (a0A (PW.pt (a2F (a0q a4p (a0k a0s (by rfl) B.isi boot_isi (a0a (pv 1) (a0a (a0y (v:=.ty "list") (by rfl) B.list boot_list rfl) a0c))) (a0k a0s (by rfl) B.isi boot_isi (a0a (pv 0) (a0a (a0y (v:=.ty "list") (by rfl) B.list boot_list rfl) a0c))) (a0t _)) (a1J (a0q a4p (a0k a0s (by rfl) B.isi boot_isi (a0a (pv 1) (a0a (a0y (v:=.ty "tuple") (by rfl) B.tuple boot_tuple rfl) a0c))) (a0k a0s (by rfl) B.isi boot_isi (a0a (pv 0) (a0a (a0y (v:=.ty "tuple") (by rfl) B.tuple boot_tuple rfl) a0c))) (a0t _))))) a0j a0l)
     (a0d (a0A (a0q a4p (a0k a0S (by rfl) B.len PySem.boot_len (a0a (pv 0) a0c)) (a0k a0S (by rfl) B.len PySem.boot_len (a0a (pv 1) a0c)) (a0t _)) a0j a0l)
     (a0d (a1W PassesOwn.never rfl (b2m (by rfl) hz (a0a (pv 0) (a0a (pv 1) a0c))) (a4j rfl (a0G (a0v (i:=3) sc.nd rfl (Or.inl rfl)) (a0G (a0v (i:=4) sc.nd rfl (Or.inl rfl)) a2g)))
      (a0h (a0A (a1j (a0D (a0i ihS hrS (by rfl) D.mg D.fn.kp bA .nil a0r (a0a (pv 3) (a0a (pv 4) a0c))))) a0j a0l)))
     (a0h (a0u a3w)))))))))),?_⟩
   refine⟨_,rfl,rfl,_,rfl,a2j (dF0 fun e=>by cases e) ?_⟩;refine⟨_,rfl,_,_,_,_,rfl,.inl (.lst hb),kq (show a0V "list" "bool"=some false by decide +kernel),_,rfl,?_⟩;refine a2b ?_;refine⟨_,rfl,_,_,_,_,rfl,.inl (.lst ha),kq (show a0V "list" "bool"=some false by decide +kernel),_,rfl,?_⟩;refine a2b ?_;refine⟨_,rfl,_,_,_,_,rfl,.inl (.lst hb),kq (show a0V "list" "int"=some false by decide +kernel),_,rfl,?_⟩;refine a2b ?_;refine⟨_,rfl,_,_,_,_,rfl,.inl (.lst hb),kq (show a0V "list" "str"=some false by decide +kernel),_,rfl,?_⟩;refine a2b ?_;refine⟨_,rfl,_,_,_,_,rfl,.inl (.lst hb),kq (show a0V "list" "dict"=some false by decide +kernel),_,rfl,?_⟩;refine a2b ?_;refine⟨_,rfl,_,_,_,_,rfl,.inl (.lst hb),kq (show a0V "list" "list"=some true by decide +kernel),_,rfl,_,_,_,_,rfl,.inl (.lst ha),kq (show a0V "list" "list"=some true by decide +kernel),rfl,_,rfl,?_⟩;refine a6q rfl ?_;refine⟨_,rfl,_,_,_,_,rfl,.inl (.lst hb),kq (show a0V "list" "tuple"=some false by decide +kernel),_,rfl,_,_,_,_,rfl,.inl (.lst ha),kq (show a0V "list" "tuple"=some false by decide +kernel),rfl,_,rfl,?_⟩;refine a6q rfl ?_;refine⟨_,rfl,_,_,rfl,.inl (SqL.of ha),_,rfl,_,_,rfl,.inl (SqL.of hb),rfl,_,rfl,?_⟩;refine a6q (by rw[hlen]) ?_;refine⟨_,rfl,_,rfl,a,b,rfl,⟨_,SqL.of ha⟩,⟨_,SqL.of hb⟩,b0W (K:=K) (xs:=xs) (ys:=ys) (fun i σ H'=>a0m H H'/\∃(u v:Option V),σ=[some (.ref a),some (.ref b),none,u,v]) hlen ⟨a0m.refl H,_,_,rfl⟩ (fun i σ H' _ p=>⟨SqL.of (p.1 _ _ ha),SqL.of (p.1 _ _ hb)⟩) ?_ ?_⟩
   ·rintro i x y p σ H' hx hy ⟨s1,u,v,rfl⟩ hp
    refine⟨p,[x,y],rfl,SqT.of a0b,rfl,x,[y],rfl,y,[],rfl,rfl,?_⟩;have s2:=s1.trans (a0m.upd (o:=.tup [x,y]) hp);refine⟨_,rfl,_,rfl,x,y,rfl,(hi i x y hx hy).same s2,fun H2 s3=>⟨_,rfl,?_⟩⟩;refine a2b ?_;exact⟨s2.trans s3,_,_,rfl⟩
   ·rintro σ H' ⟨s1,u,v,rfl⟩
    exact q H' s1
  |@dct m a b kvs kws f ha hb hlen hf hg hi=>
   have ihS:=ih m rfl;have hrS:a1r (m+1) _:=hr;have hu:=a2E hr;refine⟨_,(a0d (a0A (a0q a3t (pv 1) a1m (a0t _)) a0j a0l)
     (a0d (a0A (PW.pt (a2F (a0D (a0k a2k (by rfl) B.isi boot_isi (a0a (pv 1) (a0a (a0y (v:=.ty "bool") (by rfl) B.bool boot_bool rfl) a0c)))) (a1J (a0D (a0k a2k (by rfl) B.isi boot_isi (a0a (pv 0) (a0a (a0y (v:=.ty "bool") (by rfl) B.bool boot_bool rfl) a0c))))))) a0j a0l)
     (a0d (a0A (a0D (a0k a2k (by rfl) B.isi boot_isi (a0a (pv 1) (a0a (a0y (v:=.ty "int") (by rfl) B.int boot_int rfl) a0c)))) a0j a0l)
     (a0d (a0A (a0D (a0k a2k (by rfl) B.isi boot_isi (a0a (pv 1) (a0a (a0y (v:=.ty "str") (by rfl) B.str boot_str rfl) a0c)))) a0j a0l)
     (a0d (a0A (a0D (a0k a2k (by rfl) B.isi boot_isi (a0a (pv 1) (a0a (a0y (v:=.ty "dict") (by rfl) B.dict boot_dict rfl) a0c)))) (a0d (a0A (PW.pt (a2F (a1j (a0D (a0k a2k (by rfl) B.isi boot_isi (a0a (pv 0) (a0a (a0y (v:=.ty "dict") (by rfl) B.dict boot_dict rfl) a0c))))) (a1J (a0q a4p (a0k a5s (by rfl) B.len PySem.boot_len (a0a (pv 0) a0c)) (a0k a5s (by rfl) B.len PySem.boot_len (a0a (pv 1) a0c)) (a0t _))))) a0j a0l)
      (a0d (b2q (a1W PassesOwn.never rfl (a9v (pv 1)) (a0v (i:=2) sc.nd rfl (Or.inl rfl))
       (a0h (a0A (PW.pt (a2F (b3x (a6j hu (pv 2) (pv 0))) (a1J (a1j (a0D (a0i ihS hrS (by rfl) D.mg D.fn.kp bA .nil a0r (a0a (a1F hu (pv 0) (pv 2) (fun _ _=>rfl)) (a0a (a1F hu (pv 1) (pv 2) (fun _ _=>rfl)) a0c)))))))) a0j a0l))))
      (a0h (a0u a3w)))) a0l)
     a0j))))),?_⟩
   refine⟨_,rfl,rfl,_,rfl,a2j (dF0 fun e=>by cases e) ?_⟩;refine⟨_,rfl,_,_,_,_,rfl,hb,kq (show a0V "dict" "bool"=some false by decide +kernel),_,rfl,?_⟩;refine a2b ?_;refine⟨_,rfl,_,_,_,_,rfl,ha,kq (show a0V "dict" "bool"=some false by decide +kernel),_,rfl,?_⟩;refine a2b ?_;refine⟨_,rfl,_,_,_,_,rfl,hb,kq (show a0V "dict" "int"=some false by decide +kernel),_,rfl,?_⟩;refine a2b ?_;refine⟨_,rfl,_,_,_,_,rfl,hb,kq (show a0V "dict" "str"=some false by decide +kernel),_,rfl,?_⟩;refine a2b ?_;refine⟨_,rfl,_,_,_,_,rfl,hb,kq (show a0V "dict" "dict"=some true by decide +kernel),_,rfl,?_⟩;refine a5p ?_;refine⟨_,rfl,_,_,_,_,rfl,ha,kq (show a0V "dict" "dict"=some true by decide +kernel),_,rfl,a2b ?_⟩;refine⟨_,rfl,a,kvs,rfl,ha,_,rfl,b,kws,rfl,hb,rfl,_,rfl,a6q (by rw[hlen]) ?_⟩;refine⟨b,kws,hb,fun o ho=>?_,fun ho o=>?_⟩
   ·refine⟨_,rfl,b,o,_,rfl,ho,a4S (a:=b) (o:=o) (kvs:=kws) (fun i σ H1=>a0m H H1/\∃u,σ=[some (.ref a),some (.ref b),u,none,none]) ⟨a0m.refl H,_,rfl⟩ (fun i σ H1 _ p=>p.1 _ _ ho) ?_ ?_⟩
    ·rintro i k v σ H1 hk ⟨s1,u,rfl⟩
     have hm:=gI0 hk;refine⟨_,rfl,_,rfl,a,_,rfl,.inl ⟨kvs,k,Rd.same s1 ha,rfl,(hf k v hm).symm⟩,_,rfl,a2b ?_⟩;refine⟨_,rfl,_,rfl,a,_,rfl,.inl ⟨kvs,k,Rd.same s1 ha,rfl,(hf k v hm).symm⟩,_,rfl,_,rfl,b,_,rfl,.inl ⟨kws,k,Rd.same s1 hb,rfl,(hg k v hm).symm⟩,_,_,rfl,(hi k v hm).same s1,fun H2 s2=>⟨_,rfl,a2b ?_⟩⟩;exact⟨s1.trans s2,_,rfl⟩
    ·rintro σ H1 ⟨s1,u,rfl⟩
     exact q H1 s1
   ·have e1:(upd H b (.frz o (.dK kws))) b=some (.frz o (.dK kws)):=a0b
    have ha1:Rd (upd H b (.frz o (.dK kws))) a (.dK kvs):=Rd.frz ho ha;have hb1:Rd (upd H b (.frz o (.dK kws))) b (.dK kws):=Rd.frz ho hb;have hi1:∀(k:Key) (v:V),(k,v)∈kws->Lq (upd H b (.frz o (.dK kws))) m (f k) v:=fun k v hm=>(hi k v hm).frz ho;have bk:∀{G:Hp},a0m (upd H b (.frz o (.dK kws))) G->a0m H (upd G b (.dK kws)):=fun {G} sg=>a6g ho sg;generalize upd H b (.frz o (.dK kws))=H0 at *;refine⟨_,rfl,b,o,_,rfl,e1,a4S (a:=b) (o:=o) (kvs:=kws) (fun i σ H1=>a0m H0 H1/\∃u,σ=[some (.ref a),some (.ref b),u,none,none]) ⟨a0m.refl H0,_,rfl⟩ (fun i σ H1 _ p=>p.1 _ _ e1) ?_ ?_⟩
    ·rintro i k v σ H1 hk ⟨s1,u,rfl⟩
     have hm:=gI0 hk;refine⟨_,rfl,_,rfl,a,_,rfl,.inl ⟨kvs,k,Rd.same s1 ha1,rfl,(hf k v hm).symm⟩,_,rfl,a2b ?_⟩;refine⟨_,rfl,_,rfl,a,_,rfl,.inl ⟨kvs,k,Rd.same s1 ha1,rfl,(hf k v hm).symm⟩,_,rfl,_,rfl,b,_,rfl,.inl ⟨kws,k,Rd.same s1 hb1,rfl,(hg k v hm).symm⟩,_,_,rfl,(hi1 k v hm).same s1,fun H2 s2=>⟨_,rfl,a2b ?_⟩⟩;exact⟨s1.trans s2,_,rfl⟩
    ·rintro σ H1 ⟨s1,u,rfl⟩
     exact⟨s1 _ _ e1,q _ (bk s1)⟩
theorem a6Z {f:Addr}{fd:FuncData}(D:Df K mg "_law_alike" (top 44) f fd)(B:Bl mg)(hz:mg "zip"=none):∀n:Nat,a0F P w K mg base CX0 (n+1) f fd ["_law_found","_law_due"] (b4P n)
 |0=>b4k D B hz 0 (fun m e=>by cases e)
 |n+1=>b4k D B hz (n+1) (fun m e=>by cases e;exact a6Z D B hz n)
end
end My
namespace L2
open PySem PySem.Spec PyProof.Rows
def cut (H0 H:Hp):Hp:=fun b=>match H0 b with |none=>H b |some _=>none
theorem a0n {H0 H:Hp}:a0m (cut H0 H) H:=fun b o e=>by
 unfold cut at e
 split at e
 ·exact e
 ·cases e
theorem a1w {H0 H:Hp}{b:Addr}{o:HO}(e:cut H0 H b=some o):H0 b=none:=by
 unfold cut at e
 split at e
 ·assumption
 ·cases e
theorem a0I {H0 H:Hp}{b:Addr}{o:HO}(h0:H0 b=none)(e:H b=some o):cut H0 H b=some o:=by
 unfold cut;rw[h0];exact e
theorem a3V {H0 H H':Hp}(s:a0m H H'):a0m (cut H0 H) (cut H0 H'):=fun b o e=>a0I (a1w e) (s _ _ (a0n _ _ e))
theorem a0B {H0 H1:Hp}{b:Addr}(s:a0m H0 H1)(h:H1 b=none):H0 b=none:=by
 cases e:H0 b with
 |none=>rfl
 |some o=>rw[s _ _ e] at h;cases h
theorem a8H {H H1:Hp}{r:Addr}{o:HO}(h:H r=none):cut H (upd H1 r o)=upd (cut H H1) r o:=by
 funext b
 by_cases e:b=r
 ·subst e
  rw[a0b,cut];rw[h];exact a0b
 ·rw[a0g e]
  unfold cut
  split
  ·rw[a0g e]
  ·rfl
theorem b2s {H H2:Hp}{a:Addr}{o o':HO}(h:H a=some o'):a0m (cut H H2) (cut H (upd H2 a o)):=fun b u e=>by
 have nb:b≠a:=fun e2=>by rw[e2,cut] at e;rw[h] at e;cases e
 exact a0I (a1w e) (by rw[a0g nb];exact a0n _ _ e)
end L2
namespace My
open PySem L2 PyProof.Rows
seal L2.PE L2.PT L2.PW L2.PS L2.PSs L2.PA L2.PI L2.PG L2.PGs L2.OpR L2.a1p L2.IxR L2.SlR L2.MtR L2.PIf L2.PO L2.MtM L2.PC L2.a6n
abbrev Rw:=List (Str×V)
abbrev Pc:=List (Str×List Rw)
def rK (row:Rw):List (Key×V):=row.map fun c=>(.inr c.1,c.2)
def b0b (H:Hp)(row:Rw):Prop:=((row.map (·.1)).Nodup/\row.length<=12)/\∀c∈row,flt c.2=true\/∃a xs,c.2=.ref a/\H a=some (.tup xs)
def a2u (H:Hp)(l:Addr)(rows:List Rw):Prop:=∃rs:List Addr,H l=some (.lst (rs.map V.ref))/\rs.length=rows.length/\∀(j:Nat) (r:Addr) (row:Rw),rs[j]? =some r->rows[j]? =some row->H r=some (.dK (rK row))
def zK (zs:List Str)(ls:List Addr):List (Key×V):=zs.zipWith (fun z v=>((Sum.inr z:Key),v)) (ls.map V.ref)
def a2x (H:Hp)(p:Addr)(pc:Pc):Prop:=∃ls:List Addr,H p=some (.dK (zK (pc.map (·.1)) ls))/\ls.length=pc.length/\∀(j:Nat) (l:Addr) (t:Str×List Rw),ls[j]? =some l->pc[j]? =some t->a2u H l t.2
def a7R (H:Hp)(l:Addr)(rows:List Rw):Prop:=∃rs:List Addr,H l=some (.lst (rs.map V.ref))/\rs.length=rows.length/\rs.Nodup/\∀(j:Nat) (r:Addr) (row:Rw),rs[j]? =some r->rows[j]? =some row->H r=some (.dK (rK row))
def a8b (H:Hp)(ow:Addr->Nat)(j:Nat)(l:Addr)(rows:List Rw):Prop:=∃rs:List Addr,H l=some (.lst (rs.map V.ref))/\rs.length=rows.length/\rs.Nodup/\(∀(j:Nat) (r:Addr) (row:Rw),rs[j]? =some r->rows[j]? =some row->H r=some (.dK (rK row)))/\∀r∈rs,ow r=j
def PcE (H:Hp)(p:Addr)(pc:Pc):Prop:=∃(ls:List Addr) (ow:Addr->Nat),H p=some (.dK (zK (pc.map (·.1)) ls))/\ls.length=pc.length/\∀(j:Nat) (l:Addr) (t:Str×List Rw),ls[j]? =some l->pc[j]? =some t->a8b H ow j l t.2
theorem a8b.same {H H':Hp}{ow:Addr->Nat}{j:Nat}{l:Addr}{rows:List Rw}(h:a8b H ow j l rows)(s:a0m H H'):a8b H' ow j l rows:=let ⟨rs,a,b,n,c,d⟩:=h;⟨rs,s _ _ a,b,n,fun j r row x y=>s _ _ (c j r row x y),d⟩
theorem PcE.same {H H':Hp}{p:Addr}{pc:Pc}(h:PcE H p pc)(s:a0m H H'):PcE H' p pc:=let ⟨ls,ow,a,b,c⟩:=h;⟨ls,ow,s _ _ a,b,fun j l t x y=>(c j l t x y).same s⟩
theorem a8b.d {H:Hp}{ow:Addr->Nat}{j:Nat}{l:Addr}{rows:List Rw}(h:a8b H ow j l rows):a7R H l rows:=let ⟨rs,a,b,n,c,_⟩:=h;⟨rs,a,b,n,c⟩
theorem a7R.same {H H':Hp}{l:Addr}{rows:List Rw}(h:a7R H l rows)(s:a0m H H'):a7R H' l rows:=let ⟨rs,a,b,n,c⟩:=h;⟨rs,s _ _ a,b,n,fun j r row x y=>s _ _ (c j r row x y)⟩
theorem a7R.rows {H:Hp}{l:Addr}{rows:List Rw}(h:a7R H l rows):a2u H l rows:=let ⟨rs,a,b,_,c⟩:=h;⟨rs,a,b,c⟩
structure a6x (H:Hp) (pc:Pc):Prop where
 nd:(pc.map (·.1)).Nodup
 le:pc.length<=8
 rl:∀t∈pc,t.2.length<=1000
 rw_:∀t∈pc,∀row∈t.2,b0b H row
theorem a2u.same {H H':Hp}{l:Addr}{rows:List Rw}(h:a2u H l rows)(s:a0m H H'):a2u H' l rows:=let ⟨rs,a,b,c⟩:=h;⟨rs,s _ _ a,b,fun j r row x y=>s _ _ (c j r row x y)⟩
theorem a2x.same {H H':Hp}{p:Addr}{pc:Pc}(h:a2x H p pc)(s:a0m H H'):a2x H' p pc:=let ⟨ls,a,b,c⟩:=h;⟨ls,s _ _ a,b,fun j l t x y=>(c j l t x y).same s⟩
theorem a6M {H:Hp}{row:Rw}(ok:b0b H row){k:Key}{a:Addr}(ha:∀xs,H a≠some (.tup xs)):(k,V.ref a)∉rK row:=fun h=>by
 obtain⟨c,hc,e⟩:=mM0.mp h
 injection e with _ e2
 rcases ok.2 c hc with h |⟨b,xs,h1,h2⟩
 ·rw[e2] at h
  cases h
 ·rw[e2] at h1
  injection h1 with h1
  exact ha xs (h1▸h2)
theorem b1l {zs:List Str}{ls:List Addr}{j:Nat}{z:Str}{l:Addr}(h1:zs[j]? =some z)(h2:ls[j]? =some l):((.inr z:Key),V.ref l)∈zK zs ls:=by
 refine gI0 (i:=j) ?_;unfold zK;rw[a5T,h1,gM0,h2]
 rfl
theorem a9f {zs:List Str}{ls:List Addr}{j:Nat}{k:Key}{v:V}(h:(zK zs ls)[j]? =some (k,v)):∃z l,zs[j]? =some z/\ls[j]? =some l/\k=.inr z/\v=.ref l:=by
 unfold zK at h;rw[a5T,gM0] at h;cases h1:zs[j]? with
 |none=>rw[h1] at h;cases h
 |some z=>
  cases h2:ls[j]? with
  |none=>rw[h1,h2] at h;cases h
  |some l=>
   rw[h1,h2] at h;cases h;exact⟨z,l,rfl,rfl,rfl,rfl⟩
theorem a5v {zs:List Str}{ls:List Addr}(h:ls.length=zs.length):(zK zs ls).length=zs.length:=by
 unfold zK;exact b4l (by rw[lM0];exact h)
theorem a6p {zs:List Str}{ls:List Addr}{z:Str}{l:Addr}(h:ls.length=zs.length):zK (zs++[z]) (ls++[l])=zK zs ls++[(.inr z,.ref l)]:=by
 unfold zK;rw[mA0,List.zipWith_append (by rw[lM0];exact h.symm)]
 rfl
theorem a6V {zs:List Str}{ls:List Addr}{z:Str}(h:z∉zs):a1K (zK zs ls) (.inr z)=none:=by
 unfold a1K;rw[List.find?_eq_none.mpr fun x hx=>?_]
 ·rfl
 ·obtain⟨k,v⟩:=x
  obtain⟨i,y,h1,h2,e⟩:=b4m hx;intro hd;have e2:=of_decide_eq_true hd;rw[e] at e2
  injection e2 with e2
  exact h (by rw[<-e2];exact gI0 h1)
theorem a2x.apart {H:Hp}{p:Addr}{pc:Pc}(ok:a6x H pc){ls:List Addr}(hp:H p=some (.dK (zK (pc.map (·.1)) ls)))(hl:ls.length=pc.length){j:Nat}{l:Addr}{t:Str×List Rw}(h1:ls[j]? =some l)(h2:pc[j]? =some t)(hr:a2u H l t.2) :
  l≠p/\∀(r:Addr) (row:Rw),row∈t.2->H r=some (.dK (rK row))->r≠p:=by
 obtain⟨rs,a1,_⟩:=hr;refine⟨(fun e=>by rw[e,hp] at a1;cases a1),fun r row hrow hrr e=>?_⟩;rw[e,hp] at hrr
 injection hrr with e1
 injection e1 with e2
 have hm:((.inr t.1:Key),V.ref l)∈zK (pc.map (·.1)) ls:=b1l (j:=j) (by rw[gM0,h2];rfl) h1;rw[e2] at hm;exact a6M (ok.rw_ t (gI0 h2) row hrow) (fun xs h=>by rw[a1] at h;cases h) hm
def a4M:Sp:=fun vs H Q _=>∃(p:Addr) (pc:Pc),vs=[.ref p]/\a2x H p pc/\a6x H pc/\∀p' H',a0m H H'->PcE (cut H H') p' pc->Q (.ref p') H'
section
variable {P:Program}{w:World}{K:Fg0}{mg:Str->Option Value}{base:Heap}
theorem a5B {f:Addr}{fd:FuncData}(F:Fun K "copied" "copied" (top 31) f fd)(B:Bl mg):a0F P w K mg base CX0 1 f fd ["piece"] a4M:=by
 have sc:a0o ["piece","fresh","table","rows"] ["piece"] (a0f (top 31)):=.k (by decide +kernel);refine F.ok sc (fun vs H Q E h=>?_) (fun cdv A outer s H vs Q E hr h=>?_)
 ·obtain⟨p,pc,rfl,_⟩:=h
  rfl
 ·obtain⟨p,pc,rfl,hpc,ok,q⟩:=h
  have hu:=a2E hr;refine⟨_,a0d (a0E (i:=1) sc.nd rfl (Or.inl rfl) a3z) (a0d (a7a (a1W PassesOwn.never rfl (a7C (pv 0)) (a4j rfl (a0G (a0v (i:=2) sc.nd rfl (Or.inl rfl)) (a0G (a0v (i:=3) sc.nd rfl (Or.inl rfl)) a2g)))
    (a0h (a1y hu (pv 1) (pv 2) (a1Z (osc:=a0f (top 31)) (N0:=["piece","fresh","table","rows"]) (xs:=["row"]) (fr:=[]) ⟨rfl,by decide +kernel,by decide +kernel,by decide +kernel,by decide,by decide +kernel⟩ rfl rfl rfl (a1C (pv 3))
     (fun s H fp=>a0v (i:=0) (show(["row"]:List Str).Nodup by decide +kernel) rfl (Or.inl rfl)) (fun s H fp=>a1E) (fun s H fp=>a1k a5L (by rfl) B.dict boot_dict (a0a (pv 0) a0c))) rfl)))) (a0h (a0u (pv 1)))),?_⟩
  obtain⟨ls,hp,hll,hls⟩:=hpc;refine fun fr hfr=>⟨p,_,(a0m.upd hfr) _ _ hp,fun o=>?_⟩;have np:p≠fr:=fun e=>by rw[<-e,hp] at hfr;cases hfr
  have S0:a0m H (upd H fr (.dK [])):=a0m.upd hfr;have d0:(upd H fr (.dK [])) fr=some (.dK []):=a0b;generalize upd H fr (.dK [])=H1 at *;have hfa:(upd H1 p (.frz o (.dK (zK (pc.map (·.1)) ls)))) p=some (.frz o (.dK (zK (pc.map (·.1)) ls))):=a0b;have hb0:a0m H (upd (upd H1 p (.frz o (.dK (zK (pc.map (·.1)) ls)))) p (.dK (zK (pc.map (·.1)) ls))):=S0.trans (a6g (S0 _ _ hp) (a0m.refl _));have d1:(upd H1 p (.frz o (.dK (zK (pc.map (·.1)) ls)))) fr=some (.dK []):=by rw[a0g np.symm];exact d0
  generalize upd H1 p (.frz o (.dK (zK (pc.map (·.1)) ls)))=H2 at *;have kl:(zK (pc.map (·.1)) ls).length=pc.length:=by rw[a5v (by rw[lM0];exact hll),lM0]
  refine⟨_,rfl,p,o,_,rfl,hfa,a5M (a:=p) (o:=o) (kvs:=zK (pc.map (·.1)) ls) (fun i σ H3=>H3 p=some (.frz o (.dK (zK (pc.map (·.1)) ls)))/\a0m H (upd H3 p (.dK (zK (pc.map (·.1)) ls)))/\∃u2 u3,σ=[some (.ref p),some (.ref fr),u2,u3]/\PcE (cut H H3) fr (pc.take i))
   ⟨hfa,hb0,_,_,rfl,[],(fun _=>0),a0I hfr d1,rfl,fun j l t h=>nomatch h⟩ (fun i σ H3 _ p=>p.1) ?_ ?_⟩
  ·rintro i k v p1 σ H3 hk ⟨h3p,sm,u2,u3,rfl,ls',ow,f1,f2,f3⟩ hp1
   have hi:i<pc.length:=by
    have:=(gS0.mp hk).1
    omega
   obtain⟨z,l,hz,hl,rfl,rfl⟩:=a9f hk;have hil:i<ls.length:=by omega
   rw[gM0,gE0 hi] at hz;cases hz;rw[gE0 hil] at hl;cases hl;have hR:=hls i ls[i] pc[i] (gE0 hil) (gE0 hi);obtain⟨nl,nr⟩:=a2x.apart ok hp hll (gE0 hil) (gE0 hi) hR;obtain⟨rs,a1,a2,a3⟩:=id hR;have okt:=ok.rl pc[i] (gQ0 hi);have T1:=a0m.upd (o:=.tup [kV (.inr pc[i].1),.ref ls[i]]) hp1;refine⟨p1,_,rfl,SqT.of a0b,rfl,_,_,rfl,_,_,rfl,rfl,?_⟩;generalize upd H3 p1 (.tup [kV (.inr pc[i].1),.ref ls[i]])=H4 at T1;have back:∀{b:Addr} {ob:HO},b≠p->H b=some ob->H4 b=some ob:=fun {b ob} nb e=>by
    have:=sm b ob e
    rw[a0g nb] at this;exact T1 _ _ this
   have l4:=back nl a1;refine⟨_,rfl,ls[i],rfl,⟨_,SqL.of l4⟩,fun D hD=>?_⟩;have nH:∀{b:Addr},H4 b=none->H b=none:=fun {b} e=>by
    by_cases nb:b=p
    ·rw[nb,T1 _ _ h3p] at e;cases e
    ·cases e2:H b with
     |none=>rfl
     |some ob=>rw[back nb e2] at e;cases e
   refine a1M rs.length (fun i' ys σ' Hc=>(∃t,σ'=[t])/\a0m H4 Hc/\∃qs:List Addr,ys=qs.map V.ref/\qs.Nodup/\∀(j:Nat) (r:Addr) (row:Rw),qs[j]? =some r->pc[i].2[j]? =some row->(H r=none/\H4 r=none)/\r≠D/\r≠fr/\Hc r=some (.dK (rK row))) (by rw[sizeLine_eq];omega) ⟨⟨none,rfl⟩,a0m.upd hD,[],rfl,List.nodup_nil,fun j r row h=>nomatch h⟩ a0b ?_ ?_
   ·rintro i' σ' Hc ys hi' ⟨⟨u,rfl⟩,sc',qs,rfl,qnd,hqs⟩ hyl hD'
    rw[lM0] at hyl;have hrow:i'<pc[i].2.length:=by omega
    refine⟨⟨_,V.ref rs[i'],SqL.of (sc' _ _ l4),by rw[gM0,gE0 hi'];rfl⟩,?_⟩;rintro x H' ⟨rfl,hx'⟩;have ex:=hx' _ (SqL.of (sc' _ _ l4));rw[gM0,gE0 hi'] at ex;cases ex;have r0:=a3 i' rs[i'] pc[i].2[i'] (gE0 hi') (gE0 hrow);have r4:=back (nr _ _ (gQ0 hrow) r0) r0;refine⟨_,rfl,rs[i'],_,rfl,.inl (sc' _ _ r4),fun r' hr'=>?_⟩;have T2:=a0m.upd (o:=.dK (rK pc[i].2[i'])) hr';have rD:r'≠D:=fun e=>by rw[e,hD'] at hr';cases hr'
    refine⟨T2 _ _ hD',⟨_,rfl⟩,(sc'.trans T2).put hD,qs++[r'],by rw[mA0];rfl,(by
     rw[List.nodup_append];refine⟨qnd,List.nodup_cons.mpr ⟨List.not_mem_nil,List.nodup_nil⟩,fun x hx y hy e=>?_⟩;rw[mS0.mp hy] at e;obtain⟨j,hj⟩:=List.getElem?_of_mem hx;have hjl:j<pc[i].2.length:=by have:=(gS0.mp hj).1;omega
     have:=(hqs j x _ hj (gE0 hjl)).2.2.2
     rw[e,hr'] at this;cases this),fun j r row h1 h2=>?_⟩
    by_cases hj:j<qs.length
    ·rw[gL0 hj] at h1
     obtain⟨e1,e2,e4,e3⟩:=hqs j r row h1 h2;exact⟨e1,e2,e4,by rw[a0g e2];exact T2 _ _ e3⟩
    ·have hj':j=qs.length:=by
      have:=(gS0.mp h1).1
      rw[lA0] at this;simp at this
      omega
     subst hj';rw[gR0 (nR0 _),Nat.sub_self] at h1;cases h1;rw[hyl,gE0 hrow] at h2;cases h2;exact⟨⟨nH (a0B sc' hr'),a0B sc' hr'⟩,rD,(fun e=>by rw[e,(T1.trans sc') _ _ (a0n _ _ f1)] at hr';cases hr'),by rw[a0g rD];exact a0b⟩
   ·rintro σ' Hc ys ⟨_,sc',qs,rfl,qnd,hqs⟩ hDn hyl
    rw[lM0] at hyl;have f1c:=(T1.trans sc') _ _ (a0n _ _ f1);have lt':ls'.length=i:=by rw[f2,List.length_take];omega
    refine⟨⟨_,SqL.of (sc' _ _ l4),by rw[lM0];exact nR0 _⟩,_,rfl,_,rfl,fr,_,rfl,.inl ⟨_,.inr pc[i].1,f1c,rfl,(by rw[a5v (by rw[lM0];exact f2),lM0,List.length_take,sizeLine_eq];have:=ok.le;omega),rfl⟩,?_⟩;have hnew:pc[i].1∉(pc.take i).map (·.1):=fun hm=>by
     have nd:=ok.nd;have e:pc.map (·.1)=(pc.take i).map (·.1)++(pc.drop i).map (·.1):=by rw[<-mA0,List.take_append_drop]
     rw[e,List.nodup_append] at nd;refine nd.2.2 _ hm pc[i].1 ?_ rfl;rw[List.drop_eq_getElem_cons hi,mN0];exact List.mem_cons_self
    rw[a2e _ (a6V hnew),<-a6p (by rw[lM0];exact f2)];have nDf:D≠fr:=fun e=>by rw[e,T1 _ _ (a0n _ _ f1)] at hD;cases hD
    refine⟨by rw[a0g np];exact(T1.trans sc') _ _ h3p,fun b ob hb=>?_,_,_,rfl,ls'++[D],(fun b=>if b∈qs then i else ow b),a0I hfr ?_,?_,fun j l t h1 h2=>?_⟩
    ·by_cases e:b=p
     ·subst e
      rw[a0b];rw[hp] at hb;exact hb
     ·rw[a0g e,a0g (a0C hb hfr)]
      exact sc' _ _ (back e hb)
    ·rw[a0b,List.take_succ,gE0 hi,mA0]
     rfl
    ·rw[lA0,lt',List.length_take]
     show i+1=_
     omega
    ·by_cases hj:j<i
     ·rw[gL0 (by omega)] at h1
      have h2':(pc.take i)[j]? =some t:=by
       rw[List.getElem?_take] at h2 ⊢;rw[if_pos (by omega)] at h2 ⊢;exact h2
      obtain⟨qs',b1,b2,bn,b3,bo⟩:=f3 j l t h1 h2';have g:=a3V (H0:=H) (T1.trans sc');have nlf:l≠fr:=fun e=>by rw[e,f1] at b1;cases b1
      refine⟨qs',?_,b2,bn,fun j' r row c1 c2=>?_,fun r hr=>?_⟩
      ·rw[a8H hfr,a0g nlf]
       exact g _ _ b1
      ·have b4:=b3 j' r row c1 c2
       have htp:t∈pc:=by
        rw[List.getElem?_take,if_pos hj] at h2';exact gI0 h2'
       have nrf:r≠fr:=fun e=>by
        rw[e,f1] at b4
        injection b4 with e1
        injection e1 with e2
        have hm:((.inr t.1:Key),V.ref l)∈zK ((pc.take i).map (·.1)) ls':=b1l (j:=j) (by rw[gM0,h2'];rfl) h1;rw[e2] at hm;exact a6M (ok.rw_ t htp row (gI0 c2)) (fun xs h=>by rw[a1w b1] at h;cases h) hm
       rw[a8H hfr,a0g nrf];exact g _ _ b4
      ·have nq:r∉qs:=fun hq=>by
        obtain⟨n1,hn1⟩:=List.getElem?_of_mem hq;have hl1:n1<pc[i].2.length:=by have:=(gS0.mp hn1).1;omega
        have z1:=(hqs n1 r _ hn1 (gE0 hl1)).1.2;obtain⟨n2,hn2⟩:=List.getElem?_of_mem hr;have hl2:n2<t.2.length:=by have:=(gS0.mp hn2).1;omega
        have z2:=T1 _ _ (a0n _ _ (b3 n2 r _ hn2 (gE0 hl2)));rw[z1] at z2;cases z2
       show(if r∈qs then i else ow r)=j
       rw[if_neg nq];exact bo r hr
     ·have hj':j=i:=by
       have:=(gS0.mp h1).1
       rw[lA0,lt'] at this;simp at this
       omega
      subst hj';rw[gR0 (by omega),lt',Nat.sub_self] at h1;cases h1;rw[List.getElem?_take,if_pos (by omega),gE0 hi] at h2;cases h2;refine⟨qs,a0I (nH hD) (by rw[a0g nDf];exact hDn),by omega,qnd,(fun j' r row c1 c2=>?_),fun r hr=>if_pos hr⟩;obtain⟨e1,e2,nrf,e3⟩:=hqs j' r row c1 c2;exact a0I e1.1 (by rw[a0g nrf];exact e3)
  ·rintro σ H3 ⟨h3p,sm,u2,u3,rfl,hfin⟩
   rw[kl,List.take_length] at hfin;exact⟨h3p,_,rfl,q fr _ sm (hfin.same (b2s hp))⟩
end
end My
namespace L2
open PySem PySem.Spec PyProof.Rows
theorem b4o {H:Hp}{l:Addr}:a0m (del H l) H:=fun b o e=>by
 have hb:b≠l:=fun z=>by rw[z,a3C] at e;cases e
 rwa [a2G hb] at e
theorem b3n {H H':Hp}{l:Addr}{o:HO}(s:a0m H H'):a0m (del H l) (del (upd H' l o) l):=fun b u e=>by
 have hb:b≠l:=fun z=>by rw[z,a3C] at e;cases e
 rw[a2G hb] at e;rw[a2G hb,a0g hb];exact s _ _ e
end L2
namespace My
open PySem L2 PyProof.Rows
seal L2.PE L2.PT L2.PW L2.PS L2.PSs L2.PA L2.PI L2.PG L2.PGs L2.OpR L2.a1p L2.IxR L2.SlR L2.MtR L2.PIf L2.PO L2.MtM L2.PC L2.a6n
theorem a5G:∀{l:List Str} {p:Str},(p::l).Pairwise (fun a b=>leS a b=true)->PyProof.Rows.risingS p l=true
 |[],p,_=>rfl
 |x::r,p,h=>by
  unfold PyProof.Rows.risingS;rw[Bool.and_eq_true];have h1:=(List.pairwise_cons.mp h).1 x List.mem_cons_self;unfold leS at h1;rw[PyProof.Rows.le_meets] at h1;exact⟨h1,a5G (List.pairwise_cons.mp h).2⟩
theorem a6y {zs:List Str}(h:a6L zs):sortedS zs=true:=by
 have h':zs.Pairwise fun a b=>leS a b=true:=h.imp fun hab=>by
  unfold leS;rw[dF0 hab]
  rfl
 cases zs with
 |nil=>rfl
 |cons x r=>exact a5G h'
theorem a6F {zs:List Str}(h:sortedS zs=true):a6L zs:=(a2L h).imp fun hab q=>by
 unfold leS at hab;rw[dT0 q] at hab;cases hab
theorem b1E {cols:List (Str×V)}(nd:(cols.map (·.1)).Nodup){i:Nat}{c:Str×V}(h:cols[i]? =some c):vOf cols c.1=c.2:=by
 induction cols generalizing i with
 |nil=>cases h
 |cons a r ih=>
  rw[mN0,List.nodup_cons] at nd;cases i with
  |zero=>
   cases h;unfold vOf kvC;rw[mN0,a1g rfl]
   rfl
  |succ i=>
   have hm:c∈r:=gI0 (i:=i) h;have hne:a.1≠c.1:=fun e=>nd.1 (by rw[e];exact mM0.mpr ⟨c,hm,rfl⟩)
   have:=ih nd.2 (i:=i) h
   unfold vOf kvC at this ⊢;rw[mN0,a1B (fun e=>hne (by injection e))];exact this
theorem a8B {l:List Str}{ix:List Nat}{n:Nat}(hp:ix.Perm (List.range n))(hn:n=l.length):(ix.map fun i=>l.getD i ("":Str)).Perm l:=by
 refine(hp.map _).trans (List.Perm.of_eq ?_);subst hn;refine List.ext_getElem (by simp) fun i h1 h2=>?_;simp only[List.getElem_map,List.getElem_range,List.getD_eq_getElem?_getD,gE0 h2]
 rfl
theorem a7E {H:Hp}{ct:Addr}{o:Obj}{as:List Addr}{ix:List Nat}{cols:List (Str×V)}(nd:(cols.map (·.1)).Nodup)(ho:o.dict=none)(hl:as.length=cols.length)(pm:ix.Perm (List.range as.length))(rs:a6L (ix.map fun i=>(cols.map (·.1)).getD i ("":Str)))(hc:H ct=some (.frz o (.tup ((ix.map fun i=>as.getD i 0).map V.ref))))
  (g:∀(i:Nat) (a:Addr) (c:Str×V),as[i]? =some a->cols[i]? =some c->H a=some (.tup [.str c.1,c.2])):a1z H ct cols:=by
 refine⟨o,_,_,a8B pm (by rw[lM0];exact hl),a6y rs,ho,hc,by rw[lM0,lM0],fun j p z h1 h2=>?_⟩;rw[gM0] at h1 h2;cases e:ix[j]? with
 |none=>rw[e] at h1;cases h1
 |some i=>
  rw[e] at h1 h2;have hi:i<as.length:=List.mem_range.mp (pm.mem_iff.mp (gI0 e));have hi2:i<cols.length:=by omega
  have e1:as[i]? =some p:=by
   rw[<-h1];show as[i]? =some (as.getD i 0);rw[List.getD_eq_getElem?_getD,gE0 hi]
   rfl
  have e2:z=cols[i].1:=by
   have h3:some ((cols.map (·.1)).getD i ("":Str))=some z:=h2;rw[List.getD_eq_getElem?_getD,gM0,gE0 hi2] at h3;exact(Option.some.inj h3).symm
  have h4:=g i p cols[i] e1 (gE0 hi2);rw[e2,b1E nd (gE0 hi2)];exact h4
theorem a5Q {α:Type}{f:α->Str}{g:α->V}{l:List α}(nd:(l.map f).Nodup){t:α}(h:t∈l):a1K (l.map fun t=>((Sum.inr (f t):Key),g t)) (.inr (f t))=some (g t):=by
 induction l with
 |nil=>cases h
 |cons a r ih=>
  rw[mN0,List.nodup_cons] at nd;rw[mN0];rcases mK0.mp h with rfl |h
  ·exact a1g rfl
  ·rw[a1B (fun e=>nd.1 (by
    have e2:f a=f t:=by injection e
    rw[e2];exact mM0.mpr ⟨t,h,rfl⟩))]
   exact ih nd.2 h
theorem a5O {α:Type}{f:α->Str}{l:List α}(nd:(l.map f).Nodup):l.Nodup:=by
 rw[List.nodup_iff_pairwise_ne] at nd ⊢;rw[List.pairwise_map] at nd;exact nd.imp fun h e=>h (by rw[e])
theorem b1O {α:Type}{f:α->Str}{l:List α}(nd:(l.map f).Nodup){a b:α}(ha:a∈l)(hb:b∈l)(e:f a=f b):a=b:=by
 induction l with
 |nil=>cases ha
 |cons x r ih=>
  rw[mN0,List.nodup_cons] at nd;rcases mK0.mp ha with h1 |h1
  ·rcases mK0.mp hb with h2 |h2
   ·rw[h1,h2]
   ·exact absurd (mM0.mpr ⟨b,h2,by rw[<-e,h1]⟩) nd.1
  ·rcases mK0.mp hb with h2 |h2
   ·exact absurd (mM0.mpr ⟨a,h1,by rw[e,h2]⟩) nd.1
   ·exact ih nd.2 h1 h2
structure Sd where
 n:Str
 so:Str
 t:Addr
 d:Addr
 c:List (Str×V)
def Sd.tb (x:Sd):Tb:=⟨x.n,x.so,x.c⟩
structure TbD (H:Hp) (d:Addr) (c:List (Str×V)):Prop where
 at_:H d=some (.dK (kvC c))
 nd:(c.map (·.1)).Nodup
 le:c.length<=12
theorem TbD.same {H H':Hp}{d:Addr}{c:List (Str×V)}(h:TbD H d c)(s:a0m H H'):TbD H' d c:=⟨s _ _ h.at_,h.nd,h.le⟩
def b3E:Sp:=fun vs H Q _=>∃(z:Int) (n0:Str) (cd sd:Addr) (c0:List (Str×V)) (S:List Sd),vs=[.int z,.str n0,.ref cd,.ref sd]/\TbD H cd c0/\H sd=some (.dK (S.map fun x=>(.inr x.n,.ref x.t)))/\(S.map (·.n)).Nodup/\S.length<=7 ∧
 (∀x∈S,H x.t=some (.tup [.str x.so,.ref x.d])/\TbD H x.d x.c) ∧
 ∀fm Us H',a0m H H'->a0W H' fm z (⟨n0,"head",c0⟩::Us)->Us.Perm (S.map Sd.tb)->a6L (Us.map (·.name))->Q (.ref fm) H'
section
variable {P:Program}{w:World}{K:Fg0}{mg:Str->Option Value}{base:Heap}
theorem b4D {f:Addr}{fd:FuncData}(F:Fun K "_law_form" "_law_form" (top 45) f fd)(B:Bl mg):a0F P w K mg base CX0 1 f fd ["_law_size","_law_head","_law_columns_here","_law_sides"] b3E:=by
 have sc:a0o ["_law_size","_law_head","_law_columns_here","_law_sides","_law_tables","_law_name","_law_sort","_law_own"] ["_law_size","_law_head","_law_columns_here","_law_sides"] (a0f (top 45)):=.k (by decide +kernel);refine F.ok sc (fun vs H Q E h=>?_) (fun cdv A outer s H vs Q E hr h=>?_)
 ·obtain⟨z,n0,cd,sd,c0,S,rfl,_⟩:=h
  rfl
 ·obtain⟨z,n0,cd,sd,c0,S,rfl,hcd,hsd,nS,l7,hS,q⟩:=h
  have hu:=a2E hr;refine⟨_,a0d (a0E (i:=4) sc.nd rfl (Or.inl rfl) (a1R (a0a (a0M (a0a (pv 1) (a0a a0H (a0a (a1k a2V (by rfl) B.tuple boot_tuple (a0a (a0k (a3f rfl) (by rfl) B.sorted boot_sorted (a0a (a6Y PySem.F.plainAttrs_dict PySem.F.slot_dict_items PySem.F.type_dict_items a6T (pv 2)) a0c)) a0c)) a0c)))) a0c)))
   (a0d (a1W PassesOwn.never rfl (a1C (a0k (a3o rfl) (by rfl) B.sorted boot_sorted (a0a (pv 3) a0c))) (a0v (i:=5) sc.nd rfl (Or.inl rfl))
    (a0d (b1h (a1F hu (pv 3) (pv 5) (fun _ _=>rfl)) (a4j rfl (a0G (a0v (i:=6) sc.nd rfl (Or.inl rfl)) (a0G (a0v (i:=7) sc.nd rfl (Or.inl rfl)) a2g))))
    (a0h (a1t (a8X PySem.F.plainAttrs_list PySem.F.slot_list_append PySem.F.type_list_append a8P (pv 4) (a0a (a0M (a0a (pv 5) (a0a (pv 6) (a0a (a1k a2V (by rfl) B.tuple boot_tuple (a0a (a0k (a3f rfl) (by rfl) B.sorted boot_sorted (a0a (a6Y PySem.F.plainAttrs_dict PySem.F.slot_dict_items PySem.F.type_dict_items a6T (pv 7)) a0c)) a0c)) a0c)))) a0c))))))
   (a0h (a0u (a0M (a0a (pv 0) (a0a (a1k a1T (by rfl) B.tuple boot_tuple (a0a (pv 4) a0c)) a0c)))))),?_⟩
  have kvz:∀c:List (Str×V),(kvC c).map (·.1)=(c.map (·.1)).map Sum.inr:=fun c=>by
   unfold kvC;rw[mC0,mC0]
   rfl
  have kvl:∀c:List (Str×V),(kvC c).length=c.length:=fun c=>by unfold kvC;rw[lM0]
  have kvg:∀(c:List (Str×V)) (i:Nat) (x:Str×V),c[i]? =some x->(kvC c)[i]? =some (.inr x.1,x.2):=fun c i x h=>by
   unfold kvC;rw[gM0,h]
   rfl
  refine⟨_,rfl,_,rfl,.inr (.inr (.inl ⟨rfl,.inl ⟨_,hcd.at_⟩⟩)),cd,_,rfl,rfl,.inl hcd.at_,fun pw hpw=>?_⟩;have T1:=a0m.upd (o:=.ext (vwP pw cd)) hpw;refine⟨pw,cd,_,c0.map (·.1),rfl,a0b,.inl (T1 _ _ hcd.at_),kvz c0,hcd.nd,by rw[lM0];have:=hcd.le;omega,fun sl as ix H5 m1 m2 m3 nd len5 s5 g5 pm rise el=>?_⟩;refine⟨sl,_,rfl,SqL.of el,fun ct o hct ho=>⟨(show 3<=sizeLine by decide),fun e0 he0=>⟨(show 1<=sizeLine by decide),fun l hl=>?_⟩⟩⟩;have T6:=a0m.upd (o:=.frz o (.tup ((ix.map fun i=>as.getD i 0).map V.ref))) hct;have T7:=a0m.upd (o:=.tup [.str n0,.str "head",.ref ct]) he0;have T8:=a0m.upd (o:=.lst [.ref e0]) hl;have a6:=a0b (H:=H5) (a:=ct) (o:=.frz o (.tup ((ix.map fun i=>as.getD i 0).map V.ref)));have cs:a1z (upd H5 ct (.frz o (.tup ((ix.map fun i=>as.getD i 0).map V.ref)))) ct c0:=a7E hcd.nd ho (len5.trans (kvl c0)) pm rise a6 fun i a c h1 h2=>T6 _ _ (g5 i a _ _ h1 (kvg c0 i c h2));have sm0:=((T1.trans s5).trans T6).trans T7;have hlH:H l=none:=a0B sm0 hl;have en0:a2q (upd (upd H5 ct (.frz o (.tup ((ix.map fun i=>as.getD i 0).map V.ref)))) e0 (.tup [.str n0,.str "head",.ref ct])) e0 ⟨n0,"head",c0⟩:=⟨ct,a0b,cs.same T7⟩;generalize upd (upd H5 ct (.frz o (.tup ((ix.map fun i=>as.getD i 0).map V.ref)))) e0 (.tup [.str n0,.str "head",.ref ct])=H7 at *;have e8:=a0b (H:=H7) (a:=l) (o:=.lst [.ref e0]);have dn8:a0m H7 (del (upd H7 l (.lst [.ref e0])) l):=fun b u e=>by
   have hb:b≠l:=fun z=>by rw[z,hl] at e;cases e
   rw[a2G hb,a0g hb];exact e
  generalize upd H7 l (.lst [.ref e0])=H8 at *;have s8:=sm0.trans T8;refine⟨_,rfl,sd,_,S.map (·.n),rfl,.inl (s8 _ _ hsd),(by rw[mC0,mC0];rfl),(by rw[lM0];omega),fun ly ys hly yp yso=>?_⟩;have T9:=a0m.upd (o:=.lst (ys.map V.str)) hly;have e9:=a0b (H:=H8) (a:=ly) (o:=.lst (ys.map V.str));have nly:l≠ly:=fun z=>by rw[<-z,e8] at hly;cases hly
  have dn9:a0m H7 (del (upd H8 ly (.lst (ys.map V.str))) l):=fun b u e=>by
   have h1:=dn8 b u e;have hb:b≠l:=fun z=>by rw[z,a3C] at h1;cases h1
   rw[a2G hb] at h1;rw[a2G hb];exact T9 _ _ h1
  generalize upd H8 ly (.lst (ys.map V.str))=H9 at *;have yl:ys.length=S.length:=by rw[yp.length_eq,lM0]
  have vd:∀y∈ys,∃x∈S,x.n=y/\a1K (S.map fun x=>((.inr x.n:Key),V.ref x.t)) (.inr y)=some (.ref x.t):=fun y hy=>by
   obtain⟨x,hx,rfl⟩:=mM0.mp (yp.mem_iff.mp hy);exact⟨x,hx,rfl,a5Q (f:=Sd.n) (g:=fun x:Sd=>V.ref x.t) nS hx⟩
  refine⟨ly,rfl,⟨_,SqL.of e9⟩,?_⟩;refine a2K (K:=K) (xs:=ys.map V.str) (fun i σ H2=>(∃u5 u6 u7,σ=[some (.int z),some (.str n0),some (.ref cd),some (.ref sd),some (.ref l),u5,u6,u7])/\a0m H H2/\H2 ly=some (.lst (ys.map V.str))/\∃(es:List Addr) (Ts:List Tb),H2 l=some (.lst (es.map V.ref))/\es.length=i+1/\Ts.length=i+1/\(∀(j:Nat) (e:Addr) (T:Tb),es[j]? =some e->Ts[j]? =some T->a2q (del H2 l) e T)/\∃Us,Ts=⟨n0,"head",c0⟩::Us/\Us.map (·.name)=ys.take i/\∀T∈Us,T∈S.map Sd.tb) ⟨⟨_,_,_,rfl⟩,s8.trans T9,e9,[e0],[⟨n0,"head",c0⟩],T9 _ _ e8,rfl,rfl,fun j e T h1 h2=>?_,[],rfl,rfl,fun T hT=>(nomatch hT)⟩ (fun i σ H2 _ p=>SqL.of p.2.2.1) ?_ ?_
  ·match j,h1,h2 with
   |0,h1,h2=>
    cases h1;cases h2;exact en0.same dn9
  ·rintro i x σ H2 hx ⟨⟨u5,u6,u7,rfl⟩,sm,hly2,es,Ts,hl2,esl,tsl,hes,Us,hTU,hnm,hUs⟩
   obtain⟨y,hy,rfl⟩:∃y,ys[i]? =some y/\x=.str y:=by
    rw[gM0] at hx;cases e:ys[i]? with
    |none=>rw[e] at hx;cases hx
    |some y=>rw[e] at hx;cases hx;exact⟨y,rfl,rfl⟩
   obtain⟨x,hxS,rfl,v1⟩:=vd y (gI0 hy);obtain⟨v2,v3⟩:=hS x hxS;refine⟨_,rfl,_,rfl,sd,_,rfl,.inl ⟨_,.inr x.n,.inl (sm _ _ hsd),rfl,v1.symm⟩,?_⟩;refine⟨x.t,_,rfl,SqT.of (sm _ _ v2),rfl,_,_,rfl,_,_,rfl,rfl,?_⟩;have td:=v3.same sm;refine⟨_,rfl,.inl ⟨rfl,_,SqL.of hl2⟩,_,rfl,_,rfl,_,rfl,.inr (.inr (.inl ⟨rfl,.inl ⟨_,td.at_⟩⟩)),x.d,_,rfl,rfl,.inl td.at_,fun pw' hpw'=>?_⟩;have U1:=a0m.upd (o:=.ext (vwP pw' x.d)) hpw';refine⟨pw',x.d,_,x.c.map (·.1),rfl,a0b,.inl (U1 _ _ td.at_),kvz x.c,td.nd,by rw[lM0];have:=td.le;omega,fun sl' as' ix' H5' m1 m2 m3 nd' len5' s5' g5' pm' rise' el'=>?_⟩;refine⟨sl',_,rfl,SqL.of el',fun ct' o' hct' ho'=>⟨(show 3<=sizeLine by decide),fun e' he'=>?_⟩⟩;have U6:=a0m.upd (o:=.frz o' (.tup ((ix'.map fun i=>as'.getD i 0).map V.ref))) hct';have U7:=a0m.upd (o:=.tup [.str x.n,.str x.so,.ref ct']) he';have a6':=a0b (H:=H5') (a:=ct') (o:=.frz o' (.tup ((ix'.map fun i=>as'.getD i 0).map V.ref)));have cs':a1z (upd H5' ct' (.frz o' (.tup ((ix'.map fun i=>as'.getD i 0).map V.ref)))) ct' x.c:=a7E td.nd ho' (len5'.trans (kvl x.c)) pm' rise' a6' fun i a c' h1 h2=>U6 _ _ (g5' i a _ _ h1 (kvg x.c i c' h2));have su:=((U1.trans s5').trans U6).trans U7;have en':a2q (upd (upd H5' ct' (.frz o' (.tup ((ix'.map fun i=>as'.getD i 0).map V.ref)))) e' (.tup [.str x.n,.str x.so,.ref ct'])) e' x.tb:=⟨ct',a0b,cs'.same U7⟩;generalize upd (upd H5' ct' (.frz o' (.tup ((ix'.map fun i=>as'.getD i 0).map V.ref)))) e' (.tup [.str x.n,.str x.so,.ref ct'])=H7' at *;have dd:a2q (del H7' l) e' x.tb:=by
    have hl7:=su _ _ hl2;obtain⟨ct2,x1,o2,ps2,zs2,y1,y2,x2,x3,x4,x5⟩:=en';have ne:∀b xs,H7' b=some (.tup xs)->b≠l:=fun b xs e z=>by rw[z,hl7] at e;cases e
    have nf:∀b oo xs,H7' b=some (.frz oo xs)->b≠l:=fun b oo xs e z=>by rw[z,hl7] at e;cases e
    exact⟨ct2,(a2G (ne _ _ x1)).trans x1,o2,ps2,zs2,y1,y2,x2,(a2G (nf _ _ _ x3)).trans x3,x4,fun j p c h1 h2=>(a2G (ne _ _ (x5 j p c h1 h2))).trans (x5 j p c h1 h2)⟩
   have il:i<7:=by have:=(gS0.mp hy).1;omega
   refine⟨l,_,_,rfl,rfl,su _ _ hl2,(by rw[lM0,sizeLine_eq];omega),⟨_,_,_,rfl⟩,(sm.trans su).put hlH,?_,es++[e'],Ts++[x.tb],?_,by rw[lA0,esl];rfl,by rw[lA0,tsl];rfl,fun j e T h1 h2=>?_,Us++[x.tb],by rw[hTU];rfl,?_,fun T hT=>?_⟩
   ·rw[a0g (Ne.symm nly)]
    exact su _ _ hly2
   ·rw[a0b,mA0]
    rfl
   ·by_cases hj:j<es.length
    ·rw[gL0 hj] at h1
     rw[gL0 (by omega)] at h2;exact(hes j e T h1 h2).same (b3n su)
    ·have ej:j=es.length:=by
      have:=(gS0.mp h1).1
      rw[lA0] at this;simp at this
      omega
     subst ej;rw[gR0 (nR0 _),Nat.sub_self] at h1;rw[gR0 (by omega),esl,tsl,Nat.sub_self] at h2;cases h1;cases h2;refine dd.same fun b u e=>?_;have hb:b≠l:=fun z=>by rw[z,a3C] at e;cases e
     rw[a2G hb] at e;rw[a2G hb,a0g hb];exact e
   ·rw[mA0,hnm,List.take_add_one,hy]
    rfl
   ·rcases mB0.mp hT with h |h
    ·exact hUs T h
    ·rw[mS0.mp h]
     exact mM0.mpr ⟨x,hxS,rfl⟩
  ·rintro σ H2 ⟨⟨u5,u6,u7,rfl⟩,sm,hly2,es,Ts,hl2,esl,tsl,hes,Us,rfl,hnm,hUs⟩
   refine⟨_,rfl,_,rfl,l,_,rfl,.inl ⟨SqL.of hl2,fun tt htt=>⟨(show 2<=sizeLine by decide),fun fm hfm=>?_⟩⟩⟩;have U1:=a0m.upd (o:=.tup (es.map V.ref)) htt;have U2:=a0m.upd (o:=.tup [.int z,.ref tt]) hfm;rw[lM0,List.take_length] at hnm;have ndU:(Us.map (·.name)).Nodup:=by rw[hnm];exact yp.nodup_iff.mpr nS
   refine q fm Us _ (sm.trans (U1.trans U2)) ⟨tt,es,a0b,U2 _ _ a0b,by omega,fun j e T h1 h2=>(hes j e T h1 h2).same (b4o.trans (U1.trans U2))⟩ ?_ (by rw[hnm];exact a6F yso);have nU:Us.Nodup:=a5O ndU;have nT:(S.map Sd.tb).Nodup:=a5O (f:=fun T:Tb=>T.name) (by rw[mC0];exact nS);refine(List.perm_ext_iff_of_nodup nU nT).mpr fun T=>⟨hUs T,fun hT=>?_⟩;obtain⟨x,hx,rfl⟩:=mM0.mp hT
   have:x.n∈Us.map (·.name):=by rw[hnm];exact yp.mem_iff.mpr (mM0.mpr ⟨x,hx,rfl⟩)
   obtain⟨U,hU,eU⟩:=mM0.mp this;obtain⟨x',hx',rfl⟩:=mM0.mp (hUs U hU)
   have:x'=x:=b1O nS hx' hx eU
   rw[<-this];exact hU
end
end My
namespace L2
open PySem PySem.Spec PyProof.Rows
theorem Lq.up {H:Hp}{n:Nat}{x y:V}(h:Lq H n x y):Lq H (n+1) x y:=by
 induction h with
 |non=>exact .non
 |bl=>exact .bl
 |int=>exact .int
 |str=>exact .str
 |tup ha hb hl _ ih=>exact .tup ha hb hl ih
 |lst ha hb hl _ ih=>exact .lst ha hb hl ih
 |dct f ha hb hl hf hg _ ih=>exact .dct f ha hb hl hf hg ih
end L2
namespace My
open PySem L2 PyProof.Rows
seal L2.PE L2.PT L2.PW L2.PS L2.PSs L2.PA L2.PI L2.PG L2.PGs L2.OpR L2.a1p L2.IxR L2.SlR L2.MtR L2.PIf L2.PO L2.MtM L2.PC L2.a6n
theorem a2l {d:Dt}{z:Str}(h:a1x d z=true):∃y,d=.str y:=by
 cases d with
 |str y=>exact⟨y,rfl⟩
 |_=>cases h
theorem b1j {H:Hp}{n:Nat}{a b:Addr}{x y:V}(ha:Rd H a (.tup [x]))(hb:Rd H b (.tup [y]))(h1:Lq H n x y):Lq H (n+1) (.ref a) (.ref b):=by
 refine .tup ha hb rfl fun i u v hu hv=>?_
 match i,hu,hv with
 |0,hu,hv=>cases hu;cases hv;exact h1
 |i+1,hu,hv=>simp at hu
theorem a3h {H:Hp}{n:Nat}{a b:Addr}{x y x2 y2:V}(ha:Rd H a (.tup [x,x2]))(hb:Rd H b (.tup [y,y2]))(h1:Lq H n x y)(h2:Lq H n x2 y2):Lq H (n+1) (.ref a) (.ref b):=by
 refine .tup ha hb rfl fun i u v hu hv=>?_
 match i,hu,hv with
 |0,hu,hv=>cases hu;cases hv;exact h1
 |1,hu,hv=>cases hu;cases hv;exact h2
 |i+2,hu,hv=>simp at hu
theorem b4K {H:Hp}{s:Dt}{v:V}(h:Rep H (.tup [s]) v):∃a x,v=.ref a/\H a=some (.tup [x])/\Rep H s x:=by
 simp only[Rep,a2c] at h;obtain⟨a,xs,rfl,ha,v1,vs,rfl,h1,rfl⟩:=h;exact⟨a,v1,rfl,ha,h1⟩
theorem b4N {H:Hp}{s b:Dt}{v:V}(h:Rep H (.tup [s,b]) v):∃a x y,v=.ref a/\H a=some (.tup [x,y])/\Rep H s x/\Rep H b y:=by
 simp only[Rep,a2c] at h;obtain⟨a,xs,rfl,ha,v1,vs,rfl,h1,v2,vs2,rfl,h2,rfl⟩:=h;exact⟨a,v1,v2,rfl,ha,h1,h2⟩
theorem a4u {H:Hp}{n:Nat}{z:Str}{v v':V}(h:Rep H (.str z) v)(h':Rep H (.str z) v'):Lq H n v v':=by
 simp only[Rep] at h h';rw[h.1,h'.1];exact .str
theorem a7t {H:Hp}{d:Dt}{v v':V}(hp:a1N d=true)(h:Rep H d v)(h':Rep H d v'):Lq H 1 v v':=by
 match d,hp,h,h' with
 | .tup [s],hp,h,h'=>
  obtain⟨a,x,rfl,ha,h1⟩:=b4K h;obtain⟨a',x',rfl,ha',h1'⟩:=b4K h';obtain⟨z,_,hz⟩:=List.any_eq_true.mp (show w2.any (a1x s)=true from hp);obtain⟨y,rfl⟩:=a2l hz;exact b1j (.inl ha) (.inl ha') (a4u h1 h1')
 | .tup [s,b],hp,h,h'=>
  obtain⟨a,x,u,rfl,ha,h1,h2⟩:=b4N h;obtain⟨a',x',u',rfl,ha',h1',h2'⟩:=b4N h';have hp':a2Y s b=true:=hp;unfold a2Y at hp';have hs:∃y,s=.str y:=by
   by_cases e1:a1x s "below"=true
   ·exact a2l e1
   ·rw[if_neg e1] at hp'
    by_cases e2:a1x s "upto"=true
    ·exact a2l e2
    ·rw[if_neg e2] at hp'
     exact a2l (Bool.and_eq_true_iff.mp hp').1
  have hb:(∃i,b=.int i)\/∃y,b=.str y:=by
   cases b with
   |int i=>exact .inl ⟨i,rfl⟩
   |str y=>exact .inr ⟨y,rfl⟩
   |_=>
    simp only[geD,a4g,a6E,Bool.and_false] at hp'
    split at hp'
    ·cases hp'
    ·split at hp'<;>cases hp'
  obtain⟨y,rfl⟩:=hs;rcases hb with ⟨i,rfl⟩ |⟨y2,rfl⟩
  ·simp only[Rep] at h2 h2'
   rw[h2] at ha;rw[h2'] at ha';exact a3h (.inl ha) (.inl ha') (a4u h1 h1') .int
  ·exact a3h (.inl ha) (.inl ha') (a4u h1 h1') (a4u h2 h2')
theorem b3f {H:Hp}{d:Dt}{v v':V}(hk:a2y d=true)(h:Rep H d v)(h':Rep H d v'):Lq H 2 v v':=by
 unfold a2y at hk;rcases Bool.or_eq_true_iff.mp hk with hp |hm
 ·exact(a7t hp h h').up
 ·match d,hm,h,h' with
  | .tup [s],hm,h,h'=>
   obtain⟨a,x,rfl,ha,h1⟩:=b4K h;obtain⟨a',x',rfl,ha',h1'⟩:=b4K h';obtain⟨y,rfl⟩:=a2l (show a1x s "key"=true from hm);exact b1j (.inl ha) (.inl ha') (a4u h1 h1')
  | .tup [s,b],hm,h,h'=>
   obtain⟨a,x,u,rfl,ha,h1,h2⟩:=b4N h;obtain⟨a',x',u',rfl,ha',h1',h2'⟩:=b4N h';have hm':=Bool.and_eq_true_iff.mp (show(w3.any (a1x s)&&a1N b)=true from hm);obtain⟨z,_,hz⟩:=List.any_eq_true.mp hm'.1;obtain⟨y,rfl⟩:=a2l hz;exact a3h (.inl ha) (.inl ha') (a4u h1 h1') (a7t hm'.2 h2 h2')
def CQ (H:Hp)(c c':List (Str×V)):Prop:=(c.map (·.1)).Perm (c'.map (·.1))/\∀z∈c.map (·.1),∃d,Rep H d (vOf c z)/\Rep H d (vOf c' z)/\a2y d=true
def TQ (H:Hp)(T T':Tb):Prop:=T.name=T'.name/\T.sort=T'.sort/\CQ H T.cols T'.cols
theorem CQ.cn {H:Hp}{c c':List (Str×V)}(q:CQ H c c'):CQ H (cnC c) (cnC c'):=by
 refine⟨?_,fun z hz=>?_⟩
 ·rw[a1A,a1A]
  exact(a1a _).trans (q.1.trans (a1a _).symm)
 ·rw[a1A] at hz
  have hz':=(a1a _).mem_iff.mp hz;obtain⟨d,a,b,e⟩:=q.2 z hz';have e1:vOf (cnC c) z=vOf c z:=a3O hz';have e2:vOf (cnC c') z=vOf c' z:=a3O (q.1.mem_iff.mp hz');rw[e1,e2];exact⟨d,a,b,e⟩
theorem b1U {H:Hp}{t t':Addr}{c c':List (Str×V)}(q:CQ H c c')(h:a1z H t c)(h':a1z H t' c'):Lq H 4 (.ref t) (.ref t'):=by
 obtain⟨o,ps,zs,p1,s1,d1,h1,l1,e1⟩:=h;obtain⟨o',ps',zs',p2,s2,d2,h2,l2,e2⟩:=h';obtain rfl:=a9R s1 s2 p1 (p2.trans q.1.symm);refine .tup (.inr ⟨o,h1⟩) (.inr ⟨o',h2⟩) (by rw[lM0,lM0,l1,l2]) fun i x y hx hy=>?_;rw[gM0] at hx hy;cases ex:ps[i]? with
 |none=>rw[ex] at hx;cases hx
 |some p=>
  cases ey:ps'[i]? with
  |none=>rw[ey] at hy;cases hy
  |some p'=>
   rw[ex] at hx;rw[ey] at hy;cases hx;cases hy;have hi:i<zs.length:=by have:=(gS0.mp ex).1;omega
   have a:=e1 i p _ ex (gE0 hi);have a':=e2 i p' _ ey (gE0 hi);obtain⟨d,r,r',kd⟩:=q.2 _ (p1.mem_iff.mp (gQ0 hi));exact a3h (.inl a) (.inl a') .str (b3f kd r r')
theorem b2u {H:Hp}{f f':Addr}{sz:Int}{Ts Ts':List Tb}(l:Ts.length=Ts'.length)(q:∀(i:Nat) (T T':Tb),Ts[i]? =some T->Ts'[i]? =some T'->TQ H T T')(h:a0W H f sz Ts)(h':a0W H f' sz Ts'):Lq H 7 (.ref f) (.ref f'):=by
 obtain⟨tt,es,a1,a2,a3,a4⟩:=h;obtain⟨tt',es',b1,b2,b3,b4⟩:=h';refine a3h (.inl a1) (.inl b1) .int ?_;refine .tup (.inl a2) (.inl b2) (by rw[lM0,lM0,a3,b3,l]) fun i x y hx hy=>?_;rw[gM0] at hx hy;cases ex:es[i]? with
 |none=>rw[ex] at hx;cases hx
 |some e=>
  cases ey:es'[i]? with
  |none=>rw[ey] at hy;cases hy
  |some e'=>
   rw[ex] at hx;rw[ey] at hy;cases hx;cases hy;have hi:i<Ts.length:=by have:=(gS0.mp ex).1;omega
   have hi':i<Ts'.length:=by omega
   obtain⟨ct,c1,c2⟩:=a4 i e _ ex (gE0 hi);obtain⟨ct',c1',c2'⟩:=b4 i e' _ ey (gE0 hi');obtain⟨q1,q2,q3⟩:=q i _ _ (gE0 hi) (gE0 hi');rw[<-q1,<-q2] at c1';refine .tup (.inl c1) (.inl c1') rfl fun k x y hx hy=>?_
   match k,hx,hy with
   |0,hx,hy=>cases hx;cases hy;exact .str
   |1,hx,hy=>cases hx;cases hy;exact .str
   |2,hx,hy=>cases hx;cases hy;exact b1U q3 c2 c2'
theorem b0p {l m:List Str}(h1:a6L l)(h2:a6L m)(p:l.Perm m):l=m:=by
 have pw:∀{S:List Str},a6L S->S.Pairwise fun a b=>leS a b=true:=fun h=>by
  refine List.Pairwise.imp (fun hab=>?_) h;unfold leS;rw[dF0 hab]
  rfl
 exact List.Perm.eq_of_pairwise (fun a b _ _ h1 h2=>a5m h1 h2) (pw h1) (pw h2) p
theorem b1y {H:Hp}{f f':Addr}{sz:Int}{T0 T0':Tb}{R R':List Tb}(h:FAt H f sz T0 R)(h':FAt H f' sz T0' R')(q0:TQ H T0 T0')(p:(R.map (·.name)).Perm (R'.map (·.name)))(nd:(R'.map (·.name)).Nodup)(q:∀T∈R,∀T'∈R',T.name=T'.name->TQ H T T'):Lq H 7 (.ref f) (.ref f'):=by
 obtain⟨U,a1,a2,a3⟩:=h;obtain⟨U',b1,b2,b3⟩:=h';have n1:(U.map (·.name)).Perm (R.map (·.name)):=by have:=a2.map (fun T:Tb=>T.name);rw[a2o] at this;exact this
 have n2:(U'.map (·.name)).Perm (R'.map (·.name)):=by have:=b2.map (fun T:Tb=>T.name);rw[a2o] at this;exact this
 have en:U.map (·.name)=U'.map (·.name):=b0p a3 b3 (n1.trans (p.trans n2.symm));have ln:U.length=U'.length:=by have:=congrArg List.length en;rwa [lM0,lM0] at this
 have cq:∀{T T':Tb},TQ H T T'->TQ H (cn T) (cn T'):=fun t=>⟨t.1,t.2.1,t.2.2.cn⟩;refine b2u (by rw[List.length_cons,List.length_cons,ln]) (fun i T T' hT hT'=>?_) a1 b1
 match i,hT,hT' with
 |0,hT,hT'=>cases hT;cases hT';exact cq q0
 |i+1,hT,hT'=>
  have hT:U[i]? =some T:=hT;have hT':U'[i]? =some T':=hT';obtain⟨X,hX,rfl⟩:=mM0.mp (a2.mem_iff.mp (gI0 hT));obtain⟨X',hX',rfl⟩:=mM0.mp (b2.mem_iff.mp (gI0 hT'));have e:=congrArg (fun l=>l[i]?) en;simp only[gM0,hT,hT',Option.map_some] at e;exact cq (q X hX X' hX' (Option.some.inj e))
end My
namespace L2
open PySem PySem.Spec PyProof.Rows
end L2
namespace L2
open PySem PySem.Spec PyProof.Rows PySem.Builtin PySem.Builtin.Dict
end L2
namespace L2
open PySem PySem.Spec PyProof.Rows
section
variable {prog:Program}{w:World}{A:Around}{E:Vs0}{s:Shared}{R:Result->Shared->Prop}{K:Type}[DecidableEq K]{knd:KeyKind prog w K}{d:Addr}{kvs:List (K×Value)}{ep:Nat}
theorem a9n {Q:Bool->Shared->Prop}(hm:s.heap.DictAt knd d kvs ep)(h:Q false s):wpAny (model prog w) A (Builtin.List.listLengthHint (.ref d)) Q E s:=by
 have T:=hm.dictOf.typeIs;unfold Builtin.List.listLengthHint;refine wB0 (wpAny_specialOf T F.slot_dict_len.lookup ?_);generalize hid:("dict.__len__":String)=id0
 wp_delta
 rw[show splitId id0=some ("dict","__len__") from by subst hid;decide +kernel];subst hid;refine wB0 (wpAny_isInstance (T:="dict") (b:=true) T (by rw[isSubtype_type];kernel_rfl) ?_);refine wpAny_ite_split (fun hab=>absurd hab (by decide)) (fun _=>?_);refine wpAny_ite_split (fun _=>?_) (fun hab=>absurd (by decide +kernel) hab);exact wB0 (wpAny_typeOf T (wP0 h))
theorem a6C (hh:A.handled=none)(nd:(d==sysModules)=false)(hm:s.heap.DictAt knd d kvs ep)(hlen:kvs.length<=sizeLine)(S:Addr)(res:Value)(c₀:Nat)(hS:s.heap.get? S=some { cls:=.type "list",data:=.seq #[] c₀ })
  (hR:∀h' tk acc' c',(∀b o,b≠S->s.heap.get? b=some o->h'.get? b=some o)->h'.get? S=some { cls:=.type "list",dict:=none,data:=.seq acc' c',slots:=#[] } →
   ItemsOf (fun i v=>∃k x,kvs[i]? =some (k,x)/\knd.is k v=true) acc' kvs.length->R (.ok (.ret res)) { s with heap:=h',toks:=tk }) :
  wpAny (model prog w) A.in1 (Builtin.List.listExtendWith (.ref S) (.ref d) res)
   (fun fin s'=>match fin with | .done f=>R (.ok f) s' | .again c'=>c'.quiet=true/\codeAny (model prog w) A c' R s') (fun e s'=>R (.error e) s') s:=by
 have T:=hm.dictOf.typeIs;obtain⟨od,ed,hod,xd,dd,_⟩:=id hm;have hSd:S≠d:=fun e=>by rw[e,hod] at hS;cases hS;cases dd
 have hSlt:S<s.heap.objs.size:=hL0 hS;have hSI:S≠s.heap.objs.size:=nL0 hSlt;have hdI:d≠s.heap.objs.size:=nL0 (hL0 hod);have hSf:S∉[s.heap.objs.size,d]:=fun hm=>by
  rcases mK0.mp hm with e |e
  ·exact hSI e
  ·exact hSd (mS0.mp e)
 have W:=(Walks.dictKeys (prog:=prog) (w:=w) (A:=A.in1) (knd:=knd) hh s.heap.objs.size d hdI kvs ep).toS;have key:∀(h:Heap) (c₁ tk:Nat),(h.IsKeyIter s.heap.objs.size d 0 kvs.length ep/\h.DictAt knd d kvs ep)->(∀b o,b≠S->s.heap.get? b=some o->h.get? b=some o) →
   h.get? S=some { cls:=.type "list",data:=.seq #[] c₁ }->codeAny (model prog w) A (.builtin "list.extend.loop" ⟨[.ref S,.ref s.heap.objs.size,res],[]⟩) R { s with heap:=h,toks:=tk }:=by
  intro h c₁ tk hit hk hS₁;refine codeAny_extend_loopS W hlen S hSf res kvs.length 0 _ #[] c₁ rfl (zL0 _) hit hS₁ (ItemsOf.nil _) fun s' acc' c' hm hS' hacc=>?_;rw[Moved.eq_with hm];refine hR s'.heap s'.toks acc' c' (fun b o hb e=>hm.heap b o (fun hmem=>?_) (hk b o hb e)) hS' hacc;rcases mK0.mp hmem with e' |hmem
  ·exact hb e'
  ·exact absurd (hL0 e) (by rw[mS0.mp hmem];exact Nat.lt_irrefl _)
 unfold Builtin.List.listExtendWith;refine wB0 (wpAny_typeOf T ?_);have h1:Builtin.List.listSameRef (.ref S) (.ref d)=false:=by simp[Builtin.List.listSameRef,hSd]
 simp only[h1,show(Value.type "dict"==Value.type "list")=false by decide,show(Value.type "dict"==Value.type "tuple")=false by decide,Bool.or_false,Bool.false_eq_true,if_false];refine wB0 (wpAny_pyIter_dict nd hm ?_);have hit₁:((s.heap.push { cls:=.type "dict_keyiterator",data:=.fields #[.ref d,.int 0 0,.int kvs.length 0,.int ep 0] }).IsKeyIter s.heap.objs.size d 0 kvs.length ep/\(s.heap.push { cls:=.type "dict_keyiterator",data:=.fields #[.ref d,.int 0 0,.int kvs.length 0,.int ep 0] }).DictAt knd d kvs ep):=⟨⟨_,hS0 _ rfl,rfl,rfl⟩,hm.push _⟩;have hS₁:=hP0 { cls:=.type "dict_keyiterator",data:=.fields #[.ref d,.int 0 0,.int kvs.length 0,.int ep 0] } hS;refine wB0 (wpAny_holding (a9n (s:={ s with heap:=s.heap.push { cls:=.type "dict_keyiterator",data:=.fields #[.ref d,.int 0 0,.int kvs.length 0,.int ep 0] } }) (hm.push _) ?_));refine wpAny_ite_split (fun _=>?_) (fun _=>wP0 ⟨plainId_quiet F.plain_extend_loop _,key _ c₀ _ hit₁ (fun b o _ e=>hP0 _ e) hS₁⟩);refine wB0 (wpAny_rule ?_);refine wB0 ?_;show wpAny _ _ (updateSeq S (·.push .none) >>= fun _=>updateSeq S (·.pop)) _ _ _;refine wB0 (wpAny_updateSeq hS₁ rfl ?_);have hS₂:=Heap.get?_update_self (Obj.mapSeq (·.push Value.none)) hS₁ rfl;refine wpAny_updateSeq (hz:=by seq_fits) hS₂ rfl ?_;have hS₃:=Heap.get?_update_self (Obj.mapSeq (·.pop)) hS₂ rfl;have oth:∀b o,b≠S->(s.heap.push { cls:=.type "dict_keyiterator",data:=.fields #[.ref d,.int 0 0,.int kvs.length 0,.int ep 0] }).get? b=some o->_:=fun b o hb e=>(Heap.get?_update_other _ (Obj.mapSeq (·.pop)) (Ne.symm hb)).trans ((Heap.get?_update_other _ (Obj.mapSeq (·.push Value.none)) (Ne.symm hb)).trans e);refine wP0 ⟨plainId_quiet F.plain_extend_loop _,key _ _ _ ⟨hit₁.1.at fun o e=>oth _ o hSI.symm e,?_⟩ (fun b o hb e=>oth b o hb (hP0 _ e)) hS₃⟩;obtain⟨o2,es2,e2,r2⟩:=hit₁.2;exact⟨o2,es2,oth d o2 hSd.symm e2,r2⟩
theorem a4m {Q:Vs0}(hh:A.handled=none)(nd:(d==sysModules)=false)(hm:s.heap.DictAt knd d kvs ep)(hlen:kvs.length<=sizeLine)
  (hQ:∀h' tk acc' c',(∀b o,s.heap.get? b=some o->h'.get? b=some o) →
   h'.get? s.heap.objs.size=some { cls:=.type "list",dict:=none,data:=.seq acc' c',slots:=#[] }->ItemsOf (fun i v=>∃k x,kvs[i]? =some (k,x)/\knd.is k v=true) acc' kvs.length->Q (.ref s.heap.objs.size) { s with heap:=h',toks:=tk }) :
  wpAny (model prog w) A (call (.type "list") [.ref d]) Q E s:=by
 refine callType_codes (Q₁:=fun obj s₁=>obj=.ref s.heap.objs.size/\s₁={ s with heap:=s.heap.push { cls:=.type "list",data:=.seq #[] } }) F.called_list (F.typeCall_list_1 _) F.entry_list_init
  (code_list_new _ ⟨rfl,rfl⟩) fun obj s₁ h₁=>?_
 obtain⟨rfl,rfl⟩:=h₁;have hS:(s.heap.push { cls:=.type "list",data:=.seq #[] }).get? s.heap.objs.size=some { cls:=.type "list",data:=.seq #[] }:=hS0 _ rfl;have ndS:s.heap.objs.size≠d:=(nL0 hm.lt_size).symm;refine⟨⟨_,hS,rfl⟩,F.args_list_init_2 _ _,?_⟩;show wpAny _ _ (do let old <-Builtin.List.listItems (.ref s.heap.objs.size);Builtin.List.listUpdate (.ref s.heap.objs.size) (fun _=>#[]);letGo old.toList.reverse;Builtin.List.listExtendWith (.ref s.heap.objs.size) (.ref d) .none) _ _ _;refine wB0 ?_;unfold Builtin.List.listItems;refine wB0 (wpAny_seqItems hS rfl (wP0 ?_));show wpAny _ _ (updateSeq s.heap.objs.size (fun _=>#[]) >>= fun _=>letGo (#[]:Array Value).toList.reverse >>= fun _=>Builtin.List.listExtendWith (.ref s.heap.objs.size) (.ref d) .none) _ _ _;refine wB0 (wpAny_updateSeq hS rfl ?_);have hS₂:=Heap.get?_update_self (Obj.mapSeq (fun _=>(#[]:Array Value))) hS rfl;have oth:∀b o,b≠s.heap.objs.size->s.heap.get? b=some o->((s.heap.push { cls:=.type "list",data:=.seq #[] }).update s.heap.objs.size (Obj.mapSeq (fun _=>(#[]:Array Value)))).get? b=some o:=
  fun b o hb e=>(Heap.get?_update_other _ _ (Ne.symm hb)).trans (hP0 _ e)
 refine wB0 (wpAny_letGo ?_);have hm2:((s.heap.push { cls:=.type "list",data:=.seq #[] }).update s.heap.objs.size (Obj.mapSeq (fun _=>(#[]:Array Value)))).DictAt knd d kvs ep:=by
  obtain⟨o2,es2,e2,r2⟩:=hm;exact⟨o2,es2,oth d o2 ndS.symm e2,r2⟩
 refine a6C (A:=A.in1) hh nd hm2 hlen _ .none _ hS₂ fun h' tk acc' c' hk hS' hacc=>?_;exact⟨rfl,hQ h' tk acc' c' (fun b o e=>hk b o (nL0 (hL0 e)) (oth b o (nL0 (hL0 e)) e)) hS' hacc⟩
end
section
variable {X:Cx}
theorem a7O (hc:X.calm=true):a1p X (.type "list") (fun xs H Q=>∃(p:Addr) (kvs:List (Key×V)) (zs:List Str),xs=[.ref p]/\Rd H p (.dK kvs)/\kvs.map (·.1)=zs.map Sum.inr/\∀l,H l=none->Q (.ref l) (upd H l (.lst (zs.map V.str)))):=by
 intro pins s σ H xs us Q I r h;obtain⟨p,kvs,zs,rfl,hq,hz,q⟩:=h;obtain⟨u,rfl,rx⟩:=a2T r;cases rx;obtain⟨hlen,lo,vs,kv,dd⟩:=hq.ok I.hok;obtain⟨ep,da⟩:=dd.dictAt;have hl:=kv.len;have hl2:kvs.length=zs.length:=by simpa using congrArg List.length hz
 refine a4m (I.ok.hd hc) lo da (by rw[<-hl];exact hlen) fun h' tk acc c' kp e1 hacc=>?_;have hS:StrsAre acc.toList zs:=by
  refine a6A _ _ (by rw[aL0,hacc.1,<-hl,hl2]) fun j v z h1 h2=>?_;obtain⟨k,x,hx,hkv⟩:=hacc.2 j v (by rw[<-Array.getElem?_toList];exact h1);have hk':=a7d kv hx;rw[hz,gM0,h2] at hk';have e:Sum.inr z=k:=by simpa using hk'
  subst e;exact a8f hkv
 exact⟨.ref s.heap.objs.size,_,I.laid (a:=s.heap.objs.size) (o:=.lst (zs.map V.str)) (t':=tk) kp (nR0 _) ⟨by rw[lM0,<-hl2];exact hlen,acc.toList,c',a3I hS,by simpa using e1⟩,rfl,q _ (I.hok.fresh (nR0 _))⟩
end
theorem a8Z (z:Str)(l:List Str):inV (.str z) (l.map V.str)=decide (z∈l):=by
 unfold inV;rw[Bool.eq_iff_iff,List.any_eq_true,decide_eq_true_iff]
 constructor
 ·rintro⟨y,hy,e⟩
  obtain⟨x,hx,rfl⟩:=mM0.mp hy
  have:x=z:=by simpa[eqV] using e
  rw[<-this];exact hx
 ·intro h
  exact⟨_,mM0.mpr ⟨z,h,rfl⟩,by simp[eqV]⟩
theorem a5R (l:List Str):(l.map V.str).all a5i=true:=by
 rw[List.all_map];exact List.all_eq_true.mpr fun _ _=>rfl
end L2
namespace My
open PySem L2 PyProof.Rows
seal L2.PE L2.PT L2.PW L2.PS L2.PSs L2.PA L2.PI L2.PG L2.PGs L2.OpR L2.a1p L2.IxR L2.SlR L2.MtR L2.PIf L2.PO L2.MtM L2.PC L2.a6n
def a8G:Sp:=fun vs H Q _=>vs=[.bl true]/\Q .non H
def a7c:Sp:=fun vs H Q _=>∃(f:Addr) (sz:Int) (Ts:List Tb) (T:Tb),vs=[.ref f,.str T.name]/\a0W H f sz Ts/\Ts.length<=8/\(Ts.map (·.name)).Nodup/\T∈Ts/\(T.cols.map (·.1)).Nodup/\T.cols.length<=12 ∧
 ∀(p:Addr) (H':Hp) (zs:List Str),H p=none->a0m H H'->zs.Perm (T.cols.map (·.1))->sortedS zs=true->H' p=some (.dK (zs.map fun z=>(.inr z,vOf T.cols z)))->Q (.ref p) H'
def a5K:Sp:=fun vs H Q _=>∃(f:Addr) (sz:Int) (Ts:List Tb) (z:Str),vs=[.ref f,.str z]/\a0W H f sz Ts/\Ts.length<=8/\a1P z=true/\z∉Ts.map (·.name)/\∀H',a0m H H'->Q .non H'
section
variable {P:Program}{w:World}{K:Fg0}{mg:Str->Option Value}{base:Heap}
theorem a4P {f:Addr}{fd:FuncData}(F:Fun K "head_of" "head_of" (top 23) f fd):a0F P w K mg base CX0 1 f fd ["form"] a5x:=by
 have sc:a0o ["form"] ["form"] (a0f (top 23)):=.k (by decide +kernel);refine F.ok sc (fun vs H Q E h=>?_) (fun cdv A outer s H vs Q E hr h=>?_)
 ·obtain⟨f,sz,T,Ts,rfl,_⟩:=h
  rfl
 ·obtain⟨f,sz,T,Ts,rfl,⟨tt,es,h1,h2,h3,h4⟩,q⟩:=h
  refine⟨_,a0h (a0u (a0x a0P (a0x a0P (a0x a0P (pv 0) a0e (fun _ _=>rfl)) a0e (fun _ _=>rfl)) a0e (fun _ _=>rfl))),?_⟩
  match es,h3 with
  |e::es,h3=>
   obtain⟨ct,c1,_⟩:=h4 0 e T rfl rfl;exact⟨_,rfl,f,_,1,_,rfl,rfl,SqT.of h1,rfl,tt,_,0,_,rfl,rfl,SqT.of h2,(a0U (j:=0) rfl),e,_,0,_,rfl,rfl,SqT.of c1,rfl,q⟩
theorem a7x {f:Addr}{fd:FuncData}(F:Fun K "ask_fit" "ask_fit" (top 34) f fd):a0F P w K mg base CX0 1 f fd ["fine"] a8G:=by
 have sc:a0o ["fine"] ["fine"] (a0f (top 34)):=.k (by decide +kernel);refine F.ok sc (fun vs H Q E h=>?_) (fun cdv A outer s H vs Q E hr h=>?_)
 ·obtain⟨rfl,_⟩:=h
  rfl
 ·obtain⟨rfl,q⟩:=h
  refine⟨_,a0h (a0A (a1j (a0D (pv 0))) a0j a0l),?_⟩;exact⟨_,rfl,_,rfl,a2b q⟩
theorem a9D {f fA fT fC fI:Addr}{fd fdA fdT fdC fdI:FuncData}(F:Fun K "columns_in" "columns_in" (top 35) f fd)(B:Bl mg)(DA:Df K mg "ask_fit" (top 34) fA fdA)(DT:Df K mg "tables_of" (top 22) fT fdT)(DC:Df K mg "columns_of" (top 25) fC fdC)(DI:Df K mg "table_in" (top 26) fI fdI):a0F P w K mg base CX0 3 f fd ["form","table"] a7c:=by
 have sc:a0o ["form","table"] ["form","table"] (a0f (top 35)):=.k (by decide +kernel);have GA:a0F P w K mg base CX0 1 fA fdA ["fine"] a8G:=a7x DA.fn;have GT:a0F P w K mg base CX0 1 fT fdT ["form"] a8s:=a9o DT.fn;have GC:a0F P w K mg base CX0 2 fC fdC ["form","table"] a3i:=a6b DC.fn B DI;have bA:=DA.fn.b1 "fine" (by intros;rfl);have bT:=DT.fn.b1 "form" (by intros;rfl);have bC:=DC.fn.b2 "form" "table" (by intros;rfl);refine F.ok sc (fun vs H Q E h=>?_) (fun cdv A outer s H vs Q E hr h=>?_)
 ·obtain⟨f,sz,Ts,T,rfl,_⟩:=h
  rfl
 ·obtain⟨f,sz,Ts,T,rfl,hF,l8,nd,hT,cn,cl,q⟩:=h
  have hr1:a1r 1 _:=hr.mono (by decide);refine⟨_,a0d (a1t (a0i GA hr1 (by rfl) DA.mg DA.fn.kp bA .nil a0r (a0a (a1d a9z (pv 1) (a0i GT hr1 (by rfl) DT.mg DT.fn.kp bT .nil a0r (a0a (pv 0) a0c)) (by with_unfolding_all rfl)) a0c)))
   (a0h (a0u (a0i GC hr (by rfl) DC.mg DC.fn.kp bC .nil a0r (a0a (pv 0) (a0a (pv 1) a0c))))),?_⟩
  refine⟨_,rfl,_,rfl,f,sz,Ts,rfl,hF,l8,fun p H1 hp s1 p1=>?_⟩;refine⟨p,_,rfl,.inl (SqL.of p1),rfl,a5R _,?_⟩;refine⟨?_,?_⟩
  ·show[V.bl (inV (.str T.name) ((Ts.map (·.name)).map V.str))]=[V.bl true]
   rw[a8Z,dT0 (mM0.mpr ⟨T,hT,rfl⟩)]
  ·exact⟨_,rfl,_,rfl,f,sz,Ts,T,rfl,hF.same s1,nd,hT,cn,cl,fun p' H' zs hp' s' pz so e=>q p' H' zs (a0B s1 hp') (s1.trans s') pz so e⟩
theorem a8h {f fA fN fT:Addr}{fd fdA fdN fdT:FuncData}(F:Fun K "ask_new_side" "ask_new_side" (top 40) f fd)(DA:Df K mg "ask_fit" (top 34) fA fdA)(DN:Df K mg "is_name" (top 11) fN fdN)(GN:a0F P w K mg base CX0 1 fN fdN ["thing"] (a5t K))(DT:Df K mg "tables_of" (top 22) fT fdT):a0F P w K mg base CX0 2 f fd ["form","side"] a5K:=by
 have sc:a0o ["form","side"] ["form","side"] (a0f (top 40)):=.k (by decide +kernel);have GA:a0F P w K mg base CX0 1 fA fdA ["fine"] a8G:=a7x DA.fn;have GT:a0F P w K mg base CX0 1 fT fdT ["form"] a8s:=a9o DT.fn;have bA:=DA.fn.b1 "fine" (by intros;rfl);have bN:=DN.fn.b1 "thing" (by intros;rfl);have bT:=DT.fn.b1 "form" (by intros;rfl);refine F.ok sc (fun vs H Q E h=>?_) (fun cdv A outer s H vs Q E hr h=>?_)
 ·obtain⟨f,sz,Ts,z,rfl,_⟩:=h
  rfl
 ·obtain⟨f,sz,Ts,z,rfl,hF,l8,hn,hz,q⟩:=h
  have z8:=b0m hn;refine⟨_,a0h (a1t (a0i GA hr (by rfl) DA.mg DA.fn.kp bA .nil a0r (a0a (a1V (a0i GN hr (by rfl) DN.mg DN.fn.kp bN .nil a0r (a0a (pv 1) a0c)) (a2w (a1d a3q (pv 1) (a0i GT hr (by rfl) DT.mg DT.fn.kp bT .nil a0r (a0a (pv 0) a0c)) (by with_unfolding_all rfl)))) a0c))),?_⟩;refine⟨_,rfl,.str z,_,rfl,Is.str,(fun z' e=>?_),(fun h=>absurd rfl h)⟩;cases e;refine⟨by rw[sizeLine_eq];omega,fun H1 s1=>⟨_,rfl,?_⟩⟩;rw[hn];refine a5p ⟨_,rfl,_,rfl,f,sz,Ts,rfl,hF.same s1,l8,fun p H2 hp s2 p2=>?_⟩;refine⟨p,_,rfl,.inl (SqL.of p2),rfl,a5R _,?_⟩;refine⟨?_,q H2 (s1.trans s2)⟩
  show[V.bl (!inV (.str z) ((Ts.map (·.name)).map V.str))]=[V.bl true]
  rw[a8Z,dF0 hz]
  rfl
end
def b1J (c z:Str):List (Str×V):=a4k "side" (.str z) (a4k "column" (.str c) [])
theorem a1h (c z:Str):(b1J c z).lookup ("column":Str)=some (.str c):=by
 unfold b1J;rw[a1u,if_neg (by decide +kernel),a1u,if_pos rfl]
theorem a1O (c z:Str):(b1J c z).lookup ("side":Str)=some (.str z):=by
 unfold b1J;rw[a1u,if_pos rfl]
theorem a1Y (c z:Str){m:Str}(h1:¬m="column")(h2:¬m="side"):(b1J c z).lookup m=none:=by
 unfold b1J;rw[a1u,if_neg h2,a1u,if_neg h1]
 rfl
structure ClC (K:Fg0) (CC:Addr):Prop where
 cl:Cls K CC
 nS:a3p K CC "side"
 nC:a3p K CC "column"
def CvA (CC:Addr)(H:Hp)(a:Addr)(c z:Str):Prop:=∃dx,H a=some (.ins CC dx (b1J c z))
theorem CvA.same {CC:Addr}{H H':Hp}{a:Addr}{c z:Str}(h:CvA CC H a c z)(s:a0m H H'):CvA CC H' a c z:=let ⟨dx,e⟩:=h;⟨dx,s _ _ e⟩
theorem CvA.sb {CC:Addr}{H H':Hp}{a:Addr}{c z:Str}(h:CvA CC H a c z)(s:Sb H H'):CvA CC H' a c z:=let ⟨dx,e⟩:=h;⟨dx,s _ _ rfl e⟩
def a8D (CC:Addr):Sp:=fun vs H Q _=>∃(a dx:Addr) (c z:Str),vs=[.ref a,.str c,.str z]/\H a=some (.ins CC dx [])/\∀H',(∀b o,b≠a->H b=some o->H' b=some o)->H' a=some (.ins CC dx (b1J c z))->Q .non H'
def a7l (CC:Addr):Sp:=fun vs H Q _=>∃(a:Addr) (c z:Str),vs=[.ref a]/\CvA CC H a c z/\∀p H',a0m H H'->H' p=some (.tup [.str "rows",.str c,.str z])->Q (.ref p) H'
def b2r:List (Str×Str):=[("list","many"),("some","some")]
def b3i:List (Str×Str):=[("many","list"),("some","some")]
def a0N (so:Str):Str:=if so="list" then "many" else "some"
def a2A (so:Str):Str:=if so="many" then "list" else "some"
def dts (D:List (Str×Str)):List (Str×KTD.Dat):=D.map fun p=>(p.1,KTD.Dat.flat (.str p.2))
def lo (c:List (Str×V))(z:Str):List (Str×V):=c.filter fun x=>decide (x.1≠z)
theorem a1v {c:List (Str×V)}(nd:(c.map (·.1)).Nodup){x:Str×V}(h:x∈c):vOf c x.1=x.2:=by
 obtain⟨i,hi⟩:=List.getElem?_of_mem h;exact b1E nd hi
theorem b1n {c c2:List (Str×V)}(p:(c2.map (·.1)).Perm (c.map (·.1)))(h:∀z∈c2.map (·.1),vOf c2 z=vOf c z):cnC c2=cnC c:=by
 unfold cnC;have e:srt (c2.map (·.1))=srt (c.map (·.1)):=b2o (a5X _) (a5X _) ((a1a _).trans (p.trans (a1a _).symm));rw[e];refine List.map_congr_left fun z hz=>?_;rw[h z (p.mem_iff.mpr ((a1a _).mem_iff.mp hz))]
theorem a0L.of {H:Hp}{c c2:List (Str×V)}(ok:a0L H c)(nd:(c2.map (·.1)).Nodup)(l:c2.length<=12)(h:∀p∈c2,p.1∈c.map (·.1)/\p.2=vOf c p.1):a0L H c2:=⟨nd,l,fun p hp=>by
 obtain⟨h1,h2⟩:=h p hp;rw[h2];exact a3k ok h1⟩
theorem FAt.cong {H:Hp}{f:Addr}{sz:Int}{T0 T0':Tb}{R R':List Tb}(h:FAt H f sz T0 R)(e:cn T0=cn T0')(p:(R.map cn).Perm (R'.map cn)):FAt H f sz T0' R':=by
 obtain⟨U,a,b,c⟩:=h;rw[e] at a;exact⟨U,a,b.trans p,c⟩
theorem FK.sb {H H':Hp}{f:Addr}{sz:Int}{T0:Tb}{R:List Tb}(h:FK H f sz T0 R)(s:Sb H H'):FK H' f sz T0 R:=⟨h.at_.sb s,h.ts,fun T hT=>(h.co T hT).sb s,h.sz1⟩
theorem a6w (ys:List Str)(g:Str->V):kvC (ys.map fun z=>(z,g z))=ys.map fun z=>(.inr z,g z):=by
 unfold kvC;rw[mC0]
 rfl
theorem a9B {ys:List Str}{g:Str->V}{z:Str}(h:z∈ys):vOf (ys.map fun z=>(z,g z)) z=g z:=by
 unfold vOf;rw[a6w,a7z h]
 rfl
theorem a7m (c:List (Str×V))(z:Str):a2m (kvC c) (.inr z)=kvC (c.filter fun x=>decide (x.1≠z)):=by
 unfold a2m kvC;rw[List.filter_map]
 congr 1
 refine List.filter_congr fun e _=>?_;show decide ((Sum.inr e.1:Key)≠.inr z)=decide (e.1≠z);rw[Bool.eq_iff_iff,decide_eq_true_iff,decide_eq_true_iff];exact⟨fun h q=>h (by rw[q]),fun h q=>h (by injection q)⟩
theorem a4Q {c:List (Str×V)}{z:Str}{v:V}(h:a1K (kvC c) (.inr z)=some v):z∈c.map (·.1):=by
 induction c with
 |nil=>cases h
 |cons x r ih=>
  by_cases e:x.1=z
  ·rw[<-e];exact List.mem_cons_self
  ·rw[show kvC (x::r)=(.inr x.1,x.2)::kvC r from rfl,a1B (fun q=>e (by injection q))] at h
   exact mL0 _ (ih h)
theorem a4V (c:List (Str×V))(z:Str):(lo c z).map (·.1)=(c.map (·.1)).filter fun y=>decide (y≠z):=by
 unfold lo;rw[List.filter_map]
 rfl
theorem b4x {c:List (Str×V)}{z:Str}(nd:(c.map (·.1)).Nodup):((lo c z).map (·.1)).Nodup:=nd.sublist (List.filter_sublist.map _)
theorem b1z {c:List (Str×V)}{z:Str}{x:Str×V}(h:x∈lo c z):x∈c:=(List.mem_filter.mp h).1
theorem b5B {c c1:List (Str×V)}(nd:(c.map (·.1)).Nodup)(p:(c1.map (·.1)).Perm (c.map (·.1)))(h:∀z∈c1.map (·.1),vOf c1 z=vOf c z)(z:Str):cnC (lo c1 z)=cnC (lo c z):=by
 have nd1:(c1.map (·.1)).Nodup:=p.nodup_iff.mpr nd;have v1:∀{d:List (Str×V)},(d.map (·.1)).Nodup->∀y∈(lo d z).map (·.1),vOf (lo d z) y=vOf d y:=fun {d} nd y hy=>by
  obtain⟨x,hx,rfl⟩:=mM0.mp hy;rw[a1v (b4x nd) hx,a1v nd (b1z hx)]
 have pp:((lo c1 z).map (·.1)).Perm ((lo c z).map (·.1)):=by
  rw[a4V,a4V];exact p.filter _
 refine b1n pp fun y hy=>?_;rw[v1 nd1 y hy,v1 nd y (pp.mem_iff.mp hy)];rw[a4V] at hy;exact h y (List.mem_filter.mp hy).1
section
variable {P:Program}{w:World}{K:Fg0}{mg:Str->Option Value}{base:Heap}{CC PF:Addr}
theorem b0K {f:Addr}{fd:FuncData}(F:Fun K "__init__" "Rows.__init__" (a0X (top 39) 0) f fd)(T:ClC K CC):a0F P w K mg base CX0 1 f fd ["self","column","side"] (a8D CC):=by
 have sc:a0o ["self","column","side"] ["self","column","side"] (a0f (a0X (top 39) 0)):=.k (by decide +kernel);refine F.ok sc (fun vs H Q E h=>?_) (fun cdv A outer s H vs Q E hr h=>?_)
 ·obtain⟨a,dx,c,z,rfl,_⟩:=h
  rfl
 ·obtain⟨a,dx,c,z,rfl,ha,q⟩:=h
  refine⟨_,a0d (b1k (pv 0) (pv 1) rfl) (a0h (b1k (pv 0) (pv 2) rfl)),?_⟩;refine⟨_,rfl,_,rfl,a,CC,dx,[],rfl,ha,T.cl,T.nC,(by show 0<1000;decide),?_⟩;have a1:(upd H a (.ins CC dx (a4k "column" (.str c) []))) a=some (.ins CC dx (a4k "column" (.str c) [])):=a0b;have k1:∀b o,b≠a->H b=some o->(upd H a (.ins CC dx (a4k "column" (.str c) []))) b=some o:=fun b o nb e=>(a0g nb).trans e;generalize upd H a (.ins CC dx (a4k "column" (.str c) []))=H1 at *;refine⟨_,rfl,_,rfl,a,CC,dx,_,rfl,a1,T.cl,T.nS,?_,?_⟩
  ·have:=a2W "column" (.str c) []
   simp only[List.length_nil] at this
   omega
  ·exact q _ (fun b o nb e=>(a0g nb).trans (k1 b o nb e)) a0b
theorem a8F {f:Addr}{fd:FuncData}(F:Fun K "words" "Rows.words" (a0X (top 39) 5) f fd)(T:ClC K CC):a0F P w K mg base CX0 1 f fd ["self"] (a7l CC):=by
 have sc:a0o ["self"] ["self"] (a0f (a0X (top 39) 5)):=.k (by decide +kernel);refine F.ok sc (fun vs H Q E h=>?_) (fun cdv A outer s H vs Q E hr h=>?_)
 ·obtain⟨a,c,z,rfl,_⟩:=h
  rfl
 ·obtain⟨a,c,z,rfl,⟨dx,ha⟩,q⟩:=h
  refine⟨_,a0h (a0u (a0M (a0a a0H (a0a (a1s (pv 0) rfl) (a0a (a1s (pv 0) rfl) a0c))))),?_⟩;exact⟨_,rfl,a,CC,dx,_,_,rfl,ha,T.cl,T.nC,a1h _ _,_,rfl,a,CC,dx,_,_,rfl,ha,T.cl,T.nS,a1O _ _,(by show 3<=sizeLine;decide),fun p hp=>q p _ (a0m.upd hp) a0b⟩
def a8w (CC PF:Addr):Sp:=fun vs H Q _=>∃(a f k:Addr) (c z so:Str) (u:V) (d:Dt) (sz:Int) (T0:Tb) (R:List Tb),vs=[.ref a,.ref f]/\CvA CC H a c z/\FK H f sz T0 R/\a2D PF a3x foQ H/\a1P z=true/\z∉(T0::R).map (·.name)/\R.length<=5/\c∈T0.cols.map (·.1)/\vOf T0.cols c=.ref k/\H k=some (.tup [.str so,u])/\(so="list"\/so="some")/\Rep H d u/\a1N d=true/\a2d d=true ∧
 ∀f' H',Sb H H'->Fr PF H H'->a2D PF a3x foQ H'->FAt H' f' sz ⟨T0.name,T0.sort,lo T0.cols c⟩ (R++[⟨z,a0N so,[(c,u)]⟩])->Q (.ref f') H'
structure Fms (P:Program) (w:World) (K:Fg0) (mg:Str->Option Value) (base:Heap) (PF fS fH fC fF fW fT:Addr) (fdS fdH fdC fdF fdW fdT:FuncData):Prop where
 DS:Df K mg "ask_new_side" (top 40) fS fdS
 GS:a0F P w K mg base CX0 2 fS fdS ["form","side"] a5K
 DH:Df K mg "head_of" (top 23) fH fdH
 DC:Df K mg "columns_of" (top 25) fC fdC
 GC:a0F P w K mg base CX0 2 fC fdC ["form","table"] a3i
 DF:Df K mg "ask_fit" (top 34) fF fdF
 DW:Df K mg "with_columns" (top 28) fW fdW
 GW:a0F P w K mg base CX0 7 fW fdW ["form","table","columns"] (a4W PF)
 DT:Df K mg "with_table" (top 29) fT fdT
 GT:a0F P w K mg base CX0 7 fT fdT ["form","name","sort","columns"] (a6J PF)
theorem a9g {c:List (Str×V)}{z:Str}(h:z∈c.map (·.1)):a1K (kvC c) (.inr z)=some (vOf c z):=a7v h
theorem a9c {so:Str}(h:so="list"\/so="some"):KTD.inKeys so (dts b2r)=true/\b2r.lookup so=some (a0N so)/\a0N so∈a4o:=by
 rcases h with rfl |rfl
 ·exact⟨by decide +kernel,by decide +kernel,by decide +kernel⟩
 ·exact⟨by decide +kernel,by decide +kernel,by decide +kernel⟩
theorem a4s {d:Dt}(h:a1N d=true):a2y d=true:=by unfold a2y;rw[h];rfl
theorem b0s {f fS fH fC fF fW fT aR:Addr}{fd fdS fdH fdC fdF fdW fdT:FuncData}(F:Fun K "after" "Rows.after" (a0X (top 39) 1) f fd)(T:ClC K CC)(M:Fms P w K mg base PF fS fH fC fF fW fT fdS fdH fdC fdF fdW fdT)(mR:mg "SORT_OF_ROWS"=some (.ref aR))(kR:b2Y K aR (dts b2r)) :
  a0F P w K mg base CX0 8 f fd ["self","form"] (a8w CC PF):=by
 have sc:a0o ["self","form","head","columns","kind","lesser"] ["self","form"] (a0f (a0X (top 39) 1)):=.k (by decide +kernel);have GH:a0F P w K mg base CX0 1 fH fdH ["form"] a5x:=a4P M.DH.fn;have GF:a0F P w K mg base CX0 1 fF fdF ["fine"] a8G:=a7x M.DF.fn;have bS:=M.DS.fn.b2 "form" "side" (by intros;rfl);have bH:=M.DH.fn.b1 "form" (by intros;rfl);have bC:=M.DC.fn.b2 "form" "table" (by intros;rfl);have bF:=M.DF.fn.b1 "fine" (by intros;rfl);have bW:=M.DW.fn.b3 "form" "table" "columns" (by intros;rfl);have bT:=M.DT.fn.b4 "form" "name" "sort" "columns" (by intros;rfl);refine F.ok sc (fun vs H Q E h=>?_) (fun cdv A outer s H vs Q E hr h=>?_)
 ·obtain⟨a,f,k,c,z,so,u,d,sz,T0,R,rfl,_⟩:=h
  rfl
 ·obtain⟨a,f,k,c,z,so,u,d,sz,T0,R,rfl,⟨dx,ha⟩,fk,tab,hn,hz,r5,hc,vk,hk,hso,rd,pd,nd,q⟩:=h
  have hu:=a2E hr;have hr1:a1r 1 _:=hr.mono (by decide);have hr2:a1r 2 _:=hr.mono (by decide);obtain⟨i1,i2,i3⟩:=a9c hso;refine⟨_,a0d (a1t (a0i M.GS hr2 (by rfl) M.DS.mg M.DS.fn.kp bS .nil a0r (a0a (pv 1) (a0a (a1s (pv 0) rfl) a0c))))
   (a0d (a0E (i:=2) sc.nd rfl (Or.inl rfl) (a0i GH hr1 (by rfl) M.DH.mg M.DH.fn.kp bH .nil a0r (a0a (pv 1) a0c)))
   (a0d (a0E (i:=3) sc.nd rfl (Or.inl rfl) (a0i M.GC hr2 (by rfl) M.DC.mg M.DC.fn.kp bC .nil a0r (a0a (pv 1) (a0a (pv 2) a0c))))
   (a0d (a1t (a0i GF hr1 (by rfl) M.DF.mg M.DF.fn.kp bF .nil a0r (a0a (a1V (b1L (b3O hu (a1s (pv 0) rfl) (pv 3))) (a2w (a1d a5y (a0x a0P (a1F hu (pv 3) (a1s (pv 0) rfl) (fun _ _=>rfl)) a0e (fun _ _=>rfl)) (a2H (v:=.ref aR) (by rfl) mR rfl) (by with_unfolding_all rfl)))) a0c)))
   (a0d (a0E (i:=4) sc.nd rfl (Or.inl rfl) (a4Y (pv 3) (a1s (pv 0) rfl) ⟨rfl,rfl,rfl,rfl⟩))
   (a0d (a0E (i:=5) sc.nd rfl (Or.inl rfl) (a0i M.GW hr (by rfl) M.DW.mg M.DW.fn.kp bW .nil a0r (a0a (pv 1) (a0a (pv 2) (a0a (pv 3) a0c)))))
   (a0h (a0u (a0i M.GT hr (by rfl) M.DT.mg M.DT.fn.kp bT .nil a0r (a0a (pv 5) (a0a (a1s (pv 0) rfl) (a0a (a0x b1H (a2H (v:=.ref aR) (by rfl) mR rfl) (a0x a0P (pv 4) a0e (fun _ _=>rfl)) (fun _ _=>rfl)) (a0a (a2p (a1G (a1s (pv 0) rfl) (a0x a0P (pv 4) a0e (fun _ _=>rfl)) a2t) rfl rfl (by simp) (by decide)) a0c)))))))))))),?_⟩
  obtain⟨U,hF,hU,fx,co,t8,tsU,eU⟩:=fk.get;have pN:=a4L (T0:=T0) hU;have okc:=fk.co T0 List.mem_cons_self;refine⟨_,rfl,_,rfl,a,CC,dx,_,_,rfl,ha,T.cl,T.nS,a1O _ _,f,sz,cn T0::U,z,rfl,hF,t8,hn,(fun h=>hz (pN.mem_iff.mp h)),fun H1 s1=>?_⟩;refine⟨_,rfl,f,sz,cn T0,U,rfl,hF.same s1,?_⟩;refine⟨_,rfl,_,rfl,f,sz,cn T0::U,cn T0,rfl,hF.same s1,tsU.2.1,List.mem_cons_self,okc.cn.1,okc.cn.2.1,fun cp H2 ys hcp s2 py _ ecp=>?_⟩;have S2:=s1.trans s2;have py':ys.Perm (T0.cols.map (·.1)):=py.trans (by rw[show(cn T0).cols=cnC T0.cols from rfl,a1A];exact a1a _);have ecp':H2 cp=some (.dK (kvC (ys.map fun z=>(z,vOf (cn T0).cols z)))):=by rw[a6w];exact ecp
  have nc:((ys.map fun z=>(z,vOf (cn T0).cols z)).map (·.1))=ys:=by rw[mC0];exact List.map_id' _
  have vc:∀y∈ys,vOf (ys.map fun z=>(z,vOf (cn T0).cols z)) y=vOf T0.cols y:=fun y hy=>by
   rw[a9B hy];exact a3O (py'.mem_iff.mp hy)
  have ndy:ys.Nodup:=py'.nodup_iff.mpr okc.1;have yl:ys.length<=12:=by rw[py'.length_eq,lM0];exact okc.2.1
  have lc1:(ys.map fun z=>(z,vOf (cn T0).cols z)).length=ys.length:=lM0 ..;generalize ys.map (fun z=>(z,vOf (cn T0).cols z))=c1 at *;have hcy:c∈ys:=py'.mem_iff.mpr hc;have hv:a1K (kvC c1) (.inr c)=some (.ref k):=by rw[a9g (by rw[nc];exact hcy),vc c hcy,vk]
  refine⟨_,rfl,a,CC,dx,_,_,rfl,S2 _ _ ha,T.cl,T.nC,a1h _ _,_,rfl,cp,_,rfl,.inl ⟨_,.inr c,.inl ecp',rfl,hv.symm⟩,_,rfl,a5p ?_⟩;refine⟨_,rfl,_,rfl,a,CC,dx,_,_,rfl,S2 _ _ ha,T.cl,T.nC,a1h _ _,cp,_,rfl,.inl ⟨_,.inr c,.inl ecp',rfl,hv.symm⟩,k,_,0,_,rfl,rfl,SqT.of (S2 _ _ hk),rfl,so,aR,dts b2r,rfl,rfl,kR,?_,?_⟩
  ·show[V.bl (KTD.inKeys so (dts b2r))]=[V.bl true]
   rw[i1]
  refine⟨_,rfl,cp,rfl,.inl ⟨_,.inl ecp'⟩,_,rfl,a,CC,dx,_,_,rfl,S2 _ _ ha,T.cl,T.nC,a1h _ _,_,.inr c,_,ecp',rfl,hv,?_⟩;rw[show a2m (kvC c1) (.inr c)=kvC (lo c1 c) from a7m c1 c];have hcp0:H cp=none:=a0B s1 hcp;have S3:a0m H (upd H2 cp (.dK (kvC (lo c1 c)))):=S2.put hcp0;have e3:=a0b (H:=H2) (a:=cp) (o:=.dK (kvC (lo c1 c)));have k3:∀b o,b≠cp->H2 b=some o->(upd H2 cp (.dK (kvC (lo c1 c)))) b=some o:=fun b o nb e=>(a0g nb).trans e;generalize upd H2 cp (.dK (kvC (lo c1 c)))=H3 at *;have fk3:=fk.sb S3.sb;have ok3:a0L H3 T0.cols:=okc.same S3;have okl:a0L H3 (lo c1 c):=ok3.of (b4x (by rw[nc];exact ndy)) (Nat.le_trans (List.length_filter_le _ _) (by rw[lc1];exact yl)) fun x hx=>by
   have hx1:=b1z hx;have hx2:x.1∈ys:=by rw[<-nc];exact mM0.mpr ⟨x,hx1,rfl⟩
   exact⟨py'.mem_iff.mp hx2,by rw[<-vc x.1 hx2,a1v (by rw[nc];exact ndy) hx1]⟩
  refine⟨_,rfl,_,rfl,_,rfl,f,sz,T0,R,T0.name,cp,lo c1 c,rfl,fk3,tab.same S3,(by rw[mN0];exact List.mem_cons_self),e3,okl,fun f1 H5 sb5 fr5 tb5 fa5=>?_⟩;have B5:=S3.sb.trans sb5;have rc0:rc T0.name (lo c1 c) T0=⟨T0.name,T0.sort,lo c1 c⟩:=if_pos rfl;have rcR:R.map (rc T0.name (lo c1 c))=R:=by
   have:∀X∈R,rc T0.name (lo c1 c) X=X:=fun X hX=>if_neg fun e=>by
    have:=fk.ts.2.1
    rw[mN0,List.nodup_cons] at this;exact this.1 (by rw[<-e];exact mM0.mpr ⟨X,hX,rfl⟩)
   rw[List.map_congr_left this];exact List.map_id' _
  rw[rc0,rcR] at fa5;have ha5:=B5 _ _ rfl ha;have hk5:=B5 _ _ rfl hk;have fk5:FK H5 f1 sz ⟨T0.name,T0.sort,lo c1 c⟩ R:=⟨fa5,fk.ts.perm rfl (.refl _),fun X hX=>by
   rcases mK0.mp hX with rfl |hX
   ·exact okl.sb sb5
   ·exact(fk.co X (mL0 _ hX)).sb B5,fk.sz1⟩
  refine⟨_,rfl,_,rfl,a,CC,dx,_,_,rfl,ha5,T.cl,T.nS,a1O _ _,_,rfl,k,_,0,_,rfl,rfl,SqT.of hk5,rfl,so,aR,b2r,a0N so,rfl,rfl,kR,i2,fun p hp=>?_⟩;have T6:=a0m.upd (o:=.dK []) hp;refine⟨_,rfl,a,CC,dx,_,_,rfl,T6 _ _ ha5,T.cl,T.nC,a1h _ _,_,rfl,k,_,1,_,rfl,rfl,SqT.of (T6 _ _ hk5),rfl,a0b,[(.inr c,u)],rfl,(by decide:1<=15),?_⟩;have s6:a0m H5 (upd (upd H5 p (.dK [])) p (.dK (a0R [] [((.inr c:Key),u)]))):=T6.put hp;have e6:(upd (upd H5 p (.dK [])) p (.dK (a0R [] [((.inr c:Key),u)]))) p=some (.dK (kvC [(c,u)])):=a0b;generalize upd (upd H5 p (.dK [])) p (.dK (a0R [] [((.inr c:Key),u)]))=H6 at *;have okr:a0L H6 [(c,u)]:=⟨List.nodup_cons.mpr ⟨List.not_mem_nil,List.nodup_nil⟩,(by show 1<=12;decide),fun x hx=>by
   rw[mS0.mp hx];exact⟨(a3k okc hc).1,d,(Rep.sb (B5.trans s6.sb) rd),a4s pd,nd⟩⟩
  obtain⟨t7,tnd,tn,th,tss⟩:=fk.ts;refine⟨f1,sz,⟨T0.name,T0.sort,lo c1 c⟩,R,z,a0N so,p,[(c,u)],rfl,fk5.sb s6.sb,e6,okr,tb5.same s6,⟨?_,?_,fun X hX=>?_,th,fun X hX=>?_⟩,fun f2 H7 sb7 fr7 tb7 fa7=>?_⟩
  ·rw[lA0]
   show R.length+1<=7
   omega
  ·show(T0.name::(R++[(⟨z,a0N so,[(c,u)]⟩:Tb)]).map (fun X:Tb=>X.name)).Nodup
   rw[mA0,<-List.cons_append,List.nodup_append];refine⟨tnd,by simp,fun x hx y hy e=>?_⟩
   have:y=z:=by simpa using hy
   rw[e,this] at hx;exact hz hx
  ·rcases mK0.mp hX with rfl |hX
   ·exact tn T0 List.mem_cons_self
   ·rcases mB0.mp hX with hX |hX
    ·exact tn X (mL0 _ hX)
    ·rw[mS0.mp hX];exact hn
  ·rcases mB0.mp hX with hX |hX
   ·exact tss X hX
   ·rw[mS0.mp hX];exact i3
  ·refine q f2 H7 ((B5.trans s6.sb).trans sb7) (fun b o nb e=>fr7 b o nb (s6 _ _ (fr5 b o nb (S3 _ _ e)))) tb7 (fa7.cong ?_ (.refl _))
   show(⟨T0.name,T0.sort,cnC (lo c1 c)⟩:Tb)=⟨T0.name,T0.sort,cnC (lo T0.cols c)⟩
   rw[b5B okc.1 (by rw[nc];exact py') (fun y hy=>vc y (by rw[<-nc];exact hy)) c]
def a6R (CC PF:Addr):Sp:=fun vs H Q _=>∃(a f:Addr) (c z:Str) (u:V) (d:Dt) (sz:Int) (T0 Tz:Tb) (R:List Tb),vs=[.ref a,.ref f]/\CvA CC H a c z/\FK H f sz T0 R/\a2D PF a3x foQ H/\Tz∈R/\Tz.name=z/\(Tz.sort="many"\/Tz.sort="some")/\Tz.cols=[(c,u)]/\Rep H d u/\a1N d=true/\a2d d=true/\T0.cols.length<=11/\c∉T0.cols.map (·.1) ∧
 ∀f' k H',Sb H H'->Fr PF H H'->a2D PF a3x foQ H'->H' k=some (.tup [.str (a2A Tz.sort),u])->FAt H' f' sz ⟨T0.name,T0.sort,T0.cols++[(c,.ref k)]⟩ (R.filter (nz z))->Q (.ref f') H'
structure Fmb (P:Program) (w:World) (K:Fg0) (mg:Str->Option Value) (base:Heap) (PF fI fS fO fL:Addr) (fdI fdS fdO fdL:FuncData):Prop where
 DI:Df K mg "columns_in" (top 35) fI fdI
 GI:a0F P w K mg base CX0 3 fI fdI ["form","table"] a7c
 DS:Df K mg "sort_of" (top 24) fS fdS
 GS:a0F P w K mg base CX0 2 fS fdS ["form","table"] a7o
 DO:Df K mg "without_table" (top 30) fO fdO
 GO:a0F P w K mg base CX0 7 fO fdO ["form","name"] (a3E PF)
 DL:Df K mg "is_plain" (top 13) fL fdL
 GL:a0F P w K mg base CX0 3 fL fdL ["thing"] a5j
theorem b2V {so:Str}(h:so="many"\/so="some"):KTD.inKeys so (dts b3i)=true/\b3i.lookup so=some (a2A so)/\(a2A so="list"\/a2A so="some"):=by
 rcases h with rfl |rfl
 ·exact⟨by decide +kernel,by decide +kernel,by decide +kernel⟩
 ·exact⟨by decide +kernel,by decide +kernel,by decide +kernel⟩
theorem a2X {so:Str}{d:Dt}(h:so="list"\/so="some")(p:a1N d=true):a2y (.tup [.str so,d])=true:=by
 have:a9C (.tup [.str so,d])=true:=by
  show(w3.any (a1x (.str so))&&a1N d)=true
  rw[p,Bool.and_true];rcases h with rfl |rfl<;>decide +kernel
 unfold a2y;rw[this,Bool.or_true]
theorem a8t {f_ fH fC fF fW fI fS fO fL aT:Addr}{fd fdH fdC fdF fdW fdI fdS fdO fdL:FuncData}(F:Fun K "before" "Rows.before" (a0X (top 39) 2) f_ fd)(B:Bl mg)(T:ClC K CC)(M:Fmb P w K mg base PF fI fS fO fL fdI fdS fdO fdL)(DH:Df K mg "head_of" (top 23) fH fdH)(DC:Df K mg "columns_of" (top 25) fC fdC)(GC:a0F P w K mg base CX0 2 fC fdC ["form","table"] a3i)(DF:Df K mg "ask_fit" (top 34) fF fdF)(DW:Df K mg "with_columns" (top 28) fW fdW)(GW:a0F P w K mg base CX0 7 fW fdW ["form","table","columns"] (a4W PF))(mT:mg "SORT_OF_TUPLES"=some (.ref aT))(kT:b2Y K aT (dts b3i)) :
  a0F P w K mg base CX0 8 f_ fd ["self","form"] (a6R CC PF):=by
 have sc:a0o ["self","form","had","sort","head","columns"] ["self","form"] (a0f (a0X (top 39) 2)):=.k (by decide +kernel);have GH:a0F P w K mg base CX0 1 fH fdH ["form"] a5x:=a4P DH.fn;have GF:a0F P w K mg base CX0 1 fF fdF ["fine"] a8G:=a7x DF.fn;have bI:=M.DI.fn.b2 "form" "table" (by intros;rfl);have bS:=M.DS.fn.b2 "form" "table" (by intros;rfl);have bO:=M.DO.fn.b2 "form" "name" (by intros;rfl);have bL:=M.DL.fn.b1 "thing" (by intros;rfl);have bH:=DH.fn.b1 "form" (by intros;rfl);have bC:=DC.fn.b2 "form" "table" (by intros;rfl);have bF:=DF.fn.b1 "fine" (by intros;rfl);have bW:=DW.fn.b3 "form" "table" "columns" (by intros;rfl);refine F.ok sc (fun vs H Q E h=>?_) (fun cdv A outer s H vs Q E hr h=>?_)
 ·obtain⟨a,f,c,z,u,d,sz,T0,Tz,R,rfl,_⟩:=h
  rfl
 ·obtain⟨a,f,c,z,u,d,sz,T0,Tz,R,rfl,⟨dx,ha⟩,fk,tab,hTz,rfl,hso,ecz,rd,pd,nd,l11,dj,q⟩:=h
  have hu:=a2E hr;have hr1:a1r 1 _:=hr.mono (by decide);have hr2:a1r 2 _:=hr.mono (by decide);have hr3:a1r 3 _:=hr.mono (by decide);obtain⟨i1,i2,i3⟩:=b2V hso;refine⟨_,a0d (a0E (i:=2) sc.nd rfl (Or.inl rfl) (a0i M.GI hr3 (by rfl) M.DI.mg M.DI.fn.kp bI .nil a0r (a0a (pv 1) (a0a (a1s (pv 0) rfl) a0c))))
   (a0d (a0E (i:=3) sc.nd rfl (Or.inl rfl) (a0i M.GS hr2 (by rfl) M.DS.mg M.DS.fn.kp bS .nil a0r (a0a (pv 1) (a0a (a1s (pv 0) rfl) a0c))))
   (a0d (a1t (a0i GF hr1 (by rfl) DF.mg DF.fn.kp bF .nil a0r (a0a (a1V (a1d a5y (pv 3) (a2H (v:=.ref aT) (by rfl) mT rfl) (by with_unfolding_all rfl)) (a1V (a1d b3K (a1k (a7O rfl) (by rfl) B.list boot_list (a0a (pv 2) a0c)) (a1R (a0a (a1s (pv 0) rfl) a0c)) (a0t _)) (a2w (a0i M.GL hr3 (by rfl) M.DL.mg M.DL.fn.kp bL .nil a0r (a0a (a1F hu (pv 2) (a1s (pv 0) rfl) (fun _ _=>rfl)) a0c))))) a0c)))
   (a0d (a0E (i:=4) sc.nd rfl (Or.inl rfl) (a0i GH hr1 (by rfl) DH.mg DH.fn.kp bH .nil a0r (a0a (pv 1) a0c)))
   (a0d (a0E (i:=5) sc.nd rfl (Or.inl rfl) (a0i GC hr2 (by rfl) DC.mg DC.fn.kp bC .nil a0r (a0a (pv 1) (a0a (pv 4) a0c))))
   (a0d (a1t (a0i GF hr1 (by rfl) DF.mg DF.fn.kp bF .nil a0r (a0a (b1L (a6j hu (a1s (pv 0) rfl) (pv 5))) a0c)))
   (a0d (a1y hu (pv 5) (a1s (pv 0) rfl) (a0M (a0a (a0x b1H (a2H (v:=.ref aT) (by rfl) mT rfl) (pv 3) (fun _ _=>rfl)) (a0a (a1F hu (pv 2) (a1s (pv 0) rfl) (fun _ _=>rfl)) a0c))) rfl)
   (a0h (a0u (a0i GW hr (by rfl) DW.mg DW.fn.kp bW .nil a0r (a0a (a0i M.GO hr (by rfl) M.DO.mg M.DO.fn.kp bO .nil a0r (a0a (pv 1) (a0a (a1s (pv 0) rfl) a0c))) (a0a (pv 4) (a0a (pv 5) a0c)))))))))))),?_⟩
  obtain⟨U,hF,hU,fx,co,t8,tsU,eU⟩:=fk.get;have okc:=fk.co T0 List.mem_cons_self;have okz:=fk.co Tz (mL0 _ hTz);have hTU:cn Tz∈U:=hU.mem_iff.mpr (mM0.mpr ⟨Tz,hTz,rfl⟩);refine⟨_,rfl,_,rfl,a,CC,dx,_,_,rfl,ha,T.cl,T.nS,a1O _ _,f,sz,cn T0::U,cn Tz,rfl,hF,t8,tsU.2.1,mL0 _ hTU,okz.cn.1,okz.cn.2.1,fun hp H1 ys hph s1 py so1 e1=>?_⟩;have py':ys.Perm [c]:=py.trans (by rw[show(cn Tz).cols=cnC Tz.cols from rfl,a1A];exact(a1a _).trans (by rw[ecz];exact .refl _));obtain rfl:ys=[c]:=List.perm_singleton.mp py';have e1':H1 hp=some (.dK [(.inr c,u)]):=by
   have:vOf (cn Tz).cols c=u:=by
    show vOf (cnC Tz.cols) c=u;rw[a3O (by rw[ecz];exact List.mem_cons_self),ecz];exact a1v (c:=[(c,u)]) (List.nodup_cons.mpr ⟨List.not_mem_nil,List.nodup_nil⟩) List.mem_cons_self
   rw[<-this];exact e1
  have hv:a1K [((.inr c:Key),u)] (.inr c)=some u:=a1g rfl;refine⟨_,rfl,_,rfl,a,CC,dx,_,_,rfl,s1 _ _ ha,T.cl,T.nS,a1O _ _,f,sz,cn T0::U,cn Tz,rfl,hF.same s1,tsU.2.1,mL0 _ hTU,?_⟩;refine⟨_,rfl,Tz.sort,aT,dts b3i,rfl,rfl,kT,_,rfl,?_⟩;rw[i1];refine a5p ⟨_,rfl,hp,_,[c],rfl,.inl e1',rfl,fun l1 hl1=>?_⟩;have T2:=a0m.upd (o:=.lst ([c].map V.str)) hl1;have e2:=a0b (H:=H1) (a:=l1) (o:=.lst ([c].map V.str));generalize upd H1 l1 (.lst ([c].map V.str))=H2 at *;have S2:=s1.trans T2;refine⟨_,rfl,a,CC,dx,_,_,rfl,S2 _ _ ha,T.cl,T.nC,a1h _ _,(by show 1<=sizeLine;decide),fun l2 hl2=>?_⟩;have T3:=a0m.upd (o:=.lst [V.str c]) hl2;have e3:=a0b (H:=H2) (a:=l2) (o:=.lst [V.str c]);generalize upd H2 l2 (.lst [V.str c])=H3 at *;have S3:=S2.trans T3;have hp3:=T3 _ _ (T2 _ _ e1');refine⟨0,l1,l2,_,_,rfl,rfl,SqL.of (T3 _ _ e2),SqL.of e3,rfl,(fun i x y c1 c2=>?_),hu,_,rfl,a5p ?_⟩
  ·match i,c1,c2 with
   |0,c1,c2=>cases c1;cases c2;exact .str
  refine⟨_,rfl,_,rfl,a,CC,dx,_,_,rfl,S3 _ _ ha,T.cl,T.nC,a1h _ _,hp,_,rfl,.inl ⟨_,.inr c,.inl hp3,rfl,hv.symm⟩,u,d,rfl,rd.same S3,fun H4 s4=>?_⟩;refine⟨?_,?_⟩
  ·show[V.bl (a1N d)]=[V.bl true]
   rw[pd]
  have S4:=S3.trans s4;refine⟨_,rfl,f,sz,cn T0,U,rfl,hF.same S4,?_⟩;refine⟨_,rfl,_,rfl,f,sz,cn T0::U,cn T0,rfl,hF.same S4,tsU.2.1,List.mem_cons_self,okc.cn.1,okc.cn.2.1,fun cp H5 ws hcp s5 pw _ e5=>?_⟩;have pw':ws.Perm (T0.cols.map (·.1)):=pw.trans (by rw[show(cn T0).cols=cnC T0.cols from rfl,a1A];exact a1a _);have e5':H5 cp=some (.dK (kvC (ws.map fun z=>(z,vOf (cn T0).cols z)))):=by rw[a6w];exact e5
  have nw:((ws.map fun z=>(z,vOf (cn T0).cols z)).map (·.1))=ws:=by rw[mC0];exact List.map_id' _
  have vw:∀y∈ws,vOf (ws.map fun z=>(z,vOf (cn T0).cols z)) y=vOf T0.cols y:=fun y hy=>by
   rw[a9B hy];exact a3O (pw'.mem_iff.mp hy)
  have ndw:ws.Nodup:=pw'.nodup_iff.mpr okc.1;have wl:ws.length=T0.cols.length:=by rw[pw'.length_eq,lM0]
  have lw:(ws.map fun z=>(z,vOf (cn T0).cols z)).length=ws.length:=lM0 ..;generalize ws.map (fun z=>(z,vOf (cn T0).cols z))=c5 at *;have hcw:c∉c5.map (·.1):=by rw[nw];exact fun h=>dj (pw'.mem_iff.mp h)
  have nv:a1K (kvC c5) (.inr c)=none:=by
   cases e:a1K (kvC c5) (.inr c) with
   |none=>rfl
   |some v=>exact absurd (a4Q e) hcw
  have S5:=S4.trans s5;have hp5:=s5 _ _ (s4 _ _ hp3);refine⟨_,rfl,a,CC,dx,_,_,rfl,S5 _ _ ha,T.cl,T.nC,a1h _ _,_,rfl,cp,none,rfl,.inl ⟨_,.inr c,.inl e5',rfl,nv.symm⟩,rfl,?_⟩;refine⟨_,rfl,Tz.sort,aT,b3i,a2A Tz.sort,rfl,rfl,kT,i2,_,rfl,_,rfl,a,CC,dx,_,_,rfl,S5 _ _ ha,T.cl,T.nC,a1h _ _,hp,_,rfl,.inl ⟨_,.inr c,.inl hp5,rfl,hv.symm⟩,(by show 2<=sizeLine;decide),fun k hk=>?_⟩;have T6:=a0m.upd (o:=.tup [.str (a2A Tz.sort),u]) hk;have e6:=a0b (H:=H5) (a:=k) (o:=.tup [.str (a2A Tz.sort),u]);generalize upd H5 k (.tup [.str (a2A Tz.sort),u])=H6 at *;have S6:=S5.trans T6;have ec6:=T6 _ _ e5';refine⟨_,rfl,_,rfl,a,CC,dx,_,_,rfl,S6 _ _ ha,T.cl,T.nC,a1h _ _,cp,_,rfl,a5w.k (k:=.inr c) ec6 (by unfold kvC;rw[lM0,lw,wl,sizeLine_eq];omega),?_⟩;rw[L2.a2e _ nv,show kvC c5++[((.inr c:Key),V.ref k)]=kvC (c5++[(c,.ref k)]) by unfold kvC;rw[mA0];rfl];have hcp0:H cp=none:=a0B S4 hcp;have S7:a0m H (upd H6 cp (.dK (kvC (c5++[(c,.ref k)])))):=S6.put hcp0;have e7:=a0b (H:=H6) (a:=cp) (o:=.dK (kvC (c5++[(c,.ref k)])));have k7:(upd H6 cp (.dK (kvC (c5++[(c,.ref k)])))) k=some (.tup [.str (a2A Tz.sort),u]):=(a0g (fun e=>by rw[e,ec6] at e6;cases e6)).trans e6;generalize upd H6 cp (.dK (kvC (c5++[(c,.ref k)])))=H7 at *;have fk7:=fk.sb S7.sb;refine⟨_,rfl,_,rfl,a,CC,dx,_,_,rfl,S7 _ _ ha,T.cl,T.nS,a1O _ _,f,sz,T0,R,Tz.name,rfl,fk7,tab.same S7,mM0.mpr ⟨Tz,hTz,rfl⟩,fun f1 H8 sb8 fr8 tb8 fa8=>?_⟩;have B8:=S7.sb.trans sb8;have fk8:FK H8 f1 sz T0 (R.filter (nz Tz.name)):=⟨fa8,fk.ts.filter _,fun X hX=>by
   rcases mK0.mp hX with rfl |hX
   ·exact okc.sb B8
   ·exact(fk.co X (mL0 _ (List.mem_filter.mp hX).1)).sb B8,fk.sz1⟩
  have k8:=sb8 _ _ rfl k7;have ndj:((c5++[(c,V.ref k)]).map (·.1)).Nodup:=by
   rw[mA0,List.nodup_append];refine⟨by rw[nw];exact ndw,by simp,fun x hx y hy e=>?_⟩
   have:y=c:=by simpa using hy
   rw[e,this] at hx;exact hcw hx
  have okj:a0L H8 (c5++[(c,.ref k)]):=by
   refine⟨ndj,?_,fun x hx=>?_⟩
   ·rw[lA0,lw,wl]
    show T0.cols.length+1<=12
    omega
   ·rcases mB0.mp hx with hx |hx
    ·have hx2:x.1∈ws:=by rw[<-nw];exact mM0.mpr ⟨x,hx,rfl⟩
     rw[show x.2=vOf T0.cols x.1 by rw[<-vw x.1 hx2,a1v (by rw[nw];exact ndw) hx]];exact a3k (okc.sb B8) (pw'.mem_iff.mp hx2)
    ·rw[mS0.mp hx]
     refine⟨(a3k okz (by rw[ecz];exact List.mem_cons_self)).1,.tup [.str (a2A Tz.sort),d],?_,a2X i3 pd,?_⟩
     ·simp only[Rep,a2c]
      exact⟨k,_,rfl,k8,_,_,rfl,⟨rfl,by rcases i3 with e |e<;>rw[e]<;>decide +kernel⟩,u,[],rfl,Rep.sb B8 rd,rfl⟩
     ·simp only[a2d,a3s,nd,Bool.and_true]
  refine⟨_,rfl,_,rfl,f1,sz,T0,R.filter (nz Tz.name),T0.name,cp,_,rfl,fk8,tb8,(by rw[mN0];exact List.mem_cons_self),sb8 _ _ rfl e7,okj,fun f2 H9 sb9 fr9 tb9 fa9=>?_⟩;refine q f2 k H9 (B8.trans sb9) (fun b o nb e=>fr9 b o nb (fr8 b o nb (S7 _ _ e))) tb9 (sb9 _ _ rfl k8) (fa9.cong ?_ ?_)
  ·unfold rc
   rw[if_pos rfl]
   show(⟨T0.name,T0.sort,cnC _⟩:Tb)=⟨T0.name,T0.sort,cnC _⟩
   congr 1
   have nT:((T0.cols++[(c,V.ref k)]).map (·.1)).Nodup:=by
    rw[mA0,List.nodup_append];refine⟨okc.1,by simp,fun x hx y hy e=>?_⟩
    have:y=c:=by simpa using hy
    rw[e,this] at hx;exact dj hx
   refine b1n ?_ fun y hy=>?_
   ·rw[mA0,mA0,nw]
    exact pw'.append (.refl _)
   ·obtain⟨x,hx,rfl⟩:=mM0.mp hy
    rw[a1v ndj hx];rcases mB0.mp hx with hx |hx
    ·have hx2:x.1∈ws:=by rw[<-nw];exact mM0.mpr ⟨x,hx,rfl⟩
     obtain⟨x0,hx0,e0⟩:=mM0.mp (pw'.mem_iff.mp hx2);rw[show x.2=vOf T0.cols x.1 by rw[<-vw x.1 hx2,a1v (by rw[nw];exact ndw) hx],<-e0,a1v okc.1 hx0,a1v nT (List.mem_append_left _ hx0)]
    ·rw[a1v nT (List.mem_append_right _ hx)]
  ·have hq:∀X∈R.filter (nz Tz.name),rc T0.name (c5++[(c,V.ref k)]) X=X:=fun X hX=>if_neg fun e=>by
    have:=fk.ts.2.1
    rw[mN0,List.nodup_cons] at this;exact this.1 (by rw[<-e];exact mM0.mpr ⟨X,(List.mem_filter.mp hX).1,rfl⟩)
   rw[List.map_congr_left hq,List.map_id']
end
theorem a6x.same {H H':Hp}{pc:Pc}(h:a6x H pc)(s:a0m H H'):a6x H' pc:=⟨h.nd,h.le,h.rl,fun t ht row hr=>⟨(h.rw_ t ht row hr).1,fun c hc=>by
 rcases (h.rw_ t ht row hr).2 c hc with h1 |⟨a,xs,h1,h2⟩
 ·exact .inl h1
 ·exact .inr ⟨a,xs,h1,s _ _ h2⟩⟩⟩
structure Lay (G:Hp) (p l0 r0:Addr) (n0:Str) (row:Rw) (pr:Pc) (ls:List Addr):Prop where
 e:G p=some (.dK ((.inr n0,.ref l0)::zK (pr.map (·.1)) ls))
 l:G l0=some (.lst [V.ref r0])
 r:G r0=some (.dK (rK row))
 rp:r0≠p
 n:ls.length=pr.length
 to:∀(j:Nat) (l:Addr) (t:Str×List Rw),ls[j]? =some l->pr[j]? =some t->l≠p/\∃rs:List Addr,G l=some (.lst (rs.map V.ref))/\rs.length=t.2.length/\∀(j':Nat) (r:Addr) (row':Rw),rs[j']? =some r->t.2[j']? =some row'->r≠p/\r≠r0/\G r=some (.dK (rK row'))
theorem b1t {G H1:Hp}{p:Addr}{n0:Str}{row:Rw}{pr:Pc}(h:PcE G p ((n0,[row])::pr))(ok:a6x H1 ((n0,[row])::pr))(s:a0m G H1):∃l0 r0 ls,Lay G p l0 r0 n0 row pr ls:=by
 obtain⟨ls,ow,e1,ll,hr'⟩:=h
 match ls,ll with
 |l0::ls,ll=>
  have ap:∀{j:Nat} {l:Addr} {t:Str×List Rw},(l0::ls)[j]? =some l->((n0,[row])::pr)[j]? =some t->l≠p/\∀(r:Addr) (row:Rw),row∈t.2->H1 r=some (.dK (rK row))->r≠p:=fun {j l t} h1 h2=>a2x.apart ok (s _ _ e1) ll h1 h2 ((hr' j l t h1 h2).d.rows.same s);obtain⟨rs0,c0,cl0,_,d0,o0⟩:=hr' 0 l0 _ rfl rfl
  match rs0,cl0 with
  |[r0],_=>
   have g0:=d0 0 r0 row rfl rfl;refine⟨l0,r0,ls,e1,c0,g0,(ap (j:=0) rfl rfl).2 r0 row (by simp) (s _ _ g0),Nat.succ.inj ll,fun j l t h1 h2=>?_⟩;obtain⟨rs,c,cl,_,d,o⟩:=hr' (j+1) l t h1 h2;have A:=ap (j:=j+1) h1 h2;refine⟨A.1,rs,c,cl,fun j' r row' k1 k2=>⟨A.2 r row' (gI0 k2) (s _ _ (d j' r row' k1 k2)),fun e=>?_,d j' r row' k1 k2⟩⟩;have h3:=o r (gI0 k1);have h4:=o0 r0 (by simp);rw[e,h4] at h3;cases h3
theorem a3U {H:Hp}{l r:Addr}{row:Rw}(a:H l=some (.lst [V.ref r]))(b:H r=some (.dK (rK row))):a2u H l [row]:=⟨[r],a,rfl,fun j x y h1 h2=>match j,h1,h2 with
 |0,h1,h2=>by cases h1;cases h2;exact b
 |j+1,h1,_=>by cases h1⟩
section
variable {G G':Hp}{p l0 r0:Addr}{n0:Str}{row row':Rw}{pr pr2:Pc}{ls ls2:List Addr}
theorem Lay.old (L:Lay G p l0 r0 n0 row pr ls)(k:∀b o,b≠p->b≠r0->G b=some o->G' b=some o){j:Nat}{l:Addr}{t:Str×List Rw}(h1:ls[j]? =some l)(h2:pr[j]? =some t):a2u G' l t.2:=by
 obtain⟨lp,rs,c,cl,d⟩:=L.to j l t h1 h2;exact⟨rs,k _ _ lp (fun e=>by rw[e,L.r] at c;cases c) c,cl,fun j' r row' a b=>let ⟨x,y,z⟩:=d j' r row' a b;k _ _ x y z⟩
theorem Lay.fin (L:Lay G p l0 r0 n0 row pr ls)(k:∀b o,b≠p->b≠r0->G b=some o->G' b=some o)(e:G' p=some (.dK ((.inr n0,.ref l0)::zK (pr2.map (·.1)) ls2)))(er:G' r0=some (.dK (rK row')))(n:ls2.length=pr2.length)(to:∀(j:Nat) (l:Addr) (t:Str×List Rw),ls2[j]? =some l->pr2[j]? =some t->a2u G' l t.2):a2x G' p ((n0,[row'])::pr2):=by
 refine⟨l0::ls2,e,by rw[List.length_cons,List.length_cons,n],fun j l t h1 h2=>?_⟩
 match j,h1,h2 with
 |0,h1,h2=>
  cases h1;cases h2;exact a3U (k _ _ (fun e'=>by have:=L.l;rw[e',L.e] at this;cases this) (fun e'=>by have:=L.l;rw[e',L.r] at this;cases this) L.l) er
 |j+1,h1,h2=>exact to j l t h1 h2
end
theorem a9T:∀{zs:List Str} {ls:List Addr} {z:Str},z∉zs->a2m (zK zs ls) (.inr z)=zK zs ls
 |[],_,_,_=>rfl
 |_::_,[],_,_=>rfl
 |y::zs,l::ls,z,h=>by
  show a2m (((.inr y:Key),V.ref l)::zK zs ls) (.inr z)=_;rw[a6k (fun e=>h (by injection e with e;rw[e];exact List.mem_cons_self)),a9T fun hm=>h (mL0 _ hm)]
  rfl
def rws (c:Str)(vs:List V):List Rw:=vs.map fun v=>[(c,v)]
def a9F (CC:Addr):Sp:=fun vs H Q _=>∃(a f p tp:Addr) (c z:Str) (xs:List V) (sz:Int) (T0:Tb) (Ts:List Tb) (row:Rw) (pr:Pc),vs=[.ref a,.ref f,.ref p,.non]/\CvA CC H a c z/\a0W H f sz (T0::Ts)/\a2x H p ((T0.name,[row])::pr)/\a6x H ((T0.name,[row])::pr)/\z∉T0.name::pr.map (·.1)/\pr.length<=5/\c∈row.map (·.1)/\vOf row c=.ref tp/\H tp=some (.tup xs)/\xs.length<=60 ∧
 ∀q' p' H',a0m H H'->a2x (cut H H') p' ((T0.name,[lo row c])::(pr++[(z,rws c xs)]))->H' q'=some (.tup [.ref p',.non])->Q (.ref q') H'
def b1s (CC:Addr):Sp:=fun vs H Q _=>∃(a f p:Addr) (c z:Str) (xs:List V) (sz:Int) (T0:Tb) (Ts:List Tb) (row:Rw) (pr:Pc),vs=[.ref a,.ref f,.ref p,.non]/\CvA CC H a c z/\a0W H f sz (T0::Ts)/\a2x H p ((T0.name,[row])::(z,rws c xs)::pr)/\a6x H ((T0.name,[row])::(z,rws c xs)::pr)/\c∉row.map (·.1)/\xs.length<=60 ∧
 ∀q' p' tp H',a0m H H'->H' tp=some (.tup xs)->cut H H' tp=some (.tup xs)->a2x (cut H H') p' ((T0.name,[row++[(c,.ref tp)]])::pr)->H' q'=some (.tup [.ref p',.non])->Q (.ref q') H'
theorem a8S {X:Cx}{K:Fg0}{e:Expr}{f:Str}{pos:Pos}{ta:TE}(he:PE X e ta)(hb:attributeBase e f X.env (eval e X.env)=eval e X.env)(hK:X.K=K):PE X (.Attribute e f pos) (b6d K ta f):=hK▸a1s he hb
section
variable {P:Program}{w:World}{K:Fg0}{mg:Str->Option Value}{base:Heap}{CC PF:Addr}
theorem b0D {f_ fK fH:Addr}{fd fdK fdH:FuncData}(F:Fun K "forth" "Rows.forth" (a0X (top 39) 3) f_ fd)(B:Bl mg)(T:ClC K CC)(DK:Df K mg "copied" (top 31) fK fdK)(DH:Df K mg "head_of" (top 23) fH fdH):a0F P w K mg base CX0 2 f_ fd ["self","form","piece","rest"] (a9F CC):=by
 have sc:a0o ["self","form","piece","rest","fresh","things"] ["self","form","piece","rest"] (a0f (a0X (top 39) 3)):=.k (by decide +kernel);have GK:a0F P w K mg base CX0 1 fK fdK ["piece"] a4M:=a5B DK.fn B;have GH:a0F P w K mg base CX0 1 fH fdH ["form"] a5x:=a4P DH.fn;have bK:=DK.fn.b1 "piece" (by intros;rfl);have bH:=DH.fn.b1 "form" (by intros;rfl);refine F.ok sc (fun vs H Q E h=>?_) (fun cdv A outer s H vs Q E hr h=>?_)
 ·obtain⟨a,f,p,tp,c,z,xs,sz,T0,Ts,row,pr,rfl,_⟩:=h
  rfl
 ·obtain⟨a,f,p,tp,c,z,xs,sz,T0,Ts,row,pr,rfl,⟨dx,ha⟩,hF,hp,ok,hz,l5,hc,vt,htp,x60,q⟩:=h
  have hu:=a2E hr;refine⟨_,a0d (a0E (i:=4) sc.nd rfl (Or.inl rfl) (a0i GK hr (by rfl) DK.mg DK.fn.kp bK .nil a0r (a0a (pv 2) a0c)))
   (a0d (a0E (i:=5) sc.nd rfl (Or.inl rfl) (a4Y (a0x a0p (a1F hu (pv 4) (a0i GH hr (by rfl) DH.mg DH.fn.kp bH .nil a0r (a0a (pv 1) a0c)) (fun _ _=>rfl)) a0e (fun _ _=>rfl)) (a1s (pv 0) rfl) ⟨rfl,rfl,rfl,rfl⟩))
   (a0d (a1y hu (pv 4) (a1s (pv 0) rfl) (a1Z (osc:=a0f (a0X (top 39) 3)) (N0:=["self","form","piece","rest","fresh","things"]) (xs:=["thing"]) (fr:=[0]) ⟨rfl,by decide +kernel,by decide +kernel,by decide +kernel,(fun j hj=>by
       have e:j=0:=by simpa using hj
       subst e;exact⟨_,rfl,by decide +kernel⟩),by decide +kernel⟩ rfl rfl rfl (a7B (pv 5))
      (fun s H fp=>a0v (i:=0) (show(["thing","self"]:List Str).Nodup by decide +kernel) rfl (Or.inl rfl)) (fun s H fp=>a1E)
      (fun s H fp=>a2p (a1G (a8S (K:=K) (pv 1) rfl rfl) (pv 0) a2t) rfl rfl (by simp) (by decide))) rfl)
   (a0h (a0u (a0M (a0a (pv 4) (a0a a1m a0c))))))),?_⟩
  refine⟨_,rfl,p,_,rfl,hp,ok,fun p1 H1 s1 hE=>?_⟩;have ok1:=ok.same s1;obtain⟨l0,r0,ls,L⟩:=b1t hE ok1 a0n;have p1n:=a1w L.e;have r0n:=a1w L.r;have e1':=a0n _ _ L.e;have f0:H1 r0=some (.dK (kvC row)):=a0n _ _ L.r;have v0:a1K (((.inr T0.name:Key),V.ref l0)::zK (pr.map (·.1)) ls) (.inr T0.name)=some (.ref l0):=a1g rfl;have hv:a1K (kvC row) (.inr c)=some (.ref tp):=by rw[a9g hc,vt]
  refine⟨_,rfl,_,rfl,f,sz,T0,Ts,rfl,hF.same s1,p1,_,rfl,.inl ⟨_,.inr T0.name,.inl e1',rfl,v0.symm⟩,l0,_,0,_,rfl,rfl,SqL.of (a0n _ _ L.l),rfl,r0,rfl,.inl ⟨_,.inl f0⟩,_,rfl,a,CC,dx,_,_,rfl,s1 _ _ ha,T.cl,T.nC,a1h _ _,_,.inr c,_,f0,rfl,hv,?_⟩;rw[show a2m (kvC row) (.inr c)=kvC (lo row c) from a7m row c];have k2:∀b o,b≠r0->H1 b=some o->(upd H1 r0 (.dK (kvC (lo row c)))) b=some o:=fun b o nb e=>(a0g nb).trans e;have e2:=a0b (H:=H1) (a:=r0) (o:=.dK (kvC (lo row c)));generalize upd H1 r0 (.dK (kvC (lo row c)))=H2 at *;have S2:a0m H H2:=fun b o e=>k2 b o (a0C e r0n) (s1 _ _ e);have htp2:=S2 _ _ htp;refine⟨_,rfl,tp,rfl,⟨_,SqT.of htp2⟩,fun D hD=>?_⟩;refine a1M xs.length (fun i ys σ' Hc=>(∃u,σ'=[u,some (.ref a)])/\a0m H2 Hc/\∃ps:List Addr,ys=ps.map V.ref/\∀(j:Nat) (r:Addr) (v:V),ps[j]? =some r->xs[j]? =some v->(H2 r=none/\r≠D)/\Hc r=some (.dK (rK [(c,v)]))) (by rw[sizeLine_eq];omega) ⟨⟨none,rfl⟩,a0m.upd hD,[],rfl,(fun j r v h=>nomatch h)⟩ a0b ?_ ?_
  ·rintro i σ' Hc ys hi ⟨⟨u,rfl⟩,sm,ps,rfl,hps⟩ hyl hD'
   rw[lM0] at hyl;refine⟨⟨_,xs[i],SqT.of (sm _ _ htp2),gE0 hi⟩,?_⟩;rintro x H' ⟨rfl,hx'⟩;have ex:=hx' _ (SqT.of (sm _ _ htp2));rw[gE0 hi] at ex;cases ex;intro r hr';have T3:=a0m.upd (o:=.dK []) hr';refine⟨_,rfl,a,CC,dx,_,_,rfl,T3 _ _ ((S2.trans sm) _ _ ha),T.cl,T.nC,a1h _ _,_,rfl,a0b,[(.inr c,xs[i])],rfl,(by decide:1<=15),?_⟩;have s4:a0m H' (upd (upd H' r (.dK [])) r (.dK (a0R [] [((.inr c:Key),xs[i])]))):=T3.put hr';have e4:(upd (upd H' r (.dK [])) r (.dK (a0R [] [((.inr c:Key),xs[i])]))) r=some (.dK (rK [(c,xs[i])])):=a0b;generalize upd (upd H' r (.dK [])) r (.dK (a0R [] [((.inr c:Key),xs[i])]))=H4 at *;have rD:r≠D:=fun e=>by rw[e,hD'] at hr';cases hr'
   refine⟨s4 _ _ hD',⟨_,rfl⟩,(sm.trans s4).put hD,ps++[r],by rw[mA0];rfl,fun j r' v h1 h2=>?_⟩
   by_cases hj:j<ps.length
   ·rw[gL0 hj] at h1
    obtain⟨⟨g1,g2⟩,g3⟩:=hps j r' v h1 h2;exact⟨⟨g1,g2⟩,(a0g g2).trans (s4 _ _ g3)⟩
   ·have hj':=(gS0.mp h1).1
    rw[lA0,List.length_singleton] at hj';obtain rfl:j=ps.length:=by omega
    rw[gR0 (nR0 _),Nat.sub_self] at h1;cases h1;rw[hyl,gE0 hi] at h2;cases h2;exact⟨⟨a0B sm hr',rD⟩,(a0g rD).trans e4⟩
  ·rintro σ' Hc ys ⟨_,sm,ps,rfl,hps⟩ hDn hyl
   rw[lM0] at hyl;have p1c:=sm _ _ (k2 _ _ L.rp.symm e1');have Sc:=S2.trans sm;refine⟨⟨_,SqT.of (sm _ _ htp2),nR0 _⟩,_,rfl,_,rfl,a,CC,dx,_,_,rfl,Sc _ _ ha,T.cl,T.nS,a1O _ _,p1,_,rfl,a5w.k (k:=.inr z) p1c ?_,?_⟩
   ·rw[List.length_cons,a5v (by rw[lM0];exact L.n),lM0,sizeLine_eq]
    omega
   have nz:a1K (((.inr T0.name:Key),V.ref l0)::zK (pr.map (·.1)) ls) (.inr z)=none:=by
    rw[mK0,not_or] at hz;rw[a1B (fun e=>hz.1 (by injection e with e;exact e.symm)),a6V hz.2]
   rw[L2.a2e _ nz,show(((.inr T0.name:Key),V.ref l0)::zK (pr.map (·.1)) ls)++[(.inr z,.ref D)]=(.inr T0.name,.ref l0)::zK ((pr++[(z,rws c xs)]).map (·.1)) (ls++[D]) by rw[mA0,show[(z,rws c xs)].map (·.1)=[z] from rfl,a6p (by rw[lM0];exact L.n)];rfl];have k5:∀b o,b≠p1->Hc b=some o->(upd Hc p1 (.dK ((.inr T0.name,.ref l0)::zK ((pr++[(z,rws c xs)]).map (·.1)) (ls++[D])))) b=some o:=fun b o nb e=>(a0g nb).trans e;have e5:=a0b (H:=Hc) (a:=p1) (o:=.dK (((.inr T0.name:Key),V.ref l0)::zK ((pr++[(z,rws c xs)]).map (·.1)) (ls++[D])));generalize upd Hc p1 (.dK ((.inr T0.name,.ref l0)::zK ((pr++[(z,rws c xs)]).map (·.1)) (ls++[D])))=H5 at *;refine⟨_,rfl,(by show 2<=sizeLine;decide),fun q' hq'=>?_⟩;have T6:=a0m.upd (o:=.tup [V.ref p1,.non]) hq';have e6:=a0b (H:=H5) (a:=q') (o:=.tup [V.ref p1,.non]);generalize upd H5 q' (.tup [V.ref p1,.non])=H6 at *;have kc6:∀b o,b≠p1->Hc b=some o->H6 b=some o:=fun b o n1 e=>T6 _ _ (k5 b o n1 e);have D2:D≠p1:=fun e=>by rw[e,k2 _ _ L.rp.symm e1'] at hD;cases hD
   have S6:a0m H H6:=fun b o e=>kc6 b o (a0C e p1n) (Sc _ _ e);refine q q' p1 H6 S6 (L.fin (fun b o n1 n2 e=>a0I (a1w e) (kc6 b o n1 (sm _ _ (k2 b o n2 (a0n _ _ e))))) (a0I p1n (T6 _ _ e5)) (a0I r0n (kc6 _ _ L.rp (sm _ _ e2))) (by rw[lA0,lA0,L.n];rfl) fun j l t h1 h2=>?_) e6
   by_cases hj:j<ls.length
   ·rw[gL0 hj] at h1
    rw[gL0 (by rw[<-L.n];exact hj)] at h2;exact L.old (fun b o n1 n2 e=>a0I (a1w e) (kc6 b o n1 (sm _ _ (k2 b o n2 (a0n _ _ e))))) h1 h2
   ·have hj':=(gS0.mp h1).1
    rw[lA0,List.length_singleton] at hj';obtain rfl:j=ls.length:=by omega
    rw[gR0 (nR0 _),Nat.sub_self] at h1;rw[gR0 (by rw[L.n];exact nR0 _),L.n,Nat.sub_self] at h2;cases h1;cases h2;refine⟨ps,a0I (a0B S2 hD) (kc6 _ _ D2 hDn),by show ps.length=(xs.map _).length;rw[lM0,hyl],fun j r row' g1 g2=>?_⟩;have hjx:j<xs.length:=by have:=(gS0.mp g1).1;omega
    have g2':(xs.map fun v=>[(c,v)])[j]? =some row':=g2;rw[gM0,gE0 hjx] at g2';cases g2';obtain⟨⟨m1,m2⟩,m3⟩:=hps j r _ g1 (gE0 hjx);exact a0I (a0B S2 m1) (kc6 _ _ (fun e=>by rw[e,k2 _ _ L.rp.symm e1'] at m1;cases m1) m3)
theorem b2L {f_ fK fH:Addr}{fd fdK fdH:FuncData}(F:Fun K "back" "Rows.back" (a0X (top 39) 4) f_ fd)(B:Bl mg)(T:ClC K CC)(DK:Df K mg "copied" (top 31) fK fdK)(DH:Df K mg "head_of" (top 23) fH fdH):a0F P w K mg base CX0 2 f_ fd ["self","form","piece","rest"] (b1s CC):=by
 have sc:a0o ["self","form","piece","rest","fresh","things"] ["self","form","piece","rest"] (a0f (a0X (top 39) 4)):=.k (by decide +kernel);have GK:a0F P w K mg base CX0 1 fK fdK ["piece"] a4M:=a5B DK.fn B;have GH:a0F P w K mg base CX0 1 fH fdH ["form"] a5x:=a4P DH.fn;have bK:=DK.fn.b1 "piece" (by intros;rfl);have bH:=DH.fn.b1 "form" (by intros;rfl);refine F.ok sc (fun vs H Q E h=>?_) (fun cdv A outer s H vs Q E hr h=>?_)
 ·obtain⟨a,f,p,c,z,xs,sz,T0,Ts,row,pr,rfl,_⟩:=h
  rfl
 ·obtain⟨a,f,p,c,z,xs,sz,T0,Ts,row,pr,rfl,⟨dx,ha⟩,hF,hp,ok,hc,x60,q⟩:=h
  have hu:=a2E hr;refine⟨_,a0d (a0E (i:=4) sc.nd rfl (Or.inl rfl) (a0i GK hr (by rfl) DK.mg DK.fn.kp bK .nil a0r (a0a (pv 2) a0c)))
   (a0d (a9p (i:=5) (osc:=a0f (a0X (top 39) 4)) (N0:=["self","form","piece","rest","fresh","things"]) (xs:=["row"]) (fr:=[0]) ⟨rfl,by decide +kernel,by decide +kernel,by decide +kernel,(fun j hj=>by
       have e:j=0:=by simpa using hj
       subst e;exact⟨_,rfl,by decide +kernel⟩),by decide +kernel⟩ rfl rfl rfl (a1C (a4Y (pv 4) (a1s (pv 0) rfl) ⟨rfl,rfl,rfl,rfl⟩))
      (fun s H fp=>a0v (i:=0) (show(["row","self"]:List Str).Nodup by decide +kernel) rfl (Or.inl rfl)) (fun s H fp=>a1E)
      (fun s H fp=>a1F hu (pv 0) (a8S (K:=K) (pv 1) rfl rfl) (fun _ _=>rfl)) sc.nd rfl (Or.inl rfl))
   (a0d (a1y hu (a0x a0p (a1F hu (pv 4) (a0i GH hr (by rfl) DH.mg DH.fn.kp bH .nil a0r (a0a (pv 1) a0c)) (fun _ _=>rfl)) a0e (fun _ _=>rfl)) (a1s (pv 0) rfl) (a1k a1T (by rfl) B.tuple boot_tuple (a0a (pv 5) a0c)) rfl)
   (a0h (a0u (a0M (a0a (pv 4) (a0a a1m a0c))))))),?_⟩
  refine⟨_,rfl,p,_,rfl,hp,ok,fun p1 H1 s1 hE=>?_⟩;have ok1:=ok.same s1;obtain⟨l0,r0,ls,L⟩:=b1t hE ok1 a0n;have ln:=L.n
  match ls,ln with
  |lz::ls,ln=>
  have nds:=ok.nd;rw[mN0,mN0,List.nodup_cons,List.nodup_cons] at nds;obtain⟨n1,n2,n3⟩:=nds;have n0z:T0.name≠z:=fun e=>n1 (by show T0.name∈z::_;rw[e];exact List.mem_cons_self);have p1n:=a1w L.e;have r0n:=a1w L.r;have e1':H1 p1=some (.dK ((.inr T0.name,.ref l0)::(.inr z,.ref lz)::zK (pr.map (·.1)) ls)):=a0n _ _ L.e;obtain⟨lzp,rs,cz,cl,dz⟩:=L.to 0 lz _ rfl rfl;have vz:a1K (((.inr T0.name:Key),V.ref l0)::(.inr z,.ref lz)::zK (pr.map (·.1)) ls) (.inr z)=some (.ref lz):=by
   rw[a1B (fun e=>n0z (by injection e))];exact a1g rfl
  refine⟨_,rfl,p1,rfl,.inl ⟨_,.inl e1'⟩,_,rfl,a,CC,dx,_,_,rfl,s1 _ _ ha,T.cl,T.nS,a1O _ _,_,.inr z,_,e1',rfl,vz,?_⟩;rw[show a2m (((.inr T0.name:Key),V.ref l0)::(.inr z,.ref lz)::zK (pr.map (·.1)) ls) (.inr z)=(.inr T0.name,.ref l0)::zK (pr.map (·.1)) ls by rw[a6k (fun e=>n0z (by injection e)),a8U rfl,a9T n2]];have k2:∀b o,b≠p1->H1 b=some o->(upd H1 p1 (.dK ((.inr T0.name,.ref l0)::zK (pr.map (·.1)) ls))) b=some o:=fun b o nb e=>(a0g nb).trans e;have e2:=a0b (H:=H1) (a:=p1) (o:=.dK (((.inr T0.name:Key),V.ref l0)::zK (pr.map (·.1)) ls));generalize upd H1 p1 (.dK ((.inr T0.name,.ref l0)::zK (pr.map (·.1)) ls))=H2 at *;have S2:a0m H H2:=fun b o e=>k2 b o (a0C e p1n) (s1 _ _ e);have clx:rs.length=xs.length:=by rw[cl];exact lM0 ..
  have z2:=k2 _ _ lzp (a0n _ _ cz);refine⟨lz,rfl,⟨_,SqL.of z2⟩,fun D hD=>?_⟩;refine a1M xs.length (fun i ys σ' Hc=>(∃u,σ'=[u,some (.ref a)])/\a0m H2 Hc/\ys=xs.take i) (by rw[sizeLine_eq];omega) ⟨⟨none,rfl⟩,a0m.upd hD,rfl⟩ a0b ?_ ?_
  ·rintro i σ' Hc ys hi ⟨⟨u,rfl⟩,sm,rfl⟩ hyl hD'
   have hir:i<rs.length:=by omega
   refine⟨⟨_,V.ref rs[i],SqL.of (sm _ _ z2),by rw[gM0,gE0 hir];rfl⟩,?_⟩;rintro x H' ⟨rfl,hx'⟩;have ex:=hx' _ (SqL.of (sm _ _ z2));rw[gM0,gE0 hir] at ex;cases ex;obtain⟨g1,_,g3⟩:=dz i rs[i] [(c,xs[i])] (gE0 hir) (by show(xs.map fun v=>[(c,v)])[i]? =_;rw[gM0,gE0 hi];rfl);have g4:=sm _ _ (k2 _ _ g1 (a0n _ _ g3));refine⟨_,rfl,_,rfl,a,CC,dx,_,_,rfl,(S2.trans sm) _ _ ha,T.cl,T.nC,a1h _ _,rs[i],_,rfl,.inl ⟨_,.inr c,.inl g4,rfl,(a1g rfl).symm⟩,hD',⟨_,rfl⟩,sm.put hD,?_⟩;rw[List.take_succ,gE0 hi]
   rfl
  ·rintro σ' Hc ys ⟨_,sm,rfl⟩ hDn hyl
   rw[List.take_length] at hDn;have Sc:=S2.trans sm;refine⟨⟨_,SqL.of (sm _ _ z2),by rw[lM0,clx];exact nR0 _⟩,_,rfl,D,_,rfl,.inl ⟨SqL.of hDn,fun tp htp=>?_⟩⟩;have T3:=a0m.upd (o:=.tup xs) htp;have e3:=a0b (H:=Hc) (a:=tp) (o:=.tup xs);generalize upd Hc tp (.tup xs)=H3 at *;have S3:=Sc.trans T3;have S23:=sm.trans T3;have p3:=S23 _ _ e2;have r3:H3 r0=some (.dK (kvC row)):=S23 _ _ (k2 _ _ L.rp (a0n _ _ L.r));have v0:a1K (((.inr T0.name:Key),V.ref l0)::zK (pr.map (·.1)) ls) (.inr T0.name)=some (.ref l0):=a1g rfl;have l0p:l0≠p1:=fun e=>by have:=L.l;rw[e,L.e] at this;cases this
   have okr:=(ok.rw_ (T0.name,[row]) (by simp) row (by simp)).1.2;refine⟨_,rfl,_,rfl,f,sz,T0,Ts,rfl,hF.same S3,p1,_,rfl,.inl ⟨_,.inr T0.name,.inl p3,rfl,v0.symm⟩,l0,_,0,_,rfl,rfl,SqL.of (S23 _ _ (k2 _ _ l0p (a0n _ _ L.l))),rfl,_,rfl,a,CC,dx,_,_,rfl,S3 _ _ ha,T.cl,T.nC,a1h _ _,r0,_,rfl,a5w.k (k:=.inr c) r3 (by unfold kvC;rw[lM0,sizeLine_eq];omega),?_⟩;have nv:a1K (kvC row) (.inr c)=none:=by
    cases e:a1K (kvC row) (.inr c) with
    |none=>rfl
    |some v=>exact absurd (a4Q e) hc
   rw[L2.a2e _ nv,show kvC row++[((.inr c:Key),V.ref tp)]=rK (row++[(c,.ref tp)]) by unfold kvC rK;rw[mA0];rfl];have k4:∀b o,b≠r0->H3 b=some o->(upd H3 r0 (.dK (rK (row++[(c,.ref tp)])))) b=some o:=fun b o nb e=>(a0g nb).trans e;have e4:=a0b (H:=H3) (a:=r0) (o:=.dK (rK (row++[(c,.ref tp)])));generalize upd H3 r0 (.dK (rK (row++[(c,.ref tp)])))=H4 at *;refine⟨_,rfl,(by show 2<=sizeLine;decide),fun q' hq'=>?_⟩;have T5:=a0m.upd (o:=.tup [V.ref p1,.non]) hq';have e5:=a0b (H:=H4) (a:=q') (o:=.tup [V.ref p1,.non]);generalize upd H4 q' (.tup [V.ref p1,.non])=H5 at *;have tr:tp≠r0:=fun e=>by rw[e,r3] at e3;cases e3
   have t5:=T5 _ _ (k4 _ _ tr e3);have k15:∀b o,b≠p1->b≠r0->cut H H1 b=some o->cut H H5 b=some o:=fun b o n1 n2 e=>a0I (a1w e) (T5 _ _ (k4 b o n2 (S23 _ _ (k2 b o n1 (a0n _ _ e)))));refine q q' p1 tp H5 (fun b o e=>T5 _ _ (k4 b o (a0C e r0n) (S3 _ _ e))) t5 (a0I (a0B Sc htp) t5) (L.fin k15 (a0I p1n (T5 _ _ (k4 _ _ L.rp.symm p3))) (a0I r0n (T5 _ _ e4)) (Nat.succ.inj ln) fun j l t h1 h2=>L.old k15 (j:=j+1) h1 h2) e5
end
end My
namespace Rp
open PySem PySem.StrLaws PySem.Builtin PySem.Builtin.Str
end Rp
namespace L2
open PySem PySem.Spec PyProof.Rows
section
variable {X:Cx}{n:Nat}
section
variable {osc scope:Scope}{N0 xs:List Str}{fr:List Nat}{elt tg iter:Expr}{ifs:List Expr}{pos:Pos}{wi:TI}{g:TG}{tt:TT}{te:TE}
theorem b1a (C:a3H osc scope N0 xs fr)(ho:X.env.scope=osc)(hN0:X.N=N0)(hc:X.calm=true)(hi:PI X tg iter wi)
  (hg:∀s H fp,PG (a0T X scope (a1i N0 xs fr) s H fp) tg g) (ht:∀s H fp,PIf (a0T X scope (a1i N0 xs fr) s H fp) ifs tt) (he:∀s H fp,PEk n (a0T X scope (a1i N0 xs fr) s H fp) elt te)
  (hs:∀x,foldedSetIterable iter X.env x=pure x:=by intro _;rfl):PEk n X (.ListComp elt [⟨tg,iter,ifs,0⟩] scope pos) (b4I xs fr wi g tt te):=by
 intro pins s σ H Q hn I h;rw[eval_ListComp];refine wpAny_comprehension_free (use:=none) rfl hs (a6G (a3b C ho I)) C.kind C.names (a6m hn (hi pins s σ H _ I h) fun v s1 hn1 h1=>a6m hn1 h1 fun itv s2 hn2 h2=>?_);obtain⟨it,fp,tn,J,H2,e,I2,T,st2,f2,hR⟩:=h2;subst e;refine a6z C ho hN0 hc hg ht he hn2 I2 T st2 f2 hR fun D C s' H' m I' hm fC q=>?_;refine⟨m,hm,fun h' sb=>⟨.ref D,H',?_,rfl,q⟩⟩;exact I'.turned (t':=s'.toks) (fun b o hb e=>(sb.2 b hb).trans e) fC.1 fC.2.1 fC.2.2.2.1 fC.2.2.2.2.1 fC.2.2.2.2.2
end
end
end L2
namespace Rp
open PySem PySem.StrLaws PySem.Builtin PySem.Builtin.Str
end Rp
namespace L2
open PySem PySem.Spec PyProof.Rows PyProof.V
section
variable {X:Cx}
theorem Inv.thawT {pins:List (Addr×Obj)}{s:Shared}{σ:St}{H:Hp}{a:Addr}{o:Obj}{xs:List V}(I:Inv X pins σ H s)(n0:X.H₀ a=none)(e:H a=some (.frz o (.tup xs))):Inv X pins σ (upd H a (.tup xs)) s:=by
 have ne:∀b u,H b=some u->u≠.frz o (.tup xs)->b≠a:=fun b u q n z=>by
  subst z;rw[e] at q;exact n (Option.some.inj q).symm
 have nn:∀b,H b=none->b≠a:=fun b q z=>by subst z;rw[e] at q;cases q
 refine⟨I.ok,I.os,I.bare,⟨I.base.keep,I.base.slot,fun b ob q n hx=>?_,I.base.there,fun b xs q=>?_,fun b ob u q=>?_,fun b ps q=>?_⟩,I.loc,I.cell,?_,fun x c q=>?_,fun p hp=>?_,fun b u q=>?_,I.len⟩
 ·have h:=I.base.free b ob q n hx
  rw[a0g (nn b h)];exact h
 ·have h:=I.base.tups b xs q
  rw[a0g (ne b _ h (by simp))];exact h
 ·have h:=I.base.frzs b ob u q
  rw[a0g (fun z=>by subst z;rw[n0] at q;cases q)];exact h
 ·obtain⟨m,h⟩:=I.base.tbls b ps q
  exact⟨m,by rw[a0g (ne b _ h (by simp))];exact h⟩
 ·rw[a0g (nn _ I.free)]
  exact I.free
 ·rw[a0g (nn _ (I.freeC x c q))]
  exact I.freeC x c q
 ·obtain⟨h1,h2,h3⟩:=I.pin p hp
  exact⟨h1,by rw[a0g (nn _ h2)];exact h2,h3⟩
 ·by_cases hb:b=a
  ·subst hb
   rw[a0b] at q;cases q;exact(I.hok b _ e).2
  ·rw[a0g hb] at q
   exact(I.hok b u q).stay (fun c v _ r=>r) (fun c r=>by rw[a0g (ne c _ r (by simp))];exact r) fun c xs' r=>by rw[a0g (ne c _ r (by simp))];exact r
def b3D (X:Cx)(t:TS):TS:=fun D σ H=>t D σ H\/∃a o xs,H a=some (.frz o (.tup xs))/\X.H₀ a=none/\t D σ (upd H a (.tup xs))
theorem b0R {l:List Stmt}{t:TS}(h:PSs X l t):PSs X l (b3D X t):=by
 intro pins s σ H D I q;rcases q with q |⟨a,o,xs,e,n0,q⟩
 ·exact h pins s σ H D I q
 ·exact h pins s σ _ D (I.thawT n0 e) q
end
end L2
namespace L2
open PySem PySem.Spec PyProof.Rows
section
variable {X:Cx}{pos:Pos}{n:Nat}
theorem PE.ewn {e:Expr}{t:TE}(h:PE X e t):EWn X e (fun m σ H Q=>t σ H fun v H'=>∀u k,m<=k->Q u k v H'):=fun pins s m σ H Q hm I q=>
 a6m hm (h pins s σ H _ I q) fun u s1 hm1 ⟨v,H1,I1,r1,q1⟩=>⟨v,H1,I1,r1,q1 u s1.toks hm1⟩
end
section
variable {X:Cx}{pos:Pos}
theorem a4i:OpR X (binaryOp .Pow) (rI (fun i j=>0<=j/\(Builtin.Int.intBits i:Int) * j<=2 ^ 27) fun i j=>.int (i ^ j.toNat)):=opI fun _ _ _ _ _ _ _ hc q=>pow_int hc.1 hc.2 q
end
section
variable {n:Nat}{X:Cx}{pos:Pos}
theorem a6D {o a:Expr}{to ta:TE}{apos cpos sp cp cp2:Pos}{j j2:Nat}{nz:Str}(hnz:nz.length<=14)(ho:PE X o to)(ha:PE X a ta)(hs:a3N (.Constant (.int 1) j cp))
  (hbase:attributeBase o "replace" X.env (eval o X.env)=eval o X.env:=by rfl)
  (hfew:((backTo cpos (starEach [.Subscript a (.Constant (.int 1) j cp) sp,.Constant (.str nz) j2 cp2] X.env)).all (fun x=>!x.1)&&(backToKw cpos (keywordEach [] X.env)).all (fun x=>x.1.isSome)
   && decide (([.Subscript a (.Constant (.int 1) j cp) sp,.Constant (.str nz) j2 cp2]:List Expr).length+([]:List Keyword).length+(if ([]:List Keyword).isEmpty then 0 else 1)<30))=true:=by rfl)
  (hline:(apos.endLine==cpos.line)=true:=by rfl)
  (hse:starEach [.Subscript a (.Constant (.int 1) j cp) sp,.Constant (.str nz) j2 cp2] X.env=[(false,eval (.Subscript a (.Constant (.int 1) j cp) sp) X.env),(false,eval (.Constant (.str nz) j2 cp2) X.env)]:=by rfl) :
  PEk n X (.Call (.Attribute o "replace" apos) [.Subscript a (.Constant (.int 1) j cp) sp,.Constant (.str nz) j2 cp2] [] cpos) (fun σ H Q=>to σ H fun x H1=>∃(w:Str) (p:Addr) (y z:Str) (t:Tok),x=.str w/\w.length<=1048576/\(z==nz)=false/\t≠0/\t<n/\a2h H1 p y z t/\(ta σ H1 fun x H2=>x=.ref p/\H2=H1)/\Q (.str (Txt.replace w z nz)) H1):=by
 intro pins s σ H Q hn I h;refine wpAny_Call_method_late hbase hfew hline rfl (a6m hn (ho pins s σ H _ I h) fun v s1 hn1 ⟨x,H1,I1,r1,w,p,y,z,t,e2,hw,hz,ht,htn,hp,hta,q⟩=>?_);subst e2;obtain⟨tw,rfl⟩:=r1;refine⟨"str","str.replace",F.plainAttrs_str,F.slot_str_replace,F.type_str_replace,typeIs_str _ _ _,(fun _ e=>nomatch e),?_⟩;rw[hse];refine Calls.callWith_builtin rfl (Calls.evalArgs_plain ?_);show wpAny _ _ (spliced [(false,eval (.Subscript a (.Constant (.int 1) j cp) sp) X.env),(false,eval (.Constant (.str nz) j2 cp2) X.env)]) _ _ s1;refine Calls.spliced_cons (a6m hn1 (a9K ha I1 hta hp hs) fun u s2 hn2 ⟨e3,I2⟩=>Calls.spliced_cons (wpAny_Constant_str (Calls.spliced_nil ?_)));subst e3;refine SC.replaceW ht (Nat.ne_of_gt (Nat.lt_of_le_of_lt (zL0 t) (Nat.lt_of_lt_of_le htn hn2))) (nL0 (Nat.lt_of_lt_of_le htn hn2)) hz hw hnz fun t' k=>⟨.str (Txt.replace w z nz),H1,(I2.tok _).tok k,⟨t',rfl⟩,q⟩
theorem b2I {a b:Expr}{ta tb:TE}(ha:PE X a ta)(hb:PE X b tb)(hs:a3N b):EWn X (.Subscript a b pos) (fun m σ H Q=>ta σ H fun x H1=>tb σ H1 fun y H2=>∃z i c,x=.str z/\y=.int i/\z.length<=sizeLine/\atI z.cps.toList i=some c/\∀tk,m<=tk->Q (.str ⟨#[c]⟩ tk) (tk+1) (.str ⟨#[c]⟩) H2):=fun pins s m σ H Q hm I h=>b3z ha hb hs hm I h
theorem a9x {y:Str}{j:Nat}{cp:Pos}{x1:Nat}{e:Expr}{wb:Nat->St->Hp->WK->Prop}(he:EWn X e wb)
  (hs:starEach [.Constant (.str y) j cp,e] X.env=[(false,eval (.Constant (.str y) j cp) X.env),(false,eval e X.env)]:=by rfl) :
  EWn X (.Tuple [.Constant (.str y) j cp,e] x1 pos) (fun m σ H Q=>wb (m+1) σ H fun u k v H1=>∃z t,u=.str z t/\v=.str z/\∀p (H2:Hp),H1 p=none->a0m H1 H2->a2h H2 p y z t->Q (.ref p) k (.ref p) H2):=by
 intro pins s m σ H Q hm I h;refine wpAny_Tuple_spliced ?_;rw[hs];show wpAny _ _ (spliced [(false,eval (.Constant (.str y) j cp) X.env),(false,_)]) _ _ s;refine Calls.spliced_cons (wpAny_Constant_str (Calls.spliced_cons ?_));show wpAny _ _ (eval e X.env) _ _ _;refine thn (he pins { s with toks:=s.toks+1 } (m+1) σ H _ (Nat.succ_le_succ hm) (I.tok (s.toks+1)) h) fun u s1 ⟨v,H1,I1,r1,z,t,e1,e2,q⟩=>Calls.spliced_nil ⟨(show 2<=sizeLine by decide),?_⟩;subst e1 e2;have hf:H1 s1.heap.objs.size=none:=I1.hok.fresh (nR0 _);refine⟨.ref s1.heap.objs.size,upd H1 s1.heap.objs.size (.frz { cls:=.type "tuple",data:=.seq #[.str y s.toks,.str z t] } (.tup [.str y,.str z])),I1.laid (t':=s1.toks) (fun b u e=>hP0 _ e) (nR0 _) ?_,rfl,q _ _ hf (a0m.upd hf) ⟨_,_,_,a0b,rfl⟩⟩;refine⟨hS0 _ rfl,(show 2<=sizeLine by decide),[.str y s.toks,.str z t],.cons ⟨_,rfl⟩ (.cons ⟨_,rfl⟩ .nil),⟨_,hS0 _ rfl,rfl,_,rfl⟩⟩
theorem b1Y {l:List Stmt}{T:TSM}(h:a8i X l T):PSs X l (fun D σ H=>T { nx:=fun _=>D.nx,rt:=fun _=>D.rt } 0 σ H):=by
 intro pins s σ H D I q;refine thn (h pins s 0 σ H _ (zL0 _) I q) fun f s' hs=>?_;cases f with
 |next=>obtain⟨m,σ',H',hm,J,q⟩:=hs;exact⟨σ',H',J,q⟩
 |ret u=>obtain⟨m,v,σ',H',hm,J,r,q⟩:=hs;exact⟨v,σ',H',J,r,q⟩
 |brk=>exact hs.elim
 |cont=>exact hs.elim
end
end L2
namespace My
open PySem L2 PyProof.Rows
seal L2.PE L2.PT L2.PW L2.PS L2.PSs L2.PA L2.PI L2.PG L2.PGs L2.OpR L2.a1p L2.IxR L2.SlR L2.MtR L2.PIf L2.PO L2.MtM L2.PC L2.a6n L2.PSM L2.a8i L2.EWn L2.PEk L2.PSk L2.b0a
def sgs:List Nat:=[44,59,45,32,97]
inductive Pl (H:Hp) (m:Nat) (a:Addr):Prop
 |whole (h:H a=some (.tup [.str "whole"]))
 |below (i:Int) (hi:1<=i) (h:H a=some (.tup [.str "below",.int i]))
 |upto (i:Int) (h:H a=some (.tup [.str "upto",.int i]))
 |word (h:H a=some (.tup [.str "word"]))
 |without (c:Nat) (t:Tok) (hc:c∈sgs) (h:a2h H a "without" ⟨#[c]⟩ t) (h1:1<=t) (h2:t<m)
theorem Pl.same {H H':Hp}{m:Nat}{a:Addr}(h:Pl H m a)(s:a0m H H'):Pl H' m a:=by
 cases h with
 |whole h=>exact .whole (s _ _ h)
 |below i hi h=>exact .below i hi (s _ _ h)
 |upto i h=>exact .upto i (s _ _ h)
 |word h=>exact .word (s _ _ h)
 |without c t hc h h1 h2=>exact .without c t hc (h.same s) h1 h2
def b6a (m:Nat):SpW:=fun vs H Q=>∃n:Int,vs=[.int n]/\∀a H' u k,H a=none->a0m H H'->Pl H' k a->Q u k (.ref a) H'
def b6n (m:Nat):SpK:=fun vs H Q=>∃(a:Addr) (c:Int),vs=[.ref a,.int c]/\Pl H m a/\∀v H',flt v=true->a0m H H'->Q v H'
def b5W (K:Fg0)(m:Nat):SpK:=fun vs H Q=>∃(a b:Addr) (ns:List Int),vs=[.ref a,.ref b]/\SqL K H a (ns.map V.int)/\ns.length<=63/\Pl H m b/\∀l xs H',a0m H H'->H l=none->H' l=some (.lst xs)->xs.length<=60->(∀x∈xs,flt x=true)->Q (.ref l) H'
theorem b3u (c:Int):(txF c).length<=1048576:=by
 have h:(c%7).toNat=0\/(c%7).toNat=1\/(c%7).toNat=2\/(c%7).toNat=3\/(c%7).toNat=4\/(c%7).toNat=5\/(c%7).toNat=6:=by omega
 unfold txF txL;rcases h with h |h |h |h |h |h |h<;>rw[h]<;>first |exact(by decide:0<=1048576) |exact(by decide:1<=1048576) |exact(by decide:2<=1048576) |exact(by decide:3<=1048576) |exact(by decide:4<=1048576) |exact(by decide:5<=1048576) |exact(by decide:6<=1048576)
theorem b4s {c:Nat}(h:c∈sgs):(({ cps:=#[c] }:Str)==("x":Str))=false:=by
 unfold sgs at h;simp only[mK0,List.not_mem_nil,or_false] at h;rcases h with rfl |rfl |rfl |rfl |rfl<;>decide +kernel
section
variable {P:Program}{w:World}{K:Fg0}{mg:Str->Option Value}{base:Heap}{CC PF:Addr}
theorem b5E {f:Addr}{fd:FuncData}(F:Fun K "_law_kind" "_law_kind" (top 47) f fd)(B:Bl mg)(m:Nat):a3j m P w K mg base 1 f fd ["_law_cell_here"] (b6a m):=by
 have sc:a0o ["_law_cell_here","_law_number"] ["_law_cell_here"] (a0f (top 47)):=.k (by decide +kernel);refine F.okM sc (fun vs H Q h=>?_) (fun cdv A outer s H vs Q hr h=>?_)
 ·obtain⟨n,rfl,_⟩:=h
  rfl
 ·obtain⟨n,rfl,q⟩:=h
  refine⟨_,a2r (PS.m (a0E (i:=1) sc.nd rfl (Or.inl rfl) (a0w a5H (a0w a0O (a0w a1b (pv 0) a0e) (a0w a2N (a0w a2O a0e (a0w a4i a0e a0e)) a0e)) (a0w a4i a0e a0e))))
   (a2r (a7s (a0q a1o (a0w a0O (pv 0) a0e) a0e (a0t _)) (a3X (a3Q (PE.ewn (a0M (a0a a0H a0c))))) a5g)
   (a2r (a7s (a0q a1o (a0w a0O (pv 0) a0e) a0e (a0t _)) (a3X (a3Q (PE.ewn (a0M (a0a a0H (a0a (a0w a2N a0e (a0k b0G (by rfl) B.abs boot_abs (a0a (pv 1) a0c))) a0c)))))) a5g)
   (a2r (a7s (a0q a1o (a0w a0O (pv 0) a0e) a0e (a0t _)) (a3X (a3Q (PE.ewn (a0M (a0a a0H (a0a (pv 1) a0c)))))) a5g)
   (a2r (a7s (a0q a1o (a0w a0O (pv 0) a0e) a0e (a0t _)) (a3X (a3Q (PE.ewn (a0M (a0a a0H a0c))))) a5g)
   (a3X (a3Q (a9x (b2I a0H (a0w a0O (a0w a1b (pv 0) a0e) a0e) (fun _ _=>rfl)))))))))
   ,?_⟩
  have pw:(10:Int) ^ (20:Int).toNat=100000000000000000000:=by decide
  have z0:0<(2 * 10 ^ (20:Int).toNat+1:Int):=by decide
  refine⟨_,rfl,_,_,rfl,rfl,⟨by decide,by decide⟩,_,_,rfl,rfl,⟨by decide,by decide +kernel⟩,_,_,rfl,rfl,.inl ⟨by decide,by decide⟩,_,_,rfl,rfl,_,_,rfl,rfl,z0,_,_,rfl,rfl,⟨by decide,by decide +kernel⟩,_,_,rfl,rfl,?_⟩
  dsimp only
  generalize n/5%(2 * 10 ^ (20:Int).toNat+1)-10 ^ (20:Int).toNat=z at *;refine⟨_,rfl,_,_,rfl,rfl,pos rfl,rfl,_,rfl,a4q (fun _=>?_) (fun _=>?_)⟩
  ·exact⟨by decide,fun p hp u k hk u2 k2 hk2=>q p _ _ _ hp (a0m.upd hp) (.whole a0b)⟩
  refine⟨_,rfl,_,_,rfl,rfl,pos rfl,rfl,_,rfl,a4q (fun _=>?_) (fun _=>?_)⟩
  ·refine⟨_,rfl,_,rfl,_,_,rfl,rfl,(by show 2<=sizeLine;decide),fun p hp u k hk u2 k2 hk2=>q p _ _ _ hp (a0m.upd hp) (.below _ ?_ a0b)⟩
   omega
  refine⟨_,rfl,_,_,rfl,rfl,pos rfl,rfl,_,rfl,a4q (fun _=>?_) (fun _=>?_)⟩
  ·exact⟨_,rfl,(by show 2<=sizeLine;decide),fun p hp u k hk u2 k2 hk2=>q p _ _ _ hp (a0m.upd hp) (.upto _ a0b)⟩
  refine⟨_,rfl,_,_,rfl,rfl,pos rfl,rfl,_,rfl,a4q (fun _=>?_) (fun _=>?_)⟩
  ·exact⟨by decide,fun p hp u k hk u2 k2 hk2=>q p _ _ _ hp (a0m.upd hp) (.word a0b)⟩
  have m0:=Int.emod_nonneg (n/5) (show(5:Int)≠0 by decide);have m1:=Int.emod_lt_of_pos (n/5) (show(0:Int)<5 by decide);obtain⟨c,ec,hc⟩:∃c,atI (",;- a":Str).cps.toList (n/5%5)=some c/\c∈sgs:=by
   obtain⟨j,hj⟩:=Int.eq_ofNat_of_zero_le m0;rw[hj];have hj5:j<5:=by omega
   have e5:(",;- a":Str).cps.toList=sgs:=by decide +kernel
   rw[e5];exact⟨sgs[j],a0U (gE0 hj5),gQ0 hj5⟩
  refine⟨_,rfl,_,_,rfl,rfl,⟨by decide,by decide⟩,_,_,rfl,rfl,pos rfl,",;- a",_,c,rfl,rfl,(by decide +kernel),ec,fun tk htk=>⟨_,tk,rfl,rfl,fun p H2 hp s2 tp u k hk=>?_⟩⟩;exact q p H2 u k hp s2 (.without c tk hc tp (Nat.le_trans (Nat.succ_le_succ (zL0 m)) htk) hk)
theorem b5S {f fT:Addr}{fd fdT:FuncData}(F:Fun K "_law_value" "_law_value" (top 48) f fd)(B:Bl mg)(DT:Df K mg "_law_text" (top 46) fT fdT)(m:Nat):a3j m P w K mg base 2 f fd ["_law_kind_here","_law_cell_here"] (toW (b6n m)):=by
 have sc:a0o ["_law_kind_here","_law_cell_here"] ["_law_kind_here","_law_cell_here"] (a0f (top 48)):=.k (by decide +kernel);have GT:a0F P w K mg base CX0 1 fT fdT ["_law_cell_here"] b5T:=b3U DT.fn B;have bT:=DT.fn.b1 "_law_cell_here" (by intros;rfl);refine F.okK sc (fun vs H Q h=>?_) (fun cdv A outer s H vs Q hr h=>?_)
 ·obtain⟨a,c,rfl,_⟩:=h
  rfl
 ·obtain⟨a,c,rfl,ha,q⟩:=h
  by_cases hw:∃ch t,ch∈sgs/\a2h H a "without" ⟨#[ch]⟩ t/\1<=t/\t<m
  ·obtain⟨ch,t,oc,tp,t1,tn⟩:=hw
   refine⟨_,a2a (PS.k (a0A (a0q a1o (a0x a0P (pv 0) a0e (fun _ _=>rfl)) a0H (a0t _)) a0j a0l))
    (a2a (PS.k (a0A (a0q a1o (a0x a0P (pv 0) a0e (fun _ _=>rfl)) a0H (a0t _)) a0j a0l))
    (a2a (PS.k (a0A (a0q a1o (a0x a0P (pv 0) a0e (fun _ _=>rfl)) a0H (a0t _)) a0j a0l))
    (a2a (PS.k (a0A (a0q a1o (a0x a0P (pv 0) a0e (fun _ _=>rfl)) a0H (a0t _)) a0j a0l))
    (a7e (a9e (a6D (by decide +kernel) (a0i GT hr (by rfl) DT.mg DT.fn.kp bT .nil a0r (a0a (pv 1) a0c)) (pv 0) (fun _ _=>rfl))))))),?_⟩
   refine⟨_,rfl,a,_,0,.str "without",rfl,rfl,tp.sq,rfl,rfl,_,rfl,a2j (by decide) ?_⟩;refine⟨_,rfl,a,_,0,.str "without",rfl,rfl,tp.sq,rfl,rfl,_,rfl,a2j (by decide) ?_⟩;refine⟨_,rfl,a,_,0,.str "without",rfl,rfl,tp.sq,rfl,rfl,_,rfl,a2j (by decide) ?_⟩;refine⟨_,rfl,a,_,0,.str "without",rfl,rfl,tp.sq,rfl,rfl,_,rfl,a2j (by decide) ?_⟩;exact⟨_,rfl,c,rfl,fun H' s'=>⟨txF c,a,"without",⟨#[ch]⟩,t,rfl,b3u c,b4s oc,Nat.ne_of_gt t1,tn,tp.same s',⟨_,rfl,rfl,rfl⟩,q _ _ rfl s'⟩⟩
  ·refine⟨_,PSs.k (a0d (a0A (a0q a1o (a0x a0P (pv 0) a0e (fun _ _=>rfl)) a0H (a0t _)) (a0h (a0u (a0w a5H (a0w a0O (pv 1) (a0w a2N (a0w a2O a0e (a0w a4i a0e a0e)) a0e)) (a0w a4i a0e a0e)))) a0l)
    (a0d (a0A (a0q a1o (a0x a0P (pv 0) a0e (fun _ _=>rfl)) a0H (a0t _)) (a0h (a0u (a0w a0O (pv 1) (a0x a0P (pv 0) a0e (fun _ _=>rfl))))) a0l)
    (a0d (a0A (a0q a1o (a0x a0P (pv 0) a0e (fun _ _=>rfl)) a0H (a0t _)) (a0h (a0u (a0w a5H (a0x a0P (pv 0) a0e (fun _ _=>rfl)) (a0w a0O (pv 1) (a0w a4i a0e a0e))))) a0l)
    (a0d (a0A (a0q a1o (a0x a0P (pv 0) a0e (fun _ _=>rfl)) a0H (a0t _)) (a0h (a0u (a0i GT hr (by rfl) DT.mg DT.fn.kp bT .nil a0r (a0a (pv 1) a0c)))) a0l)
    a0j)))),?_⟩
   have p30:(10:Int) ^ (30:Int).toNat=1000000000000000000000000000000:=by decide
   cases ha with
   |whole h=>
    refine⟨_,rfl,a,_,0,_,rfl,rfl,SqT.of h,rfl,rfl,_,rfl,a5d (by decide) ?_⟩;exact⟨_,rfl,_,_,rfl,rfl,⟨by decide,by decide +kernel⟩,_,_,rfl,rfl,.inl ⟨by decide,by decide⟩,_,_,rfl,rfl,_,_,rfl,rfl,(show(0:Int)<2 * 10 ^ (30:Int).toNat+1 by decide),_,_,rfl,rfl,⟨by decide,by decide +kernel⟩,_,_,rfl,rfl,q _ _ rfl (a0m.refl _)⟩
   |below j hj h=>
    refine⟨_,rfl,a,_,0,_,rfl,rfl,SqT.of h,rfl,rfl,_,rfl,a2j (by decide) ?_⟩;refine⟨_,rfl,a,_,0,_,rfl,rfl,SqT.of h,rfl,rfl,_,rfl,a5d (by decide) ?_⟩;exact⟨_,rfl,_,rfl,a,_,1,_,rfl,rfl,SqT.of h,rfl,_,_,rfl,rfl,(show 0<j by omega),q _ _ rfl (a0m.refl _)⟩
   |upto j h=>
    refine⟨_,rfl,a,_,0,_,rfl,rfl,SqT.of h,rfl,rfl,_,rfl,a2j (by decide) ?_⟩;refine⟨_,rfl,a,_,0,_,rfl,rfl,SqT.of h,rfl,rfl,_,rfl,a2j (by decide) ?_⟩;refine⟨_,rfl,a,_,0,_,rfl,rfl,SqT.of h,rfl,rfl,_,rfl,a5d (by decide) ?_⟩;exact⟨_,rfl,a,_,1,_,rfl,rfl,SqT.of h,rfl,_,rfl,_,_,rfl,rfl,⟨by decide,by decide +kernel⟩,_,_,rfl,rfl,(show(0:Int)<10 ^ (30:Int).toNat by decide),_,_,rfl,rfl,q _ _ rfl (a0m.refl _)⟩
   |word h=>
    refine⟨_,rfl,a,_,0,_,rfl,rfl,SqT.of h,rfl,rfl,_,rfl,a2j (by decide) ?_⟩;refine⟨_,rfl,a,_,0,_,rfl,rfl,SqT.of h,rfl,rfl,_,rfl,a2j (by decide) ?_⟩;refine⟨_,rfl,a,_,0,_,rfl,rfl,SqT.of h,rfl,rfl,_,rfl,a2j (by decide) ?_⟩;refine⟨_,rfl,a,_,0,_,rfl,rfl,SqT.of h,rfl,rfl,_,rfl,a5d (by decide) ?_⟩;exact⟨_,rfl,c,rfl,fun H' s'=>q _ _ rfl s'⟩
   |without ch t oc h h1 h2=>exact absurd ⟨ch,t,oc,h,h1,h2⟩ hw
theorem b5P {f fC fV fT:Addr}{fd fdC fdV fdT:FuncData}(F:Fun K "_law_told" "_law_told" (top 49) f fd)(B:Bl mg)(hMx:mg "max"=none)(DC:Df K mg "_law_cell" (top 42) fC fdC)(DV:Df K mg "_law_value" (top 48) fV fdV)(DT:Df K mg "_law_text" (top 46) fT fdT)(m:Nat):a3j m P w K mg base 3 f fd ["_law_script","_law_kind_here"] (toW (b5W K m)):=by
 have sc:a0o ["_law_script","_law_kind_here","_law_many"] ["_law_script","_law_kind_here"] (a0f (top 49)):=.k (by decide +kernel);have GC:a0F P w K mg base CX0 1 fC fdC ["_law_script","_law_k"] (b3p K):=a5n DC.fn B;have bC:=DC.fn.b2 "_law_script" "_law_k" (by intros;rfl);have GV:a3j m P w K mg base 2 fV fdV ["_law_kind_here","_law_cell_here"] (toW (b6n m)):=b5S DV.fn B DT m;have bV:=DV.fn.b2 "_law_kind_here" "_law_cell_here" (by intros;rfl);refine F.okK sc (fun vs H Q h=>?_) (fun cdv A outer s H vs Q hr h=>?_)
 ·obtain⟨a,b,ns,rfl,_⟩:=h
  rfl
 ·obtain⟨a,b,ns,rfl,ha,h63,hb,q⟩:=h
  have hr1:a1r 1 _:=hr.mono (by decide);refine⟨_,a2a (PS.k (a0E (i:=2) sc.nd rfl (Or.inl rfl) (a0w a0O (a0i GC hr1 (by rfl) DC.mg DC.fn.kp bC .nil a0r (a0a (pv 0) (a0a a0e a0c))) a0e)))
   (a2a (PS.k (a1H (a0A (a0q a1o (a0w a0O (a0w a1b (a0i GC hr1 (by rfl) DC.mg DC.fn.kp bC .nil a0r (a0a (pv 0) (a0a a0e a0c))) a0e) a0e) a0e (a0t _)) (a0h (a0E (i:=2) sc.nd rfl (Or.inl rfl) a0e)) a0l)))
   (a2a (PS.k (a1H (a0A (a0q a1o (a0w a0O (a0i GC hr1 (by rfl) DC.mg DC.fn.kp bC .nil a0r (a0a (pv 0) (a0a a0e a0c))) a0e) a0e (a0t _)) (a0h (a0E (i:=2) sc.nd rfl (Or.inl rfl) (a0k (a9M rfl) (by rfl) hMx PyProof.Rows.boot_max (a0a a0e (a0a (pv 2) a0c))))) a0l)))
   (a7e (a9e (b1a (osc:=a0f (top 49)) (N0:=["_law_script","_law_kind_here","_law_many"]) (xs:=["_law_k"]) (fr:=[0,1]) ⟨rfl,by decide +kernel,by decide +kernel,by decide +kernel,(fun j hj=>by
       have e:j=0\/j=1:=by simpa using hj
       rcases e with rfl |rfl
       ·exact⟨_,rfl,by decide +kernel⟩
       ·exact⟨_,rfl,by decide +kernel⟩),by decide +kernel⟩ rfl rfl rfl (a3e rfl B.range (a0a (pv 2) a0c))
     (fun s H fp=>a0v (i:=0) (show(["_law_k","_law_script","_law_kind_here"]:List Str).Nodup by decide +kernel) rfl (Or.inl rfl)) (fun s H fp=>a1E)
     (fun s H fp=>a8n GV hr (by rfl) DV.mg DV.fn.kp bV (a0a (pv 2) (a0a (a0w a2N (a0i GC hr1 (by rfl) DC.mg DC.fn.kp bC .nil a0r (a0a (pv 1) (a0a (a0w a2N a0e (pv 0)) a0c))) (a0w a2O (a0w a1b (pv 0) a0e) a0e)) a0c)))))))),?_⟩
  refine⟨_,rfl,a,ns,1,rfl,ha,by decide,by decide,h63,fun H1 s1=>⟨_,_,rfl,rfl,pos rfl,?_⟩⟩;have m0:=Int.emod_nonneg (cel ns 1) (show(6:Int)≠0 by decide);have m1:=Int.emod_lt_of_pos (cel ns 1) (show(0:Int)<6 by decide)
  dsimp only
  generalize cel ns 1%6=n0 at *;refine⟨fun σ' H'=>a0m H H'/\∃n:Int,0<=n/\n<=60/\σ'=[some (.ref a),some (.ref b),some (.int n)],?_,?_⟩
  ·refine⟨_,rfl,a,ns,1,rfl,s1.seq ha,by decide,by decide,h63,fun H2 s2=>⟨_,_,rfl,rfl,⟨by decide,by decide⟩,_,_,rfl,rfl,pos rfl,rfl,_,rfl,a4q (fun _=>?_) (fun _=>?_)⟩⟩
   ·exact⟨s1.trans s2,60,by decide,by decide,rfl⟩
   ·exact⟨s1.trans s2,n0,by omega,by omega,rfl⟩
  rintro σ2 H2 ⟨s2,n,n1,n2,rfl⟩;refine⟨fun σ' H'=>a0m H H'/\∃n:Int,0<=n/\n<=60/\σ'=[some (.ref a),some (.ref b),some (.int n)],?_,?_⟩
  ·refine⟨_,rfl,a,ns,2,rfl,s2.seq ha,by decide,by decide,h63,fun H3 s3=>⟨_,_,rfl,rfl,pos rfl,rfl,_,rfl,a4q (fun _=>?_) (fun _=>?_)⟩⟩
   ·refine⟨_,rfl,1,n,rfl,s2.trans s3,_,?_,?_,rfl⟩<;>split<;>omega
   ·exact⟨s2.trans s3,n,n1,n2,rfl⟩
  rintro σ3 H3 ⟨s3,k,k1,k2,rfl⟩;refine⟨_,rfl,_,rfl,(by omega),(by omega),fun D hD=>?_⟩;refine a1M k.toNat (fun i ys σ' Hc=>(∃t0,σ'=[t0,some (.ref a),some (.ref b)])/\a0m H3 Hc/\∀x∈ys,flt x=true) (by rw[sizeLine_eq];omega) ⟨⟨none,rfl⟩,a0m.upd hD,fun x h=>nomatch h⟩ a0b ?_ ?_
  ·rintro i σ' Hc ys hi ⟨⟨t0,rfl⟩,sm,hys⟩ hyl hD'
   refine⟨hi,?_⟩;rintro x H' ⟨rfl,rfl⟩;refine⟨_,rfl,_,rfl,_,rfl,_,_,rfl,rfl,a,ns,_,rfl,(s3.trans sm).seq ha,by omega,by omega,h63,fun H4 s4=>⟨_,rfl,_,_,rfl,rfl,⟨by decide,by decide⟩,_,_,rfl,rfl,.inl ⟨by omega,by omega⟩,_,_,rfl,rfl,b,_,rfl,hb.same ((s3.trans sm).trans s4),fun v H5 hv s5 u tk=>?_⟩⟩;have s45:=s4.trans s5;refine⟨s45 _ _ hD',⟨_,rfl⟩,(sm.trans s45).put hD,fun y hy=>?_⟩;rcases mB0.mp hy with hy |hy
   ·exact hys y hy
   ·rw[mS0.mp hy]
    exact hv
  ·rintro σ' Hc ys ⟨_,sm,hys⟩ hDn hyl
   exact⟨nR0 _,q D ys Hc (s3.trans sm) (a0B s3 hD) hDn (by omega) hys⟩
end
end My
namespace L2
open PySem PySem.Spec PyProof.Rows
theorem b0Z {X:Cx}:MtR X "list.clear" b1S:=b0M
end L2
namespace My
open PySem L2 PyProof.Rows
seal L2.PE L2.PT L2.PW L2.PS L2.PSs L2.PA L2.PI L2.PG L2.PGs L2.OpR L2.a1p L2.IxR L2.SlR L2.MtR L2.PIf L2.PO L2.MtM L2.PC L2.a6n
abbrev mv (i:Nat):Stmt:=a0X (top 33) i
def b0A:Sp:=fun vs H Q _=>∃x y:V,vs=[x,y]/\Q y H
def a7j:Sp:=fun vs H Q _=>∃x y z r:V,vs=[x,y,z,r]/\Q .non H
def b0v:Sp:=fun vs H Q _=>∃x:V,vs=[x]/\Q (.bl true) H
theorem b5I {a b:Str}{v u:V}(h:a≠b):a4w [((.inr a:Key),v)] (.inr b) u=[(.inr a,v),(.inr b,u)]:=by
 unfold a4w;rw[if_neg]
 ·rfl
 ·simp[h]
theorem b4g {a b:Str}{v u:V}(h:a≠b):a0R [] [((.inr a:Key),v),(.inr b,u)]=[(.inr a,v),(.inr b,u)]:=b5I h
abbrev nmL (nm:Nat->Str):List V:=(List.range 7).map fun i=>V.str (nm i)
structure Nm8 (nm:Nat->Str):Prop where
 inj:∀i j,i<7->j<7->i≠1->j≠1->nm i=nm j->i=j
 n10:nm 1≠nm 0
 n15:nm 1≠nm 5
 ok:∀i,i<7->a1P (nm i)=true
theorem Nm8.ne {nm:Nat->Str}(h:Nm8 nm){i j:Nat}(hi:i<7:=by decide)(hj:j<7:=by decide)(h1:i≠1:=by decide)(h2:j≠1:=by decide)(n:i≠j:=by decide):nm i≠nm j:=fun e=>n (h.inj i j hi hj h1 h2 e)
theorem a1L (nm:Nat->Str){i:Nat}(hi:i<7):atI (nmL nm) (i:Int)=some (.str (nm i)):=a0U (by rw[gM0,List.getElem?_range hi];rfl)
def a7T:Dt:=.tup [.str "once",.tup [.str "word"]]
def b4C:Dt:=.tup [.str "key"]
def cl1 (nm:Nat->Str)(c:Int):List (Str×Dt):=if c%2=1 then[(nm 3,a7T)] else[]
def clD (nm:Nat->Str)(c:Int):List (Str×Dt):=cl1 nm c++if c/2%2=1 then[(nm 4,b4C)] else[]
structure ClR (H:Hp) (cs:List (Str×V)) (ds:List (Str×Dt)):Prop where
 nm:cs.map (·.1)=ds.map (·.1)
 at_:∀(i:Nat) (x:Str×V) (d:Str×Dt),cs[i]? =some x->ds[i]? =some d->Rep H d.2 x.2
theorem ClR.same {H H':Hp}{cs:List (Str×V)}{ds:List (Str×Dt)}(h:ClR H cs ds)(s:a0m H H'):ClR H' cs ds:=⟨h.nm,fun i x d a b=>(h.at_ i x d a b).same s⟩
theorem ClR.len {H:Hp}{cs:List (Str×V)}{ds:List (Str×Dt)}(h:ClR H cs ds):cs.length=ds.length:=by have:=congrArg List.length h.nm;rwa [lM0,lM0] at this
theorem ClR.snoc {H H':Hp}{cs:List (Str×V)}{ds:List (Str×Dt)}{z:Str}{v:V}{d:Dt}(h:ClR H cs ds)(hn:∀d∈ds,a2d d.2=true)(s:∀{d v},a2d d=true->Rep H d v->Rep H' d v)(r:Rep H' d v):ClR H' (cs++[(z,v)]) (ds++[(z,d)]):=by
 refine⟨by rw[mA0,mA0,h.nm];rfl,fun i x e h1 h2=>?_⟩;have l:=h.len
 by_cases hi:i<cs.length
 ·rw[gL0 hi] at h1
  rw[gL0 (by omega)] at h2;exact s (hn e (gI0 h2)) (h.at_ i x e h1 h2)
 ·have hi':=(gS0.mp h1).1
  rw[lA0,List.length_singleton] at hi';obtain rfl:i=cs.length:=by omega
  rw[gR0 (nR0 _),Nat.sub_self] at h1;rw[gR0 (by omega),l,Nat.sub_self] at h2;cases h1;cases h2;exact r
theorem b0C {c:List (Str×V)}{z:Str}(h:z∉c.map (·.1)):a1K (kvC c) (.inr z)=none:=by
 cases e:a1K (kvC c) (.inr z) with
 |none=>rfl
 |some v=>exact absurd (a4Q e) h
theorem a3A {c:List (Str×V)}{z:Str}{v:V}(h:z∉c.map (·.1)):a4w (kvC c) (.inr z) v=kvC (c++[(z,v)]):=by
 rw[L2.a2e _ (b0C h)];unfold kvC;rw[mA0]
 rfl
theorem a3c {H:Hp}{a:Addr}{z:Str}(h:H a=some (.tup [.str z]))(l:z.length<=1000):Rep H (.tup [.str z]) (.ref a):=by
 simp only[Rep,a2c];exact⟨a,_,rfl,h,_,_,rfl,⟨rfl,l⟩,rfl⟩
theorem a2f {H:Hp}{a:Addr}{z:Str}{v:V}{d:Dt}(h:H a=some (.tup [.str z,v]))(l:z.length<=1000)(r:Rep H d v):Rep H (.tup [.str z,d]) (.ref a):=by
 simp only[Rep,a2c];exact⟨a,_,rfl,h,_,_,rfl,⟨rfl,l⟩,v,[],rfl,r,rfl⟩
theorem a8o (nm:Nat->Str)(c:Int){x:Str}(h:x∈(cl1 nm c).map (·.1)):x=nm 3:=by
 unfold cl1 at h
 split at h
 ·simpa using h
 ·cases h
theorem b2x (nm:Nat->Str)(c:Int):∀d∈cl1 nm c,a2d d.2=true:=fun d hd=>by
 unfold cl1 at hd
 split at hd
 ·rw[mS0.mp hd]
  exact(by decide +kernel:a2d a7T=true)
 ·cases hd
def ky (c:Int):V:=if c/8%2=0 then .non else .int (c/16%9)
def rw1 (nm:Nat->Str)(c:Int):Rw:=if c%2=1 then[(nm 3,.str (txF (c/8)))] else[]
def rwE (nm:Nat->Str)(c:Int):Rw:=rw1 nm c++if c/2%2=1 then[(nm 4,ky c)] else[]
theorem a5D (nm:Nat->Str)(c:Int){x:Str}(h:x∈(rw1 nm c).map (·.1)):x=nm 3:=by
 unfold rw1 at h
 split at h
 ·simpa using h
 ·cases h
theorem b1G (nm:Nat->Str)(c:Int):(rw1 nm c).length<=1:=by
 unfold rw1
 split
 ·exact nR0 1
 ·exact zL0 1
theorem b3C (nm:Nat->Str)(c:Int):(cl1 nm c).length<=1:=by
 unfold cl1
 split
 ·exact nR0 1
 ·exact zL0 1
def b6c:Sp:=fun vs H Q _=>∃(nl:Addr) (nm:Nat->Str) (c:Int),vs=[.ref nl,.int c]/\H nl=some (.lst (nmL nm))/\Nm8 nm/\∀d cs H',a0m H H'->H d=none->H' d=some (.dK (kvC cs))->ClR H' cs (clD nm c)->Q (.ref d) H'
def b6j:Sp:=fun vs H Q _=>∃(nl:Addr) (nm:Nat->Str) (c:Int),vs=[.ref nl,.int c]/\H nl=some (.lst (nmL nm))/\Nm8 nm/\∀d H',a0m H H'->H d=none->H' d=some (.dK (kvC (rwE nm c)))->Q (.ref d) H'
section
variable {P:Program}{w:World}{K:Fg0}{mg:Str->Option Value}{base:Heap}{CC PF:Addr}
theorem b5H {f:Addr}{fd:FuncData}(F:Fun K "_law_columns" "_law_columns" (top 50) f fd):a0F P w K mg base CX0 1 f fd ["_law_names_here","_law_cell_here"] b6c:=by
 have sc:a0o ["_law_names_here","_law_cell_here","_law_columns_here"] ["_law_names_here","_law_cell_here"] (a0f (top 50)):=.k (by decide +kernel);refine F.ok sc (fun vs H Q E h=>?_) (fun cdv A outer s H vs Q E hr h=>?_)
 ·obtain⟨nl,nm,c,rfl,_⟩:=h
  rfl
 ·obtain⟨nl,nm,c,rfl,hnl,N,q⟩:=h
  have hu:=a2E hr;refine⟨_,a0d (a0E (i:=2) sc.nd rfl (Or.inl rfl) a3z)
   (a0d (a1H (a0A (a0q a1o (a0w a0O (pv 1) a0e) a0e (a0t _)) (a0h (a1y hu (pv 2) (a0x a0p (pv 0) a0e (fun _ _=>rfl)) (a0M (a0a a0H (a0a (a0M (a0a a0H a0c)) a0c))) rfl)) a0l))
   (a0d (a1H (a0A (a0q a1o (a0w a0O (a0w a1b (pv 1) a0e) a0e) a0e (a0t _)) (a0h (a1y hu (pv 2) (a0x a0p (pv 0) a0e (fun _ _=>rfl)) (a0M (a0a a0H a0c)) rfl)) a0l))
   (a0h (a0u (pv 2))))),?_⟩
  intro d hd;have T1:=a0m.upd (o:=.dK []) hd;have e1:=a0b (H:=H) (a:=d) (o:=.dK []);generalize upd H d (.dK [])=H1 at *;refine⟨fun σ' H'=>σ'=[some (.ref nl),some (.int c),some (.ref d)]/\a0m H H'/\∃cs,H' d=some (.dK (kvC cs))/\ClR H' cs (cl1 nm c),?_,?_⟩
  ·refine⟨_,rfl,_,_,rfl,rfl,pos rfl,rfl,_,rfl,a4q (fun hc=>?_) (fun hc=>?_)⟩
   ·have hc':c%2=1:=by have:=of_decide_eq_true hc;injection this
    refine⟨(by decide),fun p1 hp1=>⟨(by show 2<=sizeLine;decide),fun p2 hp2=>?_⟩⟩;have T2:=a0m.upd (o:=.tup [V.str "word"]) hp1;have e2:=a0b (H:=H1) (a:=p1) (o:=.tup [V.str "word"]);generalize upd H1 p1 (.tup [V.str "word"])=H2 at *;have T3:=a0m.upd (o:=.tup [V.str "once",.ref p1]) hp2;have e3:=a0b (H:=H2) (a:=p2) (o:=.tup [V.str "once",.ref p1]);generalize upd H2 p2 (.tup [V.str "once",.ref p1])=H3 at *;have S3:=(T1.trans T2).trans T3;refine⟨_,rfl,_,rfl,nl,_,3,_,rfl,rfl,SqL.of (S3 _ _ hnl),a1L nm (i:=3) (by decide),d,_,rfl,a5w.k (k:=.inr (nm 3)) (T3 _ _ (T2 _ _ e1)) (by show 0<sizeLine;decide),rfl,S3.put hd,[(nm 3,.ref p2)],a0b,?_⟩;unfold cl1;rw[if_pos hc'];refine⟨rfl,fun i x dd h1 h2=>?_⟩
    match i,h1,h2 with
    |0,h1,h2=>
     cases h1;cases h2;have n1:p1≠d:=fun e=>by rw[e,e1] at hp1;cases hp1
     have n2:p2≠d:=fun e=>by rw[e,T2 _ _ e1] at hp2;cases hp2
     exact a2f ((a0g n2).trans e3) (by decide +kernel) (a3c ((a0g n1).trans (T3 _ _ e2)) (by decide +kernel))
   ·have hc':¬c%2=1:=fun e=>hc (dT0 (congrArg V.int e))
    refine⟨rfl,T1,[],e1,?_⟩;unfold cl1;rw[if_neg hc'];exact⟨rfl,fun i x dd h1=>nomatch h1⟩
  rintro σ2 H2 ⟨rfl,s2,cs,e2,c2⟩;refine⟨fun σ' H'=>σ'=[some (.ref nl),some (.int c),some (.ref d)]/\a0m H H'/\∃cs,H' d=some (.dK (kvC cs))/\ClR H' cs (clD nm c),?_,?_⟩
  ·refine⟨_,rfl,_,_,rfl,rfl,⟨by decide,by decide⟩,_,_,rfl,rfl,pos rfl,rfl,_,rfl,a4q (fun hc=>?_) (fun hc=>?_)⟩
   ·have hc':c/2%2=1:=by have:=of_decide_eq_true hc;injection this
    refine⟨(by decide),fun p1 hp1=>?_⟩;have T3:=a0m.upd (o:=.tup [V.str "key"]) hp1;have e3:=a0b (H:=H2) (a:=p1) (o:=.tup [V.str "key"]);generalize upd H2 p1 (.tup [V.str "key"])=H3 at *;have S3:=s2.trans T3;have hn:nm 4∉cs.map (·.1):=fun h=>by
     rw[c2.nm] at h;exact absurd (a8o nm c h) (N.ne (i:=4) (j:=3))
    have cl:cs.length<=1:=by rw[c2.len];exact b3C nm c
    refine⟨_,rfl,_,rfl,nl,_,4,_,rfl,rfl,SqL.of (S3 _ _ hnl),a1L nm (i:=4) (by decide),d,_,rfl,a5w.k (k:=.inr (nm 4)) (T3 _ _ e2) (by unfold kvC;rw[lM0,sizeLine_eq];omega),?_⟩;rw[a3A hn];refine⟨rfl,S3.put hd,_,a0b,?_⟩;have n1:p1≠d:=fun e=>by rw[e,e2] at hp1;cases hp1
    unfold clD;rw[if_pos hc'];exact(c2.same T3).snoc (b2x nm c) (fun hn r=>Rep.beside (fun xs h=>by rw[T3 _ _ e2] at h;cases h) hn r) (a3c ((a0g n1).trans e3) (by decide +kernel))
   ·have hc':¬c/2%2=1:=fun e=>hc (dT0 (congrArg V.int e))
    refine⟨rfl,s2,cs,e2,?_⟩;unfold clD;rw[if_neg hc',List.append_nil];exact c2
  rintro σ3 H3 ⟨rfl,s3,cs3,e3,c3⟩;exact⟨_,rfl,q d cs3 H3 s3 hd e3 c3⟩
theorem b5C (c:Int):atI [V.non,.int (c/16%9)] (c/8%2)=some (ky c):=by
 have h:c/8%2=0\/c/8%2=1:=by omega
 unfold ky;rcases h with h |h
 ·rw[if_pos h,h]
  rfl
 ·rw[if_neg (by omega),h]
  rfl
theorem b5p {f fT:Addr}{fd fdT:FuncData}(F:Fun K "_law_row" "_law_row" (top 51) f fd)(B:Bl mg)(DT:Df K mg "_law_text" (top 46) fT fdT):a0F P w K mg base CX0 2 f fd ["_law_names_here","_law_cell_here"] b6j:=by
 have sc:a0o ["_law_names_here","_law_cell_here","_law_row_here"] ["_law_names_here","_law_cell_here"] (a0f (top 51)):=.k (by decide +kernel);have GT:a0F P w K mg base CX0 1 fT fdT ["_law_cell_here"] b5T:=b3U DT.fn B;have bT:=DT.fn.b1 "_law_cell_here" (by intros;rfl);refine F.ok sc (fun vs H Q E h=>?_) (fun cdv A outer s H vs Q E hr h=>?_)
 ·obtain⟨nl,nm,c,rfl,_⟩:=h
  rfl
 ·obtain⟨nl,nm,c,rfl,hnl,N,q⟩:=h
  have hu:=a2E hr;refine⟨_,a0d (a0E (i:=2) sc.nd rfl (Or.inl rfl) a3z)
   (a0d (a1H (a0A (a0q a1o (a0w a0O (pv 1) a0e) a0e (a0t _)) (a0h (a1y hu (pv 2) (a0x a0p (pv 0) a0e (fun _ _=>rfl)) (a0i GT hr (by rfl) DT.mg DT.fn.kp bT .nil a0r (a0a (a0w a1b (pv 1) a0e) a0c)) rfl)) a0l))
   (a0d (a1H (a0A (a0q a1o (a0w a0O (a0w a1b (pv 1) a0e) a0e) a0e (a0t _)) (a0h (a1y hu (pv 2) (a0x a0p (pv 0) a0e (fun _ _=>rfl)) (a0x a0p (a1R (a0a a1m (a0a (a0w a0O (a0w a1b (pv 1) a0e) a0e) a0c))) (a0w a0O (a0w a1b (pv 1) a0e) a0e) (fun _ _=>rfl)) rfl)) a0l))
   (a0h (a0u (pv 2))))),?_⟩
  intro d hd;have T1:=a0m.upd (o:=.dK []) hd;have e1:=a0b (H:=H) (a:=d) (o:=.dK []);generalize upd H d (.dK [])=H1 at *;refine⟨fun σ' H'=>σ'=[some (.ref nl),some (.int c),some (.ref d)]/\a0m H H'/\H' d=some (.dK (kvC (rw1 nm c))),?_,?_⟩
  ·refine⟨_,rfl,_,_,rfl,rfl,pos rfl,rfl,_,rfl,a4q (fun hc=>?_) (fun hc=>?_)⟩
   ·have hc':c%2=1:=by have:=of_decide_eq_true hc;injection this
    refine⟨_,rfl,_,_,rfl,rfl,⟨by decide,by decide⟩,_,rfl,fun H2 s2=>?_⟩;have S2:=T1.trans s2;refine⟨_,rfl,_,rfl,nl,_,3,_,rfl,rfl,SqL.of (S2 _ _ hnl),a1L nm (i:=3) (by decide),d,_,rfl,a5w.k (k:=.inr (nm 3)) (s2 _ _ e1) (by show 0<sizeLine;decide),rfl,S2.put hd,?_⟩;unfold rw1;rw[if_pos hc'];exact a0b
   ·have hc':¬c%2=1:=fun e=>hc (dT0 (congrArg V.int e))
    refine⟨rfl,T1,?_⟩;unfold rw1;rw[if_neg hc'];exact e1
  rintro σ2 H2 ⟨rfl,s2,e2⟩;refine⟨fun σ' H'=>σ'=[some (.ref nl),some (.int c),some (.ref d)]/\a0m H H'/\H' d=some (.dK (kvC (rwE nm c))),?_,?_⟩
  ·refine⟨_,rfl,_,_,rfl,rfl,⟨by decide,by decide⟩,_,_,rfl,rfl,pos rfl,rfl,_,rfl,a4q (fun hc=>?_) (fun hc=>?_)⟩
   ·have hc':c/2%2=1:=by have:=of_decide_eq_true hc;injection this
    refine⟨_,rfl,_,_,rfl,rfl,⟨by decide,by decide⟩,_,_,rfl,rfl,pos rfl,(by show 2<=sizeLine;decide),fun l hl=>?_⟩;have T3:=a0m.upd (o:=.lst [V.non,.int (c/16%9)]) hl;have e3:=a0b (H:=H2) (a:=l) (o:=.lst [V.non,.int (c/16%9)]);generalize upd H2 l (.lst [V.non,.int (c/16%9)])=H3 at *;have S3:=s2.trans T3;have hn:nm 4∉(rw1 nm c).map (·.1):=fun h=>absurd (a5D nm c h) (N.ne (i:=4) (j:=3));have cl:=b1G nm c;refine⟨_,rfl,_,_,rfl,rfl,⟨by decide,by decide⟩,_,_,rfl,rfl,pos rfl,l,_,_,_,rfl,rfl,SqL.of e3,b5C c,_,rfl,_,rfl,nl,_,4,_,rfl,rfl,SqL.of (S3 _ _ hnl),a1L nm (i:=4) (by decide),d,_,rfl,a5w.k (k:=.inr (nm 4)) (T3 _ _ e2) (by unfold kvC;rw[lM0,sizeLine_eq];omega),?_⟩;rw[a3A hn];refine⟨rfl,S3.put hd,?_⟩;unfold rwE;rw[if_pos hc'];exact a0b
   ·have hc':¬c/2%2=1:=fun e=>hc (dT0 (congrArg V.int e))
    refine⟨rfl,s2,?_⟩;unfold rwE;rw[if_neg hc',List.append_nil];exact e2
  rintro σ3 H3 ⟨rfl,s3,e3⟩;exact⟨_,rfl,q d H3 s3 hd e3⟩
def nX (nm:Nat->Str)(c:Int):Str:=if c/5%2=0 then nm 6 else nm 2
theorem b4f (nm:Nat->Str)(c:Int):atI (nmL nm) (6-4 * (c/5%2))=some (.str (nX nm c)):=by
 have h:c/5%2=0\/c/5%2=1:=by omega
 unfold nX;rcases h with h |h
 ·rw[if_pos h,h]
  exact a1L nm (i:=6) (by decide)
 ·rw[if_neg (by omega),h]
  exact a1L nm (i:=2) (by decide)
theorem b5r {nm:Nat->Str}(N:Nm8 nm)(c:Int):a1P (nX nm c)=true:=by
 unfold nX
 split
 ·exact N.ok 6 (by decide)
 ·exact N.ok 2 (by decide)
theorem a9d {nm:Nat->Str}(N:Nm8 nm)(c:Int):((clD nm c).map (·.1)).Nodup/\(clD nm c).length<=2/\∀d∈clD nm c,(d.1=nm 3\/d.1=nm 4)/\a2y d.2=true/\a2d d.2=true:=by
 have h1:(a2y a7T=true/\a2d a7T=true)/\(a2y b4C=true/\a2d b4C=true):=by decide +kernel
 unfold clD cl1
 split<;>split
 ·refine⟨?_,by simp,fun d hd=>?_⟩
  ·show[nm 3,nm 4].Nodup
   simp[N.ne (i:=3) (j:=4)]
  ·have hd':d=(nm 3,a7T)\/d=(nm 4,b4C):=by simpa using hd
   rcases hd' with rfl |rfl
   ·exact⟨.inl rfl,h1.1⟩
   ·exact⟨.inr rfl,h1.2⟩
 ·refine⟨by simp,by simp,fun d hd=>?_⟩
  have hd':d=(nm 3,a7T):=by simpa using hd
  subst hd';exact⟨.inl rfl,h1.1⟩
 ·refine⟨by simp,by simp,fun d hd=>?_⟩
  have hd':d=(nm 4,b4C):=by simpa using hd
  subst hd';exact⟨.inr rfl,h1.2⟩
 ·exact⟨List.nodup_nil,by simp,fun d hd=>nomatch hd⟩
theorem ClR.rep {H:Hp}{cs:List (Str×V)}{ds:List (Str×Dt)}(h:ClR H cs ds){x:Str×V}(hx:x∈cs):∃d∈ds,d.1=x.1/\Rep H d.2 x.2:=by
 obtain⟨i,hi⟩:=List.getElem?_of_mem hx;have hl:=h.len;have hi':i<ds.length:=by have:=(gS0.mp hi).1;omega
 refine⟨ds[i],gQ0 hi',?_,h.at_ i x _ hi (gE0 hi')⟩;have e:=congrArg (fun l=>l[i]?) h.nm;simp only[gM0,hi,gE0 hi',Option.map_some] at e;exact(Option.some.inj e).symm
theorem a7w {H:Hp}{nm:Nat->Str}(N:Nm8 nm){c:Int}{cs:List (Str×V)}(h:ClR H cs (clD nm c)):a0L H cs/\cs.length<=2/\∀z∈cs.map (·.1),z=nm 3\/z=nm 4:=by
 obtain⟨a,b,k⟩:=a9d N c;have hl:=h.len;refine⟨⟨by rw[h.nm];exact a,by omega,fun x hx=>?_⟩,by omega,fun z hz=>?_⟩
 ·obtain⟨d,hd,e,r⟩:=h.rep hx
  obtain⟨k1,k2,k3⟩:=k d hd;refine⟨?_,d.2,r,k2,k3⟩;rw[<-e];rcases k1 with k1 |k1<;>rw[k1]
  ·exact N.ok 3 (by decide)
  ·exact N.ok 4 (by decide)
 ·rw[h.nm] at hz
  obtain⟨d,hd,rfl⟩:=mM0.mp hz;exact(k d hd).1
theorem b4A {H:Hp}{nm:Nat->Str}(N:Nm8 nm){c:Int}{cs cs':List (Str×V)}(h:ClR H cs (clD nm c))(h':ClR H cs' (clD nm c)):CQ H cs cs':=by
 obtain⟨a,b,k⟩:=a9d N c;refine⟨by rw[h.nm,h'.nm],fun z hz=>?_⟩;obtain⟨x,hx,rfl⟩:=mM0.mp hz;obtain⟨i,hi⟩:=List.getElem?_of_mem hx;have hl:=h.len;have hl':=h'.len;have hid:i<(clD nm c).length:=by have:=(gS0.mp hi).1;omega
 have hi':i<cs'.length:=by omega
 have e:x.1=cs'[i].1:=by
  have e:=congrArg (fun l=>l[i]?) (h.nm.trans h'.nm.symm);simp only[gM0,hi,gE0 hi',Option.map_some] at e;exact Option.some.inj e
 refine⟨(clD nm c)[i].2,?_,?_,(k _ (gQ0 hid)).2.1⟩
 ·rw[a1v (by rw[h.nm];exact a) hx]
  exact h.at_ i x _ hi (gE0 hid)
 ·rw[e,a1v (by rw[h'.nm];exact a) (gQ0 hi')]
  exact h'.at_ i _ _ (gE0 hi') (gE0 hid)
def soL (b:Int):Str:=if b=0 then "list" else "some"
theorem b5y {c:Int}:atI [V.str "list",.str "some"] (c%2)=some (.str (soL (c%2)))/\atI [V.str "many",.str "some"] (c%2)=some (.str (a0N (soL (c%2))))/\(soL (c%2)="list"\/soL (c%2)="some"):=by
 have h:c%2=0\/c%2=1:=by omega
 rcases h with h |h<;>rw[h]
 ·exact⟨by decide +kernel,by decide +kernel,by decide +kernel⟩
 ·exact⟨by decide +kernel,by decide +kernel,by decide +kernel⟩
def b3S (K:Fg0):Sp:=fun vs H Q _=>∃(a nl kd:Addr) (ns:List Int) (nm:Nat->Str) (d:Dt) (bs:Bool),vs=[.ref a,.ref nl,.ref kd,.bl bs]/\SqL K H a (ns.map V.int)/\ns.length<=63/\H nl=some (.lst (nmL nm))/\Nm8 nm/\Rep H d (.ref kd)/\a1N d=true/\a2d d=true ∧
 ∀l f0 f1 k c0 c1 sd (so:Str) H',a0m H H'->H l=none->H' l=some (.lst [.ref f0,.ref f1])->(so="list"\/so="some")->H' k=some (.tup [.str so,.ref kd])->FK H' f0 9 ⟨nm 0,"head",c0++[(nm 2,.ref k)]⟩ sd->FK H' f1 9 ⟨nm 0,"head",c1⟩ (sd++[⟨nm 1,a0N so,[(nm 2,.ref kd)]⟩])->CQ H' c0 c1->c0.length<=2->c1.length<=2->nm 2∉c0.map (·.1)->nm 2∉c1.map (·.1)->sd.length<=1->nm 1∉sd.map (·.name)->Q (.ref l) H'
def nFm:List Str:=["_law_script","_law_names_here","_law_kind_here","_law_beside","_law_cell_here","_law_some","_law_columns_here","_law_sides","_law_old"]
def sdK (S:List Sd):List (Key×V):=S.map fun x=>(.inr x.n,.ref x.t)
structure b4L (H:Hp) (nm:Nat->Str) (sd:Addr) (S:List Sd):Prop where
 le:S.length<=1
 at_:∀x∈S,x.n=nm 5/\x.so="twin"/\x.d≠sd/\H x.t=some (.tup [.str x.so,.ref x.d])/\TbD H x.d x.c/\a0L H x.c
theorem b4L.same {H H':Hp}{nm:Nat->Str}{sd:Addr}{S:List Sd}(h:b4L H nm sd S)(s:a0m H H'):b4L H' nm sd S:=⟨h.le,fun x hx=>let ⟨a,b,c,d,e,f⟩:=h.at_ x hx;⟨a,b,c,s _ _ d,e.same s,f.same s⟩⟩
theorem a3J {H:Hp}{c:List (Str×V)}{a:Addr}{u:HO}(h:a0L H c)(e:∀xs,H a≠some (.tup xs)):a0L (upd H a u) c:=⟨h.1,h.2.1,fun p hp=>let ⟨x,d,r,k,n⟩:=h.2.2 p hp;⟨x,d,Rep.beside e n r,k,n⟩⟩
theorem a0W.bes {H:Hp}{f:Addr}{sz:Int}{Ts:List Tb}{a:Addr}{u:HO}(h:a0W H f sz Ts)(e:∀xs,H a≠some (.tup xs))(e2:∀o xs,H a≠some (.frz o xs)):a0W (upd H a u) f sz Ts:=by
 have k:∀{b:Addr} {xs:List V},H b=some (.tup xs)->(upd H a u) b=some (.tup xs):=fun {b xs} h=>(a0g (fun z=>e xs (by rw[<-z];exact h))).trans h;have k2:∀{b:Addr} {o:Obj} {xs:HO},H b=some (.frz o xs)->(upd H a u) b=some (.frz o xs):=fun {b o xs} h=>(a0g (fun z=>e2 o xs (by rw[<-z];exact h))).trans h;obtain⟨tt,es,h1,h2,h3,h4⟩:=h;refine⟨tt,es,k h1,k h2,h3,fun j x T a b=>?_⟩;obtain⟨ct,c1,o,ps,zs,y1,y2,y3,y4,y5,y6⟩:=h4 j x T a b;exact⟨ct,k c1,o,ps,zs,y1,y2,y3,k2 y4,y5,fun j p z a b=>k (y6 j p z a b)⟩
theorem b3W {f fC fL fF:Addr}{fd fdC fdL fdF:FuncData}(F:Fun K "_law_forms" "_law_forms" (top 53) f fd)(B:Bl mg)(DC:Df K mg "_law_cell" (top 42) fC fdC)(DL:Df K mg "_law_columns" (top 50) fL fdL)(DF:Df K mg "_law_form" (top 45) fF fdF):a0F P w K mg base CX0 2 f fd ["_law_script","_law_names_here","_law_kind_here","_law_beside"] (b3S K):=by
 have sc:a0o nFm ["_law_script","_law_names_here","_law_kind_here","_law_beside"] (a0f (top 53)):=.k (by decide +kernel);have GC:a0F P w K mg base CX0 1 fC fdC ["_law_script","_law_k"] (b3p K):=a5n DC.fn B;have bC:=DC.fn.b2 "_law_script" "_law_k" (by intros;rfl);have GL:a0F P w K mg base CX0 1 fL fdL ["_law_names_here","_law_cell_here"] b6c:=b5H DL.fn;have bL:=DL.fn.b2 "_law_names_here" "_law_cell_here" (by intros;rfl);have GF:a0F P w K mg base CX0 1 fF fdF ["_law_size","_law_head","_law_columns_here","_law_sides"] b3E:=b4D DF.fn B;have bF:=DF.fn.b4 "_law_size" "_law_head" "_law_columns_here" "_law_sides" (by intros;rfl);refine F.ok sc (fun vs H Q E h=>?_) (fun cdv A outer s H vs Q E hr h=>?_)
 ·obtain⟨a,nl,kd,ns,nm,d,bs,rfl,_⟩:=h
  rfl
 ·obtain⟨a,nl,kd,ns,nm,d,bs,rfl,ha,h63,hnl,N,rd,pd,nd,q⟩:=h
  have hu:=a2E hr;refine⟨_,a0d (a0E (i:=4) sc.nd rfl (Or.inl rfl) (a0i GC hr (by rfl) DC.mg DC.fn.kp bC .nil a0r (a0a (pv 0) (a0a a0e a0c))))
   (a0d (a0E (i:=5) sc.nd rfl (Or.inl rfl) (a0w a0O (a0i GC hr (by rfl) DC.mg DC.fn.kp bC .nil a0r (a0a (pv 0) (a0a a0e a0c))) a0e))
   (a0d (a0E (i:=6) sc.nd rfl (Or.inl rfl) (a0i GL hr (by rfl) DL.mg DL.fn.kp bL .nil a0r (a0a (pv 1) (a0a (pv 4) a0c))))
   (a0d (a1y hu (pv 6) (a0x a0p (pv 1) a0e (fun _ _=>rfl)) (a0M (a0a (a0x a0p (a1R (a0a a0H (a0a a0H a0c))) (pv 5) (fun _ _=>rfl)) (a0a (pv 2) a0c))) rfl)
   (a0d (a0E (i:=7) sc.nd rfl (Or.inl rfl) a3z)
   (a0d (a1H (a0A (a0D (pv 3)) (a0h (a1y hu (pv 7) (a0x a0p (pv 1) a0e (fun _ _=>rfl)) (a0M (a0a a0H (a0a (a2p (a1G (a0x a0p (pv 1) (a0w a5H a0e (a0w a2O a0e (a0w a0O (a0w a1b (pv 4) a0e) a0e))) (fun _ _=>rfl)) (a0M (a0a a0H a0c)) a2t) rfl rfl (by simp) (by decide)) a0c))) rfl)) a0l))
   (a0d (a0E (i:=8) sc.nd rfl (Or.inl rfl) (a0i GF hr (by rfl) DF.mg DF.fn.kp bF .nil a0r (a0a a0e (a0a (a0x a0p (pv 1) a0e (fun _ _=>rfl)) (a0a (pv 6) (a0a (pv 7) a0c))))))
   (a0d (a1y hu (pv 7) (a0x a0p (pv 1) a0e (fun _ _=>rfl)) (a0M (a0a (a0x a0p (a1R (a0a a0H (a0a a0H a0c))) (pv 5) (fun _ _=>rfl)) (a0a (a2p (a1G (a0x a0p (pv 1) a0e (fun _ _=>rfl)) (pv 2) a2t) rfl rfl (by simp) (by decide)) a0c))) rfl)
   (a0h (a0u (a1R (a0a (pv 8) (a0a (a0i GF hr (by rfl) DF.mg DF.fn.kp bF .nil a0r (a0a a0e (a0a (a0x a0p (pv 1) a0e (fun _ _=>rfl)) (a0a (a0i GL hr (by rfl) DL.mg DL.fn.kp bL .nil a0r (a0a (pv 1) (a0a (pv 4) a0c))) (a0a (pv 7) a0c))))) a0c))))))))))))
   ,?_⟩
  refine⟨_,rfl,a,ns,12,rfl,ha,by decide,by decide,h63,fun H1 s1=>?_⟩;refine⟨_,rfl,a,ns,2,rfl,s1.seq ha,by decide,by decide,h63,fun H2 s2=>⟨_,_,rfl,rfl,pos rfl,?_⟩⟩;obtain⟨so1,so2,so3⟩:=b5y (c:=cel ns 2)
  dsimp only
  generalize cel ns 12=c at *;generalize soL (cel ns 2%2)=so at *;generalize cel ns 2%2=sb at *;have S2:=s1.trans s2;refine⟨_,rfl,_,rfl,nl,nm,c,rfl,S2 _ _ hnl,N,fun cd c0 H3 s3 hcd ecd r0=>?_⟩;have S3:=S2.trans s3;have cd0:H cd=none:=a0B S2 hcd;obtain⟨k0,l0,z0⟩:=a7w N r0;have n20:nm 2∉c0.map (·.1):=fun h=>by
   rcases z0 _ h with e |e
   ·exact absurd e (N.ne (i:=2) (j:=3))
   ·exact absurd e (N.ne (i:=2) (j:=4))
  refine⟨(by show 2<=sizeLine;decide),fun l1 hl1=>⟨_,rfl,l1,_,_,_,rfl,rfl,SqL.of a0b,so1,_,rfl,(by show 2<=sizeLine;decide),fun k hk=>?_⟩⟩;have T4:=(a0m.upd (o:=.lst [V.str "list",.str "some"]) hl1).trans (a0m.upd (o:=.tup [.str so,.ref kd]) hk);have ek:=a0b (H:=upd H3 l1 (.lst [V.str "list",.str "some"])) (a:=k) (o:=.tup [.str so,.ref kd]);generalize upd (upd H3 l1 (.lst [V.str "list",.str "some"])) k (.tup [.str so,.ref kd])=H4 at *;have S4:=S3.trans T4;refine⟨_,rfl,_,rfl,nl,_,2,_,rfl,rfl,SqL.of (S4 _ _ hnl),a1L nm (i:=2) (by decide),cd,_,rfl,a5w.k (k:=.inr (nm 2)) (T4 _ _ ecd) (by unfold kvC;rw[lM0,sizeLine_eq];omega),?_⟩;rw[a3A n20];have S5:a0m H (upd H4 cd (.dK (kvC (c0++[(nm 2,.ref k)])))):=S4.put cd0;have e5:=a0b (H:=H4) (a:=cd) (o:=.dK (kvC (c0++[(nm 2,.ref k)])));have k5:(upd H4 cd (.dK (kvC (c0++[(nm 2,.ref k)])))) k=some (.tup [.str so,.ref kd]):=(a0g (fun e=>by rw[e,T4 _ _ ecd] at ek;cases ek)).trans ek;have ntd:∀xs,H4 cd≠some (.tup xs):=fun xs h=>by rw[T4 _ _ ecd] at h;cases h
  have r5:ClR (upd H4 cd (.dK (kvC (c0++[(nm 2,.ref k)])))) c0 (clD nm c):=⟨r0.nm,fun i x dd h1 h2=>Rep.beside ntd ((a9d N c).2.2 dd (gI0 h2)).2.2 ((r0.at_ i x dd h1 h2).same T4)⟩;generalize upd H4 cd (.dK (kvC (c0++[(nm 2,.ref k)])))=H5 at *;intro sd hsd;have T6:=a0m.upd (o:=.dK []) hsd;have e6:=a0b (H:=H5) (a:=sd) (o:=.dK []);have sd0:H sd=none:=a0B S5 hsd;generalize upd H5 sd (.dK [])=H6 at *;have S6:=S5.trans T6;refine⟨fun σ' H'=>σ'=[some (.ref a),some (.ref nl),some (.ref kd),some (.bl bs),some (.int c),some (.int sb),some (.ref cd),some (.ref sd),none]/\a0m H5 H'/\∃S,H' sd=some (.dK (sdK S))/\b4L H' nm sd S,?_,?_⟩
  ·refine⟨_,rfl,_,rfl,a4q (fun hb=>?_) (fun hb=>⟨rfl,T6,[],e6,by decide,fun x hx=>nomatch hx⟩)⟩
   intro bd hbd;have U0:=a0m.upd (o:=.dK []) hbd;have p0:=a0b (H:=H6) (a:=bd) (o:=.dK []);generalize upd H6 bd (.dK [])=G0 at *;refine⟨_,rfl,_,rfl,_,_,rfl,rfl,⟨by decide,by decide⟩,_,_,rfl,rfl,pos rfl,_,_,rfl,rfl,.inl ⟨by decide,by decide⟩,_,_,rfl,rfl,nl,_,_,_,rfl,rfl,SqL.of ((S6.trans U0) _ _ hnl),b4f nm c,(by show 1<=sizeLine;decide),fun wd hwd=>?_⟩;have T2:=a0m.upd (o:=.tup [V.str "whole"]) hwd;have ew:=a0b (H:=G0) (a:=wd) (o:=.tup [V.str "whole"]);generalize upd G0 wd (.tup [V.str "whole"])=G2 at *;have p2:=T2 _ _ p0;refine⟨p2,[(.inr (nX nm c),.ref wd)],rfl,(by show 1<=15;decide),(by show 2<=sizeLine;decide),fun be hbe=>?_⟩;have S7:a0m H6 (upd G2 bd (.dK (a0R [] [((.inr (nX nm c):Key),V.ref wd)]))):=(U0.trans T2).put hbd;have eb:(upd G2 bd (.dK (a0R [] [((.inr (nX nm c):Key),V.ref wd)]))) bd=some (.dK (kvC [(nX nm c,V.ref wd)])):=a0b;have ew':(upd G2 bd (.dK (a0R [] [((.inr (nX nm c):Key),V.ref wd)]))) wd=some (.tup [V.str "whole"]):=(a0g fun z=>by rw[z,p2] at ew;cases ew).trans ew;generalize upd G2 bd (.dK (a0R [] [((.inr (nX nm c):Key),V.ref wd)]))=G3 at *;have T3:=a0m.upd (o:=.tup [V.str "twin",.ref bd]) hbe;have ebe:=a0b (H:=G3) (a:=be) (o:=.tup [V.str "twin",.ref bd]);generalize upd G3 be (.tup [V.str "twin",.ref bd])=G4 at *;have S8:=S7.trans T3;have nbd:bd≠sd:=fun e=>by rw[e,e6] at hbd;cases hbd
   have esd:=S8 _ _ e6;refine⟨_,rfl,_,rfl,nl,_,5,_,rfl,rfl,SqL.of ((S6.trans S8) _ _ hnl),a1L nm (i:=5) (by decide),sd,_,rfl,a5w.k (k:=.inr (nm 5)) esd (by show 0<sizeLine;decide),rfl,(T6.trans S8).put hsd,[⟨nm 5,"twin",be,bd,[(nX nm c,V.ref wd)]⟩],a0b,nR0 1,fun x hx=>?_⟩;rw[mS0.mp hx];have nts:∀xs,G4 sd≠some (.tup xs):=fun xs h=>by rw[esd] at h;cases h
   have okB:a0L G4 [(nX nm c,V.ref wd)]:=⟨List.nodup_cons.mpr ⟨List.not_mem_nil,List.nodup_nil⟩,(by show 1<=12;decide),fun z hz=>by
    rw[mS0.mp hz];exact⟨b5r N c,_,a3c (T3 _ _ ew') (by decide +kernel),by decide +kernel,by decide +kernel⟩⟩
   have nbe:be≠sd:=fun e=>by rw[e,S7 _ _ e6] at hbe;cases hbe
   exact⟨rfl,rfl,nbd,(a0g nbe).trans ebe,⟨(a0g nbd).trans (T3 _ _ eb),List.nodup_cons.mpr ⟨List.not_mem_nil,List.nodup_nil⟩,(by show 1<=12;decide)⟩,a3J okB nts⟩
  rintro σ7 H7 ⟨rfl,s57,S,esd,SO⟩;have S7:=S5.trans s57;have k0':a0L H7 (c0++[(nm 2,.ref k)]):=by
   have o0:=(a7w N (r5.same s57)).1;refine⟨?_,?_,fun x hx=>?_⟩
   ·rw[mA0,List.nodup_append]
    refine⟨o0.1,by simp,fun x hx y hy e=>?_⟩
    have:y=nm 2:=by simpa using hy
    rw[e,this] at hx;exact n20 hx
   ·rw[lA0]
    show c0.length+1<=12
    omega
   ·rcases mB0.mp hx with hx |hx
    ·exact o0.2.2 x hx
    ·rw[mS0.mp hx]
     refine⟨N.ok 2 (by decide),.tup [.str so,d],a2f (s57 _ _ k5) (by rcases so3 with e |e<;>rw[e]<;>decide +kernel) (rd.same S7),a2X so3 pd,?_⟩;simp only[a2d,a3s,nd,Bool.and_true]
  refine⟨_,rfl,nl,_,0,_,rfl,rfl,SqL.of (S7 _ _ hnl),a1L nm (i:=0) (by decide),_,rfl,_,rfl,9,nm 0,cd,sd,_,S,rfl,⟨s57 _ _ e5,k0'.1,k0'.2.1⟩,esd,?_,Nat.le_trans SO.le (by decide),(fun x hx=>let ⟨_,_,_,y,z,_⟩:=SO.at_ x hx;⟨y,z⟩),fun f0 U0 H8 s8 fo po ro=>?_⟩
  ·match S,SO.le with
   |[],_=>exact List.nodup_nil
   |[x],_=>exact List.nodup_cons.mpr ⟨List.not_mem_nil,List.nodup_nil⟩
  have S8:=S7.trans s8;have s58:=s57.trans s8;refine⟨(by show 2<=sizeLine;decide),fun l2 hl2=>⟨_,rfl,l2,_,_,_,rfl,rfl,SqL.of a0b,so2,fun d2 hd2=>?_⟩⟩;have T9:=(a0m.upd (o:=.lst [V.str "many",.str "some"]) hl2).trans (a0m.upd (o:=.dK []) hd2);have e9:=a0b (H:=upd H8 l2 (.lst [V.str "many",.str "some"])) (a:=d2) (o:=.dK []);have hd28:H8 d2=none:=a0B (a0m.upd hl2) hd2;generalize upd (upd H8 l2 (.lst [V.str "many",.str "some"])) d2 (.dK [])=H9 at *;refine⟨_,rfl,nl,_,2,_,rfl,rfl,SqL.of ((S8.trans T9) _ _ hnl),a1L nm (i:=2) (by decide),_,rfl,e9,[(.inr (nm 2),.ref kd)],rfl,(by show 1<=15;decide),(by show 2<=sizeLine;decide),fun t2 ht2=>?_⟩;have T10:a0m H8 (upd H9 d2 (.dK (a0R [] [((.inr (nm 2):Key),V.ref kd)]))):=T9.put hd28;have e10:(upd H9 d2 (.dK (a0R [] [((.inr (nm 2):Key),V.ref kd)]))) d2=some (.dK (kvC [(nm 2,V.ref kd)])):=a0b;generalize upd H9 d2 (.dK (a0R [] [((.inr (nm 2):Key),V.ref kd)]))=H10 at *;have T11:=a0m.upd (o:=.tup [V.str (a0N so),.ref d2]) ht2;have e11:=a0b (H:=H10) (a:=t2) (o:=.tup [V.str (a0N so),.ref d2]);generalize upd H10 t2 (.tup [V.str (a0N so),.ref d2])=H11 at *;have s811:=T10.trans T11;have esd11:=(s8.trans s811) _ _ esd;have nd2:d2≠sd:=fun e=>by rw[e,s8 _ _ esd] at hd28;cases hd28
  have nt2:t2≠sd:=fun e=>by rw[e,T10 _ _ (s8 _ _ esd)] at ht2;cases ht2
  have n5:∀x∈S,x.n=nm 5:=fun x hx=>(SO.at_ x hx).1;have v1:a1K (sdK S) (.inr (nm 1))=none:=by
   unfold a1K sdK;rw[List.find?_eq_none.mpr fun y hy=>?_]
   ·rfl
   ·obtain⟨x,hx,rfl⟩:=mM0.mp hy
    rw[n5 x hx];exact fun h=>N.n15 (by have:=of_decide_eq_true h;injection this with e;exact e.symm)
  have lS:(sdK S).length<=1:=by unfold sdK;rw[lM0];exact SO.le
  refine⟨_,rfl,_,rfl,nl,_,1,_,rfl,rfl,SqL.of ((S8.trans s811) _ _ hnl),a1L nm (i:=1) (by decide),sd,_,rfl,a5w.k (k:=.inr (nm 1)) esd11 (by rw[sizeLine_eq];omega),?_⟩;rw[L2.a2e _ v1,show sdK S++[((.inr (nm 1):Key),V.ref t2)]=sdK (S++[⟨nm 1,a0N so,t2,d2,[(nm 2,.ref kd)]⟩]) by unfold sdK;rw[mA0];rfl];have k12:∀b o,b≠sd->H11 b=some o->(upd H11 sd (.dK (sdK (S++[⟨nm 1,a0N so,t2,d2,[(nm 2,.ref kd)]⟩])))) b=some o:=fun b o nb e=>(a0g nb).trans e;have e12:=a0b (H:=H11) (a:=sd) (o:=.dK (sdK (S++[⟨nm 1,a0N so,t2,d2,[(nm 2,.ref kd)]⟩])));have nts:∀xs,H11 sd≠some (.tup xs):=fun xs h=>by rw[esd11] at h;cases h
  have S12:a0m H (upd H11 sd (.dK (sdK (S++[⟨nm 1,a0N so,t2,d2,[(nm 2,.ref kd)]⟩])))):=(S8.trans s811).put sd0;have S512:a0m H5 (upd H11 sd (.dK (sdK (S++[⟨nm 1,a0N so,t2,d2,[(nm 2,.ref kd)]⟩])))):=(s58.trans s811).put hsd;have SO12:∀x∈S,(upd H11 sd (.dK (sdK (S++[⟨nm 1,a0N so,t2,d2,[(nm 2,.ref kd)]⟩])))) x.t=some (.tup [.str x.so,.ref x.d])/\TbD (upd H11 sd (.dK (sdK (S++[⟨nm 1,a0N so,t2,d2,[(nm 2,.ref kd)]⟩])))) x.d x.c/\a0L (upd H11 sd (.dK (sdK (S++[⟨nm 1,a0N so,t2,d2,[(nm 2,.ref kd)]⟩])))) x.c:=fun x hx=>by
   obtain⟨_,_,y1,y2,y3,y4⟩:=(SO.same (s8.trans s811)).at_ x hx;exact⟨k12 _ _ (fun e=>by rw[e,esd11] at y2;cases y2) y2,⟨k12 _ _ y1 y3.at_,y3.nd,y3.le⟩,a3J y4 nts⟩
  have fo12:a0W (upd H11 sd (.dK (sdK (S++[⟨nm 1,a0N so,t2,d2,[(nm 2,.ref kd)]⟩])))) f0 9 (⟨nm 0,"head",c0++[(nm 2,.ref k)]⟩::U0):=(fo.same s811).bes nts (fun o xs h=>by rw[esd11] at h;cases h);generalize upd H11 sd (.dK (sdK (S++[⟨nm 1,a0N so,t2,d2,[(nm 2,.ref kd)]⟩])))=H12 at *;refine⟨_,rfl,_,rfl,nl,_,0,_,rfl,rfl,SqL.of (S12 _ _ hnl),a1L nm (i:=0) (by decide),_,rfl,_,rfl,nl,nm,c,rfl,S12 _ _ hnl,N,fun c1d c1 H13 s13 h1d e1d r1=>?_⟩;obtain⟨k1,l1',z1⟩:=a7w N r1;have n21:nm 2∉c1.map (·.1):=fun h=>by
   rcases z1 _ h with e |e
   ·exact absurd e (N.ne (i:=2) (j:=3))
   ·exact absurd e (N.ne (i:=2) (j:=4))
  have okQ:∀{G:Hp},a0m H G->a0L G [(nm 2,V.ref kd)]:=fun {G} s=>⟨List.nodup_cons.mpr ⟨List.not_mem_nil,List.nodup_nil⟩,(by show 1<=12;decide),fun z hz=>by
   rw[mS0.mp hz];exact⟨N.ok 2 (by decide),d,rd.same s,a4s pd,nd⟩⟩
  have nS:((S++[(⟨nm 1,a0N so,t2,d2,[(nm 2,.ref kd)]⟩:Sd)]).map (·.n)).Nodup:=by
   match S,SO.le,n5 with
   |[],_,_=>simp
   |[x],_,n5=>
    show[x.n,nm 1].Nodup
    rw[n5 x List.mem_cons_self];simp[N.n15.symm]
  have lS2:(S++[(⟨nm 1,a0N so,t2,d2,[(nm 2,.ref kd)]⟩:Sd)]).length<=7:=by have:=SO.le;rw[lA0,List.length_singleton];omega
  have e13':H13 sd=some (.dK ((S++[(⟨nm 1,a0N so,t2,d2,[(nm 2,.ref kd)]⟩:Sd)]).map fun x=>(.inr x.n,.ref x.t))):=s13 _ _ e12;refine⟨_,rfl,9,nm 0,c1d,sd,c1,S++[(⟨nm 1,a0N so,t2,d2,[(nm 2,.ref kd)]⟩:Sd)],rfl,⟨e1d,k1.1,k1.2.1⟩,e13',nS,lS2,(fun x hx=>?_),fun f1 U1 H14 s14 fn pn rn=>?_⟩
  ·rcases mB0.mp hx with hx |hx
   ·exact⟨s13 _ _ (SO12 x hx).1,(SO12 x hx).2.1.same s13⟩
   ·rw[mS0.mp hx]
    exact⟨s13 _ _ (k12 _ _ nt2 e11),s13 _ _ (k12 _ _ nd2 (T11 _ _ e10)),List.nodup_cons.mpr ⟨List.not_mem_nil,List.nodup_nil⟩,(by show 1<=12;decide)⟩
  refine⟨(by show 2<=sizeLine;decide),fun l hl=>?_⟩;have T15:=a0m.upd (o:=.lst [V.ref f0,.ref f1]) hl;have e15:=a0b (H:=H14) (a:=l) (o:=.lst [V.ref f0,.ref f1]);generalize upd H14 l (.lst [V.ref f0,.ref f1])=H15 at *;have s1215:=(s13.trans s14).trans T15;have S15:=S12.trans s1215;have r15:=r5.same (S512.trans s1215);have cT:∀X∈S.map Sd.tb,a0L H15 X.cols/\X.name=nm 5/\X.sort="twin":=fun X hX=>by
   obtain⟨x,hx,rfl⟩:=mM0.mp hX;exact⟨(SO12 x hx).2.2.same s1215,(SO.at_ x hx).1,(SO.at_ x hx).2.1⟩
  have k15:a0L H15 (c0++[(nm 2,.ref k)]):=by
   refine⟨k0'.1,k0'.2.1,fun x hx=>?_⟩;rcases mB0.mp hx with hx |hx
   ·exact(a7w N r15).1.2.2 x hx
   ·rw[mS0.mp hx]
    refine⟨N.ok 2 (by decide),.tup [.str so,d],a2f ((S512.trans s1215) _ _ k5) (by rcases so3 with e |e<;>rw[e]<;>decide +kernel) (rd.same S15),a2X so3 pd,?_⟩;simp only[a2d,a3s,nd,Bool.and_true]
  have nm5S:(S.map Sd.tb).map (·.name)=S.map (·.n):=by rw[mC0];rfl
  have ndS:(S.map (·.n)).Nodup:=by
   rw[mA0,List.nodup_append] at nS;exact nS.1
  have h05:nm 0∉S.map (·.n):=fun h=>by
   obtain⟨x,hx,e⟩:=mM0.mp h;rw[n5 x hx] at e;exact absurd e (N.ne (i:=5) (j:=0))
  have h15:nm 1∉S.map (·.n):=fun h=>by
   obtain⟨x,hx,e⟩:=mM0.mp h;rw[n5 x hx] at e;exact N.n15 e.symm
  have lT:(S.map Sd.tb).length<=1:=by rw[lM0];exact SO.le
  have fk0:FK H15 f0 9 ⟨nm 0,"head",c0++[(nm 2,.ref k)]⟩ (S.map Sd.tb):=⟨FAt.of (fo12.same s1215) rfl po (.refl _) ro,⟨by omega,?_,?_,rfl,fun X hX=>?_⟩,fun X hX=>?_,by decide⟩;have ftb:(S++[(⟨nm 1,a0N so,t2,d2,[(nm 2,.ref kd)]⟩:Sd)]).map Sd.tb=S.map Sd.tb++[⟨nm 1,a0N so,[(nm 2,.ref kd)]⟩]:=by rw[mA0];rfl
  rw[ftb] at pn;have fk1:FK H15 f1 9 ⟨nm 0,"head",c1⟩ (S.map Sd.tb++[⟨nm 1,a0N so,[(nm 2,.ref kd)]⟩]):=⟨FAt.of (fn.same T15) rfl pn (.refl _) rn,⟨?_,?_,?_,rfl,fun X hX=>?_⟩,fun X hX=>?_,by decide⟩
  ·exact q l f0 f1 k c0 c1 (S.map Sd.tb) so H15 S15 (a0B (S12.trans (s13.trans s14)) hl) e15 so3 ((S512.trans s1215) _ _ k5) fk0 fk1 (b4A N r15 (r1.same (s14.trans T15))) l0 l1' n20 n21 lT (by rw[nm5S];exact h15)
  ·rw[lA0,List.length_singleton];omega
  ·show(nm 0::(S.map Sd.tb++[(⟨nm 1,a0N so,[(nm 2,.ref kd)]⟩:Tb)]).map (·.name)).Nodup
   rw[mA0,nm5S,List.nodup_cons,mB0,List.nodup_append];refine⟨fun h=>h.elim h05 fun h=>N.n10 ?_,ndS,by simp,fun x hx y hy e=>?_⟩
   ·have:nm 0=nm 1:=by simpa using h
    exact this.symm
   ·have:y=nm 1:=by simpa using hy
    rw[e,this] at hx;exact h15 hx
  ·intro X hX
   rcases mK0.mp hX with rfl |hX
   ·exact N.ok 0 (by decide)
   ·rcases mB0.mp hX with hX |hX
    ·rw[(cT X hX).2.1];exact N.ok 5 (by decide)
    ·rw[mS0.mp hX];exact N.ok 1 (by decide)
  ·rcases mB0.mp hX with hX |hX
   ·rw[(cT X hX).2.2];exact(by decide +kernel:("twin":Str)∈a4o)
   ·rw[mS0.mp hX];exact(a9c so3).2.2
  ·rcases mK0.mp hX with rfl |hX
   ·exact k1.same (s14.trans T15)
   ·rcases mB0.mp hX with hX |hX
    ·exact(cT X hX).1
    ·rw[mS0.mp hX];exact okQ S15
  ·show(nm 0::(S.map Sd.tb).map (·.name)).Nodup
   rw[nm5S,List.nodup_cons];exact⟨h05,ndS⟩
  ·intro X hX
   rcases mK0.mp hX with rfl |hX
   ·exact N.ok 0 (by decide)
   ·rw[(cT X hX).2.1];exact N.ok 5 (by decide)
  ·rw[(cT X hX).2.2];exact(by decide +kernel:("twin":Str)∈a4o)
  ·rcases mK0.mp hX with rfl |hX
   ·exact k15
   ·exact(cT X hX).1
theorem a9V {H:Hp}{p r:Addr}{z:Str}{zs:List Str}{ls:List Addr}{row:Rw}{l:Addr}{xs:List V}(hp:H p=some (.dK (zK (z::zs) (l::ls))))(hl:H l=some (.lst xs))(ok:b0b H row)(hr:H r=some (.dK (rK row))):r≠p:=fun e=>by
 rw[e,hp] at hr;have h2:((.inr z:Key),V.ref l)∈rK row:=by
  injection hr with hr
  injection hr with hr
  rw[<-hr];exact List.mem_cons_self
 exact a6M ok (fun ys h=>by rw[hl] at h;cases h) h2
def sdP (nm:Nat->Str)(c:Int)(bs:Bool):Pc:=if bs=true then[(nm 5,[[(nX nm c,.int (c/3%1000))]])] else[]
def pcO (nm:Nat->Str)(c:Int)(tp:Addr)(bs:Bool):Pc:=(nm 0,[rwE nm c++[(nm 2,.ref tp)]])::sdP nm c bs
def pcN (nm:Nat->Str)(c:Int)(xs:List V)(bs:Bool):Pc:=(nm 0,[rwE nm c])::(nm 1,rws (nm 2) xs)::sdP nm c bs
theorem a8p (nm:Nat->Str)(c:Int){x:Str}(h:x∈(rwE nm c).map (·.1)):x=nm 3\/x=nm 4:=by
 unfold rwE at h;rw[mA0,mB0] at h;rcases h with h |h
 ·exact .inl (a5D nm c h)
 ·split at h
  ·exact .inr (by simpa using h)
  ·cases h
theorem a7r {nm:Nat->Str}(N:Nm8 nm)(c:Int):((rwE nm c).map (·.1)).Nodup:=by
 unfold rwE rw1
 split<;>split
 ·show[nm 3,nm 4].Nodup
  simp[N.ne (i:=3) (j:=4)]
 ·simp
 ·simp
 ·exact List.nodup_nil
theorem a8C (nm:Nat->Str)(c:Int):(rwE nm c).length<=2:=by
 have:=b1G nm c
 unfold rwE;rw[lA0]
 split
 ·show(rw1 nm c).length+1<=2
  omega
 ·show(rw1 nm c).length+0<=2
  omega
theorem a4H {nm:Nat->Str}{c:Int}{x:Str×V}(h:x∈rwE nm c):flt x.2=true:=by
 unfold rwE at h;rcases mB0.mp h with h |h
 ·unfold rw1 at h
  split at h
  ·rw[mS0.mp h]
   rfl
  ·cases h
 ·split at h
  ·rw[mS0.mp h]
   show flt (ky c)=true;unfold ky
   split<;>rfl
  ·cases h
theorem b3Q {H:Hp}{nm:Nat->Str}(N:Nm8 nm)(c:Int):b0b H (rwE nm c):=⟨⟨a7r N c,Nat.le_trans (a8C nm c) (by decide)⟩,fun x hx=>.inl (a4H hx)⟩
theorem a5V {nm:Nat->Str}(N:Nm8 nm)(c:Int):nm 2∉(rwE nm c).map (·.1):=fun h=>by
 rcases a8p nm c h with e |e
 ·exact absurd e (N.ne (i:=2) (j:=3))
 ·exact absurd e (N.ne (i:=2) (j:=4))
theorem b1P {H:Hp}{nm:Nat->Str}(N:Nm8 nm)(c:Int){tp:Addr}{xs:List V}(h:H tp=some (.tup xs)):b0b H (rwE nm c++[(nm 2,.ref tp)]):=by
 have:=a8C nm c
 refine⟨⟨?_,by rw[lA0];show(rwE nm c).length+1<=12;omega⟩,fun x hx=>?_⟩
 ·rw[mA0,List.nodup_append]
  refine⟨a7r N c,by simp,fun x hx y hy e=>?_⟩
  have:y=nm 2:=by simpa using hy
  rw[e,this] at hx;exact a5V N c hx
 ·rcases mB0.mp hx with hx |hx
  ·exact .inl (a4H hx)
  ·rw[mS0.mp hx]
   exact .inr ⟨tp,xs,rfl,h⟩
theorem a8q {H:Hp}{z:Str}{v:V}(h:flt v=true):b0b H [(z,v)]:=⟨⟨List.nodup_cons.mpr ⟨List.not_mem_nil,List.nodup_nil⟩,(by show 1<=12;decide)⟩,fun x hx=>by rw[mS0.mp hx];exact .inl h⟩
theorem b4i {H:Hp}{z:Str}{xs:List V}(h:∀x∈xs,flt x=true){row:Rw}(hr:row∈rws z xs):b0b H row:=by
 obtain⟨v,hv,rfl⟩:=mM0.mp hr;exact a8q (h v hv)
theorem a2U {nm:Nat->Str}{c:Int}{bs:Bool}{t:Str×List Rw}(h:t∈sdP nm c bs):t=(nm 5,[[(nX nm c,.int (c/3%1000))]]):=by
 unfold sdP at h
 split at h
 ·exact mS0.mp h
 ·cases h
theorem a9a (nm:Nat->Str)(c:Int)(bs:Bool):(sdP nm c bs).length<=1:=by
 unfold sdP
 split
 ·exact nR0 1
 ·exact zL0 1
theorem b1C (nm:Nat->Str)(c:Int)(bs:Bool):((sdP nm c bs).map (·.1)).Nodup:=by
 unfold sdP
 split
 ·exact List.nodup_cons.mpr ⟨List.not_mem_nil,List.nodup_nil⟩
 ·exact List.nodup_nil
theorem a3d {nm:Nat->Str}{c:Int}{bs:Bool}{z:Str}(h:z∈(sdP nm c bs).map (·.1)):z=nm 5:=by
 obtain⟨t,ht,rfl⟩:=mM0.mp h;rw[a2U ht]
theorem okO {H:Hp}{nm:Nat->Str}(N:Nm8 nm)(c:Int){tp:Addr}{xs:List V}(h:H tp=some (.tup xs))(bs:Bool):a6x H (pcO nm c tp bs):=by
 have l:=a9a nm c bs;refine⟨?_,by unfold pcO;rw[List.length_cons];omega,fun t ht=>?_,fun t ht row hr=>?_⟩
 ·show(nm 0::(sdP nm c bs).map (·.1)).Nodup
  rw[List.nodup_cons];exact⟨fun h=>absurd (a3d h) (N.ne (i:=0) (j:=5)),b1C nm c bs⟩
 ·rcases mK0.mp ht with rfl |ht
  ·exact(by decide:1<=1000)
  ·rw[a2U ht];exact(by decide:1<=1000)
 ·rcases mK0.mp ht with rfl |ht
  ·rw[mS0.mp hr];exact b1P N c h
  ·rw[a2U ht] at hr
   rw[mS0.mp hr];exact a8q rfl
theorem okN {H:Hp}{nm:Nat->Str}(N:Nm8 nm)(c:Int){xs:List V}(hx:∀x∈xs,flt x=true)(l60:xs.length<=60)(bs:Bool):a6x H (pcN nm c xs bs):=by
 have l:=a9a nm c bs;refine⟨?_,by unfold pcN;rw[List.length_cons,List.length_cons];omega,fun t ht=>?_,fun t ht row hr=>?_⟩
 ·show(nm 0::nm 1::(sdP nm c bs).map (·.1)).Nodup
  rw[List.nodup_cons,List.nodup_cons,mK0,not_or];exact⟨⟨N.n10.symm,fun h=>absurd (a3d h) (N.ne (i:=0) (j:=5))⟩,fun h=>N.n15 (a3d h),b1C nm c bs⟩
 ·rcases mK0.mp ht with rfl |ht
  ·exact(by decide:1<=1000)
  ·rcases mK0.mp ht with rfl |ht
   ·show(xs.map _).length<=1000
    rw[lM0];omega
   ·rw[a2U ht];exact(by decide:1<=1000)
 ·rcases mK0.mp ht with rfl |ht
  ·rw[mS0.mp hr];exact b3Q N c
  ·rcases mK0.mp ht with rfl |ht
   ·exact b4i hx hr
   ·rw[a2U ht] at hr
    rw[mS0.mp hr];exact a8q rfl
theorem a2x.keep {G G' H:Hp}{p o l:Addr}{pc:Pc}{z:Str}{zs:List Str}{ls:List Addr}{xs:List V}(h:a2x G p pc)(s:a0m G H)(ok:a6x H pc)(ho:H o=some (.dK (zK (z::zs) (l::ls))))(hl:H l=some (.lst xs))(po:p≠o)(k:∀b u,b≠o->G b=some u->G' b=some u):a2x G' p pc:=by
 obtain⟨ks,a1,a2,a3⟩:=h;refine⟨ks,k _ _ po a1,a2,fun j b t h1 h2=>?_⟩;obtain⟨rs,b1,b2,b3⟩:=a3 j b t h1 h2;refine⟨rs,k _ _ (fun e=>by have:=s _ _ b1;rw[e,ho] at this;cases this) b1,b2,fun j' r row g1 g2=>?_⟩;have g3:=b3 j' r row g1 g2;exact k _ _ (a9V ho hl (ok.rw_ t (gI0 h2) row (gI0 g2)) (s _ _ g3)) g3
theorem a2x.add {G G' H:Hp}{p D:Addr}{pc:Pc}{z:Str}{rows:List Rw}{ls:List Addr}(h:a2x G p pc)(s:a0m G H)(ok:a6x H pc)(hp:G p=some (.dK (zK (pc.map (·.1)) ls)))(hl:ls.length=pc.length)(k:∀b u,b≠p->G b=some u->G' b=some u)(e:G' p=some (.dK (zK (pc.map (·.1)) ls++[(.inr z,.ref D)])))(hr:a2u G' D rows):a2x G' p (pc++[(z,rows)]):=by
 obtain⟨ks,a1,a2,a3⟩:=h;have ek:ks=ls:=by
  rw[a1] at hp
  injection hp with hp
  injection hp with hp
  refine List.ext_getElem (by omega) fun i h1 h2=>?_;have hi:i<(pc.map (·.1)).length:=by rw[lM0];omega
  have e1:(zK (pc.map (·.1)) ks)[i]? =some (.inr (pc.map (·.1))[i],.ref ks[i]):=by
   unfold zK;rw[a5T,gE0 hi,gM0,gE0 h1]
   rfl
  have e2:(zK (pc.map (·.1)) ls)[i]? =some (.inr (pc.map (·.1))[i],.ref ls[i]):=by
   unfold zK;rw[a5T,gE0 hi,gM0,gE0 h2]
   rfl
  rw[hp,e2] at e1
  injection e1 with e1
  injection e1 with _ e1
  injection e1 with e1
  exact e1.symm
 subst ek;refine⟨ks++[D],by rw[e,mA0,show[(z,rows)].map (·.1)=[z] from rfl,a6p (by rw[lM0];exact hl)],by rw[lA0,lA0,a2];rfl,fun j b t h1 h2=>?_⟩
 by_cases hj:j<ks.length
 ·rw[gL0 hj] at h1
  rw[gL0 (by omega)] at h2;have A:=a2x.apart ok (s _ _ a1) a2 h1 h2 ((a3 j b t h1 h2).same s);obtain⟨rs,b1,b2,b3⟩:=a3 j b t h1 h2;exact⟨rs,k _ _ A.1 b1,b2,fun j' r row g1 g2=>k _ _ (A.2 r row (gI0 g2) (s _ _ (b3 j' r row g1 g2))) (b3 j' r row g1 g2)⟩
 ·have hj':=(gS0.mp h1).1
  rw[lA0,List.length_singleton] at hj';obtain rfl:j=ks.length:=by omega
  rw[gR0 (nR0 _),Nat.sub_self] at h1;rw[gR0 (by omega),a2,Nat.sub_self] at h2;cases h1;cases h2;exact hr
def b3L (K:Fg0):Sp:=fun vs H Q _=>∃(a nl tl:Addr) (ns:List Int) (nm:Nat->Str) (xs:List V) (bs:Bool),vs=[.ref a,.ref nl,.ref tl,.bl bs]/\SqL K H a (ns.map V.int)/\ns.length<=63/\H nl=some (.lst (nmL nm))/\Nm8 nm/\H tl=some (.lst xs)/\xs.length<=60/\(∀x∈xs,flt x=true) ∧
 ∀l o n tp H',a0m H H'->cut H H' l=some (.lst [.ref o,.ref n])->cut H H' tp=some (.tup xs)->a2x (cut H H') o (pcO nm (cel ns 12) tp bs)->a2x (cut H H') n (pcN nm (cel ns 12) xs bs)->o≠n->Q (.ref l) H'
def nPs:List Str:=["_law_script","_law_names_here","_law_told_here","_law_beside","_law_cell_here","_law_old","_law_new","_law_column"]
theorem b4n {f fC fR fT:Addr}{fd fdC fdR fdT:FuncData}(F:Fun K "_law_pieces" "_law_pieces" (top 52) f fd)(B:Bl mg)(DC:Df K mg "_law_cell" (top 42) fC fdC)(DR:Df K mg "_law_row" (top 51) fR fdR)(DT:Df K mg "_law_text" (top 46) fT fdT):a0F P w K mg base CX0 3 f fd ["_law_script","_law_names_here","_law_told_here","_law_beside"] (b3L K):=by
 have sc:a0o nPs ["_law_script","_law_names_here","_law_told_here","_law_beside"] (a0f (top 52)):=.k (by decide +kernel);have GC:a0F P w K mg base CX0 1 fC fdC ["_law_script","_law_k"] (b3p K):=a5n DC.fn B;have bC:=DC.fn.b2 "_law_script" "_law_k" (by intros;rfl);have GR:a0F P w K mg base CX0 2 fR fdR ["_law_names_here","_law_cell_here"] b6j:=b5p DR.fn B DT;have bR:=DR.fn.b2 "_law_names_here" "_law_cell_here" (by intros;rfl);refine F.ok sc (fun vs H Q E h=>?_) (fun cdv A outer s H vs Q E hr h=>?_)
 ·obtain⟨a,nl,tl,ns,nm,xs,bs,rfl,_⟩:=h
  rfl
 ·obtain⟨a,nl,tl,ns,nm,xs,bs,rfl,ha,h63,hnl,N,htl,x60,hxs,q⟩:=h
  have hu:=a2E hr;have hr1:a1r 1 _:=hr.mono (by decide);refine⟨_,a0d (a0E (i:=4) sc.nd rfl (Or.inl rfl) (a0i GC hr1 (by rfl) DC.mg DC.fn.kp bC .nil a0r (a0a (pv 0) (a0a a0e a0c))))
   (a0d (a0E (i:=5) sc.nd rfl (Or.inl rfl) (a2p (a1G (a0x a0p (pv 1) a0e (fun _ _=>rfl)) (a1R (a0a (a0i GR hr (by rfl) DR.mg DR.fn.kp bR .nil a0r (a0a (pv 1) (a0a (pv 4) a0c))) a0c)) a2t) rfl rfl (by simp) (by decide)))
   (a0d (a0E (i:=6) sc.nd rfl (Or.inl rfl) (a2p (a1G (a0x a0p (pv 1) a0e (fun _ _=>rfl)) (a1R (a0a (a0i GR hr (by rfl) DR.mg DR.fn.kp bR .nil a0r (a0a (pv 1) (a0a (pv 4) a0c))) a0c)) (a1G (a0x a0p (pv 1) a0e (fun _ _=>rfl)) (a1Z (osc:=a0f (top 52)) (N0:=nPs) (xs:=["_law_value_here"]) (fr:=[1]) ⟨rfl,by decide +kernel,by decide +kernel,by decide +kernel,(fun j hj=>by
       have e:j=1:=by simpa using hj
       subst e;exact⟨_,rfl,by decide +kernel⟩),by decide +kernel⟩ rfl rfl rfl (a1C (pv 2))
      (fun s H fp=>a0v (i:=0) (show(["_law_value_here","_law_names_here"]:List Str).Nodup by decide +kernel) rfl (Or.inl rfl)) (fun s H fp=>a1E)
      (fun s H fp=>a2p (a1G (a0x (r:=b6l K) a0p (pv 1) a0e (fun _ _=>rfl)) (pv 0) a2t) rfl rfl (by simp) (by decide))) a2t)) rfl rfl (by simp) (by decide)))
   (a0d (a1y hu (a0x a0p (a1F hu (pv 5) (a0x a0p (pv 1) a0e (fun _ _=>rfl)) (fun _ _=>rfl)) a0e (fun _ _=>rfl)) (a0x a0p (pv 1) a0e (fun _ _=>rfl)) (a1k a1T (by rfl) B.tuple boot_tuple (a0a (pv 2) a0c)) rfl)
   (a0d (a1H (a0A (a0D (pv 3)) (a0d (a0E (i:=7) sc.nd rfl (Or.inl rfl) (a0x a0p (pv 1) (a0w a5H a0e (a0w a2O a0e (a0w a0O (a0w a1b (pv 4) a0e) a0e))) (fun _ _=>rfl)))
    (a0d (a1y hu (pv 5) (a0x a0p (pv 1) a0e (fun _ _=>rfl)) (a1R (a0a (a2p (a1G (pv 7) (a0w a0O (a0w a1b (pv 4) a0e) a0e) a2t) rfl rfl (by simp) (by decide)) a0c)) rfl)
    (a0h (a1y hu (pv 6) (a0x a0p (pv 1) a0e (fun _ _=>rfl)) (a1R (a0a (a2p (a1G (pv 7) (a0w a0O (a0w a1b (pv 4) a0e) a0e) a2t) rfl rfl (by simp) (by decide)) a0c)) rfl)))) a0l))
   (a0h (a0u (a1R (a0a (pv 5) (a0a (pv 6) a0c))))))))),?_⟩
  refine⟨_,rfl,a,ns,12,rfl,ha,by decide,by decide,h63,fun H1 s1=>?_⟩
  dsimp only
  generalize cel ns 12=c at *;intro o ho;have T1:=a0m.upd (o:=.dK []) ho;have p1:=a0b (H:=H1) (a:=o) (o:=.dK []);generalize upd H1 o (.dK [])=G0 at *;have S0:=s1.trans T1;refine⟨_,rfl,nl,_,0,_,rfl,rfl,SqL.of (S0 _ _ hnl),a1L nm (i:=0) (by decide),_,rfl,_,rfl,nl,nm,c,rfl,S0 _ _ hnl,N,fun r G1 g1 hr' er=>⟨(by show 1<=sizeLine;decide),fun l0 hl0=>?_⟩⟩;have T2:=a0m.upd (o:=.lst [V.ref r]) hl0;have el0:=a0b (H:=G1) (a:=l0) (o:=.lst [V.ref r]);generalize upd G1 l0 (.lst [V.ref r])=G2 at *;have S2:=S0.trans (g1.trans T2);refine⟨T2 _ _ (g1 _ _ p1),[(.inr (nm 0),.ref l0)],rfl,(by show 1<=15;decide),?_⟩;have on:H o=none:=a0B s1 ho;have ro:r≠o:=fun e=>by rw[e,p1] at hr';cases hr'
  have lo':l0≠o:=fun e=>by rw[e,g1 _ _ p1] at hl0;cases hl0
  have rn:H r=none:=a0B S0 hr';have ln:H l0=none:=a0B (S0.trans g1) hl0;have S3:a0m H (upd G2 o (.dK (a0R [] [((.inr (nm 0):Key),V.ref l0)]))):=S2.put on;have eo:(upd G2 o (.dK (a0R [] [((.inr (nm 0):Key),V.ref l0)]))) o=some (.dK (zK [nm 0] [l0])):=a0b;have er3:(upd G2 o (.dK (a0R [] [((.inr (nm 0):Key),V.ref l0)]))) r=some (.dK (kvC (rwE nm c))):=(a0g ro).trans (T2 _ _ er);have el3:(upd G2 o (.dK (a0R [] [((.inr (nm 0):Key),V.ref l0)]))) l0=some (.lst [V.ref r]):=(a0g lo').trans el0;generalize upd G2 o (.dK (a0R [] [((.inr (nm 0):Key),V.ref l0)]))=H3 at *;clear T1 p1 S0 g1 hr' er T2 el0 S2 hl0 ho;intro n hn;have T4:=a0m.upd (o:=.dK []) hn;have p4:=a0b (H:=H3) (a:=n) (o:=.dK []);generalize upd H3 n (.dK [])=J0 at *;have S4:=S3.trans T4;refine⟨_,rfl,nl,_,0,_,rfl,rfl,SqL.of (S4 _ _ hnl),a1L nm (i:=0) (by decide),_,rfl,_,rfl,nl,nm,c,rfl,S4 _ _ hnl,N,fun r2 J1 j1 hr2 er2=>⟨(by show 1<=sizeLine;decide),fun l2 hl2=>?_⟩⟩;have T5:=a0m.upd (o:=.lst [V.ref r2]) hl2;have el2:=a0b (H:=J1) (a:=l2) (o:=.lst [V.ref r2]);generalize upd J1 l2 (.lst [V.ref r2])=J2 at *;have s02:=j1.trans T5;have S5:=S4.trans s02;have er2':=T5 _ _ er2;refine⟨_,rfl,nl,_,1,_,rfl,rfl,SqL.of (S5 _ _ hnl),a1L nm (i:=1) (by decide),_,rfl,tl,rfl,⟨_,SqL.of (S5 _ _ htl)⟩,fun D hD=>?_⟩;have htl2:=S5 _ _ htl;refine a1M xs.length (fun i ys σ' Hc=>(∃u,σ'=[u,some (.ref nl)])/\a0m J2 Hc/\∃ps:List Addr,ys=ps.map V.ref/\∀(j:Nat) (r:Addr) (v:V),ps[j]? =some r->xs[j]? =some v->(J2 r=none/\r≠D)/\Hc r=some (.dK (rK [(nm 2,v)]))) (by rw[sizeLine_eq];omega) ⟨⟨none,rfl⟩,a0m.upd hD,[],rfl,(fun j r v h=>nomatch h)⟩ a0b ?_ ?_
  ·rintro i σ' Hc ys hi ⟨⟨u,rfl⟩,sm,ps,rfl,hps⟩ hyl hD'
   rw[lM0] at hyl;refine⟨⟨_,xs[i],SqL.of (sm _ _ htl2),gE0 hi⟩,?_⟩;rintro x H' ⟨rfl,hx'⟩;have ex:=hx' _ (SqL.of (sm _ _ htl2));rw[gE0 hi] at ex;cases ex;intro r3 hr3;have T6:=a0m.upd (o:=.dK []) hr3;refine⟨_,rfl,nl,_,2,_,rfl,rfl,SqL.of (T6 _ _ ((S5.trans sm) _ _ hnl)),a1L nm (i:=2) (by decide),_,rfl,a0b,[(.inr (nm 2),xs[i])],rfl,(by show 1<=15;decide),?_⟩;have s6:a0m H' (upd (upd H' r3 (.dK [])) r3 (.dK (a0R [] [((.inr (nm 2):Key),xs[i])]))):=T6.put hr3;have e6:(upd (upd H' r3 (.dK [])) r3 (.dK (a0R [] [((.inr (nm 2):Key),xs[i])]))) r3=some (.dK (rK [(nm 2,xs[i])])):=a0b;generalize upd (upd H' r3 (.dK [])) r3 (.dK (a0R [] [((.inr (nm 2):Key),xs[i])]))=H6 at *;have rD:r3≠D:=fun e=>by rw[e,hD'] at hr3;cases hr3
   refine⟨s6 _ _ hD',⟨_,rfl⟩,(sm.trans s6).put hD,ps++[r3],by rw[mA0];rfl,fun j r' v h1 h2=>?_⟩
   by_cases hj:j<ps.length
   ·rw[gL0 hj] at h1
    obtain⟨⟨y1,y2⟩,y3⟩:=hps j r' v h1 h2;exact⟨⟨y1,y2⟩,(a0g y2).trans (s6 _ _ y3)⟩
   ·have hj':=(gS0.mp h1).1
    rw[lA0,List.length_singleton] at hj';obtain rfl:j=ps.length:=by omega
    rw[gR0 (nR0 _),Nat.sub_self] at h1;cases h1;rw[hyl,gE0 hi] at h2;cases h2;exact⟨⟨a0B sm hr3,rD⟩,(a0g rD).trans e6⟩
  rintro σ' Hc ys ⟨_,sm,ps,rfl,hps⟩ hDn hyl;rw[lM0] at hyl;have p2c:=sm _ _ (s02 _ _ p4);refine⟨⟨_,SqL.of (sm _ _ htl2),nR0 _⟩,p2c,[(.inr (nm 0),.ref l2),(.inr (nm 1),.ref D)],rfl,(by show 2<=15;decide),?_⟩;rw[b4g N.n10.symm];have nn:H3 n=none:=hn;have s3c:=T4.trans (s02.trans sm);have S7:a0m H3 (upd Hc n (.dK [((.inr (nm 0):Key),V.ref l2),(.inr (nm 1),.ref D)])):=s3c.put hn;have k7:∀b u,b≠n->Hc b=some u->(upd Hc n (.dK [((.inr (nm 0):Key),V.ref l2),(.inr (nm 1),.ref D)])) b=some u:=fun b u nb e=>(a0g nb).trans e;have en:(upd Hc n (.dK [((.inr (nm 0):Key),V.ref l2),(.inr (nm 1),.ref D)])) n=some (.dK (zK [nm 0,nm 1] [l2,D])):=a0b;generalize upd Hc n (.dK [((.inr (nm 0):Key),V.ref l2),(.inr (nm 1),.ref D)])=H7 at *;have r2n:r2≠n:=fun e=>by rw[e,p4] at hr2;cases hr2
  have l2n:l2≠n:=fun e=>by rw[e,j1 _ _ p4] at hl2;cases hl2
  have Dn:D≠n:=fun e=>by rw[e,s02 _ _ p4] at hD;cases hD
  have r2r:r2≠r:=fun e=>by rw[e,T4 _ _ er3] at hr2;cases hr2
  have nr:n≠r:=fun e=>by rw[e,er3] at hn;cases hn
  have no:n≠o:=fun e=>by rw[e,eo] at hn;cases hn
  have qr2:=k7 _ _ r2n (sm _ _ er2');have ql2:=k7 _ _ l2n (sm _ _ el2);have qD:=k7 _ _ Dn hDn;have qps:∀(j:Nat) (r':Addr) (v:V),ps[j]? =some r'->xs[j]? =some v->(r'≠r/\r'≠n/\H3 r'=none)/\H7 r'=some (.dK (rK [(nm 2,v)])):=fun j r' v h1 h2=>by
   obtain⟨⟨y1,y2⟩,y3⟩:=hps j r' v h1 h2;have yn:r'≠n:=fun e=>by rw[e,s02 _ _ p4] at y1;cases y1
   have yr:r'≠r:=fun e=>by rw[e,(T4.trans s02) _ _ er3] at y1;cases y1
   exact⟨⟨yr,yn,a0B (T4.trans s02) y1⟩,k7 _ _ yn y3⟩
  have m2:H3 r2=none:=a0B T4 hr2;have ml:H3 l2=none:=a0B (T4.trans j1) hl2;have mD:H3 D=none:=a0B (T4.trans s02) hD;clear hps k7 p2c p4 er2 el2 hr2 hl2 hD hDn sm s3c S5 S4 T4 j1 T5 s02 htl2 er2';have S37:=S3.trans S7;refine⟨_,rfl,tl,_,rfl,.inl ⟨SqL.of (S37 _ _ htl),fun tp htp=>?_⟩⟩;have T8:=a0m.upd (o:=.tup xs) htp;have etp:=a0b (H:=H7) (a:=tp) (o:=.tup xs);have tpn:H tp=none:=a0B S37 htp;generalize upd H7 tp (.tup xs)=H8 at *;have S8:=S37.trans T8;have s38:=S7.trans T8;have n2:=a5V N c;have le2:=a8C nm c;refine⟨_,rfl,_,rfl,nl,_,0,_,rfl,rfl,SqL.of (S8 _ _ hnl),a1L nm (i:=0) (by decide),o,_,rfl,.inl ⟨_,.inr (nm 0),.inl (s38 _ _ eo),rfl,(a1g rfl).symm⟩,l0,_,0,_,rfl,rfl,SqL.of (s38 _ _ el3),rfl,_,rfl,nl,_,2,_,rfl,rfl,SqL.of (S8 _ _ hnl),a1L nm (i:=2) (by decide),r,_,rfl,a5w.k (k:=.inr (nm 2)) (s38 _ _ er3) (by unfold kvC;rw[lM0,sizeLine_eq];omega),?_⟩;rw[a3A n2];have k9:∀b u,b≠r->H8 b=some u->(upd H8 r (.dK (kvC (rwE nm c++[(nm 2,.ref tp)])))) b=some u:=fun b u nb e=>(a0g nb).trans e;have e9:=a0b (H:=H8) (a:=r) (o:=.dK (kvC (rwE nm c++[(nm 2,.ref tp)])));have S9:a0m H (upd H8 r (.dK (kvC (rwE nm c++[(nm 2,.ref tp)])))):=S8.put rn;generalize upd H8 r (.dK (kvC (rwE nm c++[(nm 2,.ref tp)])))=H9 at *;have tpr:tp≠r:=fun e=>by rw[e,T8 _ _ (S7 _ _ er3)] at etp;cases etp
  have ct9:cut H H9 tp=some (.tup xs):=a0I tpn (k9 _ _ tpr etp);have lr:l0≠r:=fun e=>by rw[e,er3] at el3;cases el3
  have eo9:H9 o=some (.dK (zK [nm 0] [l0])):=k9 _ _ ro.symm (s38 _ _ eo);have el9:H9 l0=some (.lst [V.ref r]):=k9 _ _ lr (s38 _ _ el3);have en9:H9 n=some (.dK (zK [nm 0,nm 1] [l2,D])):=k9 _ _ nr (T8 _ _ en);have l2r:l2≠r:=fun e=>by rw[e,S7 _ _ er3] at ql2;cases ql2
  have Dr:D≠r:=fun e=>by rw[e,S7 _ _ er3] at qD;cases qD
  have pO9:a2x (cut H H9) o [(nm 0,[rwE nm c++[(nm 2,.ref tp)]])]:=⟨[l0],a0I on eo9,rfl,fun j l t h1 h2=>match j,h1,h2 with
   |0,h1,h2=>by cases h1;cases h2;exact a3U (a0I ln el9) (a0I rn e9)
   |j+1,h1,_=>by cases h1⟩
  have pN9:a2x (cut H H9) n [(nm 0,[rwE nm c]),(nm 1,rws (nm 2) xs)]:=⟨[l2,D],a0I (a0B S3 nn) en9,rfl,fun j l t h1 h2=>match j,h1,h2 with
   |0,h1,h2=>by
    cases h1;cases h2;exact a3U (a0I (a0B S3 ml) (k9 _ _ l2r (T8 _ _ ql2))) (a0I (a0B S3 m2) (k9 _ _ r2r (T8 _ _ qr2)))
   |1,h1,h2=>by
    cases h1;cases h2;refine⟨ps,a0I (a0B S3 mD) (k9 _ _ Dr (T8 _ _ qD)),by show ps.length=(xs.map _).length;rw[lM0,hyl],fun j r' row' g1 g2=>?_⟩;have hjx:j<xs.length:=by have:=(gS0.mp g1).1;omega
    have g2':(xs.map fun v=>[(nm 2,v)])[j]? =some row':=g2;rw[gM0,gE0 hjx] at g2';cases g2';obtain⟨⟨y1,y2,y3⟩,y4⟩:=qps j r' _ g1 (gE0 hjx);exact a0I (a0B S3 y3) (k9 _ _ y1 (T8 _ _ y4))
   |j+2,h1,_=>by cases h1⟩
  have hnl9:=S9 _ _ hnl;have nn':=a0B S3 nn;clear k9 e9 T8 etp S8 s38 qps qr2 ql2 qD m2 ml mD hyl en S7 S37 htp er3 el3 eo hn;refine⟨fun σ' H'=>(∃u,σ'=[some (.ref a),some (.ref nl),some (.ref tl),some (.bl bs),some (.int c),some (.ref o),some (.ref n),u])/\a0m H H'/\cut H H' tp=some (.tup xs)/\a2x (cut H H') o (pcO nm c tp bs)/\a2x (cut H H') n (pcN nm c xs bs),?_,?_⟩
  ·refine⟨_,rfl,_,rfl,a4q (fun hb=>?_) (fun hb=>?_)⟩
   ·subst hb
    refine⟨_,rfl,_,rfl,_,_,rfl,rfl,⟨by decide,by decide⟩,_,_,rfl,rfl,pos rfl,_,_,rfl,rfl,.inl ⟨by decide,by decide⟩,_,_,rfl,rfl,nl,_,_,_,rfl,rfl,SqL.of hnl9,b4f nm c,?_⟩;intro r4 hr4;have U1:=a0m.upd (o:=.dK []) hr4;refine⟨_,rfl,_,rfl,_,_,rfl,rfl,⟨by decide,by decide⟩,_,_,rfl,rfl,pos rfl,a0b,[(.inr (nX nm c),.int (c/3%1000))],rfl,(by show 1<=15;decide),(by show 1<=sizeLine;decide),fun l4 hl4=>?_⟩;have U2:a0m H9 (upd (upd H9 r4 (.dK [])) r4 (.dK (a0R [] [((.inr (nX nm c):Key),V.int (c/3%1000))]))):=U1.put hr4;have w1:(upd (upd H9 r4 (.dK [])) r4 (.dK (a0R [] [((.inr (nX nm c):Key),V.int (c/3%1000))]))) r4=some (.dK (rK [(nX nm c,.int (c/3%1000))])):=a0b;generalize upd (upd H9 r4 (.dK [])) r4 (.dK (a0R [] [((.inr (nX nm c):Key),V.int (c/3%1000))]))=M1 at *;have U3:=a0m.upd (o:=.lst [V.ref r4]) hl4;have w2:=a0b (H:=M1) (a:=l4) (o:=.lst [V.ref r4]);generalize upd M1 l4 (.lst [V.ref r4])=M2 at *;have u92:=U2.trans U3;refine⟨_,rfl,_,rfl,nl,_,5,_,rfl,rfl,SqL.of (u92 _ _ hnl9),a1L nm (i:=5) (by decide),o,_,rfl,a5w.k (k:=.inr (nm 5)) (u92 _ _ eo9) (by show 1<sizeLine;decide),?_⟩;have v5:a1K (zK [nm 0] [l0]) (.inr (nm 5))=none:=a6V (by simp[N.ne (i:=5) (j:=0)]);rw[L2.a2e _ v5];have k3:∀b u,b≠o->M2 b=some u->(upd M2 o (.dK (zK [nm 0] [l0]++[(.inr (nm 5),.ref l4)]))) b=some u:=fun b u nb e=>(a0g nb).trans e;have w3:=a0b (H:=M2) (a:=o) (o:=.dK (zK [nm 0] [l0]++[(.inr (nm 5),.ref l4)]));generalize upd M2 o (.dK (zK [nm 0] [l0]++[(.inr (nm 5),.ref l4)]))=M3 at *;have r4o:r4≠o:=fun e=>by rw[e,eo9] at hr4;cases hr4
    have l4o:l4≠o:=fun e=>by rw[e,U2 _ _ eo9] at hl4;cases hl4
    have r4n:r4≠n:=fun e=>by rw[e,en9] at hr4;cases hr4
    have l4n:l4≠n:=fun e=>by rw[e,U2 _ _ en9] at hl4;cases hl4
    have r40:H r4=none:=a0B S9 hr4;have l40:H l4=none:=a0B (S9.trans U2) hl4;have c92:a0m (cut H H9) (cut H M2):=a3V u92;have kc3:∀b u,b≠o->cut H M2 b=some u->cut H M3 b=some u:=fun b u nb e=>a0I (a1w e) (k3 b u nb (a0n _ _ e));have ok2:a6x M2 [(nm 0,[rwE nm c++[(nm 2,.ref tp)]])]:=okO N c (u92 _ _ (a0n _ _ ct9)) false;have okn2:∀{G:Hp},a6x G [(nm 0,[rwE nm c]),(nm 1,rws (nm 2) xs)]:=fun {G}=>okN N c hxs x60 false;have pO3:a2x (cut H M3) o (pcO nm c tp true):=a2x.add (pO9.same c92) a0n ok2 (c92 _ _ (a0I on eo9)) rfl kc3 (a0I on w3) (a3U (a0I l40 (k3 _ _ l4o w2)) (a0I r40 (k3 _ _ r4o (U3 _ _ w1))));have pN3:a2x (cut H M3) n [(nm 0,[rwE nm c]),(nm 1,rws (nm 2) xs)]:=(pN9.same c92).keep a0n okn2 (u92 _ _ eo9) (u92 _ _ el9) no kc3;have S93:a0m H M3:=fun b u e=>k3 b u (a0C e on) ((S9.trans u92) _ _ e);have en3:=k3 _ _ no (u92 _ _ en9);have ct3:cut H M3 tp=some (.tup xs):=kc3 _ _ (fun e=>by rw[e,a0I on eo9] at ct9;cases ct9) (c92 _ _ ct9);have o3:M3 o=some (.dK (zK [nm 0,nm 5] [l0,l4])):=w3;have l03:M3 l0=some (.lst [V.ref r]):=k3 _ _ lo' (u92 _ _ el9);clear kc3 k3 w1 w2 w3 U1 U2 U3 u92 c92 pO9 pN9 hr4 hl4;intro r5 hr5;have U4:=a0m.upd (o:=.dK []) hr5;refine⟨_,rfl,_,rfl,_,_,rfl,rfl,⟨by decide,by decide⟩,_,_,rfl,rfl,pos rfl,a0b,[(.inr (nX nm c),.int (c/3%1000))],rfl,(by show 1<=15;decide),(by show 1<=sizeLine;decide),fun l5 hl5=>?_⟩;have U5:a0m M3 (upd (upd M3 r5 (.dK [])) r5 (.dK (a0R [] [((.inr (nX nm c):Key),V.int (c/3%1000))]))):=U4.put hr5;have w4:(upd (upd M3 r5 (.dK [])) r5 (.dK (a0R [] [((.inr (nX nm c):Key),V.int (c/3%1000))]))) r5=some (.dK (rK [(nX nm c,.int (c/3%1000))])):=a0b;generalize upd (upd M3 r5 (.dK [])) r5 (.dK (a0R [] [((.inr (nX nm c):Key),V.int (c/3%1000))]))=M4 at *;have U6:=a0m.upd (o:=.lst [V.ref r5]) hl5;have w5:=a0b (H:=M4) (a:=l5) (o:=.lst [V.ref r5]);generalize upd M4 l5 (.lst [V.ref r5])=M5 at *;have u35:=U5.trans U6;refine⟨_,rfl,_,rfl,nl,_,5,_,rfl,rfl,SqL.of ((S93.trans u35) _ _ hnl),a1L nm (i:=5) (by decide),n,_,rfl,a5w.k (k:=.inr (nm 5)) (u35 _ _ en3) (by show 2<sizeLine;decide),?_⟩;have v6:a1K (zK [nm 0,nm 1] [l2,D]) (.inr (nm 5))=none:=a6V (by simp[N.ne (i:=5) (j:=0),N.n15.symm]);rw[L2.a2e _ v6];have k6:∀b u,b≠n->M5 b=some u->(upd M5 n (.dK (zK [nm 0,nm 1] [l2,D]++[(.inr (nm 5),.ref l5)]))) b=some u:=fun b u nb e=>(a0g nb).trans e;have w6:=a0b (H:=M5) (a:=n) (o:=.dK (zK [nm 0,nm 1] [l2,D]++[(.inr (nm 5),.ref l5)]));generalize upd M5 n (.dK (zK [nm 0,nm 1] [l2,D]++[(.inr (nm 5),.ref l5)]))=M6 at *;have r5n:r5≠n:=fun e=>by rw[e,en3] at hr5;cases hr5
    have l5n:l5≠n:=fun e=>by rw[e,U5 _ _ en3] at hl5;cases hl5
    have r50:H r5=none:=a0B S93 hr5;have l50:H l5=none:=a0B (S93.trans U5) hl5;have c35:a0m (cut H M3) (cut H M5):=a3V u35;have kc6:∀b u,b≠n->cut H M5 b=some u->cut H M6 b=some u:=fun b u nb e=>a0I (a1w e) (k6 b u nb (a0n _ _ e));obtain⟨lsN,ya,yb,yc⟩:=id pN3;have hN0:M5 n=some (.dK (zK (nm 0::[nm 1]) (l2::[D]))):=u35 _ _ en3;have pN6:a2x (cut H M6) n (pcN nm c xs true):=a2x.add (pN3.same c35) a0n okn2 (c35 _ _ (a0I nn' en3)) rfl kc6 (a0I nn' w6) (a3U (a0I l50 (k6 _ _ l5n w5)) (a0I r50 (k6 _ _ r5n (U6 _ _ w4))));have l2L:∃ys,M5 l2=some (.lst ys):=by
     obtain⟨rs,b1,_⟩:=yc 0 l2 (nm 0,[rwE nm c]) (by
      have h1:=a0n _ _ ya;rw[en3] at h1
      injection h1 with h1
      injection h1 with h1
      match lsN,yb with
      |[x,y],_=>
       injection h1 with h1 _
       injection h1 with _ h1
       injection h1 with h1
       rw[h1]
       rfl) rfl
     exact⟨_,u35 _ _ (a0n _ _ b1)⟩
    obtain⟨ys2,hl2L⟩:=l2L;have pO6:a2x (cut H M6) o (pcO nm c tp true):=(pO3.same c35).keep a0n (okO N c (u35 _ _ (a0n _ _ ct3)) true) hN0 hl2L no.symm kc6;exact⟨⟨_,rfl⟩,fun b u e=>k6 b u (a0C e nn') ((S93.trans u35) _ _ e),kc6 _ _ (fun e=>by rw[e,a0I nn' en3] at ct3;cases ct3) (c35 _ _ ct3),pO6,pN6⟩
   ·have hb':bs=false:=by cases bs<;>simp_all
    subst hb';exact⟨⟨_,rfl⟩,S9,ct9,pO9,pN9⟩
  rintro σ4 H10 ⟨⟨u,rfl⟩,S10,ct10,pO10,pN10⟩;refine⟨_,rfl,_,rfl,(by show 2<=sizeLine;decide),fun l hl=>?_⟩;have T11:=a0m.upd (o:=.lst [V.ref o,.ref n]) hl;have g:=a3V (H0:=H) T11;exact q l o n tp _ (S10.trans T11) (a0I (a0B S10 hl) a0b) (g _ _ ct10) (pO10.same g) (pN10.same g) no.symm
end
theorem a9q {c:List (Str×V)}(nd:(c.map (·.1)).Nodup){x:Str×V}(h:x∈c):a1K (kvC c) (.inr x.1)=some x.2:=a5Q (f:=fun x:Str×V=>x.1) (g:=fun x=>x.2) nd h
theorem b1o {c:List (Str×V)}{k:Key}{v:V}(h:(k,v)∈kvC c):∃x∈c,k=.inr x.1/\v=x.2:=by
 obtain⟨x,hx,e⟩:=mM0.mp h;cases e;exact⟨x,hx,rfl,rfl⟩
structure RwQ (H:Hp) (r r':Rw):Prop where
 pm:(r.map (·.1)).Perm (r'.map (·.1))
 nd:(r'.map (·.1)).Nodup
 to:∀x'∈r',∃x∈r,x.1=x'.1/\Lq H 1 x.2 x'.2
theorem b3Z {H:Hp}{a b:Addr}{r r':Rw}(q:RwQ H r r')(ha:H a=some (.dK (kvC r)))(hb:H b=some (.dK (kvC r'))):Lq H 2 (.ref a) (.ref b):=by
 have nd:(r.map (·.1)).Nodup:=q.pm.nodup_iff.mpr q.nd;have at_:∀(k:Key) (v:V),(k,v)∈kvC r'->∃x,a1K (kvC r) k=some x/\Lq H 1 x v:=fun k v h=>by
  obtain⟨x',hx',rfl,rfl⟩:=b1o h;obtain⟨x,hx,e,l⟩:=q.to x' hx';exact⟨x.2,by rw[<-e];exact a9q nd hx,l⟩
 refine .dct (fun k=>(a1K (kvC r) k).getD .non) (.inl ha) (.inl hb) ?_ (fun k v h=>?_) (fun k v h=>?_) (fun k v h=>?_)
 ·have:=q.pm.length_eq
  rw[lM0,lM0] at this;unfold kvC;rw[lM0,lM0,this]
 ·obtain⟨x,e,_⟩:=at_ k v h
  rw[e]
  rfl
 ·obtain⟨x',hx',rfl,rfl⟩:=b1o h
  exact a9q q.nd hx'
 ·obtain⟨x,e,l⟩:=at_ k v h
  rw[e];exact l
structure RsQ (H:Hp) (t t':Str×List Rw):Prop where
 n:t.1=t'.1
 l:t.2.length=t'.2.length
 to:∀(j:Nat) (r r':Rw),t.2[j]? =some r->t'.2[j]? =some r'->RwQ H r r'
theorem b2w {H:Hp}{a b:Addr}{t t':Str×List Rw}(q:RsQ H t t')(ha:a2u H a t.2)(hb:a2u H b t'.2):Lq H 3 (.ref a) (.ref b):=by
 obtain⟨rs,a1,a2,a3⟩:=ha;obtain⟨rs',b1,b2,b3⟩:=hb;have ql:=q.l;refine .lst a1 b1 (by rw[lM0,lM0];omega) fun i x y hx hy=>?_;have hi:i<rs.length:=by have:=(gS0.mp hx).1;rwa [lM0] at this
 have hi':i<rs'.length:=by omega
 have hit:i<t.2.length:=by omega
 have hit':i<t'.2.length:=by omega
 rw[gM0,gE0 hi] at hx;rw[gM0,gE0 hi'] at hy;cases hx;cases hy;exact b3Z (q.to i _ _ (gE0 hit) (gE0 hit')) (a3 i _ _ (gE0 hi) (gE0 hit)) (b3 i _ _ (gE0 hi') (gE0 hit'))
theorem a6h:∀{zs:List Str} {ls:List Addr} {j:Nat} {z:Str} {l:Addr},zs.Nodup->zs[j]? =some z->ls[j]? =some l->a1K (zK zs ls) (.inr z)=some (.ref l)
 |[],_,_,_,_,_,h,_=>by simp at h
 |_::_,[],_,_,_,_,_,h=>by simp at h
 |a::zs,b::ls,0,z,l,nd,h1,h2=>by
  cases h1;cases h2;exact a1g rfl
 |a::zs,b::ls,j+1,z,l,nd,h1,h2=>by
  have hz:z∈zs:=gI0 (i:=j) h1;show a1K (((.inr a:Key),V.ref b)::zK zs ls) (.inr z)=_;rw[a1B (fun e=>(List.nodup_cons.mp nd).1 (by injection e with e;rw[e];exact hz))];exact a6h (List.nodup_cons.mp nd).2 h1 h2
structure PcQ (H:Hp) (pc pc':Pc):Prop where
 pm:(pc.map (·.1)).Perm (pc'.map (·.1))
 nd:(pc'.map (·.1)).Nodup
 to:∀t'∈pc',∃t∈pc,RsQ H t t'
theorem b0Y {H:Hp}{p p':Addr}{pc pc':Pc}(q:PcQ H pc pc')(h:a2x H p pc)(h':a2x H p' pc'):Lq H 4 (.ref p) (.ref p'):=by
 have nd:(pc.map (·.1)).Nodup:=q.pm.nodup_iff.mpr q.nd;have ln:pc.length=pc'.length:=by have:=q.pm.length_eq;rwa [lM0,lM0] at this
 obtain⟨ls,a1,a2,a3⟩:=h;obtain⟨ls',b1,b2,b3⟩:=h';have at_:∀(k:Key) (v:V),(k,v)∈zK (pc'.map (·.1)) ls'->(∃x,a1K (zK (pc.map (·.1)) ls) k=some x/\Lq H 3 x v)/\a1K (zK (pc'.map (·.1)) ls') k=some v:=fun k v hk=>by
  obtain⟨j,hj⟩:=List.getElem?_of_mem hk;obtain⟨z,l',hz,hl',rfl,rfl⟩:=a9f hj;have hjp:j<pc'.length:=by have:=(gS0.mp hl').1;omega
  refine⟨?_,a6h q.nd hz hl'⟩;obtain⟨t,ht,rq⟩:=q.to pc'[j] (gQ0 hjp);obtain⟨i,hi⟩:=List.getElem?_of_mem ht;have hil:i<ls.length:=by have:=(gS0.mp hi).1;omega
  rw[gM0,gE0 hjp] at hz;cases hz;refine⟨.ref ls[i],?_,b2w rq (a3 i _ _ (gE0 hil) hi) (b3 j _ _ hl' (gE0 hjp))⟩;exact a6h nd (by rw[gM0,hi];exact congrArg some rq.n) (gE0 hil)
 refine .dct (fun k=>(a1K (zK (pc.map (·.1)) ls) k).getD .non) (.inl a1) (.inl b1) ?_ (fun k v hk=>?_) (fun k v hk=>(at_ k v hk).2) (fun k v hk=>?_)
 ·rw[a5v (by rw[lM0];exact a2),a5v (by rw[lM0];exact b2),lM0,lM0,ln]
 ·obtain⟨⟨x,e,_⟩,_⟩:=at_ k v hk
  rw[e]
  rfl
 ·obtain⟨⟨x,e,l⟩,_⟩:=at_ k v hk
  rw[e];exact l
theorem rs1 {H:Hp}{z:Str}{r r':Rw}(q:RwQ H r r'):RsQ H (z,[r]) (z,[r']):=⟨rfl,rfl,fun j x y h1 h2=>match j,h1,h2 with
 |0,h1,h2=>by cases h1;cases h2;exact q
 |j+1,h1,_=>by cases h1⟩
theorem a8W {H:Hp}{n:Nat}{v:V}(h:flt v=true):Lq H n v v:=by
 cases v with
 |non=>exact .non
 |bl b=>exact .bl
 |int i=>exact .int
 |str z=>exact .str
 |_=>cases h
theorem b5o {H:Hp}{r:Rw}(nd:(r.map (·.1)).Nodup)(h:∀x∈r,flt x.2=true):RwQ H r r:=⟨.refl _,nd,fun x hx=>⟨x,hx,rfl,a8W (h x hx)⟩⟩
def FlR (r:Rw):Prop:=(r.map (·.1)).Nodup/\∀x∈r,flt x.2=true
theorem b6b {H:Hp}{t:Str×List Rw}(h:∀r∈t.2,FlR r):RsQ H t t:=⟨rfl,rfl,fun j r r' h1 h2=>by
 rw[h1] at h2;cases h2
 have:=h r (gI0 h1)
 exact b5o this.1 this.2⟩
theorem b6m {H:Hp}{pc pc':Pc}(p:pc.Perm pc')(nd:(pc'.map (·.1)).Nodup)(h:∀t∈pc',∀r∈t.2,FlR r):PcQ H pc pc':=⟨p.map _,nd,fun t ht=>⟨t,p.mem_iff.mpr ht,b6b (h t ht)⟩⟩
theorem a9t {z:Str}{v:V}(h:flt v=true):FlR [(z,v)]:=⟨List.nodup_cons.mpr ⟨List.not_mem_nil,List.nodup_nil⟩,fun x hx=>by rw[mS0.mp hx];exact h⟩
theorem b4B {nm:Nat->Str}(N:Nm8 nm)(c:Int):FlR (rwE nm c):=⟨a7r N c,fun x hx=>a4H hx⟩
theorem b1I {nm:Nat->Str}(N:Nm8 nm){c:Int}{xs:List V}(hx:∀x∈xs,flt x=true){bs:Bool}:∀t∈pcN nm c xs bs,∀r∈t.2,FlR r:=fun t ht r hr=>by
 rcases mK0.mp ht with rfl |ht
 ·rw[mS0.mp hr];exact b4B N c
 ·rcases mK0.mp ht with rfl |ht
  ·obtain⟨v,hv,rfl⟩:=mM0.mp hr
   exact a9t (hx v hv)
  ·rw[a2U ht] at hr
   rw[mS0.mp hr];exact a9t rfl
section
variable {H:Hp}{nm:Nat->Str}{c:Int}{xs:List V}{bs:Bool}{ta tb:Addr}
theorem b5F (N:Nm8 nm)(hx:∀x∈xs,flt x=true)(l60:xs.length<=60):PcQ H (pcN nm c xs bs) (pcN nm c xs bs):=b6m (.refl _) (okN (H:=H) N c hx l60 bs).nd (b1I N hx)
theorem b5q (N:Nm8 nm)(hx:∀x∈xs,flt x=true)(l60:xs.length<=60):PcQ H ((nm 0,[rwE nm c])::(sdP nm c bs++[(nm 1,rws (nm 2) xs)])) (pcN nm c xs bs):=b6m (.cons _ List.perm_append_comm) (okN (H:=H) N c hx l60 bs).nd (b1I N hx)
theorem b3F (N:Nm8 nm)(hx:∀x∈xs,flt x=true)(h1:H ta=some (.tup xs))(h2:H tb=some (.tup xs)):PcQ H (pcO nm c ta bs) (pcO nm c tb bs):=by
 refine⟨.refl _,(okO N c h2 bs).nd,fun t ht=>?_⟩;rcases mK0.mp ht with rfl |ht
 ·refine⟨_,List.mem_cons_self,rs1 ⟨by rw[mA0,mA0];exact .refl _,(b1P N c h2).1.1,fun x hx'=>?_⟩⟩
  rcases mB0.mp hx' with hx' |hx'
  ·exact⟨x,List.mem_append_left _ hx',rfl,a8W (a4H hx')⟩
  ·rw[mS0.mp hx']
   refine⟨_,List.mem_append_right _ List.mem_cons_self,rfl,.tup (.inl h1) (.inl h2) rfl fun i x y e1 e2=>?_⟩;rw[e1] at e2;cases e2;exact a8W (hx x (gI0 e1))
 ·refine⟨t,mL0 _ ht,b6b fun r hr=>?_⟩
  rw[a2U ht] at hr;rw[mS0.mp hr];exact a9t rfl
end
theorem a8j {c:List (Str×V)}{z:Str}{v:V}(h:z∉c.map (·.1)):lo (c++[(z,v)]) z=c:=by
 unfold lo;rw[List.filter_append,List.filter_eq_self.mpr,List.filter_cons_of_neg (by simp),List.filter_nil,List.append_nil];exact fun x hx=>dT0 fun e=>h (by rw[<-e];exact mM0.mpr ⟨x,hx,rfl⟩)
theorem CQ.sb {H H':Hp}{c c':List (Str×V)}(q:CQ H c c')(s:Sb H H'):CQ H' c c':=⟨q.1,fun z hz=>let ⟨d,a,b,k⟩:=q.2 z hz;⟨d,Rep.sb s a,Rep.sb s b,k⟩⟩
theorem CQ.symm {H:Hp}{c c':List (Str×V)}(q:CQ H c c'):CQ H c' c:=⟨q.1.symm,fun z hz=>let ⟨d,a,b,k⟩:=q.2 z (q.1.mem_iff.mpr hz);⟨d,b,a,k⟩⟩
theorem a3B {c:List (Str×V)}{z:Str}{v:V}(nd:(c.map (·.1)).Nodup)(h:z∉c.map (·.1)):((c++[(z,v)]).map (·.1)).Nodup/\vOf (c++[(z,v)]) z=v/\∀y∈c.map (·.1),vOf (c++[(z,v)]) y=vOf c y:=by
 have n:((c++[(z,v)]).map (·.1)).Nodup:=by
  rw[mA0,List.nodup_append];refine⟨nd,by simp,fun x hx y hy e=>?_⟩
  have:y=z:=by simpa using hy
  rw[e,this] at hx;exact h hx
 refine⟨n,a1v n (x:=(z,v)) (List.mem_append_right _ List.mem_cons_self),fun y hy=>?_⟩;obtain⟨x,hx,rfl⟩:=mM0.mp hy;rw[a1v n (List.mem_append_left _ hx),a1v nd hx]
theorem CQ.snoc {H:Hp}{c c':List (Str×V)}{z:Str}{v v':V}{d:Dt}(q:CQ H c c')(n:(c.map (·.1)).Nodup)(n':(c'.map (·.1)).Nodup)(h:z∉c.map (·.1))(h':z∉c'.map (·.1))(r:Rep H d v)(r':Rep H d v')(k:a2y d=true):CQ H (c++[(z,v)]) (c'++[(z,v')]):=by
 obtain⟨a1,a2,a3⟩:=a3B (v:=v) n h;obtain⟨b1,b2,b3⟩:=a3B (v:=v') n' h';refine⟨by rw[mA0,mA0];exact q.1.append (.refl _),fun y hy=>?_⟩;rw[mA0,mB0] at hy;rcases hy with hy |hy
 ·rw[a3 y hy,b3 y (q.1.mem_iff.mp hy)]
  exact q.2 y hy
 ·have:y=z:=by simpa using hy
  rw[this,a2,b2];exact⟨d,r,r',k⟩
theorem a9H {H:Hp}{R:List Tb}(nd:(R.map (·.name)).Nodup)(ok:∀T∈R,a0L H T.cols):∀T∈R,∀T'∈R,T.name=T'.name->TQ H T T':=fun T hT T' hT' e=>by
 have:=b1O (f:=fun T:Tb=>T.name) nd hT hT' e
 subst this;refine⟨rfl,rfl,.refl _,fun z hz=>?_⟩;obtain⟨_,d,r,k,_⟩:=a3k (ok T hT) hz;exact⟨d,r,r,k⟩
def kp (R:List Addr)(H:Hp):Hp:=fun b=>if b∈R then none else H b
theorem b2F {R:List Addr}{H:Hp}:a0m (kp R H) H:=fun b o e=>by
 unfold kp at e
 split at e
 ·cases e
 ·exact e
theorem b1V {R:List Addr}{H:Hp}{b:Addr}(h:b∈R):kp R H b=none:=by unfold kp;rw[if_pos h]
theorem a4l {R:List Addr}{H:Hp}{b:Addr}{o:HO}(h:b∉R)(e:H b=some o):kp R H b=some o:=by unfold kp;rw[if_neg h];exact e
theorem a9b {R:List Addr}{H H':Hp}(h:∀r∈R,∃o,H r=some o):a0m (cut H H') (kp R H'):=fun b o e=>a4l (fun hb=>by
 obtain⟨u,hu⟩:=h b hb;rw[a1w e] at hu;cases hu) (a0n _ _ e)
theorem b4d {R:List Addr}{H H':Hp}(h:∀r∈R,H r=none)(s:a0m H H'):a0m H (kp R H'):=fun b o e=>a4l (fun hb=>by
 rw[h b hb] at e;cases e) (s _ _ e)
def PcL (R:List Addr)(H:Hp)(p:Addr):Prop:=∃(zs:List Str) (ls:List Addr),H p=some (.dK (zK zs ls))/\zs.Nodup/\ls.length=zs.length/\zs.length<=8/\p∉R/\∀l∈ls,l≠p/\∃rs:List Addr,H l=some (.lst (rs.map V.ref))/\∀r∈rs,r∈R
theorem a9m {H G:Hp}{p:Addr}{pc:Pc}(h:a2x G p pc)(ok:a6x H pc)(s:a0m G H):∃R:List Addr,(∀r∈R,∃row,b0b H row/\G r=some (.dK (rK row)))/\∃ls:List Addr,G p=some (.dK (zK (pc.map (·.1)) ls))/\ls.length=pc.length/\∀l∈ls,l≠p/\∃rs:List Addr,G l=some (.lst (rs.map V.ref))/\∀r∈rs,r∈R:=by
 obtain⟨ls,a1,a2,a3⟩:=h;have key:∀n,n<=ls.length->∃R:List Addr,(∀r∈R,∃row,b0b H row/\G r=some (.dK (rK row)))/\∀l∈ls.take n,l≠p/\∃rs:List Addr,G l=some (.lst (rs.map V.ref))/\∀r∈rs,r∈R:=by
  intro n
  induction n with
  |zero=>exact fun _=>⟨[],(fun r h=>nomatch h),fun l h=>by simp at h⟩
  |succ n ih=>
   intro hn;obtain⟨R,h1,h2⟩:=ih (by omega);have hp:n<pc.length:=by omega
   have hRw:=a3 n ls[n] pc[n] (gE0 hn) (gE0 hp);have ap:=a2x.apart ok (s _ _ a1) a2 (gE0 hn) (gE0 hp) (hRw.same s);obtain⟨rs,b1,b2,b3⟩:=hRw;refine⟨R++rs,fun r hr=>?_,fun l hl=>?_⟩
   ·rcases mB0.mp hr with hr |hr
    ·exact h1 r hr
    ·obtain⟨j,hj⟩:=List.getElem?_of_mem hr
     have hjr:j<pc[n].2.length:=by have:=(gS0.mp hj).1;omega
     exact⟨pc[n].2[j],ok.rw_ _ (gQ0 hp) _ (gQ0 hjr),b3 j r _ hj (gE0 hjr)⟩
   ·rw[List.take_succ,gE0 hn] at hl
    rcases mB0.mp hl with hl |hl
    ·obtain⟨x,rs',y,z⟩:=h2 l hl
     exact⟨x,rs',y,fun r hr=>List.mem_append_left _ (z r hr)⟩
    ·rw[Option.toList_some,mS0] at hl
     rw[hl];exact⟨ap.1,rs,b1,fun r hr=>List.mem_append_right _ hr⟩
 obtain⟨R,h1,h2⟩:=key ls.length (nR0 _);rw[List.take_length] at h2;exact⟨R,h1,ls,a1,a2,h2⟩
theorem b3c {X:Cx}{t:TS}{D:a5o}{σ:L2.St}{H:Hp}{k:Nat}{a:Addr}(hp:Pl H k a)(h0:X.H₀ a=none)(h:∀H' d,(∀b o,b≠a->H b=some o->H' b=some o)->Rep H' d (.ref a)->a1N d=true->a2d d=true->t D σ H'):b3D X t D σ H:=by
 cases hp with
 |whole e=>exact .inl (h H (.tup [.str "whole"]) (fun _ _ _ e=>e) (a3c e (by decide +kernel)) (by decide +kernel) (by decide +kernel))
 |word e=>exact .inl (h H (.tup [.str "word"]) (fun _ _ _ e=>e) (a3c e (by decide +kernel)) (by decide +kernel) (by decide +kernel))
 |below i hi e=>
  refine .inl (h H (.tup [.str "below",.int i]) (fun _ _ _ e=>e) (a2f e (by decide +kernel) (by simp only[Rep])) ?_ rfl);show a2Y (.str "below") (.int i)=true;unfold a2Y;rw[if_pos (by decide +kernel)];exact dT0 hi
 |upto i e=>
  refine .inl (h H (.tup [.str "upto",.int i]) (fun _ _ _ e=>e) (a2f e (by decide +kernel) (by simp only[Rep])) ?_ rfl);show a2Y (.str "upto") (.int i)=true;unfold a2Y;rw[if_neg (by decide +kernel),if_pos (by decide +kernel)]
  rfl
 |without c t hc e h1 h2=>
  obtain⟨o,u0,m,e1,e2⟩:=e;refine .inr ⟨a,o,_,e1,h0,h _ (.tup [.str "without",.str ⟨#[c]⟩]) (fun b u nb e=>(a0g nb).trans e) (a2f a0b (by decide +kernel) (show _/\_ from⟨rfl,(by show 1<=1000;decide)⟩)) ?_ rfl⟩;unfold sgs at hc;simp only[mK0,List.not_mem_nil,or_false] at hc;rcases hc with rfl |rfl |rfl |rfl |rfl<;>decide +kernel
section
variable {P:Program}{w:World}{K:Fg0}{mg:Str->Option Value}{base:Heap}{CC PF:Addr}
theorem b4V {f:Addr}{fd:FuncData}(F:Fun K "key_forth" "Move.key_forth" (mv 6) f fd):a0F P w K mg base CX0 1 f fd ["self","key"] b0A:=by
 have sc:a0o ["self","key"] ["self","key"] (a0f (mv 6)):=.k (by decide +kernel);refine F.ok sc (fun vs H Q E h=>?_) (fun cdv A outer s H vs Q E hr h=>?_)
 ·obtain⟨x,y,rfl,_⟩:=h
  rfl
 ·obtain⟨x,y,rfl,q⟩:=h
  exact⟨_,a0h (a0u (pv 1)),_,rfl,q⟩
theorem b5R {f:Addr}{fd:FuncData}(F:Fun K "key_back" "Move.key_back" (mv 7) f fd):a0F P w K mg base CX0 1 f fd ["self","key"] b0A:=by
 have sc:a0o ["self","key"] ["self","key"] (a0f (mv 7)):=.k (by decide +kernel);refine F.ok sc (fun vs H Q E h=>?_) (fun cdv A outer s H vs Q E hr h=>?_)
 ·obtain⟨x,y,rfl,_⟩:=h
  rfl
 ·obtain⟨x,y,rfl,q⟩:=h
  exact⟨_,a0h (a0u (pv 1)),_,rfl,q⟩
theorem b2G {f:Addr}{fd:FuncData}(F:b3j K "left" "Move.left" (mv 4) f fd):a0F P w K mg base CX0 1 f fd ["self","form","piece","rest"] a7j:=by
 have sc:a0o ["self","form","piece","rest"] ["self","form","piece","rest"] (a0f (mv 4)):=.k (by decide +kernel);refine F.ok sc (fun vs H Q E h=>?_) (fun cdv A outer s H vs Q E hr h=>?_)
 ·obtain⟨x,y,z,r,rfl,_⟩:=h
  rfl
 ·obtain⟨x,y,z,r,rfl,q⟩:=h
  exact⟨_,a0h (a0u a1m),q⟩
theorem b0j {f:Addr}{fd:FuncData}(F:b3j K "right" "Move.right" (mv 5) f fd):a0F P w K mg base CX0 1 f fd ["self","form","piece","rest"] a7j:=by
 have sc:a0o ["self","form","piece","rest"] ["self","form","piece","rest"] (a0f (mv 5)):=.k (by decide +kernel);refine F.ok sc (fun vs H Q E h=>?_) (fun cdv A outer s H vs Q E hr h=>?_)
 ·obtain⟨x,y,z,r,rfl,_⟩:=h
  rfl
 ·obtain⟨x,y,z,r,rfl,q⟩:=h
  exact⟨_,a0h (a0u a1m),q⟩
theorem b3P {f:Addr}{fd:FuncData}(F:Fun K "keeps_forth" "Move.keeps_forth" (mv 8) f fd):a0F P w K mg base CX0 1 f fd ["self"] b0v:=by
 have sc:a0o ["self"] ["self"] (a0f (mv 8)):=.k (by decide +kernel);refine F.ok sc (fun vs H Q E h=>?_) (fun cdv A outer s H vs Q E hr h=>?_)
 ·obtain⟨x,rfl,_⟩:=h
  rfl
 ·obtain⟨x,rfl,q⟩:=h
  exact⟨_,a0h (a0u a3w),q⟩
theorem b4a {f:Addr}{fd:FuncData}(F:Fun K "keeps_back" "Move.keeps_back" (mv 9) f fd):a0F P w K mg base CX0 1 f fd ["self"] b0v:=by
 have sc:a0o ["self"] ["self"] (a0f (mv 9)):=.k (by decide +kernel);refine F.ok sc (fun vs H Q E h=>?_) (fun cdv A outer s H vs Q E hr h=>?_)
 ·obtain⟨x,rfl,_⟩:=h
  rfl
 ·obtain⟨x,rfl,q⟩:=h
  exact⟨_,a0h (a0u a3w),q⟩
seal L2.PSM L2.a8i L2.EWn L2.PEk L2.PSk L2.b0a
def Me (P:Program)(w:World)(K:Fg0)(mg:Str->Option Value)(base:Heap)(C:Addr)(m:Str)(ps:List Str)(ds:List Value)(k:Nat)(sp:Sp):Prop:=∃f fd,b2l K C m f/\a0F P w K mg base CX0 k f fd ps sp/\a2i K fd ps ds
def b4J (K:Fg0)(PF:Addr):Sp:=fun vs H Q _=>∃(a:Addr) (ns:List Int),vs=[.ref a]/\SqL K H a (ns.map V.int)/\ns.length<=63/\H PF=some (.tbl #[])/\∀H',Q (.bl true) H'
def nLw:List Str:=["_law_script","_law_names_here","_law_kind_here","_law_told_here","_law_beside","_law_forms_here","_law_move","_law_handed","_law_due","_law_found","_law_again","_law_piece","_law_table","_law_row_here","_law_key"]
theorem SqL.sb34 {K:Fg0}{H H':Hp}{a:Addr}{xs:List V}(h:SqL K H a xs)(s:Sb H H'):SqL K H' a xs:=by
 rcases h with (h |⟨o,h⟩) |h
 ·exact .inl (.inl (s _ _ rfl h))
 ·exact .inl (.inr ⟨o,s _ _ rfl h⟩)
 ·exact .inr h
theorem b5Q {zs:List Str}(z9:zs.length=7)(znd:zs.Nodup)(zok:∀z∈zs,a1P z=true):∃nm,(∀i j,i<7->j<7->nm i=nm j->i=j)/\(∀i,i<7->a1P (nm i)=true)/\zs.map V.str=nmL nm:=by
 refine⟨fun i=>zs.getD i "",fun i j hi hj e=>?_,fun i hi=>?_,?_⟩
 ·have hi':i<zs.length:=by omega
  have hj':j<zs.length:=by omega
  have e:zs.getD i ""=zs.getD j "":=e;rw[List.getD_eq_getElem?_getD,List.getD_eq_getElem?_getD,gE0 hi',gE0 hj'] at e;exact(List.getElem_inj znd).mp e
 ·have hi':i<zs.length:=by omega
  show a1P (zs.getD i "")=true;rw[List.getD_eq_getElem?_getD,gE0 hi'];exact zok _ (gQ0 hi')
 ·refine List.ext_getElem (by simp[z9]) fun i h1 h2=>?_
  have hi':i<zs.length:=by simpa using h1
  simp[gE0 hi']
theorem b4c {f fI fC fN fA fK fV fTl fL fR fG fM fT fF:Addr}{fd fdI fdC fdN fdA fdK fdV fdTl fdL fdR fdG fdM fdT fdF:FuncData}(F:Fun K "law" "law" (top 54) f fd)(B:Bl mg)(hz:mg "zip"=none)(hMx:mg "max"=none)(T:ClC K CC)
  (DC:Df K mg "_law_cell" (top 42) fC fdC) (DN:Df K mg "_law_names" (top 43) fN fdN) (DA:Df K mg "_law_alike" (top 44) fA fdA) (DF:Df K mg "_law_form" (top 45) fF fdF) (DT:Df K mg "_law_text" (top 46) fT fdT) (DK:Df K mg "_law_kind" (top 47) fK fdK) (DV:Df K mg "_law_value" (top 48) fV fdV) (DTl:Df K mg "_law_told" (top 49) fTl fdTl) (DL:Df K mg "_law_columns" (top 50) fL fdL) (DR:Df K mg "_law_row" (top 51) fR fdR) (DG:Df K mg "_law_pieces" (top 52) fG fdG) (DM:Df K mg "_law_forms" (top 53) fM fdM)
  (MK:Mk K CC fI) (FI:Fun K "__init__" "Rows.__init__" (a0X (top 39) 0) fI fdI) (mC:mg "Rows"=some (.ref CC))
  (eA:Me P w K mg base CC "after" ["self","form"] [] 8 (a8w CC PF)) (eZ:Me P w K mg base CC "before" ["self","form"] [] 8 (a6R CC PF)) (eF:Me P w K mg base CC "forth" ["self","form","piece","rest"] [] 2 (a9F CC)) (eB:Me P w K mg base CC "back" ["self","form","piece","rest"] [] 2 (b1s CC)) (eL:Me P w K mg base CC "left" ["self","form","piece","rest"] [.none] 1 a7j) (eR:Me P w K mg base CC "right" ["self","form","piece","rest"] [] 1 a7j) (eX:Me P w K mg base CC "key_forth" ["self","key"] [] 1 b0A) (eY:Me P w K mg base CC "key_back" ["self","key"] [] 1 b0A) (eU:Me P w K mg base CC "keeps_forth" ["self"] [] 1 b0v) (eV:Me P w K mg base CC "keeps_back" ["self"] [] 1 b0v) (eW:Me P w K mg base CC "words" ["self"] [] 1 (a7l CC)) :
  a0F P w K mg base CX0 9 f fd ["_law_script"] (b4J K PF):=by
 have sc:a0o nLw ["_law_script"] (a0f (top 54)):=.k (by decide +kernel);have GC:a0F P w K mg base CX0 1 fC fdC ["_law_script","_law_k"] (b3p K):=a5n DC.fn B;have bC:=DC.fn.b2 "_law_script" "_law_k" (by intros;rfl);have GN:a0F P w K mg base CX0 1 fN fdN ["_law_cell_here","_law_many"] a9s:=b0u DN.fn B;have bN:=DN.fn.b2 "_law_cell_here" "_law_many" (by intros;rfl);have GA:a0F P w K mg base CX0 8 fA fdA ["_law_found","_law_due"] (b4P 7):=a6Z DA B hz 7;have bA:=DA.fn.b2 "_law_found" "_law_due" (by intros;rfl);have GK:∀m,a3j m P w K mg base 1 fK fdK ["_law_cell_here"] (b6a m):=fun m=>b5E DK.fn B m;have bK:=DK.fn.b1 "_law_cell_here" (by intros;rfl);have GTl:∀m,a3j m P w K mg base 3 fTl fdTl ["_law_script","_law_kind_here"] (toW (b5W K m)):=fun m=>b5P DTl.fn B hMx DC DV DT m;have bTl:=DTl.fn.b2 "_law_script" "_law_kind_here" (by intros;rfl);have GM:a0F P w K mg base CX0 2 fM fdM ["_law_script","_law_names_here","_law_kind_here","_law_beside"] (b3S K):=b3W DM.fn B DC DL DF;have bM:=DM.fn.b4 "_law_script" "_law_names_here" "_law_kind_here" "_law_beside" (by intros;rfl);have GG:a0F P w K mg base CX0 3 fG fdG ["_law_script","_law_names_here","_law_told_here","_law_beside"] (b3L K):=b4n DG.fn B DC DR DT;have bG:=DG.fn.b4 "_law_script" "_law_names_here" "_law_told_here" "_law_beside" (by intros;rfl);have GI:a0F P w K mg base CX0 1 fI fdI ["self","column","side"] (a8D CC):=b0K FI T;have bI:=FI.b3 "self" "column" "side" (by intros;rfl);refine F.ok sc (fun vs H Q E h=>?_) (fun cdv A outer s H vs Q E hr h=>?_)
 ·obtain⟨a,ns,rfl,_⟩:=h
  rfl
 ·obtain⟨a,ns,rfl,ha,h63,hPF,q⟩:=h
  have hu:=a2E hr;obtain⟨_,_,mxA,gxA,bxA⟩:=eA;obtain⟨_,_,mxZ,gxZ,bxZ⟩:=eZ;obtain⟨_,_,mxF,gxF,bxF⟩:=eF;obtain⟨_,_,mxB,gxB,bxB⟩:=eB;obtain⟨_,_,mxL,gxL,bxL⟩:=eL;obtain⟨_,_,mxR,gxR,bxR⟩:=eR;obtain⟨_,_,mxX,gxX,bxX⟩:=eX;obtain⟨_,_,mxY,gxY,bxY⟩:=eY;obtain⟨_,_,mxU,gxU,bxU⟩:=eU;obtain⟨_,_,mxV,gxV,bxV⟩:=eV;obtain⟨_,_,mxW,gxW,bxW⟩:=eW;refine⟨_,(a0d (a0E (i:=1) sc.nd rfl (Or.inl rfl) (a0i GN (hr.mono (by decide)) (by rfl) DN.mg DN.fn.kp bN .nil a0r (a0a (a0i GC (hr.mono (by decide)) (by rfl) DC.mg DC.fn.kp bC .nil a0r (a0a (pv 0) (a0a a0e a0c))) (a0a a0e a0c))))
   (a0d (a1H (a0A (a0q a1o (a0w a0O (a0w a1b (a0i GC (hr.mono (by decide)) (by rfl) DC.mg DC.fn.kp bC .nil a0r (a0a (pv 0) (a0a a0e a0c))) a0e) a0e) a0e (a0t _)) (a0h (b1h (a0x a0p (pv 1) a0e (fun _ _=>rfl)) (b3B (pv 1) a0e b0B))) a0l))
   (b1Y (a2r (a9u (i:=2) (a6d GK (hr.mono (by decide)) (by rfl) DK.mg DK.fn.kp bK (a0a (a0w a1b (a0i GC (hr.mono (by decide)) (by rfl) DC.mg DC.fn.kp bC .nil a0r (a0a (pv 0) (a0a a0e a0c))) a0e) a0c)) sc.nd rfl (Or.inl rfl))
   (a2r (a9u (i:=3) (a6d GTl (hr.mono (by decide)) (by rfl) DTl.mg DTl.fn.kp bTl (a0a (pv 0) (a0a (pv 2) a0c))) sc.nd rfl (Or.inl rfl))
   (PSs.m (b0R (a0d (a0E (i:=4) sc.nd rfl (Or.inl rfl) (a1d b2h (a0w a0O (a0i GC (hr.mono (by decide)) (by rfl) DC.mg DC.fn.kp bC .nil a0r (a0a (pv 0) (a0a a0e a0c))) a0e) a0e (a0t _)))
   (a0d (a0E (i:=5) sc.nd rfl (Or.inl rfl) (a0i GM (hr.mono (by decide)) (by rfl) DM.mg DM.fn.kp bM .nil a0r (a0a (pv 0) (a0a (pv 1) (a0a (pv 2) (a0a (pv 4) a0c))))))
   (a0d (a0E (i:=6) sc.nd rfl (Or.inl rfl) (b2y MK GI (hr.mono (by decide)) (by rfl) mC bI .nil a0r (a0a (a0x a0p (pv 1) a0e (fun _ _=>rfl)) (a0a (a0x a0p (pv 1) a0e (fun _ _=>rfl)) a0c))))
   (a0d (a0A (PW.pt (a2F (a1j (a0D (a0i GA (hr.mono (by decide)) (by rfl) DA.mg DA.fn.kp bA .nil a0r (a0a (a2I (pv 6) T.cl mxA gxA (hr.mono (by decide)) bxA .nil a0r (a0a (a0x a0p (pv 5) a0e (fun _ _=>rfl)) a0c)) (a0a (a0x a0p (pv 5) a0e (fun _ _=>rfl)) a0c))))) (a1J (a1j (a0D (a0i GA (hr.mono (by decide)) (by rfl) DA.mg DA.fn.kp bA .nil a0r (a0a (a2I (pv 6) T.cl mxZ gxZ (hr.mono (by decide)) bxZ .nil a0r (a0a (a0x a0p (pv 5) a0e (fun _ _=>rfl)) a0c)) (a0a (a0x a0p (pv 5) a0e (fun _ _=>rfl)) a0c)))))))) a0j a0l)
   (a0d (a0E (i:=7) sc.nd rfl (Or.inl rfl) (a0i GG (hr.mono (by decide)) (by rfl) DG.mg DG.fn.kp bG .nil a0r (a0a (pv 0) (a0a (pv 1) (a0a (pv 3) (a0a (pv 4) a0c))))))
   (a0d (a0E (i:=8) sc.nd rfl (Or.inl rfl) (a0i GG (hr.mono (by decide)) (by rfl) DG.mg DG.fn.kp bG .nil a0r (a0a (pv 0) (a0a (pv 1) (a0a (pv 3) (a0a (pv 4) a0c))))))
   (a0d (a0E (i:=9) sc.nd rfl (Or.inl rfl) (a2I (pv 6) T.cl mxF gxF (hr.mono (by decide)) bxF .nil a0r (a0a (a0x a0p (pv 5) a0e (fun _ _=>rfl)) (a0a (a0x a0p (pv 7) a0e (fun _ _=>rfl)) (a0a a1m a0c)))))
   (a0d (a0E (i:=10) sc.nd rfl (Or.inl rfl) (a2I (pv 6) T.cl mxB gxB (hr.mono (by decide)) bxB .nil a0r (a0a (a0x a0p (pv 5) a0e (fun _ _=>rfl)) (a0a (a0x a0p (pv 7) a0e (fun _ _=>rfl)) (a0a a1m a0c)))))
   (a0d (a0A (a1j (a0D (a0i GA (hr.mono (by decide)) (by rfl) DA.mg DA.fn.kp bA .nil a0r (a0a (pv 7) (a0a (pv 8) a0c))))) a0j a0l)
   (a0d (a0A (PW.pt (a2F (a1j (a0D (a0i GA (hr.mono (by decide)) (by rfl) DA.mg DA.fn.kp bA .nil a0r (a0a (pv 9) (a0a (a0M (a0a (a0x a0p (pv 8) a0e (fun _ _=>rfl)) (a0a a1m a0c))) a0c))))) (a1J (a1j (a0D (a0i GA (hr.mono (by decide)) (by rfl) DA.mg DA.fn.kp bA .nil a0r (a0a (pv 10) (a0a (a0M (a0a (a0x a0p (pv 8) a0e (fun _ _=>rfl)) (a0a a1m a0c))) a0c)))))))) a0j a0l)
   (a0d (a1W PassesOwn.never rfl (a1C (pv 7)) (a0v (i:=11) sc.nd rfl (Or.inl rfl)) (a0h (a7a (a1W PassesOwn.never rfl (a9v (pv 11)) (a0v (i:=12) sc.nd rfl (Or.inl rfl)) (a0h (a1W PassesOwn.never rfl (a1C (a1F hu (pv 11) (pv 12) (fun _ _=>rfl))) (a0v (i:=13) sc.nd rfl (Or.inl rfl)) (a0h (a1t (a6Y PySem.F.plainAttrs_dict PySem.F.slot_dict_clear PySem.F.type_dict_clear a9y (pv 13))))))))))
   (a0d (a1t (a6Y PySem.F.plainAttrs_list PySem.F.slot_list_clear PySem.F.type_list_clear b0Z (a1F hu (a0x a0p (pv 7) a0e (fun _ _=>rfl)) (a0x a0p (pv 1) a0e (fun _ _=>rfl)) (fun _ _=>rfl))))
   (a0d (a0A (PW.pt (a2F (a1j (a0D (a0i GA (hr.mono (by decide)) (by rfl) DA.mg DA.fn.kp bA .nil a0r (a0a (pv 9) (a0a (a0M (a0a (a0x a0p (pv 8) a0e (fun _ _=>rfl)) (a0a a1m a0c))) a0c))))) (a1J (a1j (a0D (a0i GA (hr.mono (by decide)) (by rfl) DA.mg DA.fn.kp bA .nil a0r (a0a (pv 10) (a0a (a0M (a0a (a0x a0p (pv 8) a0e (fun _ _=>rfl)) (a0a a1m a0c))) a0c)))))))) a0j a0l)
   (a0d (a0A (PW.pt (a2F (a0q a9i (a2I (pv 6) T.cl mxL gxL (hr.mono (by decide)) bxL (show a1c [V.non] [Value.none] from .cons rfl .nil) a0r (a0a (a0x a0p (pv 5) a0e (fun _ _=>rfl)) (a0a (a0x a0p (pv 8) a0e (fun _ _=>rfl)) a0c))) a1m (a0t _)) (a1J (a0q a9i (a2I (pv 6) T.cl mxR gxR (hr.mono (by decide)) bxR .nil a0r (a0a (a0x a0p (pv 5) a0e (fun _ _=>rfl)) (a0a (a0x a0p (pv 8) a0e (fun _ _=>rfl)) (a0a a1m a0c)))) a1m (a0t _))))) a0j a0l)
   (a0d (a0E (i:=14) sc.nd rfl (Or.inl rfl) (a0w a0O (a0i GC (hr.mono (by decide)) (by rfl) DC.mg DC.fn.kp bC .nil a0r (a0a (pv 0) (a0a a0e a0c))) a0e))
   (a0d (a0A (a1j (a0D (a0i GA (hr.mono (by decide)) (by rfl) DA.mg DA.fn.kp bA .nil a0r (a0a (a0M (a0a (a2I (pv 6) T.cl mxX gxX (hr.mono (by decide)) bxX .nil a0r (a0a (pv 14) a0c)) (a0a (a2I (pv 6) T.cl mxY gxY (hr.mono (by decide)) bxY .nil a0r (a0a (pv 14) a0c)) a0c))) (a0a (a0M (a0a (pv 14) (a0a (pv 14) a0c))) a0c))))) a0j a0l)
   (a0d (a0A (a1j (a0D (a0i GA (hr.mono (by decide)) (by rfl) DA.mg DA.fn.kp bA .nil a0r (a0a (a0M (a0a (a4R (pv 6) T.cl mxU gxU (hr.mono (by decide)) bxU .nil a0r) (a0a (a4R (pv 6) T.cl mxV gxV (hr.mono (by decide)) bxV .nil a0r) a0c))) (a0a (a0M (a0a a3w (a0a a3w a0c))) a0c))))) a0j a0l)
   (a0h (a0u (a0i GA (hr.mono (by decide)) (by rfl) DA.mg DA.fn.kp bA .nil a0r (a0a (a4R (pv 6) T.cl mxW gxW (hr.mono (by decide)) bxW .nil a0r) (a0a (a0M (a0a a0H (a0a (a0x a0p (pv 1) a0e (fun _ _=>rfl)) (a0a (a0x a0p (pv 1) a0e (fun _ _=>rfl)) a0c)))) a0c))))))))))))))))))))))))))))),?_⟩
  refine⟨_,rfl,a,ns,0,rfl,ha,by decide,by decide,h63,fun H1 s1=>⟨_,7,rfl,by decide,by decide,fun nl zn H2 s2 nl0 hnl0 zl znd zok=>?_⟩⟩
  replace s2:=s1.trans s2
  replace nl0:=a0B s1 nl0
  obtain⟨nm0,inj0,ok0,e0⟩:=b5Q (by omega) znd zok;rw[e0] at hnl0;clear e0 zl znd zok;refine⟨fun σ' H'=>σ'=[some (.ref a),some (.ref nl),none,none,none,none,none,none,none,none,none,none,none,none,none]/\∃nm,Nm8 nm/\H' nl=some (.lst (nmL nm))/\a0m H H',?_,?_⟩
  ·refine⟨_,rfl,a,ns,0,rfl,s2.seq ha,by decide,by decide,h63,fun H3 s3=>⟨_,_,rfl,rfl,⟨by decide,by decide⟩,_,_,rfl,rfl,pos rfl,rfl,_,rfl,a4q (fun _=>?_) (fun _=>?_)⟩⟩
   ·refine⟨_,rfl,nl,_,2,_,rfl,rfl,SqL.of (s3 _ _ hnl0),a1L nm0 (i:=2) (by decide),_,rfl,nl,_,1,1,rfl,rfl,s3 _ _ hnl0,rfl,?_⟩
    have ne:∀i j,i<7->j<7->i≠j->nm0 i≠nm0 j:=fun i j hi hj n e=>n (inj0 i j hi hj e);refine⟨rfl,(fun i=>if i=1 then nm0 2 else nm0 i),⟨fun i j hi hj i1 j1 e=>?_,ne 2 0 (by decide) (by decide) (by decide),ne 2 5 (by decide) (by decide) (by decide),fun i hi=>?_⟩,a0b,(s2.trans s3).put nl0⟩
    ·have e:(if i=1 then nm0 2 else nm0 i)=(if j=1 then nm0 2 else nm0 j):=e
     rw[if_neg i1,if_neg j1] at e;exact inj0 i j hi hj e
    ·show a1P (if i=1 then nm0 2 else nm0 i)=true
     split
     ·exact ok0 2 (by decide)
     ·exact ok0 i hi
   ·exact⟨rfl,nm0,⟨fun i j hi hj _ _ e=>inj0 i j hi hj e,fun e=>absurd (inj0 1 0 (by decide) (by decide) e) (by decide),fun e=>absurd (inj0 1 5 (by decide) (by decide) e) (by decide),ok0⟩,s3 _ _ hnl0,s2.trans s3⟩
  clear hnl0 inj0 ok0 s2;rintro σ3 H3 ⟨rfl,nm,N,hnl,s3⟩;refine⟨_,rfl,a,ns,2,rfl,s3.seq ha,by decide,by decide,h63,fun H4 s4=>⟨_,_,rfl,rfl,⟨by decide,by decide⟩,_,rfl,fun kd H5 u5 k5 hkd s5 pl5=>?_⟩⟩;have s35:=s4.trans s5;have S5:=s3.trans s35;have kd0:H3 kd=none:=a0B s4 hkd;refine⟨_,rfl,_,rfl,a,kd,ns,rfl,S5.seq ha,h63,pl5,fun tl xs H6 s6 htl etl x60 hxs u6 k6=>?_⟩;have kdH:H kd=none:=a0B s3 kd0;refine b3c (pl5.same s6) kdH fun H7 d k7 rd pd nd=>?_;have s37:a0m H3 H7:=fun b o e=>k7 b o (a0C e kd0) ((s35.trans s6) _ _ e);have S7:=s3.trans s37;have tkd:tl≠kd:=fun e=>by
   obtain⟨v,hv⟩:∃v,H5 kd=some v:=by cases pl5 with
    |whole h=>exact⟨_,h⟩
    |below i hi h=>exact⟨_,h⟩
    |upto i h=>exact⟨_,h⟩
    |word h=>exact⟨_,h⟩
    |without c t hc h h1 h2=>obtain⟨o,_,_,h,_⟩:=h;exact⟨_,h⟩
   rw[e,hv] at htl;cases htl
  have etl7:=k7 _ _ tkd etl;have hnl7:=s37 _ _ hnl;have ha7:=S7.seq ha;have hPF7:=S7 _ _ hPF;clear k7 pl5 etl htl tkd s37 S7 s35 S5 s4 s5 s6 hkd kd0 kdH hnl s3 s1 ha hPF;refine⟨_,rfl,a,ns,1,rfl,ha7,by decide,by decide,h63,fun H8 s8=>⟨_,_,rfl,rfl,pos rfl,_,_,rfl,rfl,?_⟩⟩
  dsimp only
  generalize hbs:decide (cel ns 1%5<2)=bs;refine⟨_,rfl,_,rfl,_,rfl,_,rfl,a,nl,kd,ns,nm,d,bs,rfl,s8.seq ha7,h63,s8 _ _ hnl7,N,rd.same s8,pd,nd,fun fl f0 f1 k c0 c1 sd so H12 s12 _ efl so3 hk fk0 fk1 cq l0 l1 n20 n21 lsd nsd=>?_⟩;have s712:=s8.trans s12;have ha12:=s712.seq ha7;have hnl12:=s712 _ _ hnl7;have etl12:=s712 _ _ etl7;have tb12:=s712 _ _ hPF7;have rd12:=rd.same s712;clear s8 s12 s712 ha7 hnl7 etl7 hPF7 rd;refine⟨_,rfl,nl,_,2,_,rfl,rfl,SqL.of hnl12,a1L nm (i:=2) (by decide),_,rfl,nl,_,1,_,rfl,rfl,SqL.of hnl12,a1L nm (i:=1) (by decide),fun mv dx n1 n2 ndx=>?_⟩;refine⟨mv,dx,nm 2,nm 1,rfl,a0b,fun H15 kp14 em=>⟨rfl,?_⟩⟩;have s15:a0m H12 H15:=fun b o e=>by
   have b1:b≠mv:=fun z=>by rw[z,n1] at e;cases e
   have b2:b≠dx:=fun z=>by rw[z,n2] at e;cases e
   exact kp14 b o b1 ((a0g b1).trans ((a0g b2).trans e))
  clear kp14 n1 n2 ndx;have cv:CvA CC H15 mv (nm 2) (nm 1):=⟨dx,em⟩;have nin:nm 1∉nm 0::sd.map (·.name):=by
   rw[mK0,not_or];exact⟨N.n10,nsd⟩
  have ok0:=fk0.co _ List.mem_cons_self;have ok1:=fk1.co _ List.mem_cons_self;have c0nd:(c0.map (·.1)).Nodup:=by
   have:=ok0.1
   rw[mA0,List.nodup_append] at this;exact this.1
  obtain⟨_,v2,_⟩:=a3B (v:=V.ref k) c0nd n20;have fnd1:=fk1.ts.2.1;have ndR:((sd++[(⟨nm 1,a0N so,[(nm 2,.ref kd)]⟩:Tb)]).map (·.name)).Nodup:=by
   rw[mN0,List.nodup_cons] at fnd1;exact fnd1.2
  refine⟨_,rfl,mv,dx,_,rfl,em,a1Y _ _ (by decide +kernel) (by decide +kernel),_,rfl,fl,_,0,_,rfl,rfl,SqL.of (s15 _ _ efl),a0U (j:=0) rfl,mv,f0,k,nm 2,nm 1,so,.ref kd,d,9,_,_,rfl,cv,fk0.sb s15.sb,.inl (s15 _ _ tb12),N.ok 1 (by decide),nin,by omega,(by rw[mA0];exact List.mem_append_right _ List.mem_cons_self),v2,s15 _ _ hk,so3,rd12.same s15,pd,nd,fun f1' H16 sb16 _ tb16 fa16=>?_⟩;have fk1_16:=(fk1.sb s15.sb).sb sb16;have sb1216:=s15.sb.trans sb16;have cq16:=cq.sb sb1216;rw[show lo (c0++[(nm 2,V.ref k)]) (nm 2)=c0 from a8j n20] at fa16;refine⟨_,rfl,fl,_,1,_,rfl,rfl,SqL.of (sb1216 _ _ rfl efl),a0U (j:=1) rfl,_,_,rfl,b1y fa16 fk1_16.at_ ⟨rfl,rfl,cq16⟩ (.refl _) ndR (a9H ndR fun X hX=>fk1_16.co X (mL0 _ hX)),fun H17 s17=>⟨_,rfl,a2b ?_⟩⟩;have sb17:=sb1216.trans s17.sb;have cv17:=(cv.sb sb16).same s17;have hso2:a0N so="many"\/a0N so="some":=by rcases so3 with e |e<;>rw[e]<;>decide +kernel
  have tso:a2A (a0N so)=so:=by rcases so3 with e |e<;>rw[e]<;>decide +kernel
  have em17:=s17 _ _ (sb16 _ _ rfl em);refine⟨_,rfl,mv,dx,_,rfl,em17,a1Y _ _ (by decide +kernel) (by decide +kernel),_,rfl,fl,_,1,_,rfl,rfl,SqL.of (sb17 _ _ rfl efl),a0U (j:=1) rfl,mv,f1,nm 2,nm 1,.ref kd,d,9,⟨nm 0,"head",c1⟩,⟨nm 1,a0N so,[(nm 2,.ref kd)]⟩,_,rfl,cv17,fk1_16.sb s17.sb,tb16.same s17,List.mem_append_right _ List.mem_cons_self,rfl,hso2,rfl,Rep.sb sb17 rd12,pd,nd,(by show c1.length<=11;omega),n21,fun f2 k' H18 sb18 _ _ hk' fa18=>?_⟩;have fk0_18:=(fk0.sb sb17).sb sb18;have sb1218:=sb17.trans sb18;have flt1:(sd++[(⟨nm 1,a0N so,[(nm 2,V.ref kd)]⟩:Tb)]).filter (nz (nm 1))=sd:=by
   rw[List.filter_append,List.filter_eq_self.mpr (show ∀X∈sd,nz (nm 1) X=true from fun X hX=>dT0 fun e=>nsd (by rw[<-e];exact mM0.mpr ⟨X,hX,rfl⟩)),List.filter_cons_of_neg (p:=nz (nm 1)) (by unfold nz;simp),List.filter_nil,List.append_nil]
  rw[flt1] at fa18;have hk'2:H18 k'=some (.tup [.str so,.ref kd]):=by rw[<-tso];exact hk'
  have sol:so.length<=1000:=by rcases so3 with e |e<;>rw[e]<;>decide +kernel
  have rd18:=Rep.sb sb1218 rd12;have sdnd:(sd.map (·.name)).Nodup:=by
   rw[mA0,List.nodup_append] at ndR;exact ndR.1
  have cq18:CQ H18 (c1++[(nm 2,V.ref k')]) (c0++[(nm 2,V.ref k)]):=(cq.sb sb1218).symm.snoc ok1.1 c0nd n21 n20 (a2f hk'2 sol rd18) (a2f (sb1218 _ _ rfl hk) sol rd18) (a2X so3 pd);refine⟨_,rfl,fl,_,0,_,rfl,rfl,SqL.of (sb1218 _ _ rfl efl),a0U (j:=0) rfl,_,_,rfl,b1y fa18 fk0_18.at_ ⟨rfl,rfl,cq18⟩ (.refl _) sdnd (a9H sdnd fun X hX=>fk0_18.co X (mL0 _ hX)),fun H19 s19=>⟨_,rfl,a2b ?_⟩⟩;have sbA:=sb1218.trans s19.sb;have cv19:=(cv17.sb sb18).same s19;have ha19:=SqL.sb34 ha12 sbA;have hnl19:=sbA _ _ rfl hnl12;have etl19:=sbA _ _ rfl etl12;have efl19:=sbA _ _ rfl efl;obtain⟨U0,fo,_⟩:=fk0.get;obtain⟨U1,fn,_⟩:=fk1.get;have fo19:=fo.sb sbA;have fn19:=fn.sb sbA;have em19:=s19 _ _ (sb18 _ _ rfl em17);clear ha12 hnl12 etl12 efl fo fn fk1_16 fk0_18 fk0 fk1 tb12 cv cv17 em em17 sb17 sb18 sb16 s17 s19 tb16 fa16 fa18 s15 sbA ok0 ok1 flt1 cq cq16 cq18 hk hk' hk'2 rd18 rd12 sb1216 sb1218 ndR sdnd fnd1 v2;refine⟨_,rfl,_,rfl,_,rfl,_,rfl,a,nl,tl,ns,nm,xs,bs,rfl,ha19,h63,hnl19,N,etl19,x60,hxs,fun hd h0 h1 ta H20 s20 chd cta ph0 ph1 nh=>?_⟩;refine⟨_,rfl,_,rfl,_,rfl,_,rfl,a,nl,tl,ns,nm,xs,bs,rfl,s20.seq ha19,h63,s20 _ _ hnl19,N,s20 _ _ etl19,x60,hxs,fun du d0 d1 tb H21 s21 cdu ctb pd0 pd1 nd'=>?_⟩;generalize cel ns 12=c at *;have ehd:=a0n _ _ chd;have eta:=a0n _ _ cta;have s1921:=s20.trans s21;have n1sd:nm 1∉nm 0::(sdP nm c bs).map (·.1):=by
   rw[mK0,not_or];exact⟨N.n10,fun h=>N.n15 (a3d h)⟩
  obtain⟨_,v2,_⟩:=a3B (v:=V.ref ta) (a7r N c) (a5V N c);refine⟨_,rfl,mv,dx,_,rfl,s1921 _ _ em19,a1Y _ _ (by decide +kernel) (by decide +kernel),_,rfl,fl,_,0,_,rfl,rfl,SqL.of (s1921 _ _ efl19),a0U (j:=0) rfl,_,rfl,hd,_,0,_,rfl,rfl,SqL.of (s21 _ _ ehd),a0U (j:=0) rfl,mv,f0,h0,ta,nm 2,nm 1,xs,9,_,_,rwE nm c++[(nm 2,V.ref ta)],sdP nm c bs,rfl,cv19.same s1921,fo19.same s1921,(ph0.same a0n).same s21,okO N c (s21 _ _ eta) bs,n1sd,Nat.le_trans (a9a nm c bs) (by decide),(by rw[mA0];exact List.mem_append_right _ List.mem_cons_self),v2,s21 _ _ eta,x60,fun q1 p1 H22 s22 pf1 eq1=>?_⟩;rw[show lo (rwE nm c++[(nm 2,V.ref ta)]) (nm 2)=rwE nm c from a8j (a5V N c)] at pf1;have s1922:=s1921.trans s22;refine⟨_,rfl,mv,dx,_,rfl,s1922 _ _ em19,a1Y _ _ (by decide +kernel) (by decide +kernel),_,rfl,fl,_,1,_,rfl,rfl,SqL.of (s1922 _ _ efl19),a0U (j:=1) rfl,_,rfl,hd,_,1,_,rfl,rfl,SqL.of (s22 _ _ (s21 _ _ ehd)),a0U (j:=1) rfl,mv,f1,h1,nm 2,nm 1,xs,9,_,_,rwE nm c,sdP nm c bs,rfl,cv19.same s1922,fn19.same s1922,((ph1.same a0n).same s21).same s22,okN N c hxs x60 bs,a5V N c,x60,fun q2 p2 tc H23 s23 etc ctc pf2 eq2=>?_⟩;have s2023:=s21.trans (s22.trans s23);have s2123:=s22.trans s23;refine⟨_,rfl,_,rfl,_,_,rfl,?_,fun H24 s24=>⟨_,rfl,a2b ?_⟩⟩
  ·refine(Lq.up (Lq.up (.lst (s2023 _ _ ehd) (s2123 _ _ (a0n _ _ cdu)) rfl fun i z w hz hw=>?_)))
   match i,hz,hw with
   |0,hz,hw=>
    cases hz;cases hw;exact b0Y (b3F N hxs (s2023 _ _ eta) (s2123 _ _ (a0n _ _ ctb))) ((ph0.same a0n).same s2023) ((pd0.same a0n).same s2123)
   |1,hz,hw=>
    cases hz;cases hw;exact b0Y (b5F N hxs x60) ((ph1.same a0n).same s2023) ((pd1.same a0n).same s2123)
  obtain⟨R0,r0a,ls0,l0a,l0b,l0c⟩:=a9m ph0 (okO N c eta bs) a0n;obtain⟨R1,r1a,ls1,l1a,l1b,l1c⟩:=a9m ph1 (okN N c hxs x60 bs) a0n;obtain⟨x0,ls0,rfl⟩:∃x y,ls0=x::y:=by
   match ls0,l0b with
   |x::y,_=>exact⟨x,y,rfl⟩
  obtain⟨y0,lz,ls1,rfl⟩:∃x y z,ls1=x::y::z:=by
   match ls1,l1b with
   |x::y::z,_=>exact⟨x,y,z,rfl⟩
  have rA:∀r∈R0++R1,∃row,b0b H20 row/\cut H19 H20 r=some (.dK (rK row)):=fun r hr=>(mB0.mp hr).elim (r0a r) (r1a r);obtain⟨lzh,rsz,elz,_⟩:=l1c lz (.tail _ (.head _));have s2024:=s2023.trans s24;have nR:∀{b:Addr} {o:HO},(∀kv,o≠.dK kv)->H20 b=some o->b∉R0++R1:=fun {b o} ho e hb=>by
   obtain⟨row,_,e2⟩:=rA b hb
   have:=a0n _ _ e2
   rw[e] at this
   injection this with this
   exact ho _ this
  have wS:∀{G:Hp},a0m H20 G->∀r∈lz::(R0++R1),∃o,G r=some o:=fun s r hr=>by
   rcases mK0.mp hr with rfl |hr
   ·exact⟨_,s _ _ (a0n _ _ elz)⟩
   ·obtain⟨_,_,e⟩:=rA r hr
    exact⟨_,s _ _ (a0n _ _ e)⟩
  have wN:∀r∈lz::(R0++R1),H19 r=none:=fun r hr=>by
   rcases mK0.mp hr with rfl |hr
   ·exact a1w elz
   ·obtain⟨_,_,e⟩:=rA r hr
    exact a1w e
  have y19:a0m H19 (kp (lz::(R0++R1)) H24):=b4d wN ((s20.trans s2023).trans s24);have c2021:a0m (cut H20 H21) (kp (lz::(R0++R1)) H24):=fun b o e=>a9b (wS (a0m.refl _)) b o (a3V (s2123.trans s24) b o e);have tb24:kp (lz::(R0++R1)) H24 tb=some (.tup xs):=c2021 _ _ ctb;have du24:kp (lz::(R0++R1)) H24 du=some (.lst [V.ref d0,.ref d1]):=c2021 _ _ cdu;have pd0':=pd0.same c2021;have pd1':=pd1.same c2021;have pf1':a2x (kp (lz::(R0++R1)) H24) p1 _:=pf1.same fun b o e=>a9b (wS s21) b o (a3V (s23.trans s24) b o e);have c2324:a0m (cut H22 H23) (kp (lz::(R0++R1)) H24):=fun b o e=>a9b (wS (s21.trans s22)) b o (a3V s24 b o e);have pf2':a2x (kp (lz::(R0++R1)) H24) p2 _:=pf2.same c2324;have tc24:kp (lz::(R0++R1)) H24 tc=some (.tup xs):=c2324 _ _ ctc;have tq:∀{b:Addr} {xs:List V},H24 b=some (.tup xs)->kp (lz::(R0++R1)) H24 b=some (.tup xs):=fun {b xs} e=>a4l (fun hb=>by
   rcases mK0.mp hb with rfl |hb
   ·have:=s2024 _ _ (a0n _ _ elz)
    rw[e] at this;cases this
   ·obtain⟨_,_,h⟩:=rA b hb
    have:=s2024 _ _ (a0n _ _ h)
    rw[e] at this;cases this) e
  have eq1':=tq (s24 _ _ (s23 _ _ eq1));have eq2':=tq (s24 _ _ eq2);have em':=y19 _ _ em19;have cv':=cv19.same y19;have hnl':=y19 _ _ hnl19;have efl':=y19 _ _ efl19;have ha':=y19.seq ha19;have w24:a0m (kp (lz::(R0++R1)) H24) H24:=b2F;have wz:kp (lz::(R0++R1)) H24 lz=none:=b1V List.mem_cons_self;have wY:∀{G:Hp},a0m H24 G->a0m (kp (lz::(R0++R1)) H24) (kp (R0++R1) G):=fun s b o e=>a4l (fun hb=>by rw[b1V (mL0 _ hb)] at e;cases e) (s _ _ (b2F _ _ e));generalize kp (lz::(R0++R1)) H24=W at *;have F1:∀(G:Hp) (t1:Addr),a0m W G->G t1=some (.tup [V.ref d1,.non])->Lq G 7 (.ref q1) (.ref t1):=fun G t1 sw e=>Lq.up (Lq.up (a3h (.inl (sw _ _ eq1')) (.inl e) (b0Y (b5q N hxs x60) (pf1'.same sw) (pd1'.same sw)) .non));have F2:∀(G:Hp) (t1:Addr),a0m W G->G t1=some (.tup [V.ref d0,.non])->Lq G 7 (.ref q2) (.ref t1):=fun G t1 sw e=>Lq.up (Lq.up (a3h (.inl (sw _ _ eq2')) (.inl e) (b0Y (b3F N hxs (sw _ _ tc24) (sw _ _ tb24)) (pf2'.same sw) (pd0'.same sw)) .non));clear pf1' pf2' pd0' pd1' tb24 tc24 eq1' eq2' tq c2324 c2021 y19 wN wS pd0 pd1 pf1 pf2 eq1 eq2 etc ctc ctb cdu cta v2;refine⟨_,rfl,_,rfl,du,_,1,_,rfl,rfl,SqL.of (w24 _ _ du24),a0U (j:=1) rfl,(by show 2<=sizeLine;decide),fun t1 ht1=>⟨_,_,rfl,F1 _ _ (w24.trans (a0m.upd ht1)) a0b,fun G1 g1=>⟨_,rfl,a2b ?_⟩⟩⟩;have s25:=(a0m.upd (o:=.tup [V.ref d1,.non]) ht1).trans g1;refine⟨_,rfl,_,rfl,du,_,0,_,rfl,rfl,SqL.of ((w24.trans s25) _ _ du24),a0U (j:=0) rfl,(by show 2<=sizeLine;decide),fun t2 ht2=>⟨_,_,rfl,F2 _ _ ((w24.trans s25).trans (a0m.upd ht2)) a0b,fun G2 g2=>⟨_,rfl,a2b ?_⟩⟩⟩
  replace s25:=s25.trans ((a0m.upd (o:=.tup [V.ref d0,.non]) ht2).trans g2)
  have s2026:=s2024.trans s25
  replace wY:=wY s25
  clear ht1 ht2 g1 g2 w24 s25;have pL0:PcL (R0++R1) (kp (R0++R1) G2) h0:=by
   obtain⟨_,rs,e,_⟩:=l0c x0 (.head _);have hn:h0∉R0++R1:=fun hb=>by
    obtain⟨row,okr,e2⟩:=rA h0 hb;exact a9V (a0n _ _ l0a) (a0n _ _ e) okr (a0n _ _ e2) rfl
   refine⟨_,_,a4l hn (s2026 _ _ (a0n _ _ l0a)),(okO N c eta bs).nd,by rw[lM0];exact l0b,by rw[lM0];exact(okO N c eta bs).le,hn,fun l hl=>?_⟩;obtain⟨nl',rs,e,hrs⟩:=l0c l hl;exact⟨nl',rs,a4l (nR (fun kv h=>by cases h) (a0n _ _ e)) (s2026 _ _ (a0n _ _ e)),fun r hr=>List.mem_append_left _ (hrs r hr)⟩
  have hn1:h1∉R0++R1:=fun hb=>by
   obtain⟨_,rs,e,_⟩:=l1c y0 (.head _);obtain⟨row,okr,e2⟩:=rA h1 hb;exact a9V (a0n _ _ l1a) (a0n _ _ e) okr (a0n _ _ e2) rfl
  have eh1:kp (R0++R1) G2 h1=some (.dK (zK ((pcN nm c xs bs).map (·.1)) (y0::lz::ls1))):=a4l hn1 (s2026 _ _ (a0n _ _ l1a));have elz':kp (R0++R1) G2 lz=some (.lst (rsz.map V.ref)):=a4l (nR (fun kv h=>by cases h) (a0n _ _ elz)) (s2026 _ _ (a0n _ _ elz));have pL1:PcL (R0++R1) (kp (R0++R1) G2) h1:=by
   refine⟨_,_,eh1,(okN (H:=H20) N c hxs x60 bs).nd,by rw[lM0];exact l1b,by rw[lM0];exact(okN (H:=H20) N c hxs x60 bs).le,hn1,fun l hl=>?_⟩;obtain⟨nl',rs,e,hrs⟩:=l1c l hl;exact⟨nl',rs,a4l (nR (fun kv h=>by cases h) (a0n _ _ e)) (s2026 _ _ (a0n _ _ e)),fun r hr=>List.mem_append_right _ (hrs r hr)⟩
  have ehd24:kp (R0++R1) G2 hd=some (.lst [V.ref h0,.ref h1]):=a4l (nR (fun kv h=>by cases h) ehd) (s2026 _ _ ehd);have rD:∀r∈R0++R1,∃kv:List (Key×V),G2 r=some (.dK kv):=fun r hr=>let ⟨_,_,e⟩:=rA r hr;⟨_,s2026 _ _ (a0n _ _ e)⟩
  have k24:a0m (kp (R0++R1) G2) G2:=b2F;have kin:∀r∈R0++R1,kp (R0++R1) G2 r=none:=fun r hr=>b1V hr;have h1nd:=(okN (H:=H20) N c hxs x60 bs).nd;generalize kp (R0++R1) G2=Y at *;generalize R0++R1=R at *;clear ph0 ph1 r0a r1a l0a l0b l0c l1a l1b l1c rA nR s2024 s2023 s2123 s24 s23 s22 s21 s20 s1921 s1922 ehd eta em19 cv19 ha19 hnl19 fo19 fn19 efl19 etl19 s2026 elz;refine⟨_,rfl,hd,rfl,⟨_,SqL.of (k24 _ _ ehd24)⟩,?_⟩;refine a2K (K:=K) (xs:=[V.ref h0,.ref h1]) (fun i σ G=>(∃u14 u15 u16,σ=[some (.ref a),some (.ref nl),some (.ref kd),some (.ref tl),some (.bl bs),some (.ref fl),some (.ref mv),some (.ref hd),some (.ref du),some (.ref q1),some (.ref q2),u14,u15,u16,none])/\a0m Y G/\∀r∈R,∃kv:List (Key×V),G r=some (.dK kv)) ⟨⟨_,_,_,rfl⟩,k24,rD⟩ (fun i σ G _ p=>SqL.of (p.2.1 _ _ ehd24)) ?_ ?_
  ·rintro i v σ G hv ⟨⟨u14,u15,u16,rfl⟩,sG,rG⟩
   obtain⟨p,hp,rfl⟩:∃p,PcL R Y p/\v=.ref p:=by
    match i,hv with
    |0,hv=>cases hv;exact⟨_,pL0,rfl⟩
    |1,hv=>cases hv;exact⟨_,pL1,rfl⟩
   obtain⟨zn,ls,a1,a2,a3,a4,a5,a6⟩:=hp;refine⟨p,_,sG _ _ a1,fun o=>?_⟩;have f1:(upd G p (.frz o (.dK (zK zn ls)))) p=some (.frz o (.dK (zK zn ls))):=a0b;have f2:∀b u,b≠p->Y b=some u->(upd G p (.frz o (.dK (zK zn ls)))) b=some u:=fun b u nb e=>(a0g nb).trans (sG _ _ e);have f3:∀r∈R,∃kv:List (Key×V),(upd G p (.frz o (.dK (zK zn ls)))) r=some (.dK kv):=fun r hr=>let ⟨kv,e⟩:=rG r hr;⟨kv,(a0g (show r≠p from fun z=>a5 (z▸hr))).trans e⟩
   generalize upd G p (.frz o (.dK (zK zn ls)))=G1 at *;refine⟨_,rfl,p,o,_,rfl,f1,a4S (a:=p) (o:=o) (kvs:=zK zn ls) (fun j σ G2=>(∃u15 u16,σ=[some (.ref a),some (.ref nl),some (.ref kd),some (.ref tl),some (.bl bs),some (.ref fl),some (.ref mv),some (.ref hd),some (.ref du),some (.ref q1),some (.ref q2),some (.ref p),u15,u16,none])/\G2 p=some (.frz o (.dK (zK zn ls)))/\(∀b u,b≠p->Y b=some u->G2 b=some u)/\∀r∈R,∃kv:List (Key×V),G2 r=some (.dK kv)) ⟨⟨_,_,rfl⟩,f1,f2,f3⟩ (fun j σ G2 _ p=>p.2.1) ?_ ?_⟩
   ·rintro j k v σ G2 hk ⟨⟨v15,v16,rfl⟩,g1,g2,g3⟩
    obtain⟨z,l',hz,hl',rfl,rfl⟩:=a9f hk;obtain⟨nlp,rs,el,hrs⟩:=a6 l' (gI0 hl');refine⟨_,rfl,_,rfl,p,_,rfl,.inl ⟨_,.inr z,.inr ⟨o,g1⟩,rfl,(a6h a2 hz hl').symm⟩,l',rfl,⟨_,SqL.of (g2 _ _ nlp el)⟩,?_⟩;refine a2K (K:=K) (xs:=rs.map V.ref) (fun i σ G3=>(∃u16,σ=[some (.ref a),some (.ref nl),some (.ref kd),some (.ref tl),some (.bl bs),some (.ref fl),some (.ref mv),some (.ref hd),some (.ref du),some (.ref q1),some (.ref q2),some (.ref p),some (.str z),u16,none])/\G3 p=some (.frz o (.dK (zK zn ls)))/\(∀b u,b≠p->Y b=some u->G3 b=some u)/\∀r∈R,∃kv:List (Key×V),G3 r=some (.dK kv)) ⟨⟨_,rfl⟩,g1,g2,g3⟩ (fun i σ G3 _ p=>SqL.of (p.2.2.1 _ _ nlp el)) ?_ ?_
    ·rintro i' v σ G3 hv' ⟨⟨v16',rfl⟩,i1,i2,i3⟩
     obtain⟨r,hr,rfl⟩:=mM0.mp (gI0 hv');have hrR:=hrs r hr;obtain⟨kv,ek⟩:=i3 r hrR;have rp:r≠p:=fun z=>a5 (z▸hrR);refine⟨_,rfl,.inr (.inr (.inl ⟨rfl,.inl ⟨_,ek⟩⟩)),r,_,rfl,rfl,ek,?_⟩;refine⟨⟨_,rfl⟩,(a0g rp.symm).trans i1,fun b u nb e=>(a0g fun z=>by rw[z,kin r hrR] at e;cases e).trans (i2 b u nb e),fun r' hr'=>?_⟩
     by_cases e:r'=r
     ·exact⟨[],by rw[e];exact a0b⟩
     ·obtain⟨kv',ek'⟩:=i3 r' hr'
      exact⟨kv',(a0g e).trans ek'⟩
    ·rintro σ G3 ⟨⟨v16',rfl⟩,i1,i2,i3⟩
     exact⟨⟨_,_,rfl⟩,i1,i2,i3⟩
   ·rintro σ G2 ⟨⟨v15,v16,rfl⟩,g1,g2,g3⟩
    refine⟨g1,⟨_,_,_,rfl⟩,fun b u e=>?_,fun r hr=>let ⟨kv,e⟩:=g3 r hr;⟨kv,(a0g (show r≠p from fun z=>a5 (z▸hr))).trans e⟩⟩
    by_cases hb:b=p
    ·rw[hb,a0b,<-a1,<-hb,e]
    ·exact(a0g hb).trans (g2 b u hb e)
  rintro σ G ⟨⟨u14,u15,u16,rfl⟩,sG,_⟩;have v1:a1K (zK ((pcN nm c xs bs).map (·.1)) (y0::lz::ls1)) (.inr (nm 1))=some (.ref lz):=a6h h1nd (j:=1) rfl rfl;refine⟨_,rfl,hd,_,1,_,rfl,rfl,SqL.of (sG _ _ ehd24),a0U (j:=1) rfl,_,rfl,nl,_,1,_,rfl,rfl,SqL.of ((wY.trans sG) _ _ hnl'),a1L nm (i:=1) (by decide),h1,_,rfl,.inl ⟨_,.inr (nm 1),.inl (sG _ _ eh1),rfl,v1.symm⟩,.inl ⟨rfl,_,SqL.of (sG _ _ elz')⟩,lz,_,rfl,rfl,sG _ _ elz',?_⟩
  replace sG:a0m W (upd G lz (.lst [])):=(wY.trans sG).put wz
  generalize upd G lz (.lst [])=G0 at *;clear k24 rD ehd24 pL0 pL1 kin eh1 elz' v1 wY wz;refine⟨_,rfl,_,rfl,du,_,1,_,rfl,rfl,SqL.of (sG _ _ du24),a0U (j:=1) rfl,(by show 2<=sizeLine;decide),fun t1 ht1=>⟨_,_,rfl,F1 _ _ (sG.trans (a0m.upd ht1)) a0b,fun G1 g1=>⟨_,rfl,a2b ?_⟩⟩⟩
  replace sG:=sG.trans ((a0m.upd (o:=.tup [V.ref d1,.non]) ht1).trans g1)
  refine⟨_,rfl,_,rfl,du,_,0,_,rfl,rfl,SqL.of (sG _ _ du24),a0U (j:=0) rfl,(by show 2<=sizeLine;decide),fun t2 ht2=>⟨_,_,rfl,F2 _ _ (sG.trans (a0m.upd ht2)) a0b,fun G2 g2=>⟨_,rfl,a2b ?_⟩⟩⟩
  replace sG:=sG.trans ((a0m.upd (o:=.tup [V.ref d0,.non]) ht2).trans g2)
  clear ht1 ht2 g1 g2 F1 F2;refine⟨_,rfl,mv,dx,_,rfl,sG _ _ em',a1Y _ _ (by decide +kernel) (by decide +kernel),_,rfl,fl,_,0,_,rfl,rfl,SqL.of (sG _ _ efl'),a0U (j:=0) rfl,_,rfl,du,_,0,_,rfl,rfl,SqL.of (sG _ _ du24),a0U (j:=0) rfl,_,_,_,_,rfl,rfl,_,rfl,a2j (by simp) ?_⟩;refine⟨_,rfl,mv,dx,_,rfl,sG _ _ em',a1Y _ _ (by decide +kernel) (by decide +kernel),_,rfl,fl,_,1,_,rfl,rfl,SqL.of (sG _ _ efl'),a0U (j:=1) rfl,_,rfl,du,_,1,_,rfl,rfl,SqL.of (sG _ _ du24),a0U (j:=1) rfl,_,_,_,_,rfl,rfl,_,rfl,a2j (by simp) ?_⟩;refine⟨_,rfl,a,ns,1,rfl,sG.seq ha',by decide,by decide,h63,fun G3 g3=>⟨_,_,rfl,rfl,pos rfl,?_⟩⟩
  replace sG:=sG.trans g3
  dsimp only
  generalize cel ns 1%9=ke at *;refine⟨_,rfl,mv,dx,_,rfl,sG _ _ em',a1Y _ _ (by decide +kernel) (by decide +kernel),_,rfl,_,_,rfl,_,rfl,mv,dx,_,rfl,sG _ _ em',a1Y _ _ (by decide +kernel) (by decide +kernel),_,rfl,_,_,rfl,(by show 2<=sizeLine;decide),fun k1 hk1=>?_⟩;have V1:=a0m.upd (o:=.tup [V.int ke,.int ke]) hk1;have ek1:=a0b (H:=G3) (a:=k1) (o:=.tup [V.int ke,.int ke]);generalize upd G3 k1 (.tup [V.int ke,.int ke])=G3' at *;refine⟨_,rfl,_,rfl,(by show 2<=sizeLine;decide),fun k2 hk2=>⟨_,_,rfl,a3h (n:=6) (.inl ((a0m.upd hk2) _ _ ek1)) (.inl a0b) .int .int,fun G4 g4=>⟨_,rfl,a2b ?_⟩⟩⟩
  replace sG:=sG.trans (V1.trans ((a0m.upd (o:=.tup [V.int ke,.int ke]) hk2).trans g4))
  refine⟨_,rfl,mv,dx,_,rfl,sG _ _ em',a1Y _ _ (by decide +kernel) (by decide +kernel),_,rfl,_,rfl,mv,dx,_,rfl,sG _ _ em',a1Y _ _ (by decide +kernel) (by decide +kernel),_,rfl,(by show 2<=sizeLine;decide),fun k3 hk3=>?_⟩;have V3:=a0m.upd (o:=.tup [V.bl true,.bl true]) hk3;have ek3:=a0b (H:=G4) (a:=k3) (o:=.tup [V.bl true,.bl true]);generalize upd G4 k3 (.tup [V.bl true,.bl true])=G5 at *;refine⟨(by show 2<=sizeLine;decide),fun k4 hk4=>⟨_,_,rfl,a3h (n:=6) (.inl ((a0m.upd hk4) _ _ ek3)) (.inl a0b) .bl .bl,fun G6 g6=>⟨_,rfl,a2b ?_⟩⟩⟩
  replace sG:=sG.trans (V3.trans ((a0m.upd (o:=.tup [V.bl true,.bl true]) hk4).trans g6))
  refine⟨_,rfl,mv,dx,_,rfl,sG _ _ em',a1Y _ _ (by decide +kernel) (by decide +kernel),mv,nm 2,nm 1,rfl,cv'.same sG,fun w1 G7 g7 ew1=>?_⟩;have sG7:=sG.trans g7;refine⟨_,rfl,nl,_,2,_,rfl,rfl,SqL.of (sG7 _ _ hnl'),a1L nm (i:=2) (by decide),_,rfl,nl,_,1,_,rfl,rfl,SqL.of (sG7 _ _ hnl'),a1L nm (i:=1) (by decide),(by show 3<=sizeLine;decide),fun w2 hw2=>⟨_,_,rfl,?_,fun G10 _=>q G10⟩⟩;have V10:=a0m.upd (o:=.tup [V.str "rows",.str (nm 2),.str (nm 1)]) hw2;have e10:=a0b (H:=G7) (a:=w2) (o:=.tup [V.str "rows",.str (nm 2),.str (nm 1)]);generalize upd G7 w2 (.tup [V.str "rows",.str (nm 2),.str (nm 1)])=G10 at *;refine .tup (.inl (V10 _ _ ew1)) (.inl e10) rfl fun i z w hz hw=>?_
  match i,hz,hw with
  |0,hz,hw=>cases hz;cases hw;exact .str
  |1,hz,hw=>cases hz;cases hw;exact .str
  |2,hz,hw=>cases hz;cases hw;exact .str
end
end My
namespace L2
open PySem PySem.Spec PyProof.Rows
def a2v (K:Fg0)(C:Addr)(m qual:Str)(st:Stmt):Prop:=∃f fd,Fun K m qual st f fd/\b2l K C m f
theorem a1q {K:Fg0}{C f:Addr}{m qual:Str}{st:Stmt}{oc:Value}{od an:Option Addr}{osl:Array (Option Value)}{kV doc pm cdv ct:Value}(a:PySem.W.findIn K (.ref C) m=some (some (.ref f)))(i:PySem.W.isFn K (.ref f)=true)
  (l:K.lookup f=some ⟨oc,od,.func (PySem.W.fnOf m qual (a0Y st) (a0J st) (a0f st) .none kV doc pm an cdv ct),osl⟩) (c:PySem.W.codeIn K cdv qual=true) (k:PySem.W.keepIn K (.ref f)=true):a2v K C m qual st:=
 ⟨f,_,a8x l c k,⟨a,i,k⟩⟩
def b2X (K:Fg0)(C:Addr)(m qual:Str)(st:Stmt)(ps:List Str):Prop:=∃f fd,b3j K m qual st f fd/\b2l K C m f/\a2i K fd ps []/\a2i K fd ps [.none]
theorem a6U {K:Fg0}{C f:Addr}{m qual:Str}{st:Stmt}{oc:Value}{od an:Option Addr}{osl:Array (Option Value)}{dV kV doc pm cdv ct:Value}(a:PySem.W.findIn K (.ref C) m=some (some (.ref f)))(i:PySem.W.isFn K (.ref f)=true)
  (l:K.lookup f=some ⟨oc,od,.func (PySem.W.fnOf m qual (a0Y st) (a0J st) (a0f st) dV kV doc pm an cdv ct),osl⟩) (c:PySem.W.codeIn K cdv qual=true) (k:PySem.W.keepIn K (.ref f)=true)
  (w4:∀(u v x y:Value) (S:Setting),PySem.W.peek K S (bindArgs (PySem.W.fnOf m qual (a0Y st) (a0J st) (a0f st) dV kV doc pm an cdv ct) ⟨[u,v,x,y],[]⟩)=some ([("self",u),("form",v),("piece",x),("rest",y)]:List (Str×Value)))
  (w3:∀(u v x:Value) (S:Setting),PySem.W.peek K S (bindArgs (PySem.W.fnOf m qual (a0Y st) (a0J st) (a0f st) dV kV doc pm an cdv ct) ⟨[u,v,x],[]⟩)=some ([("self",u),("form",v),("piece",x),("rest",.none)]:List (Str×Value))):b2X K C m qual st ["self","form","piece","rest"]:=
 ⟨f,_,b2p (st:=st) l c k,⟨a,i,k⟩,(fun s us kin hl=>by
  have h1:us.length=4:=by simpa using hl
  match us,h1 with
  |[u,v,x,y],_=>exact PySem.W.kp_binds kin (w4 u v x y)),(fun s us kin hl=>by
  have h1:us.length=3:=by simpa using hl
  match us,h1 with
  |[u,v,x],_=>exact PySem.W.kp_binds kin (w3 u v x))⟩
def a3r (K:Fg0)(x:Str)(st:Stmt)(P:Addr):Prop:=∃(f c:Addr) (oc:Value) (od:Option Addr) (kV doc pm:Value) (an:Option Addr) (ct:Value) (osl:Array (Option Value)),
 PySem.W.nsIn K mainGlobals x=some (some (.ref f))/\K.lookup f=some ⟨oc,od,.func (PySem.W.fnOf x x (a0Y st) (a0J st) (a0f st) .none kV doc pm an (.ref c) ct),osl⟩/\PySem.W.codeIn K (.ref c) x=true/\PySem.W.keepIn K (.ref f)=true/\PySem.W.codeHdIn K c P=true/\K.lookup P=none
theorem a8O {K:Fg0}{x:Str}{st:Stmt}{P f c:Addr}{oc:Value}{od an:Option Addr}{osl:Array (Option Value)}{kV doc pm ct:Value}(a:PySem.W.nsIn K mainGlobals x=some (some (.ref f)))
  (l:K.lookup f=some ⟨oc,od,.func (PySem.W.fnOf x x (a0Y st) (a0J st) (a0f st) .none kV doc pm an (.ref c) ct),osl⟩) (cd:PySem.W.codeIn K (.ref c) x=true) (k:PySem.W.keepIn K (.ref f)=true) (t:PySem.W.codeHdIn K c P=true) (n:K.lookup P=none):a3r K x st P:=
 ⟨f,c,oc,od,kV,doc,pm,an,ct,osl,a,l,cd,k,t,n⟩
theorem a3r.get {K:Fg0}{h:Heap}{mg:Str->Option Value}{x:Str}{st:Stmt}{P:Addr}(d:a3r K x st P)(X:K.In h)(G:h.Ns mainGlobals mg):∃f fd c,b3h K x x st f fd c/\mg x=some (.ref f)/\PySem.W.codeHdIn K c P=true:=by
 obtain⟨f,c,oc,od,kV,doc,pm,an,ct,osl,a,l,cd,k,t,n⟩:=d;exact⟨f,_,c,⟨⟨oc,od,kV,doc,pm,an,ct,osl,rfl,l,cd⟩,k⟩,PySem.W.mg_of X G a,t⟩
theorem a3r.tab {K:Fg0}{x:Str}{st:Stmt}{P:Addr}(d:a3r K x st P):(∃c,PySem.W.codeHdIn K c P=true)/\K.lookup P=none:=by
 obtain⟨f,c,oc,od,kV,doc,pm,an,ct,osl,a,l,cd,k,t,n⟩:=d;exact⟨⟨c,t⟩,n⟩
end L2
namespace My
open PySem L2
theorem a4E {P:Program}{w:World}{K:Fg0}{mg:Str->Option Value}{base:Heap}{C:Addr}{m q:Str}{st:Stmt}{ps:List Str}{k:Nat}{sp:Sp}(h:a2v K C m q st)(b:∀{f fd},Fun K m q st f fd->a2i K fd ps [])(g:∀{f fd},Fun K m q st f fd->a0F P w K mg base CX0 k f fd ps sp):Me P w K mg base C m ps [] k sp:=let ⟨f,fd,F,M⟩:=h;⟨f,fd,M,g F,b F⟩
theorem all_mk {l:PySem.W.OpenLaw}{w:World}{K:Fg0}{h:Heap}{mg:Str->Option Value}{fa CC sA PF aR aT:Addr}{tL tN tP tw tm ts:Tok}{od:Option Addr}{nK:Nat}{sl:Array (Option Value)}(X:K.In h)(G:h.Ns mainGlobals mg)(hfa:mg "law"=some (.ref fa))
  (dF:a3r K "form_of" (top 18) PF)
  (gL:PySem.W.nsIn K mainGlobals "LETTERS"=some (some (.str "abcdefghijklmnopqrstuvwxyz" tL)))
  (gN:PySem.W.nsIn K mainGlobals "LONGEST_NAME"=some (some (.int 8 tN)))
  (gP:PySem.W.nsIn K mainGlobals "PERCENT"=some (some (.int 37 tP)))
  (gS:PySem.W.nsIn K mainGlobals "SIDE_SORTS"=some (some (.ref sA)))
  (lS:K.lookup sA=some ⟨.type "tuple",od,.seq #[.str "twin" tw,.str "many" tm,.str "some" ts] nK,sl⟩)
  (aM:PySem.W.nsIn K mainGlobals "Rows"=some (some (.ref CC)))
  (pg:PySem.W.plainGet K CC Str.empty=true)
  (hd:PySem.W.hasDictIn K CC=true)
  (po:PySem.W.plainOver K CC=true)
  (psa:PySem.W.findIn K (.ref CC) "__setattr__"=some (some (.builtin "object.__setattr__")))
  (mk:PySem.W.makesIn K CC=true)
  (kc:PySem.W.keepIn K (.ref CC)=true)
  (n0:PySem.W.findIn K (.ref CC) "side"=some none)
  (n1:PySem.W.findIn K (.ref CC) "column"=some none)
  (gR:PySem.W.nsIn K mainGlobals "SORT_OF_ROWS"=some (some (.ref aR)))
  (kR:b2Y K aR (dts b2r))
  (gT:PySem.W.nsIn K mainGlobals "SORT_OF_TUPLES"=some (some (.ref aT)))
  (kT:b2Y K aT (dts b3i))
  (h0:a2v K CC "__init__" "Rows.__init__" (a0X (top 39) 0))
  (h1:a2v K CC "after" "Rows.after" (a0X (top 39) 1))
  (h2:a2v K CC "before" "Rows.before" (a0X (top 39) 2))
  (h3:a2v K CC "forth" "Rows.forth" (a0X (top 39) 3))
  (h4:a2v K CC "back" "Rows.back" (a0X (top 39) 4))
  (h5:a2v K CC "words" "Rows.words" (a0X (top 39) 5))
  (m6:a2v K CC "key_forth" "Move.key_forth" (mv 6))
  (m7:a2v K CC "key_back" "Move.key_back" (mv 7))
  (m8:a2v K CC "keeps_forth" "Move.keeps_forth" (mv 8))
  (m9:a2v K CC "keeps_back" "Move.keeps_back" (mv 9))
  (xl:b2X K CC "left" "Move.left" (mv 4) ["self","form","piece","rest"])
  (xr:b2X K CC "right" "Move.right" (mv 5) ["self","form","piece","rest"])
  (d10:a1e K "is_whole" (top 10))
  (d11:a1e K "is_name" (top 11))
  (d12:a1e K "is_sign" (top 12))
  (d13:a1e K "is_plain" (top 13))
  (d14:a1e K "is_plain_pair" (top 14))
  (d15:a1e K "is_kind" (top 15))
  (d19:a1e K "ask_sorts" (top 19))
  (d20:a1e K "ask_names" (top 20))
  (d21:a1e K "columns_made" (top 21))
  (d22:a1e K "tables_of" (top 22))
  (d23:a1e K "head_of" (top 23))
  (d24:a1e K "sort_of" (top 24))
  (d25:a1e K "columns_of" (top 25))
  (d26:a1e K "table_in" (top 26))
  (d27:a1e K "parts_of" (top 27))
  (d28:a1e K "with_columns" (top 28))
  (d29:a1e K "with_table" (top 29))
  (d30:a1e K "without_table" (top 30))
  (d31:a1e K "copied" (top 31))
  (d34:a1e K "ask_fit" (top 34))
  (d35:a1e K "columns_in" (top 35))
  (d40:a1e K "ask_new_side" (top 40))
  (d42:a1e K "_law_cell" (top 42))
  (d43:a1e K "_law_names" (top 43))
  (d44:a1e K "_law_alike" (top 44))
  (d45:a1e K "_law_form" (top 45))
  (d46:a1e K "_law_text" (top 46))
  (d47:a1e K "_law_kind" (top 47))
  (d48:a1e K "_law_value" (top 48))
  (d49:a1e K "_law_told" (top 49))
  (d50:a1e K "_law_columns" (top 50))
  (d51:a1e K "_law_row" (top 51))
  (d52:a1e K "_law_pieces" (top 52))
  (d53:a1e K "_law_forms" (top 53))
  (d54:a1e K "law" (top 54))
  (zb:BlK K) (zz:PySem.W.nsIn K mainGlobals "zip"=some none) (zm:PySem.W.nsIn K mainGlobals "max"=some none) :
  ∃fd:FuncData,(∀(s:Shared) (v:Value),BindsTo s fd ⟨[v],[]⟩ [("_law_script",v)])/\∀base:Heap,K.In base->base.Ns mainGlobals mg->L2.a5A base mg->a0F l.prog w K mg base CX0 9 fa fd ["_law_script"] (b4J K PF):=by
 have B:Bl mg:=zb.bl X G;have hz:mg "zip"=none:=PySem.W.mg_none_of X G zz;have hMx:mg "max"=none:=PySem.W.mg_none_of X G zm;have mL:=PySem.W.mg_of X G gL;have mN:=PySem.W.mg_of X G gN;have mP:=PySem.W.mg_of X G gP;have mS:=PySem.W.mg_of X G gS;have qS:∀H,SqT K H sA (a4o.map V.str):=fun H=>.inr ⟨_,_,_,lS,rfl,rfl,(by show 3<=sizeLine;decide),.cons ⟨tw,rfl⟩ (.cons ⟨tm,rfl⟩ (.cons ⟨ts,rfl⟩ .nil))⟩;have T:ClC K CC:=⟨⟨pg,hd,po,psa⟩,n0,n1⟩;obtain⟨g0,gd0,F0,M0⟩:=h0;obtain⟨gl,gdl,Fl,Ml,bl0,bl1⟩:=xl;obtain⟨gr,gdr,Fr,Mr,br0,br1⟩:=xr;obtain⟨f10,fd10,D10⟩:=d10.df X G;obtain⟨f11,fd11,D11⟩:=d11.df X G;obtain⟨f12,fd12,D12⟩:=d12.df X G;obtain⟨f13,fd13,D13⟩:=d13.df X G;obtain⟨f14,fd14,D14⟩:=d14.df X G;obtain⟨f15,fd15,D15⟩:=d15.df X G;obtain⟨f19,fd19,D19⟩:=d19.df X G;obtain⟨f20,fd20,D20⟩:=d20.df X G;obtain⟨f21,fd21,D21⟩:=d21.df X G;obtain⟨f22,fd22,D22⟩:=d22.df X G;obtain⟨f23,fd23,D23⟩:=d23.df X G;obtain⟨f24,fd24,D24⟩:=d24.df X G;obtain⟨f25,fd25,D25⟩:=d25.df X G;obtain⟨f26,fd26,D26⟩:=d26.df X G;obtain⟨f27,fd27,D27⟩:=d27.df X G;obtain⟨f28,fd28,D28⟩:=d28.df X G;obtain⟨f29,fd29,D29⟩:=d29.df X G;obtain⟨f30,fd30,D30⟩:=d30.df X G;obtain⟨f31,fd31,D31⟩:=d31.df X G;obtain⟨f34,fd34,D34⟩:=d34.df X G;obtain⟨f35,fd35,D35⟩:=d35.df X G;obtain⟨f40,fd40,D40⟩:=d40.df X G;obtain⟨f42,fd42,D42⟩:=d42.df X G;obtain⟨f43,fd43,D43⟩:=d43.df X G;obtain⟨f44,fd44,D44⟩:=d44.df X G;obtain⟨f45,fd45,D45⟩:=d45.df X G;obtain⟨f46,fd46,D46⟩:=d46.df X G;obtain⟨f47,fd47,D47⟩:=d47.df X G;obtain⟨f48,fd48,D48⟩:=d48.df X G;obtain⟨f49,fd49,D49⟩:=d49.df X G;obtain⟨f50,fd50,D50⟩:=d50.df X G;obtain⟨f51,fd51,D51⟩:=d51.df X G;obtain⟨f52,fd52,D52⟩:=d52.df X G;obtain⟨f53,fd53,D53⟩:=d53.df X G;obtain⟨f18,fd18,c18,F18,m18,t18⟩:=dF.get X G;have D18:Df K mg "form_of" (top 18) f18 fd18:=⟨F18.fn,m18⟩;obtain⟨f,oc,od,kV,doc,pm,an,cdv,ct,osl,a,lk,c,k⟩:=d54;have e:=hfa.symm.trans (PySem.W.mg_of X G a);cases e;refine⟨PySem.W.fnOf "law" "law" (a0Y (top 54)) (a0J (top 54)) (a0f (top 54)) .none kV doc pm an cdv ct,fun s v=>.of_eq rfl,fun base _ _ hB=>?_⟩;have GN:a0F l.prog w K mg base CX0 1 f11 fd11 ["thing"] (a5t K):=b2c D11.fn B mL ⟨tL,rfl⟩ mN ⟨tN,rfl⟩;have GP:a0F l.prog w K mg base CX0 3 f13 fd13 ["thing"] a5j:=b0r D13.fn B D10 D12 D14 mP ⟨tP,rfl⟩;have GK:a0F l.prog w K mg base CX0 4 f15 fd15 ["thing"] a8A:=b2g D15.fn B D13 GP;have GF:a0F l.prog w K mg base CX0 6 f18 fd18 ["size","tables"] (a6c PF):=b2e F18 B t18 hB D10 (a7H D10.fn B) D19 (b2B D19.fn mS qS) D20 (b2n D20.fn D11 GN) D21 (b2f D21.fn B D11 GN D15 GK);have GPt:a0F l.prog w K mg base CX0 1 f27 fd27 ["form"] a3T:=b1f D27.fn B;have G1:a0F l.prog w K mg base CX0 1 f26 fd26 ["form","table"] a3l:=a5a D26.fn;have GWT:a0F l.prog w K mg base CX0 7 f29 fd29 ["form","name","sort","columns"] (a6J PF):=b0y D29.fn D18 GF D27 GPt;have GWC:a0F l.prog w K mg base CX0 7 f28 fd28 ["form","table","columns"] (a4W PF):=b0z D28.fn D18 GF D27 GPt D26 G1;have GWO:a0F l.prog w K mg base CX0 7 f30 fd30 ["form","name"] (a3E PF):=a7J D30.fn D18 GF D27 GPt D26 G1;have GCo:a0F l.prog w K mg base CX0 2 f25 fd25 ["form","table"] a3i:=a6b D25.fn B D26;have M:Fms l.prog w K mg base PF f40 f23 f25 f34 f28 f29 fd40 fd23 fd25 fd34 fd28 fd29:=⟨D40,a8h D40.fn D34 D11 GN D22,D23,D25,GCo,D34,D28,GWC,D29,GWT⟩;have M':Fmb l.prog w K mg base PF f35 f24 f30 f13 fd35 fd24 fd30 fd13:=⟨D35,a9D D35.fn B D34 D22 D25 D26,D24,a8r D24.fn D26,D30,GWO,D13,GP⟩;exact b4c (a8x lk c k) B hz hMx T D42 D43 D44 D45 D46 D47 D48 D49 D50 D51 D52 D53 ⟨mk,M0.at_,M0.fn,kc⟩ F0 (PySem.W.mg_of X G aM)
  (a4E h1 (fun F=>F.b2 "self" "form" (by intros;rfl)) (fun F=>b0s F T M (PySem.W.mg_of X G gR) kR)) (a4E h2 (fun F=>F.b2 "self" "form" (by intros;rfl)) (fun F=>a8t F B T M' D23 D25 GCo D34 D28 GWC (PySem.W.mg_of X G gT) kT))
  (a4E h3 (fun F=>F.b4 "self" "form" "piece" "rest" (by intros;rfl)) (fun F=>b0D F B T D31 D23)) (a4E h4 (fun F=>F.b4 "self" "form" "piece" "rest" (by intros;rfl)) (fun F=>b2L F B T D31 D23))
  ⟨_,_,Ml,b2G Fl,bl1⟩ ⟨_,_,Mr,b0j Fr,br0⟩ (a4E m6 (fun F=>F.b2 "self" "key" (by intros;rfl)) (fun F=>b4V F)) (a4E m7 (fun F=>F.b2 "self" "key" (by intros;rfl)) (fun F=>b5R F)) (a4E m8 (fun F=>F.b1 "self" (by intros;rfl)) (fun F=>b3P F)) (a4E m9 (fun F=>F.b1 "self" (by intros;rfl)) (fun F=>b4a F)) (a4E h5 (fun F=>F.b1 "self" (by intros;rfl)) (fun F=>a8F F T))
theorem b5f {l:PySem.W.OpenLaw}{q:Program}{loose:List Str}{XP:(Str->Option Value)->Heap->Prop}{d:DefRec}{K:Params->Fg0}{as:List Addr}{e:∀P,as=(K P).map (·.1)}{PF:Addr}(hk:a1r 9 callerA)(hn:l.most=some 63)(hdf:d.params.defaults=[])
  (DF:∀w:World,a3r (K w.params) "form_of" (top 18) PF)
  (F:∀(w:World) (mg:Str->Option Value) (fa:Addr) (h:Heap),(K w.params).In h->h.Ns mainGlobals mg->mg d.name=some (.ref fa)->a3r (K w.params) "form_of" (top 18) PF →
   ∃fd:FuncData,(∀(s:Shared) (u:Value),BindsTo s fd ⟨[u],[]⟩ [("_law_script",u)])/\∀base:Heap,(K w.params).In base->base.Ns mainGlobals mg->L2.a5A base mg->a0F l.prog w (K w.params) mg base CX0 9 fa fd ["_law_script"] (b4J (K w.params) PF)) :
  PySem.W.WalkO q loose XP (PySem.W.kmHook K as e [PF]).says l.row.toRowW d [] (fun f vs=>PySem.call f vs):=by
 refine L2.b0S (n:=63) (k:=9) (x:="_law_script") (CX:=fun _=>CX0) (sp:=fun w=>b4J (K w.params) PF) (tx:=fun _=>[PF]) hn (by decide) hdf hk (fun w h Y=>PySem.W.km_in_of Y) (fun w h Y b hb=>?_) (fun w mg fa h X G m=>F w mg fa h X G m (DF w)) (fun w H a ns hl hO hS=>?_) fun _ _ _ _ _ z=>z
 ·have g:=PySem.W.km_tabs_of Y b hb
  have e:b=PF:=by simpa using hb
  subst e;obtain⟨⟨c,t⟩,n⟩:=(DF w).tab;exact L2.b3v (PySem.W.km_in_of Y) g t n
 ·exact⟨a,ns,rfl,hS,hl,hO.2 PF (by simp),fun _=>rfl⟩
end My
namespace PySem.W.Fast
def tw10088083579641652637:Unit:=()
def tw11250316434038974392:Unit:=()
def tw11934574696212907510:Unit:=()
def tw9875148149195341707:Unit:=()
def tw664836341189724573:Unit:=()
def tw4805959879985182831:Unit:=()
def tw8610608580458735606:Unit:=()
def tw3180107918797815933:Unit:=()
def tw6306389260847569999:Unit:=()
def tw2584852596657937059:Unit:=()
def tw18358036648247358067:Unit:=()
def tw2942676947921072570:Unit:=()
def tw2307698544097139907:Unit:=()
def tw6183809375463205641:Unit:=()
def tw13679944209047276298:Unit:=()
def tw12893054287643682483:Unit:=()
def tw9421812404304717589:Unit:=()
def tw7128265244052838149:Unit:=()
def tw10788988434035355833:Unit:=()
def tw10694222770921605369:Unit:=()
def tw17758610582686686365:Unit:=()
def tw12250939667867221278:Unit:=()
def tw13602390223792465011:Unit:=()
def tw17255266189006652460:Unit:=()
def tw11998652564658490420:Unit:=()
def tw16888322904554890802:Unit:=()
def tw1341768301856814147:Unit:=()
def tw14429309118120760747:Unit:=()
def tw5630743582701996009:Unit:=()
def tw3873971449728502354:Unit:=()
def tw4686532962636316706:Unit:=()
def tw854107132449883187:Unit:=()
def tw4700913262401251763:Unit:=()
def tw17031210010061433633:Unit:=()
def tw13368103345352675073:Unit:=()
def tw12688086859673277850:Unit:=()
def tw5600431690311425735:Unit:=()
def tw1897553029053781597:Unit:=()
def tw10116837261597789923:Unit:=()
def tw2934201884733105173:Unit:=()
def tw1991877751368648961:Unit:=()
def tw1364806547788285522:Unit:=()
def tw6191471507095446297:Unit:=()
def tw9549675487855703357:Unit:=()
def tw15762599943043247261:Unit:=()
def tw1491751372327009802:Unit:=()
def tw10442266197869262943:Unit:=()
def tw5966285230475214848:Unit:=()
def tw11552829068505260368:Unit:=()
def tw14415557927531623237:Unit:=()
def tw4381003700243995018:Unit:=()
def tw4572501205032131990:Unit:=()
def tw7873708455793102104:Unit:=()
def tw4957566814958961630:Unit:=()
def tw5354701184346079959:Unit:=()
def tw3146922022596102406:Unit:=()
def tw3127527054416624350:Unit:=()
def tw14475251684389747459:Unit:=()
def tw6662597416976768792:Unit:=()
def tw7367141879356811725:Unit:=()
def tw9244588322056485217:Unit:=()
def tw4046647944976728653:Unit:=()
def tw15768045166248192100:Unit:=()
def tw1644146972279564746:Unit:=()
def tw17074256265949905394:Unit:=()
def tw3003259540924740504:Unit:=()
def tw17006087636026243245:Unit:=()
def tw12542970380713758974:Unit:=()
def tw15896486221038857971:Unit:=()
def tw12714076672865984020:Unit:=()
def tw10081020857340235092:Unit:=()
def tw11744373571720382034:Unit:=()
def tw1089879177876657599:Unit:=()
def tw3523470936030125369:Unit:=()
def tw10262062736883525625:Unit:=()
def tw9362503378783225245:Unit:=()
def tw9857020115821585123:Unit:=()
def tw10413505493980386089:Unit:=()
def tw15052525780716097747:Unit:=()
def tw17781972796669924686:Unit:=()
def tw9760313756079516639:Unit:=()
def tw5290711473982795678:Unit:=()
def tw5338563840857888641:Unit:=()
def tw12688999614837101675:Unit:=()
def tw12399711649312981583:Unit:=()
def tw13898826881861984332:Unit:=()
def tw13553796205976384438:Unit:=()
def tw8843971782010489370:Unit:=()
def tw4509294694022659236:Unit:=()
def tw9796927902511852790:Unit:=()
end PySem.W.Fast
open PySem PySem.W PyProof.Rows
set_option maxRecDepth 100000 in
set_option maxHeartbeats 0 in
theorem PySem.Challenge.cw_halfmoved_k34_rows_of_a_tuple_holds : PySem.Challenge.rw_halfmoved_k34_rows_of_a_tuple.Holds := by
 w_on;o_law;k_head;(case hw=>w_witness2)
 k_fill
 refine' My.b5f (l:=PySem.Challenge.rw_halfmoved_k34_rows_of_a_tuple) ⟨rfl,by decide,by decide⟩ rfl rfl ?DF ?F
 case DF=>
  intro w;refine' L2.a8O ?a ?l ?c ?k ?t ?n;(case a=>k_is);(case l=>k_is);(case c=>k_is);(case k=>k_is);(case t=>rfl);(case n=>rfl)
 case F=>
  intro w mg fa h KX G hmg dF;refine' My.all_mk KX G hmg dF ?gL ?gN ?gP ?gS ?lS ?aM ?pg ?hd ?po ?psa ?mk ?kc ?n0 ?n1 ?gR ?kR ?gT ?kT ?h0 ?h1 ?h2 ?h3 ?h4 ?h5 ?m6 ?m7 ?m8 ?m9 ?xl ?xr ?d10 ?d11 ?d12 ?d13 ?d14 ?d15 ?d19 ?d20 ?d21 ?d22 ?d23 ?d24 ?d25 ?d26 ?d27 ?d28 ?d29 ?d30 ?d31 ?d34 ?d35 ?d40 ?d42 ?d43 ?d44 ?d45 ?d46 ?d47 ?d48 ?d49 ?d50 ?d51 ?d52 ?d53 ?d54 ?zb ?zz ?zm
  (case gL=>k_is)
  (case gN=>k_is)
  (case gP=>k_is)
  (case gS=>k_is)
  (case lS=>k_is)
  (case aM=>k_is)
  (case pg=>k_is)
  (case hd=>k_is)
  (case po=>k_is)
  (case psa=>k_is)
  (case mk=>k_is)
  (case kc=>k_is)
  (case n0=>k_is)
  (case n1=>k_is)
  (case gR=>k_is)
  (case kR=>rfl)
  (case gT=>k_is)
  (case kT=>rfl)
  (case h0=>refine' L2.a1q ?a ?i ?l ?c ?k;(case a=>k_is);(case i=>k_is);(case l=>k_is);(case c=>k_is);(case k=>k_is))
  (case h1=>refine' L2.a1q ?a ?i ?l ?c ?k;(case a=>k_is);(case i=>k_is);(case l=>k_is);(case c=>k_is);(case k=>k_is))
  (case h2=>refine' L2.a1q ?a ?i ?l ?c ?k;(case a=>k_is);(case i=>k_is);(case l=>k_is);(case c=>k_is);(case k=>k_is))
  (case h3=>refine' L2.a1q ?a ?i ?l ?c ?k;(case a=>k_is);(case i=>k_is);(case l=>k_is);(case c=>k_is);(case k=>k_is))
  (case h4=>refine' L2.a1q ?a ?i ?l ?c ?k;(case a=>k_is);(case i=>k_is);(case l=>k_is);(case c=>k_is);(case k=>k_is))
  (case h5=>refine' L2.a1q ?a ?i ?l ?c ?k;(case a=>k_is);(case i=>k_is);(case l=>k_is);(case c=>k_is);(case k=>k_is))
  (case m6=>refine' L2.a1q ?a ?i ?l ?c ?k;(case a=>k_is);(case i=>k_is);(case l=>k_is);(case c=>k_is);(case k=>k_is))
  (case m7=>refine' L2.a1q ?a ?i ?l ?c ?k;(case a=>k_is);(case i=>k_is);(case l=>k_is);(case c=>k_is);(case k=>k_is))
  (case m8=>refine' L2.a1q ?a ?i ?l ?c ?k;(case a=>k_is);(case i=>k_is);(case l=>k_is);(case c=>k_is);(case k=>k_is))
  (case m9=>refine' L2.a1q ?a ?i ?l ?c ?k;(case a=>k_is);(case i=>k_is);(case l=>k_is);(case c=>k_is);(case k=>k_is))
  (case xl=>refine' L2.a6U ?a ?i ?l ?c ?k ?w4 ?w3;(case a=>k_is);(case i=>k_is);(case l=>k_is);(case c=>k_is);(case k=>k_is);(case w4=>intro u v x y S;rfl);(case w3=>intro u v x S;rfl))
  (case xr=>refine' L2.a6U ?a ?i ?l ?c ?k ?w4 ?w3;(case a=>k_is);(case i=>k_is);(case l=>k_is);(case c=>k_is);(case k=>k_is);(case w4=>intro u v x y S;rfl);(case w3=>intro u v x S;rfl))
  (case zb=>refine' My.BlK.mk ?b0 ?b1 ?b2 ?b3 ?b4 ?b5 ?b6 ?b7 ?b8 ?b9 ?b10 ?b11 ?b12 ?b13 ?b14 ?b15;(case b0=>k_is);(case b1=>k_is);(case b2=>k_is);(case b3=>k_is);(case b4=>k_is);(case b5=>k_is);(case b6=>k_is);(case b7=>k_is);(case b8=>k_is);(case b9=>k_is);(case b10=>k_is);(case b11=>k_is);(case b12=>k_is);(case b13=>k_is);(case b14=>k_is);(case b15=>k_is))
  (case zz=>k_is)
  (case zm=>k_is)
  all_goals (refine' L2.b0t ?a ?l ?c ?k;(case a=>k_is);(case l=>k_is);(case c=>k_is);(case k=>k_is))
#print axioms PySem.Challenge.cw_halfmoved_k34_rows_of_a_tuple_holds
