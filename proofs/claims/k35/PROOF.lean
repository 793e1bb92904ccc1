import PyProof.Rows.All
import Wide.All
import OpenK.AllK
import Wide.FinOn
import Lean
import PyProof.EqAt
import PyProof.EqKinds
import PyProof.TupleCall
import PyProof.StrBlock
import PyProof.StrBlockL
import PyProof.Rows.StrJoin2
import KE.KIntText
import PyProof.StrCalls6
import PyProof.StationsW
import PyProof.RulesTry
import PyProof.InstStoreFacts
import PyProof.ExcBaseAll.ValueError
import PyProof.ExcAttrAll.ValueError
import PyProof.NsDelKeeps
import KE.KTabLook
import PyProof.MeetsStr
import PyProof.ZipIter
import PyProof.TupleIter
import KE.KDictSum
import PyProof.EnumMake
import PyProof.EnumStmt
import KE.KSortTup
import PyProof.NeKinds
import PyProof.AttrMissSeq
import KE.KDictOf
import KE.KLam
import KE.KNestM
import KE.KSortKey
import PyProof.ListRange
import KE.KPar
import KE.KItemsList
import PyProof.DictValues
import PyProof.FactsAll.dict_valueiterator_1
import KE.KDictList
import PyProof.DictUpdate
import PyProof.FactsAll.set_2
import PyProof.Rows.SetFrom
import PyProof.AttrMissHeap
import PyProof.DictWalks
import PyProof.StrLawsTight
import PyProof.MeetsStr2
import PySem.Challenge.RW_halfmoved_k35_columns_cleaved
set_option Elab.async false
set_option linter.all false
set_option maxRecDepth 100000
set_option maxHeartbeats 4000000
namespace L0
open PySem PySem.Spec PyProof.Rows
theorem gE0:type_of% @List.getElem?_eq_getElem.{0}:=@List.getElem?_eq_getElem.{0}
theorem lM0:type_of% @List.length_map.{0,0}:=@List.length_map.{0,0}
theorem gM0:type_of% @List.getElem?_map.{0,0}:=@List.getElem?_map.{0,0}
theorem hP0:type_of% @PySem.Heap.get?_push_of_some:=@PySem.Heap.get?_push_of_some
theorem wB0:type_of% @wpAny_bind:=@wpAny_bind
theorem wP0:type_of% @wpAny_pure:=@wpAny_pure
theorem lA0:type_of% @List.length_append.{0}:=@List.length_append.{0}
theorem gI0:type_of% @List.mem_of_getElem?.{0}:=@List.mem_of_getElem?.{0}
theorem gS0:type_of% @List.getElem?_eq_some_iff.{0}:=@List.getElem?_eq_some_iff.{0}
theorem mM0:type_of% @List.mem_map.{0,0}:=@List.mem_map.{0,0}
theorem mC0:type_of% @List.map_map.{0,0,0}:=@List.map_map.{0,0,0}
theorem mA0:type_of% @List.map_append.{0,0}:=@List.map_append.{0,0}
theorem nR0:type_of% @Nat.le_refl:=@Nat.le_refl
theorem mS0:type_of% @List.mem_singleton.{0}:=@List.mem_singleton.{0}
theorem hL0:type_of% @PySem.Heap.lt_size:=@PySem.Heap.lt_size
theorem hS0:type_of% @PySem.Heap.get?_push_size:=@PySem.Heap.get?_push_size
theorem aL0:type_of% @Array.length_toList.{0}:=@Array.length_toList.{0}
theorem nL0:type_of% @Nat.ne_of_lt:=@Nat.ne_of_lt
theorem mN0:type_of% @List.map_cons.{0,0}:=@List.map_cons.{0,0}
theorem bF0:type_of% @Bool.false_ne_true:=@Bool.false_ne_true
theorem mB0:type_of% @List.mem_append.{0}:=@List.mem_append.{0}
theorem mK0:type_of% @List.mem_cons.{0}:=@List.mem_cons.{0}
theorem mL0:type_of% @List.mem_cons_of_mem.{0}:=@List.mem_cons_of_mem.{0}
theorem gL0:type_of% @List.getElem?_append_left.{0}:=@List.getElem?_append_left.{0}
theorem gR0:type_of% @List.getElem?_append_right.{0}:=@List.getElem?_append_right.{0}
theorem gQ0:type_of% @List.getElem_mem.{0}:=@List.getElem_mem.{0}
theorem mF0:type_of% @List.mem_filter.{0}:=@List.mem_filter.{0}
theorem dT0:type_of% @decide_eq_true:=@decide_eq_true
theorem dF0:type_of% @decide_eq_false:=@decide_eq_false
theorem zL0:type_of% @Nat.zero_le:=@Nat.zero_le
abbrev Vs0:=Value->Shared->Prop
abbrev Fg0:=PySem.W.Frag
end L0
open L0
namespace L2
theorem ln0 {α:Type}{l:List α}(h:l.length=0):l=[]:=List.eq_nil_of_length_eq_zero h
theorem ln1 {α:Type}{l:List α}(h:l.length=1):∃a,l=[a]:=List.length_eq_one_iff.mp h
theorem ln2 {α:Type}{l:List α}(h:l.length=2):∃a b,l=[a,b]:=by
 cases l with
 |nil=>cases h
 |cons a r=>obtain⟨b,rfl⟩:=ln1 (Nat.succ.inj h);exact⟨a,b,rfl⟩
theorem ln3 {α:Type}{l:List α}(h:l.length=3):∃a b c,l=[a,b,c]:=by
 cases l with
 |nil=>cases h
 |cons a r=>obtain⟨b,c,rfl⟩:=ln2 (Nat.succ.inj h);exact⟨a,b,c,rfl⟩
theorem ln4 {α:Type}{l:List α}(h:l.length=4):∃a b c d,l=[a,b,c,d]:=by
 cases l with
 |nil=>cases h
 |cons a r=>obtain⟨b,c,d,rfl⟩:=ln3 (Nat.succ.inj h);exact⟨a,b,c,d,rfl⟩
end L2
namespace L2
open PySem PySem.Spec PyProof.Rows
abbrev Key:=Sum Int Str
def a5q:Key->Value->Bool
 | .inl k,v=>Value.isInt k v
 | .inr x,v=>Value.isStrOf x v
def keyH (w:World):Key->Int
 | .inl k=>hashInt k
 | .inr x=>hashStr w x
theorem a0J:∀{k:Key} {v:Value},a5q k v=true->(∃i t,k=Sum.inl i/\v=Value.int i t)\/(∃x t,k=Sum.inr x/\v=Value.str x t)
 | .inl i,v,h=>by
  obtain⟨t,e⟩:=Value.isInt_shape (k:=i) (v:=v) h;exact .inl ⟨i,t,rfl,e⟩
 | .inr x,v,h=>by
  obtain⟨t,e⟩:=Value.isStrOf_shape (x:=x) (v:=v) h;exact .inr ⟨x,t,rfl,e⟩
theorem a9P (i:Int)(t:Tok):a5q (.inl i) (.int i t)=true:=by simp[a5q,Value.isInt]
theorem a9a (x:Str)(t:Tok):a5q (.inr x) (.str x t)=true:=by simp[a5q,Value.isStrOf]
theorem b4s (a b:Int):decide ((Sum.inl a:Key)=Sum.inl b)=(a==b):=by
 by_cases e:a=b
 ·subst e;simp
 ·have h:¬(Sum.inl a:Key)=Sum.inl b:=fun q=>e (Sum.inl.inj q)
  rw[dF0 h];exact(beq_eq_false_iff_ne.mpr e).symm
theorem b3y (a b:Str):decide ((Sum.inr a:Key)=Sum.inr b)=decide (a=b):=by
 by_cases e:a=b
 ·subst e;simp
 ·have h:¬(Sum.inr a:Key)=Sum.inr b:=fun q=>e (Sum.inr.inj q)
  rw[dF0 h,dF0 e]
theorem b4h (a:Int)(b:Str):decide ((Sum.inl a:Key)=Sum.inr b)=false:=dF0 (fun q=>nomatch q)
theorem b3b (a:Str)(b:Int):decide ((Sum.inr a:Key)=Sum.inl b)=false:=dF0 (fun q=>nomatch q)
def a0n (prog:Program)(w:World):PySem.KeyKind prog w Key where
 is:=a5q
 hash:=keyH w
 inj:=fun v a b ha hb=>by
  rcases a0J ha with ⟨i,t,rfl,rfl⟩ |⟨x,t,rfl,rfl⟩
  ·rcases a0J hb with ⟨j,u,rfl,e⟩ |⟨y,u,rfl,e⟩
   ·injection e with e1 _;rw[e1]
   ·exact nomatch e
  ·rcases a0J hb with ⟨j,u,rfl,e⟩ |⟨y,u,rfl,e⟩
   ·exact nomatch e
   ·injection e with e1 _;rw[e1]
 byValue:=fun k v h=>by
  rcases a0J h with ⟨i,t,rfl,rfl⟩ |⟨x,t,rfl,rfl⟩<;>rfl
 pyHash:=fun hv h=>by
  rcases a0J hv with ⟨i,t,rfl,rfl⟩ |⟨x,t,rfl,rfl⟩
  ·exact wpAny_pyHash_int h
  ·exact wpAny_pyHash_str h
 eqBool:=fun hu hv h=>by
  rcases a0J hu with ⟨i,t,rfl,rfl⟩ |⟨x,t,rfl,rfl⟩
  ·rcases a0J hv with ⟨j,u,rfl,rfl⟩ |⟨y,u,rfl,rfl⟩
   ·rw[b4s] at h;exact wpAny_eqBool_int h
   ·rw[b4h] at h;exact SeqAt.EqAt.int_str i t y u _ _ _ _ h
  ·rcases a0J hv with ⟨j,u,rfl,rfl⟩ |⟨y,u,rfl,rfl⟩
   ·rw[b3b] at h;exact SeqAt.EqAt.str_int x t j u _ _ _ _ h
   ·rw[b3y] at h;exact wpAny_eqBool_str h
 «strs»:=fun k x t v h=>by
  rcases a0J h with ⟨i,u,rfl,e⟩ |⟨y,u,rfl,e⟩
  ·exact nomatch e
  ·injection e with e1 _
   subst e1;cases v<;>rfl
theorem a6e (prog:Program)(w:World)(i:Int)(t:Tok):(a0n prog w).is (.inl i) (.int i t)=true:=a9P i t
theorem a6F (prog:Program)(w:World)(x:Str)(t:Tok):(a0n prog w).is (.inr x) (.str x t)=true:=a9a x t
inductive V where
 |non |bl (b:Bool) |int (i:Int) |str (x:Str) |byt (b:Array UInt8) |flt (b:UInt64) |ref (a:Addr) |ty (n:String)
 deriving DecidableEq
def a0S:V->Value->Prop
 | .non,u=>u=Value.none
 | .bl b,u=>u=Value.bool b
 | .int i,u=>∃t,u=Value.int i t
 | .str x,u=>∃t,u=Value.str x t
 | .byt b,u=>∃t,u=Value.bytes b t
 | .flt b,u=>∃t,u=Value.float b t
 | .ref a,u=>u=Value.ref a
 | .ty n,u=>u=Value.type n
abbrev a0V:List V->List Value->Prop:=Paired a0S
theorem a0V.length {xs:List V}{us:List Value}(r:a0V xs us):xs.length=us.length:=Paired.length r
theorem a0V.get:∀{xs:List V} {us:List Value} {i:Nat} {x:V},a0V xs us->xs[i]? =some x->∃u,us[i]? =some u/\a0S x u
 |_,_,_,_,.nil,e=>by simp at e
 |_,_,0,_,.cons r _,e=>by simp at e;subst e;exact⟨_,rfl,r⟩
 |_,_,i+1,x,.cons _ t,e=>by
  obtain⟨u,h1,h2⟩:=a0V.get (i:=i) (x:=x) t (by simpa using e);exact⟨u,by simpa using h1,h2⟩
theorem a0V.set {x:V}{u:Value}(r:a0S x u):∀{xs:List V} {us:List Value} (i:Nat),a0V xs us->a0V (xs.set i x) (us.set i u)
 |_,_,_,.nil=>.nil
 |_,_,0,.cons _ t=>.cons r t
 |_,_,i+1,.cons q t=>.cons q (a0V.set r i t)
theorem a0V.append:∀{xs ys:List V} {us ws:List Value},a0V xs us->a0V ys ws->a0V (xs++ys) (us++ws)
 |_,_,_,_,.nil,s=>s
 |_,_,_,_,.cons r t,s=>.cons r (a0V.append t s)
theorem a0V.take:∀{xs:List V} {us:List Value} (n:Nat),a0V xs us->a0V (xs.take n) (us.take n)
 |_,_,0,_=>.nil
 |_,_,_+1,.nil=>.nil
 |_,_,n+1,.cons r t=>.cons r (a0V.take n t)
theorem a0V.drop:∀{xs:List V} {us:List Value} (n:Nat),a0V xs us->a0V (xs.drop n) (us.drop n)
 |_,_,0,r=>r
 |_,_,_+1,.nil=>.nil
 |_,_,n+1,.cons _ t=>a0V.drop n t
def a5P:Option V->Option Value->Prop
 |some v,some u=>a0S v u
 |none,none=>True
 |_,_=>False
def KV {κ:Type}:List (κ×V)->List (κ×Value)->Prop:=Paired fun(p:κ×V) (q:κ×Value)=>p.1=q.1/\a0S p.2 q.2
def kV:Key->V
 | .inl i=>.int i
 | .inr x=>.str x
inductive HO where
 |lst (xs:List V)
 |tup (xs:List V)
 |dK (kvs:List (Key×V)) |dT (kvs:List (List Key×V))
 |set (S:Int->Bool) (n:Nat)
 |ins (C dx:Addr) (fs:List (Str×V))
 |own (x:Addr)
 |xd (fs:List (Str×V))
 |met (f x:Addr)
 |rng (lo hi:Int)
 |frz (o:Obj) (u:HO)
 |tbl (ps:Array Value)
 |ext (φ:Heap->Prop)
abbrev Hp:=Addr->Option HO
def upd (H:Hp)(a:Addr)(o:HO):Hp:=fun b=>if b=a then some o else H b
theorem a0b {H:Hp}{a:Addr}{o:HO}:upd H a o a=some o:=by unfold upd;rw[if_pos rfl]
theorem a0f {H:Hp}{a b:Addr}{o:HO}(h:b≠a):upd H a o b=H b:=by unfold upd;rw[if_neg h]
theorem b2U {H:Hp}{a:Addr}{o u:HO}:upd (upd H a o) a u=upd H a u:=by
 funext b;unfold upd;split<;>rfl
theorem b5l {H:Hp}{a b:Addr}{o u:HO}(h:H a=some o)(h':H b=some u)(d:o≠u):a≠b:=by
 intro e;subst e;rw[h] at h';exact d (Option.some.inj h')
theorem a0C {H:Hp}{a b:Addr}{o:HO}(h:H a=some o)(h':H b=none):a≠b:=by
 intro e;subst e;rw[h] at h';cases h'
section
variable (P:Program)(w:World)
def a1f (H:Hp)(h:Heap)(a:Addr):HO->Prop
 | .lst xs=>xs.length<=sizeLine/\∃(its:List Value) (n:Nat),a0V xs its/\h.get? a=some { cls:=.type "list",data:=.seq its.toArray n }
 | .tup xs=>xs.length<=sizeLine/\∃its:List Value,a0V xs its/\IsTup h a its.toArray
 | .dK kvs=>kvs.length<=sizeLine/\(a==sysModules)=false/\∃vs,KV kvs vs/\h.DictOf (a0n P w) a vs
 | .dT kvs=>kvs.length<=sizeLine/\(a==sysModules)=false/\∃xs:List (List Key×Addr×Value),
   Paired (fun(p:List Key×V) (q:List Key×Addr×Value)=>p.1=q.1/\H q.2.1=some (.tup (p.1.map kV))/\a0S p.2 q.2.2) kvs xs ∧
   ∃o es ep,h.get? a=some o/\o.ExactDict/\o.data=.dict es ep/\es.toList=xs.map (entryOfKey (tupleKind (a0n P w)))/\(xs.map (·.1)).Nodup
 | .set S n=>h.SetOf (intKind P w) a S n
 | .ins C dx fs=>H dx=some (.own a)/\fs.length<=1000/\dx≠a/\h.get? a=some (PySem.W.instObj C dx) ∧
   ∃mA,h.Ns1 dx mA/\(∀f,a5P (fs.lookup f) (mA f))/\PySem.Within mA (fs.map (·.1))
 | .own _=>∃o,h.get? a=some o
 | .xd fs=>∃mA,h.Ns1 a mA/\∀f,a5P (fs.lookup f) (mA f)
 | .rng lo hi=>∃t u v,h.get? a=some { cls:=.type "range",data:=.fields #[.int lo t,.int hi u,.int 1 v] }
 | .frz o u=>h.get? a=some o/\a1f H h a u
 | .tbl ps=>h.get? a=some { cls:=.none,data:=.fields ps }
 | .met f x=>h.get? a=some (PySem.W.methodObj (.ref f) (.ref x))
 | .ext φ=>φ h/\(∃o,h.get? a=some o)/\∀h1 h2:Heap,φ h1->(∀o,h1.get? a=some o->h2.get? a=some o)->φ h2
def HOk (H:Hp)(h:Heap):Prop:=∀a o,H a=some o->a1f P w H h a o
end
section
variable {P:Program}{w:World}{H H':Hp}{h h':Heap}{a:Addr}{o:HO}
theorem a1f.lt (x:a1f P w H h a o):a<h.objs.size:=by
 cases o with
 |lst xs=>obtain⟨_,_,_,_,e⟩:=x;exact hL0 e
 |tup xs=>obtain⟨_,_,_,p⟩:=x;exact p.lt
 |dK kvs=>obtain⟨_,_,_,_,o,_,_,e,_⟩:=x;exact hL0 e
 |dT kvs=>obtain⟨_,_,_,_,o,_,_,e,_⟩:=x;exact hL0 e
 |set S n=>obtain⟨o,_,_,_,e,_⟩:=x;exact hL0 e
 |ins C dx fs=>obtain⟨_,_,_,e,_⟩:=x;exact hL0 e
 |own y=>obtain⟨_,e⟩:=x;exact hL0 e
 |xd fs=>obtain⟨_,⟨_,_,_,e,_⟩,_⟩:=x;exact hL0 e
 |rng lo hi=>obtain⟨_,_,_,e⟩:=x;exact hL0 e
 |frz ob u=>obtain⟨e,_⟩:=x;exact hL0 e
 |tbl ps=>exact hL0 (show h.get? a=some _ from x)
 |met f y=>exact hL0 (show h.get? a=some _ from x)
 |ext φ=>obtain⟨_,⟨_,e⟩,_⟩:=x;exact hL0 e
theorem Paired.mapP {α β:Type}{F G:α->β->Prop}:∀{l₁:List α} {l₂:List β},Paired F l₁ l₂->(∀a b,F a b->G a b)->Paired G l₁ l₂
 |_,_,.nil,_=>.nil
 |_,_,.cons r t,f=>.cons (f _ _ r) (Paired.mapP t f)
theorem a1f.stay (x:a1f P w H h a o)(k:∀b u,(b=a\/H b=some (.own a))->h.get? b=some u->h'.get? b=some u)
  (ho:∀b,H b=some (.own a)->H' b=some (.own a)) (ht:∀b xs,H b=some (.tup xs)->H' b=some (.tup xs)):a1f P w H' h' a o:=by
 induction o with
 |lst xs=>obtain⟨z,its,n,r,e⟩:=x;exact⟨z,its,n,r,k _ _ (.inl rfl) e⟩
 |tup xs=>obtain⟨z,its,r,ob,e,c⟩:=x;exact⟨z,its,r,ob,k _ _ (.inl rfl) e,c⟩
 |dK kvs=>obtain⟨z,y,vs,r,ob,es,ep,e,c⟩:=x;exact⟨z,y,vs,r,ob,es,ep,k _ _ (.inl rfl) e,c⟩
 |dT kvs=>
  obtain⟨z,y,xs,r,ob,es,ep,e,c⟩:=x;exact⟨z,y,xs,Paired.mapP r fun p q z=>⟨z.1,ht _ _ z.2.1,z.2.2⟩,ob,es,ep,k _ _ (.inl rfl) e,c⟩
 |set S n=>obtain⟨ob,es,ep,t,e,c⟩:=x;exact⟨ob,es,ep,t,k _ _ (.inl rfl) e,c⟩
 |ins C dx fs=>
  obtain⟨d,z,ne,e,mA,⟨od,es,ep,e2,c⟩,r⟩:=x;exact⟨ho _ d,z,ne,k _ _ (.inl rfl) e,mA,⟨od,es,ep,k _ _ (.inr d) e2,c⟩,r⟩
 |own y=>obtain⟨ob,e⟩:=x;exact⟨ob,k _ _ (.inl rfl) e⟩
 |xd fs=>obtain⟨mA,⟨od,es,ep,e,c⟩,r⟩:=x;exact⟨mA,⟨od,es,ep,k _ _ (.inl rfl) e,c⟩,r⟩
 |rng lo hi=>obtain⟨t,u,v,e⟩:=x;exact⟨t,u,v,k _ _ (.inl rfl) e⟩
 |frz ob u ih=>obtain⟨e,q⟩:=x;exact⟨k _ _ (.inl rfl) e,ih q⟩
 |tbl ps=>
  have e:h.get? a=some { cls:=.none,data:=.fields ps }:=x;show h'.get? a=some { cls:=.none,data:=.fields ps };exact k a _ (.inl rfl) e
 |met f y=>
  have e:h.get? a=some (PySem.W.methodObj (.ref f) (.ref y)):=x;show h'.get? a=some (PySem.W.methodObj (.ref f) (.ref y));exact k a _ (.inl rfl) e
 |ext φ=>obtain⟨p,⟨o,e⟩,st⟩:=x;exact⟨st _ _ p fun o q=>k _ _ (.inl rfl) q,⟨o,k _ _ (.inl rfl) e⟩,st⟩
theorem HOk.lt (x:HOk P w H h)(e:H a=some o):a<h.objs.size:=(x a o e).lt
theorem HOk.fresh (x:HOk P w H h)(e:h.objs.size<=a):H a=none:=by
 cases q:H a with
 |none=>rfl
 |some u=>exact absurd (Nat.lt_of_lt_of_le (x.lt q) e) (Nat.lt_irrefl _)
theorem HOk.kept (x:HOk P w H h)(k:∀b u,h.get? b=some u->h'.get? b=some u):HOk P w H h':=fun a o e=>
 (x a o e).stay (fun b u _ q=>k b u q) (fun _ q=>q) fun _ _ q=>q
theorem HOk.laid (x:HOk P w H h)(k:∀b u,h.get? b=some u->h'.get? b=some u)(hp:h.objs.size<=a)(new:a1f P w (upd H a o) h' a o):HOk P w (upd H a o) h':=fun b u e=>by
 have hn:=x.fresh hp
 by_cases hb:b=a
 ·subst hb;rw[a0b] at e;cases e;exact new
 ·rw[a0f hb] at e
  exact(x b u e).stay (fun c v _ q=>k c v q) (fun c q=>by rw[a0f (a0C q hn)];exact q) fun c xs q=>by rw[a0f (a0C q hn)];exact q
end
def Rd (H:Hp)(a:Addr)(u:HO):Prop:=H a=some u\/∃o,H a=some (.frz o u)
theorem Rd.ok {P:Program}{w:World}{H:Hp}{h:Heap}{a:Addr}{u:HO}(r:Rd H a u)(x:HOk P w H h):a1f P w H h a u:=by
 rcases r with r |⟨o,r⟩
 ·exact x a u r
 ·obtain⟨_,q⟩:=x a _ r
  exact q
def Mut:Option HO->Prop
 |some (.lst _)=>True
 |some (.dK _)=>True
 |some (.dT _)=>True
 |some (.set _ _)=>True
 |some (.ins _ _ _)=>True
 |some (.ext _)=>True
 |_=>False
section
variable {P:Program}{w:World}{H:Hp}{h h':Heap}{x e:Addr}{o':HO}
theorem HOk.write (ok:HOk P w H h)(mu:Mut (H x))(he:e=x\/H e=some (.own x))(k:∀b u,b≠e->h.get? b=some u->h'.get? b=some u)(heo:∃u,h'.get? e=some u)
  (new:a1f P w (upd H x o') h' x o'):HOk P w (upd H x o') h':=fun b u q=>by
 have nown:∀c y,H c=some (.own y)->c≠x:=fun c y r z=>by subst z;rw[r] at mu;exact mu
 have ntup:∀c xs,H c=some (.tup xs)->c≠x:=fun c xs r z=>by subst z;rw[r] at mu;exact mu
 by_cases hb:b=x
 ·subst hb;rw[a0b] at q;cases q;exact new
 ·rw[a0f hb] at q
  by_cases hbe:b=e
  ·have q':H b=some (.own x):=by
    rcases he with z |z
    ·exact absurd (hbe.trans z) hb
    ·rw[hbe];exact z
   rw[q] at q';cases q';obtain⟨v,hv⟩:=heo;exact⟨v,by rw[hbe];exact hv⟩
  ·refine(ok b u q).stay (fun c v hc r=>k c v ?_ r) (fun c r=>by rw[a0f (nown c b r)];exact r) fun c xs r=>by rw[a0f (ntup c xs r)];exact r
   rcases hc with rfl |hc
   ·exact hbe
   ·rintro rfl
    rcases he with z |z
    ·exact nown c b hc z
    ·rw[hc] at z;cases z;exact hb rfl
end
structure Un (fs ex:List Addr) (H H':Hp) (h h':Heap):Prop where
 keep:∀b o,h.get? b=some o->H b=none->b∉fs->b∉ex->h'.get? b=some o
 slot:∀b o,h.get? b=some o->H b=none->b∈fs->b∉ex->∃sl,h'.get? b=some { o with slots:=sl }
 free:∀b o,h.get? b=some o->H b=none->b∉ex->H' b=none
 there:∀b o,h.get? b=some o->b∉ex->∃o',h'.get? b=some o'
 tups:∀b xs,H b=some (.tup xs)->H' b=some (.tup xs)
 frzs:∀b o u,H b=some (.frz o u)->H' b=some (.frz o u)
 tbls:∀b ps,H b=some (.tbl ps)->∃more,H' b=some (.tbl (ps++more))
section
variable {fs fs' ex ex':List Addr}{H H1 H2:Hp}{h h1 h2 h':Heap}{a x e:Addr}{o:HO}
theorem Un.any (u:Un fs ex H H1 h h1){b:Addr}{ob:Obj}(q:h.get? b=some ob)(n:H b=none)(hx:b∉ex):∃sl,h1.get? b=some { ob with slots:=sl }:=by
 by_cases hb:b∈fs
 ·exact u.slot b ob q n hb hx
 ·exact⟨ob.slots,u.keep b ob q n hb hx⟩
theorem Un.kept (k:∀b u,h.get? b=some u->h'.get? b=some u):Un fs ex H H h h':=
 ⟨fun b ob q _ _ _=>k b ob q,fun b ob q _ _ _=>⟨ob.slots,k b ob q⟩,fun _ _ _ n _=>n,fun b ob q _=>⟨ob,k b ob q⟩,fun _ _ q=>q,fun _ _ _ q=>q,fun _ ps q=>⟨#[],by rw[q];simp⟩⟩
theorem Un.refl:Un fs ex H H h h:=Un.kept fun _ _ q=>q
theorem Un.laid (k:∀b u,h.get? b=some u->h'.get? b=some u)(hp:h.objs.size<=a)(hn:H a=none):Un fs ex H (upd H a o) h h' where
 keep:=fun b u q _ _ _=>k b u q
 slot:=fun b u q _ _ _=>⟨u.slots,k b u q⟩
 free:=fun b u q n _=>by rw[a0f (nL0 (Nat.lt_of_lt_of_le (hL0 q) hp))];exact n
 there:=fun b u q _=>⟨u,k b u q⟩
 tups:=fun b xs q=>by rw[a0f (a0C q hn)];exact q
 frzs:=fun b u xs q=>by rw[a0f (a0C q hn)];exact q
 tbls:=fun b ps q=>⟨#[],by rw[a0f (a0C q hn),q];simp⟩
theorem Un.write (mu:Mut (H x))(he:e=x\/H e=some (.own x))(k:∀b u,b≠e->h.get? b=some u->h'.get? b=some u)(heo:∃u,h'.get? e=some u):Un fs ex H (upd H x o) h h':=by
 have hx:∀b,H b=none->b≠x:=fun b n z=>by subst z;rw[n] at mu;exact mu
 have hb:∀b,H b=none->b≠e:=fun b n z=>by
  subst z;rcases he with r |r
  ·exact hx b n r
  ·rw[n] at r;cases r
 have hm:∀b u,H b=some u->¬Mut (some u)->b≠x:=fun b u q nm z=>by subst z;rw[q] at mu;exact nm mu
 refine⟨fun b u q n _ _=>k b u (hb b n) q,fun b u q n _ _=>⟨u.slots,k b u (hb b n) q⟩,fun b u q n _=>by rw[a0f (hx b n)];exact n,fun b u q _=>?_,
  fun b xs q=>by rw[a0f (hm b _ q fun z=>z)];exact q,fun b u xs q=>by rw[a0f (hm b _ q fun z=>z)];exact q,fun b ps q=>⟨#[],by rw[a0f (hm b _ q fun z=>z),q];simp⟩⟩
 by_cases hbe:b=e
 ·subst hbe;exact heo
 ·exact⟨u,k b u hbe q⟩
end
def trk (h:Heap)(H:Hp):List Addr:=(List.range h.objs.size).filter fun a=>(H a).isSome
def a6B (h:Heap)(H:Hp):Heap:=PySem.W.hideAll h (trk h H)
theorem a5k (h:Heap)(H:Hp):(a6B h H).objs.size=h.objs.size:=PySem.W.hideAll_size _ _
theorem a7B {h:Heap}{H:Hp}{b:Addr}{o:Obj}(e:h.get? b=some o)(n:H b=none):(a6B h H).get? b=some o:=
 PySem.W.hideAll_get _ e fun hm=>by
  have q:(H b).isSome=true:=(mF0.mp hm).2;rw[n] at q;simp at q
theorem a8B {h:Heap}{H:Hp}{b:Addr}{o:Obj}(e:(a6B h H).get? b=some o):h.get? b=some o/\H b=none:=by
 have e':h.get? b=some o:=PySem.W.of_hideAll (trk h H) e;refine⟨e',?_⟩;cases q:H b with
 |none=>rfl
 |some x=>
  have hm:b∈trk h H:=mF0.mpr ⟨List.mem_range.mpr (hL0 e'),by simp[q]⟩;have z:(a6B h H).get? b=none:=PySem.W.hideAll_none (trk h H) hm;rw[z] at e;cases e
structure Mod (K:Fg0) (mg:Str->Option Value) (base:Heap):Prop where
 kin:K.In base
 glob:base.Ns mainGlobals mg
 blt:∃mb,base.Ns builtinsNs mb/\∀x:Str,x≠"__name__"->mb x=bootBuiltins x
 nolimit:base.NoLimit
structure Cx where
 prog:Program
 w:World
 K:Fg0
 mg:Str->Option Value
 base:Heap
 A:Around
 N:List Str
 s₀:Shared
 H₀:Hp
 env:Env
 outer:List Env
 stack:List Env
 ex:List Addr
 fn:Str->Bool
 calm:Bool
 pn:List (Addr×Obj)
 xe:Vs0
def frs (l:List Env):List Addr:=l.filterMap (·.frame)
abbrev Cx.fs (X:Cx):List Addr:=frs X.outer
def Vis (sc:Scope)(x:Str):Prop:=sc.names.lookup x=some .local\/sc.names.lookup x=some .cell\/sc.names.lookup x=some .free
def Loc (sc:Scope)(x:Str):Prop:=sc.names.lookup x=some .local\/sc.names.lookup x=some .cell
def Look (env:Env)(h:Heap)(m:Str->Option Value)(x:Str)(u:Value):Prop:=
 (env.kindOf x=some .local/\m x=some u)\/((env.kindOf x=some .cell\/env.kindOf x=some .free)/\∃c,env.cells.lookup x=some c/\h.IsCell c (some u))
structure Cx.Ok (X:Cx):Prop where
 mod:Mod X.K X.mg X.base
 kind:X.env.scope.kind=.function
 glob:X.env.globals=mainGlobals
 blt:X.env.builtins=builtinsNs
 above:X.s₀.heap.objs.size<=X.env.locals
 inj:∀x y c,X.env.cells.lookup x=some c->X.env.cells.lookup y=some c->x=y
 has:∀x,(X.env.kindOf x=some .cell\/X.env.kindOf x=some .free)->∃c,X.env.cells.lookup x=some c
 cab:∀x c,X.fn x=true->X.env.cells.lookup x=some c->X.s₀.heap.objs.size<=c
 hd:X.calm=true->X.A.handled=none
 frames:X.A.frames=some X.stack
 stk:X.stack=X.outer\/(X.stack=X.env::X.outer/\X.env.frame=some X.env.locals)
 exf:∀b∈X.ex,b≠X.env.locals/\∀x c,X.env.cells.lookup x=some c->c≠b
 bs:∀b o,X.base.get? b=some o->X.s₀.heap.get? b=some o/\X.H₀ b=none
 bsz:X.base.objs.size<=X.s₀.heap.objs.size
 noex:∀b o,X.base.get? b=some o->b∉X.ex
 exfs:∀b∈X.ex,b∉X.fs
 funs:X.s₀.heap.FunFrames X.base X.outer
 frf:∀b∈X.fs,X.H₀ b=none
structure Inv (X:Cx) (pins:List (Addr×Obj)) (σ:List (Option V)) (H:Hp) (s:Shared):Prop where
 ok:X.Ok
 os:s.os=X.s₀.os
 bare:AllBare s.gens
 base:Un X.fs X.ex X.H₀ H X.s₀.heap s.heap
 loc:∃m,s.heap.Ns X.env.locals m/\∀(i:Nat) (x:Str) (v:V),X.N[i]? =some x->σ[i]? =some (some v)->Vis X.env.scope x->∃u,a0S v u/\Look X.env s.heap m x u
 cell:∀x c,X.env.cells.lookup x=some c->∃v,s.heap.IsCell c v
 free:H X.env.locals=none
 freeC:∀x c,X.env.cells.lookup x=some c->H c=none
 pin:∀p∈X.pn++pins,s.heap.get? p.1=some p.2/\H p.1=none/\p.1≠X.env.locals/\p.1∉X.fs/\∀v,p.2.data≠.cell v
 hok:HOk X.prog X.w H s.heap
 len:σ.length=X.N.length
section
variable {X:Cx}{pins:List (Addr×Obj)}{σ:List (Option V)}{H H':Hp}{s:Shared}{h':Heap}
theorem Cx.Ok.nofr (ok:X.Ok){b:Addr}{o:Obj}(e:X.base.get? b=some o):b∉X.fs:=fun hb=>by
 have:=(ok.funs.mem hb).1
 rw[e] at this;cases this
theorem Inv.bs (I:Inv X pins σ H s):∀b o,X.base.get? b=some o->s.heap.get? b=some o/\H b=none:=fun b o e=>
 ⟨I.base.keep b o (I.ok.bs b o e).1 (I.ok.bs b o e).2 (I.ok.nofr e) (I.ok.noex b o e),I.base.free b o (I.ok.bs b o e).1 (I.ok.bs b o e).2 (I.ok.noex b o e)⟩
theorem Inv.bk (I:Inv X pins σ H s):∀b o,X.base.get? b=some o->s.heap.get? b=some o:=fun b o e=>(I.bs b o e).1
theorem Inv.mod (I:Inv X pins σ H s):Mod X.K X.mg X.base:=I.ok.mod
theorem Inv.kIn (I:Inv X pins σ H s):X.K.In s.heap:=I.ok.mod.kin.keeps I.bk
theorem Inv.lt (I:Inv X pins σ H s):X.env.locals<s.heap.objs.size:=let ⟨_,hn,_⟩:=I.loc;hn.lt
theorem Inv.sz (I:Inv X pins σ H s):X.s₀.heap.objs.size<=s.heap.objs.size:=Nat.le_trans I.ok.above (Nat.le_of_lt I.lt)
theorem Inv.nofs (I:Inv X pins σ H s){a:Addr}(h:s.heap.objs.size<=a):a∉X.fs:=fun hb=>by
 obtain⟨_,o,ho,_⟩:=I.ok.funs.mem hb;exact absurd (Nat.lt_of_lt_of_le (hL0 ho) (Nat.le_trans I.sz h)) (Nat.lt_irrefl _)
theorem Inv.cne (I:Inv X pins σ H s):∀x c,X.env.cells.lookup x=some c->c≠X.env.locals:=fun x c e z=>by
 obtain⟨v,o,ho,hd⟩:=I.cell x c e;obtain⟨m,⟨o',es,ep,ho',hd',_⟩,_⟩:=I.loc;rw[z,ho'] at ho;cases ho;rw[hd'] at hd;cases hd
theorem Inv.funs (I:Inv X pins σ H s):s.heap.FunFrames X.base X.outer:=by
 have all:∀(l:List Env),(∀b∈frs l,b∈X.fs)->X.s₀.heap.FunFrames X.base l->s.heap.FunFrames X.base l:=by
  intro l
  induction l with
  |nil=>intro _ _;trivial
  |cons env r ih=>
   intro hs hl;obtain⟨hk,⟨L,o,hf,hn,ho,hd⟩,hr⟩:=hl;have hL:L∈X.fs:=hs L (by unfold frs;rw[List.filterMap_cons,hf];exact List.mem_cons_self);obtain⟨sl,e⟩:=I.base.slot L o ho (I.ok.frf L hL) hL fun z=>I.ok.exfs L z hL;exact⟨hk,⟨L,_,hf,hn,e,hd⟩,ih (fun b hb=>hs b (by unfold frs;rw[List.filterMap_cons,hf];exact mL0 _ hb)) hr⟩
 exact all X.outer (fun _ hb=>hb) I.ok.funs
theorem Inv.stack (I:Inv X pins σ H s):s.heap.FunFrames X.base X.stack:=by
 rcases I.ok.stk with e |⟨e,hf⟩
 ·rw[e];exact I.funs
 ·rw[e]
  obtain⟨m,hn,_⟩:=I.loc;refine .cons (by rw[I.ok.kind];decide) hf hn ?_ I.funs;exact Heap.get?_none_of_le (Nat.le_trans I.ok.bsz I.ok.above)
theorem Inv.stkSub (I:Inv X pins σ H s):∀b∈frs X.stack,b∈X.env.locals::X.fs:=fun b hb=>by
 rcases I.ok.stk with e |⟨e,hf⟩
 ·rw[e] at hb;exact mL0 _ hb
 ·rw[e] at hb
  unfold frs at hb;rw[List.filterMap_cons,hf] at hb;exact hb
theorem Inv.stkFree (I:Inv X pins σ H s):∀b∈frs X.stack,H b=none:=fun b hb=>by
 rcases mK0.mp (I.stkSub b hb) with e |hb
 ·rw[e];exact I.free
 ·obtain⟨_,o,ho,_⟩:=I.ok.funs.mem hb
  exact I.base.free b o ho (I.ok.frf b hb) fun z=>I.ok.exfs b z hb
theorem Inv.step {g':Array GenState}{t':Nat}{d':Drawn}{ch:List Addr}(I:Inv X pins σ H s)
  (hch:∀b∈ch,(b∈X.ex\/X.s₀.heap.objs.size<=b)/\b≠X.env.locals/\(∀x c,X.env.cells.lookup x=some c->c≠b)/\∀p∈X.pn++pins,p.1≠b)
  (keep:∀b o,b≠X.env.locals->b∉X.fs->b∉ch->s.heap.get? b=some o->H b=none->h'.get? b=some o)
  (slot:∀b o,b≠X.env.locals->b∈X.fs->b∉ch->s.heap.get? b=some o->H b=none->∃sl,h'.get? b=some { o with slots:=sl }) (free:∀b o,b∉ch->s.heap.get? b=some o->H b=none->H' b=none)
  (there:∀b o,b∉ch->s.heap.get? b=some o->∃o',h'.get? b=some o')
  (tups:∀b xs,H b=some (.tup xs)->H' b=some (.tup xs)) (frzs:∀b o u,H b=some (.frz o u)->H' b=some (.frz o u)) (tbls:∀b ps,H b=some (.tbl ps)->∃more,H' b=some (.tbl (ps++more)))
  (ns:∀m,s.heap.Ns X.env.locals m->h'.Ns X.env.locals m) (hok:HOk X.prog X.w H' h') (hg:AllBare g') :
  Inv X pins σ H' { s with heap:=h',gens:=g',drawn:=d',toks:=t' }:=by
 have neL:∀b o,X.s₀.heap.get? b=some o->b≠X.env.locals:=fun b o e=>nL0 (Nat.lt_of_lt_of_le (hL0 e) I.ok.above);have neC:∀b o,X.s₀.heap.get? b=some o->b∉X.ex->b∉ch:=fun b o e hx hb=>by
  rcases (hch b hb).1 with z |z
  ·exact hx z
  ·exact absurd (Nat.lt_of_lt_of_le (hL0 e) z) (Nat.lt_irrefl _)
 have cellK:∀x c,X.env.cells.lookup x=some c->∀v,s.heap.IsCell c v->h'.IsCell c v:=fun x c e v ⟨o,ho,hd⟩=>by
  have nch:c∉ch:=fun z=>(hch c z).2.2.1 x c e rfl
  by_cases hc:c∈X.fs
  ·obtain⟨sl,q⟩:=slot c o (I.cne x c e) hc nch ho (I.freeC x c e)
   exact⟨_,q,hd⟩
  ·exact⟨o,keep c o (I.cne x c e) hc nch ho (I.freeC x c e),hd⟩
 refine⟨I.ok,I.os,hg,⟨fun b o e n hb hx=>?_,fun b o e n hb hx=>?_,fun b o e n hx=>?_,fun b o e hx=>?_,fun b xs e=>tups b xs (I.base.tups b xs e),fun b o xs e=>frzs b o xs (I.base.frzs b o xs e),fun b ps e=>?_⟩,?_,fun x c e=>?_,?_,fun x c e=>?_,fun p hp=>?_,hok,I.len⟩
 ·exact keep b o (neL b o e) hb (neC b o e hx) (I.base.keep b o e n hb hx) (I.base.free b o e n hx)
 ·obtain⟨sl,e1⟩:=I.base.slot b o e n hb hx
  obtain⟨sl',e2⟩:=slot b _ (neL b o e) hb (neC b o e hx) e1 (I.base.free b o e n hx);exact⟨sl',e2⟩
 ·obtain⟨o',e1⟩:=I.base.there b o e hx
  exact free b o' (neC b o e hx) e1 (I.base.free b o e n hx)
 ·obtain⟨o',e1⟩:=I.base.there b o e hx
  exact there b o' (neC b o e hx) e1
 ·obtain⟨m1,e1⟩:=I.base.tbls b ps e
  obtain⟨m2,e2⟩:=tbls b _ e1;exact⟨m1++m2,by rw[e2,Array.append_assoc]⟩
 ·obtain⟨m,hn,hl⟩:=I.loc
  refine⟨m,ns m hn,fun i x v e1 e2 e3=>?_⟩;obtain⟨u,r,l⟩:=hl i x v e1 e2 e3;refine⟨u,r,?_⟩;rcases l with l |⟨k,c,e,z⟩
  ·exact .inl l
  ·exact .inr ⟨k,c,e,cellK x c e _ z⟩
 ·obtain⟨v,z⟩:=I.cell x c e
  exact⟨v,cellK x c e v z⟩
 ·obtain⟨m,⟨o,_,_,ho,_⟩,_⟩:=I.loc
  exact free _ o (fun z=>(hch _ z).2.1 rfl) ho I.free
 ·obtain⟨v,o,ho,hd⟩:=I.cell x c e
  exact free c o (fun z=>(hch c z).2.2.1 x c e rfl) ho (I.freeC x c e)
 ·obtain⟨e,n,ne,nf,d⟩:=I.pin p hp
  have nch:p.1∉ch:=fun z=>(hch p.1 z).2.2.2 p hp rfl;exact⟨keep p.1 p.2 ne nf nch e n,free p.1 p.2 nch e n,ne,nf,d⟩
theorem Inv.un {t':Nat}(I:Inv X pins σ H s)(u:Un X.fs [] H H' s.heap h')(hok:HOk X.prog X.w H' h'):Inv X pins σ H' { s with heap:=h',toks:=t' }:=by
 obtain⟨m,⟨o,es,ep,ho,r⟩,_⟩:=id I.loc;obtain⟨sl,hL⟩:=u.any ho I.free (by simp);exact I.step (g':=s.gens) (d':=s.drawn) (ch:=[]) (fun _ z=>nomatch z) (fun b o _ hb _ e n=>u.keep b o e n hb (by simp)) (fun b o _ hb _ e n=>u.slot b o e n hb (by simp)) (fun b o _ e n=>u.free b o e n (by simp)) (fun b o _ e=>u.there b o e (by simp)) u.tups u.frzs u.tbls (fun m' hm=>by
  obtain⟨o',es',ep',ho',r'⟩:=hm;rw[ho] at ho';cases ho';exact⟨_,es',ep',hL,r'⟩) hok I.bare
theorem Inv.call {g':Array GenState}{t':Nat}{d':Drawn}{ch:List Addr}(I:Inv X pins σ H s)(u:Un (frs X.stack) ch H H' s.heap h')(hok:HOk X.prog X.w H' h')(hg:AllBare g')
  (hch:∀b∈ch,(b∈X.ex\/X.s₀.heap.objs.size<=b)/\b≠X.env.locals/\(∀x c,X.env.cells.lookup x=some c->c≠b)/\∀p∈X.pn++pins,p.1≠b) :
  Inv X pins σ H' { s with heap:=h',gens:=g',drawn:=d',toks:=t' }:=by
 obtain⟨m,⟨o,es,ep,ho,r⟩,_⟩:=id I.loc;obtain⟨sl,hL⟩:=u.any ho I.free fun z=>(hch _ z).2.1 rfl;exact I.step (ch:=ch) hch (fun b o hL hb hc e n=>u.keep b o e n (fun z=>(mK0.mp (I.stkSub b z)).elim hL hb) hc) (fun b o _ _ hc e n=>u.any e n hc) (fun b o hc e n=>u.free b o e n hc) (fun b o hc e=>u.there b o e hc) u.tups u.frzs u.tbls (fun m' hm=>by
  obtain⟨o',es',ep',ho',r'⟩:=hm;rw[ho] at ho';cases ho';exact⟨_,es',ep',hL,r'⟩) hok hg
theorem Inv.turned {t':Nat}{it:Addr}(I:Inv X pins σ H s)(k:∀b o,b≠it->s.heap.get? b=some o->h'.get? b=some o)(hn:H it=none)(hL:it≠X.env.locals)
  (h1:it∈X.ex\/X.s₀.heap.objs.size<=it) (h2:∀x c,X.env.cells.lookup x=some c->c≠it) (h3:∀p∈X.pn++pins,p.1≠it):Inv X pins σ H { s with heap:=h',toks:=t' }:=by
 have nit:∀b u,H b=some u->b≠it:=fun b u e z=>by rw[z,hn] at e;cases e
 refine I.step (g':=s.gens) (d':=s.drawn) (ch:=[it]) (fun b hb=>?_) (fun b o _ _ hc e _=>k b o (fun z=>hc (by simp[z])) e) (fun b o _ _ hc e _=>⟨o.slots,k b o (fun z=>hc (by simp[z])) e⟩) (fun _ _ _ _ n=>n)
  (fun b o hc e=>⟨o,k b o (fun z=>hc (by simp[z])) e⟩) (fun _ _ e=>e) (fun _ _ _ e=>e) (fun b ps e=>⟨#[],by rw[e];simp⟩) (fun m hm=>?_) (fun b u e=>?_) I.bare
 ·have e:b=it:=by simpa using hb
  subst e;exact⟨h1,hL,h2,h3⟩
 ·obtain⟨o,es,ep,ho,r⟩:=hm
  exact⟨o,es,ep,k _ o (Ne.symm hL) ho,r⟩
 ·refine(I.hok b u e).stay (fun c v hc q=>k c v ?_ q) (fun _ q=>q) fun _ _ q=>q
  rcases hc with z |z
  ·rw[z];exact nit b u e
  ·exact nit c _ z
theorem Inv.tok (I:Inv X pins σ H s)(t:Nat):Inv X pins σ H { s with toks:=t }:=I.un (h':=s.heap) (t':=t) Un.refl I.hok
theorem Inv.kept {t':Nat}(I:Inv X pins σ H s)(k:∀b u,s.heap.get? b=some u->h'.get? b=some u):Inv X pins σ H { s with heap:=h',toks:=t' }:=I.un (Un.kept k) (I.hok.kept k)
theorem Inv.laid {a:Addr}{o:HO}{t':Nat}(I:Inv X pins σ H s)(k:∀b u,s.heap.get? b=some u->h'.get? b=some u)(hp:s.heap.objs.size<=a)(new:a1f X.prog X.w (upd H a o) h' a o) :
  Inv X pins σ (upd H a o) { s with heap:=h',toks:=t' }:=I.un (Un.laid k hp (I.hok.fresh hp)) (I.hok.laid k hp new)
theorem Inv.write {x e:Addr}{o:HO}{t':Nat}(I:Inv X pins σ H s)(mu:Mut (H x))(he:e=x\/H e=some (.own x))(k:∀b u,b≠e->s.heap.get? b=some u->h'.get? b=some u)(heo:∃u,h'.get? e=some u)
  (new:a1f X.prog X.w (upd H x o) h' x o):Inv X pins σ (upd H x o) { s with heap:=h',toks:=t' }:=I.un (Un.write mu he k heo) (I.hok.write mu he k heo new)
theorem Inv.pins_of {pins':List (Addr×Obj)}(I:Inv X pins σ H s)(h:∀p∈pins',s.heap.get? p.1=some p.2/\H p.1=none/\p.1≠X.env.locals/\p.1∉X.fs/\∀v,p.2.data≠.cell v):Inv X pins' σ H s:=
 ⟨I.ok,I.os,I.bare,I.base,I.loc,I.cell,I.free,I.freeC,fun p hp=>(mB0.mp hp).elim (fun z=>I.pin p (List.mem_append_left _ z)) (h p),I.hok,I.len⟩
theorem a7h {N:List Str}(hN:N.Nodup){i j:Nat}{x:Str}(a:N[i]? =some x)(b:N[j]? =some x):i=j:=by
 obtain⟨h1,e1⟩:=gS0.mp a;obtain⟨h2,e2⟩:=gS0.mp b;exact(List.getElem_inj hN).mp (e1.trans e2.symm)
theorem a5N {M:Model}{A:Around}{E:Vs0}{i:Nat}{x:Str}{v:V}{u:Value}{Q:Unit->Shared->Prop}(I:Inv X pins σ H s)(hN:X.N.Nodup)(hi:X.N[i]? =some x)(hx:Loc X.env.scope x)(r:a0S v u)
  (h:∀s',Inv X pins (σ.set i (some v)) H s'->(∃a,Heap.SameBut a s.heap s'.heap/\(a=X.env.locals\/X.env.cells.lookup x=some a))->Q () s') (hf:X.fn x=true\/X.env.scope.names.lookup x=some .local:=by first |exact .inl rfl |exact .inr rfl |assumption):wpAny M A (storeName X.env x u) Q E s:=by
 obtain⟨m,hn,hl⟩:=id I.loc;have hcls:(X.env.scope.kind==.class || (X.env.scope.kind==.module&&X.env.locals != X.env.globals))=false:=by rw[I.ok.kind];rfl
 have hiσ:i<σ.length:=by rw[I.len];exact(gS0.mp hi).1
 have cne:=I.cne;have tracked:∀{a:Addr} {h':Heap},(∃o,s.heap.get? a=some o/\H a=none)->Heap.SameBut a s.heap h'->HOk X.prog X.w H h':=fun {a h'} ha hs b ob e=>by
  obtain⟨_,_,hfree⟩:=ha;refine(I.hok b ob e).stay (fun c w' hc q=>(hs.2 c ?_).trans q) (fun _ q=>q) fun _ _ q=>q;rintro rfl;rcases hc with rfl |hc
  ·rw[hfree] at e;cases e
  ·rw[hfree] at hc;cases hc
 rcases hx with hk |hk
 ·refine wpAny_storeName_local hk hn (fun h' hn' hs=>?_) hcls
  obtain⟨oL,_,_,hoL,_⟩:=id hn;refine h _ ⟨I.ok,I.os,I.bare,⟨fun b o e n hb hx=>?_,fun b o e n hb hx=>?_,I.base.free,fun b o e hx=>?_,I.base.tups,I.base.frzs,I.base.tbls⟩,⟨_,hn',fun j y v' e1 e2 e3=>?_⟩,fun y c e=>?_,I.free,I.freeC,fun p hp=>?_,tracked ⟨oL,hoL,I.free⟩ hs,by simpa using I.len⟩ ⟨_,hs,.inl rfl⟩
  ·exact(hs.2 b (nL0 (Nat.lt_of_lt_of_le (hL0 e) I.ok.above))).trans (I.base.keep b o e n hb hx)
  ·obtain⟨sl,e1⟩:=I.base.slot b o e n hb hx
   exact⟨sl,(hs.2 b (nL0 (Nat.lt_of_lt_of_le (hL0 e) I.ok.above))).trans e1⟩
  ·obtain⟨o',e1⟩:=I.base.there b o e hx
   exact⟨o',(hs.2 b (nL0 (Nat.lt_of_lt_of_le (hL0 e) I.ok.above))).trans e1⟩
  ·by_cases hj:j=i
   ·subst hj
    rw[hi] at e1;cases e1;rw[List.getElem?_set_self hiσ] at e2;cases e2;exact⟨u,r,.inl ⟨hk,by simp⟩⟩
   ·rw[List.getElem?_set_ne (Ne.symm hj)] at e2
    obtain⟨u',r',q⟩:=hl j y v' e1 e2 e3;refine⟨u',r',?_⟩;rcases q with ⟨k,e⟩ |⟨k,c,e,z⟩
    ·refine .inl ⟨k,?_⟩
     have:y≠x:=fun e=>hj (a7h hN e1 (e▸hi))
     simp[this,e]
    ·exact .inr ⟨k,c,e,z.sameBut hs (cne y c e)⟩
  ·obtain⟨w',z⟩:=I.cell y c e
   exact⟨w',z.sameBut hs (cne y c e)⟩
  ·obtain⟨e,n,ne,nf,d⟩:=I.pin p hp
   exact⟨(hs.2 p.1 ne).trans e,n,ne,nf,d⟩
 ·have hfn:X.fn x=true:=by
   rcases hf with z |z
   ·exact z
   ·rw[z] at hk;cases hk
  obtain⟨c,hc⟩:=I.ok.has x (.inl hk);obtain⟨w',z⟩:=I.cell x c hc;refine wpAny_storeName_cell I.ok.kind hk hc z (fun h' hc' hs=>?_);obtain⟨oc,hoc,hocd⟩:=id z;refine h { s with heap:=h' } ⟨I.ok,I.os,I.bare,⟨fun b o e n hb hx=>?_,fun b o e n hb hx=>?_,I.base.free,fun b o e hx=>?_,I.base.tups,I.base.frzs,I.base.tbls⟩,⟨m,hn.sameBut hs (Ne.symm (cne x c hc)),fun j y v' e1 e2 e3=>?_⟩,fun y c' e=>?_,I.free,I.freeC,fun p hp=>?_,tracked ⟨oc,hoc,I.freeC x c hc⟩ hs,by simpa using I.len⟩ ⟨c,hs,.inr hc⟩
  ·exact(hs.2 b (nL0 (Nat.lt_of_lt_of_le (hL0 e) (I.ok.cab x c hfn hc)))).trans (I.base.keep b o e n hb hx)
  ·obtain⟨sl,e1⟩:=I.base.slot b o e n hb hx
   exact⟨sl,(hs.2 b (nL0 (Nat.lt_of_lt_of_le (hL0 e) (I.ok.cab x c hfn hc)))).trans e1⟩
  ·obtain⟨o',e1⟩:=I.base.there b o e hx
   exact⟨o',(hs.2 b (nL0 (Nat.lt_of_lt_of_le (hL0 e) (I.ok.cab x c hfn hc)))).trans e1⟩
  ·by_cases hj:j=i
   ·subst hj
    rw[hi] at e1;cases e1;rw[List.getElem?_set_self hiσ] at e2;cases e2;exact⟨u,r,.inr ⟨.inl hk,c,hc,hc'⟩⟩
   ·rw[List.getElem?_set_ne (Ne.symm hj)] at e2
    obtain⟨u',r',q⟩:=hl j y v' e1 e2 e3;refine⟨u',r',?_⟩;rcases q with q |⟨k,c',e,z'⟩
    ·exact .inl q
    ·refine .inr ⟨k,c',e,z'.sameBut hs ?_⟩
     rintro rfl;exact hj (a7h hN e1 (I.ok.inj _ _ _ e hc▸hi))
  ·by_cases hcc:c'=c
   ·subst hcc;exact⟨_,hc'⟩
   ·obtain⟨w2,z2⟩:=I.cell y c' e
    exact⟨w2,z2.sameBut hs hcc⟩
  ·obtain⟨e,n,ne,nf,d⟩:=I.pin p hp
   refine⟨(hs.2 p.1 ?_).trans e,n,ne,nf,d⟩;intro q;rw[q,hoc] at e;have q':oc=p.2:=Option.some.inj e;exact d w' (by rw[<-q'];exact hocd)
theorem a4z {M:Model}{A:Around}{E:Vs0}{i:Nat}{x:Str}{v:V}{u:Value}{Q:Unit->Shared->Prop}(I:Inv X pins σ H s)(hN:X.N.Nodup)(hi:X.N[i]? =some x)(hx:Loc X.env.scope x)(r:a0S v u)
  (h:∀s',Inv X pins (σ.set i (some v)) H s'->Q () s') (hf:X.fn x=true\/X.env.scope.names.lookup x=some .local:=by first |exact .inl rfl |exact .inr rfl |assumption):wpAny M A (storeName X.env x u) Q E s:=
 a5N I hN hi hx r (fun s' I' _=>h s' I') hf
theorem Inv.call' {s':Shared}{ch:List Addr}(I:Inv X pins σ H s)(ho:s'.os=s.os)(u:Un (frs X.stack) ch H H' s.heap s'.heap)(hok:HOk X.prog X.w H' s'.heap)(hg:AllBare s'.gens)
  (hch:∀b∈ch,(b∈X.ex\/X.s₀.heap.objs.size<=b)/\b≠X.env.locals/\(∀x c,X.env.cells.lookup x=some c->c≠b)/\∀p∈X.pn++pins,p.1≠b):Inv X pins σ H' s':=by
 obtain⟨h',g',d',t',o'⟩:=s';have e:o'=s.os:=ho;subst e;exact I.call (g':=g') (t':=t') (d':=d') u hok hg hch
end
abbrev XK:=Value->Option Addr->Hp->Prop
abbrev St:=List (Option V)
abbrev VK:=V->Hp->Prop
abbrev TE:=St->Hp->VK->Prop
abbrev TT:=St->Hp->(Bool->Hp->Prop)->Prop
abbrev TA:=St->Hp->(List V->Hp->Prop)->Prop
structure a5Y where
 nx:St->Hp->Prop
 rt:VK
 bk:St->Hp->Prop:=fun _ _=>False
 ct:St->Hp->Prop:=fun _ _=>False
abbrev TS:=a5Y->St->Hp->Prop
def EP (X:Cx)(pins:List (Addr×Obj))(σ:St)(Q:VK)(u:Value)(s':Shared):Prop:=∃v H',Inv X pins σ H' s'/\a0S v u/\Q v H'
def TP (X:Cx)(pins:List (Addr×Obj))(σ:St)(Q:Bool->Hp->Prop)(b:Bool)(s':Shared):Prop:=∃H',Inv X pins σ H' s'/\Q b H'
def AP (X:Cx)(pins:List (Addr×Obj))(σ:St)(Q:List V->Hp->Prop)(us:List Value)(s':Shared):Prop:=∃vs H',Inv X pins σ H' s'/\a0V vs us/\Q vs H'
def SP (X:Cx)(pins:List (Addr×Obj))(D:a5Y)(f:Flow)(s':Shared):Prop:=
 match f with
 | .next=>∃σ' H',Inv X pins σ' H' s'/\D.nx σ' H'
 | .brk=>∃σ' H',Inv X pins σ' H' s'/\D.bk σ' H'
 | .cont=>∃σ' H',Inv X pins σ' H' s'/\D.ct σ' H'
 | .ret u=>∃v σ' H',Inv X pins σ' H' s'/\a0S v u/\D.rt v H'
def PE (X:Cx)(e:Expr)(t:TE):Prop:=
 ∀(pins:List (Addr×Obj)) (s:Shared) (σ:St) (H:Hp) (Q:VK),Inv X pins σ H s->t σ H Q->wpAny (model X.prog X.w) X.A (eval e X.env) (EP X pins σ Q) X.xe s
def PT (X:Cx)(e:Expr)(t:TT):Prop:=
 ∀(pins:List (Addr×Obj)) (s:Shared) (σ:St) (H:Hp) (Q:Bool->Hp->Prop),Inv X pins σ H s->t σ H Q->wpAny (model X.prog X.w) X.A (isTrue e X.env (eval e X.env)) (TP X pins σ Q) X.xe s
def PW (X:Cx)(e:Expr)(t:TT):Prop:=
 ∀(whole:Sem Value) (pins:List (Addr×Obj)) (s:Shared) (σ:St) (H:Hp) (Q:Bool->Hp->Prop),Inv X pins σ H s->t σ H Q->wpAny (model X.prog X.w) X.A (isTrue e X.env whole) (TP X pins σ Q) X.xe s
theorem PW.pt {X:Cx}{e:Expr}{t:TT}(h:PW X e t):PT X e t:=h _
def PA (X:Cx)(es:List Expr)(t:TA):Prop:=
 ∀(pos:Pos) (pins:List (Addr×Obj)) (s:Shared) (σ:St) (H:Hp) (Q:List V->Hp->Prop),Inv X pins σ H s->t σ H Q->wpAny (model X.prog X.w) X.A (spliced (backTo pos (starEach es X.env))) (AP X pins σ Q) X.xe s
def PS (X:Cx)(st:Stmt)(t:TS):Prop:=
 ∀(pins:List (Addr×Obj)) (s:Shared) (σ:St) (H:Hp) (D:a5Y),Inv X pins σ H s->t D σ H->wpAny (model X.prog X.w) X.A (exec st X.env) (SP X pins D) X.xe s
def PSs (X:Cx)(st:List Stmt)(t:TS):Prop:=
 ∀(pins:List (Addr×Obj)) (s:Shared) (σ:St) (H:Hp) (D:a5Y),Inv X pins σ H s->t D σ H->wpAny (model X.prog X.w) X.A (execs st X.env) (SP X pins D) X.xe s
theorem thn {α:Type}{t:Sem α}{Q Q':α->Shared->Prop}{M:Model}{A:Around}{E:Vs0}{s:Shared}(h:wpAny M A t Q E s)(hQ:∀a s,Q a s->Q' a s):wpAny M A t Q' E s:=wpAny_mono h hQ fun _ _ x=>x
section
variable {X:Cx}
theorem bin {a b:Expr}{ta tb:TE}(ha:PE X a ta)(hb:PE X b tb){pins:List (Addr×Obj)}{s:Shared}{σ:St}{H:Hp}{R:V->V->Hp->Prop}(I:Inv X pins σ H s)(h:ta σ H fun x H1=>tb σ H1 fun y H2=>R x y H2)
  {α:Type} {Q:α->Shared->Prop} {f:Value->Value->Sem α}
  (hf:∀v u s2 x y H2,Inv X pins σ H2 s2->a0S x v->a0S y u->R x y H2->wpAny (model X.prog X.w) X.A (f v u) Q X.xe s2) :
  wpAny (model X.prog X.w) X.A (eval a X.env) (fun v s₁=>wpAny (model X.prog X.w) X.A (eval b X.env) (fun u s₂=>wpAny (model X.prog X.w) X.A (f v u) Q X.xe s₂) X.xe s₁) X.xe s:=by
 refine thn (ha pins s σ H _ I h) fun v s1 ⟨x,H1,I1,r1,q1⟩=>?_;refine thn (hb pins s1 σ H1 _ I1 q1) fun u s2 ⟨y,H2,I2,r2,q2⟩=>?_;exact hf v u s2 x y H2 I2 r1 r2 q2
def b4E (i:Nat):TE:=fun σ H Q=>∃v,σ[i]? =some (some v)/\Q v H
def tC (v:V):TE:=fun _ H Q=>Q v H
theorem b4i {i:Nat}{x:Str}{pos:Pos}(hN:X.N[i]? =some x)(hv:Vis X.env.scope x)(hd:(x==("__debug__":Str))=false:=by decide)(hcd:(x==("__classdict__":Str))=false:=by decide):PE X (.Name x pos) (b4E i):=by
 intro pins s σ H Q I h;obtain⟨v,e,h⟩:=h;obtain⟨m,hn,hl⟩:=I.loc;obtain⟨u,r,l⟩:=hl i x v hN e hv;have fin:EP X pins σ Q u s:=⟨v,H,I,r,h⟩;rcases l with ⟨hk,hm⟩ |⟨hk,c,hc,hcell⟩
 ·exact wpAny_Name (wpAny_loadName_local I.ok.kind hk hn hm fin) hd
 ·rcases hk with hk |hk
  ·exact wpAny_Name (wpAny_loadName_cell I.ok.kind hk hc hcell fin) hd
  ·exact wpAny_Name (wpAny_loadName_free I.ok.kind hk hc hcell fin hcd) hd
theorem a0g {i j pos}:PE X (.Constant (.int i) j pos) (tC (.int i)):=fun _ _ _ H _ I h=>wpAny_Constant_int ⟨.int i,H,I.tok _,⟨_,rfl⟩,h⟩
theorem a3m {b j pos}:PE X (.Constant (.bool b) j pos) (tC (.bl b)):=fun _ _ _ H _ I h=>Constant_bool ⟨.bl b,H,I,rfl,h⟩
theorem a1r {j pos}:PE X (.Constant .none j pos) (tC .non):=fun _ _ _ H _ I h=>Constant_none ⟨.non,H,I,rfl,h⟩
theorem a0M {x j pos}:PE X (.Constant (.str x) j pos) (tC (.str x)):=fun _ _ _ H _ I h=>Calls.Constant_str ⟨.str x,H,I.tok _,⟨_,rfl⟩,h⟩
def Gl (X:Cx)(x:Str):Prop:=X.env.kindOf x=some .globalImplicit
theorem a4W {E:Vs0}{pins:List (Addr×Obj)}{s:Shared}{σ:St}{H:Hp}{x:Str}{u:Value}{pos:Pos}{Q:Vs0}(I:Inv X pins σ H s)(hg:Gl X x)(hm:X.mg x=some u)(h:Q u s)
  (hd:(x==("__debug__":Str))=false:=by decide):wpAny (model X.prog X.w) X.A (eval (.Name x pos) X.env) Q E s:=
 Calls.Name_function_global I.ok.kind hg (Calls.loadGlobal_global (by rw[I.ok.glob];exact I.mod.glob.keeps I.bk) hm h) hd
theorem a3P {E:Vs0}{pins:List (Addr×Obj)}{s:Shared}{σ:St}{H:Hp}{x:Str}{u:Value}{pos:Pos}{Q:Vs0}(I:Inv X pins σ H s)(hg:Gl X x)(hm:X.mg x=none)(hv:bootBuiltins x=some u)(h:Q u s)
  (hn:x≠"__name__":=by decide) (hd:(x==("__debug__":Str))=false:=by decide):wpAny (model X.prog X.w) X.A (eval (.Name x pos) X.env) Q E s:=by
 obtain⟨mb,h1,h2⟩:=I.mod.blt;exact Calls.Name_function_global I.ok.kind hg (Calls.loadGlobal_builtin (by rw[I.ok.glob];exact I.mod.glob.keeps I.bk) hm (by rw[I.ok.blt];exact h1.keeps I.bk) ((h2 x hn).trans hv) h) hd
theorem a4I {x:Str}{v:V}{u:Value}{pos:Pos}(hg:Gl X x)(hm:X.mg x=some u)(r:a0S v u)(hd:(x==("__debug__":Str))=false:=by decide):PE X (.Name x pos) (tC v):=
 fun _ _ _ H _ I h=>a4W I hg hm ⟨v,H,I,r,h⟩ hd
theorem a0v {x:Str}{v:V}{u:Value}{pos:Pos}(hg:Gl X x)(hm:X.mg x=none)(hv:bootBuiltins x=some u)(r:a0S v u)(hn:x≠"__name__":=by decide)(hd:(x==("__debug__":Str))=false:=by decide):PE X (.Name x pos) (tC v):=
 fun _ _ _ H _ I h=>a3P I hg hm hv ⟨v,H,I,r,h⟩ hn hd
variable {a b:Expr}{ta tb:TE}{pos:Pos}
def PC (X:Cx)(op:CmpOp)(a b:Expr)(t:TE):Prop:=
 ∀(pins:List (Addr×Obj)) (s:Shared) (σ:St) (H:Hp) (Q:VK),Inv X pins σ H s->t σ H Q →
  wpAny (model X.prog X.w) X.A (eval a X.env) (fun v s₁=>wpAny (model X.prog X.w) X.A (eval b X.env) (fun u s₂=>wpAny (model X.prog X.w) X.A (compareOp op v u) (EP X pins σ Q) X.xe s₂) X.xe s₁) X.xe s
def tB (t:TE):TT:=fun σ H Q=>t σ H fun x H1=>∃c,x=.bl c/\Q c H1
theorem b1G {op:CmpOp}{t:TE}(h:PC X op a b t)(h1:behindInMarks op b=false:=by first |exact nobehind _ (by decide) (by decide) |rfl):PE X (.Compare a [op] [b] pos) t:=fun pins s σ H Q I hw=>wpAny_Compare1 (h pins s σ H Q I hw) h1
theorem b4k {op:CmpOp}{t:TE}(h:PC X op a b t)(h1:behindInMarks op b=false:=by first |exact nobehind _ (by decide) (by decide) |rfl):PT X (.Compare a [op] [b] pos) (tB t):=by
 intro pins s σ H Q I hw;refine wpAny_isTrue_Compare1 (thn (h pins s σ H _ I hw) fun v s1 h1=>thn h1 fun u s2 h2=>thn h2 fun c s3 ⟨x,H1,I1,r1,q1⟩=>?_) h1;obtain⟨d,rfl,q⟩:=q1;cases r1;exact wpAny_truthy_bool ⟨H1,I1,q⟩
theorem a0D {e:Expr}{t:TE}(h:PE X e t)(he:∀whole,isTrue e X.env whole=(do let v <-whole;standAt e.pos;holding [v] (truthy v)):=by intro _;rfl):PT X e (tB t):=by
 intro pins s σ H Q I hw;refine isTrue_plain (thn (h pins s σ H _ I hw) fun v s1 ⟨x,H1,I1,r1,q1⟩=>?_) (he _);obtain⟨d,rfl,q⟩:=q1;cases r1;exact wpAny_truthy_bool ⟨H1,I1,q⟩
variable {tA tB':TT}{rest:List Expr}
def tOr (t u:TT):TT:=fun σ H Q=>t σ H fun c H1=>if c=true then Q true H1 else u σ H1 Q
def tNot (t:TT):TT:=fun σ H Q=>t σ H fun c H1=>Q (!c) H1
theorem a1Q (ha:PT X a tA):PW X (.BoolOp .Or [a] pos) tA:=by
 intro wh pins s σ H Q I h;refine isTrue_or (thn (ha pins s σ H Q I h) fun c s1 e=>?_);cases c with
 |false=>exact isTrue_or_nil e
 |true=>exact e
theorem a2F (ha:PT X a tA)(hb:PW X (.BoolOp .Or (b::rest) pos) tB'):PW X (.BoolOp .Or (a::b::rest) pos) (tOr tA tB'):=by
 intro wh pins s σ H Q I h;refine isTrue_or (thn (ha pins s σ H _ I h) fun c s1 ⟨H1,I1,q1⟩=>?_);cases c with
 |true=>exact⟨H1,I1,q1⟩
 |false=>exact hb wh pins s1 σ H1 Q I1 q1
theorem a1k (ha:PT X a tA):PT X (.UnaryOp .Not a pos) (tNot tA):=by
 intro pins s σ H Q I h;exact isTrue_not (ha pins s σ H (fun c H1=>Q (!c) H1) I h)
def b5i (ta tb:TE):TE:=fun σ H Q=>ta σ H fun x H1=>∃c,x=.bl c/\if c=true then tb σ H1 Q else Q (.bl false) H1
def b5p (ta:TE):TE:=fun σ H Q=>ta σ H fun x H1=>∃c,x=.bl c/\Q (.bl (!c)) H1
theorem a2x {op}{t:TE}(h:PE X a t):PE X (.BoolOp op [a] pos) t:=fun pins s σ H Q I hw=>BoolOp_one (h pins s σ H Q I hw)
theorem a2d (ha:PE X a ta)(hb:PE X (.BoolOp .And (b::rest) pos) tb):PE X (.BoolOp .And (a::b::rest) pos) (b5i ta tb):=by
 intro pins s σ H Q I h;refine BoolOp_and (thn (ha pins s σ H _ I h) fun v s1 ⟨x,H1,I1,r1,q1⟩=>?_);obtain⟨c,rfl,q1⟩:=q1;cases r1;refine wpAny_truthy_bool ?_;cases c with
 |true=>exact hb pins s1 σ H1 Q I1 q1
 |false=>exact⟨.bl false,H1,I1,rfl,q1⟩
theorem b1L (ha:PE X a ta):PE X (.UnaryOp .Not a pos) (b5p ta):=by
 intro pins s σ H Q I h;refine UnaryOp_ (thn (ha pins s σ H _ I h) fun v s1 ⟨x,H1,I1,r1,q1⟩=>?_);obtain⟨c,rfl,q1⟩:=q1;cases r1;exact not_of (wpAny_truthy_bool ⟨.bl (!c),H1,I1,rfl,q1⟩)
def tIf (t:TT)(ta tb:TE):TE:=fun σ H Q=>t σ H fun c H1=>if c=true then ta σ H1 Q else tb σ H1 Q
theorem b0t {c:Expr}(hc:PT X c tA)(ha:PE X a ta)(hb:PE X b tb):PE X (.IfExp c a b pos) (tIf tA ta tb):=by
 intro pins s σ H Q I h;refine wpAny_IfExp (thn (hc pins s σ H _ I h) fun d s1 ⟨H1,I1,q1⟩=>?_);cases d with
 |true=>exact ha pins s1 σ H1 Q I1 q1
 |false=>exact hb pins s1 σ H1 Q I1 q1
end
def SqL (K:Fg0)(H:Hp)(a:Addr)(xs:List V):Prop:=
 Rd H a (.lst xs) ∨
  ∃(o:Obj) (its:Array Value) (n:Nat),K.lookup a=some o/\o.cls=.type "list"/\o.dict=none/\o.data=.seq its n/\its.size<=sizeLine/\a0V xs its.toList
def SqT (K:Fg0)(H:Hp)(a:Addr)(xs:List V):Prop:=
 Rd H a (.tup xs) ∨
  ∃(o:Obj) (its:Array Value) (n:Nat),K.lookup a=some o/\o.cls=.type "tuple"/\o.data=.seq its n/\its.size<=sizeLine/\a0V xs its.toList
def absV:Value->Option V
 | .none=>some .non
 | .bool b=>some (.bl b)
 | .int i _=>some (.int i)
 | .str x _=>some (.str x)
 | .bytes b _=>some (.byt b)
 | .float b _=>some (.flt b)
 | .ref a=>some (.ref a)
 | .type n=>some (.ty n)
 |_=>none
theorem a0S.abs {x:V}{u:Value}(r:a0S x u):absV u=some x:=by
 cases x with
 |non=>cases r;rfl
 |bl _=>cases r;rfl
 |int _=>obtain⟨t,rfl⟩:=r;rfl
 |str _=>obtain⟨t,rfl⟩:=r;rfl
 |byt _=>obtain⟨t,rfl⟩:=r;rfl
 |flt _=>obtain⟨t,rfl⟩:=r;rfl
 |ref _=>cases r;rfl
 |ty _=>cases r;rfl
theorem a0S.inj {x y:V}{u:Value}(r:a0S x u)(q:a0S y u):x=y:=Option.some.inj (r.abs.symm.trans q.abs)
theorem a0V.inj:∀{xs ys:List V} {us:List Value},a0V xs us->a0V ys us->xs=ys
 |_,_,_,.nil,.nil=>rfl
 |_,_,_,.cons r t,.cons r' t'=>by rw[r.inj r',a0V.inj t t']
section
variable {X:Cx}{pins:List (Addr×Obj)}{σ:St}{H:Hp}{s:Shared}{a:Addr}{xs ys:List V}
theorem SqL.of {K:Fg0}(h:H a=some (.lst xs)):SqL K H a xs:=.inl (.inl h)
theorem SqT.of {K:Fg0}(h:H a=some (.tup xs)):SqT K H a xs:=.inl (.inl h)
theorem Inv.list (I:Inv X pins σ H s)(h:SqL X.K H a xs):∃its:List Value,a0V xs its/\PlainL s.heap a its.toArray/\xs.length<=sizeLine:=by
 rcases h with h |⟨o,its,n,hk,hc,hd,hs,hz,r⟩
 ·obtain⟨z,its,n,r,e⟩:=h.ok I.hok
  exact⟨its,r,⟨_,n,e,rfl,rfl,rfl⟩,z⟩
 ·refine⟨its.toList,r,⟨o,n,I.kIn a o hk,hc,hd,by simpa using hs⟩,?_⟩
  have e:=r.length;simp only[aL0] at e
  omega
theorem Inv.tuple (I:Inv X pins σ H s)(h:SqT X.K H a xs):∃its:List Value,a0V xs its/\IsTup s.heap a its.toArray/\xs.length<=sizeLine:=by
 rcases h with h |⟨o,its,n,hk,hc,hs,hz,r⟩
 ·obtain⟨z,its,r,p⟩:=h.ok I.hok
  exact⟨its,r,p,z⟩
 ·refine⟨its.toList,r,⟨o,I.kIn a o hk,hc,n,by simpa using hs⟩,?_⟩
  have e:=r.length;simp only[aL0] at e
  omega
theorem Inv.list_inj (I:Inv X pins σ H s)(h:SqL X.K H a xs)(h':SqL X.K H a ys):xs=ys:=by
 obtain⟨its,r,⟨o,n,e,_,_,d⟩,_⟩:=I.list h;obtain⟨its',r',⟨o',n',e',_,_,d'⟩,_⟩:=I.list h';rw[e] at e';cases e';rw[d] at d'
 injection d' with d1 _
 have:its=its':=by simpa using congrArg Array.toList d1
 subst this;exact r.inj r'
theorem Inv.tuple_inj (I:Inv X pins σ H s)(h:SqT X.K H a xs)(h':SqT X.K H a ys):xs=ys:=by
 obtain⟨its,r,⟨o,e,_,n,d⟩,_⟩:=I.tuple h;obtain⟨its',r',⟨o',e',_,n',d'⟩,_⟩:=I.tuple h';rw[e] at e';cases e';rw[d] at d'
 injection d' with d1 _
 have:its=its':=by simpa using congrArg Array.toList d1
 subst this;exact r.inj r'
end
abbrev Cx.wish (X:Cx)(E:Vs0):Cx:={ X with xe:=E }
abbrev Cx.nox (X:Cx):Cx:=X.wish fun _ _=>False
theorem Cx.Ok.wish {X:Cx}(ok:X.Ok)(E:Vs0):(X.wish E).Ok:=
 ⟨ok.mod,ok.kind,ok.glob,ok.blt,ok.above,ok.inj,ok.has,ok.cab,ok.hd,ok.frames,ok.stk,ok.exf,ok.bs,ok.bsz,ok.noex,ok.exfs,ok.funs,ok.frf⟩
theorem Cx.Ok.unwish {X:Cx}{E:Vs0}(ok:(X.wish E).Ok):X.Ok:=
 ⟨ok.mod,ok.kind,ok.glob,ok.blt,ok.above,ok.inj,ok.has,ok.cab,ok.hd,ok.frames,ok.stk,ok.exf,ok.bs,ok.bsz,ok.noex,ok.exfs,ok.funs,ok.frf⟩
section
variable {X:Cx}{pins:List (Addr×Obj)}{σ:St}{H:Hp}{s:Shared}{E:Vs0}
theorem Inv.wish (I:Inv X pins σ H s)(E:Vs0):Inv (X.wish E) pins σ H s:=⟨I.ok.wish E,I.os,I.bare,I.base,I.loc,I.cell,I.free,I.freeC,I.pin,I.hok,I.len⟩
theorem Inv.unwish (I:Inv (X.wish E) pins σ H s):Inv X pins σ H s:=⟨I.ok.unwish,I.os,I.bare,I.base,I.loc,I.cell,I.free,I.freeC,I.pin,I.hok,I.len⟩
theorem SP.unwish {D:a5Y}{f:Flow}{s':Shared}(h:SP (X.wish E) pins D f s'):SP X pins D f s':=by
 cases f with
 |next=>obtain⟨σ',H',I,q⟩:=h;exact⟨σ',H',I.unwish,q⟩
 |brk=>obtain⟨σ',H',I,q⟩:=h;exact⟨σ',H',I.unwish,q⟩
 |cont=>obtain⟨σ',H',I,q⟩:=h;exact⟨σ',H',I.unwish,q⟩
 |ret u=>obtain⟨v,σ',H',I,r,q⟩:=h;exact⟨v,σ',H',I.unwish,r,q⟩
theorem PE.nox {e:Expr}{t:TE}(h:PE X.nox e t):PE X e t:=fun pins s σ H Q I hw=>
 wpAny_mono (h pins s σ H Q (I.wish _) hw) (fun _ _ ⟨v,H',I',r,q⟩=>⟨v,H',I'.unwish,r,q⟩) fun _ _ z=>False.elim z
theorem PSs.nox {st:List Stmt}{t:TS}(h:PSs X.nox st t):PSs X st t:=fun pins s σ H D I hw=>
 wpAny_mono (h pins s σ H D (I.wish _) hw) (fun _ _ q=>q.unwish) fun _ _ z=>False.elim z
end
section
variable {X:Cx}{st:Stmt}{rest:List Stmt}{t u:TS}{e:Expr}{te:TE}{pos:Pos}
def b4N:TS:=fun D σ H=>D.nx σ H
def b5H (t u:TS):TS:=fun D σ H=>t { D with nx:=u D } σ H
theorem a0m:PSs X [] b4N:=fun _ _ σ H _ I h=>wpAny_execs_nil ⟨σ,H,I,h⟩
theorem a0d (h1:PS X st t)(h2:PSs X rest u):PSs X (st::rest) (b5H t u):=by
 intro pins s σ H D I h;refine wpAny_execs_cons (thn (h1 pins s σ H { D with nx:=u D } I h) fun f s1 q=>?_);cases f with
 |next=>
  obtain⟨σ',H',I',q⟩:=q;exact h2 pins s1 σ' H' D I' q
 |ret v=>exact q
 |brk=>exact q
 |cont=>exact q
theorem a0h (h1:PS X st t):PSs X [st] t:=by
 intro pins s σ H D I h;refine wpAny_execs_cons (thn (h1 pins s σ H D I h) fun f s1 q=>?_);cases f with
 |next=>exact wpAny_execs_nil q
 |ret v=>exact q
 |brk=>exact q
 |cont=>exact q
theorem Inv.quiet {pins:List (Addr×Obj)}{σ:St}{H:Hp}{s:Shared}(I:Inv X pins σ H s):interactive X.env=false:=by simp[interactive,I.ok.kind]
def b5k (te:TE):TS:=fun D σ H=>te σ H fun _ H1=>D.nx σ H1
theorem a0U (he:PE X e te)(hs:swapsWith e none pos.line X.env=pure false:=by rfl):PS X (.Expr e pos) (b5k te):=by
 intro pins s σ H D I h;exact wpAny_Expr_any (thn (he pins s σ H _ I h) fun v s1 ⟨x,H1,I1,r1,q1⟩=>⟨σ,H1,I1,q1⟩) I.quiet hs
def tRet (te:TE):TS:=fun D σ H=>te σ H D.rt
theorem a0s (he:PE X e te):PS X (.Return (some e) pos) (tRet te):=by
 intro pins s σ H D I h;exact wpAny_Return_some (thn (he pins s σ H _ I h) fun v s1 ⟨x,H1,I1,r1,q1⟩=>⟨x,σ,H1,I1,r1,q1⟩)
def tIfS (c:TT)(t u:TS):TS:=fun D σ H=>c σ H fun b H1=>if b=true then t D σ H1 else u D σ H1
theorem a0F {c:Expr}{a b:List Stmt}{tc:TT}(hc:PT X c tc)(ha:PSs X a t)(hb:PSs X b u):PS X (.If c a b pos) (tIfS tc t u):=by
 intro pins s σ H D I h;refine wpAny_If (thn (hc pins s σ H _ I h) fun d s1 ⟨H1,I1,q1⟩=>?_);cases d with
 |true=>exact ha pins s1 σ H1 D I1 q1
 |false=>exact hb pins s1 σ H1 D I1 q1
def b3a:TS:=fun _ _ _=>False
theorem a0l {sts:List Stmt}:PSs X sts b3a:=fun _ _ _ _ _ _ h=>h.elim
end
abbrev TG:=V->St->Hp->(St->Hp->Prop)->Prop
abbrev TGs:=List V->St->Hp->(St->Hp->Prop)->Prop
def PG (X:Cx)(target:Expr)(t:TG):Prop:=
 ∀(pins:List (Addr×Obj)) (s:Shared) (σ:St) (H:Hp) (v:V) (u:Value) (Q:St->Hp->Prop),Inv X pins σ H s->a0S v u->t v σ H Q →
  wpAny (model X.prog X.w) X.A (assign target X.env u) (fun _ s'=>∃σ' H',Inv X pins σ' H' s'/\Q σ' H') X.xe s
def PGs (X:Cx)(ts:List Expr)(t:TGs):Prop:=
 ∀(pins:List (Addr×Obj)) (s:Shared) (σ:St) (H:Hp) (vs:List V) (us:List Value) (Q:St->Hp->Prop),Inv X pins σ H s->a0V vs us->t vs σ H Q →
  wpAny (model X.prog X.w) X.A (assignInOrder ((assignEach ts X.env).map (·.2)) us) (fun _ s'=>∃σ' H',Inv X pins σ' H' s'/\Q σ' H') X.xe s
abbrev b4D:=V->V->V->Hp->(Hp->Prop)->Prop
def a7F (X:Cx)(t:b4D):Prop:=
 ∀(pins:List (Addr×Obj)) (s:Shared) (σ:St) (H:Hp) (o i v:V) (ov iv u:Value) (Q:Hp->Prop),Inv X pins σ H s->a0S o ov->a0S i iv->a0S v u->t o i v H Q →
  wpAny (model X.prog X.w) X.A (setItem ov iv u) (fun _ s'=>∃H',Inv X pins σ H' s'/\Q H') X.xe s
section
variable {X:Cx}{pos:Pos}
def b3c (i:Nat):TG:=fun v σ H Q=>Q (σ.set i (some v)) H
theorem a0q {i:Nat}{x:Str}(hN:X.N.Nodup)(hi:X.N[i]? =some x)(hx:Loc X.env.scope x)(hf:X.fn x=true\/X.env.scope.names.lookup x=some .local:=by first |exact .inl rfl |exact .inr rfl |assumption):PG X (.Name x pos) (b3c i):=by
 intro pins s σ H v u Q I r h;exact wpAny_assign_Name (a4z I hN hi hx r (fun s' I'=>⟨_,H,I',h⟩) hf)
def gNil:TGs:=fun vs σ H Q=>vs=[]/\Q σ H
def b5w (t:TG)(u:TGs):TGs:=fun vs σ H Q=>∃v r,vs=v::r/\t v σ H fun σ' H'=>u r σ' H' Q
theorem a1Y:PGs X [] gNil:=by
 intro pins s σ H vs us Q I r h;obtain⟨e,h⟩:=h;subst e;cases r;exact assignInOrder_nil ⟨σ,H,I,h⟩
theorem a0E {e:Expr}{es:List Expr}{t:TG}{u:TGs}(h1:PG X e t)(h2:PGs X es u)
  (hs:(assignEach (e::es) X.env).map (·.2)=assign e X.env::(assignEach es X.env).map (·.2):=by rfl):PGs X (e::es) (b5w t u):=by
 intro pins s σ H vs us Q I r h;obtain⟨v,vr,e1,h⟩:=h;subst e1;cases r with
 |cons r rr=>
  rw[hs];refine assignInOrder_cons (thn (h1 pins s σ H _ _ _ I r h) fun _ s1 ⟨σ1,H1,I1,q1⟩=>?_);exact h2 pins s1 σ1 H1 _ _ Q I1 rr q1
def b5I (K:Fg0)(n:Nat)(t:TGs):TG:=fun v σ H Q=>∃a xs,v=.ref a/\SqT K H a xs/\xs.length=n/\t xs σ H Q
theorem a3L {es:List Expr}{k:Nat}{t:TGs}{n:Nat}(hc:X.calm=true)(h:PGs X es t)
  (hn:(assignEach es X.env).length=n:=by rfl) (hst:(assignEach es X.env).findIdx? (·.1)=none:=by rfl):PG X (.Tuple es k pos) (b5I X.K n t):=by
 intro pins s σ H v u Q I r hw;obtain⟨a,xs,e1,hq,hl,hw⟩:=hw;subst e1;cases r;obtain⟨its,rv,ht,hz⟩:=I.tuple hq;refine assign_Tuple_tuple (I.ok.hd hc) ht (by simp[hn,<-hl,rv.length]) hst fun h' hx=>?_;have I1:Inv X pins σ H { s with heap:=h' }:=I.kept (t':=s.toks) fun b o e=>hx b o (nL0 (hL0 e)) e;exact h pins _ σ H xs _ Q I1 (by simpa using rv) hw
def gSub (to ti:TE)(t:b4D):TG:=fun v σ H Q=>to σ H fun o H1=>ti σ H1 fun i H2=>t o i v H2 fun H3=>Q σ H3
theorem b3w {o i:Expr}{to ti:TE}{t:b4D}(ho:PE X o to)(hi:PE X i ti)(hs:a7F X t)
  (ha:∀v,assign (.Subscript o i pos) X.env v=(do
   let ov <-holding [v] (eval o X.env)
   let iv <-holding [v,ov] (eval i X.env)
   standAt pos
   holding [v,ov,iv] (setItem ov iv v)
   release [v,ov,iv] []):=by intro _;rfl):PG X (.Subscript o i pos) (gSub to ti t):=by
 intro pins s σ H v u Q I r h;rw[ha];refine wB0 (wpAny_holding (thn (ho pins s σ H _ I h) fun ov s1 ⟨x,H1,I1,r1,q1⟩=>?_));refine wB0 (wpAny_holding (thn (hi pins s1 σ H1 _ I1 q1) fun iv s2 ⟨y,H2,I2,r2,q2⟩=>?_));refine wB0 (wpAny_standAt (wB0 (wpAny_holding (thn (hs pins s2 σ H2 x y v ov iv u _ I2 r1 r2 r q2) fun _ s3 ⟨H3,I3,q3⟩=>?_))));exact wpAny_release ⟨σ,H3,I3,q3⟩
def b5T (te:TE)(g:TG):TS:=fun D σ H=>te σ H fun x H1=>g x σ H1 D.nx
theorem b1C {tg e:Expr}{te:TE}{g:TG}(he:PE X e te)(hg:PG X tg g)(hs:swapsWithSole [tg] e pos.line X.env=pure false:=by rfl)(hw:swappedStores [tg] e X.env=pure none:=by rfl)
  (h1:(assignEach [tg] X.env).map (·.2)=[assign tg X.env]:=by rfl):PS X (.Assign [tg] e pos) (b5T te g):=by
 intro pins s σ H D I h;refine wpAny_Assign_stores (thn (he pins s σ H _ I h) fun v s1 ⟨x,H1,I1,r1,q1⟩=>?_) hs hw;rw[h1];exact thn (hg pins s1 σ H1 x v _ I1 r1 q1) fun _ s2 q=>q
theorem a0w {i:Nat}{x:Str}{e:Expr}{te:TE}{pos':Pos}(hN:X.N.Nodup)(hi:X.N[i]? =some x)(hx:Loc X.env.scope x)(he:PE X e te)(hs:swapsWith e (some (.Name x pos')) pos.line X.env=pure false:=by rfl)(hf:X.fn x=true\/X.env.scope.names.lookup x=some .local:=by first |exact .inl rfl |exact .inr rfl |assumption) :
  PS X (.Assign [.Name x pos'] e pos) (b5T te (b3c i)):=by
 intro pins s σ H D I h;refine wpAny_Assign_Name (thn (he pins s σ H _ I h) fun v s1 ⟨y,H1,I1,r1,q1⟩=>?_) hs;exact a4z I1 hN hi hx r1 (fun s2 I2=>⟨_,H1,I2,q1⟩) hf
end
structure It where
 go:Nat->Hp->Prop
 yld:Nat->Hp->V->Hp->Prop
 stop:Nat->Hp->Prop
def a4f (X:Cx)(pins:List (Addr×Obj))(H:Hp)(b:Addr):Prop:=
 H b=none/\b≠X.env.locals/\b∉X.fs/\(b∈X.ex\/X.s₀.heap.objs.size<=b)/\(∀x c,X.env.cells.lookup x=some c->c≠b)/\∀p∈X.pn++pins,p.1≠b
theorem Inv.fpOk {X:Cx}{pins:List (Addr×Obj)}{σ:St}{H H':Hp}{s:Shared}{b:Addr}(I:Inv X pins σ H s)(hb:s.heap.objs.size<=b)(hn:H' b=none):a4f X pins H' b:=by
 refine⟨hn,Nat.ne_of_gt (Nat.lt_of_lt_of_le I.lt hb),I.nofs hb,.inr (Nat.le_trans I.sz hb),fun x c e z=>?_,fun p hp z=>?_⟩
 ·obtain⟨v,q⟩:=I.cell x c e
  exact absurd (Nat.lt_of_lt_of_le q.lt (by rw[z];exact hb)) (Nat.lt_irrefl _)
 ·exact absurd (Nat.lt_of_lt_of_le (hL0 (I.pin p hp).1) (by rw[z];exact hb)) (Nat.lt_irrefl _)
structure a9U (P:Program) (w:World) (K:Fg0) (tg:Expr) (J:It) (fp:List Addr) (it:Addr) (tn:Nat->Heap->Prop):Prop where
 mem:it∈fp
 obj:∀i h,tn i h->∀b∈fp,∃o,h.get? b=some o/\∀v,o.data≠.cell v
 keep:∀i h h',tn i h->(∀b∈fp,∀o,h.get? b=some o->h'.get? b=some o)->tn i h'
 item:∀(X:Cx),X.prog=P->X.w=w->X.K=K->X.calm=true->∀(i:Nat) (pins:List (Addr×Obj)) (s:Shared) (σ:St) (H:Hp) (E:Vs0),Inv X pins σ H s->(∀b∈fp,a4f X pins H b)->tn i s.heap->J.go i H →
  wpAny (model P w) X.A (pyNext (.ref it)) (fun r s1=>∃u,r=some u ∧
   wpAny (model P w) X.A (letOwnedTupleGo tg (.ref it) u) (fun _ s2=>∃x H',Inv X pins σ H' s2/\a0S x u/\J.yld i H x H'/\tn (i+1) s2.heap/\∀b∈fp,H' b=none) E s1) E s
 done:∀(X:Cx),X.prog=P->X.w=w->X.K=K->X.calm=true->∀(i:Nat) (pins:List (Addr×Obj)) (s:Shared) (σ:St) (H:Hp) (E:Vs0),Inv X pins σ H s->(∀b∈fp,a4f X pins H b)->tn i s.heap->J.stop i H →
  wpAny (model P w) X.A (pyNext (.ref it)) (fun r s1=>r=none/\Inv X pins σ H s1) E s
 self:∀(A:Around) (i:Nat) (s:Shared) (Q:Vs0) (E:Vs0),tn i s.heap->Q (.ref it) s->wpAny (model P w) A (pyIter (.ref it)) Q E s
abbrev TI:=St->Hp->(It->Hp->Prop)->Prop
def PIE (X:Cx)(pins:List (Addr×Obj))(σ:St)(tg:Expr)(R:It->Hp->Prop)(itv:Value)(s2:Shared):Prop:=
 ∃(it:Addr) (fp:List Addr) (tn:Nat->Heap->Prop) (J:It) (H':Hp),itv=.ref it/\Inv X pins σ H' s2/\a9U X.prog X.w X.K tg J fp it tn/\tn 0 s2.heap/\(∀b∈fp,a4f X pins H' b)/\R J H'
def PI (X:Cx)(tg iter:Expr)(wi:TI):Prop:=
 ∀(pins:List (Addr×Obj)) (s:Shared) (σ:St) (H:Hp) (R:It->Hp->Prop),Inv X pins σ H s->wi σ H R →
  wpAny (model X.prog X.w) X.A (eval iter X.env) (fun v s1=>wpAny (model X.prog X.w) X.A (pyIter v) (PIE X pins σ tg R) X.xe s1) X.xe s
theorem a8Y {M:Model}{A:Around}{E:Vs0}{s:Shared}{tg:Expr}{it:Addr}{u:Value}{o:Obj}{n:String}{vs:Array Value}{Q:Unit->Shared->Prop}(ho:s.heap.get? it=some o)(hc:o.cls=.type n)(hd:o.data=.fields vs)
  (hn:["enumerate","zip","dict_itemiterator","dict_reverseitemiterator","odict_iterator","itertools.zip_longest","itertools.pairwise"].contains n=false) (hQ:Q () s):wpAny M A (letOwnedTupleGo tg (.ref it) u) Q E s:=by
 unfold letOwnedTupleGo;cases tg<;>first
  |exact wP0 hQ
  | (cases u<;>first
    |exact wP0 hQ
    | (refine wB0 (wpAny_load ho ?_)
       rw[hc,hd];show wpAny M A (if (["enumerate","zip","dict_itemiterator","dict_reverseitemiterator","odict_iterator","itertools.zip_longest","itertools.pairwise"].contains n&&vs[0]?==some (rawInt _))=true then _ else _) Q E s;rw[if_neg (by intro h;rw[hn,Bool.false_and] at h;cases h)];exact wP0 hQ))
def Itl (K:Fg0)(a:Addr):It:=
 ⟨fun i H=>∃xs x,SqL K H a xs/\xs[i]? =some x,fun i H x H'=>H'=H/\∀xs,SqL K H a xs->xs[i]? =some x,fun i H=>∃xs,SqL K H a xs/\xs.length<=i⟩
def Itt (K:Fg0)(a:Addr):It:=
 ⟨fun i H=>∃xs x,SqT K H a xs/\xs[i]? =some x,fun i H x H'=>H'=H/\∀xs,SqT K H a xs->xs[i]? =some x,fun i H=>∃xs,SqT K H a xs/\xs.length<=i⟩
def Itr (lo:Int)(n:Nat):It:=⟨fun i _=>i<n,fun i H x H'=>H'=H/\x=.int (lo+i),fun i _=>n<=i⟩
theorem a9K {P:Program}{w:World}{K:Fg0}{tg:Expr}(a it:Addr):a9U P w K tg (Itl K a) [it] it (fun i h=>h.IsListIter it a i) where
 mem:=by simp
 obj:=fun i h st b hb=>by
  have e:b=it:=by simpa using hb
  subst e;obtain⟨o,e,c,d⟩:=st;exact⟨o,e,fun v z=>by rw[d] at z;cases z⟩
 keep:=fun i h h' st k=>st.at fun o e=>k it (by simp) o e
 item:=by
  intro X hP hw hK hc i pins s σ H E I hf st hg;subst hP hw hK;obtain⟨xs,x,hq,hx⟩:=hg;obtain⟨its,rv,p,hz⟩:=I.list hq;obtain⟨u,hu,ru⟩:=rv.get hx;obtain⟨f0,f1,f2,f3,f4,f5⟩:=hf it (by simp);refine wpAny_pyNext_list_item st p.isList (x:=u) (by simpa using hu) fun h' st' sb=>?_;have I1:Inv X pins σ H { s with heap:=h' }:=I.turned (t':=s.toks) (fun b o hb e=>(sb.2 b hb).trans e) f0 f1 f3 f4 f5;obtain⟨o,e,c,d⟩:=id st';exact⟨u,rfl,a8Y (s:={ s with heap:=h' }) e c d (by decide) ⟨x,H,I1,ru,⟨rfl,fun ys hy=>by rw[I.list_inj hy hq];exact hx⟩,st',fun b hb=>(hf b hb).1⟩⟩
 done:=by
  intro X hP hw hK hc i pins s σ H E I hf st hg;subst hP hw hK;obtain⟨xs,hq,hx⟩:=hg;obtain⟨its,rv,p,hz⟩:=I.list hq;obtain⟨f0,f1,f2,f3,f4,f5⟩:=hf it (by simp);have hl:=rv.length;exact wpAny_pyNext_list_end (I.ok.hd hc) st p.isList (by simp;omega) fun h' eb=>⟨rfl,I.turned (t':=s.toks) (fun b o hb e=>eb b o hb e) f0 f1 f3 f4 f5⟩
 self:=fun _ _ _ _ _ st h=>wpAny_pyIter_listiter st h
theorem a7M {P:Program}{w:World}{K:Fg0}{tg:Expr}(a it:Addr):a9U P w K tg (Itt K a) [it] it (fun i h=>h.IsTupleIter it a i) where
 mem:=by simp
 obj:=fun i h st b hb=>by
  have e:b=it:=by simpa using hb
  subst e;obtain⟨o,e,c,d⟩:=st;exact⟨o,e,fun v z=>by rw[d] at z;cases z⟩
 keep:=fun i h h' st k=>st.at fun o e=>k it (by simp) o e
 item:=by
  intro X hP hw hK hc i pins s σ H E I hf st hg;subst hP hw hK;obtain⟨xs,x,hq,hx⟩:=hg;obtain⟨its,rv,p,hz⟩:=I.tuple hq;obtain⟨u,hu,ru⟩:=rv.get hx;obtain⟨f0,f1,f2,f3,f4,f5⟩:=hf it (by simp);refine wpAny_pyNext_tuple_item st (show s.heap.IsTuple a its.toArray from p) (x:=u) (by simpa using hu) fun h' st' sb=>?_;have I1:Inv X pins σ H { s with heap:=h' }:=I.turned (t':=s.toks) (fun b o hb e=>(sb.2 b hb).trans e) f0 f1 f3 f4 f5;obtain⟨o,e,c,d⟩:=id st';exact⟨u,rfl,a8Y (s:={ s with heap:=h' }) e c d (by decide) ⟨x,H,I1,ru,⟨rfl,fun ys hy=>by rw[I.tuple_inj hy hq];exact hx⟩,st',fun b hb=>(hf b hb).1⟩⟩
 done:=by
  intro X hP hw hK hc i pins s σ H E I hf st hg;subst hP hw hK;obtain⟨xs,hq,hx⟩:=hg;obtain⟨its,rv,p,hz⟩:=I.tuple hq;obtain⟨f0,f1,f2,f3,f4,f5⟩:=hf it (by simp);have hl:=rv.length;exact wpAny_pyNext_tuple_end (I.ok.hd hc) st (show s.heap.IsTuple a its.toArray from p) (by simp;omega) fun h' eb=>⟨rfl,I.turned (t':=s.toks) (fun b o hb e=>eb b o hb e) f0 f1 f3 f4 f5⟩
 self:=fun _ _ _ _ _ st h=>wpAny_pyIter_tupleiter st h
theorem a7V {P:Program}{w:World}{K:Fg0}{tg:Expr}(it:Addr)(lo:Int)(n:Nat):a9U P w K tg (Itr lo n) [it] it (fun i h=>IsRangeIter h it (lo+(i:Nat) * 1) ((n:Int)-(i:Nat)) 1) where
 mem:=by simp
 obj:=fun i h st b hb=>by
  have e:b=it:=by simpa using hb
  subst e;exact⟨_,st,fun v z=>by
   have z':Data.fields _=Data.cell v:=z;cases z'⟩
 keep:=fun i h h' st k=>k it (by simp) _ st
 item:=by
  intro X hP hw hK hc i pins s σ H E I hf st hg;subst hP hw hK;obtain⟨f0,f1,f2,f3,f4,f5⟩:=hf it (by simp);have W:=Walks.range (prog:=X.prog) (w:=X.w) (I.ok.hd hc) it lo 1 n;refine W.item i s _ _ hg st fun v h' tk hv st' kk=>?_;obtain⟨t,rfl⟩:=hv;have I1:Inv X pins σ H { s with heap:=h',toks:=tk }:=I.turned (fun b o hb e=>kk b o (by simpa using hb) e) f0 f1 f3 f4 f5;refine⟨_,rfl,a8Y (s:={ s with heap:=h',toks:=tk }) (n:="range_iterator") st' rfl rfl (by decide) ⟨.int (lo+i),H,I1,⟨t,?_⟩,⟨rfl,rfl⟩,st',fun b hb=>(hf b hb).1⟩⟩;rw[Int.mul_one]
 done:=by
  intro X hP hw hK hc i pins s σ H E I hf st hg;subst hP hw hK;obtain⟨f0,f1,f2,f3,f4,f5⟩:=hf it (by simp);exact wpAny_pyNext_range_end (I.ok.hd hc) st (by have:n<=i:=hg;omega) fun h' eb=>⟨rfl,I.turned (t':=s.toks) (fun b o hb e=>eb b o hb e) f0 f1 f3 f4 f5⟩
 self:=fun _ _ _ _ _ st h=>wpAny_pyIter_rangeiter st h
section
variable {X:Cx}{tg:Expr}
def b4W (K:Fg0)(tl:TE):TI:=fun σ H R=>tl σ H fun x H1=>∃a,x=.ref a/\(∃xs,SqL K H1 a xs)/\R (Itl K a) H1
def iTup (K:Fg0)(tl:TE):TI:=fun σ H R=>tl σ H fun x H1=>∃a,x=.ref a/\(∃xs,SqT K H1 a xs)/\R (Itt K a) H1
theorem a1D {l:Expr}{tl:TE}(hl:PE X l tl):PI X tg l (b4W X.K tl):=by
 intro pins s σ H R I h;refine thn (hl pins s σ H _ I h) fun v s1 ⟨x,H1,I1,r1,q1⟩=>?_;obtain⟨a,e,⟨xs,hq⟩,q⟩:=q1;subst e;cases r1;obtain⟨its,rv,p,hz⟩:=I1.list hq;refine wpAny_pyIter_list p.isList ?_;refine⟨s1.heap.objs.size,[s1.heap.objs.size],_,_,H1,rfl,I1.kept (t':=s1.toks) fun b o e=>hP0 _ e,a9K a _,⟨_,hS0 _ rfl,rfl,rfl⟩,fun b hb=>?_,q⟩;have e:b=s1.heap.objs.size:=by simpa using hb
 subst e;exact I1.fpOk (nR0 _) (I1.hok.fresh (nR0 _))
theorem a4a {l:Expr}{tl:TE}(hl:PE X l tl):PI X tg l (iTup X.K tl):=by
 intro pins s σ H R I h;refine thn (hl pins s σ H _ I h) fun v s1 ⟨x,H1,I1,r1,q1⟩=>?_;obtain⟨a,e,⟨xs,hq⟩,q⟩:=q1;subst e;cases r1;obtain⟨its,rv,p,hz⟩:=I1.tuple hq;refine wpAny_pyIter_tuple (show s1.heap.IsTuple a its.toArray from p) ?_;refine⟨s1.heap.objs.size,[s1.heap.objs.size],_,_,H1,rfl,I1.kept (t':=s1.toks) fun b o e=>hP0 _ e,a7M a _,⟨_,hS0 _ rfl,rfl,rfl⟩,fun b hb=>?_,q⟩;have e:b=s1.heap.objs.size:=by simpa using hb
 subst e;exact I1.fpOk (nR0 _) (I1.hok.fresh (nR0 _))
theorem b0h {pins:List (Addr×Obj)}{σ:St}{H:Hp}{s:Shared}{R:It->Hp->Prop}{E:Vs0}{lo hi:Int}{t u v:Tok}{tk:Nat}(I:Inv X pins σ H s)(h1:-(2 ^ 62)<=lo)(h2:lo<2 ^ 62)(h3:-(2 ^ 62)<=hi)(h4:hi<2 ^ 62)
  (q:R (Itr lo (hi-lo).toNat) H):wpAny (model X.prog X.w) X.A (pyIter (.ref s.heap.objs.size)) (PIE X pins σ tg R) E { s with heap:=s.heap.push { cls:=.type "range",data:=.fields #[.int lo t,.int hi u,.int 1 v] },toks:=tk }:=by
 refine wpAny_pyIter_range (IsRange.new ..) (small_one h1 h2 h3 h4) ?_;have I1:Inv X pins σ H { s with heap:=s.heap.push { cls:=.type "range",data:=.fields #[.int lo t,.int hi u,.int 1 v] },toks:=tk }:=I.kept fun b o e=>hP0 _ e;refine⟨(s.heap.push { cls:=.type "range",data:=.fields #[.int lo t,.int hi u,.int 1 v] }).objs.size,[(s.heap.push { cls:=.type "range",data:=.fields #[.int lo t,.int hi u,.int 1 v] }).objs.size],_,_,H,rfl,
  I1.kept (t':=tk) fun b o e=>hP0 _ e,a7V _ lo (hi-lo).toNat,?_,fun b hb=>?_,q⟩
 ·have e1:lo+((0:Nat):Int) * 1=lo:=by simp
  have e2:(((hi-lo).toNat:Nat):Int)-((0:Nat):Int)=Builtin.Range.rangeSize lo hi 1:=by rw[rangeSize_one];split<;>omega
  show IsRangeIter _ _ (lo+((0:Nat):Int) * 1) ((((hi-lo).toNat:Nat):Int)-((0:Nat):Int)) 1;rw[e1,e2];exact hS0 _ rfl
 ·have e:b=(s.heap.push { cls:=.type "range",data:=.fields #[.int lo t,.int hi u,.int 1 v] }).objs.size:=by simpa using hb
  subst e;exact I1.fpOk (nR0 _) (I1.hok.fresh (nR0 _))
def b5m (ta:TA):TI:=fun σ H R=>ta σ H fun vs H1=>∃j:Int,vs=[.int j]/\-(2 ^ 62)<=j/\j<2 ^ 62/\R (Itr 0 j.toNat) H1
theorem a1J {a:Expr}{ta:TA}{p pos:Pos}(hg:Gl X "range")(hm:X.mg "range"=none)(ha:PA X [a] ta)(hs:starEach [a] X.env=[(false,eval a X.env)]:=by rfl):PI X tg (.Call (.Name "range" p) [a] [] pos) (b5m ta):=by
 intro pins s σ H R I h;refine Call_ (a3P I hg hm boot_range (PyProof.Rows.callWith_type1 (thn (ha pos pins s σ H _ I h) fun us s1 ⟨vs,H1,I1,r1,q1⟩=>?_) hs rfl));obtain⟨j,e,q1,q2,q⟩:=q1;subst e;cases r1 with
 |cons r rr=>
  cases rr;obtain⟨t,rfl⟩:=r;exact call_range_1 (b0h I1 (by omega) (by omega) q1 q2 (by simpa using q))
def tFor (wi:TI)(g:TG)(tb:TS):TS:=fun D σ H=>wi σ H fun J H1=>∃W:Nat->Nat->St->Hp->Prop,(∃m,W 0 m σ H1)/\∀i m σ H,W i m σ H →
 (J.stop i H/\D.nx σ H)\/(J.go i H/\∃N:St->Hp->Prop,(∀σ' H',N σ' H'->∃m',m'<m/\W (i+1) m' σ' H')/\∀x H',J.yld i H x H'->g x σ H' fun σ2 H2=>tb { D with nx:=N,ct:=N,bk:=D.nx } σ2 H2)
def a5E (fp:List Addr)(h:Heap):List (Addr×Obj):=fp.filterMap fun b=>(h.get? b).map fun o=>(b,o)
theorem a2B {fp:List Addr}{h:Heap}{b:Addr}{o:Obj}(hb:b∈fp)(e:h.get? b=some o):(b,o)∈a5E fp h:=List.mem_filterMap.mpr ⟨b,hb,by rw[e];rfl⟩
theorem a9E {fp:List Addr}{h:Heap}{p:Addr×Obj}(hp:p∈a5E fp h):p.1∈fp/\h.get? p.1=some p.2:=by
 obtain⟨b,hb,e⟩:=List.mem_filterMap.mp hp;cases q:h.get? b with
 |none=>rw[q] at e;cases e
 |some o=>
  rw[q] at e;have e':(b,o)=p:=Option.some.inj e;subst e';exact⟨hb,q⟩
theorem Inv.pinned {pins:List (Addr×Obj)}{σ:St}{H:Hp}{s:Shared}{fp:List Addr}(I:Inv X pins σ H s)(hf:∀b∈fp,a4f X pins H b)(ho:∀b∈fp,∃o,s.heap.get? b=some o/\∀v,o.data≠.cell v):Inv X (pins++a5E fp s.heap) σ H s:=
 I.pins_of fun p hp=>(mB0.mp hp).elim (fun z=>I.pin p (List.mem_append_right _ z)) fun z=>by
  obtain⟨hb,e⟩:=a9E z;obtain⟨f0,f1,f2,_⟩:=hf p.1 hb;obtain⟨o,e',d⟩:=ho p.1 hb;rw[e] at e';cases e';exact⟨e,f0,f1,f2,d⟩
theorem Inv.unpinned {pins pl:List (Addr×Obj)}{σ:St}{H:Hp}{s:Shared}(I:Inv X (pins++pl) σ H s):Inv X pins σ H s:=I.pins_of fun p hp=>I.pin p (List.mem_append_right _ (List.mem_append_left _ hp))
theorem a1A {iter:Expr}{body:List Stmt}{wi:TI}{g:TG}{tb:TS}{pos:Pos}(hp:PassesOwn (model X.prog X.w) X.A X.env X.xe)(hc:X.calm=true)(hi:PI X tg iter wi)(hg:PG X tg g)(hb:PSs X body tb)
  (hs:∀x,foldedSetIterable iter X.env x=pure x:=by intro _;rfl):PS X (.For tg iter body [] pos) (tFor wi g tb):=by
 intro pins s σ H D I h;refine wpAny_For (thn (hi pins s σ H _ I h) fun v s1 h1=>thn h1 fun itv s2 h2=>?_) hs;obtain⟨it,fp,tn,J,H2,e,I2,T,st2,f2,W,⟨m0,w0⟩,turn⟩:=h2;subst e;have stat:∀{H':Hp},(∀b∈fp,H' b=none)->∀b∈fp,a4f X pins H' b:=fun hn b hb=>⟨hn b hb,(f2 b hb).2⟩;refine codeAny_forLoop_any (fun n s'=>∃i σ' H',Inv X pins σ' H' s'/\tn i s'.heap/\(∀b∈fp,H' b=none)/\W i n σ' H') ?_ m0 ⟨0,σ,H2,I2,st2,fun b hb=>(f2 b hb).1,w0⟩;rintro n s3 ⟨i,σ3,H3,I3,st3,fr3,w3⟩;rcases turn i n σ3 H3 w3 with ⟨stop,qn⟩ |⟨go,N,hN,step⟩
 ·refine wpAny_passesOwn hp (thn (T.done X rfl rfl rfl hc i pins s3 σ3 H3 X.xe I3 (stat fr3) st3 stop) fun r s4 ⟨hr,I4⟩=>?_)
  subst hr;exact wpAny_execs_nil ⟨σ3,H3,I4,qn⟩
 ·refine wpAny_passesOwn hp (thn (T.item X rfl rfl rfl hc i pins s3 σ3 H3 X.xe I3 (stat fr3) st3 go) fun r s4 ⟨u,hr,h4⟩=>?_)
  subst hr;refine wpAny_passesOwn hp (thn h4 fun _ s5 ⟨x,H5,I5,r5,y5,st5,fr5⟩=>?_);have I5':=I5.pinned (stat fr5) (T.obj _ _ st5);refine wpAny_passesOwn hp (thn (hg _ s5 σ3 H5 x u _ I5' r5 (step x H5 y5)) fun _ s6 ⟨σ6,H6,I6,q6⟩=>?_);refine wpAny_passesOwn hp (thn (hb _ s6 σ6 H6 _ I6 q6) fun f s7 q7=>?_);have again:∀{σ7:St} {H7:Hp},Inv X (pins++a5E fp s5.heap) σ7 H7 s7->N σ7 H7->∃m,m<n/\∃i σ' H',Inv X pins σ' H' s7/\tn i s7.heap/\(∀b∈fp,H' b=none)/\W i m σ' H':=fun {σ7 H7} I7 n7=>by
   obtain⟨m',hm,w7⟩:=hN σ7 H7 n7;refine⟨m',hm,i+1,σ7,H7,I7.unpinned,T.keep _ _ _ st5 fun b hb o e=>(I7.pin (b,o) (List.mem_append_right _ (List.mem_append_right _ (a2B hb e)))).1,fun b hb=>?_,w7⟩;obtain⟨o,e,d⟩:=T.obj _ _ st5 b hb;exact(I7.pin (b,o) (List.mem_append_right _ (List.mem_append_right _ (a2B hb e)))).2.1
  cases f with
  |next=>obtain⟨σ7,H7,I7,n7⟩:=q7;exact again I7 n7
  |cont=>obtain⟨σ7,H7,I7,n7⟩:=q7;exact again I7 n7
  |brk=>obtain⟨σ7,H7,I7,q7⟩:=q7;exact⟨σ7,H7,I7.unpinned,q7⟩
  |ret v=>obtain⟨x7,σ7,H7,I7,r7,q7⟩:=q7;exact⟨x7,σ7,H7,I7.unpinned,r7,q7⟩
end
theorem a2C {K:Fg0}{a:Addr}{xs:List V}{g:TG}{tb:TS}{D:a5Y}{σ:St}{H:Hp}(Pv:Nat->St->Hp->Prop)(h0:Pv 0 σ H)(hl:∀i σ H,i<=xs.length->Pv i σ H->SqL K H a xs)
  (hs:∀i x σ H,xs[i]? =some x->Pv i σ H->g x σ H fun σ2 H2=>tb { D with nx:=Pv (i+1),ct:=Pv (i+1),bk:=D.nx } σ2 H2) (hd:∀σ H,Pv xs.length σ H->D.nx σ H) :
  ∃W:Nat->Nat->St->Hp->Prop,(∃m,W 0 m σ H)/\∀i m σ H,W i m σ H →
   ((Itl K a).stop i H/\D.nx σ H)\/((Itl K a).go i H/\∃N:St->Hp->Prop,(∀σ' H',N σ' H'->∃m',m'<m/\W (i+1) m' σ' H')/\∀x H',(Itl K a).yld i H x H'->g x σ H' fun σ2 H2=>tb { D with nx:=N,ct:=N,bk:=D.nx } σ2 H2):=by
 refine⟨fun i m σ H=>m=xs.length-i/\i<=xs.length/\Pv i σ H,⟨xs.length,by simp,zL0 _,h0⟩,?_⟩;rintro i m σ H ⟨rfl,hi,p⟩;have q:=hl i σ H hi p
 by_cases hlt:i<xs.length
 ·refine .inr ⟨⟨xs,xs[i],q,by simp[hlt]⟩,Pv (i+1),fun σ' H' p'=>⟨xs.length-(i+1),by omega,rfl,hlt,p'⟩,fun x H' y=>?_⟩
  obtain⟨e,y⟩:=y;subst e;exact hs i x σ _ (y xs q) p
 ·have e:i=xs.length:=by omega
  subst e;exact .inl ⟨⟨xs,q,nR0 _⟩,hd σ H p⟩
theorem a8I {K:Fg0}{a:Addr}{xs:List V}{g:TG}{tb:TS}{D:a5Y}{σ:St}{H:Hp}(Pv:Nat->St->Hp->Prop)(h0:Pv 0 σ H)(hl:∀i σ H,i<=xs.length->Pv i σ H->SqT K H a xs)
  (hs:∀i x σ H,xs[i]? =some x->Pv i σ H->g x σ H fun σ2 H2=>tb { D with nx:=Pv (i+1),ct:=Pv (i+1),bk:=D.nx } σ2 H2) (hd:∀σ H,Pv xs.length σ H->D.nx σ H) :
  ∃W:Nat->Nat->St->Hp->Prop,(∃m,W 0 m σ H)/\∀i m σ H,W i m σ H →
   ((Itt K a).stop i H/\D.nx σ H)\/((Itt K a).go i H/\∃N:St->Hp->Prop,(∀σ' H',N σ' H'->∃m',m'<m/\W (i+1) m' σ' H')/\∀x H',(Itt K a).yld i H x H'->g x σ H' fun σ2 H2=>tb { D with nx:=N,ct:=N,bk:=D.nx } σ2 H2):=by
 refine⟨fun i m σ H=>m=xs.length-i/\i<=xs.length/\Pv i σ H,⟨xs.length,by simp,zL0 _,h0⟩,?_⟩;rintro i m σ H ⟨rfl,hi,p⟩;have q:=hl i σ H hi p
 by_cases hlt:i<xs.length
 ·refine .inr ⟨⟨xs,xs[i],q,by simp[hlt]⟩,Pv (i+1),fun σ' H' p'=>⟨xs.length-(i+1),by omega,rfl,hlt,p'⟩,fun x H' y=>?_⟩
  obtain⟨e,y⟩:=y;subst e;exact hs i x σ _ (y xs q) p
 ·have e:i=xs.length:=by omega
  subst e;exact .inl ⟨⟨xs,q,nR0 _⟩,hd σ H p⟩
theorem a3Z {lo:Int}{n:Nat}{g:TG}{tb:TS}{D:a5Y}{σ:St}{H:Hp}(Pv:Nat->St->Hp->Prop)(h0:Pv 0 σ H)
  (hs:∀i σ H,i<n->Pv i σ H->g (.int (lo+i)) σ H fun σ2 H2=>tb { D with nx:=Pv (i+1),ct:=Pv (i+1),bk:=D.nx } σ2 H2) (hd:∀σ H,Pv n σ H->D.nx σ H) :
  ∃W:Nat->Nat->St->Hp->Prop,(∃m,W 0 m σ H)/\∀i m σ H,W i m σ H →
   ((Itr lo n).stop i H/\D.nx σ H)\/((Itr lo n).go i H/\∃N:St->Hp->Prop,(∀σ' H',N σ' H'->∃m',m'<m/\W (i+1) m' σ' H')/\∀x H',(Itr lo n).yld i H x H'->g x σ H' fun σ2 H2=>tb { D with nx:=N,ct:=N,bk:=D.nx } σ2 H2):=by
 refine⟨fun i m σ H=>m=n-i/\i<=n/\Pv i σ H,⟨n,by simp,zL0 _,h0⟩,?_⟩;rintro i m σ H ⟨rfl,hi,p⟩
 by_cases hlt:i<n
 ·refine .inr ⟨hlt,Pv (i+1),fun σ' H' p'=>⟨n-(i+1),by omega,rfl,hlt,p'⟩,fun x H' y=>?_⟩
  obtain⟨e,y⟩:=y;subst e y;exact hs i σ _ hlt p
 ·have e:i=n:=by omega
  subst e;exact .inl ⟨nR0 _,hd σ H p⟩
abbrev R2:=V->V->Hp->VK->Prop
def OpR (X:Cx)(f:Value->Value->Sem Value)(r:R2):Prop:=
 ∀(pins:List (Addr×Obj)) (s:Shared) (σ:St) (H:Hp) (x y:V) (v u:Value) (Q:VK),Inv X pins σ H s->a0S x v->a0S y u->r x y H Q →
  wpAny (model X.prog X.w) X.A (f v u) (EP X pins σ Q) X.xe s
def a1e (X:Cx)(f:Value)(r:List V->Hp->VK->Prop):Prop:=
 ∀(pins:List (Addr×Obj)) (s:Shared) (σ:St) (H:Hp) (xs:List V) (us:List Value) (Q:VK),Inv X pins σ H s->a0V xs us->r xs H Q →
  wpAny (model X.prog X.w) X.A (call f us) (EP X pins σ Q) X.xe s
def tOp (r:R2)(ta tb:TE):TE:=fun σ H Q=>ta σ H fun x H1=>tb σ H1 fun y H2=>r x y H2 Q
def rI (C:Int->Int->Prop)(g:Int->Int->V):R2:=fun x y H Q=>∃i j,x=.int i/\y=.int j/\C i j/\Q (g i j) H
def rI0 (g:Int->Int->V):R2:=fun x y H Q=>∃i j,x=.int i/\y=.int j/\Q (g i j) H
section
variable {X:Cx}{a b c:Expr}{ta tb tc:TE}{pos:Pos}
theorem b4G (ha:PE X a ta)(hb:PE X b tb){pins:List (Addr×Obj)}{s:Shared}{σ:St}{H:Hp}{R:V->V->Hp->Prop}(I:Inv X pins σ H s)
  (h:ta σ H fun x H1=>tb σ H1 fun y H2=>R x y H2) {Q:Vs0} {f:Value->Value->Sem Value}
  (hf:∀v u s2 x y H2,Inv X pins σ H2 s2->a0S x v->a0S y u->R x y H2->wpAny (model X.prog X.w) X.A (f v u) Q X.xe s2) :
  wpAny (model X.prog X.w) X.A (eval a X.env) (fun v s₁=>wpAny (model X.prog X.w) X.A (eval b X.env) (fun u s₂=>wpAny (model X.prog X.w) X.A (f v u) Q X.xe s₂) X.xe s₁) X.xe s:=by
 refine thn (ha pins s σ H _ I h) fun v s1 ⟨x,H1,I1,r1,q1⟩=>?_;refine thn (hb pins s1 σ H1 _ I1 q1) fun u s2 ⟨y,H2,I2,r2,q2⟩=>?_;exact hf v u s2 x y H2 I2 r1 r2 q2
theorem a0A {op:Operator}{r:R2}(ho:OpR X (binaryOp op) r)(ha:PE X a ta)(hb:PE X b tb):PE X (.BinOp a op b pos) (tOp r ta tb):=by
 intro pins s σ H Q I h;exact wpAny_BinOp (b4G ha hb I h fun v u s2 x y H2 I2 rx ry q=>ho pins s2 σ H2 x y v u Q I2 rx ry q)
theorem opI {f:Value->Value->Sem Value}{C:Int->Int->Prop}{g:Int->Int->Int}
  (rule:∀(i j:Int) (t u:Tok) (s:Shared) (Q:Vs0) (E:Vs0),C i j->Q (.int (g i j) s.toks) { s with toks:=s.toks+1 }->wpAny (model X.prog X.w) X.A (f (.int i t) (.int j u)) Q E s) :
  OpR X f (rI C fun i j=>.int (g i j)):=by
 intro pins s σ H x y v u Q I rx ry h;obtain⟨i,j,rfl,rfl,hc,q⟩:=h;obtain⟨t,rfl⟩:=rx;obtain⟨t',rfl⟩:=ry;exact rule i j t t' s _ _ hc ⟨.int (g i j),H,I.tok _,⟨_,rfl⟩,q⟩
theorem b5P {f:Value->Value->Sem Value}{g:Int->Int->Int}
  (rule:∀(i j:Int) (t u:Tok) (s:Shared) (Q:Vs0) (E:Vs0),Q (.int (g i j) s.toks) { s with toks:=s.toks+1 }->wpAny (model X.prog X.w) X.A (f (.int i t) (.int j u)) Q E s) :
  OpR X f (rI0 fun i j=>.int (g i j)):=by
 intro pins s σ H x y v u Q I rx ry h;obtain⟨i,j,rfl,rfl,q⟩:=h;obtain⟨t,rfl⟩:=rx;obtain⟨t',rfl⟩:=ry;exact rule i j t t' s _ _ ⟨.int (g i j),H,I.tok _,⟨_,rfl⟩,q⟩
theorem b4x {f:Value->Value->Sem Value}{g:Int->Int->Bool}
  (rule:∀(i j:Int) (t u:Tok) (s:Shared) (Q:Vs0) (E:Vs0),Q (.bool (g i j)) s->wpAny (model X.prog X.w) X.A (f (.int i t) (.int j u)) Q E s) :
  OpR X f (rI0 fun i j=>.bl (g i j)):=by
 intro pins s σ H x y v u Q I rx ry h;obtain⟨i,j,rfl,rfl,q⟩:=h;obtain⟨t,rfl⟩:=rx;obtain⟨t',rfl⟩:=ry;exact rule i j t t' s _ _ ⟨.bl (g i j),H,I,rfl,q⟩
def CDiv (i j:Int):Prop:=0<j/\j<1073741824
def b5b (i j:Int):Prop:=(-(2 ^ 64)<i/\i<2 ^ 64)\/(-(2 ^ 64)<j/\j<2 ^ 64)
theorem b5b.ok {i j:Int}(h:b5b i j):IntMulOk i j:=by
 rcases h with ⟨h1,h2⟩ |⟨h1,h2⟩
 ·exact .of_left (intBits_le_64 h1 h2)
 ·exact .of_right (intBits_le_64 h1 h2)
theorem two_pow_nn (k:Nat):(0:Int)<=2 ^ k:=by
 rw[two_pow_cast];exact Int.natCast_nonneg _
theorem a2p:OpR X (binaryOp .Add) (rI0 fun i j=>.int (i+j)):=b5P fun _ _ _ _ _ _ _ q=>add_int q
theorem a8O:OpR X (binaryOp .Sub) (rI0 fun i j=>.int (i-j)):=b5P fun _ _ _ _ _ _ _ q=>sub_int q
theorem a2S:OpR X (binaryOp .Mult) (rI b5b fun i j=>.int (i * j)):=opI fun _ _ _ _ _ _ _ hc q=>mul_int q hc.ok
theorem a1w:OpR X (binaryOp .FloorDiv) (rI CDiv fun i j=>.int (i/j)):=opI fun i j _ _ _ _ _ hc q=>by
 have h1:(0:Int)<j:=hc.1;have h2:j<1073741824:=hc.2;exact floordiv_int (by omega) (by rw[Int.fdiv_eq_ediv_of_nonneg i (by omega)];exact q) (.inl (PyProof.noPylong_small (by omega)))
theorem a1c:OpR X (binaryOp .Mod) (rI (fun _ j=>0<j) fun i j=>.int (i%j)):=opI fun i j _ _ _ _ _ hc q=>by
 have h1:(0:Int)<j:=hc;exact mod_int' (by omega) (by rw[Int.fmod_eq_emod_of_nonneg i (by omega)];exact q)
def b5J:V->V->Bool
 | .non,.non=>true | .non,.int _=>true | .int _,.non=>true | .non,.bl _=>true | .bl _,.non=>true | .non,.str _=>true | .str _,.non=>true
 | .int _,.int _=>true | .bl _,.bl _=>true | .str _,.str _=>true | .byt _,.byt _=>true
 | .int _,.str _=>true | .str _,.int _=>true | .bl _,.str _=>true | .str _,.bl _=>true
 |_,_=>false
def rEq:R2:=fun x y H Q=>b5J x y=true/\Q (.bl (decide (x=y))) H
def rNe:R2:=fun x y H Q=>b5J x y=true/\Q (.bl (!decide (x=y))) H
theorem a8J {i j:Int}:decide (V.int i=V.int j)=(i==j):=by
 rw[Bool.eq_iff_iff];simp
theorem b1O {i j:Bool}:decide (V.bl i=V.bl j)=(i==j):=by
 rw[Bool.eq_iff_iff];simp
theorem a6m {i j:Str}:decide (V.str i=V.str j)=(i==j):=by
 rw[Bool.eq_iff_iff];simp
theorem a9Q {i j:Array UInt8}:decide (V.byt i=V.byt j)=(i.toList==j.toList):=by
 rw[Bool.eq_iff_iff];cases i;cases j;simp
theorem a0O {pins:List (Addr×Obj)}{σ:St}{H:Hp}{s:Shared}{Q:VK}{k k':Bool}(I:Inv X pins σ H s)(q:Q (.bl k) H)(e:k=k'):EP X pins σ Q (.bool k') s:=by
 subst e;exact⟨.bl k,H,I,rfl,q⟩
theorem a2l:OpR X (compareOp .Eq) rEq:=by
 intro pins s σ H x y v u Q I rx ry h;obtain⟨hs,q⟩:=h;cases x with
 |non=>
  cases rx;cases y with
  |non=>cases ry;exact PySem.EqNone.eq_none_none (a0O I q (by simp))
  |bl j=>cases ry;exact PySem.EqNone.eq_none_bool (a0O I q (by simp))
  |int j=>obtain⟨t',rfl⟩:=ry;exact PySem.EqNone.eq_none_int (a0O I q (by simp))
  |str j=>obtain⟨t',rfl⟩:=ry;exact PySem.EqNone.eq_none_str (a0O I q (by simp))
  |_=>exact absurd (show false=true from hs) bF0
 |bl i=>
  cases rx;cases y with
  |non=>cases ry;exact PySem.EqNone.eq_bool_none (a0O I q (by simp))
  |bl j=>cases ry;exact eq_bool (a0O I q b1O)
  |str j=>obtain⟨t',rfl⟩:=ry;exact PySem.EqMixed.eq_bool_str (a0O I q (by simp))
  |_=>exact absurd (show false=true from hs) bF0
 |int i=>
  obtain⟨t,rfl⟩:=rx;cases y with
  |non=>cases ry;exact PySem.EqNone.eq_int_none (a0O I q (by simp))
  |int j=>obtain⟨t',rfl⟩:=ry;exact eq_int (a0O I q a8J)
  |str j=>obtain⟨t',rfl⟩:=ry;exact PySem.EqMixed.eq_int_str (a0O I q (by simp))
  |_=>exact absurd (show false=true from hs) bF0
 |str i=>
  obtain⟨t,rfl⟩:=rx;cases y with
  |non=>cases ry;exact PySem.EqNone.eq_str_none (a0O I q (by simp))
  |bl j=>cases ry;exact PySem.EqMixed.eq_str_bool (a0O I q (by simp))
  |int j=>obtain⟨t',rfl⟩:=ry;exact PySem.EqMixed.eq_str_int (a0O I q (by simp))
  |str j=>obtain⟨t',rfl⟩:=ry;exact eq_str (a0O I q a6m)
  |_=>exact absurd (show false=true from hs) bF0
 |byt i=>
  obtain⟨t,rfl⟩:=rx;cases y with
  |byt j=>obtain⟨t',rfl⟩:=ry;exact PySem.W.eq_bytes (a0O I q a9Q)
  |_=>exact absurd (show false=true from hs) bF0
 |_=>cases y<;>exact absurd (show false=true from hs) bF0
theorem a4j:OpR X (compareOp .NotEq) rNe:=by
 intro pins s σ H x y v u Q I rx ry h;obtain⟨hs,q⟩:=h;cases x with
 |non=>
  cases rx;cases y with
  |non=>cases ry;exact PySem.EqNone.ne_none_none (a0O I q (by simp))
  |bl j=>cases ry;exact PySem.EqNone.ne_none_bool (a0O I q (by simp))
  |int j=>obtain⟨t',rfl⟩:=ry;exact PySem.EqNone.ne_none_int (a0O I q (by simp))
  |str j=>obtain⟨t',rfl⟩:=ry;exact PySem.EqNone.ne_none_str (a0O I q (by simp))
  |_=>exact absurd (show false=true from hs) bF0
 |bl i=>
  cases rx;cases y with
  |non=>cases ry;exact PySem.EqNone.ne_bool_none (a0O I q (by simp))
  |bl j=>cases ry;exact ne_bool (a0O I q (congrArg not b1O))
  |str j=>obtain⟨t',rfl⟩:=ry;exact PySem.EqMixed.ne_bool_str (a0O I q (by simp))
  |_=>exact absurd (show false=true from hs) bF0
 |int i=>
  obtain⟨t,rfl⟩:=rx;cases y with
  |non=>cases ry;exact PySem.EqNone.ne_int_none (a0O I q (by simp))
  |int j=>obtain⟨t',rfl⟩:=ry;exact ne_int (a0O I q (congrArg not a8J))
  |str j=>obtain⟨t',rfl⟩:=ry;exact PySem.EqMixed.ne_int_str (a0O I q (by simp))
  |_=>exact absurd (show false=true from hs) bF0
 |str i=>
  obtain⟨t,rfl⟩:=rx;cases y with
  |non=>cases ry;exact PySem.EqNone.ne_str_none (a0O I q (by simp))
  |bl j=>cases ry;exact PySem.EqMixed.ne_str_bool (a0O I q (by simp))
  |int j=>obtain⟨t',rfl⟩:=ry;exact PySem.EqMixed.ne_str_int (a0O I q (by simp))
  |str j=>obtain⟨t',rfl⟩:=ry;exact ne_str (a0O I q (congrArg not a6m))
  |_=>exact absurd (show false=true from hs) bF0
 |byt i=>
  obtain⟨t,rfl⟩:=rx;cases y with
  |byt j=>obtain⟨t',rfl⟩:=ry;exact PySem.W.ne_bytes (a0O I q (congrArg not a9Q))
  |_=>exact absurd (show false=true from hs) bF0
 |_=>cases y<;>exact absurd (show false=true from hs) bF0
theorem b3i:OpR X (compareOp .Lt) (rI0 fun i j=>.bl (decide (i<j))):=b4x fun _ _ _ _ _ _ _ q=>lt_int q
theorem b3Y:OpR X (compareOp .LtE) (rI0 fun i j=>.bl (decide (i<=j))):=b4x fun _ _ _ _ _ _ _ q=>le_int q
theorem b5y:OpR X (compareOp .Gt) (rI0 fun i j=>.bl (decide (j<i))):=b4x fun _ _ _ _ _ _ _ q=>gt_int q
theorem b5j:OpR X (compareOp .GtE) (rI0 fun i j=>.bl (decide (j<=i))):=b4x fun _ _ _ _ _ _ _ q=>ge_int q
theorem a8A:OpR X (compareOp .In) (fun x y H Q=>∃i j,x=.str i/\y=.str j/\Q (.bl (!(Builtin.Str.occurrences j i 0 j.length 1).isEmpty)) H):=by
 intro pins s σ H x y v u Q I rx ry h;obtain⟨i,j,rfl,rfl,q⟩:=h;obtain⟨t,rfl⟩:=rx;obtain⟨t',rfl⟩:=ry;exact in_str (a0O I q rfl)
theorem a3l:OpR X (compareOp .Is) (fun x y H Q=>y=.non/\Q (.bl (decide (x=.non))) H):=by
 intro pins s σ H x y v u Q I rx ry h;obtain⟨rfl,q⟩:=h;cases ry;refine is_none_gen (a0O I q ?_);cases x<;>first
  | (cases rx;rfl)
  | (obtain⟨t,rfl⟩:=rx;rfl)
theorem a9L:OpR X (compareOp .IsNot) (fun x y H Q=>y=.non/\Q (.bl (!decide (x=.non))) H):=by
 intro pins s σ H x y v u Q I rx ry h;obtain⟨rfl,q⟩:=h;cases ry;refine isnot_none_gen (a0O I q ?_);cases x<;>first
  | (cases rx;rfl)
  | (obtain⟨t,rfl⟩:=rx;rfl)
theorem a0B (b:Expr){op:CmpOp}(h:op≠.In:=by decide)(h2:op≠.NotIn:=by decide):behindInMarks op b=false:=by
 have e1:(op==CmpOp.In)=false:=by cases op<;>first |rfl |exact absurd rfl h
 have e2:(op==CmpOp.NotIn)=false:=by cases op<;>first |rfl |exact absurd rfl h2
 cases b<;>simp[behindInMarks,e1,e2]
theorem a1a {op:CmpOp}{r:R2}(ho:OpR X (compareOp op) r)(ha:PE X a ta)(hb:PE X b tb)(hm:behindInMarks op b=false):PE X (.Compare a [op] [b] pos) (tOp r ta tb):=by
 intro pins s σ H Q I h;exact wpAny_Compare1 (b4G ha hb I h fun v u s2 x y H2 I2 rx ry q=>ho pins s2 σ H2 x y v u Q I2 rx ry q) hm
def b3J (t:TE):TT:=fun σ H Q=>t σ H fun x H'=>∃k,x=.bl k/\Q k H'
theorem a0z {op:CmpOp}{r:R2}(ho:OpR X (compareOp op) r)(ha:PE X a ta)(hb:PE X b tb)(hm:behindInMarks op b=false):PT X (.Compare a [op] [b] pos) (b3J (tOp r ta tb)):=by
 intro pins s σ H Q I h;refine wpAny_isTrue_Compare1 (thn (ha pins s σ H _ I h) fun v s1 ⟨x,H1,I1,r1,q1⟩=>thn (hb pins s1 σ H1 _ I1 q1) fun u s2 ⟨y,H2,I2,r2,q2⟩=>
  thn (ho pins s2 σ H2 x y v u _ I2 r1 r2 q2) fun c s3 ⟨z,H3,I3,r3,k,e,q3⟩=>?_) hm
 subst e;cases r3;exact wpAny_truthy_bool ⟨H3,I3,q3⟩
def b1x (r r':R2)(ta tb tc:TE):TE:=fun σ H Q=>ta σ H fun x H1=>tb σ H1 fun y H2=>r x y H2 fun z H3=>∃k,z=.bl k ∧
 (if k=true then tc σ H3 fun w' H4=>r' y w' H4 Q else Q (.bl false) H3)
theorem b0K {op op':CmpOp}{r r':R2}(ho:OpR X (compareOp op) r)(ho':OpR X (compareOp op') r')(ha:PE X a ta)(hb:PE X b tb)(hc:PE X c tc)
  (hm:lastMarks [op,op'] [b,c]=false:=by with_unfolding_all rfl):PE X (.Compare a [op,op'] [b,c] pos) (b1x r r' ta tb tc):=by
 intro pins s σ H Q I h;refine Compare_chain (thn (ha pins s σ H _ I h) fun v s1 ⟨x,H1,I1,r1,q1⟩=>chain_link (thn (hb pins s1 σ H1 _ I1 q1) fun u s2 ⟨y,H2,I2,r2,q2⟩=>
  thn (ho pins s2 σ H2 x y v u _ I2 r1 r2 q2) fun d s3 ⟨z,H3,I3,r3,k,e,q3⟩=>?_)) hm
 subst e;cases r3;refine wpAny_truthy_bool ?_;cases k with
 |false=>exact ite_ff ⟨.bl false,H3,I3,rfl,q3⟩
 |true=>exact ite_tt (chain_last (thn (hc pins s3 σ H3 _ I3 q3) fun w' s4 ⟨z',H4,I4,r4,q4⟩=>ho' pins s4 σ H4 y z' u w' Q I4 r2 r4 q4))
theorem b0U {op op':CmpOp}{r r':R2}(ho:OpR X (compareOp op) r)(ho':OpR X (compareOp op') r')(ha:PE X a ta)(hb:PE X b tb)(hc:PE X c tc)
  (hm:lastMarks [op,op'] [b,c]=false:=by with_unfolding_all rfl):PT X (.Compare a [op,op'] [b,c] pos) (b3J (b1x r r' ta tb tc)):=by
 intro pins s σ H Q I h;refine isTrue_chain (thn (ha pins s σ H _ I h) fun v s1 ⟨x,H1,I1,r1,q1⟩=>test_link (thn (hb pins s1 σ H1 _ I1 q1) fun u s2 ⟨y,H2,I2,r2,q2⟩=>
  thn (ho pins s2 σ H2 x y v u _ I2 r1 r2 q2) fun d s3 ⟨z,H3,I3,r3,k,e,q3⟩=>?_)) hm
 subst e;cases r3;refine wpAny_truthy_bool ?_;cases k with
 |false=>
  obtain⟨k',e',q'⟩:=q3;cases e';exact ite_ff ⟨H3,I3,q'⟩
 |true=>
  refine ite_tt (test_last (thn (hc pins s3 σ H3 _ I3 q3) fun w' s4 ⟨z',H4,I4,r4,q4⟩=>thn (ho' pins s4 σ H4 y z' u w' _ I4 r2 r4 q4) fun d' s5 ⟨z2,H5,I5,r5,k2,e2,q5⟩=>?_));subst e2;cases r5;exact wpAny_truthy_bool ⟨H5,I5,q5⟩
theorem a4l:(sizeLine:Nat)<2 ^ 63:=by rw[sizeLine_eq];decide
theorem a2Z:OpR X (binaryOp .Add) (fun x y H Q=>∃i j,x=.str i/\y=.str j/\i.length+j.length<=sizeLine/\Q (.str (i++j)) H):=by
 intro pins s σ H x y v u Q I rx ry h;obtain⟨i,j,rfl,rfl,hz,q⟩:=h;obtain⟨t,rfl⟩:=rx;obtain⟨t',rfl⟩:=ry;exact add_str (fun t' tk=>⟨.str (i++j),H,I.tok _,⟨_,rfl⟩,q⟩) hz
theorem a2b {x:V}{us:List Value}(r:a0V [x] us):∃u,us=[u]/\a0S x u:=by
 cases r with
 |cons r1 r2=>cases r2;exact⟨_,rfl,r1⟩
theorem a9S {x y:V}{us:List Value}(r:a0V [x,y] us):∃u w',us=[u,w']/\a0S x u/\a0S y w':=by
 cases r with
 |cons r1 r2=>
  cases r2 with
  |cons r3 r4=>cases r4;exact⟨_,_,rfl,r1,r3⟩
theorem a9Z:a1e X (.builtin "ord") (fun xs H Q=>∃x,xs=[.str x]/\x.length=1/\Q (.int (x.cps.getD 0 0:Nat)) H):=by
 intro pins s σ H xs us Q I r h;obtain⟨x,rfl,hz,q⟩:=h;obtain⟨u,rfl,t,rfl⟩:=a2b r;exact ord_of_one hz ⟨.int _,H,I.tok _,⟨_,rfl⟩,q⟩
end
structure b2W (h:Heap) (x dx C:Addr) (mA:Str->Option Value):Prop where
 obj:h.get? x=some (PySem.W.instObj C dx)
 ns:h.Ns1 dx mA
 ne:dx≠x
theorem a8X {h:Heap}{dx:Addr}{mA:Str->Option Value}(n:h.Ns1 dx mA):∃od,h.get? dx=some od/\∀name,PySem.W.lookIn name od=some (mA name):=by
 obtain⟨o,es,ep,ho,hd,hk,_,hm⟩:=n;refine⟨o,ho,fun name=>?_⟩;have e:=hm name;unfold nsFind findBy at e;rw[<-Array.find?_toList] at e;unfold PySem.W.lookIn;rw[hd]
 dsimp only
 split
 ·rename_i y q
  rw[q] at e;exact congrArg some e
 ·rename_i q
  rw[q] at e;have a:es.toList.any (·.refKey)=false:=by
   rw[List.any_eq_false];intro y hy;obtain⟨z,t,hkey⟩:=hk y (Array.mem_toList_iff.mp hy);simp[DictEntry.refKey,hkey]
  have a':¬es.toList.any (·.refKey)=true:=by rw[a];exact bF0
  rw[if_neg a'];exact congrArg some e
theorem b2W.look {h:Heap}{x dx C:Addr}{mA:Str->Option Value}(I:b2W h x dx C mA):∃od,PySem.W.InstAt h x (PySem.W.instObj C dx) C (some od)/\∀name,PySem.W.lookIn name od=some (mA name):=
 let ⟨od,ho,hl⟩:=a8X I.ns
 ⟨od,⟨I.obj,rfl,rfl,ho⟩,hl⟩
section
variable {prog:Program}{w:World}{A:Around}{E:Vs0}{s:Shared}{K:Fg0}{x dx C f:Addr}{mA:Str->Option Value}{name:Str}{v:Value}
theorem b2O {expr:Bool}{Q:Vs0}(X:K.In s.heap)(I:b2W s.heap x dx C mA)(hg:PySem.W.plainGet K C name=true)(hh:PySem.W.hasDictIn K C=true)
  (ha:PySem.W.findIn K (.ref C) name=some none) (hv:mA name=some v) (hv':PySem.W.handedIn v=true) (h:Q v { s with toks:=s.toks+1 }) :
  wpAny (model prog w) A (getAttr (.ref x) name expr) Q E s:=by
 obtain⟨od,J,hl⟩:=I.look;exact PySem.W.get_value X J (PySem.W.plainGet_of hg).1 (PySem.W.findObj_own hh ha rfl (by rw[hl,hv])) hv' h
theorem a9Y {pl:Sem Bool}{Q:Value×List Value->Shared->Prop}(X:K.In s.heap)(I:b2W s.heap x dx C mA)(hg:PySem.W.plainGet K C name=true)
  (hf:PySem.W.findIn K (.ref C) name=some (some (.ref f))) (ht:PySem.W.isFn K (.ref f)=true) (hv:mA name=none) (h:Q (.ref f,[.ref x]) s) :
  wpAny (model prog w) A (getMethod (.ref x) name pl) Q E s:=by
 obtain⟨od,J,hl⟩:=I.look;exact PySem.W.method_fn X J (PySem.W.plainGet_of hg).1 (PySem.W.plainGet_of hg).2 hf (beq_iff_eq.mp ht) (by show(PySem.W.lookIn name od).map (·.isSome)=some false;rw[hl,hv];rfl) h
theorem b2y {ns:List Str}{Q:Unit->Shared->Prop}(X:K.In s.heap)(I:b2W s.heap x dx C mA)
  (hs:PySem.W.findIn K (.ref C) "__setattr__"=some (some (.builtin "object.__setattr__"))) (hp:PySem.W.plainOver K C=true) (ht:PySem.W.takerIn K C name=some none) (hh:PySem.W.hasDictIn K C=true)
  (hw:PySem.Within mA ns) (hsz:ns.length<=sizeLine)
  (h:∀h',b2W h' x dx C (fun y=>if y=name then some v else mA y)->Heap.SameBut dx s.heap h'->Q () { s with heap:=h',toks:=s.toks+2 }) :
  wpAny (model prog w) A (setAttr (.ref x) name v) Q E s:=by
 obtain⟨od,J,hl⟩:=I.look;refine PySem.W.set_plain X J hs (PySem.W.osa_open (s:={ s with toks:=s.toks+1 }) (r:=none) X J hp ht fun b=>?_);obtain⟨cd,hc,hd'⟩:=PySem.W.any_some hh;have hx:s.heap.get? x=some ⟨.ref C,some dx,.plain,#[]⟩:=I.obj;refine wB0 (wP0 (wB0 (wB0 (wpAny_loadPart hx (wB0 (PySem.W.Looks.here (s:={ s with toks:=s.toks+1 }) (PySem.W.looks_clsIn X hc) ?_))))));rw[hd'];refine wP0 (a:=some dx) (wB0 (wP0 (wB0 ?_)));refine wpAny_nsSet1 (s:={ s with toks:=s.toks+1 }) I.ns fun h' hn2 hs2=>?_;obtain⟨oD,esD,epD,hoD,hdD,hcD⟩:=hn2.count (PySem.Within.cons name v hw);refine wB0 (wpAny_lookBehind hoD (by rw[hdD];exact pastItsLine_dict (Nat.le_trans hcD (by rw[List.length_cons];omega))) ?_);exact wP0 (h _ ⟨(hs2.2 _ (Ne.symm I.ne)).trans I.obj,hn2,I.ne⟩ hs2)
theorem b0c {R:Result->Shared->Prop}{vs:List Value}{kw:List (Str×Value)}(X:K.In s.heap)(hm:PySem.W.makesIn K C=true)
  (hi:PySem.W.findIn K (.ref C) "__init__"=some (some (.ref f))) (hf:PySem.W.typeIn K (.ref f)=some (.type "function"))
  (h:codeAny (model prog w) (A.under (.builtin "type.__call__" ⟨.ref C::vs,kw⟩)) (.call (.ref f) ⟨.ref (s.heap.objs.size+1)::vs,kw⟩) (PySem.W.InitBack (s.heap.objs.size+1) R)
   { s with heap:=(s.heap.push PySem.W.emptyDict).push (PySem.W.instObj C s.heap.objs.size) }) :
  codeAny (model prog w) A (.call (.ref C) ⟨vs,kw⟩) R s:=by
 obtain⟨hh,g,d,t,os⟩:=s;exact PySem.W.make_core (PySem.W.makes_of X hm) (PySem.W.looks_findIn X hi) (fun self=>PySem.W.bind_fn X self hf) (.inl rfl) h
end
def a4e (f:Str)(v:V):List (Str×V)->List (Str×V)
 |[]=>[(f,v)]
 | (g,x)::r=>if g=f then(g,v)::r else(g,x)::a4e f v r
theorem a1p (f g:Str)(v:V):∀fs:List (Str×V),(a4e f v fs).lookup g=if g=f then some v else fs.lookup g
 |[]=>by
  show List.lookup g [(f,v)]=_
  by_cases h:g=f
  ·have hb:(g==f)=true:=beq_iff_eq.mpr h
   simp only[List.lookup,hb,if_pos h]
  ·have hb:(g==f)=false:=beq_eq_false_iff_ne.mpr h
   simp only[List.lookup,hb,if_neg h]
 | (k,x)::r=>by
  have ih:=a1p f g v r;rw[show a4e f v ((k,x)::r)=(if k=f then(k,v)::r else(k,x)::a4e f v r) from rfl]
  by_cases hk:k=f
  ·rw[if_pos hk]
   by_cases h:g=k
   ·have hb:(g==k)=true:=beq_iff_eq.mpr h
    simp only[List.lookup,hb,if_pos (h.trans hk)]
   ·have hb:(g==k)=false:=beq_eq_false_iff_ne.mpr h
    simp only[List.lookup,hb,if_neg (fun e:g=f=>h (e.trans hk.symm))]
  ·rw[if_neg hk]
   by_cases h:g=k
   ·have hb:(g==k)=true:=beq_iff_eq.mpr h
    simp only[List.lookup,hb,if_neg (fun e:g=f=>hk (h.symm.trans e))]
   ·have hb:(g==k)=false:=beq_eq_false_iff_ne.mpr h
    simp only[List.lookup,hb];exact ih
theorem a3z (f:Str)(v:V):∀fs:List (Str×V),f∈(a4e f v fs).map (·.1)/\∀g,g∈fs.map (·.1)->g∈(a4e f v fs).map (·.1)
 |[]=>⟨by simp[a4e],fun g h=>by simp at h⟩
 | (k,x)::r=>by
  obtain⟨i1,i2⟩:=a3z f v r;rw[show a4e f v ((k,x)::r)=(if k=f then(k,v)::r else(k,x)::a4e f v r) from rfl]
  by_cases hk:k=f
  ·rw[if_pos hk]
   subst hk;exact⟨by simp,fun g h=>by simpa using h⟩
  ·rw[if_neg hk]
   refine⟨?_,fun g h=>?_⟩
   ·rw[mN0]
    exact mL0 _ i1
   ·rw[mN0] at h ⊢
    rcases mK0.mp h with e |e
    ·exact mK0.mpr (.inl e)
    ·exact mL0 _ (i2 g e)
theorem a2K (f:Str)(v:V):∀fs:List (Str×V),(a4e f v fs).length<=fs.length+1
 |[]=>by simp[a4e]
 | (k,x)::r=>by
  have ih:=a2K f v r;rw[show a4e f v ((k,x)::r)=(if k=f then(k,v)::r else(k,x)::a4e f v r) from rfl]
  by_cases hk:k=f
  ·rw[if_pos hk,List.length_cons,List.length_cons];omega
  ·rw[if_neg hk,List.length_cons,List.length_cons];omega
theorem a5P.some_of {v:V}{o:Option Value}(r:a5P (some v) o):∃u,o=some u/\a0S v u:=by
 cases o with
 |none=>exact(show False from r).elim
 |some u=>exact⟨u,rfl,r⟩
theorem a5P.none_of {o:Option Value}(r:a5P none o):o=none:=by
 cases o with
 |none=>rfl
 |some u=>exact(show False from r).elim
theorem a9z {v:V}{u:Value}(r:a0S v u):PySem.W.handedIn u=true:=by
 cases v with
 |non=>cases(show u=Value.none from r);rfl
 |bl b=>cases(show u=Value.bool b from r);rfl
 |int i=>obtain⟨t,e⟩:=(show ∃t,u=Value.int i t from r);cases e;rfl
 |str x=>obtain⟨t,e⟩:=(show ∃t,u=Value.str x t from r);cases e;rfl
 |byt b=>obtain⟨t,e⟩:=(show ∃t,u=Value.bytes b t from r);cases e;rfl
 |flt b=>obtain⟨t,e⟩:=(show ∃t,u=Value.float b t from r);cases e;rfl
 |ref a=>cases(show u=Value.ref a from r);rfl
 |ty n=>cases(show u=Value.type n from r);rfl
section
variable {P:Program}{w:World}{H H':Hp}{h h':Heap}{a C dx:Addr}{fs fs':List (Str×V)}
theorem a4P (hok:HOk P w H h)(e:H a=some (.ins C dx fs)):∃mA,b2W h a dx C mA/\(∀f,a5P (fs.lookup f) (mA f))/\PySem.Within mA (fs.map (·.1))/\fs.length<=1000/\H dx=some (.own a):=by
 obtain⟨d,z,ne,ob,mA,n,r,q⟩:=(show a1f P w H h a (.ins C dx fs) from hok a _ e);exact⟨mA,⟨ob,n,ne⟩,r,q,z,d⟩
end
structure Cls (K:Fg0) (C:Addr):Prop where
 pg:PySem.W.plainGet K C Str.empty=true
 hd:PySem.W.hasDictIn K C=true
 po:PySem.W.plainOver K C=true
 sa:PySem.W.findIn K (.ref C) "__setattr__"=some (some (.builtin "object.__setattr__"))
theorem Cls.get {K:Fg0}{C:Addr}(c:Cls K C)(f:Str):PySem.W.plainGet K C f=true:=c.pg
def a3i (K:Fg0)(C:Addr)(f:Str):Prop:=PySem.W.findIn K (.ref C) f=some none
theorem a3i.taker {K:Fg0}{C:Addr}{f:Str}(n:a3i K C f):PySem.W.takerIn K C f=some none:=by
 unfold PySem.W.takerIn;rw[show PySem.W.findIn K (.ref C) f=some none from n]
 rfl
structure b1i (K:Fg0) (C:Addr) (m:Str) (f:Addr):Prop where
 at_:PySem.W.findIn K (.ref C) m=some (some (.ref f))
 fn:PySem.W.isFn K (.ref f)=true
 kp:PySem.W.keepIn K (.ref f)=true
section
variable {X:Cx}{pins:List (Addr×Obj)}{σ:St}{H:Hp}{s:Shared}{a C dx:Addr}{fs:List (Str×V)}{f:Str}{v:V}{A:Around}{E:Vs0}
theorem a7K {b:Bool}{Q:Vs0}(I:Inv X pins σ H s)(e:H a=some (.ins C dx fs))(c:Cls X.K C)(n:a3i X.K C f)(l:fs.lookup f=some v)
  (h:∀u s',Inv X pins σ H s'->a0S v u->Q u s'):wpAny (model X.prog X.w) A (getAttr (.ref a) f b) Q E s:=by
 obtain⟨mA,O,r,_,_,_⟩:=a4P I.hok e;obtain⟨u,hu,ru⟩:=a5P.some_of (v:=v) (o:=mA f) (by rw[<-l];exact r f);exact b2O I.kIn O (c.get f) c.hd n hu (a9z ru) (h u _ (I.tok _) ru)
theorem a3a {m:Str}{g:Addr}{pl:Sem Bool}{Q:Value×List Value->Shared->Prop}(I:Inv X pins σ H s)(e:H a=some (.ins C dx fs))(c:Cls X.K C)(k:b1i X.K C m g)(l:fs.lookup m=none)
  (h:Q (.ref g,[.ref a]) s):wpAny (model X.prog X.w) A (getMethod (.ref a) m pl) Q E s:=by
 obtain⟨mA,O,r,_,_,_⟩:=a4P I.hok e;have hn:mA m=none:=a5P.none_of (by rw[<-l];exact r m);exact a9Y I.kIn O (c.get m) k.at_ k.fn hn h
theorem a7Q {y:V}{u:Value}{Q:Unit->Shared->Prop}(I:Inv X pins σ H s)(e:H a=some (.ins C dx fs))(c:Cls X.K C)(n:a3i X.K C f)(hl:fs.length<1000)(ry:a0S y u)
  (h:∀s',Inv X pins σ (upd H a (.ins C dx (a4e f y fs))) s'->Q () s'):wpAny (model X.prog X.w) A (setAttr (.ref a) f u) Q E s:=by
 obtain⟨mA,O,r,wi,_,ho⟩:=a4P I.hok e;have hz:(fs.map (·.1)).length<=sizeLine:=by rw[lM0,sizeLine_eq];omega
 refine b2y I.kIn O c.sa c.po n.taker c.hd wi hz fun h' O' sb=>h _ ?_;have hd:∃o,h'.get? dx=some o:=let ⟨o,_,_,e',_⟩:=O'.ns;⟨o,e'⟩
 refine I.write (x:=a) (e:=dx) (by rw[e];exact True.intro) (.inr ho) (fun b q hb z=>(sb.2 b hb).trans z) hd ?_;refine⟨by rw[a0f O.ne];exact ho,?_,O.ne,O'.obj,_,O'.ns,fun g=>?_,fun g hg=>?_⟩
 ·have:=a2K f y fs;omega
 ·show a5P ((a4e f y fs).lookup g) (if g=f then some u else mA g)
  rw[a1p]
  by_cases q:g=f
  ·rw[if_pos q,if_pos q];exact ry
  ·rw[if_neg q,if_neg q];exact r g
 ·by_cases q:g=f
  ·rw[q];exact(a3z f y fs).1
  ·refine(a3z f y fs).2 g (wi g fun z=>hg ?_)
   show(if g=f then some u else mA g)=none
   rw[if_neg q];exact z
theorem Inv.made (I:Inv X pins σ H s):Inv X pins σ (upd (upd H s.heap.objs.size (.own (s.heap.objs.size+1))) (s.heap.objs.size+1) (.ins C s.heap.objs.size []))
  { s with heap:=(s.heap.push PySem.W.emptyDict).push (PySem.W.instObj C s.heap.objs.size) }:=by
 have e1:(s.heap.push PySem.W.emptyDict).get? s.heap.objs.size=some PySem.W.emptyDict:=hS0 s.heap rfl;have e2:((s.heap.push PySem.W.emptyDict).push (PySem.W.instObj C s.heap.objs.size)).get? (s.heap.objs.size+1)=some (PySem.W.instObj C s.heap.objs.size):=by
  have:=hS0 (s.heap.push PySem.W.emptyDict) (o:=PySem.W.instObj C s.heap.objs.size) rfl
  rwa [Heap.size_push] at this
 have e3:(s.heap.push PySem.W.emptyDict).Ns s.heap.objs.size (fun _=>none):=⟨PySem.W.emptyDict,#[],_,e1,rfl,(fun e he=>absurd he (by simp)),fun _=>rfl⟩;have I1:=I.laid (a:=s.heap.objs.size) (o:=.own (s.heap.objs.size+1)) (h':=s.heap.push PySem.W.emptyDict) (t':=s.toks) (fun b u q=>hP0 _ q) (nR0 _) ⟨_,e1⟩;refine I1.laid (a:=s.heap.objs.size+1) (o:=.ins C s.heap.objs.size []) (t':=s.toks) (fun b u q=>hP0 _ q) (Nat.le_of_eq (Heap.size_push _ _)) ?_;have ne:s.heap.objs.size≠s.heap.objs.size+1:=nL0 (Nat.lt_succ_self _);refine⟨by rw[a0f ne,a0b],zL0 _,ne,e2,fun _=>none,(Heap.Ns1.of_empty e3).at fun o q=>hP0 _ q,fun _=>True.intro,fun y hy=>absurd rfl hy⟩
theorem b2h {prog:Program}{w:World}{env:Env}{e:Expr}{f:Str}{pos:Pos}{s:Shared}{Q:Vs0}(hb:attributeBase e f env (eval e env)=eval e env)
  (h:wpAny (model prog w) A (eval e env) (fun o s₁=>wpAny (model prog w) A (getAttr o f true) Q E s₁) E s):wpAny (model prog w) A (eval (.Attribute e f pos) env) Q E s:=
 Attribute_any_ h (by rw[arm_eval_Attribute,hb])
end
def tFld (K:Fg0)(ta:TE)(f:Str):TE:=fun σ H Q=>ta σ H fun x H1=>∃a C dx fs v,x=.ref a/\H1 a=some (.ins C dx fs)/\Cls K C/\a3i K C f/\fs.lookup f=some v/\Q v H1
def sFld (K:Fg0)(ta tv:TE)(f:Str):TS:=fun D σ H=>tv σ H fun y H1=>ta σ H1 fun x H2=>∃a C dx fs,x=.ref a/\H2 a=some (.ins C dx fs)/\Cls K C/\a3i K C f/\fs.length<1000 ∧
 D.nx σ (upd H2 a (.ins C dx (a4e f y fs)))
section
variable {X:Cx}{o e value:Expr}{f:Str}{pos pos' tpos:Pos}{ta tv:TE}
theorem a1z (he:PE X e ta)(hb:attributeBase e f X.env (eval e X.env)=eval e X.env):PE X (.Attribute e f pos) (tFld X.K ta f):=by
 intro pins s σ H Q I h;refine b2h hb (thn (he pins s σ H _ I h) fun u s1 ⟨x,H1,I1,rx,a,C,dx,fs,v,ex,ea,c,n,l,q⟩=>?_);subst ex;obtain rfl:u=Value.ref a:=rx;exact a7K I1 ea c n l fun u' s2 I2 ru=>⟨v,H1,I2,ru,q⟩
theorem b1I (ha:PE X o ta)(hv:PE X value tv)(hs:swapsWith value (some (.Attribute o f pos')) pos.line X.env=pure false):PS X (.Assign [.Attribute o f pos'] value pos) (sFld X.K ta tv f):=by
 intro pins s σ H D I h;refine plainObj_wpAny_Assign_Attribute (thn (hv pins s σ H _ I h) fun u s1 ⟨y,H1,I1,ry,q⟩=>thn (ha pins s1 σ H1 _ I1 q) fun ov s2 ⟨x,H2,I2,rx,a,C,dx,fs,ex,ea,c,n,l,q2⟩=>?_) hs;subst ex;obtain rfl:ov=Value.ref a:=rx;exact a7Q I2 ea c n l ry fun s3 I3=>⟨σ,_,I3,q2⟩
theorem b1X {pl:Sem Bool}{m:Str}{apos:Pos}{args:List Expr}{pins:List (Addr×Obj)}{s:Shared}{σ:St}{H:Hp}{Q:Vs0}{te:TE}(he:PE X e te)(I:Inv X pins σ H s)
  (h:te σ H fun x H1=>∃a C dx fs g,x=.ref a/\H1 a=some (.ins C dx fs)/\Cls X.K C/\b1i X.K C m g/\fs.lookup m=none ∧
   ∀s1,Inv X pins σ H1 s1->wpAny (model X.prog X.w) X.A (callWith pos (.ref g) [.ref a] (backTo pos (starEach args X.env)) (backToKw pos (keywordEach [] X.env))) Q X.xe s1)
  (ht:eval (.Call (.Attribute e m apos) args [] pos) X.env=(do
   let ov <-eval e X.env
   standAt apos.atName
   let (f,first) <-holding [ov] (getMethod ov m pl)
   callWith pos f first (backTo pos (starEach args X.env)) (backToKw pos (keywordEach [] X.env)))) :
  wpAny (model X.prog X.w) X.A (eval (.Call (.Attribute e m apos) args [] pos) X.env) Q X.xe s:=by
 refine PySem.W.methodCall_KW (pl:=pl) (thn (he pins s σ H _ I h) fun u s1 ⟨x,H1,I1,rx,a,C,dx,fs,g,ex,ea,c,k,l,q⟩=>?_) ht;subst ex;obtain rfl:u=Value.ref a:=rx;exact a3a I1 ea c k l (q s1 I1)
end
section
variable {X:Cx}{pins:List (Addr×Obj)}{σ:St}{H:Hp}{s:Shared}{A:Around}{E:Vs0}{Q:Vs0}{c:Value}{b:Bool}
inductive a6w (K:Fg0) (H:Hp):V->Value->Prop where
 |non:a6w K H .non (.type "NoneType")
 |bl (x:Bool):a6w K H (.bl x) (.type "bool")
 |int (i:Int):a6w K H (.int i) (.type "int")
 |str (x:Str):a6w K H (.str x) (.type "str")
 |flt (x:UInt64):a6w K H (.flt x) (.type "float")
 |lst {a:Addr} {xs:List V} (e:H a=some (.lst xs)):a6w K H (.ref a) (.type "list")
 |frz {a:Addr} {o:Obj} {xs:List V} (e:H a=some (.frz o (.lst xs))):a6w K H (.ref a) (.type "list")
 |tup {a:Addr} {xs:List V} (e:H a=some (.tup xs)):a6w K H (.ref a) (.type "tuple")
 |dK {a:Addr} {kvs:List (Key×V)} (e:H a=some (.dK kvs)):a6w K H (.ref a) (.type "dict")
 |dT {a:Addr} {kvs:List (List Key×V)} (e:H a=some (.dT kvs)):a6w K H (.ref a) (.type "dict")
 |ins {a C dx:Addr} {fs:List (Str×V)} (e:H a=some (.ins C dx fs)) (cl:Cls K C) (ha:PySem.W.findIn K (.ref C) "__class__"=some (some (.builtin "object.__class__")))
   (hn:PySem.W.specialIn K (.builtin "object.__class__") "__get__"=some (some (.builtin "getset_descriptor.__get__"))) (htk:PySem.W.takesIn K (.builtin "object.__class__")=some true)
   (hm:PySem.W.mroIn K C (.type "object")=some true):a6w K H (.ref a) (.ref C)
theorem a9t {x:V}{u t:Value}(I:Inv X pins σ H s)(rx:a0S x u)(ty:a6w X.K H x t)(e:PySem.W.kitOne X.K t c=some b)(h:∀tk,Q (.bool b) { s with toks:=tk }) :
  wpAny (model X.prog X.w) A (call (.builtin "isinstance") [u,c]) Q E s:=by
 cases ty with
 |non=>cases(show u=Value.none from rx);exact PySem.W.kia_one PySem.W.kitx_none I.kIn True.intro e (fun z=>nomatch z) h
 |bl y=>cases(show u=Value.bool y from rx);exact PySem.W.kia_one PySem.W.kitx_bool I.kIn True.intro e (fun z=>nomatch z) h
 |int i=>obtain⟨t,q⟩:=(show ∃t,u=Value.int i t from rx);cases q;exact PySem.W.kia_one PySem.W.kitx_int I.kIn True.intro e (fun z=>nomatch z) h
 |str y=>obtain⟨t,q⟩:=(show ∃t,u=Value.str y t from rx);cases q;exact PySem.W.kia_one PySem.W.kitx_str I.kIn True.intro e (fun z=>nomatch z) h
 |flt y=>obtain⟨t,q⟩:=(show ∃t,u=Value.float y t from rx);cases q;exact PySem.W.kia_one PySem.W.kitx_float I.kIn True.intro e (fun z=>nomatch z) h
 |@lst a xs ea=>
  cases(show u=Value.ref a from rx)
  obtain⟨_,_,n,_,h1⟩:=(show a1f X.prog X.w H s.heap a (.lst xs) from I.hok a _ ea);exact PySem.W.kia_one PySem.W.kitx_list I.kIn ⟨_,h1,rfl⟩ e (fun z=>nomatch z) h
 |@frz a ob xs ea=>
  cases(show u=Value.ref a from rx)
  obtain⟨_,_,_,n,_,h1⟩:=(show a1f X.prog X.w H s.heap a (.frz ob (.lst xs)) from I.hok a _ ea);exact PySem.W.kia_one PySem.W.kitx_list I.kIn ⟨_,h1,rfl⟩ e (fun z=>nomatch z) h
 |@tup a xs ea=>
  cases(show u=Value.ref a from rx)
  obtain⟨_,_,_,p⟩:=(show a1f X.prog X.w H s.heap a (.tup xs) from I.hok a _ ea);obtain⟨o,h1,h2,_⟩:=p;exact PySem.W.kia_one PySem.W.kitx_tuple I.kIn ⟨o,h1,h2⟩ e (fun z=>nomatch z) h
 |@dK a kvs ea=>
  cases(show u=Value.ref a from rx)
  obtain⟨_,_,vs,_,p⟩:=(show a1f X.prog X.w H s.heap a (.dK kvs) from I.hok a _ ea);obtain⟨o,es,ep,h1,h2,_⟩:=p;exact PySem.W.kia_one PySem.W.kitx_dict I.kIn ⟨o,h1,h2.1⟩ e (fun z=>nomatch z) h
 |@dT a kvs ea=>
  cases(show u=Value.ref a from rx)
  obtain⟨_,_,xs,_,o,es,ep,h1,h2,_⟩:=(show a1f X.prog X.w H s.heap a (.dT kvs) from I.hok a _ ea);exact PySem.W.kia_one PySem.W.kitx_dict I.kIn ⟨o,h1,h2.1⟩ e (fun z=>nomatch z) h
 |@ins a C dx fs ea cl ha hn htk hm=>
  cases(show u=Value.ref a from rx)
  obtain⟨mA,O,_⟩:=a4P I.hok ea;obtain⟨od,J,_⟩:=O.look;exact PySem.W.kia_one (PySem.W.kitx_own (cl.get _) cl.hd ha hn htk hm) I.kIn J e (fun z=>nomatch z) h
end
structure a1q (k:Nat) (A:Around):Prop where
 hd:A.handled=none
 dp:A.depth+3 * k+5<recursionLimit
 un:A.units+16 * k+200<cLine
theorem a1q.mono {j k:Nat}{A:Around}(r:a1q k A)(h:j<=k):a1q j A:=⟨r.hd,by have:=r.dp;omega,by have:=r.un;omega⟩
theorem a1q.deeper {k:Nat}{A:Around}(r:a1q (k+1) A)(env:Env):a1q k (A.deeper env):=
 ⟨r.hd,by have:=r.dp;show A.depth+1+3 * k+5<_;omega,by have:=r.un;show A.units+3+16 * k+200<_;omega⟩
theorem a1q.in1 {k:Nat}{A:Around}(r:a1q (k+1) A):a1q k A.in1:=
 ⟨r.hd,by have:=r.dp;show A.depth+3 * k+5<_;omega,by have:=r.un;show A.units+1+16 * k+200<_;omega⟩
theorem a8j {A:Around}{C:Addr}{us:List Value}{kw:List (Str×Value)}:(A.under (.builtin "type.__call__" ⟨.ref C::us,kw⟩)).depth=A.depth+1:=by
 first |rfl |simp[Around.under,Code.weight,Code.isCreation,Code.isGuard,Code.isCaller,Code.frames,Code.isFrame,guardIds]
theorem a8i {A:Around}{C:Addr}{us:List Value}{kw:List (Str×Value)}:(A.under (.builtin "type.__call__" ⟨.ref C::us,kw⟩)).units=A.units+1:=by
 first |rfl |simp[Around.under,Code.cUnits,Code.frames,Code.isFrame]
theorem a1q.make {k:Nat}{A:Around}(r:a1q (k+1) A)(C:Addr)(us:List Value)(kw:List (Str×Value)):a1q k (A.under (.builtin "type.__call__" ⟨.ref C::us,kw⟩)):=
 ⟨r.hd,by have:=r.dp;rw[a8j];omega,by have:=r.un;rw[a8i];omega⟩
theorem a1q.depth {k:Nat}{A:Around}(r:a1q k A):A.depth<recursionLimit:=by have:=r.dp;omega
theorem a1q.units {k:Nat}{A:Around}(r:a1q k A):A.units+64<cLine:=by have:=r.un;omega
theorem a1q.units0 {k:Nat}{A:Around}(r:a1q k A):A.units<cLine:=by have:=r.un;omega
def b5O:TA:=fun _ H Q=>Q [] H
def b5c (ta:TE)(tr:TA):TA:=fun σ H Q=>ta σ H fun x H1=>tr σ H1 fun xs H2=>Q (x::xs) H2
section
variable {X:Cx}{e:Expr}{es:List Expr}{te:TE}{t:TA}{pos:Pos}
theorem a0c:PA X [] b5O:=fun _ _ _ _ H Q I h=>Calls.spliced_nil ⟨[],H,I,.nil,h⟩
theorem a0a (ha:PE X e te)(hr:PA X es t)(hs:starEach (e::es) X.env=(false,eval e X.env)::starEach es X.env:=by rfl):PA X (e::es) (b5c te t):=by
 intro pos pins s σ H Q I h;rw[hs];show wpAny _ _ (spliced ((false,eval e X.env)::backTo pos (starEach es X.env))) _ _ s;refine Calls.spliced_cons (thn (ha pins s σ H _ I h) fun u s1 ⟨x,H1,I1,r1,q1⟩=>?_);exact thn (hr pos pins s1 σ H1 _ I1 q1) fun us s2 ⟨xs,H2,I2,r2,q2⟩=>⟨x::xs,H2,I2,.cons r1 r2,q2⟩
def tTup (t:TA):TE:=fun σ H Q=>t σ H fun xs H1=>xs.length<=sizeLine/\∀p,H1 p=none->Q (.ref p) (upd H1 p (.tup xs))
def tLst (t:TA):TE:=fun σ H Q=>t σ H fun xs H1=>xs.length<=sizeLine/\∀p,H1 p=none->Q (.ref p) (upd H1 p (.lst xs))
theorem a0P {x1}(h:PA X es t):PE X (.Tuple es x1 pos) (tTup t):=by
 intro pins s σ H Q I hq;refine wpAny_Tuple_spliced (thn (h pos pins s σ H _ I hq) fun us s1 ⟨xs,H1,I1,r,z,q⟩=>⟨by rw[<-r.length];exact z,?_⟩);have hf:H1 s1.heap.objs.size=none:=I1.hok.fresh (nR0 _);refine⟨.ref s1.heap.objs.size,upd H1 s1.heap.objs.size (.tup xs),I1.laid (t':=s1.toks) (fun b u e=>hP0 _ e) (nR0 _) ?_,rfl,q _ hf⟩;exact⟨z,us,r,⟨_,hS0 _ rfl,rfl,_,rfl⟩⟩
theorem a1S (h:PA X es t):PE X (.List es pos) (tLst t):=by
 intro pins s σ H Q I hq;refine wpAny_List_spliced (thn (h pos pins s σ H _ I hq) fun us s1 ⟨xs,H1,I1,r,z,q⟩=>⟨by rw[<-r.length];exact z,?_⟩);have hf:H1 s1.heap.objs.size=none:=I1.hok.fresh (nR0 _);refine⟨.ref s1.heap.objs.size,upd H1 s1.heap.objs.size (.lst xs),I1.laid (t':=s1.toks) (fun b u e=>hP0 _ e) (nR0 _) ?_,rfl,q _ hf⟩;exact⟨z,us,0,r,hS0 _ rfl⟩
end
abbrev Sp:=List V->Hp->VK->XK->Prop
abbrev CXT:=List Env->Hp->Shared->XK->Value->Shared->Prop
structure a7s (P:Program) (w:World) (K:Fg0) (mg:Str->Option Value) (base:Heap) (A:Around) (outer:List Env) (s:Shared) (H:Hp):Prop where
 frames:A.frames=some outer
 mod:Mod K mg base
 bs:∀b o,base.get? b=some o->s.heap.get? b=some o/\H b=none
 bsz:base.objs.size<=s.heap.objs.size
 funs:s.heap.FunFrames base outer
 frf:∀b∈frs outer,H b=none
 hok:HOk P w H s.heap
 bare:AllBare s.gens
def CE (outer:List Env)(P:Program)(w:World)(H:Hp)(s:Shared)(Q:VK)(u:Value)(s':Shared):Prop:=
 ∃v H',s'.os=s.os/\AllBare s'.gens/\Un (frs outer) [] H H' s.heap s'.heap/\HOk P w H' s'.heap/\a0S v u/\Q v H'
def CR (CX:CXT)(outer:List Env)(P:Program)(w:World)(H:Hp)(s:Shared)(Q:VK)(E:XK)(r:Result)(s':Shared):Prop:=
 match r with
 | .ok (.ret u)=>CE outer P w H s Q u s'
 | .ok _=>False
 | .error e=>CX outer H s E e s'
structure a0y (P:Program) (w:World) (K:Fg0) (mg:Str->Option Value) (base:Heap) (CX:CXT) (k:Nat) (f:Addr) (fd:FuncData) (ps:List Str) (sp:Sp):Prop where
 len:∀vs H Q E,sp vs H Q E->vs.length=ps.length
 run:∀(A:Around) (outer:List Env) (s:Shared) (H:Hp) (args:Args) (us:List Value) (vs:List V) (Q:VK) (E:XK),a1q k A->a7s P w K mg base A outer s H->BindsTo s fd args (ps.zip us)->a0V vs us->sp vs H Q E →
  codeAny (model P w) A (.call (.ref f) args) (CR CX outer P w H s Q E) s
theorem a7s.make {P:Program}{w:World}{K:Fg0}{mg:Str->Option Value}{base:Heap}{A:Around}{outer:List Env}{s:Shared}{H:Hp}(e:a7s P w K mg base A outer s H)(C:Addr)(us:List Value)(kw:List (Str×Value)) :
  a7s P w K mg base (A.under (.builtin "type.__call__" ⟨.ref C::us,kw⟩)) outer s H:=⟨by first |exact e.frames | (simpa[Around.under,Code.envs,Code.isFrame,pushEnvs] using e.frames),e.mod,e.bs,e.bsz,e.funs,e.frf,e.hok,e.bare⟩
theorem a7s.in1 {P:Program}{w:World}{K:Fg0}{mg:Str->Option Value}{base:Heap}{A:Around}{outer:List Env}{s:Shared}{H:Hp}(e:a7s P w K mg base A outer s H) :
  a7s P w K mg base A.in1 outer s H:=⟨e.frames,e.mod,e.bs,e.bsz,e.funs,e.frf,e.hok,e.bare⟩
section
variable {X:Cx}{pins:List (Addr×Obj)}{σ:St}{H:Hp}{s s':Shared}
theorem Inv.env0 (I:Inv X pins σ H s):a7s X.prog X.w X.K X.mg X.base X.A X.stack s H:=
 ⟨I.ok.frames,I.ok.mod,I.bs,Nat.le_trans I.ok.bsz I.sz,I.stack,I.stkFree,I.hok,I.bare⟩
theorem Inv.after {Q:VK}{u:Value}(I:Inv X pins σ H s)(h:CE X.stack X.prog X.w H s Q u s'):EP X pins σ Q u s':=by
 obtain⟨v,H',os,bare,un,hok,r,q⟩:=h;obtain⟨hh,g,d,t,os'⟩:=s';obtain rfl:os'=s.os:=os;exact⟨v,H',I.call (h':=hh) (g':=g) (d':=d) (t':=t) (ch:=[]) un hok bare (fun b z=>absurd z (by simp)),r,q⟩
end
def b5v (sp:Sp)(dvs:List V)(E:XK)(t:TA):TE:=fun σ H Q=>t σ H fun vs H1=>sp (vs++dvs) H1 Q E
def b3o (C:Addr)(m:Str)(sp:Sp)(dvs:List V)(E:XK)(ta:TE)(t:TA):TE:=fun σ H Q=>ta σ H fun x H1=>∃a dx fs,x=.ref a/\H1 a=some (.ins C dx fs)/\fs.lookup m=none ∧
 t σ H1 fun vs H2=>sp (x::(vs++dvs)) H2 Q E
def b4H (C:Addr)(sp:Sp)(dvs:List V)(E:XK)(t:TA):TE:=fun σ H Q=>t σ H fun vs H1=>∀x dx,H1 x=none->H1 dx=none->dx≠x →
 sp (.ref x::(vs++dvs)) (upd (upd H1 dx (.own x)) x (.ins C dx [])) (fun v H2=>v=.non/\Q (.ref x) H2) E
def a1Z (K:Fg0)(fd:FuncData)(ps:List Str)(ds:List Value):Prop:=
 ∀(s:Shared) (us:List Value),K.In s.heap->(us++ds).length=ps.length->BindsTo s fd ⟨us,[]⟩ (ps.zip (us++ds))
theorem a1Z.all {K:Fg0}{fd:FuncData}{ps:List Str}(h:∀us:List Value,us.length=ps.length->bindArgs fd ⟨us,[]⟩=pure (ps.zip us)):a1Z K fd ps []:=fun s us _ hl=>by
 rw[List.append_nil] at hl ⊢;exact .of_eq (h us hl)
def a3M (CX:CXT)(X:Cx)(E:XK):Prop:=∀(pins:List (Addr×Obj)) (σ:St) (H:Hp) (s:Shared) (e:Value) (s':Shared),Inv X pins σ H s->CX X.stack H s E e s'->X.xe e s'
section
variable {X:Cx}{CX:CXT}{k:Nat}{f C:Addr}{fd:FuncData}{ps:List Str}{sp:Sp}{dvs:List V}{ds:List Value}{E:XK}{x m:Str}{p pos apos:Pos}{e o:Expr}{es:List Expr}{ta:TE}{t:TA}
theorem a9R {pins:List (Addr×Obj)}{σ:St}{H:Hp}{s:Shared}{Q:VK}{us:List Value}{vs:List V}(F:a0y X.prog X.w X.K X.mg X.base CX k f fd ps sp)(hr:a1q k X.A)(hb:a1Z X.K fd ps ds)(hd:a0V dvs ds)(hx:a3M CX X E)
  (I:Inv X pins σ H s) (r:a0V vs us) (h:sp (vs++dvs) H Q E):wpAny (model X.prog X.w) X.A (call (.ref f) us) (EP X pins σ Q) X.xe s:=by
 have r2:a0V (vs++dvs) (us++ds):=r.append hd;have hl:(us++ds).length=ps.length:=by rw[<-r2.length];exact F.len _ _ _ _ h
 refine wpAny_call (codeAny_mono (F.run X.A X.stack s H ⟨us,[]⟩ (us++ds) (vs++dvs) Q E hr I.env0 (hb s us I.kIn hl) r2 h) fun r s' hq=>?_);cases r with
 |error e=>exact hx pins σ H s e s' I hq
 |ok fl=>
  cases fl with
  |ret u=>exact I.after hq
  |next=>exact False.elim hq
  |brk=>exact False.elim hq
  |cont=>exact False.elim hq
theorem a0j (F:a0y X.prog X.w X.K X.mg X.base CX k f fd ps sp)(hr:a1q k X.A)(hg:Gl X x)(hm:X.mg x=some (.ref f))(hk:PySem.W.keepIn X.K (.ref f)=true)(hb:a1Z X.K fd ps ds)(hd:a0V dvs ds)(hx:a3M CX X E)
  (ha:PA X (e::es) t) (hdb:(x==("__debug__":Str))=false:=by decide) (he:starEach (e::es) X.env=(false,eval e X.env)::starEach es X.env:=by rfl) (hpl:(backTo pos (starEach es X.env)).any (·.1)=false:=by rfl) :
  PE X (.Call (.Name x p) (e::es) [] pos) (b5v sp dvs E t):=by
 intro pins s σ H Q I h;refine wpAny_Call_Name_kw (a4W I hg hm ?_ hdb);refine PySem.W.callWith_K (h₀:=X.base) I.ok.mod.kin hk (thn (ha pos pins s σ H _ I h) fun us s1 ⟨vs,H1,I1,r,q⟩=>⟨I1.kIn,?_⟩) he hpl;exact a9R F hr hb hd hx I1 r q
theorem a2w {pl:Sem Bool}(he:PE X o ta)(c:Cls X.K C)(hm:b1i X.K C m f)(F:a0y X.prog X.w X.K X.mg X.base CX k f fd ps sp)(hr:a1q k X.A)(hb:a1Z X.K fd ps ds)(hd:a0V dvs ds)(hx:a3M CX X E)(ha:PA X (e::es) t)
  (hst:starEach (e::es) X.env=(false,eval e X.env)::starEach es X.env:=by rfl) (hpl:(backTo pos (starEach es X.env)).any (·.1)=false:=by rfl)
  (ht:eval (.Call (.Attribute o m apos) (e::es) [] pos) X.env=(do
   let ov <-eval o X.env
   standAt apos.atName
   let (f,first) <-holding [ov] (getMethod ov m pl)
   callWith pos f first (backTo pos (starEach (e::es) X.env)) (backToKw pos (keywordEach [] X.env))):=by rfl) :
  PE X (.Call (.Attribute o m apos) (e::es) [] pos) (b3o C m sp dvs E ta t):=by
 intro pins s σ H Q I h;refine PySem.W.methodCall_KW (pl:=pl) (thn (he pins s σ H _ I h) fun u s1 ⟨x,H1,I1,rx,a,dx,fs,ex,ea,l,q⟩=>?_) ht;subst ex;obtain rfl:u=Value.ref a:=rx;refine a3a I1 ea c hm l ?_;refine PySem.W.callWith_K (first:=[.ref a]) (h₀:=X.base) I.ok.mod.kin hm.kp (thn (ha pos pins s1 σ H1 _ I1 q) fun us s2 ⟨vs,H2,I2,r,q2⟩=>⟨I2.kIn,?_⟩) hst hpl;exact a9R (us:=.ref a::us) (vs:=.ref a::vs) F hr hb hd hx I2 (.cons rfl r) q2
theorem a3v {pl:Sem Bool}(he:PE X o ta)(c:Cls X.K C)(hm:b1i X.K C m f)(F:a0y X.prog X.w X.K X.mg X.base CX k f fd ps sp)(hr:a1q k X.A)(hb:a1Z X.K fd ps ds)(hd:a0V dvs ds)(hx:a3M CX X E)
  (ht:eval (.Call (.Attribute o m apos) [] [] pos) X.env=(do
   let ov <-eval o X.env
   standAt apos.atName
   let (f,first) <-holding [ov] (getMethod ov m pl)
   callWith pos f first (backTo pos (starEach [] X.env)) (backToKw pos (keywordEach [] X.env))):=by rfl) :
  PE X (.Call (.Attribute o m apos) [] [] pos) (b3o C m sp dvs E ta b5O):=by
 intro pins s σ H Q I h;refine PySem.W.methodCall_KW (pl:=pl) (thn (he pins s σ H _ I h) fun u s1 ⟨x,H1,I1,rx,a,dx,fs,ex,ea,l,q⟩=>?_) ht;subst ex;obtain rfl:u=Value.ref a:=rx;refine a3a I1 ea c hm l ?_;exact PySem.W.callWith_K0 (first:=[.ref a]) I1.kIn hm.kp (a9R (us:=[.ref a]) (vs:=[.ref a]) F hr hb hd hx I1 (.cons rfl .nil) q)
structure Mk (K:Fg0) (C f:Addr):Prop where
 makes:PySem.W.makesIn K C=true
 init:PySem.W.findIn K (.ref C) "__init__"=some (some (.ref f))
 fn:PySem.W.isFn K (.ref f)=true
 kp:PySem.W.keepIn K (.ref C)=true
theorem b0s {pins:List (Addr×Obj)}{σ:St}{H:Hp}{s:Shared}{Q:VK}{us:List Value}{vs:List V}(M:Mk X.K C f)(F:a0y X.prog X.w X.K X.mg X.base CX k f fd ps sp)(hr:a1q (k+1) X.A)(hb:a1Z X.K fd ps ds)(hd:a0V dvs ds)
  (hx:a3M CX X E) (I:Inv X pins σ H s) (r:a0V vs us)
  (h:∀x dx,H x=none->H dx=none->dx≠x->sp (.ref x::(vs++dvs)) (upd (upd H dx (.own x)) x (.ins C dx [])) (fun v H2=>v=.non/\Q (.ref x) H2) E) :
  wpAny (model X.prog X.w) X.A (call (.ref C) us) (EP X pins σ Q) X.xe s:=by
 have hq:=h (s.heap.objs.size+1) s.heap.objs.size (I.hok.fresh (Nat.le_succ _)) (I.hok.fresh (nR0 _)) (nL0 (Nat.lt_succ_self _));have I2:=Inv.made (C:=C) I;have r2:a0V (V.ref (s.heap.objs.size+1)::(vs++dvs)) (Value.ref (s.heap.objs.size+1)::(us++ds)):=.cons rfl (r.append hd);have hl:(Value.ref (s.heap.objs.size+1)::us++ds).length=ps.length:=by
  have e:=r2.length;rw[F.len _ _ _ _ hq] at e;exact e.symm
 refine wpAny_call (b0c (f:=f) I.kIn M.makes M.init (beq_iff_eq.mp M.fn) (codeAny_mono (F.run _ X.stack _ _ ⟨Value.ref (s.heap.objs.size+1)::us,[]⟩ (Value.ref (s.heap.objs.size+1)::(us++ds)) _ _ E (hr.make C us [])
  (I2.env0.make C us []) (hb _ (Value.ref (s.heap.objs.size+1)::us) I2.kIn hl) r2 hq) fun r s' hq'=>?_))
 cases r with
 |error e=>exact hx pins σ _ _ e s' I2 hq'
 |ok fl=>
  cases fl with
  |ret u=>
   obtain⟨v,H',I3,rv,ev,q3⟩:=I2.after hq';subst ev;exact⟨rv,⟨V.ref (s.heap.objs.size+1),H',I3,rfl,q3⟩⟩
  |next=>exact False.elim hq'
  |brk=>exact False.elim hq'
  |cont=>exact False.elim hq'
theorem b2R (M:Mk X.K C f)(F:a0y X.prog X.w X.K X.mg X.base CX k f fd ps sp)(hr:a1q (k+1) X.A)(hg:Gl X x)(hm:X.mg x=some (.ref C))(hb:a1Z X.K fd ps ds)(hd:a0V dvs ds)(hx:a3M CX X E)
  (ha:PA X (e::es) t) (hdb:(x==("__debug__":Str))=false:=by decide) (he:starEach (e::es) X.env=(false,eval e X.env)::starEach es X.env:=by rfl) (hpl:(backTo pos (starEach es X.env)).any (·.1)=false:=by rfl) :
  PE X (.Call (.Name x p) (e::es) [] pos) (b4H C sp dvs E t):=by
 intro pins s σ H Q I h;refine wpAny_Call_Name_kw (a4W I hg hm ?_ hdb);refine PySem.W.callWith_K (h₀:=X.base) I.ok.mod.kin M.kp (thn (ha pos pins s σ H _ I h) fun us s1 ⟨vs,H1,I1,r,q⟩=>⟨I1.kIn,?_⟩) he hpl;exact b0s M F hr hb hd hx I1 r q
end
structure a0o (N P:List Str) (sc:Scope):Prop where
 kind:sc.kind=.function
 co:sc.isCoroutine=false
 gen:sc.isGenerator=false
 nd:N.Nodup
 pre:N.take P.length=P
 par:∀x∈P,sc.names.lookup x=some .local\/sc.names.lookup x=some .cell
 nofree:∀y∈sc.names,y.2≠.free
theorem a5J {kindOf:Str->Option NameKind}{x:Str}:∀{binds:List (Str×Value)} {m:Str->Option Value},(∀v,(x,v)∉binds)->bindL kindOf binds m x=m x
 |[],_,_=>rfl
 | (n,v)::r,m,h=>by
  unfold bindL;rw[a5J fun w hw=>h w (mL0 _ hw)]
  split
  ·have:x≠n:=by rintro rfl;exact h v List.mem_cons_self
   simp[this]
  ·rfl
theorem a5y {kindOf:Str->Option NameKind}{x:Str}:∀{binds:List (Str×Value)} {m:Str->Option Value},(∀v,(x,v)∉binds)->bindC kindOf binds m x=m x
 |[],_,_=>rfl
 | (n,v)::r,m,h=>by
  unfold bindC;rw[a5y fun w hw=>h w (mL0 _ hw)]
  split
  ·rfl
  ·have:x≠n:=by rintro rfl;exact h v List.mem_cons_self
   simp[this]
theorem a5S {kindOf:Str->Option NameKind}{x:Str}{v:Value}:∀{P:List Str} {vs:List Value} {i:Nat} {m:Str->Option Value},P.Nodup->P[i]? =some x->vs[i]? =some v->kindOf x=some .local →
  bindL kindOf (P.zip vs) m x=some v
 |[],_,_,_,_,h,_,_=>by simp at h
 |_::_,[],_,_,_,_,h,_=>by simp at h
 |p::P,w::vs,0,m,nd,h1,h2,hk=>by
  simp at h1 h2;subst h1;subst h2;show bindL kindOf ((p,w)::P.zip vs) m p=_;unfold bindL;rw[a5J fun v hv=>(List.nodup_cons.mp nd).1 (List.of_mem_zip hv).1,if_pos hk];simp
 |p::P,w::vs,i+1,m,nd,h1,h2,hk=>by
  show bindL kindOf ((p,w)::P.zip vs) m x=_;unfold bindL;exact a5S (i:=i) (List.nodup_cons.mp nd).2 (by simpa using h1) (by simpa using h2) hk
theorem a5K {kindOf:Str->Option NameKind}{x:Str}{v:Value}:∀{P:List Str} {vs:List Value} {i:Nat} {m:Str->Option Value},P.Nodup->P[i]? =some x->vs[i]? =some v->kindOf x≠some .local →
  bindC kindOf (P.zip vs) m x=some v
 |[],_,_,_,_,h,_,_=>by simp at h
 |_::_,[],_,_,_,_,h,_=>by simp at h
 |p::P,w::vs,0,m,nd,h1,h2,hk=>by
  simp at h1 h2;subst h1;subst h2;show bindC kindOf ((p,w)::P.zip vs) m p=_;unfold bindC;rw[a5y fun v hv=>(List.nodup_cons.mp nd).1 (List.of_mem_zip hv).1,if_neg hk];simp
 |p::P,w::vs,i+1,m,nd,h1,h2,hk=>by
  show bindC kindOf ((p,w)::P.zip vs) m x=_;unfold bindC;exact a5K (i:=i) (List.nodup_cons.mp nd).2 (by simpa using h1) (by simpa using h2) hk
def a2W (N:List Str)(vs:List V):St:=vs.map some++List.replicate (N.length-vs.length) none
def a6b (CX:CXT)(P:Program)(w:World)(K:Fg0)(mg:Str->Option Value)(base:Heap)(N:List Str)(qual:Str)(scope:Scope)(f:Addr)(cd:Value)(A:Around)(outer:List Env)(s:Shared)(H:Hp)(E:XK):Cx where
 prog:=P
 w:=w
 K:=K
 mg:=mg
 base:=base
 A:=A.deeper (envOfC qual scope s.heap.objs.size f cd)
 N:=N
 s₀:=s
 H₀:=H
 env:=envOfC qual scope s.heap.objs.size f cd
 outer:=outer
 stack:=envOfC qual scope s.heap.objs.size f cd::outer
 ex:=[]
 calm:=true
 fn:=fun _=>true
 pn:=[]
 xe:=fun e s'=>wpAny (model P w) (A.deeper (envOfC qual scope s.heap.objs.size f cd)) (leaving (envOfC qual scope s.heap.objs.size f cd) e) (fun _ s''=>CX outer H s E e s'') (fun e' s''=>CX outer H s E e' s'') s'
theorem a7b {sc:Scope}{n:Nat}{x:Str}(h:sc.names.lookup x=some .cell):∃c,(cellsFrom n sc.names []).lookup x=some c:=by
 have q:=PySem.W.cellsFrom_some sc.names n [] (.inl h);exact Option.isSome_iff_exists.mp q
theorem a3E {CX:CXT}{P:Program}{w:World}{K:Fg0}{mg:Str->Option Value}{base:Heap}{N ps:List Str}{qual:Str}{scope:Scope}{f:Addr}{cd:Value}{A:Around}{outer:List Env}{s s1:Shared}{H:Hp}{E:XK}{us:List Value}{vs:List V}
  (S:a0o N ps scope) (hd:A.handled=none) (e0:a7s P w K mg base A outer s H) (hl:vs.length=ps.length) (r:a0V vs us)
  (x:InCallC s s.heap.objs.size (bindL (envOfC qual scope s.heap.objs.size f cd).kindOf (ps.zip us) fun _=>none) (cellsFrom (s.heap.objs.size+1) scope.names []) (bindC (envOfC qual scope s.heap.objs.size f cd).kindOf (ps.zip us) fun _=>none) s1) :
  Inv (a6b CX P w K mg base N qual scope f cd A outer s H E) [] (a2W N vs) H s1:=by
 have hpl:ps.length<=N.length:=by have:=congrArg List.length S.pre;rw[List.length_take] at this;omega
 obtain⟨h1,tk,rfl,hk⟩:=x.done;have noA:∀b:Addr,b∉(a6b CX P w K mg base N qual scope f cd A outer s H E).ex:=fun b z=>absurd (show b∈([]:List Addr) from z) (by simp);refine⟨⟨e0.mod,S.kind,rfl,rfl,nR0 _,fun y z c h1 h2=>?_,fun y hy=>?_,fun y c _ h=>?_,fun _=>hd,Around.frames_deeper e0.frames,.inr ⟨rfl,rfl⟩,fun b z=>absurd z (noA b),e0.bs,e0.bsz,fun b _ _=>noA b,fun b z=>absurd z (noA b),e0.funs,e0.frf⟩,
  rfl,e0.bare,Un.kept hk,⟨_,x.toInCall.ns,fun i y v h1 h2 h3=>?_⟩,fun y c h=>⟨_,x.cell y c h⟩,e0.hok.fresh (nR0 _),fun y c h=>?_,fun p hp=>absurd (show p∈([]:List (Addr×Obj)) from hp) (by simp),e0.hok.kept hk,?_⟩
 ·exact name_of_addr x.apart (PySem.mem_of_lookup h1) (PySem.mem_of_lookup h2)
 ·have hy:scope.names.lookup y=some .cell\/scope.names.lookup y=some .free:=hy
  rcases hy with hy |hy
  ·exact a7b hy
  ·exact absurd rfl (S.nofree _ (PySem.mem_of_lookup hy))
 ·exact Nat.le_of_lt (x.above y c (PySem.mem_of_lookup h))
 ·have hi:i<vs.length:=by
   unfold a2W at h2
   by_cases hi:i<vs.length
   ·exact hi
   ·rw[gR0 (by simpa using hi)] at h2
    rw[List.getElem?_replicate] at h2
    split at h2<;>cases h2
  have ha:vs[i]? =some v:=by
   unfold a2W at h2;rw[gL0 (by simpa using hi),gM0] at h2;cases e:vs[i]? with
   |none=>rw[e] at h2;cases h2
   |some a=>rw[e] at h2;cases h2;rfl
  obtain⟨u,hu,rv⟩:=r.get ha;have hp:ps[i]? =some y:=by
   rw[<-S.pre,List.getElem?_take_of_lt (by omega)];exact h1
  have ndP:ps.Nodup:=by rw[<-S.pre];exact S.nd.sublist (List.take_sublist _ _)
  refine⟨u,rv,?_⟩;rcases S.par y (gI0 hp) with k |k
  ·exact .inl ⟨k,a5S ndP hp hu k⟩
  ·obtain⟨c,e⟩:=a7b (n:=s.heap.objs.size+1) k
   refine .inr ⟨.inl k,c,e,?_⟩;have q:=x.cell y c e;rw[a5K ndP hp hu (by show scope.names.lookup y≠_;rw[k];decide)] at q;exact q
 ·exact e0.hok.fresh (Nat.le_of_lt (x.above y c (PySem.mem_of_lookup h)))
 ·unfold a2W
  show _=N.length;rw[lA0,lM0,List.length_replicate]
  omega
theorem b2x {CX:CXT}{P:Program}{w:World}{K:Fg0}{mg:Str->Option Value}{base:Heap}{k:Nat}{f:Addr}{name qual:Str}{params:Arguments}{body:List Stmt}{scope:Scope}{dV kV doc pm cdv ct oc:Value}{an od:Option Addr}
  {osl:Array (Option Value)} {N ps:List Str} {sp:Sp} (lk:K.lookup f=some ⟨oc,od,.func (PySem.W.fnOf name qual params body scope dV kV doc pm an cdv ct),osl⟩) (hcd:PySem.W.codeIn K cdv qual=true) (S:a0o N ps scope)
  (len:∀vs H Q E,sp vs H Q E->vs.length=ps.length)
  (hbody:∀(A:Around) (outer:List Env) (s:Shared) (H:Hp) (vs:List V) (Q:VK) (E:XK),a1q k (A.deeper (envOfC qual scope s.heap.objs.size f cdv))->sp vs H Q E →
   ∃t,PSs (a6b CX P w K mg base N qual scope f cdv A outer s H E) body t/\t { nx:=fun _ H'=>Q .non H',rt:=Q } (a2W N vs) H) :
  a0y P w K mg base CX (k+1) f (PySem.W.fnOf name qual params body scope dV kV doc pm an cdv ct) ps sp:=by
 refine⟨len,fun A outer s H args us vs Q E hr e0 hb r hsp=>?_⟩;have hl:=len _ _ _ _ hsp;have KX:K.In s.heap:=e0.mod.kin.keeps fun b o e=>(e0.bs b o e).1;have lim:s.heap.NoLimit:=e0.mod.nolimit.keeps fun b o e=>(e0.bs b o e).1;have hkind:∀y∈ps.zip us,scope.names.lookup y.1=some .local\/(scope.names.lookup y.1=some .cell/\((cellsFrom (s.heap.objs.size+1) scope.names []).lookup y.1).isSome=true):=fun⟨n,v⟩ hy=>by
  rcases S.par n (List.of_mem_zip hy).1 with q |q
  ·exact .inl q
  ·exact .inr ⟨q,PySem.W.cellsFrom_some _ _ _ (.inl q)⟩
 refine codeAny_call_function hr.depth (KX _ _ lk) rfl S.co S.gen rfl (PySem.W.codeRec_of KX hcd) (hb _ _ _ _ ?_);refine wpAny_newFunctionEnv_cells S.kind hkind fun env he s1 x=>?_;subst he;refine⟨lim.keeps x.toInCall.keep,codeAny_func ?_⟩;obtain⟨t,ht,hq⟩:=hbody A outer s H vs Q E (hr.deeper _) hsp;have I:Inv (a6b CX P w K mg base N qual scope f cdv A outer s H E) [] (a2W N vs) H s1:=a3E S hr.hd e0 hl r x;refine wpAny_mono (ht [] s1 (a2W N vs) H _ I hq) (fun fl s' hs=>?_) fun e s' hs=>hs;have fin:∀{σ':St} {H':Hp} {v:V} {u:Value},Inv (a6b CX P w K mg base N qual scope f cdv A outer s H E) [] σ' H' s'->a0S v u->Q v H'->CE outer P w H s Q u s':=
  fun {σ' H' v u} J rv q=>⟨v,H',J.os,J.bare,J.base,J.hok,rv,q⟩
 cases fl with
 |ret u=>
  obtain⟨v,σ',H',J,rv,q⟩:=hs;exact fin J rv q
 |next=>
  obtain⟨σ',H',J,q⟩:=hs;exact fin (v:=V.non) (u:=Value.none) J rfl q
 |brk=>
  obtain⟨_,_,_,q⟩:=hs;exact False.elim q
 |cont=>
  obtain⟨_,_,_,q⟩:=hs;exact False.elim q
section
variable {X:Cx}{x:Str}{p pos:Pos}{e:Expr}{es:List Expr}{t:TA}{id T:String}{r:List V->Hp->VK->Prop}
def tCB (r:List V->Hp->VK->Prop)(t:TA):TE:=fun σ H Q=>t σ H fun vs H1=>r vs H1 Q
theorem a0i (hc:a1e X (.builtin id) r)(hg:Gl X x)(hm:X.mg x=none)(hv:bootBuiltins x=some (.builtin id))(ha:PA X (e::es) t)(hn:x≠"__name__":=by decide)(hdb:(x==("__debug__":Str))=false:=by decide)
  (he:starEach (e::es) X.env=(false,eval e X.env)::starEach es X.env:=by rfl) (hpl:(backTo pos (starEach es X.env)).any (·.1)=false:=by rfl):PE X (.Call (.Name x p) (e::es) [] pos) (tCB r t):=by
 intro pins s σ H Q I h;refine wpAny_Call_Name_kw (a3P I hg hm hv ?_ hn hdb);exact PyProof.Rows.callWith_builtin1 (thn (ha pos pins s σ H _ I h) fun us s1 ⟨vs,H1,I1,r1,q1⟩=>hc pins s1 σ H1 vs us Q I1 r1 q1) he hpl
theorem a0I (hc:a1e X (.type T) r)(hg:Gl X x)(hm:X.mg x=none)(hv:bootBuiltins x=some (.type T))(ha:PA X (e::es) t)(hn:x≠"__name__":=by decide)(hdb:(x==("__debug__":Str))=false:=by decide)
  (he:starEach (e::es) X.env=(false,eval e X.env)::starEach es X.env:=by rfl) (hpl:(backTo pos (starEach es X.env)).any (·.1)=false:=by rfl):PE X (.Call (.Name x p) (e::es) [] pos) (tCB r t):=by
 intro pins s σ H Q I h;refine wpAny_Call_Name_kw (a3P I hg hm hv ?_ hn hdb);exact PyProof.Rows.callWith_type1 (thn (ha pos pins s σ H _ I h) fun us s1 ⟨vs,H1,I1,r1,q1⟩=>hc pins s1 σ H1 vs us Q I1 r1 q1) he hpl
end
end L2
namespace HT
open PySem PyProof.Rows
section
open PySem.SeqAt
open PySem.AutoSeq1 (wpAny_loadPart')
open PySem.MeetsSeq PySem.MeetsSeq2 PySem.MeetsSeq3
end
section
variable {prog:Program}{w:World}{A:Around}{E:Vs0}{s:Shared}
def sIx (n d:Nat):Option Int->Nat
 |none=>d
 |some v=>if v<0 then(v+(n:Int)).toNat else min v.toNat n
theorem a6M (n d:Nat):sIx n d none=d:=rfl
theorem b2F (v:Int)(n d:Nat):(if v<0 then max (v+(n:Int)) 0 else min v (n:Int))=((sIx n d (some v):Nat):Int):=by
 show(if v<0 then max (v+(n:Int)) 0 else min v (n:Int))=(((if v<0 then(v+(n:Int)).toNat else min v.toNat n):Nat):Int)
 by_cases hv:v<0
 ·simp only[if_pos hv];omega
 ·simp only[if_neg hv];omega
end
end HT
namespace L2
open PySem PySem.Spec PyProof.Rows
abbrev TO:=St->Hp->(Option Int->Hp->Prop)->Prop
def PO (X:Cx)(e:Option Expr)(t:TO):Prop:=
 ∀(pins:List (Addr×Obj)) (s:Shared) (σ:St) (H:Hp) (Q:Option Int->Hp->Prop),Inv X pins σ H s->t σ H Q →
  wpAny (model X.prog X.w) X.A (evalPart e X.env) (fun u s'=>∃o H',Inv X pins σ H' s'/\IsPart u o/\Q o H') X.xe s
def b1R:TO:=fun _ H Q=>Q none H
def b5t (t:TE):TO:=fun σ H Q=>t σ H fun x H1=>∃i,x=.int i/\Q (some i) H1
section
variable {X:Cx}{e:Expr}{te:TE}{lo hi:Option Expr}{tl th:TO}{pos p2:Pos}
theorem a4H:PO X none b1R:=by
 intro pins s σ H Q I h;rw[evalPart_none];exact wP0 ⟨none,H,I,.none,h⟩
theorem a4E (h:PE X e te):PO X (some e) (b5t te):=by
 intro pins s σ H Q I hw;rw[evalPart_some];refine thn (h pins s σ H _ I hw) fun u s1 ⟨x,H1,I1,r1,q1⟩=>?_;obtain⟨i,rfl,q⟩:=q1;obtain⟨t,rfl⟩:=r1;exact⟨some i,H1,I1,.int i t,q⟩
def SlR (X:Cx)(r:V->Option Int->Option Int->Hp->VK->Prop):Prop:=
 ∀(pins:List (Addr×Obj)) (s:Shared) (σ:St) (H:Hp) (x:V) (v vl vu:Value) (lo hi:Option Int) (sl:Addr) (Q:VK),Inv X pins σ H s->a0S x v->s.heap.IsSliceOf sl vl vu .none->IsPart vl lo->IsPart vu hi->r x lo hi H Q →
  ∃T id,typeLookup (.type T) "__getitem__"=pure (some (.builtin id))/\s.TypeIs v T/\wpAny (model X.prog X.w) X.A (getItem v (.ref sl)) (EP X pins σ Q) X.xe s
def tSl (r:V->Option Int->Option Int->Hp->VK->Prop)(te:TE)(tl th:TO):TE:=fun σ H Q=>te σ H fun x H1=>tl σ H1 fun l H2=>th σ H2 fun u H3=>r x l u H3 Q
theorem a3r {r:V->Option Int->Option Int->Hp->VK->Prop}(hr:SlR X r)(he:PE X e te)(hl:PO X lo tl)(hu:PO X hi th):PE X (.Subscript e (.Slice lo hi none p2) pos) (tSl r te tl th):=by
 intro pins s σ H Q I h;refine Subscript_ (thn (he pins s σ H _ I h) fun v s1 ⟨x,H1,I1,r1,q1⟩=>?_);refine wpAny_Slice (thn (hl pins s1 σ H1 _ I1 q1) fun vl s2 ⟨l,H2,I2,pl,q2⟩=>thn (hu pins s2 σ H2 _ I2 q2) fun vu s3 ⟨u,H3,I3,pu,q3⟩=>?_);rw[evalPart_none];refine wP0 ?_;have I4:Inv X pins σ H3 { s3 with heap:=s3.heap.push { cls:=.type "slice",data:=.fields #[vl,vu,.none] } }:=I3.kept (t':=s3.toks) fun b ob q=>hP0 _ q;obtain⟨T,id,hT,ht,hg⟩:=hr pins { s3 with heap:=s3.heap.push { cls:=.type "slice",data:=.fields #[vl,vu,.none] } } σ H3 x v vl vu l u s3.heap.objs.size Q I4 r1 (Heap.IsSliceOf.new ..) pl pu q3;show wpAny (model X.prog X.w) X.A (subscriptTail e (.Slice lo hi none p2) v (.ref s3.heap.objs.size)) (EP X pins σ Q) X.xe { s3 with heap:=s3.heap.push { cls:=.type "slice",data:=.fields #[vl,vu,.none] } };exact tail_any (ops:=[.ref s3.heap.objs.size,v]) ht hT hg (by with_unfolding_all rfl)
def b1M (xs:List V)(lo hi:Option Int):List V:=(xs.drop (HT.sIx xs.length 0 lo)).take (HT.sIx xs.length xs.length hi-HT.sIx xs.length 0 lo)
theorem a6i (xs:List V)(lo hi:Option Int):(b1M xs lo hi).length<=xs.length:=by
 unfold b1M;rw[List.length_take,List.length_drop]
 omega
end
def ixN (n:Nat)(i:Int):Option Nat:=if 0<=i then(if i<n then some i.toNat else none) else if -(n:Int)<=i then some (i+n).toNat else none
def atI {α:Type}(xs:List α)(i:Int):Option α:=(ixN xs.length i).bind fun j=>xs[j]?
theorem a8z {n:Nat}{i:Int}{j:Nat}(h:ixN n i=some j):seqIndex? i n=some j/\j<n/\-(n:Int)<=i/\i<n:=by
 unfold ixN at h
 by_cases h0:0<=i
 ·rw[if_pos h0] at h
  by_cases h1:i<n
  ·rw[if_pos h1] at h
   have e:i.toNat=j:=Option.some.inj h;exact⟨by rw[seqIndex_of h0 h1,e],by omega,by omega,h1⟩
  ·rw[if_neg h1] at h;cases h
 ·rw[if_neg h0] at h
  by_cases h1:-(n:Int)<=i
  ·rw[if_pos h1] at h
   have e:(i+n).toNat=j:=Option.some.inj h;exact⟨by rw[seqIndex_neg (by omega) h1,e],by omega,h1,by omega⟩
  ·rw[if_neg h1] at h;cases h
theorem a6s {α:Type}{xs:List α}{i:Int}{v:α}(h:atI xs i=some v):∃j,seqIndex? i xs.length=some j/\xs[j]? =some v/\j<xs.length/\-(xs.length:Int)<=i/\i<xs.length:=by
 unfold atI at h;cases e:ixN xs.length i with
 |none=>rw[e] at h;cases h
 |some j=>
  rw[e] at h;obtain⟨h1,h2,h3,h4⟩:=a8z e;exact⟨j,h1,h,h2,h3,h4⟩
theorem a1b {α:Type}{xs:List α}{j:Nat}{v:α}(h:xs[j]? =some v):atI xs (j:Int)=some v:=by
 have hj:j<xs.length:=(gS0.mp h).1;have e:ixN xs.length (j:Int)=some j:=by
  unfold ixN;rw[if_pos (by omega),if_pos (by omega)];simp
 unfold atI;rw[e];exact h
def b2o (b:Expr):Prop:=∀o i,subscripted b false o i=operate [o,i] (getItem o i)
def IxR (X:Cx)(r:R2):Prop:=
 ∀(value slice:Expr) (pins:List (Addr×Obj)) (s:Shared) (σ:St) (H:Hp) (x y:V) (v u:Value) (Q:VK),Inv X pins σ H s->a0S x v->a0S y u->r x y H Q →
  subscripted slice false v u=operate [v,u] (getItem v u)->wpAny (model X.prog X.w) X.A (subscriptTail value slice v u) (EP X pins σ Q) X.xe s
def MtR (X:Cx)(id:String)(r:V->List V->Hp->VK->Prop):Prop:=
 ∀(pins:List (Addr×Obj)) (s:Shared) (σ:St) (H:Hp) (x:V) (xs:List V) (v:Value) (us:List Value) (Q:VK),Inv X pins σ H s->a0S x v->a0V xs us->r x xs H Q →
  wpAny (model X.prog X.w) X.A (call (.builtin id) (v::us)) (EP X pins σ Q) X.xe s
section
variable {X:Cx}{a b:Expr}{ta tb:TE}{pos:Pos}
theorem a0x {r:R2}(hr:IxR X r)(ha:PE X a ta)(hb:PE X b tb)(hs:b2o b):PE X (.Subscript a b pos) (tOp r ta tb):=by
 intro pins s σ H Q I h;exact Subscript_ (b4G ha hb I h fun v u s2 x y H2 I2 rx ry q=>hr a b pins s2 σ H2 x y v u Q I2 rx ry q (hs _ _))
def b4J (K:Fg0):R2:=fun x y H Q=>∃p xs i v,x=.ref p/\y=.int i/\SqL K H p xs/\atI xs i=some v/\Q v H
def b3g (K:Fg0):R2:=fun x y H Q=>∃p xs i v,x=.ref p/\y=.int i/\SqT K H p xs/\atI xs i=some v/\Q v H
def rIxS:R2:=fun x y H Q=>∃z i c,x=.str z/\y=.int i/\z.length<=sizeLine/\atI z.cps.toList i=some c/\Q (.str ⟨#[c]⟩) H
theorem a0r:IxR X (b4J X.K):=by
 intro value slice pins s σ H x y v u Q I rx ry h hs;obtain⟨p,xs,i,z,rfl,rfl,hq,he,q⟩:=h;cases rx;obtain⟨t,rfl⟩:=ry;obtain⟨its,r,pl,hz⟩:=I.list hq;obtain⟨j,h1,h2,h3,h4,h5⟩:=a6s he;obtain⟨w,ew,rw'⟩:=r.get h2;have hl:=r.length;have hn:=a4l;have fin:EP X pins σ Q w s:=⟨z,H,I,rw',q⟩
 by_cases h0:0<=i
 ·have hj:i.toNat=j:=by
   rw[seqIndex_of h0 h5] at h1;exact Option.some.inj h1
  exact item_listR pl.isList h0 (by omega) (by rw[hj];simpa using ew) fin hs
 ·have hj:(i+(its.toArray.size:Int)).toNat=j:=by
   rw[seqIndex_neg (by omega) h4] at h1;rw[List.size_toArray,<-hl];exact Option.some.inj h1
  exact subscriptTail_builtinR (x:=w) pl.isList.typeIs slot_list_getitem.lookup
   (wpAny_getItem_list_neg (Q:=fun r s'=>r=w/\EP X pins σ Q r s') pl.isList (by omega) (by rw[List.size_toArray]<;>omega) (by omega) (by rw[hj];simpa using ew) ⟨rfl,fin⟩) hs
theorem a1o:IxR X (b3g X.K):=by
 intro value slice pins s σ H x y v u Q I rx ry h hs;obtain⟨p,xs,i,z,rfl,rfl,hq,he,q⟩:=h;cases rx;obtain⟨t,rfl⟩:=ry;obtain⟨its,r,pl,hz⟩:=I.tuple hq;obtain⟨j,h1,h2,h3,h4,h5⟩:=a6s he;obtain⟨w,ew,rw'⟩:=r.get h2;have hl:=r.length;have hn:=a4l;have fin:EP X pins σ Q w s:=⟨z,H,I,rw',q⟩;exact subscriptTail_builtinR (x:=w) pl.typeIs slot_tuple_getitem.lookup
  (getItem_tuple (j:=j) (Q:=fun r s'=>r=w/\EP X pins σ Q r s') pl (by omega) (by omega) (by rw[List.size_toArray,<-hl];exact h1) (by simpa using ew) ⟨rfl,fin⟩) hs
theorem a8o:IxR X rIxS:=by
 intro value slice pins s σ H x y v u Q I rx ry h hs;obtain⟨z,i,c,rfl,rfl,hz,he,q⟩:=h;obtain⟨t,rfl⟩:=rx;obtain⟨t',rfl⟩:=ry;obtain⟨j,h1,h2,h3,h4,h5⟩:=a6s he;have hl:z.cps.toList.length=z.length:=by simp[Str.length]
 rw[hl] at h1 h4 h5;have hn:=a4l;exact tail_any (typeIs_str s z t) slot_str_getitem.lookup (getItem_str (c:=c) (by
  have e1:decide (i < -(2 ^ 63:Int))=false:=dF0 (by omega);have e2:decide (i≥2 ^ 63)=false:=dF0 (by omega);rw[e1,e2,Bool.or_false]) (by rw[h1];simpa using h2) ⟨.str ⟨#[c]⟩,H,I.tok _,⟨_,rfl⟩,q⟩) hs
theorem a7J (its:List Value)(n j:Nat)(u:Value):Obj.mapSeq (·.setIfInBounds j u) { cls:=.type "list",data:=.seq its.toArray n }={ cls:=.type "list",data:=.seq (its.set j u).toArray n }:=by
 simp[Obj.mapSeq]
theorem Inv.lst {pins:List (Addr×Obj)}{σ:St}{H:Hp}{s:Shared}{p:Addr}{xs:List V}(I:Inv X pins σ H s)(h:H p=some (.lst xs)) :
  ∃(its:List Value) (n:Nat),a0V xs its/\s.heap.get? p=some { cls:=.type "list",data:=.seq its.toArray n }/\xs.length<=sizeLine:=by
 obtain⟨z,its,n,r,e⟩:=I.hok p _ h;exact⟨its,n,r,e,z⟩
theorem Inv.lstUpd {pins:List (Addr×Obj)}{σ:St}{H:Hp}{s:Shared}{p:Addr}{xs ys:List V}{its its':List Value}{n n':Nat}{f:Obj->Obj}(I:Inv X pins σ H s)(h:H p=some (.lst xs))
  (ho:s.heap.get? p=some { cls:=.type "list",data:=.seq its.toArray n }) (hf:f { cls:=.type "list",data:=.seq its.toArray n }={ cls:=.type "list",data:=.seq its'.toArray n' }) (r:a0V ys its') (hz:ys.length<=sizeLine) (t:Nat) :
  Inv X pins σ (upd H p (.lst ys)) { s with heap:=s.heap.update p f,toks:=t }:=by
 have e:(s.heap.update p f).get? p=some { cls:=.type "list",data:=.seq its'.toArray n' }:=by
  rw[Heap.get?_update_self f ho (by rw[hf]<;>rfl),hf]
 refine I.write (x:=p) (e:=p) (by rw[h];trivial) (.inl rfl) (fun b u hb q=>(Heap.get?_update_other _ _ (Ne.symm hb)).trans q) ⟨_,e⟩ ?_;exact⟨hz,its',n',r,e⟩
def b5s:V->V->V->Hp->(Hp->Prop)->Prop:=fun o i v H Q=>∃p xs k j,o=.ref p/\i=.int k/\H p=some (.lst xs)/\ixN xs.length k=some j/\Q (upd H p (.lst (xs.set j v)))
theorem b0o:a7F X b5s:=by
 intro pins s σ H o i v ov iv u Q I ro ri rv h;obtain⟨p,xs,k,j,rfl,rfl,hp,hj,q⟩:=h;cases ro;obtain⟨t,rfl⟩:=ri;obtain⟨its,n,r,ho,hz⟩:=I.lst hp;obtain⟨h1,h2,h3,h4⟩:=a8z hj;have hl:=r.length;have hn:=a4l;have I':Inv X pins σ (upd H p (.lst (xs.set j v))) { s with heap:=s.heap.update p (Obj.mapSeq (·.setIfInBounds j u)) }:=
  I.lstUpd hp ho (a7J its n j u) (r.set rv j) (by rw[List.length_set];exact hz) s.toks
 by_cases h0:0<=k
 ·have hk:k.toNat=j:=by
   rw[seqIndex_of h0 h4] at h1;exact Option.some.inj h1
  exact PySem.W.ki_setAt ho h0 (by omega) (by rw[List.size_toArray,<-hl];exact h4) (by rw[hk];exact⟨_,I',q⟩)
 ·have hk:(k+(its.toArray.size:Int)).toNat=j:=by
   rw[seqIndex_neg (by omega) h3] at h1;rw[List.size_toArray,<-hl];exact Option.some.inj h1
  exact PySem.W.ki_setBack ho (by omega) (by rw[List.size_toArray,<-hl];exact h3) (by omega) (by rw[hk];exact⟨_,I',q⟩)
theorem a5v (lo hi:Option Int)(n:Nat):(sliceBounds lo hi none n).1=((HT.sIx n 0 lo:Nat):Int)/\(sliceBounds lo hi none n).2.1=((HT.sIx n n hi:Nat):Int)/\(sliceBounds lo hi none n).2.2=1:=by
 refine⟨?_,?_,rfl⟩
 ·cases lo with
  |none=>simp[sliceBounds,HT.sIx]
  |some i=>
   simp only[sliceBounds,HT.sIx,Option.getD_none,show(1:Int) > 0 by decide,if_true]
   by_cases h:i<0
   ·simp only[h,if_true]<;>omega
   ·simp only[h,if_false]<;>omega
 ·cases hi with
  |none=>simp[sliceBounds,HT.sIx]
  |some i=>
   simp only[sliceBounds,HT.sIx,Option.getD_none,show(1:Int) > 0 by decide,if_true]
   by_cases h:i<0
   ·simp only[h,if_true]<;>omega
   ·simp only[h,if_false]<;>omega
theorem a4B (its:List Value)(lo hi:Option Int):slicePick its.toArray lo hi none=((its.drop (HT.sIx its.length 0 lo)).take (HT.sIx its.length its.length hi-HT.sIx its.length 0 lo)).toArray:=by
 obtain⟨h1,h2,h3⟩:=a5v lo hi its.toArray.size;unfold slicePick;rw[h1,h2,h3];simp only[sliceRange_one,pick_run,List.size_toArray]<;>rfl
def rSlL (K:Fg0):V->Option Int->Option Int->Hp->VK->Prop:=fun x lo hi H Q=>∃a xs,x=.ref a/\SqL K H a xs/\∀p,H p=none->Q (.ref p) (upd H p (.lst (b1M xs lo hi)))
theorem a4L:SlR X (rSlL X.K):=by
 intro pins s σ H x v vl vu lo hi sl Q I rx hs pl pu h;obtain⟨a,xs,rfl,hx,q⟩:=h;cases rx;obtain⟨its,r,ht,hz⟩:=I.list hx;have hlen:=r.length;refine⟨"list",_,slot_list_getitem.lookup,ht.isList.typeIs,?_⟩;refine wpAny_getItem_list_slice ht.isList hs pl pu .none (by simp) ?_ (by rw[List.size_toArray]<;>omega);rw[a4B,<-hlen];refine⟨.ref s.heap.objs.size,_,I.laid (t':=s.toks) (o:=.lst (b1M xs lo hi)) (fun b ob q=>hP0 _ q) (nR0 _) ?_,rfl,q _ (I.hok.fresh (nR0 _))⟩;exact⟨Nat.le_trans (a6i xs lo hi) hz,_,0,(r.drop (HT.sIx xs.length 0 lo)).take (HT.sIx xs.length xs.length hi-HT.sIx xs.length 0 lo),hS0 _ rfl⟩
def a4x:V->Bool
 | .non=>true
 | .bl _=>true
 | .int _=>true
 | .str _=>true
 |_=>false
def eqV:V->V->Bool
 | .non,.non=>true
 | .bl a,.bl b=>a==b
 | .bl a,.int b=>(if a then 1 else 0)==b
 | .int a,.bl b=>a==(if b then 1 else 0)
 | .int a,.int b=>a==b
 | .str a,.str b=>a==b
 |_,_=>false
theorem b3R {A:Around}{s:Shared}{y x:V}{u v:Value}(ry:a0S y u)(rx:a0S x v)(fy:a4x y=true)(fx:a4x x=true):SeqAt.EqAt A s u v (eqV y x):=by
 cases y with
 |non=>
  cases ry;cases x with
  |non=>cases rx;exact SeqAt.EqAt.same _
  |bl b=>cases rx;exact SeqAt.EqAt.none_bool b
  |int b=>obtain⟨t,rfl⟩:=rx;exact SeqAt.EqAt.none_int b t
  |str b=>obtain⟨t,rfl⟩:=rx;exact SeqAt.EqAt.none_str b t
  |_=>exact absurd (show false=true from fx) bF0
 |bl a=>
  cases ry;cases x with
  |non=>cases rx;exact SeqAt.EqAt.bool_none a
  |bl b=>cases rx;exact SeqAt.EqAt.bool_bool a b
  |int b=>obtain⟨t,rfl⟩:=rx;exact SeqAt.EqAt.bool_int a b t
  |str b=>obtain⟨t,rfl⟩:=rx;exact SeqAt.EqAt.bool_str a b t
  |_=>exact absurd (show false=true from fx) bF0
 |int a=>
  obtain⟨t',rfl⟩:=ry;cases x with
  |non=>cases rx;exact SeqAt.EqAt.int_none a t'
  |bl b=>cases rx;exact SeqAt.EqAt.int_bool a t' b
  |int b=>obtain⟨t,rfl⟩:=rx;exact SeqAt.EqAt.int_int a t' b t
  |str b=>obtain⟨t,rfl⟩:=rx;exact SeqAt.EqAt.int_str a t' b t
  |_=>exact absurd (show false=true from fx) bF0
 |str a=>
  obtain⟨t',rfl⟩:=ry;cases x with
  |non=>cases rx;exact SeqAt.EqAt.str_none a t'
  |bl b=>cases rx;exact SeqAt.EqAt.str_bool a t' b
  |int b=>obtain⟨t,rfl⟩:=rx;exact SeqAt.EqAt.str_int a t' b t
  |str b=>obtain⟨t,rfl⟩:=rx;exact SeqAt.EqAt.str_str a t' b t
  |_=>exact absurd (show false=true from fx) bF0
 |_=>exact absurd (show false=true from fy) bF0
def eqU (x:V)(u:Value):Bool:=match u with
 | .none=>eqV .non x
 | .bool b=>eqV (.bl b) x
 | .int i _=>eqV (.int i) x
 | .str z _=>eqV (.str z) x
 |_=>false
theorem b1o {x y:V}{u:Value}(r:a0S y u)(f:a4x y=true):eqU x u=eqV y x:=by
 cases y with
 |non=>cases r;rfl
 |bl b=>cases r;rfl
 |int i=>obtain⟨t,rfl⟩:=r;rfl
 |str z=>obtain⟨t,rfl⟩:=r;rfl
 |_=>exact absurd (show false=true from f) bF0
theorem a3F {x:V}:∀{xs:List V} {us:List Value},a0V xs us->xs.all a4x=true->us.any (eqU x)=xs.any fun y=>eqV y x
 |_,_,.nil,_=>rfl
 |y::xs,u::us,.cons r t,f=>by
  rw[List.all_cons,Bool.and_eq_true] at f;rw[List.any_cons,List.any_cons,b1o r f.1,a3F t f.2]
theorem a2P {A:Around}{s:Shared}{x:V}{v:Value}(rx:a0S x v)(fx:a4x x=true):∀{xs:List V} {us:List Value},a0V xs us->xs.all a4x=true->∀u∈us,SeqAt.EqAt A s u v (eqU x u)
 |_,_,.nil,_=>fun u hu=>by cases hu
 |y::xs,u::us,.cons r t,f=>fun u' hu=>by
  rw[List.all_cons,Bool.and_eq_true] at f;rcases mK0.mp hu with rfl |hu
  ·rw[b1o r f.1];exact b3R r rx f.1 fx
  ·exact a2P rx fx t f.2 u' hu
def inV (x:V)(xs:List V):Bool:=xs.any fun y=>eqV y x
def rIn (K:Fg0)(neg:Bool):R2:=fun x y H Q=>∃p xs,y=.ref p/\(SqL K H p xs\/SqT K H p xs)/\a4x x=true/\xs.all a4x=true/\Q (.bl (if neg then !inV x xs else inV x xs)) H
theorem a5i:OpR X (compareOp .In) (rIn X.K false):=by
 intro pins s σ H x y v u Q I rx ry h;obtain⟨p,xs,rfl,hq,fx,fs,q⟩:=h;cases ry;rcases hq with hq |hq
 ·obtain⟨its,r,pl,hz⟩:=I.list hq
  refine SeqAt.in_listAt (eqU x) pl.isList (fun w hw=>a2P rx fx r fs w (by simpa using hw)) ⟨.bl _,H,I,rfl,?_⟩;rw[show its.toArray.any (eqU x)=its.any (eqU x) by simp,a3F r fs];exact q
 ·obtain⟨its,r,pl,hz⟩:=I.tuple hq
  refine SeqAt.in_tupleAt (eqU x) pl (fun w hw=>a2P rx fx r fs w (by simpa using hw)) ⟨.bl _,H,I,rfl,?_⟩;rw[show its.toArray.any (eqU x)=its.any (eqU x) by simp,a3F r fs];exact q
theorem a3f:OpR X (compareOp .NotIn) (rIn X.K true):=by
 intro pins s σ H x y v u Q I rx ry h;obtain⟨p,xs,rfl,hq,fx,fs,q⟩:=h;cases ry;rcases hq with hq |hq
 ·obtain⟨its,r,pl,hz⟩:=I.list hq
  refine SeqAt.notIn_listAt (eqU x) pl.isList (fun w hw=>a2P rx fx r fs w (by simpa using hw)) ⟨.bl _,H,I,rfl,?_⟩;rw[show its.toArray.any (eqU x)=its.any (eqU x) by simp,a3F r fs];exact q
 ·obtain⟨its,r,pl,hz⟩:=I.tuple hq
  refine SeqAt.notIn_tupleAt (eqU x) pl (fun w hw=>a2P rx fx r fs w (by simpa using hw)) ⟨.bl _,H,I,rfl,?_⟩;rw[show its.toArray.any (eqU x)=its.any (eqU x) by simp,a3F r fs];exact q
theorem a0K:a1e X (.builtin "len") (fun xs H Q=>∃p ys,xs=[.ref p]/\(SqL X.K H p ys\/SqT X.K H p ys)/\Q (.int ys.length) H):=by
 intro pins s σ H xs us Q I r h;obtain⟨p,ys,rfl,hq,q⟩:=h;obtain⟨u,rfl,rx⟩:=a2b r;cases rx;have hn:=a4l;rcases hq with hq |hq
 ·obtain⟨its,r',pl,hz⟩:=I.list hq
  have hlen:=r'.length;exact Calls.call_len_list pl.isList (by simp only[List.size_toArray]<;>omega) ⟨.int ys.length,H,I.tok _,⟨s.toks+1,by rw[List.size_toArray,hlen]⟩,q⟩
 ·obtain⟨its,r',pl,hz⟩:=I.tuple hq
  have hlen:=r'.length;exact len_tuple pl (by simp only[List.size_toArray]<;>omega) ⟨.int ys.length,H,I.tok _,⟨s.toks+1,by rw[List.size_toArray,hlen]⟩,q⟩
theorem a3k:a1e X (.builtin "len") (fun xs H Q=>∃z,xs=[.str z]/\z.length<=sizeLine/\Q (.int z.length) H):=by
 intro pins s σ H xs us Q I r h;obtain⟨z,rfl,hz,q⟩:=h;obtain⟨u,rfl,t,rfl⟩:=a2b r;have hn:=a4l;exact len_str (by omega) ⟨.int z.length,H,I.tok _,⟨_,rfl⟩,q⟩
theorem a3h:a1e X (.type "list") (fun xs H Q=>∃p ys,xs=[.ref p]/\(SqL X.K H p ys\/SqT X.K H p ys)/\∀l,H l=none->Q (.ref l) (upd H l (.lst ys))):=by
 intro pins s σ H xs us Q I r h;obtain⟨p,ys,rfl,hq,q⟩:=h;obtain⟨u,rfl,rx⟩:=a2b r;cases rx;have fin:∀(its:List Value),a0V ys its->ys.length<=sizeLine->∀(h':Heap) (c':Nat),(∀b o',s.heap.get? b=some o'->h'.get? b=some o') →
   h'.get? s.heap.objs.size=some { cls:=.type "list",dict:=none,data:=.seq its.toArray c',slots:=#[] }->EP X pins σ Q (.ref s.heap.objs.size) { s with heap:=h' }:=fun its r' hz h' c' kp e=>
  ⟨.ref s.heap.objs.size,_,I.laid (t':=s.toks) kp (nR0 _) (show a1f X.prog X.w _ h' _ (.lst ys) from⟨hz,its,c',r',e⟩),rfl,q _ (I.hok.fresh (nR0 _))⟩
 rcases hq with hq |hq
 ·obtain⟨its,r',pl,hz⟩:=I.list hq
  have hlen:=r'.length;obtain⟨o,ho,hc,n,hd⟩:=pl.isList;exact call_list_seq p (.inl rfl) ho hc hd (fun h' c' kp e=>fin its r' hz h' c' kp e) (by simp only[List.size_toArray]<;>omega)
 ·obtain⟨its,r',pl,hz⟩:=I.tuple hq
  have hlen:=r'.length;obtain⟨o,ho,hc,n,hd⟩:=pl;exact call_list_seq p (.inr rfl) ho hc hd (fun h' c' kp e=>fin its r' hz h' c' kp e) (by simp only[List.size_toArray]<;>omega)
theorem a1t:a1e X (.type "tuple") (fun xs H Q=>∃p ys,xs=[.ref p]/\((SqL X.K H p ys/\∀l,H l=none->Q (.ref l) (upd H l (.tup ys)))\/(SqT X.K H p ys/\Q (.ref p) H))):=by
 intro pins s σ H xs us Q I r h;obtain⟨p,ys,rfl,h⟩:=h;obtain⟨u,rfl,rx⟩:=a2b r;cases rx;rcases h with ⟨hq,q⟩ |⟨hq,q⟩
 ·obtain⟨its,r',pl,hz⟩:=I.list hq
  have hlen:=r'.length;refine call_tuple_list pl.isList (fun h' kp=>?_) (by simp only[List.size_toArray]<;>omega);have I1:Inv X pins σ H { s with heap:=h' }:=I.kept (t':=s.toks) kp;have I2:Inv X pins σ (upd H h'.objs.size (.tup ys)) { s with heap:=h'.push { cls:=.type "tuple",data:=.seq its.toArray } }:=
   I1.laid (t':=s.toks) (fun b o e=>hP0 _ e) (nR0 _) (show a1f X.prog X.w _ _ _ (.tup ys) from⟨hz,its,r',IsTup.new _ _⟩)
  exact⟨.ref h'.objs.size,_,I2,rfl,q _ (I1.hok.fresh (nR0 _))⟩
 ·obtain⟨its,r',pl,hz⟩:=I.tuple hq
  exact call_tuple_same pl ⟨.ref p,H,I,rfl,q⟩
def tyV (K:Fg0)(T:String)(x:V)(H:Hp):Prop:=match x with
 | .str _=>T="str"
 | .int _=>T="int"
 | .ref p=>(T="list"/\∃xs,SqL K H p xs)\/(T="tuple"/\∃o,K.lookup p=some o/\o.cls=.type "tuple"/\o.dict=none) ∨
   (T="dict"/\((∃kvs,H p=some (.dK kvs))\/∃kvs,H p=some (.dT kvs)))\/(T="set"/\∃S n,H p=some (.set S n))
 |_=>False
theorem b1H {pins:List (Addr×Obj)}{σ:St}{H:Hp}{s:Shared}{T:String}{x:V}{v:Value}(I:Inv X pins σ H s)(r:a0S x v)(ty:tyV X.K T x H) :
  s.TypeIs v T/\∀a,v=.ref a->∃ob,s.heap.get? a=some ob/\ob.dict=none:=by
 cases x with
 |str z=>
  obtain⟨t,rfl⟩:=r
  cases(show T="str" from ty)
  exact⟨typeIs_str s z t,fun _ e=>nomatch e⟩
 |int i=>
  obtain⟨t,rfl⟩:=r
  cases(show T="int" from ty)
  exact⟨typeIs_int s i t,fun _ e=>nomatch e⟩
 |ref p=>
  cases r;rcases ty with ⟨rfl,xs,hq⟩ |⟨rfl,o,hk,hc,hd⟩ |⟨rfl,hk⟩ |⟨rfl,S,n,hk⟩
  ·obtain⟨its,_,pl,_⟩:=I.list hq
   refine⟨pl.isList.typeIs,fun a e=>?_⟩;cases e;obtain⟨o,n,e,c,hd,_⟩:=pl;exact⟨o,e,hd⟩
  ·refine⟨⟨o,I.kIn p o hk,hc⟩,fun a e=>?_⟩
   cases e;exact⟨o,I.kIn _ o hk,hd⟩
  ·have z:∃o,s.heap.get? p=some o/\o.ExactDict:=by
    rcases hk with ⟨kvs,hk⟩ |⟨kvs,hk⟩
    ·obtain⟨_,_,_,_,o,_,_,e,ex,_⟩:=I.hok p _ hk
     exact⟨o,e,ex⟩
    ·obtain⟨_,_,_,_,o,_,_,e,ex,_⟩:=I.hok p _ hk
     exact⟨o,e,ex⟩
   obtain⟨o,e,ex⟩:=z;refine⟨⟨o,e,ex.1⟩,fun a e2=>?_⟩;cases e2;exact⟨o,e,ex.2.1⟩
  ·obtain⟨o,_,_,_,e,ex,_⟩:=I.hok p _ hk
   refine⟨⟨o,e,ex.1⟩,fun a e2=>?_⟩;cases e2;exact⟨o,e,ex.2.1⟩
 |_=>exact False.elim ty
def tBM0 (K:Fg0)(T:String)(r:V->List V->Hp->VK->Prop)(to:TE):TE:=fun σ H Q=>to σ H fun x H1=>tyV K T x H1/\r x [] H1 Q
def tBM (K:Fg0)(T:String)(r:V->List V->Hp->VK->Prop)(to:TE)(t:TA):TE:=fun σ H Q=>to σ H fun x H1=>tyV K T x H1/\t σ H1 fun xs H2=>r x xs H2 Q
variable {o e:Expr}{es:List Expr}{to:TE}{t:TA}{name:Str}{apos cpos:Pos}{T id:String}{r:V->List V->Hp->VK->Prop}
theorem a5l (pa:PlainAttrs T)(slot:Slot T name id)(hty:typeOf (.builtin id)=pure (.type "method_descriptor"))(hm:MtR X id r)(ho:PE X o to)
  (hbase:attributeBase o name X.env (eval o X.env)=eval o X.env:=by rfl) (hline:(apos.endLine==cpos.line)=true:=by rfl):PE X (.Call (.Attribute o name apos) [] [] cpos) (tBM0 X.K T r to):=by
 intro pins s σ H Q I h;refine wpAny_Call_method0_late hbase hline (thn (ho pins s σ H _ I h) fun v s1 ⟨x,H1,I1,r1,ty,q1⟩=>?_);obtain⟨h1,h2⟩:=b1H I1 r1 ty;exact⟨T,id,pa,slot,hty,h1,h2,Calls.callWith_builtin rfl (PySem.evalArgs_none (hm pins s1 σ H1 x [] v [] Q I1 r1 .nil q1))⟩
theorem a4A (pa:PlainAttrs T)(slot:Slot T name id)(hty:typeOf (.builtin id)=pure (.type "method_descriptor"))(hm:MtR X id r)(ho:PE X o to)(ha:PA X (e::es) t)
  (hbase:attributeBase o name X.env (eval o X.env)=eval o X.env:=by rfl)
  (hfew:((backTo cpos (starEach (e::es) X.env)).all (fun x=>!x.1)&&(backToKw cpos (keywordEach [] X.env)).all (fun x=>x.1.isSome)
   && decide ((e::es).length+([]:List Keyword).length+(if ([]:List Keyword).isEmpty then 0 else 1)<30))=true:=by rfl)
  (hline:(apos.endLine==cpos.line)=true:=by rfl) (hs:starEach (e::es) X.env=(false,eval e X.env)::starEach es X.env:=by rfl) (hplain:(backTo cpos (starEach es X.env)).any (·.1)=false:=by rfl) :
  PE X (.Call (.Attribute o name apos) (e::es) [] cpos) (tBM X.K T r to t):=by
 intro pins s σ H Q I h;refine wpAny_Call_method_late hbase hfew hline rfl (thn (ho pins s σ H _ I h) fun v s1 ⟨x,H1,I1,r1,ty,q1⟩=>?_);obtain⟨h1,h2⟩:=b1H I1 r1 ty;refine⟨T,id,pa,slot,hty,h1,h2,?_⟩;have hA:=ha cpos pins s1 σ H1 _ I1 q1;rw[hs] at hA ⊢;refine Calls.callWith_builtin (by show(false || (backTo cpos (starEach es X.env)).any (·.1))=false;rw[hplain]<;>rfl) (Calls.evalArgs_plain ?_);exact thn hA fun us s2 ⟨vs,H2,I2,r2,q2⟩=>hm pins s2 σ H2 x vs v us Q I2 r1 r2 q2
end
def MtM (X:Cx)(id:String)(r:V->List V->Hp->VK->Prop):Prop:=
 ∀(pins:List (Addr×Obj)) (s:Shared) (σ:St) (H:Hp) (x:V) (xs:List V) (v:Value) (us:List Value) (Q:VK),Inv X pins σ H s->a0S x v->a0V xs us->r x xs H Q →
  wpAny (model X.prog X.w) X.A (call (.builtin id) (v::us)) (EP X pins σ Q) X.xe s
theorem a0V.one:∀{x:V} {us:List Value},a0V [x] us->∃u,us=[u]/\a0S x u
 |_,_,.cons r .nil=>⟨_,rfl,r⟩
theorem a0V.zero:∀{us:List Value},a0V [] us->us=[]
 |_,.nil=>rfl
theorem a0V.dropLast {xs:List V}{us:List Value}(h:a0V xs us):a0V xs.dropLast us.dropLast:=by
 induction h with
 |nil=>exact .nil
 |cons r t ih=>
  cases t with
  |nil=>exact .nil
  |cons q t'=>exact .cons r ih
theorem a0V.reverse {xs:List V}{us:List Value}(h:a0V xs us):a0V xs.reverse us.reverse:=by
 induction h with
 |nil=>exact .nil
 |cons r t ih=>rw[List.reverse_cons,List.reverse_cons];exact a0V.append ih (.cons r .nil)
theorem a7W {α:Type}(l:List α):l.eraseIdx (l.length-1)=l.dropLast:=by
 induction l with
 |nil=>rfl
 |cons a r ih=>
  cases r with
  |nil=>rfl
  |cons b r=>
   have e:(a::b::r).length-1=((b::r).length-1)+1:=by
    have h1:(a::b::r).length=r.length+2:=rfl;have h2:(b::r).length=r.length+1:=rfl
    omega
   rw[e,List.eraseIdx_cons_succ,ih]
   all_goals rfl
section
variable {X:Cx}{pins:List (Addr×Obj)}{σ:St}{H:Hp}{s:Shared}{l b:Addr}{xs ys zs:List V}
theorem Inv.lset {its its':List Value}{n:Nat}{f:Array Value->Array Value}{t':Nat}(I:Inv X pins σ H s)(hH:H l=some (.lst xs))
  (e:s.heap.get? l=some { cls:=.type "list",data:=.seq its.toArray n }) (hf:f its.toArray=its'.toArray) (hv:a0V ys its') (hz:ys.length<=sizeLine) :
  Inv X pins σ (upd H l (.lst ys)) { s with heap:=s.heap.update l (Obj.mapSeq f),toks:=t' }:=by
 have q:=PySem.IsL.update e f;rw[hf] at q;refine I.write (x:=l) (e:=l) (by rw[hH];exact trivial) (.inl rfl) (fun b' u hb hu=>(Heap.get?_update_other s.heap (Obj.mapSeq f) (Ne.symm hb)).trans hu) ⟨_,q⟩ ?_;exact⟨hz,its',_,hv,q⟩
theorem Inv.lnew {its:List Value}{t':Nat}(I:Inv X pins σ H s)(hv:a0V ys its)(hz:ys.length<=sizeLine) :
  Inv X pins σ (upd H s.heap.objs.size (.lst ys)) { s with heap:=s.heap.push { cls:=.type "list",data:=.seq its.toArray },toks:=t' }:=
 I.laid (fun _ _ q=>hP0 _ q) (nR0 _) ⟨hz,its,0,hv,hS0 _ rfl⟩
theorem Inv.fresh (I:Inv X pins σ H s):H s.heap.objs.size=none:=I.hok.fresh (nR0 _)
theorem Inv.lstM (I:Inv X pins σ H s)(hH:H l=some (.lst xs)):xs.length<=sizeLine/\∃(its:List Value) (n:Nat),a0V xs its/\xs.length=its.length/\s.heap.get? l=some { cls:=.type "list",data:=.seq its.toArray n }:=by
 obtain⟨z,its,n,r,e⟩:=I.hok l _ hH;exact⟨z,its,n,r,r.length,e⟩
theorem b0v {n:Nat}(h:n<=sizeLine):Builtin.List.listTooLong n=false:=by
 unfold Builtin.List.listTooLong;exact dF0 (by omega)
end
section
variable {X:Cx}
def a9u:V->List V->Hp->VK->Prop:=fun x vs H Q=>∃l xs y,x=.ref l/\vs=[y]/\H l=some (.lst xs)/\xs.length<sizeLine/\Q .non (upd H l (.lst (xs++[y])))
theorem a5r:MtM X "list.append" a9u:=by
 intro pins s σ H x vs v us Q I rx rv h;obtain⟨l,xs,y,rfl,rfl,hH,hz,q⟩:=h;cases rx;obtain⟨u,rfl,ru⟩:=rv.one;obtain⟨z,its,n,r,hl,e⟩:=I.lstM hH;refine call_meets F.slot_list_append ⟨_,e,rfl⟩ F.entry_list_append (F.args_list_append_2 _ _) (PySem.list_append l its.toArray n u (by rw[List.size_toArray];omega)) ⟨e,?_⟩;refine⟨.non,_,I.lset (its':=its++[u]) hH e (by simp) (r.append (.cons ru .nil)) ?_,rfl,q⟩;rw[lA0,List.length_singleton]
 omega
def b2V:V->List V->Hp->VK->Prop:=fun x vs H Q=>∃l b xs zs,x=.ref l/\vs=[.ref b]/\H l=some (.lst xs)/\H b=some (.lst zs)/\xs.length+zs.length<=sizeLine/\Q .non (upd H l (.lst (xs++zs)))
theorem b3N:MtM X "list.extend" b2V:=by
 intro pins s σ H x vs v us Q I rx rv h;obtain⟨l,b,xs,zs,rfl,rfl,hH,hB,hz,q⟩:=h;cases rx;obtain⟨u,rfl,ru⟩:=rv.one;cases ru;obtain⟨z,its,n,r,hl,e⟩:=I.lstM hH;obtain⟨z2,its2,n2,r2,hl2,e2⟩:=I.lstM hB;have hsz:its.toArray.size+its2.toArray.size<=sizeLine:=by rw[List.size_toArray,List.size_toArray];omega
 have hlong:¬(!its.toArray.isEmpty&&Builtin.List.listTooLong (its.toArray.size+its2.toArray.size))=true:=by
  rw[b0v hsz,Bool.and_false];exact bF0
 refine call_meets F.slot_list_extend ⟨_,e,rfl⟩ F.entry_list_extend (F.args_list_extend_2 _ _)
  (AutoSeq1.list_extend_list_list_0 l its.toArray n b its2.toArray n2 hlong (by rw[List.size_toArray];omega) (by omega)) ⟨e,e2,?_⟩
 refine⟨.non,_,I.lset (its':=its++its2) hH e (by simp) (r.append r2) ?_,rfl,q⟩;rw[lA0]
 omega
def rPop:V->List V->Hp->VK->Prop:=fun x vs H Q=>∃l xs y,x=.ref l/\vs=[]/\H l=some (.lst xs)/\xs[xs.length-1]? =some y/\Q y (upd H l (.lst xs.dropLast))
theorem b5V:MtM X "list.pop" rPop:=by
 intro pins s σ H x vs v us Q I rx rv h;obtain⟨l,xs,y,rfl,rfl,hH,hy,q⟩:=h;cases rx;have hus:=rv.zero;subst hus;obtain⟨z,its,n,r,hl,e⟩:=I.lstM hH;obtain⟨u,hu,ru⟩:=r.get hy;have hy':its.toArray[its.toArray.size-1]? =some u:=by
  show its.toArray[its.length-1]? =some u;rw[<-Array.getElem?_toList,<-hl];exact hu
 refine call_meets F.slot_list_pop ⟨_,e,rfl⟩ F.entry_list_pop (F.args_list_pop_1 _) (MeetsSeq.list_pop_last l its.toArray n u hy' (by rw[List.size_toArray];omega)) ⟨e,?_⟩;refine⟨y,_,I.lset (its':=its.dropLast) hH e ?_ r.dropLast ?_,ru,q⟩
 ·show its.toArray.eraseIdxIfInBounds (its.toArray.size-1)=its.dropLast.toArray
  rw[List.size_toArray,List.eraseIdxIfInBounds_toArray,a7W]
 ·rw[List.length_dropLast]
  omega
def a7m:V->List V->Hp->VK->Prop:=fun x vs H Q=>∃l xs,x=.ref l/\vs=[]/\H l=some (.lst xs)/\Q .non (upd H l (.lst xs.reverse))
theorem a8k:MtM X "list.reverse" a7m:=by
 intro pins s σ H x vs v us Q I rx rv h;obtain⟨l,xs,rfl,rfl,hH,q⟩:=h;cases rx;have hus:=rv.zero;subst hus;obtain⟨z,its,n,r,hl,e⟩:=I.lstM hH;refine call_meets F.slot_list_reverse ⟨_,e,rfl⟩ F.entry_list_reverse (F.args_list_reverse_1 _) (AutoSeq1.list_reverse_list_0 l its.toArray n (by rw[List.size_toArray];omega)) ⟨e,?_⟩;refine⟨.non,_,I.lset (its':=its.reverse) hH e (by simp) r.reverse ?_,rfl,q⟩;rw[List.length_reverse]
 omega
def b1v:V->List V->Hp->VK->Prop:=fun x vs H Q=>∃l xs,x=.ref l/\vs=[]/\H l=some (.lst xs)/\Q .non (upd H l (.lst []))
theorem b0P:MtM X "list.clear" b1v:=by
 intro pins s σ H x vs v us Q I rx rv h;obtain⟨l,xs,rfl,rfl,hH,q⟩:=h;cases rx;have hus:=rv.zero;subst hus;obtain⟨z,its,n,r,hl,e⟩:=I.lstM hH;refine call_meets F.slot_list_clear ⟨_,e,rfl⟩ F.entry_list_clear (F.args_list_clear_1 _) (AutoSeq1.list_clear_list_0 l its.toArray n (by rw[List.size_toArray];omega)) ⟨e,?_⟩;exact⟨.non,_,I.lset (its':=[]) (ys:=[]) hH e rfl .nil (zL0 _),rfl,q⟩
def rCat:R2:=fun x y H Q=>∃l b xs zs,x=.ref l/\y=.ref b/\H l=some (.lst xs)/\H b=some (.lst zs)/\xs.length+zs.length<=sizeLine/\∀p,H p=none->Q (.ref p) (upd H p (.lst (xs++zs)))
theorem b1u:OpR X (binaryOp .Add) rCat:=by
 intro pins s σ H x y v u Q I rx ry h;obtain⟨l,b,xs,zs,rfl,rfl,hH,hB,hz,q⟩:=h;cases rx;cases ry;obtain⟨z,its,n,r,hl,e⟩:=I.lstM hH;obtain⟨z2,its2,n2,r2,hl2,e2⟩:=I.lstM hB;refine PySem.P.add_list e e2 ?_ (by rw[List.size_toArray,List.size_toArray];omega);have ea:its.toArray++its2.toArray=(its++its2).toArray:=by simp
 rw[ea];exact⟨.ref _,_,I.lnew (t':=s.toks) (r.append r2) (by rw[lA0];omega),rfl,q _ I.fresh⟩
end
section
variable {prog:Program}{w:World}{A:Around}{E:Vs0}{s:Shared}
set_option maxRecDepth 100000 in
end
section
variable {κ:Type}[DecidableEq κ]
def a1U (kvs:List (κ×V))(k:κ):Option V:=(kvs.find? fun kv=>decide (kv.1=k)).map (·.2)
def a2G (kvs:List (κ×V))(k:κ)(v:V):List (κ×V):=
 if (kvs.any fun kv=>decide (kv.1=k))=true then kvs.map (fun kv=>if kv.1=k then(kv.1,v) else kv) else kvs++[(k,v)]
def a2H (kvs:List (κ×V))(k:κ):List (κ×V):=kvs.filter fun kv=>decide (kv.1≠k)
theorem a1x {p:κ×V}{r:List (κ×V)}{k:κ}(e:p.1=k):a1U (p::r) k=some p.2:=by simp[a1U,List.find?_cons,e]
theorem a1G {p:κ×V}{r:List (κ×V)}{k:κ}(e:¬p.1=k):a1U (p::r) k=a1U r k:=by simp[a1U,List.find?_cons,e]
theorem a4K (k:κ):∀kvs:List (κ×V),(kvs.any fun kv=>decide (kv.1=k))=(a1U kvs k).isSome
 |[]=>rfl
 |p::r=>by
  rw[List.any_cons]
  by_cases e:p.1=k
  ·simp only[a1x e,dT0 e,Bool.true_or,Option.isSome_some]
  ·rw[a1G e,dF0 e,Bool.false_or];exact a4K k r
theorem a2J (kvs:List (κ×V))(k:κ)(v:V):(a2G kvs k v).length<=kvs.length+1:=by
 unfold a2G
 split
 ·rw[lM0];omega
 ·rw[lA0,List.length_cons,List.length_nil];omega
theorem a3q {kvs:List (κ×V)}{k:κ}(v:V)(h:a1U kvs k=none):a2G kvs k v=kvs++[(k,v)]:=by
 unfold a2G;rw[a4K,h];exact if_neg (by decide)
theorem a5P.isSome_eq {o:Option V}{u:Option Value}(r:a5P o u):o.isSome=u.isSome:=by
 cases o with
 |none=>cases u with
  |none=>rfl
  |some _=>exact(show False from r).elim
 |some _=>cases u with
  |none=>exact(show False from r).elim
  |some _=>rfl
theorem KV.val {kvs:List (κ×V)}{vs:List (κ×Value)}(r:KV kvs vs)(k:κ):a5P (a1U kvs k) (valueAt vs k):=by
 unfold KV at r
 induction r with
 |nil=>exact True.intro
 |@cons p q ps qs h t ih=>
  obtain⟨h1,h2⟩:=h
  by_cases e:p.1=k
  ·have e':q.1=k:=h1.symm.trans e
   have b:valueAt (q::qs) k=some q.2:=by simp[valueAt,List.find?_cons,e']
   rw[a1x e,b];exact h2
  ·have e':¬q.1=k:=fun z=>e (h1.trans z)
   have b:valueAt (q::qs) k=valueAt qs k:=by simp[valueAt,List.find?_cons,e']
   rw[a1G e,b];exact ih
theorem KV.any {kvs:List (κ×V)}{vs:List (κ×Value)}(r:KV kvs vs)(k:κ):(kvs.any fun kv=>decide (kv.1=k))=vs.any fun kv=>decide (kv.1=k):=by
 unfold KV at r
 induction r with
 |nil=>rfl
 |cons h t ih=>rw[List.any_cons,List.any_cons,ih,h.1]
theorem KV.repl {kvs:List (κ×V)}{vs:List (κ×Value)}(r:KV kvs vs)(k:κ){y:V}{u:Value}(ry:a0S y u) :
  KV (kvs.map fun kv=>if kv.1=k then(kv.1,y) else kv) (vs.map fun kv=>if kv.1=k then(kv.1,u) else kv):=by
 unfold KV at r ⊢
 induction r with
 |nil=>exact .nil
 |@cons p q ps qs h t ih=>
  rw[mN0,mN0];refine .cons ?_ ih;obtain⟨h1,h2⟩:=h
  by_cases e:p.1=k
  ·rw[if_pos e,if_pos (h1.symm.trans e)];exact⟨h1,ry⟩
  ·rw[if_neg e,if_neg (fun z=>e (h1.trans z))];exact⟨h1,h2⟩
theorem KV.put {kvs:List (κ×V)}{vs:List (κ×Value)}(r:KV kvs vs)(k:κ){y:V}{u:Value}(ry:a0S y u):KV (a2G kvs k y) (stored vs k u):=by
 unfold a2G stored;rw[r.any k]
 by_cases e:(vs.any fun kv=>decide (kv.1=k))=true
 ·rw[if_pos e,if_pos e];exact r.repl k ry
 ·rw[if_neg e,if_neg e];exact Paired.snoc r ⟨rfl,ry⟩
theorem KV.drop {kvs:List (κ×V)}{vs:List (κ×Value)}(r:KV kvs vs)(k:κ):KV (a2H kvs k) (without vs k):=by
 unfold KV at r ⊢;unfold a2H without
 induction r with
 |nil=>exact .nil
 |@cons p q ps qs h t ih=>
  obtain⟨h1,h2⟩:=h;rw[List.filter_cons,List.filter_cons]
  by_cases e:p.1=k
  ·have a:¬decide (p.1≠k)=true:=by simp[e]
   have b:¬decide (q.1≠k)=true:=by simp[h1.symm.trans e]
   rw[if_neg a,if_neg b];exact ih
  ·have e':¬q.1=k:=fun z=>e (h1.trans z)
   have a:decide (p.1≠k)=true:=by simp[e]
   have b:decide (q.1≠k)=true:=by simp[e']
   rw[if_pos a,if_pos b];exact .cons ⟨h1,h2⟩ ih
theorem KV.length {kvs:List (κ×V)}{vs:List (κ×Value)}(r:KV kvs vs):kvs.length=vs.length:=Paired.length r
theorem a7C (kvs:List (κ×V))(k:κ):(a2H kvs k).length<=kvs.length:=List.length_filter_le _ _
end
theorem a4g {P:Program}{w:World}{k:Key}{u:Value}(r:a0S (kV k) u):(a0n P w).is k u=true:=by
 cases k with
 |inl i=>obtain⟨t,e⟩:=(show ∃t,u=Value.int i t from r);subst e;exact a6e P w i t
 |inr x=>obtain⟨t,e⟩:=(show ∃t,u=Value.str x t from r);subst e;exact a6F P w x t
theorem a5j {P:Program}{w:World}:∀{ks:List Key} {us:List Value},a0V (ks.map kV) us->ItemsAre (a0n P w) ks us
 |[],_,r=>by rw[List.map_nil] at r;cases r;exact .nil
 |k::ks,_,r=>by
  rw[mN0] at r;cases r with
  |cons h t=>exact .cons (a4g h) (a5j t)
abbrev KT (H:Hp):List (List Key×V)->List (List Key×Addr×Value)->Prop:=Paired fun p q=>p.1=q.1/\H q.2.1=some (.tup (p.1.map kV))/\a0S p.2 q.2.2
theorem KT.val {H:Hp}{kvs:List (List Key×V)}{xs:List (List Key×Addr×Value)}(r:KT H kvs xs)(k:List Key):a5P (a1U kvs k) ((atKey xs k).map (·.2)):=by
 induction r with
 |nil=>exact True.intro
 |@cons p q ps qs h t ih=>
  obtain⟨h1,_,h2⟩:=h
  by_cases e:p.1=k
  ·have e':q.1=k:=h1.symm.trans e
   have b:atKey (q::qs) k=some q.2:=by simp[atKey,List.find?_cons,e']
   rw[a1x e,b];exact h2
  ·have e':¬q.1=k:=fun z=>e (h1.trans z)
   have b:atKey (q::qs) k=atKey qs k:=by simp[atKey,List.find?_cons,e']
   rw[a1G e,b];exact ih
theorem KT.repl {H:Hp}{kvs:List (List Key×V)}{xs:List (List Key×Addr×Value)}(r:KT H kvs xs)(k:List Key){y:V}{u:Value}(ry:a0S y u) :
  KT H (kvs.map fun kv=>if kv.1=k then(kv.1,y) else kv) (xs.map (putAt k u)):=by
 induction r with
 |nil=>exact .nil
 |@cons p q ps qs h t ih=>
  rw[mN0,mN0];refine .cons ?_ ih;obtain⟨h1,h2,h3⟩:=h;unfold putAt
  by_cases e:p.1=k
  ·rw[if_pos e,if_pos (h1.symm.trans e)];exact⟨h1,h2,ry⟩
  ·rw[if_neg e,if_neg (fun z=>e (h1.trans z))];exact⟨h1,h2,h3⟩
theorem KT.put {H:Hp}{kvs:List (List Key×V)}{xs:List (List Key×Addr×Value)}(r:KT H kvs xs)(k:List Key){b:Addr}{y:V}{u:Value}(hb:H b=some (.tup (k.map kV)))(ry:a0S y u) :
  KT H (a2G kvs k y) (storedH xs k b u):=by
 have e:(kvs.any fun kv=>decide (kv.1=k))=(atKey xs k).isSome:=by
  rw[a4K,(r.val k).isSome_eq,Option.isSome_map]
 unfold a2G storedH;rw[e]
 by_cases q:(atKey xs k).isSome=true
 ·rw[if_pos q,if_pos q];exact r.repl k ry
 ·rw[if_neg q,if_neg q];exact Paired.snoc r ⟨rfl,hb,ry⟩
theorem KT.keeps {H H':Hp}{kvs:List (List Key×V)}{xs:List (List Key×Addr×Value)}(r:KT H kvs xs)(ht:∀b ys,H b=some (.tup ys)->H' b=some (.tup ys)):KT H' kvs xs:=
 Paired.mapP r fun _ _ z=>⟨z.1,ht _ _ z.2.1,z.2.2⟩
section
variable {P:Program}{w:World}{H:Hp}{h:Heap}{a:Addr}
theorem b4e {u:HO}(ok:HOk P w H h)(e:Rd H a u):a1f P w H h a u:=e.ok ok
theorem a4c {kvs:List (Key×V)}(ok:HOk P w H h)(e:Rd H a (.dK kvs)):kvs.length<=sizeLine/\(a==sysModules)=false/\∃vs,KV kvs vs/\h.DictOf (a0n P w) a vs:=
 show a1f P w H h a (.dK kvs) from b4e ok e
theorem a4V {kvs:List (Key×V)}(ok:HOk P w H h)(e:H a=some (.dK kvs)):kvs.length<=sizeLine/\(a==sysModules)=false/\∃vs,KV kvs vs/\h.DictOf (a0n P w) a vs:=a4c ok (.inl e)
theorem a5z {ks:List Key}(ok:HOk P w H h)(e:H a=some (.tup (ks.map kV))):(tupleKind (a0n P w)).is h ks a:=by
 obtain⟨_,its,r,o,h1,h2,n,h3⟩:=(show a1f P w H h a (.tup (ks.map kV)) from ok a _ e);exact⟨o,its.toArray,n,h1,h2,h3,by simpa using a5j r⟩
theorem a7P {kvs:List (List Key×V)}(ok:HOk P w H h)(e:Rd H a (.dT kvs)):kvs.length<=sizeLine/\(a==sysModules)=false ∧
  ∃xs,KT H kvs xs/\h.DictOfH (tupleKind (a0n P w)) a xs:=by
 obtain⟨z,y,xs,r,o,es,ep,h1,h2,h3,h4,h5⟩:=(show a1f P w H h a (.dT kvs) from b4e ok e);refine⟨z,y,xs,r,o,es,ep,h1,h2,h3,h4,fun x hx=>?_,h5⟩;have all:∀{l:List (List Key×V)} {m:List (List Key×Addr×Value)},KT H l m->∀x∈m,(tupleKind (a0n P w)).is h x.1 x.2.1:=by
  intro l m q
  induction q with
  |nil=>intro x hx;exact nomatch hx
  |@cons p q ps qs hq t ih=>
   intro x hx;rcases mK0.mp hx with e |hx
   ·subst e
    exact a5z ok (by rw[<-hq.1];exact hq.2.1)
   ·exact ih x hx
 exact all r x hx
theorem b4R {kvs:List (List Key×V)}(ok:HOk P w H h)(e:H a=some (.dT kvs)):kvs.length<=sizeLine/\(a==sysModules)=false ∧
  ∃xs,KT H kvs xs/\h.DictOfH (tupleKind (a0n P w)) a xs:=a7P ok (.inl e)
end
def b2T (H:Hp)(a:Addr)(y:V)(r:Option V):Prop:=
 (∃kvs k,Rd H a (.dK kvs)/\y=kV k/\r=a1U kvs k)\/∃kvs k b,Rd H a (.dT kvs)/\y=.ref b/\H b=some (.tup (k.map kV))/\r=a1U kvs k
def a8h (H:Hp)(a:Addr)(y v:V)(H':Hp):Prop:=
 (∃kvs k,H a=some (.dK kvs)/\y=kV k/\kvs.length<sizeLine/\H'=upd H a (.dK (a2G kvs k v))) ∨
 ∃kvs k b,H a=some (.dT kvs)/\y=.ref b/\H b=some (.tup (k.map kV))/\kvs.length<sizeLine/\H'=upd H a (.dT (a2G kvs k v))
theorem a8h.k {H:Hp}{a:Addr}{kvs:List (Key×V)}{k:Key}{v:V}(e:H a=some (.dK kvs))(hl:kvs.length<sizeLine):a8h H a (kV k) v (upd H a (.dK (a2G kvs k v))):=.inl ⟨kvs,k,e,rfl,hl,rfl⟩
section
variable {X:Cx}{pins:List (Addr×Obj)}{σ:St}{H:Hp}{s:Shared}{a:Addr}{y v:V}{u r:Value}{o:Option V}{A:Around}{E:Vs0}
theorem Inv.big (I:Inv X pins σ H s):sysModules<s.heap.objs.size:=by
 have h:mainGlobals<s.heap.objs.size:=(I.mod.glob.keeps I.bk).lt;exact Nat.lt_trans (by decide) h
theorem a8Q {Q:Vs0}(hu:A.units+1<cLine)(I:Inv X pins σ H s)(g:b2T H a y (some v))(ry:a0S y u)(h:∀w' s',Inv X pins σ H s'->a0S v w'->Q w' s') :
  wpAny (model X.prog X.w) A (getItem (.ref a) u) Q E s:=by
 rcases g with ⟨kvs,k,e,ey,l⟩ |⟨kvs,k,b,e,ey,eb,l⟩
 ·subst ey
  obtain⟨z,hd,vs,rel,dd⟩:=a4c I.hok e;obtain⟨w',hw,rw'⟩:=a5P.some_of (v:=v) (o:=valueAt vs k) (by rw[l];exact rel.val k);exact wpAny_getItem_of (a4g ry) dd.mapOf hw (h w' _ (I.tok _) rw')
 ·subst ey
  cases(show u=Value.ref b from ry)
  obtain⟨z,hd,xs,rel,dd⟩:=a7P I.hok e;obtain⟨w',hw,rw'⟩:=a5P.some_of (v:=v) (o:=(atKey xs k).map (·.2)) (by rw[l];exact rel.val k);obtain⟨p,hp,hp2⟩:=Option.map_eq_some_iff.mp hw;refine wpAny_getItem_heap (tupleKind_room_in1 hu) (a5z I.hok eb) dd hp ?_;rw[hp2];exact h w' _ (I.tok _) rw'
theorem d_in {Q:Vs0}(hu:A.units+1<cLine)(I:Inv X pins σ H s)(g:b2T H a y o)(ry:a0S y u)(h:∀s',Inv X pins σ H s'->Q (.bool o.isSome) s') :
  wpAny (model X.prog X.w) A (compareOp .In u (.ref a)) Q E s:=by
 rcases g with ⟨kvs,k,e,ey,l⟩ |⟨kvs,k,b,e,ey,eb,l⟩
 ·subst ey
  obtain⟨z,hd,vs,rel,dd⟩:=a4c I.hok e;refine wpAny_in_of (a4g ry) hd dd.mapOf ?_;rw[<-(rel.val k).isSome_eq,<-l];exact h _ (I.tok _)
 ·subst ey
  cases(show u=Value.ref b from ry)
  obtain⟨z,hd,xs,rel,dd⟩:=a7P I.hok e;refine wpAny_in_heap (tupleKind_room_in1 hu) (a5z I.hok eb) hd dd ?_;have q:=(rel.val k).isSome_eq;rw[Option.isSome_map] at q;rw[<-q,<-l];exact h _ (I.tok _)
theorem b2J {Q:Vs0}(hu:A.units+1<cLine)(I:Inv X pins σ H s)(g:b2T H a y o)(ry:a0S y u)(h:∀s',Inv X pins σ H s'->Q (.bool (!o.isSome)) s') :
  wpAny (model X.prog X.w) A (compareOp .NotIn u (.ref a)) Q E s:=by
 rcases g with ⟨kvs,k,e,ey,l⟩ |⟨kvs,k,b,e,ey,eb,l⟩
 ·subst ey
  obtain⟨z,hd,vs,rel,dd⟩:=a4c I.hok e;refine wpAny_notIn_of (a4g ry) hd dd.mapOf ?_;rw[<-(rel.val k).isSome_eq,<-l];exact h _ (I.tok _)
 ·subst ey
  cases(show u=Value.ref b from ry)
  obtain⟨z,hd,xs,rel,dd⟩:=a7P I.hok e;refine wpAny_notIn_heap (tupleKind_room_in1 hu) (a5z I.hok eb) hd dd ?_;have q:=(rel.val k).isSome_eq;rw[Option.isSome_map] at q;rw[<-q,<-l];exact h _ (I.tok _)
theorem a2M {h':Heap}{t':Nat}{ob:HO}(I:Inv X pins σ H s)(mu:Mut (H a))(hs:Heap.SameBut a s.heap h')(he:∃q,h'.get? a=some q)(new:a1f X.prog X.w (upd H a ob) h' a ob) :
  Inv X pins σ (upd H a ob) { s with heap:=h',toks:=t' }:=
 I.write (x:=a) (e:=a) mu (.inl rfl) (fun b q hb z=>(hs.2 b hb).trans z) he new
theorem a2V {P:Program}{w:World}{H':Hp}{h':Heap}{kvs:List (Key×V)}{vs:List (Key×Value)}(z:kvs.length<=sizeLine)(hd:(a==sysModules)=false)(rel:KV kvs vs)(dd:h'.DictOf (a0n P w) a vs) :
  a1f P w H' h' a (.dK kvs):=⟨z,hd,vs,rel,dd⟩
theorem a9n {H':Hp}{Q:Unit->Shared->Prop}(hu:A.units+1<cLine)(I:Inv X pins σ H s)(g:a8h H a y v H')(ry:a0S y u)(rv:a0S v r)(h:∀s',Inv X pins σ H' s'->Q () s') :
  wpAny (model X.prog X.w) A (setItem (.ref a) u r) Q E s:=by
 rcases g with ⟨kvs,k,e,ey,l,eH⟩ |⟨kvs,k,b,e,ey,eb,l,eH⟩
 ·subst ey eH
  obtain⟨z,hd,vs,rel,dd⟩:=a4V I.hok e;have hz:vs.length<=sizeLine:=by rw[<-rel.length];exact z
  have hl:(a2G kvs k v).length<=sizeLine:=by have:=a2J kvs k v;omega
  refine wpAny_setItem_pairs (hsz:=hz) (a4g ry) dd fun h' dd' hs=>h _ ?_;have he:∃q,h'.get? a=some q:=let ⟨q,_,_,hq,_⟩:=dd';⟨q,hq⟩
  exact a2M I (by rw[e];exact True.intro) hs he (a2V hl hd (rel.put k rv) dd')
 ·subst ey eH
  cases(show u=Value.ref b from ry)
  obtain⟨z,hd,xs,rel,dd⟩:=b4R I.hok e;have hz:xs.length<=sizeLine:=by rw[<-Paired.length rel];exact z
  have hl:(a2G kvs k v).length<=sizeLine:=by have:=a2J kvs k v;omega
  refine wpAny_setItem_heap (hsz:=hz) (tupleKind_room_in1 hu) (a5z I.hok eb) dd fun h' dd' hs=>h _ ?_;obtain⟨q,es,ep,hq,h2,h3,h4,_,h5⟩:=dd';refine a2M I (by rw[e];exact True.intro) hs ⟨q,hq⟩ ⟨hl,hd,_,(rel.put k eb rv).keeps fun c ys ec=>?_,q,es,ep,hq,h2,h3,h4,h5⟩;rw[a0f (b5l ec e (fun z=>nomatch z))];exact ec
end
section
variable {X:Cx}{pins:List (Addr×Obj)}{σ:St}{H:Hp}{s:Shared}{a:Addr}{kvs:List (Key×V)}{k:Key}{u:Value}{A:Around}{E:Vs0}
theorem b3W {Q:Unit->Shared->Prop}(I:Inv X pins σ H s)(e:H a=some (.dK kvs))(ry:a0S (kV k) u)(l:(a1U kvs k).isSome=true)(h:∀s',Inv X pins σ (upd H a (.dK (a2H kvs k))) s'->Q () s') :
  wpAny (model X.prog X.w) A (delItem (.ref a) u) Q E s:=by
 obtain⟨z,hd,vs,rel,dd⟩:=a4V I.hok e;refine wpAny_delItem_slot dd.typeIs (by decide) PySem.F.slot_dict_delitem
  (call_meetsIn PySem.F.slot_dict_delitem dd.typeIs PySem.F.entry_dict_delitem (PySem.F.args_dict_delitem_2 _ _) (meets_dict_delitem_pairs (a0n X.prog X.w) a (a4g ry)) ⟨vs,dd,by rw[<-rel.length];exact z,by rw[<-(rel.val k).isSome_eq];exact l,fun h' dd' hs=>h _ ?_⟩)
 have he:∃q,h'.get? a=some q:=let ⟨q,_,_,hq,_⟩:=dd';⟨q,hq⟩
 exact a2M I (by rw[e];exact True.intro) hs he (a2V (Nat.le_trans (a7C kvs k) z) hd (rel.drop k) dd')
theorem b4I {v:V}{more:List Value}{Q:Vs0}(I:Inv X pins σ H s)(e:H a=some (.dK kvs))(ry:a0S (kV k) u)(l:a1U kvs k=some v)(hm:more=[]\/∃x,more=[x])
  (h:∀w' s',Inv X pins σ (upd H a (.dK (a2H kvs k))) s'->a0S v w'->Q w' s'):wpAny (model X.prog X.w) A (call (.builtin "dict.pop") (.ref a::u::more)) Q E s:=by
 obtain⟨z,hd,vs,rel,dd⟩:=a4V I.hok e;obtain⟨w',hw,rw'⟩:=a5P.some_of (v:=v) (o:=valueAt vs k) (by rw[<-l];exact rel.val k);have hp:(keyPart u).isSome=true:=by
  cases k with
  |inl i=>obtain⟨t,q⟩:=(show ∃t,u=Value.int i t from ry);subst q;rfl
  |inr x=>obtain⟨t,q⟩:=(show ∃t,u=Value.str x t from ry);subst q;rfl
 have ha:argsOk "dict.pop" ⟨.ref a::u::more,[]⟩:=by
  rcases hm with q |⟨x,q⟩
  ·subst q;exact PySem.F.args_dict_pop_2 _ _
  ·subst q;exact PySem.F.args_dict_pop_3 _ _ _
 refine call_meetsIn PySem.F.slot_dict_pop dd.typeIs PySem.F.entry_dict_pop ha (meets_dict_pop_there (a0n X.prog X.w) a (a4g ry) more hm hp)
  ⟨vs,w',dd,by rw[<-rel.length];exact z,hw,fun h' dd' hs=>h w' _ ?_ rw'⟩
 have he:∃q,h'.get? a=some q:=let ⟨q,_,_,hq,_⟩:=dd';⟨q,hq⟩
 exact a2M I (by rw[e];exact True.intro) hs he (a2V (Nat.le_trans (a7C kvs k) z) hd (rel.drop k) dd')
theorem b1T {Q:Vs0}(I:Inv X pins σ H s)(e:H a=some (.dK kvs))(h:∀s',Inv X pins σ (upd H a (.dK [])) s'->Q .none s'):wpAny (model X.prog X.w) A (call (.builtin "dict.clear") [.ref a]) Q E s:=by
 obtain⟨z,hd,vs,rel,dd⟩:=a4V I.hok e;refine call_meetsIn PySem.F.slot_dict_clear dd.typeIs PySem.F.entry_dict_clear (PySem.F.args_dict_clear_1 _) (meets_dict_clear (a0n X.prog X.w) a) ⟨vs,dd,by rw[<-rel.length];exact z,fun h' dd' hs=>h _ ?_⟩;have he:∃q,h'.get? a=some q:=let ⟨q,_,_,hq,_⟩:=dd';⟨q,hq⟩
 exact a2M (t':=s.toks) I (by rw[e];exact True.intro) hs he (a2V (zL0 _) hd .nil dd')
theorem b5e {Q:Vs0}(I:Inv X pins σ H s)(e:Rd H a (.dK kvs))(h:∀t s',Inv X pins σ H s'->Q (.int kvs.length t) s'):wpAny (model X.prog X.w) A (call (.builtin "len") [.ref a]) Q E s:=by
 obtain⟨z,hd,vs,rel,dd⟩:=a4c I.hok e;refine call_len_dict hd dd (by rw[<-rel.length];rw[sizeLine_eq] at z;omega) ?_;rw[<-rel.length];exact h _ _ (I.tok _)
end
def b5U (i:Expr):Prop:=∀ov iv,subscripted i false ov iv=operate [ov,iv] (getItem ov iv)
theorem b2C {prog:Program}{w:World}{A:Around}{E:Vs0}{s:Shared}{env:Env}{value slice:Expr}{pos:Pos}{T id:String}{Q:Vs0}
  (hl:typeLookup (.type T) "__getitem__"=pure (some (.builtin id))) (hs:b5U slice)
  (h:wpAny (model prog w) A (eval value env) (fun o s₁=>wpAny (model prog w) A (eval slice env) (fun i s₂=>s₂.TypeIs o T/\wpAny (model prog w) A (getItem o i) Q E s₂) E s₁) E s) :
  wpAny (model prog w) A (eval (.Subscript value slice pos) env) Q E s:=by
 refine Subscript_ (wpAny_mono h (fun o s₁ h₁=>wpAny_mono h₁ (fun i s₂ h₂=>?_) fun _ _ x=>x) fun _ _ x=>x);obtain⟨hT,h₂⟩:=h₂;unfold subscriptTail;refine wB0 ?_;rw[getitemInPython_of_ne hT.not_modules];refine wB0 (wpAny_specialOf hT hl ?_);have fin:wpAny (model prog w) A (subscripted slice false o i) (fun r s₃=>wpAny (model prog w) A (letTemporaryGo value o r >>= fun _=>pure r) Q E s₃) E s₂:=by
  rw[hs o i];exact wpAny_operating (wpAny_mono h₂ (fun r s₃ h₃=>wB0 (wpAny_letTemporaryGo (wP0 h₃))) fun _ _ x=>x)
 first
  |exact wP0 (wB0 fin)
  |exact wB0 (wP0 (wB0 fin))
  |exact wB0 fin
theorem a6y {X:Cx}{pins:List (Addr×Obj)}{σ:St}{H:Hp}{s:Shared}{a:Addr}{y:V}{o:Option V}(I:Inv X pins σ H s)(g:b2T H a y o):s.TypeIs (.ref a) "dict":=by
 rcases g with ⟨kvs,k,e,_,_⟩ |⟨kvs,k,b,e,_,_,_⟩
 ·obtain⟨_,_,vs,_,dd⟩:=a4c I.hok e
  exact dd.typeIs
 ·obtain⟨_,_,xs,_,dd⟩:=a7P I.hok e
  exact dd.typeIs
def b5u (td ty:TE):TE:=fun σ H Q=>td σ H fun x H1=>ty σ H1 fun y H2=>∃a v,x=.ref a/\b2T H2 a y (some v)/\Q v H2
def tDIn (ty td:TE):TE:=fun σ H Q=>ty σ H fun y H1=>td σ H1 fun x H2=>∃a o,x=.ref a/\b2T H2 a y o/\Q (.bl o.isSome) H2
def b2p (ty td:TE):TE:=fun σ H Q=>ty σ H fun y H1=>td σ H1 fun x H2=>∃a o,x=.ref a/\b2T H2 a y o/\Q (.bl (!o.isSome)) H2
def b5g (td ty tv:TE):TS:=fun D σ H=>tv σ H fun v H1=>td σ H1 fun x H2=>ty σ H2 fun y H3=>∃a H4,x=.ref a/\a8h H3 a y v H4/\D.nx σ H4
section
variable {X:Cx}{o i e value:Expr}{pos pos' tpos:Pos}{td ty tv:TE}
theorem a2a (hu:X.A.units+1<cLine)(ho:PE X o td)(hi:PE X i ty)(hs:b5U i):PE X (.Subscript o i pos) (b5u td ty):=by
 intro pins s σ H Q I h;refine b2C PySem.F.slot_dict_getitem.lookup hs (thn (ho pins s σ H _ I h) fun u s1 ⟨x,H1,I1,rx,q1⟩=>thn (hi pins s1 σ H1 _ I1 q1) fun iv s2 ⟨y,H2,I2,ry,a,v,ex,g,q2⟩=>?_);subst ex;obtain rfl:u=Value.ref a:=rx;exact⟨a6y I2 g,a8Q hu I2 g ry fun w' s3 I3 rw'=>⟨v,H2,I3,rw',q2⟩⟩
theorem b1l (hu:X.A.units+1<cLine)(hi:PE X i ty)(ho:PE X o td):PC X .In i o (tDIn ty td):=by
 intro pins s σ H Q I h;refine thn (hi pins s σ H _ I h) fun iv s1 ⟨y,H1,I1,ry,q1⟩=>thn (ho pins s1 σ H1 _ I1 q1) fun u s2 ⟨x,H2,I2,rx,a,ov,ex,g,q2⟩=>?_;subst ex;obtain rfl:u=Value.ref a:=rx;exact d_in hu I2 g ry fun s3 I3=>⟨.bl ov.isSome,H2,I3,rfl,q2⟩
theorem a8y (hu:X.A.units+1<cLine)(hi:PE X i ty)(ho:PE X o td):PC X .NotIn i o (b2p ty td):=by
 intro pins s σ H Q I h;refine thn (hi pins s σ H _ I h) fun iv s1 ⟨y,H1,I1,ry,q1⟩=>thn (ho pins s1 σ H1 _ I1 q1) fun u s2 ⟨x,H2,I2,rx,a,ov,ex,g,q2⟩=>?_;subst ex;obtain rfl:u=Value.ref a:=rx;exact b2J hu I2 g ry fun s3 I3=>⟨.bl (!ov.isSome),H2,I3,rfl,q2⟩
theorem a2c (hu:X.A.units+1<cLine)(ho:PE X o td)(hi:PE X i ty)(hv:PE X value tv)(hs:swapsWith value (some (.Subscript o i pos')) pos.line X.env=pure false) :
  PS X (.Assign [.Subscript o i pos'] value pos) (b5g td ty tv):=by
 intro pins s σ H D I h;refine wpAny_Assign_Subscript (thn (hv pins s σ H _ I h) fun r s1 ⟨v,H1,I1,rv,q1⟩=>thn (ho pins s1 σ H1 _ I1 q1) fun u s2 ⟨x,H2,I2,rx,q2⟩=>thn (hi pins s2 σ H2 _ I2 q2) fun iv s3 ⟨y,H3,I3,ry,a,H4,ex,g,q3⟩=>?_) hs;subst ex;obtain rfl:u=Value.ref a:=rx;exact a9n hu I3 g ry rv fun s4 I4=>⟨σ,H4,I4,q3⟩
end
theorem a6Z {P:Program}{w:World}{H:Hp}(h:Heap)(hb:sysModules<h.objs.size):a1f P w H (h.push { cls:=.type "dict",data:=.dict #[] }) h.objs.size (.dK []):=
 ⟨zL0 _,beq_eq_false_iff_ne.mpr (Ne.symm (nL0 hb)),[],.nil,Heap.DictOf.new h⟩
def b4l:TE:=fun _ H Q=>∀p,H p=none->Q (.ref p) (upd H p (.dK []))
section
variable {X:Cx}{pos:Pos}
theorem a4Y:PE X (.Dict [] [] pos) b4l:=fun pins s σ H Q I h=>
 wpAny_Dict_empty ⟨.ref s.heap.objs.size,_,I.laid (a:=s.heap.objs.size) (o:=.dK []) (t':=s.toks) (fun _ _ q=>hP0 _ q) (nR0 _) (a6Z s.heap I.big),rfl,h _ (I.hok.fresh (nR0 _))⟩
end
def a9J:List (TE×TE)->St->Hp->(List (V×V)->Hp->Prop)->Prop
 |[],_,H,Q=>Q [] H
 | (tk,tv)::r,σ,H,Q=>tk σ H fun x H1=>tv σ H1 fun y H2=>a9J r σ H2 fun ps H3=>Q ((x,y)::ps) H3
abbrev VV:List (V×V)->List (Value×Value)->Prop:=Paired fun p q=>a0S p.1 q.1/\a0S p.2 q.2
def PPs (X:Cx)(pos:Pos)(keys:List (Option Expr))(values:List Expr)(trs:List (TE×TE)):Prop:=
 ∀(pins:List (Addr×Obj)) (s:Shared) (σ:St) (H:Hp) (Q:List (V×V)->Hp->Prop),Inv X pins σ H s->a9J trs σ H Q →
  wpAny (model X.prog X.w) X.A (evalPairs (pairTrees keys values X.env pos)) (fun vs s'=>∃ps H',Inv X pins σ H' s'/\VV ps vs/\Q ps H') X.xe s
theorem a2z {X:Cx}{pos:Pos}:PPs X pos [] [] []:=fun pins s σ H Q I h=>pairTrees_nil_walk ⟨[],H,I,.nil,h⟩
theorem a0Y {X:Cx}{pos:Pos}{k v:Expr}{ks:List (Option Expr)}{vs:List Expr}{tk tv:TE}{trs:List (TE×TE)}(hk:PE X k tk)(hv:PE X v tv)(hr:PPs X pos ks vs trs) :
  PPs X pos (some k::ks) (v::vs) ((tk,tv)::trs):=fun pins s σ H Q I h=>
 pairTrees_cons_walk (thn (hk pins s σ H _ I h) fun u s1 ⟨x,H1,I1,rx,q1⟩=>thn (hv pins s1 σ H1 _ I1 q1) fun w2 s2 ⟨y,H2,I2,ry,q2⟩=>
  thn (hr pins s2 σ H2 _ I2 q2) fun ws s3 ⟨ps,H3,I3,rel,q3⟩=>⟨(x,y)::ps,H3,I3,.cons ⟨rx,ry⟩ rel,q3⟩)
def a1n (kvs more:List (Key×V)):List (Key×V):=more.foldl (fun acc kv=>a2G acc kv.1 kv.2) kvs
theorem KV.merge:∀{more:List (Key×V)} {rs:List (Key×Value)} {kvs:List (Key×V)} {vs:List (Key×Value)},KV more rs->KV kvs vs->KV (a1n kvs more) (merged vs rs):=by
 intro more rs kvs vs r;unfold KV at r
 induction r generalizing kvs vs with
 |nil=>intro q;exact q
 |@cons p q ps qs h t ih=>
  intro r0;have e:KV (a2G kvs p.1 p.2) (stored vs q.1 q.2):=by
   have:=r0.put p.1 h.2
   rw[<-h.1];exact this
  exact ih e
theorem a2m:∀(more kvs:List (Key×V)),(a1n kvs more).length<=kvs.length+more.length
 |[],kvs=>by show kvs.length<=kvs.length+0;omega
 |p::r,kvs=>by
  have h1:=a2m r (a2G kvs p.1 p.2);have h2:=a2J kvs p.1 p.2
  show(a1n (a2G kvs p.1 p.2) r).length<=_
  rw[List.length_cons];omega
theorem a4s {P:Program}{w:World}:∀{kvs:List (Key×V)} {ws:List (Value×Value)},VV (kvs.map fun kv=>(kV kv.1,kv.2)) ws->∃rs,Carries (a0n P w) ws rs/\KV kvs rs
 |[],_,r=>by rw[List.map_nil] at r;cases r;exact⟨[],True.intro,.nil⟩
 |p::kvs,_,r=>by
  rw[mN0] at r;cases r with
  |@cons a b as bs h t=>
   obtain⟨rs,c,q⟩:=a4s (P:=P) (w:=w) t;obtain⟨b1,b2⟩:=b;exact⟨(p.1,b2)::rs,⟨a4g h.1,rfl,c⟩,.cons ⟨rfl,h.2⟩ q⟩
def b4M (trs:List (TE×TE)):TE:=fun σ H Q=>∀p,H p=none->a9J trs σ (upd H p (.dK [])) fun ps H2=>H2 p=some (.dK [])/\∃kvs:List (Key×V),ps=kvs.map (fun kv=>(kV kv.1,kv.2))/\kvs.length<=15/\Q (.ref p) (upd H2 p (.dK (a1n [] kvs)))
theorem a2u {X:Cx}{pos:Pos}{keys:List (Option Expr)}{values:List Expr}{trs:List (TE×TE)}(h:PPs X pos keys values trs)(hall:keys.all (·.isSome)=true)(hl:keys.length=values.length)(h0:keys≠[])
  (h15:keys.length<=15):PE X (.Dict keys values pos) (b4M trs):=by
 intro pins s σ H Q I q;have hn:=I.hok.fresh (nR0 s.heap.objs.size);have I1:=I.laid (a:=s.heap.objs.size) (o:=.dK []) (h':=s.heap.push { cls:=.type "dict",data:=.dict #[] }) (t':=s.toks) (fun _ _ q=>hP0 _ q) (nR0 _) (a6Z s.heap I.big);refine wpAny_Dict_walk (knd:=a0n X.prog X.w) hall hl h0 h15 (thn (h pins _ σ _ _ I1 (q _ hn)) fun ws s2 ⟨ps,H2,I2,rel,e,kvs,ep,lk,q2⟩=>?_);subst ep;obtain⟨rs,c,rk⟩:=a4s (P:=X.prog) (w:=X.w) rel;obtain⟨z,hd,vs0,r0,dd⟩:=a4V I2.hok e;cases r0;refine⟨rs,c,dd,fun h' dd' hs=>⟨.ref s.heap.objs.size,_,?_,rfl,q2⟩⟩;have hz:(a1n [] kvs).length<=sizeLine:=by
  have h1:=a2m kvs [];rw[List.length_nil] at h1;rw[sizeLine_eq];omega
 have he:∃q,h'.get? s.heap.objs.size=some q:=let ⟨q,_,_,hq,_⟩:=dd';⟨q,hq⟩
 exact a2M I2 (by rw[e];exact True.intro) hs he (a2V hz hd (rk.merge .nil) dd')
structure M1 (X:Cx) (o:Expr) (m:Str) (apos:Pos) (e:Expr) (cpos:Pos):Prop where
 base:attributeBase o m X.env (eval o X.env)=eval o X.env
 few:((backTo cpos (starEach [e] X.env)).all (fun x=>!x.1)&&(backToKw cpos (keywordEach [] X.env)).all (fun x=>x.1.isSome)
  && decide (([e]:List Expr).length+([]:List Keyword).length+(if ([]:List Keyword).isEmpty then 0 else 1)<30))=true
 line:(apos.endLine==cpos.line)=true
 trees:backTo cpos (starEach [e] X.env)=[(false,eval e X.env)]
def IsD (H:Hp)(a:Addr):Prop:=(∃kvs,Rd H a (.dK kvs))\/∃kvs,Rd H a (.dT kvs)
theorem b3K {X:Cx}{pins:List (Addr×Obj)}{σ:St}{H:Hp}{s:Shared}{a:Addr}(I:Inv X pins σ H s)(d:IsD H a) :
  s.TypeIs (.ref a) "dict"/\(∀b,Value.ref a=.ref b->∃ob,s.heap.get? b=some ob/\ob.dict=none)/\(a==sysModules)=false:=by
 rcases d with ⟨kvs,e⟩ |⟨kvs,e⟩
 ·obtain⟨_,hd,vs,_,dd⟩:=a4c I.hok e
  refine⟨dd.typeIs,fun b q=>?_,hd⟩;cases q;obtain⟨ob,_,_,h1,h2,_⟩:=dd;exact⟨ob,h1,h2.2.1⟩
 ·obtain⟨_,hd,xs,_,dd⟩:=a7P I.hok e
  refine⟨dd.typeIs,fun b q=>?_,hd⟩;cases q;obtain⟨ob,_,_,h1,h2,_⟩:=dd;exact⟨ob,h1,h2.2.1⟩
def b3h (td ty:TE):TE:=fun σ H Q=>td σ H fun x H1=>∃a,x=.ref a/\IsD H1 a/\ty σ H1 fun y H2=>∃kvs k v,H2 a=some (.dK kvs)/\y=kV k/\a1U kvs k=some v/\Q v (upd H2 a (.dK (a2H kvs k)))
section
variable {X:Cx}{o e f:Expr}{apos cpos:Pos}{td ty tx:TE}
theorem a6P (ho:PE X o td)(he:PE X e ty)(m:M1 X o "pop" apos e cpos):PE X (.Call (.Attribute o "pop" apos) [e] [] cpos) (b3h td ty):=by
 intro pins s σ H Q I h;refine wpAny_Call_method m.base m.few m.line PySem.F.plainAttrs_dict PySem.F.slot_dict_pop PySem.F.type_dict_pop (thn (ho pins s σ H _ I h) fun u s1 ⟨x,H1,I1,rx,a,ex,d,q1⟩=>?_);subst ex;obtain rfl:u=Value.ref a:=rx;obtain⟨t1,t2,_⟩:=b3K I1 d;refine⟨t1,t2,?_⟩;rw[m.trees];refine Calls.callWith_builtin rfl (Calls.evalArgs_plain (Calls.spliced_cons (thn (he pins s1 σ H1 _ I1 q1) fun iv s2 ⟨y,H2,I2,ry,kvs,k,v,ea,ey,l,q2⟩=>Calls.spliced_nil ?_)));subst ey;exact b4I I2 ea ry l (.inl rfl) fun w' s3 I3 rw'=>⟨v,_,I3,rw',q2⟩
end
section
variable {X:Cx}{pins:List (Addr×Obj)}{σ:St}{H:Hp}{s:Shared}{a:Addr}{kvs:List (Key×V)}{A:Around}{E:Vs0}
theorem b0R {Q:Vs0}(I:Inv X pins σ H s)(e:Rd H a (.dK kvs))(h:∀p s',H p=none->Inv X pins σ (upd H p (.dK kvs)) s'->Q (.ref p) s'):wpAny (model X.prog X.w) A (call (.type "dict") [.ref a]) Q E s:=by
 obtain⟨z,hd,vs,rel,dd⟩:=a4c I.hok e;refine kt_call_dict hd dd (by rw[<-rel.length];exact z) fun h' dd' hs=>?_;refine h _ _ (I.hok.fresh (nR0 _)) (I.laid (a:=s.heap.objs.size) (o:=.dK kvs) (t':=s.toks) (fun b q hq=>?_) (nR0 _) (a2V z (beq_eq_false_iff_ne.mpr (Ne.symm (nL0 I.big))) rel dd'));exact(hs.2 b (nL0 (hL0 hq))).trans (hP0 _ hq)
end
end L2
namespace Att
open PySem PySem.W PySem.Calls PyProof.Rows
theorem a3X {P:Params}{h:Heap}:∀(ns:List Int) (vs:List Value),WellAll P h vs (ns.map WData.int)->IntsAre vs ns:=by
 intro ns
 induction ns with
 |nil=>
  intro vs w;rw[List.map_nil] at w;cases w;exact .nil
 |cons n ns ih=>
  intro vs w;rw[mN0] at w;cases w with
  |cons a b=>
   cases a;exact .cons _ _ (ih _ b)
theorem a9c {l:OpenLaw}{n:Nat}(hn:l.most=some n){P:Params}{h:Heap}{args:List WData}{vals:List Value}
  (hpre:l.row.toRowW.claim.pre args=true) (hwl:WellAll P h vals args) :
  ∃a vs ns,vals=[Value.ref a]/\args=[WData.list (ns.map WData.int)]/\h.get? a=some { cls:=.type "list",data:=.seq vs.toArray }/\IntsAre vs ns/\ns.length<=n:=by
 have hsh:WShape.hasAll [] args [.list .int]=true:=(pre_splitW hpre).1;have hc:l.pre.holds [] { args:=args }=true:=(pre_splitW hpre).2;obtain⟨d,r,rfl,h1,h2⟩:=hasAllW_cons hsh;obtain rfl:=hasAllW_nil h2;obtain⟨xs,rfl,h3⟩:=hasW_list h1;obtain⟨ns,rfl⟩:=items_int h3;have hlen:ns.length<=n:=by
  unfold OpenLaw.pre at hc;have h4:(WTm.not (.lt (.lit (.int (n:Int))) (.len (.arg 0)))).holds [] { args:=[.list (ns.map .int)] }=true:=by
   have h4:=(holds_andW hc).1;rw[hn] at h4;exact h4
  have h5:=condW_of h4 (w_not (w_lt w_lit (w_len_list (w_arg rfl))));rw[lM0] at h5;refine Nat.le_of_not_lt fun q=>?_;have q':(n:Int)<((ns.length:Nat):Int):=by omega
  first
   | (rw[dT0 q'] at h5;exact absurd h5 (by decide))
   | (simp at h5;omega)
 cases hwl with
 |cons w1 w2=>
  cases w2;cases w1 with
  |list ho hall=>exact⟨_,_,ns,rfl,rfl,ho,a3X ns _ hall,hlen⟩
theorem a9D (l:OpenLaw)(args:List WData):l.row.toRowW.claim.post args (.bool true) args=true:=
 postW_of (r:=l.row.toRowW) (X:=(true==true))
  (show WShape.has [] (.bool true) .bool=true by first |rfl |decide |simp[WShape.has,WShape.arms,WShape.armsAll])
  (show(WTm.eq .res (.lit (.bool true))).value [] { args:=args,res:=some (.bool true),after:=args }=some (.bool (true==true)) from w_eq_bool (w_res rfl) w_lit) rfl
theorem a3C {l:OpenLaw}{n:Nat}{q:Program}{loose:List Str}{XP:(Str->Option Value)->Heap->Prop}{YP:World->Heap->Prop}{d:DefRec}
  (hn:l.most=some n) (hdf:d.params.defaults=[])
  (call:∀(w:World) (s₀ s₁:Shared) (mg mb:Str->Option Value) (fa:Addr) (o:Obj) (pm cd doc:Value) (a:Addr) (vs:List Value) (ns:List Int),
   Ground q loose [] XP w s₀ mg mb s₁.heap->YP w s₁.heap →
   s₁.heap.get? fa=some o->o.data=.func (docDef d.name d.params d.body d.scope pm cd doc)->s₁.heap.CodeRec cd d.name->mg d.name=some (.ref fa) →
   s₁.heap.get? a=some { cls:=.type "list",data:=.seq vs.toArray }->IntsAre vs ns->ns.length<=n->s₁.gens=#[] →
   codeAny (model l.prog w) callerA (.call (.ref fa) ⟨[.ref a],[]⟩) (fun r s'=>r=.ok (.ret (.bool true))/\OldK s₁.heap s'.heap/\s'.os=s₁.os/\AllBare s'.gens) s₁) :
  WalkO q loose XP YP l.row.toRowW d [] (fun f vs=>PySem.call f vs):=by
 intro w s₀ s₁ mg mb G Y fa o pm cd doc dV kV ho hd hcd hD hmg hg args vals as hpre hlay hrd hwl hlo;obtain rfl:dV=.none:=Dflts.none hD hdf;obtain rfl:kV=.none:=Dflts.noKw hD;obtain⟨a,vs,ns,rfl,rfl,hobj,hints,hlen⟩:=a9c hn hpre hwl;refine enter_call (codeAny_mono (call w s₀ s₁ mg mb fa o pm cd doc a vs ns G Y ho (fd_plain hd) hcd hmg hobj hints hlen hg) fun r s' hq=>?_);obtain⟨rfl,h2,h3,h4⟩:=hq;exact⟨.inl ⟨.bool true,.bool true,[],rfl,fun _=>rfl,.bool true,a9D l _,fun _=>⟨List.Pairwise.nil,fun _ hm=>(nomatch hm)⟩⟩,h2,h3,h4⟩
end Att
namespace L2
open PySem PySem.Spec PyProof.Rows
theorem a3K:∀{vs:List Value} {ns:List Int},IntsAre vs ns->a0V (ns.map V.int) vs
 |_,_,.nil=>.nil
 |_,_,.cons n t h=>.cons ⟨t,rfl⟩ (a3K h)
def b4K (H:Hp):Prop:=∀b,H b=none\/∃o xs,H b=some (.frz o (.lst xs))
theorem b0H {P:Program}{w:World}{K:Fg0}{mg mb:Str->Option Value}{CX:CXT}{k:Nat}{fa a:Addr}{fd:FuncData}{x:Str}{sp:Sp}{s₁:Shared}{vs:List Value}{ns:List Int}
  (KX:K.In s₁.heap) (hns:s₁.heap.Ns mainGlobals mg) (hb:s₁.heap.Ns builtinsNs mb) (hbb:∀x:Str,x≠"__name__"->mb x=bootBuiltins x) (hlim:s₁.heap.NoLimit) (hg:s₁.gens=#[])
  (ha:s₁.heap.get? a=some { cls:=.type "list",data:=.seq vs.toArray }) (hi:IntsAre vs ns) (hl:ns.length<=sizeLine) (hr:a1q k callerA)
  (F:∀base:Heap,K.In base->base.Ns mainGlobals mg->a0y P w K mg base CX k fa fd [x] sp) (hbind:∀(s:Shared) (u:Value),BindsTo s fd ⟨[u],[]⟩ [(x,u)])
  (hsp:∀H:Hp,b4K H->SqL K H a (ns.map V.int)->sp [.ref a] H (fun v _=>v=.bl true) fun _ _ _=>False)
  (hCX:∀H e s',CX [] H s₁ (fun _ _ _=>False) e s'->False) :
  codeAny (model P w) callerA (.call (.ref fa) ⟨[.ref a],[]⟩) (fun r s'=>r=.ok (.ret (.bool true))/\OldK s₁.heap s'.heap/\s'.os=s₁.os/\AllBare s'.gens) s₁:=by
 have rv:=a3K hi;have lenV:=hi.length;have core:∀H:Hp,b4K H->SqL K H a (ns.map V.int)->HOk P w H s₁.heap->(∀b,H b≠none->b=a)->(H a≠none->K.lookup a=none) →
   codeAny (model P w) callerA (.call (.ref fa) ⟨[.ref a],[]⟩) (fun r s'=>r=.ok (.ret (.bool true))/\OldK s₁.heap s'.heap/\s'.os=s₁.os/\AllBare s'.gens) s₁:=by
  intro H hO hS hok hA hK;have base_of:∀{b:Addr} {o:Obj},s₁.heap.get? b=some o->H b=none->(a6B s₁.heap H).get? b=some o:=fun e n=>a7B e n;have noA:∀{b:Addr} {o:Obj} {es:Array DictEntry} {ep:Nat},s₁.heap.get? b=some o->o.data=.dict es ep->H b=none:=fun {b o es ep} e d=>by
   cases q:H b with
   |none=>rfl
   |some u=>
    have e':b=a:=hA b (by rw[q];simp);subst e';rw[ha] at e;cases e;have d':Data.seq vs.toArray _=Data.dict es ep:=d;cases d'
  have nsK:∀{b:Addr} {m:Str->Option Value},s₁.heap.Ns b m->(a6B s₁.heap H).Ns b m:=fun {b m} ⟨o,es,ep,e,d,r⟩=>⟨o,es,ep,base_of e (noA e d),d,r⟩;have hKb:K.In (a6B s₁.heap H):=fun b o e=>base_of (KX b o e) (by
   cases q:H b with
   |none=>rfl
   |some u=>
    have e':b=a:=hA b (by rw[q];simp);subst e';rw[hK (by rw[q];simp)] at e;cases e)
  have hM:Mod K mg (a6B s₁.heap H):=⟨hKb,nsK hns,⟨mb,nsK hb,hbb⟩,let ⟨mc,h1,h2⟩:=hlim;⟨mc,nsK h1,h2⟩⟩;have e0:a7s P w K mg (a6B s₁.heap H) callerA [] s₁ H:=⟨rfl,hM,fun b o e=>a8B e,Nat.le_of_eq (a5k _ _),trivial,fun b hb=>absurd (show b∈([]:List Addr) from hb) (by simp),hok,.of_eq hg⟩;refine codeAny_mono ((F _ hKb (nsK hns)).run callerA [] s₁ H ⟨[.ref a],[]⟩ [.ref a] [.ref a] _ _ hr e0 (hbind s₁ (.ref a)) (.cons rfl .nil) (hsp H hO hS)) fun r s' h=>?_;cases r with
  |error e=>exact(hCX H e s' h).elim
  |ok fl=>
   cases fl with
   |next=>exact False.elim h
   |brk=>exact False.elim h
   |cont=>exact False.elim h
   |ret u=>
    obtain⟨v,H',os,bare,un,hok',r',q⟩:=h;have q':v=.bl true:=q;subst q';obtain rfl:u=Value.bool true:=r';refine⟨rfl,OldK.of_keep fun b o e=>?_,os,bare⟩;cases q:H b with
    |none=>exact un.keep b o e q (by intro z;exact absurd (show b∈([]:List Addr) from z) (by simp)) (by simp)
    |some u=>
     rcases hO b with z |⟨ob,xs,z⟩
     ·rw[q] at z;cases z
     ·have z2:=un.frzs b ob _ z
      obtain⟨e1,_⟩:=hok b _ z;obtain⟨e2,_⟩:=hok' b _ z2;rw[e] at e1;cases e1;exact e2
 cases hk:K.lookup a with
 |some o=>
  have e:=KX a o hk;rw[ha] at e;cases e;refine core (fun _=>none) (fun _=>.inl rfl) (.inr ⟨_,vs.toArray,_,hk,rfl,rfl,rfl,by rw[List.size_toArray,lenV];exact hl,by simpa using rv⟩) (fun b u z=>by have z':(none:Option HO)=some u:=z;cases z') (fun b z=>absurd rfl z) fun z=>absurd rfl z
 |none=>
  refine core (fun b=>if b=a then some (.frz { cls:=.type "list",data:=.seq vs.toArray } (.lst (ns.map V.int))) else none) (fun b=>?_) (.inl (.inr ⟨{ cls:=.type "list",data:=.seq vs.toArray },if_pos rfl⟩)) (fun b u z=>?_) (fun b z=>?_) fun _=>hk
  ·by_cases hb:b=a
   ·exact .inr ⟨_,_,if_pos hb⟩
   ·exact .inl (if_neg hb)
  ·by_cases hb:b=a
   ·have z':=(if_pos hb).symm.trans z
    cases z';subst hb;exact⟨ha,by rw[lM0];exact hl,vs,_,rv,ha⟩
   ·have z':=(if_neg hb).symm.trans z
    cases z'
  ·by_cases hb:b=a
   ·exact hb
   ·exact absurd (if_neg hb) z
theorem b2N {l:PySem.W.OpenLaw}{n k:Nat}{q:Program}{loose:List Str}{XP:(Str->Option Value)->Heap->Prop}{YP:World->Heap->Prop}{d:DefRec}{K:Params->Fg0}{CX:World->CXT}{sp:World->Sp}{x:Str}
  (hn:l.most=some n) (hn2:n<=sizeLine) (hdf:d.params.defaults=[]) (hr:a1q k callerA)
  (hY:∀(w:World) (h:Heap),YP w h->(K w.params).In h)
  (F:∀(w:World) (mg:Str->Option Value) (fa:Addr) (h:Heap),(K w.params).In h->h.Ns mainGlobals mg->mg d.name=some (.ref fa) →
   ∃fd:FuncData,(∀(s:Shared) (u:Value),BindsTo s fd ⟨[u],[]⟩ [(x,u)]) ∧
    ∀base:Heap,(K w.params).In base->base.Ns mainGlobals mg->a0y l.prog w (K w.params) mg base (CX w) k fa fd [x] (sp w))
  (hsp:∀(w:World) (H:Hp) (a:Addr) (ns:List Int),ns.length<=n->b4K H->SqL (K w.params) H a (ns.map V.int)->sp w [.ref a] H (fun v _=>v=.bl true) fun _ _ _=>False)
  (hCX:∀(w:World) (H:Hp) (s:Shared) (e:Value) (s':Shared),CX w [] H s (fun _ _ _=>False) e s'->False) :
  PySem.W.WalkO q loose XP YP l.row.toRowW d [] (fun f vs=>PySem.call f vs):=by
 refine Att.a3C hn hdf fun w s₀ s₁ mg mb fa o pm cd doc a vs ns G Y ho hd hcd hmg hobj hints hlen hg=>?_;have KX:=hY w _ Y;obtain⟨fd,hb,hF⟩:=F w mg fa _ KX G.T.g hmg;exact b0H KX G.T.g G.T.b G.T.builtins G.T.nolimit hg hobj hints (Nat.le_trans hlen hn2) hr hF hb (fun H hO hS=>hsp w H a ns hlen hO hS) fun H e s'=>hCX w H s₁ e s'
def a0N (s:Stmt)(j:Nat):Stmt:=match s with
 | .ClassDef _ _ _ body _ _ _ _ _ _ _=>body.getD j (.Pass ⟨0,0,0,0⟩)
 |_=>.Pass ⟨0,0,0,0⟩
def a0T (s:Stmt):Arguments:=match s with
 | .FunctionDef _ a _ _ _ _ _ _ _ _=>a
 |_=>{ posonlyargs:=[],args:=[],vararg:=none,kwonlyargs:=[],kw_defaults:=[],kwarg:=none,defaults:=[] }
def a0H (s:Stmt):List Stmt:=match s with
 | .FunctionDef _ _ b _ _ _ _ _ _ _=>b
 |_=>[]
def a0e (s:Stmt):Scope:=match s with
 | .FunctionDef _ _ _ _ _ _ sc _ _ _=>sc
 |_=>{ kind:=.function,names:=[],isGenerator:=false,isCoroutine:=false }
abbrev CX0:CXT:=fun _ _ _ _ _ _=>False
abbrev E0:XK:=fun _ _ _=>False
theorem a0u {X:Cx}:a3M CX0 X E0:=fun _ _ _ _ _ _ _ h=>h.elim
structure Fun (K:Fg0) (x qual:Str) (st:Stmt) (f:Addr) (fd:FuncData):Prop where
 ex:∃(oc:Value) (od:Option Addr) (kV doc pm:Value) (an:Option Addr) (cdv ct:Value) (osl:Array (Option Value)),
  fd=PySem.W.fnOf x qual (a0T st) (a0H st) (a0e st) .none kV doc pm an cdv ct/\K.lookup f=some ⟨oc,od,.func fd,osl⟩/\PySem.W.codeIn K cdv qual=true
 kp:PySem.W.keepIn K (.ref f)=true
section
variable {P:Program}{w:World}{K:Fg0}{mg:Str->Option Value}{base:Heap}
theorem Fun.ok {x qual:Str}{st:Stmt}{f:Addr}{fd:FuncData}{N ps:List Str}{k:Nat}{sp:Sp}(F:Fun K x qual st f fd)(S:a0o N ps (a0e st))(len:∀vs H Q E,sp vs H Q E->vs.length=ps.length)
  (hbody:∀(cdv:Value) (A:Around) (outer:List Env) (s:Shared) (H:Hp) (vs:List V) (Q:VK) (E:XK),a1q k (A.deeper (envOfC qual (a0e st) s.heap.objs.size f cdv))->sp vs H Q E →
   ∃t,PSs (a6b CX0 P w K mg base N qual (a0e st) f cdv A outer s H E).nox (a0H st) t/\t { nx:=fun _ H'=>Q .non H',rt:=Q } (a2W N vs) H):a0y P w K mg base CX0 (k+1) f fd ps sp:=by
 obtain⟨oc,od,kV,doc,pm,an,cdv,ct,osl,rfl,lk,hcd⟩:=F.ex;refine b2x lk hcd S len fun A outer s H vs Q E hr hsp=>?_;obtain⟨t,h,q⟩:=hbody cdv A outer s H vs Q E hr hsp;exact⟨t,h.nox,q⟩
theorem Fun.binds {x qual:Str}{st:Stmt}{f:Addr}{fd:FuncData}{ps:List Str}(F:Fun K x qual st f fd)
  (h:∀(kV doc pm:Value) (an:Option Addr) (cdv ct:Value) (us:List Value),us.length=ps.length->bindArgs (PySem.W.fnOf x qual (a0T st) (a0H st) (a0e st) .none kV doc pm an cdv ct) ⟨us,[]⟩=pure (ps.zip us)):a1Z K fd ps []:=by
 obtain⟨oc,od,kV,doc,pm,an,cdv,ct,osl,rfl,lk,hcd⟩:=F.ex;exact .all (h kV doc pm an cdv ct)
theorem a9H {x qual:Str}{st:Stmt}{f:Addr}{oc:Value}{od an:Option Addr}{osl:Array (Option Value)}{kV doc pm cdv ct:Value}(l:K.lookup f=some ⟨oc,od,.func (PySem.W.fnOf x qual (a0T st) (a0H st) (a0e st) .none kV doc pm an cdv ct),osl⟩)
  (c:PySem.W.codeIn K cdv qual=true) (k:PySem.W.keepIn K (.ref f)=true):Fun K x qual st f (PySem.W.fnOf x qual (a0T st) (a0H st) (a0e st) .none kV doc pm an cdv ct):=⟨⟨oc,od,kV,doc,pm,an,cdv,ct,osl,rfl,l,c⟩,k⟩
end
theorem a2o {A:Around}{k:Nat}(hr:a1q k A):A.units+1<cLine:=Nat.lt_of_le_of_lt (Nat.add_le_add_left (by decide:1<=64) _) hr.units
section
variable {X:Cx}
theorem pv (i:Nat){x:Str}{pos:Pos}(hN:X.N[i]? =some x:=by rfl)(hv:Vis X.env.scope x:=by first |exact Or.inl rfl |exact Or.inr (Or.inl rfl) |exact Or.inr (Or.inr rfl))(hd:(x==("__debug__":Str))=false:=by decide)
  (hcd:(x==("__classdict__":Str))=false:=by decide):PE X (.Name x pos) (b4E i):=b4i hN hv hd hcd
end
theorem a1W {A B:Prop}(h:B):if false=true then A else B:=by
 rw[if_neg bF0];exact h
theorem a6a {A B:Prop}(h:A):if true=true then A else B:=by
 rw[if_pos rfl];exact h
theorem b0S {c A B:Prop}[Decidable c](h1:c->A)(h2:¬c->B):if c then A else B:=by
 by_cases h:c
 ·rw[if_pos h]
  exact h1 h
 ·rw[if_neg h]
  exact h2 h
theorem a6r {c A B:Prop}[Decidable c](hc:c)(h:B):if (!decide c)=true then A else B:=by
 rw[dT0 hc];exact a1W h
def a0k (H H':Hp):Prop:=∀b o,H b=some o->H' b=some o
theorem a0k.refl (H:Hp):a0k H H:=fun _ _ h=>h
theorem a0k.trans {H H1 H2:Hp}(a:a0k H H1)(b:a0k H1 H2):a0k H H2:=fun c o h=>b c o (a c o h)
theorem a0k.seq {K:Fg0}{H H':Hp}{a:Addr}{xs:List V}(e:a0k H H')(h:SqL K H a xs):SqL K H' a xs:=by
 rcases h with (h |⟨o,h⟩) |h
 ·exact .inl (.inl (e _ _ h))
 ·exact .inl (.inr ⟨o,e _ _ h⟩)
 ·exact .inr h
section
variable {κ:Type}[DecidableEq κ]
theorem a9w {p:κ×V}{r:List (κ×V)}{k:κ}(e:p.1=k):a2H (p::r) k=a2H r k:=by
 unfold a2H;rw[List.filter_cons,if_neg (by simp[e])]
theorem a5I {p:κ×V}{r:List (κ×V)}{k:κ}(e:¬p.1=k):a2H (p::r) k=p::a2H r k:=by
 unfold a2H;rw[List.filter_cons,if_pos (by simp[e])]
end
theorem Fun.b1 {K:Fg0}{x q:Str}{st:Stmt}{f:Addr}{fd:FuncData}(F:Fun K x q st f fd)(p0:Str)(h:∀(kV doc pm:Value) (an:Option Addr) (cdv ct u0:Value),bindArgs (PySem.W.fnOf x q (a0T st) (a0H st) (a0e st) .none kV doc pm an cdv ct) ⟨[u0],[]⟩=pure [(p0,u0)]):a1Z K fd [p0] []:=F.binds fun kV doc pm an cdv ct us hl=>by
 match us,hl with
 |[u0],_=>exact h kV doc pm an cdv ct u0
theorem Fun.b2 {K:Fg0}{x q:Str}{st:Stmt}{f:Addr}{fd:FuncData}(F:Fun K x q st f fd)(p0 p1:Str)(h:∀(kV doc pm:Value) (an:Option Addr) (cdv ct u0 u1:Value),bindArgs (PySem.W.fnOf x q (a0T st) (a0H st) (a0e st) .none kV doc pm an cdv ct) ⟨[u0,u1],[]⟩=pure [(p0,u0),(p1,u1)]):a1Z K fd [p0,p1] []:=F.binds fun kV doc pm an cdv ct us hl=>by
 match us,hl with
 |[u0,u1],_=>exact h kV doc pm an cdv ct u0 u1
theorem Fun.b3 {K:Fg0}{x q:Str}{st:Stmt}{f:Addr}{fd:FuncData}(F:Fun K x q st f fd)(p0 p1 p2:Str)(h:∀(kV doc pm:Value) (an:Option Addr) (cdv ct u0 u1 u2:Value),bindArgs (PySem.W.fnOf x q (a0T st) (a0H st) (a0e st) .none kV doc pm an cdv ct) ⟨[u0,u1,u2],[]⟩=pure [(p0,u0),(p1,u1),(p2,u2)]):a1Z K fd [p0,p1,p2] []:=F.binds fun kV doc pm an cdv ct us hl=>by
 match us,hl with
 |[u0,u1,u2],_=>exact h kV doc pm an cdv ct u0 u1 u2
theorem Fun.b4 {K:Fg0}{x q:Str}{st:Stmt}{f:Addr}{fd:FuncData}(F:Fun K x q st f fd)(p0 p1 p2 p3:Str)(h:∀(kV doc pm:Value) (an:Option Addr) (cdv ct u0 u1 u2 u3:Value),bindArgs (PySem.W.fnOf x q (a0T st) (a0H st) (a0e st) .none kV doc pm an cdv ct) ⟨[u0,u1,u2,u3],[]⟩=pure [(p0,u0),(p1,u1),(p2,u2),(p3,u3)]):a1Z K fd [p0,p1,p2,p3] []:=F.binds fun kV doc pm an cdv ct us hl=>by
 match us,hl with
 |[u0,u1,u2,u3],_=>exact h kV doc pm an cdv ct u0 u1 u2 u3
theorem a0o.k {N P:List Str}{sc:Scope}(h:sc.kind=.function/\sc.isCoroutine=false/\sc.isGenerator=false/\N.Nodup/\N.take P.length=P/\(∀x∈P,sc.names.lookup x=some .local\/sc.names.lookup x=some .cell)/\∀y∈sc.names,y.2≠.free):a0o N P sc:=let ⟨a,b,c,d,e,f,g⟩:=h;⟨a,b,c,d,e,f,g⟩
def a3A (env:Env)(cs:List (Str×Addr))(y:Str×NameKind):List (Str×Addr):=
 if (y.2==NameKind.free)=true then(y.1,(env.cells.lookup y.1).getD 0)::cs else cs
def a6E (env:Env)(names:List (Str×NameKind)):List (Str×Addr):=names.foldl (a3A env) []
theorem a3Q {env:Env}:∀(names:List (Str×NameKind)) (cs:List (Str×Addr)),(∀y∈names,y.2=.free->∃c,env.cells.lookup y.1=some c) →
  (forIn names cs fun y r=>(if (y.2==NameKind.free)=true then do let a <-cellOf env y.1;pure (ForInStep.yield ((y.1,a)::r)) else pure (ForInStep.yield r):Sem (ForInStep (List (Str×Addr)))))=pure (names.foldl (a3A env) cs)
 |[],cs,_=>rfl
 |y::r,cs,h=>by
  rw[List.forIn_cons,List.foldl_cons]
  by_cases hy:(y.2==NameKind.free)=true
  ·obtain⟨c,hc⟩:=h y List.mem_cons_self (eq_of_beq hy)
   have e:cellOf env y.1=pure c:=by unfold cellOf;rw[hc]
   rw[if_pos hy,e,pure_bind,pure_bind];have e2:a3A env cs y=(y.1,c)::cs:=by unfold a3A;rw[if_pos hy,hc];rfl
   rw[e2];exact a3Q r _ fun z hz=>h z (mL0 _ hz)
  ·rw[if_neg hy,pure_bind]
   have e2:a3A env cs y=cs:=by unfold a3A;rw[if_neg hy]
   rw[e2];exact a3Q r _ fun z hz=>h z (mL0 _ hz)
theorem a9G {env:Env}{scope:Scope}(h:∀y∈scope.names,y.2=.free->∃c,env.cells.lookup y.1=some c):closureFor scope env=pure (a6E env scope.names):=by
 have e:=a3Q (env:=env) scope.names [] h;unfold a6E;rw[<-e];simp only[closureFor,bind_pure_comp,map_pure,bind_pure]
theorem a6Q {env:Env}:∀(names:List (Str×NameKind)) (cs:List (Str×Addr)),(∀y∈names,y.2=.free->∃c,env.cells.lookup y.1=some c)->(∀x c,cs.lookup x=some c->env.cells.lookup x=some c) →
  ∀x c,(names.foldl (a3A env) cs).lookup x=some c->env.cells.lookup x=some c
 |[],cs,_,hc,x,c,e=>hc x c e
 |y::r,cs,h,hc,x,c,e=>by
  rw[List.foldl_cons] at e;refine a6Q r _ (fun z hz=>h z (mL0 _ hz)) (fun z d q=>?_) x c e;unfold a3A at q
  by_cases hy:(y.2==NameKind.free)=true
  ·obtain⟨c',hc'⟩:=h y List.mem_cons_self (eq_of_beq hy)
   rw[if_pos hy,List.lookup_cons,hc'] at q;cases hz:z==y.1 with
   |true=>
    rw[hz] at q;have q':c'=d:=Option.some.inj q;rw[eq_of_beq hz,hc',q']
   |false=>
    rw[hz] at q;exact hc z d q
  ·rw[if_neg hy] at q
   exact hc z d q
theorem a4R {env:Env}:∀(names:List (Str×NameKind)) (cs:List (Str×Addr)) (x:Str),((x,NameKind.free)∈names\/∃c,cs.lookup x=some c)->∃c,(names.foldl (a3A env) cs).lookup x=some c
 |[],cs,x,h=>by
  rcases h with h |h
  ·cases h
  ·exact h
 |y::r,cs,x,h=>by
  rw[List.foldl_cons];refine a4R r _ x ?_;rcases h with h |⟨c,h⟩
  ·rcases mK0.mp h with e |e
   ·subst e
    refine .inr ⟨(env.cells.lookup x).getD 0,?_⟩;unfold a3A;rw[if_pos (show((x,NameKind.free).2==NameKind.free)=true from rfl),List.lookup_cons,beq_self_eq_true]
   ·exact .inl e
  ·refine .inr ?_
   unfold a3A
   by_cases hy:(y.2==NameKind.free)=true
   ·rw[if_pos hy,List.lookup_cons]
    cases hz:x==y.1 with
    |true=>exact⟨_,rfl⟩
    |false=>exact⟨c,h⟩
   ·rw[if_neg hy]
    exact⟨c,h⟩
abbrev a1y (X:Cx)(scope:Scope)(N:List Str)(s:Shared)(H:Hp)(fp:List Addr):Cx where
 prog:=X.prog
 w:=X.w
 K:=X.K
 mg:=X.mg
 base:=X.base
 A:=X.A
 N:=N
 s₀:=s
 H₀:=H
 env:=compEnvC scope (a6E X.env scope.names) s.heap.objs.size X.env
 outer:=X.stack
 stack:=X.stack
 ex:=fp
 fn:=fun _=>false
 calm:=X.calm
 pn:=[]
 xe:=fun _ _=>False
structure a5p (osc scope:Scope) (N0:List Str) (xs:List Str) (fr:List Nat):Prop where
 kind:scope.kind=.function
 nocell:∀y∈scope.names,y.2≠.cell
 names:∀y∈scope.names,y.2=.local->scope.names.lookup y.1=some .local
 free:∀y∈scope.names,y.2=.free->osc.names.lookup y.1=some .cell\/osc.names.lookup y.1=some .free
 fro:∀j∈fr,∃x,N0[j]? =some x/\scope.names.lookup x=some .free
 nd:(xs++fr.map fun j=>N0.getD j "").Nodup
def a1V (N0:List Str)(xs:List Str)(fr:List Nat):List Str:=xs++fr.map fun j=>N0.getD j ""
def a3j (xs:List Str)(fr:List Nat)(σ:St):St:=xs.map (fun _=>none)++fr.map fun j=>(σ[j]?).join
theorem a0Z {κ:Type}:∀{l:List (Str×κ)} {x:Str} {k:κ},l.lookup x=some k->(x,k)∈l
 |[],_,_,h=>by cases h
 | (n,k')::r,x,k,h=>by
  rw[List.lookup_cons] at h;cases hx:x==n with
  |true=>
   rw[hx] at h;have h':k'=k:=Option.some.inj h;rw[eq_of_beq hx,h'];exact List.mem_cons_self
  |false=>
   rw[hx] at h;exact mL0 _ (a0Z h)
theorem a2s {env:Env}:∀{names:List (Str×NameKind)} {x:Str} {k:NameKind},
  (names.map fun(n,k)=>if (k==NameKind.free&&env.scope.kind==.function&&env.kindOf n==some .cell) then(n,NameKind.cell) else(n,k)).lookup x=some k →
  names.lookup x=some k\/(k=.cell/\names.lookup x=some .free)
 |[],_,_,h=>by cases h
 | (n,k')::r,x,k,h=>by
  have ih:=@a2s env r x k;rw[mN0] at h;rw[List.lookup_cons]
  by_cases hc:(k'==NameKind.free&&env.scope.kind==.function&&env.kindOf n==some .cell)=true
  ·have h':List.lookup x ((n,NameKind.cell)::(r.map fun(n,k)=>if (k==NameKind.free&&env.scope.kind==.function&&env.kindOf n==some .cell) then(n,NameKind.cell) else(n,k)))=some k:=by
    rw[<-h];simp only[hc,if_true]
   rw[List.lookup_cons] at h';cases hx:x==n with
   |true=>
    rw[hx] at h';have h2:NameKind.cell=k:=Option.some.inj h';rw[Bool.and_eq_true,Bool.and_eq_true] at hc;exact .inr ⟨h2.symm,congrArg some (eq_of_beq hc.1.1)⟩
   |false=>
    rw[hx] at h';exact ih h'
  ·have h':List.lookup x ((n,k')::(r.map fun(n,k)=>if (k==NameKind.free&&env.scope.kind==.function&&env.kindOf n==some .cell) then(n,NameKind.cell) else(n,k)))=some k:=by
    rw[<-h];simp only[hc];rfl
   rw[List.lookup_cons] at h';cases hx:x==n with
   |true=>
    rw[hx] at h';exact .inl h'
   |false=>
    rw[hx] at h';exact ih h'
theorem a3d {env:Env}:∀{names:List (Str×NameKind)} {x:Str},names.lookup x=some .free →
  (names.map fun(n,k)=>if (k==NameKind.free&&env.scope.kind==.function&&env.kindOf n==some .cell) then(n,NameKind.cell) else(n,k)).lookup x=some .cell ∨
  (names.map fun(n,k)=>if (k==NameKind.free&&env.scope.kind==.function&&env.kindOf n==some .cell) then(n,NameKind.cell) else(n,k)).lookup x=some .free
 |[],_,h=>by cases h
 | (n,k')::r,x,h=>by
  have ih:=@a3d env r x;rw[List.lookup_cons] at h;rw[mN0]
  by_cases hc:(k'==NameKind.free&&env.scope.kind==.function&&env.kindOf n==some .cell)=true
  ·have e:(match (n,k') with | (n,k)=>if (k==NameKind.free&&env.scope.kind==.function&&env.kindOf n==some .cell) then(n,NameKind.cell) else(n,k))=(n,NameKind.cell):=by
    simp only[hc,if_true]
   rw[e,List.lookup_cons];cases hx:x==n with
   |true=>exact .inl rfl
   |false=>rw[hx] at h;exact ih h
  ·have e:(match (n,k') with | (n,k)=>if (k==NameKind.free&&env.scope.kind==.function&&env.kindOf n==some .cell) then(n,NameKind.cell) else(n,k))=(n,k'):=by
    simp only[hc];rfl
   rw[e,List.lookup_cons];cases hx:x==n with
   |true=>
    rw[hx] at h;exact .inr h
   |false=>rw[hx] at h;exact ih h
section
variable {X:Cx}
theorem a3V {osc scope:Scope}{N0 xs:List Str}{fr:List Nat}{pins:List (Addr×Obj)}{σ:St}{H:Hp}{s:Shared}(C:a5p osc scope N0 xs fr)(ho:X.env.scope=osc)(I:Inv X pins σ H s) :
  ∀y∈scope.names,y.2=.free->∃c,X.env.cells.lookup y.1=some c:=fun y hy e=>by
 refine I.ok.has y.1 ?_;rw[<-ho] at C;exact C.free y hy e
theorem a7O {osc scope:Scope}{N0 xs:List Str}{fr:List Nat}{pins:List (Addr×Obj)}{σ:St}{H:Hp}{s:Shared}{fp:List Addr}{h₁:Heap}{tk:Nat}(C:a5p osc scope N0 xs fr)(ho:X.env.scope=osc)(hN0:X.N=N0)(I:Inv X pins σ H s)
  (hf:∀b∈fp,a4f X pins H b) (hlt:∀b∈fp,b<s.heap.objs.size) (hn:h₁.Ns s.heap.objs.size fun _=>none) (hk:∀b o,s.heap.get? b=some o->h₁.get? b=some o) :
  Inv (a1y X scope (a1V N0 xs fr) s H fp) [] (a3j xs fr σ) H { s with heap:=h₁,toks:=tk }:=by
 subst hN0;have hfree:=a3V C ho I;have sub:=a6Q (env:=X.env) scope.names [] hfree (fun x c e=>by cases e);have nC:∀x c,X.env.cells.lookup x=some c->c≠s.heap.objs.size:=fun x c e z=>by
  obtain⟨v,q⟩:=I.cell x c e;exact absurd q.lt (by rw[z];exact Nat.lt_irrefl _)
 refine⟨⟨I.ok.mod,C.kind,I.ok.glob,I.ok.blt,nR0 _,fun x y c h1 h2=>I.ok.inj x y c (sub x c h1) (sub y c h2),fun x hx=>?_,fun x c h _=>(bF0 h).elim,I.ok.hd,I.ok.frames,.inl rfl,fun b hb=>?_,I.bs,Nat.le_trans I.ok.bsz I.sz,fun b o e hb=>?_,fun b hb hz=>?_,I.stack,I.stkFree⟩,
  rfl,I.bare,Un.kept hk,⟨_,hn,fun i x v h1 h2 h3=>?_⟩,fun x c h=>?_,I.hok.fresh (nR0 _),fun x c h=>I.freeC x c (sub x c h),fun p hp=>absurd (show p∈([]:List (Addr×Obj)) from hp) (by simp),I.hok.kept hk,?_⟩
 ·have hx':(relabel scope X.env).names.lookup x=some .cell\/(relabel scope X.env).names.lookup x=some .free:=hx
  refine a4R (env:=X.env) scope.names [] x (.inl ?_);rcases hx' with q |q
  ·rcases a2s q with z |⟨_,z⟩
   ·exact absurd rfl (C.nocell _ (a0Z z))
   ·exact a0Z z
  ·rcases a2s q with z |⟨z,_⟩
   ·exact a0Z z
   ·cases z
 ·exact⟨nL0 (hlt b hb),fun x c h=>(hf b hb).2.2.2.2.1 x c (sub x c h)⟩
 ·rcases (hf b hb).2.2.2.1 with z |z
  ·exact I.ok.noex b o e z
  ·exact absurd (Nat.lt_of_lt_of_le (hL0 e) (Nat.le_trans I.ok.bsz z)) (Nat.lt_irrefl _)
 ·rcases mK0.mp (I.stkSub b hz) with z |z
  ·exact(hf b hb).2.1 z
  ·exact(hf b hb).2.2.1 z
 ·
  have hi:¬i<xs.length:=fun hi=>by
   unfold a3j at h2;rw[gL0 (by rw[lM0];exact hi),gM0] at h2;cases q:xs[i]? with
   |none=>rw[q] at h2;cases h2
   |some y=>rw[q] at h2;cases h2
  have hi':xs.length<=i:=Nat.le_of_not_lt hi;have e2:(fr.map fun j=>(σ[j]?).join)[i-xs.length]? =some (some v):=by
   have:=h2
   unfold a3j at this;rw[gR0 (by rw[lM0];exact hi'),lM0] at this;exact this
  rw[gM0] at e2;cases q:fr[i-xs.length]? with
  |none=>rw[q] at e2;cases e2
  |some j=>
   rw[q] at e2;have e3:(σ[j]?).join=some v:=Option.some.inj e2;have e4:σ[j]? =some (some v):=by
    cases z:σ[j]? with
    |none=>rw[z] at e3;cases e3
    |some u=>rw[z] at e3;rw[show u=some v from e3]
   obtain⟨y,hy,hyf⟩:=C.fro j (gI0 q);have ex:x=y:=by
    have h1':(a1V X.N xs fr)[i]? =some x:=h1;unfold a1V at h1';rw[gR0 hi',gM0,q] at h1';have h5:X.N.getD j ""=x:=Option.some.inj h1';rw[<-h5,List.getD_eq_getElem?_getD,hy]
    rfl
   subst ex;obtain⟨m,_,hl⟩:=I.loc;have kf:=C.free _ (a0Z hyf) rfl;rw[<-ho] at kf;have vis:Vis X.env.scope x:=by
    rcases kf with z |z
    ·exact .inr (.inl z)
    ·exact .inr (.inr z)
   obtain⟨u,r,l⟩:=hl j x v hy e4 vis;refine⟨u,r,.inr ⟨a3d hyf,?_⟩⟩;rcases l with ⟨z,_⟩ |⟨_,c,hc,hcell⟩
   ·have z':X.env.scope.names.lookup x=some .local:=z
    rcases kf with w |w
    ·rw[z'] at w;cases w
    ·rw[z'] at w;cases w
   ·obtain⟨c',hc'⟩:=a4R (env:=X.env) scope.names [] x (.inl (a0Z hyf))
    have e5:=sub x c' hc';rw[hc] at e5;cases e5;refine⟨c,hc',?_⟩;obtain⟨o,ho',hd⟩:=hcell;exact⟨o,hk _ _ ho',hd⟩
 ·obtain⟨v,o,ho',hd⟩:=I.cell x c (sub x c h)
  exact⟨v,o,hk _ _ ho',hd⟩
 ·show(a3j xs fr σ).length=(a1V X.N xs fr).length
  unfold a3j a1V;simp
def PIf (X:Cx)(ifs:List Expr)(t:TT):Prop:=
 ∀(pins:List (Addr×Obj)) (s:Shared) (σ:St) (H:Hp) (Q:Bool->Hp->Prop),Inv X pins σ H s->t σ H Q →
  wpAny (model X.prog X.w) X.A (forIn ifs true fun c r=>if r=true then do let ok <-isTrue c X.env (eval c X.env);pure (ForInStep.yield ok) else pure (ForInStep.yield r)) (TP X pins σ Q) X.xe s
def b4w:TT:=fun _ H Q=>Q true H
theorem a1h {X:Cx}:PIf X [] b4w:=fun _ _ σ H Q I h=>wpAny_tests_nil ⟨H,I,h⟩
theorem b2e {X:Cx}{c:Expr}{t:TT}(h:PT X c t):PIf X [c] t:=fun pins s σ H Q I hw=>wpAny_tests_one (h pins s σ H Q I hw)
def a6A (J:It)(g:TG)(tt:TT)(te:TE)(R:Addr->Hp->Prop)(D:Addr)(σ0:St)(H0:Hp):Prop:=
 ∃W:Nat->Nat->St->Hp->Prop,(∃m,W 0 m σ0 H0)/\∀i m σ H,W i m σ H →
  (J.stop i H/\R D H) ∨
  (J.go i H/\∃(N:St->V->Hp->Prop) (M:St->Hp->Prop),(∀σ2 y H4,N σ2 y H4->∃ys,H4 D=some (.lst ys)/\ys.length<sizeLine/\∃m',m'<m/\W (i+1) m' σ2 (upd H4 D (.lst (ys++[y])))) ∧
   (∀σ2 H3,M σ2 H3->∃m',m'<m/\W (i+1) m' σ2 H3) ∧
   ∀x H',J.yld i H x H'->g x σ H' fun σ2 H2=>tt σ2 H2 fun b H3=>if b=true then te σ2 H3 (N σ2) else M σ2 H3)
def b4Q (xs:List Str)(fr:List Nat)(wi:TI)(g:TG)(tt:TT)(te:TE):TE:=fun σ H Q=>wi σ H fun J H1=>∀D,H1 D=none->a6A J g tt te (fun D H2=>Q (.ref D) H2) D (a3j xs fr σ) (upd H1 D (.lst []))
def b4S (i:Nat)(xs:List Str)(fr:List Nat)(wi:TI)(g:TG)(tt:TT)(te:TE):TS:=fun E σ H=>wi σ H fun J H1=>∀D,H1 D=none->a6A J g tt te (fun D H2=>E.nx (σ.set i (some (.ref D))) H2) D (a3j xs fr σ) (upd H1 D (.lst []))
theorem a4o {osc scope:Scope}{N0 xs:List Str}{fr:List Nat}{pins:List (Addr×Obj)}{σ:St}{H2:Hp}{s2:Shared}{fp:List Addr}{it:Addr}{tn:Nat->Heap->Prop}{J:It}{elt tg iter:Expr}{ifs:List Expr}{pos:Pos}
  {g:TG} {tt:TT} {te:TE} {E:Vs0} {R:Addr->Hp->Prop} {RR:Value->Addr->Result->Shared->Prop} (C:a5p osc scope N0 xs fr) (ho:X.env.scope=osc) (hN0:X.N=N0) (hc:X.calm=true)
  (hg:∀s H fp,PG (a1y X scope (a1V N0 xs fr) s H fp) tg g) (ht:∀s H fp,PIf (a1y X scope (a1V N0 xs fr) s H fp) ifs tt) (he:∀s H fp,PE (a1y X scope (a1V N0 xs fr) s H fp) elt te)
  (I2:Inv X pins σ H2 s2) (T:a9U X.prog X.w X.K tg J fp it tn) (st2:tn 0 s2.heap) (f2:∀b∈fp,a4f X pins H2 b)
  (hR:∀D,H2 D=none->a6A J g tt te R D (a3j xs fr σ) (upd H2 D (.lst [])))
  (hRR:∀(D C:Addr) (s':Shared) (H':Hp) (m:Str->Option Value),Inv X pins σ H' s'->s'.heap.Ns C m->a4f X pins H' C->R D H'->RR (.ref D) C (.ok .next) s') :
  wpAny (model X.prog X.w) X.A (newList []) (fun acc s₃=>wpAny (model X.prog X.w) X.A (newFunctionEnv scope X.env.globals (a6E X.env scope.names) [] X.env.qual none .none (some X.env)) (fun cenv s₄=>
   codeAny (model X.prog X.w) X.A (.compStart (.ListComp elt [⟨tg,iter,ifs,0⟩] scope pos) 0 (.ref it) acc { cenv with scope:=relabel scope X.env }) (RR acc cenv.locals) s₄) E s₃) E s2:=by
 refine wpAny_newObj_type (wpAny_newFunctionEnv C.nocell (by intro y hy;simp at hy) (fun h₁ hns₁ hsb₁=>?_) C.kind)
 dsimp only at hns₁ hsb₁ ⊢
 have I3:Inv X pins σ (upd H2 s2.heap.objs.size (.lst [])) { s2 with heap:=s2.heap.push { cls:=.type "list",data:=.seq ([]:List Value).toArray } }:=I2.lnew (its:=[]) (t':=s2.toks) .nil (by simp);have flt:∀b∈fp,b<s2.heap.objs.size:=fun b hb=>by
  obtain⟨o,e,_⟩:=T.obj 0 _ st2 b hb;exact hL0 e
 have f3:∀b∈fp,a4f X pins (upd H2 s2.heap.objs.size (.lst [])) b:=fun b hb=>⟨by rw[a0f (nL0 (flt b hb))];exact(f2 b hb).1,(f2 b hb).2⟩;have flt3:∀b∈fp,b<(s2.heap.push { cls:=.type "list",data:=.seq ([]:List Value).toArray }).objs.size:=fun b hb=>by
  rw[Heap.size_push];exact Nat.lt_succ_of_lt (flt b hb)
 obtain⟨W,⟨m0,w0⟩,turn⟩:=hR s2.heap.objs.size I2.fresh;generalize hD:s2.heap.objs.size=D at *;generalize hs3:s2.heap.push { cls:=.type "list",data:=.seq ([]:List Value).toArray }=h3 at *;have up2:∀b o,s2.heap.get? b=some o->h3.get? b=some o:=fun b o e=>by rw[<-hs3];exact hP0 _ e
 have old:∀b o,h3.get? b=some o->h₁.get? b=some o:=fun b o e=>hsb₁.extBut b o (nL0 (hL0 e)) (hP0 _ e);have Ic:=a7O (tk:=s2.toks+([]:List (Str×Value)).length) C ho hN0 I3 f3 flt3 hns₁ old;have st4:tn 0 h₁:=T.keep 0 _ _ st2 fun b hb o e=>old b o (up2 b o e);have stat:∀{H':Hp},(∀b∈fp,H' b=none)->∀b∈fp,a4f (a1y X scope (a1V N0 xs fr) { s2 with heap:=h3 } (upd H2 D (.lst [])) fp) [] H' b:=fun hn b hb=>
  ⟨hn b hb,nL0 (flt3 b hb),fun z=>by
   rcases mK0.mp (I3.stkSub b z) with q |q
   ·exact(f3 b hb).2.1 q
   ·exact(f3 b hb).2.2.1 q,.inl hb,fun x c h=>(Ic.ok.exf b hb).2 x c h,fun p hp=>absurd (show p∈([]:List (Addr×Obj)) from hp) (by simp)⟩
 have fin:∀{σ':St} {H':Hp} {s':Shared},Inv (a1y X scope (a1V N0 xs fr) { s2 with heap:=h3 } (upd H2 D (.lst [])) fp) [] σ' H' s'->R D H'->RR (.ref D) h3.objs.size (.ok .next) s':=fun {σ' H' s'} I' q=>by
  obtain⟨m,hm,_⟩:=I'.loc;refine hRR D h3.objs.size s' H' m (I3.call' I'.os I'.base I'.hok I'.bare fun b hb=>?_) hm (I3.fpOk (nR0 _) I'.free) q;exact⟨(f3 b hb).2.2.2.1,(f3 b hb).2.1,(f3 b hb).2.2.2.2.1,(f3 b hb).2.2.2.2.2⟩
 have loop:codeAny (model X.prog X.w) X.A (.compLoop (.ListComp elt [⟨tg,iter,ifs,0⟩] scope pos) 0 (.ref it) (.ref D) (compEnvC scope (a6E X.env scope.names) h3.objs.size X.env)) (RR (.ref D) h3.objs.size) { s2 with heap:=h₁,toks:=s2.toks+([]:List (Str×Value)).length }:=by
  refine codeAny_loop rfl (fun n s'=>∃i σ' H',Inv (a1y X scope (a1V N0 xs fr) { s2 with heap:=h3 } (upd H2 D (.lst [])) fp) [] σ' H' s'/\tn i s'.heap/\(∀b∈fp,H' b=none)/\W i n σ' H') (fun n s' hI=>?_) m0 ⟨0,_,_,Ic,st4,fun b hb=>(f3 b hb).1,w0⟩;show wpAny _ X.A ((compTurn (.ListComp elt [⟨tg,iter,ifs,0⟩] scope pos) 0 (.ref it) (.ref D) (compEnvC scope (a6E X.env scope.names) h3.objs.size X.env)).onRaise (fun x=>do noteFrame x (compEnvC scope (a6E X.env scope.names) h3.objs.size X.env);theTreesLotGoes x)) _ _ s';refine wpAny_noted ?_;rw[compTurn_list];obtain⟨i,σ',H',I',st',fr',w'⟩:=hI;refine wB0 (wpAny_standAt (wB0 ?_));rcases turn i n σ' H' w' with ⟨stop,q⟩ |⟨go,N,M,hN,hM,step⟩
  ·refine thn (T.done (a1y X scope (a1V N0 xs fr) { s2 with heap:=h3 } (upd H2 D (.lst [])) fp) rfl rfl rfl hc i [] s' σ' H' _ I' (stat fr') st' stop) fun r s4 ⟨hr,I4⟩=>?_
   subst hr;exact wP0 (fin I4 q)
  ·refine thn (T.item (a1y X scope (a1V N0 xs fr) { s2 with heap:=h3 } (upd H2 D (.lst [])) fp) rfl rfl rfl hc i [] s' σ' H' _ I' (stat fr') st' go) fun r s4 ⟨u,hr,h4⟩=>?_
   subst hr;refine wB0 (thn h4 fun _ s5 ⟨x,H5,I5,r5,y5,st5,fr5⟩=>?_);have I5':=I5.pinned (stat fr5) (T.obj _ _ st5);have again:∀{σ7:St} {H7:Hp} {s7:Shared},Inv (a1y X scope (a1V N0 xs fr) { s2 with heap:=h3 } (upd H2 D (.lst [])) fp) ([]++a5E fp s5.heap) σ7 H7 s7->(∃m',m'<n/\W (i+1) m' σ7 H7) →
     ∃m,m<n/\∃i σ' H',Inv (a1y X scope (a1V N0 xs fr) { s2 with heap:=h3 } (upd H2 D (.lst [])) fp) [] σ' H' s7/\tn i s7.heap/\(∀b∈fp,H' b=none)/\W i m σ' H':=fun {σ7 H7 s7} I7 n7=>by
    obtain⟨m',hm,w7⟩:=n7;refine⟨m',hm,i+1,σ7,H7,I7.unpinned,T.keep _ _ _ st5 fun b hb o e=>(I7.pin (b,o) (List.mem_append_right _ (List.mem_append_right _ (a2B hb e)))).1,fun b hb=>?_,w7⟩;obtain⟨o,e,d⟩:=T.obj _ _ st5 b hb;exact(I7.pin (b,o) (List.mem_append_right _ (List.mem_append_right _ (a2B hb e)))).2.1
   refine wB0 (wpAny_mono (hg _ _ _ _ s5 σ' H5 x u _ I5' r5 (step x H5 y5)) (fun _ s6 ⟨σ6,H6,I6,q6⟩=>?_) fun _ _ z=>False.elim z);refine wB0 (wpAny_mono (ht _ _ _ _ s6 σ6 H6 _ I6 q6) (fun ok s7 ⟨H7,I7,q7⟩=>?_) fun _ _ z=>False.elim z);cases ok with
   |false=>
    rw[if_neg bF0] at q7;exact wP0 ⟨rfl,again I7 (hM _ _ q7)⟩
   |true=>
    rw[if_pos rfl] at q7;refine wB0 (wB0 (wpAny_mono (he _ _ _ _ s7 σ6 H7 _ I7 q7) (fun y s8 ⟨v,H8,I8,r8,q8⟩=>?_) fun _ _ z=>False.elim z));obtain⟨ys,eD,hz,q8⟩:=hN _ _ _ q8;refine wB0 (wpAny_mono (a5r (X:=a1y X scope (a1V N0 xs fr) { s2 with heap:=h3 } (upd H2 D (.lst [])) fp) _ s8 σ6 H8 (.ref D) [v] (.ref D) [y] (fun _ H9=>∃m',m'<n/\W (i+1) m' σ6 H9) I8 rfl (.cons r8 .nil) ⟨D,ys,v,rfl,rfl,eD,hz,q8⟩) (fun _ s9 ⟨_,H9,I9,_,q9⟩=>?_) fun _ _ z=>False.elim z);exact wP0 (wP0 ⟨rfl,again I9 q9⟩)
 exact codeAny_compStart_list loop (T.self X.A 0 _ _ _ st4 loop)
variable {osc scope:Scope}{N0 xs:List Str}{fr:List Nat}{elt tg iter:Expr}{ifs:List Expr}{pos:Pos}{wi:TI}{g:TG}{tt:TT}{te:TE}
theorem a1j (C:a5p osc scope N0 xs fr)(ho:X.env.scope=osc)(hN0:X.N=N0)(hc:X.calm=true)(hi:PI X tg iter wi)
  (hg:∀s H fp,PG (a1y X scope (a1V N0 xs fr) s H fp) tg g) (ht:∀s H fp,PIf (a1y X scope (a1V N0 xs fr) s H fp) ifs tt) (he:∀s H fp,PE (a1y X scope (a1V N0 xs fr) s H fp) elt te)
  (hs:∀x,foldedSetIterable iter X.env x=pure x:=by intro _;rfl):PE X (.ListComp elt [⟨tg,iter,ifs,0⟩] scope pos) (b4Q xs fr wi g tt te):=by
 intro pins s σ H Q I h;rw[eval_ListComp];refine wpAny_comprehension_free (use:=none) rfl hs (a9G (a3V C ho I)) C.kind C.names (thn (hi pins s σ H _ I h) fun v s1 h1=>thn h1 fun itv s2 h2=>?_);obtain⟨it,fp,tn,J,H2,e,I2,T,st2,f2,hR⟩:=h2;subst e;refine a4o C ho hN0 hc hg ht he I2 T st2 f2 hR fun D C s' H' m I' hm fC q=>?_;refine⟨m,hm,fun h' sb=>⟨.ref D,H',?_,rfl,q⟩⟩;exact I'.turned (t':=s'.toks) (fun b o hb e=>(sb.2 b hb).trans e) fC.1 fC.2.1 fC.2.2.2.1 fC.2.2.2.2.1 fC.2.2.2.2.2
theorem a9f {i:Nat}{y:Str}{py spos:Pos}(C:a5p osc scope N0 xs fr)(ho:X.env.scope=osc)(hN0:X.N=N0)(hc:X.calm=true)(hi:PI X tg iter wi)
  (hg:∀s H fp,PG (a1y X scope (a1V N0 xs fr) s H fp) tg g) (ht:∀s H fp,PIf (a1y X scope (a1V N0 xs fr) s H fp) ifs tt) (he:∀s H fp,PE (a1y X scope (a1V N0 xs fr) s H fp) elt te)
  (hN:X.N.Nodup) (hy:X.N[i]? =some y) (hx:Loc X.env.scope y)
  (hsw:swapsWith (.ListComp elt [⟨tg,iter,ifs,0⟩] scope pos) (some (.Name y py)) spos.line X.env=pure true:=by rfl)
  (hf:X.fn y=true\/X.env.scope.names.lookup y=some .local:=by first |exact .inl rfl |exact .inr rfl |assumption)
  (hs:∀x,foldedSetIterable iter X.env x=pure x:=by intro _;rfl):PS X (.Assign [.Name y py] (.ListComp elt [⟨tg,iter,ifs,0⟩] scope pos) spos) (b4S i xs fr wi g tt te):=by
 intro pins s σ H D I h;rw[exec_Assign_Name_used _ _ _ _ hsw];refine wB0 (wpAny_standAt (wB0 ?_));show wpAny _ X.A (do let _ <-comprehension (.ListComp elt [⟨tg,iter,ifs,0⟩] scope pos) scope X.env _ (newList []) false (eval iter X.env) (some (assign (.Name y py) X.env))) _ _ s;refine wB0 (wpAny_mono (wpAny_comprehension_free (use:=some (assign (.Name y py) X.env)) (Q:=fun _ s'=>SP X pins D .next s') rfl hs (a9G (a3V C ho I)) C.kind C.names
  (thn (hi pins s σ H _ I h) fun v s1 h1=>thn h1 fun itv s2 h2=>?_)) (fun _ s' hq=>wP0 (wP0 hq)) fun _ _ e=>e)
 obtain⟨it,fp,tn,J,H2,e,I2,T,st2,f2,hR⟩:=h2;subst e;refine a4o C ho hN0 hc hg ht he I2 T st2 f2 hR fun Dl C s' H' m I' hm fC q=>?_;refine wpAny_assign_Name (a5N I' hN hy hx (show a0S (.ref Dl) (.ref Dl) from rfl) (fun s3 I3 hsb=>?_) hf);obtain⟨a,sb,ha⟩:=hsb;have hCa:C≠a:=by
  rcases ha with z |z
  ·rw[z];exact fC.2.1
  ·exact fun w=>fC.2.2.2.2.1 y a z w.symm
 refine⟨m,hm.sameBut sb hCa,fun h' sb'=>⟨_,H',?_,q⟩⟩;exact I3.turned (t':=s3.toks) (fun b o hb e=>(sb'.2 b hb).trans e) fC.1 fC.2.1 fC.2.2.2.1 fC.2.2.2.2.1 fC.2.2.2.2.2
end
def Its (x:Str):It:=⟨fun i _=>i<x.cps.size,fun i H v H'=>H'=H/\∃c,x.cps[i]? =some c/\v=.str ⟨#[c]⟩,fun i _=>x.cps.size<=i⟩
theorem a2E (x:Str):strIterType x="str_ascii_iterator"\/strIterType x="str_iterator":=by
 unfold strIterType
 split
 ·exact .inl rfl
 ·exact .inr rfl
theorem b0F {P:Program}{w:World}{K:Fg0}{tg:Expr}(x:Str)(t:Tok)(it:Addr):a9U P w K tg (Its x) [it] it (fun i h=>h.IsStrIter it (strIterType x) x t i) where
 mem:=by simp
 obj:=fun i h st b hb=>by
  have e:b=it:=by simpa using hb
  subst e;obtain⟨o,e,c,d⟩:=st;exact⟨o,e,fun v z=>by rw[d] at z;cases z⟩
 keep:=fun i h h' st k=>by
  obtain⟨o,e,r⟩:=st;exact⟨o,k it (by simp) o e,r⟩
 item:=by
  intro X hP hw hK hc i pins s σ H E I hf st hg;subst hP hw hK;have hg':i<x.cps.size:=hg;obtain⟨f0,f1,f2,f3,f4,f5⟩:=hf it (by simp);have key:∀h',h'.IsStrIter it (strIterType x) x t (i+1)->Heap.SameBut it s.heap h'->∃u,some (Value.str ⟨#[x.cps[i]]⟩ s.toks)=some u ∧
   wpAny (model X.prog X.w) X.A (letOwnedTupleGo tg (.ref it) u) (fun _ s2=>∃v H',Inv X pins σ H' s2/\a0S v u/\(Its x).yld i H v H'/\s2.heap.IsStrIter it (strIterType x) x t (i+1)/\∀b∈[it],H' b=none) E { s with heap:=h',toks:=s.toks+1 }:=fun h' st' sb=>by
   have I1:Inv X pins σ H { s with heap:=h',toks:=s.toks+1 }:=I.turned (t':=s.toks+1) (fun b o hb e=>(sb.2 b hb).trans e) f0 f1 f3 f4 f5;obtain⟨o,e,c,d⟩:=id st';refine⟨_,rfl,a8Y (s:={ s with heap:=h',toks:=s.toks+1 }) e c d ?_ ⟨.str ⟨#[x.cps[i]]⟩,H,I1,⟨_,rfl⟩,⟨rfl,_,by simp[hg'],rfl⟩,st',fun b hb=>(hf b hb).1⟩⟩;rcases a2E x with z |z<;>rw[z]<;>decide
  rcases a2E x with z |z
  ·rw[z] at st key
   rw[z];exact wpAny_pyNext_ascii_item st (c:=x.cps[i]) (by simp[hg']) fun h' a b=>key h' a b
  ·rw[z] at st key
   rw[z];exact wpAny_pyNext_wide_item st (c:=x.cps[i]) (by simp[hg']) fun h' a b=>key h' a b
 done:=by
  intro X hP hw hK hc i pins s σ H E I hf st hg;subst hP hw hK;have hg':x.cps.size<=i:=hg;obtain⟨f0,f1,f2,f3,f4,f5⟩:=hf it (by simp);have hx:x.cps[i]? =none:=by simp[hg']
  rcases a2E x with z |z
  ·rw[z] at st
   exact wpAny_pyNext_ascii_end (I.ok.hd hc) st hx fun h' eb=>⟨rfl,I.turned (t':=s.toks) (fun b o hb e=>eb b o hb e) f0 f1 f3 f4 f5⟩
  ·rw[z] at st
   exact wpAny_pyNext_wide_end (I.ok.hd hc) st hx fun h' eb=>⟨rfl,I.turned (t':=s.toks) (fun b o hb e=>eb b o hb e) f0 f1 f3 f4 f5⟩
 self:=fun A i s Q E st h=>by
  rcases a2E x with z |z
  ·rw[z] at st
   exact wpAny_pyIter_striter_ascii st h
  ·rw[z] at st
   exact wpAny_pyIter_striter_wide st h
section
variable {X:Cx}{tg:Expr}
def iStr (tl:TE):TI:=fun σ H R=>tl σ H fun x H1=>∃z,x=.str z/\R (Its z) H1
theorem b4b {l:Expr}{tl:TE}(hl:PE X l tl):PI X tg l (iStr tl):=by
 intro pins s σ H R I h;refine thn (hl pins s σ H _ I h) fun v s1 ⟨x,H1,I1,r1,q1⟩=>?_;obtain⟨z,e,q⟩:=q1;subst e;obtain⟨t,rfl⟩:=r1;refine wpAny_pyIter_strU ?_;refine⟨s1.heap.objs.size,[s1.heap.objs.size],_,_,H1,rfl,I1.kept (t':=s1.toks) fun b o e=>hP0 _ e,b0F z t _,⟨_,hS0 _ rfl,rfl,rfl⟩,fun b hb=>?_,q⟩;have e:b=s1.heap.objs.size:=by simpa using hb
 subst e;exact I1.fpOk (nR0 _) (I1.hok.fresh (nR0 _))
theorem a4U:∀{bs:List Bool} {us:List Value},a0V (bs.map V.bl) us->LSm.BoolsAre us bs
 |[],_,r=>by rw[List.map_nil] at r;cases r;exact .nil
 |b::bs,_,r=>by
  rw[mN0] at r;cases r with
  |cons h t=>
   cases h;exact .cons b (a4U t)
theorem a6V (hc:X.calm=true):a1e X (.builtin "all") (fun xs H Q=>∃(p:Addr) (bs:List Bool),xs=[.ref p]/\SqL X.K H p (bs.map V.bl)/\Q (.bl (bs.all id)) H):=by
 intro pins s σ H xs us Q I r h;obtain⟨l,bs,rfl,hq,q⟩:=h;obtain⟨u,rfl,rx⟩:=a2b r;cases rx;obtain⟨vs,r',pl,hz⟩:=I.list hq;have hb:LSm.BoolsAre vs bs:=a4U r';have hl:=pl.isList;have hlt:l<s.heap.objs.size:=by obtain⟨_,e,_⟩:=hl;exact hL0 e
 refine call_all_walk (wpAny_pyIter_list hl ?_);refine⟨s.heap.objs.size,[s.heap.objs.size,l],[s.heap.objs.size],vs.toArray.size,_,_,fun i=>(bs[i]?).getD true,rfl,Walks.list (A:=X.A.in1) (I.ok.hd hc) _ l (nL0 hlt) vs.toArray,
  ⟨⟨_,hS0 _ rfl,rfl,rfl⟩,hl.push _⟩,fun i v s' Q' E' hP hQ=>?_,fun h' tk hk=>?_⟩
 ·obtain⟨b,e,rfl⟩:=hb.get i v (by simpa using hP)
  simp only[e,Option.getD_some] at hQ;exact wpAny_truthy_bool hQ
 ·have e:((List.range vs.toArray.size).all fun i=>(bs[i]?).getD true)=bs.all id:=by
   rw[List.size_toArray,hb.length];exact LSm.range_all bs
  rw[e];exact⟨.bl (bs.all id),H,I.kept (LSm.kept_iter hk),rfl,q⟩
theorem b0m (hc:X.calm=true):a1e X (.builtin "any") (fun xs H Q=>∃(p:Addr) (bs:List Bool),xs=[.ref p]/\SqL X.K H p (bs.map V.bl)/\Q (.bl (bs.any id)) H):=by
 intro pins s σ H xs us Q I r h;obtain⟨l,bs,rfl,hq,q⟩:=h;obtain⟨u,rfl,rx⟩:=a2b r;cases rx;obtain⟨vs,r',pl,hz⟩:=I.list hq;have hb:LSm.BoolsAre vs bs:=a4U r';have hl:=pl.isList;have hlt:l<s.heap.objs.size:=by obtain⟨_,e,_⟩:=hl;exact hL0 e
 refine call_any_walk (wpAny_pyIter_list hl ?_);refine⟨s.heap.objs.size,[s.heap.objs.size,l],[s.heap.objs.size],vs.toArray.size,_,_,fun i=>(bs[i]?).getD false,rfl,Walks.list (A:=X.A.in1) (I.ok.hd hc) _ l (nL0 hlt) vs.toArray,
  ⟨⟨_,hS0 _ rfl,rfl,rfl⟩,hl.push _⟩,fun i v s' Q' E' hP hQ=>?_,fun h' tk hk=>?_⟩
 ·obtain⟨b,e,rfl⟩:=hb.get i v (by simpa using hP)
  simp only[e,Option.getD_some] at hQ;exact wpAny_truthy_bool hQ
 ·have e:((List.range vs.toArray.size).any fun i=>(bs[i]?).getD false)=bs.any id:=by
   rw[List.size_toArray,hb.length];exact LSm.range_any bs
  rw[e];exact⟨.bl (bs.any id),H,I.kept (LSm.kept_iter hk),rfl,q⟩
theorem a2n:a1e X (.builtin "isinstance") (fun xs H Q=>∃x n t b,xs=[x,.ty n]/\a6w X.K H x t/\PySem.W.kitOne X.K t (.type n)=some b/\Q (.bl b) H):=by
 intro pins s σ H xs us Q I r h;obtain⟨x,n,t,b,rfl,ty,e,q⟩:=h;obtain⟨u,w',rfl,rx,rc⟩:=a9S r
 cases(show w'=Value.type n from rc)
 exact a9t I rx ty e fun tk=>⟨.bl b,H,I.tok tk,rfl,q⟩
end
theorem a1H {J:It}{g:TG}{te:TE}{R:Addr->Hp->Prop}{D:Addr}{σ0:St}{H0:Hp}(n:Nat)(ev:Nat->V)(Pv:Nat->St->Hp->Prop)(hn:n<=sizeLine)(h0:Pv 0 σ0 H0)(hD0:H0 D=some (.lst []))
  (hs:∀i σ H,i<n->Pv i σ H->H D=some (.lst ((List.range i).map ev))->J.go i H/\∀x H',J.yld i H x H'->g x σ H' fun σ2 H2=>te σ2 H2 fun y H4=>y=ev i/\H4 D=some (.lst ((List.range i).map ev))/\Pv (i+1) σ2 (upd H4 D (.lst ((List.range (i+1)).map ev))))
  (hd:∀σ H,Pv n σ H->H D=some (.lst ((List.range n).map ev))->J.stop n H/\R D H):a6A J g b4w te R D σ0 H0:=by
 refine⟨fun i m σ H=>m=n-i/\i<=n/\Pv i σ H/\H D=some (.lst ((List.range i).map ev)),⟨n,by omega,zL0 _,h0,hD0⟩,?_⟩;rintro i m σ H ⟨rfl,hi,p,hD⟩
 by_cases hlt:i<n
 ·obtain⟨go,st⟩:=hs i σ H hlt p hD
  refine .inr ⟨go,fun σ2 y H4=>y=ev i/\H4 D=some (.lst ((List.range i).map ev))/\Pv (i+1) σ2 (upd H4 D (.lst ((List.range (i+1)).map ev))),fun _ _=>False,?_,fun _ _ z=>z.elim,st⟩;rintro σ2 y H4 ⟨rfl,e,p'⟩;refine⟨_,e,by simp;omega,n-(i+1),by omega,rfl,hlt,?_,?_⟩
  ·rw[List.range_succ,mA0] at p'
   exact p'
  ·rw[a0b,List.range_succ,mA0]
   rfl
 ·have e:i=n:=by omega
  subst e;exact .inl (hd σ H p hD)
theorem a1F {α β:Type}(l:List α)(d:α)(f:α->β):((List.range l.length).map fun i=>f (l.getD i d))=l.map f:=by
 apply List.ext_getElem?;intro i;rw[gM0,gM0]
 by_cases h:i<l.length
 ·rw[List.getElem?_range h,gE0 h]
  simp[List.getD_eq_getElem?_getD,gE0 h]
 ·rw[List.getElem?_eq_none (by simpa using h),List.getElem?_eq_none (by simpa using h)]
  rfl
theorem a0k.upd {H:Hp}{D:Addr}{o:HO}(h:H D=none):a0k H (L2.upd H D o):=fun b u e=>by
 rw[a0f (a0C e h)];exact e
def a0R (a b:String):Option Bool:=if (Value.type a==Value.type b)=true then some true else if PySem.W.kitMeta b=true then(fastBuiltinMro a).map (·.contains (.type b)) else none
theorem a2t {K:Fg0}{a b:String}:PySem.W.kitOne K (.type a) (.type b)=a0R a b:=rfl
def a3T:List String:=["NoneType","bool","int","str","list","tuple","dict"]
theorem b2j:∀n∈a3T,a0R n "int"=some (n=="int" || n=="bool"):=by decide +kernel
theorem b0u:∀n∈a3T,a0R n "bool"=some (n=="bool"):=by decide +kernel
theorem a9M:∀n∈a3T,a0R n "str"=some (n=="str"):=by decide +kernel
theorem a5d:∀n∈a3T,a0R n "tuple"=some (n=="tuple"):=by decide +kernel
def Is (K:Fg0)(H:Hp)(v:V)(n:String):Prop:=a6w K H v (.type n)/\n∈a3T
theorem Is.non {K:Fg0}{H:Hp}:Is K H .non "NoneType":=⟨.non,by decide⟩
theorem Is.bl {K:Fg0}{H:Hp}{b:Bool}:Is K H (.bl b) "bool":=⟨.bl b,by decide⟩
theorem Is.int {K:Fg0}{H:Hp}{i:Int}:Is K H (.int i) "int":=⟨.int i,by decide⟩
theorem Is.str {K:Fg0}{H:Hp}{x:Str}:Is K H (.str x) "str":=⟨.str x,by decide⟩
theorem Is.lst {K:Fg0}{H:Hp}{a:Addr}{xs:List V}(h:H a=some (.lst xs)):Is K H (.ref a) "list":=⟨.lst h,by decide⟩
theorem Is.tup {K:Fg0}{H:Hp}{a:Addr}{xs:List V}(h:H a=some (.tup xs)):Is K H (.ref a) "tuple":=⟨.tup h,by decide⟩
theorem Is.dK {K:Fg0}{H:Hp}{a:Addr}{kvs:List (Key×V)}(h:H a=some (.dK kvs)):Is K H (.ref a) "dict":=⟨.dK h,by decide⟩
theorem Is.str_of {K:Fg0}{H:Hp}{v:V}(h:Is K H v "str"):∃x,v=.str x:=by
 obtain⟨t,_⟩:=h;generalize e:Value.type "str"=u at t;cases t<;>first |exact⟨_,rfl⟩ |exact absurd (Value.type.inj e) (by decide) |cases e
def a0X (K:Fg0)(x:Str)(st:Stmt):Prop:=∃(f:Addr) (oc:Value) (od:Option Addr) (kV doc pm:Value) (an:Option Addr) (cdv ct:Value) (osl:Array (Option Value)),
 PySem.W.nsIn K mainGlobals x=some (some (.ref f))/\K.lookup f=some ⟨oc,od,.func (PySem.W.fnOf x x (a0T st) (a0H st) (a0e st) .none kV doc pm an cdv ct),osl⟩/\PySem.W.codeIn K cdv x=true/\PySem.W.keepIn K (.ref f)=true
theorem b0y {K:Fg0}{x:Str}{st:Stmt}{f:Addr}{oc:Value}{od an:Option Addr}{osl:Array (Option Value)}{kV doc pm cdv ct:Value}(a:PySem.W.nsIn K mainGlobals x=some (some (.ref f)))
  (l:K.lookup f=some ⟨oc,od,.func (PySem.W.fnOf x x (a0T st) (a0H st) (a0e st) .none kV doc pm an cdv ct),osl⟩) (c:PySem.W.codeIn K cdv x=true) (k:PySem.W.keepIn K (.ref f)=true):a0X K x st:=
 ⟨f,oc,od,kV,doc,pm,an,cdv,ct,osl,a,l,c,k⟩
structure Df (K:Fg0) (mg:Str->Option Value) (x:Str) (st:Stmt) (f:Addr) (fd:FuncData):Prop where
 fn:Fun K x x st f fd
 mg:mg x=some (.ref f)
theorem a0X.df {K:Fg0}{h:Heap}{mg:Str->Option Value}{x:Str}{st:Stmt}(d:a0X K x st)(X:K.In h)(G:h.Ns mainGlobals mg):∃f fd,Df K mg x st f fd:=by
 obtain⟨f,oc,od,kV,doc,pm,an,cdv,ct,osl,a,l,c,k⟩:=d;exact⟨f,_,a9H l c k,PySem.W.mg_of X G a⟩
end L2
namespace PySem.SeqAt
open MeetsSeq
open AutoSeq1 (wpAny_loadPart')
theorem a1P (l:Addr)(es:Array DictEntry)(ep:Nat)(dd:Option Addr)(sl:Array (Option Value))(b:Str)(u:Tok) :
  Meets (Builtin.«dict.__eq__» ⟨[.ref l,.str b u],[]⟩) (fun _ R s=>s.heap.get? l=some { cls:=.type "dict",dict:=dd,data:=.dict es ep,slots:=sl }/\R (.ok (.ret .notImplemented)) s):=
 .of_wp fun prog w A R s h=>by obtain⟨hp,g,d,tk,os⟩:=s;obtain⟨hl,h⟩:=h;have f1:=F.sub_str_dict;wp_walk using wpAny_loadPart' hl;exact⟨_,rfl,h⟩
theorem a1O (b:Str)(u:Tok)(l:Addr)(c:Value)(es:Array DictEntry)(ep:Nat)(dd:Option Addr)(sl:Array (Option Value)) :
  Meets (Builtin.«str.__eq__» ⟨[.str b u,.ref l],[]⟩) (fun _ R s=>s.heap.get? l=some { cls:=c,dict:=dd,data:=.dict es ep,slots:=sl }/\R (.ok (.ret .notImplemented)) s):=
 .of_wp fun prog w A R s h=>by obtain⟨hp,g,d,tk,os⟩:=s;obtain⟨hl,h⟩:=h;wp_walk using wpAny_loadPart' hl,wpAny_load hl;exact⟨_,rfl,h⟩
section
variable {A:Around}{s:Shared}
theorem RcAt.dict_str {l:Addr}{o:Obj}{es:Array DictEntry}{ep:Nat}(b:Str)(u:Tok)(ho:s.heap.get? l=some o)(hc:o.cls=.type "dict")(hd:o.data=.dict es ep)(hu:A.units<cLine):RcAt A s (.ref l) (.str b u) false:=fun prog w E Q h=>by
 obtain⟨cls,dd,data,sl⟩:=o;simp only at hc hd;subst hc hd;exact rc_eq_decline_or (k:=false) ⟨_,ho,rfl⟩ (typeIs_str s b u) (by decide) F.sub_str_dict F.slot_dict_eq F.slot_str_eq_refl
  (fun _ hq=>call_meets F.slot_dict_eq ⟨_,ho,rfl⟩ F.entry_dict_eq (F.args_dict_eq_2 _ _) (a1P l es ep dd sl b u) ⟨ho,hq⟩)
  (fun _ hq=>call_meets F.slot_str_eq_refl (typeIs_str s b u) F.entry_str_eq (F.args_str_eq_2 _ _) (a1O b u l (.type "dict") es ep dd sl) ⟨ho,hq⟩)
  (fun _ hq=>wpAny_of_eq (rfl:isSame (.ref l) (.str b u)=pure false) hq) (.inr hu) h
theorem EqAt.str_dict {l:Addr}{o:Obj}{es:Array DictEntry}{ep:Nat}(b:Str)(u:Tok)(ho:s.heap.get? l=some o)(hc:o.cls=.type "dict")(hd:o.data=.dict es ep)(hu:A.units<cLine):EqAt A s (.str b u) (.ref l) false:=fun prog w E Q h=>by
 obtain⟨cls,dd,data,sl⟩:=o;simp only at hc hd;subst hc hd;unfold eqBool;refine wpAny_holding ?_;refine wpAny_ite_split (fun hab=>absurd (eq_of_beq hab) nofun) (fun _=>?_);refine wB0 (rc_eq_decline_or (k:=false) (typeIs_str s b u) ⟨_,ho,rfl⟩ (by decide) F.sub_dict_str F.slot_str_eq F.slot_dict_eq_refl
  (fun _ hq=>call_meets F.slot_str_eq (typeIs_str s b u) F.entry_str_eq (F.args_str_eq_2 _ _) (a1O b u l (.type "dict") es ep dd sl) ⟨ho,hq⟩)
  (fun _ hq=>call_meets F.slot_dict_eq_refl ⟨_,ho,rfl⟩ F.entry_dict_eq (F.args_dict_eq_2 _ _) (a1P l es ep dd sl b u) ⟨ho,hq⟩)
  (fun _ hq=>wpAny_of_eq (rfl:isSame (.str b u) (.ref l)=pure false) hq) (.inr hu) (wpAny_truthy_bool h))
end
end PySem.SeqAt
namespace L2
open PySem PySem.Spec PyProof.Rows
inductive Dt where
 |non |bl (b:Bool) |int (i:Int) |str (z:Str) |tup (ds:List Dt) |lst (ds:List Dt) |dct
mutual
def Rep (H:Hp):Dt->V->Prop
 | .non,v=>v=.non
 | .bl b,v=>v=.bl b
 | .int i,v=>v=.int i
 | .str z,v=>v=.str z/\z.length<=1000
 | .tup ds,v=>∃a xs,v=.ref a/\H a=some (.tup xs)/\a1N H ds xs
 | .lst ds,v=>∃a xs,v=.ref a/\H a=some (.lst xs)/\a1N H ds xs
 | .dct,v=>∃a kvs,v=.ref a/\H a=some (.dK kvs)
def a1N (H:Hp):List Dt->List V->Prop
 |[],xs=>xs=[]
 |d::ds,xs=>∃v vs,xs=v::vs/\Rep H d v/\a1N H ds vs
end
mutual
theorem Rep.same {H H':Hp}(e:a0k H H'):∀{d:Dt} {v:V},Rep H d v->Rep H' d v
 | .non,v,h=>by unfold Rep at h ⊢;exact h
 | .bl b,v,h=>by unfold Rep at h ⊢;exact h
 | .int i,v,h=>by unfold Rep at h ⊢;exact h
 | .str z,v,h=>by unfold Rep at h ⊢;exact h
 | .tup ds,v,h=>by
  unfold Rep at h ⊢;obtain⟨a,xs,h1,h2,h3⟩:=h;exact⟨a,xs,h1,e _ _ h2,a1N.same e h3⟩
 | .lst ds,v,h=>by
  unfold Rep at h ⊢;obtain⟨a,xs,h1,h2,h3⟩:=h;exact⟨a,xs,h1,e _ _ h2,a1N.same e h3⟩
 | .dct,v,h=>by
  unfold Rep at h ⊢;obtain⟨a,xs,h1,h2⟩:=h;exact⟨a,xs,h1,e _ _ h2⟩
theorem a1N.same {H H':Hp}(e:a0k H H'):∀{ds:List Dt} {vs:List V},a1N H ds vs->a1N H' ds vs
 |[],vs,h=>by unfold a1N at h ⊢;exact h
 |d::ds,vs,h=>by
  unfold a1N at h ⊢;obtain⟨v,ws,h1,h2,h3⟩:=h;exact⟨v,ws,h1,Rep.same e h2,a1N.same e h3⟩
end
def tyD:Dt->String
 | .non=>"NoneType" | .bl _=>"bool" | .int _=>"int" | .str _=>"str" | .tup _=>"tuple" | .lst _=>"list" | .dct=>"dict"
theorem Rep.is {K:Fg0}{H:Hp}:∀{d:Dt} {v:V},Rep H d v->Is K H v (tyD d)
 | .non,v,h=>by unfold Rep at h;subst h;exact .non
 | .bl b,v,h=>by unfold Rep at h;subst h;exact .bl
 | .int i,v,h=>by unfold Rep at h;subst h;exact .int
 | .str z,v,h=>by unfold Rep at h;obtain⟨rfl,_⟩:=h;exact .str
 | .tup ds,v,h=>by unfold Rep at h;obtain⟨a,xs,rfl,h2,_⟩:=h;exact .tup h2
 | .lst ds,v,h=>by unfold Rep at h;obtain⟨a,xs,rfl,h2,_⟩:=h;exact .lst h2
 | .dct,v,h=>by unfold Rep at h;obtain⟨a,xs,rfl,h2⟩:=h;exact .dK h2
theorem a1N.length {H:Hp}:∀{ds:List Dt} {vs:List V},a1N H ds vs->vs.length=ds.length
 |[],vs,h=>by unfold a1N at h;subst h;rfl
 |d::ds,vs,h=>by
  unfold a1N at h;obtain⟨v,ws,rfl,_,h3⟩:=h;rw[List.length_cons,List.length_cons,a1N.length h3]
def a1u:Dt->Str->Bool
 | .str y,z=>y==z
 |_,_=>false
section
variable {X:Cx}{pins:List (Addr×Obj)}{σ:St}{H:Hp}{s:Shared}
theorem a7r (hu:X.A.units<cLine):OpR X (compareOp .Eq) (fun x y H Q=>∃d z,Rep H d x/\y=.str z/\Q (.bl (a1u d z)) H):=by
 intro pins s σ H x y v u Q I rx ry h;obtain⟨d,z,hd,rfl,q⟩:=h;obtain⟨t,rfl⟩:=ry;cases d with
 |non=>
  unfold Rep at hd;subst hd;exact a2l pins s σ H .non (.str z) v _ Q I rx ⟨t,rfl⟩ ⟨rfl,by simpa[a1u] using q⟩
 |bl b=>
  unfold Rep at hd;subst hd;exact a2l pins s σ H (.bl b) (.str z) v _ Q I rx ⟨t,rfl⟩ ⟨rfl,by simpa[a1u] using q⟩
 |int i=>
  unfold Rep at hd;subst hd;exact a2l pins s σ H (.int i) (.str z) v _ Q I rx ⟨t,rfl⟩ ⟨rfl,by simpa[a1u] using q⟩
 |str y=>
  unfold Rep at hd;obtain⟨rfl,_⟩:=hd;exact a2l pins s σ H (.str y) (.str z) v _ Q I rx ⟨t,rfl⟩ ⟨rfl,by rw[a6m];exact q⟩
 |tup ds=>
  unfold Rep at hd;obtain⟨a,xs,rfl,ha,_⟩:=hd;cases rx;obtain⟨its,_,p,_⟩:=I.tuple (SqT.of ha);exact SeqAt.RcAt.tuple_str z t p hu X.prog X.w X.xe _ ⟨.bl false,H,I,rfl,q⟩
 |lst ds=>
  unfold Rep at hd;obtain⟨a,xs,rfl,ha,_⟩:=hd;cases rx;obtain⟨its,_,p,_⟩:=I.list (SqL.of ha);exact SeqAt.RcAt.list_str z t p.isList hu X.prog X.w X.xe _ ⟨.bl false,H,I,rfl,q⟩
 |dct=>
  unfold Rep at hd;obtain⟨a,kvs,rfl,ha⟩:=hd;cases rx;obtain⟨_,_,vs,_,o,es,ep,h1,h2,h3,_⟩:=a4V I.hok ha;exact SeqAt.RcAt.dict_str z t h1 h2.1 h3 hu X.prog X.w X.xe _ ⟨.bl false,H,I,rfl,q⟩
theorem b3H {A:Around}{d:Dt}{x:V}{v:Value}(hu:A.units<cLine)(I:Inv X pins σ H s)(hd:Rep H d x)(rx:a0S x v)(z:Str)(t:Tok):SeqAt.EqAt A s (.str z t) v (a1u d z):=by
 cases d with
 |non=>
  unfold Rep at hd;subst hd;cases rx;exact SeqAt.EqAt.str_none z t
 |bl b=>
  unfold Rep at hd;subst hd;cases rx;exact SeqAt.EqAt.str_bool z t b
 |int i=>
  unfold Rep at hd;subst hd;obtain⟨t',rfl⟩:=rx;exact SeqAt.EqAt.str_int z t i t'
 |str y=>
  unfold Rep at hd;obtain⟨rfl,_⟩:=hd;obtain⟨t',rfl⟩:=rx;have e:a1u (.str y) z=(z==y):=by
   show(y==z)=(z==y)
   rw[Bool.eq_iff_iff,beq_iff_eq,beq_iff_eq];exact⟨Eq.symm,Eq.symm⟩
  rw[e];exact SeqAt.EqAt.str_str z t y t'
 |tup ds=>
  unfold Rep at hd;obtain⟨a,xs,rfl,ha,_⟩:=hd;cases rx;obtain⟨its,_,p,_⟩:=I.tuple (SqT.of ha);exact SeqAt.EqAt.str_tuple z t p hu
 |lst ds=>
  unfold Rep at hd;obtain⟨a,xs,rfl,ha,_⟩:=hd;cases rx;obtain⟨its,_,p,_⟩:=I.list (SqL.of ha);exact SeqAt.EqAt.str_list z t p.isList hu
 |dct=>
  unfold Rep at hd;obtain⟨a,kvs,rfl,ha⟩:=hd;cases rx;obtain⟨_,_,vs,_,o,es,ep,h1,h2,h3,_⟩:=a4V I.hok ha;exact SeqAt.EqAt.str_dict z t h1 h2.1 h3 hu
def b4t (d:Dt):Value->Bool
 | .str z _=>a1u d z
 |_=>false
theorem a6N {d:Dt}:∀{zs:List Str} {us:List Value},a0V (zs.map V.str) us->us.any (b4t d)=zs.any (a1u d)
 |[],_,r=>by rw[List.map_nil] at r;cases r;rfl
 |z::zs,_,r=>by
  rw[mN0] at r;cases r with
  |cons h t=>
   obtain⟨t',rfl⟩:=h;rw[List.any_cons,List.any_cons,a6N t]
   rfl
theorem b0d {zs:List Str}{us:List Value}(r:a0V (zs.map V.str) us):∀u∈us,∃z t,u=.str z t:=by
 intro u hu;obtain⟨i,hi,e⟩:=List.getElem_of_mem hu;have hl:=r.length
 have:(zs.map V.str)[i]? =some (.str (zs[i]'(by rw[lM0] at hl;omega))):=by
  rw[gM0,gE0 (by rw[lM0] at hl;omega)]
  rfl
 obtain⟨w,hw,rw'⟩:=r.get this;rw[gE0 hi,e] at hw;cases hw;obtain⟨t,rfl⟩:=rw';exact⟨_,t,rfl⟩
theorem b1s (hu:X.A.units+1<cLine):OpR X (compareOp .In) (fun x y H Q=>∃(d:Dt) (p:Addr) (zs:List Str),Rep H d x/\y=.ref p/\H p=some (.tup (zs.map V.str))/\Q (.bl (zs.any (a1u d))) H):=by
 intro pins s σ H x y v u Q I rx ry h;obtain⟨d,p,zs,hd,rfl,hp,q⟩:=h;cases ry;obtain⟨its,r,pl,_⟩:=I.tuple (SqT.of hp);refine SeqAt.in_tupleAt (b4t d) pl (fun w' hw=>?_) ⟨.bl _,H,I,rfl,?_⟩
 ·obtain⟨z,t,rfl⟩:=b0d r w' (by simpa using hw)
  exact b3H (A:=X.A.in1) hu I hd rx z t
 ·rw[show its.toArray.any (b4t d)=its.any (b4t d) by simp,a6N r]
  exact q
theorem a5W:OpR X (compareOp .LtE) (fun x y H Q=>∃i j,x=.str i/\y=.str j/\Q (.bl (!decide (j.cps.toList<i.cps.toList))) H):=by
 intro pins s σ H x y v u Q I rx ry h;obtain⟨i,j,rfl,rfl,q⟩:=h;obtain⟨t,rfl⟩:=rx;obtain⟨t',rfl⟩:=ry;exact PySem.P.le_str ⟨.bl _,H,I,rfl,q⟩
end
end L2
namespace My
open PySem L2 PyProof.Rows
theorem pos {j:Int}(h:decide ((0:Int)<j)=true):0<j:=of_decide_eq_true h
def a6I (K:Fg0):Sp:=fun vs H Q _=>∃(v:V) (n:String),vs=[v]/\Is K H v n/\Q (.bl (n=="int")) H
theorem a5s {ns:List Int}{k:Int}(h0:0<=k)(h1:k<ns.length):atI (ns.map V.int) k=some (.int (ns.getD k.toNat 0)):=by
 obtain⟨j,rfl⟩:=Int.eq_ofNat_of_zero_le h0;refine a1b ?_;have hj:j<ns.length:=by omega
 rw[gM0,gE0 hj];simp[List.getD_eq_getElem?_getD,gE0 hj]
theorem boot_isi:bootBuiltins "isinstance"=some (.builtin "isinstance"):=by decide +kernel
theorem boot_int:bootBuiltins "int"=some (.type "int"):=by decide +kernel
theorem boot_bool:bootBuiltins "bool"=some (.type "bool"):=by decide +kernel
theorem boot_str:bootBuiltins "str"=some (.type "str"):=by decide +kernel
theorem boot_list:bootBuiltins "list"=some (.type "list"):=by decide +kernel
theorem boot_tuple:bootBuiltins "tuple"=some (.type "tuple"):=by decide +kernel
theorem boot_dict:bootBuiltins "dict"=some (.type "dict"):=by decide +kernel
theorem boot_ord:bootBuiltins "ord"=some (.builtin "ord"):=by decide +kernel
structure Bl (mg:Str->Option Value):Prop where
 len:mg "len"=none
 isi:mg "isinstance"=none
 int:mg "int"=none
 bool:mg "bool"=none
 str:mg "str"=none
 all:mg "all"=none
 range:mg "range"=none
 abs:mg "abs"=none
 ord:mg "ord"=none
 list:mg "list"=none
 tuple:mg "tuple"=none
 dict:mg "dict"=none
 any:mg "any"=none
 sorted:mg "sorted"=none
 set:mg "set"=none
 enum:mg "enumerate"=none
structure BlK (K:Fg0):Prop where
 len:PySem.W.nsIn K mainGlobals "len"=some none
 isi:PySem.W.nsIn K mainGlobals "isinstance"=some none
 int:PySem.W.nsIn K mainGlobals "int"=some none
 bool:PySem.W.nsIn K mainGlobals "bool"=some none
 str:PySem.W.nsIn K mainGlobals "str"=some none
 all:PySem.W.nsIn K mainGlobals "all"=some none
 range:PySem.W.nsIn K mainGlobals "range"=some none
 abs:PySem.W.nsIn K mainGlobals "abs"=some none
 ord:PySem.W.nsIn K mainGlobals "ord"=some none
 list:PySem.W.nsIn K mainGlobals "list"=some none
 tuple:PySem.W.nsIn K mainGlobals "tuple"=some none
 dict:PySem.W.nsIn K mainGlobals "dict"=some none
 any:PySem.W.nsIn K mainGlobals "any"=some none
 sorted:PySem.W.nsIn K mainGlobals "sorted"=some none
 set:PySem.W.nsIn K mainGlobals "set"=some none
 enum:PySem.W.nsIn K mainGlobals "enumerate"=some none
theorem BlK.bl {K:Fg0}{h:Heap}{mg:Str->Option Value}(b:BlK K)(X:K.In h)(G:h.Ns mainGlobals mg):Bl mg:=
 ⟨PySem.W.mg_none_of X G b.len,PySem.W.mg_none_of X G b.isi,PySem.W.mg_none_of X G b.int,PySem.W.mg_none_of X G b.bool,PySem.W.mg_none_of X G b.str,PySem.W.mg_none_of X G b.all,PySem.W.mg_none_of X G b.range,PySem.W.mg_none_of X G b.abs,PySem.W.mg_none_of X G b.ord,PySem.W.mg_none_of X G b.list,PySem.W.mg_none_of X G b.tuple,PySem.W.mg_none_of X G b.dict,PySem.W.mg_none_of X G b.any,PySem.W.mg_none_of X G b.sorted,PySem.W.mg_none_of X G b.set,PySem.W.mg_none_of X G b.enum⟩
theorem a5b {b:Bool}{A B:Prop}(h:b=true)(a:A):if b=true then A else B:=by rw[if_pos h];exact a
theorem a2q {b:Bool}{A B:Prop}(h:b=false)(a:B):if b=true then A else B:=by rw[h,if_neg bF0];exact a
theorem a8g {n k:Nat}:decide (V.int (n:Int)=V.int (k:Int))=decide (n=k):=by
 rw[Bool.eq_iff_iff,decide_eq_true_iff,decide_eq_true_iff]
 constructor
 ·intro e;injection e with e;omega
 ·intro e;rw[e]
def b4a (K:Fg0):Sp:=fun vs H Q _=>∃(a:Addr) (ns:List Int),vs=[.ref a]/\SqL K H a (ns.map V.int)/\ns.length<=63/\∀H',Q (.bl true) H'
theorem walk (k:Nat){l:PySem.W.OpenLaw}{q:Program}{loose:List Str}{XP:(Str->Option Value)->Heap->Prop}{YP:World->Heap->Prop}{d:DefRec}{K:Params->Fg0}(hk:a1q k callerA)(hn:l.most=some 63)(hdf:d.params.defaults=[])
  (hY:∀(w:World) (h:Heap),YP w h->(K w.params).In h)
  (F:∀(w:World) (mg:Str->Option Value) (fa:Addr) (h:Heap),(K w.params).In h->h.Ns mainGlobals mg->mg d.name=some (.ref fa) →
   ∃fd:FuncData,(∀(s:Shared) (u:Value),BindsTo s fd ⟨[u],[]⟩ [("_law_script",u)])/\∀base:Heap,(K w.params).In base->base.Ns mainGlobals mg->a0y l.prog w (K w.params) mg base CX0 k fa fd ["_law_script"] (b4a (K w.params))) :
  PySem.W.WalkO q loose XP YP l.row.toRowW d [] (fun f vs=>PySem.call f vs):=
 L2.b2N (n:=63) (k:=k) (x:="_law_script") (CX:=fun _=>CX0) (sp:=fun w=>b4a (K w.params)) hn (by decide) hdf hk hY F (fun _ _ a ns hl _ hS=>⟨a,ns,rfl,hS,hl,fun _=>rfl⟩) fun _ _ _ _ _ z=>z
end My
namespace L2
open PySem PySem.Spec PyProof.Rows
theorem b1N:∀{zs:List Str} {us:List Value},a0V (zs.map V.str) us->StrsAre us zs
 |[],_,.nil=>.nil
 |z::_,_,.cons r1 r2=>by
  obtain⟨t,rfl⟩:=r1;exact .cons z t (b1N r2)
section
variable {X:Cx}
theorem a7x:MtR X "str.join" (fun x xs H Q=>∃(z:Str) (p:Addr) (ys:List Str),x=.str z/\xs=[.ref p]/\SqL X.K H p (ys.map V.str)/\(ys.map (·.length)).sum+ys.length * z.length<=16777216/\Q (.str (Txt.join z ys)) H):=by
 intro pins s σ H x xs v us Q I rx r h;obtain⟨z,p,ys,rfl,rfl,hp,hz,q⟩:=h;obtain⟨t,rfl⟩:=rx;obtain⟨u,rfl,r1⟩:=a2b r;cases r1;obtain⟨its,r',pl,_⟩:=I.list hp;exact join_list pl.isList (by simpa using b1N r') hz fun t' k=>⟨.str (Txt.join z ys),H,I.tok _,⟨_,rfl⟩,q⟩
end
end L2
namespace Nm
open PySem PySem.NumText PySem.W PyProof.Rows
end Nm
namespace L2
open PySem PySem.Spec PyProof.Rows
theorem b4V {α:Type}{t:Sem α}{Q Q':α->Shared->Prop}{M:Model}{A:Around}{E:Vs0}{s:Shared}{n:Nat}(hn:n<=s.toks)(h:wpAny M A t Q E s)(hQ:∀a s',n<=s'.toks->Q a s'->Q' a s'):wpAny M A t Q' E s:=
 wpAny_mono (wpAny_toks_of hn h) (fun a s' x=>hQ a s' x.1 x.2) fun _ _ x=>x.2
abbrev WK:=Value->Nat->V->Hp->Prop
abbrev SpW:=List V->Hp->WK->Prop
def CRW (outer:List Env)(P:Program)(w:World)(H:Hp)(s:Shared)(Q:WK)(r:Result)(s':Shared):Prop:=
 match r with
 | .ok (.ret u)=>∃v H',s'.os=s.os/\AllBare s'.gens/\Un (frs outer) [] H H' s.heap s'.heap/\HOk P w H' s'.heap/\a0S v u/\Q u s'.toks v H'
 |_=>False
structure a7H (n:Nat) (P:Program) (w:World) (K:Fg0) (mg:Str->Option Value) (base:Heap) (k:Nat) (f:Addr) (fd:FuncData) (ps:List Str) (sp:SpW):Prop where
 len:∀vs H Q,sp vs H Q->vs.length=ps.length
 run:∀(A:Around) (outer:List Env) (s:Shared) (H:Hp) (args:Args) (us:List Value) (vs:List V) (Q:WK),n<=s.toks->a1q k A->a7s P w K mg base A outer s H->BindsTo s fd args (ps.zip us)->a0V vs us->sp vs H Q →
  codeAny (model P w) A (.call (.ref f) args) (CRW outer P w H s Q) s
def SPW (X:Cx)(pins:List (Addr×Obj))(Q:WK)(f:Flow)(s':Shared):Prop:=
 match f with
 | .ret u=>∃v σ' H',Inv X pins σ' H' s'/\a0S v u/\Q u s'.toks v H'
 |_=>False
section
variable {P:Program}{w:World}{K:Fg0}{mg:Str->Option Value}{base:Heap}
theorem Fun.okW {x qual:Str}{st:Stmt}{f:Addr}{fd:FuncData}{N ps:List Str}{n k:Nat}{sp:SpW}(F:Fun K x qual st f fd)(S:a0o N ps (a0e st))(len:∀vs H Q,sp vs H Q->vs.length=ps.length)
  (hbody:∀(cdv:Value) (A:Around) (outer:List Env) (s:Shared) (H:Hp) (vs:List V) (Q:WK) (s1:Shared),a1q k (A.deeper (envOfC qual (a0e st) s.heap.objs.size f cdv))->sp vs H Q->n<=s1.toks →
   Inv (a6b CX0 P w K mg base N qual (a0e st) f cdv A outer s H (fun _ _ _=>False)).nox [] (a2W N vs) H s1 →
   wpAny (model P w) (A.deeper (envOfC qual (a0e st) s.heap.objs.size f cdv)) (execs (a0H st) (envOfC qual (a0e st) s.heap.objs.size f cdv)) (SPW (a6b CX0 P w K mg base N qual (a0e st) f cdv A outer s H (fun _ _ _=>False)).nox [] Q) (fun _ _=>False) s1) :
  a7H n P w K mg base (k+1) f fd ps sp:=by
 obtain⟨oc,od,kV,doc,pm,an,cdv,ct,osl,rfl,lk,hcd⟩:=F.ex;refine⟨len,fun A outer s H args us vs Q hn hr e0 hb r hsp=>?_⟩;have hl:=len _ _ _ hsp;have KX:K.In s.heap:=e0.mod.kin.keeps fun b o e=>(e0.bs b o e).1;have lim:s.heap.NoLimit:=e0.mod.nolimit.keeps fun b o e=>(e0.bs b o e).1;have hkind:∀y∈ps.zip us,(a0e st).names.lookup y.1=some .local\/((a0e st).names.lookup y.1=some .cell/\((cellsFrom (s.heap.objs.size+1) (a0e st).names []).lookup y.1).isSome=true):=fun⟨n,v⟩ hy=>by
  rcases S.par n (List.of_mem_zip hy).1 with q |q
  ·exact .inl q
  ·exact .inr ⟨q,PySem.W.cellsFrom_some _ _ _ (.inl q)⟩
 refine codeAny_call_function hr.depth (KX _ _ lk) rfl S.co S.gen rfl (PySem.W.codeRec_of KX hcd) (hb _ _ _ _ ?_);refine wpAny_with_toks hn ?_;refine wpAny_newFunctionEnv_cells S.kind hkind fun env he s1 x hn1=>?_;subst he;refine⟨lim.keeps x.toInCall.keep,codeAny_func ?_⟩;have I:Inv (a6b CX0 P w K mg base N qual (a0e st) f cdv A outer s H (fun _ _ _=>False)) [] (a2W N vs) H s1:=a3E S hr.hd e0 hl r x;refine wpAny_mono (hbody cdv A outer s H vs Q s1 (hr.deeper _) hsp hn1 (I.wish _)) (fun fl s' hs=>?_) fun e s' hs=>False.elim hs;cases fl with
 |ret u=>
  obtain⟨v,σ',H',J,rv,q⟩:=hs;exact⟨v,H',J.os,J.bare,J.base,J.hok,rv,q⟩
 |next=>exact False.elim hs
 |brk=>exact False.elim hs
 |cont=>exact False.elim hs
end
def EW (X:Cx)(pins:List (Addr×Obj))(σ:St)(Q:WK)(u:Value)(s':Shared):Prop:=∃v H',Inv X pins σ H' s'/\a0S v u/\Q u s'.toks v H'
section
variable {n:Nat}{X:Cx}{k:Nat}{f:Addr}{fd:FuncData}{ps:List Str}{sp:SpW}{x:Str}{p pos:Pos}{e:Expr}{es:List Expr}{t:TA}
theorem b2B {pins:List (Addr×Obj)}{σ:St}{H:Hp}{s:Shared}{Q:WK}{us:List Value}{vs:List V}(F:a7H n X.prog X.w X.K X.mg X.base k f fd ps sp)(hr:a1q k X.A)(hb:a1Z X.K fd ps [])(hn:n<=s.toks)
  (I:Inv X pins σ H s) (r:a0V vs us) (h:sp vs H Q):wpAny (model X.prog X.w) X.A (call (.ref f) us) (EW X pins σ Q) X.xe s:=by
 have hl:us.length=ps.length:=by rw[<-r.length];exact F.len _ _ _ h
 have hb':=hb s us I.kIn (by rw[List.append_nil];exact hl);rw[List.append_nil] at hb';refine wpAny_call (codeAny_mono (F.run X.A X.stack s H ⟨us,[]⟩ us vs Q hn hr I.env0 hb' r h) fun r s' hq=>?_);cases r with
 |error e=>exact False.elim hq
 |ok fl=>
  cases fl with
  |ret u=>
   obtain⟨v,H',os,bare,un,hok,rv,q⟩:=hq;exact⟨v,H',I.call' (ch:=[]) os un hok bare (fun b z=>absurd z (by simp)),rv,q⟩
  |next=>exact False.elim hq
  |brk=>exact False.elim hq
  |cont=>exact False.elim hq
theorem b0O (F:a7H n X.prog X.w X.K X.mg X.base k f fd ps sp)(hr:a1q k X.A)(hg:Gl X x)(hm:X.mg x=some (.ref f))(hk:PySem.W.keepIn X.K (.ref f)=true)(hb:a1Z X.K fd ps [])
  (ha:PA X (e::es) t) {pins:List (Addr×Obj)} {s:Shared} {σ:St} {H:Hp} {Q:WK} (hn:n<=s.toks) (I:Inv X pins σ H s) (h:t σ H fun vs H1=>sp vs H1 Q)
  (hdb:(x==("__debug__":Str))=false:=by decide) (he:starEach (e::es) X.env=(false,eval e X.env)::starEach es X.env:=by rfl) (hpl:(backTo pos (starEach es X.env)).any (·.1)=false:=by rfl) :
  wpAny (model X.prog X.w) X.A (eval (.Call (.Name x p) (e::es) [] pos) X.env) (EW X pins σ Q) X.xe s:=by
 refine wpAny_Call_Name_kw (a4W I hg hm ?_ hdb);refine PySem.W.callWith_K (h₀:=X.base) I.ok.mod.kin hk (b4V hn (ha pos pins s σ H _ I h) fun us s1 hn1 ⟨vs,H1,I1,r,q⟩=>⟨I1.kIn,?_⟩) he hpl;exact b2B F hr hb hn1 I1 r q
end
section
variable {n:Nat}{X:Cx}{pins:List (Addr×Obj)}{s:Shared}{σ:St}{H:Hp}
theorem a8G {i:Nat}{x:Str}{z:Str}{j:Nat}{pos pos' cp:Pos}{D:a5Y}(I:Inv X pins σ H s)(hN:X.N.Nodup)(hi:X.N[i]? =some x)(hx:Loc X.env.scope x)(h:D.nx (σ.set i (some (.str z))) H)
  (hs:swapsWith (.Constant (.str z) j cp) (some (.Name x pos')) pos.line X.env=pure false:=by rfl) (hf:X.fn x=true\/X.env.scope.names.lookup x=some .local:=by first |exact .inl rfl |exact .inr rfl |assumption) :
  wpAny (model X.prog X.w) X.A (exec (.Assign [.Name x pos'] (.Constant (.str z) j cp) pos) X.env) (fun f s'=>1<=s'.toks/\SP X pins D f s') X.xe s:=by
 refine wpAny_Assign_Name (wpAny_Constant_str ?_) hs;refine b4V (n:=1) (show 1<=s.toks+1 by omega) (a4z (I.tok (s.toks+1)) hN hi hx (show a0S (.str z) (.str z s.toks) from⟨_,rfl⟩) (Q:=fun _ s'=>SP X pins D .next s') (fun s2 I2=>⟨_,H,I2,h⟩) hf) fun _ s' hn q=>⟨hn,q⟩
end
theorem b2a {X:Cx}{st:List Stmt}{t:TS}(h:PSs X st t){pins:List (Addr×Obj)}{s:Shared}{σ:St}{H:Hp}{D:a5Y}(I:Inv X pins σ H s)(q:t D σ H):wpAny (model X.prog X.w) X.A (execs st X.env) (SP X pins D) X.xe s:=h pins s σ H D I q
end L2
namespace L2
open PySem
end L2
namespace L2
open PySem PySem.Spec PyProof.Rows
structure Our (X:Cx) (pins:List (Addr×Obj)) (H:Hp) (b:Addr):Prop where
 new:X.s₀.heap.objs.size<=b
 loc:b≠X.env.locals
 cel:∀y c,X.env.cells.lookup y=some c->c≠b
 pin:∀p∈X.pn++pins,p.1≠b
 unt:H b=none
section
variable {X:Cx}{pins:List (Addr×Obj)}{σ:St}{H H':Hp}{s s':Shared}{x b:Addr}{C:Value}{od:Option Addr}
theorem Inv.our' (I:Inv X pins σ H s)(h:s.heap.objs.size<=b)(hn:H' b=none):Our X pins H' b:=by
 have lt:∀c o,s.heap.get? c=some o->c≠b:=fun c o e z=>by
  subst z;exact absurd (Nat.lt_of_lt_of_le (hL0 e) h) (Nat.lt_irrefl _)
 refine⟨Nat.le_trans I.sz h,fun z=>?_,fun y c e=>?_,fun p hp=>?_,hn⟩
 ·obtain⟨m,⟨o,_,_,ho,_⟩,_⟩:=I.loc
  exact lt _ o ho z.symm
 ·obtain⟨v,o,ho,_⟩:=I.cell y c e
  exact lt c o ho
 ·exact lt p.1 _ (I.pin p hp).1
theorem Inv.our (I:Inv X pins σ H s)(h:s.heap.objs.size<=b):Our X pins H b:=I.our' h (I.hok.fresh h)
end
end L2
namespace L2
open PySem PySem.Spec PyProof.Rows Builtin Builtin.ObjectAttr
abbrev bmV:List Value:=[.type "ValueError",.type "Exception",.type "BaseException",.type "object"]
def b1Z:List Value->Bool
 |[]=>false
 |v::r=>(v::r)==bmV || match v with | .ref _=>b1Z r |_=>false
structure XCl (K:Fg0) (C:Addr):Prop where
 at_:∃(nm q:Str) (N:Addr) (bs bm:List Value) (sn:List Str) (sub:List Value) (ab:Bool) (col:Option Bool) (dd:Option Addr) (k0 k1 k2 k3 k5:Option Value),K.lookup C=some (excClassObj nm q C N bs bm true sn sub ab col dd k0 k1 k2 k3 k5 "ValueError.__new__")/\b1Z bm=true
 ga:PySem.W.findIn K (.ref C) "__getattribute__"=some (some (.builtin "BaseException.__getattribute__"))
 gx:PySem.W.findIn K (.ref C) "__getattr__"=some none
 sa:PySem.W.findIn K (.ref C) "__setattr__"=some (some (.builtin "object.__setattr__"))
 kp:PySem.W.keepIn K (.ref C)=true
theorem b5Q {K:Fg0}{C N:Addr}{nm q:Str}{bs bm:List Value}{sn:List Str}{sub:List Value}{ab:Bool}{col:Option Bool}{dd:Option Addr}{k0 k1 k2 k3 k5:Option Value}
  (l:K.lookup C=some (excClassObj nm q C N bs bm true sn sub ab col dd k0 k1 k2 k3 k5 "ValueError.__new__")) (t:b1Z bm=true) (ga:PySem.W.findIn K (.ref C) "__getattribute__"=some (some (.builtin "BaseException.__getattribute__")))
  (gx:PySem.W.findIn K (.ref C) "__getattr__"=some none) (sa:PySem.W.findIn K (.ref C) "__setattr__"=some (some (.builtin "object.__setattr__"))) (kp:PySem.W.keepIn K (.ref C)=true):XCl K C:=
 ⟨⟨nm,q,N,bs,bm,sn,sub,ab,col,dd,k0,k1,k2,k3,k5,l,t⟩,ga,gx,sa,kp⟩
section
variable {X:Cx}{pins:List (Addr×Obj)}{σ:St}{H:Hp}{s:Shared}{x dx C:Addr}{φ:Heap->Prop}{od:Option Addr}
theorem Inv.track {o:HO}(I:Inv X pins σ H s)(hx:Our X pins H x)(new:a1f X.prog X.w (upd H x o) s.heap x o):Inv X pins σ (upd H x o) s:=by
 have ne:∀b u,H b=some u->b≠x:=fun b u q z=>by rw[z,hx.unt] at q;cases q
 refine I.step (h':=s.heap) (g':=s.gens) (d':=s.drawn) (t':=s.toks) (ch:=[x]) (fun b hb=>?_) (fun b o _ _ _ e _=>e) (fun b o _ _ _ e _=>⟨o.slots,e⟩) (fun b o hc e n=>?_) (fun b o _ e=>⟨o,e⟩) (fun b xs e=>?_) (fun b u xs e=>?_) (fun b ps e=>⟨#[],?_⟩) (fun m hm=>hm) (fun b u q=>?_) I.bare
 ·rw[mS0.mp hb]
  exact⟨.inr hx.new,hx.loc,hx.cel,hx.pin⟩
 ·rw[a0f fun z=>hc (by rw[z];exact mS0.mpr rfl)]
  exact n
 ·rw[a0f (ne b _ e)];exact e
 ·rw[a0f (ne b _ e)];exact e
 ·rw[a0f (ne b _ e),e];simp
 ·by_cases hb:b=x
  ·subst hb
   rw[a0b] at q;cases q;exact new
  ·rw[a0f hb] at q
   exact(I.hok b u q).stay (fun _ _ _ r=>r) (fun c r=>by rw[a0f (ne c _ r)];exact r) fun c xs r=>by rw[a0f (ne c _ r)];exact r
end
end L2
namespace L2
open PySem PySem.Spec PyProof.Rows
end L2
namespace L2
open PySem
section
variable {prog:Program}{w:World}{A:Around}{E:Vs0}{s:Shared}
theorem a4q {it t:Addr}{i:Nat}{xs:Array Value}{x:Value}{Q:Vs0}(hi:s.heap.IsTupleIter it t i)(ht:s.heap.IsTuple t xs)(hx:xs[i]? =some x)
  (hQ:∀h',h'.IsTupleIter it t (i+1)->Heap.SameBut it s.heap h'->Q x { s with heap:=h' }):wpAny (model prog w) A (Builtin.SmallTypes.nextOf (.ref it)) Q E s:=by
 obtain⟨o,ho,hc,hd⟩:=id hi;obtain⟨ot,hot,_,nt,hdt⟩:=ht;unfold Builtin.SmallTypes.nextOf;refine wB0 (wpAny_callSpecial?_slot (name:=Str.ofString "__next__") hi.typeIs F.slot_tuple_iterator_next (wpAny_call_entry F.slot_tuple_iterator_next hi.typeIs F.entry_tuple_iterator_next ?_ (F.args_tuple_iterator_next_1 _)));show wpAny _ _ (field (.ref it) 0 >>= _) _ _ s;refine wB0 (wpAny_field ho hd (x:=.ref t) rfl ?_);show wpAny _ _ (if (Value.ref t==Value.none)=true then _ else _) _ _ s;rw[if_neg (show ¬((Value.ref t==Value.none)=true) from bF0)];show wpAny _ _ (field (.ref it) 1 >>= _) _ _ s;refine wB0 (wpAny_field ho hd (x:=.int i 0) rfl ?_);show wpAny _ _ (seqItems? (.ref t) >>= _) _ _ s;refine wB0 (wpAny_seqItems hot hdt ?_);simp only[Int.toNat_natCast,hx];refine wB0 (wpAny_setField ho hd (by simp) (wP0 ⟨x,rfl,wP0 (hQ _ ⟨_,Heap.get?_update_self _ ho (Obj.isFreed_of_fields (Obj.data_mapFields hd _)),(Obj.cls_mapFields ..).trans hc,?_⟩ (Heap.SameBut.update ..))⟩));rw[Obj.data_mapFields hd];simp[rawInt]
theorem a8l {it t:Addr}{i:Nat}{xs:Array Value}{Q:Vs0}(hh:A.handled=none)(hi:s.heap.IsTupleIter it t i)(ht:s.heap.IsTuple t xs)(hx:xs[i]? =none)
  (hE:∀h' e,Heap.ExtBut it s.heap h'->(∃o,h'.get? e=some o/\o.cls=.type "StopIteration")->E (.ref e) { s with heap:=h' }):wpAny (model prog w) A (Builtin.SmallTypes.nextOf (.ref it)) Q E s:=by
 obtain⟨o,ho,hc,hd⟩:=id hi;obtain⟨ot,hot,_,nt,hdt⟩:=ht;unfold Builtin.SmallTypes.nextOf;refine wB0 (wpAny_callSpecial?_slot (name:=Str.ofString "__next__") hi.typeIs F.slot_tuple_iterator_next (wpAny_call_entry F.slot_tuple_iterator_next hi.typeIs F.entry_tuple_iterator_next ?_ (F.args_tuple_iterator_next_1 _)));show wpAny _ _ (field (.ref it) 0 >>= _) _ _ s;refine wB0 (wpAny_field ho hd (x:=.ref t) rfl ?_);show wpAny _ _ (if (Value.ref t==Value.none)=true then _ else _) _ _ s;rw[if_neg (show ¬((Value.ref t==Value.none)=true) from bF0)];show wpAny _ _ (field (.ref it) 1 >>= _) _ _ s;refine wB0 (wpAny_field ho hd (x:=.int i 0) rfl ?_);show wpAny _ _ (seqItems? (.ref t) >>= _) _ _ s;refine wB0 (wpAny_seqItems hot hdt ?_);simp only[Int.toNat_natCast,hx];refine wB0 (wpAny_rule (wB0 (wpAny_setField ho hd (by simp) ?_)));show wpAny _ _ (newExc (.type "StopIteration") [] >>= _) _ _ _;refine wB0 ?_;simp only[newExc,newTuple];refine wB0 (wpAny_newObj_type ?_ (by size_fits));refine wB0 (m:=firstArgMember _ _) (wpAny_of_eq (a:=Value.none) (by first |rfl | (simp only[firstArgMember];rfl)) ?_);refine wpAny_newObj_type ?_ (by size_fits);simp only[raiseNew];refine wB0 (wpAny_handled ?_)
 first |rw[show A.in1.handled=none from hh] |rw[hh]
 refine wB0 (wP0 (wpAny_throw ?_));exact hE _ _ (((Heap.SameBut.update ..).extBut.push _).push _) ⟨_,hS0 _ rfl,rfl⟩
structure ZT (h:Heap) (z TI TO i1 i2 t1 t2:Addr) (k:Nat) (xs ys:Array Value) (f0:Value):Prop where
 zp:IsZip h z TI TO f0
 ti:IsPair h TI (.ref i1) (.ref i2)
 to:∃a b,IsPair h TO a b
 j1:h.IsTupleIter i1 t1 k
 j2:h.IsTupleIter i2 t2 k
 l1:h.IsTuple t1 xs
 l2:h.IsTuple t2 ys
theorem a8K {z TI TO i1 i2 t1 t2:Addr}{k:Nat}{xs ys:Array Value}{x y:Value}{Q:Vs0}(D:ZipApart z TI TO i1 i2 t1 t2)(Z:ZT s.heap z TI TO i1 i2 t1 t2 k xs ys .none)(hx:xs[k]? =some x)(hy:ys[k]? =some y)
  (hQ:∀h',ZT h' z TI TO i1 i2 t1 t2 (k+1) xs ys (rawInt s.heap.objs.size)->IsPair h' s.heap.objs.size x y->h'.objs.size=s.heap.objs.size+1->(∀c o,c≠z->c≠TO->c≠i1->c≠i2->s.heap.get? c=some o->h'.get? c=some o)->Q (.ref s.heap.objs.size) { s with heap:=h' }) :
  wpAny (model prog w) A (Builtin.«zip.__next__» ⟨[.ref z],[]⟩) (fun fin s'=>∃v,fin=.done (.ret v)/\Q v s') E s:=by
 obtain⟨hz,hTI,⟨a,b,hTO⟩,h1,h2,hl1,hl2⟩:=Z;show wpAny _ _ (field (.ref z) 2 >>= _) _ _ _;refine wB0 (wpAny_field hz rfl (x:=.bool false) rfl ?_);show wpAny _ _ (field (.ref z) 3 >>= _) _ _ _;refine wB0 (wpAny_field hz rfl (x:=.ref TI) rfl ?_);refine wB0 (wpAny_seqItems hTI rfl ?_);show wpAny _ _ (Builtin.SmallTypes.ownedTupleIsFree (.ref z) >>= _) _ _ _;refine wB0 ?_;unfold Builtin.SmallTypes.ownedTupleIsFree;refine wB0 (wpAny_field hz rfl (x:=.none) rfl (wP0 ?_));simp only[if_true];refine wB0 (wpAny_rule ?_);refine wB0 (wpAny_field hz rfl (x:=.ref TO) rfl ?_);refine wB0 (wpAny_setField_rec hz (by simp) fun g1 z1 b1=>?_)
 replace z1:IsZip g1 z TI TO .ellipsis:=z1
 refine wB0 ?_;simp only[List.zipIdx_cons,List.zipIdx_nil,List.forIn_cons,List.forIn_nil];refine wB0 (wB0 (wpAny_onRaise ?_));show wpAny _ _ (Builtin.SmallTypes.nextOf (.ref i1) >>= _) _ _ _;refine wB0 (a4q (s:={ s with heap:=g1 }) (h1.extBut b1.extBut D.i1z) (hl1.extBut b1.extBut D.l1z) hx fun g2 j2 b2=>wP0 ?_);have o2:IsPair g2 TO a b:=b2.extBut _ _ D.TOi1 (b1.extBut _ _ D.TOz hTO);refine wB0 (wpAny_seqItems o2 rfl ?_);refine wB0 (wpAny_updateSeq_pair o2 fun g3 o3 b3=>?_)
 replace o3:IsPair g3 TO x b:=o3
 refine wB0 (wpAny_letGo (wP0 ?_));refine wB0 (wB0 (wpAny_onRaise ?_));show wpAny _ _ (Builtin.SmallTypes.nextOf (.ref i2) >>= _) _ _ _;refine wB0 (a4q (s:={ s with heap:=g3 }) (((h2.extBut b1.extBut D.i2z).extBut b2.extBut D.i12.symm).extBut b3.extBut D.TOi2.symm) (((hl2.extBut b1.extBut D.l2z).extBut b2.extBut D.l2i1).extBut b3.extBut D.l2TO) hy fun g4 j4 b4=>wP0 ?_);have o4:IsPair g4 TO x b:=b4.extBut _ _ D.TOi2 o3;refine wB0 (wpAny_seqItems o4 rfl ?_);refine wB0 (wpAny_updateSeq_pair o4 fun g5 o5 b5=>?_)
 replace o5:IsPair g5 TO x y:=o5
 refine wB0 (wpAny_letGo (wP0 (wP0 ?_)));refine wB0 (wpAny_seqItems o5 rfl ?_);refine wB0 (wpAny_newTuple ?_);have sz:g5.objs.size=s.heap.objs.size:=by rw[b5.1,b4.1,b3.1,b2.1,b1.1]
 have z5:IsZip g5 z TI TO .ellipsis:=b5.extBut _ _ D.TOz.symm (b4.extBut _ _ D.i2z.symm (b3.extBut _ _ D.TOz.symm (b2.extBut _ _ D.i1z.symm z1)));have k5:∀c o,c≠z->c≠TO->c≠i1->c≠i2->s.heap.get? c=some o->g5.get? c=some o:=fun c o c1 c2 c3 c4 e=>b5.extBut _ _ c2 (b4.extBut _ _ c4 (b3.extBut _ _ c2 (b2.extBut _ _ c3 (b1.extBut _ _ c1 e))));have p1:g5.IsTupleIter i1 t1 (k+1):=((j2.extBut b3.extBut D.TOi1.symm).extBut b4.extBut D.i12).extBut b5.extBut D.TOi1.symm;have p2:g5.IsTupleIter i2 t2 (k+1):=j4.extBut b5.extBut D.TOi2.symm;have zlt:z<g5.objs.size:=hL0 z5;show wpAny _ _ (Builtin.SmallTypes.ownedTupleHandOut (.ref z) (.ref g5.objs.size) >>= _) _ _ _;refine wB0 ?_;unfold Builtin.SmallTypes.ownedTupleHandOut;have z6:IsZip (g5.push { cls:=.type "tuple",data:=.seq #[x,y] }) z TI TO .ellipsis:=hP0 _ z5;refine wB0 (wpAny_setField_rec z6 (by simp) fun g7 z7 b7=>?_)
 replace z7:IsZip g7 z TI TO (rawInt g5.objs.size):=z7
 refine wpAny_setField_rec z7 (by simp) fun g8 z8 b8=>?_
 replace z8:IsZip g8 z TI TO (rawInt g5.objs.size):=z8
 have up:∀c o,c≠z->g5.get? c=some o->g8.get? c=some o:=fun c o c1 e=>b8.extBut _ _ c1 (b7.extBut _ _ c1 (hP0 _ e));have T8:IsPair g8 g5.objs.size x y:=b8.extBut _ _ (Nat.ne_of_gt zlt) (b7.extBut _ _ (Nat.ne_of_gt zlt) (hS0 _ rfl));have s8:g8.objs.size=g5.objs.size+1:=by rw[b8.1,b7.1,Heap.size_push]
 rw[sz] at z8 T8 s8;refine wP0 ⟨_,rfl,?_⟩;show Q (.ref g5.objs.size) _;rw[sz];have kk:∀c o,c≠z->c≠TO->c≠i1->c≠i2->s.heap.get? c=some o->g8.get? c=some o:=fun c o c1 c2 c3 c4 e=>up c o c1 (k5 c o c1 c2 c3 c4 e);refine hQ g8 ⟨z8,kk _ _ D.TIz D.TITO D.TIi1 D.TIi2 hTI,⟨x,y,up _ _ D.TOz o5⟩,?_,?_,?_,?_⟩ T8 s8 kk
 ·obtain⟨o,e,r⟩:=p1;exact⟨o,up _ o D.i1z e,r⟩
 ·obtain⟨o,e,r⟩:=p2;exact⟨o,up _ o D.i2z e,r⟩
 ·obtain⟨o,e,r⟩:=hl1;exact⟨o,kk _ o D.l1z D.l1TO D.l1i1 D.l1i2 e,r⟩
 ·obtain⟨o,e,r⟩:=hl2;exact⟨o,kk _ o D.l2z D.l2TO D.l2i1 D.l2i2 e,r⟩
theorem b0N {z TI TO i1 i2 t1 t2:Addr}{k:Nat}{xs ys:Array Value}{Q:Fin->Shared->Prop}(hh:A.handled=none)(D:ZipApart z TI TO i1 i2 t1 t2)(Z:ZT s.heap z TI TO i1 i2 t1 t2 k xs ys .none)(hx:xs[k]? =none)
  (hE:∀h' e,(∀c o,c≠z->c≠TO->c≠i1->c≠i2->s.heap.get? c=some o->h'.get? c=some o)->(∃o,h'.get? e=some o/\o.cls=.type "StopIteration")->E (.ref e) { s with heap:=h' }) :
  wpAny (model prog w) A (Builtin.«zip.__next__» ⟨[.ref z],[]⟩) Q E s:=by
 obtain⟨hz,hTI,⟨a,b,hTO⟩,h1,h2,hl1,hl2⟩:=Z;show wpAny _ _ (field (.ref z) 2 >>= _) _ _ _;refine wB0 (wpAny_field hz rfl (x:=.bool false) rfl ?_);show wpAny _ _ (field (.ref z) 3 >>= _) _ _ _;refine wB0 (wpAny_field hz rfl (x:=.ref TI) rfl ?_);refine wB0 (wpAny_seqItems hTI rfl ?_);show wpAny _ _ (Builtin.SmallTypes.ownedTupleIsFree (.ref z) >>= _) _ _ _;refine wB0 ?_;unfold Builtin.SmallTypes.ownedTupleIsFree;refine wB0 (wpAny_field hz rfl (x:=.none) rfl (wP0 ?_));simp only[if_true];refine wB0 (wpAny_rule ?_);refine wB0 (wpAny_field hz rfl (x:=.ref TO) rfl ?_);refine wB0 (wpAny_setField_rec hz (by simp) fun g1 z1 b1=>?_)
 replace z1:IsZip g1 z TI TO .ellipsis:=z1
 refine wB0 ?_;simp only[List.zipIdx_cons,List.zipIdx_nil,List.forIn_cons,List.forIn_nil];refine wB0 (wB0 (wpAny_onRaise ?_));show wpAny _ _ (Builtin.SmallTypes.nextOf (.ref i1) >>= _) _ _ _;refine wB0 (a8l (s:={ s with heap:=g1 }) hh (h1.extBut b1.extBut D.i1z) (hl1.extBut b1.extBut D.l1z) hx fun g2 e b2 he=>?_);obtain⟨oe,hoe,hce⟩:=he;have z2:IsZip g2 z TI TO .ellipsis:=b2 _ _ D.i1z.symm z1;have hez:e≠z:=fun q=>by subst q;rw[z2] at hoe;cases hoe;simp at hce
 exact wpAny_setField_rec z2 (by simp) fun g3 _ b3=>hE g3 e (fun c o c1 _ c3 _ q=>b3.extBut _ _ c1 (b2 _ _ c3 (b1.extBut _ _ c1 q))) ⟨oe,b3.extBut _ _ hez hoe,hce⟩
theorem a8R {z TI TO i1 i2 t1 t2:Addr}{k:Nat}{xs ys:Array Value}{x y:Value}{Q:Option Value->Shared->Prop}(D:ZipApart z TI TO i1 i2 t1 t2)(Z:ZT s.heap z TI TO i1 i2 t1 t2 k xs ys .none)(hx:xs[k]? =some x)(hy:ys[k]? =some y)
  (hQ:∀h',ZT h' z TI TO i1 i2 t1 t2 (k+1) xs ys (rawInt s.heap.objs.size)->IsPair h' s.heap.objs.size x y->h'.objs.size=s.heap.objs.size+1->(∀c o,c≠z->c≠TO->c≠i1->c≠i2->s.heap.get? c=some o->h'.get? c=some o)->Q (some (.ref s.heap.objs.size)) { s with heap:=h' }) :
  wpAny (model prog w) A (pyNext (.ref z)) Q E s:=by
 have hT:s.TypeIs (.ref z) "zip":=⟨_,Z.zp,rfl⟩;unfold pyNext;exact wB0 (wpAny_attempt (wpAny_callSpecial?_slot (name:=Str.ofString "__next__") hT F.slot_zip_next (wpAny_call_entry F.slot_zip_next hT F.entry_zip_next (a8K D Z hx hy fun h' a1 a2 a3 a4=>wP0 (hQ h' a1 a2 a3 a4)) (F.args_zip_next_1 _))))
theorem a9I {z TI TO i1 i2 t1 t2:Addr}{k:Nat}{xs ys:Array Value}{Q:Option Value->Shared->Prop}(hh:A.handled=none)(D:ZipApart z TI TO i1 i2 t1 t2)(Z:ZT s.heap z TI TO i1 i2 t1 t2 k xs ys .none)(hx:xs[k]? =none)
  (hQ:∀h',(∀c o,c≠z->c≠TO->c≠i1->c≠i2->s.heap.get? c=some o->h'.get? c=some o)->Q none { s with heap:=h' }):wpAny (model prog w) A (pyNext (.ref z)) Q E s:=by
 have hT:s.TypeIs (.ref z) "zip":=⟨_,Z.zp,rfl⟩;unfold pyNext;refine wB0 (wpAny_attempt (wpAny_callSpecial?_slot (name:=Str.ofString "__next__") hT F.slot_zip_next (wpAny_call_entry F.slot_zip_next hT F.entry_zip_next (b0N hh D Z hx fun h' e hk he=>?_) (F.args_zip_next_1 _))));obtain⟨o,ho,hc⟩:=he;refine wB0 (wpAny_isInstance (T:="StopIteration") (b:=true) ⟨o,ho,hc⟩ isSubtype_stop ?_);exact wP0 (hQ _ hk)
end
abbrev zT1 (h:Heap)(l1:Addr):Heap:=h.push { cls:=.type "tuple_iterator",data:=.fields #[.ref l1,.int 0 0] }
abbrev zT2 (h:Heap)(l1 l2:Addr):Heap:=(zT1 h l1).push { cls:=.type "tuple_iterator",data:=.fields #[.ref l2,.int 0 0] }
abbrev zT3 (h:Heap)(l1 l2:Addr):Heap:=(zT2 h l1 l2).push { cls:=.type "tuple",data:=.seq #[.ref h.objs.size,.ref (zT1 h l1).objs.size] }
abbrev zT4 (h:Heap)(l1 l2:Addr):Heap:=(zT3 h l1 l2).push { cls:=.type "tuple",data:=.seq #[.none,.none] }
abbrev zT5 (h:Heap)(l1 l2:Addr):Heap:=(zT4 h l1 l2).push { cls:=.type "zip",data:=.fields #[.none,.bool false,.bool false,.ref (zT2 h l1 l2).objs.size,.ref (zT3 h l1 l2).objs.size] }
theorem a7T (l1 l2:Addr)(xs ys:Array Value) :
  Meets (Builtin.«zip.__new__» ⟨[.type "zip",.ref l1,.ref l2],[]⟩) (fun _ R s=>s.heap.IsTuple l1 xs/\s.heap.IsTuple l2 ys/\R (.ok (.ret (.ref (zT4 s.heap l1 l2).objs.size))) { s with heap:=zT5 s.heap l1 l2 }):=
 .of_wp fun prog w A R s h=>by
  obtain⟨hp,g,d,tk,os⟩:=s;obtain⟨hl1,hl2,h⟩:=h;have hsub:=sub_zip;have m1:Heap.IsTuple (Shared.heap ⟨hp,g,d,tk,os⟩) l1 xs:=hl1;have m2:Heap.IsTuple (Shared.heap ⟨hp.push { cls:=.type "tuple_iterator",data:=.fields #[.ref l1,.int 0 0] },g,d,tk,os⟩) l2 ys:=Heap.IsTuple.push hl2 _
  wp_walk using wpAny_pyIter_tuple m1,wpAny_pyIter_tuple m2
  exact⟨_,rfl,h⟩
theorem a9b {prog:Program}{w:World}{A:Around}{E:Vs0}{s:Shared}{l1 l2:Addr}{xs ys:Array Value}{Q:Vs0}(hl1:s.heap.IsTuple l1 xs)(hl2:s.heap.IsTuple l2 ys)
  (h:∀h',ZT h' (s.heap.objs.size+4) (s.heap.objs.size+2) (s.heap.objs.size+3) s.heap.objs.size (s.heap.objs.size+1) l1 l2 0 xs ys .none->h'.objs.size=s.heap.objs.size+5->(∀c o,s.heap.get? c=some o->h'.get? c=some o)->Q (.ref (s.heap.objs.size+4)) { s with heap:=h' }) :
  wpAny (model prog w) A (call (.type "zip") [.ref l1,.ref l2]) Q E s:=by
 refine callType_new F.called_zip (by decide) (F.typeCall_zip_2 _ _) (F.newCall_zip_2 _ _) (fun obj=>F.args_object_init_3 obj _ _) F.entry_zip_new (a7T l1 l2 xs ys) ⟨hl1,hl2,?_⟩;have z1:(zT1 s.heap l1).objs.size=s.heap.objs.size+1:=Heap.size_push ..;have z2:(zT2 s.heap l1 l2).objs.size=s.heap.objs.size+2:=by rw[Heap.size_push,z1]
 have z3:(zT3 s.heap l1 l2).objs.size=s.heap.objs.size+3:=by rw[Heap.size_push,z2]
 have z4:(zT4 s.heap l1 l2).objs.size=s.heap.objs.size+4:=by rw[Heap.size_push,z3]
 have z5:(zT5 s.heap l1 l2).objs.size=s.heap.objs.size+5:=by rw[Heap.size_push,z4]
 have kp:∀c o,s.heap.get? c=some o->(zT5 s.heap l1 l2).get? c=some o:=fun c o x=>hP0 _ (hP0 _ (hP0 _ (hP0 _ (hP0 _ x))));have g5:(zT5 s.heap l1 l2).get? (zT4 s.heap l1 l2).objs.size=some _:=hS0 _ rfl;have g4:(zT5 s.heap l1 l2).get? (zT3 s.heap l1 l2).objs.size=some _:=hP0 _ (hS0 _ rfl);have g3:(zT5 s.heap l1 l2).get? (zT2 s.heap l1 l2).objs.size=some _:=hP0 _ (hP0 _ (hS0 _ rfl));have g2:(zT5 s.heap l1 l2).get? (zT1 s.heap l1).objs.size=some _:=hP0 _ (hP0 _ (hP0 _ (hS0 _ rfl)));have g1:(zT5 s.heap l1 l2).get? s.heap.objs.size=some _:=hP0 _ (hP0 _ (hP0 _ (hP0 _ (hS0 _ rfl))));show _/\_;rw[z2,z3,z4] at g5;rw[z1,z2] at g3;rw[z3] at g4;rw[z1] at g2;rw[z4];refine⟨⟨_,g5,rfl⟩,h _ ⟨g5,g3,⟨_,_,g4⟩,⟨_,g1,rfl,rfl⟩,⟨_,g2,rfl,rfl⟩,?_,?_⟩ z5 kp⟩
 ·obtain⟨o,e,r⟩:=hl1;exact⟨o,kp _ o e,r⟩
 ·obtain⟨o,e,r⟩:=hl2;exact⟨o,kp _ o e,r⟩
end L2
namespace L2
open PySem PySem.Spec PyProof.Rows
section
variable {X:Cx}{pins:List (Addr×Obj)}{σ:St}{H:Hp}{s:Shared}{h':Heap}
theorem Inv.turnedL {t':Nat}{ch:List Addr}(I:Inv X pins σ H s)(k:∀b o,b∉ch->s.heap.get? b=some o->h'.get? b=some o)(f:∀b∈ch,a4f X pins H b):Inv X pins σ H { s with heap:=h',toks:=t' }:=by
 have nit:∀b u,H b=some u->b∉ch:=fun b u e z=>by rw[(f b z).1] at e;cases e
 refine I.step (g':=s.gens) (d':=s.drawn) (ch:=ch) (fun b hb=>?_) (fun b o _ _ hc e _=>k b o hc e) (fun b o _ _ hc e _=>⟨o.slots,k b o hc e⟩) (fun _ _ _ _ n=>n) (fun b o hc e=>⟨o,k b o hc e⟩) (fun _ _ e=>e) (fun _ _ _ e=>e) (fun b ps e=>⟨#[],by rw[e];simp⟩) (fun m hm=>?_) (fun b u e=>?_) I.bare
 ·obtain⟨f0,f1,f2,f3,f4,f5⟩:=f b hb
  exact⟨f3,f1,f4,f5⟩
 ·obtain⟨o,es,ep,ho,r⟩:=hm
  refine⟨o,es,ep,k _ o (fun z=>?_) ho,r⟩;obtain⟨f0,f1,_⟩:=f _ z;exact f1 rfl
 ·refine(I.hok b u e).stay (fun c v hc q=>k c v ?_ q) (fun _ q=>q) fun _ _ q=>q
  rcases hc with z |z
  ·rw[z];exact nit b u e
  ·exact nit c _ z
end
structure ZM (h:Heap) (z TI TO i1 i2 a b:Addr) (k:Nat):Prop where
 zp:IsZip h z TI TO .none
 ti:IsPair h TI (.ref i1) (.ref i2)
 to:∃u v,IsPair h TO u v
 j1:h.IsTupleIter i1 a k
 j2:h.IsTupleIter i2 b k
def ItZ (K:Fg0)(a b:Addr):It:=
 ⟨fun i H=>∃xs ys x y,SqT K H a xs/\SqT K H b ys/\xs[i]? =some x/\ys[i]? =some y,fun i H x H'=>∃u v p,(∀xs ys,SqT K H a xs->SqT K H b ys->xs[i]? =some u/\ys[i]? =some v)/\x=.ref p/\H p=none/\H'=upd H p (.tup [u,v]),fun i H=>∃xs ys,SqT K H a xs/\SqT K H b ys/\xs.length<=i⟩
theorem a8H {P:Program}{w:World}{K:Fg0}{es:List Expr}{x1:Nat}{tp:Pos}(a b z TI TO i1 i2:Addr)(D:ZipApart z TI TO i1 i2 a b):a9U P w K (.Tuple es x1 tp) (ItZ K a b) [z,TI,TO,i1,i2] z (fun i h=>ZM h z TI TO i1 i2 a b i) where
 mem:=by simp
 obj:=fun i h st c hc=>by
  obtain⟨s1,s2,⟨u,v,s3⟩,s4,s5⟩:=st;simp only[mK0,List.not_mem_nil,or_false] at hc;rcases hc with q |q |q |q |q
  ·subst q;exact⟨_,s1,fun v z=>by cases z⟩
  ·subst q;exact⟨_,s2,fun v z=>by cases z⟩
  ·subst q;exact⟨_,s3,fun v z=>by cases z⟩
  ·subst q;obtain⟨o,e,_,d⟩:=s4;exact⟨o,e,fun v z=>by rw[d] at z;cases z⟩
  ·subst q;obtain⟨o,e,_,d⟩:=s5;exact⟨o,e,fun v z=>by rw[d] at z;cases z⟩
 keep:=fun i h h' st k=>by
  obtain⟨s1,s2,⟨u,v,s3⟩,⟨o4,e4,r4⟩,⟨o5,e5,r5⟩⟩:=st;exact⟨k z (by simp) _ s1,k TI (by simp) _ s2,⟨u,v,k TO (by simp) _ s3⟩,⟨o4,k i1 (by simp) _ e4,r4⟩,⟨o5,k i2 (by simp) _ e5,r5⟩⟩
 item:=by
  intro X hP hw hK hc i pins s σ H E I hf st hg;subst hP hw hK;obtain⟨s1,s2,s3,s4,s5⟩:=st;obtain⟨xs,ys,x,y,hq1,hq2,hx,hy⟩:=hg;obtain⟨its,rv,p,hz⟩:=I.tuple hq1;obtain⟨jts,rw',p',hz'⟩:=I.tuple hq2;obtain⟨u,hu,ru⟩:=rv.get hx;obtain⟨v,hv,rv'⟩:=rw'.get hy;have Z:ZT s.heap z TI TO i1 i2 a b i its.toArray jts.toArray .none:=⟨s1,s2,s3,s4,s5,p,p'⟩;refine a8R D Z (x:=u) (y:=v) (by simpa using hu) (by simpa using hv) fun h' Z' ht hsz kp=>?_;refine⟨_,rfl,?_⟩;refine wpAny_letOwnedTupleGo_zip (s:={ s with heap:=h' }) Z'.zp fun h'' zp'' sb=>?_;have zlt:z<s.heap.objs.size:=hL0 s1;have kp2:∀c o,c∉[z,TI,TO,i1,i2]->s.heap.get? c=some o->h''.get? c=some o:=fun c o hc e=>by
   simp only[mK0,List.not_mem_nil,or_false,not_or] at hc;exact(sb.2 c hc.1).trans (kp c o hc.1 hc.2.2.1 hc.2.2.2.1 hc.2.2.2.2 e)
  have I1:Inv X pins σ H { s with heap:=h'' }:=I.turnedL (t':=s.toks) kp2 hf;have hp:H s.heap.objs.size=none:=I.hok.fresh (nR0 _);have e2:h''.get? s.heap.objs.size=some { cls:=.type "tuple",data:=.seq #[u,v] }:=(sb.2 _ (Nat.ne_of_gt zlt)).trans ht;have I2:Inv X pins σ (upd H s.heap.objs.size (.tup [x,y])) { s with heap:=h'' }:=I1.track (I.our (nR0 _)) ⟨(show 2<=sizeLine by decide),[u,v],.cons ru (.cons rv' .nil),⟨_,e2,rfl,_,rfl⟩⟩;refine⟨.ref s.heap.objs.size,_,I2,rfl,⟨x,y,_,fun ws us h1 h2=>?_,rfl,hp,rfl⟩,?_,fun c hc=>?_⟩
  ·rw[I.tuple_inj h1 hq1,I.tuple_inj h2 hq2]
   exact⟨hx,hy⟩
  ·have up:∀c o,c≠z->h'.get? c=some o->h''.get? c=some o:=fun c o hc e=>(sb.2 c hc).trans e
   obtain⟨_,q2,⟨q3a,q3b,q3⟩,⟨o4,e4,r4⟩,⟨o5,e5,r5⟩,_,_⟩:=Z';exact⟨zp'',up _ _ D.TIz q2,⟨q3a,q3b,up _ _ D.TOz q3⟩,⟨o4,up _ _ D.i1z e4,r4⟩,⟨o5,up _ _ D.i2z e5,r5⟩⟩
  ·obtain⟨f0,_⟩:=hf c hc
   rw[a0f fun q=>?_]
   ·exact f0
   ·have lt:∀c o,s.heap.get? c=some o->c≠s.heap.objs.size:=fun c o e=>nL0 (hL0 e)
    obtain⟨q3a,q3b,q3⟩:=s3;obtain⟨o4,e4,_⟩:=s4;obtain⟨o5,e5,_⟩:=s5;simp only[mK0,List.not_mem_nil,or_false] at hc;rcases hc with r |r |r |r |r
    ·exact lt z _ s1 (r▸q)
    ·exact lt TI _ s2 (r▸q)
    ·exact lt TO _ q3 (r▸q)
    ·exact lt i1 _ e4 (r▸q)
    ·exact lt i2 _ e5 (r▸q)
 done:=by
  intro X hP hw hK hc i pins s σ H E I hf st hg;subst hP hw hK;obtain⟨s1,s2,s3,s4,s5⟩:=st;obtain⟨xs,ys,hq1,hq2,hx⟩:=hg;obtain⟨its,rv,p,hz⟩:=I.tuple hq1;obtain⟨jts,rw',p',hz'⟩:=I.tuple hq2;have hl:=rv.length;have Z:ZT s.heap z TI TO i1 i2 a b i its.toArray jts.toArray .none:=⟨s1,s2,s3,s4,s5,p,p'⟩;refine a9I (I.ok.hd hc) D Z (by simp;omega) fun h' kp=>⟨rfl,I.turnedL (t':=s.toks) (fun c o hc e=>?_) hf⟩;simp only[mK0,List.not_mem_nil,or_false,not_or] at hc;exact kp c o hc.1 hc.2.2.1 hc.2.2.2.1 hc.2.2.2.2 e
 self:=fun A i s Q E st h=>wpAny_pyIter_zip st.zp h
section
variable {X:Cx}
theorem boot_zip:bootBuiltins "zip"=some (.type "zip"):=by decide +kernel
def b4Y (K:Fg0)(ta:TA):TI:=fun σ H R=>ta σ H fun vs H1=>∃a b,vs=[.ref a,.ref b]/\(∃xs,SqT K H1 a xs)/\(∃ys,SqT K H1 b ys)/\R (ItZ K a b) H1
theorem b1Q {es:List Expr}{x1:Nat}{tp:Pos}{l m:Expr}{ta:TA}{p pos:Pos}(hg:Gl X "zip")(hm:X.mg "zip"=none)(ha:PA X [l,m] ta)(hs:starEach [l,m] X.env=(false,eval l X.env)::starEach [m] X.env:=by rfl)(hpl:(backTo pos (starEach [m] X.env)).any (·.1)=false:=by rfl) :
  PI X (.Tuple es x1 tp) (.Call (.Name "zip" p) [l,m] [] pos) (b4Y X.K ta):=by
 intro pins s σ H R I h;refine Call_ (a3P I hg hm boot_zip (PyProof.Rows.callWith_type1 (thn (ha pos pins s σ H _ I h) fun us s1 ⟨vs,H1,I1,r1,q1⟩=>?_) hs hpl));obtain⟨a,b,e,⟨xs,hq1⟩,⟨ys,hq2⟩,q⟩:=q1;subst e;obtain⟨u,v,rfl,rx,ry⟩:=a9S r1;cases rx;cases ry;obtain⟨its,rv,p1,hz⟩:=I1.tuple hq1;obtain⟨jts,rw',p2,hz'⟩:=I1.tuple hq2;have la:a<s1.heap.objs.size:=by obtain⟨o,e,_⟩:=p1;exact hL0 e
 have lb:b<s1.heap.objs.size:=by obtain⟨o,e,_⟩:=p2;exact hL0 e
 have D:ZipApart (s1.heap.objs.size+4) (s1.heap.objs.size+2) (s1.heap.objs.size+3) s1.heap.objs.size (s1.heap.objs.size+1) a b:=by
  generalize s1.heap.objs.size=n at la lb
  constructor<;>(intro z;simp only[Addr] at *;omega)
 refine a9b p1 p2 fun h' Z hsz hk=>?_;have I2:Inv X pins σ H1 { s1 with heap:=h' }:=I1.kept (t':=s1.toks) hk;refine wpAny_pyIter_zip (s:={ s1 with heap:=h' }) Z.zp ?_;refine⟨s1.heap.objs.size+4,[s1.heap.objs.size+4,s1.heap.objs.size+2,s1.heap.objs.size+3,s1.heap.objs.size,s1.heap.objs.size+1],_,_,H1,rfl,I2,a8H a b _ _ _ _ _ D,⟨Z.zp,Z.ti,Z.to,Z.j1,Z.j2⟩,fun c hc=>?_,q⟩;have nb:s1.heap.objs.size<=c:=by
  simp only[mK0,List.not_mem_nil,or_false] at hc;rcases hc with r |r |r |r |r<;>(rw[r];first |exact nR0 _ |exact Nat.le_add_right _ _)
 exact I1.fpOk nb (I1.hok.fresh nb)
theorem b0w {K:Fg0}{a b:Addr}{xs ys:List V}{g:TG}{tb:TS}{D:a5Y}{σ:St}{H:Hp}(Pv:Nat->St->Hp->Prop)(hlen:xs.length=ys.length)(h0:Pv 0 σ H)(hl:∀i σ H,i<=xs.length->Pv i σ H->SqT K H a xs/\SqT K H b ys)
  (hs:∀i x y p σ H,xs[i]? =some x->ys[i]? =some y->Pv i σ H->H p=none->g (.ref p) σ (upd H p (.tup [x,y])) fun σ2 H2=>tb { D with nx:=Pv (i+1),ct:=Pv (i+1),bk:=D.nx } σ2 H2) (hd:∀σ H,Pv xs.length σ H->D.nx σ H) :
  ∃W:Nat->Nat->St->Hp->Prop,(∃m,W 0 m σ H)/\∀i m σ H,W i m σ H →
   ((ItZ K a b).stop i H/\D.nx σ H)\/((ItZ K a b).go i H/\∃N:St->Hp->Prop,(∀σ' H',N σ' H'->∃m',m'<m/\W (i+1) m' σ' H')/\∀x H',(ItZ K a b).yld i H x H'->g x σ H' fun σ2 H2=>tb { D with nx:=N,ct:=N,bk:=D.nx } σ2 H2):=by
 refine⟨fun i m σ H=>m=xs.length-i/\i<=xs.length/\Pv i σ H,⟨xs.length,by simp,zL0 _,h0⟩,?_⟩;rintro i m σ H ⟨rfl,hi,p⟩;obtain⟨q1,q2⟩:=hl i σ H hi p
 by_cases hlt:i<xs.length
 ·have hlt2:i<ys.length:=by omega
  refine .inr ⟨⟨xs,ys,xs[i],ys[i],q1,q2,by simp[hlt],by simp[hlt2]⟩,Pv (i+1),fun σ' H' p'=>⟨xs.length-(i+1),by omega,rfl,hlt,p'⟩,fun x H' y=>?_⟩;obtain⟨u,v,pa,hk,ex,hn,e⟩:=y;subst e ex;exact hs i u v pa σ H (hk xs ys q1 q2).1 (hk xs ys q1 q2).2 p hn
 ·have e:i=xs.length:=by omega
  subst e;exact .inl ⟨⟨xs,ys,q1,q2,nR0 _⟩,hd σ H p⟩
end
end L2
namespace My
open PySem L2 PyProof.Rows
def top (i:Nat):Stmt:=PySem.Challenge.pw_halfmoved_k35_columns_cleaved.main.body.getD i (.Pass ⟨0,0,0,0⟩)
section
variable {P:Program}{w:World}{K:Fg0}{mg:Str->Option Value}{base:Heap}
theorem a7i {f:Addr}{fd:FuncData}(F:Fun K "is_whole" "is_whole" (top 10) f fd)(B:Bl mg):a0y P w K mg base CX0 1 f fd ["thing"] (a6I K):=by
 have sc:a0o ["thing"] ["thing"] (a0e (top 10)):=.k (by decide +kernel);refine F.ok sc (fun vs H Q E h=>?_) (fun cdv A outer s H vs Q E hr h=>?_)
 ·obtain⟨v,n,rfl,_⟩:=h
  rfl
 ·obtain⟨v,n,rfl,⟨ty,hn⟩,q⟩:=h
  refine⟨_,a0h (a0s (a2d (a0i a2n (by rfl) B.isi boot_isi (a0a (pv 0) (a0a (a0v (v:=.ty "int") (by rfl) B.int boot_int rfl) a0c)))
   (a2x (b1L (a0i a2n (by rfl) B.isi boot_isi (a0a (pv 0) (a0a (a0v (v:=.ty "bool") (by rfl) B.bool boot_bool rfl) a0c))))))),?_⟩
  refine⟨_,rfl,_,_,_,_,rfl,ty,a2t.trans (b2j n hn),_,rfl,?_⟩;refine b0S (fun c=>?_) (fun c=>?_)
  ·refine⟨_,rfl,_,_,_,_,rfl,ty,a2t.trans (b0u n hn),_,rfl,?_⟩
   have e:(!(n=="bool"))=(n=="int"):=by
    revert c hn
    clear ty q
    revert n
    decide +kernel
   rw[e];exact q
  ·have e:(n=="int")=false:=by
    cases z:n=="int" with
    |false=>rfl
    |true=>rw[z] at c;exact(c rfl).elim
   rw[e] at q;exact q
def a3y:Dt->Bool
 | .int _=>true
 |_=>false
def b2l (l:List Nat):Bool:=match l with
 |[c]=>decide (32<=c)&&(decide (c<=126)&&!decide (c=37))
 |_=>false
def a6d:Dt->Bool
 | .str z=>b2l z.cps.toList
 |_=>false
def geD:Dt->Bool
 | .int i=>decide (1<=i)
 |_=>false
def a4i (s b:Dt):Bool:=if a1u s "below"=true then geD b else if a1u s "upto"=true then a3y b else a1u s "without"&&a6d b
def w2:List Str:=["whole","word"]
def w3:List Str:=["list","some","once"]
def a2Y:Dt->Bool
 | .tup [s]=>w2.any (a1u s)
 | .tup [s,b]=>a4i s b
 |_=>false
def b0e:Dt->Bool
 | .tup [s]=>a1u s "key"
 | .tup [s,b]=>w3.any (a1u s)&&a2Y b
 |_=>false
def a3o (d:Dt):Bool:=a2Y d || b0e d
theorem a3O (d:Dt):(tyD d=="int")=a3y d:=by cases d<;>simp[tyD,a3y]
theorem b2i {f:Addr}{fd:FuncData}(F:Fun K "is_sign" "is_sign" (top 12) f fd)(B:Bl mg){uP:Value}(hP:mg "PERCENT"=some uP)(rP:a0S (.int 37) uP) :
  a0y P w K mg base CX0 1 f fd ["thing"] (fun vs H Q _=>∃(v:V) (d:Dt),vs=[v]/\Rep H d v/\Q (.bl (a6d d)) H):=by
 have sc:a0o ["thing"] ["thing"] (a0e (top 12)):=.k (by decide +kernel);refine F.ok sc (fun vs H Q E h=>?_) (fun cdv A outer s H vs Q E hr h=>?_)
 ·obtain⟨v,d,rfl,_⟩:=h
  rfl
 ·obtain⟨v,d,rfl,hd,q⟩:=h
  refine⟨_,a0d (a0F (PW.pt (a2F (a1k (a0D (a0i a2n (by rfl) B.isi boot_isi (a0a (pv 0) (a0a (a0v (v:=.ty "str") (by rfl) B.str boot_str rfl) a0c)))))
    (a1Q (a0z a4j (a0i a3k (by rfl) B.len PySem.boot_len (a0a (pv 0) a0c)) a0g (a0B _))))) (a0h (a0s a3m)) a0m)
   (a0h (a0s (a2d (b0K a5W a5W a0M (pv 0) a0M) (a2x (a1a a4j (a0i a9Z (by rfl) B.ord boot_ord (a0a (pv 0) a0c)) (a4I (by rfl) hP rP) (a0B _)))))),?_⟩
  by_cases hs:tyD d="str"
  ·obtain⟨z,rfl⟩:∃z,d=.str z:=by
    cases d<;>first |exact⟨_,rfl⟩ | (simp[tyD] at hs)
   unfold Rep at hd;obtain⟨rfl,hz⟩:=hd;have hzs:z.length<=sizeLine:=by rw[sizeLine_eq];omega
   refine⟨_,rfl,_,_,_,_,rfl,.str z,a2t.trans (show a0R "str" "str"=some true by decide +kernel),_,rfl,?_⟩;refine a1W ?_;refine⟨_,rfl,_,rfl,hzs,rfl,_,rfl,?_⟩;have hl:z.cps.toList.length=z.length:=by simp[Str.length]
   by_cases h1:z.length=1
   ·obtain⟨c,hc⟩:∃c,z.cps.toList=[c]:=by
     rw[h1] at hl
     match h:z.cps.toList,hl with
     |[c],_=>exact⟨c,rfl⟩
    have hg:z.cps.getD 0 0=c:=by
     have:z.cps=#[c]:=by rw[<-Array.toArray_toList (xs:=z.cps),hc]
     rw[this]
     rfl
    refine a2q (by rw[h1];rfl) ?_;have hq:a6d (.str z)=(decide (32<=c)&&(decide (c<=126)&&!decide (c=37))):=by
     show b2l z.cps.toList=_;rw[hc]
     rfl
    rw[hq] at q;have e32:(" ":Str).cps.toList=[32]:=by decide +kernel
    have e126:("~":Str).cps.toList=[126]:=by decide +kernel
    have l1:(!decide (z.cps.toList<(" ":Str).cps.toList))=decide (32<=c):=by
     rw[hc,e32,StrLaws.lt_cons_cons,StrLaws.lt_nil_nil,Bool.and_false,Bool.or_false]
     by_cases h:32<=c
     ·rw[dT0 h,dF0 (by omega)];rfl
     ·rw[dF0 h,dT0 (by omega)];rfl
    have l2:(!decide (("~":Str).cps.toList<z.cps.toList))=decide (c<=126):=by
     rw[hc,e126,StrLaws.lt_cons_cons,StrLaws.lt_nil_nil,Bool.and_false,Bool.or_false]
     by_cases h:c<=126
     ·rw[dT0 h,dF0 (by omega)];rfl
     ·rw[dF0 h,dT0 (by omega)];rfl
    refine⟨_,rfl,_,_,rfl,rfl,_,rfl,?_⟩
    by_cases h32:32<=c
    ·refine a5b (l1.trans (dT0 h32)) ?_
     refine⟨_,_,rfl,rfl,_,rfl,?_⟩;rw[dT0 h32,Bool.true_and] at q
     by_cases h126:c<=126
     ·refine a5b (l2.trans (dT0 h126)) ?_
      rw[dT0 h126,Bool.true_and] at q;refine⟨_,rfl,_,rfl,h1,rfl,?_⟩;have e:decide (V.int (z.cps.getD 0 0:Nat)=V.int 37)=decide (c=37):=by
       rw[hg];exact a8g (k:=37)
      rw[e];exact q
     ·refine a2q (l2.trans (dF0 h126)) ?_
      rw[dF0 h126,Bool.false_and] at q;exact q
    ·refine a2q (l1.trans (dF0 h32)) ?_
     rw[dF0 h32,Bool.false_and] at q;exact⟨_,rfl,a1W q⟩
   ·refine a5b ?_ ?_
    ·have e:decide (V.int (z.length:Int)=V.int 1)=decide (z.length=1):=a8g (k:=1)
     rw[e,dF0 h1]
     rfl
    ·have hq:a6d (.str z)=false:=by
      show b2l z.cps.toList=_;rw[<-hl] at h1
      match h:z.cps.toList,h1 with
      |[],_=>rfl
      |[c],h1=>exact(h1 rfl).elim
      |_::_::_,_=>rfl
     rw[hq] at q;exact q
  ·have e:(tyD d=="str")=false:=beq_eq_false_iff_ne.mpr hs
   have hi:=hd.is (K:=K);refine⟨_,rfl,_,_,_,_,rfl,hi.1,a2t.trans ((a9M _ hi.2).trans (congrArg some e)),_,rfl,?_⟩;refine a6a ?_;have hq:a6d d=false:=by
    cases d<;>first |rfl |exact(hs rfl).elim
   rw[hq] at q;exact q
theorem b1V {f fW fS:Addr}{fd fdW fdS:FuncData}(F:Fun K "is_plain_pair" "is_plain_pair" (top 14) f fd)(B:Bl mg)(DW:Df K mg "is_whole" (top 10) fW fdW)(DS:Df K mg "is_sign" (top 12) fS fdS){uP:Value}(hP:mg "PERCENT"=some uP)(rP:a0S (.int 37) uP) :
  a0y P w K mg base CX0 2 f fd ["sort","bound"] (fun vs H Q _=>∃(u v:V) (s b:Dt),vs=[u,v]/\Rep H s u/\Rep H b v/\Q (.bl (a4i s b)) H):=by
 have sc:a0o ["sort","bound"] ["sort","bound"] (a0e (top 14)):=.k (by decide +kernel);have GW:a0y P w K mg base CX0 1 fW fdW ["thing"] (a6I K):=a7i DW.fn B;have GS:=b2i (P:=P) (w:=w) (base:=base) DS.fn B hP rP;have bW:=DW.fn.b1 "thing" (by intros;rfl);have bS:=DS.fn.b1 "thing" (by intros;rfl);refine F.ok sc (fun vs H Q E h=>?_) (fun cdv A outer s H vs Q E hr h=>?_)
 ·obtain⟨u,v,s,b,rfl,_⟩:=h
  rfl
 ·obtain⟨u,v,ds,db,rfl,hds,hdb,q⟩:=h
  have hu:(A.deeper (envOfC "is_plain_pair" (a0e (top 14)) s.heap.objs.size f cdv)).units<cLine:=hr.units0;refine⟨_,a0d (a0F (a0z (a7r hu) (pv 0) a0M (a0B _)) (a0h (a0s (a2d (a0j GW hr (by rfl) DW.mg DW.fn.kp bW .nil a0u (a0a (pv 1) a0c)) (a2x (a1a b5j (pv 1) a0g (a0B _)))))) a0m)
   (a0d (a0F (a0z (a7r hu) (pv 0) a0M (a0B _)) (a0h (a0s (a0j GW hr (by rfl) DW.mg DW.fn.kp bW .nil a0u (a0a (pv 1) a0c)))) a0m)
   (a0h (a0s (a2d (a1a (a7r hu) (pv 0) a0M (a0B _)) (a2x (a0j GS hr (by rfl) DS.mg DS.fn.kp bS .nil a0u (a0a (pv 1) a0c))))))),?_⟩
  refine⟨_,rfl,ds,_,hds,rfl,_,rfl,?_⟩
  by_cases c1:a1u ds "below"=true
  ·refine a5b c1 ?_
   have e:a4i ds db=geD db:=by unfold a4i;rw[if_pos c1]
   rw[e] at q;refine⟨_,rfl,_,_,rfl,hdb.is,_,rfl,?_⟩
   by_cases hw:a3y db=true
   ·refine a5b ((a3O db).trans hw) ?_
    obtain⟨i,rfl⟩:∃i,db=.int i:=by
     cases db<;>first |exact⟨_,rfl⟩ | (simp[a3y] at hw)
    unfold Rep at hdb;subst hdb;exact⟨_,rfl,_,_,rfl,rfl,q⟩
   ·refine a2q ((a3O db).trans (by simpa using hw)) ?_
    have e2:geD db=false:=by
     cases db<;>first |rfl |exact(hw rfl).elim
    rw[e2] at q;exact q
  ·refine a2q (by simpa using c1) ?_
   refine⟨_,rfl,ds,_,hds,rfl,_,rfl,?_⟩
   by_cases c2:a1u ds "upto"=true
   ·refine a5b c2 ?_
    have e:a4i ds db=a3y db:=by unfold a4i;rw[if_neg c1,if_pos c2]
    rw[e,<-a3O db] at q;exact⟨_,rfl,_,_,rfl,hdb.is,q⟩
   ·refine a2q (by simpa using c2) ?_
    have e:a4i ds db=(a1u ds "without"&&a6d db):=by unfold a4i;rw[if_neg c1,if_neg c2]
    rw[e] at q;refine⟨_,rfl,ds,_,hds,rfl,_,rfl,?_⟩
    by_cases c3:a1u ds "without"=true
    ·refine a5b c3 ?_
     rw[c3,Bool.true_and] at q;exact⟨_,rfl,_,_,rfl,hdb,q⟩
    ·refine a2q (by simpa using c3) ?_
     rw[(by simpa using c3:a1u ds "without"=false),Bool.false_and] at q;exact q
def a6f:Sp:=fun vs H Q _=>∃(v:V) (d:Dt),vs=[v]/\Rep H d v/\∀H',a0k H H'->Q (.bl (a2Y d)) H'
theorem b0n {f fW fS fR:Addr}{fd fdW fdS fdR:FuncData}(F:Fun K "is_plain" "is_plain" (top 13) f fd)(B:Bl mg)(DW:Df K mg "is_whole" (top 10) fW fdW)(DS:Df K mg "is_sign" (top 12) fS fdS)(DR:Df K mg "is_plain_pair" (top 14) fR fdR)
  {uP:Value} (hP:mg "PERCENT"=some uP) (rP:a0S (.int 37) uP):a0y P w K mg base CX0 3 f fd ["thing"] a6f:=by
 have sc:a0o ["thing"] ["thing"] (a0e (top 13)):=.k (by decide +kernel);have GR:=b1V (P:=P) (w:=w) (base:=base) DR.fn B DW DS hP rP;have bR:=DR.fn.b2 "sort" "bound" (by intros;rfl);refine F.ok sc (fun vs H Q E h=>?_) (fun cdv A outer s H vs Q E hr h=>?_)
 ·obtain⟨v,d,rfl,_⟩:=h
  rfl
 ·obtain⟨v,d,rfl,hd,q⟩:=h
  have hu:=a2o hr;refine⟨_,a0d (a0F (a1k (a0D (a0i a2n (by rfl) B.isi boot_isi (a0a (pv 0) (a0a (a0v (v:=.ty "tuple") (by rfl) B.tuple boot_tuple rfl) a0c))))) (a0h (a0s a3m)) a0m)
   (a0d (a0F (a0z a2l (a0i a0K (by rfl) B.len PySem.boot_len (a0a (pv 0) a0c)) a0g (a0B _)) (a0h (a0s (a1a (b1s hu) (a0x a1o (pv 0) a0g (fun _ _=>rfl)) (a0P (a0a a0M (a0a a0M a0c))) (by with_unfolding_all rfl)))) a0m)
   (a0h (a0s (a2d (a1a a2l (a0i a0K (by rfl) B.len PySem.boot_len (a0a (pv 0) a0c)) a0g (a0B _))
    (a2x (a0j GR hr (by rfl) DR.mg DR.fn.kp bR .nil a0u (a0a (a0x a1o (pv 0) a0g (fun _ _=>rfl)) (a0a (a0x a1o (pv 0) a0g (fun _ _=>rfl)) a0c)))))))),?_⟩
  have hi:=hd.is (K:=K)
  by_cases ht:tyD d="tuple"
  ·obtain⟨ds,rfl⟩:∃ds,d=.tup ds:=by
    cases d<;>first |exact⟨_,rfl⟩ | (simp[tyD] at ht)
   have hd':=hd;unfold Rep at hd';obtain⟨a,xs,rfl,ha,hr2⟩:=hd';have hl:=hr2.length;refine⟨_,rfl,_,_,_,_,rfl,hi.1,a2t.trans (show a0R "tuple" "tuple"=some true by decide +kernel),_,rfl,?_⟩;refine a1W ?_;refine⟨_,rfl,_,_,rfl,.inr (SqT.of ha),rfl,_,rfl,?_⟩;have e1:decide (V.int (xs.length:Int)=V.int 1)=decide (xs.length=1):=a8g (k:=1);have e2:decide (V.int (xs.length:Int)=V.int 2)=decide (xs.length=2):=a8g (k:=2)
   match ds,hr2,hl,q with
   |[],hr2,hl,q=>
    refine a2q (e1.trans (dF0 (by rw[hl];simp))) ?_;refine⟨_,rfl,_,_,rfl,.inr (SqT.of ha),rfl,_,rfl,?_⟩;refine a2q (e2.trans (dF0 (by rw[hl];simp))) ?_;exact q H (a0k.refl H)
   |[d0],hr2,hl,q=>
    refine a5b (e1.trans (dT0 hl)) ?_;unfold a1N at hr2;obtain⟨v0,r0,rfl,h0,hn⟩:=hr2;unfold a1N at hn;subst hn;refine⟨_,rfl,_,_,_,v0,rfl,rfl,SqT.of ha,rfl,?_⟩;refine⟨(by decide),fun p hp=>?_⟩;have sm:=a0k.upd (o:=.tup [.str "whole",.str "word"]) hp;exact⟨d0,p,w2,h0.same sm,rfl,a0b,q _ sm⟩
   |[d0,d1],hr2,hl,q=>
    refine a2q (e1.trans (dF0 (by rw[hl];simp))) ?_;unfold a1N at hr2;obtain⟨v0,r0,rfl,h0,hn⟩:=hr2;unfold a1N at hn;obtain⟨v1,r1,rfl,h1,hn⟩:=hn;unfold a1N at hn;subst hn;refine⟨_,rfl,_,_,rfl,.inr (SqT.of ha),rfl,_,rfl,?_⟩;refine a5b (e2.trans (dT0 hl)) ?_;refine⟨_,rfl,_,_,_,v0,rfl,rfl,SqT.of ha,rfl,_,rfl,_,_,_,v1,rfl,rfl,SqT.of ha,rfl,?_⟩;exact⟨v0,v1,d0,d1,rfl,h0,h1,q H (a0k.refl H)⟩
   |d0::d1::d2::r,hr2,hl,q=>
    refine a2q (e1.trans (dF0 (by rw[hl];simp))) ?_;refine⟨_,rfl,_,_,rfl,.inr (SqT.of ha),rfl,_,rfl,?_⟩;refine a2q (e2.trans (dF0 (by rw[hl];simp))) ?_;exact q H (a0k.refl H)
  ·have e:(tyD d=="tuple")=false:=beq_eq_false_iff_ne.mpr ht
   refine⟨_,rfl,_,_,_,_,rfl,hi.1,a2t.trans ((a5d _ hi.2).trans (congrArg some e)),_,rfl,?_⟩;refine a6a ?_;have hq:a2Y d=false:=by
    cases d<;>first |rfl |exact(ht rfl).elim
   have:=q H (a0k.refl H)
   rw[hq] at this;exact this
def a8Z:Sp:=fun vs H Q _=>∃(v:V) (d:Dt),vs=[v]/\Rep H d v/\∀H',a0k H H'->Q (.bl (a3o d)) H'
theorem b2G {f fP:Addr}{fd fdP:FuncData}(F:Fun K "is_kind" "is_kind" (top 15) f fd)(B:Bl mg)(DP:Df K mg "is_plain" (top 13) fP fdP)(GP:a0y P w K mg base CX0 3 fP fdP ["thing"] a6f):a0y P w K mg base CX0 4 f fd ["thing"] a8Z:=by
 have sc:a0o ["thing"] ["thing"] (a0e (top 15)):=.k (by decide +kernel);have bP:=DP.fn.b1 "thing" (by intros;rfl);refine F.ok sc (fun vs H Q E h=>?_) (fun cdv A outer s H vs Q E hr h=>?_)
 ·obtain⟨v,d,rfl,_⟩:=h
  rfl
 ·obtain⟨v,d,rfl,hd,q⟩:=h
  have hu:=a2o hr;refine⟨_,a0d (a0F (a0D (a0j GP hr (by rfl) DP.mg DP.fn.kp bP .nil a0u (a0a (pv 0) a0c))) (a0h (a0s a3m)) a0m)
   (a0d (a0F (a1k (a0D (a0i a2n (by rfl) B.isi boot_isi (a0a (pv 0) (a0a (a0v (v:=.ty "tuple") (by rfl) B.tuple boot_tuple rfl) a0c))))) (a0h (a0s a3m)) a0m)
   (a0d (a0F (a0z a2l (a0i a0K (by rfl) B.len PySem.boot_len (a0a (pv 0) a0c)) a0g (a0B _)) (a0h (a0s (a1a (a7r (Nat.lt_of_succ_lt hu)) (a0x a1o (pv 0) a0g (fun _ _=>rfl)) a0M (a0B _)))) a0m)
   (a0h (a0s (a2d (a1a a2l (a0i a0K (by rfl) B.len PySem.boot_len (a0a (pv 0) a0c)) a0g (a0B _))
    (a2d (a1a (b1s hu) (a0x a1o (pv 0) a0g (fun _ _=>rfl)) (a0P (a0a a0M (a0a a0M (a0a a0M a0c)))) (by with_unfolding_all rfl))
    (a2x (a0j GP hr (by rfl) DP.mg DP.fn.kp bP .nil a0u (a0a (a0x a1o (pv 0) a0g (fun _ _=>rfl)) a0c))))))))),?_⟩
  refine⟨_,rfl,v,d,rfl,hd,fun H1 s1=>?_⟩;refine⟨_,rfl,?_⟩
  by_cases hp:a2Y d=true
  ·refine a5b hp ?_
   have e:a3o d=true:=by unfold a3o;rw[hp];rfl
   have:=q H1 s1
   rw[e] at this;exact this
  ·refine a2q (by simpa using hp) ?_
   have ek:a3o d=b0e d:=by unfold a3o;rw[(by simpa using hp:a2Y d=false)];rfl
   rw[ek] at q;have hd1:=hd.same s1;have hi:=hd1.is (K:=K)
   by_cases ht:tyD d="tuple"
   ·obtain⟨ds,rfl⟩:∃ds,d=.tup ds:=by
     cases d<;>first |exact⟨_,rfl⟩ | (simp[tyD] at ht)
    have hd':=hd1;unfold Rep at hd';obtain⟨a,xs,rfl,ha,hr2⟩:=hd';have hl:=hr2.length;refine⟨_,rfl,_,_,_,_,rfl,hi.1,a2t.trans (show a0R "tuple" "tuple"=some true by decide +kernel),_,rfl,?_⟩;refine a1W ?_;refine⟨_,rfl,_,_,rfl,.inr (SqT.of ha),rfl,_,rfl,?_⟩;have e1:decide (V.int (xs.length:Int)=V.int 1)=decide (xs.length=1):=a8g (k:=1);have e2:decide (V.int (xs.length:Int)=V.int 2)=decide (xs.length=2):=a8g (k:=2)
    match ds,hr2,hl,q with
    |[],hr2,hl,q=>
     refine a2q (e1.trans (dF0 (by rw[hl];simp))) ?_;refine⟨_,rfl,_,_,rfl,.inr (SqT.of ha),rfl,_,rfl,?_⟩;refine a2q (e2.trans (dF0 (by rw[hl];simp))) ?_;exact q H1 s1
    |[d0],hr2,hl,q=>
     refine a5b (e1.trans (dT0 hl)) ?_;unfold a1N at hr2;obtain⟨v0,r0,rfl,h0,hn⟩:=hr2;unfold a1N at hn;subst hn;refine⟨_,rfl,_,_,_,v0,rfl,rfl,SqT.of ha,rfl,?_⟩;exact⟨d0,_,h0,rfl,q H1 s1⟩
    |[d0,d1],hr2,hl,q=>
     refine a2q (e1.trans (dF0 (by rw[hl];simp))) ?_;unfold a1N at hr2;obtain⟨v0,r0,rfl,h0,hn⟩:=hr2;unfold a1N at hn;obtain⟨v1,r1,rfl,h1,hn⟩:=hn;unfold a1N at hn;subst hn;refine⟨_,rfl,_,_,rfl,.inr (SqT.of ha),rfl,_,rfl,?_⟩;refine a5b (e2.trans (dT0 hl)) ?_;refine⟨_,rfl,_,_,_,v0,rfl,rfl,SqT.of ha,rfl,?_⟩;refine⟨(by decide),fun p hp'=>?_⟩;have sm:=a0k.upd (o:=.tup [.str "list",.str "some",.str "once"]) hp';have s2:=s1.trans sm;refine⟨d0,p,w3,h0.same sm,rfl,a0b,_,rfl,?_⟩;have em:b0e (.tup [d0,d1])=(w3.any (a1u d0)&&a2Y d1):=rfl;rw[em] at q
     by_cases c:w3.any (a1u d0)=true
     ·refine a5b c ?_
      rw[c,Bool.true_and] at q;refine⟨_,rfl,_,_,_,v1,rfl,rfl,SqT.of (sm _ _ ha),rfl,?_⟩;exact⟨v1,d1,rfl,h1.same sm,fun H3 s3=>q H3 (s2.trans s3)⟩
     ·refine a2q (by simpa using c) ?_
      rw[(by simpa using c:w3.any (a1u d0)=false),Bool.false_and] at q;exact q _ s2
    |d0::d1::d2::r,hr2,hl,q=>
     refine a2q (e1.trans (dF0 (by rw[hl];simp))) ?_;refine⟨_,rfl,_,_,rfl,.inr (SqT.of ha),rfl,_,rfl,?_⟩;refine a2q (e2.trans (dF0 (by rw[hl];simp))) ?_;exact q H1 s1
   ·have e:(tyD d=="tuple")=false:=beq_eq_false_iff_ne.mpr ht
    refine⟨_,rfl,_,_,_,_,rfl,hi.1,a2t.trans ((a5d _ hi.2).trans (congrArg some e)),_,rfl,?_⟩;refine a6a ?_;have hq:b0e d=false:=by
     cases d<;>first |rfl |exact(ht rfl).elim
    have:=q H1 s1
    rw[hq] at this;exact this
end
end My
namespace L2
open PySem PySem.Spec PyProof.Rows
section
variable {X:Cx}{pins:List (Addr×Obj)}{σ:St}{H:Hp}{s:Shared}{a:Addr}{kvs:List (Key×V)}{o:Obj}
theorem Inv.freeze (I:Inv X pins σ H s)(e:H a=some (.dK kvs))(ho:s.heap.get? a=some o):Inv X pins σ (upd H a (.frz o (.dK kvs))) s:=by
 have ne:∀b u,H b=some u->u≠.dK kvs->b≠a:=fun b u q n z=>by
  subst z;rw[e] at q;exact n (Option.some.inj q).symm
 have nn:∀b,H b=none->b≠a:=fun b q z=>by subst z;rw[e] at q;cases q
 refine⟨I.ok,I.os,I.bare,⟨I.base.keep,I.base.slot,fun b ob q n hx=>?_,I.base.there,fun b xs q=>?_,fun b ob u q=>?_,fun b ps q=>?_⟩,I.loc,I.cell,?_,fun x c q=>?_,fun p hp=>?_,fun b u q=>?_,I.len⟩
 ·have h:=I.base.free b ob q n hx
  rw[a0f (nn b h)];exact h
 ·have h:=I.base.tups b xs q
  rw[a0f (ne b _ h (by simp))];exact h
 ·have h:=I.base.frzs b ob u q
  rw[a0f (ne b _ h (by simp))];exact h
 ·obtain⟨m,h⟩:=I.base.tbls b ps q
  exact⟨m,by rw[a0f (ne b _ h (by simp))];exact h⟩
 ·rw[a0f (nn _ I.free)]
  exact I.free
 ·rw[a0f (nn _ (I.freeC x c q))]
  exact I.freeC x c q
 ·obtain⟨h1,h2,h3⟩:=I.pin p hp
  exact⟨h1,by rw[a0f (nn _ h2)];exact h2,h3⟩
 ·by_cases hb:b=a
  ·subst hb
   rw[a0b] at q;cases q;exact⟨ho,I.hok b _ e⟩
  ·rw[a0f hb] at q
   exact(I.hok b u q).stay (fun c v _ r=>r) (fun c r=>by rw[a0f (ne c _ r (by simp))];exact r) fun c xs r=>by rw[a0f (ne c _ r (by simp))];exact r
theorem Inv.thaw (I:Inv X pins σ H s)(n0:∀ob u,X.H₀ a≠some (.frz ob u))(e:H a=some (.frz o (.dK kvs))):Inv X pins σ (upd H a (.dK kvs)) s:=by
 have ne:∀b u,H b=some u->u≠.frz o (.dK kvs)->b≠a:=fun b u q n z=>by
  subst z;rw[e] at q;exact n (Option.some.inj q).symm
 have nn:∀b,H b=none->b≠a:=fun b q z=>by subst z;rw[e] at q;cases q
 refine⟨I.ok,I.os,I.bare,⟨I.base.keep,I.base.slot,fun b ob q n hx=>?_,I.base.there,fun b xs q=>?_,fun b ob u q=>?_,fun b ps q=>?_⟩,I.loc,I.cell,?_,fun x c q=>?_,fun p hp=>?_,fun b u q=>?_,I.len⟩
 ·have h:=I.base.free b ob q n hx
  rw[a0f (nn b h)];exact h
 ·have h:=I.base.tups b xs q
  rw[a0f (ne b _ h (by simp))];exact h
 ·have h:=I.base.frzs b ob u q
  rw[a0f (fun z=>by subst z;exact n0 _ _ q)];exact h
 ·obtain⟨m,h⟩:=I.base.tbls b ps q
  exact⟨m,by rw[a0f (ne b _ h (by simp))];exact h⟩
 ·rw[a0f (nn _ I.free)]
  exact I.free
 ·rw[a0f (nn _ (I.freeC x c q))]
  exact I.freeC x c q
 ·obtain⟨h1,h2,h3⟩:=I.pin p hp
  exact⟨h1,by rw[a0f (nn _ h2)];exact h2,h3⟩
 ·by_cases hb:b=a
  ·subst hb
   rw[a0b] at q;cases q;exact(I.hok b _ e).2
  ·rw[a0f hb] at q
   exact(I.hok b u q).stay (fun c v _ r=>r) (fun c r=>by rw[a0f (ne c _ r (by simp))];exact r) fun c xs r=>by rw[a0f (ne c _ r (by simp))];exact r
theorem Inv.dk_obj (I:Inv X pins σ H s)(e:H a=some (.dK kvs)):∃o,s.heap.get? a=some o:=by
 obtain⟨_,_,_,_,o,_,_,g,_⟩:=I.hok a _ e;exact⟨o,g⟩
theorem Inv.not_frz (I:Inv X pins σ H s)(e:H a=some (.dK kvs)):∀ob u,X.H₀ a≠some (.frz ob u):=fun ob u q=>by
 have:=I.base.frzs a ob u q
 rw[e] at this;cases this
def b5S (a:Addr)(o:Obj)(kvs:List (Key×V))(D:a5Y):a5Y where
 nx:=fun σ' H'=>H' a=some (.frz o (.dK kvs))/\D.nx σ' (upd H' a (.dK kvs))
 rt:=fun v H'=>H' a=some (.frz o (.dK kvs))/\D.rt v (upd H' a (.dK kvs))
 bk:=fun σ' H'=>H' a=some (.frz o (.dK kvs))/\D.bk σ' (upd H' a (.dK kvs))
 ct:=fun σ' H'=>H' a=some (.frz o (.dK kvs))/\D.ct σ' (upd H' a (.dK kvs))
def sFrz (t:TS):TS:=fun D σ H=>∃a kvs,H a=some (.dK kvs)/\∀o,t (b5S a o kvs D) σ (upd H a (.frz o (.dK kvs)))
theorem a5F {st:Stmt}{t:TS}(h:PS X st t):PS X st (sFrz t):=by
 intro pins s σ H D I hq;obtain⟨a,kvs,e,q⟩:=hq;obtain⟨o,ho⟩:=I.dk_obj e;have n0:=I.not_frz e;refine thn (h pins s σ _ _ (I.freeze e ho) (q o)) fun f s' hs=>?_;cases f with
 |next=>obtain⟨σ',H',I',e',z⟩:=hs;exact⟨σ',_,I'.thaw n0 e',z⟩
 |brk=>obtain⟨σ',H',I',e',z⟩:=hs;exact⟨σ',_,I'.thaw n0 e',z⟩
 |cont=>obtain⟨σ',H',I',e',z⟩:=hs;exact⟨σ',_,I'.thaw n0 e',z⟩
 |ret u=>obtain⟨v,σ',H',I',r,e',z⟩:=hs;exact⟨v,σ',_,I'.thaw n0 e',r,z⟩
end
def b1S (o:Obj):Nat:=match o.data with
 | .dict _ ep=>ep
 |_=>0
theorem a7I {P:Program}{w:World}:∀{k:Key} {u:Value},(a0n P w).is k u=true->a0S (kV k) u:=by
 intro k u h;rcases a0J (k:=k) (v:=u) h with ⟨i,t,rfl,rfl⟩ |⟨x,t,rfl,rfl⟩
 ·exact⟨t,rfl⟩
 ·exact⟨t,rfl⟩
def Itd (a:Addr)(o:Obj)(kvs:List (Key×V)):It:=
 ⟨fun i H=>i<kvs.length/\H a=some (.frz o (.dK kvs)),fun i H x H'=>H'=H/\∃k v,kvs[i]? =some (k,v)/\x=kV k,fun i H=>kvs.length<=i/\H a=some (.frz o (.dK kvs))⟩
section
variable {X:Cx}
theorem a7t:∀{kvs:List (Key×V)} {vs:List (Key×Value)} {i:Nat} {p:Key×V},KV kvs vs->kvs[i]? =some p->∃u,vs[i]? =some (p.1,u)/\a0S p.2 u
 |_,_,_,_,.nil,e=>by simp at e
 |_,_,0,_,.cons (b:=q) r _,e=>by
  simp at e;subst e;obtain⟨q1,q2⟩:=q;obtain⟨r1,r2⟩:=r;exact⟨q2,by rw[List.getElem?_cons_zero];exact congrArg (fun z=>some (z,q2)) r1.symm,r2⟩
 |_,_,i+1,p,.cons _ t,e=>by
  obtain⟨u,h1,h2⟩:=a7t (i:=i) (p:=p) t (by simpa using e);exact⟨u,by simpa using h1,h2⟩
theorem Inv.dictAt {pins:List (Addr×Obj)}{σ:St}{H:Hp}{s:Shared}{a:Addr}{o:Obj}{kvs:List (Key×V)}(I:Inv X pins σ H s)(e:H a=some (.frz o (.dK kvs))) :
  ∃vs,KV kvs vs/\s.heap.DictAt (a0n X.prog X.w) a vs (b1S o)/\(a==sysModules)=false:=by
 obtain⟨g,_,hs,vs,kv,o',es,ep,g',ex,hd,hk,hp,hn⟩:=I.hok a _ e;rw[g] at g';cases g';have he:b1S o=ep:=by unfold b1S;rw[hd]
 exact⟨vs,kv,⟨o,es,g,ex,by rw[he];exact hd,hk,hp,hn⟩,hs⟩
theorem KV.len {kvs:List (Key×V)}{vs:List (Key×Value)}(r:KV kvs vs):kvs.length=vs.length:=Paired.length r
theorem a8s {P:Program}{w:World}{K:Fg0}{tg:Expr}(a it:Addr)(o:Obj)(kvs:List (Key×V)):a9U P w K tg (Itd a o kvs) [it] it (fun i h=>h.IsKeyIter it a i kvs.length (b1S o)) where
 mem:=by simp
 obj:=fun i h st b hb=>by
  have e:b=it:=by simpa using hb
  subst e;obtain⟨o,e,c,d⟩:=st;exact⟨o,e,fun v z=>by rw[d] at z;cases z⟩
 keep:=fun i h h' st k=>st.at fun o e=>k it (by simp) o e
 item:=by
  intro X hP hw hK hc i pins s σ H E I hf st hg;subst hP hw hK;obtain⟨hi,hq⟩:=hg;obtain⟨vs,kv,da,_⟩:=I.dictAt hq;have hl:=kv.len;obtain⟨u,hu,ru⟩:=a7t kv (show kvs[i]? =some (kvs[i].1,kvs[i].2) by simp[hi]);obtain⟨f0,f1,f2,f3,f4,f5⟩:=hf it (by simp);rw[hl] at st;refine wpAny_pyNext_dict_item st da hu fun key h' hkey st' sb=>?_;rw[<-hl] at st';have I1:Inv X pins σ H { s with heap:=h' }:=I.turned (t':=s.toks) (fun b o hb e=>(sb.2 b hb).trans e) f0 f1 f3 f4 f5;obtain⟨oi,e,c,d⟩:=id st';exact⟨key,rfl,a8Y (s:={ s with heap:=h' }) e c d (by decide) ⟨kV kvs[i].1,H,I1,a7I hkey,⟨rfl,kvs[i].1,kvs[i].2,by simp[hi],rfl⟩,st',fun b hb=>(hf b hb).1⟩⟩
 done:=by
  intro X hP hw hK hc i pins s σ H E I hf st hg;subst hP hw hK;obtain⟨hi,hq⟩:=hg;obtain⟨vs,kv,da,_⟩:=I.dictAt hq;have hl:=kv.len;obtain⟨f0,f1,f2,f3,f4,f5⟩:=hf it (by simp);rw[hl] at st;exact wpAny_pyNext_dict_end (I.ok.hd hc) st da (by simp;omega) fun h' eb=>⟨rfl,I.turned (t':=s.toks) (fun b o hb e=>eb b o hb e) f0 f1 f3 f4 f5⟩
 self:=fun _ _ _ _ _ st h=>wpAny_pyIter_keyiter st h
def b4C (tl:TE):TI:=fun σ H R=>tl σ H fun x H1=>∃a o kvs,x=.ref a/\H1 a=some (.frz o (.dK kvs))/\R (Itd a o kvs) H1
theorem a6g {tg l:Expr}{tl:TE}(hl:PE X l tl):PI X tg l (b4C tl):=by
 intro pins s σ H R I h;refine thn (hl pins s σ H _ I h) fun v s1 ⟨x,H1,I1,r1,q1⟩=>?_;obtain⟨a,o,kvs,e,hq,q⟩:=q1;subst e;cases r1;obtain⟨vs,kv,da,hs⟩:=I1.dictAt hq;refine wpAny_pyIter_dict hs da ?_;refine⟨s1.heap.objs.size,[s1.heap.objs.size],_,_,H1,rfl,I1.kept (t':=s1.toks) fun b o e=>hP0 _ e,a8s a _ o kvs,⟨_,hS0 _ rfl,rfl,by rw[kv.len];rfl⟩,fun b hb=>?_,q⟩;have e:b=s1.heap.objs.size:=by simpa using hb
 subst e;exact I1.fpOk (nR0 _) (I1.hok.fresh (nR0 _))
theorem a3w {a:Addr}{o:Obj}{kvs:List (Key×V)}{g:TG}{tb:TS}{D:a5Y}{σ:St}{H:Hp}(Pv:Nat->St->Hp->Prop)(h0:Pv 0 σ H)(hl:∀i σ H,i<=kvs.length->Pv i σ H->H a=some (.frz o (.dK kvs)))
  (hs:∀i k v σ H,kvs[i]? =some (k,v)->Pv i σ H->g (kV k) σ H fun σ2 H2=>tb { D with nx:=Pv (i+1),ct:=Pv (i+1),bk:=D.nx } σ2 H2) (hd:∀σ H,Pv kvs.length σ H->D.nx σ H) :
  ∃W:Nat->Nat->St->Hp->Prop,(∃m,W 0 m σ H)/\∀i m σ H,W i m σ H →
   ((Itd a o kvs).stop i H/\D.nx σ H)\/((Itd a o kvs).go i H/\∃N:St->Hp->Prop,(∀σ' H',N σ' H'->∃m',m'<m/\W (i+1) m' σ' H')/\∀x H',(Itd a o kvs).yld i H x H'->g x σ H' fun σ2 H2=>tb { D with nx:=N,ct:=N,bk:=D.nx } σ2 H2):=by
 refine⟨fun i m σ H=>m=kvs.length-i/\i<=kvs.length/\Pv i σ H,⟨kvs.length,by simp,zL0 _,h0⟩,?_⟩;rintro i m σ H ⟨rfl,hi,p⟩;have q:=hl i σ H hi p
 by_cases hlt:i<kvs.length
 ·refine .inr ⟨⟨hlt,q⟩,Pv (i+1),fun σ' H' p'=>⟨kvs.length-(i+1),by omega,rfl,hlt,p'⟩,fun x H' y=>?_⟩
  obtain⟨e,k,v,hk,ex⟩:=y;subst e ex;exact hs i k v σ _ hk p
 ·have e:i=kvs.length:=by omega
  subst e;exact .inl ⟨⟨nR0 _,q⟩,hd σ H p⟩
theorem a6h:∀{zs:List Str} {us:List Value},a0V (zs.map V.str) us->StrsAre us zs
 |[],_,r=>by rw[List.map_nil] at r;cases r;exact .nil
 |z::zs,_,r=>by
  rw[mN0] at r;cases r with
  |cons h t=>
   obtain⟨k,rfl⟩:=h;exact .cons _ _ (a6h t)
theorem a2X:∀{us:List Value} {zs:List Str},StrsAre us zs->a0V (zs.map V.str) us
 |_,_,.nil=>.nil
 |_,_,.cons _ k t=>.cons ⟨_,rfl⟩ (a2X t)
theorem a3I:a1e X (.builtin "sorted") (fun xs H Q=>∃p zs,xs=[.ref p]/\SqL X.K H p (zs.map V.str)/\zs.length<64/\∀l ys,H l=none->ys.Perm zs->sortedS ys=true->Q (.ref l) (upd H l (.lst (ys.map V.str)))):=by
 intro pins s σ H xs us Q I r h;obtain⟨p,zs,rfl,hq,h64,q⟩:=h;obtain⟨u,rfl,rx⟩:=a2b r;cases rx;obtain⟨its,r',pl,hz⟩:=I.list hq;have hl:=r'.length;rw[lM0] at hl;refine sorted_strs pl.isList (a6h r') (by omega) fun out ss' h1 h2 h3=>?_;obtain⟨e,he⟩:=sortedAll_at s.heap its out;have hlen:ss'.length=zs.length:=h2.length_eq;have hv:=a2X h1;refine⟨.ref (s.heap.objs.size+1),_,I.laid (t':=s.toks) (o:=.lst (ss'.map V.str)) (fun b ob e'=>sortedAll_old e') (Nat.le_succ _) ?_,rfl,q _ ss' (I.hok.fresh (Nat.le_succ _)) h2 h3⟩;exact⟨by rw[lM0,hlen];rw[lM0] at hz;exact hz,out.toList,e,hv,he⟩
theorem a2O:entryFor table "dict_itemiterator.__iter__"=some Builtin.«dict_keyiterator.__iter__»:=
 entryFor_alias (id':="dict_keyiterator.__iter__") (by kernel_rfl) rfl (by decide +kernel) (by kernel_rfl)
theorem a4T {prog:Program}{w:World}{A:Around}{E:Vs0}{s:Shared}{it d:Addr}{i n ep:Nat}{ok ov:Value}{Q:Vs0}(hit:IsItemIter s.heap it d i n ep ok ov)(h:Q (.ref it) s):wpAny (model prog w) A (pyIter (.ref it)) Q E s:=by
 have hT:s.TypeIs (.ref it) "dict_itemiterator":=⟨_,hit,rfl⟩;refine wpAny_pyIter_slot hT F.slot_dict_itemiterator_iter (wpAny_call_entry F.slot_dict_itemiterator_iter hT a2O ?_ (F.args_dict_itemiterator_iter_1 _));show wpAny _ _ (ret (.ref it)) _ _ s;exact wP0 ⟨_,rfl,"dict_itemiterator",_,hT,F.slot_dict_itemiterator_next.lookup,h⟩
def Itm (a:Addr)(o:Obj)(kvs:List (Key×V)):It:=
 ⟨fun i H=>i<kvs.length/\H a=some (.frz o (.dK kvs)),fun i H x H'=>∃k v p,kvs[i]? =some (k,v)/\x=.ref p/\H p=none/\H'=upd H p (.tup [kV k,v]),fun i H=>kvs.length<=i/\H a=some (.frz o (.dK kvs))⟩
theorem a7Z {P:Program}{w:World}{K:Fg0}{es:List Expr}{x1:Nat}{tp:Pos}(a it:Addr)(o:Obj)(kvs:List (Key×V)):a9U P w K (.Tuple es x1 tp) (Itm a o kvs) [it] it (fun i h=>∃ok ov,IsItemIter h it a i kvs.length (b1S o) ok ov) where
 mem:=by simp
 obj:=fun i h st b hb=>by
  have e:b=it:=by simpa using hb
  subst e;obtain⟨ok,ov,st⟩:=st;exact⟨_,st,fun v z=>by cases z⟩
 keep:=fun i h h' st k=>by
  obtain⟨ok,ov,st⟩:=st;exact⟨ok,ov,k it (by simp) _ st⟩
 item:=by
  intro X hP hw hK hc i pins s σ H E I hf st hg;subst hP hw hK;obtain⟨hi,hq⟩:=hg;obtain⟨ok,ov,st⟩:=st;obtain⟨vs,kv,da,_⟩:=I.dictAt hq;have hl:=kv.len;obtain⟨u,hu,ru⟩:=a7t kv (show kvs[i]? =some (kvs[i].1,kvs[i].2) by simp[hi]);obtain⟨f0,f1,f2,f3,f4,f5⟩:=hf it (by simp);have hit:it<s.heap.objs.size:=hL0 st;rw[hl] at st;refine wpAny_pyNext_items_item st da hu fun key h' hkey st' ht hsz kp=>?_;refine⟨_,rfl,?_⟩;refine wpAny_letOwnedTupleGo_items (s:={ s with heap:=h' }) st' fun h'' st'' sb=>?_;rw[<-hl] at st'';have I0:Inv X pins σ H { s with heap:=s.heap.update it fun _=>{ cls:=.type "dict_itemiterator",dict:=none,data:=.fields #[.none,.bool false,.ref a,.int (i+1:Nat) 0,.int kvs.length 0,.int (b1S o) 0,key,u],slots:=#[] } }:=
   I.turned (t':=s.toks) (fun b ob hb e=>by rw[Heap.get?_update_ne _ _ _ _ hb];exact e) f0 f1 f3 f4 f5
  have hp:H s.heap.objs.size=none:=I.hok.fresh (nR0 _);refine⟨.ref s.heap.objs.size,upd H s.heap.objs.size (.tup [kV kvs[i].1,kvs[i].2]),I0.laid (t':=s.toks) (h':=h'') (fun b ob e=>?_) (by rw[Heap.size_update];exact nR0 _) ?_,rfl,⟨_,_,_,by simp[hi],rfl,hp,rfl⟩,⟨key,u,st''⟩,fun b hb=>?_⟩
  ·by_cases hb:b=it
   ·subst hb
    rw[Heap.get?_update_self _ st rfl] at e;rw[<-e];exact st''
   ·rw[Heap.get?_update_ne _ _ _ _ hb] at e
    exact(sb.2 b hb).trans (kp b ob hb e)
  ·refine⟨(show 2<=sizeLine by decide),[key,u],.cons (a7I hkey) (.cons ru .nil),⟨_,(sb.2 _ (Nat.ne_of_gt hit)).trans ht,rfl,_,rfl⟩⟩
  ·have e:b=it:=by simpa using hb
   subst e;rw[a0f (nL0 hit)];exact f0
 done:=by
  intro X hP hw hK hc i pins s σ H E I hf st hg;subst hP hw hK;obtain⟨hi,hq⟩:=hg;obtain⟨ok,ov,st⟩:=st;obtain⟨vs,kv,da,_⟩:=I.dictAt hq;have hl:=kv.len;obtain⟨f0,f1,f2,f3,f4,f5⟩:=hf it (by simp);rw[hl] at st;exact wpAny_pyNext_items_end (I.ok.hd hc) st da (by simp;omega) fun h' eb=>⟨rfl,I.turned (t':=s.toks) (fun b o hb e=>eb b o hb e) f0 f1 f3 f4 f5⟩
 self:=fun A i s Q E st h=>by
  obtain⟨ok,ov,st⟩:=st;exact a4T st h
def b4q (tl:TE):TI:=fun σ H R=>tl σ H fun x H1=>∃a o kvs,x=.ref a/\H1 a=some (.frz o (.dK kvs))/\R (Itm a o kvs) H1
theorem a7E {es:List Expr}{x1:Nat}{tp:Pos}{l:Expr}{tl:TE}{apos cpos:Pos}(hl:PE X l tl)(hbase:attributeBase l "items" X.env (eval l X.env)=eval l X.env:=by rfl)(hline:(apos.endLine==cpos.line)=true:=by rfl) :
  PI X (.Tuple es x1 tp) (.Call (.Attribute l "items" apos) [] [] cpos) (b4q tl):=by
 intro pins s σ H R I h;refine wpAny_Call_method0_late hbase hline (thn (hl pins s σ H _ I h) fun v s1 ⟨x,H1,I1,r1,q1⟩=>?_);obtain⟨a,o,kvs,e,hq,q⟩:=q1;subst e;cases r1;obtain⟨vs,kv,da,hs⟩:=I1.dictAt hq;obtain⟨g,_⟩:=I1.hok a _ hq;have ex:o.ExactDict:=by
  obtain⟨o',es',g',x',_⟩:=id da;rw[g] at g';cases g';exact x'
 refine⟨"dict","dict.items",F.plainAttrs_dict,F.slot_dict_items,F.type_dict_items,da.dictOf.typeIs,(fun b e=>by cases e;exact⟨o,g,ex.2.1⟩),Calls.callWith_builtin rfl (PySem.evalArgs_none ?_)⟩;refine call_meetsIn F.slot_dict_items da.dictOf.typeIs F.entry_dict_items (F.args_dict_items_1 _) (meets_dict_items (a0n X.prog X.w) a hs) ⟨⟨vs,da.dictOf⟩,?_⟩;have I2:Inv X pins σ H1 { s1 with heap:=s1.heap.push { cls:=.type "dict_items",data:=.fields #[.ref a] } }:=I1.kept (t':=s1.toks) fun b o e=>hP0 _ e;refine wpAny_pyIter_items (s:={ s1 with heap:=s1.heap.push { cls:=.type "dict_items",data:=.fields #[.ref a] } }) (knd:=a0n X.prog X.w) (kvs:=vs) (ep:=b1S o) ⟨_,hS0 _ rfl,rfl,rfl⟩ (da.push _) ?_;refine⟨_,[_],_,_,H1,rfl,I2.kept (t':=s1.toks) fun b o e=>hP0 _ e,a7Z a _ o kvs,⟨.none,.none,by rw[kv.len];exact hS0 _ rfl⟩,fun b hb=>?_,q⟩;have e:=mS0.mp hb;subst e;exact I2.fpOk (nR0 _) (I2.hok.fresh (nR0 _))
theorem a5V {a:Addr}{o:Obj}{kvs:List (Key×V)}{g:TG}{tb:TS}{D:a5Y}{σ:St}{H:Hp}(Pv:Nat->St->Hp->Prop)(h0:Pv 0 σ H)(hl:∀i σ H,i<=kvs.length->Pv i σ H->H a=some (.frz o (.dK kvs)))
  (hs:∀i k v p σ H,kvs[i]? =some (k,v)->Pv i σ H->H p=none->g (.ref p) σ (upd H p (.tup [kV k,v])) fun σ2 H2=>tb { D with nx:=Pv (i+1),ct:=Pv (i+1),bk:=D.nx } σ2 H2) (hd:∀σ H,Pv kvs.length σ H->D.nx σ H) :
  ∃W:Nat->Nat->St->Hp->Prop,(∃m,W 0 m σ H)/\∀i m σ H,W i m σ H →
   ((Itm a o kvs).stop i H/\D.nx σ H)\/((Itm a o kvs).go i H/\∃N:St->Hp->Prop,(∀σ' H',N σ' H'->∃m',m'<m/\W (i+1) m' σ' H')/\∀x H',(Itm a o kvs).yld i H x H'->g x σ H' fun σ2 H2=>tb { D with nx:=N,ct:=N,bk:=D.nx } σ2 H2):=by
 refine⟨fun i m σ H=>m=kvs.length-i/\i<=kvs.length/\Pv i σ H,⟨kvs.length,by simp,zL0 _,h0⟩,?_⟩;rintro i m σ H ⟨rfl,hi,p⟩;have q:=hl i σ H hi p
 by_cases hlt:i<kvs.length
 ·refine .inr ⟨⟨hlt,q⟩,Pv (i+1),fun σ' H' p'=>⟨kvs.length-(i+1),by omega,rfl,hlt,p'⟩,fun x H' y=>?_⟩
  obtain⟨k,v,pa,hk,ex,hn,e⟩:=y;subst e ex;exact hs i k v pa σ H hk p hn
 ·have e:i=kvs.length:=by omega
  subst e;exact .inl ⟨⟨nR0 _,q⟩,hd σ H p⟩
theorem a9B:MtR X "dict.clear" (fun x xs H Q=>∃a kvs,x=.ref a/\xs=[]/\H a=some (.dK kvs)/\Q .non (upd H a (.dK []))):=by
 intro pins s σ H x xs v us Q I rx r h;obtain⟨a,kvs,rfl,rfl,e,q⟩:=h;cases rx;cases r;exact b1T I e fun s' I'=>⟨.non,_,I',rfl,q⟩
theorem a2r:a1e X (.type "dict") (fun xs H Q=>∃a kvs,xs=[.ref a]/\Rd H a (.dK kvs)/\∀p,H p=none->Q (.ref p) (upd H p (.dK kvs))):=by
 intro pins s σ H xs us Q I r h;obtain⟨a,kvs,rfl,e,q⟩:=h;obtain⟨u,rfl,rx⟩:=a2b r;cases rx;exact b0R I e fun p s' hp I'=>⟨.ref p,_,I',rfl,q p hp⟩
end
theorem a1f.there {P:Program}{w:World}{H:Hp}{h:Heap}{a:Addr}{o:HO}(x:a1f P w H h a o):∃ob,h.get? a=some ob:=by
 cases o with
 |lst xs=>obtain⟨_,_,_,_,e⟩:=x;exact⟨_,e⟩
 |tup xs=>obtain⟨_,_,_,o,e,_⟩:=x;exact⟨_,e⟩
 |dK kvs=>obtain⟨_,_,_,_,o,_,_,e,_⟩:=x;exact⟨_,e⟩
 |dT kvs=>obtain⟨_,_,_,_,o,_,_,e,_⟩:=x;exact⟨_,e⟩
 |set S n=>obtain⟨o,_,_,_,e,_⟩:=x;exact⟨_,e⟩
 |ins C dx fs=>obtain⟨_,_,_,e,_⟩:=x;exact⟨_,e⟩
 |own y=>exact x
 |xd fs=>obtain⟨_,⟨_,_,_,e,_⟩,_⟩:=x;exact⟨_,e⟩
 |met f y=>exact⟨_,x⟩
 |rng lo hi=>obtain⟨_,_,_,e⟩:=x;exact⟨_,e⟩
 |frz ob u=>exact⟨_,x.1⟩
 |tbl ps=>exact⟨_,x⟩
 |ext φ=>exact x.2.1
section
variable {X:Cx}{pins:List (Addr×Obj)}{σ:St}{H:Hp}{s:Shared}{h':Heap}{a:Addr}{o:HO}
theorem Inv.none_at (I:Inv X pins σ H s)(hn:s.heap.get? a=none):H a=none:=by
 cases e:H a with
 |none=>rfl
 |some u=>
  obtain⟨ob,q⟩:=(I.hok a u e).there;rw[hn] at q;cases q
theorem Inv.laidAt {t':Nat}(I:Inv X pins σ H s)(k:∀b u,s.heap.get? b=some u->h'.get? b=some u)(hn:s.heap.get? a=none)(new:a1f X.prog X.w (upd H a o) h' a o):Inv X pins σ (upd H a o) { s with heap:=h',toks:=t' }:=by
 have hH:=I.none_at hn;have ne:∀b u,s.heap.get? b=some u->b≠a:=fun b u q z=>by subst z;rw[hn] at q;cases q
 refine I.un ⟨fun b u q _ _ _=>k b u q,fun b u q _ _ _=>⟨u.slots,k b u q⟩,fun b u q n _=>by rw[a0f (ne b u q)];exact n,fun b u q _=>⟨u,k b u q⟩,
  fun b xs q=>by rw[a0f (a0C q hH)];exact q,fun b u xs q=>by rw[a0f (a0C q hH)];exact q,fun b ps q=>⟨#[],by rw[a0f (a0C q hH),q];simp⟩⟩ fun b u q=>?_
 by_cases hb:b=a
 ·subst hb
  rw[a0b] at q;cases q;exact new
 ·rw[a0f hb] at q
  exact(I.hok b u q).stay (fun c v _ r=>k c v r) (fun c r=>by rw[a0f (a0C r hH)];exact r) fun c xs r=>by rw[a0f (a0C r hH)];exact r
end
theorem a6G:∀(us:List Value) (zs:List Str),us.length=zs.length->(∀(j:Nat) (v:Value) (z:Str),us[j]? =some v->zs[j]? =some z->∃t,v=Value.str z t)->StrsAre us zs
 |[],[],_,_=>.nil
 |[],_::_,h,_=>by simp at h
 |_::_,[],h,_=>by simp at h
 |u::us,z::zs,h,f=>by
  obtain⟨t,rfl⟩:=f 0 u z rfl rfl;exact .cons _ _ (a6G us zs (by simpa using h) fun j v y h1 h2=>f (j+1) v y (by simpa using h1) (by simpa using h2))
theorem a6T:∀{kvs:List (Key×V)} {vs:List (Key×Value)} {i:Nat} {q:Key×Value},KV kvs vs->vs[i]? =some q->(kvs.map (·.1))[i]? =some q.1
 |_,_,_,_,.nil,e=>by simp at e
 |_,_,0,_,.cons r _,e=>by
  simp at e;subst e;simp[r.1]
 |_,_,i+1,q,.cons _ t,e=>by
  have h:=a6T (i:=i) (q:=q) t (by simpa using e);simpa using h
section
variable {X:Cx}
theorem a3g (hc:X.calm=true):a1e X (.builtin "sorted") (fun xs H Q=>∃p kvs zs,xs=[.ref p]/\Rd H p (.dK kvs)/\kvs.map (·.1)=zs.map Sum.inr/\zs.length<64/\∀l ys,H l=none->ys.Perm zs->sortedS ys=true->Q (.ref l) (upd H l (.lst (ys.map V.str)))):=by
 intro pins s σ H xs us Q I r h;obtain⟨p,kvs,zs,rfl,hq,hz,h64,q⟩:=h;obtain⟨u,rfl,rx⟩:=a2b r;cases rx;obtain⟨hlen,lo,vs,kv,dd⟩:=hq.ok I.hok;obtain⟨ep,da⟩:=dd.dictAt;have hl:=kv.len;have hl2:kvs.length=zs.length:=by simpa using congrArg List.length hz
 refine Calls.call_function_entry kind_sorted plain_sorted entry_sorted (args_sorted1 _) ?_;unfold Builtin.«sorted»;refine wB0 (m:=checkCount "sorted" 1 1 _) (wP0 ?_);refine wB0 (PySem.W.kdu_collect (PySem.W.kdl_dict (knd:=a0n X.prog X.w) (kvs:=vs) (ep:=ep) lo) (I.ok.hd hc) da (by rw[<-hl];exact hlen) fun h' tk acc hk hacc=>?_);have hS:StrsAre acc.toList zs:=by
  refine a6G _ _ (by rw[aL0,hacc.1,<-hl,hl2]) fun j v z h1 h2=>?_;obtain⟨k,x,hx,hkv⟩:=hacc.2 j v (by rw[<-Array.getElem?_toList];exact h1);have hk':=a6T kv hx;rw[hz,gM0,h2] at hk';have e:Sum.inr z=k:=by simpa using hk'
  subst e;exact a7I hkv
 have hal:acc.toList.length=zs.length:=by
  rw[aL0,hacc.1,<-hl,hl2]
 refine wB0 (wpAny_newList ?_ (by rw[hal,<-hl2];exact hlen));have hoL:(h'.push (seqObj "list" acc.toList.toArray 0)).get? h'.objs.size=some (seqObj "list" acc.toList.toArray 0):=hS0 _ rfl;refine wB0 (wpAny_holding (wpAny_call_entry slot_list_sort ⟨_,hoL,rfl⟩ entry_list_sort (list_sort_treeK (s:={ s with heap:=h'.push (seqObj "list" acc.toList.toArray 0),toks:=tk }) strKind_oneLt hoL hS.keysOf (fun v₁ v₂ rest e=>keyKind_strs (by rw[<-e];exact hS)) (by rw[hal];exact h64) fun st' hp hs=>⟨_,rfl,?_⟩) (args_list_sort _)));obtain⟨ss',h1,h2,h3⟩:=sorted_out_str hS hp hs;obtain⟨e,he⟩:=sortedHeap_at (out:=(arrOf st').map (·.2)) hoL;have hn:s.heap.get? h'.objs.size=none:=by
  cases q:s.heap.get? h'.objs.size with
  |none=>rfl
  |some ob=>exact absurd (hL0 (hk _ _ q)) (Nat.lt_irrefl _)
 refine wP0 ⟨_,rfl,.ref h'.objs.size,_,I.laidAt (t':=tk) (o:=.lst (ss'.map V.str)) (fun b ob q=>?_) hn ?_,rfl,q _ ss' (I.none_at hn) h2 h3⟩
 ·have q':=hk b ob q
  have hlt:=hL0 q';rw[sortedHeap_old (nL0 hlt) (by rw[size_push'];exact Nat.lt_succ_of_lt hlt)];exact hP0 _ q'
 ·exact⟨by rw[lM0,h2.length_eq,<-hl2];exact hlen,_,e,a2X h1,he⟩
def b5d (z:Str):Value->Bool
 | .str a _=>a==z
 |_=>false
theorem a6K {z:Str}:∀{us:List Value} {zs:List Str},StrsAre us zs->us.countP (b5d z)=zs.count z
 |_,_,.nil=>rfl
 |_,_,.cons y t r=>by
  rw[List.countP_cons,a6K r,List.count_cons]
  rfl
theorem b0a:MtR X "list.count" (fun x xs H Q=>∃(p:Addr) (zs:List Str) (z:Str),x=.ref p/\xs=[.str z]/\SqL X.K H p (zs.map V.str)/\Q (.int (zs.count z:Nat)) H):=by
 intro pins s σ H x xs v us Q I rx r h;obtain⟨p,zs,z,rfl,rfl,hq,q⟩:=h;cases rx;obtain⟨u,rfl,t,rfl⟩:=a2b r;obtain⟨its,r',pl,hz⟩:=I.list hq;have hS:=a6h r';obtain⟨⟨c,dd,dt,sl⟩,e,hc,n,hd⟩:=pl.isList;simp only at hc hd;subst hc hd;refine call_meets F.slot_list_count ⟨_,e,rfl⟩ F.entry_list_count (F.args_list_count_2 _ _) (SeqAt.list_countAt p its.toArray n dd sl (.str z t) (b5d z)) ⟨e,fun y hy=>?_,?_⟩
 ·obtain⟨a,ta,rfl⟩:=hS.all y (by simpa using hy)
  exact SeqAt.EqAt.str_str a ta z t
 ·refine⟨.int (zs.count z:Nat),H,I.tok _,⟨s.toks,?_⟩,q⟩
  show Value.int (its.toArray.toList.countP (b5d z):Nat) s.toks=Value.int (zs.count z:Nat) s.toks;rw[List.toList_toArray,a6K hS]
theorem a4N:∀{us:List Value} {zs:List Str} {j:Nat},StrsAre us zs->(h:j<us.length)->∃a t,us[j]=.str a t/\zs[j]? =some a
 |_,_,_,.nil,h=>by simp at h
 |_,_,0,.cons y t _,_=>⟨y,t,rfl,rfl⟩
 |_,_,j+1,.cons y t r,h=>by
  obtain⟨a,t',h1,h2⟩:=a4N (j:=j) r (by simpa using h);exact⟨a,t',by simpa using h1,by simpa using h2⟩
end
end L2
namespace Srt
open PySem PySem.W PyProof.Rows
structure Ord (N:Nat) (r:Nat->Nat->Bool):Prop where
 asym:∀a b,a<N->b<N->r a b=true->r b a=false
 trans:∀a b c,a<N->b<N->c<N->r b a=false->r c b=false->r c a=false
 dist:∀a b,a<N->b<N->a≠b->r a b=true\/r b a=true
def Cmp (N:Nat)(r:Nat->Nat->Bool)(cmp:Nat->Nat->(Bool->Shared->Prop)->Shared->Prop)(P:Shared->Prop):Prop:=
 ∀(i j:Nat) (C:Bool->Shared->Prop) (s:Shared),i<N->j<N->i≠j->P s->(∀s',P s'->C (r i j) s')->cmp i j C s
def PN (N:Nat)(p:Array Nat):Prop:=p.toList.Perm (List.range N)
def Up (r:Nat->Nat->Bool)(p:Array Nat)(k:Nat):Prop:=∀i j,i<=j->j<k->r (p.getD j 0) (p.getD i 0)=false
def Dn (r:Nat->Nat->Bool)(p:Array Nat)(k:Nat):Prop:=∀i j,i<=j->j<k->r (p.getD i 0) (p.getD j 0)=false
section
variable {N:Nat}{r:Nat->Nat->Bool}{cmp:Nat->Nat->(Bool->Shared->Prop)->Shared->Prop}{P:Shared->Prop}{p:Array Nat}
theorem Ord.refl (O:Ord N r){a:Nat}(h:a<N):r a a=false:=by
 cases e:r a a with
 |false=>rfl
 |true=>exact(O.asym a a h h e).symm.trans e |>.symm
theorem PN.size (h:PN N p):p.size=N:=by
 have:=h.length_eq
 simpa using this
theorem a2j {i:Nat}(hi:i<p.size):p.getD i 0=p[i]:=by simp[Array.getD,hi]
theorem PN.lt (h:PN N p){i:Nat}(hi:i<N):p.getD i 0<N:=by
 have hs:=h.size;rw[a2j (by omega)]
 have:p[i]'(by omega)∈p.toList:=by simp
 exact List.mem_range.mp (h.mem_iff.mp this)
theorem PN.inj (h:PN N p){i j:Nat}(hi:i<N)(hj:j<N)(e:p.getD i 0=p.getD j 0):i=j:=by
 have hs:=h.size;rw[a2j (by omega),a2j (by omega)] at e;have nd:p.toList.Nodup:=h.nodup_iff.mpr List.nodup_range;rcases Nat.lt_trichotomy i j with h1 |h1 |h1
 ·exact absurd (show p.toList[i]'(by simp;omega)=p.toList[j]'(by simp;omega) by rw[Array.getElem_toList,Array.getElem_toList];exact e) (List.pairwise_iff_getElem.mp nd i j (by simp;omega) (by simp;omega) h1)
 ·exact h1
 ·exact absurd (show p.toList[j]'(by simp;omega)=p.toList[i]'(by simp;omega) by rw[Array.getElem_toList,Array.getElem_toList];exact e.symm) (List.pairwise_iff_getElem.mp nd j i (by simp;omega) (by simp;omega) h1)
theorem asc (O:Ord N r)(hc:Cmp N r cmp P)(hp:PN N p):∀(f n:Nat) (s:Shared) (Q:Nat->Shared->Prop),1<=n->n+f<=N->Up r p n->P s →
  (∀m s',n<=m->m<=n+f->(m=n+f\/r (p.getD m 0) (p.getD (m-1) 0)=true)->Up r p m->P s'->Q m s')->(kas_asc p f n).kasWp cmp Q s
 |0,n,s,Q,h1,hn,hu,hP,hq=>hq n s (nR0 _) (nR0 _) (.inl rfl) hu hP
 |f+1,n,s,Q,h1,hn,hu,hP,hq=>by
  show cmp _ _ _ s;refine hc _ _ _ s (hp.lt (by omega)) (hp.lt (by omega)) (fun z=>by have:=hp.inj (by omega) (by omega) z;omega) hP fun s' hs'=>?_;cases e:r (p.getD n 0) (p.getD (n-1) 0) with
  |true=>
   dsimp only
   rw[if_pos rfl];exact hq n s' (nR0 _) (by omega) (.inr e) hu hs'
  |false=>
   dsimp only
   rw[if_neg (by decide)];refine asc O hc hp f (n+1) s' Q (by omega) (by omega) (fun i j hij hj=>?_) hs' fun m s'' h2 h3 h4 h5 h6=>hq m s'' (by omega) (by omega) (h4.imp (fun z=>by omega) id) h5 h6
   by_cases hjn:j<n
   ·exact hu i j hij hjn
   ·have ej:j=n:=by omega
    subst ej
    by_cases hi:i=j
    ·subst hi
     exact O.refl (hp.lt (by omega))
    ·exact O.trans _ _ _ (hp.lt (by omega)) (hp.lt (by omega)) (hp.lt (by omega)) (hu i (j-1) (by omega) (by omega)) e
theorem b5L (O:Ord N r)(hc:Cmp N r cmp P)(hp:PN N p):∀(f n:Nat) (s:Shared) (Q:Array Nat×Nat×Nat->Shared->Prop),1<=n->n+f<=N->Dn r p n->P s →
  (∀m s',n<=m->m<=n+f->Dn r p m->P s'->Q (p,m,0) s')->(kas_desc f p n 0).kasWp cmp Q s
 |0,n,s,Q,h1,hn,hu,hP,hq=>hq n s (nR0 _) (nR0 _) hu hP
 |f+1,n,s,Q,h1,hn,hu,hP,hq=>by
  show cmp _ _ _ s;refine hc _ _ _ s (hp.lt (by omega)) (hp.lt (by omega)) (fun z=>by have:=hp.inj (by omega) (by omega) z;omega) hP fun s' hs'=>?_;cases e:r (p.getD n 0) (p.getD (n-1) 0) with
  |true=>
   dsimp only
   rw[if_pos rfl,if_neg (by omega)];refine b5L O hc hp f (n+1) s' Q (by omega) (by omega) (fun i j hij hj=>?_) hs' fun m s'' h2 h3 h5 h6=>hq m s'' (by omega) (by omega) h5 h6
   by_cases hjn:j<n
   ·exact hu i j hij hjn
   ·have ej:j=n:=by omega
    subst ej
    by_cases hi:i=j
    ·subst hi
     exact O.refl (hp.lt (by omega))
    ·exact O.trans _ _ _ (hp.lt (by omega)) (hp.lt (by omega)) (hp.lt (by omega)) (O.asym _ _ (hp.lt (by omega)) (hp.lt (by omega)) e) (hu i (j-1) (by omega) (by omega))
  |false=>
   dsimp only
   rw[if_neg (by decide)];show cmp _ _ _ s';refine hc _ _ _ s' (hp.lt (by omega)) (hp.lt (by omega)) (fun z=>by have:=hp.inj (by omega) (by omega) z;omega) hs' fun s'' hs''=>?_;have hd:r (p.getD (n-1) 0) (p.getD n 0)=true:=by
    rcases O.dist _ _ (hp.lt (i:=n-1) (by omega)) (hp.lt (i:=n) (by omega)) (fun z=>by have:=hp.inj (by omega) (by omega) z;omega) with h |h
    ·exact h
    ·rw[e] at h;cases h
   dsimp only
   rw[hd,if_pos rfl];exact hq n s'' (nR0 _) (by omega) hu hs''
theorem b1n {i j:Nat}(hj:j<=p.size)(k:Nat):(kas_rev p i j).getD k 0=if i<=k/\k<j then p.getD (i+j-1-k) 0 else p.getD k 0:=by
 have h:=getElem?_mirror_all (xs:=p) (i:=i) (j:=j) hj k;unfold kas_rev;rw[Array.getD_eq_getD_getElem?,h]
 split<;>rw[Array.getD_eq_getD_getElem?]
theorem b1p {i j:Nat}(h:PN N p):PN N (kas_rev p i j):=(Array.perm_iff_toList_perm.mp (mirror_perm p i j _)).trans h
theorem b5o (O:Ord N r)(hc:Cmp N r cmp P)(hp:PN N p){n:Nat}{s:Shared}{Q:Nat×Array Nat->Shared->Prop}(h1:1<=n)(hn:n<=N)(hd:Dn r p n)(hP:P s)
  (hq:∀m p' s',n<=m->m<=N->PN N p'->Up r p' m->P s'->Q (m,p') s'):(kas_tail3 n N p).kasWp cmp Q s:=by
 unfold kas_tail3;rw[KasT.kasWp_bind];have hs:=hp.size;refine asc O hc (b1p hp) (N-n) n s _ h1 (by omega) (fun i j hij hj=>?_) hP fun m s' h2 h3 _ h5 h6=>hq m _ s' h2 (by omega) (b1p hp) h5 h6;rw[b1n (by omega),b1n (by omega),if_pos (by omega),if_pos (by omega)];exact hd _ _ (by omega) (by omega)
theorem b4L (O:Ord N r)(hc:Cmp N r cmp P)(hp:PN N p){s:Shared}{Q:Nat×Array Nat->Shared->Prop}(h1:1<=N)(hP:P s)
  (hq:∀m p' s',1<=m->m<=N->PN N p'->Up r p' m->P s'->Q (m,p') s'):(kas_count N p).kasWp cmp Q s:=by
 unfold kas_count;rw[KasT.kasWp_bind];refine asc O hc hp (N-1) 1 s _ (nR0 _) (by omega) (fun i j hij hj=>?_) hP fun m s' h2 h3 h4 h5 h6=>?_
 ·have ei:i=0:=by omega
  have ej:j=0:=by omega
  subst ei ej;exact O.refl (hp.lt (by omega))
 ·by_cases hm:m=N
  ·rw[if_pos (by rw[hm];exact beq_self_eq_true N)]
   exact hq m p s' h2 (by omega) hp h5 h6
  ·rw[if_neg (by rw[beq_iff_eq];exact hm)]
   have hr:r (p.getD m 0) (p.getD (m-1) 0)=true:=h4.resolve_left (by omega)
   by_cases hm1:m > 1
   ·rw[if_pos hm1]
    show cmp _ _ _ s';refine hc _ _ _ s' (hp.lt (by omega)) (hp.lt (by omega)) (fun z=>by have:=hp.inj (by omega) (by omega) z;omega) h6 fun s'' hs''=>?_;have hd:r (p.getD 0 0) (p.getD (m-1) 0)=true:=by
     rcases O.dist _ _ (hp.lt (i:=0) (by omega)) (hp.lt (i:=m-1) (by omega)) (fun z=>by have:=hp.inj (by omega) (by omega) z;omega) with h |h
     ·exact h
     ·rw[h5 0 (m-1) (by omega) (by omega)] at h;cases h
    dsimp only
    rw[hd,if_pos rfl];exact hq m p s'' h2 (by omega) hp h5 hs''
   ·rw[if_neg hm1]
    have em:m=1:=by omega
    subst em;unfold kas_descPart;rw[KasT.kasWp_bind];refine b5L O hc hp (N-(1+1)) (1+1) s' _ (by omega) (by omega) (fun i j hij hj=>?_) h6 fun m s'' g2 g3 g5 g6=>?_
    ·by_cases hi:i=j
     ·subst hi
      exact O.refl (hp.lt (by omega))
     ·have ei:i=0:=by omega
      have ej:j=1:=by omega
      subst ei ej;exact O.asym _ _ (hp.lt (by omega)) (hp.lt (by omega)) hr
    ·rw[if_neg (by show ¬(0 > 0);omega)]
     exact b5o O hc hp (by show 1<=m;omega) (by show m<=N;omega) g5 g6 fun m' p' s3 a1 a2 a3 a4 a5=>hq m' p' s3 (by have:m<=m':=a1;omega) a2 a3 a4 a5
theorem b2S (O:Ord N r)(hc:Cmp N r cmp P)(hp:PN N p){k:Nat}(hk:k<N)(hu:Up r p k):∀(f l q:Nat) (s:Shared) (Q:Nat->Shared->Prop),l<=q->q<=k->q-l<=f->(∀i,i<l->r (p.getD k 0) (p.getD i 0)=false) →
  (∀i,q<=i->i<k->r (p.getD k 0) (p.getD i 0)=true)->P s →
  (∀m s',m<=k->(∀i,i<m->r (p.getD k 0) (p.getD i 0)=false)->(∀i,m<=i->i<k->r (p.getD k 0) (p.getD i 0)=true)->P s'->Q m s')->(kas_place p k f l q).kasWp cmp Q s
 |0,l,q,s,Q,hl,hq,hf,lo,hi,hP,h=>h l s (by omega) lo (fun i h1 h2=>hi i (by omega) h2) hP
 |f+1,l,q,s,Q,hl,hq,hf,lo,hi,hP,h=>by
  unfold kas_place
  by_cases e:l≥q
  ·rw[if_pos e]
   exact h l s (by omega) lo (fun i h1 h2=>hi i (by omega) h2) hP
  ·rw[if_neg e]
   show cmp _ _ _ s;have hm:(l+q)/2<q:=by omega
   have hm2:l<=(l+q)/2:=by omega
   refine hc _ _ _ s (hp.lt (by omega)) (hp.lt (by omega)) (fun z=>by have:=hp.inj (by omega) (by omega) z;omega) hP fun s' hs'=>?_;cases c:r (p.getD k 0) (p.getD ((l+q)/2) 0) with
   |true=>
    dsimp only
    rw[if_pos rfl];refine b2S O hc hp hk hu f l ((l+q)/2) s' Q (by omega) (by omega) (by omega) lo (fun i h1 h2=>?_) hs' h;cases d:r (p.getD k 0) (p.getD i 0) with
    |true=>rfl
    |false=>
     have:=O.trans _ _ _ (hp.lt (i:=(l+q)/2) (by omega)) (hp.lt (i:=i) (by omega)) (hp.lt (i:=k) (by omega)) (hu _ i h1 h2) d
     rw[this] at c;cases c
   |false=>
    dsimp only
    rw[if_neg (by decide)];refine b2S O hc hp hk hu f ((l+q)/2+1) q s' Q (by omega) (by omega) (by omega) (fun i h1=>?_) hi hs' h;exact O.trans _ _ _ (hp.lt (by omega)) (hp.lt (by omega)) (hp.lt (by omega)) (hu i ((l+q)/2) (by omega) (by omega)) c
theorem b1j {src d:Nat}(hs:src<p.size)(hd:d<=src)(k:Nat):(bubble p src d).getD k 0=if k=src-d then p.getD src 0 else if src-d<k/\k<=src then p.getD (k-1) 0 else p.getD k 0:=by
 have h:=getElem?_bubble hs d hd k;rw[Array.getD_eq_getD_getElem?,h,Array.getD_eq_getD_getElem?,Array.getD_eq_getD_getElem?,Array.getD_eq_getD_getElem?]
 by_cases e1:k=src-d
 ·rw[if_pos e1,if_pos e1]
 ·rw[if_neg e1,if_neg e1]
  by_cases e2:src-d<k/\k<=src
  ·rw[if_pos e2,if_pos e2]
  ·rw[if_neg e2,if_neg e2]
theorem bin (O:Ord N r)(hc:Cmp N r cmp P):∀(f:Nat) (p:Array Nat) (k:Nat) (s:Shared) (Q:Array Nat->Shared->Prop),PN N p->k+f=N->Up r p k->P s →
  (∀p' s',PN N p'->Up r p' N->P s'->Q p' s')->(kas_bin f p k).kasWp cmp Q s
 |0,p,k,s,Q,hp,hk,hu,hP,h=>h p s hp ((show k=N from hk)▸hu) hP
 |f+1,p,k,s,Q,hp,hk,hu,hP,h=>by
  unfold kas_bin;rw[KasT.kasWp_bind];have hs:=hp.size;refine b2S O hc hp (k:=k) (by omega) hu k 0 k s _ (zL0 _) (nR0 _) (by omega) (fun i hi=>absurd hi (Nat.not_lt_zero _)) (fun i h1 h2=>absurd h2 (by omega)) hP fun m s' h1 lo hi hs'=>?_;refine bin O hc f _ (k+1) s' Q ((Array.perm_iff_toList_perm.mp (bubble_perm p k _)).trans hp) (by omega) (fun i j hij hj=>?_) hs' h;rw[b1j (by omega) (by omega),b1j (by omega) (by omega)];have e:k-(k-m)=m:=by omega
  rw[e];have hi':∀i,m<=i->i<k->r (p.getD i 0) (p.getD k 0)=false:=fun i a b=>O.asym _ _ (hp.lt (by omega)) (hp.lt (by omega)) (hi i a b)
  by_cases ej:j=m
  ·rw[if_pos ej]
   by_cases ei:i=m
   ·rw[if_pos ei]
    exact O.refl (hp.lt (by omega))
   ·rw[if_neg ei,if_neg (by omega)]
    exact lo i (by omega)
  ·rw[if_neg ej]
   by_cases ei:i=m
   ·rw[if_pos ei,if_pos (by omega)]
    exact hi' (j-1) (by omega) (by omega)
   ·rw[if_neg ei]
    by_cases bj:m<j/\j<=k
    ·rw[if_pos bj]
     by_cases bi:m<i/\i<=k
     ·rw[if_pos bi]
      exact hu _ _ (by omega) (by omega)
     ·rw[if_neg bi]
      exact hu _ _ (by omega) (by omega)
    ·rw[if_neg bj,if_neg (by omega)]
     exact hu _ _ hij (by omega)
theorem sort (O:Ord N r)(hc:Cmp N r cmp P){s:Shared}{Q:Array Nat->Shared->Prop}(h1:1<=N)(hP:P s)(h:∀p' s',PN N p'->Up r p' N->P s'->Q p' s'):(kas_sort N).kasWp cmp Q s:=by
 unfold kas_sort;rw[KasT.kasWp_bind];refine b4L O hc (by unfold PN;simp) h1 hP fun m p' s' a1 a2 a3 a4 a5=>?_
 show(if m<N then kas_bin (N-max m 1) p' (max m 1) else .ret p').kasWp cmp Q s'
 have em:max m 1=m:=by omega
 rw[em]
 by_cases hm:m<N
 ·rw[if_pos hm]
  exact bin O hc _ p' m s' Q a3 (by omega) a4 a5 h
 ·rw[if_neg hm]
  have:m=N:=by omega
  subst this;exact h p' s' a3 a4 a5
end
def TA1 (h:Heap)(vs:List Value)(zs:List Str):Prop:=vs.length=zs.length/\∀(i:Nat) (z:Str),zs[i]? =some z->∃a o t rest n,vs[i]? =some (.ref a)/\h.get? a=some o/\o.cls=.type "tuple"/\o.data=.seq (Value.str z t::rest).toArray n
def rz (zs:List Str)(i j:Nat):Bool:=decide ((zs.getD i "").cps.toList<(zs.getD j "").cps.toList)
theorem b2v {a b:Str}(h:a.cps.toList=b.cps.toList):a=b:=by
 cases a;cases b;simp at h;rw[h]
theorem b4o {zs:List Str}(nd:zs.Nodup):Ord zs.length (rz zs) where
 asym:=fun a b _ _ h=>by
  unfold rz at h ⊢;rw[decide_eq_true_iff] at h;rw[decide_eq_false_iff_not];exact List.lt_asymm h
 trans:=fun a b c _ _ _ h1 h2=>by
  unfold rz at h1 h2 ⊢;rw[decide_eq_false_iff_not] at h1 h2 ⊢;rw[List.not_lt] at h1 h2 ⊢;exact List.le_trans h1 h2
 dist:=fun a b ha hb n=>by
  unfold rz;rw[decide_eq_true_iff,decide_eq_true_iff];apply Classical.byContradiction;intro h;rw[not_or,List.not_lt,List.not_lt] at h;have e:=b2v (List.le_antisymm h.2 h.1);simp only[List.getD_eq_getElem?_getD,gE0 ha,gE0 hb,Option.getD_some] at e;rcases Nat.lt_trichotomy a b with q |q |q
  ·exact List.pairwise_iff_getElem.mp nd a b ha hb q e
  ·exact n q
  ·exact List.pairwise_iff_getElem.mp nd b a hb ha q e.symm
theorem TA1.keep {h h':Heap}{vs:List Value}{zs:List Str}(t:TA1 h vs zs)(k:∀b o,o.cls=.type "tuple"->h.get? b=some o->h'.get? b=some o):TA1 h' vs zs:=
 ⟨t.1,fun i z e=>by
  obtain⟨a,o,tk,rest,n,h1,h2,h3,h4⟩:=t.2 i z e;exact⟨a,o,tk,rest,n,h1,k a o h3 h2,h3,h4⟩⟩
theorem TA1.kat {h:Heap}:∀{vs:List Value} {zs:List Str},TA1 h vs zs->∃fs,KatTups h vs fs/\fs.length=zs.length/\∀v∈fs,∃z t,v=Value.str z t
 |[],[],_=>⟨[],KatTups.nil,rfl,fun v hv=>by simp at hv⟩
 |[],_::_,t=>by have:=t.1;simp at this
 |_::_,[],t=>by have:=t.1;simp at this
 |v::vs,z::zs,t=>by
  obtain⟨a,o,tk,rest,n,h1,h2,h3,h4⟩:=t.2 0 z rfl;have ev:v=.ref a:=by simpa using h1
  subst ev;obtain⟨fs,k,hl,hs⟩:=TA1.kat (vs:=vs) (zs:=zs) ⟨by have:=t.1;simpa using this,fun i y e=>by
   obtain⟨a,o,tk,rest,n,g1,g2⟩:=t.2 (i+1) y (by simpa using e);exact⟨a,o,tk,rest,n,by simpa using g1,g2⟩⟩
  refine⟨.str z tk::fs,KatTups.cons h2 h3 h4 (by simp) k,by simp[hl],fun w hw=>?_⟩;rcases mK0.mp hw with e |hw
  ·exact⟨z,tk,e⟩
  ·exact hs w hw
section
variable {prog:Program}{w:World}{A:Around}{E:Vs0}{s:Shared}
theorem b4F {vs:List Value}{zs:List Str}{s1:Shared}(t:TA1 s1.heap vs zs)(nd:zs.Nodup):Cmp zs.length (rz zs) (kas_ask prog w A (tuples' true) vs) (fun s'=>s'=s1):=by
 intro i j C s' hi hj hij hs' hC;subst hs';obtain⟨a,o,tk,rest,n,h1,h2,h3,h4⟩:=t.2 i zs[i] (by simp[hi]);obtain⟨b,o',tk',rest',n',g1,g2,g3,g4⟩:=t.2 j zs[j] (by simp[hj]);unfold kas_ask;have e1:vs.getD i Value.none=.ref a:=by rw[List.getD_eq_getElem?_getD,h1];rfl
 have e2:vs.getD j Value.none=.ref b:=by rw[List.getD_eq_getElem?_getD,g1];rfl
 rw[e1,e2];refine kat_lt h2 h4 g2 g4 ?_;have ez:(Value.str zs[i] tk::rest).toArray.toList.zip (Value.str zs[j] tk'::rest').toArray.toList=(Value.str zs[i] tk,Value.str zs[j] tk')::rest.zip rest':=by simp
 rw[ez];refine kat_cons (wpAny_eqBool_str ?_);have en:decide (zs[i]=zs[j])=false:=by
  rw[decide_eq_false_iff_not];intro e;rcases Nat.lt_trichotomy i j with q |q |q
  ·exact List.pairwise_iff_getElem.mp nd i j hi hj q e
  ·exact hij q
  ·exact List.pairwise_iff_getElem.mp nd j i hj hi q e.symm
 rw[en];refine kat_no (oneLt_str ?_);have er:rz zs i j=decide (zs[i].cps.toList<zs[j].cps.toList):=by
  unfold rz;simp only[List.getD_eq_getElem?_getD,gE0 hi,gE0 hj,Option.getD_some]
 rw[<-er];exact hC s' rfl
theorem a4Q {a:Addr}{vs:List Value}{zs:List Str}{n:Nat}{P:PySem.Fin->Shared->Prop}(ho:s.heap.get? a=some (seqObj "list" vs.toArray n))(t:TA1 s.heap vs zs)(nd:zs.Nodup)(h64:vs.length<64)
  (h:∀(p:Array Nat),PN vs.length p->Up (rz zs) p vs.length->P (.done (.ret .none)) { s with heap:=sortedHeap s.heap a vs (List.toArray (p.toList.map fun i=>vs.getD i Value.none)) }) :
  wpAny (model prog w) A (Builtin.«list.sort» ⟨[.ref a],[]⟩) P E s:=by
 rw[list_sort_plain];have ha:a<s.heap.objs.size:=hL0 ho;refine wB0 (listItems_at ho rfl ?_);refine wB0 (listUpdate_at ho rfl ?_ (by rw[List.size_toArray,sizeLine_eq];omega) (zL0 _));obtain⟨e1,ho1⟩:∃e1,(s.heap.update a (Obj.mapSeq fun _=>(#[]:Array Value))).get? a=some (seqObj "list" #[] e1):=⟨_,get?_update_seq ho (fun _=>#[])⟩;refine wB0 (seqEpoch_at ho1 rfl ?_);refine wB0 (wpAny_newTuple ?_ (by show vs.length<=_;rw[sizeLine_eq];omega));refine wB0 (wpAny_newList ?_ (zL0 _));refine wpAny_holding ?_;have ho6:(((s.heap.update a (Obj.mapSeq fun _=>(#[]:Array Value))).push (seqObj "tuple" vs.toArray 0)).push (seqObj "list" #[] 0)).get? a=some (seqObj "list" #[] e1):=by
  rw[Heap.get?_push_ne _ _ _ (by rw[size_push',Heap.size_update];exact nL0 (Nat.lt_succ_of_lt ha)),Heap.get?_push_ne _ _ _ (by rw[Heap.size_update];exact nL0 ha)];exact ho1
 have tk:TA1 (((s.heap.update a (Obj.mapSeq fun _=>(#[]:Array Value))).push (seqObj "tuple" vs.toArray 0)).push (seqObj "list" #[] 0)) vs zs:=t.keep fun b o hc e=>by
  have nb:b≠a:=fun z=>by
   rw[z,ho] at e;have e':=Option.some.inj e;rw[<-e'] at hc;exact absurd (show Value.type "list"=Value.type "tuple" from hc) (by decide)
  exact hP0 _ (hP0 _ ((Heap.get?_update_ne _ _ _ _ nb).trans e))
 show wpAny (model prog w) A _ P E { s with heap:=((s.heap.update a (Obj.mapSeq fun _=>(#[]:Array Value))).push (seqObj "tuple" vs.toArray 0)).push (seqObj "list" #[] 0) }
 dsimp only
 have hsz:vs.toArray.size=vs.length:=by simp
 by_cases h2:vs.toArray.size<2
 ·rw[if_pos h2,if_pos h2]
  refine wB0 (wP0 ?_);rw[StateT.run_pure];refine wB0 (wP0 ?_)
  dsimp only
  have hout:=kat_snds (vs:=vs) (ks:=vs) rfl (st:=SortSt.mk' general' (vs.toArray.zip vs.toArray) #[] 7 none) (p:=List.toArray (List.range vs.length)) (by
   have e:=kas_range (vs.toArray.zip vs.toArray);rw[show(vs.toArray.zip vs.toArray).size=vs.length by simp] at e;exact e.symm)
  rw[hout];refine wB0 (seqEpoch_at ho6 rfl ?_);refine wB0 (listUpdate_at ho6 rfl ?_ (zL0 _) (by rw[List.size_toArray,lM0,List.length_range,sizeLine_eq];omega));simp only[bne_self_eq_false,Bool.false_eq_true,if_false];refine wP0 (h (List.toArray (List.range vs.length)) (by unfold PN;simp) fun i j hij hj=>?_);have ei:i=0:=by omega
  have ej:j=0:=by omega
  subst ei ej;unfold rz;rw[decide_eq_false_iff_not];exact List.lt_irrefl _
 ·have hn2:2<=vs.length:=by omega
  rw[if_neg h2,if_neg h2];obtain⟨fs,kt,hl,hs⟩:=tk.kat;refine wB0 (kat_kind (T:=.type "str") kt (by have:=t.1;omega) (fun v hv=>?_) rfl ?_)
  ·obtain⟨z,u,rfl⟩:=hs v hv
   exact PySem.W.Looks.of_pure rfl
  ·refine wB0 (wpAny_mono (kat_run (prog:=prog) (w:=w) (A:=A) (E:=E) (κ:=tuples' true) (ks:=vs) (vs:=vs) (s:={ s with heap:=((s.heap.update a (Obj.mapSeq fun _=>(#[]:Array Value))).push (seqObj "tuple" vs.toArray 0)).push (seqObj "list" #[] 0) })
    (Q:=fun st' s'=>∃p:Array Nat,p.size=vs.length/\arrOf st'=p.map (kas_item (vs.toArray.zip vs.toArray))/\failedOf st'=none/\PN vs.length p/\Up (rz zs) p vs.length/\s'={ s with heap:=((s.heap.update a (Obj.mapSeq fun _=>(#[]:Array Value))).push (seqObj "tuple" vs.toArray 0)).push (seqObj "list" #[] 0) })
    (G:=fun p s'=>PN vs.length p/\Up (rz zs) p vs.length/\s'={ s with heap:=((s.heap.update a (Obj.mapSeq fun _=>(#[]:Array Value))).push (seqObj "tuple" vs.toArray 0)).push (seqObj "list" #[] 0) })
    rfl hn2 h64 (fun p' st' s' a1 a2 a3 a4=>⟨p',a1,a2,a3,a4⟩) ?_) ?_ fun _ _ e=>e)
   ·have el:=t.1
    rw[el];exact sort (b4o nd) (b4F (s1:={ s with heap:=((s.heap.update a (Obj.mapSeq fun _=>(#[]:Array Value))).push (seqObj "tuple" vs.toArray 0)).push (seqObj "list" #[] 0) }) tk nd) (by omega) rfl fun p' s' b1 b2 b3=>⟨b1,b2,b3⟩
   ·rintro⟨⟨⟩,st'⟩ s' ⟨p,hp,har,hf,pn,up,rfl⟩
    dsimp only
    have hout:=kat_snds (vs:=vs) (ks:=vs) rfl har;rw[hout];refine wB0 (seqEpoch_at ho6 rfl ?_);refine wB0 (listUpdate_at ho6 rfl ?_ (zL0 _) (by rw[List.size_toArray,lM0,aL0,hp,sizeLine_eq];omega));rw[hf];simp only[bne_self_eq_false,Bool.false_eq_true,if_false];exact wP0 (h p pn up)
end
end Srt
namespace L2
open PySem PySem.Spec PyProof.Rows
theorem a8P {α:Type}(d:α)(l:List α){q:List Nat}(h:q.Perm (List.range l.length)):(q.map fun i=>l.getD i d).Perm l:=by
 have h1:=h.map fun i=>l.getD i d;have e:(List.range l.length).map (fun i=>l.getD i d)=l:=by
  apply List.ext_getElem
  ·simp
  ·intro i a b
   rw[List.getElem_map,List.getElem_range,List.getD_eq_getElem?_getD,gE0 b,Option.getD_some]
 rw[e] at h1;exact h1
theorem a4C {xs:List V}{us:List Value}(r:a0V xs us):∀(q:List Nat),(∀i∈q,i<xs.length)->a0V (q.map fun i=>xs.getD i .non) (q.map fun i=>us.getD i Value.none)
 |[],_=>.nil
 |i::q,h=>by
  refine .cons ?_ (a4C r q fun j hj=>h j (mL0 _ hj));have hi:=h i List.mem_cons_self;have hu:i<us.length:=by rw[<-r.length];exact hi
  obtain⟨u,e,ru⟩:=r.get (i:=i) (x:=xs[i]) (by simp[hi]);simp only[List.getD_eq_getElem?_getD,gE0 hi,e,Option.getD_some];exact ru
def a5Z (zs:List Str):Prop:=zs.Pairwise fun a b=>¬b.cps.toList<a.cps.toList
end L2
namespace L2
open PySem PySem.Spec PyProof.Rows PySem.Builtin PySem.Builtin.Dict
theorem a5L (a b:Value):Builtin.«dict.__eq__» ⟨[a,b],[]⟩=(do
  let (self,other) <-dictSlotArgs "__eq__" ⟨[a,b],[]⟩
  if !(<-isInstance other (.type "dict")) then rule s!"dict.{("__eq__" : String)}.not-a-dict";return <-ret .notImplemented
  ret (.bool ((<-Dict.samePairs s!"dict.{("__eq__" : String)}" (<-addrOf self) (<-addrOf other))==true))):=rfl
theorem a4M:isSubtype (.type "dict") (.type "dict")=pure true:=by rw[isSubtype_type];kernel_rfl
section
variable {prog:Program}{w:World}{A:Around}{E:Vs0}{s:Shared}{a b:Addr}{oa ob:Obj}{es fs:Array DictEntry}{ep fp:Nat}
theorem a7R {id:String}{Q:Bool->Shared->Prop}(ha:s.heap.get? a=some oa)(da:oa.data=.dict es ep)(hb:s.heap.get? b=some ob)(db:ob.data=.dict fs fp)(na:(a==sysModules)=false)(nb:(b==sysModules)=false)(hsz:es.size=fs.size)
  (hf:∀(i:Nat) (e:DictEntry),es[i]? =some e->∃(j:Nat) (f:DictEntry),fs[j]? =some f/\(∀(R:Option Nat->Shared->Prop),R (some j) s->wpAny (model prog w) A (dictFind b e.key e.hash) R E s)/\∀(R:Bool->Shared->Prop),R true s->wpAny (model prog w) A (eqBool e.val f.val) R E s)
  (hq:Q true s):wpAny (model prog w) A (Dict.samePairs id a b) Q E s:=by
 unfold Dict.samePairs Dict.showsAll;simp only[na,nb,Bool.false_eq_true,if_false];refine wB0 (wP0 (wB0 (wP0 ?_)));refine wB0 (wpAny_dictEntries ha da ?_);refine wB0 (wpAny_dictEntries hb db ?_);rw[if_neg (by rw[hsz];simp)];refine wB0 (wpAny_dictEpoch ha da ?_);rw[Std.Legacy.Range.forIn_eq_forIn_range'];refine wB0 (wpAny_forIn_list _ (fun rest b s'=>b=(none,())/\s'=s/\∀x∈rest,x<es.size) _ (fun i rest b s' hI=>?_) (fun b s' hI=>?_) _ _ ⟨rfl,rfl,fun x hx=>?_⟩)
 ·obtain⟨rfl,rfl,hl⟩:=hI
  have hi:=hl i List.mem_cons_self;obtain⟨j,f,hj,h1,h2⟩:=hf i es[i] (by simp[hi]);refine wB0 (wpAny_dictEntries ha da ?_);have ei:es[i]? =some es[i]:=by simp[hi]
  rw[ei]
  dsimp only
  refine wB0 (wpAny_holding (wB0 (h1 _ ?_)))
  dsimp only
  refine wB0 (wpAny_dictEntries hb db ?_);rw[hj]
  dsimp only
  refine wpAny_holding (h2 _ ?_);rw[if_neg (by decide)];refine wB0 (wpAny_dictEpoch ha da ?_);rw[if_neg (by simp)];exact wP0 ⟨rfl,rfl,fun x hx=>hl x (mL0 _ hx)⟩
 ·obtain⟨rfl,rfl,_⟩:=hI
  exact wP0 hq
 ·have:=List.mem_range'.mp hx
  obtain⟨k,hk,rfl⟩:=this;simp[Std.Legacy.Range.size] at hk ⊢
  omega
end
theorem a3B {P:Program}{w:World}:∀{es:List DictEntry} {kvs:List (Key×Value)},Pairs (a0n P w) es kvs->es.length=kvs.length
 |_,_,.nil=>rfl
 |_,_,.cons _ _ r=>by simp[a3B r]
theorem b0J {prog:Program}{w:World}{A:Around}{E:Vs0}{s:Shared}{d:Addr}{o:Obj}{es:Array DictEntry}{ep j:Nat}{x:Str}{t:Tok}{hs:Int}{Q:Option Nat->Shared->Prop}(ho:s.heap.get? d=some o)(hd:o.data=.dict es ep)
  (hall:∀e∈es,∃z t,e.key=Value.str z t) (hj:es.findIdx? (fun e=>e.key.isStr x)=some j) (h:Q (some j) s):wpAny (model prog w) A (dictFind d (.str x t) hs) Q E s:=by
 obtain⟨hjs,hjt,_⟩:=Array.findIdx?_eq_some_iff_getElem.mp hj;have ha:(es.all fun e=>isExactStrKey e.key)=true:=by
  rw[Array.all_eq_true'];intro e he;obtain⟨z,t,q⟩:=hall e he;rw[q]
  rfl
 obtain⟨z,tz,ez⟩:=hall es[j] (Array.getElem_mem hjs);have zx:z=x:=by
  rw[ez] at hjt;exact eq_of_beq hjt
 subst zx;unfold dictFind;refine wpAny_holding ?_;refine wB0 (wpAny_dictEntries ho hd ?_)
 dsimp only
 rw[if_pos ha];unfold foundByValue;rw[hj]
 dsimp only
 rw[Array.getElem?_eq_getElem hjs]
 dsimp only
 rw[ez];refine wB0 (wpAny_dictEpoch ho hd (wB0 (wpAny_eqBool_str (wB0 (wpAny_dictEpoch ho hd ?_)))));rw[if_neg (by simp),if_pos (by simp)];exact wB0 (wpAny_rule (wP0 h))
section
variable {A:Around}{s:Shared}{P:Program}{w:World}
theorem a8f {a b:Addr}{kvs kws:List (Key×Value)}(da:s.heap.DictOf (a0n P w) a kvs)(db:s.heap.DictOf (a0n P w) b kws)(na:(a==sysModules)=false)(nb:(b==sysModules)=false)(hl:kvs.length=kws.length)(tx:∀(k:Key) (v:Value),(k,v)∈kws->∃x,k=.inr x)
  (he:∀(k:Key) (v:Value),(k,v)∈kvs->∃v',(k,v')∈kws/\SeqAt.EqAt A.in1 s v v' true) (hu:A.units<cLine):SeqAt.EqAt A s (.ref a) (.ref b) true:=by
 by_cases hab:a=b
 ·rw[hab]
  exact SeqAt.EqAt.same _
 refine SeqAt.EqAt.of_refs hab fun prog w' E Q hq=>?_;obtain⟨oa,es,ep,ha,xa,dda,ka,pa,nda⟩:=da;obtain⟨ob,fs,fp,hb,xb,ddb,kb,pb,ndb⟩:=db;have Ta:s.TypeIs (.ref a) "dict":=⟨oa,ha,xa.1⟩;have Tb:s.TypeIs (.ref b) "dict":=⟨ob,hb,xb.1⟩;have la:es.size=kvs.length:=by have:=a3B pa;simpa using this
 have lb:fs.size=kws.length:=by have:=a3B pb;simpa using this
 have kb':∀e∈fs,∃z t,e.key=Value.str z t:=fun e he'=>by
  obtain⟨m,hm,rfl⟩:=Array.mem_iff_getElem.mp he';obtain⟨⟨k,v⟩,hk⟩:∃kv,kws[m]? =some kv:=⟨_,gE0 (by omega)⟩;obtain⟨g1,_⟩:=pb.get? (i:=m) (e:=fs[m]) (by simp[hm]) hk;obtain⟨x,rfl⟩:=tx k v (gI0 hk);rcases a0J (k:=.inr x) (v:=fs[m].key) g1 with ⟨i,t,q,_⟩ |⟨z,t,q,q2⟩
  ·cases q
  ·exact⟨z,t,q2⟩
 refine wpAny_richCompare_same_room Ta Tb F.slot_dict_eq (wpAny_call_entry F.slot_dict_eq Ta F.entry_dict_eq ?_ (F.args_dict_eq_2 _ _)) hu;rw[a5L];refine wB0 ?_;show wpAny _ _ (pure (Value.ref a,Value.ref b)) _ _ _;refine wP0 ?_
 dsimp only
 refine wB0 (wpAny_isInstance (T:="dict") (b:=true) Tb a4M ?_);simp only[Bool.not_true,Bool.false_eq_true,if_false];refine wB0 (wP0 (wB0 (wP0 (wB0 (a7R ha dda hb ddb na nb (by omega) (fun i e ei=>?_) ?_)))))
 ·have hi:i<es.size:=(Array.getElem?_eq_some_iff.mp ei).1
  obtain⟨⟨k,v⟩,hk⟩:∃kv,kvs[i]? =some kv:=⟨_,gE0 (by omega)⟩;obtain⟨g1,g2⟩:=pa.get? (i:=i) (e:=e) (by simpa using ei) hk;obtain⟨k2,g3,g4⟩:=ka e (Array.mem_of_getElem? ei);have ek:k2=k:=(a0n P w).inj _ _ _ g3 g1;subst ek;obtain⟨v',hv',eq⟩:=he k2 v (gI0 hk);obtain⟨x,rfl⟩:=tx k2 v' hv';obtain⟨t0,ek0⟩:∃t,e.key=Value.str x t:=by
   rcases a0J (k:=.inr x) (v:=e.key) g1 with ⟨i,t,q,_⟩ |⟨z,t,q,q2⟩
   ·cases q
   ·cases q
    exact⟨t,q2⟩
  obtain⟨m,hm⟩:=List.getElem?_of_mem hv';have hm':m<fs.size:=by have:=(gS0.mp hm).1;omega
  have em:fs.toList[m]? =some fs[m]:=by simp[hm']
  obtain⟨q1,q2⟩:=pb.get? em hm;obtain⟨j,hj⟩:∃j,fs.findIdx? (fun e=>e.key.isStr x)=some j:=by
   cases z:fs.findIdx? (fun e=>e.key.isStr x) with
   |some j=>exact⟨j,rfl⟩
   |none=>
    have:=Array.findIdx?_eq_none_iff.mp z fs[m] (Array.getElem_mem hm')
    have q1':fs[m].key.isStr x=true:=by
     rcases a0J (k:=.inr x) (v:=fs[m].key) q1 with ⟨i,t,q,_⟩ |⟨z,t,q,q2⟩
     ·cases q
     ·cases q
      rw[q2];exact beq_self_eq_true x
    rw[q1'] at this;cases this
  obtain⟨hjs,hjt,_⟩:=Array.findIdx?_eq_some_iff_getElem.mp hj;obtain⟨⟨k3,v3⟩,hk3⟩:∃kv,kws[j]? =some kv:=⟨_,gE0 (by omega)⟩;obtain⟨r1,r2⟩:=pb.get? (i:=j) (e:=fs[j]) (by simp[hjs]) hk3;have hjk:(a0n P w).is (.inr x) fs[j].key=true:=by
   obtain⟨z,t,q⟩:=kb' fs[j] (Array.getElem_mem hjs);rw[q] at hjt ⊢;have zx:z=x:=eq_of_beq hjt;rw[zx];rw[(a0n P w).strs (.inr x) x t0 _ (by rw[<-ek0];exact g1)];exact beq_self_eq_true x
  have e3:k3=.inr x:=(a0n P w).inj _ _ _ r1 hjk;subst e3;have jm:j=m:=by
   have hj1:(kws.map (·.1))[j]? =some (Sum.inr x):=by rw[gM0,hk3];rfl
   have hm1:(kws.map (·.1))[m]? =some (Sum.inr x):=by rw[gM0,hm];rfl
   obtain⟨x1,y1⟩:=gS0.mp hj1;obtain⟨x2,y2⟩:=gS0.mp hm1;rcases Nat.lt_trichotomy j m with z |z |z
   ·exact absurd (y1.trans y2.symm) (List.pairwise_iff_getElem.mp ndb j m x1 x2 z)
   ·exact z
   ·exact absurd (y2.trans y1.symm) (List.pairwise_iff_getElem.mp ndb m j x2 x1 z)
  subst jm;rw[hm] at hk3;cases hk3;refine⟨j,fs[j],by simp[hjs],fun R hR=>?_,fun R hR=>?_⟩
  ·rw[ek0]
   exact b0J hb ddb kb' hj hR
  ·rw[g2,r2]
   exact eq prog w' E R hR
 ·exact wP0 ⟨_,rfl,(fun z=>nomatch z),hq⟩
end
end L2
namespace L2
open PySem PySem.Spec PyProof.Rows
inductive Dq (H:Hp):Nat->V->V->Prop
 |non {n:Nat}:Dq H n .non .non
 |bl {n:Nat} {b:Bool}:Dq H n (.bl b) (.bl b)
 |int {n:Nat} {i:Int}:Dq H n (.int i) (.int i)
 |str {n:Nat} {z:Str}:Dq H n (.str z) (.str z)
 |ref {n:Nat} {a:Addr}:Dq H n (.ref a) (.ref a)
 |tup {n:Nat} {a b:Addr} {xs ys:List V} (ha:H a=some (.tup xs)) (hb:H b=some (.tup ys)) (hl:xs.length=ys.length) (h:∀(i:Nat) (x y:V),xs[i]? =some x->ys[i]? =some y->Dq H n x y):Dq H (n+1) (.ref a) (.ref b)
 |lst {n:Nat} {a b:Addr} {xs ys:List V} (ha:H a=some (.lst xs)) (hb:H b=some (.lst ys)) (hl:xs.length=ys.length) (h:∀(i:Nat) (x y:V),xs[i]? =some x->ys[i]? =some y->Dq H n x y):Dq H (n+1) (.ref a) (.ref b)
 |dct {n:Nat} {a b:Addr} {kvs kws:List (Key×V)} (f:Key->V) (ha:Rd H a (.dK kvs)) (hb:Rd H b (.dK kws)) (hl:kvs.length=kws.length) (tx:∀(k:Key) (v:V),(k,v)∈kws->∃x,k=.inr x)
   (hf:∀(k:Key) (v:V),(k,v)∈kvs->(k,f k)∈kws) (h:∀(k:Key) (v:V),(k,v)∈kvs->Dq H n v (f k)):Dq H (n+1) (.ref a) (.ref b)
theorem a5a:∀{kvs:List (Key×V)} {vs:List (Key×Value)} {k:Key} {u:Value} {i:Nat},KV kvs vs->vs[i]? =some (k,u)->∃v,kvs[i]? =some (k,v)/\a0S v u
 |_,_,_,_,_,.nil,e=>by simp at e
 |_,_,k,u,0,.cons (a:=p) r _,e=>by
  simp at e;subst e;obtain⟨p1,p2⟩:=p;obtain⟨r1,r2⟩:=r;simp only at r1;subst r1;exact⟨p2,rfl,r2⟩
 |_,_,k,u,i+1,.cons _ t,e=>by
  obtain⟨v,h1,h2⟩:=a5a (i:=i) t (by simpa using e);exact⟨v,by simpa using h1,h2⟩
section
variable {X:Cx}{pins:List (Addr×Obj)}{σ:St}{H:Hp}{s:Shared}
theorem b2k (I:Inv X pins σ H s){n:Nat}{x y:V}(d:Dq H n x y):∀{u u':Value} {A:Around},a0S x u->a0S y u'->A.units+n<cLine->SeqAt.EqAt A s u u' true:=by
 induction d with
 |non=>intro u u' A r r' _;cases r;cases r';exact SeqAt.EqAt.same _
 |bl=>intro u u' A r r' _;cases r;cases r';exact SeqAt.EqAt.same _
 |@int n i=>
  intro u u' A r r' _;obtain⟨t,rfl⟩:=r;obtain⟨t',rfl⟩:=r';have h:=SeqAt.EqAt.int_int (A:=A) (s:=s) i t i t'
  rwa [beq_self_eq_true] at h
 |@str n z=>
  intro u u' A r r' _;obtain⟨t,rfl⟩:=r;obtain⟨t',rfl⟩:=r';have h:=SeqAt.EqAt.str_str (A:=A) (s:=s) z t z t'
  rwa [beq_self_eq_true] at h
 |ref=>intro u u' A r r' _;cases r;cases r';exact SeqAt.EqAt.same _
 |@tup n a b xs ys ha hb hl h ih=>
  intro u u' A r r' hu;cases r;cases r'
  by_cases hab:a=b
  ·rw[hab];exact SeqAt.EqAt.same _
  obtain⟨its,r1,pl,_⟩:=I.tuple (SqT.of (K:=X.K) ha);obtain⟨jts,r2,ql,_⟩:=I.tuple (SqT.of (K:=X.K) hb);have l1:=r1.length;have l2:=r2.length;have h0:=SeqAt.RcAt.tuples (A:=A) (e:=fun _=>true) pl ql (by omega) (fun j g1 g2=>?_)
  ·have e:((List.range (min its.toArray.size jts.toArray.size)).all (fun _=>true)&&its.toArray.size==jts.toArray.size)=true:=by
    simp
    omega
   rw[e] at h0;exact SeqAt.EqAt.of_refs hab h0
  ·have g1':j<its.length:=by simpa using g1
   have g2':j<jts.length:=by simpa using g2
   obtain⟨u1,e1,k1⟩:=r1.get (i:=j) (x:=xs[j]'(by omega)) (by simp);obtain⟨u2,e2,k2⟩:=r2.get (i:=j) (x:=ys[j]'(by omega)) (by simp);have w1:its.toArray[j]=u1:=by have:=(gS0.mp e1).2;simpa using this
   have w2:jts.toArray[j]=u2:=by have:=(gS0.mp e2).2;simpa using this
   rw[w1,w2];exact ih j _ _ (by simp) (by simp) k1 k2 (by show A.units+1+n<cLine;omega)
 |@lst n a b xs ys ha hb hl h ih=>
  intro u u' A r r' hu;cases r;cases r'
  by_cases hab:a=b
  ·rw[hab];exact SeqAt.EqAt.same _
  obtain⟨its,r1,pl,_⟩:=I.list (xs:=xs) (.inl (.inl ha));obtain⟨jts,r2,ql,_⟩:=I.list (xs:=ys) (.inl (.inl hb));have l1:=r1.length;have l2:=r2.length;have h0:=SeqAt.RcAt.lists (A:=A) (e:=fun _=>true) pl.isList ql.isList (by simp;omega) (by omega) (fun j g1 g2=>?_)
  ·have e:((List.range its.toArray.size).all (fun _=>true))=true:=by simp
   rw[e] at h0;exact SeqAt.EqAt.of_refs hab h0
  ·have g1':j<its.length:=by simpa using g1
   have g2':j<jts.length:=by simpa using g2
   obtain⟨u1,e1,k1⟩:=r1.get (i:=j) (x:=xs[j]'(by omega)) (by simp);obtain⟨u2,e2,k2⟩:=r2.get (i:=j) (x:=ys[j]'(by omega)) (by simp);have w1:its.toArray[j]=u1:=by have:=(gS0.mp e1).2;simpa using this
   have w2:jts.toArray[j]=u2:=by have:=(gS0.mp e2).2;simpa using this
   rw[w1,w2];exact ih j _ _ (by simp) (by simp) k1 k2 (by show A.units+1+n<cLine;omega)
 |@dct n a b kvs kws f ha hb hl tx hf h ih=>
  intro u u' A r r' hu;cases r;cases r';obtain⟨_,na,vs,kv,da⟩:=a4c I.hok ha;obtain⟨_,nb,ws,kw,db⟩:=a4c I.hok hb;have l1:=kv.length;have l2:=kw.length;refine a8f da db na nb (by omega) (fun k v hk=>?_) (fun k v hk=>?_) (by omega)
  ·obtain⟨i,hi⟩:=List.getElem?_of_mem hk
   obtain⟨v0,e0,_⟩:=a5a kw hi;exact tx k v0 (gI0 e0)
  ·obtain⟨i,hi⟩:=List.getElem?_of_mem hk
   obtain⟨v0,e0,rv⟩:=a5a kv hi;have m0:=gI0 e0;obtain⟨m,hm⟩:=List.getElem?_of_mem (hf k v0 m0);obtain⟨u',e1,rv'⟩:=a7t kw hm;exact⟨u',gI0 e1,ih k v0 m0 rv rv' (by show A.units+1+n<cLine;omega)⟩
theorem a7y {A:Around}(I:Inv X pins σ H s){n:Nat}{a b:Addr}{xs ys:List V}(ha:SqL X.K H a xs)(hb:SqL X.K H b ys)(hl:xs.length=ys.length)(h:∀(i:Nat) (x y:V),xs[i]? =some x->ys[i]? =some y->Dq H n x y)(hu:A.units+n+1<cLine) :
  SeqAt.RcAt A s (.ref a) (.ref b) true/\SeqAt.RcNeAt A s (.ref a) (.ref b) false:=by
 obtain⟨its,r1,pl,_⟩:=I.list ha;obtain⟨jts,r2,ql,_⟩:=I.list hb;have l1:=r1.length;have l2:=r2.length;have el:∀j (g1:j<its.toArray.size) (g2:j<jts.toArray.size),SeqAt.EqAt A.in1 s its.toArray[j] jts.toArray[j] true:=fun j g1 g2=>by
  have g1':j<its.length:=by simpa using g1
  have g2':j<jts.length:=by simpa using g2
  obtain⟨u1,e1,k1⟩:=r1.get (i:=j) (x:=xs[j]'(by omega)) (by simp);obtain⟨u2,e2,k2⟩:=r2.get (i:=j) (x:=ys[j]'(by omega)) (by simp);have w1:its.toArray[j]=u1:=by have:=(gS0.mp e1).2;simpa using this
  have w2:jts.toArray[j]=u2:=by have:=(gS0.mp e2).2;simpa using this
  rw[w1,w2];exact b2k I (h j _ _ (by simp) (by simp)) k1 k2 (by show A.units+1+n<cLine;omega)
 have e:((List.range its.toArray.size).all (fun _=>true))=true:=by simp
 have h1:=SeqAt.RcAt.lists (A:=A) (e:=fun _=>true) pl.isList ql.isList (by simp;omega) (by omega) el;have h2:=SeqAt.RcNeAt.lists (A:=A) (e:=fun _=>true) pl.isList ql.isList (by simp;omega) (by omega) el;rw[e] at h1 h2;exact⟨h1,h2⟩
theorem b3u:OpR X (compareOp .Eq) (fun x y H Q=>∃(n:Nat) (a b:Addr) (xs ys:List V),x=.ref a/\y=.ref b/\SqL X.K H a xs/\SqL X.K H b ys/\xs.length=ys.length/\(∀(i:Nat) (x y:V),xs[i]? =some x->ys[i]? =some y->Dq H n x y)/\X.A.units+n+1<cLine/\Q (.bl true) H):=by
 intro pins s σ H x y v u Q I rx ry h;obtain⟨n,a,b,xs,ys,rfl,rfl,ha,hb,hl,hd,hu,q⟩:=h;cases rx;cases ry;exact(a7y I ha hb hl hd hu).1 X.prog X.w X.xe _ ⟨.bl true,H,I,rfl,q⟩
theorem b3D:OpR X (compareOp .NotEq) (fun x y H Q=>∃(n:Nat) (a b:Addr) (xs ys:List V),x=.ref a/\y=.ref b/\SqL X.K H a xs/\SqL X.K H b ys/\xs.length=ys.length/\(∀(i:Nat) (x y:V),xs[i]? =some x->ys[i]? =some y->Dq H n x y)/\X.A.units+n+1<cLine/\Q (.bl false) H):=by
 intro pins s σ H x y v u Q I rx ry h;obtain⟨n,a,b,xs,ys,rfl,rfl,ha,hb,hl,hd,hu,q⟩:=h;cases rx;cases ry;exact(a7y I ha hb hl hd hu).2 X.prog X.w X.xe _ ⟨.bl false,H,I,rfl,q⟩
end
theorem a7D {X:Cx}:MtR X "list.append" a9u:=a5r
theorem a0k.put {H H':Hp}{d:Addr}{o:HO}(s:a0k H H')(h:H d=none):a0k H (L2.upd H' d o):=fun b u e=>by
 rw[a0f (a0C e h)];exact s b u e
end L2
namespace My
open PySem L2 PyProof.Rows
seal L2.PE L2.PT L2.PW L2.PS L2.PSs L2.PA L2.PI L2.PG L2.PGs L2.OpR L2.a1e L2.IxR L2.SlR L2.MtR L2.PIf L2.PO L2.MtM L2.PC L2.a7F
def a1i:List Nat:=("abcdefghijklmnopqrstuvwxyz":Str).cps.toList
def a1C (z:Str):Bool:=decide (1<=z.length/\z.length<=8)&&z.cps.toList.all fun c=>decide (c∈a1i)
def a5G (K:Fg0):Sp:=fun vs H Q _=>∃(v:V) (n:String),vs=[v]/\Is K H v n/\(∀z,v=.str z->z.length<=sizeLine/\∀H',a0k H H'->Q (.bl (a1C z)) H')/\(n≠"str"->Q (.bl false) H)
section
variable {P:Program}{w:World}{K:Fg0}{mg:Str->Option Value}{base:Heap}
theorem b2H {f:Addr}{fd:FuncData}(F:Fun K "is_name" "is_name" (top 11) f fd)(B:Bl mg){uL uN:Value}(hL:mg "LETTERS"=some uL)(rL:a0S (.str "abcdefghijklmnopqrstuvwxyz") uL)(hN:mg "LONGEST_NAME"=some uN)(rN:a0S (.int 8) uN) :
  a0y P w K mg base CX0 1 f fd ["thing"] (a5G K):=by
 have sc:a0o ["thing"] ["thing"] (a0e (top 11)):=.k (by decide +kernel);refine F.ok sc (fun vs H Q E h=>?_) (fun cdv A outer s H vs Q E hr h=>?_)
 ·obtain⟨v,n,rfl,_⟩:=h
  rfl
 ·obtain⟨v,n,rfl,⟨ty,hn⟩,q1,q2⟩:=h
  refine⟨_,a0d (a0F (PW.pt (a2F (a1k (a0D (a0i a2n (by rfl) B.isi boot_isi (a0a (pv 0) (a0a (a0v (v:=.ty "str") (by rfl) B.str boot_str rfl) a0c)))))
    (a1Q (a1k (b0U b3Y b3Y a0g (a0i a3k (by rfl) B.len PySem.boot_len (a0a (pv 0) a0c)) (a4I (by rfl) hN rN)))))) (a0h (a0s a3m)) a0m)
   (a0h (a0s (a0i (a6V rfl) (by rfl) B.all boot_all (a0a (a1j (osc:=a0e (top 11)) (N0:=["thing"]) (xs:=["sign"]) (fr:=[]) ⟨rfl,by decide +kernel,by decide +kernel,by decide +kernel,by decide,by decide +kernel⟩ rfl rfl rfl (b4b (pv 0))
    (fun s H fp=>a0q (i:=0) (show(["sign"]:List Str).Nodup by decide +kernel) rfl (Or.inl rfl)) (fun s H fp=>a1h) (fun s H fp=>a1a a8A (pv 0) (a4I (by rfl) hL rL) (by with_unfolding_all rfl))) a0c)))),?_⟩
  by_cases hs:n="str"
  ·subst hs
   obtain⟨z,rfl⟩:=Is.str_of ⟨ty,hn⟩;obtain⟨hz,q⟩:=q1 z rfl;have q0:a1C z=false->Q (.bl false) H:=fun e=>by
    have:=q H (a0k.refl H)
    rw[e] at this;exact this
   refine⟨_,rfl,_,_,_,_,rfl,ty,a2t.trans (show a0R "str" "str"=some true by decide +kernel),_,rfl,?_⟩;refine a1W ?_;refine⟨_,rfl,_,rfl,hz,_,_,rfl,rfl,_,rfl,?_⟩;refine b0S (fun c1=>?_) (fun c1=>?_)
   ·have d1:(1:Int)<=z.length:=of_decide_eq_true c1
    refine⟨_,_,rfl,rfl,_,rfl,?_⟩;refine b0S (fun c2=>?_) (fun c2=>?_)
    ·refine q0 ?_
     have d2:¬((z.length:Int)<=8):=by
      intro e;rw[dT0 e] at c2;cases c2
     have e:decide (1<=z.length/\z.length<=8)=false:=dF0 (by omega);unfold a1C;rw[e]
     rfl
    ·have d2:(z.length:Int)<=8:=by
      by_cases e:(z.length:Int)<=8
      ·exact e
      ·rw[dF0 e] at c2
       exact(c2 rfl).elim
     refine⟨_,rfl,_,rfl,fun D hD=>?_⟩;have hlen:z.cps.toList.length=z.cps.size:=aL0;refine a1H z.cps.size (fun i=>.bl (decide (z.cps.toList.getD i 0∈a1i))) (fun i σ' Hc=>(∃a,σ'=[a])/\Hc=upd H D (.lst ((List.range i).map fun i=>.bl (decide (z.cps.toList.getD i 0∈a1i))))) hz ⟨⟨none,rfl⟩,rfl⟩ a0b ?_ ?_
     ·rintro i σ' Hc hi ⟨⟨a,rfl⟩,rfl⟩ hD'
      refine⟨hi,?_⟩;rintro x H' ⟨rfl,c,hc,rfl⟩;refine⟨_,rfl,_,_,rfl,rfl,?_,hD',⟨_,rfl⟩,b2U⟩;have ec:z.cps.toList.getD i 0=c:=by
       rw[List.getD_eq_getElem?_getD,Array.getElem?_toList,hc]
       rfl
      rw[ec];exact congrArg V.bl (StrLaws.found_one "abcdefghijklmnopqrstuvwxyz" c)
     ·rintro σ' Hc ⟨_,rfl⟩ hDn
      refine⟨nR0 _,?_⟩;refine⟨D,z.cps.toList.map fun c=>decide (c∈a1i),rfl,SqL.of ?_,?_⟩
      ·rw[a0b,<-hlen,a1F z.cps.toList 0 (fun c=>V.bl (decide (c∈a1i))),mC0]
       rfl
      ·have e:a1C z=(z.cps.toList.map fun c=>decide (c∈a1i)).all id:=by
        unfold a1C;rw[dT0 (show 1<=z.length/\z.length<=8 by omega),Bool.true_and,List.all_map]
        rfl
       rw[<-e];exact q _ (a0k.upd hD)
   ·refine⟨_,rfl,?_⟩
    refine a6a ?_;refine q0 ?_;have d1:¬((1:Int)<=z.length):=fun e=>c1 (dT0 e);have e:decide (1<=z.length/\z.length<=8)=false:=dF0 (by omega);unfold a1C;rw[e]
    rfl
  ·have e:(n=="str")=false:=beq_eq_false_iff_ne.mpr hs
   refine⟨_,rfl,_,_,_,_,rfl,ty,a2t.trans ((a9M n hn).trans (congrArg some e)),_,rfl,?_⟩;refine a6a ?_;exact q2 hs
end
def b0C (i:Int):Nat:=(a1i[(i%26).toNat]?).getD 0
theorem a6l:a1i.length=26:=by decide +kernel
theorem a8D (i:Int):atI a1i (i%26)=some (b0C i)/\b0C i∈a1i:=by
 have h0:=Int.emod_nonneg i (show(26:Int)≠0 by decide);have h1:=Int.emod_lt_of_pos i (show(0:Int)<26 by decide);obtain⟨n,hn⟩:=Int.eq_ofNat_of_zero_le h0;have hl:n<a1i.length:=by rw[a6l];omega
 have e:b0C i=a1i[n]:=by
  unfold b0C;rw[hn,Int.toNat_natCast,gE0 hl]
  rfl
 rw[e,hn];exact⟨a1b (gE0 hl),gQ0 hl⟩
theorem b3l:a1i.Nodup:=by decide +kernel
theorem a9X {i j:Int}(h:b0C i=b0C j):i%26=j%26:=by
 have a0:=Int.emod_nonneg i (show(26:Int)≠0 by decide);have a1:=Int.emod_lt_of_pos i (show(0:Int)<26 by decide);have b0:=Int.emod_nonneg j (show(26:Int)≠0 by decide);have b1:=Int.emod_lt_of_pos j (show(0:Int)<26 by decide);obtain⟨n,hn⟩:=Int.eq_ofNat_of_zero_le a0;obtain⟨m,hm⟩:=Int.eq_ofNat_of_zero_le b0;have hl:n<a1i.length:=by rw[a6l];omega
 have hk:m<a1i.length:=by rw[a6l];omega
 unfold b0C at h;rw[hn,hm,Int.toNat_natCast,Int.toNat_natCast,gE0 hl,gE0 hk] at h
 have:n=m:=(List.getElem_inj b3l).mp h
 omega
def AllL (l:List Nat):Prop:=∀c∈l,c∈a1i
theorem b0X {z:Str}(h:AllL z.cps.toList)(h1:1<=z.length)(h8:z.length<=8):a1C z=true:=by
 unfold a1C;rw[dT0 ⟨h1,h8⟩,Bool.true_and,List.all_eq_true];exact fun c hc=>dT0 (h c hc)
end My
namespace L2
open PySem PySem.Spec PyProof.Rows PySem.Builtin PySem.Builtin.Dict
theorem a6D:typeLookup (.type "tuple") "keys"=pure none:=am_miss_of_fast (by decide +kernel)
theorem a9i {prog:Program}{w:World}{A:Around}{E:Vs0}{s:Shared}{a:Addr}{o:Obj}{xs:Array Value}{k:Nat}{Q:Option Value->Shared->Prop}
  (hx:s.heap.get? a=some o) (hc:o.cls=.type "tuple") (hdat:o.data=.seq xs k) (hd:o.dict=none) (hA:A.handled=none)
  (h:∀h' tk,(∀b ob,s.heap.get? b=some ob->h'.get? b=some ob)->Q none { s with heap:=h',toks:=tk }):wpAny (model prog w) A (getAttr? (.ref a) "keys") Q E s:=by
 obtain⟨c,dct,dat,sl⟩:=o;simp only at hc hdat hd;subst hc hdat hd;obtain⟨hp,g,d,tk,os⟩:=s;have hT:∀tk',(⟨hp,g,d,tk',os⟩:Shared).TypeIs (.ref a) "tuple":=fun _=>⟨_,hx,rfl⟩;have f1:=sub_AttributeError;have f3:=F.slot_tuple_getattribute.lookup;have f4:=F.slot_tuple_getattribute.bind (.ref a);have f5:=am_tuple_getattr_none;unfold getAttr? getAttrBy? getAttrBy
 repeat (any_goals (first |assumption |exact hT _ | ((with_reducible show wpAny _ _ (call (Value.builtin "tuple.__getattribute__") _ _) _ _ _);refine call_meets F.slot_tuple_getattribute (hT _) am_entry_tuple_getattribute (F.args_tuple_getattribute_2 _ _) (meets_getattribute_miss_tuple a xs k sl "keys" _ a6D (by decide +kernel) (by size_fits)) ⟨hx,hA,fun h' tk' e hx'=>?_⟩) |wp_step))
 obtain⟨t',u',he⟩:=hx'.there;show wpAny _ _ (getattributeRaised _ _ _ _ _ _ _) _ _ _;unfold getattributeRaised
 repeat (any_goals (first |assumption |wp_step))
 exact h _ _ hx'.keeps
theorem a1E:entryFor table "dict.update.loop"=some Builtin.«dict.update.loop»:=entryFor_of_tree (by kernel_rfl)
section
variable {prog:Program}{w:World}{A:Around}{R:Result->Shared->Prop}
theorem a7A {h0:Heap}{d it t:Addr}{items:Array Value}{ps:List (Key×Value)}(hh:A.handled=none)(ht:h0.IsTuple t items)(tne:t≠it/\t≠d)(idne:it≠d)(hl:ps.length=items.size)(hz:items.size<=1000)
  (hp:∀(j:Nat) (k:Key) (v:Value),ps[j]? =some (k,v)->∃a o key n,items[j]? =some (.ref a)/\h0.get? a=some o/\o.cls=.type "tuple"/\o.data=.seq #[key,v] n/\(a0n prog w).is k key=true/\a≠it/\a≠d)
  (nd:(ps.map (·.1)).Nodup):∀(m i:Nat) (tk:Tok) (s:Shared),i+m=items.size->s.heap.IsTupleIter it t i->s.heap.DictOf (a0n prog w) d (ps.take i)->(∀b o,b≠it->b≠d->h0.get? b=some o->s.heap.get? b=some o) →
  (∀(h':Heap) (k:Nat),h'.DictOf (a0n prog w) d ps->(∀b o,b≠it->b≠d->h0.get? b=some o->h'.get? b=some o)->R (.ok (.ret .none)) { s with heap:=h',toks:=k }) →
  codeAny (model prog w) A (.builtin "dict.update.loop" ⟨[.ref d,.ref it,.int i tk,.none],[]⟩) R s
 |0,i,tk,s,hi,hit,hd,kp,hq=>by
  refine codeAny_builtin a1E ?_;unfold Builtin.«dict.update.loop»
  dsimp only
  obtain⟨o,ho,hc,n,hdt⟩:=id ht;refine wB0 (wpAny_pyNext_tuple_end (items:=items) hh hit ⟨o,kp t o tne.1 tne.2 ho,hc,n,hdt⟩ (by rw[Array.getElem?_eq_none (by omega)]) fun h' ex=>?_)
  dsimp only
  refine wB0 (wP0 (wP0 ?_));have e:ps.take i=ps:=List.take_of_length_le (by omega);rw[e] at hd;exact hq h' s.toks (hd.extBut ex idne.symm) fun b o hb1 hb2 q=>ex b o hb1 (kp b o hb1 hb2 q)
 |m+1,i,tk,s,hi,hit,hd,kp,hq=>by
  refine codeAny_builtin a1E ?_;unfold Builtin.«dict.update.loop»
  dsimp only
  obtain⟨o,ho,hc,n,hdt⟩:=id ht;obtain⟨⟨k,v⟩,hk⟩:∃kv,ps[i]? =some kv:=⟨_,gE0 (by omega)⟩;obtain⟨a,oa,key,na,e1,e2,e3,e4,e5,e6,e7⟩:=hp i k v hk;refine wB0 (wpAny_pyNext_tuple_item (items:=items) hit ⟨o,kp t o tne.1 tne.2 ho,hc,n,hdt⟩ e1 fun h1 it1 sb=>?_)
  dsimp only
  have ha1:h1.get? a=some oa:=(sb.2 a e6).trans (kp a oa e6 e7 e2);have hd1:h1.DictOf (a0n prog w) d (ps.take i):=by
   obtain⟨od,es,ep,g,r⟩:=hd;exact⟨od,es,ep,(sb.2 d idne.symm).trans g,r⟩
  refine wB0 (wpAny_holding (wB0 (wpAny_tryCatch ?_)));unfold Dict.pairItems;refine wB0 (wpAny_typeOf (T:="tuple") ⟨oa,ha1,e3⟩ ?_);rw[if_pos (by decide)];refine wB0 (wpAny_seqItems ha1 e4 (wP0 ?_));show wpAny _ _ (holding [key,v] (dictSet d key v)) _ _ _;refine wpAny_holding (wpAny_dictSet_pairs (knd:=a0n prog w) (k:=k) e5 hd1 (fun h2 hd2 sb2=>?_) (by rw[List.length_take,sizeLine_eq];omega));refine wP0 ⟨Code.quiet_builtin _ (by decide +kernel),?_⟩;have es:stored (ps.take i) k v=ps.take (i+1):=by
   have no:((ps.take i).any fun kv=>decide (kv.1=k))=false:=by
    rw[List.any_eq_false];intro kv hkv;rw[decide_eq_true_iff];intro ek;obtain⟨j,hj,ej⟩:=List.mem_take_iff_getElem.mp hkv;have hj2:j<ps.length:=by omega
    have hij:j<i:=by omega
    have hi2:i<ps.length:=by omega
    have ei:ps[i]=(k,v):=(gS0.mp hk).2;refine List.pairwise_iff_getElem.mp nd j i (by simpa using hj2) (by simpa using hi2) hij ?_;rw[List.getElem_map,List.getElem_map,ej,ei,ek]
   unfold stored;rw[if_neg (by rw[no];decide),List.take_add_one,hk]
   rfl
  rw[es] at hd2;exact a7A hh ht tne idne hl hz hp nd m (i+1) _ _ (by omega) (by
   obtain⟨oi,g1,g2⟩:=it1;exact⟨oi,(sb2.2 it idne).trans g1,g2⟩) hd2 (fun b o hb1 hb2 q=>(sb2.2 b hb2).trans ((sb.2 b hb1).trans (kp b o hb1 hb2 q))) fun h' k' x y=>hq h' k' x y
end
theorem b5a {α β:Type}:∀(l:List α) (P:Nat->α->β->Prop),(∀(j:Nat) (x:α),l[j]? =some x->∃u,P j x u)->∃us:List β,us.length=l.length/\∀(j:Nat) (x:α),l[j]? =some x->∃u,us[j]? =some u/\P j x u
 |[],_,_=>⟨[],rfl,fun j x e=>by simp at e⟩
 |y::l,P,h=>by
  obtain⟨u,hu⟩:=h 0 y rfl;obtain⟨us,hl,hs⟩:=b5a l (fun j=>P (j+1)) fun j x e=>h (j+1) x (by simpa using e);refine⟨u::us,by simp[hl],fun j x e=>?_⟩;cases j with
  |zero=>
   simp at e;subst e;exact⟨u,rfl,hu⟩
  |succ j=>
   obtain⟨v,h1,h2⟩:=hs j x (by simpa using e);exact⟨v,by simpa using h1,h2⟩
theorem b2t:∀{kvs:List (Key×V)} {ps:List (Key×Value)},ps.length=kvs.length->(∀(j:Nat) (k:Key) (v:V),kvs[j]? =some (k,v)->∃u,ps[j]? =some (k,u)/\a0S v u)->KV kvs ps
 |[],[],_,_=>.nil
 |[],_::_,h,_=>by simp at h
 |_::_,[],h,_=>by simp at h
 | (k,v)::kvs,(k',u')::ps,h,f=>by
  obtain⟨u,e,r⟩:=f 0 k v rfl;simp at e;obtain⟨rfl,rfl⟩:=e;exact .cons ⟨rfl,r⟩ (b2t (by simpa using h) fun j k v e=>f (j+1) k v (by simpa using e))
section
variable {X:Cx}
theorem a2L:a1e X (.type "tuple") (fun xs H Q=>∃p ys,xs=[.ref p]/\SqL X.K H p ys/\∀l o,H l=none->o.dict=none->Q (.ref l) (upd H l (.frz o (.tup ys)))):=by
 intro pins s σ H xs us Q I r h;obtain⟨p,ys,rfl,hq,q⟩:=h;obtain⟨u,rfl,rx⟩:=a2b r;cases rx;obtain⟨its,r',pl,hz⟩:=I.list hq;have hlen:=r'.length;refine call_tuple_list pl.isList (fun h' kp=>?_) (by simp only[List.size_toArray]<;>omega);have I1:Inv X pins σ H { s with heap:=h' }:=I.kept (t':=s.toks) kp;have I2:Inv X pins σ (upd H h'.objs.size (.frz { cls:=.type "tuple",data:=.seq its.toArray } (.tup ys))) { s with heap:=h'.push { cls:=.type "tuple",data:=.seq its.toArray } }:=
  I1.laid (t':=s.toks) (fun b o e=>hP0 _ e) (nR0 _) (show a1f X.prog X.w _ _ _ (.frz _ (.tup ys)) from⟨hS0 _ rfl,hz,its,r',IsTup.new _ _⟩)
 exact⟨.ref h'.objs.size,_,I2,rfl,q _ _ (I1.hok.fresh (nR0 _)) rfl⟩
theorem a4n (hc:X.calm=true):a1e X (.type "dict") (fun xs H Q=>∃(t:Addr) (o:Obj) (ys:List V) (kvs:List (Key×V)),xs=[.ref t]/\H t=some (.frz o (.tup ys))/\o.dict=none/\ys.length<=1000/\kvs.length=ys.length ∧
  (∀(j:Nat) (k:Key) (v:V),kvs[j]? =some (k,v)->∃a,ys[j]? =some (.ref a)/\SqT X.K H a [kV k,v])/\(kvs.map (·.1)).Nodup/\∀p,H p=none->Q (.ref p) (upd H p (.dK kvs))):=by
 intro pins s σ H xs us Q I r h;obtain⟨t,o,ys,kvs,rfl,ht,hod,hys,hkl,hp,nd,q⟩:=h;obtain⟨u,rfl,rx⟩:=a2b r;cases rx;obtain⟨g,hz,its,r',tp⟩:=I.hok t _ ht;obtain⟨o',g',hcl,n,hdat⟩:=tp;rw[g] at g';cases g';have hlen:=r'.length;have hh:=I.ok.hd hc;have hpk:∃ps:List (Key×Value),ps.length=kvs.length/\∀(j:Nat) (kv:Key×V),kvs[j]? =some kv->∃u,ps[j]? =some u/\(u.1=kv.1/\a0S kv.2 u.2/\∃a oa key na,its[j]? =some (.ref a)/\s.heap.get? a=some oa/\oa.cls=.type "tuple"/\oa.data=.seq #[key,u.2] na/\(a0n X.prog X.w).is kv.1 key=true):=by
  refine b5a kvs (fun(j:Nat) (kv:Key×V) (u:Key×Value)=>u.1=kv.1/\a0S kv.2 u.2/\∃a oa key na,its[j]? =some (.ref a)/\s.heap.get? a=some oa/\oa.cls=.type "tuple"/\oa.data=.seq #[key,u.2] na/\(a0n X.prog X.w).is kv.1 key=true) fun j kv hj=>?_;obtain⟨k,v⟩:=kv;obtain⟨a,ea,sq⟩:=hp j k v hj;obtain⟨jts,rj,pj,_⟩:=I.tuple sq;cases rj with
  |@cons _ j1 _ jr rk rr=>cases rr with
   |@cons _ j2 _ jr2 rv rr2=>
    cases rr2;obtain⟨oa,ga,ca,na,da⟩:=pj;refine⟨(k,j2),rfl,rv,a,oa,j1,na,?_,ga,ca,da,a4g rk⟩;obtain⟨w,ew,rw1⟩:=a0V.get r' ea;cases rw1;exact ew
 obtain⟨ps,hpl,hps⟩:=hpk;have gt:s.heap.get? t=some o:=g;have tlt:t<s.heap.objs.size:=hL0 gt;refine callType_codes (Q₁:=fun obj s₁=>obj=.ref s.heap.objs.size/\s₁={ s with heap:=s.heap.push { cls:=.type "dict",data:=.dict #[] } }) F.kt_called_dict (F.kt_typeCall_dict_1 _) F.entry_dict_init (kt_code_dict_new _ ⟨rfl,rfl⟩) ?_;rintro obj s₁ ⟨rfl,rfl⟩;have hnew:(s.heap.push { cls:=.type "dict",data:=.dict #[] }).DictOf (a0n X.prog X.w) s.heap.objs.size []:=Heap.DictOf.new s.heap;have gt1:(s.heap.push { cls:=.type "dict",data:=.dict #[] }).get? t=some o:=hP0 _ gt;refine⟨hnew.typeIs,F.args_dict_init_2 _ _,?_⟩;unfold Builtin.«dict.__init__»;refine wB0 ?_;unfold Builtin.Dict.selfAndRest;refine wB0 (wpAny_notOrdered_dict hnew.typeIs ?_);show wpAny _ _ (pure (s.heap.objs.size,[Value.ref t])) _ _ _;refine wP0 ?_;show wpAny _ _ (Builtin.Dict.updateFrom "dict.__init__" s.heap.objs.size (.ref t) [] .none) _ _ _;unfold Builtin.Dict.updateFrom;refine wB0 (wpAny_typeOf (T:="tuple") ⟨o,gt1,hcl⟩ ?_);rw[if_pos (by decide)];refine wB0 (a9i (o:=o) (xs:=its.toArray) (k:=n) gt1 hcl hdat hod hh fun h1 tk1 kp1=>?_);rw[if_pos (show(none:Option Value).isNone=true from rfl)];have kp:∀b ob,s.heap.get? b=some ob->h1.get? b=some ob:=fun b ob e=>kp1 b ob (hP0 _ e);have gt2:=kp t o gt;have gd2:h1.get? s.heap.objs.size=some { cls:=.type "dict",data:=.dict #[] }:=kp1 _ _ (hS0 _ rfl);have dlt:s.heap.objs.size<h1.objs.size:=hL0 gd2;have dd1:h1.DictOf (a0n X.prog X.w) s.heap.objs.size []:=by
  obtain⟨od,es,ep,gg,rr⟩:=hnew;exact⟨od,es,ep,kp1 _ _ gg,rr⟩
 refine wB0 (wpAny_rule ?_);refine wB0 (wpAny_pyIter_tuple (items:=its.toArray) ⟨o,gt2,hcl,n,hdat⟩ ?_);refine wP0 ⟨Code.quiet_builtin _ (by decide +kernel),?_⟩;have epl:ps.length=its.toArray.size:=by simp;omega
 have fsts:ps.map (·.1)=kvs.map (·.1):=by
  refine List.ext_getElem (by simp[hpl]) fun j h1 h2=>?_;rw[List.getElem_map,List.getElem_map];rw[lM0] at h1 h2;obtain⟨u,eu,e1,_⟩:=hps j kvs[j] (gE0 h2);rw[gE0 h1] at eu;cases eu;exact e1
 refine a7A (A:=X.A.in1) (ps:=ps) (items:=its.toArray) (h0:=h1.push { cls:=.type "tuple_iterator",data:=.fields #[.ref t,.int 0 0] }) (t:=t) (d:=s.heap.objs.size) (it:=h1.objs.size) (show X.A.in1.handled=none from hh) ⟨o,hP0 _ gt2,hcl,n,hdat⟩ ⟨nL0 (Nat.lt_trans tlt dlt),nL0 tlt⟩ (Nat.ne_of_gt dlt) epl (by rw[<-epl,hpl,hkl];exact hys) (fun j k v hj=>?_) (by rw[fsts];exact nd) its.toArray.size 0 _ { s with heap:=h1.push { cls:=.type "tuple_iterator",data:=.fields #[.ref t,.int 0 0] },toks:=tk1 } (by omega) ⟨_,hS0 _ rfl,rfl,rfl⟩ (dd1.push _) (fun b o _ _ e=>e) (fun h2 k2 dd2 kp2=>?_)
 ·have hjl:j<kvs.length:=by
   have:=(gS0.mp hj).1
   omega
  obtain⟨u,eu,e1,e2,a,oa,key,na,e3,e4,e5,e6,e7⟩:=hps j kvs[j] (gE0 hjl);rw[hj] at eu;cases eu;have alt:=hL0 e4;refine⟨a,oa,key,na,by simpa using e3,hP0 _ (kp a oa e4),e5,e6,?_,nL0 (Nat.lt_trans alt dlt),nL0 alt⟩;rw[show k=kvs[j].1 from e1];exact e7
 ·refine⟨rfl,.ref s.heap.objs.size,_,?_,rfl,q s.heap.objs.size (I.hok.fresh (nR0 _))⟩
  have rel:KV kvs ps:=b2t hpl fun j k v e=>by
   obtain⟨u,eu,e1,e2,_⟩:=hps j (k,v) e;obtain⟨u1,u2⟩:=u
   cases(show u1=k from e1)
   exact⟨u2,eu,e2⟩
  refine I.laid (a:=s.heap.objs.size) (o:=.dK kvs) (fun b qo hb=>?_) (nR0 _) (a2V (by rw[sizeLine_eq];omega) (beq_eq_false_iff_ne.mpr (Ne.symm (nL0 I.big))) rel dd2);have blt:=hL0 hb;exact kp2 b qo (nL0 (Nat.lt_trans blt dlt)) (nL0 blt) (hP0 _ (kp b qo hb))
end
end L2
namespace L2
open PySem PySem.Spec PyProof.Rows
theorem b1D {n d:Nat}{k:Int}(h0:0<=k)(h1:k<=n):HT.sIx n d (some k)=k.toNat:=by
 have e:=HT.b2F k n d;rw[if_neg (by omega)] at e
 omega
theorem b1w {xs:List V}{k:Int}(h0:0<=k)(h1:k<=xs.length):b1M xs none (some k)=xs.take k.toNat:=by
 unfold b1M;rw[b1D h0 h1,HT.a6M,List.drop_zero,Nat.sub_zero]
theorem a7w {xs:List V}{k:Int}(h0:0<=k)(h1:k<=xs.length):b1M xs (some k) none=xs.drop k.toNat:=by
 unfold b1M;rw[b1D h0 h1,HT.a6M];refine List.take_of_length_le ?_;rw[List.length_drop]
 omega
theorem a1m {J:It}{g:TG}{te:TE}{R:Addr->Hp->Prop}{D:Addr}{σ0:St}{H0:Hp}(n:Nat)(Pv:Nat->List V->St->Hp->Prop)(hn:n<=sizeLine)(h0:Pv 0 [] σ0 H0)(hD0:H0 D=some (.lst []))
  (hs:∀i σ H ys,i<n->Pv i ys σ H->ys.length=i->H D=some (.lst ys)->J.go i H/\∀x H',J.yld i H x H'->g x σ H' fun σ2 H2=>te σ2 H2 fun y H4=>H4 D=some (.lst ys)/\Pv (i+1) (ys++[y]) σ2 (upd H4 D (.lst (ys++[y]))))
  (hd:∀σ H ys,Pv n ys σ H->H D=some (.lst ys)->ys.length=n->J.stop n H/\R D H):a6A J g b4w te R D σ0 H0:=by
 refine⟨fun i m σ H=>m=n-i/\i<=n/\∃ys,Pv i ys σ H/\H D=some (.lst ys)/\ys.length=i,⟨n,by omega,zL0 _,[],h0,hD0,rfl⟩,?_⟩;rintro i m σ H ⟨rfl,hi,ys,p,hD,hl⟩
 by_cases hlt:i<n
 ·obtain⟨go,st⟩:=hs i σ H ys hlt p hl hD
  refine .inr ⟨go,fun σ2 y H4=>H4 D=some (.lst ys)/\Pv (i+1) (ys++[y]) σ2 (upd H4 D (.lst (ys++[y]))),fun _ _=>False,?_,fun _ _ z=>z.elim,st⟩;rintro σ2 y H4 ⟨e,p'⟩;exact⟨_,e,by rw[hl];omega,n-(i+1),by omega,rfl,hlt,_,p',a0b,by simp[hl]⟩
 ·have e:i=n:=by omega
  subst e;exact .inl (hd σ H ys p hD hl)
end L2
namespace My
open PySem L2 PyProof.Rows
seal L2.PE L2.PT L2.PW L2.PS L2.PSs L2.PA L2.PI L2.PG L2.PGs L2.OpR L2.a1e L2.IxR L2.SlR L2.MtR L2.PIf L2.PO L2.MtM L2.PC L2.a7F
def a3Y:List Str:=["twin","many","some"]
def b1t:Sp:=fun vs H Q _=>∃(p:Addr) (ss:List Str),vs=[.ref p]/\H p=some (.lst ((("head":Str)::ss).map V.str))/\(∀z∈ss,z∈a3Y)/\∀H',a0k H H'->Q .non H'
def b1J:Sp:=fun vs H Q _=>∃(p:Addr) (zs:List Str),vs=[.ref p]/\H p=some (.lst (zs.map V.str))/\zs.Nodup/\(∀z∈zs,a1C z=true)/\∀H',a0k H H'->Q .non H'
def kvC (cols:List (Str×V)):List (Key×V):=cols.map fun p=>(.inr p.1,p.2)
def vOf (cols:List (Str×V))(z:Str):V:=(a1U (kvC cols) (.inr z)).getD .non
mutual
def a4d:Dt->Bool
 | .dct=>false
 | .tup ds=>a5w ds
 | .lst _=>false
 | .non=>true
 | .bl _=>true
 | .int _=>true
 | .str _=>true
def a5w:List Dt->Bool
 |[]=>true
 |d::ds=>a4d d&&a5w ds
end
mutual
theorem Rep.beside {H:Hp}{a:Addr}{u:HO}(e:∀xs,H a≠some (.tup xs)):∀{d:Dt} {v:V},a4d d=true->Rep H d v->Rep (L2.upd H a u) d v
 | .non,v,_,h=>by unfold Rep at h ⊢;exact h
 | .bl b,v,_,h=>by unfold Rep at h ⊢;exact h
 | .int i,v,_,h=>by unfold Rep at h ⊢;exact h
 | .str z,v,_,h=>by unfold Rep at h ⊢;exact h
 | .tup ds,v,n,h=>by
  unfold Rep at h ⊢;obtain⟨b,xs,h1,h2,h3⟩:=h;have hne:b≠a:=fun q=>e _ (by rw[<-q];exact h2);exact⟨b,xs,h1,by rw[a0f hne];exact h2,a1N.beside e (by simpa[a4d] using n) h3⟩
 | .lst ds,v,n,h=>by simp[a4d] at n
 | .dct,v,n,h=>by simp[a4d] at n
theorem a1N.beside {H:Hp}{a:Addr}{u:HO}(e:∀xs,H a≠some (.tup xs)):∀{ds:List Dt} {vs:List V},a5w ds=true->a1N H ds vs->a1N (L2.upd H a u) ds vs
 |[],vs,_,h=>by unfold a1N at h ⊢;exact h
 |d::ds,vs,n,h=>by
  unfold a1N at h ⊢;obtain⟨v,ws,h1,h2,h3⟩:=h;have n':a4d d=true/\a5w ds=true:=by simpa[a5w] using n
  exact⟨v,ws,h1,Rep.beside e n'.1 h2,a1N.beside e n'.2 h3⟩
end
def a0L (H:Hp)(cols:List (Str×V)):Prop:=(cols.map (·.1)).Nodup/\cols.length<=12/\∀p∈cols,a1C p.1=true/\∃d,Rep H d p.2/\a3o d=true/\a4d d=true
theorem a0L.same {H H':Hp}{cols:List (Str×V)}(h:a0L H cols)(e:a0k H H'):a0L H' cols:=⟨h.1,h.2.1,fun p hp=>⟨(h.2.2 p hp).1,let ⟨d,h1,h2⟩:=(h.2.2 p hp).2;⟨d,h1.same e,h2⟩⟩⟩
theorem a4m:∀{cols:List (Str×V)} {z:Str},z∈cols.map (·.1)->a1U (kvC cols) (.inr z)=some (vOf cols z)
 |[],z,h=>nomatch h
 |p::r,z,h=>by
  unfold vOf
  by_cases e:p.1=z
  ·rw[show kvC (p::r)=(.inr p.1,p.2)::kvC r from rfl,a1x (by rw[e])]
   rfl
  ·have hz:z∈r.map (·.1):=by
    rcases mK0.mp h with h |h
    ·exact absurd h.symm e
    ·exact h
   rw[show kvC (p::r)=(.inr p.1,p.2)::kvC r from rfl,a1G (fun h=>e (by injection h)),a4m hz]
   rfl
def a1v (H:Hp)(t:Addr)(cols:List (Str×V)):Prop:=∃(o:Obj) (ps:List Addr) (zs:List Str),zs.Perm (cols.map (·.1))/\sortedS zs=true/\o.dict=none/\H t=some (.frz o (.tup (ps.map V.ref)))/\ps.length=zs.length/\∀(j:Nat) (p:Addr) (z:Str),ps[j]? =some p->zs[j]? =some z->H p=some (.tup [.str z,vOf cols z])
theorem a1v.same {H H':Hp}{t:Addr}{cols:List (Str×V)}(h:a1v H t cols)(e:a0k H H'):a1v H' t cols:=by
 obtain⟨o,ps,zs,h1,h2,h3,h4,h5,h6⟩:=h;exact⟨o,ps,zs,h1,h2,h3,e _ _ h4,h5,fun j p z a b=>e _ _ (h6 j p z a b)⟩
def b1q:Sp:=fun vs H Q _=>∃(a:Addr) (cols:List (Str×V)),vs=[.ref a]/\H a=some (.dK (kvC cols))/\a0L H cols/\∀t H',a0k H H'->a1v H' t cols->Q (.ref t) H'
section
variable {P:Program}{w:World}{K:Fg0}{mg:Str->Option Value}{base:Heap}
theorem b2r {f sA:Addr}{fd:FuncData}(F:Fun K "ask_sorts" "ask_sorts" (top 19) f fd)(mS:mg "SIDE_SORTS"=some (.ref sA))(qS:∀H,SqT K H sA (a3Y.map V.str)):a0y P w K mg base CX0 1 f fd ["sorts"] b1t:=by
 have sc:a0o ["sorts","sort"] ["sorts"] (a0e (top 19)):=.k (by decide +kernel);refine F.ok sc (fun vs H Q E h=>?_) (fun cdv A outer s H vs Q E hr h=>?_)
 ·obtain⟨p,ss,rfl,_⟩:=h
  rfl
 ·obtain⟨p,ss,rfl,hp,hss,q⟩:=h
  have hu:=a2o hr;refine⟨_,a0d (a0F (a0z b3D (a3r a4L (pv 0) a4H (a4E a0g)) (a1S (a0a a0M a0c)) (a0B _)) a0l a0m)
   (a0h (a1A PassesOwn.never rfl (a1D (a3r a4L (pv 0) (a4E a0g) a4H)) (a0q (i:=1) sc.nd rfl (Or.inl rfl))
    (a0h (a0F (a0z a3f (pv 1) (a4I (v:=.ref sA) (by rfl) mS rfl) (by with_unfolding_all rfl)) a0l a0m)))),?_⟩
  refine⟨_,rfl,_,rfl,p,_,rfl,SqL.of hp,fun p1 e1=>?_⟩;rw[b1w (by decide) (by rw[lM0,List.length_cons];omega)];have T1:=a0k.upd (o:=.lst [V.str "head"]) e1;refine⟨(by show 1<=sizeLine;decide),fun p2 e2=>?_⟩;have T2:=a0k.upd (o:=.lst [V.str "head"]) e2;refine⟨0,p1,p2,[V.str "head"],[V.str "head"],rfl,rfl,SqL.of (T2 _ _ a0b),SqL.of a0b,rfl,(fun i x y h1 h2=>?_),hu,_,rfl,?_⟩
  ·rw[h1] at h2
   cases h2
   have:x=V.str "head":=by simpa using gI0 h1
   rw[this];exact .str
  refine a1W ?_;have S2:=T1.trans T2;refine⟨_,rfl,_,rfl,p,_,rfl,SqL.of (S2 _ _ hp),fun p3 e3=>?_⟩;rw[a7w (by decide) (by rw[lM0,List.length_cons];omega)];have T3:=a0k.upd (o:=.lst (ss.map V.str)) e3;refine⟨p3,rfl,⟨_,SqL.of a0b⟩,a2C (K:=K) (a:=p3) (xs:=ss.map V.str) (fun j σ H4=>H4=upd _ p3 (.lst (ss.map V.str))/\∃u,σ=[some (.ref p),u]) ⟨rfl,_,rfl⟩ (fun j σ H4 _ pp=>by rw[pp.1];exact SqL.of a0b) ?_ ?_⟩
  ·rintro j x σ H4 hx ⟨rfl,u,rfl⟩
   obtain⟨z,hz,rfl⟩:=mM0.mp (gI0 hx);refine⟨_,rfl,sA,_,rfl,.inr (qS _),rfl,(by decide),_,rfl,?_⟩;have hin:inV (.str z) (a3Y.map V.str)=true:=by
    have:∀z∈a3Y,inV (.str z) (a3Y.map V.str)=true:=by decide +kernel
    exact this z (hss z hz)
   refine a2q (by rw[hin];rfl) ?_;exact⟨rfl,_,rfl⟩
  ·rintro σ H4 ⟨rfl,u,rfl⟩
   exact q _ (S2.trans T3)
theorem b2Q {f fN:Addr}{fd fdN:FuncData}(F:Fun K "ask_names" "ask_names" (top 20) f fd)(DN:Df K mg "is_name" (top 11) fN fdN)(GN:a0y P w K mg base CX0 1 fN fdN ["thing"] (a5G K)):a0y P w K mg base CX0 2 f fd ["names"] b1J:=by
 have sc:a0o ["names","name"] ["names"] (a0e (top 20)):=.k (by decide +kernel);have bN:=DN.fn.b1 "thing" (by intros;rfl);refine F.ok sc (fun vs H Q E h=>?_) (fun cdv A outer s H vs Q E hr h=>?_)
 ·obtain⟨p,zs,rfl,_⟩:=h
  rfl
 ·obtain⟨p,zs,rfl,hp,nd,hz,q⟩:=h
  refine⟨_,a0h (a1A PassesOwn.never rfl (a1D (pv 0)) (a0q (i:=1) sc.nd rfl (Or.inl rfl))
    (a0d (a0F (a1k (a0D (a0j GN hr (by rfl) DN.mg DN.fn.kp bN .nil a0u (a0a (pv 1) a0c)))) a0l a0m)
    (a0h (a0F (a0z b5y (a4A PySem.F.plainAttrs_list PySem.F.slot_list_count PySem.F.type_list_count b0a (pv 0) (a0a (pv 1) a0c)) a0g (a0B _)) a0l a0m)))),?_⟩
  refine⟨_,rfl,p,rfl,⟨_,SqL.of hp⟩,a2C (K:=K) (a:=p) (xs:=zs.map V.str) (fun j σ H4=>a0k H H4/\∃u,σ=[some (.ref p),u]) ⟨a0k.refl H,_,rfl⟩ (fun j σ H4 _ pp=>SqL.of (pp.1 _ _ hp)) ?_ ?_⟩
  ·rintro j x σ H4 hx ⟨s4,u,rfl⟩
   obtain⟨z,hzm,rfl⟩:=mM0.mp (gI0 hx);have h8:z.length<=8:=by
    have:=hz z hzm
    unfold a1C at this;exact(of_decide_eq_true (Bool.and_eq_true_iff.mp this).1).2
   refine⟨_,rfl,_,_,rfl,Is.str,(fun z' e=>?_),(fun h=>absurd rfl h)⟩;cases e;refine⟨by rw[sizeLine_eq];omega,fun H5 s5=>⟨_,rfl,?_⟩⟩;rw[hz z hzm];refine a1W ?_;have hp5:=s5 _ _ (s4 _ _ hp);refine⟨_,rfl,.inl ⟨rfl,_,SqL.of hp5⟩,_,rfl,p,zs,z,rfl,rfl,SqL.of hp5,_,_,rfl,rfl,_,rfl,?_⟩;have hc:zs.count z<=1:=List.nodup_iff_count.mp nd z;refine a2q (dF0 (by omega)) ?_;exact⟨s4.trans s5,_,rfl⟩
  ·rintro σ H4 ⟨s4,u,rfl⟩
   exact q _ s4
theorem b2c {f fN fK:Addr}{fd fdN fdK:FuncData}(F:Fun K "columns_made" "columns_made" (top 21) f fd)(B:Bl mg)(DN:Df K mg "is_name" (top 11) fN fdN)(GN:a0y P w K mg base CX0 1 fN fdN ["thing"] (a5G K))(DK:Df K mg "is_kind" (top 15) fK fdK)(GK:a0y P w K mg base CX0 4 fK fdK ["thing"] a8Z) :
  a0y P w K mg base CX0 5 f fd ["columns"] b1q:=by
 have sc:a0o ["columns","column","kind"] ["columns"] (a0e (top 21)):=.k (by decide +kernel);have bN:=DN.fn.b1 "thing" (by intros;rfl);have bK:=DK.fn.b1 "thing" (by intros;rfl);refine F.ok sc (fun vs H Q E h=>?_) (fun cdv A outer s H vs Q E hr h=>?_)
 ·obtain⟨a,cols,rfl,_⟩:=h
  rfl
 ·obtain⟨a,cols,rfl,hc,ok,q⟩:=h
  have hr1:a1q 1 _:=hr.mono (by decide);have hu:=a2o hr;refine⟨_,a0d (a5F (a1A PassesOwn.never rfl (a7E (pv 0)) (a3L rfl (a0E (a0q (i:=1) sc.nd rfl (Or.inl rfl)) (a0E (a0q (i:=2) sc.nd rfl (Or.inl rfl)) a1Y)))
    (a0d (a0F (a1k (a0D (a0j GN hr1 (by rfl) DN.mg DN.fn.kp bN .nil a0u (a0a (pv 1) a0c)))) a0l a0m)
    (a0h (a0F (a1k (a0D (a0j GK hr (by rfl) DK.mg DK.fn.kp bK .nil a0u (a0a (pv 2) a0c)))) a0l a0m)))))
   (a0h (a0s (a0I a2L (by rfl) B.tuple boot_tuple (a0a (a1j (osc:=a0e (top 21)) (N0:=["columns","column","kind"]) (xs:=["column"]) (fr:=[0]) ⟨rfl,by decide +kernel,by decide +kernel,by decide +kernel,(fun j hj=>by
       have e:j=0:=by simpa using hj
       subst e;exact⟨_,rfl,by decide +kernel⟩),by decide +kernel⟩ rfl rfl rfl (a1D (a0i (a3g rfl) (by rfl) B.sorted boot_sorted (a0a (pv 0) a0c)))
      (fun s H fp=>a0q (i:=0) (show(["column","columns"]:List Str).Nodup by decide +kernel) rfl (Or.inl rfl)) (fun s H fp=>a1h)
      (fun s H fp=>a0P (a0a (pv 0) (a0a (a2a hu (pv 1) (pv 0) (fun _ _=>rfl)) a0c)))) a0c)))),?_⟩
  refine⟨a,_,hc,fun o=>?_⟩;have hfa:(upd H a (.frz o (.dK (kvC cols)))) a=some (.frz o (.dK (kvC cols))):=a0b;have back:∀H1:Hp,a0k H (upd H1 a (.dK (kvC cols)))\/¬a0k (upd H a (.frz o (.dK (kvC cols)))) H1:=fun H1=>by
   by_cases e:a0k (upd H a (.frz o (.dK (kvC cols)))) H1
   ·refine .inl fun b u hb=>?_
    by_cases eb:b=a
    ·subst eb
     rw[hc] at hb;rw[<-hb];exact a0b
    ·rw[a0f eb]
     exact e b u (by rw[a0f eb];exact hb)
   ·exact .inr e
  refine⟨_,rfl,a,o,_,rfl,hfa,a5V (a:=a) (o:=o) (kvs:=kvC cols) (fun i σ H1=>a0k (upd H a (.frz o (.dK (kvC cols)))) H1/\∃u1 u2,σ=[some (.ref a),u1,u2]) ⟨a0k.refl _,_,_,rfl⟩ (fun i σ H1 _ p=>p.1 _ _ hfa) ?_ ?_⟩
  ·rintro i k v p σ H1 hk ⟨s1,u1,u2,rfl⟩ hp
   obtain⟨⟨z,v'⟩,hm,e⟩:=mM0.mp (gI0 hk);cases e;obtain⟨hn,d,hd,hkd,hnd⟩:=ok.2.2 _ hm;have h8:z.length<=8:=by
    unfold a1C at hn;exact(of_decide_eq_true (Bool.and_eq_true_iff.mp hn).1).2
   have T:=a0k.upd (o:=.tup [kV (.inr z),v']) hp;refine⟨p,_,rfl,SqT.of a0b,rfl,_,_,rfl,_,_,rfl,rfl,?_⟩;refine⟨_,rfl,_,_,rfl,Is.str,(fun z' e=>?_),(fun h=>absurd rfl h)⟩;cases e;refine⟨by show z.length<=sizeLine;rw[sizeLine_eq];omega,fun H5 s5=>⟨_,rfl,?_⟩⟩;rw[hn];refine a1W ?_;have S5:=s1.trans (T.trans s5);refine⟨_,rfl,_,d,rfl,(Rep.beside (fun xs h=>by rw[hc] at h;cases h) hnd hd).same S5,fun H6 s6=>⟨_,rfl,?_⟩⟩;rw[hkd];refine a1W ?_;exact⟨S5.trans s6,_,_,rfl⟩
  ·rintro σ H1 ⟨s1,u1,u2,rfl⟩
   refine⟨s1 _ _ hfa,?_⟩;have S1:a0k H (L2.upd H1 a (.dK (kvC cols))):=by
    rcases back H1 with h |h
    ·exact h
    ·exact absurd s1 h
   generalize L2.upd H1 a (.dK (kvC cols))=H2 at S1 ⊢;have hc2:=S1 _ _ hc;have hkm:(kvC cols).map (·.1)=(cols.map (·.1)).map Sum.inr:=by
    unfold kvC;rw[mC0,mC0]
    rfl
   refine⟨_,rfl,a,_,_,rfl,.inl hc2,hkm,(by rw[lM0];have:=ok.2.1;omega),fun l zs hl hpm hso=>?_⟩;have T3:=a0k.upd (o:=.lst (zs.map V.str)) hl;have S3:=S1.trans T3;refine⟨l,rfl,⟨_,SqL.of a0b⟩,fun D hD=>?_⟩;have hD0:H D=none:=by
    cases e:H D with
    |none=>rfl
    |some o=>rw[S3 _ _ e] at hD;cases hD
   have hlD:l≠D:=fun e=>by rw[<-e,a0b] at hD;cases hD
   have hzl:zs.length<=12:=by
    have:=hpm.length_eq
    rw[lM0] at this
    have:=ok.2.1
    omega
   refine a1m zs.length (fun i ys σ' Hc=>(∃t,σ'=[t,some (.ref a)])/\a0k H Hc/\Hc l=some (.lst (zs.map V.str))/\∃ps:List Addr,ys=ps.map V.ref/\∀(j:Nat) (p:Addr) (z:Str),ps[j]? =some p->zs[j]? =some z->Hc p=some (.tup [.str z,vOf cols z])) (by rw[sizeLine_eq];omega) ⟨⟨none,rfl⟩,S3.trans (a0k.upd hD),(a0k.upd hD) _ _ a0b,[],rfl,fun j p z h=>nomatch h⟩ a0b ?_ ?_
   ·rintro i σ' Hc ys hi ⟨⟨t,rfl⟩,sm,hlc,ps,rfl,hps⟩ hyl hD'
    rw[lM0] at hyl;refine⟨⟨_,V.str zs[i],SqL.of hlc,by rw[gM0,gE0 hi];rfl⟩,?_⟩;rintro x H' ⟨rfl,hx'⟩;have ex:=hx' _ (SqL.of hlc);rw[gM0,gE0 hi] at ex;cases ex;have hzm:zs[i]∈cols.map (·.1):=hpm.mem_iff.mp (gQ0 hi);refine⟨_,rfl,_,rfl,_,rfl,a,_,rfl,.inl ⟨_,.inr zs[i],.inl (sm _ _ hc),rfl,(a4m hzm).symm⟩,(by show 2<=sizeLine;decide),fun p hp=>?_⟩;have T:=a0k.upd (o:=.tup [.str zs[i],vOf cols zs[i]]) hp;have hpD:p≠D:=fun e=>by rw[e,hD'] at hp;cases hp
    refine⟨T _ _ hD',⟨_,rfl⟩,(sm.trans T).put hD0,by rw[a0f hlD];exact T _ _ hlc,ps++[p],by rw[mA0];rfl,fun j p' z' h1 h2=>?_⟩
    by_cases hj:j<ps.length
    ·rw[gL0 hj] at h1
     have hh:=hps j p' z' h1 h2;have hne:p'≠D:=fun e=>by rw[e,hD'] at hh;cases hh
     rw[a0f hne];exact T _ _ hh
    ·have hj':j=ps.length:=by
      have:=(gS0.mp h1).1
      rw[lA0] at this;simp at this
      omega
     subst hj';rw[gR0 (nR0 _),Nat.sub_self] at h1;cases h1;rw[hyl,gE0 hi] at h2;cases h2;rw[a0f hpD];exact a0b
   ·rintro σ' Hc ys ⟨_,sm,hlc,ps,rfl,hps⟩ hDn hyl
    rw[lM0] at hyl;refine⟨⟨_,SqL.of hlc,by rw[lM0];exact nR0 _⟩,?_⟩;refine⟨D,_,rfl,SqL.of hDn,fun t o2 ht ho2=>?_⟩;have T:=a0k.upd (o:=.frz o2 (.tup (ps.map V.ref))) ht;exact q t _ (sm.trans T) ⟨o2,ps,zs,hpm,hso,ho2,a0b,hyl,fun j p z h1 h2=>T _ _ (hps j p z h1 h2)⟩
structure Tb where
 name:Str
 sort:Str
 cols:List (Str×V)
def a2k (H:Hp)(e:Addr)(T:Tb):Prop:=∃ct,H e=some (.tup [.str T.name,.str T.sort,.ref ct])/\a1v H ct T.cols
def a0W (H:Hp)(f:Addr)(sz:Int)(Ts:List Tb):Prop:=∃(tt:Addr) (es:List Addr),H f=some (.tup [.int sz,.ref tt])/\H tt=some (.tup (es.map V.ref))/\es.length=Ts.length/\∀(j:Nat) (e:Addr) (T:Tb),es[j]? =some e->Ts[j]? =some T->a2k H e T
theorem a2k.same {H H':Hp}{e:Addr}{T:Tb}(h:a2k H e T)(s:a0k H H'):a2k H' e T:=by
 obtain⟨ct,h1,h2⟩:=h;exact⟨ct,s _ _ h1,h2.same s⟩
theorem a0W.same {H H':Hp}{f:Addr}{sz:Int}{Ts:List Tb}(h:a0W H f sz Ts)(s:a0k H H'):a0W H' f sz Ts:=by
 obtain⟨tt,es,h1,h2,h3,h4⟩:=h;exact⟨tt,es,s _ _ h1,s _ _ h2,h3,fun j e T a b=>(h4 j e T a b).same s⟩
def a9q:Sp:=fun vs H Q _=>∃(f:Addr) (sz:Int) (Ts:List Tb),vs=[.ref f]/\a0W H f sz Ts/\Ts.length<=8/\∀p H',H p=none->a0k H H'->H' p=some (.lst ((Ts.map (·.name)).map V.str))->Q (.ref p) H'
def a5c:Sp:=fun vs H Q _=>∃(f:Addr) (sz:Int) (T:Tb) (Ts:List Tb),vs=[.ref f]/\a0W H f sz (T::Ts)/\Q (.str T.name) H
def a3b:Sp:=fun vs H Q _=>∃(f:Addr) (sz:Int) (Ts:List Tb) (T:Tb),vs=[.ref f,.str T.name]/\a0W H f sz Ts/\(Ts.map (·.name)).Nodup/\T∈Ts/\∀e,a2k H e T->Q (.ref e) H
def a7f:Sp:=fun vs H Q _=>∃(f:Addr) (sz:Int) (Ts:List Tb) (T:Tb),vs=[.ref f,.str T.name]/\a0W H f sz Ts/\(Ts.map (·.name)).Nodup/\T∈Ts/\Q (.str T.sort) H
def a2Q:Sp:=fun vs H Q _=>∃(f:Addr) (sz:Int) (Ts:List Tb) (T:Tb),vs=[.ref f,.str T.name]/\a0W H f sz Ts/\(Ts.map (·.name)).Nodup/\T∈Ts/\(T.cols.map (·.1)).Nodup/\T.cols.length<=12 ∧
 ∀(p:Addr) (H':Hp) (zs:List Str),H p=none->a0k H H'->zs.Perm (T.cols.map (·.1))->sortedS zs=true->H' p=some (.dK (zs.map fun z=>(.inr z,vOf T.cols z)))->Q (.ref p) H'
theorem a9F {f:Addr}{fd:FuncData}(F:Fun K "tables_of" "tables_of" (top 22) f fd):a0y P w K mg base CX0 1 f fd ["form"] a9q:=by
 have sc:a0o ["form"] ["form"] (a0e (top 22)):=.k (by decide +kernel);refine F.ok sc (fun vs H Q E h=>?_) (fun cdv A outer s H vs Q E hr h=>?_)
 ·obtain⟨f,sz,Ts,rfl,_⟩:=h
  rfl
 ·obtain⟨f,sz,Ts,rfl,⟨tt,es,h1,h2,h3,h4⟩,h8,q⟩:=h
  refine⟨_,a0h (a0s (a1j (osc:=a0e (top 22)) (N0:=["form"]) (xs:=["entry"]) (fr:=[]) ⟨rfl,by decide +kernel,by decide +kernel,by decide +kernel,by decide,by decide +kernel⟩ rfl rfl rfl (a4a (a0x a1o (pv 0) a0g (fun _ _=>rfl)))
    (fun s H fp=>a0q (i:=0) (show(["entry"]:List Str).Nodup by decide +kernel) rfl (Or.inl rfl)) (fun s H fp=>a1h) (fun s H fp=>a0x (r:=b3g K) a1o (pv 0) a0g (fun _ _=>rfl)))),?_⟩
  refine⟨_,rfl,_,_,1,_,rfl,rfl,SqT.of h1,rfl,tt,rfl,⟨_,SqT.of h2⟩,fun D hD=>?_⟩;refine a1H Ts.length (fun i=>.str ((Ts.map (·.name)).getD i "")) (fun i σ' Hc=>(∃t,σ'=[t])/\a0k H Hc) (by rw[sizeLine_eq];omega) ⟨⟨none,rfl⟩,a0k.upd hD⟩ a0b ?_ ?_
  ·rintro i σ' Hc hi ⟨⟨t,rfl⟩,sm⟩ hD'
   have hie:i<es.length:=by omega
   refine⟨⟨_,V.ref es[i],SqT.of (sm _ _ h2),by rw[gM0,gE0 hie];rfl⟩,?_⟩;rintro x H' ⟨rfl,hx'⟩;have ex:=hx' _ (SqT.of (sm _ _ h2));rw[gM0,gE0 hie] at ex;cases ex;obtain⟨ct,g1,_⟩:=h4 i es[i] Ts[i] (gE0 hie) (gE0 hi);refine⟨_,rfl,_,_,0,_,rfl,rfl,SqT.of (sm _ _ g1),rfl,?_,hD',⟨_,rfl⟩,sm.put hD⟩;rw[List.getD_eq_getElem?_getD,gM0,gE0 hi]
   rfl
  ·rintro σ' Hc ⟨_,sm⟩ hDn
   refine⟨⟨_,SqT.of (sm _ _ h2),by rw[lM0];omega⟩,q D Hc hD sm ?_⟩
   have:=a1F (Ts.map (·.name)) ("":Str) (fun z=>V.str z)
   rw[lM0] at this;rw[hDn,this]
theorem a4D {f:Addr}{fd:FuncData}(F:Fun K "table_in" "table_in" (top 26) f fd):a0y P w K mg base CX0 1 f fd ["form","table"] a3b:=by
 have sc:a0o ["form","table","entry"] ["form","table"] (a0e (top 26)):=.k (by decide +kernel);refine F.ok sc (fun vs H Q E h=>?_) (fun cdv A outer s H vs Q E hr h=>?_)
 ·obtain⟨f,sz,Ts,T,rfl,_⟩:=h
  rfl
 ·obtain⟨f,sz,Ts,T,rfl,⟨tt,es,h1,h2,h3,h4⟩,nd,hT,q⟩:=h
  refine⟨_,a0d (a1A PassesOwn.never rfl (a4a (a0x a1o (pv 0) a0g (fun _ _=>rfl))) (a0q (i:=2) sc.nd rfl (Or.inl rfl))
    (a0h (a0F (a0z a2l (a0x a1o (pv 2) a0g (fun _ _=>rfl)) (pv 1) (a0B _)) (a0h (a0s (pv 2))) a0m))) a0l,?_⟩
  refine⟨_,rfl,_,_,1,_,rfl,rfl,SqT.of h1,rfl,tt,rfl,⟨_,SqT.of h2⟩,a8I (K:=K) (a:=tt) (xs:=es.map V.ref) (fun i σ H'=>H'=H/\(∃u,σ=[some (.ref f),some (.str T.name),u])/\∀j T',j<i->Ts[j]? =some T'->T'.name≠T.name) ⟨rfl,⟨_,rfl⟩,fun j _ hj=>absurd hj (Nat.not_lt_zero _)⟩ (fun i σ H' _ p=>by rw[p.1];exact SqT.of h2) ?_ ?_⟩
  ·rintro i x σ H' hx ⟨rfl,⟨u,rfl⟩,hn⟩
   have hie:i<es.length:=by
    have:=(gS0.mp hx).1
    rwa [lM0] at this
   have hit:i<Ts.length:=by omega
   rw[gM0,gE0 hie] at hx;cases hx;have ent:=h4 i es[i] Ts[i] (gE0 hie) (gE0 hit);obtain⟨ct,g1,g2⟩:=id ent;refine⟨_,rfl,_,_,0,_,rfl,rfl,SqT.of g1,rfl,_,rfl,rfl,_,rfl,?_⟩;refine b0S (fun hc=>?_) (fun hc=>?_)
   ·have en:Ts[i].name=T.name:=by
     have:=of_decide_eq_true hc
     injection this
    have eT:Ts[i]=T:=by
     obtain⟨k,hk,ek⟩:=List.mem_iff_getElem.mp hT
     have:i=k:=by
      refine(List.getElem_inj (h₀:=by rw[lM0];exact hit) (h₁:=by rw[lM0];exact hk) nd).mp ?_;rw[List.getElem_map,List.getElem_map,ek,en]
     subst this;exact ek
    rw[eT] at ent;exact⟨_,rfl,q _ ent⟩
   ·refine⟨rfl,⟨_,rfl⟩,fun j T' hj hT'=>?_⟩
    by_cases hji:j<i
    ·exact hn j T' hji hT'
    ·have:j=i:=by omega
     subst this;rw[gE0 hit] at hT';cases hT';exact fun e=>hc (by rw[e];exact dT0 rfl)
  ·rintro σ H' ⟨rfl,⟨u,rfl⟩,hn⟩
   obtain⟨k,hk,ek⟩:=List.mem_iff_getElem.mp hT;exact absurd rfl (hn k T (by rw[lM0];omega) (by rw[gE0 hk,ek]))
theorem a9r {f fT:Addr}{fd fdT:FuncData}(F:Fun K "sort_of" "sort_of" (top 24) f fd)(DT:Df K mg "table_in" (top 26) fT fdT):a0y P w K mg base CX0 2 f fd ["form","table"] a7f:=by
 have sc:a0o ["form","table"] ["form","table"] (a0e (top 24)):=.k (by decide +kernel);have GT:a0y P w K mg base CX0 1 fT fdT ["form","table"] a3b:=a4D DT.fn;have bT:=DT.fn.b2 "form" "table" (by intros;rfl);refine F.ok sc (fun vs H Q E h=>?_) (fun cdv A outer s H vs Q E hr h=>?_)
 ·obtain⟨f,sz,Ts,T,rfl,_⟩:=h
  rfl
 ·obtain⟨f,sz,Ts,T,rfl,hf,nd,hT,q⟩:=h
  refine⟨_,a0h (a0s (a0x a1o (a0j GT hr (by rfl) DT.mg DT.fn.kp bT .nil a0u (a0a (pv 0) (a0a (pv 1) a0c))) a0g (fun _ _=>rfl))),?_⟩;refine⟨_,rfl,_,rfl,f,sz,Ts,T,rfl,hf,nd,hT,fun e he=>?_⟩;obtain⟨ct,g1,_⟩:=he;exact⟨_,_,1,_,rfl,rfl,SqT.of g1,rfl,q⟩
theorem a5M {f fT:Addr}{fd fdT:FuncData}(F:Fun K "columns_of" "columns_of" (top 25) f fd)(B:Bl mg)(DT:Df K mg "table_in" (top 26) fT fdT):a0y P w K mg base CX0 2 f fd ["form","table"] a2Q:=by
 have sc:a0o ["form","table"] ["form","table"] (a0e (top 25)):=.k (by decide +kernel);have GT:a0y P w K mg base CX0 1 fT fdT ["form","table"] a3b:=a4D DT.fn;have bT:=DT.fn.b2 "form" "table" (by intros;rfl);refine F.ok sc (fun vs H Q E h=>?_) (fun cdv A outer s H vs Q E hr h=>?_)
 ·obtain⟨f,sz,Ts,T,rfl,_⟩:=h
  rfl
 ·obtain⟨f,sz,Ts,T,rfl,hf,nd,hT,ndc,c12,q⟩:=h
  refine⟨_,a0h (a0s (a0I (a4n rfl) (by rfl) B.dict boot_dict (a0a (a0x a1o (a0j GT hr (by rfl) DT.mg DT.fn.kp bT .nil a0u (a0a (pv 0) (a0a (pv 1) a0c))) a0g (fun _ _=>rfl)) a0c))),?_⟩;refine⟨_,rfl,_,rfl,f,sz,Ts,T,rfl,hf,nd,hT,fun e he=>?_⟩;obtain⟨ct,g1,o,ps,zs,hpm,hso,ho,hct,hpl,hpz⟩:=he;have hzl:zs.length<=12:=by
   have:=hpm.length_eq
   rw[lM0] at this
   omega
  refine⟨_,_,2,_,rfl,rfl,SqT.of g1,rfl,ct,o,_,zs.map (fun z=>(.inr z,vOf T.cols z)),rfl,hct,ho,(by rw[lM0];omega),(by rw[lM0,lM0];omega),(fun j k v hj=>?_),?_,fun p hp=>q p _ zs hp (a0k.upd hp) hpm hso a0b⟩
  ·have hjz:j<zs.length:=by
    have:=(gS0.mp hj).1
    rwa [lM0] at this
   have hjp:j<ps.length:=by omega
   rw[gM0,gE0 hjz] at hj;cases hj;exact⟨ps[j],by rw[gM0,gE0 hjp];rfl,SqT.of (hpz j ps[j] zs[j] (gE0 hjp) (gE0 hjz))⟩
  ·rw[mC0]
   have e:((fun x:Key×V=>x.1)∘fun z=>((Sum.inr z:Key),vOf T.cols z))=fun z=>(Sum.inr z:Key):=rfl;rw[e];exact List.Pairwise.map _ (fun a b hab h=>hab (by injection h)) (hpm.nodup_iff.mpr ndc)
end
end My
namespace L2
open PySem PySem.Spec PyProof.Rows
def b1U (tabs:List Addr)(H:Hp):Prop:=(∀b,H b=none\/(∃o xs,H b=some (.frz o (.lst xs)))\/(b∈tabs/\H b=some (.tbl #[])))/\∀b∈tabs,H b=some (.tbl #[])
def a5X (h:Heap)(mg:Str->Option Value):Prop:=∃bm ob,mg "__builtins__"=some (.ref bm)/\bm≠builtinsNs/\h.get? bm=some ob/\ob.cls=.type "module"/\ob.dict=some builtinsNs/\ob.data=.plain
theorem a9m {P:Program}{w:World}{K:Fg0}{mg mb:Str->Option Value}{CX:CXT}{k:Nat}{fa a:Addr}{fd:FuncData}{x:Str}{sp:Sp}{s₁:Shared}{vs:List Value}{ns:List Int}{tabs:List Addr}
  (KX:K.In s₁.heap) (hns:s₁.heap.Ns mainGlobals mg) (hb:s₁.heap.Ns builtinsNs mb) (hbb:∀x:Str,x≠"__name__"->mb x=bootBuiltins x) (hlim:s₁.heap.NoLimit) (hg:s₁.gens=#[])
  (ha:s₁.heap.get? a=some { cls:=.type "list",data:=.seq vs.toArray }) (hi:IntsAre vs ns) (hl:ns.length<=sizeLine) (hr:a1q k callerA)
  (hT:∀b∈tabs,(∃c,s₁.heap.TableAt c b #[])/\K.lookup b=none)
  (hbm:a5X s₁.heap mg)
  (F:∀base:Heap,K.In base->base.Ns mainGlobals mg->a5X base mg->a0y P w K mg base CX k fa fd [x] sp) (hbind:∀(s:Shared) (u:Value),BindsTo s fd ⟨[u],[]⟩ [(x,u)])
  (hsp:∀H:Hp,b1U tabs H->SqL K H a (ns.map V.int)->sp [.ref a] H (fun v _=>v=.bl true) fun _ _ _=>False)
  (hCX:∀H e s',CX [] H s₁ (fun _ _ _=>False) e s'->False) :
  codeAny (model P w) callerA (.call (.ref fa) ⟨[.ref a],[]⟩) (fun r s'=>r=.ok (.ret (.bool true))/\OldK s₁.heap s'.heap/\s'.os=s₁.os/\AllBare s'.gens) s₁:=by
 have rv:=a3K hi;have lenV:=hi.length;have tabG:∀b∈tabs,s₁.heap.get? b=some (PySem.W.tabObj #[]):=fun b hb=>(hT b hb).1.elim fun c h=>h.2;have core:∀H:Hp,b1U tabs H->SqL K H a (ns.map V.int)->HOk P w H s₁.heap->(∀b,H b≠none->b=a\/b∈tabs)->(H a≠none->K.lookup a=none) →
   codeAny (model P w) callerA (.call (.ref fa) ⟨[.ref a],[]⟩) (fun r s'=>r=.ok (.ret (.bool true))/\OldK s₁.heap s'.heap/\s'.os=s₁.os/\AllBare s'.gens) s₁:=by
  intro H hO hS hok hA hK;have base_of:∀{b:Addr} {o:Obj},s₁.heap.get? b=some o->H b=none->(a6B s₁.heap H).get? b=some o:=fun e n=>a7B e n;have noA:∀{b:Addr} {o:Obj} {es:Array DictEntry} {ep:Nat},s₁.heap.get? b=some o->o.data=.dict es ep->H b=none:=fun {b o es ep} e d=>by
   cases q:H b with
   |none=>rfl
   |some u=>
    rcases hA b (by rw[q];simp) with e' |e'
    ·subst e'
     rw[ha] at e;cases e;have d':Data.seq vs.toArray _=Data.dict es ep:=d;cases d'
    ·rw[tabG b e'] at e;cases e
     have d':Data.fields #[]=Data.dict es ep:=d;cases d'
  have nsK:∀{b:Addr} {m:Str->Option Value},s₁.heap.Ns b m->(a6B s₁.heap H).Ns b m:=fun {b m} ⟨o,es,ep,e,d,r⟩=>⟨o,es,ep,base_of e (noA e d),d,r⟩;have hKb:K.In (a6B s₁.heap H):=fun b o e=>base_of (KX b o e) (by
   cases q:H b with
   |none=>rfl
   |some u=>
    rcases hA b (by rw[q];simp) with e' |e'
    ·subst e'
     rw[hK (by rw[q];simp)] at e;cases e
    ·rw[(hT b e').2] at e;cases e)
  have hM:Mod K mg (a6B s₁.heap H):=⟨hKb,nsK hns,⟨mb,nsK hb,hbb⟩,let ⟨mc,h1,h2⟩:=hlim;⟨mc,nsK h1,h2⟩⟩;have e0:a7s P w K mg (a6B s₁.heap H) callerA [] s₁ H:=⟨rfl,hM,fun b o e=>a8B e,Nat.le_of_eq (a5k _ _),trivial,fun b hb=>absurd (show b∈([]:List Addr) from hb) (by simp),hok,.of_eq hg⟩;have hB:a5X (a6B s₁.heap H) mg:=by
   obtain⟨bm,ob,b1,b2,b3,b4,b5,b6⟩:=hbm;refine⟨bm,ob,b1,b2,base_of b3 ?_,b4,b5,b6⟩;cases q:H bm with
   |none=>rfl
   |some u=>
    rcases hA bm (by rw[q];simp) with e' |e'
    ·rw[e',ha] at b3
     cases b3;cases b6
    ·rw[tabG bm e'] at b3
     cases b3;cases b6
  refine codeAny_mono ((F _ hKb (nsK hns) hB).run callerA [] s₁ H ⟨[.ref a],[]⟩ [.ref a] [.ref a] _ _ hr e0 (hbind s₁ (.ref a)) (.cons rfl .nil) (hsp H hO hS)) fun r s' h=>?_;cases r with
  |error e=>exact(hCX H e s' h).elim
  |ok fl=>
   cases fl with
   |next=>exact False.elim h
   |brk=>exact False.elim h
   |cont=>exact False.elim h
   |ret u=>
    obtain⟨v,H',os,bare,un,hok',r',q⟩:=h;have q':v=.bl true:=q;subst q';obtain rfl:u=Value.bool true:=r';refine⟨rfl,⟨fun b o e=>?_,fun b o e=>un.there b o e (by simp)⟩,os,bare⟩;cases q:H b with
    |none=>exact .inl (un.keep b o e q (by intro z;exact absurd (show b∈([]:List Addr) from z) (by simp)) (by simp))
    |some u=>
     rcases hO.1 b with z |⟨ob,xs,z⟩ |⟨hb,z⟩
     ·rw[q] at z;cases z
     ·have z2:=un.frzs b ob _ z
      obtain⟨e1,_⟩:=hok b _ z;obtain⟨e2,_⟩:=hok' b _ z2;rw[e] at e1;cases e1;exact .inl e2
     ·obtain⟨more,z2⟩:=un.tbls b _ z
      have e2:=hok' b _ z2;obtain⟨c,ht⟩:=(hT b hb).1;rw[tabG b hb] at e;cases e;exact .inr (.inl ⟨ht.isCodeTable,rfl,#[],more,rfl,e2⟩)
 have na:a∉tabs:=fun z=>by
  have e:=tabG a z;rw[ha] at e;have e':=congrArg Obj.data (Option.some.inj e);have e2:Data.seq vs.toArray 0=Data.fields #[]:=e';cases e2
 cases hk:K.lookup a with
 |some o=>
  have e:=KX a o hk;rw[ha] at e;cases e;refine core (fun b=>if b∈tabs then some (.tbl #[]) else none) ⟨fun b=>?_,fun b hb=>if_pos hb⟩ (.inr ⟨_,vs.toArray,_,hk,rfl,rfl,rfl,by rw[List.size_toArray,lenV];exact hl,by simpa using rv⟩) (fun b u z=>?_) (fun b z=>?_) (fun z=>absurd (if_neg na) z)
  ·by_cases hb:b∈tabs
   ·exact .inr (.inr ⟨hb,if_pos hb⟩)
   ·exact .inl (if_neg hb)
  ·by_cases hb:b∈tabs
   ·have z':=(if_pos hb).symm.trans z
    cases z';exact tabG b hb
   ·have z':=(if_neg hb).symm.trans z
    cases z'
  ·by_cases hb:b∈tabs
   ·exact .inr hb
   ·exact absurd (if_neg hb) z
 |none=>
  refine core (fun b=>if b∈tabs then some (.tbl #[]) else if b=a then some (.frz { cls:=.type "list",data:=.seq vs.toArray } (.lst (ns.map V.int))) else none) ⟨fun b=>?_,fun b hb=>if_pos hb⟩ (.inl (.inr ⟨{ cls:=.type "list",data:=.seq vs.toArray },by
   show(if a∈tabs then _ else if a=a then _ else _)=_
   rw[if_neg na,if_pos rfl]⟩)) (fun b u z=>?_) (fun b z=>?_) (fun _=>hk)
  ·by_cases hb:b∈tabs
   ·exact .inr (.inr ⟨hb,if_pos hb⟩)
   ·by_cases hb2:b=a
    ·refine .inr (.inl ⟨{ cls:=.type "list",data:=.seq vs.toArray },ns.map V.int,?_⟩)
     show(if b∈tabs then _ else if b=a then _ else _)=_
     rw[if_neg hb,if_pos hb2]
    ·refine .inl ?_
     show(if b∈tabs then _ else if b=a then _ else _)=_
     rw[if_neg hb,if_neg hb2]
  ·have z0:(if b∈tabs then some (HO.tbl #[]) else if b=a then some (.frz { cls:=.type "list",data:=.seq vs.toArray } (.lst (ns.map V.int))) else none)=some u:=z
   by_cases hb:b∈tabs
   ·rw[if_pos hb] at z0
    cases z0;exact tabG b hb
   ·rw[if_neg hb] at z0
    by_cases hb2:b=a
    ·rw[if_pos hb2] at z0
     cases z0;subst hb2;exact⟨ha,by rw[lM0];exact hl,vs,_,rv,ha⟩
    ·rw[if_neg hb2] at z0
     cases z0
  ·by_cases hb:b∈tabs
   ·exact .inr hb
   ·by_cases hb2:b=a
    ·exact .inl hb2
    ·refine absurd ?_ z
     show(if b∈tabs then _ else if b=a then _ else _)=_
     rw[if_neg hb,if_neg hb2]
theorem b4j {K:Fg0}{h:Heap}{c P:Addr}(X:K.In h)(g:h.get? P=some (PySem.W.tabObj #[]))(e:PySem.W.codeHdIn K c P=true)(n:K.lookup P=none):(∃c,h.TableAt c P #[])/\K.lookup P=none:=
 ⟨⟨c,(PySem.W.codeHd_of_K X e).tab g⟩,n⟩
theorem b0G {l:PySem.W.OpenLaw}{n k:Nat}{q:Program}{loose:List Str}{XP:(Str->Option Value)->Heap->Prop}{YP:World->Heap->Prop}{d:DefRec}{K:Params->Fg0}{CX:World->CXT}{sp:World->Sp}{x:Str}{tx:World->List Addr}
  (hn:l.most=some n) (hn2:n<=sizeLine) (hdf:d.params.defaults=[]) (hr:a1q k callerA)
  (hY:∀(w:World) (h:Heap),YP w h->(K w.params).In h)
  (hT:∀(w:World) (h:Heap),YP w h->∀b∈tx w,(∃c,h.TableAt c b #[])/\(K w.params).lookup b=none)
  (F:∀(w:World) (mg:Str->Option Value) (fa:Addr) (h:Heap),(K w.params).In h->h.Ns mainGlobals mg->mg d.name=some (.ref fa) →
   ∃fd:FuncData,(∀(s:Shared) (u:Value),BindsTo s fd ⟨[u],[]⟩ [(x,u)]) ∧
    ∀base:Heap,(K w.params).In base->base.Ns mainGlobals mg->a5X base mg->a0y l.prog w (K w.params) mg base (CX w) k fa fd [x] (sp w))
  (hsp:∀(w:World) (H:Hp) (a:Addr) (ns:List Int),ns.length<=n->b1U (tx w) H->SqL (K w.params) H a (ns.map V.int)->sp w [.ref a] H (fun v _=>v=.bl true) fun _ _ _=>False)
  (hCX:∀(w:World) (H:Hp) (s:Shared) (e:Value) (s':Shared),CX w [] H s (fun _ _ _=>False) e s'->False) :
  PySem.W.WalkO q loose XP YP l.row.toRowW d [] (fun f vs=>PySem.call f vs):=by
 refine Att.a3C hn hdf fun w s₀ s₁ mg mb fa o pm cd doc a vs ns G Y ho hd hcd hmg hobj hints hlen hg=>?_;have KX:=hY w _ Y;obtain⟨fd,hb,hF⟩:=F w mg fa _ KX G.T.g hmg;exact a9m KX G.T.g G.T.b G.T.builtins G.T.nolimit hg hobj hints (Nat.le_trans hlen hn2) hr (hT w _ Y) G.T.bmain hF hb (fun H hO hS=>hsp w H a ns hlen hO hS) fun H e s'=>hCX w H s₁ e s'
def a4k (c:Addr)(q:Str)(h:Heap):Prop:=h.CodeRec (.ref c) q
def a9N (f:Addr)(q:Str)(params:Arguments)(body:Expr)(scope:Scope)(pm:Value)(c':Addr)(h:Heap):Prop:=∃ctv,h.get? f=some (PySem.W.kla_obj "<lambda>" q params body scope [] pm c' ctv)
section
variable {P:Program}{w:World}{H:Hp}{h:Heap}{f c:Addr}{q:Str}{params:Arguments}{body:Expr}{scope:Scope}{pm:Value}
theorem b1e (e:h.CodeRec (.ref c) q):a1f P w H h c (.ext (a4k c q)):=by
 refine⟨e,?_,fun h1 h2 x k=>?_⟩
 ·obtain⟨c',o,vs,t,e1,e2,_⟩:=e
  cases e1;exact⟨o,e2⟩
 ·obtain⟨c',o,vs,t,e1,e2,e3⟩:=x
  cases e1;exact⟨c,o,vs,t,rfl,k o e2,e3⟩
theorem a8N {ctv:Value}(e:h.get? f=some (PySem.W.kla_obj "<lambda>" q params body scope [] pm c ctv)):a1f P w H h f (.ext (a9N f q params body scope pm c)):=⟨⟨ctv,e⟩,⟨_,e⟩,fun _ _ ⟨ctv,e⟩ k=>⟨ctv,k _ e⟩⟩
end
def b5K (P:Addr)(pos:Pos)(q:Str)(params:Arguments)(body:Expr)(scope:Scope)(pm:Value):TE:=fun σ H Q=>∃ps,H P=some (.tbl ps)/\TriplesOk ps.toList ∧
 ((codeAmong pos ps.toList=none/\∀c' f,H c'=none->H f=none->c'≠f->c'≠P->f≠P->Q (.ref f) (upd (upd (upd H P (.tbl (ps++#[rawInt pos.line,rawInt pos.col,.ref c']))) c' (.ext (a4k c' q))) f (.ext (a9N f q params body scope pm c')))) ∨
  ∃c',codeAmong pos ps.toList=some (.ref c')/\∀f,H f=none->Q (.ref f) (upd H f (.ext (a9N f q params body scope pm c'))))
section
variable {X:Cx}{params:Arguments}{body:Expr}{scope:Scope}{pos:Pos}{c P:Addr}
theorem b4r (hcode:X.env.code=.ref c)(hC:PySem.W.codeHdIn X.K c P=true)(hB:a5X X.base X.mg)(hcl:closureFor scope X.env=pure []:=by rfl)(hdef:defaultsOf params X.env=([],[]):=by rfl) :
  PE X (.Lambda params body scope pos) (b5K P pos (X.env.qual++"<lambda>") params body scope ((X.mg "__name__").getD .none)):=by
 intro pins s σ H Q I h;obtain⟨ps,hp,tr,h⟩:=h;have hg:s.heap.Ns mainGlobals X.mg:=I.mod.glob.keeps I.bk;have C:=PySem.W.codeHd_of_K I.kIn hC;have hP:s.heap.get? P=some (PySem.W.tabObj ps):=I.hok P _ hp;have hgP:mainGlobals≠P:=fun z=>by
  obtain⟨o,es,ep,e,d,_⟩:=id hg;rw[z,hP] at e;cases e;cases d
 have hb:s.heap.BuiltinsAt X.mg P:=by
  obtain⟨bm,ob,b1,b2,b3,b4,b5,b6⟩:=hB;have b3':=I.bk _ _ b3;refine⟨bm,ob,b1,b2,fun z=>?_,fun z=>?_,b3',b4,b5,b6⟩
  ·obtain⟨o,es,ep,e,d,_⟩:=id hg
   rw[z,e] at b3';cases b3';rw[d] at b6;cases b6
  ·rw[z,hP] at b3'
   cases b3';cases b6
 refine PySem.W.kla_eval hdef ?_;rcases h with ⟨hnf,q⟩ |⟨c',hf,q⟩
 ·refine PySem.W.kla_makeFunction hcl I.ok.glob hg hcode C hP tr hnf hgP hb fun c' ctv h' tk hx hge hlt hrec htb=>?_
  have hcN:H c'=none:=I.hok.fresh hge;have hfN:H h'.objs.size=none:=I.hok.fresh (Nat.le_trans hge (Nat.le_of_lt hlt));have cf:c'≠h'.objs.size:=nL0 hlt;have cP:c'≠P:=fun z=>by rw[z,hp] at hcN;cases hcN
  have fP:h'.objs.size≠P:=fun z=>by rw[z,hp] at hfN;cases hfN
  have keep:∀b o,b≠P->s.heap.get? b=some o->(h'.push (PySem.W.kla_obj "<lambda>" (X.env.qual++"<lambda>") params body scope [] ((X.mg "__name__").getD .none) c' ctv)).get? b=some o:=fun b o hb e=>hP0 _ (hx b o hb e);have nP:∀b,H b=none->b≠P:=fun b n z=>by rw[z,hp] at n;cases n
  have old:∀b u,H b=some u->b≠P->upd (upd (upd H P (.tbl (ps++#[rawInt pos.line,rawInt pos.col,.ref c']))) c' (.ext (a4k c' (X.env.qual++"<lambda>")))) h'.objs.size (.ext (a9N h'.objs.size (X.env.qual++"<lambda>") params body scope ((X.mg "__name__").getD .none) c')) b=some u:=fun b u e hb=>by
   rw[a0f (fun z=>by rw[z,hfN] at e;cases e),a0f (fun z=>by rw[z,hcN] at e;cases e),a0f hb];exact e
  have atP:upd (upd (upd H P (.tbl (ps++#[rawInt pos.line,rawInt pos.col,.ref c']))) c' (.ext (a4k c' (X.env.qual++"<lambda>")))) h'.objs.size (.ext (a9N h'.objs.size (X.env.qual++"<lambda>") params body scope ((X.mg "__name__").getD .none) c')) P=some (.tbl (ps++#[rawInt pos.line,rawInt pos.col,.ref c'])):=by
   rw[a0f (Ne.symm fP),a0f (Ne.symm cP),a0b]
  have noT:∀b u,H b=some u->(∀zs,u≠.tbl zs)->b≠P:=fun b u e hu z=>by
   rw[z,hp] at e;cases e;exact hu ps rfl
  refine⟨.ref h'.objs.size,_,I.un (t':=tk) ⟨fun b o e n _ _=>keep b o (nP b n) e,fun b o e n _ _=>⟨o.slots,keep b o (nP b n) e⟩,fun b o e n _=>?_,fun b o e _=>?_,fun b xs e=>old b _ e (noT b _ e fun zs z=>by cases z),fun b o u e=>old b _ e (noT b _ e fun zs z=>by cases z),fun b zs e=>?_⟩ fun b u e=>?_,rfl,q c' h'.objs.size hcN hfN cf cP fP⟩
  ·have hlt':b<s.heap.objs.size:=hL0 e
   rw[a0f (nL0 (Nat.lt_of_lt_of_le hlt' (Nat.le_trans hge (Nat.le_of_lt hlt)))),a0f (nL0 (Nat.lt_of_lt_of_le hlt' hge)),a0f (nP b n)];exact n
  ·by_cases hbP:b=P
   ·rw[hbP]
    exact⟨_,hP0 _ htb⟩
   ·exact⟨o,keep b o hbP e⟩
  ·by_cases hbP:b=P
   ·subst hbP
    rw[hp] at e;cases e;exact⟨_,atP⟩
   ·exact⟨#[],by rw[old b _ e hbP];simp⟩
  ·by_cases hbf:b=h'.objs.size
   ·subst hbf
    rw[a0b] at e;cases e;exact a8N (hS0 _ rfl)
   ·rw[a0f hbf] at e
    by_cases hbc:b=c'
    ·subst hbc
     rw[a0b] at e;cases e;exact b1e (hrec.push _)
    ·rw[a0f hbc] at e
     by_cases hbP:b=P
     ·subst hbP
      rw[a0b] at e;cases e;exact hP0 _ htb
     ·rw[a0f hbP] at e
      refine(I.hok b u e).stay (fun d v hd r=>keep d v ?_ r) (fun d r=>old d _ r (noT d _ r fun zs z=>by cases z)) fun d xs r=>old d _ r (noT d _ r fun zs z=>by cases z);rcases hd with rfl |hd
      ·exact hbP
      ·exact noT d _ hd fun zs z=>by cases z
 ·refine PySem.W.kla_makeFunctionHit hcl I.ok.glob hg hcode C hP tr hf hb fun ctv h' tk hk hsz=>?_
  have hfN:H h'.objs.size=none:=I.hok.fresh hsz;exact⟨.ref h'.objs.size,_,I.laid (a:=h'.objs.size) (t':=tk) (fun b o e=>hP0 _ (hk b o e)) hsz (a8N (hS0 _ rfl)),rfl,q _ hfN⟩
end
section
variable {X:Cx}{pins:List (Addr×Obj)}{σ:St}{H:Hp}{s:Shared}{Q:VK}{f c':Addr}{q x:Str}{params:Arguments}{body:Expr}{scope:Scope}{pm:Value}{u:Value}{v:V}{k:Nat}
theorem b0k {t:TE}{A:Around}{outer:List Env}(e0:a7s X.prog X.w X.K X.mg X.base A outer s H)(hr:a1q (k+1) A)(hf:H f=some (.ext (a9N f q params body scope pm c')))(hc:H c'=some (.ext (a4k c' q)))(S:a0o [x] [x] scope)
  (hb:∀(ctv u:Value),bindArgs (PySem.W.kla_fn "<lambda>" q params body scope [] pm (.ref c') ctv) ⟨[u],[]⟩=pure [(x,u)])
  (hbody:PE (a6b CX0 X.prog X.w X.K X.mg X.base [x] q scope f (.ref c') A outer s H E0).nox body t) (r:a0S v u) (ht:t [some v] H Q) :
  codeAny (model X.prog X.w) A (.call (.ref f) ⟨[u],[]⟩) (CR CX0 outer X.prog X.w H s Q E0) s:=by
 obtain⟨⟨ctv,ho⟩,_⟩:=e0.hok f _ hf;obtain⟨hcd,_⟩:=e0.hok c' _ hc;have lim:s.heap.NoLimit:=e0.mod.nolimit.keeps fun b o e=>(e0.bs b o e).1;have hkind:∀y∈([x].zip [u]),scope.names.lookup y.1=some .local\/(scope.names.lookup y.1=some .cell/\((cellsFrom (s.heap.objs.size+1) scope.names []).lookup y.1).isSome=true):=fun⟨n,v⟩ hy=>by
  rcases S.par n (List.of_mem_zip hy).1 with q |q
  ·exact .inl q
  ·exact .inr ⟨q,PySem.W.cellsFrom_some _ _ _ (.inl q)⟩
 refine PySem.W.kla_callFunE hr.depth ho rfl S.co S.gen rfl hcd ?_;rw[hb];refine wP0 (wpAny_newFunctionEnv_cells (binds:=[x].zip [u]) S.kind hkind fun env he s1 z=>?_);subst he;refine⟨lim.keeps z.toInCall.keep,PySem.W.kla_codeExpr ?_⟩;have I:Inv (a6b CX0 X.prog X.w X.K X.mg X.base [x] q scope f (.ref c') A outer s H E0) [] (a2W [x] [v]) H s1:=a3E S hr.hd e0 rfl (.cons r .nil) z;refine wpAny_mono (hbody.nox [] s1 (a2W [x] [v]) H Q I ht) (fun u' s' hs=>?_) fun e s' hs=>hs;obtain⟨v',H',J,rv,q'⟩:=hs;exact⟨v',H',J.os,J.bare,J.base,J.hok,rv,q'⟩
end
end L2
namespace L2
open PySem PySem.Spec PyProof.Rows PySem.W
theorem b5C {prog:Program}{w:World}{A:Around}{ks:List Value}{zs:List Str}{s1:Shared}(t:StrsAre ks zs):Srt.Cmp zs.length (Srt.rz zs) (kas_ask prog w A oneType' ks) (fun s'=>s'=s1):=by
 intro i j C s' hi hj hij hs' hC;subst hs';have hl:ks.length=zs.length:=t.length;obtain⟨a,ta,e1,e1'⟩:=a4N (j:=i) t (by omega);obtain⟨b,tb,e2,e2'⟩:=a4N (j:=j) t (by omega);unfold kas_ask;have g1:ks.getD i Value.none=.str a ta:=by rw[List.getD_eq_getElem?_getD,gE0 (by omega),Option.getD_some,e1]
 have g2:ks.getD j Value.none=.str b tb:=by rw[List.getD_eq_getElem?_getD,gE0 (by omega),Option.getD_some,e2]
 rw[g1,g2];refine kas_lt_str ?_;have er:Srt.rz zs i j=decide (a.cps.toList<b.cps.toList):=by
  unfold Srt.rz;rw[List.getD_eq_getElem?_getD,List.getD_eq_getElem?_getD,e1',e2',Option.getD_some,Option.getD_some]
 rw[<-er];exact hC s' rfl
theorem a5H {z:Str}{t:Tok}:∀{vs:List Value} {zs:List Str},StrsAre vs zs->StrsAre (vs++[.str z t]) (zs++[z])
 |_,_,.nil=>.cons z t .nil
 |_,_,.cons y u r=>.cons y u (a5H r)
section
variable {X:Cx}{pins:List (Addr×Obj)}{σ:St}{H:Hp}{s:Shared}
theorem Inv.moved {h':Heap}{it:Addr}{t':Nat}(I:Inv X pins σ H s)(fp:a4f X pins H it)(k:∀b o,b≠it->s.heap.get? b=some o->h'.get? b=some o):Inv X pins σ H { s with heap:=h',toks:=t' }:=
 I.turned k fp.1 fp.2.1 fp.2.2.2.1 fp.2.2.2.2.1 fp.2.2.2.2.2
theorem a6W {A:Around}{E:Vs0}{a kS:Addr}{vs ks:List Value}{e e1:Nat}{p:Array Nat}{st:SortSt}{P:PySem.Fin->Shared->Prop}(I:Inv X pins σ H s)(fa:a4f X pins H a)(fk:a4f X pins H kS)(hka:kS≠a)
  (hk:s.heap.get? kS=some (seqObj "list" ks.toArray e)) (ha:s.heap.get? a=some (seqObj "list" #[] e1)) (hl:ks.length=vs.length) (h64:vs.length<64) (hp:p.size=vs.length) (har:arrOf st=p.map (kas_item (ks.toArray.zip vs.toArray))) (hf:failedOf st=none)
  (h:∀(s':Shared) (e:Nat),Inv X pins σ H s'->s'.heap.get? a=some (seqObj "list" (List.toArray (p.toList.map fun i=>vs.getD i Value.none)) e)->P (.done (.ret .none)) s') :
  wpAny (model X.prog X.w) A (ksk_tail a false e1 (.ref kS) st) P E s:=by
 have hout:=kat_snds (vs:=vs) (ks:=ks) hl har;unfold ksk_tail
 try dsimp only
 have s1:=Heap.SameBut.update s.heap kS (Obj.mapSeq fun _=>(#[]:Array Value));have ha1:(s.heap.update kS (Obj.mapSeq fun _=>(#[]:Array Value))).get? a=some (seqObj "list" #[] e1):=(s1.2 a hka.symm).trans ha;refine wB0 (listUpdate_at hk rfl ?_ (by rw[List.size_toArray,hl,sizeLine_eq];omega) (zL0 _));refine wB0 (wpAny_letGo ?_);refine wB0 (seqEpoch_at ha1 rfl ?_);simp only[Bool.false_eq_true,if_false];rw[hout];have s2:=Heap.SameBut.update (s.heap.update kS (Obj.mapSeq fun _=>(#[]:Array Value))) a (Obj.mapSeq fun _=>List.toArray (p.toList.map fun i=>vs.getD i Value.none));obtain⟨c2,hc2⟩:∃c2,((s.heap.update kS (Obj.mapSeq fun _=>(#[]:Array Value))).update a (Obj.mapSeq fun _=>List.toArray (p.toList.map fun i=>vs.getD i Value.none))).get? a=some (seqObj "list" (List.toArray (p.toList.map fun i=>vs.getD i Value.none)) c2):=
  ⟨_,get?_update_seq ha1 fun _=>List.toArray (p.toList.map fun i=>vs.getD i Value.none)⟩
 refine wB0 (listUpdate_at ha1 rfl ?_ (zL0 _) (by rw[List.size_toArray,lM0,aL0,hp,sizeLine_eq];omega));rw[hf];simp only[bne_self_eq_false,Bool.false_eq_true,if_false];have I1:Inv X pins σ H { s with heap:=s.heap.update kS (Obj.mapSeq fun _=>(#[]:Array Value)) }:=I.moved (t':=s.toks) fk fun b o hb q=>(s1.2 b hb).trans q;exact wP0 (h _ c2 (I1.moved (t':=s.toks) fa fun b o hb q=>(s2.2 b hb).trans q) hc2)
theorem a4O {A:Around}{E:Vs0}{a:Addr}{vs:List Value}{n:Nat}{f:Value}{zs:List Str}{P:PySem.Fin->Shared->Prop}(I:Inv X pins σ H s)(fa:a4f X pins H a)(ho:s.heap.get? a=some (seqObj "list" vs.toArray n))(hlen:zs.length=vs.length)(nd:zs.Nodup)(h64:vs.length<64)
  (turn:∀(i:Nat) (v:Value) (z:Str),vs[i]? =some v->zs[i]? =some z->∀s':Shared,Inv X pins σ H s'->wpAny (model X.prog X.w) A (call f [v]) (fun k s''=>(∃t,k=.str z t)/\Inv X pins σ H s''/\∀b o,a4f X pins H b->s'.heap.get? b=some o->s''.heap.get? b=some o) (fun _ _=>False) s')
  (h:∀(p:Array Nat) (s':Shared) (e:Nat),Srt.PN vs.length p->Srt.Up (Srt.rz zs) p vs.length->Inv X pins σ H s'->s'.heap.get? a=some (seqObj "list" (List.toArray (p.toList.map fun i=>vs.getD i Value.none)) e)->P (.done (.ret .none)) s') :
  wpAny (model X.prog X.w) A (ksk_tree a f false) P E s:=by
 have haL:a<s.heap.objs.size:=hL0 ho;have s1:=Heap.SameBut.update s.heap a (Obj.mapSeq fun _=>(#[]:Array Value));obtain⟨e1,ho1⟩:∃e1,(s.heap.update a (Obj.mapSeq fun _=>(#[]:Array Value))).get? a=some (seqObj "list" #[] e1):=⟨_,get?_update_seq ho fun _=>#[]⟩;have I1:Inv X pins σ H { s with heap:=s.heap.update a (Obj.mapSeq fun _=>(#[]:Array Value)) }:=I.moved (t':=s.toks) fa fun b o hb q=>(s1.2 b hb).trans q;have I2:Inv X pins σ H { s with heap:=(s.heap.update a (Obj.mapSeq fun _=>(#[]:Array Value))).push (seqObj "tuple" vs.toArray 0) }:=I1.kept (t':=s.toks) fun b o q=>hP0 _ q;have I3:Inv X pins σ H { s with heap:=((s.heap.update a (Obj.mapSeq fun _=>(#[]:Array Value))).push (seqObj "tuple" vs.toArray 0)).push (seqObj "list" #[] 0) }:=I2.kept (t':=s.toks) fun b o q=>hP0 _ q;have fk:a4f X pins H ((s.heap.update a (Obj.mapSeq fun _=>(#[]:Array Value))).push (seqObj "tuple" vs.toArray 0)).objs.size:=I2.fpOk (nR0 _) (I2.hok.fresh (nR0 _));have hkS:((s.heap.update a (Obj.mapSeq fun _=>(#[]:Array Value))).push (seqObj "tuple" vs.toArray 0)).objs.size=s.heap.objs.size+1:=by rw[size_push',Heap.size_update]
 have hka:((s.heap.update a (Obj.mapSeq fun _=>(#[]:Array Value))).push (seqObj "tuple" vs.toArray 0)).objs.size≠a:=by rw[hkS];exact Nat.ne_of_gt (Nat.lt_succ_of_lt haL)
 unfold ksk_tree;refine wB0 (listItems_at ho rfl ?_);refine wB0 (listUpdate_at ho rfl ?_ (by rw[List.size_toArray,sizeLine_eq];omega) (zL0 _));refine wB0 (seqEpoch_at ho1 rfl ?_);refine wB0 (wpAny_newTuple ?_ (by show vs.length<=_;rw[sizeLine_eq];omega));refine wB0 (wpAny_newList ?_ (zL0 _));refine wpAny_holding ?_;generalize ekS:((s.heap.update a (Obj.mapSeq fun _=>(#[]:Array Value))).push (seqObj "tuple" vs.toArray 0)).objs.size=kS at fk hka;show wpAny (model X.prog X.w) A (ksk_rest a f false vs.toArray e1 (.ref kS)) P E { s with heap:=((s.heap.update a (Obj.mapSeq fun _=>(#[]:Array Value))).push (seqObj "tuple" vs.toArray 0)).push (seqObj "list" #[] 0) };have hk0:(((s.heap.update a (Obj.mapSeq fun _=>(#[]:Array Value))).push (seqObj "tuple" vs.toArray 0)).push (seqObj "list" #[] 0)).get? kS=some (seqObj "list" #[] 0):=by rw[<-ekS];exact hS0 _ rfl
 have ha0:(((s.heap.update a (Obj.mapSeq fun _=>(#[]:Array Value))).push (seqObj "tuple" vs.toArray 0)).push (seqObj "list" #[] 0)).get? a=some (seqObj "list" #[] e1):=hP0 _ (hP0 _ ho1);unfold ksk_rest;refine wB0 (wpAny_rule ?_)
 first
  |rw[List.forIn_toArray]
  | (rw[<-Array.forIn_toList];simp only[List.toList_toArray])
  |rw[<-Array.forIn_toList]
 refine wB0 (ksk_fold (fun i s'=>∃(kA:List Value) (e:Nat),Inv X pins σ H s'/\s'.heap.get? kS=some (seqObj "list" kA.toArray e)/\s'.heap.get? a=some (seqObj "list" #[] e1)/\StrsAre kA (zs.take i)) vs 0 _ ⟨[],0,I3,hk0,ha0,by simpa using StrsAre.nil⟩ ?step ?done)
 case step=>
  rintro j x s' hx ⟨kA,e,J,hk,ha,hs⟩;simp only[Nat.zero_add] at hs ⊢;have hj:j<vs.length:=(gS0.mp hx).1;obtain⟨z,hz⟩:∃z,zs[j]? =some z:=⟨_,gE0 (by omega)⟩;have hsz:kA.length<=vs.length:=by
   have h1:kA.length=(zs.take j).length:=hs.length;rw[List.length_take] at h1
   omega
  refine wB0 (wpAny_attempt (wpAny_mono (turn j x z hx hz s' J) (fun v s'' he=>?_) fun _ _ hF=>hF.elim));obtain⟨⟨t,rfl⟩,J2,kp⟩:=he
  try dsimp only
  have hk2:=kp kS _ fk hk;have ha2:=kp a _ fa ha;have u1:=Heap.SameBut.update s''.heap kS (Obj.mapSeq (·.push (.str z t)));obtain⟨c2,hc2⟩:∃c2,(s''.heap.update kS (Obj.mapSeq (·.push (.str z t)))).get? kS=some (seqObj "list" (kA.toArray.push (.str z t)) c2):=⟨_,get?_update_seq hk2 (·.push (.str z t))⟩;have ek:zs.take (j+1)=zs.take j++[z]:=by rw[List.take_add_one,hz];simp
  refine wB0 (listUpdate_at hk2 rfl ?_ (by rw[List.size_toArray,sizeLine_eq];omega) (Nat.le_trans (Nat.le_of_eq (Array.size_push ..)) (by rw[List.size_toArray,sizeLine_eq];omega)));exact wP0 ⟨rfl,kA++[.str z t],c2,J2.moved (t':=s''.toks) fk fun b o hb q=>(u1.2 b hb).trans q,by rw[hc2];simp,(u1.2 a hka.symm).trans ha2,by rw[ek];exact a5H hs⟩
 case done=>
  rintro s' ⟨kA,e,J,hk,ha,hs⟩;have hs':StrsAre kA zs:=by
   have e3:zs.take (0+vs.length)=zs:=List.take_of_length_le (by omega);rw[e3] at hs;exact hs
  have hl:kA.length=vs.length:=by have h1:kA.length=zs.length:=hs'.length;omega
  try dsimp only
  refine wB0 (listItems_at hk rfl ?_);unfold ksk_end
  try dsimp only
  rw[if_neg (by decide)]
  by_cases h2:vs.toArray.size<2
  ·rw[if_pos h2,if_pos h2]
   refine wB0 (wP0 ?_);rw[StateT.run_pure];refine wB0 (wP0 ?_)
   try dsimp only
   simp only[Bool.false_eq_true,if_false];refine a6W (vs:=vs) (ks:=kA) (p:=List.toArray (List.range vs.length)) J fa fk hka hk ha hl h64 (by simp) (by
    have e:=kas_range (kA.toArray.zip vs.toArray);rw[show(kA.toArray.zip vs.toArray).size=vs.length by simp[hl]] at e;exact e.symm) rfl fun s3 e3 J3 g3=>h (List.toArray (List.range vs.length)) s3 e3 (by unfold Srt.PN;simp) (fun i j hij hj=>?_) J3 g3
   rw[List.size_toArray] at h2;have ei:i=0:=by omega
   have ej:j=0:=by omega
   subst ei ej;unfold Srt.rz;rw[decide_eq_false_iff_not];exact List.lt_irrefl _
  ·have hn2:2<=vs.length:=by rw[List.size_toArray] at h2;omega
   rw[if_neg h2,if_neg h2];obtain⟨v₁,v₂,rest,ev⟩:∃v₁ v₂ rest,kA=v₁::v₂::rest:=by
    match kA,hl with
    |[],hl=>simp at hl;omega
    |[_],hl=>simp at hl;omega
    |v₁::v₂::rest,_=>exact⟨v₁,v₂,rest,rfl⟩
   have hkk:keyKind' kA.toArray=pure oneType':=by rw[ev];exact keyKind_strs (by rw[<-ev];exact hs')
   rw[hkk];refine wB0 (wP0 ?_);simp only[Bool.false_eq_true,if_false];refine wB0 (wpAny_mono (kat_run (prog:=X.prog) (w:=X.w) (A:=A) (E:=E) (κ:=oneType') (ks:=kA) (vs:=vs) (s:=s')
    (Q:=fun st' s''=>∃p:Array Nat,p.size=vs.length/\arrOf st'=p.map (kas_item (kA.toArray.zip vs.toArray))/\failedOf st'=none/\Srt.PN vs.length p/\Srt.Up (Srt.rz zs) p vs.length/\s''=s')
    (G:=fun p s''=>Srt.PN vs.length p/\Srt.Up (Srt.rz zs) p vs.length/\s''=s')
    hl hn2 h64 (fun p' st' s'' a1 a2 a3 a4=>⟨p',a1,a2,a3,a4⟩) ?_) ?_ fun _ _ e=>e)
   ·rw[<-hlen]
    exact Srt.sort (Srt.b4o nd) (b5C (s1:=s') hs') (by omega) rfl fun p' s'' b1 b2 b3=>⟨b1,b2,b3⟩
   ·rintro⟨⟨⟩,st'⟩ s'' ⟨p,hp,har,hf,pn,up,rfl⟩
    try dsimp only
    exact a6W (vs:=vs) (ks:=kA) J fa fk hka hk ha hl h64 hp har hf fun s3 e3 J3 g3=>h p s3 e3 pn up J3 g3
end
section
variable {X:Cx}{pins:List (Addr×Obj)}{σ:St}{H:Hp}{s:Shared}{f c':Addr}{q x:Str}{params:Arguments}{body:Expr}{scope:Scope}{pm:Value}{k:Nat}
theorem b0l {t:TE}{A:Around}{u:Value}{v:V}{z:Str}(I:Inv X pins σ H s)(e0:a7s X.prog X.w X.K X.mg X.base A X.stack s H)(hr:a1q (k+1) A)(hf:H f=some (.ext (a9N f q params body scope pm c')))(hc:H c'=some (.ext (a4k c' q)))(S:a0o [x] [x] scope)
  (hb:∀(ctv u:Value),bindArgs (PySem.W.kla_fn "<lambda>" q params body scope [] pm (.ref c') ctv) ⟨[u],[]⟩=pure [(x,u)])
  (hbody:PE (a6b CX0 X.prog X.w X.K X.mg X.base [x] q scope f (.ref c') A X.stack s H E0).nox body t) (r:a0S v u) (ht:t [some v] H fun v' H'=>v'=.str z/\H'=H) :
  wpAny (model X.prog X.w) A (call (.ref f) [u]) (fun k s''=>(∃t,k=.str z t)/\Inv X pins σ H s''/\∀b o,a4f X pins H b->s.heap.get? b=some o->s''.heap.get? b=some o) (fun _ _=>False) s:=by
 refine wpAny_call (codeAny_mono (b0k e0 hr hf hc S hb hbody r ht) fun r s' hq=>?_);cases r with
 |error e=>exact hq
 |ok fl=>
  cases fl with
  |ret w'=>
   have hq':CE X.stack X.prog X.w H s (fun v' H'=>v'=.str z/\H'=H) w' s':=hq;obtain⟨v1,H1,J,rv,rfl,rfl⟩:=I.after hq';obtain⟨v2,H2,os,bare,un,hok,rv2,rfl,rfl⟩:=hq';refine⟨rv,J,fun b o fb e=>un.keep b o e fb.1 (fun hm=>?_) (by simp)⟩;rcases mK0.mp (I.stkSub b hm) with y |y
   ·exact fb.2.1 y
   ·exact fb.2.2.1 y
  |next=>exact False.elim hq
  |brk=>exact False.elim hq
  |cont=>exact False.elim hq
theorem a7N {p:Addr}{xs:List V}{zs:List Str}{fv:Value}{Q:VK}(I:Inv X pins σ H s)(hp:SqL X.K H p xs)(hlen:zs.length=xs.length)(nd:zs.Nodup)(h64:xs.length<64)(hfv:∃f,fv=.ref f)
  (turn:∀(i:Nat) (v:V) (u:Value) (z:Str),xs[i]? =some v->a0S v u->zs[i]? =some z->∀s':Shared,Inv X pins σ H s'->wpAny (model X.prog X.w) X.A.in1.in1 (call fv [u]) (fun k s''=>(∃t,k=.str z t)/\Inv X pins σ H s''/\∀b o,a4f X pins H b->s'.heap.get? b=some o->s''.heap.get? b=some o) (fun _ _=>False) s')
  (h:∀(l:Addr) (ix:List Nat),H l=none->ix.Perm (List.range xs.length)->a5Z (ix.map fun i=>zs.getD i "")->Q (.ref l) (upd H l (.lst (ix.map fun i=>xs.getD i .non)))) :
  wpAny (model X.prog X.w) X.A (call (.builtin "sorted") [.ref p] [(Str.ofString "key",fv)]) (EP X pins σ Q) X.xe s:=by
 obtain⟨f,rfl⟩:=hfv;obtain⟨vs,r',pl,hz⟩:=I.list hp;have hl:=r'.length;refine call_function_entry_kw kind_sorted plain_sorted entry_sorted (ksk_s1 _ _) ?_;unfold Builtin.«sorted»;refine wB0 (m:=checkCount "sorted" 1 1 _) (wP0 ?_);refine wB0 (collect_list pl.isList ?_ (by rw[sizeLine_eq];omega));refine wB0 (wpAny_newList ?_ (by rw[sizeLine_eq];omega));have hsz:((s.heap.push (seqObj "list" #[] 0)).update s.heap.objs.size (Obj.mapSeq (·++vs.toArray))).objs.size=s.heap.objs.size+1:=by
  rw[Heap.size_update,size_push']
 have hoL:(((s.heap.push (seqObj "list" #[] 0)).update s.heap.objs.size (Obj.mapSeq (·++vs.toArray))).push (seqObj "list" vs.toArray 0)).get? (s.heap.objs.size+1)=some (seqObj "list" vs.toArray 0):=by
  rw[<-hsz];exact hS0 _ rfl
 have keep:∀b o,s.heap.get? b=some o->(((s.heap.push (seqObj "list" #[] 0)).update s.heap.objs.size (Obj.mapSeq (·++vs.toArray))).push (seqObj "list" vs.toArray 0)).get? b=some o:=fun b o q=>by
  have hlt:b<s.heap.objs.size:=hL0 q;rw[Heap.get?_push_ne _ _ _ (by rw[hsz];exact nL0 (Nat.lt_succ_of_lt hlt)),Heap.get?_update_ne _ _ _ _ (nL0 hlt),Heap.get?_push_ne _ _ _ (nL0 hlt)];exact q
 have I2:Inv X pins σ H { s with heap:=((s.heap.push (seqObj "list" #[] 0)).update s.heap.objs.size (Obj.mapSeq (·++vs.toArray))).push (seqObj "list" vs.toArray 0) }:=I.kept (t':=s.toks) keep;have fa:a4f X pins H (s.heap.objs.size+1):=I.fpOk (Nat.le_succ _) (I.hok.fresh (Nat.le_succ _));have our:Our X pins H (s.heap.objs.size+1):=⟨Nat.le_trans I.sz (Nat.le_succ _),fa.2.1,fa.2.2.2.2.1,fa.2.2.2.2.2,fa.1⟩;show wpAny _ _ _ _ _ { s with heap:=((s.heap.push (seqObj "list" #[] 0)).update s.heap.objs.size (Obj.mapSeq (·++vs.toArray))).push (seqObj "list" vs.toArray 0) };rw[hsz];refine wB0 (wpAny_holding (wpAny_call_entry_kw slot_list_sort ⟨_,hoL,rfl⟩ entry_list_sort ?body (ksk_l1 _ _)))
 case body=>
  show wpAny (model X.prog X.w) X.A.in1.in1 (Builtin.«list.sort» ⟨[.ref (s.heap.objs.size+1)],[(Str.ofString "key",.ref f)]⟩) _ _ _;rw[ksk_t1];refine a4O (zs:=zs) I2 fa hoL (by omega) nd (by omega) (fun i v z hv hzi s' J=>?_) fun p' s3 e pn up J3 g3=>⟨_,rfl,?_⟩
  ·have hi:i<vs.length:=(gS0.mp hv).1
   obtain⟨u,hu,ru⟩:=r'.get (i:=i) (x:=xs[i]'(by omega)) (by simp);rw[hv] at hu;cases hu;exact turn i (xs[i]'(by omega)) v z (by simp) ru hzi s' J
  ·have hs:=pn.size
   have lt:∀i∈p'.toList,i<vs.length:=fun i hi=>List.mem_range.mp (pn.mem_iff.mp hi);refine wP0 ⟨_,rfl,.ref (s.heap.objs.size+1),_,J3.track our (o:=.lst (p'.toList.map fun i=>xs.getD i .non)) ?_,rfl,h _ p'.toList (I.hok.fresh (Nat.le_succ _)) (by rw[hl];exact pn) ?_⟩
   ·refine⟨by rw[lM0,aL0,hs,<-hl];exact hz,_,e,?_,g3⟩
    exact a4C r' _ fun i hi=>by have:=lt i hi;omega
   ·unfold a5Z
    rw[List.pairwise_map,List.pairwise_iff_getElem];intro i j hi hj hij;have hi':i<p'.size:=by simpa using hi
    have hj':j<p'.size:=by simpa using hj
    have h0:=up i j (by omega) (by omega);unfold Srt.rz at h0;rw[decide_eq_false_iff_not,Srt.a2j hi',Srt.a2j hj'] at h0;rw[Array.getElem_toList,Array.getElem_toList];exact h0
def b3U (K:Fg0)(q:Str)(params:Arguments)(body:Expr)(scope:Scope)(pm:Value)(te tl tb:TE):TE:=fun σ H Q=>te σ H fun y H1=>tl σ H1 fun g H2=>∃(p f c':Addr) (xs:List V) (zs:List Str),y=.ref p/\g=.ref f ∧
 H2 f=some (.ext (a9N f q params body scope pm c'))/\H2 c'=some (.ext (a4k c' q))/\SqL K H2 p xs/\zs.length=xs.length/\zs.Nodup/\xs.length<64 ∧
 (∀(i:Nat) (v:V) (z:Str),xs[i]? =some v->zs[i]? =some z->tb [some v] H2 fun v' H'=>v'=.str z/\H'=H2) ∧
 ∀(l:Addr) (ix:List Nat),H2 l=none->ix.Perm (List.range xs.length)->a5Z (ix.map fun i=>zs.getD i "")->Q (.ref l) (upd H2 l (.lst (ix.map fun i=>xs.getD i .non)))
theorem a7S {e lam:Expr}{te tl tb:TE}{np kpos pos:Pos}(hr:a1q (k+3) X.A)(hg:Gl X "sorted")(hm:X.mg "sorted"=none)(he:PE X e te)(hlam:PE X lam tl)(S:a0o [x] [x] scope)
  (hb:∀(c':Addr) (ctv u:Value),bindArgs (PySem.W.kla_fn "<lambda>" q params body scope [] pm (.ref c') ctv) ⟨[u],[]⟩=pure [(x,u)])
  (hbody:∀(f c':Addr) (s:Shared) (H:Hp),PE (a6b CX0 X.prog X.w X.K X.mg X.base [x] q scope f (.ref c') X.A.in1.in1 X.stack s H E0).nox body tb) (hstar:starEach [e] X.env=[(false,eval e X.env)]:=by rfl) :
  PE X (.Call (.Name "sorted" np) [e] [⟨some "key",lam,kpos⟩] pos) (b3U X.K q params body scope pm te tl tb):=by
 intro pins s σ H Q I h;refine wpAny_Call_Name_kw (a3P I hg hm (show bootBuiltins "sorted"=some (.builtin "sorted") by decide +kernel) ?_ (by decide) (by decide));refine callWith_kw (e:=e) (rest:=[]) (kws:=[⟨some "key",lam,kpos⟩]) ?_ (by rw[hstar];rfl) (by rw[hstar];rfl);rw[hstar];show wpAny _ _ (spliced [(false,eval e X.env)]) _ _ s;refine Calls.spliced_cons (thn (he pins s σ H _ I h) fun u s1 ⟨y,H1,I1,ry,q1⟩=>Calls.spliced_nil ?_);show wpAny _ _ (evalAll [(do let v <-eval lam X.env;standAt pos;pure v)]) _ _ s1;refine wpAny_evalAll_cons (wB0 (thn (hlam pins s1 σ H1 _ I1 q1) fun gv s2 ⟨g,H2,I2,rg,q2⟩=>wB0 (wpAny_standAt (wP0 (wpAny_evalAll_nil ?_)))));obtain⟨p,f,c',xs,zs,rfl,rfl,hf,hc,hp,hlen,nd,h64,ht,hq⟩:=q2;cases ry;cases rg;have hr1:a1q (k+1) X.A.in1.in1:=hr.in1.in1;exact a7N I2 hp hlen nd h64 ⟨f,rfl⟩ (fun i v u z hv ru hz s' J=>b0l J J.env0.in1.in1 hr1 hf hc S (hb c') (hbody f c' s' H2) ru (ht i v z hv hz)) hq
end
end L2
namespace L2
open PySem PySem.Spec PyProof.Rows
structure b2Z (K:Fg0) (x qual:Str) (st:Stmt) (f:Addr) (fd:FuncData) (c:Addr):Prop where
 ex:∃(oc:Value) (od:Option Addr) (kV doc pm:Value) (an:Option Addr) (ct:Value) (osl:Array (Option Value)),
  fd=PySem.W.fnOf x qual (a0T st) (a0H st) (a0e st) .none kV doc pm an (.ref c) ct/\K.lookup f=some ⟨oc,od,.func fd,osl⟩/\PySem.W.codeIn K (.ref c) qual=true
 kp:PySem.W.keepIn K (.ref f)=true
section
variable {P:Program}{w:World}{K:Fg0}{mg:Str->Option Value}{base:Heap}
theorem b2Z.fn {x qual:Str}{st:Stmt}{f c:Addr}{fd:FuncData}(F:b2Z K x qual st f fd c):Fun K x qual st f fd:=by
 obtain⟨⟨oc,od,kV,doc,pm,an,ct,osl,h1,h2,h3⟩,kp⟩:=F;exact⟨⟨oc,od,kV,doc,pm,an,.ref c,ct,osl,h1,h2,h3⟩,kp⟩
theorem b2Z.ok {x qual:Str}{st:Stmt}{f c:Addr}{fd:FuncData}{N ps:List Str}{k:Nat}{sp:Sp}(F:b2Z K x qual st f fd c)(S:a0o N ps (a0e st))(len:∀vs H Q E,sp vs H Q E->vs.length=ps.length)
  (hbody:∀(A:Around) (outer:List Env) (s:Shared) (H:Hp) (vs:List V) (Q:VK) (E:XK),a1q k (A.deeper (envOfC qual (a0e st) s.heap.objs.size f (.ref c)))->sp vs H Q E →
   ∃t,PSs (a6b CX0 P w K mg base N qual (a0e st) f (.ref c) A outer s H E).nox (a0H st) t/\t { nx:=fun _ H'=>Q .non H',rt:=Q } (a2W N vs) H):a0y P w K mg base CX0 (k+1) f fd ps sp:=by
 obtain⟨oc,od,kV,doc,pm,an,ct,osl,rfl,lk,hcd⟩:=F.ex;refine b2x lk hcd S len fun A outer s H vs Q E hr hsp=>?_;obtain⟨t,h,q⟩:=hbody A outer s H vs Q E hr hsp;exact⟨t,h.nox,q⟩
end
theorem a4t {X:Cx}{K:Fg0}{es:List Expr}{k:Nat}{pos:Pos}{t:TGs}{n:Nat}(hK:X.K=K)(hc:X.calm=true)(h:PGs X es t)
  (hn:(assignEach es X.env).length=n:=by rfl) (hst:(assignEach es X.env).findIdx? (·.1)=none:=by rfl):PG X (.Tuple es k pos) (b5I K n t):=by
 subst hK;exact a3L hc h hn hst
def notT:HO->Bool
 | .tbl _=>false
 |_=>true
def Sb (H H':Hp):Prop:=∀a o,notT o=true->H a=some o->H' a=some o
theorem Sb.trans {H H1 H2:Hp}(a:Sb H H1)(b:Sb H1 H2):Sb H H2:=fun x o n e=>b x o n (a x o n e)
theorem a0k.sb {H H':Hp}(s:a0k H H'):Sb H H':=fun a o _ e=>s a o e
end L2
namespace My
open PySem L2 PyProof.Rows
mutual
theorem Rep.sb {H H':Hp}(e:Sb H H'):∀{d:Dt} {v:V},Rep H d v->Rep H' d v
 | .non,v,h=>by unfold Rep at h ⊢;exact h
 | .bl b,v,h=>by unfold Rep at h ⊢;exact h
 | .int i,v,h=>by unfold Rep at h ⊢;exact h
 | .str z,v,h=>by unfold Rep at h ⊢;exact h
 | .tup ds,v,h=>by
  unfold Rep at h ⊢;obtain⟨a,xs,h1,h2,h3⟩:=h;exact⟨a,xs,h1,e _ _ rfl h2,a1N.sb e h3⟩
 | .lst ds,v,h=>by
  unfold Rep at h ⊢;obtain⟨a,xs,h1,h2,h3⟩:=h;exact⟨a,xs,h1,e _ _ rfl h2,a1N.sb e h3⟩
 | .dct,v,h=>by
  unfold Rep at h ⊢;obtain⟨a,xs,h1,h2⟩:=h;exact⟨a,xs,h1,e _ _ rfl h2⟩
theorem a1N.sb {H H':Hp}(e:Sb H H'):∀{ds:List Dt} {vs:List V},a1N H ds vs->a1N H' ds vs
 |[],vs,h=>by unfold a1N at h ⊢;exact h
 |d::ds,vs,h=>by
  unfold a1N at h ⊢;obtain⟨v,ws,h1,h2,h3⟩:=h;exact⟨v,ws,h1,Rep.sb e h2,a1N.sb e h3⟩
end
theorem a0L.sb {H H':Hp}{cols:List (Str×V)}(h:a0L H cols)(e:Sb H H'):a0L H' cols:=⟨h.1,h.2.1,fun p hp=>⟨(h.2.2 p hp).1,let ⟨d,h1,h2⟩:=(h.2.2 p hp).2;⟨d,Rep.sb e h1,h2⟩⟩⟩
theorem a1v.sb {H H':Hp}{t:Addr}{cols:List (Str×V)}(h:a1v H t cols)(e:Sb H H'):a1v H' t cols:=by
 obtain⟨o,ps,zs,h1,h2,h3,h4,h5,h6⟩:=h;exact⟨o,ps,zs,h1,h2,h3,e _ _ rfl h4,h5,fun j p z a b=>e _ _ rfl (h6 j p z a b)⟩
theorem a2k.sb {H H':Hp}{e:Addr}{T:Tb}(h:a2k H e T)(s:Sb H H'):a2k H' e T:=by
 obtain⟨ct,h1,h2⟩:=h;exact⟨ct,s _ _ rfl h1,h2.sb s⟩
theorem a0W.sb {H H':Hp}{f:Addr}{sz:Int}{Ts:List Tb}(h:a0W H f sz Ts)(s:Sb H H'):a0W H' f sz Ts:=by
 obtain⟨tt,es,h1,h2,h3,h4⟩:=h;exact⟨tt,es,s _ _ rfl h1,s _ _ rfl h2,h3,fun j e T a b=>(h4 j e T a b).sb s⟩
def a2v (P:Addr)(pos:Pos)(q:Str)(H:Hp):Prop:=H P=some (.tbl #[])\/∃c',H P=some (.tbl #[rawInt pos.line,rawInt pos.col,.ref c'])/\H c'=some (.ext (a4k c' q))
theorem a2v.same {P:Addr}{pos:Pos}{q:Str}{H H':Hp}(h:a2v P pos q H)(s:a0k H H'):a2v P pos q H':=by
 rcases h with h |⟨c',h1,h2⟩
 ·exact .inl (s _ _ h)
 ·exact .inr ⟨c',s _ _ h1,s _ _ h2⟩
theorem b1a {P:Addr}{pos:Pos}{q:Str}{params:Arguments}{body:Expr}{scope:Scope}{pm:Value}{σ:L2.St}{H:Hp}{Q:VK}(h:a2v P pos q H)
  (hq:∀f c' H',Sb H H'->(∀a,a≠P->H a≠none->H' a=H a)->a2v P pos q H'->H' f=some (.ext (a9N f q params body scope pm c'))->H' c'=some (.ext (a4k c' q))->Q (.ref f) H'):b5K P pos q params body scope pm σ H Q:=by
 rcases h with h |⟨c',h1,h2⟩
 ·refine⟨#[],h,trivial,.inl ⟨rfl,fun c' f n1 n2 n3 n4 n5=>?_⟩⟩
  have fr:∀a,a≠P->H a≠none->(L2.upd (L2.upd (L2.upd H P (.tbl (#[]++#[rawInt pos.line,rawInt pos.col,.ref c']))) c' (.ext (a4k c' q))) f (.ext (a9N f q params body scope pm c'))) a=H a:=fun a n n0=>by
   rw[a0f (fun e=>n0 (by rw[e];exact n2)),a0f (fun e=>n0 (by rw[e];exact n1)),a0f n]
  refine hq f c' _ (fun a o n e=>?_) fr ?_ a0b (by rw[a0f n3];exact a0b)
  ·rw[fr a (fun e'=>by rw[e',h] at e;cases e;cases n) (by rw[e];simp)]
   exact e
  ·refine .inr ⟨c',?_,by rw[a0f n3];exact a0b⟩
   rw[a0f (Ne.symm n5),a0f (Ne.symm n4)];exact a0b
 ·refine⟨_,h1,trivial,.inr ⟨c',by simp[codeAmong,rawInt],fun f n=>?_⟩⟩
  have S:=a0k.upd (o:=.ext (a9N f q params body scope pm c')) n;exact hq f c' _ S.sb (fun a _ n0=>a0f fun e=>n0 (by rw[e];exact n)) (.inr ⟨c',S _ _ h1,S _ _ h2⟩) a0b (S _ _ h2)
seal L2.PE L2.PT L2.PW L2.PS L2.PSs L2.PA L2.PI L2.PG L2.PGs L2.OpR L2.a1e L2.IxR L2.SlR L2.MtR L2.PIf L2.PO L2.MtM L2.PC L2.a7F
def a1s (H:Hp)(e d:Addr)(T:Tb):Prop:=H e=some (.tup [.str T.name,.str T.sort,.ref d])/\H d=some (.dK (kvC T.cols))/\a0L H T.cols
def a1R (H:Hp)(l:Addr)(es ds:List Addr)(Ts:List Tb):Prop:=H l=some (.lst (es.map V.ref))/\es.length=Ts.length/\ds.length=Ts.length/\∀(j:Nat) (e d:Addr) (T:Tb),es[j]? =some e->ds[j]? =some d->Ts[j]? =some T->a1s H e d T
theorem a1s.sb {H H':Hp}{e d:Addr}{T:Tb}(h:a1s H e d T)(s:Sb H H'):a1s H' e d T:=⟨s _ _ rfl h.1,s _ _ rfl h.2.1,h.2.2.sb s⟩
theorem a1R.sb {H H':Hp}{l:Addr}{es ds:List Addr}{Ts:List Tb}(h:a1R H l es ds Ts)(s:Sb H H'):a1R H' l es ds Ts:=⟨s _ _ rfl h.1,h.2.1,h.2.2.1,fun j e d T a b c=>(h.2.2.2 j e d T a b c).sb s⟩
def a9W (T0:Tb)(R:List Tb):Prop:=R.length<=7/\((T0::R).map (·.name)).Nodup/\(∀T∈T0::R,a1C T.name=true)/\T0.sort="head"/\∀T∈R,T.sort∈a3Y
def Fr (P:Addr)(H H':Hp):Prop:=∀a o,a≠P->H a=some o->H' a=some o
def b4X:Stmt->Expr
 | .Assign _ (.Call _ _ [⟨_,e,_⟩] _) _=>e
 |_=>.Constant .none 0 ⟨0,0,0,0⟩
def b4f:Expr->Pos
 | .Lambda _ _ _ p=>p
 |_=>⟨0,0,0,0⟩
def b1b:Expr:=b4X ((a0H (top 18)).getD 4 (.Pass ⟨0,0,0,0⟩))
def b2z:Expr->Arguments
 | .Lambda a _ _ _=>a
 |_=>a0T (top 18)
def b2D:Expr->Expr
 | .Lambda _ b _ _=>b
 |e=>e
def b1c:Expr->Scope
 | .Lambda _ _ s _=>s
 |_=>a0e (top 18)
def a3n:Pos:=b4f b1b
def foQ:Str:="form_of.<locals>.<lambda>"
def a5o (PF:Addr):Sp:=fun vs H Q _=>∃(l:Addr) (sz:Int) (es ds:List Addr) (T0:Tb) (R:List Tb),vs=[.int sz,.ref l]/\1<=sz/\a1R H l es ds (T0::R)/\a9W T0 R/\a2v PF a3n foQ H ∧
 ∀(f:Addr) (H':Hp) (R':List Tb),Sb H H'->Fr PF H H'->a2v PF a3n foQ H'->R'.Perm R->a5Z (R'.map (·.name))->a0W H' f sz (T0::R')->Q (.ref f) H'
def a4r (o:Option HO):Prop:=(∀xs,o≠some (.tup xs))/\∀ob xs,o≠some (.frz ob (.tup xs))
theorem a4r.lst {H:Hp}{D:Addr}{ys:List V}(e:H D=some (.lst ys)):a4r (H D):=by rw[e];exact⟨nofun,(fun _ _ h=>by cases h)⟩
theorem a1v.beside {H:Hp}{D t:Addr}{u:HO}{cols:List (Str×V)}(n:a4r (H D))(h:a1v H t cols):a1v (L2.upd H D u) t cols:=by
 obtain⟨o,ps,zs,h1,h2,h3,h4,h5,h6⟩:=h;refine⟨o,ps,zs,h1,h2,h3,?_,h5,fun j p z a b=>?_⟩
 ·rw[a0f (fun e=>n.2 _ _ (by rw[<-e];exact h4))];exact h4
 ·have:=h6 j p z a b
  rw[a0f (fun e=>n.1 _ (by rw[<-e];exact this))];exact this
theorem a2k.beside {H:Hp}{D e:Addr}{u:HO}{T:Tb}(n:a4r (H D))(h:a2k H e T):a2k (L2.upd H D u) e T:=by
 obtain⟨ct,h1,h2⟩:=h;exact⟨ct,by rw[a0f (fun e=>n.1 _ (by rw[<-e];exact h1))];exact h1,h2.beside n⟩
section
variable {P:Program}{w:World}{K:Fg0}{mg:Str->Option Value}{base:Heap}
theorem b2b {f c PF fW fS fN fC:Addr}{fd fdW fdS fdN fdC:FuncData}(F:b2Z K "form_of" "form_of" (top 18) f fd c)(B:Bl mg)(hC:PySem.W.codeHdIn K c PF=true)(hB:L2.a5X base mg)
  (DW:Df K mg "is_whole" (top 10) fW fdW) (GW:a0y P w K mg base CX0 1 fW fdW ["thing"] (a6I K)) (DS:Df K mg "ask_sorts" (top 19) fS fdS) (GS:a0y P w K mg base CX0 1 fS fdS ["sorts"] b1t) (DN:Df K mg "ask_names" (top 20) fN fdN) (GN:a0y P w K mg base CX0 2 fN fdN ["names"] b1J)
  (DC:Df K mg "columns_made" (top 21) fC fdC) (GC:a0y P w K mg base CX0 5 fC fdC ["columns"] b1q):a0y P w K mg base CX0 6 f fd ["size","tables"] (a5o PF):=by
 have sc:a0o ["size","tables","made","sides"] ["size","tables"] (a0e (top 18)):=.k (by decide +kernel);have bW:=DW.fn.b1 "thing" (by intros;rfl);have bS:=DS.fn.b1 "sorts" (by intros;rfl);have bN:=DN.fn.b1 "names" (by intros;rfl);have bC:=DC.fn.b1 "columns" (by intros;rfl);refine F.ok sc (fun vs H Q E h=>?_) (fun A outer s H vs Q E hr h=>?_)
 ·obtain⟨l,sz,es,ds,T0,R,rfl,_⟩:=h
  rfl
 ·obtain⟨l,sz,es,ds,T0,R,rfl,sz1,hP,hT,hTab,q⟩:=h
  have hr1:a1q 1 _:=hr.mono (by decide);have hr2:a1q 2 _:=hr.mono (by decide);refine⟨_,a0d (a0F (PW.pt (a2F (a1k (a0D (a0j GW hr1 (by rfl) DW.mg DW.fn.kp bW .nil a0u (a0a (pv 0) a0c)))) (a1Q (a0z b3i (pv 0) a0g (a0B _))))) a0l a0m)
   (a0d (a0U (a0j GS hr1 (by rfl) DS.mg DS.fn.kp bS .nil a0u (a0a (a1j (osc:=a0e (top 18)) (N0:=["size","tables","made","sides"]) (xs:=["name","sort","columns"]) (fr:=[]) ⟨rfl,by decide +kernel,by decide +kernel,by decide +kernel,by decide,by decide +kernel⟩ rfl rfl rfl (a1D (pv 1))
     (fun s H fp=>a4t (K:=K) (n:=3) rfl rfl (a0E (a0q (i:=0) (show(["name","sort","columns"]:List Str).Nodup by decide +kernel) rfl (Or.inl rfl)) (a0E (a0q (i:=1) (show(["name","sort","columns"]:List Str).Nodup by decide +kernel) rfl (Or.inl rfl)) (a0E (a0q (i:=2) (show(["name","sort","columns"]:List Str).Nodup by decide +kernel) rfl (Or.inl rfl)) a1Y)))) (fun s H fp=>a1h)
     (fun s H fp=>pv 1)) a0c)))
   (a0d (a0U (a0j GN hr2 (by rfl) DN.mg DN.fn.kp bN .nil a0u (a0a (a1j (osc:=a0e (top 18)) (N0:=["size","tables","made","sides"]) (xs:=["name","sort","columns"]) (fr:=[]) ⟨rfl,by decide +kernel,by decide +kernel,by decide +kernel,by decide,by decide +kernel⟩ rfl rfl rfl (a1D (pv 1))
     (fun s H fp=>a4t (K:=K) (n:=3) rfl rfl (a0E (a0q (i:=0) (show(["name","sort","columns"]:List Str).Nodup by decide +kernel) rfl (Or.inl rfl)) (a0E (a0q (i:=1) (show(["name","sort","columns"]:List Str).Nodup by decide +kernel) rfl (Or.inl rfl)) (a0E (a0q (i:=2) (show(["name","sort","columns"]:List Str).Nodup by decide +kernel) rfl (Or.inl rfl)) a1Y)))) (fun s H fp=>a1h)
     (fun s H fp=>pv 0)) a0c)))
   (a0d (a9f (i:=2) (osc:=a0e (top 18)) (N0:=["size","tables","made","sides"]) (xs:=["name","sort","columns"]) (fr:=[]) ⟨rfl,by decide +kernel,by decide +kernel,by decide +kernel,by decide,by decide +kernel⟩ rfl rfl rfl (a1D (pv 1))
     (fun s H fp=>a4t (K:=K) (n:=3) rfl rfl (a0E (a0q (i:=0) (show(["name","sort","columns"]:List Str).Nodup by decide +kernel) rfl (Or.inl rfl)) (a0E (a0q (i:=1) (show(["name","sort","columns"]:List Str).Nodup by decide +kernel) rfl (Or.inl rfl)) (a0E (a0q (i:=2) (show(["name","sort","columns"]:List Str).Nodup by decide +kernel) rfl (Or.inl rfl)) a1Y)))) (fun s H fp=>a1h)
     (fun s H fp=>a0P (a0a (pv 0) (a0a (pv 1) (a0a (a0j GC hr (by rfl) DC.mg DC.fn.kp bC .nil a0u (a0a (pv 2) a0c)) a0c)))) sc.nd rfl (Or.inl rfl))
   (a0d (a0w (i:=3) sc.nd rfl (Or.inl rfl) (a7S (k:=2) (x:="table") (q:=foQ) (params:=b2z b1b) (body:=b2D b1b) (scope:=b1c b1b) (pm:=(mg "__name__").getD .none) (tb:=tOp (b3g K) (b4E 0) (tC (.int 0))) hr (by rfl) B.sorted (a3r a4L (pv 2) (a4E a0g) a4H) (b4r rfl hC hB) ⟨rfl,rfl,rfl,by decide +kernel,rfl,by decide +kernel,by decide +kernel⟩ (fun _ _ _=>rfl) (fun f c' s H=>a0x (r:=b3g K) a1o (pv 0) a0g (fun _ _=>rfl))))
   (a0h (a0s (a0P (a0a (pv 0) (a0a (a0I a1t (by rfl) B.tuple boot_tuple (a0a (a0A b1u (a3r a4L (pv 2) a4H (a4E a0g)) (pv 3)) a0c)) a0c)))))))))
   ,?_⟩
  obtain⟨Ts,eTs⟩:∃Ts,Ts=T0::R:=⟨_,rfl⟩;rw[<-eTs] at hP;obtain⟨r7,ndn,hnm,hhd,hsd⟩:=hT;rw[<-eTs] at ndn hnm;have tl:Ts.length=R.length+1:=by rw[eTs];rfl
  have e1l:=hP.2.1;have e2l:=hP.2.2.1;refine⟨_,rfl,.int sz,"int",rfl,Is.int,_,rfl,a2q (by decide) ?_⟩;refine⟨_,rfl,_,_,rfl,rfl,_,rfl,a2q (dF0 (by omega)) ?_⟩;obtain⟨HX,eHX⟩:∃HX,HX=H:=⟨_,rfl⟩;have SX:a0k H HX:=by rw[eHX];exact a0k.refl H
  rw[<-eHX];refine⟨_,rfl,l,rfl,⟨_,SqL.of (SX _ _ hP.1)⟩,fun D2 hD2=>?_⟩;refine a1H Ts.length (fun i=>.str ((Ts.map (·.sort)).getD i "")) (fun i σ' Hc=>(∃t0 t1 t2,σ'=[t0,t1,t2])/\a0k HX Hc) (by rw[sizeLine_eq];omega) ⟨⟨_,_,_,rfl⟩,a0k.upd hD2⟩ a0b ?_ ?_
  ·rintro i σ' Hc hi ⟨⟨t0,t1,t2,rfl⟩,sm⟩ hD'
   have hie:i<es.length:=by omega
   have hid:i<ds.length:=by omega
   have sc:=SX.trans sm;have pt:=hP.2.2.2 i es[i] ds[i] Ts[i] (gE0 hie) (gE0 hid) (gE0 hi);refine⟨⟨_,V.ref es[i],SqL.of (sc _ _ hP.1),by rw[gM0,gE0 hie];rfl⟩,?_⟩;rintro x H' ⟨rfl,hx'⟩;have ex:=hx' _ (SqL.of (sc _ _ hP.1));rw[gM0,gE0 hie] at ex;cases ex;refine⟨_,_,rfl,SqT.of (sc _ _ pt.1),rfl,_,_,rfl,_,_,rfl,_,_,rfl,rfl,_,rfl,?_,hD',⟨_,_,_,rfl⟩,sm.put hD2⟩;rw[List.getD_eq_getElem?_getD,gM0,gE0 hi]
   rfl
  rintro σ2 H2 ⟨_,sm2⟩ hDn2;refine⟨⟨_,SqL.of ((SX.trans sm2) _ _ hP.1),by rw[lM0];omega⟩,?_⟩;rw[show(List.range Ts.length).map (fun i=>V.str ((Ts.map (·.sort)).getD i ""))=(Ts.map (·.sort)).map V.str from by
   have:=a1F (Ts.map (·.sort)) ("":Str) (fun z=>V.str z)
   rw[lM0] at this;exact this] at hDn2
  refine⟨D2,R.map (·.sort),rfl,by rw[hDn2,eTs,mN0,hhd],(fun z hz=>?_),fun H3 s3=>?_⟩
  ·obtain⟨T,hT',rfl⟩:=mM0.mp hz
   exact hsd T hT'
  have S3:a0k H H3:=(SX.trans sm2).trans s3;clear SX eHX hD2 sm2 hDn2 s3;clear H2;obtain⟨HX,eHX⟩:∃HX,HX=H3:=⟨_,rfl⟩;have SX:a0k H HX:=by rw[eHX];exact S3
  rw[<-eHX];refine⟨_,rfl,l,rfl,⟨_,SqL.of (SX _ _ hP.1)⟩,fun D4 hD4=>?_⟩;refine a1H Ts.length (fun i=>.str ((Ts.map (·.name)).getD i "")) (fun i σ' Hc=>(∃t0 t1 t2,σ'=[t0,t1,t2])/\a0k HX Hc) (by rw[sizeLine_eq];omega) ⟨⟨_,_,_,rfl⟩,a0k.upd hD4⟩ a0b ?_ ?_
  ·rintro i σ' Hc hi ⟨⟨t0,t1,t2,rfl⟩,sm⟩ hD'
   have hie:i<es.length:=by omega
   have hid:i<ds.length:=by omega
   have sc:=SX.trans sm;have pt:=hP.2.2.2 i es[i] ds[i] Ts[i] (gE0 hie) (gE0 hid) (gE0 hi);refine⟨⟨_,V.ref es[i],SqL.of (sc _ _ hP.1),by rw[gM0,gE0 hie];rfl⟩,?_⟩;rintro x H' ⟨rfl,hx'⟩;have ex:=hx' _ (SqL.of (sc _ _ hP.1));rw[gM0,gE0 hie] at ex;cases ex;refine⟨_,_,rfl,SqT.of (sc _ _ pt.1),rfl,_,_,rfl,_,_,rfl,_,_,rfl,rfl,_,rfl,?_,hD',⟨_,_,_,rfl⟩,sm.put hD4⟩;rw[List.getD_eq_getElem?_getD,gM0,gE0 hi]
   rfl
  rintro σ4 H4 ⟨_,sm4⟩ hDn4;refine⟨⟨_,SqL.of ((SX.trans sm4) _ _ hP.1),by rw[lM0];omega⟩,?_⟩;rw[show(List.range Ts.length).map (fun i=>V.str ((Ts.map (·.name)).getD i ""))=(Ts.map (·.name)).map V.str from by
   have:=a1F (Ts.map (·.name)) ("":Str) (fun z=>V.str z)
   rw[lM0] at this;exact this] at hDn4
  refine⟨D4,Ts.map (·.name),rfl,hDn4,ndn,(fun z hz=>?_),fun H5 s5=>?_⟩
  ·obtain⟨T,hT',rfl⟩:=mM0.mp hz
   exact hnm T hT'
  have S5:a0k H H5:=(SX.trans sm4).trans s5;refine⟨_,rfl,l,rfl,⟨_,SqL.of (S5 _ _ hP.1)⟩,fun D6 hD6=>?_⟩;have hD60:H D6=none:=by
   cases e:H D6 with
   |none=>rfl
   |some o=>rw[S5 _ _ e] at hD6;cases hD6
  refine a1m Ts.length (fun i ys σ' Hc=>(∃t0 t1 t2,σ'=[t0,t1,t2])/\a0k H Hc/\∃es':List Addr,ys=es'.map V.ref/\∀(j:Nat) (e:Addr) (T:Tb),es'[j]? =some e->Ts[j]? =some T->a2k Hc e T) (by rw[sizeLine_eq];omega) ⟨⟨_,_,_,rfl⟩,S5.trans (a0k.upd hD6),[],rfl,fun j e T h=>nomatch h⟩ a0b ?_ ?_
  ·rintro i σ' Hc ys hi ⟨⟨t0,t1,t2,rfl⟩,sm,es',rfl,hes⟩ hyl hD'
   rw[lM0] at hyl;have hie:i<es.length:=by omega
   have hid:i<ds.length:=by omega
   have pt:=hP.2.2.2 i es[i] ds[i] Ts[i] (gE0 hie) (gE0 hid) (gE0 hi);refine⟨⟨_,V.ref es[i],SqL.of (sm _ _ hP.1),by rw[gM0,gE0 hie];rfl⟩,?_⟩;rintro x H' ⟨rfl,hx'⟩;have ex:=hx' _ (SqL.of (sm _ _ hP.1));rw[gM0,gE0 hie] at ex;cases ex;refine⟨_,_,rfl,SqT.of (sm _ _ pt.1),rfl,_,_,rfl,_,_,rfl,_,_,rfl,rfl,?_⟩;refine⟨_,rfl,_,rfl,_,rfl,ds[i],Ts[i].cols,rfl,sm _ _ pt.2.1,pt.2.2.sb sm.sb,fun t H7 s7 hct=>?_⟩;refine⟨(by show 3<=sizeLine;decide),fun p hp=>?_⟩;have T:=a0k.upd (o:=.tup [.str Ts[i].name,.str Ts[i].sort,.ref t]) hp;have nD:a4r ((L2.upd H7 p (.tup [.str Ts[i].name,.str Ts[i].sort,.ref t])) D6):=a4r.lst (T _ _ (s7 _ _ hD'));refine⟨T _ _ (s7 _ _ hD'),⟨_,_,_,rfl⟩,((sm.trans s7).trans T).put hD60,es'++[p],by rw[mA0];rfl,fun j e T' h1 h2=>?_⟩
   by_cases hj:j<es'.length
   ·rw[gL0 hj] at h1
    exact((hes j e T' h1 h2).same (s7.trans T)).beside nD
   ·have hj':j=es'.length:=by
     have:=(gS0.mp h1).1
     rw[lA0] at this;simp at this
     omega
    subst hj';rw[gR0 (nR0 _),Nat.sub_self] at h1;cases h1;rw[hyl,gE0 hi] at h2;cases h2;exact a2k.beside nD ⟨t,a0b,hct.same T⟩
  rintro σ6 H6 ys ⟨_,S6,es',rfl,hes⟩ hD6n hyl;rw[lM0] at hyl;refine⟨⟨_,SqL.of (S6 _ _ hP.1),by rw[lM0];omega⟩,?_⟩;refine⟨_,rfl,_,rfl,D6,_,rfl,SqL.of hD6n,fun p7 e7=>?_⟩;rw[a7w (by decide) (by rw[lM0];omega),<-List.map_drop];have T7:=a0k.upd (o:=.lst ((es'.drop (1:Int).toNat).map V.ref)) e7;have S7:=S6.trans T7;refine b1a (hTab.same S7) fun lf c' H8 sb8 fr8 tab8 hlf hc8=>?_;have hPF:∀o,H PF=some o->∃ps,o=.tbl ps:=fun o e=>by
   rcases hTab with h |⟨c'',h,_⟩
   ·rw[h] at e;cases e;exact⟨_,rfl⟩
   ·rw[h] at e;cases e;exact⟨_,rfl⟩
  have SB8:=S7.sb.trans sb8;have FR8:Fr PF H H8:=fun b o nb e=>by
   have:=S7 _ _ e
   rw[fr8 b nb (by rw[this];simp)];exact this
  have hes8:∀(j:Nat) (e:Addr) (T:Tb),es'[j]? =some e->Ts[j]? =some T->a2k H8 e T:=fun j e T a b=>((hes j e T a b).same T7).sb sb8;refine⟨p7,lf,c',_,R.map (·.name),rfl,rfl,hlf,hc8,SqL.of (sb8 _ _ rfl a0b),?_,?_,?_,(fun i v z h1 h2=>?_),fun l9 ix n9 hix hri=>?_⟩
  ·rw[lM0,lM0,List.length_drop]
   show R.length=es'.length-1
   omega
  ·rw[eTs,mN0] at ndn
   exact(List.nodup_cons.mp ndn).2
  ·rw[lM0,List.length_drop]
   show es'.length-1<64
   omega
  ·have h1':(es'.drop 1)[i]?.map V.ref=some v:=by rw[<-gM0];exact h1
   rw[List.getElem?_drop] at h1';obtain⟨e,he,rfl⟩:=Option.map_eq_some_iff.mp h1';rw[gM0] at h2;obtain⟨T,hT',rfl⟩:=Option.map_eq_some_iff.mp h2;obtain⟨ct,g1,_⟩:=hes8 (1+i) e T he (by rw[eTs,Nat.add_comm,List.getElem?_cons_succ];exact hT');exact⟨_,rfl,_,_,0,_,rfl,rfl,SqT.of g1,rfl,rfl,rfl⟩
  rw[lM0,List.length_drop] at hix;have hix':ix.Perm (List.range R.length):=by
   have:es'.length-(1:Int).toNat=R.length:=by
    show es'.length-1=R.length
    omega
   rw[this] at hix;exact hix
  have ixlt:∀i∈ix,i<R.length:=fun i hi=>List.mem_range.mp (hix'.mem_iff.mp hi);have elst:(ix.map fun i=>((es'.drop (1:Int).toNat).map V.ref).getD i .non)=(ix.map fun i=>(es'.drop 1).getD i 0).map V.ref:=by
   rw[mC0];refine List.map_congr_left fun i hi=>?_;have hl:i<(es'.drop 1).length:=by
    rw[List.length_drop]
    have:=ixlt i hi
    omega
   show(((es'.drop 1).map V.ref).getD i .non)=V.ref ((es'.drop 1).getD i 0)
   rw[List.getD_eq_getElem?_getD,List.getD_eq_getElem?_getD,gM0,gE0 hl]
   rfl
  rw[elst];have T9:=a0k.upd (o:=.lst ((ix.map fun i=>(es'.drop 1).getD i 0).map V.ref)) n9;have hD9:=T9 _ _ (sb8 _ _ rfl (T7 _ _ hD6n));have ixl:ix.length=R.length:=by rw[hix'.length_eq,List.length_range]
  have he0:0<es'.length:=by omega
  have etk:es'.take (1:Int).toNat=[es'[0]]:=by
   show es'.take 1=[es'[0]];cases es' with
   |nil=>simp at he0
   |cons a r=>rfl
  refine⟨_,rfl,_,rfl,_,rfl,D6,_,rfl,SqL.of hD9,fun p10 e10=>?_⟩;rw[b1w (by decide) (by rw[lM0];omega),<-List.map_take,etk];have T10:=a0k.upd (o:=.lst ([es'[0]].map V.ref)) e10;refine⟨_,rfl,p10,l9,_,_,rfl,rfl,a0b,T10 _ _ a0b,?_,fun p11 e11=>?_⟩
  ·rw[lM0,lM0,lM0,sizeLine_eq,ixl]
   simp only[List.length_cons,List.length_nil]
   omega
  rw[show([es'[0]].map V.ref++(ix.map fun i=>(es'.drop 1).getD i 0).map V.ref)=(es'[0]::ix.map fun i=>(es'.drop 1).getD i 0).map V.ref from rfl];have T11:=a0k.upd (o:=.lst ((es'[0]::ix.map fun i=>(es'.drop 1).getD i 0).map V.ref)) e11;refine⟨p11,_,rfl,.inl ⟨SqL.of a0b,fun t12 e12=>?_⟩⟩;have T12:=a0k.upd (o:=.tup ((es'[0]::ix.map fun i=>(es'.drop 1).getD i 0).map V.ref)) e12;refine⟨(by show 2<=sizeLine;decide),fun f13 e13=>?_⟩;have T13:=a0k.upd (o:=.tup [.int sz,.ref t12]) e13;have S13:=T9.trans (T10.trans (T11.trans (T12.trans T13)));refine q f13 _ (ix.map fun i=>R.getD i T0) (SB8.trans S13.sb) (fun b o nb e=>S13 _ _ (FR8 b o nb e)) (tab8.same S13) (L2.a8P T0 R hix') ?_ ⟨t12,es'[0]::ix.map fun i=>(es'.drop 1).getD i 0,a0b,T13 _ _ a0b,?_,fun j e T h1 h2=>?_⟩
  ·have:(ix.map fun i=>(R.map (·.name)).getD i ("":Str))=(ix.map fun i=>R.getD i T0).map (·.name):=by
    rw[mC0];refine List.map_congr_left fun i hi=>?_;have hl:=ixlt i hi
    show(R.map (·.name)).getD i ("":Str)=(R.getD i T0).name
    rw[List.getD_eq_getElem?_getD,List.getD_eq_getElem?_getD,gM0,gE0 hl]
    rfl
   rw[<-this];exact hri
  ·rw[List.length_cons,List.length_cons,lM0,lM0]
  ·refine a2k.same ?_ S13
   cases j with
   |zero=>
    cases h1;cases h2;exact hes8 0 es'[0] T0 (gE0 he0) (by rw[eTs];rfl)
   |succ j=>
    rw[List.getElem?_cons_succ,gM0] at h1 h2;obtain⟨i,hi,rfl⟩:=Option.map_eq_some_iff.mp h1;rw[hi] at h2;cases h2;have hl:=ixlt i (gI0 hi);have hl2:i<(es'.drop 1).length:=by rw[List.length_drop];omega
    refine hes8 (1+i) _ _ ?_ ?_
    ·show es'[1+i]? =some ((es'.drop 1).getD i 0)
     rw[<-List.getElem?_drop,List.getD_eq_getElem?_getD,gE0 hl2]
     rfl
    ·show Ts[1+i]? =some (R.getD i T0)
     rw[eTs,Nat.add_comm,List.getElem?_cons_succ,List.getD_eq_getElem?_getD,gE0 hl]
     rfl
end
def leS (a b:Str):Bool:=!decide (b.cps.toList<a.cps.toList)
theorem a2I {a b:Str}:leS a b=true↔a.cps.toList<=b.cps.toList:=by
 unfold leS;rw[Bool.not_eq_true',decide_eq_false_iff_not];exact Iff.rfl
theorem a5O (a b c:Str)(h:leS a b=true)(h':leS b c=true):leS a c=true:=a2I.mpr (List.le_trans (a2I.mp h) (a2I.mp h'))
theorem b0A {a b:Str}(h:a.cps.toList=b.cps.toList):a=b:=Str.ext' (Array.toList_inj.mp h)
theorem a4w {a b:Str}(h:leS a b=true)(h':leS b a=true):a=b:=b0A (List.le_antisymm (a2I.mp h) (a2I.mp h'))
theorem a5U:∀{l:List Str} {p:Str},PyProof.Rows.risingS p l=true->(p::l).Pairwise fun a b=>leS a b=true
 |[],p,_=>List.pairwise_singleton _ _
 |x::r,p,h=>by
  unfold PyProof.Rows.risingS at h;rw[Bool.and_eq_true] at h;have hx:leS p x=true:=by
   unfold leS;rw[PyProof.Rows.le_meets];exact h.1
  have ih:=a5U (l:=r) (p:=x) h.2;refine List.Pairwise.cons (fun y hy=>?_) ih;rcases mK0.mp hy with rfl |hy
  ·exact hx
  ·exact a5O p x y hx ((List.pairwise_cons.mp ih).1 y hy)
theorem a2D:∀{l:List Str},PyProof.Rows.sortedS l=true->l.Pairwise fun a b=>leS a b=true
 |[],_=>List.Pairwise.nil
 |x::r,h=>a5U h
theorem a3R {l m k:List Str}(h1:sortedS l=true)(h2:sortedS m=true)(p1:l.Perm k)(p2:m.Perm k):l=m:=
 List.Perm.eq_of_pairwise (fun a b _ _ h1 h2=>a4w h1 h2) (a2D h1) (a2D h2) (p1.trans p2.symm)
theorem b2s {R R1 R2:List Tb}(nd:(R.map (·.name)).Nodup)(p1:R1.Perm R)(p2:R2.Perm R)(h1:a5Z (R1.map (·.name)))(h2:a5Z (R2.map (·.name))):R1=R2:=by
 have pw:∀{S:List Tb},a5Z (S.map (·.name))->S.Pairwise fun a b=>leS a.name b.name=true:=fun h=>by
  unfold a5Z at h;rw[List.pairwise_map] at h;refine h.imp fun hab=>?_;unfold leS;rw[dF0 hab]
  rfl
 refine List.Perm.eq_of_pairwise (fun a b ha hb h1 h2=>?_) (pw h1) (pw h2) (p1.trans p2.symm);have en:=a4w h1 h2;have ma:=p1.mem_iff.mp ha;have mb:=p2.mem_iff.mp hb;obtain⟨i,hi,ei⟩:=List.mem_iff_getElem.mp ma;obtain⟨j,hj,ej⟩:=List.mem_iff_getElem.mp mb
 have:i=j:=by
  refine(List.getElem_inj (h₀:=by rw[lM0];exact hi) (h₁:=by rw[lM0];exact hj) nd).mp ?_;rw[List.getElem_map,List.getElem_map,ei,ej,en]
 subst this;rw[<-ei,<-ej]
def Sl (d:Addr)(H H':Hp):Prop:=∀b o,b≠d->H b=some o->H' b=some o
theorem Sl.of {d:Addr}{H H':Hp}(s:a0k H H'):Sl d H H':=fun b o _ e=>s b o e
theorem Sl.put {d:Addr}{H H1 H2:Hp}{o:HO}(a:Sl d H H1)(s:a0k H1 H2):Sl d H (L2.upd H2 d o):=fun b u nb e=>by
 rw[a0f nb];exact s _ _ (a b u nb e)
theorem a1s.besideL {H:Hp}{D e d:Addr}{u:HO}{ys:List V}{T:Tb}(hD:H D=some (.lst ys))(h:a1s H e d T):a1s (L2.upd H D u) e d T:=by
 refine⟨?_,?_,h.2.2.1,h.2.2.2.1,fun p hp=>⟨(h.2.2.2.2 p hp).1,?_⟩⟩
 ·rw[a0f (fun q=>by have:=h.1;rw[q,hD] at this;cases this)];exact h.1
 ·rw[a0f (fun q=>by have:=h.2.1;rw[q,hD] at this;cases this)];exact h.2.1
 ·obtain⟨dt,h1,h2,h3⟩:=(h.2.2.2.2 p hp).2
  exact⟨dt,Rep.beside (fun xs q=>by rw[hD] at q;cases q) h3 h1,h2,h3⟩
end My
namespace L2
open PySem PySem.Spec PyProof.Rows
theorem a8V {J:It}{g:TG}{tt:TT}{te:TE}{R:Addr->Hp->Prop}{D:Addr}{σ0:St}{H0:Hp}(n:Nat)(Pv:Nat->List V->St->Hp->Prop)(hn:n<=sizeLine)(h0:Pv 0 [] σ0 H0)(hD0:H0 D=some (.lst []))
  (hs:∀i σ H ys,i<n->Pv i ys σ H->H D=some (.lst ys)->J.go i H/\∀x H',J.yld i H x H'->g x σ H' fun σ2 H2=>tt σ2 H2 fun b H3=>if b=true then te σ2 H3 (fun y H4=>H4 D=some (.lst ys)/\Pv (i+1) (ys++[y]) σ2 (upd H4 D (.lst (ys++[y])))) else H3 D=some (.lst ys)/\Pv (i+1) ys σ2 H3)
  (hd:∀σ H ys,Pv n ys σ H->H D=some (.lst ys)->J.stop n H/\R D H):a6A J g tt te R D σ0 H0:=by
 refine⟨fun i m σ H=>m=n-i/\i<=n/\∃ys,Pv i ys σ H/\H D=some (.lst ys)/\ys.length<=i,⟨n,by omega,zL0 _,[],h0,hD0,nR0 _⟩,?_⟩;rintro i m σ H ⟨rfl,hi,ys,p,hD,hl⟩
 by_cases hlt:i<n
 ·obtain⟨go,st⟩:=hs i σ H ys hlt p hD
  refine .inr ⟨go,fun σ2 y H4=>H4 D=some (.lst ys)/\Pv (i+1) (ys++[y]) σ2 (upd H4 D (.lst (ys++[y]))),fun σ2 H3=>H3 D=some (.lst ys)/\Pv (i+1) ys σ2 H3,?_,?_,st⟩
  ·rintro σ2 y H4 ⟨e,p'⟩
   exact⟨_,e,by omega,n-(i+1),by omega,rfl,hlt,_,p',a0b,by simp;omega⟩
  ·rintro σ2 H3 ⟨e,p'⟩
   exact⟨n-(i+1),by omega,rfl,hlt,_,p',e,by omega⟩
 ·have e:i=n:=by omega
  subst e;exact .inl (hd σ H ys p hD)
def b3p (K:Fg0)(xs:List V)(H:Hp)(Q:VK):Prop:=∃(t:Addr) (o:Obj) (ys:List V) (kvs:List (Key×V)),xs=[.ref t]/\H t=some (.frz o (.tup ys))/\o.dict=none/\ys.length<=1000/\kvs.length=ys.length ∧
  (∀(j:Nat) (k:Key) (v:V),kvs[j]? =some (k,v)->∃a,ys[j]? =some (.ref a)/\SqT K H a [kV k,v])/\(kvs.map (·.1)).Nodup/\∀p,H p=none->Q (.ref p) (upd H p (.dK kvs))
theorem a6p {X:Cx}{K:Fg0}(hK:X.K=K)(hc:X.calm=true):a1e X (.type "dict") (b3p K):=by
 subst hK;exact a4n hc
end L2
namespace My
open PySem L2 PyProof.Rows
def srt (l:List Str):List Str:=l.mergeSort leS
theorem a1d (l:List Str):(srt l).Perm l:=List.mergeSort_perm l leS
theorem a9h (a b:Str):(leS a b || leS b a)=true:=by
 rw[Bool.or_eq_true];rcases List.le_total a.cps.toList b.cps.toList with h |h
 ·exact .inl (a2I.mpr h)
 ·exact .inr (a2I.mpr h)
theorem a5x (l:List Str):(srt l).Pairwise fun a b=>leS a b=true:=List.pairwise_mergeSort a5O a9h l
theorem b2P {l m:List Str}(h1:l.Pairwise fun a b=>leS a b=true)(h2:m.Pairwise fun a b=>leS a b=true)(p:l.Perm m):l=m:=List.Perm.eq_of_pairwise (fun a b _ _ h1 h2=>a4w h1 h2) h1 h2 p
theorem b3Q {zs l:List Str}(p:zs.Perm l)(h:sortedS zs=true):zs=srt l:=b2P (a2D h) (a5x l) (p.trans (a1d l).symm)
theorem b2L (l:List Str):srt (srt l)=srt l:=b2P (a5x _) (a5x _) (a1d _)
def cnC (cols:List (Str×V)):List (Str×V):=(srt (cols.map (·.1))).map fun z=>(z,vOf cols z)
def cn (T:Tb):Tb:=⟨T.name,T.sort,cnC T.cols⟩
def nmS (T:Tb):Str×Str:=(T.name,T.sort)
theorem a2f (cols:List (Str×V)):(cnC cols).map (·.1)=srt (cols.map (·.1)):=by
 unfold cnC;rw[mC0];exact List.map_id _
theorem b1A (cols:List (Str×V)):kvC (cnC cols)=(srt (cols.map (·.1))).map fun z=>(.inr z,vOf cols z):=by
 unfold kvC cnC;rw[mC0]
 rfl
theorem a6J {zs:List Str}{f:Str->V}{z:Str}(h:z∈zs):a1U (zs.map fun z=>((.inr z:Key),f z)) (.inr z)=some (f z):=by
 induction zs with
 |nil=>cases h
 |cons y r ih=>
  by_cases e:y=z
  ·rw[mN0,a1x (by rw[e]),e]
  ·rw[mN0,a1G (fun q=>e (by injection q))]
   rcases mK0.mp h with h |h
   ·exact absurd h.symm e
   ·exact ih h
theorem a5m {cols:List (Str×V)}{z:Str}(h:z∈cols.map (·.1)):vOf (cnC cols) z=vOf cols z:=by
 have e:a1U (kvC (cnC cols)) (.inr z)=some (vOf cols z):=by
  rw[b1A];exact a6J ((a1d _).mem_iff.mpr h)
 unfold vOf at e ⊢;rw[e]
 rfl
theorem b2K (cols:List (Str×V)):cnC (cnC cols)=cnC cols:=by
 show(srt ((cnC cols).map (·.1))).map (fun z=>(z,vOf (cnC cols) z))=cnC cols
 rw[a2f,b2L];refine List.map_congr_left fun z hz=>?_;rw[a5m ((a1d _).mem_iff.mp hz)]
theorem a7U (T:Tb):cn (cn T)=cn T:=by
 unfold cn;rw[b2K]
theorem a1v.cn {H:Hp}{t:Addr}{cols:List (Str×V)}(h:a1v H t cols):a1v H t (cnC cols):=by
 obtain⟨o,ps,zs,h1,h2,h3,h4,h5,h6⟩:=h;refine⟨o,ps,zs,by rw[a2f];exact h1.trans (a1d _).symm,h2,h3,h4,h5,fun j p z a b=>?_⟩;rw[a5m (h1.mem_iff.mp (gI0 b))];exact h6 j p z a b
theorem a0W.cn {H:Hp}{f:Addr}{sz:Int}{Ts:List Tb}(h:a0W H f sz Ts):a0W H f sz (Ts.map cn):=by
 obtain⟨tt,es,h1,h2,h3,h4⟩:=h;refine⟨tt,es,h1,h2,by rw[lM0];exact h3,fun j e T a b=>?_⟩;rw[gM0] at b;obtain⟨T',hT,rfl⟩:=Option.map_eq_some_iff.mp b;obtain⟨ct,g1,g2⟩:=h4 j e T' a hT;exact⟨ct,g1,g2.cn⟩
theorem a3U {H:Hp}{cols:List (Str×V)}(ok:a0L H cols){z:Str}(h:z∈cols.map (·.1)):a1C z=true/\∃d,Rep H d (vOf cols z)/\a3o d=true/\a4d d=true:=by
 have hval:=a4m h;unfold a1U at hval;obtain⟨kv,hf,e⟩:=Option.map_eq_some_iff.mp hval;have hmem:=List.mem_of_find?_eq_some hf;have hk:=List.find?_some hf;obtain⟨pr,hpr,rfl⟩:=mM0.mp hmem;obtain⟨hn,d,h1,h2,h3⟩:=ok.2.2 pr hpr;have ez:pr.1=z:=by
  have:(Sum.inr pr.1:Key)=.inr z:=by simpa using hk
  injection this
 rw[<-e,<-ez];exact⟨hn,d,h1,h2,h3⟩
theorem a0L.cn {H:Hp}{cols:List (Str×V)}(ok:a0L H cols):a0L H (cnC cols):=by
 refine⟨by rw[a2f];exact(a1d _).nodup_iff.mpr ok.1,?_,fun p hp=>?_⟩
 ·unfold cnC
  rw[lM0,(a1d _).length_eq,lM0];exact ok.2.1
 ·obtain⟨z,hz,rfl⟩:=mM0.mp hp
  exact a3U ok ((a1d _).mem_iff.mp hz)
theorem a9W.perm {T0 X0:Tb}{R X:List Tb}(h:a9W T0 R)(e:nmS X0=nmS T0)(p:(X.map nmS).Perm (R.map nmS)):a9W X0 X:=by
 have e1:X0.name=T0.name:=congrArg Prod.fst e;have e2:X0.sort=T0.sort:=congrArg Prod.snd e;have nn:∀L:List Tb,L.map (·.name)=(L.map nmS).map (·.1):=fun L=>by rw[mC0];rfl
 have pn:(X.map (·.name)).Perm (R.map (·.name)):=by rw[nn,nn];exact p.map _
 have mem:∀T∈X,∃T'∈R,nmS T'=nmS T:=fun T hT=>by
  obtain⟨T',h1,h2⟩:=mM0.mp (p.mem_iff.mp (mM0.mpr ⟨T,hT,rfl⟩));exact⟨T',h1,h2⟩
 obtain⟨h7,nd,hn,hh,hs⟩:=h;refine⟨?_,?_,fun T hT=>?_,by rw[e2];exact hh,fun T hT=>?_⟩
 ·have:=p.length_eq
  rw[lM0,lM0] at this
  omega
 ·rw[mN0] at nd ⊢
  rw[e1];exact((pn.cons _).nodup_iff).mpr nd
 ·rcases mK0.mp hT with rfl |hT
  ·rw[e1];exact hn T0 List.mem_cons_self
  ·obtain⟨T',h1,h2⟩:=mem T hT
   have e3:T'.name=T.name:=congrArg Prod.fst h2;rw[<-e3];exact hn T' (mL0 _ h1)
 ·obtain⟨T',h1,h2⟩:=mem T hT
  have e3:T'.sort=T.sort:=congrArg Prod.snd h2;rw[<-e3];exact hs T' h1
def FAt (H:Hp)(f:Addr)(sz:Int)(T0:Tb)(R:List Tb):Prop:=∃U:List Tb,a0W H f sz (cn T0::U)/\U.Perm (R.map cn)/\a5Z (U.map (·.name))
theorem FAt.sb {H H':Hp}{f:Addr}{sz:Int}{T0:Tb}{R:List Tb}(h:FAt H f sz T0 R)(s:Sb H H'):FAt H' f sz T0 R:=by
 obtain⟨U,h1,h2,h3⟩:=h;exact⟨U,h1.sb s,h2,h3⟩
theorem a2N (L:List Tb):(L.map cn).map (·.name)=L.map (·.name):=by rw[mC0];rfl
theorem a4p (L:List Tb):(L.map cn).map nmS=L.map nmS:=by rw[mC0];rfl
theorem FAt.of {H:Hp}{f:Addr}{sz:Int}{X0 T0:Tb}{V X R:List Tb}(h:a0W H f sz (X0::V))(e0:cn X0=cn T0)(p:V.Perm X)(pr:(X.map cn).Perm (R.map cn))(hr:a5Z (V.map (·.name))):FAt H f sz T0 R:=by
 refine⟨V.map cn,?_,(p.map cn).trans pr,by rw[a2N];exact hr⟩
 have:=h.cn
 rw[mN0,e0] at this;exact this
structure FK (H:Hp) (f:Addr) (sz:Int) (T0:Tb) (R:List Tb):Prop where
 at_:FAt H f sz T0 R
 ts:a9W T0 R
 co:∀T∈T0::R,a0L H T.cols
 sz1:1<=sz
theorem FK.get {H:Hp}{f:Addr}{sz:Int}{T0:Tb}{R:List Tb}(h:FK H f sz T0 R):∃U:List Tb,a0W H f sz (cn T0::U)/\U.Perm (R.map cn)/\(∀T∈cn T0::U,cn T=T)/\(∀T∈cn T0::U,a0L H T.cols)/\(cn T0::U).length<=8/\a9W (cn T0) U/\U.map cn=U:=by
 obtain⟨U,h1,h2,h3⟩:=h.at_;have mem:∀T∈U,∃T'∈R,cn T'=T:=fun T hT=>by
  obtain⟨T',a,b⟩:=mM0.mp (h2.mem_iff.mp hT);exact⟨T',a,b⟩
 have fx:∀T∈U,cn T=T:=fun T hT=>by
  obtain⟨T',_,rfl⟩:=mem T hT;exact a7U T'
 refine⟨U,h1,h2,fun T hT=>?_,fun T hT=>?_,?_,h.ts.perm rfl ?_,?_⟩
 ·rcases mK0.mp hT with rfl |hT
  ·exact a7U T0
  ·exact fx T hT
 ·rcases mK0.mp hT with rfl |hT
  ·exact(h.co T0 List.mem_cons_self).cn
  ·obtain⟨T',a,rfl⟩:=mem T hT
   exact(h.co T' (mL0 _ a)).cn
 ·have:=h2.length_eq
  rw[lM0] at this
  have:=h.ts.1
  rw[List.length_cons]
  omega
 ·rw[<-a4p R]
  exact h2.map _
 ·exact(List.map_congr_left fx).trans (List.map_id _)
theorem a1s.same {H H':Hp}{e d:Addr}{T:Tb}(h:a1s H e d T)(s:a0k H H'):a1s H' e d T:=h.sb s.sb
theorem a1R.same {H H':Hp}{l:Addr}{es ds:List Addr}{Ts:List Tb}(h:a1R H l es ds Ts)(s:a0k H H'):a1R H' l es ds Ts:=h.sb s.sb
theorem a1R.snoc {H:Hp}{l l' p cd:Addr}{es ds:List Addr}{Ts:List Tb}{T:Tb}(h:a1R H l es ds Ts)(hl:H l'=some (.lst ((es++[p]).map V.ref)))(hp:a1s H p cd T):a1R H l' (es++[p]) (ds++[cd]) (Ts++[T]):=by
 obtain⟨_,h2,h3,h4⟩:=h;refine⟨hl,by rw[lA0,lA0,h2];rfl,by rw[lA0,lA0,h3];rfl,fun j e d T' a b c=>?_⟩
 by_cases hj:j<Ts.length
 ·rw[gL0 (by omega)] at a b c
  exact h4 j e d T' a b c
 ·have:j=Ts.length:=by
   have:=(gS0.mp c).1
   rw[lA0] at this;simp at this
   omega
  subst this;rw[gR0 (by omega),h2,Nat.sub_self] at a;rw[gR0 (by omega),h3,Nat.sub_self] at b;rw[gR0 (by omega),Nat.sub_self] at c;cases a;cases b;cases c;exact hp
seal L2.PE L2.PT L2.PW L2.PS L2.PSs L2.PA L2.PI L2.PG L2.PGs L2.OpR L2.a1e L2.IxR L2.SlR L2.MtR L2.PIf L2.PO L2.MtM L2.PC L2.a7F
def a3S:Sp:=fun vs H Q _=>∃(f:Addr) (sz:Int) (Ts:List Tb),vs=[.ref f]/\a0W H f sz Ts/\(∀T∈Ts,cn T=T)/\(∀T∈Ts,a0L H T.cols)/\Ts.length<=8/\∀l es ds H',a0k H H'->H l=none->a1R H' l es ds Ts->Q (.ref l) H'
section
variable {P:Program}{w:World}{K:Fg0}{mg:Str->Option Value}{base:Heap}{CT CO CN:Addr}
theorem b0L {f:Addr}{fd:FuncData}(F:Fun K "parts_of" "parts_of" (top 27) f fd)(B:Bl mg):a0y P w K mg base CX0 1 f fd ["form"] a3S:=by
 have sc:a0o ["form"] ["form"] (a0e (top 27)):=.k (by decide +kernel);refine F.ok sc (fun vs H Q E h=>?_) (fun cdv A outer s H vs Q E hr h=>?_)
 ·obtain⟨f,sz,Ts,rfl,_⟩:=h
  rfl
 ·obtain⟨f,sz,Ts,rfl,⟨tt,es0,h1,h2,h3,h4⟩,fx,co,t8,q⟩:=h
  refine⟨_,a0h (a0s (a1j (osc:=a0e (top 27)) (N0:=["form"]) (xs:=["name","sort","columns"]) (fr:=[]) ⟨rfl,by decide +kernel,by decide +kernel,by decide +kernel,by decide,by decide +kernel⟩ rfl rfl rfl (a4a (a0x a1o (pv 0) a0g (fun _ _=>rfl)))
     (fun s H fp=>a4t (K:=K) (n:=3) rfl rfl (a0E (a0q (i:=0) (show(["name","sort","columns"]:List Str).Nodup by decide +kernel) rfl (Or.inl rfl)) (a0E (a0q (i:=1) (show(["name","sort","columns"]:List Str).Nodup by decide +kernel) rfl (Or.inl rfl)) (a0E (a0q (i:=2) (show(["name","sort","columns"]:List Str).Nodup by decide +kernel) rfl (Or.inl rfl)) a1Y)))) (fun s H fp=>a1h)
     (fun s H fp=>a0P (a0a (pv 0) (a0a (pv 1) (a0a (a0I (a6p (K:=K) rfl rfl) (by rfl) B.dict boot_dict (a0a (pv 2) a0c)) a0c)))))),?_⟩
  refine⟨_,rfl,_,_,1,_,rfl,rfl,SqT.of h1,rfl,tt,rfl,⟨_,SqT.of h2⟩,fun D hD=>?_⟩;refine a1m Ts.length (fun i ys σ' Hc=>(∃t0 t1 t2,σ'=[t0,t1,t2])/\a0k H Hc/\∃es ds:List Addr,ys=es.map V.ref/\ds.length=i/\∀(j:Nat) (e d:Addr) (T:Tb),es[j]? =some e->ds[j]? =some d->Ts[j]? =some T->a1s Hc e d T) (by rw[sizeLine_eq];omega) ⟨⟨_,_,_,rfl⟩,a0k.upd hD,[],[],rfl,rfl,fun j e d T h=>nomatch h⟩ a0b ?_ ?_
  ·rintro i σ' Hc ys hi ⟨⟨t0,t1,t2,rfl⟩,sm,es,ds,rfl,hdl,hpt⟩ hyl hD'
   rw[lM0] at hyl;have hie:i<es0.length:=by omega
   refine⟨⟨_,V.ref es0[i],SqT.of (sm _ _ h2),by rw[gM0,gE0 hie];rfl⟩,?_⟩;rintro x H' ⟨rfl,hx'⟩;have ex:=hx' _ (SqT.of (sm _ _ h2));rw[gM0,gE0 hie] at ex;cases ex;obtain⟨ct,g1,o,ps,zs,hpm,hso,ho,hct,hpl,hpz⟩:=h4 i es0[i] Ts[i] (gE0 hie) (gE0 hi);have eT:=fx Ts[i] (gQ0 hi);have cT:=co Ts[i] (gQ0 hi);obtain⟨T,eTi⟩:∃T,Ts[i]=T:=⟨_,rfl⟩;rw[eTi] at g1 hpm hpz eT cT;have hzl:zs.length<=12:=by
    have:=hpm.length_eq
    rw[lM0] at this
    have:=cT.2.1
    omega
   have ekv:zs.map (fun z=>((.inr z:Key),vOf T.cols z))=kvC T.cols:=by
    rw[b3Q hpm hso,<-b1A,show cnC T.cols=T.cols from congrArg Tb.cols eT]
   refine⟨_,_,rfl,SqT.of (sm _ _ g1),rfl,_,_,rfl,_,_,rfl,_,_,rfl,rfl,?_⟩;refine⟨_,rfl,_,rfl,_,rfl,ct,o,_,zs.map (fun z=>(.inr z,vOf T.cols z)),rfl,sm _ _ hct,ho,(by rw[lM0];omega),(by rw[lM0,lM0];omega),(fun j k v hj=>?_),?_,fun d1 n1=>?_⟩
   ·have hjz:j<zs.length:=by
     have:=(gS0.mp hj).1
     rwa [lM0] at this
    have hjp:j<ps.length:=by omega
    rw[gM0,gE0 hjz] at hj;cases hj;exact⟨ps[j],by rw[gM0,gE0 hjp];rfl,SqT.of (sm _ _ (hpz j ps[j] zs[j] (gE0 hjp) (gE0 hjz)))⟩
   ·rw[mC0]
    have e:((fun x:Key×V=>x.1)∘fun z=>((Sum.inr z:Key),vOf T.cols z))=fun z=>(Sum.inr z:Key):=rfl;rw[e];exact List.Pairwise.map _ (fun a b hab h=>hab (by injection h)) (hpm.nodup_iff.mpr cT.1)
   rw[ekv];have T3:=a0k.upd (o:=.dK (kvC T.cols)) n1;refine⟨(by show 3<=sizeLine;decide),fun p hp=>?_⟩;have T4:=a0k.upd (o:=.tup [.str T.name,.str T.sort,.ref d1]) hp;have S4:=T3.trans T4;have hD4:=S4 _ _ hD';refine⟨hD4,⟨_,_,_,rfl⟩,(sm.trans S4).put hD,es++[p],ds++[d1],by rw[mA0];rfl,by rw[lA0,hdl];rfl,fun j e d T' a1 a2 a3=>?_⟩;refine a1s.besideL hD4 ?_
   by_cases hj:j<i
   ·rw[gL0 (by omega)] at a1 a2
    exact(hpt j e d T' a1 a2 a3).sb S4.sb
   ·have:j=i:=by
     have:=(gS0.mp a1).1
     rw[lA0] at this;simp at this
     omega
    subst this;rw[gR0 (by omega),hyl,Nat.sub_self] at a1;rw[gR0 (by omega),hdl,Nat.sub_self] at a2;cases a1;cases a2;rw[gE0 hi,eTi] at a3;cases a3;exact⟨a0b,T4 _ _ a0b,cT.same (sm.trans S4)⟩
  ·rintro σ' Hc ys ⟨_,sm,es,ds,rfl,hdl,hpt⟩ hDn hyl
   rw[lM0] at hyl;exact⟨⟨_,SqT.of (sm _ _ h2),by rw[lM0];omega⟩,q D es ds Hc sm hD ⟨hDn,hyl,hdl,hpt⟩⟩
end
theorem b0B {z:Str}(h:a1C z=true):z.length<=8:=by
 unfold a1C at h;exact(of_decide_eq_true (Bool.and_eq_true_iff.mp h).1).2
def a6t (PF:Addr):Sp:=fun vs H Q _=>∃(f:Addr) (sz:Int) (T0:Tb) (R:List Tb) (z so:Str) (cd:Addr) (cols:List (Str×V)),vs=[.ref f,.str z,.str so,.ref cd]/\FK H f sz T0 R/\H cd=some (.dK (kvC cols))/\a0L H cols/\a2v PF a3n foQ H ∧
 a9W T0 (R++[⟨z,so,cols⟩])/\∀f' H',Sb H H'->Fr PF H H'->a2v PF a3n foQ H'->FAt H' f' sz T0 (R++[⟨z,so,cols⟩])->Q (.ref f') H'
section
variable {P:Program}{w:World}{K:Fg0}{mg:Str->Option Value}{base:Heap}{PF:Addr}
theorem b0j {f fF fP:Addr}{fd fdF fdP:FuncData}(F:Fun K "with_table" "with_table" (top 29) f fd)(DF:Df K mg "form_of" (top 18) fF fdF)(GF:a0y P w K mg base CX0 6 fF fdF ["size","tables"] (a5o PF))(DP:Df K mg "parts_of" (top 27) fP fdP)(GP:a0y P w K mg base CX0 1 fP fdP ["form"] a3S) :
  a0y P w K mg base CX0 7 f fd ["form","name","sort","columns"] (a6t PF):=by
 have sc:a0o ["form","name","sort","columns"] ["form","name","sort","columns"] (a0e (top 29)):=.k (by decide +kernel);have bF:=DF.fn.b2 "size" "tables" (by intros;rfl);have bP:=DP.fn.b1 "form" (by intros;rfl);refine F.ok sc (fun vs H Q E h=>?_) (fun cdv A outer s H vs Q E hr h=>?_)
 ·obtain⟨f,sz,T0,R,z,so,cd,cols,rfl,_⟩:=h
  rfl
 ·obtain⟨f,sz,T0,R,z,so,cd,cols,rfl,fk,hcd,hco,tab,ts,q⟩:=h
  have hr1:a1q 1 _:=hr.mono (by decide);refine⟨_,a0h (a0s (a0j GF hr (by rfl) DF.mg DF.fn.kp bF .nil a0u (a0a (a0x a1o (pv 0) a0g (fun _ _=>rfl)) (a0a (a0A b1u (a0j GP hr1 (by rfl) DP.mg DP.fn.kp bP .nil a0u (a0a (pv 0) a0c)) (a1S (a0a (a0P (a0a (pv 1) (a0a (pv 2) (a0a (pv 3) a0c)))) a0c))) a0c)))),?_⟩;obtain⟨U,hF,hU,fx,co,t8,tsU,eU⟩:=fk.get;have hF1:=hF;obtain⟨tt,es0,h1,_⟩:=hF1;refine⟨_,rfl,_,_,0,_,rfl,rfl,SqT.of h1,rfl,?_⟩;refine⟨_,rfl,f,sz,cn T0::U,rfl,hF,fx,co,t8,fun l es ds H1 s1 nl hP=>?_⟩;refine⟨_,rfl,_,rfl,_,rfl,(by show 3<=sizeLine;decide),fun p hp=>?_⟩;have T1:=a0k.upd (o:=.tup [.str z,.str so,.ref cd]) hp;refine⟨(by show 1<=sizeLine;decide),fun l2 hl2=>?_⟩;have T2:=a0k.upd (o:=.lst [V.ref p]) hl2;have hel:es.length<=8:=by rw[hP.2.1];exact t8
  refine⟨l,l2,_,_,rfl,rfl,T2 _ _ (T1 _ _ hP.1),a0b,?_,fun l3 e3=>?_⟩
  ·rw[lM0,sizeLine_eq]
   simp only[List.length_cons,List.length_nil]
   omega
  have T3:=a0k.upd (o:=.lst (es.map V.ref++[V.ref p])) e3;have S3:=T1.trans (T2.trans T3);have SH:=s1.trans S3;have hl3:(L2.upd (L2.upd (L2.upd H1 p (.tup [.str z,.str so,.ref cd])) l2 (.lst [V.ref p])) l3 (.lst (es.map V.ref++[V.ref p]))) l3=some (.lst ((es++[p]).map V.ref)):=by rw[a0b,mA0];rfl
  have hp3:(L2.upd (L2.upd (L2.upd H1 p (.tup [.str z,.str so,.ref cd])) l2 (.lst [V.ref p])) l3 (.lst (es.map V.ref++[V.ref p]))) p=some (.tup [.str z,.str so,.ref cd]):=(T2.trans T3) _ _ a0b;refine⟨l3,sz,es++[p],ds++[cd],cn T0,U++[⟨z,so,cols⟩],rfl,fk.sz1,(hP.same S3).snoc hl3 ⟨hp3,SH _ _ hcd,hco.same SH⟩,ts.perm rfl ?_,tab.same SH,fun f' H' V sb fr tb pV hr hf=>?_⟩
  ·rw[mA0,mA0]
   refine List.Perm.append_right _ ?_;rw[<-a4p R];exact hU.map _
  ·refine q f' H' (SH.sb.trans sb) (fun b o nb e=>fr b o nb (SH b o e)) tb (FAt.of hf (a7U T0) pV ?_ hr)
   rw[mA0,mA0];refine List.Perm.append_right _ ?_;rw[eU];exact hU
def rc (z:Str)(cols:List (Str×V))(T:Tb):Tb:=if T.name=z then⟨T.name,T.sort,cols⟩ else T
theorem b4g (z:Str)(cols:List (Str×V))(T:Tb):nmS (rc z cols T)=nmS T:=by
 unfold rc
 split<;>rfl
theorem b4m (z:Str)(cols:List (Str×V))(T:Tb):cn (rc z cols (cn T))=cn (rc z cols T):=by
 unfold rc;show cn (if T.name=z then _ else _)=_
 split
 ·rfl
 ·exact a7U T
def a4S (PF:Addr):Sp:=fun vs H Q _=>∃(f:Addr) (sz:Int) (T0:Tb) (R:List Tb) (z:Str) (cd:Addr) (cols:List (Str×V)),vs=[.ref f,.str z,.ref cd]/\FK H f sz T0 R/\a2v PF a3n foQ H/\z∈(T0::R).map (·.name) ∧
 H cd=some (.dK (kvC cols))/\a0L H cols/\∀f' H',Sb H H'->Fr PF H H'->a2v PF a3n foQ H'->FAt H' f' sz (rc z cols T0) (R.map (rc z cols))->Q (.ref f') H'
def wcN:List Str:=["form","table","columns","parts","name","sort","had"]
theorem a3t {U R:List Tb}{T0:Tb}(h:U.Perm (R.map cn)):((cn T0::U).map (·.name)).Perm ((T0::R).map (·.name)):=by
 rw[mN0,mN0];refine List.Perm.cons _ ?_;rw[<-a2N R];exact h.map _
theorem b0x {fself fF fP fT:Addr}{fd fdF fdP fdT:FuncData}(F:Fun K "with_columns" "with_columns" (top 28) fself fd)(DF:Df K mg "form_of" (top 18) fF fdF)(GF:a0y P w K mg base CX0 6 fF fdF ["size","tables"] (a5o PF))(DP:Df K mg "parts_of" (top 27) fP fdP)(GP:a0y P w K mg base CX0 1 fP fdP ["form"] a3S)
  (DT:Df K mg "table_in" (top 26) fT fdT) (GT:a0y P w K mg base CX0 1 fT fdT ["form","table"] a3b) :
  a0y P w K mg base CX0 7 fself fd ["form","table","columns"] (a4S PF):=by
 have sc:a0o wcN ["form","table","columns"] (a0e (top 28)):=.k (by decide +kernel);have bF:=DF.fn.b2 "size" "tables" (by intros;rfl);have bP:=DP.fn.b1 "form" (by intros;rfl);have bT:=DT.fn.b2 "form" "table" (by intros;rfl);refine F.ok sc (fun vs H Q E h=>?_) (fun cdv A outer s H vs Q E hr h=>?_)
 ·obtain⟨f,sz,T0,R,z,cd,cols,rfl,_⟩:=h
  rfl
 ·obtain⟨f,sz,T0,R,z,cd,cols,rfl,fk,tab,hz,hcd,hco,q⟩:=h
  have hr1:a1q 1 _:=hr.mono (by decide);refine⟨_,a0d (a0U (a0j GT hr1 (by rfl) DT.mg DT.fn.kp bT .nil a0u (a0a (pv 0) (a0a (pv 1) a0c))))
   (a0d (a0w (i:=3) sc.nd rfl (Or.inl rfl) (a1S a0c))
   (a0d (a1A PassesOwn.never rfl (a1D (a0j GP hr1 (by rfl) DP.mg DP.fn.kp bP .nil a0u (a0a (pv 0) a0c))) (a3L rfl (a0E (a0q (i:=4) sc.nd rfl (Or.inl rfl)) (a0E (a0q (i:=5) sc.nd rfl (Or.inl rfl)) (a0E (a0q (i:=6) sc.nd rfl (Or.inl rfl)) a1Y))))
    (a0h (a0U (a4A PySem.F.plainAttrs_list PySem.F.slot_list_append PySem.F.type_list_append a7D (pv 3) (a0a (a0P (a0a (pv 4) (a0a (pv 5) (a0a (b0t (a0z a2l (pv 4) (pv 1) (a0B _)) (pv 2) (pv 6)) a0c)))) a0c)))))
   (a0h (a0s (a0j GF hr (by rfl) DF.mg DF.fn.kp bF .nil a0u (a0a (a0x a1o (pv 0) a0g (fun _ _=>rfl)) (a0a (pv 3) a0c))))))),?_⟩
  obtain⟨U,hF,hU,fx,co,t8,tsU,eU⟩:=fk.get;have hF1:=hF;obtain⟨tt,es0,h1,_⟩:=hF1;have pN:=a3t (T0:=T0) hU;refine⟨_,rfl,_,rfl,?_⟩;obtain⟨Tz,hTz,eTz⟩:=mM0.mp (pN.mem_iff.mpr hz);refine⟨f,sz,cn T0::U,Tz,(by rw[eTz];rfl),hF,tsU.2.1,hTz,fun e _=>?_⟩;refine⟨zL0 _,fun D hD=>?_⟩;have T1:=a0k.upd (o:=.lst []) hD;refine⟨_,rfl,f,sz,cn T0::U,rfl,hF.same T1,fx,(fun T hT=>(co T hT).same T1),t8,fun l es ds H2 s2 nl hP=>?_⟩;have S2:=T1.trans s2;have hD2:H2 D=some (.lst []):=s2 _ _ a0b;generalize eTs:(cn T0::U)=Ts at *;obtain⟨hl,e1l,e2l,hpt⟩:=id hP;have lD:l≠D:=fun e=>by rw[e,hD2] at hl;cases es<;>simp at hl;subst eTs;simp at e1l
  let dn:Nat->Addr:=fun j=>if (Ts.map (fun T:Tb=>T.name)).getD j ("":Str)=z then cd else ds.getD j 0
  refine⟨l,rfl,⟨_,SqL.of hl⟩,a2C (K:=K) (a:=l) (xs:=es.map V.ref) (fun i σ Hc=>∃(rs:List Addr) (u4 u5 u6:Option V),σ=[some (.ref f),some (.str z),some (.ref cd),some (.ref D),u4,u5,u6]/\Sl D H2 Hc/\Hc D=some (.lst (rs.map V.ref))/\rs.length=i/\∀(j:Nat) (e:Addr) (T:Tb),rs[j]? =some e->Ts[j]? =some T->Hc e=some (.tup [.str T.name,.str T.sort,.ref (dn j)])) ⟨[],_,_,_,rfl,Sl.of (a0k.refl _),hD2,rfl,fun j e T h=>nomatch h⟩ (fun i σ Hc _ pp=>by obtain⟨rs,u4,u5,u6,_,sl,_⟩:=pp;exact SqL.of (sl _ _ lD hl)) ?_ ?_⟩
  ·rintro i x σ Hc hx ⟨rs,u4,u5,u6,rfl,sl,hDc,hrl,hent⟩
   have hie:i<es.length:=by
    have:=(gS0.mp hx).1
    rwa [lM0] at this
   have hid:i<ds.length:=by omega
   have hit:i<Ts.length:=by omega
   rw[gM0,gE0 hie] at hx;cases hx;have pt:=hpt i es[i] ds[i] Ts[i] (gE0 hie) (gE0 hid) (gE0 hit);have ne1:es[i]≠D:=fun q=>by have:=pt.1;rw[q,hD2] at this;cases this
   have edn:dn i=if Ts[i].name=z then cd else ds[i]:=by
    show(if (Ts.map (fun T:Tb=>T.name)).getD i ("":Str)=z then cd else ds.getD i 0)=_
    rw[List.getD_eq_getElem?_getD,List.getD_eq_getElem?_getD,gM0,gE0 hit,gE0 hid]
    rfl
   refine⟨_,_,rfl,SqT.of (sl _ _ ne1 pt.1),rfl,_,_,rfl,_,_,rfl,_,_,rfl,rfl,?_⟩;refine⟨_,rfl,.inl ⟨rfl,_,SqL.of hDc⟩,_,rfl,_,rfl,_,rfl,_,rfl,rfl,_,rfl,?_⟩;have fin:∀dd:Addr,dn i=dd->([V.str Ts[i].name,.str Ts[i].sort,.ref dd].length<=sizeLine/\∀p,Hc p=none->∃d ys v,V.ref D=.ref d/\[V.ref p]=[v]/\(L2.upd Hc p (.tup [.str Ts[i].name,.str Ts[i].sort,.ref dd])) d=some (.lst ys)/\ys.length<sizeLine ∧
     ∃(rs:List Addr) (u4 u5 u6:Option V),[some (.ref f),some (.str z),some (.ref cd),some (.ref D),some (.str Ts[i].name),some (.str Ts[i].sort),some (.ref ds[i])]=[some (.ref f),some (.str z),some (.ref cd),some (.ref D),u4,u5,u6]/\Sl D H2 (L2.upd (L2.upd Hc p (.tup [.str Ts[i].name,.str Ts[i].sort,.ref dd])) d (.lst (ys++[v])))/\(L2.upd (L2.upd Hc p (.tup [.str Ts[i].name,.str Ts[i].sort,.ref dd])) d (.lst (ys++[v]))) D=some (.lst (rs.map V.ref))/\rs.length=i+1/\∀(j:Nat) (e:Addr) (T:Tb),rs[j]? =some e->Ts[j]? =some T->(L2.upd (L2.upd Hc p (.tup [.str Ts[i].name,.str Ts[i].sort,.ref dd])) d (.lst (ys++[v]))) e=some (.tup [.str T.name,.str T.sort,.ref (dn j)])):=by
    intro dd edd;refine⟨(by show 3<=sizeLine;decide),fun p hp=>?_⟩;have T5:=a0k.upd (o:=.tup [.str Ts[i].name,.str Ts[i].sort,.ref dd]) hp;have hD5:=T5 _ _ hDc;have pD:p≠D:=fun q=>by rw[q,hDc] at hp;cases hp
    refine⟨D,_,_,rfl,rfl,hD5,by rw[lM0,hrl,sizeLine_eq];omega,rs++[p],_,_,_,rfl,sl.put T5,by rw[a0b,mA0];rfl,by rw[lA0,hrl];rfl,fun j e T a1 a2=>?_⟩
    by_cases hj:j<rs.length
    ·rw[gL0 hj] at a1
     have he:=hent j e T a1 a2;rw[a0f (fun q=>by rw[q,hDc] at he;cases he)];exact T5 _ _ he
    ·have hj':j=rs.length:=by
      have:=(gS0.mp a1).1
      rw[lA0] at this;simp at this
      omega
     subst hj';rw[gR0 (nR0 _),Nat.sub_self] at a1;cases a1;rw[hrl,gE0 hit] at a2;cases a2;rw[a0f pD,a0b,hrl,edd]
   refine b0S (fun hc=>?_) (fun hc=>?_)
   ·have en:Ts[i].name=z:=by
     have:=of_decide_eq_true hc
     injection this
    exact⟨_,rfl,fin cd (by rw[edn,if_pos en])⟩
   ·have en:¬Ts[i].name=z:=fun e=>hc (by rw[e];exact dT0 rfl)
    exact⟨_,rfl,fin ds[i] (by rw[edn,if_neg en])⟩
  ·rintro σ Hc ⟨rs,u4,u5,u6,rfl,sl,hDc,hrl,hent⟩
   rw[lM0] at hrl;have SC:a0k H Hc:=fun b o e=>sl b o (fun q=>by rw[q,hD] at e;cases e) (S2 b o e);refine⟨_,rfl,_,_,0,_,rfl,rfl,SqT.of (SC _ _ h1),rfl,_,rfl,?_⟩;have part:∀{j:Nat} {e:Addr} {T:Tb},rs[j]? =some e->Ts[j]? =some T->¬T.name=z->a1s Hc e (dn j) T:=fun {j e T} a1 a2 n=>by
    have hjt:j<Ts.length:=(gS0.mp a2).1;have hje:j<es.length:=by omega
    have hjd:j<ds.length:=by omega
    have pt:=hpt j es[j] ds[j] T (gE0 hje) (gE0 hjd) a2;have edn:dn j=ds[j]:=by
     show(if (Ts.map (fun T:Tb=>T.name)).getD j ("":Str)=z then cd else ds.getD j 0)=_
     rw[List.getD_eq_getElem?_getD,List.getD_eq_getElem?_getD,gM0,a2,gE0 hjd];exact if_neg n
    refine⟨hent j e T a1 a2,?_,(co T (gI0 a2)).same SC⟩;rw[edn];exact sl _ _ (fun q=>by have:=pt.2.1;rw[q,hD2] at this;cases this) pt.2.1
   have dnz:∀{j:Nat} {T:Tb},Ts[j]? =some T->T.name=z->dn j=cd:=fun {j T} a2 n=>by
    show(if (Ts.map (fun T:Tb=>T.name)).getD j ("":Str)=z then cd else ds.getD j 0)=_
    rw[List.getD_eq_getElem?_getD,gM0,a2];exact if_pos n
   have nmX:(U.map (rc z cols)).map nmS=U.map nmS:=by
    rw[mC0];exact List.map_congr_left fun T _=>b4g z cols T
   refine⟨D,sz,rs,(List.range rs.length).map dn,rc z cols (cn T0),U.map (rc z cols),rfl,fk.sz1,⟨hDc,?_,?_,fun j e d T a1 a2 a3=>?_⟩,tsU.perm (b4g z cols (cn T0)) (by rw[nmX]),tab.same SC,fun f' H' V sb fr tb pV hr hf=>?_⟩
   ·rw[hrl,e1l,<-eTs]
    simp
   ·rw[lM0,List.length_range,hrl,e1l,<-eTs]
    simp
   ·have hjr:j<rs.length:=(gS0.mp a1).1
    rw[gM0,List.getElem?_range hjr] at a2;cases a2;have a3':(Ts.map (rc z cols))[j]? =some T:=by rw[<-eTs];exact a3
    rw[gM0] at a3';obtain⟨T',hT',rfl⟩:=Option.map_eq_some_iff.mp a3'
    by_cases n:T'.name=z
    ·have hrc:rc z cols T'=⟨T'.name,T'.sort,cols⟩:=if_pos n
     rw[hrc];refine⟨hent j e T' a1 hT',?_,hco.same SC⟩;rw[dnz hT' n];exact SC _ _ hcd
    ·have hrc:rc z cols T'=T':=if_neg n
     rw[hrc];exact part a1 hT' n
   ·refine q f' H' (SC.sb.trans sb) (fun b o nb e=>fr b o nb (SC b o e)) tb (FAt.of hf (b4m z cols T0) pV ?_ hr)
    have:((R.map cn).map (rc z cols)).map cn=(R.map (rc z cols)).map cn:=by
     rw[mC0,mC0,mC0];exact List.map_congr_left fun T _=>b4m z cols T
    rw[<-this];exact(hU.map _).map _
def nz (z:Str)(T:Tb):Bool:=decide (T.name≠z)
def a3H (PF:Addr):Sp:=fun vs H Q _=>∃(f:Addr) (sz:Int) (T0:Tb) (R:List Tb) (z:Str),vs=[.ref f,.str z]/\FK H f sz T0 R/\a2v PF a3n foQ H ∧
  z∈R.map (·.name)/\∀f' H',Sb H H'->Fr PF H H'->a2v PF a3n foQ H'->FAt H' f' sz T0 (R.filter (nz z))->Q (.ref f') H'
def PP (H:Hp)(es ds:List Addr)(Ts:List Tb):Prop:=es.length=Ts.length/\ds.length=Ts.length/\∀(j:Nat) (e d:Addr) (T:Tb),es[j]? =some e->ds[j]? =some d->Ts[j]? =some T->a1s H e d T
theorem PP.snoc {H:Hp}{p cd:Addr}{es ds:List Addr}{Ts:List Tb}{T:Tb}(h:PP H es ds Ts)(hp:a1s H p cd T):PP H (es++[p]) (ds++[cd]) (Ts++[T]):=by
 obtain⟨h2,h3,h4⟩:=h;refine⟨by rw[lA0,lA0,h2];rfl,by rw[lA0,lA0,h3];rfl,fun j e d T' a b c=>?_⟩
 by_cases hj:j<Ts.length
 ·rw[gL0 (by omega)] at a b c
  exact h4 j e d T' a b c
 ·have:j=Ts.length:=by
   have:=(gS0.mp c).1
   rw[lA0] at this;simp at this
   omega
  subst this;rw[gR0 (by omega),h2,Nat.sub_self] at a;rw[gR0 (by omega),h3,Nat.sub_self] at b;rw[gR0 (by omega),Nat.sub_self] at c;cases a;cases b;cases c;exact hp
theorem PP.map {H H':Hp}{es ds:List Addr}{Ts:List Tb}(h:PP H es ds Ts)(k:∀e d T,a1s H e d T->a1s H' e d T):PP H' es ds Ts:=⟨h.1,h.2.1,fun j e d T a b c=>k e d T (h.2.2 j e d T a b c)⟩
theorem a9W.filter {T0:Tb}{R:List Tb}(h:a9W T0 R)(p:Tb->Bool):a9W T0 (R.filter p):=by
 obtain⟨h7,nd,hn,hh,hs⟩:=h;have sl:(R.filter p).Sublist R:=List.filter_sublist;refine⟨Nat.le_trans sl.length_le h7,nd.sublist ((sl.cons₂ T0).map _),fun T hT=>?_,hh,fun T hT=>hs T (sl.subset hT)⟩;exact hn T ((sl.cons₂ T0).subset hT)
theorem a7X {fself fF fP fT:Addr}{fd fdF fdP fdT:FuncData}(F:Fun K "without_table" "without_table" (top 30) fself fd)(DF:Df K mg "form_of" (top 18) fF fdF)(GF:a0y P w K mg base CX0 6 fF fdF ["size","tables"] (a5o PF))(DP:Df K mg "parts_of" (top 27) fP fdP)(GP:a0y P w K mg base CX0 1 fP fdP ["form"] a3S)
  (DT:Df K mg "table_in" (top 26) fT fdT) (GT:a0y P w K mg base CX0 1 fT fdT ["form","table"] a3b) :
  a0y P w K mg base CX0 7 fself fd ["form","name"] (a3H PF):=by
 have sc:a0o ["form","name"] ["form","name"] (a0e (top 30)):=.k (by decide +kernel);have bF:=DF.fn.b2 "size" "tables" (by intros;rfl);have bP:=DP.fn.b1 "form" (by intros;rfl);have bT:=DT.fn.b2 "form" "table" (by intros;rfl);refine F.ok sc (fun vs H Q E h=>?_) (fun cdv A outer s H vs Q E hr h=>?_)
 ·obtain⟨f,sz,T0,R,z,rfl,_⟩:=h
  rfl
 ·obtain⟨f,sz,T0,R,z,rfl,fk,tab,hzR,q⟩:=h
  have hr1:a1q 1 _:=hr.mono (by decide);refine⟨_,a0d (a0U (a0j GT hr1 (by rfl) DT.mg DT.fn.kp bT .nil a0u (a0a (pv 0) (a0a (pv 1) a0c))))
   (a0h (a0s (a0j GF hr (by rfl) DF.mg DF.fn.kp bF .nil a0u (a0a (a0x a1o (pv 0) a0g (fun _ _=>rfl)) (a0a (a1j (osc:=a0e (top 30)) (N0:=["form","name"]) (xs:=["part"]) (fr:=[1]) ⟨rfl,by decide +kernel,by decide +kernel,by decide +kernel,(fun j hj=>by
       have e:j=1:=by simpa using hj
       subst e;exact⟨_,rfl,by decide +kernel⟩),by decide +kernel⟩ rfl rfl rfl (a1D (a0j GP hr1 (by rfl) DP.mg DP.fn.kp bP .nil a0u (a0a (pv 0) a0c)))
      (fun s H fp=>a0q (i:=0) (show(["part","name"]:List Str).Nodup by decide +kernel) rfl (Or.inl rfl)) (fun s H fp=>b2e (a0z a4j (a0x (r:=b3g K) a1o (pv 0) a0g (fun _ _=>rfl)) (pv 1) (a0B _)))
      (fun s H fp=>pv 0)) a0c))))),?_⟩
  obtain⟨U,hF,hU,fx,co,t8,tsU,eU⟩:=fk.get;have hF1:=hF;obtain⟨tt,es0,h1,_⟩:=hF1;have pN:=a3t (T0:=T0) hU;refine⟨_,rfl,_,rfl,?_⟩;have hz:z∈(T0::R).map (·.name):=by
   rw[mN0];exact mL0 _ hzR
  obtain⟨Tz,hTz,eTz⟩:=mM0.mp (pN.mem_iff.mpr hz);refine⟨f,sz,cn T0::U,Tz,(by rw[eTz];rfl),hF,tsU.2.1,hTz,fun e _=>?_⟩;refine⟨_,rfl,_,_,0,_,rfl,rfl,SqT.of h1,rfl,?_⟩;refine⟨_,rfl,f,sz,cn T0::U,rfl,hF,fx,co,t8,fun l es ds H2 s2 nl hP=>?_⟩;generalize eTs:(cn T0::U)=Ts at *;obtain⟨hl,e1l,e2l,hpt⟩:=id hP;refine⟨l,rfl,⟨_,SqL.of hl⟩,fun D hD=>?_⟩;refine a8V Ts.length (fun i ys σ' Hc=>(∃t,σ'=[t,some (.str z)])/\a0k H2 Hc/\∃es' ds':List Addr,ys=es'.map V.ref/\PP Hc es' ds' ((Ts.take i).filter (nz z))) (by rw[sizeLine_eq];omega) ⟨⟨_,rfl⟩,a0k.upd hD,[],[],rfl,rfl,rfl,fun j e d T h=>nomatch h⟩ a0b ?_ ?_
  ·rintro i σ' Hc ys hi ⟨⟨t,rfl⟩,sm,es',ds',rfl,pp⟩ hD'
   have hie:i<es.length:=by omega
   have hid:i<ds.length:=by omega
   have pt:=hpt i es[i] ds[i] Ts[i] (gE0 hie) (gE0 hid) (gE0 hi);have etk:Ts.take (i+1)=Ts.take i++[Ts[i]]:=by rw[List.take_add_one,gE0 hi];rfl
   refine⟨⟨_,V.ref es[i],SqL.of (sm _ _ hl),by rw[gM0,gE0 hie];rfl⟩,?_⟩;rintro x H' ⟨rfl,hx'⟩;have ex:=hx' _ (SqL.of (sm _ _ hl));rw[gM0,gE0 hie] at ex;cases ex;refine⟨_,rfl,_,_,0,_,rfl,rfl,SqT.of (sm _ _ pt.1),rfl,_,rfl,rfl,_,rfl,?_⟩;refine b0S (fun hc=>?_) (fun hc=>?_)
   ·have n:nz z Ts[i]=true:=by
     unfold nz;refine dT0 fun e=>?_;rw[e,dT0 rfl] at hc;cases hc
    refine⟨_,rfl,hD',⟨_,rfl⟩,sm.put hD,es'++[es[i]],ds'++[ds[i]],by rw[mA0];rfl,?_⟩;rw[etk,List.filter_append,show[Ts[i]].filter (nz z)=[Ts[i]] from by rw[List.filter_cons_of_pos n];rfl];exact(pp.snoc (pt.same sm)).map fun e d T h=>a1s.besideL hD' h
   ·have n:nz z Ts[i]=false:=by
     unfold nz;refine dF0 fun e=>hc ?_;rw[dF0 (fun q=>e (by injection q))]
     rfl
    refine⟨hD',⟨_,rfl⟩,sm,es',ds',rfl,?_⟩;rw[etk,List.filter_append,show[Ts[i]].filter (nz z)=[] from by rw[List.filter_cons_of_neg (by rw[n];decide)];rfl,List.append_nil];exact pp
  ·rintro σ' Hc ys ⟨_,sm,es',ds',rfl,pp⟩ hDc
   refine⟨⟨_,SqL.of (sm _ _ hl),by rw[lM0];omega⟩,?_⟩;rw[List.take_length] at pp;have SC:=s2.trans sm;have nd:=tsU.2.1;rw[mN0] at nd;have n0:¬T0.name=z:=fun e=>by
    have hn:=fk.ts.2.1;rw[mN0] at hn;exact(List.nodup_cons.mp hn).1 (by rw[e];exact hzR)
   have eF:Ts.filter (nz z)=cn T0::U.filter (nz z):=by
    rw[<-eTs,List.filter_cons_of_pos (by unfold nz;exact dT0 n0)]
   rw[eF] at pp;refine⟨D,sz,es',ds',cn T0,U.filter (nz z),rfl,fk.sz1,⟨hDc,pp⟩,tsU.filter _,tab.same SC,fun f' H' V sb fr tb pV hr hf=>?_⟩;refine q f' H' (SC.sb.trans sb) (fun b o nb e=>fr b o nb (SC b o e)) tb (FAt.of hf (a7U T0) pV ?_ hr);have e1:((R.map cn).filter (nz z)).map cn=(R.filter (nz z)).map cn:=by
    rw[List.filter_map,mC0,show(nz z∘cn)=nz z from rfl];exact List.map_congr_left fun T _=>a7U T
   rw[<-e1];exact(hU.filter _).map _
end
end My
namespace L2
open PySem PySem.Spec PyProof.Rows
section
variable {X:Cx}
theorem a5R:a1e X (.builtin "len") (fun xs H Q=>∃a kvs,xs=[V.ref a]/\Rd H a (.dK kvs)/\Q (.int kvs.length) H):=by
 intro pins s σ H xs us Q I r h;obtain⟨a,kvs,rfl,ha,q⟩:=h;obtain⟨u,rfl,rx⟩:=a2b r;cases rx;exact b5e I ha fun t s' J=>⟨.int kvs.length,H,J,⟨t,rfl⟩,q⟩
theorem a2g:a1e X (.builtin "isinstance") (fun xs H Q=>∃a kvs n b,xs=[V.ref a,.ty n]/\Rd H a (.dK kvs)/\PySem.W.kitOne X.K (.type "dict") (.type n)=some b/\Q (.bl b) H):=by
 intro pins s σ H xs us Q I r h;obtain⟨a,kvs,n,b,rfl,ha,e,q⟩:=h;obtain⟨u,w',rfl,rx,rc⟩:=a9S r;cases rx
 cases(show w'=Value.type n from rc)
 obtain⟨_,_,vs,_,o,es,ep,h1,h2,_⟩:=a4c I.hok ha;exact PySem.W.kia_one PySem.W.kitx_dict I.kIn ⟨o,h1,h2.1⟩ e (fun z=>nomatch z) fun tk=>⟨.bl b,H,I.tok tk,rfl,q⟩
def b4U (t:TS):TS:=fun D σ H=>∃a kvs,Rd H a (.dK kvs)/\(∀o,H a=some (.frz o (.dK kvs))->t D σ H)/\(H a=some (.dK kvs)->∀o,t (b5S a o kvs D) σ (upd H a (.frz o (.dK kvs))))
theorem b2m {st:Stmt}{t:TS}(h:PS X st t):PS X st (b4U t):=by
 intro pins s σ H D I hq;obtain⟨a,kvs,rd,h1,h2⟩:=hq;rcases rd with e |⟨o,e⟩
 ·exact a5F h pins s σ H D I ⟨a,kvs,e,h2 e⟩
 ·exact h pins s σ H D I (h1 o e)
end
inductive Lq (H:Hp):Nat->V->V->Prop
 |non {n:Nat}:Lq H n .non .non
 |bl {n:Nat} {b:Bool}:Lq H n (.bl b) (.bl b)
 |int {n:Nat} {i:Int}:Lq H n (.int i) (.int i)
 |str {n:Nat} {z:Str}:Lq H n (.str z) (.str z)
 |tup {n:Nat} {a b:Addr} {xs ys:List V} (ha:Rd H a (.tup xs)) (hb:Rd H b (.tup ys)) (hl:xs.length=ys.length) (h:∀(i:Nat) (x y:V),xs[i]? =some x->ys[i]? =some y->Lq H n x y):Lq H (n+1) (.ref a) (.ref b)
 |lst {n:Nat} {a b:Addr} {xs ys:List V} (ha:H a=some (.lst xs)) (hb:H b=some (.lst ys)) (hl:xs.length=ys.length) (h:∀(i:Nat) (x y:V),xs[i]? =some x->ys[i]? =some y->Lq H n x y):Lq H (n+1) (.ref a) (.ref b)
 |dct {n:Nat} {a b:Addr} {kvs kws:List (Key×V)} (f:Key->V) (ha:Rd H a (.dK kvs)) (hb:Rd H b (.dK kws)) (hl:kvs.length=kws.length)
   (hf:∀(k:Key) (v:V),(k,v)∈kws->a1U kvs k=some (f k)) (hg:∀(k:Key) (v:V),(k,v)∈kws->a1U kws k=some v) (h:∀(k:Key) (v:V),(k,v)∈kws->Lq H n (f k) v):Lq H (n+1) (.ref a) (.ref b)
theorem Rd.same {H H':Hp}(s:a0k H H'){a:Addr}{u:HO}(r:Rd H a u):Rd H' a u:=by
 rcases r with e |⟨o,e⟩
 ·exact .inl (s _ _ e)
 ·exact .inr ⟨o,s _ _ e⟩
theorem Lq.same {H H':Hp}(s:a0k H H'){n:Nat}{x y:V}(h:Lq H n x y):Lq H' n x y:=by
 induction h with
 |non=>exact .non
 |bl=>exact .bl
 |int=>exact .int
 |str=>exact .str
 |tup ha hb hl _ ih=>exact .tup (ha.same s) (hb.same s) hl ih
 |lst ha hb hl _ ih=>exact .lst (s _ _ ha) (s _ _ hb) hl ih
 |dct f ha hb hl hf hg _ ih=>exact .dct f (ha.same s) (hb.same s) hl hf hg ih
theorem Rd.frz {H:Hp}{a c:Addr}{o:Obj}{kvs:List (Key×V)}(e:H a=some (.dK kvs)){kws:List (Key×V)}(r:Rd H c (.dK kws)):Rd (upd H a (.frz o (.dK kvs))) c (.dK kws):=by
 by_cases z:c=a
 ·subst z
  rcases r with q |⟨o',q⟩
  ·rw[e] at q
   cases q;exact .inr ⟨o,a0b⟩
  ·rw[e] at q
   cases q
 ·rcases r with q |⟨o',q⟩
  ·exact .inl ((a0f z).trans q)
  ·exact .inr ⟨o',(a0f z).trans q⟩
theorem Lq.frz {H:Hp}{a:Addr}{o:Obj}{kvs:List (Key×V)}(e:H a=some (.dK kvs)){n:Nat}{x y:V}(h:Lq H n x y):Lq (upd H a (.frz o (.dK kvs))) n x y:=by
 have ne:∀b u,H b=some u->u≠.dK kvs->upd H a (.frz o (.dK kvs)) b=some u:=fun b u q n=>(a0f fun z=>by rw[z,e] at q;cases q;exact n rfl).trans q;have nr:∀b xs,Rd H b (.tup xs)->Rd (upd H a (.frz o (.dK kvs))) b (.tup xs):=fun b xs r=>by
  rcases r with q |⟨o',q⟩
  ·exact .inl (ne b _ q (by simp))
  ·exact .inr ⟨o',ne b _ q (by simp)⟩
 induction h with
 |non=>exact .non
 |bl=>exact .bl
 |int=>exact .int
 |str=>exact .str
 |tup ha hb hl _ ih=>exact .tup (nr _ _ ha) (nr _ _ hb) hl ih
 |lst ha hb hl _ ih=>exact .lst (ne _ _ ha (by simp)) (ne _ _ hb (by simp)) hl ih
 |dct f ha hb hl hf hg _ ih=>exact .dct f (ha.frz e) (hb.frz e) hl hf hg ih
structure b2Y (K:Fg0) (x qual:Str) (st:Stmt) (f:Addr) (fd:FuncData):Prop where
 ex:∃(oc:Value) (od:Option Addr) (dV kV doc pm:Value) (an:Option Addr) (cdv ct:Value) (osl:Array (Option Value)),
  fd=PySem.W.fnOf x qual (a0T st) (a0H st) (a0e st) dV kV doc pm an cdv ct/\K.lookup f=some ⟨oc,od,.func fd,osl⟩/\PySem.W.codeIn K cdv qual=true
 kp:PySem.W.keepIn K (.ref f)=true
theorem b1P {K:Fg0}{x qual:Str}{st:Stmt}{f:Addr}{oc:Value}{od an:Option Addr}{osl:Array (Option Value)}{dV kV doc pm cdv ct:Value}(l:K.lookup f=some ⟨oc,od,.func (PySem.W.fnOf x qual (a0T st) (a0H st) (a0e st) dV kV doc pm an cdv ct),osl⟩)
  (c:PySem.W.codeIn K cdv qual=true) (k:PySem.W.keepIn K (.ref f)=true):b2Y K x qual st f (PySem.W.fnOf x qual (a0T st) (a0H st) (a0e st) dV kV doc pm an cdv ct):=⟨⟨oc,od,dV,kV,doc,pm,an,cdv,ct,osl,rfl,l,c⟩,k⟩
section
variable {P:Program}{w:World}{K:Fg0}{mg:Str->Option Value}{base:Heap}
theorem b2Y.ok {x qual:Str}{st:Stmt}{f:Addr}{fd:FuncData}{N ps:List Str}{k:Nat}{sp:Sp}(F:b2Y K x qual st f fd)(S:a0o N ps (a0e st))(len:∀vs H Q E,sp vs H Q E->vs.length=ps.length)
  (hbody:∀(cdv:Value) (A:Around) (outer:List Env) (s:Shared) (H:Hp) (vs:List V) (Q:VK) (E:XK),a1q k (A.deeper (envOfC qual (a0e st) s.heap.objs.size f cdv))->sp vs H Q E →
   ∃t,PSs (a6b CX0 P w K mg base N qual (a0e st) f cdv A outer s H E).nox (a0H st) t/\t { nx:=fun _ H'=>Q .non H',rt:=Q } (a2W N vs) H):a0y P w K mg base CX0 (k+1) f fd ps sp:=by
 obtain⟨oc,od,dV,kV,doc,pm,an,cdv,ct,osl,rfl,lk,hcd⟩:=F.ex;refine b2x lk hcd S len fun A outer s H vs Q E hr hsp=>?_;obtain⟨t,h,q⟩:=hbody cdv A outer s H vs Q E hr hsp;exact⟨t,h.nox,q⟩
end
structure ZL (h:Heap) (z TI TO i1 i2 a b:Addr) (k:Nat):Prop where
 zp:IsZip h z TI TO .none
 ti:IsPair h TI (.ref i1) (.ref i2)
 to:∃u v,IsPair h TO u v
 j1:h.IsListIter i1 a k
 j2:h.IsListIter i2 b k
def ItY (K:Fg0)(a b:Addr):It:=
 ⟨fun i H=>∃xs ys x y,SqL K H a xs/\SqL K H b ys/\xs[i]? =some x/\ys[i]? =some y,fun i H x H'=>∃u v p,(∀xs ys,SqL K H a xs->SqL K H b ys->xs[i]? =some u/\ys[i]? =some v)/\x=.ref p/\H p=none/\H'=upd H p (.tup [u,v]),fun i H=>∃xs ys,SqL K H a xs/\SqL K H b ys/\xs.length<=i⟩
theorem a8w {P:Program}{w:World}{K:Fg0}{es:List Expr}{x1:Nat}{tp:Pos}(a b z TI TO i1 i2:Addr)(D:ZipApart z TI TO i1 i2 a b):a9U P w K (.Tuple es x1 tp) (ItY K a b) [z,TI,TO,i1,i2] z (fun i h=>ZL h z TI TO i1 i2 a b i) where
 mem:=by simp
 obj:=fun i h st c hc=>by
  obtain⟨s1,s2,⟨u,v,s3⟩,s4,s5⟩:=st;simp only[mK0,List.not_mem_nil,or_false] at hc;rcases hc with q |q |q |q |q
  ·subst q;exact⟨_,s1,fun v z=>by cases z⟩
  ·subst q;exact⟨_,s2,fun v z=>by cases z⟩
  ·subst q;exact⟨_,s3,fun v z=>by cases z⟩
  ·subst q;obtain⟨o,e,_,d⟩:=s4;exact⟨o,e,fun v z=>by rw[d] at z;cases z⟩
  ·subst q;obtain⟨o,e,_,d⟩:=s5;exact⟨o,e,fun v z=>by rw[d] at z;cases z⟩
 keep:=fun i h h' st k=>by
  obtain⟨s1,s2,⟨u,v,s3⟩,⟨o4,e4,r4⟩,⟨o5,e5,r5⟩⟩:=st;exact⟨k z (by simp) _ s1,k TI (by simp) _ s2,⟨u,v,k TO (by simp) _ s3⟩,⟨o4,k i1 (by simp) _ e4,r4⟩,⟨o5,k i2 (by simp) _ e5,r5⟩⟩
 item:=by
  intro X hP hw hK hc i pins s σ H E I hf st hg;subst hP hw hK;obtain⟨s1,s2,s3,s4,s5⟩:=st;obtain⟨xs,ys,x,y,hq1,hq2,hx,hy⟩:=hg;obtain⟨its,rv,p,hz⟩:=I.list hq1;obtain⟨jts,rw',p',hz'⟩:=I.list hq2;obtain⟨u,hu,ru⟩:=rv.get hx;obtain⟨v,hv,rv'⟩:=rw'.get hy;obtain⟨t3a,t3b,t3⟩:=id s3;refine wpAny_pyNext_zip_item D s1 s2 t3 s4 s5 p.isList p'.isList (x:=u) (y:=v) (by simpa using hu) (by simpa using hv) fun h' z1 z3 z4 z5 ht hsz kp=>?_;refine⟨_,rfl,?_⟩;refine wpAny_letOwnedTupleGo_zip (s:={ s with heap:=h' }) z1 fun h'' zp'' sb=>?_;have zlt:z<s.heap.objs.size:=hL0 s1;have kp2:∀c o,c∉[z,TI,TO,i1,i2]->s.heap.get? c=some o->h''.get? c=some o:=fun c o hc e=>by
   simp only[mK0,List.not_mem_nil,or_false,not_or] at hc;exact(sb.2 c hc.1).trans (kp c o hc.1 hc.2.2.1 hc.2.2.2.1 hc.2.2.2.2 e)
  have I1:Inv X pins σ H { s with heap:=h'' }:=I.turnedL (t':=s.toks) kp2 hf;have hp:H s.heap.objs.size=none:=I.hok.fresh (nR0 _);have e2:h''.get? s.heap.objs.size=some { cls:=.type "tuple",data:=.seq #[u,v] }:=(sb.2 _ (Nat.ne_of_gt zlt)).trans ht;have I2:Inv X pins σ (upd H s.heap.objs.size (.tup [x,y])) { s with heap:=h'' }:=I1.track (I.our (nR0 _)) ⟨(show 2<=sizeLine by decide),[u,v],.cons ru (.cons rv' .nil),⟨_,e2,rfl,_,rfl⟩⟩;refine⟨.ref s.heap.objs.size,_,I2,rfl,⟨x,y,_,fun ws us h1 h2=>?_,rfl,hp,rfl⟩,?_,fun c hc=>?_⟩
  ·rw[I.list_inj h1 hq1,I.list_inj h2 hq2]
   exact⟨hx,hy⟩
  ·have up:∀c o,c≠z->h'.get? c=some o->h''.get? c=some o:=fun c o hc e=>(sb.2 c hc).trans e
   obtain⟨o4,e4,r4⟩:=z4;obtain⟨o5,e5,r5⟩:=z5;exact⟨zp'',up _ _ D.TIz (kp _ _ D.TIz D.TITO D.TIi1 D.TIi2 s2),⟨_,_,up _ _ D.TOz z3⟩,⟨o4,up _ _ D.i1z e4,r4⟩,⟨o5,up _ _ D.i2z e5,r5⟩⟩
  ·obtain⟨f0,_⟩:=hf c hc
   rw[a0f fun q=>?_]
   ·exact f0
   ·have lt:∀c o,s.heap.get? c=some o->c≠s.heap.objs.size:=fun c o e=>nL0 (hL0 e)
    obtain⟨q3a,q3b,q3⟩:=s3;obtain⟨o4,e4,_⟩:=s4;obtain⟨o5,e5,_⟩:=s5;simp only[mK0,List.not_mem_nil,or_false] at hc;rcases hc with r |r |r |r |r
    ·exact lt z _ s1 (r▸q)
    ·exact lt TI _ s2 (r▸q)
    ·exact lt TO _ q3 (r▸q)
    ·exact lt i1 _ e4 (r▸q)
    ·exact lt i2 _ e5 (r▸q)
 done:=by
  intro X hP hw hK hc i pins s σ H E I hf st hg;subst hP hw hK;obtain⟨s1,s2,s3,s4,s5⟩:=st;obtain⟨xs,ys,hq1,hq2,hx⟩:=hg;obtain⟨its,rv,p,hz⟩:=I.list hq1;obtain⟨jts,rw',p',hz'⟩:=I.list hq2;have hl:=rv.length;obtain⟨t3a,t3b,t3⟩:=id s3;refine wpAny_pyNext_zip_end (I.ok.hd hc) D s1 s2 t3 s4 s5 p.isList p'.isList (.inl (by simp;omega)) fun h' kp=>⟨rfl,I.turnedL (t':=s.toks) (fun c o hc e=>?_) hf⟩;simp only[mK0,List.not_mem_nil,or_false,not_or] at hc;exact kp c o hc.1 hc.2.2.1 hc.2.2.2.1 hc.2.2.2.2 e
 self:=fun A i s Q E st h=>wpAny_pyIter_zip st.zp h
section
variable {X:Cx}
def b5F (K:Fg0)(ta:TA):TI:=fun σ H R=>ta σ H fun vs H1=>∃a b,vs=[.ref a,.ref b]/\(∃xs,SqL K H1 a xs)/\(∃ys,SqL K H1 b ys)/\R (ItY K a b) H1
theorem b2M {es:List Expr}{x1:Nat}{tp:Pos}{l m:Expr}{ta:TA}{p pos:Pos}(hg:Gl X "zip")(hm:X.mg "zip"=none)(ha:PA X [l,m] ta)(hs:starEach [l,m] X.env=(false,eval l X.env)::starEach [m] X.env:=by rfl)(hpl:(backTo pos (starEach [m] X.env)).any (·.1)=false:=by rfl) :
  PI X (.Tuple es x1 tp) (.Call (.Name "zip" p) [l,m] [] pos) (b5F X.K ta):=by
 intro pins s σ H R I h;refine Call_ (a3P I hg hm boot_zip (PyProof.Rows.callWith_type1 (thn (ha pos pins s σ H _ I h) fun us s1 ⟨vs,H1,I1,r1,q1⟩=>?_) hs hpl));obtain⟨a,b,e,⟨xs,hq1⟩,⟨ys,hq2⟩,q⟩:=q1;subst e;obtain⟨u,v,rfl,rx,ry⟩:=a9S r1;cases rx;cases ry;obtain⟨its,rv,p1,hz⟩:=I1.list hq1;obtain⟨jts,rw',p2,hz'⟩:=I1.list hq2;have la:a<s1.heap.objs.size:=by obtain⟨o,e,_⟩:=p1.isList;exact hL0 e
 have lb:b<s1.heap.objs.size:=by obtain⟨o,e,_⟩:=p2.isList;exact hL0 e
 have D:ZipApart (s1.heap.objs.size+4) (s1.heap.objs.size+2) (s1.heap.objs.size+3) s1.heap.objs.size (s1.heap.objs.size+1) a b:=by
  generalize s1.heap.objs.size=n at la lb
  constructor<;>(intro z;simp only[Addr] at *;omega)
 refine call_zip_2 p1.isList p2.isList fun h' z1 z2 z3 z4 z5 hsz hk=>?_;have I2:Inv X pins σ H1 { s1 with heap:=h' }:=I1.kept (t':=s1.toks) hk;refine wpAny_pyIter_zip (s:={ s1 with heap:=h' }) z1 ?_;refine⟨s1.heap.objs.size+4,[s1.heap.objs.size+4,s1.heap.objs.size+2,s1.heap.objs.size+3,s1.heap.objs.size,s1.heap.objs.size+1],_,_,H1,rfl,I2,a8w a b _ _ _ _ _ D,⟨z1,z2,⟨_,_,z3⟩,z4,z5⟩,fun c hc=>?_,q⟩;have nb:s1.heap.objs.size<=c:=by
  simp only[mK0,List.not_mem_nil,or_false] at hc;rcases hc with r |r |r |r |r<;>(rw[r];first |exact nR0 _ |exact Nat.le_add_right _ _)
 exact I1.fpOk nb (I1.hok.fresh nb)
theorem b0T {K:Fg0}{a b:Addr}{xs ys:List V}{g:TG}{tb:TS}{D:a5Y}{σ:St}{H:Hp}(Pv:Nat->St->Hp->Prop)(hlen:xs.length=ys.length)(h0:Pv 0 σ H)(hl:∀i σ H,i<=xs.length->Pv i σ H->SqL K H a xs/\SqL K H b ys)
  (hs:∀i x y p σ H,xs[i]? =some x->ys[i]? =some y->Pv i σ H->H p=none->g (.ref p) σ (upd H p (.tup [x,y])) fun σ2 H2=>tb { D with nx:=Pv (i+1),ct:=Pv (i+1),bk:=D.nx } σ2 H2) (hd:∀σ H,Pv xs.length σ H->D.nx σ H) :
  ∃W:Nat->Nat->St->Hp->Prop,(∃m,W 0 m σ H)/\∀i m σ H,W i m σ H →
   ((ItY K a b).stop i H/\D.nx σ H)\/((ItY K a b).go i H/\∃N:St->Hp->Prop,(∀σ' H',N σ' H'->∃m',m'<m/\W (i+1) m' σ' H')/\∀x H',(ItY K a b).yld i H x H'->g x σ H' fun σ2 H2=>tb { D with nx:=N,ct:=N,bk:=D.nx } σ2 H2):=by
 refine⟨fun i m σ H=>m=xs.length-i/\i<=xs.length/\Pv i σ H,⟨xs.length,by simp,zL0 _,h0⟩,?_⟩;rintro i m σ H ⟨rfl,hi,p⟩;obtain⟨q1,q2⟩:=hl i σ H hi p
 by_cases hlt:i<xs.length
 ·have hlt2:i<ys.length:=by omega
  refine .inr ⟨⟨xs,ys,xs[i],ys[i],q1,q2,by simp[hlt],by simp[hlt2]⟩,Pv (i+1),fun σ' H' p'=>⟨xs.length-(i+1),by omega,rfl,hlt,p'⟩,fun x H' y=>?_⟩;obtain⟨u,v,pa,hk,ex,hn,e⟩:=y;subst e ex;exact hs i u v pa σ H (hk xs ys q1 q2).1 (hk xs ys q1 q2).2 p hn
 ·have e:i=xs.length:=by omega
  subst e;exact .inl ⟨⟨xs,ys,q1,q2,nR0 _⟩,hd σ H p⟩
end
theorem a3N {H H1:Hp}{a:Addr}{o:Obj}{kvs:List (Key×V)}(hc:H a=some (.dK kvs))(e:a0k (L2.upd H a (.frz o (.dK kvs))) H1):a0k H (L2.upd H1 a (.dK kvs)):=fun b u hb=>by
 by_cases eb:b=a
 ·subst eb
  rw[hc] at hb;rw[<-hb];exact a0b
 ·rw[a0f eb]
  exact e b u (by rw[a0f eb];exact hb)
end L2
namespace L2
open PySem PySem.Spec PyProof.Rows PySem.Builtin PySem.Builtin.Dict
end L2
namespace L2
open PySem PySem.Spec PyProof.Rows
section
variable {X:Cx}{pins:List (Addr×Obj)}{σ:St}{H H':Hp}{s:Shared}{h':Heap}
theorem Inv.laidM {t':Nat}(I:Inv X pins σ H s)(k:∀b u,s.heap.get? b=some u->h'.get? b=some u)(old:∀b u,s.heap.get? b=some u->H' b=H b)(new:∀b u,H' b=some u->s.heap.get? b=none->a1f X.prog X.w H' h' b u):Inv X pins σ H' { s with heap:=h',toks:=t' }:=by
 have oldH:∀b u,H b=some u->H' b=some u:=fun b u q=>by
  obtain⟨ob,e⟩:=(I.hok b u q).there;rw[old b ob e];exact q
 refine I.un ⟨fun b u q _ _ _=>k b u q,fun b u q _ _ _=>⟨u.slots,k b u q⟩,fun b u q n _=>by rw[old b u q];exact n,fun b u q _=>⟨u,k b u q⟩,
  fun b xs q=>oldH _ _ q,fun b u xs q=>oldH _ _ q,fun b ps q=>⟨#[],by rw[oldH _ _ q];simp⟩⟩ fun b u q=>?_
 cases e:s.heap.get? b with
 |none=>exact new b u q e
 |some ob=>
  rw[old b ob e] at q;exact(I.hok b u q).stay (fun c v _ r=>k c v r) (fun c r=>oldH _ _ r) fun c xs r=>oldH _ _ r
end
theorem b1E:∀{as:List Addr} {j:Nat} {a:Addr},as.Nodup->as[j]? =some a->as.idxOf a=j
 |[],_,_,_,h=>by simp at h
 |b::r,0,a,nd,h=>by
  have e:b=a:=by simpa using h
  subst e;exact List.idxOf_cons_self
 |b::r,j+1,a,nd,h=>by
  have h':r[j]? =some a:=by simpa using h
  have ne:¬b=a:=fun e=>(List.nodup_cons.mp nd).1 (by rw[e];exact gI0 h');have nb:(b==a)=false:=by simpa using ne
  rw[List.idxOf_cons,nb,b1E (List.nodup_cons.mp nd).2 h']
  rfl
def vwP (p d:Addr)(h:Heap):Prop:=h.IsItemsView p d
section
variable {X:Cx}
theorem a7v:MtR X "dict.items" (fun x xs H Q=>∃a kvs,x=.ref a/\xs=[]/\Rd H a (.dK kvs)/\∀p,H p=none->Q (.ref p) (upd H p (.ext (vwP p a)))):=by
 intro pins s σ H x xs v us Q I rx r h;obtain⟨a,kvs,rfl,rfl,e,q⟩:=h;cases rx;have hus:=r.zero;subst hus;obtain⟨_,lo,vs,kv,dd⟩:=e.ok I.hok;refine call_meetsIn F.slot_dict_items dd.typeIs F.entry_dict_items (F.args_dict_items_1 _) (meets_dict_items (a0n X.prog X.w) a lo) ⟨⟨vs,dd⟩,?_⟩;have hv:vwP s.heap.objs.size a (s.heap.push { cls:=.type "dict_items",data:=.fields #[.ref a] }):=⟨_,hS0 _ rfl,rfl,rfl⟩;refine⟨.ref s.heap.objs.size,_,I.laid (t':=s.toks) (o:=.ext (vwP s.heap.objs.size a)) (fun b ob e'=>hP0 _ e') (nR0 _) ⟨hv,?_,fun h1 h2 x k=>?_⟩,rfl,q _ (I.hok.fresh (nR0 _))⟩
 ·obtain⟨o,ho,_⟩:=hv
  exact⟨o,ho⟩
 ·obtain⟨o,ho,r⟩:=x
  exact⟨o,k o ho,r⟩
def itH (H:Hp)(l:Addr)(o:HO)(as:List Addr)(kvs:List (Key×V)):Hp:=fun b=>if b=l then some o else if b∈as then some (.tup [kV (kvs.getD (as.idxOf b) (.inl 0,.non)).1,(kvs.getD (as.idxOf b) (.inl 0,.non)).2]) else H b
theorem a2R (hc:X.calm=true):a1e X (.builtin "sorted") (fun xs H Q=>∃(p d:Addr) (kvs:List (Key×V)) (zs:List Str),xs=[.ref p]/\H p=some (.ext (vwP p d))/\Rd H d (.dK kvs)/\kvs.map (·.1)=zs.map Sum.inr/\zs.Nodup/\zs.length<64 ∧
  ∀(l:Addr) (as:List Addr) (ix:List Nat) (H':Hp),H l=none->(∀a∈as,H a=none)->l∉as->as.Nodup->as.length=kvs.length->a0k H H'->(∀(j:Nat) (a:Addr) (k:Key) (v:V),as[j]? =some a->kvs[j]? =some (k,v)->H' a=some (.tup [kV k,v])) →
   ix.Perm (List.range as.length)->a5Z (ix.map fun i=>zs.getD i "")->H' l=some (.lst ((ix.map fun i=>as.getD i 0).map V.ref))->Q (.ref l) H'):=by
 intro pins s σ H xs us Q I r h;obtain⟨p,d,kvs,zs,rfl,hp,hq,hz,nd,h64,q⟩:=h;obtain⟨u,rfl,rx⟩:=a2b r;cases rx;obtain⟨hlen,lo,vs,kv,dd⟩:=hq.ok I.hok;obtain⟨ep,da⟩:=dd.dictAt;obtain⟨hv,_⟩:=I.hok p _ hp;have hl:=kv.len;have hl2:kvs.length=zs.length:=by simpa using congrArg List.length hz
 refine Calls.call_function_entry kind_sorted plain_sorted entry_sorted (args_sorted1 _) ?_;unfold Builtin.«sorted»;refine wB0 (m:=checkCount "sorted" 1 1 _) (wP0 ?_);refine wB0 (PySem.W.kdx_collect (knd:=a0n X.prog X.w) (kvs:=vs) (ep:=ep) (I.ok.hd hc) hv da (by rw[<-hl];exact hlen) fun h' tk as hk hal hG=>?_);have hal':(as.map Value.ref).length=zs.length:=by rw[lM0,hal,<-hl,hl2]
 refine wB0 (wpAny_newList ?_ (by rw[hal',<-hl2];exact hlen));have hoL:(h'.push (seqObj "list" (as.map Value.ref).toArray 0)).get? h'.objs.size=some (seqObj "list" (as.map Value.ref).toArray 0):=hS0 _ rfl;have ta:Srt.TA1 (h'.push (seqObj "list" (as.map Value.ref).toArray 0)) (as.map Value.ref) zs:=⟨hal',fun i z e=>by
  have hi:i<zs.length:=(gS0.mp e).1;have hia:i<as.length:=by rw[lM0] at hal';omega
  obtain⟨key,k,x,e1,e2,e3⟩:=hG.pairs i as[i] (gE0 hia);have hk':=a6T kv e1;rw[hz,gM0,e] at hk';have ek:Sum.inr z=k:=by simpa using hk'
  subst ek;obtain⟨t,rfl⟩:=a7I e2;exact⟨as[i],_,t,[x],0,by rw[gM0,gE0 hia];rfl,hP0 _ e3,rfl,rfl⟩⟩
 refine wB0 (wpAny_holding (wpAny_call_entry slot_list_sort ⟨_,hoL,rfl⟩ entry_list_sort (Srt.a4Q (s:={ s with heap:=h'.push (seqObj "list" (as.map Value.ref).toArray 0),toks:=tk }) (zs:=zs) hoL ta nd (by rw[hal'];exact h64) fun p' pn up=>⟨_,rfl,?_⟩) (args_list_sort _)));have hndA:as.Nodup:=hG.rise.imp fun h=>nL0 h;have hltA:∀a∈as,a<h'.objs.size:=fun a ha=>hG.there ha;have hlA:h'.objs.size∉as:=fun hm=>Nat.lt_irrefl _ (hltA _ hm);have hgA:∀a∈as,s.heap.get? a=none:=fun a ha=>by
  cases e:s.heap.get? a with
  |none=>rfl
  |some ob=>exact absurd (hL0 e) (Nat.lt_asymm (hG.above a ha))
 have hnL:s.heap.get? h'.objs.size=none:=by
  cases e:s.heap.get? h'.objs.size with
  |none=>rfl
  |some ob=>exact absurd (hL0 (hk _ _ e)) (Nat.lt_irrefl _)
 obtain⟨e,he⟩:=sortedHeap_at (out:=List.toArray (p'.toList.map fun i=>(as.map Value.ref).getD i Value.none)) hoL;have keep:∀b ob,h'.get? b=some ob->(sortedHeap (h'.push (seqObj "list" (as.map Value.ref).toArray 0)) h'.objs.size (as.map Value.ref) (List.toArray (p'.toList.map fun i=>(as.map Value.ref).getD i Value.none))).get? b=some ob:=fun b ob q'=>by
  have hlt:=hL0 q';rw[sortedHeap_old (nL0 hlt) (by rw[size_push'];exact Nat.lt_succ_of_lt hlt)];exact hP0 _ q'
 have la:as.length=kvs.length:=by rw[hal,<-hl]
 have lt:∀i∈p'.toList,i<as.length:=fun i hi=>by
  have:=List.mem_range.mp (pn.mem_iff.mp hi)
  rwa [lM0] at this
 have ev:(p'.toList.map fun i=>as.getD i 0).map V.ref=p'.toList.map fun i=>(as.map V.ref).getD i .non:=by
  rw[mC0];apply List.map_congr_left;intro i hi;have h1:=lt i hi;simp[List.getD_eq_getElem?_getD,h1]
 have hs:=pn.size;have rr:∀{bs:List Addr},a0V (bs.map V.ref) (bs.map Value.ref):=fun {bs}=>by
  induction bs with
  |nil=>exact .nil
  |cons b r ih=>exact .cons rfl ih
 have at_:∀(j:Nat) (a:Addr) (k:Key) (v:V),as[j]? =some a->kvs[j]? =some (k,v)->itH H h'.objs.size (.lst ((p'.toList.map fun i=>as.getD i 0).map V.ref)) as kvs a=some (.tup [kV k,v]):=fun j a k v h1 h2=>by
  have hm:=gI0 h1;unfold itH;rw[if_neg (nL0 (hltA a hm)),if_pos hm,b1E hndA h1,List.getD_eq_getElem?_getD,h2]
  rfl
 have oldI:∀b u,s.heap.get? b=some u->itH H h'.objs.size (.lst ((p'.toList.map fun i=>as.getD i 0).map V.ref)) as kvs b=H b:=fun b u e=>by
  unfold itH;rw[if_neg (fun z=>by rw[z,hnL] at e;cases e),if_neg (fun z=>by rw[hgA b z] at e;cases e)]
 refine wP0 ⟨_,rfl,.ref h'.objs.size,itH H h'.objs.size (.lst ((p'.toList.map fun i=>as.getD i 0).map V.ref)) as kvs,I.laidM (t':=tk) (fun b ob e=>keep b ob (hk b ob e)) oldI fun b u hu hn=>?_,rfl,
  q _ as p'.toList _ (I.none_at hnL) (fun a ha=>I.none_at (hgA a ha)) hlA hndA la (fun b u hb=>?_) at_ (by have:=pn;unfold Srt.PN at this;rw[lM0] at this;exact this) ?_ (by unfold itH;rw[if_pos rfl])⟩
 ·by_cases hbl:b=h'.objs.size
  ·subst hbl
   unfold itH at hu;rw[if_pos rfl] at hu;cases hu;refine⟨?_,_,e,?_,he⟩
   ·rw[lM0,lM0,aL0,hs,lM0,la]
    exact hlen
   ·rw[ev]
    exact a4C rr _ fun i hi=>by rw[lM0];exact lt i hi
  ·by_cases hba:b∈as
   ·obtain⟨j,hj⟩:=List.getElem?_of_mem hba
    obtain⟨key,k,x,e1,e2,e3⟩:=hG.pairs j b hj;obtain⟨v,e4,rv⟩:=a5a kv e1;rw[at_ j b k v hj e4] at hu;cases hu;exact⟨by show 2<=sizeLine;decide,[key,x],.cons (a7I e2) (.cons rv .nil),_,keep _ _ e3,rfl,0,rfl⟩
   ·unfold itH at hu
    rw[if_neg hbl,if_neg hba] at hu;obtain⟨ob,z⟩:=(I.hok b u hu).there;rw[hn] at z;cases z
 ·obtain⟨ob,z⟩:=(I.hok b u hb).there
  rw[oldI b ob z];exact hb
 ·unfold a5Z
  rw[List.pairwise_map,List.pairwise_iff_getElem];intro i j hi hj hij;have hi':i<p'.size:=by simpa using hi
  have hj':j<p'.size:=by simpa using hj
  have h0:=up i j (by omega) (by omega);unfold Srt.rz at h0;rw[decide_eq_false_iff_not,Srt.a2j hi',Srt.a2j hj'] at h0;rw[Array.getElem_toList,Array.getElem_toList];exact h0
def flt:V->Bool
 | .non=>true
 | .bl _=>true
 | .int _=>true
 | .str _=>true
 |_=>false
theorem a9d {zs:List Str}{vs:List V}{i:Nat}:(zs.zipWith (fun z v=>((Sum.inr z:Key),v)) vs)[i]? =match zs[i]?,vs[i]? with |some z,some v=>some (.inr z,v) |_,_=>none:=by
 rw[List.getElem?_zipWith];cases zs[i]?<;>cases vs[i]?<;>rfl
theorem b3k {zs:List Str}{vs:List V}(h:vs.length=zs.length):(zs.zipWith (fun z v=>((Sum.inr z:Key),v)) vs).length=zs.length:=by
 rw[List.length_zipWith];omega
theorem b3s {zs:List Str}{vs:List V}{k:Key}{v:V}(h:(k,v)∈zs.zipWith (fun z v=>((Sum.inr z:Key),v)) vs):∃(i:Nat) (z:Str),zs[i]? =some z/\vs[i]? =some v/\k=.inr z:=by
 obtain⟨i,hi⟩:=List.getElem?_of_mem h;rw[a9d] at hi;cases h1:zs[i]? with
 |none=>rw[h1] at hi;cases hi
 |some z=>
  cases h2:vs[i]? with
  |none=>rw[h1,h2] at hi;cases hi
  |some u=>
   rw[h1,h2] at hi
   injection hi with hi
   injection hi with e1 e2
   exact⟨i,z,h1,by rw[h2,e2],e1.symm⟩
def del (H:Hp)(c:Addr):Hp:=fun b=>if b=c then none else H b
theorem a3p {H:Hp}{c:Addr}:del H c c=none:=if_pos rfl
theorem a2y {H:Hp}{b c:Addr}(h:b≠c):del H c b=H b:=if_neg h
def b3v (t:TS):TS:=fun D σ H=>∃R:St->Hp->Prop,t { D with nx:=R } σ H/\∀σ' H',R σ' H'->D.nx σ' H'
theorem a4Z {X:Cx}{st:Stmt}{t:TS}(h:PS X st t):PS X st (b3v t):=by
 intro pins s σ H D I hq;obtain⟨R,h1,h2⟩:=hq;refine thn (h pins s σ H _ I h1) fun f s' hs=>?_;cases f with
 |next=>obtain⟨σ',H',I',z⟩:=hs;exact⟨σ',H',I',h2 _ _ z⟩
 |brk=>exact hs
 |cont=>exact hs
 |ret u=>exact hs
theorem b3P (hu:X.A.units<cLine):OpR X (compareOp .Eq) (fun x y H Q=>∃(p b:Addr) (xs:List V),x=.ref p/\y=.ref b/\SqL X.K H p xs/\SqL X.K H b []/\Q (.bl (decide (xs.length=0))) H):=by
 intro pins s σ H x y v u Q I rx ry h;obtain⟨p,b,xs,rfl,rfl,hp,hb,q⟩:=h;cases rx;cases ry;obtain⟨its,r1,pl,_⟩:=I.list hp;obtain⟨jts,r2,ql,_⟩:=I.list hb;have l1:xs.length=its.length:=r1.length;have l2:([]:List V).length=jts.length:=r2.length
 by_cases hl:its.length=jts.length
 ·refine SeqAt.eq_listAt (e:=fun _=>true) pl.isList ql.isList (by simpa using hl) hu (fun j g1 g2=>?_) ?_
  ·have g2':j<jts.length:=by simpa using g2
   rw[<-l2] at g2';exact absurd g2' (Nat.not_lt_zero _)
  ·have e:((List.range its.toArray.size).all fun _=>true)=decide (xs.length=0):=by
    rw[dT0 (show xs.length=0 by rw[l1,hl,<-l2];rfl)];simp
   rw[e];exact⟨.bl _,H,I,rfl,q⟩
 ·refine SeqAt.eq_list_lengthsAt pl.isList ql.isList (by simpa using hl) hu ⟨.bl (decide (xs.length=0)),H,I,?_,q⟩
  have:¬xs.length=0:=fun e=>hl (by rw[<-l1,<-l2,e];rfl)
  rw[dF0 this]
  rfl
end
end L2
namespace My
open PySem L2 PyProof.Rows
seal L2.PE L2.PT L2.PW L2.PS L2.PSs L2.PA L2.PI L2.PG L2.PGs L2.OpR L2.a1e L2.IxR L2.SlR L2.MtR L2.PIf L2.PO L2.MtM L2.PC L2.a7F
def cel (ns:List Int)(k:Int):Int:=if k<ns.length then ns.getD k.toNat 0 else if ns.length=0 then k * 48271%65537 else ns.getD (k%ns.length).toNat 0 * 48271%2147483647+7919 * k
def b4u (K:Fg0):Sp:=fun vs H Q _=>∃(a:Addr) (ns:List Int) (k:Int),vs=[.ref a,.int k]/\SqL K H a (ns.map V.int)/\0<=k/\k<=1000000/\ns.length<=63/\∀H':Hp,a0k H H'->Q (.int (cel ns k)) H'
def b2X:Str:="abcdefghijklmnopqrstuvwxyz"
def nmC (fi st at_ k:Int)(n:Nat):List Nat:=(List.range n).map fun(j:Nat)=>b0C (if (0+(j:Int))=at_ then fi+(0+(j:Int)) * st+k else fi+(0+(j:Int)) * st)
theorem a9v {fi st at_ k:Int}{n:Nat}:(nmC fi st at_ k n).length=n:=by unfold nmC;rw[lM0,List.length_range]
theorem b2q {fi st at_ k k':Int}{n:Nat}(h0:0<=at_)(h1:at_<n)(e:nmC fi st at_ k n=nmC fi st at_ k' n):(fi+(0+at_) * st+k)%26=(fi+(0+at_) * st+k')%26:=by
 obtain⟨j,rfl⟩:=Int.eq_ofNat_of_zero_le h0;have hj:j<n:=by omega
 have g:=congrArg (fun l:List Nat=>l[j]?) e;simp only[nmC,gM0,List.getElem?_range hj,Option.map_some] at g;have g':=Option.some.inj g;rw[if_pos (by omega),if_pos (by omega)] at g';exact a9X g'
def a9l:Sp:=fun vs H Q _=>∃c m:Int,vs=[.int c,.int m]/\0<=m/\m<=12/\∀(l:Addr) (zs:List Str) (H':Hp),a0k H H'->H l=none->H' l=some (.lst (zs.map V.str))->(zs.length:Int)=m->zs.Nodup->(∀z∈zs,a1C z=true)->Q (.ref l) H'
theorem a2U {H H1:Hp}{p:Addr}{o:HO}(s:a0k H H1)(h:H p=none):a0k H (upd H1 p o):=fun b u e=>by
 rw[a0f (a0C e h)];exact s _ _ e
theorem b0Y {fi st at_ k:Int}{n:Nat}:nmC fi st at_ k (n+1)=nmC fi st at_ k n++[b0C (if (0+(n:Int))=at_ then fi+(0+(n:Int)) * st+k else fi+(0+(n:Int)) * st)]:=by
 unfold nmC;rw[List.range_succ,mA0]
 rfl
section
variable {P:Program}{w:World}{K:Fg0}{mg:Str->Option Value}{base:Heap}
theorem a6k {f:Addr}{fd:FuncData}(F:Fun K "_law_cell" "_law_cell" (top 43) f fd)(B:Bl mg):a0y P w K mg base CX0 1 f fd ["_law_script","_law_k"] (b4u K):=by
 have sc:a0o ["_law_script","_law_k"] ["_law_script","_law_k"] (a0e (top 43)):=.k (by decide +kernel);refine F.ok sc (fun vs H Q E h=>?_) (fun cdv A outer s H vs Q E hr h=>?_)
 ·obtain⟨a,ns,k,rfl,_⟩:=h
  rfl
 ·obtain⟨a,ns,k,rfl,hS,h0,h1,h63,q⟩:=h
  have hl:(ns.map V.int).length=ns.length:=lM0 ..;have hu:_+1<cLine:=a2o hr;refine⟨_,a0d (a0F (a0z b3i (pv 1) (a0i a0K (by rfl) B.len PySem.boot_len (a0a (pv 0) a0c)) (a0B _)) (a0h (a0s (a0x a0r (pv 0) (pv 1) (fun _ _=>rfl)))) a0m)
   (a0d (a0F (a0z (b3P (Nat.lt_of_succ_lt hu)) (pv 0) (a1S a0c) (a0B _)) (a0h (a0s (a0A a1c (a0A a2S (pv 1) a0g) a0g))) a0m)
   (a0h (a0s (a0A a2p (a0A a1c (a0A a2S (a0x a0r (pv 0) (a0A a1c (pv 1) (a0i a0K (by rfl) B.len PySem.boot_len (a0a (pv 0) a0c))) (fun _ _=>rfl)) a0g) a0g) (a0A a2S a0g (pv 1)))))),?_⟩
  refine⟨_,rfl,_,rfl,_,_,rfl,.inl hS,_,_,rfl,rfl,_,rfl,?_⟩;refine b0S (fun c=>?_) (fun c=>?_)
  ·have c':k<ns.length:=by rw[<-hl];exact of_decide_eq_true c
   exact⟨_,rfl,_,rfl,_,_,_,_,rfl,rfl,hS,a5s h0 c',(by have:=q _ (a0k.refl H);unfold cel at this;rw[if_pos c'] at this;exact this)⟩
  ·have nc:¬k<ns.length:=fun e=>c (dT0 (by rw[hl];exact e))
   refine⟨_,rfl,zL0 _,fun p hp=>?_⟩;have s1:a0k H (upd H p (.lst [])):=a0k.upd hp;refine⟨_,_,_,rfl,rfl,s1.seq hS,SqL.of a0b,_,rfl,?_⟩;refine b0S (fun c2=>?_) (fun c2=>?_)
   ·exact⟨_,rfl,_,_,rfl,rfl,.inr ⟨by decide,by decide⟩,_,_,rfl,rfl,(pos rfl),(by have:=q _ s1;unfold cel at this;rw[if_neg nc,if_pos (by rw[<-hl];exact of_decide_eq_true c2)] at this;exact this)⟩
   ·have c3:(0:Int)<ns.length:=by
     have:¬(ns.map V.int).length=0:=fun e=>c2 (dT0 e)
     rw[hl] at this
     omega
    have m0:0<=k%(ns.length:Int):=Int.emod_nonneg _ (by omega);have m1:k%(ns.length:Int)<ns.length:=Int.emod_lt_of_pos _ c3;exact⟨_,rfl,_,rfl,_,rfl,_,_,rfl,.inl (s1.seq hS),_,_,rfl,rfl,(by rw[hl];exact c3),_,_,_,_,rfl,rfl,s1.seq hS,(by rw[hl];exact a5s m0 m1),_,_,rfl,rfl,.inr ⟨by decide,by decide⟩,_,_,rfl,rfl,(pos rfl),_,rfl,_,_,rfl,rfl,.inl ⟨by decide,by decide⟩,_,_,rfl,rfl,(by have:=q _ s1;unfold cel at this;rw[if_neg nc,if_neg (by omega)] at this;exact this)⟩
theorem b0r {f:Addr}{fd:FuncData}(F:Fun K "_law_names" "_law_names" (top 44) f fd)(B:Bl mg):a0y P w K mg base CX0 1 f fd ["_law_cell_here","_law_many"] a9l:=by
 have sc:a0o ["_law_cell_here","_law_many","_law_letters","_law_long","_law_at","_law_names_here","_law_k","_law_name","_law_j","_law_step"] ["_law_cell_here","_law_many"] (a0e (top 44)):=.k (by decide +kernel);refine F.ok sc (fun vs H Q E h=>?_) (fun cdv A outer s H vs Q E hr h=>?_)
 ·obtain⟨c,m,rfl,_⟩:=h
  rfl
 ·obtain⟨c,m,rfl,m0,m12,q⟩:=h
  refine⟨_,a0d (a0w (i:=2) sc.nd rfl (Or.inl rfl) a0M)
   (a0d (a0w (i:=3) sc.nd rfl (Or.inl rfl) (a0A a2p a0g (a0A a1c (pv 0) a0g)))
   (a0d (a0w (i:=4) sc.nd rfl (Or.inl rfl) (a0A a1c (a0A a1w (pv 0) a0g) (pv 3)))
   (a0d (a0w (i:=5) sc.nd rfl (Or.inl rfl) (a1S a0c))
   (a0d (a1A PassesOwn.never rfl (a1J rfl B.range (a0a (pv 1) a0c)) (a0q (i:=6) sc.nd rfl (Or.inl rfl))
    (a0d (a0w (i:=7) sc.nd rfl (Or.inl rfl) a0M)
    (a0d (a1A PassesOwn.never rfl (a1J rfl B.range (a0a (pv 3) a0c)) (a0q (i:=8) sc.nd rfl (Or.inl rfl))
     (a0d (a0w (i:=9) sc.nd rfl (Or.inl rfl) (a0A a2p (a0A a1w (pv 0) a0g) (a0A a2S (pv 8) (a0A a1w (pv 0) a0g))))
     (a0d (a4Z (a0F (a0z a2l (pv 8) (pv 4) (a0B _)) (a0h (a0w (i:=9) sc.nd rfl (Or.inl rfl) (a0A a2p (pv 9) (pv 6)))) a0m))
     (a0h (a0w (i:=7) sc.nd rfl (Or.inl rfl) (a0A a2Z (pv 7) (a0x a8o (pv 2) (a0A a1c (pv 9) a0g) (fun _ _=>rfl))))))))
    (a0h (a0U (a4A PySem.F.plainAttrs_list PySem.F.slot_list_append PySem.F.type_list_append a7D (pv 5) (a0a (pv 7) a0c)))))))
   (a0h (a0s (pv 5))))))),?_⟩
  have l0:=Int.emod_nonneg c (show(8:Int)≠0 by decide);have l8:=Int.emod_lt_of_pos c (show(0:Int)<8 by decide);refine⟨_,rfl,_,_,rfl,rfl,(pos rfl),_,_,rfl,rfl,?_⟩;have lp:(0:Int)<1+c%8:=by omega
  refine⟨_,rfl,_,_,rfl,rfl,⟨by decide,by decide⟩,_,rfl,_,_,rfl,rfl,lp,?_⟩;have a0:=Int.emod_nonneg (c/8) (show(1+c%8:Int)≠0 by omega);have a9:=Int.emod_lt_of_pos (c/8) lp;refine⟨zL0 _,fun l hl=>?_⟩;have T1:=a0k.upd (o:=.lst []) hl;have e1:=a0b (H:=H) (a:=l) (o:=.lst []);show b5H _ _ _ [some (.int c),some (.int m),some (.str b2X),some (.int (1+c%8)),some (.int (c/8%(1+c%8))),some (.ref l),none,none,none,none] _;generalize upd H l (.lst [])=H1 at *;generalize c/8%(1+c%8)=at_ at *;generalize hln:1+c%8=ln at *;have abz:b2X.length<=sizeLine:=by decide +kernel
  obtain⟨nL,hnL⟩:=Int.eq_ofNat_of_zero_le (show 0<=ln by omega);refine⟨_,rfl,_,rfl,(by omega),(by omega),a3Z (fun i σ H'=>a0k H H'/\(∃u8 u9 u10 u11,σ=[some (.int c),some (.int m),some (.str b2X),some (.int ln),some (.int at_),some (.ref l),u8,u9,u10,u11])/\∃zs:List Str,H' l=some (.lst (zs.map V.str))/\zs.length=i/\∀(j:Nat) (z:Str),zs[j]? =some z->z.cps.toList=nmC (c/64) (c/1664) at_ (0+(j:Int)) nL) ⟨T1,⟨_,_,_,_,rfl⟩,[],e1,rfl,fun j z h=>nomatch h⟩ ?_ ?_⟩
  ·rintro i σ H' hi ⟨sm,⟨u8,u9,u10,u11,rfl⟩,zs,g1,g2,g3⟩
   refine⟨_,rfl,_,rfl,(by omega),(by omega),a3Z (fun j σ H2=>H2=H'/\∃(z:Str) (u10 u11:Option V),σ=[some (.int c),some (.int m),some (.str b2X),some (.int ln),some (.int at_),some (.ref l),some (.int (0+(i:Int))),some (.str z),u10,u11]/\z.cps.toList=nmC (c/64) (c/1664) at_ (0+(i:Int)) j) ⟨rfl,"",_,_,rfl,rfl⟩ ?_ ?_⟩
   ·rintro j σ H2 hj ⟨rfl,z,v10,v11,rfl,hz⟩
    refine⟨_,rfl,_,_,rfl,rfl,⟨by decide,by decide⟩,_,rfl,_,rfl,_,_,rfl,rfl,⟨by decide,by decide⟩,_,_,rfl,rfl,.inl ⟨by omega,by omega⟩,_,_,rfl,rfl,?_⟩;refine⟨fun σ' H3=>H3=H2/\σ'=[some (.int c),some (.int m),some (.str b2X),some (.int ln),some (.int at_),some (.ref l),some (.int (0+(i:Int))),some (.str z),some (.int (0+(j:Int))),some (.int (if (0+(j:Int))=at_ then c/64+(0+(j:Int)) * (c/1664)+(0+(i:Int)) else c/64+(0+(j:Int)) * (c/1664)))],?_,?_⟩
    ·refine⟨_,rfl,_,rfl,rfl,_,rfl,?_⟩
     by_cases hc:(0+(j:Int))=at_
     ·refine a5b (by rw[hc];exact dT0 rfl) ⟨_,rfl,_,rfl,_,_,rfl,rfl,rfl,?_⟩
      rw[if_pos hc]
      rfl
     ·refine a2q (dF0 fun e=>hc (by injection e)) ⟨rfl,?_⟩
      rw[if_neg hc]
      rfl
    rintro σ3 H3 ⟨rfl,rfl⟩;have lt:=a8D (if (0+(j:Int))=at_ then c/64+(0+(j:Int)) * (c/1664)+(0+(i:Int)) else c/64+(0+(j:Int)) * (c/1664));have zl:z.length=j:=by
     have:=congrArg List.length hz
     rw[a9v] at this;show z.cps.size=j;rw[<-aL0];exact this
    refine⟨_,rfl,_,rfl,_,rfl,_,_,rfl,rfl,(pos rfl),b2X,_,_,rfl,rfl,abz,lt.1,_,_,rfl,rfl,(by rw[sizeLine_eq];show z.length+1<=_;omega),rfl,_,_,_,rfl,?_⟩;rw[Str.cps_append,Array.toList_append,hz,b0Y]
   ·rintro σ H2 ⟨rfl,z,v10,v11,rfl,hz⟩
    refine⟨_,rfl,.inl ⟨rfl,_,SqL.of g1⟩,_,rfl,l,_,_,rfl,rfl,g1,(by rw[lM0,sizeLine_eq];omega),?_⟩;refine⟨a2U sm hl,⟨_,_,_,_,rfl⟩,zs++[z],by rw[a0b,mA0];rfl,by rw[lA0,g2];rfl,fun j z' hj=>?_⟩
    by_cases hjl:j<zs.length
    ·rw[gL0 hjl] at hj
     exact g3 j z' hj
    ·have e:j=zs.length:=by
      have:=(gS0.mp hj).1
      rw[lA0] at this;simp at this
      omega
     subst e;rw[gR0 (nR0 _),Nat.sub_self] at hj;cases hj;rw[g2];have en:ln.toNat=nL:=by rw[hnL];simp
     rw[en] at hz;exact hz
  ·rintro σ H' ⟨sm,⟨u8,u9,u10,u11,rfl⟩,zs,g1,g2,g3⟩
   refine⟨_,rfl,q l zs H' sm hl g1 (by omega) ?_ fun z hz=>?_⟩
   ·rw[List.nodup_iff_pairwise_ne,List.pairwise_iff_getElem]
    intro i j hi hj hij e;have h1:=g3 i zs[i] (gE0 hi);have h2:=g3 j zs[j] (gE0 hj);rw[e,h2] at h1
    have:=b2q a0 (by omega) h1
    omega
   ·obtain⟨j,hj⟩:=List.getElem?_of_mem hz
    have:=congrArg List.length (g3 j z hj)
    rw[a9v] at this;have zl:z.length=nL:=by
     show z.cps.size=nL;rw[<-aL0];exact this
    refine b0X (fun x hx=>?_) (by omega) (by omega);rw[g3 j z hj] at hx;obtain⟨k,_,rfl⟩:=mM0.mp hx;exact(a8D _).2
end
end My
namespace L2
open PySem PySem.Spec PyProof.Rows
section
variable {X:Cx}{k:Nat}{f:Addr}{fd:FuncData}{ps:List Str}{sp:SpW}{x:Str}{p pos:Pos}{e:Expr}{es:List Expr}{t:TA}
theorem a8d {zc:Str}{j j2:Nat}{cp cp2 apos cpos:Pos}(F:a7H 0 X.prog X.w X.K X.mg X.base k f fd ps sp)(hr:a1q k X.A)(hg:Gl X x)(hm:X.mg x=some (.ref f))(hk:PySem.W.keepIn X.K (.ref f)=true)(hb:a1Z X.K fd ps [])(ha:PA X (e::es) t)(hz:(zc==(⟨#[]⟩:Str))=false)
  (hdb:(x==("__debug__":Str))=false:=by decide) (he:starEach (e::es) X.env=(false,eval e X.env)::starEach es X.env:=by rfl) (hpl:(backTo pos (starEach es X.env)).any (·.1)=false:=by rfl)
  (hbase:attributeBase (.Call (.Name x p) (e::es) [] pos) "replace" X.env (eval (.Call (.Name x p) (e::es) [] pos) X.env)=eval (.Call (.Name x p) (e::es) [] pos) X.env:=by rfl)
  (hfew:((backTo cpos (starEach [.Constant (.str zc) j cp,.Constant (.str "") j2 cp2] X.env)).all (fun x=>!x.1)&&(backToKw cpos (keywordEach [] X.env)).all (fun x=>x.1.isSome)
   && decide (([.Constant (.str zc) j cp,.Constant (.str "") j2 cp2]:List Expr).length+([]:List Keyword).length+(if ([]:List Keyword).isEmpty then 0 else 1)<30))=true:=by rfl)
  (hline:(apos.endLine==cpos.line)=true:=by rfl)
  (hse:starEach [.Constant (.str zc) j cp,.Constant (.str "") j2 cp2] X.env=[(false,eval (.Constant (.str zc) j cp) X.env),(false,eval (.Constant (.str "") j2 cp2) X.env)]:=by rfl) :
  PE X (.Call (.Attribute (.Call (.Name x p) (e::es) [] pos) "replace" apos) [.Constant (.str zc) j cp,.Constant (.str "") j2 cp2] [] cpos) (fun σ H Q=>t σ H fun vs H1=>sp vs H1 fun _ tk v H2=>1<=tk/\∃w,v=.str w/\w.length<=1048576/\Q (.str (Txt.replace w zc ⟨#[]⟩)) H2):=by
 intro pins s σ H Q I h;refine wpAny_Call_method_late hbase hfew hline rfl (thn (b0O F hr hg hm hk hb ha (zL0 _) I h hdb he hpl) fun v s1 ⟨x,H1,I1,r1,h1,w,e2,hw,q⟩=>?_);subst e2;obtain⟨tw,rfl⟩:=r1;refine⟨"str","str.replace",PySem.F.plainAttrs_str,PySem.F.slot_str_replace,PySem.F.type_str_replace,typeIs_str _ _ _,(fun _ e=>nomatch e),?_⟩;rw[hse];refine Calls.callWith_builtin rfl (Calls.evalArgs_plain ?_);show wpAny _ _ (spliced [(false,eval (.Constant (.str zc) j cp) X.env),(false,eval (.Constant (.str "") j2 cp2) X.env)]) _ _ s1;refine Calls.spliced_cons (wpAny_Constant_str (Calls.spliced_cons (wpAny_Constant_str (Calls.spliced_nil ?_))));exact SC.replaceW (Nat.ne_of_gt h1) (Nat.succ_ne_zero _) (nL0 (Nat.lt_succ_self _)) hz hw (by decide) fun t' k=>⟨.str (Txt.replace w zc ⟨#[]⟩),H1,((I1.tok _).tok _).tok k,⟨t',rfl⟩,q⟩
end
end L2
namespace My
open PySem L2 PyProof.Rows
seal L2.PE L2.PT L2.PW L2.PS L2.PSs L2.PA L2.PI L2.PG L2.PGs L2.OpR L2.a1e L2.IxR L2.SlR L2.MtR L2.PIf L2.PO L2.MtM L2.PC L2.a7F
theorem b5x:∀l:List Nat,(l.map fun _=>1).sum=l.length
 |[]=>rfl
 |_::l=>by rw[mN0,List.sum_cons,b5x l,List.length_cons,Nat.add_comm]
def sgA:Str:=" !\"#$&'()*+,-./0123456789:;<=>?@ABCDEFGHIJKLMNOPQRSTUVWXYZ[\\]^_`"
def sgB:Str:="abcdefghijklmnopqrstuvwxyz{|}~"
def sgN (i:Int):Nat:=((sgA++sgB).cps.toList[(i%94).toNat]?).getD 0
theorem b3I:(sgA++sgB).cps.toList.length=94:=by decide +kernel
theorem b1g (i:Int):atI (sgA++sgB).cps.toList (i%94)=some (sgN i):=by
 have h0:=Int.emod_nonneg i (show(94:Int)≠0 by decide);have h1:=Int.emod_lt_of_pos i (show(0:Int)<94 by decide);obtain⟨n,hn⟩:=Int.eq_ofNat_of_zero_le h0;have hl:n<(sgA++sgB).cps.toList.length:=by rw[b3I];omega
 have e:sgN i=(sgA++sgB).cps.toList[n]:=by
  unfold sgN;rw[hn,Int.toNat_natCast,gE0 hl]
  rfl
 rw[e,hn];exact a1b (gE0 hl)
def txL (c:Int):List Str:=(List.range (c%7).toNat).map fun(k:Nat)=>(⟨#[sgN (c/7+(0+(k:Int)) * (c/658%94))]⟩:Str)
def txF (c:Int):Str:=Txt.join "" (txL c)
def b5R:Sp:=fun vs H Q _=>∃c:Int,vs=[.int c]/\∀H',a0k H H'->Q (.str (txF c)) H'
def b3O:SpW:=fun vs H Q=>∃c:Int,vs=[.int c]/\∀u k H',1<=k->a0k H H'->Q u k (.str (txF c)) H'
section
variable {P:Program}{w:World}{K:Fg0}{mg:Str->Option Value}{base:Heap}
theorem b4Z {f:Addr}{fd:FuncData}(F:Fun K "_law_text" "_law_text" (top 47) f fd)(B:Bl mg):a0y P w K mg base CX0 1 f fd ["_law_cell_here"] b5R:=by
 have sc:a0o ["_law_cell_here","_law_some"] ["_law_cell_here"] (a0e (top 47)):=.k (by decide +kernel);refine F.ok sc (fun vs H Q E h=>?_) (fun cdv A outer s H vs Q E hr h=>?_)
 ·obtain⟨c,rfl,_⟩:=h
  rfl
 ·obtain⟨c,rfl,q⟩:=h
  refine⟨_,a0d (a0w (i:=1) sc.nd rfl (Or.inr rfl) a0M) (a0d (a0w (i:=1) sc.nd rfl (Or.inr rfl) (a0A a2Z (pv 1) a0M))
   (a0h (a0s (a4A PySem.F.plainAttrs_str PySem.F.slot_str_join PySem.F.type_str_join a7x a0M (a0a
    (a1j (osc:=a0e (top 47)) (N0:=["_law_cell_here","_law_some"]) (xs:=["_law_k"]) (fr:=[0,1]) ⟨rfl,by decide +kernel,by decide +kernel,by decide +kernel,(fun j hj=>by
      have e:j=0\/j=1:=by simpa using hj
      rcases e with rfl |rfl
      ·exact⟨_,rfl,by decide +kernel⟩
      ·exact⟨_,rfl,by decide +kernel⟩),by decide +kernel⟩ rfl rfl rfl (a1J rfl B.range (a0a (a0A a1c (pv 0) a0g) a0c))
     (fun s H fp=>a0q (i:=0) (show(["_law_k","_law_cell_here","_law_some"]:List Str).Nodup by decide +kernel) rfl (Or.inl rfl)) (fun s H fp=>a1h)
     (fun s H fp=>a0x a8o (pv 2) (a0A a1c (a0A a2p (a0A a1w (pv 1) a0g) (a0A a2S (pv 0) (a0A a1c (a0A a1w (pv 1) a0g) a0g))) a0g) (fun _ _=>rfl))) a0c))))),?_⟩
  have m0:=Int.emod_nonneg c (show(7:Int)≠0 by decide);have m1:=Int.emod_lt_of_pos c (show(0:Int)<7 by decide);refine⟨_,rfl,sgA,sgB,rfl,rfl,(by decide +kernel),?_⟩;refine⟨rfl,_,rfl,_,_,rfl,rfl,(pos rfl),_,rfl,(by omega),(by omega),fun D hD=>?_⟩;have e3:((c%7).toNat:Int)=c%7:=Int.toNat_of_nonneg m0;refine a1H (c%7).toNat (fun k=>.str ⟨#[sgN (c/7+(0+(k:Int)) * (c/658%94))]⟩) (fun i σ' Hc=>(∃t,σ'=[t,some (.int c),some (.str (sgA++sgB))])/\a0k H Hc) (by rw[sizeLine_eq];omega) ⟨⟨none,rfl⟩,a0k.upd hD⟩ a0b ?_ ?_
  ·rintro i σ' Hc hi ⟨⟨t,rfl⟩,sm⟩ hDc
   refine⟨hi,?_⟩;rintro x H' ⟨rfl,rfl⟩;refine⟨_,rfl,_,rfl,_,_,rfl,rfl,⟨by decide,by decide⟩,_,rfl,_,rfl,_,_,rfl,rfl,⟨by decide,by decide⟩,_,_,rfl,rfl,(pos rfl),_,_,rfl,rfl,.inl ⟨by omega,by omega⟩,_,_,rfl,rfl,_,_,rfl,rfl,(pos rfl),sgA++sgB,_,_,rfl,rfl,(by decide +kernel),b1g _,rfl,hDc,⟨_,rfl⟩,a2U sm hD⟩
  ·rintro σ' Hc ⟨_,sm⟩ hDc
   refine⟨by show _<=_;omega,"",D,txL c,rfl,rfl,SqL.of ?_,?_,q _ sm⟩
   ·rw[hDc]
    unfold txL;rw[mC0]
    rfl
   ·have e0:("":Str).length=0:=by decide +kernel
    have e1:((txL c).map (·.length)).sum=(c%7).toNat:=by
     unfold txL;rw[mC0]
     have:((fun x:Str=>x.length)∘fun(k:Nat)=>(⟨#[sgN (c/7+(0+(k:Int)) * (c/658%94))]⟩:Str))=fun _=>1:=rfl
     rw[this,b5x,List.length_range]
    rw[e0,e1]
    omega
theorem b3q {f:Addr}{fd:FuncData}(F:Fun K "_law_text" "_law_text" (top 47) f fd)(B:Bl mg):a7H 0 P w K mg base 1 f fd ["_law_cell_here"] b3O:=by
 have sc:a0o ["_law_cell_here","_law_some"] ["_law_cell_here"] (a0e (top 47)):=.k (by decide +kernel);refine F.okW sc (fun vs H Q h=>?_) (fun cdv A outer s H vs Q s1 hr h _ I=>?_)
 ·obtain⟨c,rfl,_⟩:=h
  rfl
 ·obtain⟨c,rfl,q0⟩:=h
  refine wpAny_execs_cons (thn (a8G (i:=1) (D:={ nx:=fun σ' H'=>σ'=[some (.int c),some (.str sgA)]/\H'=H,rt:=fun _ _=>False }) I sc.nd rfl (Or.inr rfl) ⟨rfl,rfl⟩) fun fl s2 ⟨n2,h2⟩=>?_);cases fl with
  |next=>
   obtain⟨σ2,H2,I2,rfl,rfl⟩:=h2;have p2:∃t,PSs (a6b CX0 P w K mg base ["_law_cell_here","_law_some"] "_law_text" (a0e (top 47)) f cdv A outer s H2 (fun _ _ _=>False)).nox ((a0H (top 47)).drop 1) t ∧
     t { nx:=fun _ _=>False,rt:=fun v H'=>a0k H2 H'/\v=.str (txF c) } [some (.int c),some (.str sgA)] H2:=by
    have q:∀H',a0k H2 H'->(fun v H'=>a0k H2 H'/\v=V.str (txF c)) (.str (txF c)) H':=fun H' sm=>⟨sm,rfl⟩;refine⟨_,(a0d (a0w (i:=1) sc.nd rfl (Or.inr rfl) (a0A a2Z (pv 1) a0M))
     (a0h (a0s (a4A PySem.F.plainAttrs_str PySem.F.slot_str_join PySem.F.type_str_join a7x a0M (a0a
      (a1j (osc:=a0e (top 47)) (N0:=["_law_cell_here","_law_some"]) (xs:=["_law_k"]) (fr:=[0,1]) ⟨rfl,by decide +kernel,by decide +kernel,by decide +kernel,(fun j hj=>by
        have e:j=0\/j=1:=by simpa using hj
        rcases e with rfl |rfl
        ·exact⟨_,rfl,by decide +kernel⟩
        ·exact⟨_,rfl,by decide +kernel⟩),by decide +kernel⟩ rfl rfl rfl (a1J rfl B.range (a0a (a0A a1c (pv 0) a0g) a0c))
       (fun s H fp=>a0q (i:=0) (show(["_law_k","_law_cell_here","_law_some"]:List Str).Nodup by decide +kernel) rfl (Or.inl rfl)) (fun s H fp=>a1h)
       (fun s H fp=>a0x a8o (pv 2) (a0A a1c (a0A a2p (a0A a1w (pv 1) a0g) (a0A a2S (pv 0) (a0A a1c (a0A a1w (pv 1) a0g) a0g))) a0g) (fun _ _=>rfl))) a0c))))),?_⟩
    have m0:=Int.emod_nonneg c (show(7:Int)≠0 by decide);have m1:=Int.emod_lt_of_pos c (show(0:Int)<7 by decide);refine⟨_,rfl,sgA,sgB,rfl,rfl,(by decide +kernel),?_⟩;refine⟨rfl,_,rfl,_,_,rfl,rfl,(pos rfl),_,rfl,(by omega),(by omega),fun D hD=>?_⟩;have e3:((c%7).toNat:Int)=c%7:=Int.toNat_of_nonneg m0;refine a1H (c%7).toNat (fun k=>.str ⟨#[sgN (c/7+(0+(k:Int)) * (c/658%94))]⟩) (fun i σ' Hc=>(∃t,σ'=[t,some (.int c),some (.str (sgA++sgB))])/\a0k H2 Hc) (by rw[sizeLine_eq];omega) ⟨⟨none,rfl⟩,a0k.upd hD⟩ a0b ?_ ?_
    ·rintro i σ' Hc hi ⟨⟨t,rfl⟩,sm⟩ hDc
     refine⟨hi,?_⟩;rintro x H' ⟨rfl,rfl⟩;refine⟨_,rfl,_,rfl,_,_,rfl,rfl,⟨by decide,by decide⟩,_,rfl,_,rfl,_,_,rfl,rfl,⟨by decide,by decide⟩,_,_,rfl,rfl,(pos rfl),_,_,rfl,rfl,.inl ⟨by omega,by omega⟩,_,_,rfl,rfl,_,_,rfl,rfl,(pos rfl),sgA++sgB,_,_,rfl,rfl,(by decide +kernel),b1g _,rfl,hDc,⟨_,rfl⟩,a2U sm hD⟩
    ·rintro σ' Hc ⟨_,sm⟩ hDc
     refine⟨by show _<=_;omega,"",D,txL c,rfl,rfl,SqL.of ?_,?_,q _ sm⟩
     ·rw[hDc]
      unfold txL;rw[mC0]
      rfl
     ·have e0:("":Str).length=0:=by decide +kernel
      have e1:((txL c).map (·.length)).sum=(c%7).toNat:=by
       unfold txL;rw[mC0]
       have:((fun x:Str=>x.length)∘fun(k:Nat)=>(⟨#[sgN (c/7+(0+(k:Int)) * (c/658%94))]⟩:Str))=fun _=>1:=rfl
       rw[this,b5x,List.length_range]
      rw[e0,e1]
      omega
   obtain⟨t2,pt2,qt2⟩:=p2;show wpAny _ _ (execs ((a0H (top 47)).drop 1) _) _ _ s2;refine b4V n2 (b2a pt2 I2 qt2) fun fl s3 n3 h3=>?_;cases fl with
   |next=>obtain⟨_,_,_,z⟩:=h3;exact z.elim
   |ret u=>obtain⟨v,σ3,H3,I3,r3,sm,rfl⟩:=h3;exact⟨_,σ3,H3,I3,r3,q0 u s3.toks H3 n3 sm⟩
   |brk=>obtain⟨_,_,_,z⟩:=h3;exact z.elim
   |cont=>obtain⟨_,_,_,z⟩:=h3;exact z.elim
  |ret v=>obtain⟨_,_,_,_,_,z⟩:=h2;exact z.elim
  |brk=>obtain⟨_,_,_,z⟩:=h2;exact z.elim
  |cont=>obtain⟨_,_,_,z⟩:=h2;exact z.elim
end
end My
namespace L2
open PySem PySem.Spec PyProof.Rows
theorem SqT.rd {K:Fg0}{H:Hp}{a:Addr}{xs:List V}(h:Rd H a (.tup xs)):SqT K H a xs:=.inl h
theorem a0t {X:Cx}:a1e X (.builtin "isinstance") (fun xs H Q=>∃x n t b,xs=[x,.ty n]/\(a6w X.K H x t\/∃a ys,x=.ref a/\Rd H a (.tup ys)/\t=.type "tuple")/\PySem.W.kitOne X.K t (.type n)=some b/\Q (.bl b) H):=by
 intro pins s σ H xs us Q I r h;obtain⟨x,n,t,b,rfl,hx,e,q⟩:=h;rcases hx with hx |⟨a,ys,rfl,ha,rfl⟩
 ·exact a2n pins s σ H _ us Q I r ⟨x,n,t,b,rfl,hx,e,q⟩
 ·obtain⟨u,w',rfl,rx,rc⟩:=a9S r
  cases rx
  cases(show w'=Value.type n from rc)
  obtain⟨its,_,⟨o,h1,h2,_⟩,_⟩:=I.tuple (SqT.rd ha);exact PySem.W.kia_one PySem.W.kitx_tuple I.kIn ⟨o,h1,h2⟩ e (fun z=>nomatch z) fun tk=>⟨.bl b,H,I.tok tk,rfl,q⟩
end L2
namespace My
open PySem L2 PyProof.Rows
seal L2.PE L2.PT L2.PW L2.PS L2.PSs L2.PA L2.PI L2.PG L2.PGs L2.OpR L2.a1e L2.IxR L2.SlR L2.MtR L2.PIf L2.PO L2.MtM L2.PC L2.a7F
def b4z (n:Nat):Sp:=fun vs H Q _=>∃x y,vs=[x,y]/\Lq H n x y/\∀H',a0k H H'->Q (.bl true) H'
section
variable {P:Program}{w:World}{K:Fg0}{mg:Str->Option Value}{base:Heap}
theorem kq {a b:String}{r:Bool}(h:a0R a b=some r):PySem.W.kitOne K (.type a) (.type b)=some r:=a2t.trans h
theorem b3d {fself:Addr}{fd:FuncData}(D:Df K mg "_law_alike" (top 45) fself fd)(B:Bl mg)(hz:mg "zip"=none)(n:Nat)(ih:∀m,n=m+1->a0y P w K mg base CX0 (m+1) fself fd ["_law_found","_law_due"] (b4z m)) :
  a0y P w K mg base CX0 (n+1) fself fd ["_law_found","_law_due"] (b4z n):=by
 have sc:a0o ["_law_found","_law_due","_law_name","_law_one","_law_other"] ["_law_found","_law_due"] (a0e (top 45)):=.k (by decide +kernel);have bA:=D.fn.b2 "_law_found" "_law_due" (by intros;rfl);refine D.fn.ok sc (fun vs H Q E h=>?_) (fun cdv A outer s H vs Q E' hr h=>?_)
 ·obtain⟨x,y,rfl,_⟩:=h
  rfl
 ·obtain⟨x,y,rfl,hl,q⟩:=h
  cases hl with
  |non=>
   refine⟨_,(a0d (a0F (a0z a3l (pv 1) a1r (a0B _)) (a0h (a0s (a1a a3l (pv 0) a1r (a0B _)))) a0m)
     a0l),?_⟩
   refine⟨_,rfl,rfl,_,rfl,a5b (dT0 rfl) ?_⟩;refine⟨_,rfl,rfl,?_⟩;rw[dT0 rfl];exact q H (a0k.refl H)
  |bl=>
   refine⟨_,(a0d (a0F (a0z a3l (pv 1) a1r (a0B _)) a0l a0m)
     (a0d (a0F (PW.pt (a2F (a0D (a0i a0t (by rfl) B.isi boot_isi (a0a (pv 1) (a0a (a0v (v:=.ty "bool") (by rfl) B.bool boot_bool rfl) a0c)))) (a1Q (a0D (a0i a0t (by rfl) B.isi boot_isi (a0a (pv 0) (a0a (a0v (v:=.ty "bool") (by rfl) B.bool boot_bool rfl) a0c))))))) (a0h (a0s (a2d (a0i a0t (by rfl) B.isi boot_isi (a0a (pv 1) (a0a (a0v (v:=.ty "bool") (by rfl) B.bool boot_bool rfl) a0c))) (a2d (a0i a0t (by rfl) B.isi boot_isi (a0a (pv 0) (a0a (a0v (v:=.ty "bool") (by rfl) B.bool boot_bool rfl) a0c))) (a2x (a1a a2l (pv 0) (pv 1) (a0B _))))))) a0m)
     a0l)),?_⟩
   refine⟨_,rfl,rfl,_,rfl,a2q (dF0 fun e=>by cases e) ?_⟩;refine⟨_,rfl,_,_,_,_,rfl,.inl (.bl _),kq (show a0R "bool" "bool"=some true by decide +kernel),_,rfl,?_⟩;refine a6a ?_;refine a6a ?_;refine⟨_,rfl,_,_,_,_,rfl,.inl (.bl _),kq (show a0R "bool" "bool"=some true by decide +kernel),_,rfl,?_⟩;refine a6a ?_;refine⟨_,rfl,_,_,_,_,rfl,.inl (.bl _),kq (show a0R "bool" "bool"=some true by decide +kernel),_,rfl,?_⟩;refine a6a ?_;refine⟨_,rfl,_,rfl,rfl,?_⟩;rw[dT0 rfl];exact q H (a0k.refl H)
  |int=>
   refine⟨_,(a0d (a0F (a0z a3l (pv 1) a1r (a0B _)) a0l a0m)
     (a0d (a0F (PW.pt (a2F (a0D (a0i a0t (by rfl) B.isi boot_isi (a0a (pv 1) (a0a (a0v (v:=.ty "bool") (by rfl) B.bool boot_bool rfl) a0c)))) (a1Q (a0D (a0i a0t (by rfl) B.isi boot_isi (a0a (pv 0) (a0a (a0v (v:=.ty "bool") (by rfl) B.bool boot_bool rfl) a0c))))))) a0l a0m)
     (a0d (a0F (a0D (a0i a0t (by rfl) B.isi boot_isi (a0a (pv 1) (a0a (a0v (v:=.ty "int") (by rfl) B.int boot_int rfl) a0c)))) (a0h (a0s (a2d (a0i a0t (by rfl) B.isi boot_isi (a0a (pv 0) (a0a (a0v (v:=.ty "int") (by rfl) B.int boot_int rfl) a0c))) (a2x (a1a a2l (pv 0) (pv 1) (a0B _)))))) a0m)
     a0l))),?_⟩
   refine⟨_,rfl,rfl,_,rfl,a2q (dF0 fun e=>by cases e) ?_⟩;refine⟨_,rfl,_,_,_,_,rfl,.inl (.int _),kq (show a0R "int" "bool"=some false by decide +kernel),_,rfl,?_⟩;refine a1W ?_;refine⟨_,rfl,_,_,_,_,rfl,.inl (.int _),kq (show a0R "int" "bool"=some false by decide +kernel),_,rfl,?_⟩;refine a1W ?_;refine⟨_,rfl,_,_,_,_,rfl,.inl (.int _),kq (show a0R "int" "int"=some true by decide +kernel),_,rfl,?_⟩;refine a6a ?_;refine⟨_,rfl,_,_,_,_,rfl,.inl (.int _),kq (show a0R "int" "int"=some true by decide +kernel),_,rfl,?_⟩;refine a6a ?_;refine⟨_,rfl,_,rfl,rfl,?_⟩;rw[dT0 rfl];exact q H (a0k.refl H)
  |str=>
   refine⟨_,(a0d (a0F (a0z a3l (pv 1) a1r (a0B _)) a0l a0m)
     (a0d (a0F (PW.pt (a2F (a0D (a0i a0t (by rfl) B.isi boot_isi (a0a (pv 1) (a0a (a0v (v:=.ty "bool") (by rfl) B.bool boot_bool rfl) a0c)))) (a1Q (a0D (a0i a0t (by rfl) B.isi boot_isi (a0a (pv 0) (a0a (a0v (v:=.ty "bool") (by rfl) B.bool boot_bool rfl) a0c))))))) a0l a0m)
     (a0d (a0F (a0D (a0i a0t (by rfl) B.isi boot_isi (a0a (pv 1) (a0a (a0v (v:=.ty "int") (by rfl) B.int boot_int rfl) a0c)))) a0l a0m)
     (a0d (a0F (a0D (a0i a0t (by rfl) B.isi boot_isi (a0a (pv 1) (a0a (a0v (v:=.ty "str") (by rfl) B.str boot_str rfl) a0c)))) (a0h (a0s (a2d (a0i a0t (by rfl) B.isi boot_isi (a0a (pv 0) (a0a (a0v (v:=.ty "str") (by rfl) B.str boot_str rfl) a0c))) (a2x (a1a a2l (pv 0) (pv 1) (a0B _)))))) a0m)
     a0l)))),?_⟩
   refine⟨_,rfl,rfl,_,rfl,a2q (dF0 fun e=>by cases e) ?_⟩;refine⟨_,rfl,_,_,_,_,rfl,.inl (.str _),kq (show a0R "str" "bool"=some false by decide +kernel),_,rfl,?_⟩;refine a1W ?_;refine⟨_,rfl,_,_,_,_,rfl,.inl (.str _),kq (show a0R "str" "bool"=some false by decide +kernel),_,rfl,?_⟩;refine a1W ?_;refine⟨_,rfl,_,_,_,_,rfl,.inl (.str _),kq (show a0R "str" "int"=some false by decide +kernel),_,rfl,?_⟩;refine a1W ?_;refine⟨_,rfl,_,_,_,_,rfl,.inl (.str _),kq (show a0R "str" "str"=some true by decide +kernel),_,rfl,?_⟩;refine a6a ?_;refine⟨_,rfl,_,_,_,_,rfl,.inl (.str _),kq (show a0R "str" "str"=some true by decide +kernel),_,rfl,?_⟩;refine a6a ?_;refine⟨_,rfl,_,rfl,rfl,?_⟩;rw[dT0 rfl];exact q H (a0k.refl H)
  |@tup m a b xs ys ha hb hlen hi=>
   have ihS:=ih m rfl;have hrS:a1q (m+1) _:=hr;refine⟨_,(a0d (a0F (a0z a3l (pv 1) a1r (a0B _)) a0l a0m)
     (a0d (a0F (PW.pt (a2F (a0D (a0i a0t (by rfl) B.isi boot_isi (a0a (pv 1) (a0a (a0v (v:=.ty "bool") (by rfl) B.bool boot_bool rfl) a0c)))) (a1Q (a0D (a0i a0t (by rfl) B.isi boot_isi (a0a (pv 0) (a0a (a0v (v:=.ty "bool") (by rfl) B.bool boot_bool rfl) a0c))))))) a0l a0m)
     (a0d (a0F (a0D (a0i a0t (by rfl) B.isi boot_isi (a0a (pv 1) (a0a (a0v (v:=.ty "int") (by rfl) B.int boot_int rfl) a0c)))) a0l a0m)
     (a0d (a0F (a0D (a0i a0t (by rfl) B.isi boot_isi (a0a (pv 1) (a0a (a0v (v:=.ty "str") (by rfl) B.str boot_str rfl) a0c)))) a0l a0m)
     (a0d (a0F (a0D (a0i a0t (by rfl) B.isi boot_isi (a0a (pv 1) (a0a (a0v (v:=.ty "dict") (by rfl) B.dict boot_dict rfl) a0c)))) a0l a0m)
     (a0d (a0F (PW.pt (a2F (a0z a4j (a0i a0t (by rfl) B.isi boot_isi (a0a (pv 1) (a0a (a0v (v:=.ty "list") (by rfl) B.list boot_list rfl) a0c))) (a0i a0t (by rfl) B.isi boot_isi (a0a (pv 0) (a0a (a0v (v:=.ty "list") (by rfl) B.list boot_list rfl) a0c))) (a0B _)) (a1Q (a0z a4j (a0i a0t (by rfl) B.isi boot_isi (a0a (pv 1) (a0a (a0v (v:=.ty "tuple") (by rfl) B.tuple boot_tuple rfl) a0c))) (a0i a0t (by rfl) B.isi boot_isi (a0a (pv 0) (a0a (a0v (v:=.ty "tuple") (by rfl) B.tuple boot_tuple rfl) a0c))) (a0B _))))) a0l a0m)
     (a0d (a0F (a0z a4j (a0i a0K (by rfl) B.len PySem.boot_len (a0a (pv 0) a0c)) (a0i a0K (by rfl) B.len PySem.boot_len (a0a (pv 1) a0c)) (a0B _)) a0l a0m)
     (a0d (a1A PassesOwn.never rfl (b1Q (by rfl) hz (a0a (pv 0) (a0a (pv 1) a0c))) (a3L rfl (a0E (a0q (i:=3) sc.nd rfl (Or.inl rfl)) (a0E (a0q (i:=4) sc.nd rfl (Or.inl rfl)) a1Y)))
      (a0h (a0F (a1k (a0D (a0j ihS hrS (by rfl) D.mg D.fn.kp bA .nil a0u (a0a (pv 3) (a0a (pv 4) a0c))))) a0l a0m)))
     (a0h (a0s a3m)))))))))),?_⟩
   refine⟨_,rfl,rfl,_,rfl,a2q (dF0 fun e=>by cases e) ?_⟩;refine⟨_,rfl,_,_,_,_,rfl,.inr ⟨_,_,rfl,hb,rfl⟩,kq (show a0R "tuple" "bool"=some false by decide +kernel),_,rfl,?_⟩;refine a1W ?_;refine⟨_,rfl,_,_,_,_,rfl,.inr ⟨_,_,rfl,ha,rfl⟩,kq (show a0R "tuple" "bool"=some false by decide +kernel),_,rfl,?_⟩;refine a1W ?_;refine⟨_,rfl,_,_,_,_,rfl,.inr ⟨_,_,rfl,hb,rfl⟩,kq (show a0R "tuple" "int"=some false by decide +kernel),_,rfl,?_⟩;refine a1W ?_;refine⟨_,rfl,_,_,_,_,rfl,.inr ⟨_,_,rfl,hb,rfl⟩,kq (show a0R "tuple" "str"=some false by decide +kernel),_,rfl,?_⟩;refine a1W ?_;refine⟨_,rfl,_,_,_,_,rfl,.inr ⟨_,_,rfl,hb,rfl⟩,kq (show a0R "tuple" "dict"=some false by decide +kernel),_,rfl,?_⟩;refine a1W ?_;refine⟨_,rfl,_,_,_,_,rfl,.inr ⟨_,_,rfl,hb,rfl⟩,kq (show a0R "tuple" "list"=some false by decide +kernel),_,rfl,_,_,_,_,rfl,.inr ⟨_,_,rfl,ha,rfl⟩,kq (show a0R "tuple" "list"=some false by decide +kernel),rfl,_,rfl,?_⟩;refine a6r rfl ?_;refine⟨_,rfl,_,_,_,_,rfl,.inr ⟨_,_,rfl,hb,rfl⟩,kq (show a0R "tuple" "tuple"=some true by decide +kernel),_,rfl,_,_,_,_,rfl,.inr ⟨_,_,rfl,ha,rfl⟩,kq (show a0R "tuple" "tuple"=some true by decide +kernel),rfl,_,rfl,?_⟩;refine a6r rfl ?_;refine⟨_,rfl,_,_,rfl,.inr (SqT.rd ha),_,rfl,_,_,rfl,.inr (SqT.rd hb),rfl,_,rfl,?_⟩;refine a6r (by rw[hlen]) ?_;refine⟨_,rfl,_,rfl,a,b,rfl,⟨_,SqT.rd ha⟩,⟨_,SqT.rd hb⟩,b0w (K:=K) (xs:=xs) (ys:=ys) (fun i σ H'=>a0k H H'/\∃(u v:Option V),σ=[some (.ref a),some (.ref b),none,u,v]) hlen ⟨a0k.refl H,_,_,rfl⟩ (fun i σ H' _ p=>⟨SqT.rd (ha.same p.1),SqT.rd (hb.same p.1)⟩) ?_ ?_⟩
   ·rintro i x y p σ H' hx hy ⟨s1,u,v,rfl⟩ hp
    refine⟨p,[x,y],rfl,SqT.of a0b,rfl,x,[y],rfl,y,[],rfl,rfl,?_⟩;have s2:=s1.trans (a0k.upd (o:=.tup [x,y]) hp);refine⟨_,rfl,_,rfl,x,y,rfl,(hi i x y hx hy).same s2,fun H2 s3=>⟨_,rfl,?_⟩⟩;refine a1W ?_;exact⟨s2.trans s3,_,_,rfl⟩
   ·rintro σ H' ⟨s1,u,v,rfl⟩
    exact q H' s1
  |@lst m a b xs ys ha hb hlen hi=>
   have ihS:=ih m rfl;have hrS:a1q (m+1) _:=hr;refine⟨_,(a0d (a0F (a0z a3l (pv 1) a1r (a0B _)) a0l a0m)
     (a0d (a0F (PW.pt (a2F (a0D (a0i a0t (by rfl) B.isi boot_isi (a0a (pv 1) (a0a (a0v (v:=.ty "bool") (by rfl) B.bool boot_bool rfl) a0c)))) (a1Q (a0D (a0i a0t (by rfl) B.isi boot_isi (a0a (pv 0) (a0a (a0v (v:=.ty "bool") (by rfl) B.bool boot_bool rfl) a0c))))))) a0l a0m)
     (a0d (a0F (a0D (a0i a0t (by rfl) B.isi boot_isi (a0a (pv 1) (a0a (a0v (v:=.ty "int") (by rfl) B.int boot_int rfl) a0c)))) a0l a0m)
     (a0d (a0F (a0D (a0i a0t (by rfl) B.isi boot_isi (a0a (pv 1) (a0a (a0v (v:=.ty "str") (by rfl) B.str boot_str rfl) a0c)))) a0l a0m)
     (a0d (a0F (a0D (a0i a0t (by rfl) B.isi boot_isi (a0a (pv 1) (a0a (a0v (v:=.ty "dict") (by rfl) B.dict boot_dict rfl) a0c)))) a0l a0m)
     (a0d (a0F (PW.pt (a2F (a0z a4j (a0i a0t (by rfl) B.isi boot_isi (a0a (pv 1) (a0a (a0v (v:=.ty "list") (by rfl) B.list boot_list rfl) a0c))) (a0i a0t (by rfl) B.isi boot_isi (a0a (pv 0) (a0a (a0v (v:=.ty "list") (by rfl) B.list boot_list rfl) a0c))) (a0B _)) (a1Q (a0z a4j (a0i a0t (by rfl) B.isi boot_isi (a0a (pv 1) (a0a (a0v (v:=.ty "tuple") (by rfl) B.tuple boot_tuple rfl) a0c))) (a0i a0t (by rfl) B.isi boot_isi (a0a (pv 0) (a0a (a0v (v:=.ty "tuple") (by rfl) B.tuple boot_tuple rfl) a0c))) (a0B _))))) a0l a0m)
     (a0d (a0F (a0z a4j (a0i a0K (by rfl) B.len PySem.boot_len (a0a (pv 0) a0c)) (a0i a0K (by rfl) B.len PySem.boot_len (a0a (pv 1) a0c)) (a0B _)) a0l a0m)
     (a0d (a1A PassesOwn.never rfl (b2M (by rfl) hz (a0a (pv 0) (a0a (pv 1) a0c))) (a3L rfl (a0E (a0q (i:=3) sc.nd rfl (Or.inl rfl)) (a0E (a0q (i:=4) sc.nd rfl (Or.inl rfl)) a1Y)))
      (a0h (a0F (a1k (a0D (a0j ihS hrS (by rfl) D.mg D.fn.kp bA .nil a0u (a0a (pv 3) (a0a (pv 4) a0c))))) a0l a0m)))
     (a0h (a0s a3m)))))))))),?_⟩
   refine⟨_,rfl,rfl,_,rfl,a2q (dF0 fun e=>by cases e) ?_⟩;refine⟨_,rfl,_,_,_,_,rfl,.inl (.lst hb),kq (show a0R "list" "bool"=some false by decide +kernel),_,rfl,?_⟩;refine a1W ?_;refine⟨_,rfl,_,_,_,_,rfl,.inl (.lst ha),kq (show a0R "list" "bool"=some false by decide +kernel),_,rfl,?_⟩;refine a1W ?_;refine⟨_,rfl,_,_,_,_,rfl,.inl (.lst hb),kq (show a0R "list" "int"=some false by decide +kernel),_,rfl,?_⟩;refine a1W ?_;refine⟨_,rfl,_,_,_,_,rfl,.inl (.lst hb),kq (show a0R "list" "str"=some false by decide +kernel),_,rfl,?_⟩;refine a1W ?_;refine⟨_,rfl,_,_,_,_,rfl,.inl (.lst hb),kq (show a0R "list" "dict"=some false by decide +kernel),_,rfl,?_⟩;refine a1W ?_;refine⟨_,rfl,_,_,_,_,rfl,.inl (.lst hb),kq (show a0R "list" "list"=some true by decide +kernel),_,rfl,_,_,_,_,rfl,.inl (.lst ha),kq (show a0R "list" "list"=some true by decide +kernel),rfl,_,rfl,?_⟩;refine a6r rfl ?_;refine⟨_,rfl,_,_,_,_,rfl,.inl (.lst hb),kq (show a0R "list" "tuple"=some false by decide +kernel),_,rfl,_,_,_,_,rfl,.inl (.lst ha),kq (show a0R "list" "tuple"=some false by decide +kernel),rfl,_,rfl,?_⟩;refine a6r rfl ?_;refine⟨_,rfl,_,_,rfl,.inl (SqL.of ha),_,rfl,_,_,rfl,.inl (SqL.of hb),rfl,_,rfl,?_⟩;refine a6r (by rw[hlen]) ?_;refine⟨_,rfl,_,rfl,a,b,rfl,⟨_,SqL.of ha⟩,⟨_,SqL.of hb⟩,b0T (K:=K) (xs:=xs) (ys:=ys) (fun i σ H'=>a0k H H'/\∃(u v:Option V),σ=[some (.ref a),some (.ref b),none,u,v]) hlen ⟨a0k.refl H,_,_,rfl⟩ (fun i σ H' _ p=>⟨SqL.of (p.1 _ _ ha),SqL.of (p.1 _ _ hb)⟩) ?_ ?_⟩
   ·rintro i x y p σ H' hx hy ⟨s1,u,v,rfl⟩ hp
    refine⟨p,[x,y],rfl,SqT.of a0b,rfl,x,[y],rfl,y,[],rfl,rfl,?_⟩;have s2:=s1.trans (a0k.upd (o:=.tup [x,y]) hp);refine⟨_,rfl,_,rfl,x,y,rfl,(hi i x y hx hy).same s2,fun H2 s3=>⟨_,rfl,?_⟩⟩;refine a1W ?_;exact⟨s2.trans s3,_,_,rfl⟩
   ·rintro σ H' ⟨s1,u,v,rfl⟩
    exact q H' s1
  |@dct m a b kvs kws f ha hb hlen hf hg hi=>
   have ihS:=ih m rfl;have hrS:a1q (m+1) _:=hr;have hu:=a2o hr;refine⟨_,(a0d (a0F (a0z a3l (pv 1) a1r (a0B _)) a0l a0m)
     (a0d (a0F (PW.pt (a2F (a0D (a0i a2g (by rfl) B.isi boot_isi (a0a (pv 1) (a0a (a0v (v:=.ty "bool") (by rfl) B.bool boot_bool rfl) a0c)))) (a1Q (a0D (a0i a2g (by rfl) B.isi boot_isi (a0a (pv 0) (a0a (a0v (v:=.ty "bool") (by rfl) B.bool boot_bool rfl) a0c))))))) a0l a0m)
     (a0d (a0F (a0D (a0i a2g (by rfl) B.isi boot_isi (a0a (pv 1) (a0a (a0v (v:=.ty "int") (by rfl) B.int boot_int rfl) a0c)))) a0l a0m)
     (a0d (a0F (a0D (a0i a2g (by rfl) B.isi boot_isi (a0a (pv 1) (a0a (a0v (v:=.ty "str") (by rfl) B.str boot_str rfl) a0c)))) a0l a0m)
     (a0d (a0F (a0D (a0i a2g (by rfl) B.isi boot_isi (a0a (pv 1) (a0a (a0v (v:=.ty "dict") (by rfl) B.dict boot_dict rfl) a0c)))) (a0d (a0F (PW.pt (a2F (a1k (a0D (a0i a2g (by rfl) B.isi boot_isi (a0a (pv 0) (a0a (a0v (v:=.ty "dict") (by rfl) B.dict boot_dict rfl) a0c))))) (a1Q (a0z a4j (a0i a5R (by rfl) B.len PySem.boot_len (a0a (pv 0) a0c)) (a0i a5R (by rfl) B.len PySem.boot_len (a0a (pv 1) a0c)) (a0B _))))) a0l a0m)
      (a0d (b2m (a1A PassesOwn.never rfl (a6g (pv 1)) (a0q (i:=2) sc.nd rfl (Or.inl rfl))
       (a0h (a0F (PW.pt (a2F (b4k (a8y hu (pv 2) (pv 0))) (a1Q (a1k (a0D (a0j ihS hrS (by rfl) D.mg D.fn.kp bA .nil a0u (a0a (a2a hu (pv 0) (pv 2) (fun _ _=>rfl)) (a0a (a2a hu (pv 1) (pv 2) (fun _ _=>rfl)) a0c)))))))) a0l a0m))))
      (a0h (a0s a3m)))) a0m)
     a0l))))),?_⟩
   refine⟨_,rfl,rfl,_,rfl,a2q (dF0 fun e=>by cases e) ?_⟩;refine⟨_,rfl,_,_,_,_,rfl,hb,kq (show a0R "dict" "bool"=some false by decide +kernel),_,rfl,?_⟩;refine a1W ?_;refine⟨_,rfl,_,_,_,_,rfl,ha,kq (show a0R "dict" "bool"=some false by decide +kernel),_,rfl,?_⟩;refine a1W ?_;refine⟨_,rfl,_,_,_,_,rfl,hb,kq (show a0R "dict" "int"=some false by decide +kernel),_,rfl,?_⟩;refine a1W ?_;refine⟨_,rfl,_,_,_,_,rfl,hb,kq (show a0R "dict" "str"=some false by decide +kernel),_,rfl,?_⟩;refine a1W ?_;refine⟨_,rfl,_,_,_,_,rfl,hb,kq (show a0R "dict" "dict"=some true by decide +kernel),_,rfl,?_⟩;refine a6a ?_;refine⟨_,rfl,_,_,_,_,rfl,ha,kq (show a0R "dict" "dict"=some true by decide +kernel),_,rfl,a1W ?_⟩;refine⟨_,rfl,a,kvs,rfl,ha,_,rfl,b,kws,rfl,hb,rfl,_,rfl,a6r (by rw[hlen]) ?_⟩;refine⟨b,kws,hb,fun o ho=>?_,fun ho o=>?_⟩
   ·refine⟨_,rfl,b,o,_,rfl,ho,a3w (a:=b) (o:=o) (kvs:=kws) (fun i σ H1=>a0k H H1/\∃u,σ=[some (.ref a),some (.ref b),u,none,none]) ⟨a0k.refl H,_,rfl⟩ (fun i σ H1 _ p=>p.1 _ _ ho) ?_ ?_⟩
    ·rintro i k v σ H1 hk ⟨s1,u,rfl⟩
     have hm:=gI0 hk;refine⟨_,rfl,_,rfl,a,_,rfl,.inl ⟨kvs,k,Rd.same s1 ha,rfl,(hf k v hm).symm⟩,_,rfl,a1W ?_⟩;refine⟨_,rfl,_,rfl,a,_,rfl,.inl ⟨kvs,k,Rd.same s1 ha,rfl,(hf k v hm).symm⟩,_,rfl,_,rfl,b,_,rfl,.inl ⟨kws,k,Rd.same s1 hb,rfl,(hg k v hm).symm⟩,_,_,rfl,(hi k v hm).same s1,fun H2 s2=>⟨_,rfl,a1W ?_⟩⟩;exact⟨s1.trans s2,_,rfl⟩
    ·rintro σ H1 ⟨s1,u,rfl⟩
     exact q H1 s1
   ·have e1:(upd H b (.frz o (.dK kws))) b=some (.frz o (.dK kws)):=a0b
    have ha1:Rd (upd H b (.frz o (.dK kws))) a (.dK kvs):=Rd.frz ho ha;have hb1:Rd (upd H b (.frz o (.dK kws))) b (.dK kws):=Rd.frz ho hb;have hi1:∀(k:Key) (v:V),(k,v)∈kws->Lq (upd H b (.frz o (.dK kws))) m (f k) v:=fun k v hm=>(hi k v hm).frz ho;have bk:∀{G:Hp},a0k (upd H b (.frz o (.dK kws))) G->a0k H (upd G b (.dK kws)):=fun {G} sg=>a3N ho sg;generalize upd H b (.frz o (.dK kws))=H0 at *;refine⟨_,rfl,b,o,_,rfl,e1,a3w (a:=b) (o:=o) (kvs:=kws) (fun i σ H1=>a0k H0 H1/\∃u,σ=[some (.ref a),some (.ref b),u,none,none]) ⟨a0k.refl H0,_,rfl⟩ (fun i σ H1 _ p=>p.1 _ _ e1) ?_ ?_⟩
    ·rintro i k v σ H1 hk ⟨s1,u,rfl⟩
     have hm:=gI0 hk;refine⟨_,rfl,_,rfl,a,_,rfl,.inl ⟨kvs,k,Rd.same s1 ha1,rfl,(hf k v hm).symm⟩,_,rfl,a1W ?_⟩;refine⟨_,rfl,_,rfl,a,_,rfl,.inl ⟨kvs,k,Rd.same s1 ha1,rfl,(hf k v hm).symm⟩,_,rfl,_,rfl,b,_,rfl,.inl ⟨kws,k,Rd.same s1 hb1,rfl,(hg k v hm).symm⟩,_,_,rfl,(hi1 k v hm).same s1,fun H2 s2=>⟨_,rfl,a1W ?_⟩⟩;exact⟨s1.trans s2,_,rfl⟩
    ·rintro σ H1 ⟨s1,u,rfl⟩
     exact⟨s1 _ _ e1,q _ (bk s1)⟩
theorem a7d {f:Addr}{fd:FuncData}(D:Df K mg "_law_alike" (top 45) f fd)(B:Bl mg)(hz:mg "zip"=none):∀n:Nat,a0y P w K mg base CX0 (n+1) f fd ["_law_found","_law_due"] (b4z n)
 |0=>b3d D B hz 0 (fun m e=>by cases e)
 |n+1=>b3d D B hz (n+1) (fun m e=>by cases e;exact a7d D B hz n)
end
end My
namespace L2
open PySem PySem.Spec PyProof.Rows
def cut (H0 H:Hp):Hp:=fun b=>match H0 b with |none=>H b |some _=>none
theorem a0p {H0 H:Hp}:a0k (cut H0 H) H:=fun b o e=>by
 unfold cut at e
 split at e
 ·exact e
 ·cases e
theorem a1K {H0 H:Hp}{b:Addr}{o:HO}(e:cut H0 H b=some o):H0 b=none:=by
 unfold cut at e
 split at e
 ·assumption
 ·cases e
theorem a0Q {H0 H:Hp}{b:Addr}{o:HO}(h0:H0 b=none)(e:H b=some o):cut H0 H b=some o:=by
 unfold cut;rw[h0];exact e
theorem a6X {H0 H H':Hp}(s:a0k H H'):a0k (cut H0 H) (cut H0 H'):=fun b o e=>a0Q (a1K e) (s _ _ (a0p _ _ e))
theorem a0G {H0 H1:Hp}{b:Addr}(s:a0k H0 H1)(h:H1 b=none):H0 b=none:=by
 cases e:H0 b with
 |none=>rfl
 |some o=>rw[s _ _ e] at h;cases h
theorem a8r {H H1:Hp}{r:Addr}{o:HO}(h:H r=none):cut H (upd H1 r o)=upd (cut H H1) r o:=by
 funext b
 by_cases e:b=r
 ·subst e
  rw[a0b,cut];rw[h];exact a0b
 ·rw[a0f e]
  unfold cut
  split
  ·rw[a0f e]
  ·rfl
theorem b2g {H H2:Hp}{a:Addr}{o o':HO}(h:H a=some o'):a0k (cut H H2) (cut H (upd H2 a o)):=fun b u e=>by
 have nb:b≠a:=fun e2=>by rw[e2,cut] at e;rw[h] at e;cases e
 exact a0Q (a1K e) (by rw[a0f nb];exact a0p _ _ e)
end L2
namespace My
open PySem L2 PyProof.Rows
seal L2.PE L2.PT L2.PW L2.PS L2.PSs L2.PA L2.PI L2.PG L2.PGs L2.OpR L2.a1e L2.IxR L2.SlR L2.MtR L2.PIf L2.PO L2.MtM L2.PC L2.a7F
abbrev Rw:=List (Str×V)
abbrev Pc:=List (Str×List Rw)
def rK (row:Rw):List (Key×V):=row.map fun c=>(.inr c.1,c.2)
def b1m (H:Hp)(row:Rw):Prop:=((row.map (·.1)).Nodup/\row.length<=12)/\∀c∈row,flt c.2=true\/∃a xs,c.2=.ref a/\H a=some (.tup xs)
def a1X (H:Hp)(l:Addr)(rows:List Rw):Prop:=∃rs:List Addr,H l=some (.lst (rs.map V.ref))/\rs.length=rows.length/\∀(j:Nat) (r:Addr) (row:Rw),rs[j]? =some r->rows[j]? =some row->H r=some (.dK (rK row))
def zK (zs:List Str)(ls:List Addr):List (Key×V):=zs.zipWith (fun z v=>((Sum.inr z:Key),v)) (ls.map V.ref)
def a3u (H:Hp)(p:Addr)(pc:Pc):Prop:=∃ls:List Addr,H p=some (.dK (zK (pc.map (·.1)) ls))/\ls.length=pc.length/\∀(j:Nat) (l:Addr) (t:Str×List Rw),ls[j]? =some l->pc[j]? =some t->a1X H l t.2
def a6C (H:Hp)(l:Addr)(rows:List Rw):Prop:=∃rs:List Addr,H l=some (.lst (rs.map V.ref))/\rs.length=rows.length/\rs.Nodup/\∀(j:Nat) (r:Addr) (row:Rw),rs[j]? =some r->rows[j]? =some row->H r=some (.dK (rK row))
def PcD (H:Hp)(p:Addr)(pc:Pc):Prop:=∃ls:List Addr,H p=some (.dK (zK (pc.map (·.1)) ls))/\ls.length=pc.length/\∀(j:Nat) (l:Addr) (t:Str×List Rw),ls[j]? =some l->pc[j]? =some t->a6C H l t.2
def a7L (H:Hp)(ow:Addr->Nat)(j:Nat)(l:Addr)(rows:List Rw):Prop:=∃rs:List Addr,H l=some (.lst (rs.map V.ref))/\rs.length=rows.length/\rs.Nodup/\(∀(j:Nat) (r:Addr) (row:Rw),rs[j]? =some r->rows[j]? =some row->H r=some (.dK (rK row)))/\∀r∈rs,ow r=j
def PcE (H:Hp)(p:Addr)(pc:Pc):Prop:=∃(ls:List Addr) (ow:Addr->Nat),H p=some (.dK (zK (pc.map (·.1)) ls))/\ls.length=pc.length/\∀(j:Nat) (l:Addr) (t:Str×List Rw),ls[j]? =some l->pc[j]? =some t->a7L H ow j l t.2
theorem a7L.same {H H':Hp}{ow:Addr->Nat}{j:Nat}{l:Addr}{rows:List Rw}(h:a7L H ow j l rows)(s:a0k H H'):a7L H' ow j l rows:=let ⟨rs,a,b,n,c,d⟩:=h;⟨rs,s _ _ a,b,n,fun j r row x y=>s _ _ (c j r row x y),d⟩
theorem PcE.same {H H':Hp}{p:Addr}{pc:Pc}(h:PcE H p pc)(s:a0k H H'):PcE H' p pc:=let ⟨ls,ow,a,b,c⟩:=h;⟨ls,ow,s _ _ a,b,fun j l t x y=>(c j l t x y).same s⟩
theorem a7L.d {H:Hp}{ow:Addr->Nat}{j:Nat}{l:Addr}{rows:List Rw}(h:a7L H ow j l rows):a6C H l rows:=let ⟨rs,a,b,n,c,_⟩:=h;⟨rs,a,b,n,c⟩
theorem PcE.d {H:Hp}{p:Addr}{pc:Pc}(h:PcE H p pc):PcD H p pc:=let ⟨ls,ow,a,b,c⟩:=h;⟨ls,a,b,fun j l t x y=>(c j l t x y).d⟩
theorem a6C.same {H H':Hp}{l:Addr}{rows:List Rw}(h:a6C H l rows)(s:a0k H H'):a6C H' l rows:=let ⟨rs,a,b,n,c⟩:=h;⟨rs,s _ _ a,b,n,fun j r row x y=>s _ _ (c j r row x y)⟩
theorem PcD.same {H H':Hp}{p:Addr}{pc:Pc}(h:PcD H p pc)(s:a0k H H'):PcD H' p pc:=let ⟨ls,a,b,c⟩:=h;⟨ls,s _ _ a,b,fun j l t x y=>(c j l t x y).same s⟩
theorem a6C.rows {H:Hp}{l:Addr}{rows:List Rw}(h:a6C H l rows):a1X H l rows:=let ⟨rs,a,b,_,c⟩:=h;⟨rs,a,b,c⟩
theorem PcD.pc {H:Hp}{p:Addr}{pc:Pc}(h:PcD H p pc):a3u H p pc:=let ⟨ls,a,b,c⟩:=h;⟨ls,a,b,fun j l t x y=>(c j l t x y).rows⟩
structure a9V (H:Hp) (pc:Pc):Prop where
 nd:(pc.map (·.1)).Nodup
 le:pc.length<=8
 rl:∀t∈pc,t.2.length<=1000
 rw_:∀t∈pc,∀row∈t.2,b1m H row
theorem a1X.same {H H':Hp}{l:Addr}{rows:List Rw}(h:a1X H l rows)(s:a0k H H'):a1X H' l rows:=let ⟨rs,a,b,c⟩:=h;⟨rs,s _ _ a,b,fun j r row x y=>s _ _ (c j r row x y)⟩
theorem a3u.same {H H':Hp}{p:Addr}{pc:Pc}(h:a3u H p pc)(s:a0k H H'):a3u H' p pc:=let ⟨ls,a,b,c⟩:=h;⟨ls,s _ _ a,b,fun j l t x y=>(c j l t x y).same s⟩
theorem a6x {H:Hp}{row:Rw}(ok:b1m H row){k:Key}{a:Addr}(ha:∀xs,H a≠some (.tup xs)):(k,V.ref a)∉rK row:=fun h=>by
 obtain⟨c,hc,e⟩:=mM0.mp h
 injection e with _ e2
 rcases ok.2 c hc with h |⟨b,xs,h1,h2⟩
 ·rw[e2] at h
  cases h
 ·rw[e2] at h1
  injection h1 with h1
  exact ha xs (h1▸h2)
theorem b1z {zs:List Str}{ls:List Addr}{j:Nat}{z:Str}{l:Addr}(h1:zs[j]? =some z)(h2:ls[j]? =some l):((.inr z:Key),V.ref l)∈zK zs ls:=by
 refine gI0 (i:=j) ?_;unfold zK;rw[a9d,h1,gM0,h2]
 rfl
theorem a9e {zs:List Str}{ls:List Addr}{j:Nat}{k:Key}{v:V}(h:(zK zs ls)[j]? =some (k,v)):∃z l,zs[j]? =some z/\ls[j]? =some l/\k=.inr z/\v=.ref l:=by
 unfold zK at h;rw[a9d,gM0] at h;cases h1:zs[j]? with
 |none=>rw[h1] at h;cases h
 |some z=>
  cases h2:ls[j]? with
  |none=>rw[h1,h2] at h;cases h
  |some l=>
   rw[h1,h2] at h;cases h;exact⟨z,l,rfl,rfl,rfl,rfl⟩
theorem a6R {zs:List Str}{ls:List Addr}(h:ls.length=zs.length):(zK zs ls).length=zs.length:=by
 unfold zK;exact b3k (by rw[lM0];exact h)
theorem b2A {zs:List Str}{ls:List Addr}{z:Str}{l:Addr}(h:ls.length=zs.length):zK (zs++[z]) (ls++[l])=zK zs ls++[(.inr z,.ref l)]:=by
 unfold zK;rw[mA0,List.zipWith_append (by rw[lM0];exact h.symm)]
 rfl
theorem b3Z {zs:List Str}{ls:List Addr}{z:Str}(h:z∉zs):a1U (zK zs ls) (.inr z)=none:=by
 unfold a1U;rw[List.find?_eq_none.mpr fun x hx=>?_]
 ·rfl
 ·obtain⟨k,v⟩:=x
  obtain⟨i,y,h1,h2,e⟩:=b3s hx;intro hd;have e2:=of_decide_eq_true hd;rw[e] at e2
  injection e2 with e2
  exact h (by rw[<-e2];exact gI0 h1)
theorem a3u.apart {H:Hp}{p:Addr}{pc:Pc}(ok:a9V H pc){ls:List Addr}(hp:H p=some (.dK (zK (pc.map (·.1)) ls)))(hl:ls.length=pc.length){j:Nat}{l:Addr}{t:Str×List Rw}(h1:ls[j]? =some l)(h2:pc[j]? =some t)(hr:a1X H l t.2) :
  l≠p/\∀(r:Addr) (row:Rw),row∈t.2->H r=some (.dK (rK row))->r≠p:=by
 obtain⟨rs,a1,_⟩:=hr;refine⟨(fun e=>by rw[e,hp] at a1;cases a1),fun r row hrow hrr e=>?_⟩;rw[e,hp] at hrr
 injection hrr with e1
 injection e1 with e2
 have hm:((.inr t.1:Key),V.ref l)∈zK (pc.map (·.1)) ls:=b1z (j:=j) (by rw[gM0,h2];rfl) h1;rw[e2] at hm;exact a6x (ok.rw_ t (gI0 h2) row hrow) (fun xs h=>by rw[a1] at h;cases h) hm
def a4G:Sp:=fun vs H Q _=>∃(p:Addr) (pc:Pc),vs=[.ref p]/\a3u H p pc/\a9V H pc/\∀p' H',a0k H H'->PcE (cut H H') p' pc->Q (.ref p') H'
section
variable {P:Program}{w:World}{K:Fg0}{mg:Str->Option Value}{base:Heap}
theorem a5A {f:Addr}{fd:FuncData}(F:Fun K "copied" "copied" (top 31) f fd)(B:Bl mg):a0y P w K mg base CX0 1 f fd ["piece"] a4G:=by
 have sc:a0o ["piece","fresh","table","rows"] ["piece"] (a0e (top 31)):=.k (by decide +kernel);refine F.ok sc (fun vs H Q E h=>?_) (fun cdv A outer s H vs Q E hr h=>?_)
 ·obtain⟨p,pc,rfl,_⟩:=h
  rfl
 ·obtain⟨p,pc,rfl,hpc,ok,q⟩:=h
  have hu:=a2o hr;refine⟨_,a0d (a0w (i:=1) sc.nd rfl (Or.inl rfl) a4Y) (a0d (a5F (a1A PassesOwn.never rfl (a7E (pv 0)) (a3L rfl (a0E (a0q (i:=2) sc.nd rfl (Or.inl rfl)) (a0E (a0q (i:=3) sc.nd rfl (Or.inl rfl)) a1Y)))
    (a0h (a2c hu (pv 1) (pv 2) (a1j (osc:=a0e (top 31)) (N0:=["piece","fresh","table","rows"]) (xs:=["row"]) (fr:=[]) ⟨rfl,by decide +kernel,by decide +kernel,by decide +kernel,by decide,by decide +kernel⟩ rfl rfl rfl (a1D (pv 3))
     (fun s H fp=>a0q (i:=0) (show(["row"]:List Str).Nodup by decide +kernel) rfl (Or.inl rfl)) (fun s H fp=>a1h) (fun s H fp=>a0I a2r (by rfl) B.dict boot_dict (a0a (pv 0) a0c))) rfl)))) (a0h (a0s (pv 1)))),?_⟩
  obtain⟨ls,hp,hll,hls⟩:=hpc;refine fun fr hfr=>⟨p,_,(a0k.upd hfr) _ _ hp,fun o=>?_⟩;have np:p≠fr:=fun e=>by rw[<-e,hp] at hfr;cases hfr
  have S0:a0k H (upd H fr (.dK [])):=a0k.upd hfr;have d0:(upd H fr (.dK [])) fr=some (.dK []):=a0b;generalize upd H fr (.dK [])=H1 at *;have hfa:(upd H1 p (.frz o (.dK (zK (pc.map (·.1)) ls)))) p=some (.frz o (.dK (zK (pc.map (·.1)) ls))):=a0b;have hb0:a0k H (upd (upd H1 p (.frz o (.dK (zK (pc.map (·.1)) ls)))) p (.dK (zK (pc.map (·.1)) ls))):=S0.trans (a3N (S0 _ _ hp) (a0k.refl _));have d1:(upd H1 p (.frz o (.dK (zK (pc.map (·.1)) ls)))) fr=some (.dK []):=by rw[a0f np.symm];exact d0
  generalize upd H1 p (.frz o (.dK (zK (pc.map (·.1)) ls)))=H2 at *;have kl:(zK (pc.map (·.1)) ls).length=pc.length:=by rw[a6R (by rw[lM0];exact hll),lM0]
  refine⟨_,rfl,p,o,_,rfl,hfa,a5V (a:=p) (o:=o) (kvs:=zK (pc.map (·.1)) ls) (fun i σ H3=>H3 p=some (.frz o (.dK (zK (pc.map (·.1)) ls)))/\a0k H (upd H3 p (.dK (zK (pc.map (·.1)) ls)))/\∃u2 u3,σ=[some (.ref p),some (.ref fr),u2,u3]/\PcE (cut H H3) fr (pc.take i))
   ⟨hfa,hb0,_,_,rfl,[],(fun _=>0),a0Q hfr d1,rfl,fun j l t h=>nomatch h⟩ (fun i σ H3 _ p=>p.1) ?_ ?_⟩
  ·rintro i k v p1 σ H3 hk ⟨h3p,sm,u2,u3,rfl,ls',ow,f1,f2,f3⟩ hp1
   have hi:i<pc.length:=by
    have:=(gS0.mp hk).1
    omega
   obtain⟨z,l,hz,hl,rfl,rfl⟩:=a9e hk;have hil:i<ls.length:=by omega
   rw[gM0,gE0 hi] at hz;cases hz;rw[gE0 hil] at hl;cases hl;have hR:=hls i ls[i] pc[i] (gE0 hil) (gE0 hi);obtain⟨nl,nr⟩:=a3u.apart ok hp hll (gE0 hil) (gE0 hi) hR;obtain⟨rs,a1,a2,a3⟩:=id hR;have okt:=ok.rl pc[i] (gQ0 hi);have T1:=a0k.upd (o:=.tup [kV (.inr pc[i].1),.ref ls[i]]) hp1;refine⟨p1,_,rfl,SqT.of a0b,rfl,_,_,rfl,_,_,rfl,rfl,?_⟩;generalize upd H3 p1 (.tup [kV (.inr pc[i].1),.ref ls[i]])=H4 at T1;have back:∀{b:Addr} {ob:HO},b≠p->H b=some ob->H4 b=some ob:=fun {b ob} nb e=>by
    have:=sm b ob e
    rw[a0f nb] at this;exact T1 _ _ this
   have l4:=back nl a1;refine⟨_,rfl,ls[i],rfl,⟨_,SqL.of l4⟩,fun D hD=>?_⟩;have nH:∀{b:Addr},H4 b=none->H b=none:=fun {b} e=>by
    by_cases nb:b=p
    ·rw[nb,T1 _ _ h3p] at e;cases e
    ·cases e2:H b with
     |none=>rfl
     |some ob=>rw[back nb e2] at e;cases e
   refine a1m rs.length (fun i' ys σ' Hc=>(∃t,σ'=[t])/\a0k H4 Hc/\∃qs:List Addr,ys=qs.map V.ref/\qs.Nodup/\∀(j:Nat) (r:Addr) (row:Rw),qs[j]? =some r->pc[i].2[j]? =some row->(H r=none/\H4 r=none)/\r≠D/\r≠fr/\Hc r=some (.dK (rK row))) (by rw[sizeLine_eq];omega) ⟨⟨none,rfl⟩,a0k.upd hD,[],rfl,List.nodup_nil,fun j r row h=>nomatch h⟩ a0b ?_ ?_
   ·rintro i' σ' Hc ys hi' ⟨⟨u,rfl⟩,sc',qs,rfl,qnd,hqs⟩ hyl hD'
    rw[lM0] at hyl;have hrow:i'<pc[i].2.length:=by omega
    refine⟨⟨_,V.ref rs[i'],SqL.of (sc' _ _ l4),by rw[gM0,gE0 hi'];rfl⟩,?_⟩;rintro x H' ⟨rfl,hx'⟩;have ex:=hx' _ (SqL.of (sc' _ _ l4));rw[gM0,gE0 hi'] at ex;cases ex;have r0:=a3 i' rs[i'] pc[i].2[i'] (gE0 hi') (gE0 hrow);have r4:=back (nr _ _ (gQ0 hrow) r0) r0;refine⟨_,rfl,rs[i'],_,rfl,.inl (sc' _ _ r4),fun r' hr'=>?_⟩;have T2:=a0k.upd (o:=.dK (rK pc[i].2[i'])) hr';have rD:r'≠D:=fun e=>by rw[e,hD'] at hr';cases hr'
    refine⟨T2 _ _ hD',⟨_,rfl⟩,(sc'.trans T2).put hD,qs++[r'],by rw[mA0];rfl,(by
     rw[List.nodup_append];refine⟨qnd,List.nodup_cons.mpr ⟨List.not_mem_nil,List.nodup_nil⟩,fun x hx y hy e=>?_⟩;rw[mS0.mp hy] at e;obtain⟨j,hj⟩:=List.getElem?_of_mem hx;have hjl:j<pc[i].2.length:=by have:=(gS0.mp hj).1;omega
     have:=(hqs j x _ hj (gE0 hjl)).2.2.2
     rw[e,hr'] at this;cases this),fun j r row h1 h2=>?_⟩
    by_cases hj:j<qs.length
    ·rw[gL0 hj] at h1
     obtain⟨e1,e2,e4,e3⟩:=hqs j r row h1 h2;exact⟨e1,e2,e4,by rw[a0f e2];exact T2 _ _ e3⟩
    ·have hj':j=qs.length:=by
      have:=(gS0.mp h1).1
      rw[lA0] at this;simp at this
      omega
     subst hj';rw[gR0 (nR0 _),Nat.sub_self] at h1;cases h1;rw[hyl,gE0 hrow] at h2;cases h2;exact⟨⟨nH (a0G sc' hr'),a0G sc' hr'⟩,rD,(fun e=>by rw[e,(T1.trans sc') _ _ (a0p _ _ f1)] at hr';cases hr'),by rw[a0f rD];exact a0b⟩
   ·rintro σ' Hc ys ⟨_,sc',qs,rfl,qnd,hqs⟩ hDn hyl
    rw[lM0] at hyl;have f1c:=(T1.trans sc') _ _ (a0p _ _ f1);have lt':ls'.length=i:=by rw[f2,List.length_take];omega
    refine⟨⟨_,SqL.of (sc' _ _ l4),by rw[lM0];exact nR0 _⟩,_,rfl,_,rfl,fr,_,rfl,.inl ⟨_,.inr pc[i].1,f1c,rfl,(by rw[a6R (by rw[lM0];exact f2),lM0,List.length_take,sizeLine_eq];have:=ok.le;omega),rfl⟩,?_⟩;have hnew:pc[i].1∉(pc.take i).map (·.1):=fun hm=>by
     have nd:=ok.nd;have e:pc.map (·.1)=(pc.take i).map (·.1)++(pc.drop i).map (·.1):=by rw[<-mA0,List.take_append_drop]
     rw[e,List.nodup_append] at nd;refine nd.2.2 _ hm pc[i].1 ?_ rfl;rw[List.drop_eq_getElem_cons hi,mN0];exact List.mem_cons_self
    rw[a3q _ (b3Z hnew),<-b2A (by rw[lM0];exact f2)];have nDf:D≠fr:=fun e=>by rw[e,T1 _ _ (a0p _ _ f1)] at hD;cases hD
    refine⟨by rw[a0f np];exact(T1.trans sc') _ _ h3p,fun b ob hb=>?_,_,_,rfl,ls'++[D],(fun b=>if b∈qs then i else ow b),a0Q hfr ?_,?_,fun j l t h1 h2=>?_⟩
    ·by_cases e:b=p
     ·subst e
      rw[a0b];rw[hp] at hb;exact hb
     ·rw[a0f e,a0f (a0C hb hfr)]
      exact sc' _ _ (back e hb)
    ·rw[a0b,List.take_succ,gE0 hi,mA0]
     rfl
    ·rw[lA0,lt',List.length_take]
     show i+1=_
     omega
    ·by_cases hj:j<i
     ·rw[gL0 (by omega)] at h1
      have h2':(pc.take i)[j]? =some t:=by
       rw[List.getElem?_take] at h2 ⊢;rw[if_pos (by omega)] at h2 ⊢;exact h2
      obtain⟨qs',b1,b2,bn,b3,bo⟩:=f3 j l t h1 h2';have g:=a6X (H0:=H) (T1.trans sc');have nlf:l≠fr:=fun e=>by rw[e,f1] at b1;cases b1
      refine⟨qs',?_,b2,bn,fun j' r row c1 c2=>?_,fun r hr=>?_⟩
      ·rw[a8r hfr,a0f nlf]
       exact g _ _ b1
      ·have b4:=b3 j' r row c1 c2
       have htp:t∈pc:=by
        rw[List.getElem?_take,if_pos hj] at h2';exact gI0 h2'
       have nrf:r≠fr:=fun e=>by
        rw[e,f1] at b4
        injection b4 with e1
        injection e1 with e2
        have hm:((.inr t.1:Key),V.ref l)∈zK ((pc.take i).map (·.1)) ls':=b1z (j:=j) (by rw[gM0,h2'];rfl) h1;rw[e2] at hm;exact a6x (ok.rw_ t htp row (gI0 c2)) (fun xs h=>by rw[a1K b1] at h;cases h) hm
       rw[a8r hfr,a0f nrf];exact g _ _ b4
      ·have nq:r∉qs:=fun hq=>by
        obtain⟨n1,hn1⟩:=List.getElem?_of_mem hq;have hl1:n1<pc[i].2.length:=by have:=(gS0.mp hn1).1;omega
        have z1:=(hqs n1 r _ hn1 (gE0 hl1)).1.2;obtain⟨n2,hn2⟩:=List.getElem?_of_mem hr;have hl2:n2<t.2.length:=by have:=(gS0.mp hn2).1;omega
        have z2:=T1 _ _ (a0p _ _ (b3 n2 r _ hn2 (gE0 hl2)));rw[z1] at z2;cases z2
       show(if r∈qs then i else ow r)=j
       rw[if_neg nq];exact bo r hr
     ·have hj':j=i:=by
       have:=(gS0.mp h1).1
       rw[lA0,lt'] at this;simp at this
       omega
      subst hj';rw[gR0 (by omega),lt',Nat.sub_self] at h1;cases h1;rw[List.getElem?_take,if_pos (by omega),gE0 hi] at h2;cases h2;refine⟨qs,a0Q (nH hD) (by rw[a0f nDf];exact hDn),by omega,qnd,(fun j' r row c1 c2=>?_),fun r hr=>if_pos hr⟩;obtain⟨e1,e2,nrf,e3⟩:=hqs j' r row c1 c2;exact a0Q e1.1 (by rw[a0f nrf];exact e3)
  ·rintro σ H3 ⟨h3p,sm,u2,u3,rfl,hfin⟩
   rw[kl,List.take_length] at hfin;exact⟨h3p,_,rfl,q fr _ sm (hfin.same (b2g hp))⟩
end
end My
namespace L2
open PySem PySem.Spec PyProof.Rows
theorem b3t {H:Hp}{l:Addr}:a0k (del H l) H:=fun b o e=>by
 have hb:b≠l:=fun z=>by rw[z,a3p] at e;cases e
 rwa [a2y hb] at e
theorem b3x {H H':Hp}{l:Addr}{o:HO}(s:a0k H H'):a0k (del H l) (del (upd H' l o) l):=fun b u e=>by
 have hb:b≠l:=fun z=>by rw[z,a3p] at e;cases e
 rw[a2y hb] at e;rw[a2y hb,a0f hb];exact s _ _ e
end L2
namespace My
open PySem L2 PyProof.Rows
seal L2.PE L2.PT L2.PW L2.PS L2.PSs L2.PA L2.PI L2.PG L2.PGs L2.OpR L2.a1e L2.IxR L2.SlR L2.MtR L2.PIf L2.PO L2.MtM L2.PC L2.a7F
theorem a5t:∀{l:List Str} {p:Str},(p::l).Pairwise (fun a b=>leS a b=true)->PyProof.Rows.risingS p l=true
 |[],p,_=>rfl
 |x::r,p,h=>by
  unfold PyProof.Rows.risingS;rw[Bool.and_eq_true];have h1:=(List.pairwise_cons.mp h).1 x List.mem_cons_self;unfold leS at h1;rw[PyProof.Rows.le_meets] at h1;exact⟨h1,a5t (List.pairwise_cons.mp h).2⟩
theorem a6H {zs:List Str}(h:a5Z zs):sortedS zs=true:=by
 have h':zs.Pairwise fun a b=>leS a b=true:=h.imp fun hab=>by
  unfold leS;rw[dF0 hab]
  rfl
 cases zs with
 |nil=>rfl
 |cons x r=>exact a5t h'
theorem a6j {zs:List Str}(h:sortedS zs=true):a5Z zs:=(a2D h).imp fun hab q=>by
 unfold leS at hab;rw[dT0 q] at hab;cases hab
theorem b1B {cols:List (Str×V)}(nd:(cols.map (·.1)).Nodup){i:Nat}{c:Str×V}(h:cols[i]? =some c):vOf cols c.1=c.2:=by
 induction cols generalizing i with
 |nil=>cases h
 |cons a r ih=>
  rw[mN0,List.nodup_cons] at nd;cases i with
  |zero=>
   cases h;unfold vOf kvC;rw[mN0,a1x rfl]
   rfl
  |succ i=>
   have hm:c∈r:=gI0 (i:=i) h;have hne:a.1≠c.1:=fun e=>nd.1 (by rw[e];exact mM0.mpr ⟨c,hm,rfl⟩)
   have:=ih nd.2 (i:=i) h
   unfold vOf kvC at this ⊢;rw[mN0,a1G (fun e=>hne (by injection e))];exact this
theorem a9k {l:List Str}{ix:List Nat}{n:Nat}(hp:ix.Perm (List.range n))(hn:n=l.length):(ix.map fun i=>l.getD i ("":Str)).Perm l:=by
 refine(hp.map _).trans (List.Perm.of_eq ?_);subst hn;refine List.ext_getElem (by simp) fun i h1 h2=>?_;simp only[List.getElem_map,List.getElem_range,List.getD_eq_getElem?_getD,gE0 h2]
 rfl
theorem a7k {H:Hp}{ct:Addr}{o:Obj}{as:List Addr}{ix:List Nat}{cols:List (Str×V)}(nd:(cols.map (·.1)).Nodup)(ho:o.dict=none)(hl:as.length=cols.length)(pm:ix.Perm (List.range as.length))(rs:a5Z (ix.map fun i=>(cols.map (·.1)).getD i ("":Str)))(hc:H ct=some (.frz o (.tup ((ix.map fun i=>as.getD i 0).map V.ref))))
  (g:∀(i:Nat) (a:Addr) (c:Str×V),as[i]? =some a->cols[i]? =some c->H a=some (.tup [.str c.1,c.2])):a1v H ct cols:=by
 refine⟨o,_,_,a9k pm (by rw[lM0];exact hl),a6H rs,ho,hc,by rw[lM0,lM0],fun j p z h1 h2=>?_⟩;rw[gM0] at h1 h2;cases e:ix[j]? with
 |none=>rw[e] at h1;cases h1
 |some i=>
  rw[e] at h1 h2;have hi:i<as.length:=List.mem_range.mp (pm.mem_iff.mp (gI0 e));have hi2:i<cols.length:=by omega
  have e1:as[i]? =some p:=by
   rw[<-h1];show as[i]? =some (as.getD i 0);rw[List.getD_eq_getElem?_getD,gE0 hi]
   rfl
  have e2:z=cols[i].1:=by
   have h3:some ((cols.map (·.1)).getD i ("":Str))=some z:=h2;rw[List.getD_eq_getElem?_getD,gM0,gE0 hi2] at h3;exact(Option.some.inj h3).symm
  have h4:=g i p cols[i] e1 (gE0 hi2);rw[e2,b1B nd (gE0 hi2)];exact h4
theorem a5Q {α:Type}{f:α->Str}{g:α->V}{l:List α}(nd:(l.map f).Nodup){t:α}(h:t∈l):a1U (l.map fun t=>((Sum.inr (f t):Key),g t)) (.inr (f t))=some (g t):=by
 induction l with
 |nil=>cases h
 |cons a r ih=>
  rw[mN0,List.nodup_cons] at nd;rw[mN0];rcases mK0.mp h with rfl |h
  ·exact a1x rfl
  ·rw[a1G (fun e=>nd.1 (by
    have e2:f a=f t:=by injection e
    rw[e2];exact mM0.mpr ⟨t,h,rfl⟩))]
   exact ih nd.2 h
theorem a5n {α:Type}{f:α->Str}{l:List α}(nd:(l.map f).Nodup):l.Nodup:=by
 rw[List.nodup_iff_pairwise_ne] at nd ⊢;rw[List.pairwise_map] at nd;exact nd.imp fun h e=>h (by rw[e])
theorem b3f {α:Type}{f:α->Str}{l:List α}(nd:(l.map f).Nodup){a b:α}(ha:a∈l)(hb:b∈l)(e:f a=f b):a=b:=by
 induction l with
 |nil=>cases ha
 |cons x r ih=>
  rw[mN0,List.nodup_cons] at nd;rcases mK0.mp ha with h1 |h1
  ·rcases mK0.mp hb with h2 |h2
   ·rw[h1,h2]
   ·exact absurd (mM0.mpr ⟨b,h2,by rw[<-e,h1]⟩) nd.1
  ·rcases mK0.mp hb with h2 |h2
   ·exact absurd (mM0.mpr ⟨a,h1,by rw[e,h2]⟩) nd.1
   ·exact ih nd.2 h1 h2
structure Sd where
 n:Str
 so:Str
 t:Addr
 d:Addr
 c:List (Str×V)
def Sd.tb (x:Sd):Tb:=⟨x.n,x.so,x.c⟩
structure TbD (H:Hp) (d:Addr) (c:List (Str×V)):Prop where
 at_:H d=some (.dK (kvC c))
 nd:(c.map (·.1)).Nodup
 le:c.length<=12
theorem TbD.same {H H':Hp}{d:Addr}{c:List (Str×V)}(h:TbD H d c)(s:a0k H H'):TbD H' d c:=⟨s _ _ h.at_,h.nd,h.le⟩
def b3M:Sp:=fun vs H Q _=>∃(z:Int) (n0:Str) (cd sd:Addr) (c0:List (Str×V)) (S:List Sd),vs=[.int z,.str n0,.ref cd,.ref sd]/\TbD H cd c0/\H sd=some (.dK (S.map fun x=>(.inr x.n,.ref x.t)))/\(S.map (·.n)).Nodup/\S.length<=7 ∧
 (∀x∈S,H x.t=some (.tup [.str x.so,.ref x.d])/\TbD H x.d x.c) ∧
 ∀fm Us H',a0k H H'->a0W H' fm z (⟨n0,"head",c0⟩::Us)->Us.Perm (S.map Sd.tb)->a5Z (Us.map (·.name))->Q (.ref fm) H'
section
variable {P:Program}{w:World}{K:Fg0}{mg:Str->Option Value}{base:Heap}
theorem b3A {f:Addr}{fd:FuncData}(F:Fun K "_law_form" "_law_form" (top 46) f fd)(B:Bl mg):a0y P w K mg base CX0 1 f fd ["_law_size","_law_head","_law_columns","_law_sides"] b3M:=by
 have sc:a0o ["_law_size","_law_head","_law_columns","_law_sides","_law_tables","_law_name","_law_sort","_law_own"] ["_law_size","_law_head","_law_columns","_law_sides"] (a0e (top 46)):=.k (by decide +kernel);refine F.ok sc (fun vs H Q E h=>?_) (fun cdv A outer s H vs Q E hr h=>?_)
 ·obtain⟨z,n0,cd,sd,c0,S,rfl,_⟩:=h
  rfl
 ·obtain⟨z,n0,cd,sd,c0,S,rfl,hcd,hsd,nS,l7,hS,q⟩:=h
  have hu:=a2o hr;refine⟨_,a0d (a0w (i:=4) sc.nd rfl (Or.inl rfl) (a1S (a0a (a0P (a0a (pv 1) (a0a a0M (a0a (a0I a2L (by rfl) B.tuple boot_tuple (a0a (a0i (a2R rfl) (by rfl) B.sorted boot_sorted (a0a (a5l PySem.F.plainAttrs_dict PySem.F.slot_dict_items PySem.F.type_dict_items a7v (pv 2)) a0c)) a0c)) a0c)))) a0c)))
   (a0d (a1A PassesOwn.never rfl (a1D (a0i (a3g rfl) (by rfl) B.sorted boot_sorted (a0a (pv 3) a0c))) (a0q (i:=5) sc.nd rfl (Or.inl rfl))
    (a0d (b1C (a2a hu (pv 3) (pv 5) (fun _ _=>rfl)) (a3L rfl (a0E (a0q (i:=6) sc.nd rfl (Or.inl rfl)) (a0E (a0q (i:=7) sc.nd rfl (Or.inl rfl)) a1Y))))
    (a0h (a0U (a4A PySem.F.plainAttrs_list PySem.F.slot_list_append PySem.F.type_list_append a7D (pv 4) (a0a (a0P (a0a (pv 5) (a0a (pv 6) (a0a (a0I a2L (by rfl) B.tuple boot_tuple (a0a (a0i (a2R rfl) (by rfl) B.sorted boot_sorted (a0a (a5l PySem.F.plainAttrs_dict PySem.F.slot_dict_items PySem.F.type_dict_items a7v (pv 7)) a0c)) a0c)) a0c)))) a0c))))))
   (a0h (a0s (a0P (a0a (pv 0) (a0a (a0I a1t (by rfl) B.tuple boot_tuple (a0a (pv 4) a0c)) a0c)))))),?_⟩
  have kvz:∀c:List (Str×V),(kvC c).map (·.1)=(c.map (·.1)).map Sum.inr:=fun c=>by
   unfold kvC;rw[mC0,mC0]
   rfl
  have kvl:∀c:List (Str×V),(kvC c).length=c.length:=fun c=>by unfold kvC;rw[lM0]
  have kvg:∀(c:List (Str×V)) (i:Nat) (x:Str×V),c[i]? =some x->(kvC c)[i]? =some (.inr x.1,x.2):=fun c i x h=>by
   unfold kvC;rw[gM0,h]
   rfl
  refine⟨_,rfl,_,rfl,.inr (.inr (.inl ⟨rfl,.inl ⟨_,hcd.at_⟩⟩)),cd,_,rfl,rfl,.inl hcd.at_,fun pw hpw=>?_⟩;have T1:=a0k.upd (o:=.ext (vwP pw cd)) hpw;refine⟨pw,cd,_,c0.map (·.1),rfl,a0b,.inl (T1 _ _ hcd.at_),kvz c0,hcd.nd,by rw[lM0];have:=hcd.le;omega,fun sl as ix H5 m1 m2 m3 nd len5 s5 g5 pm rise el=>?_⟩;refine⟨sl,_,rfl,SqL.of el,fun ct o hct ho=>⟨(show 3<=sizeLine by decide),fun e0 he0=>⟨(show 1<=sizeLine by decide),fun l hl=>?_⟩⟩⟩;have T6:=a0k.upd (o:=.frz o (.tup ((ix.map fun i=>as.getD i 0).map V.ref))) hct;have T7:=a0k.upd (o:=.tup [.str n0,.str "head",.ref ct]) he0;have T8:=a0k.upd (o:=.lst [.ref e0]) hl;have a6:=a0b (H:=H5) (a:=ct) (o:=.frz o (.tup ((ix.map fun i=>as.getD i 0).map V.ref)));have cs:a1v (upd H5 ct (.frz o (.tup ((ix.map fun i=>as.getD i 0).map V.ref)))) ct c0:=a7k hcd.nd ho (len5.trans (kvl c0)) pm rise a6 fun i a c h1 h2=>T6 _ _ (g5 i a _ _ h1 (kvg c0 i c h2));have sm0:=((T1.trans s5).trans T6).trans T7;have hlH:H l=none:=a0G sm0 hl;have en0:a2k (upd (upd H5 ct (.frz o (.tup ((ix.map fun i=>as.getD i 0).map V.ref)))) e0 (.tup [.str n0,.str "head",.ref ct])) e0 ⟨n0,"head",c0⟩:=⟨ct,a0b,cs.same T7⟩;generalize upd (upd H5 ct (.frz o (.tup ((ix.map fun i=>as.getD i 0).map V.ref)))) e0 (.tup [.str n0,.str "head",.ref ct])=H7 at *;have e8:=a0b (H:=H7) (a:=l) (o:=.lst [.ref e0]);have dn8:a0k H7 (del (upd H7 l (.lst [.ref e0])) l):=fun b u e=>by
   have hb:b≠l:=fun z=>by rw[z,hl] at e;cases e
   rw[a2y hb,a0f hb];exact e
  generalize upd H7 l (.lst [.ref e0])=H8 at *;have s8:=sm0.trans T8;refine⟨_,rfl,sd,_,S.map (·.n),rfl,.inl (s8 _ _ hsd),(by rw[mC0,mC0];rfl),(by rw[lM0];omega),fun ly ys hly yp yso=>?_⟩;have T9:=a0k.upd (o:=.lst (ys.map V.str)) hly;have e9:=a0b (H:=H8) (a:=ly) (o:=.lst (ys.map V.str));have nly:l≠ly:=fun z=>by rw[<-z,e8] at hly;cases hly
  have dn9:a0k H7 (del (upd H8 ly (.lst (ys.map V.str))) l):=fun b u e=>by
   have h1:=dn8 b u e;have hb:b≠l:=fun z=>by rw[z,a3p] at h1;cases h1
   rw[a2y hb] at h1;rw[a2y hb];exact T9 _ _ h1
  generalize upd H8 ly (.lst (ys.map V.str))=H9 at *;have yl:ys.length=S.length:=by rw[yp.length_eq,lM0]
  have vd:∀y∈ys,∃x∈S,x.n=y/\a1U (S.map fun x=>((.inr x.n:Key),V.ref x.t)) (.inr y)=some (.ref x.t):=fun y hy=>by
   obtain⟨x,hx,rfl⟩:=mM0.mp (yp.mem_iff.mp hy);exact⟨x,hx,rfl,a5Q (f:=Sd.n) (g:=fun x:Sd=>V.ref x.t) nS hx⟩
  refine⟨ly,rfl,⟨_,SqL.of e9⟩,?_⟩;refine a2C (K:=K) (xs:=ys.map V.str) (fun i σ H2=>(∃u5 u6 u7,σ=[some (.int z),some (.str n0),some (.ref cd),some (.ref sd),some (.ref l),u5,u6,u7])/\a0k H H2/\H2 ly=some (.lst (ys.map V.str))/\∃(es:List Addr) (Ts:List Tb),H2 l=some (.lst (es.map V.ref))/\es.length=i+1/\Ts.length=i+1/\(∀(j:Nat) (e:Addr) (T:Tb),es[j]? =some e->Ts[j]? =some T->a2k (del H2 l) e T)/\∃Us,Ts=⟨n0,"head",c0⟩::Us/\Us.map (·.name)=ys.take i/\∀T∈Us,T∈S.map Sd.tb) ⟨⟨_,_,_,rfl⟩,s8.trans T9,e9,[e0],[⟨n0,"head",c0⟩],T9 _ _ e8,rfl,rfl,fun j e T h1 h2=>?_,[],rfl,rfl,fun T hT=>(nomatch hT)⟩ (fun i σ H2 _ p=>SqL.of p.2.2.1) ?_ ?_
  ·match j,h1,h2 with
   |0,h1,h2=>
    cases h1;cases h2;exact en0.same dn9
  ·rintro i x σ H2 hx ⟨⟨u5,u6,u7,rfl⟩,sm,hly2,es,Ts,hl2,esl,tsl,hes,Us,hTU,hnm,hUs⟩
   obtain⟨y,hy,rfl⟩:∃y,ys[i]? =some y/\x=.str y:=by
    rw[gM0] at hx;cases e:ys[i]? with
    |none=>rw[e] at hx;cases hx
    |some y=>rw[e] at hx;cases hx;exact⟨y,rfl,rfl⟩
   obtain⟨x,hxS,rfl,v1⟩:=vd y (gI0 hy);obtain⟨v2,v3⟩:=hS x hxS;refine⟨_,rfl,_,rfl,sd,_,rfl,.inl ⟨_,.inr x.n,.inl (sm _ _ hsd),rfl,v1.symm⟩,?_⟩;refine⟨x.t,_,rfl,SqT.of (sm _ _ v2),rfl,_,_,rfl,_,_,rfl,rfl,?_⟩;have td:=v3.same sm;refine⟨_,rfl,.inl ⟨rfl,_,SqL.of hl2⟩,_,rfl,_,rfl,_,rfl,.inr (.inr (.inl ⟨rfl,.inl ⟨_,td.at_⟩⟩)),x.d,_,rfl,rfl,.inl td.at_,fun pw' hpw'=>?_⟩;have U1:=a0k.upd (o:=.ext (vwP pw' x.d)) hpw';refine⟨pw',x.d,_,x.c.map (·.1),rfl,a0b,.inl (U1 _ _ td.at_),kvz x.c,td.nd,by rw[lM0];have:=td.le;omega,fun sl' as' ix' H5' m1 m2 m3 nd' len5' s5' g5' pm' rise' el'=>?_⟩;refine⟨sl',_,rfl,SqL.of el',fun ct' o' hct' ho'=>⟨(show 3<=sizeLine by decide),fun e' he'=>?_⟩⟩;have U6:=a0k.upd (o:=.frz o' (.tup ((ix'.map fun i=>as'.getD i 0).map V.ref))) hct';have U7:=a0k.upd (o:=.tup [.str x.n,.str x.so,.ref ct']) he';have a6':=a0b (H:=H5') (a:=ct') (o:=.frz o' (.tup ((ix'.map fun i=>as'.getD i 0).map V.ref)));have cs':a1v (upd H5' ct' (.frz o' (.tup ((ix'.map fun i=>as'.getD i 0).map V.ref)))) ct' x.c:=a7k td.nd ho' (len5'.trans (kvl x.c)) pm' rise' a6' fun i a c' h1 h2=>U6 _ _ (g5' i a _ _ h1 (kvg x.c i c' h2));have su:=((U1.trans s5').trans U6).trans U7;have en':a2k (upd (upd H5' ct' (.frz o' (.tup ((ix'.map fun i=>as'.getD i 0).map V.ref)))) e' (.tup [.str x.n,.str x.so,.ref ct'])) e' x.tb:=⟨ct',a0b,cs'.same U7⟩;generalize upd (upd H5' ct' (.frz o' (.tup ((ix'.map fun i=>as'.getD i 0).map V.ref)))) e' (.tup [.str x.n,.str x.so,.ref ct'])=H7' at *;have dd:a2k (del H7' l) e' x.tb:=by
    have hl7:=su _ _ hl2;obtain⟨ct2,x1,o2,ps2,zs2,y1,y2,x2,x3,x4,x5⟩:=en';have ne:∀b xs,H7' b=some (.tup xs)->b≠l:=fun b xs e z=>by rw[z,hl7] at e;cases e
    have nf:∀b oo xs,H7' b=some (.frz oo xs)->b≠l:=fun b oo xs e z=>by rw[z,hl7] at e;cases e
    exact⟨ct2,(a2y (ne _ _ x1)).trans x1,o2,ps2,zs2,y1,y2,x2,(a2y (nf _ _ _ x3)).trans x3,x4,fun j p c h1 h2=>(a2y (ne _ _ (x5 j p c h1 h2))).trans (x5 j p c h1 h2)⟩
   have il:i<7:=by have:=(gS0.mp hy).1;omega
   refine⟨l,_,_,rfl,rfl,su _ _ hl2,(by rw[lM0,sizeLine_eq];omega),⟨_,_,_,rfl⟩,(sm.trans su).put hlH,?_,es++[e'],Ts++[x.tb],?_,by rw[lA0,esl];rfl,by rw[lA0,tsl];rfl,fun j e T h1 h2=>?_,Us++[x.tb],by rw[hTU];rfl,?_,fun T hT=>?_⟩
   ·rw[a0f (Ne.symm nly)]
    exact su _ _ hly2
   ·rw[a0b,mA0]
    rfl
   ·by_cases hj:j<es.length
    ·rw[gL0 hj] at h1
     rw[gL0 (by omega)] at h2;exact(hes j e T h1 h2).same (b3x su)
    ·have ej:j=es.length:=by
      have:=(gS0.mp h1).1
      rw[lA0] at this;simp at this
      omega
     subst ej;rw[gR0 (nR0 _),Nat.sub_self] at h1;rw[gR0 (by omega),esl,tsl,Nat.sub_self] at h2;cases h1;cases h2;refine dd.same fun b u e=>?_;have hb:b≠l:=fun z=>by rw[z,a3p] at e;cases e
     rw[a2y hb] at e;rw[a2y hb,a0f hb];exact e
   ·rw[mA0,hnm,List.take_add_one,hy]
    rfl
   ·rcases mB0.mp hT with h |h
    ·exact hUs T h
    ·rw[mS0.mp h]
     exact mM0.mpr ⟨x,hxS,rfl⟩
  ·rintro σ H2 ⟨⟨u5,u6,u7,rfl⟩,sm,hly2,es,Ts,hl2,esl,tsl,hes,Us,rfl,hnm,hUs⟩
   refine⟨_,rfl,_,rfl,l,_,rfl,.inl ⟨SqL.of hl2,fun tt htt=>⟨(show 2<=sizeLine by decide),fun fm hfm=>?_⟩⟩⟩;have U1:=a0k.upd (o:=.tup (es.map V.ref)) htt;have U2:=a0k.upd (o:=.tup [.int z,.ref tt]) hfm;rw[lM0,List.take_length] at hnm;have ndU:(Us.map (·.name)).Nodup:=by rw[hnm];exact yp.nodup_iff.mpr nS
   refine q fm Us _ (sm.trans (U1.trans U2)) ⟨tt,es,a0b,U2 _ _ a0b,by omega,fun j e T h1 h2=>(hes j e T h1 h2).same (b3t.trans (U1.trans U2))⟩ ?_ (by rw[hnm];exact a6j yso);have nU:Us.Nodup:=a5n ndU;have nT:(S.map Sd.tb).Nodup:=a5n (f:=fun T:Tb=>T.name) (by rw[mC0];exact nS);refine(List.perm_ext_iff_of_nodup nU nT).mpr fun T=>⟨hUs T,fun hT=>?_⟩;obtain⟨x,hx,rfl⟩:=mM0.mp hT
   have:x.n∈Us.map (·.name):=by rw[hnm];exact yp.mem_iff.mpr (mM0.mpr ⟨x,hx,rfl⟩)
   obtain⟨U,hU,eU⟩:=mM0.mp this;obtain⟨x',hx',rfl⟩:=mM0.mp (hUs U hU)
   have:x'=x:=b3f nS hx' hx eU
   rw[<-this];exact hU
end
end My
namespace L2
open PySem PySem.Spec PyProof.Rows
theorem Lq.up {H:Hp}{n:Nat}{x y:V}(h:Lq H n x y):Lq H (n+1) x y:=by
 induction h with
 |non=>exact .non
 |bl=>exact .bl
 |int=>exact .int
 |str=>exact .str
 |tup ha hb hl _ ih=>exact .tup ha hb hl ih
 |lst ha hb hl _ ih=>exact .lst ha hb hl ih
 |dct f ha hb hl hf hg _ ih=>exact .dct f ha hb hl hf hg ih
end L2
namespace My
open PySem L2 PyProof.Rows
seal L2.PE L2.PT L2.PW L2.PS L2.PSs L2.PA L2.PI L2.PG L2.PGs L2.OpR L2.a1e L2.IxR L2.SlR L2.MtR L2.PIf L2.PO L2.MtM L2.PC L2.a7F
theorem a2e {d:Dt}{z:Str}(h:a1u d z=true):∃y,d=.str y:=by
 cases d with
 |str y=>exact⟨y,rfl⟩
 |_=>cases h
theorem b1f {H:Hp}{n:Nat}{a b:Addr}{x y:V}(ha:Rd H a (.tup [x]))(hb:Rd H b (.tup [y]))(h1:Lq H n x y):Lq H (n+1) (.ref a) (.ref b):=by
 refine .tup ha hb rfl fun i u v hu hv=>?_
 match i,hu,hv with
 |0,hu,hv=>cases hu;cases hv;exact h1
 |i+1,hu,hv=>simp at hu
theorem a3G {H:Hp}{n:Nat}{a b:Addr}{x y x2 y2:V}(ha:Rd H a (.tup [x,x2]))(hb:Rd H b (.tup [y,y2]))(h1:Lq H n x y)(h2:Lq H n x2 y2):Lq H (n+1) (.ref a) (.ref b):=by
 refine .tup ha hb rfl fun i u v hu hv=>?_
 match i,hu,hv with
 |0,hu,hv=>cases hu;cases hv;exact h1
 |1,hu,hv=>cases hu;cases hv;exact h2
 |i+2,hu,hv=>simp at hu
theorem a6L {H:Hp}{d:Dt}{v:V}(hp:a2Y d=true)(h:Rep H d v):Lq H 1 v v:=by
 match d,hp,h with
 | .tup [s],hp,h=>
  simp only[Rep,a1N] at h;obtain⟨a,xs,rfl,ha,v1,vs,rfl,h1,rfl⟩:=h;obtain⟨z,_,hz⟩:=List.any_eq_true.mp (show w2.any (a1u s)=true from hp);obtain⟨y,rfl⟩:=a2e hz;simp only[Rep] at h1;rw[h1.1] at ha;exact b1f (.inl ha) (.inl ha) .str
 | .tup [s,b],hp,h=>
  simp only[Rep,a1N] at h;obtain⟨a,xs,rfl,ha,v1,vs,rfl,h1,v2,vs2,rfl,h2,rfl⟩:=h;have hp':a4i s b=true:=hp;unfold a4i at hp';have hs:∃y,s=.str y:=by
   by_cases e1:a1u s "below"=true
   ·exact a2e e1
   ·rw[if_neg e1] at hp'
    by_cases e2:a1u s "upto"=true
    ·exact a2e e2
    ·rw[if_neg e2] at hp'
     exact a2e (Bool.and_eq_true_iff.mp hp').1
  have hb:(∃i,b=.int i)\/∃y,b=.str y:=by
   cases b with
   |int i=>exact .inl ⟨i,rfl⟩
   |str y=>exact .inr ⟨y,rfl⟩
   |_=>
    simp only[geD,a3y,a6d,Bool.and_false] at hp'
    split at hp'
    ·cases hp'
    ·split at hp'<;>cases hp'
  obtain⟨y,rfl⟩:=hs;simp only[Rep] at h1;rw[h1.1] at ha;rcases hb with ⟨i,rfl⟩ |⟨y2,rfl⟩
  ·simp only[Rep] at h2
   rw[h2] at ha;exact a3G (.inl ha) (.inl ha) .str .int
  ·simp only[Rep] at h2
   rw[h2.1] at ha;exact a3G (.inl ha) (.inl ha) .str .str
theorem b2d {H:Hp}{d:Dt}{v:V}(hk:a3o d=true)(h:Rep H d v):Lq H 2 v v:=by
 unfold a3o at hk;rcases Bool.or_eq_true_iff.mp hk with hp |hm
 ·exact(a6L hp h).up
 ·match d,hm,h with
  | .tup [s],hm,h=>
   simp only[Rep,a1N] at h;obtain⟨a,xs,rfl,ha,v1,vs,rfl,h1,rfl⟩:=h;obtain⟨y,rfl⟩:=a2e (show a1u s "key"=true from hm);simp only[Rep] at h1;rw[h1.1] at ha;exact b1f (.inl ha) (.inl ha) .str
  | .tup [s,b],hm,h=>
   simp only[Rep,a1N] at h;obtain⟨a,xs,rfl,ha,v1,vs,rfl,h1,v2,vs2,rfl,h2,rfl⟩:=h;have hm':=Bool.and_eq_true_iff.mp (show(w3.any (a1u s)&&a2Y b)=true from hm);obtain⟨z,_,hz⟩:=List.any_eq_true.mp hm'.1;obtain⟨y,rfl⟩:=a2e hz;simp only[Rep] at h1;rw[h1.1] at ha;exact a3G (.inl ha) (.inl ha) .str (a6L hm'.2 h2)
theorem b2E {H:Hp}{t t':Addr}{cols:List (Str×V)}(ok:a0L H cols)(h:a1v H t cols)(h':a1v H t' cols):Lq H 4 (.ref t) (.ref t'):=by
 obtain⟨o,ps,zs,p1,s1,d1,h1,l1,e1⟩:=h;obtain⟨o',ps',zs',p2,s2,d2,h2,l2,e2⟩:=h';obtain rfl:=a3R s1 s2 p1 p2;refine .tup (.inr ⟨o,h1⟩) (.inr ⟨o',h2⟩) (by rw[lM0,lM0,l1,l2]) fun i x y hx hy=>?_;rw[gM0] at hx hy;cases ex:ps[i]? with
 |none=>rw[ex] at hx;cases hx
 |some p=>
  cases ey:ps'[i]? with
  |none=>rw[ey] at hy;cases hy
  |some p'=>
   rw[ex] at hx;rw[ey] at hy;cases hx;cases hy;have hi:i<zs.length:=by have:=(gS0.mp ex).1;omega
   have a:=e1 i p _ ex (gE0 hi);have a':=e2 i p' _ ey (gE0 hi);obtain⟨_,d,r,kd,_⟩:=a3U ok (p1.mem_iff.mp (gQ0 hi));refine .tup (.inl a) (.inl a') rfl fun k x y hx hy=>?_
   match k,hx,hy with
   |0,hx,hy=>cases hx;cases hy;exact .str
   |1,hx,hy=>cases hx;cases hy;exact b2d kd r
theorem b2w {H:Hp}{f f':Addr}{sz:Int}{Ts:List Tb}(ok:∀T∈Ts,a0L H T.cols)(h:a0W H f sz Ts)(h':a0W H f' sz Ts):Lq H 7 (.ref f) (.ref f'):=by
 obtain⟨tt,es,a1,a2,a3,a4⟩:=h;obtain⟨tt',es',b1,b2,b3,b4⟩:=h';refine .tup (.inl a1) (.inl b1) rfl fun k x y hx hy=>?_
 match k,hx,hy with
 |0,hx,hy=>cases hx;cases hy;exact .int
 |1,hx,hy=>
  cases hx;cases hy;refine .tup (.inl a2) (.inl b2) (by rw[lM0,lM0,a3,b3]) fun i x y hx hy=>?_;rw[gM0] at hx hy;cases ex:es[i]? with
  |none=>rw[ex] at hx;cases hx
  |some e=>
   cases ey:es'[i]? with
   |none=>rw[ey] at hy;cases hy
   |some e'=>
    rw[ex] at hx;rw[ey] at hy;cases hx;cases hy;have hi:i<Ts.length:=by have:=(gS0.mp ex).1;omega
    obtain⟨ct,c1,c2⟩:=a4 i e _ ex (gE0 hi);obtain⟨ct',c1',c2'⟩:=b4 i e' _ ey (gE0 hi);refine .tup (.inl c1) (.inl c1') rfl fun k x y hx hy=>?_
    match k,hx,hy with
    |0,hx,hy=>cases hx;cases hy;exact .str
    |1,hx,hy=>cases hx;cases hy;exact .str
    |2,hx,hy=>cases hx;cases hy;exact b2E (ok _ (gQ0 hi)) c2 c2'
theorem b1r {H:Hp}{f f':Addr}{sz:Int}{T0 T0':Tb}{R R':List Tb}(h:FAt H f sz T0 R)(h':FAt H f' sz T0' R')(e0:cn T0=cn T0')(p:(R.map cn).Perm (R'.map cn))(nd:(R'.map (·.name)).Nodup)(ok:∀T∈T0'::R',a0L H T.cols):Lq H 7 (.ref f) (.ref f'):=by
 obtain⟨U,a1,a2,a3⟩:=h;obtain⟨U',b1,b2,b3⟩:=h';have nd':((R'.map cn).map (·.name)).Nodup:=by rw[a2N];exact nd
 obtain rfl:=b2s nd' (a2.trans p) b2 a3 b3;rw[e0] at a1;refine b2w (fun T hT=>?_) a1 b1;rcases mK0.mp hT with rfl |hT
 ·exact(ok T0' List.mem_cons_self).cn
 ·obtain⟨X,hX,rfl⟩:=mM0.mp (b2.mem_iff.mp hT)
  exact(ok X (mL0 _ hX)).cn
end My
namespace L2
open PySem PySem.Spec PyProof.Rows
section
variable {X:Cx}
theorem a7G:MtR X "dict.update" (fun x xs H Q=>∃(a b:Addr) (kvs kws:List (Key×V)),x=.ref a/\xs=[.ref b]/\a≠b/\H a=some (.dK kvs)/\H b=some (.dK kws)/\kvs.length+kws.length<=sizeLine/\Q .non (upd H a (.dK (a1n kvs kws)))):=by
 intro pins s σ H x xs u us Q I rx r h;obtain⟨a,b,kvs,kws,rfl,rfl,nab,ea,eb,hl,q⟩:=h;cases rx;obtain⟨u',rfl,ru⟩:=a2b r;cases ru;obtain⟨z,hd,vs,rel,dd⟩:=a4V I.hok ea;obtain⟨z2,hd2,ws,rel2,dd2⟩:=a4V I.hok eb;have hz:=rel.length;have hz2:=rel2.length;refine call_meetsIn F.slot_dict_update dd.typeIs F.entry_dict_update (F.args_dict_update_2 _ _) (meets_dict_update (a0n X.prog X.w) a b nab hd2) ⟨vs,ws,dd,dd2,(by omega),fun h' dd' _ hs=>?_⟩;have hl2:(a1n kvs kws).length<=sizeLine:=by have:=a2m kws kvs;omega
 have he:∃q,h'.get? a=some q:=let ⟨q,_,_,hq,_⟩:=dd';⟨q,hq⟩
 exact⟨.non,_,a2M (t':=s.toks) I (by rw[ea];exact True.intro) hs he (a2V hl2 hd (rel2.merge rel) dd'),rfl,q⟩
end
section
variable {P:Program}{w:World}{A:Around}{E:Vs0}{s:Shared}{a:Addr}
theorem b1W {h:Heap}{ks:List Key}{i:Nat}{e:Value}{hh:Int}{Q:Bool->Shared->Prop}(hlt:i<ks.length)(e1:(a0n P w).is ks[i] e=true)(e2:hh=(a0n P w).hash ks[i])(e3:e.scannable=true)(nd:ks.Nodup)(hb:ks.length+1<scanBound)
  (hS:s.heap.SetOf (a0n P w) a (fun k=>(ks.take i).any fun x=>decide (x=k)) i)
  (q:∀b h',Heap.SameBut a s.heap h'->h'.SetOf (a0n P w) a (fun k=>(ks.take (i+1)).any fun x=>decide (x=k)) (i+1)->Q b { s with heap:=h' }):wpAny (model P w) A (setAddHashed a e hh) Q E s:=by
 rw[e2];have hni:((ks.take i).any fun x=>decide (x=ks[i]))=false:=by
  rw[List.any_eq_false];intro x hx;rw[decide_eq_true_iff];intro q;obtain⟨j,hj,ej⟩:=List.mem_take_iff_getElem.mp hx
  have:j=i:=(List.getElem_inj nd).mp (ej.trans q)
  omega
 refine wpAny_setAddHashed_of (knd:=a0n P w) e1 e3 hS (by omega) fun h' sb hS'=>?_;rw[hni,if_neg bF0] at hS';have ef:(fun k'=>((ks.take i).any fun x=>decide (x=k')) || decide (k'=ks[i]))=fun k'=>(ks.take (i+1)).any fun x=>decide (x=k'):=by
  funext k'
  rw[List.take_add_one,gE0 hlt];simp only[Option.toList_some,List.any_append,List.any_cons,List.any_nil,Bool.or_false]
  congr 1
  rw[Bool.eq_iff_iff,decide_eq_true_iff,decide_eq_true_iff];exact⟨Eq.symm,Eq.symm⟩
 rw[ef] at hS';exact q _ h' sb hS'
end
def b0V (P:Program)(w:World)(p:Addr)(ks:List Key)(h:Heap):Prop:=h.SetOf (a0n P w) p (fun k=>ks.any fun x=>decide (x=k)) ks.length
theorem b2u {P:Program}{w:World}{H:Hp}{h:Heap}{p:Addr}{ks:List Key}(e:b0V P w p ks h):a1f P w H h p (.ext (b0V P w p ks)):=by
 refine⟨e,?_,fun h1 h2 x k=>?_⟩
 ·obtain⟨o,es,ep,t,ho,_⟩:=e
  exact⟨o,ho⟩
 ·obtain⟨o,es,ep,t,ho,rest⟩:=x
  exact⟨o,es,ep,t,k o ho,rest⟩
section
variable {P:Program}{w:World}{A:Around}{R:Result->Shared->Prop}{I:Addr}{fp wr:List Addr}{G:Array GenState->Array GenState->Prop}{n:Nat}{PV:Nat->Value->Prop}{St:Nat->Shared->Prop}
theorem a8W (W:WalksS P w A.in1 I fp wr G n PV St)(a:Addr)(haf:a∉fp)(ks:List Key)(hn:ks.length=n)(hv:∀i v,PV i v->∀k,ks[i]? =some k->(a0n P w).is k v=true/\v.scannable=true)(nd:ks.Nodup)(hb:ks.length+1<scanBound) :
  ∀(m i:Nat) (s:Shared),m=n-i->i<=n->St i s->s.heap.SetOf (a0n P w) a (fun k=>(ks.take i).any fun x=>decide (x=k)) i →
   (∀s',Moved (a::wr) G s s'->b0V P w a ks s'.heap->R (.ok (.ret .none)) s')->codeAny (model P w) A (.builtin "set.update.loop" ⟨[.ref a,.ref I],[]⟩) R s:=by
 have haw:a∉wr:=fun h=>haf (W.sub _ h);have sub:∀b∈wr,b∈a::wr:=fun b hb=>mL0 _ hb;have keep:∀{s s':Shared} {S:Key->Bool} {j:Nat},Moved wr G s s'->s.heap.SetOf (a0n P w) a S j->s'.heap.SetOf (a0n P w) a S j:=fun hm hS=>by
  obtain⟨o,es,ep,t,ho,rest⟩:=hS;exact⟨o,es,ep,t,hm.heap a _ haw ho,rest⟩
 intro m
 induction m with
 |zero=>
  intro i s hm hi st hS hR;have ei:i=n:=by omega
  subst ei;refine codeAny_builtin F.entry_set_update_loop ?_;rw[Around.under_plainId F.plain_set_update_loop _];refine wB0 (W.done s _ _ st fun s' mv=>?_);refine wP0 (hR s' (mv.mono sub) ?_)
  have:=keep mv hS
  rw[List.take_of_length_le (by omega)] at this;unfold b0V;rw[hn];exact this
 |succ m ih=>
  intro i s hm hi st hS hR;have hlt:i<n:=by omega
  have hlk:i<ks.length:=by omega
  refine codeAny_builtin F.entry_set_update_loop ?_;rw[Around.under_plainId F.plain_set_update_loop _];refine wB0 (W.item i s _ _ hlt st fun v s' hp st' mv=>?_);obtain⟨v1,v2⟩:=hv i v hp ks[i] (gE0 hlk);refine wB0 (wpAny_holding ?_);unfold setAdd;refine wpAny_holding (wB0 ((a0n P w).pyHash v1 ?_));have hS1:=keep mv hS;refine b1W (s:={ s' with toks:=s'.toks+1 }) (h:=s'.heap) hlk v1 rfl v2 nd hb hS1 fun b h' sb hS'=>?_;refine wP0 ⟨plainId_quiet F.plain_set_update_loop _,ih (i+1) _ (by omega) hlt (W.frame _ s' _ _ st' (Nat.le_succ _) fun b hb o e=>?_) hS' fun s'' mv2 hS2=>?_⟩
  ·rw[sb.2 b (fun q:b=a=>haf (by rw[<-q];exact hb))]
   exact e
  ·refine hR s'' (Moved.trans W.gtrans ((mv.mono sub).then_heap (Nat.le_succ _) fun b o hb e=>?_) mv2) hS2
   rw[sb.2 b (fun q:b=a=>hb (by rw[q];exact List.mem_cons_self))];exact e
end
section
variable {P:Program}{w:World}{A:Around}{s:Shared}{E:Vs0}
theorem a5u {l:Addr}{items:Array Value}{ks:List Key}{Q:Vs0}(hh:A.handled=none)(hl:s.heap.IsTuple l items)(hn:ks.length=items.size)(hk:∀(i:Nat) (v:Value) (k:Key),items[i]? =some v->ks[i]? =some k->(a0n P w).is k v=true/\v.scannable=true)(nd:ks.Nodup)(hb:ks.length<=1000)
  (h:∀(h':Heap) (tk:Nat),b0V P w s.heap.objs.size ks h'->(∀b o,s.heap.get? b=some o->h'.get? b=some o)->Q (.ref s.heap.objs.size) { s with heap:=h',toks:=tk }) :
  wpAny (model P w) A (call (.type "set") [.ref l]) Q E s:=by
 obtain⟨c,tl,hmro⟩:=F.called_set.mro;have hmade:=F.called_set.made;have hsub:=F.called_set.sub;have q1:=F.called_set.notType;have q2:=F.called_set.canCreate;have q3:=F.typeCall_set_1 (.ref l);refine wpAny_call (codeAny_of_tree ?_);show wpAny _ _ (callAny (.type "set") ⟨[.ref l],[]⟩) _ _ s;refine wP0 ⟨Code.quiet_builtin _ (by decide +kernel),codeAny_builtin F.entry_type_call ?_⟩;rw[Around.under_plain (weight_type_call_type "set" [.ref l] []) rfl]
 repeat (any_goals (first |assumption |wp_step))
 refine codeAny_mono (code_set_new_1 (.ref l) (E:=E) (Q₁:=fun v s1=>∃led:Bool,v=.ref s.heap.objs.size/\s1={ s with heap:=s.heap.push { cls:=.type "set",dict:=none,data:=.set #[] 0 (.fresh 0 0 led) } }) fun led=>⟨led,rfl,rfl⟩) fun r s1 hr=>?_
 match r,hr with
 | .error e,hr=>exact hr
 | .ok (.next),hr=>exact hr.elim
 | .ok (.brk),hr=>exact hr.elim
 | .ok (.cont),hr=>exact hr.elim
 | .ok (.ret v),hr=>
  obtain⟨led,rfl,rfl⟩:=hr;have hS:(s.heap.push { cls:=.type "set",dict:=none,data:=.set #[] 0 (.fresh 0 0 led) }).get? s.heap.objs.size=some { cls:=.type "set",dict:=none,data:=.set #[] 0 (.fresh 0 0 led) }:=hS0 _ rfl;generalize eh:s.heap.push { cls:=.type "set",dict:=none,data:=.set #[] 0 (.fresh 0 0 led) }=h1 at hS ⊢;have k1:∀b o,s.heap.get? b=some o->h1.get? b=some o:=fun b o e=>by rw[<-eh];exact hP0 _ e
  have z1:s.heap.objs.size<h1.objs.size:=by rw[<-eh,Heap.size_push];exact Nat.lt_succ_self _
  have hT:Shared.TypeIs { s with heap:=h1 } (.ref s.heap.objs.size) "set":=⟨_,hS,rfl⟩;have i1:=F.called_set.init.lookup;have i2:=F.called_set.init.bind (.ref s.heap.objs.size)
  repeat (any_goals (first |assumption |wp_step))
  refine codeAny_mono (codeAny_call_builtin (R:=wants (fun r s2=>r=.none/\∃h' tk,s2={ s with heap:=h',toks:=tk }/\b0V P w s.heap.objs.size ks h'/\∀b o,s.heap.get? b=some o->h'.get? b=some o) E) F.called_set.init.plain F.entry_set_init (check_set_init_1 hT ?_)) fun r2 s2 hr2=>?_
  ·have hl0:=hl
   obtain⟨ol,o1,o2,nl,o3⟩:=hl;have o1':=k1 _ _ o1;have hlS:l<s.heap.objs.size:=hL0 o1;obtain⟨ocls,odict,odata,oslots⟩:=ol;simp only at o2 o3;subst o2 o3;have t1:=F.sub_tuple_set;have t2:=F.sub_tuple_frozenset;have t3:(Value.type "tuple"==Value.type "dict")=false:=by decide
   have hl1:h1.IsTuple l items:=⟨_,o1',rfl,nl,rfl⟩;unfold Builtin.«set.__init__» noKeywords Builtin.Frozenset.updateFrom;generalize eI:pyIter=IT
   wp_walk
   subst eI;refine wpAny_pyIter_tuple hl1 (wB0 (wpAny_runValue ?_));have hIl:l≠h1.objs.size:=nL0 (Nat.lt_trans hlS z1);refine a8W ((Walks.tuple (by simp[hh]) _ l hIl items).toS) s.heap.objs.size ?_ ks hn (fun i v hp k hik=>hk i v k hp hik) nd (by unfold scanBound;omega) (items.size-0) 0 _ rfl (zL0 _) ⟨⟨_,hS0 _ rfl,rfl,rfl⟩,hl1.push _⟩ ?_ fun s' mv hS'=>?_
   ·simp only[mK0,List.not_mem_nil,or_false,not_or]
    exact⟨nL0 z1,Nat.ne_of_gt hlS⟩
   ·exact⟨_,#[],0,_,hP0 _ hS,⟨rfl,rfl,rfl⟩,rfl,fun e he=>by simp at he,fun k=>by simp,by decide,rfl,rfl⟩
   ·obtain⟨h',g',d',tk',os'⟩:=s'
    have e1:g'=s.gens:=mv.gens;have e2:d'=s.drawn:=mv.drawn;have e3:os'=s.os:=mv.os;subst e1 e2 e3;refine wP0 (wP0 ⟨rfl,h',tk',rfl,hS',fun b o e=>mv.heap b o ?_ (hP0 _ (k1 b o e))⟩);have lb:=hL0 e;simp only[mK0,List.not_mem_nil,or_false,not_or];exact⟨nL0 lb,nL0 (Nat.lt_trans lb z1)⟩
  ·match r2,hr2 with
   | .error e,hr2=>exact hr2
   | .ok (.next),hr2=>exact hr2.elim
   | .ok (.brk),hr2=>exact hr2.elim
   | .ok (.cont),hr2=>exact hr2.elim
   | .ok (.ret v),hr2=>
    obtain⟨rfl,h',tk,rfl,hSn,kp⟩:=hr2
    repeat (any_goals (first |assumption |wp_step))
    exact h h' tk hSn kp
end
section
variable {X:Cx}
theorem a8e (hc:X.calm=true):a1e X (.type "set") (fun xs H Q=>∃(a:Addr) (zs:List Str),xs=[.ref a]/\SqT X.K H a (zs.map V.str)/\zs.Nodup/\zs.length<=1000/\∀p,H p=none->Q (.ref p) (upd H p (.ext (b0V X.prog X.w p (zs.map Sum.inr))))):=by
 intro pins s σ H xs us Q I r h;obtain⟨a,zs,rfl,hq,nd,hl,q⟩:=h;obtain⟨u,rfl,rx⟩:=a2b r;cases rx;obtain⟨its,rv,pl,hz⟩:=I.tuple hq;have hlen:its.length=zs.length:=by
  have:=rv.length
  rw[lM0] at this;exact this.symm
 refine a5u (ks:=zs.map Sum.inr) (I.ok.hd hc) pl (by rw[lM0,List.size_toArray];exact hlen.symm) (fun i v k hv hk=>?_) ?_ (by rw[lM0];exact hl) fun h' tk hS kp=>?_
 ·rw[gM0] at hk
  obtain⟨z,hz',rfl⟩:=Option.map_eq_some_iff.mp hk;obtain⟨u,hu,ru⟩:=rv.get (show(zs.map V.str)[i]? =some (V.str z) by rw[gM0,hz'];rfl);have hv':its[i]? =some v:=by simpa using hv
  rw[hv'] at hu;cases hu;obtain⟨t,rfl⟩:=ru;exact⟨by show a5q (.inr z) (.str z t)=true;first |exact beq_self_eq_true z | (simp[a5q,Value.isStrOf]),rfl⟩
 ·exact List.Pairwise.map _ (fun a b hab h=>hab (by injection h)) nd
 ·exact⟨.ref s.heap.objs.size,_,I.laid (a:=s.heap.objs.size) (t':=tk) kp (nR0 _) (b2u hS),rfl,q _ (I.hok.fresh (nR0 _))⟩
theorem a8m:a1e X (.builtin "len") (fun xs H Q=>∃(a:Addr) (ks:List Key),xs=[.ref a]/\H a=some (.ext (b0V X.prog X.w a ks))/\Q (.int ks.length) H):=by
 intro pins s σ H xs us Q I r h;obtain⟨a,ks,rfl,ea,q⟩:=h;obtain⟨u,rfl,rx⟩:=a2b r;cases rx;obtain⟨hS,_⟩:=I.hok a _ ea;obtain⟨o,es,ep,t,h1,h2,h3,h4,h5,h6,h7,h8⟩:=hS;have hb:es.size<2 ^ 40:=Nat.lt_of_lt_of_le h6 (by unfold scanBound;decide);refine call_len_set h1 h2 h3 h7 (by omega) ⟨.int ks.length,H,(I.tok _).tok _,⟨_,by rw[h8]⟩,q⟩
end
end L2
namespace L2
open PySem PySem.Spec PyProof.Rows PySem.Builtin PySem.Builtin.Dict
theorem a6n:typeLookup (.type "list") "keys"=pure none:=am_miss_of_fast (by decide +kernel)
theorem a7Y {prog:Program}{w:World}{A:Around}{E:Vs0}{s:Shared}{a:Addr}{o:Obj}{xs:Array Value}{k:Nat}{Q:Option Value->Shared->Prop}
  (hx:s.heap.get? a=some o) (hc:o.cls=.type "list") (hdat:o.data=.seq xs k) (hd:o.dict=none) (hA:A.handled=none)
  (h:∀h' tk,(∀b ob,s.heap.get? b=some ob->h'.get? b=some ob)->Q none { s with heap:=h',toks:=tk }):wpAny (model prog w) A (getAttr? (.ref a) "keys") Q E s:=by
 obtain⟨c,dct,dat,sl⟩:=o;simp only at hc hdat hd;subst hc hdat hd;obtain⟨hp,g,d,tk,os⟩:=s;have hT:∀tk',(⟨hp,g,d,tk',os⟩:Shared).TypeIs (.ref a) "list":=fun _=>⟨_,hx,rfl⟩;have f1:=sub_AttributeError;have f3:=F.slot_list_getattribute.lookup;have f4:=F.slot_list_getattribute.bind (.ref a);have f5:=am_list_getattr_none;unfold getAttr? getAttrBy? getAttrBy
 repeat (any_goals (first |assumption |exact hT _ | ((with_reducible show wpAny _ _ (call (Value.builtin "list.__getattribute__") _ _) _ _ _);refine call_meets F.slot_list_getattribute (hT _) am_entry_list_getattribute (F.args_list_getattribute_2 _ _) (meets_getattribute_miss_list a xs k sl "keys" _ a6n (by decide +kernel) (by size_fits)) ⟨hx,hA,fun h' tk' e hx'=>?_⟩) |wp_step))
 obtain⟨t',u',he⟩:=hx'.there;show wpAny _ _ (getattributeRaised _ _ _ _ _ _ _) _ _ _;unfold getattributeRaised
 repeat (any_goals (first |assumption |wp_step))
 exact h _ _ hx'.keeps
section
variable {prog:Program}{w:World}{A:Around}{R:Result->Shared->Prop}
theorem a5e {h0:Heap}{d it t:Addr}{items:Array Value}{ps:List (Key×Value)}(hh:A.handled=none)(ht:h0.IsList t items)(tne:t≠it/\t≠d)(idne:it≠d)(hl:ps.length=items.size)(hz:items.size<=1000)
  (hp:∀(j:Nat) (k:Key) (v:Value),ps[j]? =some (k,v)->∃a o key n,items[j]? =some (.ref a)/\h0.get? a=some o/\o.cls=.type "tuple"/\o.data=.seq #[key,v] n/\(a0n prog w).is k key=true/\a≠it/\a≠d)
  (nd:(ps.map (·.1)).Nodup):∀(m i:Nat) (tk:Tok) (s:Shared),i+m=items.size->s.heap.IsListIter it t i->s.heap.DictOf (a0n prog w) d (ps.take i)->(∀b o,b≠it->b≠d->h0.get? b=some o->s.heap.get? b=some o) →
  (∀(h':Heap) (k:Nat),h'.DictOf (a0n prog w) d ps->(∀b o,b≠it->b≠d->h0.get? b=some o->h'.get? b=some o)->R (.ok (.ret .none)) { s with heap:=h',toks:=k }) →
  codeAny (model prog w) A (.builtin "dict.update.loop" ⟨[.ref d,.ref it,.int i tk,.none],[]⟩) R s
 |0,i,tk,s,hi,hit,hd,kp,hq=>by
  refine codeAny_builtin a1E ?_;unfold Builtin.«dict.update.loop»
  dsimp only
  obtain⟨o,ho,hc,n,hdt⟩:=id ht;refine wB0 (wpAny_pyNext_list_end (items:=items) hh hit ⟨o,kp t o tne.1 tne.2 ho,hc,n,hdt⟩ (by rw[Array.getElem?_eq_none (by omega)]) fun h' ex=>?_)
  dsimp only
  refine wB0 (wP0 (wP0 ?_));have e:ps.take i=ps:=List.take_of_length_le (by omega);rw[e] at hd;exact hq h' s.toks (hd.extBut ex idne.symm) fun b o hb1 hb2 q=>ex b o hb1 (kp b o hb1 hb2 q)
 |m+1,i,tk,s,hi,hit,hd,kp,hq=>by
  refine codeAny_builtin a1E ?_;unfold Builtin.«dict.update.loop»
  dsimp only
  obtain⟨o,ho,hc,n,hdt⟩:=id ht;obtain⟨⟨k,v⟩,hk⟩:∃kv,ps[i]? =some kv:=⟨_,gE0 (by omega)⟩;obtain⟨a,oa,key,na,e1,e2,e3,e4,e5,e6,e7⟩:=hp i k v hk;refine wB0 (wpAny_pyNext_list_item (items:=items) hit ⟨o,kp t o tne.1 tne.2 ho,hc,n,hdt⟩ e1 fun h1 it1 sb=>?_)
  dsimp only
  have ha1:h1.get? a=some oa:=(sb.2 a e6).trans (kp a oa e6 e7 e2);have hd1:h1.DictOf (a0n prog w) d (ps.take i):=by
   obtain⟨od,es,ep,g,r⟩:=hd;exact⟨od,es,ep,(sb.2 d idne.symm).trans g,r⟩
  refine wB0 (wpAny_holding (wB0 (wpAny_tryCatch ?_)));unfold Dict.pairItems;refine wB0 (wpAny_typeOf (T:="tuple") ⟨oa,ha1,e3⟩ ?_);rw[if_pos (by decide)];refine wB0 (wpAny_seqItems ha1 e4 (wP0 ?_));show wpAny _ _ (holding [key,v] (dictSet d key v)) _ _ _;refine wpAny_holding (wpAny_dictSet_pairs (knd:=a0n prog w) (k:=k) e5 hd1 (fun h2 hd2 sb2=>?_) (by rw[List.length_take,sizeLine_eq];omega));refine wP0 ⟨Code.quiet_builtin _ (by decide +kernel),?_⟩;have es:stored (ps.take i) k v=ps.take (i+1):=by
   have no:((ps.take i).any fun kv=>decide (kv.1=k))=false:=by
    rw[List.any_eq_false];intro kv hkv;rw[decide_eq_true_iff];intro ek;obtain⟨j,hj,ej⟩:=List.mem_take_iff_getElem.mp hkv;have hj2:j<ps.length:=by omega
    have hij:j<i:=by omega
    have hi2:i<ps.length:=by omega
    have ei:ps[i]=(k,v):=(gS0.mp hk).2;refine List.pairwise_iff_getElem.mp nd j i (by simpa using hj2) (by simpa using hi2) hij ?_;rw[List.getElem_map,List.getElem_map,ej,ei,ek]
   unfold stored;rw[if_neg (by rw[no];decide),List.take_add_one,hk]
   rfl
  rw[es] at hd2;exact a5e hh ht tne idne hl hz hp nd m (i+1) _ _ (by omega) (by
   obtain⟨oi,g1,g2⟩:=it1;exact⟨oi,(sb2.2 it idne).trans g1,g2⟩) hd2 (fun b o hb1 hb2 q=>(sb2.2 b hb2).trans ((sb.2 b hb1).trans (kp b o hb1 hb2 q))) fun h' k' x y=>hq h' k' x y
end
section
variable {X:Cx}
theorem a8b (hc:X.calm=true):a1e X (.type "dict") (fun xs H Q=>∃(t:Addr) (ys:List V) (kvs:List (Key×V)),xs=[.ref t]/\SqL X.K H t ys/\ys.length<=1000/\kvs.length=ys.length ∧
  (∀(j:Nat) (k:Key) (v:V),kvs[j]? =some (k,v)->∃a,ys[j]? =some (.ref a)/\SqT X.K H a [kV k,v])/\(kvs.map (·.1)).Nodup/\∀p,H p=none->Q (.ref p) (upd H p (.dK kvs))):=by
 intro pins s σ H xs us Q I r h;obtain⟨t,ys,kvs,rfl,ht,hys,hkl,hp,nd,q⟩:=h;obtain⟨u,rfl,rx⟩:=a2b r;cases rx;obtain⟨its,r',⟨o,n,g,hcl,hod,hdat⟩,_⟩:=I.list ht;have hlen:=r'.length;have hh:=I.ok.hd hc;have hpk:∃ps:List (Key×Value),ps.length=kvs.length/\∀(j:Nat) (kv:Key×V),kvs[j]? =some kv->∃u,ps[j]? =some u/\(u.1=kv.1/\a0S kv.2 u.2/\∃a oa key na,its[j]? =some (.ref a)/\s.heap.get? a=some oa/\oa.cls=.type "tuple"/\oa.data=.seq #[key,u.2] na/\(a0n X.prog X.w).is kv.1 key=true):=by
  refine b5a kvs (fun(j:Nat) (kv:Key×V) (u:Key×Value)=>u.1=kv.1/\a0S kv.2 u.2/\∃a oa key na,its[j]? =some (.ref a)/\s.heap.get? a=some oa/\oa.cls=.type "tuple"/\oa.data=.seq #[key,u.2] na/\(a0n X.prog X.w).is kv.1 key=true) fun j kv hj=>?_;obtain⟨k,v⟩:=kv;obtain⟨a,ea,sq⟩:=hp j k v hj;obtain⟨jts,rj,pj,_⟩:=I.tuple sq;cases rj with
  |@cons _ j1 _ jr rk rr=>cases rr with
   |@cons _ j2 _ jr2 rv rr2=>
    cases rr2;obtain⟨oa,ga,ca,na,da⟩:=pj;refine⟨(k,j2),rfl,rv,a,oa,j1,na,?_,ga,ca,da,a4g rk⟩;obtain⟨w,ew,rw1⟩:=a0V.get r' ea;cases rw1;exact ew
 obtain⟨ps,hpl,hps⟩:=hpk;have gt:s.heap.get? t=some o:=g;have tlt:t<s.heap.objs.size:=hL0 gt;refine callType_codes (Q₁:=fun obj s₁=>obj=.ref s.heap.objs.size/\s₁={ s with heap:=s.heap.push { cls:=.type "dict",data:=.dict #[] } }) F.kt_called_dict (F.kt_typeCall_dict_1 _) F.entry_dict_init (kt_code_dict_new _ ⟨rfl,rfl⟩) ?_;rintro obj s₁ ⟨rfl,rfl⟩;have hnew:(s.heap.push { cls:=.type "dict",data:=.dict #[] }).DictOf (a0n X.prog X.w) s.heap.objs.size []:=Heap.DictOf.new s.heap;have gt1:(s.heap.push { cls:=.type "dict",data:=.dict #[] }).get? t=some o:=hP0 _ gt;refine⟨hnew.typeIs,F.args_dict_init_2 _ _,?_⟩;unfold Builtin.«dict.__init__»;refine wB0 ?_;unfold Builtin.Dict.selfAndRest;refine wB0 (wpAny_notOrdered_dict hnew.typeIs ?_);show wpAny _ _ (pure (s.heap.objs.size,[Value.ref t])) _ _ _;refine wP0 ?_;show wpAny _ _ (Builtin.Dict.updateFrom "dict.__init__" s.heap.objs.size (.ref t) [] .none) _ _ _;unfold Builtin.Dict.updateFrom;refine wB0 (wpAny_typeOf (T:="list") ⟨o,gt1,hcl⟩ ?_);rw[if_pos (by decide)];refine wB0 (a7Y (o:=o) (xs:=its.toArray) (k:=n) gt1 hcl hdat hod hh fun h1 tk1 kp1=>?_);rw[if_pos (show(none:Option Value).isNone=true from rfl)];have kp:∀b ob,s.heap.get? b=some ob->h1.get? b=some ob:=fun b ob e=>kp1 b ob (hP0 _ e);have gt2:=kp t o gt;have gd2:h1.get? s.heap.objs.size=some { cls:=.type "dict",data:=.dict #[] }:=kp1 _ _ (hS0 _ rfl);have dlt:s.heap.objs.size<h1.objs.size:=hL0 gd2;have dd1:h1.DictOf (a0n X.prog X.w) s.heap.objs.size []:=by
  obtain⟨od,es,ep,gg,rr⟩:=hnew;exact⟨od,es,ep,kp1 _ _ gg,rr⟩
 refine wB0 (wpAny_rule ?_);refine wB0 (wpAny_pyIter_list (items:=its.toArray) ⟨o,gt2,hcl,n,hdat⟩ ?_);refine wP0 ⟨Code.quiet_builtin _ (by decide +kernel),?_⟩;have epl:ps.length=its.toArray.size:=by simp;omega
 have fsts:ps.map (·.1)=kvs.map (·.1):=by
  refine List.ext_getElem (by simp[hpl]) fun j h1 h2=>?_;rw[List.getElem_map,List.getElem_map];rw[lM0] at h1 h2;obtain⟨u,eu,e1,_⟩:=hps j kvs[j] (gE0 h2);rw[gE0 h1] at eu;cases eu;exact e1
 refine a5e (A:=X.A.in1) (ps:=ps) (items:=its.toArray) (h0:=h1.push { cls:=.type "list_iterator",data:=.fields #[.ref t,.int 0 0] }) (t:=t) (d:=s.heap.objs.size) (it:=h1.objs.size) (show X.A.in1.handled=none from hh) ⟨o,hP0 _ gt2,hcl,n,hdat⟩ ⟨nL0 (Nat.lt_trans tlt dlt),nL0 tlt⟩ (Nat.ne_of_gt dlt) epl (by rw[<-epl,hpl,hkl];exact hys) (fun j k v hj=>?_) (by rw[fsts];exact nd) its.toArray.size 0 _ { s with heap:=h1.push { cls:=.type "list_iterator",data:=.fields #[.ref t,.int 0 0] },toks:=tk1 } (by omega) ⟨_,hS0 _ rfl,rfl,rfl⟩ (dd1.push _) (fun b o _ _ e=>e) (fun h2 k2 dd2 kp2=>?_)
 ·have hjl:j<kvs.length:=by
   have:=(gS0.mp hj).1
   omega
  obtain⟨u,eu,e1,e2,a,oa,key,na,e3,e4,e5,e6,e7⟩:=hps j kvs[j] (gE0 hjl);rw[hj] at eu;cases eu;have alt:=hL0 e4;refine⟨a,oa,key,na,by simpa using e3,hP0 _ (kp a oa e4),e5,e6,?_,nL0 (Nat.lt_trans alt dlt),nL0 alt⟩;rw[show k=kvs[j].1 from e1];exact e7
 ·refine⟨rfl,.ref s.heap.objs.size,_,?_,rfl,q s.heap.objs.size (I.hok.fresh (nR0 _))⟩
  have rel:KV kvs ps:=b2t hpl fun j k v e=>by
   obtain⟨u,eu,e1,e2,_⟩:=hps j (k,v) e;obtain⟨u1,u2⟩:=u
   cases(show u1=k from e1)
   exact⟨u2,eu,e2⟩
  refine I.laid (a:=s.heap.objs.size) (o:=.dK kvs) (fun b qo hb=>?_) (nR0 _) (a2V (by rw[sizeLine_eq];omega) (beq_eq_false_iff_ne.mpr (Ne.symm (nL0 I.big))) rel dd2);have blt:=hL0 hb;exact kp2 b qo (nL0 (Nat.lt_trans blt dlt)) (nL0 blt) (hP0 _ (kp b qo hb))
end
end L2
namespace L2
open PySem PySem.Spec PyProof.Rows
section
variable {prog:Program}{w:World}{A:Around}{E:Vs0}{s:Shared}{R:Result->Shared->Prop}{K:Type}[DecidableEq K]{knd:KeyKind prog w K}{d:Addr}{kvs:List (K×Value)}{ep:Nat}
theorem a9O {Q:Bool->Shared->Prop}(hm:s.heap.DictAt knd d kvs ep)(h:Q false s):wpAny (model prog w) A (Builtin.List.listLengthHint (.ref d)) Q E s:=by
 have T:=hm.dictOf.typeIs;unfold Builtin.List.listLengthHint;refine wB0 (wpAny_specialOf T F.slot_dict_len.lookup ?_);generalize hid:("dict.__len__":String)=id0
 wp_delta
 rw[show splitId id0=some ("dict","__len__") from by subst hid;decide +kernel];subst hid;refine wB0 (wpAny_isInstance (T:="dict") (b:=true) T (by rw[isSubtype_type];kernel_rfl) ?_);refine wpAny_ite_split (fun hab=>absurd hab (by decide)) (fun _=>?_);refine wpAny_ite_split (fun _=>?_) (fun hab=>absurd (by decide +kernel) hab);exact wB0 (wpAny_typeOf T (wP0 h))
theorem a6q (hh:A.handled=none)(nd:(d==sysModules)=false)(hm:s.heap.DictAt knd d kvs ep)(hlen:kvs.length<=sizeLine)(S:Addr)(res:Value)(c₀:Nat)(hS:s.heap.get? S=some { cls:=.type "list",data:=.seq #[] c₀ })
  (hR:∀h' tk acc' c',(∀b o,b≠S->s.heap.get? b=some o->h'.get? b=some o)->h'.get? S=some { cls:=.type "list",dict:=none,data:=.seq acc' c',slots:=#[] } →
   ItemsOf (fun i v=>∃k x,kvs[i]? =some (k,x)/\knd.is k v=true) acc' kvs.length->R (.ok (.ret res)) { s with heap:=h',toks:=tk }) :
  wpAny (model prog w) A.in1 (Builtin.List.listExtendWith (.ref S) (.ref d) res)
   (fun fin s'=>match fin with | .done f=>R (.ok f) s' | .again c'=>c'.quiet=true/\codeAny (model prog w) A c' R s') (fun e s'=>R (.error e) s') s:=by
 have T:=hm.dictOf.typeIs;obtain⟨od,ed,hod,xd,dd,_⟩:=id hm;have hSd:S≠d:=fun e=>by rw[e,hod] at hS;cases hS;cases dd
 have hSlt:S<s.heap.objs.size:=hL0 hS;have hSI:S≠s.heap.objs.size:=nL0 hSlt;have hdI:d≠s.heap.objs.size:=nL0 (hL0 hod);have hSf:S∉[s.heap.objs.size,d]:=fun hm=>by
  rcases mK0.mp hm with e |e
  ·exact hSI e
  ·exact hSd (mS0.mp e)
 have W:=(Walks.dictKeys (prog:=prog) (w:=w) (A:=A.in1) (knd:=knd) hh s.heap.objs.size d hdI kvs ep).toS;have key:∀(h:Heap) (c₁ tk:Nat),(h.IsKeyIter s.heap.objs.size d 0 kvs.length ep/\h.DictAt knd d kvs ep)->(∀b o,b≠S->s.heap.get? b=some o->h.get? b=some o) →
   h.get? S=some { cls:=.type "list",data:=.seq #[] c₁ }->codeAny (model prog w) A (.builtin "list.extend.loop" ⟨[.ref S,.ref s.heap.objs.size,res],[]⟩) R { s with heap:=h,toks:=tk }:=by
  intro h c₁ tk hit hk hS₁;refine codeAny_extend_loopS W hlen S hSf res kvs.length 0 _ #[] c₁ rfl (zL0 _) hit hS₁ (ItemsOf.nil _) fun s' acc' c' hm hS' hacc=>?_;rw[Moved.eq_with hm];refine hR s'.heap s'.toks acc' c' (fun b o hb e=>hm.heap b o (fun hmem=>?_) (hk b o hb e)) hS' hacc;rcases mK0.mp hmem with e' |hmem
  ·exact hb e'
  ·exact absurd (hL0 e) (by rw[mS0.mp hmem];exact Nat.lt_irrefl _)
 unfold Builtin.List.listExtendWith;refine wB0 (wpAny_typeOf T ?_);have h1:Builtin.List.listSameRef (.ref S) (.ref d)=false:=by simp[Builtin.List.listSameRef,hSd]
 simp only[h1,show(Value.type "dict"==Value.type "list")=false by decide,show(Value.type "dict"==Value.type "tuple")=false by decide,Bool.or_false,Bool.false_eq_true,if_false];refine wB0 (wpAny_pyIter_dict nd hm ?_);have hit₁:((s.heap.push { cls:=.type "dict_keyiterator",data:=.fields #[.ref d,.int 0 0,.int kvs.length 0,.int ep 0] }).IsKeyIter s.heap.objs.size d 0 kvs.length ep/\(s.heap.push { cls:=.type "dict_keyiterator",data:=.fields #[.ref d,.int 0 0,.int kvs.length 0,.int ep 0] }).DictAt knd d kvs ep):=⟨⟨_,hS0 _ rfl,rfl,rfl⟩,hm.push _⟩;have hS₁:=hP0 { cls:=.type "dict_keyiterator",data:=.fields #[.ref d,.int 0 0,.int kvs.length 0,.int ep 0] } hS;refine wB0 (wpAny_holding (a9O (s:={ s with heap:=s.heap.push { cls:=.type "dict_keyiterator",data:=.fields #[.ref d,.int 0 0,.int kvs.length 0,.int ep 0] } }) (hm.push _) ?_));refine wpAny_ite_split (fun _=>?_) (fun _=>wP0 ⟨plainId_quiet F.plain_extend_loop _,key _ c₀ _ hit₁ (fun b o _ e=>hP0 _ e) hS₁⟩);refine wB0 (wpAny_rule ?_);refine wB0 ?_;show wpAny _ _ (updateSeq S (·.push .none) >>= fun _=>updateSeq S (·.pop)) _ _ _;refine wB0 (wpAny_updateSeq hS₁ rfl ?_);have hS₂:=Heap.get?_update_self (Obj.mapSeq (·.push Value.none)) hS₁ rfl;refine wpAny_updateSeq (hz:=by seq_fits) hS₂ rfl ?_;have hS₃:=Heap.get?_update_self (Obj.mapSeq (·.pop)) hS₂ rfl;have oth:∀b o,b≠S->(s.heap.push { cls:=.type "dict_keyiterator",data:=.fields #[.ref d,.int 0 0,.int kvs.length 0,.int ep 0] }).get? b=some o->_:=fun b o hb e=>(Heap.get?_update_other _ (Obj.mapSeq (·.pop)) (Ne.symm hb)).trans ((Heap.get?_update_other _ (Obj.mapSeq (·.push Value.none)) (Ne.symm hb)).trans e);refine wP0 ⟨plainId_quiet F.plain_extend_loop _,key _ _ _ ⟨hit₁.1.at fun o e=>oth _ o hSI.symm e,?_⟩ (fun b o hb e=>oth b o hb (hP0 _ e)) hS₃⟩;obtain⟨o2,es2,e2,r2⟩:=hit₁.2;exact⟨o2,es2,oth d o2 hSd.symm e2,r2⟩
theorem a4h {Q:Vs0}(hh:A.handled=none)(nd:(d==sysModules)=false)(hm:s.heap.DictAt knd d kvs ep)(hlen:kvs.length<=sizeLine)
  (hQ:∀h' tk acc' c',(∀b o,s.heap.get? b=some o->h'.get? b=some o) →
   h'.get? s.heap.objs.size=some { cls:=.type "list",dict:=none,data:=.seq acc' c',slots:=#[] }->ItemsOf (fun i v=>∃k x,kvs[i]? =some (k,x)/\knd.is k v=true) acc' kvs.length->Q (.ref s.heap.objs.size) { s with heap:=h',toks:=tk }) :
  wpAny (model prog w) A (call (.type "list") [.ref d]) Q E s:=by
 refine callType_codes (Q₁:=fun obj s₁=>obj=.ref s.heap.objs.size/\s₁={ s with heap:=s.heap.push { cls:=.type "list",data:=.seq #[] } }) F.called_list (F.typeCall_list_1 _) F.entry_list_init
  (code_list_new _ ⟨rfl,rfl⟩) fun obj s₁ h₁=>?_
 obtain⟨rfl,rfl⟩:=h₁;have hS:(s.heap.push { cls:=.type "list",data:=.seq #[] }).get? s.heap.objs.size=some { cls:=.type "list",data:=.seq #[] }:=hS0 _ rfl;have ndS:s.heap.objs.size≠d:=(nL0 hm.lt_size).symm;refine⟨⟨_,hS,rfl⟩,F.args_list_init_2 _ _,?_⟩;show wpAny _ _ (do let old <-Builtin.List.listItems (.ref s.heap.objs.size);Builtin.List.listUpdate (.ref s.heap.objs.size) (fun _=>#[]);letGo old.toList.reverse;Builtin.List.listExtendWith (.ref s.heap.objs.size) (.ref d) .none) _ _ _;refine wB0 ?_;unfold Builtin.List.listItems;refine wB0 (wpAny_seqItems hS rfl (wP0 ?_));show wpAny _ _ (updateSeq s.heap.objs.size (fun _=>#[]) >>= fun _=>letGo (#[]:Array Value).toList.reverse >>= fun _=>Builtin.List.listExtendWith (.ref s.heap.objs.size) (.ref d) .none) _ _ _;refine wB0 (wpAny_updateSeq hS rfl ?_);have hS₂:=Heap.get?_update_self (Obj.mapSeq (fun _=>(#[]:Array Value))) hS rfl;have oth:∀b o,b≠s.heap.objs.size->s.heap.get? b=some o->((s.heap.push { cls:=.type "list",data:=.seq #[] }).update s.heap.objs.size (Obj.mapSeq (fun _=>(#[]:Array Value)))).get? b=some o:=
  fun b o hb e=>(Heap.get?_update_other _ _ (Ne.symm hb)).trans (hP0 _ e)
 refine wB0 (wpAny_letGo ?_);have hm2:((s.heap.push { cls:=.type "list",data:=.seq #[] }).update s.heap.objs.size (Obj.mapSeq (fun _=>(#[]:Array Value)))).DictAt knd d kvs ep:=by
  obtain⟨o2,es2,e2,r2⟩:=hm;exact⟨o2,es2,oth d o2 ndS.symm e2,r2⟩
 refine a6q (A:=A.in1) hh nd hm2 hlen _ .none _ hS₂ fun h' tk acc' c' hk hS' hacc=>?_;exact⟨rfl,hQ h' tk acc' c' (fun b o e=>hk b o (nL0 (hL0 e)) (oth b o (nL0 (hL0 e)) e)) hS' hacc⟩
end
section
variable {X:Cx}
theorem a8c (hc:X.calm=true):a1e X (.type "list") (fun xs H Q=>∃(p:Addr) (kvs:List (Key×V)) (zs:List Str),xs=[.ref p]/\Rd H p (.dK kvs)/\kvs.map (·.1)=zs.map Sum.inr/\∀l,H l=none->Q (.ref l) (upd H l (.lst (zs.map V.str)))):=by
 intro pins s σ H xs us Q I r h;obtain⟨p,kvs,zs,rfl,hq,hz,q⟩:=h;obtain⟨u,rfl,rx⟩:=a2b r;cases rx;obtain⟨hlen,lo,vs,kv,dd⟩:=hq.ok I.hok;obtain⟨ep,da⟩:=dd.dictAt;have hl:=kv.len;have hl2:kvs.length=zs.length:=by simpa using congrArg List.length hz
 refine a4h (I.ok.hd hc) lo da (by rw[<-hl];exact hlen) fun h' tk acc c' kp e1 hacc=>?_;have hS:StrsAre acc.toList zs:=by
  refine a6G _ _ (by rw[aL0,hacc.1,<-hl,hl2]) fun j v z h1 h2=>?_;obtain⟨k,x,hx,hkv⟩:=hacc.2 j v (by rw[<-Array.getElem?_toList];exact h1);have hk':=a6T kv hx;rw[hz,gM0,h2] at hk';have e:Sum.inr z=k:=by simpa using hk'
  subst e;exact a7I hkv
 exact⟨.ref s.heap.objs.size,_,I.laid (a:=s.heap.objs.size) (o:=.lst (zs.map V.str)) (t':=tk) kp (nR0 _) ⟨by rw[lM0,<-hl2];exact hlen,acc.toList,c',a2X hS,by simpa using e1⟩,rfl,q _ (I.hok.fresh (nR0 _))⟩
end
theorem a6c (z:Str)(l:List Str):inV (.str z) (l.map V.str)=decide (z∈l):=by
 unfold inV;rw[Bool.eq_iff_iff,List.any_eq_true,decide_eq_true_iff]
 constructor
 ·rintro⟨y,hy,e⟩
  obtain⟨x,hx,rfl⟩:=mM0.mp hy
  have:x=z:=by simpa[eqV] using e
  rw[<-this];exact hx
 ·intro h
  exact⟨_,mM0.mpr ⟨z,h,rfl⟩,by simp[eqV]⟩
theorem a3W (l:List Str):(l.map V.str).all a4x=true:=by
 rw[List.all_map];exact List.all_eq_true.mpr fun _ _=>rfl
end L2
namespace My
open PySem L2 PyProof.Rows
seal L2.PE L2.PT L2.PW L2.PS L2.PSs L2.PA L2.PI L2.PG L2.PGs L2.OpR L2.a1e L2.IxR L2.SlR L2.MtR L2.PIf L2.PO L2.MtM L2.PC L2.a7F
def a9j:Sp:=fun vs H Q _=>vs=[.bl true]/\Q .non H
def a7l:Sp:=fun vs H Q _=>∃(f:Addr) (sz:Int) (Ts:List Tb) (T:Tb),vs=[.ref f,.str T.name]/\a0W H f sz Ts/\Ts.length<=8/\(Ts.map (·.name)).Nodup/\T∈Ts/\(T.cols.map (·.1)).Nodup/\T.cols.length<=12 ∧
 ∀(p:Addr) (H':Hp) (zs:List Str),H p=none->a0k H H'->zs.Perm (T.cols.map (·.1))->sortedS zs=true->H' p=some (.dK (zs.map fun z=>(.inr z,vOf T.cols z)))->Q (.ref p) H'
def b5M:Sp:=fun vs H Q _=>∃(a:Addr) (c:List (Str×V)) (z:Str),vs=[.ref a,.str z]/\H a=some (.dK (kvC c))/\z∈c.map (·.1)/\∀p H',a0k H H'->H p=none->H' p=some (.dK (kvC (c.filter fun x=>decide (x.1≠z))))->Q (.ref p) H'
def b0E:Sp:=fun vs H Q _=>∃(a t:Addr) (c:List (Str×V)) (zs:List Str),vs=[.ref a,.ref t]/\H a=some (.dK (kvC c))/\H t=some (.tup (zs.map V.str))/\zs.Nodup/\(∀z∈zs,z∈c.map (·.1))/\∀p H',a0k H H'->(p=a\/H p=none)->H' p=some (.dK (kvC (c.filter fun x=>decide (x.1∉zs))))->Q (.ref p) H'
def a4J:Sp:=fun vs H Q _=>∃(a t:Addr) (c:List (Str×V)) (zs:List Str),vs=[.ref a,.ref t]/\H a=some (.dK (kvC c))/\H t=some (.tup (zs.map V.str))/\zs.Nodup/\zs.length<=12/\(∀z∈zs,z∈c.map (·.1))/\∀p H',a0k H H'->H p=none->H' p=some (.dK (kvC (zs.map fun z=>(z,vOf c z))))->Q (.ref p) H'
def a5g:Sp:=fun vs H Q _=>∃(f:Addr) (sz:Int) (Ts:List Tb) (z:Str),vs=[.ref f,.str z]/\a0W H f sz Ts/\Ts.length<=8/\a1C z=true/\z∉Ts.map (·.name)/\∀H',a0k H H'->Q .non H'
theorem b0Q (c:List (Str×V))(z:Str):a2H (kvC c) (.inr z)=kvC (c.filter fun x=>decide (x.1≠z)):=by
 unfold a2H kvC;rw[List.filter_map]
 congr 1
 refine List.filter_congr fun e _=>?_;show decide ((Sum.inr e.1:Key)≠.inr z)=decide (e.1≠z);rw[Bool.eq_iff_iff,decide_eq_true_iff,decide_eq_true_iff];exact⟨fun h q=>h (by rw[q]),fun h q=>h (by injection q)⟩
section
variable {P:Program}{w:World}{K:Fg0}{mg:Str->Option Value}{base:Heap}
theorem a4u {f:Addr}{fd:FuncData}(F:Fun K "head_of" "head_of" (top 23) f fd):a0y P w K mg base CX0 1 f fd ["form"] a5c:=by
 have sc:a0o ["form"] ["form"] (a0e (top 23)):=.k (by decide +kernel);refine F.ok sc (fun vs H Q E h=>?_) (fun cdv A outer s H vs Q E hr h=>?_)
 ·obtain⟨f,sz,T,Ts,rfl,_⟩:=h
  rfl
 ·obtain⟨f,sz,T,Ts,rfl,⟨tt,es,h1,h2,h3,h4⟩,q⟩:=h
  refine⟨_,a0h (a0s (a0x a1o (a0x a1o (a0x a1o (pv 0) a0g (fun _ _=>rfl)) a0g (fun _ _=>rfl)) a0g (fun _ _=>rfl))),?_⟩
  match es,h3 with
  |e::es,h3=>
   obtain⟨ct,c1,_⟩:=h4 0 e T rfl rfl;exact⟨_,rfl,f,_,1,_,rfl,rfl,SqT.of h1,rfl,tt,_,0,_,rfl,rfl,SqT.of h2,(a1b (j:=0) rfl),e,_,0,_,rfl,rfl,SqT.of c1,rfl,q⟩
theorem a6U {f:Addr}{fd:FuncData}(F:Fun K "ask_fit" "ask_fit" (top 34) f fd):a0y P w K mg base CX0 1 f fd ["fine"] a9j:=by
 have sc:a0o ["fine"] ["fine"] (a0e (top 34)):=.k (by decide +kernel);refine F.ok sc (fun vs H Q E h=>?_) (fun cdv A outer s H vs Q E hr h=>?_)
 ·obtain⟨rfl,_⟩:=h
  rfl
 ·obtain⟨rfl,q⟩:=h
  refine⟨_,a0h (a0F (a1k (a0D (pv 0))) a0l a0m),?_⟩;exact⟨_,rfl,_,rfl,a1W q⟩
theorem a8n {f fA fT fC fI:Addr}{fd fdA fdT fdC fdI:FuncData}(F:Fun K "columns_in" "columns_in" (top 35) f fd)(B:Bl mg)(DA:Df K mg "ask_fit" (top 34) fA fdA)(DT:Df K mg "tables_of" (top 22) fT fdT)(DC:Df K mg "columns_of" (top 25) fC fdC)(DI:Df K mg "table_in" (top 26) fI fdI):a0y P w K mg base CX0 3 f fd ["form","table"] a7l:=by
 have sc:a0o ["form","table"] ["form","table"] (a0e (top 35)):=.k (by decide +kernel);have GA:a0y P w K mg base CX0 1 fA fdA ["fine"] a9j:=a6U DA.fn;have GT:a0y P w K mg base CX0 1 fT fdT ["form"] a9q:=a9F DT.fn;have GC:a0y P w K mg base CX0 2 fC fdC ["form","table"] a2Q:=a5M DC.fn B DI;have bA:=DA.fn.b1 "fine" (by intros;rfl);have bT:=DT.fn.b1 "form" (by intros;rfl);have bC:=DC.fn.b2 "form" "table" (by intros;rfl);refine F.ok sc (fun vs H Q E h=>?_) (fun cdv A outer s H vs Q E hr h=>?_)
 ·obtain⟨f,sz,Ts,T,rfl,_⟩:=h
  rfl
 ·obtain⟨f,sz,Ts,T,rfl,hF,l8,nd,hT,cn,cl,q⟩:=h
  have hr1:a1q 1 _:=hr.mono (by decide);refine⟨_,a0d (a0U (a0j GA hr1 (by rfl) DA.mg DA.fn.kp bA .nil a0u (a0a (a1a a5i (pv 1) (a0j GT hr1 (by rfl) DT.mg DT.fn.kp bT .nil a0u (a0a (pv 0) a0c)) (by with_unfolding_all rfl)) a0c)))
   (a0h (a0s (a0j GC hr (by rfl) DC.mg DC.fn.kp bC .nil a0u (a0a (pv 0) (a0a (pv 1) a0c))))),?_⟩
  refine⟨_,rfl,_,rfl,f,sz,Ts,rfl,hF,l8,fun p H1 hp s1 p1=>?_⟩;refine⟨p,_,rfl,.inl (SqL.of p1),rfl,a3W _,?_⟩;refine⟨?_,?_⟩
  ·show[V.bl (inV (.str T.name) ((Ts.map (·.name)).map V.str))]=[V.bl true]
   rw[a6c,dT0 (mM0.mpr ⟨T,hT,rfl⟩)]
  ·exact⟨_,rfl,_,rfl,f,sz,Ts,T,rfl,hF.same s1,nd,hT,cn,cl,fun p' H' zs hp' s' pz so e=>q p' H' zs (a0G s1 hp') (s1.trans s') pz so e⟩
theorem b4P {f:Addr}{fd:FuncData}(F:Fun K "without_column" "without_column" (top 36) f fd)(B:Bl mg):a0y P w K mg base CX0 1 f fd ["row","column"] b5M:=by
 have sc:a0o ["row","column","fresh"] ["row","column"] (a0e (top 36)):=.k (by decide +kernel);refine F.ok sc (fun vs H Q E h=>?_) (fun cdv A outer s H vs Q E hr h=>?_)
 ·obtain⟨a,c,z,rfl,_⟩:=h
  rfl
 ·obtain⟨a,c,z,rfl,e,hz,q⟩:=h
  refine⟨_,a0d (a0w (i:=2) sc.nd rfl (Or.inl rfl) (a0I a2r (by rfl) B.dict boot_dict (a0a (pv 0) a0c)))
   (a0d (a0U (a6P (pv 2) (pv 1) ⟨rfl,rfl,rfl,rfl⟩)) (a0h (a0s (pv 2)))),?_⟩
  refine⟨_,rfl,a,_,rfl,.inl e,fun p hp=>?_⟩;have T1:=a0k.upd (o:=.dK (kvC c)) hp;refine⟨_,rfl,p,rfl,.inl ⟨_,.inl a0b⟩,_,rfl,_,.inr z,_,a0b,rfl,a4m hz,?_⟩;rw[b0Q];exact⟨_,rfl,q p _ (T1.put hp) hp a0b⟩
theorem b3r {f fW:Addr}{fd fdW:FuncData}(F:Fun K "without" "without" (top 41) f fd)(B:Bl mg)(DW:Df K mg "without_column" (top 36) fW fdW):a0y P w K mg base CX0 2 f fd ["row","columns"] b0E:=by
 have sc:a0o ["row","columns","fresh","column"] ["row","columns"] (a0e (top 41)):=.k (by decide +kernel);have GW:a0y P w K mg base CX0 1 fW fdW ["row","column"] b5M:=b4P DW.fn B;have bW:=DW.fn.b2 "row" "column" (by intros;rfl);refine F.ok sc (fun vs H Q E h=>?_) (fun cdv A outer s H vs Q E hr h=>?_)
 ·obtain⟨a,t,c,zs,rfl,_⟩:=h
  rfl
 ·obtain⟨a,t,c,zs,rfl,ha,ht,nd,hz,q⟩:=h
  refine⟨_,a0d (a0w (i:=2) sc.nd rfl (Or.inl rfl) (pv 0))
   (a0d (a1A PassesOwn.never rfl (a4a (pv 1)) (a0q (i:=3) sc.nd rfl (Or.inl rfl))
    (a0h (a0w (i:=2) sc.nd rfl (Or.inl rfl) (a0j GW hr (by rfl) DW.mg DW.fn.kp bW .nil a0u (a0a (pv 2) (a0a (pv 3) a0c))))))
   (a0h (a0s (pv 2)))),?_⟩
  have step:∀i (hi:i<zs.length),(c.filter fun x=>decide (x.1∉zs.take i)).filter (fun x=>decide (x.1≠zs[i]))=c.filter fun x=>decide (x.1∉zs.take (i+1)):=fun i hi=>by
   rw[List.filter_filter];refine List.filter_congr fun x _=>?_;rw[List.take_add_one,gE0 hi,Bool.eq_iff_iff,Bool.and_eq_true,decide_eq_true_iff,decide_eq_true_iff,decide_eq_true_iff];show _↔x.1∉zs.take i++[zs[i]];rw[mB0,mS0,not_or];exact⟨fun h=>⟨h.2,h.1⟩,fun h=>⟨h.2,h.1⟩⟩
  refine⟨_,rfl,_,rfl,t,rfl,⟨_,SqT.of ht⟩,a8I (K:=K) (a:=t) (xs:=zs.map V.str) (fun i σ H1=>a0k H H1/\∃p u3,σ=[some (.ref a),some (.ref t),some (.ref p),u3]/\(p=a\/H p=none)/\H1 p=some (.dK (kvC (c.filter fun x=>decide (x.1∉zs.take i))))) ⟨a0k.refl _,a,_,rfl,.inl rfl,?_⟩ (fun i σ H1 _ p=>SqT.of (p.1 _ _ ht)) ?_ ?_⟩
  ·rw[ha,List.take_zero,List.filter_eq_self.mpr (fun x _=>dT0 (by simp))]
  ·rintro i x σ H1 hx ⟨s1,p,u3,rfl,hp,e⟩
   have hi:i<zs.length:=by have:=(gS0.mp hx).1;rwa [lM0] at this
   rw[gM0,gE0 hi] at hx;cases hx;refine⟨_,rfl,_,rfl,p,_,zs[i],rfl,e,?_,fun p' H' s' hp' e'=>?_⟩
   ·obtain⟨x,hx,ex⟩:=mM0.mp (hz _ (gQ0 hi))
    refine mM0.mpr ⟨x,mF0.mpr ⟨hx,dT0 ?_⟩,ex⟩;rw[ex];intro hm;obtain⟨k,hk⟩:=List.getElem?_of_mem hm;have hk2:=(gS0.mp hk).1;rw[List.length_take] at hk2;rw[List.getElem?_take_of_lt (by omega),gE0 (by omega)] at hk
    have:=(List.getElem_inj (h₀:=by omega) (h₁:=hi) nd).mp (Option.some.inj hk)
    omega
   ·rw[step i hi] at e'
    exact⟨s1.trans s',p',_,rfl,.inr (a0G s1 hp'),e'⟩
  ·rintro σ H1 ⟨s1,p,u3,rfl,hp,e⟩
   rw[lM0,List.take_length] at e;exact⟨_,rfl,q p H1 s1 hp e⟩
theorem a5C {f:Addr}{fd:FuncData}(F:Fun K "picked" "picked" (top 40) f fd)(B:Bl mg):a0y P w K mg base CX0 1 f fd ["row","columns"] a4J:=by
 have sc:a0o ["row","columns"] ["row","columns"] (a0e (top 40)):=.k (by decide +kernel);refine F.ok sc (fun vs H Q E h=>?_) (fun cdv A outer s H vs Q E hr h=>?_)
 ·obtain⟨a,t,c,zs,rfl,_⟩:=h
  rfl
 ·obtain⟨a,t,c,zs,rfl,ha,ht,nd,l12,hz,q⟩:=h
  have hu:=a2o hr;refine⟨_,a0h (a0s (a0I (a8b rfl) (by rfl) B.dict boot_dict (a0a (a1j (osc:=a0e (top 40)) (N0:=["row","columns"]) (xs:=["column"]) (fr:=[0]) ⟨rfl,by decide +kernel,by decide +kernel,by decide +kernel,(fun j hj=>by
       have e:j=0:=by simpa using hj
       subst e;exact⟨_,rfl,by decide +kernel⟩),by decide +kernel⟩ rfl rfl rfl (a4a (pv 1))
      (fun s H fp=>a0q (i:=0) (show(["column","row"]:List Str).Nodup by decide +kernel) rfl (Or.inl rfl)) (fun s H fp=>a1h)
      (fun s H fp=>a0P (a0a (pv 0) (a0a (a2a hu (pv 1) (pv 0) (fun _ _=>rfl)) a0c)))) a0c))),?_⟩
  refine⟨_,rfl,t,rfl,⟨_,SqT.of ht⟩,fun D hD=>?_⟩;refine a1m zs.length (fun i ys σ' Hc=>(∃u,σ'=[u,some (.ref a)])/\a0k H Hc/\∃ps:List Addr,ys=ps.map V.ref/\∀(j:Nat) (p:Addr) (z:Str),ps[j]? =some p->zs[j]? =some z->Hc p=some (.tup [.str z,vOf c z])) (by rw[sizeLine_eq];omega) ⟨⟨none,rfl⟩,a0k.upd hD,[],rfl,(fun j p z h=>nomatch h)⟩ a0b ?_ ?_
  ·rintro i σ' Hc ys hi ⟨⟨u,rfl⟩,sm,ps,rfl,hps⟩ hyl hD'
   rw[lM0] at hyl;refine⟨⟨_,V.str zs[i],SqT.of (sm _ _ ht),by rw[gM0,gE0 hi];rfl⟩,?_⟩;rintro x H' ⟨rfl,hx'⟩;have ex:=hx' _ (SqT.of (sm _ _ ht));rw[gM0,gE0 hi] at ex;cases ex;refine⟨_,rfl,_,rfl,_,rfl,a,_,rfl,.inl ⟨_,.inr zs[i],.inl (sm _ _ ha),rfl,(a4m (hz _ (gQ0 hi))).symm⟩,(by show 2<=sizeLine;decide),fun p hp=>?_⟩;have T1:=a0k.upd (o:=.tup [.str zs[i],vOf c zs[i]]) hp;have e1:=a0b (H:=H') (a:=p) (o:=.tup [.str zs[i],vOf c zs[i]]);generalize upd H' p (.tup [.str zs[i],vOf c zs[i]])=H4 at *;refine⟨T1 _ _ hD',⟨_,rfl⟩,(sm.trans T1).put hD,ps++[p],by rw[mA0];rfl,fun j p' z h1 h2=>?_⟩;have kt:∀{x:Addr} {vs ys:List V},H4 x=some (.tup vs)->(upd H4 D (.lst ys)) x=some (.tup vs):=fun {x vs ys} e=>(a0f (fun z=>by rw[z,T1 _ _ hD'] at e;cases e)).trans e
   by_cases hj:j<ps.length
   ·rw[gL0 hj] at h1
    exact kt (T1 _ _ (hps j p' z h1 h2))
   ·have hj':=(gS0.mp h1).1
    rw[lA0,List.length_singleton] at hj';obtain rfl:j=ps.length:=by omega
    rw[gR0 (nR0 _),Nat.sub_self] at h1;cases h1;rw[hyl,gE0 hi] at h2;cases h2;exact kt e1
  ·rintro σ' Hc ys ⟨_,sm,ps,rfl,hps⟩ hDn hyl
   rw[lM0] at hyl;refine⟨⟨_,SqT.of (sm _ _ ht),by rw[lM0];exact nR0 _⟩,D,_,kvC (zs.map fun z=>(z,vOf c z)),rfl,SqL.of hDn,(by rw[lM0];omega),(by unfold kvC;rw[lM0,lM0,lM0];omega),fun j k v hk=>?_,?_,fun p hp=>?_⟩
   ·have hjz:j<zs.length:=by have:=(gS0.mp hk).1;unfold kvC at this;rwa [lM0,lM0] at this
    have hjp:j<ps.length:=by omega
    unfold kvC at hk;rw[gM0,gM0,gE0 hjz] at hk;cases hk;exact⟨ps[j],by rw[gM0,gE0 hjp];rfl,SqT.of (hps j _ _ (gE0 hjp) (gE0 hjz))⟩
   ·unfold kvC
    rw[mC0,mC0];exact List.Pairwise.map _ (fun a b hab h=>hab (by injection h)) nd
   ·exact q p _ (sm.trans (a0k.upd hp)) (a0G sm hp) a0b
theorem a8a {f fA fN fT:Addr}{fd fdA fdN fdT:FuncData}(F:Fun K "ask_new_side" "ask_new_side" (top 39) f fd)(DA:Df K mg "ask_fit" (top 34) fA fdA)(DN:Df K mg "is_name" (top 11) fN fdN)(GN:a0y P w K mg base CX0 1 fN fdN ["thing"] (a5G K))(DT:Df K mg "tables_of" (top 22) fT fdT):a0y P w K mg base CX0 2 f fd ["form","side"] a5g:=by
 have sc:a0o ["form","side"] ["form","side"] (a0e (top 39)):=.k (by decide +kernel);have GA:a0y P w K mg base CX0 1 fA fdA ["fine"] a9j:=a6U DA.fn;have GT:a0y P w K mg base CX0 1 fT fdT ["form"] a9q:=a9F DT.fn;have bA:=DA.fn.b1 "fine" (by intros;rfl);have bN:=DN.fn.b1 "thing" (by intros;rfl);have bT:=DT.fn.b1 "form" (by intros;rfl);refine F.ok sc (fun vs H Q E h=>?_) (fun cdv A outer s H vs Q E hr h=>?_)
 ·obtain⟨f,sz,Ts,z,rfl,_⟩:=h
  rfl
 ·obtain⟨f,sz,Ts,z,rfl,hF,l8,hn,hz,q⟩:=h
  have z8:=b0B hn;refine⟨_,a0h (a0U (a0j GA hr (by rfl) DA.mg DA.fn.kp bA .nil a0u (a0a (a2d (a0j GN hr (by rfl) DN.mg DN.fn.kp bN .nil a0u (a0a (pv 1) a0c)) (a2x (a1a a3f (pv 1) (a0j GT hr (by rfl) DT.mg DT.fn.kp bT .nil a0u (a0a (pv 0) a0c)) (by with_unfolding_all rfl)))) a0c))),?_⟩;refine⟨_,rfl,.str z,_,rfl,Is.str,(fun z' e=>?_),(fun h=>absurd rfl h)⟩;cases e;refine⟨by rw[sizeLine_eq];omega,fun H1 s1=>⟨_,rfl,?_⟩⟩;rw[hn];refine a6a ⟨_,rfl,_,rfl,f,sz,Ts,rfl,hF.same s1,l8,fun p H2 hp s2 p2=>?_⟩;refine⟨p,_,rfl,.inl (SqL.of p2),rfl,a3W _,?_⟩;refine⟨?_,q H2 (s1.trans s2)⟩
  show[V.bl (!inV (.str z) ((Ts.map (·.name)).map V.str))]=[V.bl true]
  rw[a6c,dF0 hz]
  rfl
end
def b1K (z:Str)(t:Addr):List (Str×V):=a4e "columns" (.ref t) (a4e "side" (.str z) [])
theorem a1l (z:Str)(t:Addr):(b1K z t).lookup ("columns":Str)=some (.ref t):=by
 unfold b1K;rw[a1p,if_pos rfl]
theorem a1I (z:Str)(t:Addr):(b1K z t).lookup ("side":Str)=some (.str z):=by
 unfold b1K;rw[a1p,if_neg (by decide +kernel),a1p,if_pos rfl]
theorem a1M (z:Str)(t:Addr){m:Str}(h1:¬m="columns")(h2:¬m="side"):(b1K z t).lookup m=none:=by
 unfold b1K;rw[a1p,if_neg h1,a1p,if_neg h2]
 rfl
structure ClC (K:Fg0) (CC:Addr):Prop where
 cl:Cls K CC
 nS:a3i K CC "side"
 nC:a3i K CC "columns"
structure CvA (CC:Addr) (H:Hp) (a:Addr) (z:Str) (t:Addr) (zs:List Str):Prop where
 ex:∃dx,H a=some (.ins CC dx (b1K z t))
 t:H t=some (.tup (zs.map V.str))
theorem CvA.same {CC:Addr}{H H':Hp}{a t:Addr}{z:Str}{zs:List Str}(h:CvA CC H a z t zs)(s:a0k H H'):CvA CC H' a z t zs:=⟨let ⟨dx,e⟩:=h.ex;⟨dx,s _ _ e⟩,s _ _ h.t⟩
def a8F (CC:Addr):Sp:=fun vs H Q _=>∃(a dx l:Addr) (z:Str) (cs:List Str),vs=[.ref a,.str z,.ref l]/\H a=some (.ins CC dx [])/\H l=some (.lst (cs.map V.str))/\cs.length<64/\∀t zs H',zs.Perm cs->sortedS zs=true->(∀b o,b≠a->H b=some o->H' b=some o)->H' a=some (.ins CC dx (b1K z t))->H' t=some (.tup (zs.map V.str))->Q .non H'
def a8S (CC:Addr):Sp:=fun vs H Q _=>∃(a t:Addr) (z:Str) (zs:List Str),vs=[.ref a]/\CvA CC H a z t zs/\zs.Nodup/\zs.length<=12/\∀H',a0k H H'->Q (.bl true) H'
def a7o (CC:Addr):Sp:=fun vs H Q _=>∃(a t:Addr) (z:Str) (zs:List Str),vs=[.ref a]/\CvA CC H a z t zs/\∀p H',a0k H H'->H' p=some (.tup [.str "cleave",.str z,.ref t])->Q (.ref p) H'
section
variable {P:Program}{w:World}{K:Fg0}{mg:Str->Option Value}{base:Heap}{CC PF:Addr}
theorem b0b {f:Addr}{fd:FuncData}(F:Fun K "__init__" "Cleave.__init__" (a0N (top 38) 0) f fd)(B:Bl mg)(T:ClC K CC):a0y P w K mg base CX0 1 f fd ["self","side","columns"] (a8F CC):=by
 have sc:a0o ["self","side","columns"] ["self","side","columns"] (a0e (a0N (top 38) 0)):=.k (by decide +kernel);refine F.ok sc (fun vs H Q E h=>?_) (fun cdv A outer s H vs Q E hr h=>?_)
 ·obtain⟨a,dx,l,z,cs,rfl,_⟩:=h
  rfl
 ·obtain⟨a,dx,l,z,cs,rfl,ha,hl,h64,q⟩:=h
  refine⟨_,a0d (b1I (pv 0) (pv 1) rfl) (a0h (b1I (pv 0) (a0I a1t (by rfl) B.tuple boot_tuple (a0a (a0i a3I (by rfl) B.sorted boot_sorted (a0a (pv 2) a0c)) a0c)) rfl)),?_⟩;refine⟨_,rfl,_,rfl,a,CC,dx,[],rfl,ha,T.cl,T.nS,(by show 0<1000;decide),?_⟩;have nal:l≠a:=fun e=>by rw[e,ha] at hl;cases hl
  have a1:(upd H a (.ins CC dx (a4e "side" (.str z) []))) a=some (.ins CC dx (a4e "side" (.str z) [])):=a0b;have k1:∀b o,b≠a->H b=some o->(upd H a (.ins CC dx (a4e "side" (.str z) []))) b=some o:=fun b o nb e=>(a0f nb).trans e;generalize upd H a (.ins CC dx (a4e "side" (.str z) []))=H1 at *;refine⟨_,rfl,l,cs,rfl,SqL.of (k1 _ _ nal hl),h64,fun l2 ys hl2 yp yso=>?_⟩;have T2:=a0k.upd (o:=.lst (ys.map V.str)) hl2;have e2:=a0b (H:=H1) (a:=l2) (o:=.lst (ys.map V.str));generalize upd H1 l2 (.lst (ys.map V.str))=H2 at *;refine⟨l2,_,rfl,.inl ⟨SqL.of e2,fun t ht=>?_⟩⟩;have T3:=a0k.upd (o:=.tup (ys.map V.str)) ht;have e3:=a0b (H:=H2) (a:=t) (o:=.tup (ys.map V.str));generalize upd H2 t (.tup (ys.map V.str))=H3 at *;have S13:=T2.trans T3;have nta:t≠a:=fun e=>by rw[e,S13 _ _ a1] at e3;cases e3
  refine⟨_,rfl,a,CC,dx,_,rfl,S13 _ _ a1,T.cl,T.nC,?_,?_⟩
  ·have:=a2K "side" (.str z) []
   simp only[List.length_nil] at this
   omega
  ·exact q t ys _ yp yso (fun b o nb e=>(a0f nb).trans (S13 _ _ (k1 b o nb e))) a0b ((a0f nta).trans e3)
theorem b0f {f:Addr}{fd:FuncData}(F:Fun K "tells_none_twice" "Cleave.tells_none_twice" (a0N (top 38) 3) f fd)(B:Bl mg)(T:ClC K CC):a0y P w K mg base CX0 1 f fd ["self"] (a8S CC):=by
 have sc:a0o ["self"] ["self"] (a0e (a0N (top 38) 3)):=.k (by decide +kernel);refine F.ok sc (fun vs H Q E h=>?_) (fun cdv A outer s H vs Q E hr h=>?_)
 ·obtain⟨a,t,z,zs,rfl,_⟩:=h
  rfl
 ·obtain⟨a,t,z,zs,rfl,⟨⟨dx,ha⟩,ht⟩,nd,l12,q⟩:=h
  refine⟨_,a0h (a0s (a1a a2l (a0i a8m (by rfl) B.len PySem.boot_len (a0a (a0I (a8e rfl) (by rfl) B.set boot_set (a0a (a1z (pv 0) rfl) a0c)) a0c)) (a0i a0K (by rfl) B.len PySem.boot_len (a0a (a1z (pv 0) rfl) a0c)) (a0B _))),?_⟩;refine⟨_,rfl,a,CC,dx,_,_,rfl,ha,T.cl,T.nC,a1l _ _,t,zs,rfl,SqT.of ht,nd,(by omega),fun p hp=>?_⟩;have T1:=a0k.upd (o:=.ext (b0V P w p (zs.map Sum.inr))) hp;refine⟨p,_,rfl,a0b,_,rfl,a,CC,dx,_,_,rfl,T1 _ _ ha,T.cl,T.nC,a1l _ _,t,_,rfl,.inr (SqT.of (T1 _ _ ht)),rfl,?_⟩;have e2:decide (V.int ((zs.map Sum.inr:List Key).length:Nat)=V.int ((zs.map V.str).length:Nat))=true:=by
   rw[lM0,lM0];exact dT0 rfl
  rw[e2];exact q _ T1
theorem a9g {f:Addr}{fd:FuncData}(F:Fun K "words" "Cleave.words" (a0N (top 38) 6) f fd)(T:ClC K CC):a0y P w K mg base CX0 1 f fd ["self"] (a7o CC):=by
 have sc:a0o ["self"] ["self"] (a0e (a0N (top 38) 6)):=.k (by decide +kernel);refine F.ok sc (fun vs H Q E h=>?_) (fun cdv A outer s H vs Q E hr h=>?_)
 ·obtain⟨a,t,z,zs,rfl,_⟩:=h
  rfl
 ·obtain⟨a,t,z,zs,rfl,⟨⟨dx,ha⟩,ht⟩,q⟩:=h
  refine⟨_,a0h (a0s (a0P (a0a a0M (a0a (a1z (pv 0) rfl) (a0a (a1z (pv 0) rfl) a0c))))),?_⟩;exact⟨_,rfl,a,CC,dx,_,_,rfl,ha,T.cl,T.nS,a1I _ _,_,rfl,a,CC,dx,_,_,rfl,ha,T.cl,T.nC,a1l _ _,(by show 3<=sizeLine;decide),fun p hp=>q p _ (a0k.upd hp) a0b⟩
def lf (c:List (Str×V))(zs:List Str):List (Str×V):=c.filter fun x=>decide (x.1∉zs)
def rt (c:List (Str×V))(zs:List Str):List (Str×V):=zs.map fun z=>(z,vOf c z)
theorem a1T {c:List (Str×V)}(nd:(c.map (·.1)).Nodup){x:Str×V}(h:x∈c):vOf c x.1=x.2:=by
 obtain⟨i,hi⟩:=List.getElem?_of_mem h;exact b1B nd hi
theorem a7j {c c2:List (Str×V)}(p:(c2.map (·.1)).Perm (c.map (·.1)))(h:∀z∈c2.map (·.1),vOf c2 z=vOf c z):cnC c2=cnC c:=by
 unfold cnC;have e:srt (c2.map (·.1))=srt (c.map (·.1)):=b2P (a5x _) (a5x _) ((a1d _).trans (p.trans (a1d _).symm));rw[e];refine List.map_congr_left fun z hz=>?_;rw[h z (p.mem_iff.mpr ((a1d _).mem_iff.mp hz))]
theorem a0L.of {H:Hp}{c c2:List (Str×V)}(ok:a0L H c)(nd:(c2.map (·.1)).Nodup)(l:c2.length<=12)(h:∀p∈c2,p.1∈c.map (·.1)/\p.2=vOf c p.1):a0L H c2:=⟨nd,l,fun p hp=>by
 obtain⟨h1,h2⟩:=h p hp;rw[h2];exact a3U ok h1⟩
theorem FAt.cong {H:Hp}{f:Addr}{sz:Int}{T0 T0':Tb}{R R':List Tb}(h:FAt H f sz T0 R)(e:cn T0=cn T0')(p:(R.map cn).Perm (R'.map cn)):FAt H f sz T0' R':=by
 obtain⟨U,a,b,c⟩:=h;rw[e] at a;exact⟨U,a,b.trans p,c⟩
theorem FK.sb {H H':Hp}{f:Addr}{sz:Int}{T0:Tb}{R:List Tb}(h:FK H f sz T0 R)(s:Sb H H'):FK H' f sz T0 R:=⟨h.at_.sb s,h.ts,fun T hT=>(h.co T hT).sb s,h.sz1⟩
theorem CvA.sb {CC:Addr}{H H':Hp}{a t:Addr}{z:Str}{zs:List Str}(h:CvA CC H a z t zs)(s:Sb H H'):CvA CC H' a z t zs:=⟨let ⟨dx,e⟩:=h.ex;⟨dx,s _ _ rfl e⟩,s _ _ rfl h.t⟩
theorem a3J (ys:List Str)(g:Str->V):kvC (ys.map fun z=>(z,g z))=ys.map fun z=>(.inr z,g z):=by
 unfold kvC;rw[mC0]
 rfl
theorem a3s (c:List (Str×V))(zs:List Str):(rt c zs).map (·.1)=zs:=by
 unfold rt;rw[mC0];exact List.map_id' _
theorem a8v {ys:List Str}{g:Str->V}{z:Str}(h:z∈ys):vOf (ys.map fun z=>(z,g z)) z=g z:=by
 unfold vOf;rw[a3J,a6J h]
 rfl
theorem a2A (c:List (Str×V))(zs:List Str):(lf c zs).map (·.1)=(c.map (·.1)).filter fun z=>decide (z∉zs):=by
 unfold lf;rw[List.filter_map]
 rfl
theorem b5B {c c1:List (Str×V)}(nd:(c.map (·.1)).Nodup)(p:(c1.map (·.1)).Perm (c.map (·.1)))(h:∀z∈c1.map (·.1),vOf c1 z=vOf c z)(zs:List Str):cnC (lf c1 zs)=cnC (lf c zs):=by
 have nd1:(c1.map (·.1)).Nodup:=p.nodup_iff.mpr nd;have v1:∀{d:List (Str×V)},(d.map (·.1)).Nodup->∀z∈(lf d zs).map (·.1),vOf (lf d zs) z=vOf d z:=fun {d} nd z hz=>by
  obtain⟨x,hx,rfl⟩:=mM0.mp hz;have hn:((lf d zs).map (·.1)).Nodup:=nd.sublist (List.filter_sublist.map _);rw[a1T hn hx,a1T nd (mF0.mp hx).1]
 have pp:((lf c1 zs).map (·.1)).Perm ((lf c zs).map (·.1)):=by
  rw[a2A,a2A];exact p.filter _
 refine a7j pp fun z hz=>?_;rw[v1 nd1 z hz,v1 nd z (pp.mem_iff.mp hz)];rw[a2A] at hz;exact h z (mF0.mp hz).1
theorem b5E {c c1:List (Str×V)}{zs:List Str}(h:∀z∈zs,vOf c1 z=vOf c z):rt c1 zs=rt c zs:=by
 unfold rt;exact List.map_congr_left fun z hz=>by rw[h z hz]
def a8C (CC PF:Addr):Sp:=fun vs H Q _=>∃(a f t:Addr) (z:Str) (zs:List Str) (sz:Int) (T0:Tb) (R:List Tb),vs=[.ref a,.ref f]/\CvA CC H a z t zs/\FK H f sz T0 R/\a2v PF a3n foQ H/\a1C z=true/\z∉(T0::R).map (·.name)/\R.length<=5/\zs.Nodup/\zs.length<=12/\(∀y∈zs,y∈T0.cols.map (·.1)) ∧
 ∀f' H',Sb H H'->Fr PF H H'->a2v PF a3n foQ H'->FAt H' f' sz ⟨T0.name,T0.sort,lf T0.cols zs⟩ (R++[⟨z,"twin",rt T0.cols zs⟩])->Q (.ref f') H'
structure Fms (P:Program) (w:World) (K:Fg0) (mg:Str->Option Value) (base:Heap) (PF fS fH fC fF fW fO fT fP:Addr) (fdS fdH fdC fdF fdW fdO fdT fdP:FuncData):Prop where
 DS:Df K mg "ask_new_side" (top 39) fS fdS
 GS:a0y P w K mg base CX0 2 fS fdS ["form","side"] a5g
 DH:Df K mg "head_of" (top 23) fH fdH
 DC:Df K mg "columns_of" (top 25) fC fdC
 GC:a0y P w K mg base CX0 2 fC fdC ["form","table"] a2Q
 DF:Df K mg "ask_fit" (top 34) fF fdF
 DW:Df K mg "with_columns" (top 28) fW fdW
 GW:a0y P w K mg base CX0 7 fW fdW ["form","table","columns"] (a4S PF)
 DO:Df K mg "without" (top 41) fO fdO
 GO:a0y P w K mg base CX0 2 fO fdO ["row","columns"] b0E
 DT:Df K mg "with_table" (top 29) fT fdT
 GT:a0y P w K mg base CX0 7 fT fdT ["form","name","sort","columns"] (a6t PF)
 DP:Df K mg "picked" (top 40) fP fdP
theorem b0I {f fS fH fC fF fW fO fT fP f3:Addr}{fd fdS fdH fdC fdF fdW fdO fdT fdP fd3:FuncData}(F:Fun K "after" "Cleave.after" (a0N (top 38) 1) f fd)(B:Bl mg)(T:ClC K CC)(M:Fms P w K mg base PF fS fH fC fF fW fO fT fP fdS fdH fdC fdF fdW fdO fdT fdP)(m3:b1i K CC "tells_none_twice" f3)(g3:a0y P w K mg base CX0 1 f3 fd3 ["self"] (a8S CC))(b3:a1Z K fd3 ["self"] []) :
  a0y P w K mg base CX0 8 f fd ["self","form"] (a8C CC PF):=by
 have sc:a0o ["self","form","head","columns","lesser"] ["self","form"] (a0e (a0N (top 38) 1)):=.k (by decide +kernel);have GH:a0y P w K mg base CX0 1 fH fdH ["form"] a5c:=a4u M.DH.fn;have GF:a0y P w K mg base CX0 1 fF fdF ["fine"] a9j:=a6U M.DF.fn;have GP:a0y P w K mg base CX0 1 fP fdP ["row","columns"] a4J:=a5C M.DP.fn B;have bS:=M.DS.fn.b2 "form" "side" (by intros;rfl);have bH:=M.DH.fn.b1 "form" (by intros;rfl);have bC:=M.DC.fn.b2 "form" "table" (by intros;rfl);have bF:=M.DF.fn.b1 "fine" (by intros;rfl);have bW:=M.DW.fn.b3 "form" "table" "columns" (by intros;rfl);have bO:=M.DO.fn.b2 "row" "columns" (by intros;rfl);have bT:=M.DT.fn.b4 "form" "name" "sort" "columns" (by intros;rfl);have bP:=M.DP.fn.b2 "row" "columns" (by intros;rfl);refine F.ok sc (fun vs H Q E h=>?_) (fun cdv A outer s H vs Q E hr h=>?_)
 ·obtain⟨a,f,t,z,zs,sz,T0,R,rfl,_⟩:=h
  rfl
 ·obtain⟨a,f,t,z,zs,sz,T0,R,rfl,cv,fk,tab,hn,hz,r5,nd,l12,hzs,q⟩:=h
  have hu:=a2o hr;have hr1:a1q 1 _:=hr.mono (by decide);have hr2:a1q 2 _:=hr.mono (by decide);refine⟨_,a0d (a0U (a0j M.GS hr2 (by rfl) M.DS.mg M.DS.fn.kp bS .nil a0u (a0a (pv 1) (a0a (a1z (pv 0) rfl) a0c))))
   (a0d (a0w (i:=2) sc.nd rfl (Or.inl rfl) (a0j GH hr1 (by rfl) M.DH.mg M.DH.fn.kp bH .nil a0u (a0a (pv 1) a0c)))
   (a0d (a0w (i:=3) sc.nd rfl (Or.inr rfl) (a0j M.GC hr2 (by rfl) M.DC.mg M.DC.fn.kp bC .nil a0u (a0a (pv 1) (a0a (pv 2) a0c))))
   (a0d (a0U (a0j GF hr1 (by rfl) M.DF.mg M.DF.fn.kp bF .nil a0u (a0a (a2d (a3v (pv 0) T.cl m3 g3 hr1 b3 .nil a0u) (a2x (a0i (a6V rfl) (by rfl) B.all boot_all (a0a (a1j (osc:=a0e (a0N (top 38) 1)) (N0:=["self","form","head","columns","lesser"]) (xs:=["column"]) (fr:=[3]) ⟨rfl,by decide +kernel,by decide +kernel,by decide +kernel,(fun j hj=>by
       have e:j=3:=by simpa using hj
       subst e;exact⟨_,rfl,by decide +kernel⟩),by decide +kernel⟩ rfl rfl rfl (a4a (a1z (pv 0) rfl))
      (fun s H fp=>a0q (i:=0) (show(["column","columns"]:List Str).Nodup by decide +kernel) rfl (Or.inl rfl)) (fun s H fp=>a1h)
      (fun s H fp=>b1G (b1l hu (pv 0) (pv 1)))) a0c)))) a0c)))
   (a0d (a0w (i:=4) sc.nd rfl (Or.inl rfl) (a0j M.GW hr (by rfl) M.DW.mg M.DW.fn.kp bW .nil a0u (a0a (pv 1) (a0a (pv 2) (a0a (a0j M.GO hr2 (by rfl) M.DO.mg M.DO.fn.kp bO .nil a0u (a0a (pv 3) (a0a (a1z (pv 0) rfl) a0c))) a0c)))))
   (a0h (a0s (a0j M.GT hr (by rfl) M.DT.mg M.DT.fn.kp bT .nil a0u (a0a (pv 4) (a0a (a1z (pv 0) rfl) (a0a a0M (a0a (a0j GP hr1 (by rfl) M.DP.mg M.DP.fn.kp bP .nil a0u (a0a (pv 3) (a0a (a1z (pv 0) rfl) a0c))) a0c))))))))))),?_⟩
  obtain⟨U,hF,hU,fx,co,t8,tsU,eU⟩:=fk.get;have pN:=a3t (T0:=T0) hU;obtain⟨dx,ha⟩:=cv.ex;have ht:=cv.t;have okc:=fk.co T0 List.mem_cons_self;refine⟨_,rfl,_,rfl,a,CC,dx,_,_,rfl,ha,T.cl,T.nS,a1I _ _,f,sz,cn T0::U,z,rfl,hF,t8,hn,(fun h=>hz (pN.mem_iff.mp h)),fun H1 s1=>?_⟩;refine⟨_,rfl,f,sz,cn T0,U,rfl,hF.same s1,?_⟩;refine⟨_,rfl,_,rfl,f,sz,cn T0::U,cn T0,rfl,hF.same s1,tsU.2.1,List.mem_cons_self,okc.cn.1,okc.cn.2.1,fun cp H2 ys hcp s2 py _ ecp=>?_⟩;have S2:=s1.trans s2;have py':ys.Perm (T0.cols.map (·.1)):=py.trans (by rw[show(cn T0).cols=cnC T0.cols from rfl,a2f];exact a1d _);have ecp':H2 cp=some (.dK (kvC (ys.map fun z=>(z,vOf (cn T0).cols z)))):=by rw[a3J];exact ecp
  have nc:((ys.map fun z=>(z,vOf (cn T0).cols z)).map (·.1))=ys:=by rw[mC0];exact List.map_id' _
  have vc:∀y∈ys,vOf (ys.map fun z=>(z,vOf (cn T0).cols z)) y=vOf T0.cols y:=fun y hy=>by
   rw[a8v hy];exact a5m (py'.mem_iff.mp hy)
  have ndy:ys.Nodup:=py'.nodup_iff.mpr okc.1;have yl:ys.length<=12:=by rw[py'.length_eq,lM0];exact okc.2.1
  have lc1:(ys.map fun z=>(z,vOf (cn T0).cols z)).length=ys.length:=lM0 ..;generalize ys.map (fun z=>(z,vOf (cn T0).cols z))=c1 at *;have hzc:∀y∈zs,y∈c1.map (·.1):=fun y hy=>by rw[nc];exact py'.mem_iff.mpr (hzs y hy)
  refine⟨_,rfl,a,dx,_,rfl,S2 _ _ ha,a1M _ _ (by decide +kernel) (by decide +kernel),a,t,z,zs,rfl,cv.same S2,nd,l12,fun H3 s3=>⟨_,rfl,a6a ?_⟩⟩;have S3:=S2.trans s3;refine⟨_,rfl,a,CC,dx,_,_,rfl,S3 _ _ ha,T.cl,T.nC,a1l _ _,t,rfl,⟨_,SqT.of (S3 _ _ ht)⟩,fun D hD=>?_⟩;have cp3:=s3 _ _ ecp';refine a1m zs.length (fun i ys' σ' Hc=>(∃u,σ'=[u,some (.ref cp)])/\a0k H3 Hc/\ys'=(List.replicate i true).map V.bl) (by rw[sizeLine_eq];omega) ⟨⟨none,rfl⟩,a0k.upd hD,rfl⟩ a0b ?_ ?_
  ·rintro i σ' Hc ys' hi ⟨⟨u,rfl⟩,sm,rfl⟩ hyl hD'
   refine⟨⟨_,V.str zs[i],SqT.of (sm _ _ (S3 _ _ ht)),by rw[gM0,gE0 hi];rfl⟩,?_⟩;rintro x H' ⟨rfl,hx'⟩;have ex:=hx' _ (SqT.of (sm _ _ (S3 _ _ ht)));rw[gM0,gE0 hi] at ex;cases ex;refine⟨_,rfl,_,rfl,cp,_,rfl,.inl ⟨_,.inr zs[i],.inl (sm _ _ cp3),rfl,(a4m (hzc _ (gQ0 hi))).symm⟩,hD',⟨_,rfl⟩,sm.put hD,?_⟩;rw[List.replicate_succ',mA0]
   rfl
  ·rintro σ' Hc ys' ⟨_,sm,rfl⟩ hDn hyl
   refine⟨⟨_,SqT.of (sm _ _ (S3 _ _ ht)),by rw[lM0];exact nR0 _⟩,D,_,rfl,SqL.of hDn,?_,?_⟩
   ·show[V.bl ((List.replicate zs.length true).all id)]=[V.bl true]
    rw[List.all_eq_true.mpr fun b hb=>by rw[List.eq_of_mem_replicate hb];rfl]
   have Sc:=S3.trans sm;have cpc:=sm _ _ cp3;have fkc:=fk.sb Sc.sb;refine⟨_,rfl,_,rfl,_,rfl,_,rfl,a,CC,dx,_,_,rfl,Sc _ _ ha,T.cl,T.nC,a1l _ _,cp,t,c1,zs,rfl,cpc,Sc _ _ ht,nd,hzc,fun p H4 s4 _ ep=>?_⟩;have S4:=Sc.trans s4;have fk4:=fk.sb S4.sb;have ok4:a0L H4 T0.cols:=okc.same S4;have nlf:((lf c1 zs).map (·.1)).Nodup:=by
    rw[a2A,nc];exact ndy.sublist List.filter_sublist
   have okl:a0L H4 (lf c1 zs):=ok4.of nlf (Nat.le_trans (List.length_filter_le _ _) (by rw[lc1];exact yl)) fun x hx=>by
    have hx1:=(mF0.mp hx).1;have hx2:x.1∈ys:=by rw[<-nc];exact mM0.mpr ⟨x,hx1,rfl⟩
    exact⟨py'.mem_iff.mp hx2,by rw[<-vc x.1 hx2,a1T (by rw[nc];exact ndy) hx1]⟩
   refine⟨f,sz,T0,R,T0.name,p,lf c1 zs,rfl,fk4,tab.same S4,(by rw[mN0];exact List.mem_cons_self),ep,okl,fun f1 H5 sb5 fr5 tb5 fa5=>?_⟩;have B5:=S4.sb.trans sb5;have rc0:rc T0.name (lf c1 zs) T0=⟨T0.name,T0.sort,lf c1 zs⟩:=if_pos rfl;have rcR:R.map (rc T0.name (lf c1 zs))=R:=by
    have:∀X∈R,rc T0.name (lf c1 zs) X=X:=fun X hX=>if_neg fun e=>by
     have:=fk.ts.2.1
     rw[mN0,List.nodup_cons] at this;exact this.1 (by rw[<-e];exact mM0.mpr ⟨X,hX,rfl⟩)
    rw[List.map_congr_left this];exact List.map_id' _
   rw[rc0,rcR] at fa5;have cp5:=sb5 _ _ rfl (s4 _ _ cpc);have ha5:=B5 _ _ rfl ha;have ht5:=B5 _ _ rfl ht;have ok5:a0L H5 T0.cols:=okc.sb B5;have fk5:FK H5 f1 sz ⟨T0.name,T0.sort,lf c1 zs⟩ R:=⟨fa5,fk.ts.perm rfl (.refl _),fun X hX=>by
    rcases mK0.mp hX with rfl |hX
    ·exact okl.sb sb5
    ·exact(fk.co X (mL0 _ hX)).sb B5,fk.sz1⟩
   refine⟨_,rfl,_,rfl,a,CC,dx,_,_,rfl,ha5,T.cl,T.nS,a1I _ _,_,rfl,_,rfl,a,CC,dx,_,_,rfl,ha5,T.cl,T.nC,a1l _ _,cp,t,c1,zs,rfl,cp5,ht5,nd,l12,hzc,fun p2 H6 s6 hp2 e6=>?_⟩;have okr:a0L H6 (rt c1 zs):=(ok5.same s6).of (by rw[a3s];exact nd) (by unfold rt;rw[lM0];exact l12) fun x hx=>by
    obtain⟨y,hy,rfl⟩:=mM0.mp hx;exact⟨hzs y hy,vc y (py'.mem_iff.mpr (hzs y hy))⟩
   obtain⟨t7,tnd,tn,th,tss⟩:=fk.ts;refine⟨f1,sz,⟨T0.name,T0.sort,lf c1 zs⟩,R,z,"twin",p2,rt c1 zs,rfl,fk5.sb s6.sb,e6,okr,tb5.same s6,⟨?_,?_,fun X hX=>?_,th,fun X hX=>?_⟩,fun f2 H7 sb7 fr7 tb7 fa7=>?_⟩
   ·rw[lA0]
    show R.length+1<=7
    omega
   ·show(T0.name::(R++[(⟨z,"twin",rt c1 zs⟩:Tb)]).map (fun X:Tb=>X.name)).Nodup
    rw[mA0,<-List.cons_append,List.nodup_append];refine⟨tnd,by simp,fun x hx y hy e=>?_⟩
    have:y=z:=by simpa using hy
    rw[e,this] at hx;exact hz hx
   ·rcases mK0.mp hX with rfl |hX
    ·exact tn T0 List.mem_cons_self
    ·rcases mB0.mp hX with hX |hX
     ·exact tn X (mL0 _ hX)
     ·rw[mS0.mp hX];exact hn
   ·rcases mB0.mp hX with hX |hX
    ·exact tss X hX
    ·rw[mS0.mp hX];exact(by show("twin":Str)∈a3Y;decide +kernel)
   ·refine q f2 H7 ((B5.trans s6.sb).trans sb7) (fun b o nb e=>fr7 b o nb (s6 _ _ (fr5 b o nb (S4 _ _ e)))) tb7 (fa7.cong ?_ ?_)
    ·show(⟨T0.name,T0.sort,cnC (lf c1 zs)⟩:Tb)=⟨T0.name,T0.sort,cnC (lf T0.cols zs)⟩
     rw[b5B okc.1 (by rw[nc];exact py') (fun y hy=>vc y (by rw[<-nc];exact hy)) zs]
    ·rw[b5E fun y hy=>vc y (py'.mem_iff.mpr (hzs y hy))]
theorem a4y {c:List (Str×V)}{z:Str}{v:V}(h:a1U (kvC c) (.inr z)=some v):z∈c.map (·.1):=by
 induction c with
 |nil=>cases h
 |cons x r ih=>
  by_cases e:x.1=z
  ·rw[<-e];exact List.mem_cons_self
  ·rw[show kvC (x::r)=(.inr x.1,x.2)::kvC r from rfl,a1G (fun q=>e (by injection q))] at h
   exact mL0 _ (ih h)
theorem a4b:∀{c2 c1:List (Str×V)},((c1++c2).map (·.1)).Nodup->a1n (kvC c1) (kvC c2)=kvC (c1++c2)
 |[],c1,_=>by rw[List.append_nil];rfl
 |x::r,c1,h=>by
  have hn:x.1∉c1.map (·.1):=by
   rw[mA0,List.nodup_append] at h;exact fun hm=>h.2.2 _ hm x.1 (by rw[mN0];exact List.mem_cons_self) rfl
  have hv:a1U (kvC c1) (.inr x.1)=none:=by
   cases e:a1U (kvC c1) (.inr x.1) with
   |none=>rfl
   |some v=>exact absurd (a4y e) hn
  show a1n (a2G (kvC c1) (.inr x.1) x.2) (kvC r)=_;rw[L2.a3q _ hv,show kvC c1++[((.inr x.1:Key),x.2)]=kvC (c1++[x]) by unfold kvC;rw[mA0];rfl,a4b (c1:=c1++[x]) (by rw[List.append_assoc];exact h),List.append_assoc]
  rfl
def a7p (CC PF:Addr):Sp:=fun vs H Q _=>∃(a f t:Addr) (z:Str) (zs:List Str) (sz:Int) (T0 Tz:Tb) (R:List Tb),vs=[.ref a,.ref f]/\CvA CC H a z t zs/\FK H f sz T0 R/\a2v PF a3n foQ H/\Tz∈R/\Tz.name=z/\Tz.sort="twin"/\zs.Perm (Tz.cols.map (·.1))/\sortedS zs=true/\T0.cols.length+zs.length<=12/\(∀y∈zs,y∉T0.cols.map (·.1)) ∧
 ∀f' H',Sb H H'->Fr PF H H'->a2v PF a3n foQ H'->FAt H' f' sz ⟨T0.name,T0.sort,T0.cols++Tz.cols⟩ (R.filter (nz z))->Q (.ref f') H'
structure Fmb (P:Program) (w:World) (K:Fg0) (mg:Str->Option Value) (base:Heap) (PF fI fS fO:Addr) (fdI fdS fdO:FuncData):Prop where
 DI:Df K mg "columns_in" (top 35) fI fdI
 GI:a0y P w K mg base CX0 3 fI fdI ["form","table"] a7l
 DS:Df K mg "sort_of" (top 24) fS fdS
 GS:a0y P w K mg base CX0 2 fS fdS ["form","table"] a7f
 DO:Df K mg "without_table" (top 30) fO fdO
 GO:a0y P w K mg base CX0 7 fO fdO ["form","name"] (a3H PF)
theorem a9x {f_ fH fC fF fW fI fS fO:Addr}{fd fdH fdC fdF fdW fdI fdS fdO:FuncData}(F:Fun K "before" "Cleave.before" (a0N (top 38) 2) f_ fd)(B:Bl mg)(T:ClC K CC)(M:Fmb P w K mg base PF fI fS fO fdI fdS fdO)(DH:Df K mg "head_of" (top 23) fH fdH)(DC:Df K mg "columns_of" (top 25) fC fdC)(GC:a0y P w K mg base CX0 2 fC fdC ["form","table"] a2Q)(DF:Df K mg "ask_fit" (top 34) fF fdF)(DW:Df K mg "with_columns" (top 28) fW fdW)(GW:a0y P w K mg base CX0 7 fW fdW ["form","table","columns"] (a4S PF)) :
  a0y P w K mg base CX0 8 f_ fd ["self","form"] (a7p CC PF):=by
 have sc:a0o ["self","form","had","head","columns"] ["self","form"] (a0e (a0N (top 38) 2)):=.k (by decide +kernel);have GH:a0y P w K mg base CX0 1 fH fdH ["form"] a5c:=a4u DH.fn;have GF:a0y P w K mg base CX0 1 fF fdF ["fine"] a9j:=a6U DF.fn;have bI:=M.DI.fn.b2 "form" "table" (by intros;rfl);have bS:=M.DS.fn.b2 "form" "table" (by intros;rfl);have bO:=M.DO.fn.b2 "form" "name" (by intros;rfl);have bH:=DH.fn.b1 "form" (by intros;rfl);have bC:=DC.fn.b2 "form" "table" (by intros;rfl);have bF:=DF.fn.b1 "fine" (by intros;rfl);have bW:=DW.fn.b3 "form" "table" "columns" (by intros;rfl);refine F.ok sc (fun vs H Q E h=>?_) (fun cdv A outer s H vs Q E hr h=>?_)
 ·obtain⟨a,f,t,z,zs,sz,T0,Tz,R,rfl,_⟩:=h
  rfl
 ·obtain⟨a,f,t,z,zs,sz,T0,Tz,R,rfl,cv,fk,tab,hTz,rfl,hso,pz,soz,l12,dj,q⟩:=h
  have hu:=a2o hr;have hr1:a1q 1 _:=hr.mono (by decide);have hr2:a1q 2 _:=hr.mono (by decide);have hr3:a1q 3 _:=hr.mono (by decide);refine⟨_,a0d (a0w (i:=2) sc.nd rfl (Or.inl rfl) (a0j M.GI hr3 (by rfl) M.DI.mg M.DI.fn.kp bI .nil a0u (a0a (pv 1) (a0a (a1z (pv 0) rfl) a0c))))
   (a0d (a0U (a0j GF hr1 (by rfl) DF.mg DF.fn.kp bF .nil a0u (a0a (a1a a2l (a0j M.GS hr2 (by rfl) M.DS.mg M.DS.fn.kp bS .nil a0u (a0a (pv 1) (a0a (a1z (pv 0) rfl) a0c))) a0M (a0B _)) a0c)))
   (a0d (a0U (a0j GF hr1 (by rfl) DF.mg DF.fn.kp bF .nil a0u (a0a (a1a b3u (a0I (a8c rfl) (by rfl) B.list boot_list (a0a (pv 2) a0c)) (a0I a3h (by rfl) B.list boot_list (a0a (a1z (pv 0) rfl) a0c)) (a0B _)) a0c)))
   (a0d (a0w (i:=3) sc.nd rfl (Or.inl rfl) (a0j GH hr1 (by rfl) DH.mg DH.fn.kp bH .nil a0u (a0a (pv 1) a0c)))
   (a0d (a0w (i:=4) sc.nd rfl (Or.inr rfl) (a0j GC hr2 (by rfl) DC.mg DC.fn.kp bC .nil a0u (a0a (pv 1) (a0a (pv 3) a0c))))
   (a0d (a0U (a0j GF hr1 (by rfl) DF.mg DF.fn.kp bF .nil a0u (a0a (b1L (a0i (b0m rfl) (by rfl) B.any boot_any (a0a (a1j (osc:=a0e (a0N (top 38) 2)) (N0:=["self","form","had","head","columns"]) (xs:=["column"]) (fr:=[4]) ⟨rfl,by decide +kernel,by decide +kernel,by decide +kernel,(fun j hj=>by
       have e:j=4:=by simpa using hj
       subst e;exact⟨_,rfl,by decide +kernel⟩),by decide +kernel⟩ rfl rfl rfl (a4a (a1z (pv 0) rfl))
      (fun s H fp=>a0q (i:=0) (show(["column","columns"]:List Str).Nodup by decide +kernel) rfl (Or.inl rfl)) (fun s H fp=>a1h)
      (fun s H fp=>b1G (b1l hu (pv 0) (pv 1)))) a0c))) a0c)))
   (a0d (a0U (a4A PySem.F.plainAttrs_dict PySem.F.slot_dict_update PySem.F.type_dict_update a7G (pv 4) (a0a (pv 2) a0c)))
   (a0h (a0s (a0j GW hr (by rfl) DW.mg DW.fn.kp bW .nil a0u (a0a (a0j M.GO hr (by rfl) M.DO.mg M.DO.fn.kp bO .nil a0u (a0a (pv 1) (a0a (a1z (pv 0) rfl) a0c))) (a0a (pv 3) (a0a (pv 4) a0c)))))))))))),?_⟩
  obtain⟨U,hF,hU,fx,co,t8,tsU,eU⟩:=fk.get;have pN:=a3t (T0:=T0) hU;obtain⟨dx,ha⟩:=cv.ex;have ht:=cv.t;have okc:=fk.co T0 List.mem_cons_self;have okz:=fk.co Tz (mL0 _ hTz);have hTU:cn Tz∈U:=hU.mem_iff.mpr (mM0.mpr ⟨Tz,hTz,rfl⟩);refine⟨_,rfl,_,rfl,a,CC,dx,_,_,rfl,ha,T.cl,T.nS,a1I _ _,f,sz,cn T0::U,cn Tz,rfl,hF,t8,tsU.2.1,mL0 _ hTU,okz.cn.1,okz.cn.2.1,fun hp H1 ys hph s1 py so1 e1=>?_⟩;have py':ys.Perm (Tz.cols.map (·.1)):=py.trans (by rw[show(cn Tz).cols=cnC Tz.cols from rfl,a2f];exact a1d _);obtain rfl:=a3R so1 soz py' pz;have e1':H1 hp=some (.dK (kvC (ys.map fun z=>(z,vOf (cn Tz).cols z)))):=by rw[a3J];exact e1
  have vz:∀y∈ys,vOf (cn Tz).cols y=vOf Tz.cols y:=fun y hy=>a5m (py'.mem_iff.mp hy);have ndy:ys.Nodup:=py'.nodup_iff.mpr okz.1;refine⟨_,rfl,_,rfl,a,CC,dx,_,_,rfl,s1 _ _ ha,T.cl,T.nS,a1I _ _,f,sz,cn T0::U,cn Tz,rfl,hF.same s1,tsU.2.1,mL0 _ hTU,rfl,?_,?_⟩
  ·show[V.bl (decide (V.str Tz.sort=V.str "twin"))]=[V.bl true]
   rw[hso,dT0 rfl]
  refine⟨_,rfl,hp,_,ys,rfl,.inl e1',(by rw[a3J,mC0];rfl),fun l1 hl1=>?_⟩;have T2:=a0k.upd (o:=.lst (ys.map V.str)) hl1;have e2:=a0b (H:=H1) (a:=l1) (o:=.lst (ys.map V.str));generalize upd H1 l1 (.lst (ys.map V.str))=H2 at *;have S2:=s1.trans T2;refine⟨_,rfl,a,CC,dx,_,_,rfl,S2 _ _ ha,T.cl,T.nC,a1l _ _,t,_,rfl,.inr (SqT.of (S2 _ _ ht)),fun l2 hl2=>?_⟩;have T3:=a0k.upd (o:=.lst (ys.map V.str)) hl2;have e3:=a0b (H:=H2) (a:=l2) (o:=.lst (ys.map V.str));generalize upd H2 l2 (.lst (ys.map V.str))=H3 at *;have S3:=S2.trans T3;refine⟨0,l1,l2,_,_,rfl,rfl,SqL.of (T3 _ _ e2),SqL.of e3,rfl,(fun i x y c1 c2=>?_),hu,rfl,?_⟩
  ·have:x=y:=Option.some.inj (c1.symm.trans c2)
   subst this;rw[gM0] at c1;cases ez:ys[i]? with
   |none=>rw[ez] at c1;cases c1
   |some w=>rw[ez] at c1;cases c1;exact .str
  refine⟨_,rfl,f,sz,cn T0,U,rfl,hF.same S3,?_⟩;refine⟨_,rfl,_,rfl,f,sz,cn T0::U,cn T0,rfl,hF.same S3,tsU.2.1,List.mem_cons_self,okc.cn.1,okc.cn.2.1,fun cp H4 ws hcp s4 pw _ e4=>?_⟩;have pw':ws.Perm (T0.cols.map (·.1)):=pw.trans (by rw[show(cn T0).cols=cnC T0.cols from rfl,a2f];exact a1d _);have e4':H4 cp=some (.dK (kvC (ws.map fun z=>(z,vOf (cn T0).cols z)))):=by rw[a3J];exact e4
  have vw:∀y∈ws,vOf (cn T0).cols y=vOf T0.cols y:=fun y hy=>a5m (pw'.mem_iff.mp hy);have ndw:ws.Nodup:=pw'.nodup_iff.mpr okc.1;have S4:=S3.trans s4;have S14:=(T2.trans T3).trans s4;have S13h:=(T2.trans T3) _ _ e1';refine⟨_,rfl,a,CC,dx,_,_,rfl,S4 _ _ ha,T.cl,T.nC,a1l _ _,t,rfl,⟨_,SqT.of (S4 _ _ ht)⟩,fun D hD=>?_⟩;refine a1m ys.length (fun i ys' σ' Hc=>(∃u,σ'=[u,some (.ref cp)])/\a0k H4 Hc/\ys'=(List.replicate i false).map V.bl) (by rw[sizeLine_eq];have:=okz.2.1;have:=py'.length_eq;rw[lM0] at this;omega) ⟨⟨none,rfl⟩,a0k.upd hD,rfl⟩ a0b ?_ ?_
  ·rintro i σ' Hc ys' hi ⟨⟨u,rfl⟩,sm,rfl⟩ hyl hD'
   refine⟨⟨_,V.str ys[i],SqT.of (sm _ _ (S4 _ _ ht)),by rw[gM0,gE0 hi];rfl⟩,?_⟩;rintro x H' ⟨rfl,hx'⟩;have ex:=hx' _ (SqT.of (sm _ _ (S4 _ _ ht)));rw[gM0,gE0 hi] at ex;cases ex;have nv:a1U (kvC (ws.map fun z=>(z,vOf (cn T0).cols z))) (.inr ys[i])=none:=by
    cases e:a1U (kvC (ws.map fun z=>(z,vOf (cn T0).cols z))) (.inr ys[i]) with
    |none=>rfl
    |some v=>
     have:=a4y e
     rw[mC0] at this;obtain⟨y,hy,ey⟩:=mM0.mp this;have ey':y=ys[i]:=ey;exact absurd (pw'.mem_iff.mp hy) (by rw[ey'];exact dj _ (gQ0 hi))
   refine⟨_,rfl,_,rfl,cp,none,rfl,.inl ⟨_,.inr ys[i],.inl (sm _ _ e4'),rfl,nv.symm⟩,hD',⟨_,rfl⟩,sm.put hD,?_⟩;rw[List.replicate_succ',mA0]
   rfl
  ·rintro σ' Hc ys' ⟨_,sm,rfl⟩ hDn hyl
   refine⟨⟨_,SqT.of (sm _ _ (S4 _ _ ht)),by rw[lM0];exact nR0 _⟩,D,_,rfl,SqL.of hDn,?_⟩;refine⟨_,rfl,?_,?_⟩
   ·have ea:(List.replicate ys.length false).any id=false:=List.any_eq_false.mpr fun b hb=>by rw[List.eq_of_mem_replicate hb];exact bF0
    show[V.bl (!((List.replicate ys.length false).any id))]=[V.bl true]
    rw[ea]
    rfl
   have Sc:=S4.trans sm;have ec:=sm _ _ e4';have eh:=(S14.trans sm) _ _ e1';have nhc:cp≠hp:=fun e=>by rw[e] at hcp;rw[S13h] at hcp;cases hcp
   refine⟨_,rfl,.inr (.inr (.inl ⟨rfl,.inl ⟨_,ec⟩⟩)),_,rfl,cp,hp,_,_,rfl,rfl,nhc,ec,eh,?_,?_⟩
   ·unfold kvC
    rw[lM0,lM0,lM0,lM0,sizeLine_eq,pw'.length_eq,lM0]
    omega
   have ndj:(((ws.map fun z=>(z,vOf (cn T0).cols z))++(ys.map fun z=>(z,vOf (cn Tz).cols z))).map (·.1)).Nodup:=by
    rw[mA0,mC0,mC0,show ws.map ((fun x:Str×V=>x.1)∘fun z=>(z,vOf (cn T0).cols z))=ws from List.map_id' _,show ys.map ((fun x:Str×V=>x.1)∘fun z=>(z,vOf (cn Tz).cols z))=ys from List.map_id' _,List.nodup_append];exact⟨ndw,ndy,fun x hx y hy e=>dj y hy (by rw[<-e];exact pw'.mem_iff.mp hx)⟩
   rw[a4b ndj];have k5:∀b o,b≠cp->Hc b=some o->(upd Hc cp (.dK (kvC ((ws.map fun z=>(z,vOf (cn T0).cols z))++(ys.map fun z=>(z,vOf (cn Tz).cols z)))))) b=some o:=fun b o nb e=>(a0f nb).trans e;have ec5:=a0b (H:=Hc) (a:=cp) (o:=.dK (kvC ((ws.map fun z=>(z,vOf (cn T0).cols z))++(ys.map fun z=>(z,vOf (cn Tz).cols z)))));have hcp0:H cp=none:=a0G S3 hcp;generalize upd Hc cp (.dK (kvC ((ws.map fun z=>(z,vOf (cn T0).cols z))++(ys.map fun z=>(z,vOf (cn Tz).cols z)))))=H5 at *;have S5:a0k H H5:=fun b o e=>k5 b o (a0C e hcp0) (Sc _ _ e);have fk5:=fk.sb S5.sb;refine⟨_,rfl,_,rfl,a,CC,dx,_,_,rfl,S5 _ _ ha,T.cl,T.nS,a1I _ _,f,sz,T0,R,Tz.name,rfl,fk5,tab.same S5,mM0.mpr ⟨Tz,hTz,rfl⟩,fun f1 H6 sb6 fr6 tb6 fa6=>?_⟩;have B6:=S5.sb.trans sb6;have fk6:FK H6 f1 sz T0 (R.filter (nz Tz.name)):=⟨fa6,fk.ts.filter _,fun X hX=>by
    rcases mK0.mp hX with rfl |hX
    ·exact okc.sb B6
    ·exact(fk.co X (mL0 _ (mF0.mp hX).1)).sb B6,fk.sz1⟩
   have okj:a0L H6 ((ws.map fun z=>(z,vOf (cn T0).cols z))++(ys.map fun z=>(z,vOf (cn Tz).cols z))):=by
    refine⟨ndj,?_,fun x hx=>?_⟩
    ·rw[lA0,lM0,lM0,pw'.length_eq,lM0]
     omega
    ·rcases mB0.mp hx with hx |hx
     ·obtain⟨y,hy,rfl⟩:=mM0.mp hx
      show a1C y=true/\∃d,Rep H6 d (vOf (cn T0).cols y)/\a3o d=true/\a4d d=true;rw[vw y hy];exact a3U (okc.sb B6) (pw'.mem_iff.mp hy)
     ·obtain⟨y,hy,rfl⟩:=mM0.mp hx
      show a1C y=true/\∃d,Rep H6 d (vOf (cn Tz).cols y)/\a3o d=true/\a4d d=true;rw[vz y hy];exact a3U (okz.sb B6) (py'.mem_iff.mp hy)
   refine⟨_,rfl,_,rfl,f1,sz,T0,R.filter (nz Tz.name),T0.name,cp,_,rfl,fk6,tb6,(by rw[mN0];exact List.mem_cons_self),sb6 _ _ rfl ec5,okj,fun f2 H7 sb7 fr7 tb7 fa7=>?_⟩;refine q f2 H7 (B6.trans sb7) (fun b o nb e=>fr7 b o nb (fr6 b o nb (S5 _ _ e))) tb7 (fa7.cong ?_ ?_)
   ·unfold rc
    rw[if_pos rfl]
    show(⟨T0.name,T0.sort,cnC _⟩:Tb)=⟨T0.name,T0.sort,cnC _⟩
    congr 1
    have nT:((T0.cols++Tz.cols).map (·.1)).Nodup:=by
     rw[mA0,List.nodup_append];exact⟨okc.1,okz.1,fun x hx y hy e=>dj y (py'.mem_iff.mpr hy) (by rw[<-e];exact hx)⟩
    refine a7j ?_ fun y hy=>?_
    ·rw[mA0,mA0,mC0,mC0]
     exact List.Perm.append (by rw[show ws.map ((fun x:Str×V=>x.1)∘fun z=>(z,vOf (cn T0).cols z))=ws from List.map_id' _];exact pw') (by rw[show ys.map ((fun x:Str×V=>x.1)∘fun z=>(z,vOf (cn Tz).cols z))=ys from List.map_id' _];exact py')
    ·obtain⟨x,hx,rfl⟩:=mM0.mp hy
     rw[a1T ndj hx];rcases mB0.mp hx with hx |hx
     ·obtain⟨y,hy2,rfl⟩:=mM0.mp hx
      obtain⟨x0,hx0,e0⟩:=mM0.mp (pw'.mem_iff.mp hy2);show vOf (cn T0).cols y=vOf (T0.cols++Tz.cols) y;rw[vw y hy2,<-e0,a1T okc.1 hx0,a1T nT (List.mem_append_left _ hx0)]
     ·obtain⟨y,hy2,rfl⟩:=mM0.mp hx
      obtain⟨x0,hx0,e0⟩:=mM0.mp (py'.mem_iff.mp hy2);show vOf (cn Tz).cols y=vOf (T0.cols++Tz.cols) y;rw[vz y hy2,<-e0,a1T okz.1 hx0,a1T nT (List.mem_append_right _ hx0)]
   ·have:(R.filter (nz Tz.name)).map (rc T0.name ((ws.map fun z=>(z,vOf (cn T0).cols z))++(ys.map fun z=>(z,vOf (cn Tz).cols z))))=R.filter (nz Tz.name):=by
     have hq:∀X∈R.filter (nz Tz.name),rc T0.name ((ws.map fun z=>(z,vOf (cn T0).cols z))++(ys.map fun z=>(z,vOf (cn Tz).cols z))) X=X:=fun X hX=>if_neg fun e=>by
      have:=fk.ts.2.1
      rw[mN0,List.nodup_cons] at this;exact this.1 (by rw[<-e];exact mM0.mpr ⟨X,(mF0.mp hX).1,rfl⟩)
     rw[List.map_congr_left hq];exact List.map_id' _
    rw[this]
theorem a9V.same {H H':Hp}{pc:Pc}(h:a9V H pc)(s:a0k H H'):a9V H' pc:=⟨h.nd,h.le,h.rl,fun t ht row hr=>⟨(h.rw_ t ht row hr).1,fun c hc=>by
 rcases (h.rw_ t ht row hr).2 c hc with h1 |⟨a,xs,h1,h2⟩
 ·exact .inl h1
 ·exact .inr ⟨a,xs,h1,s _ _ h2⟩⟩⟩
theorem b5q {H:Hp}{l:Addr}{row:Rw}(h:a1X H l [row]):∃r,H l=some (.lst [V.ref r])/\H r=some (.dK (rK row)):=by
 obtain⟨rs,a,b,c⟩:=h
 match rs,b with
 |[r],_=>exact⟨r,a,c 0 r row rfl rfl⟩
theorem a3c {H:Hp}{l r:Addr}{row:Rw}(a:H l=some (.lst [V.ref r]))(b:H r=some (.dK (rK row))):a1X H l [row]:=⟨[r],a,rfl,fun j x y h1 h2=>match j,h1,h2 with
 |0,h1,h2=>by cases h1;cases h2;exact b
 |j+1,h1,_=>by cases h1⟩
theorem a1X.keep {H H':Hp}{l p:Addr}{rows:List Rw}(h:a1X H l rows)(nl:l≠p)(nr:∀(r:Addr) (row:Rw),row∈rows->H r=some (.dK (rK row))->r≠p)(k:∀b o,b≠p->H b=some o->H' b=some o):a1X H' l rows:=by
 obtain⟨rs,a,b,c⟩:=h;exact⟨rs,k _ _ nl a,b,fun j r row x y=>k _ _ (nr r row (gI0 y) (c j r row x y)) (c j r row x y)⟩
def a8T (CC:Addr):Sp:=fun vs H Q _=>∃(a f p t:Addr) (z n7:Str) (zs:List Str) (sz:Int) (T0:Tb) (Ts:List Tb) (row:Rw) (many:List Rw),vs=[.ref a,.ref f,.ref p,.non]/\CvA CC H a z t zs/\a0W H f sz (T0::Ts)/\a3u H p [(T0.name,[row]),(n7,many)]/\a9V H [(T0.name,[row]),(n7,many)]/\z≠T0.name/\z≠n7/\zs.Nodup/\zs.length<=12/\(∀y∈zs,y∈row.map (·.1)) ∧
 ∀q' p' H',a0k H H'->a3u (cut H H') p' [(T0.name,[lf row zs]),(n7,many),(z,[rt row zs])]->H' q'=some (.tup [.ref p',.non])->Q (.ref q') H'
def b1k (CC:Addr):Sp:=fun vs H Q _=>∃(a f p t:Addr) (z n7:Str) (zs:List Str) (sz:Int) (T0:Tb) (Ts:List Tb) (row twin:Rw) (many:List Rw),vs=[.ref a,.ref f,.ref p,.non]/\CvA CC H a z t zs/\a0W H f sz (T0::Ts)/\a3u H p [(T0.name,[row]),(z,[twin]),(n7,many)]/\a9V H [(T0.name,[row]),(z,[twin]),(n7,many)]/\((row++twin).map (·.1)).Nodup ∧
 ∀q' p' H',a0k H H'->a3u (cut H H') p' [(T0.name,[row++twin]),(n7,many)]->H' q'=some (.tup [.ref p',.non])->Q (.ref q') H'
theorem b0Z {f_ fK fH fO fP:Addr}{fd fdK fdH fdO fdP:FuncData}(F:Fun K "forth" "Cleave.forth" (a0N (top 38) 4) f_ fd)(B:Bl mg)(T:ClC K CC)(DK:Df K mg "copied" (top 31) fK fdK)(DH:Df K mg "head_of" (top 23) fH fdH)(DO:Df K mg "without" (top 41) fO fdO)(GO:a0y P w K mg base CX0 2 fO fdO ["row","columns"] b0E)(DP:Df K mg "picked" (top 40) fP fdP):a0y P w K mg base CX0 3 f_ fd ["self","form","piece","rest"] (a8T CC):=by
 have sc:a0o ["self","form","piece","rest","fresh","head","row"] ["self","form","piece","rest"] (a0e (a0N (top 38) 4)):=.k (by decide +kernel);have GK:a0y P w K mg base CX0 1 fK fdK ["piece"] a4G:=a5A DK.fn B;have GH:a0y P w K mg base CX0 1 fH fdH ["form"] a5c:=a4u DH.fn;have GP:a0y P w K mg base CX0 1 fP fdP ["row","columns"] a4J:=a5C DP.fn B;have bK:=DK.fn.b1 "piece" (by intros;rfl);have bH:=DH.fn.b1 "form" (by intros;rfl);have bO:=DO.fn.b2 "row" "columns" (by intros;rfl);have bP:=DP.fn.b2 "row" "columns" (by intros;rfl);refine F.ok sc (fun vs H Q E h=>?_) (fun cdv A outer s H vs Q E hr h=>?_)
 ·obtain⟨a,f,p,t,z,n7,zs,sz,T0,Ts,row,many,rfl,_⟩:=h
  rfl
 ·obtain⟨a,f,p,t,z,n7,zs,sz,T0,Ts,row,many,rfl,cv,hF,hp,ok,z0,z7,nd,l12,hzs,q⟩:=h
  have hu:=a2o hr;have hr1:a1q 1 _:=hr.mono (by decide);refine⟨_,a0d (a0w (i:=4) sc.nd rfl (Or.inl rfl) (a0j GK hr1 (by rfl) DK.mg DK.fn.kp bK .nil a0u (a0a (pv 2) a0c)))
   (a0d (a0w (i:=5) sc.nd rfl (Or.inl rfl) (a0j GH hr1 (by rfl) DH.mg DH.fn.kp bH .nil a0u (a0a (pv 1) a0c)))
   (a0d (a0w (i:=6) sc.nd rfl (Or.inl rfl) (a0x a0r (a2a hu (pv 4) (pv 5) (fun _ _=>rfl)) a0g (fun _ _=>rfl)))
   (a0d (a2c hu (pv 4) (pv 5) (a1S (a0a (a0j GO hr (by rfl) DO.mg DO.fn.kp bO .nil a0u (a0a (pv 6) (a0a (a1z (pv 0) rfl) a0c))) a0c)) rfl)
   (a0d (a2c hu (pv 4) (a1z (pv 0) rfl) (a1S (a0a (a0j GP hr1 (by rfl) DP.mg DP.fn.kp bP .nil a0u (a0a (pv 6) (a0a (a1z (pv 0) rfl) a0c))) a0c)) rfl)
   (a0h (a0s (a0P (a0a (pv 4) (a0a a1r a0c))))))))),?_⟩
  obtain⟨dx,ha⟩:=cv.ex;have ht:=cv.t;have n07:T0.name≠n7:=by
   have:=ok.nd
   simp only[mN0,List.map_nil,List.nodup_cons,mK0,List.not_mem_nil,or_false] at this;exact this.1
  refine⟨_,rfl,p,_,rfl,hp,ok,fun p1 H1 s1 hE=>?_⟩;obtain⟨ls,e1,ll,hr'⟩:=hE.d.pc;have nH:∀{b:Addr} {o:HO},cut H H1 b=some o->H b=none:=fun e=>a1K e
  match ls,ll with
  |[l0,l7],_=>
  have ok1:=ok.same s1;have A0:=a3u.apart ok1 (a0p _ _ e1) rfl (j:=0) rfl rfl ((hr' 0 l0 _ rfl rfl).same a0p);have A7:=a3u.apart ok1 (a0p _ _ e1) rfl (j:=1) rfl rfl ((hr' 1 l7 _ rfl rfl).same a0p);obtain⟨r0,c0,d0⟩:=b5q (hr' 0 l0 _ rfl rfl);have r0p:=A0.2 r0 row (by simp) (a0p _ _ d0);have R7:=hr' 1 l7 _ rfl rfl;have p1n:=nH e1;have e1':H1 p1=some (.dK [(.inr T0.name,.ref l0),(.inr n7,.ref l7)]):=a0p _ _ e1;have v0:a1U [((.inr T0.name:Key),V.ref l0),(.inr n7,.ref l7)] (.inr T0.name)=some (.ref l0):=a1x rfl;refine⟨_,rfl,f,sz,T0,Ts,rfl,hF.same s1,?_⟩;refine⟨_,rfl,_,rfl,p1,_,rfl,.inl ⟨_,.inr T0.name,.inl e1',rfl,v0.symm⟩,l0,_,0,_,rfl,rfl,SqL.of (a0p _ _ c0),rfl,?_⟩;have dr1:H1 r0=some (.dK (kvC row)):=a0p _ _ d0;refine⟨_,rfl,_,rfl,a,CC,dx,_,_,rfl,s1 _ _ ha,T.cl,T.nC,a1l _ _,r0,t,row,zs,rfl,dr1,s1 _ _ ht,nd,hzs,fun w0 H2 s2 hw e2=>⟨(by show 1<=sizeLine;decide),fun m0 hm0=>?_⟩⟩;have w0n:H w0=none:=by
   rcases hw with rfl |hw
   ·exact nH d0
   ·exact a0G s1 hw
  have w0p:w0≠p1:=by
   rcases hw with rfl |hw
   ·exact r0p
   ·exact fun e=>by rw[e,e1'] at hw;cases hw
  have T3:=a0k.upd (o:=.lst [V.ref w0]) hm0;have e3:=a0b (H:=H2) (a:=m0) (o:=.lst [V.ref w0]);have m0n:H m0=none:=a0G (s1.trans s2) hm0;generalize upd H2 m0 (.lst [V.ref w0])=H3 at *;have S13:=s2.trans T3;have m0p:m0≠p1:=fun e=>by rw[e,S13 _ _ e1'] at e3;cases e3
  refine⟨_,rfl,_,rfl,p1,_,rfl,a8h.k (k:=.inr T0.name) (S13 _ _ e1') (by show 2<sizeLine;decide),?_⟩;rw[show a2G [((.inr T0.name:Key),V.ref l0),(.inr n7,.ref l7)] (.inr T0.name) (.ref m0)=[(.inr T0.name,.ref m0),(.inr n7,.ref l7)] by unfold a2G;simp[n07.symm]];have k4:∀b o,b≠p1->H3 b=some o->(upd H3 p1 (.dK [(.inr T0.name,.ref m0),(.inr n7,.ref l7)])) b=some o:=fun b o nb e=>(a0f nb).trans e;have e4:=a0b (H:=H3) (a:=p1) (o:=.dK [((.inr T0.name:Key),V.ref m0),(.inr n7,.ref l7)]);generalize upd H3 p1 (.dK [(.inr T0.name,.ref m0),(.inr n7,.ref l7)])=H4 at *;have k14:∀b o,b≠p1->H1 b=some o->H4 b=some o:=fun b o nb e=>k4 b o nb (S13 _ _ e);have S04:a0k H H4:=fun b o e=>k14 b o (a0C e p1n) (s1 _ _ e);refine⟨_,rfl,_,rfl,a,CC,dx,_,_,rfl,S04 _ _ ha,T.cl,T.nC,a1l _ _,r0,t,row,zs,rfl,k14 _ _ r0p dr1,S04 _ _ ht,nd,l12,hzs,fun w1 H5 s5 hw1 e5=>⟨(by show 1<=sizeLine;decide),fun m1 hm1=>?_⟩⟩;have T6:=a0k.upd (o:=.lst [V.ref w1]) hm1;have e6:=a0b (H:=H5) (a:=m1) (o:=.lst [V.ref w1]);have m1n:H m1=none:=a0G (S04.trans s5) hm1;have w1n:H w1=none:=a0G S04 hw1;generalize upd H5 m1 (.lst [V.ref w1])=H6 at *;have S46:=s5.trans T6;have m1p:m1≠p1:=fun e=>by rw[e,S46 _ _ e4] at e6;cases e6
  have w1p:w1≠p1:=fun e=>by rw[e,e4] at hw1;cases hw1
  refine⟨_,rfl,_,rfl,a,CC,dx,_,_,rfl,(S04.trans S46) _ _ ha,T.cl,T.nS,a1I _ _,p1,_,rfl,a8h.k (k:=.inr z) (S46 _ _ e4) (by show 2<sizeLine;decide),?_⟩;rw[show a2G [((.inr T0.name:Key),V.ref m0),(.inr n7,.ref l7)] (.inr z) (.ref m1)=[(.inr T0.name,.ref m0),(.inr n7,.ref l7),(.inr z,.ref m1)] by unfold a2G;simp[z0.symm,z7.symm]];have k7:∀b o,b≠p1->H6 b=some o->(upd H6 p1 (.dK [(.inr T0.name,.ref m0),(.inr n7,.ref l7),(.inr z,.ref m1)])) b=some o:=fun b o nb e=>(a0f nb).trans e;have e7:=a0b (H:=H6) (a:=p1) (o:=.dK [((.inr T0.name:Key),V.ref m0),(.inr n7,.ref l7),(.inr z,.ref m1)]);generalize upd H6 p1 (.dK [(.inr T0.name,.ref m0),(.inr n7,.ref l7),(.inr z,.ref m1)])=H7 at *;refine⟨_,rfl,(by show 2<=sizeLine;decide),fun q' hq'=>?_⟩;have T8:=a0k.upd (o:=.tup [V.ref p1,.non]) hq';have e8:=a0b (H:=H7) (a:=q') (o:=.tup [V.ref p1,.non]);generalize upd H7 q' (.tup [V.ref p1,.non])=H8 at *;have k18:∀b o,b≠p1->H1 b=some o->H8 b=some o:=fun b o nb e=>T8 _ _ (k7 b o nb (S46 _ _ (k14 b o nb e)));have k38:∀b o,b≠p1->H3 b=some o->H8 b=some o:=fun b o nb e=>T8 _ _ (k7 b o nb (S46 _ _ (k4 b o nb e)));have k68:∀b o,b≠p1->H6 b=some o->H8 b=some o:=fun b o nb e=>T8 _ _ (k7 b o nb e);refine q q' p1 H8 (fun b o e=>k18 b o (a0C e p1n) (s1 _ _ e)) ⟨[m0,l7,m1],a0Q p1n (T8 _ _ e7),rfl,fun j l x h1 h2=>?_⟩ e8
  match j,h1,h2 with
  |0,h1,h2=>
   cases h1;cases h2;exact a3c (a0Q m0n (k38 _ _ m0p e3)) (a0Q w0n (k38 _ _ w0p (T3 _ _ e2)))
  |1,h1,h2=>
   cases h1;cases h2;refine R7.keep (p:=p1) A7.1 (fun r row hrow e=>A7.2 r row hrow (a0p _ _ e)) fun b o nb e=>a0Q (a1K e) (k18 b o nb (a0p _ _ e))
  |2,h1,h2=>
   cases h1;cases h2;exact a3c (a0Q m1n (k68 _ _ m1p e6)) (a0Q w1n (k68 _ _ w1p (T6 _ _ e5)))
theorem b1Y {f_ fK fH:Addr}{fd fdK fdH:FuncData}(F:Fun K "back" "Cleave.back" (a0N (top 38) 5) f_ fd)(B:Bl mg)(T:ClC K CC)(DK:Df K mg "copied" (top 31) fK fdK)(DH:Df K mg "head_of" (top 23) fH fdH):a0y P w K mg base CX0 2 f_ fd ["self","form","piece","rest"] (b1k CC):=by
 have sc:a0o ["self","form","piece","rest","fresh","twin"] ["self","form","piece","rest"] (a0e (a0N (top 38) 5)):=.k (by decide +kernel);have GK:a0y P w K mg base CX0 1 fK fdK ["piece"] a4G:=a5A DK.fn B;have GH:a0y P w K mg base CX0 1 fH fdH ["form"] a5c:=a4u DH.fn;have bK:=DK.fn.b1 "piece" (by intros;rfl);have bH:=DH.fn.b1 "form" (by intros;rfl);refine F.ok sc (fun vs H Q E h=>?_) (fun cdv A outer s H vs Q E hr h=>?_)
 ·obtain⟨a,f,p,t,z,n7,zs,sz,T0,Ts,row,twin,many,rfl,_⟩:=h
  rfl
 ·obtain⟨a,f,p,t,z,n7,zs,sz,T0,Ts,row,twin,many,rfl,cv,hF,hp,ok,ndj,q⟩:=h
  have hu:=a2o hr;refine⟨_,a0d (a0w (i:=4) sc.nd rfl (Or.inl rfl) (a0j GK hr (by rfl) DK.mg DK.fn.kp bK .nil a0u (a0a (pv 2) a0c)))
   (a0d (a0w (i:=5) sc.nd rfl (Or.inl rfl) (a0x a0r (a6P (pv 4) (a1z (pv 0) rfl) ⟨rfl,rfl,rfl,rfl⟩) a0g (fun _ _=>rfl)))
   (a0d (a0U (a4A PySem.F.plainAttrs_dict PySem.F.slot_dict_update PySem.F.type_dict_update a7G (a0x a0r (a2a hu (pv 4) (a0j GH hr (by rfl) DH.mg DH.fn.kp bH .nil a0u (a0a (pv 1) a0c)) (fun _ _=>rfl)) a0g (fun _ _=>rfl)) (a0a (pv 5) a0c)))
   (a0h (a0s (a0P (a0a (pv 4) (a0a a1r a0c))))))),?_⟩
  obtain⟨dx,ha⟩:=cv.ex;have nds:=ok.nd;simp only[mN0,List.map_nil,List.nodup_cons,mK0,List.not_mem_nil,or_false,not_or] at nds;obtain⟨⟨n0z,n07⟩,nz7,_⟩:=nds;refine⟨_,rfl,p,_,rfl,hp,ok,fun p1 H1 s1 hE=>?_⟩;obtain⟨ls,ow,e1,ll,hr'⟩:=hE
  match ls,ll with
  |[l0,l1,l7],_=>
  have ok1:=ok.same s1;have A0:=a3u.apart ok1 (a0p _ _ e1) rfl (j:=0) rfl rfl ((hr' 0 l0 _ rfl rfl).d.rows.same a0p);have A1:=a3u.apart ok1 (a0p _ _ e1) rfl (j:=1) rfl rfl ((hr' 1 l1 _ rfl rfl).d.rows.same a0p);have A7:=a3u.apart ok1 (a0p _ _ e1) rfl (j:=2) rfl rfl ((hr' 2 l7 _ rfl rfl).d.rows.same a0p);obtain⟨rs0,c0,cl0,_,d0,o0⟩:=hr' 0 l0 _ rfl rfl;obtain⟨rs1,c1,cl1,_,d1,o1⟩:=hr' 1 l1 _ rfl rfl;obtain⟨rs7,c7,cl7,_,d7,o7⟩:=hr' 2 l7 _ rfl rfl
  match rs0,cl0,rs1,cl1 with
  |[r0],_,[r1],_=>
  have g0:=d0 0 r0 row rfl rfl;have g1:=d1 0 r1 twin rfl rfl;have r0p:=A0.2 r0 row (by simp) (a0p _ _ g0);have r1p:=A1.2 r1 twin (by simp) (a0p _ _ g1);have n01:r0≠r1:=fun e=>by
   have h1:=o0 r0 (by simp);have h2:=o1 r1 (by simp);rw[e,h2] at h1;cases h1
  have p1n:=a1K e1;have e1':H1 p1=some (.dK [(.inr T0.name,.ref l0),(.inr z,.ref l1),(.inr n7,.ref l7)]):=a0p _ _ e1;have vz:a1U [((.inr T0.name:Key),V.ref l0),(.inr z,.ref l1),(.inr n7,.ref l7)] (.inr z)=some (.ref l1):=by
   rw[a1G (fun e=>n0z (by injection e))];exact a1x rfl
  refine⟨_,rfl,p1,rfl,.inl ⟨_,.inl e1'⟩,_,rfl,a,CC,dx,_,_,rfl,s1 _ _ ha,T.cl,T.nS,a1I _ _,_,.inr z,_,e1',rfl,vz,?_⟩;rw[show a2H [((.inr T0.name:Key),V.ref l0),(.inr z,.ref l1),(.inr n7,.ref l7)] (.inr z)=[(.inr T0.name,.ref l0),(.inr n7,.ref l7)] by rw[a5I (fun e=>n0z (by injection e)),a9w rfl,a5I (fun e=>nz7 (by injection e with e;exact e.symm))];rfl];have k2:∀b o,b≠p1->H1 b=some o->(upd H1 p1 (.dK [(.inr T0.name,.ref l0),(.inr n7,.ref l7)])) b=some o:=fun b o nb e=>(a0f nb).trans e;have e2:=a0b (H:=H1) (a:=p1) (o:=.dK [((.inr T0.name:Key),V.ref l0),(.inr n7,.ref l7)]);generalize upd H1 p1 (.dK [(.inr T0.name,.ref l0),(.inr n7,.ref l7)])=H2 at *;have S02:a0k H H2:=fun b o e=>k2 b o (a0C e p1n) (s1 _ _ e);refine⟨l1,_,0,_,rfl,rfl,SqL.of (k2 _ _ A1.1 (a0p _ _ c1)),rfl,?_⟩;have v0:a1U [((.inr T0.name:Key),V.ref l0),(.inr n7,.ref l7)] (.inr T0.name)=some (.ref l0):=a1x rfl;have f0:H2 r0=some (.dK (kvC row)):=k2 _ _ r0p (a0p _ _ g0);have f1:H2 r1=some (.dK (kvC twin)):=k2 _ _ r1p (a0p _ _ g1);have okr:=(ok.rw_ (T0.name,[row]) (by simp) row (by simp)).1.2;have okt:=(ok.rw_ (z,[twin]) (by simp) twin (by simp)).1.2;refine⟨_,rfl,_,rfl,f,sz,T0,Ts,rfl,hF.same S02,p1,_,rfl,.inl ⟨_,.inr T0.name,.inl e2,rfl,v0.symm⟩,l0,_,0,_,rfl,rfl,SqL.of (k2 _ _ A0.1 (a0p _ _ c0)),rfl,.inr (.inr (.inl ⟨rfl,.inl ⟨_,f0⟩⟩)),_,rfl,r0,r1,_,_,rfl,rfl,n01,f0,f1,(by unfold kvC;rw[lM0,lM0,sizeLine_eq];omega),?_⟩;rw[a4b ndj];have k3:∀b o,b≠r0->H2 b=some o->(upd H2 r0 (.dK (kvC (row++twin)))) b=some o:=fun b o nb e=>(a0f nb).trans e;have e3:=a0b (H:=H2) (a:=r0) (o:=.dK (kvC (row++twin)));have r0n:H r0=none:=a1K g0;generalize upd H2 r0 (.dK (kvC (row++twin)))=H3 at *;refine⟨_,rfl,(by show 2<=sizeLine;decide),fun q' hq'=>?_⟩;have T4:=a0k.upd (o:=.tup [V.ref p1,.non]) hq';have e4:=a0b (H:=H3) (a:=q') (o:=.tup [V.ref p1,.non]);generalize upd H3 q' (.tup [V.ref p1,.non])=H4 at *;have k14:∀b o,b≠p1->b≠r0->H1 b=some o->H4 b=some o:=fun b o n1 n2 e=>T4 _ _ (k3 b o n2 (k2 b o n1 e));refine q q' p1 H4 (fun b o e=>T4 _ _ (k3 b o (a0C e r0n) (S02 _ _ e))) ⟨[l0,l7],a0Q p1n (T4 _ _ (k3 _ _ r0p.symm e2)),rfl,fun j l x h1 h2=>?_⟩ e4;have lr:∀{l:Addr} {xs:List V},cut H H1 l=some (.lst xs)->l≠r0:=fun {l xs} e q=>by rw[q,g0] at e;cases e
  match j,h1,h2 with
  |0,h1,h2=>
   cases h1;cases h2;exact a3c (a0Q (a1K c0) (k14 _ _ A0.1 (lr c0) (a0p _ _ c0))) (a0Q r0n (T4 _ _ e3))
  |1,h1,h2=>
   cases h1;cases h2;refine⟨rs7,a0Q (a1K c7) (k14 _ _ A7.1 (lr c7) (a0p _ _ c7)),cl7,fun j r rw h1 h2=>?_⟩;have g:=d7 j r rw h1 h2;have n07':r≠r0:=fun e=>by
    have h3:=o7 r (gI0 h1);have h4:=o0 r0 (by simp);rw[e,h4] at h3;cases h3
   exact a0Q (a1K g) (k14 _ _ (A7.2 r rw (gI0 h2) (a0p _ _ g)) n07' (a0p _ _ g))
end
end My
namespace Rp
open PySem PySem.StrLaws PySem.Builtin PySem.Builtin.Str
end Rp
namespace L2
open PySem PySem.Spec PyProof.Rows
end L2
namespace Rp
open PySem PySem.StrLaws PySem.Builtin PySem.Builtin.Str
end Rp
namespace L2
open PySem PySem.Spec PyProof.Rows PyProof.V
end L2
namespace L2
open PySem PySem.Spec PyProof.Rows
section
variable {X:Cx}{pos:Pos}
theorem a3D:OpR X (binaryOp .Pow) (rI (fun i j=>0<=j/\(Builtin.Int.intBits i:Int) * j<=2 ^ 27) fun i j=>.int (i ^ j.toNat)):=opI fun _ _ _ _ _ _ _ hc q=>pow_int hc.1 hc.2 q
end
theorem b0W {X:Cx}:MtR X "list.reverse" a7m:=a8k
theorem b0D {X:Cx}:MtR X "list.clear" b1v:=b0P
end L2
namespace My
open PySem L2 PyProof.Rows
seal L2.PE L2.PT L2.PW L2.PS L2.PSs L2.PA L2.PI L2.PG L2.PGs L2.OpR L2.a1e L2.IxR L2.SlR L2.MtR L2.PIf L2.PO L2.MtM L2.PC L2.a7F
abbrev mv (i:Nat):Stmt:=a0N (top 33) i
def b0M:Sp:=fun vs H Q _=>∃x y:V,vs=[x,y]/\Q y H
def a7c:Sp:=fun vs H Q _=>∃x y z r:V,vs=[x,y,z,r]/\Q .non H
def b0p:Sp:=fun vs H Q _=>∃x:V,vs=[x]/\Q (.bl true) H
theorem b3L {a b:Str}{v u:V}(h:a≠b):a2G [((.inr a:Key),v)] (.inr b) u=[(.inr a,v),(.inr b,u)]:=by
 unfold a2G;rw[if_neg]
 ·rfl
 ·simp[h]
theorem b3E {a b c:Str}{v u x:V}(h1:a≠c)(h2:b≠c):a2G [((.inr a:Key),v),(.inr b,u)] (.inr c) x=[(.inr a,v),(.inr b,u),(.inr c,x)]:=by
 unfold a2G;rw[if_neg]
 ·rfl
 ·simp[h1,h2]
theorem a8p {a b:Str}{v u:V}(h:a≠b):a1n [] [((.inr a:Key),v),(.inr b,u)]=[(.inr a,v),(.inr b,u)]:=b3L h
theorem b1F {a b c:Str}{v u x:V}(h:a≠b)(h1:a≠c)(h2:b≠c):a1n [] [((.inr a:Key),v),(.inr b,u),(.inr c,x)]=[(.inr a,v),(.inr b,u),(.inr c,x)]:=by
 show a2G (a2G [((.inr a:Key),v)] (.inr b) u) (.inr c) x=_;rw[b3L h,b3E h1 h2]
abbrev nmL (nm:Nat->Str):List V:=(List.range 9).map fun i=>V.str (nm i)
structure Nm8 (nm:Nat->Str):Prop where
 inj:∀i j,i<9->j<9->i≠1->j≠1->nm i=nm j->i=j
 n10:nm 1≠nm 0
 n17:nm 1≠nm 7
 ok:∀i,i<9->a1C (nm i)=true
theorem Nm8.ne {nm:Nat->Str}(h:Nm8 nm){i j:Nat}(hi:i<9:=by decide)(hj:j<9:=by decide)(h1:i≠1:=by decide)(h2:j≠1:=by decide)(n:i≠j:=by decide):nm i≠nm j:=fun e=>n (h.inj i j hi hj h1 h2 e)
def a9T (nm:Nat->Str):List Str:=[nm 2,nm 3,nm 4,nm 5,nm 6]
theorem a1B {nm:Nat->Str}(h:Nm8 nm):(a9T nm).Nodup:=by
 unfold a9T;simp only[List.nodup_cons,mK0,List.not_mem_nil,or_false,not_or,not_false_eq_true,List.nodup_nil,and_true];exact⟨⟨h.ne,h.ne,h.ne,h.ne⟩,⟨h.ne,h.ne,h.ne⟩,⟨h.ne,h.ne⟩,h.ne⟩
theorem a7g {nm:Nat->Str}{i:Nat}(h1:2<=i)(h2:i<7):nm i∈a9T nm:=by
 have:i=2\/i=3\/i=4\/i=5\/i=6:=by omega
 unfold a9T;rcases this with rfl |rfl |rfl |rfl |rfl<;>simp
theorem a1L (nm:Nat->Str){i:Nat}(hi:i<9):atI (nmL nm) (i:Int)=some (.str (nm i)):=a1b (by rw[gM0,List.getElem?_range hi];rfl)
theorem b3n {a b c d:Str}{v u x y:V}(h1:a≠d)(h2:b≠d)(h3:c≠d):a2G [((.inr a:Key),v),(.inr b,u),(.inr c,x)] (.inr d) y=[(.inr a,v),(.inr b,u),(.inr c,x),(.inr d,y)]:=by
 unfold a2G;rw[if_neg]
 ·rfl
 ·simp[h1,h2,h3]
theorem b4d {a b c d e:Str}{v u x y t:V}(h1:a≠e)(h2:b≠e)(h3:c≠e)(h4:d≠e):a2G [((.inr a:Key),v),(.inr b,u),(.inr c,x),(.inr d,y)] (.inr e) t=[(.inr a,v),(.inr b,u),(.inr c,x),(.inr d,y),(.inr e,t)]:=by
 unfold a2G;rw[if_neg]
 ·rfl
 ·simp[h1,h2,h3,h4]
theorem b4y {H:Hp}{a:Addr}{z:Str}(h:H a=some (.tup [.str z]))(l:z.length<=1000):Rep H (.tup [.str z]) (.ref a):=by
 unfold Rep;exact⟨a,_,rfl,h,by unfold a1N;exact⟨_,_,rfl,by unfold Rep;exact⟨rfl,l⟩,by unfold a1N;rfl⟩⟩
theorem b4A {H:Hp}{a:Addr}{z:Str}{d:Dt}{v:V}(h:H a=some (.tup [.str z,v]))(l:z.length<=1000)(hv:Rep H d v):Rep H (.tup [.str z,d]) (.ref a):=by
 unfold Rep;exact⟨a,_,rfl,h,by unfold a1N;exact⟨_,_,rfl,by unfold Rep;exact⟨rfl,l⟩,by unfold a1N;exact⟨_,_,rfl,hv,by unfold a1N;rfl⟩⟩⟩
def KdC (H:Hp)(v:V):Prop:=∃d,Rep H d v/\a3o d=true/\a4d d=true
theorem KdC.same {H H':Hp}{v:V}(h:KdC H v)(s:a0k H H'):KdC H' v:=let ⟨d,a,b,c⟩:=h;⟨d,a.same s,b,c⟩
def a8x:Sp:=fun vs H Q _=>∃(nl:Addr) (nm:Nat->Str),vs=[.ref nl]/\H nl=some (.lst (nmL nm))/\Nm8 nm/\∀p c H',a0k H H'->H p=none->H' p=some (.dK (kvC c))->c.map (·.1)=a9T nm->(∀x∈c,KdC H' x.2)->Q (.ref p) H'
def a6O:Sp:=fun vs H Q _=>∃(nl:Addr) (nm:Nat->Str) (c:Int),vs=[.ref nl,.int c]/\H nl=some (.lst (nmL nm))/\Nm8 nm/\∀(l:Addr) (cs:List Str) (H':Hp),a0k H H'->H l=none->H' l=some (.lst (cs.map V.str))->cs.Nodup->(∀z∈cs,z∈a9T nm)->cs.length<=5->Q (.ref l) H'
def rf (c:List (Str×V))(zs:List Str):List (Str×V):=c.filter fun x=>decide (x.1∈zs)
def a4X:Sp:=fun vs H Q _=>∃(a l:Addr) (c:List (Str×V)) (cs:List Str),vs=[.ref a,.ref l]/\H a=some (.dK (kvC c))/\H l=some (.lst (cs.map V.str))/\(c.map (·.1)).Nodup/\c.length<=12/\cs.length<=12/\∀t x y H',a0k H H'->H' t=some (.lst [.ref x,.ref y])->H x=none->H y=none->H t=none->x≠y->H' x=some (.dK (kvC (lf c cs)))->H' y=some (.dK (kvC (rf c cs)))->Q (.ref t) H'
theorem a6v {c:List (Str×V)}(nd:(c.map (·.1)).Nodup){x:Str×V}(h:x∈c):a1U (kvC c) (.inr x.1)=some x.2:=a5Q (f:=fun x:Str×V=>x.1) (g:=fun x=>x.2) nd h
theorem a5T {c:List (Str×V)}{zs:List Str}{z:Str}(h:z∈(lf c zs).map (·.1)):z∈c.map (·.1):=by
 obtain⟨x,hx,e⟩:=mM0.mp h;exact mM0.mpr ⟨x,(mF0.mp hx).1,e⟩
theorem a5B {c:List (Str×V)}{zs:List Str}{z:Str}(h:z∈(rf c zs).map (·.1)):z∈c.map (·.1):=by
 obtain⟨x,hx,e⟩:=mM0.mp h;exact mM0.mpr ⟨x,(mF0.mp hx).1,e⟩
theorem a2T {c:List (Str×V)}{z:Str}(h:z∉c.map (·.1)):a1U (kvC c) (.inr z)=none:=by
 cases e:a1U (kvC c) (.inr z) with
 |none=>rfl
 |some v=>exact absurd (a4y e) h
theorem a7n (c:List (Str×V))(x:Str×V):kvC c++[((.inr x.1:Key),x.2)]=kvC (c++[x]):=by
 unfold kvC;rw[mA0]
 rfl
theorem a7u {H G:Hp}{a y:Addr}{u o:HO}(s:a0k H (upd G a u))(n:a≠y)(h:H y=none):a0k H (upd (upd G y o) a u):=fun b v e=>by
 have nb:b≠y:=fun z=>by rw[z,h] at e;cases e
 have:=s b v e
 by_cases hb:b=a
 ·subst hb
  rw[a0b] at this ⊢;exact this
 ·rw[a0f hb] at this ⊢
  rw[a0f nb];exact this
section
variable {P:Program}{w:World}{K:Fg0}{mg:Str->Option Value}{base:Heap}
theorem b5D {f:Addr}{fd:FuncData}(F:Fun K "key_forth" "Move.key_forth" (mv 6) f fd):a0y P w K mg base CX0 1 f fd ["self","key"] b0M:=by
 have sc:a0o ["self","key"] ["self","key"] (a0e (mv 6)):=.k (by decide +kernel);refine F.ok sc (fun vs H Q E h=>?_) (fun cdv A outer s H vs Q E hr h=>?_)
 ·obtain⟨x,y,rfl,_⟩:=h
  rfl
 ·obtain⟨x,y,rfl,q⟩:=h
  exact⟨_,a0h (a0s (pv 1)),_,rfl,q⟩
theorem b5h {f:Addr}{fd:FuncData}(F:Fun K "key_back" "Move.key_back" (mv 7) f fd):a0y P w K mg base CX0 1 f fd ["self","key"] b0M:=by
 have sc:a0o ["self","key"] ["self","key"] (a0e (mv 7)):=.k (by decide +kernel);refine F.ok sc (fun vs H Q E h=>?_) (fun cdv A outer s H vs Q E hr h=>?_)
 ·obtain⟨x,y,rfl,_⟩:=h
  rfl
 ·obtain⟨x,y,rfl,q⟩:=h
  exact⟨_,a0h (a0s (pv 1)),_,rfl,q⟩
theorem b2I {f:Addr}{fd:FuncData}(F:b2Y K "left" "Move.left" (mv 4) f fd):a0y P w K mg base CX0 1 f fd ["self","form","piece","rest"] a7c:=by
 have sc:a0o ["self","form","piece","rest"] ["self","form","piece","rest"] (a0e (mv 4)):=.k (by decide +kernel);refine F.ok sc (fun vs H Q E h=>?_) (fun cdv A outer s H vs Q E hr h=>?_)
 ·obtain⟨x,y,z,r,rfl,_⟩:=h
  rfl
 ·obtain⟨x,y,z,r,rfl,q⟩:=h
  exact⟨_,a0h (a0s a1r),q⟩
theorem b0i {f:Addr}{fd:FuncData}(F:b2Y K "right" "Move.right" (mv 5) f fd):a0y P w K mg base CX0 1 f fd ["self","form","piece","rest"] a7c:=by
 have sc:a0o ["self","form","piece","rest"] ["self","form","piece","rest"] (a0e (mv 5)):=.k (by decide +kernel);refine F.ok sc (fun vs H Q E h=>?_) (fun cdv A outer s H vs Q E hr h=>?_)
 ·obtain⟨x,y,z,r,rfl,_⟩:=h
  rfl
 ·obtain⟨x,y,z,r,rfl,q⟩:=h
  exact⟨_,a0h (a0s a1r),q⟩
theorem b3C {f:Addr}{fd:FuncData}(F:Fun K "keeps_forth" "Move.keeps_forth" (mv 8) f fd):a0y P w K mg base CX0 1 f fd ["self"] b0p:=by
 have sc:a0o ["self"] ["self"] (a0e (mv 8)):=.k (by decide +kernel);refine F.ok sc (fun vs H Q E h=>?_) (fun cdv A outer s H vs Q E hr h=>?_)
 ·obtain⟨x,rfl,_⟩:=h
  rfl
 ·obtain⟨x,rfl,q⟩:=h
  exact⟨_,a0h (a0s a3m),q⟩
theorem b3z {f:Addr}{fd:FuncData}(F:Fun K "keeps_back" "Move.keeps_back" (mv 9) f fd):a0y P w K mg base CX0 1 f fd ["self"] b0p:=by
 have sc:a0o ["self"] ["self"] (a0e (mv 9)):=.k (by decide +kernel);refine F.ok sc (fun vs H Q E h=>?_) (fun cdv A outer s H vs Q E hr h=>?_)
 ·obtain⟨x,rfl,_⟩:=h
  rfl
 ·obtain⟨x,rfl,q⟩:=h
  exact⟨_,a0h (a0s a3m),q⟩
theorem b1d {f:Addr}{fd:FuncData}(F:Fun K "_law_kinds" "_law_kinds" (top 48) f fd):a0y P w K mg base CX0 1 f fd ["_law_names_here"] a8x:=by
 have sc:a0o ["_law_names_here","_law_kinds_here"] ["_law_names_here"] (a0e (top 48)):=.k (by decide +kernel);refine F.ok sc (fun vs H Q E h=>?_) (fun cdv A outer s H vs Q E hr h=>?_)
 ·obtain⟨nl,nm,rfl,_⟩:=h
  rfl
 ·obtain⟨nl,nm,rfl,hnl,N,q⟩:=h
  have hu:=a2o hr;refine⟨_,a0d (a0w (i:=1) sc.nd rfl (Or.inl rfl) (a2u (a0Y (a0x a0r (pv 0) a0g (fun _ _=>rfl)) (a0P (a0a a0M a0c)) (a0Y (a0x a0r (pv 0) a0g (fun _ _=>rfl)) (a0P (a0a a0M a0c)) (a0Y (a0x a0r (pv 0) a0g (fun _ _=>rfl)) (a0P (a0a a0M (a0a (a0P (a0a a0M (a0a (a0A a3D a0g a0g) a0c))) a0c))) a2z))) rfl rfl (by simp) (by decide))) (a0d (a2c hu (pv 1) (a0x a0r (pv 0) a0g (fun _ _=>rfl)) (a0P (a0a a0M (a0a (a0P (a0a a0M a0c)) a0c))) rfl) (a0d (a2c hu (pv 1) (a0x a0r (pv 0) a0g (fun _ _=>rfl)) (a0P (a0a a0M (a0a a0M a0c))) rfl) (a0h (a0s (pv 1))))),?_⟩;intro p hp;have T1:=a0k.upd (o:=.dK []) hp;have e1:=a0b (H:=H) (a:=p) (o:=.dK []);generalize upd H p (.dK [])=H1 at *;refine⟨_,rfl,nl,_,2,_,rfl,rfl,SqL.of (T1 _ _ hnl),a1L nm (i:=2) (by decide),(by show 1<=sizeLine;decide),fun a2 ha2=>?_⟩;have T2:=a0k.upd (o:=.tup [V.str "whole"]) ha2;have e2:=a0b (H:=H1) (a:=a2) (o:=.tup [V.str "whole"]);generalize upd H1 a2 (.tup [V.str "whole"])=H2 at *;have S2:=T1.trans T2;refine⟨_,rfl,nl,_,3,_,rfl,rfl,SqL.of (S2 _ _ hnl),a1L nm (i:=3) (by decide),(by show 1<=sizeLine;decide),fun a3 ha3=>?_⟩;have T3:=a0k.upd (o:=.tup [V.str "key"]) ha3;have e3:=a0b (H:=H2) (a:=a3) (o:=.tup [V.str "key"]);generalize upd H2 a3 (.tup [V.str "key"])=H3 at *;have S3:=S2.trans T3;refine⟨_,rfl,nl,_,4,_,rfl,rfl,SqL.of (S3 _ _ hnl),a1L nm (i:=4) (by decide),_,_,rfl,rfl,⟨by decide,by decide +kernel⟩,(by show 2<=sizeLine;decide),fun a4 ha4=>?_⟩;have T4:=a0k.upd (o:=.tup [V.str "below",.int (10 ^ (9:Int).toNat)]) ha4;have e4:=a0b (H:=H3) (a:=a4) (o:=.tup [V.str "below",.int (10 ^ (9:Int).toNat)]);generalize upd H3 a4 (.tup [V.str "below",.int (10 ^ (9:Int).toNat)])=H4 at *;have S4:=S3.trans T4;refine⟨(by show 2<=sizeLine;decide),fun a5 ha5=>?_⟩;have T5:=a0k.upd (o:=.tup [V.str "once",.ref a4]) ha5;have e5:=a0b (H:=H4) (a:=a5) (o:=.tup [V.str "once",.ref a4]);generalize upd H4 a5 (.tup [V.str "once",.ref a4])=H5 at *;have T15:=T2.trans (T3.trans (T4.trans T5));refine⟨T15 _ _ e1,[(.inr (nm 2),.ref a2),(.inr (nm 3),.ref a3),(.inr (nm 4),.ref a5)],rfl,(by show 3<=15;decide),?_⟩;rw[b1F N.ne N.ne N.ne];have k6:∀b o,b≠p->H5 b=some o->(upd H5 p (.dK [(.inr (nm 2),.ref a2),(.inr (nm 3),.ref a3),(.inr (nm 4),.ref a5)])) b=some o:=fun b o nb e=>(a0f nb).trans e;have e6:=a0b (H:=H5) (a:=p) (o:=.dK [((.inr (nm 2):Key),V.ref a2),(.inr (nm 3),.ref a3),(.inr (nm 4),.ref a5)]);have S6:a0k H (upd H5 p (.dK [(.inr (nm 2),.ref a2),(.inr (nm 3),.ref a3),(.inr (nm 4),.ref a5)])):=(T1.trans T15).put hp;have t6:∀b ys,H5 b=some (.tup ys)->(upd H5 p (.dK [(.inr (nm 2),.ref a2),(.inr (nm 3),.ref a3),(.inr (nm 4),.ref a5)])) b=some (.tup ys):=fun b ys e=>k6 b _ (fun z=>by rw[z,T15 _ _ e1] at e;cases e) e;generalize upd H5 p (.dK [(.inr (nm 2),.ref a2),(.inr (nm 3),.ref a3),(.inr (nm 4),.ref a5)])=H6 at *;refine⟨(by show 1<=sizeLine;decide),fun a6 ha6=>?_⟩;have T7:=a0k.upd (o:=.tup [V.str "word"]) ha6;have e7:=a0b (H:=H6) (a:=a6) (o:=.tup [V.str "word"]);generalize upd H6 a6 (.tup [V.str "word"])=H7 at *;refine⟨(by show 2<=sizeLine;decide),fun a7 ha7=>?_⟩;have T8:=a0k.upd (o:=.tup [V.str "list",.ref a6]) ha7;have e8:=a0b (H:=H7) (a:=a7) (o:=.tup [V.str "list",.ref a6]);generalize upd H7 a7 (.tup [V.str "list",.ref a6])=H8 at *;have S68:=T7.trans T8;refine⟨_,rfl,_,rfl,nl,_,5,_,rfl,rfl,SqL.of ((S6.trans S68) _ _ hnl),a1L nm (i:=5) (by decide),p,_,rfl,a8h.k (k:=.inr (nm 5)) (S68 _ _ e6) (by show 3<sizeLine;decide),?_⟩;rw[b3n N.ne N.ne N.ne];have e9:=a0b (H:=H8) (a:=p) (o:=.dK [((.inr (nm 2):Key),V.ref a2),(.inr (nm 3),.ref a3),(.inr (nm 4),.ref a5),(.inr (nm 5),.ref a7)]);have S9:a0k H (upd H8 p (.dK [(.inr (nm 2),.ref a2),(.inr (nm 3),.ref a3),(.inr (nm 4),.ref a5),(.inr (nm 5),.ref a7)])):=(S6.trans S68).put hp;have t9:∀b ys,H8 b=some (.tup ys)->(upd H8 p (.dK [(.inr (nm 2),.ref a2),(.inr (nm 3),.ref a3),(.inr (nm 4),.ref a5),(.inr (nm 5),.ref a7)])) b=some (.tup ys):=fun b ys e=>(a0f fun z=>by rw[z,S68 _ _ e6] at e;cases e).trans e;generalize upd H8 p (.dK [(.inr (nm 2),.ref a2),(.inr (nm 3),.ref a3),(.inr (nm 4),.ref a5),(.inr (nm 5),.ref a7)])=H9 at *;refine⟨(by show 2<=sizeLine;decide),fun a8 ha8=>?_⟩;have T10:=a0k.upd (o:=.tup [V.str "without",.str " "]) ha8;have e10:=a0b (H:=H9) (a:=a8) (o:=.tup [V.str "without",.str " "]);generalize upd H9 a8 (.tup [V.str "without",.str " "])=H10 at *;refine⟨_,rfl,_,rfl,nl,_,6,_,rfl,rfl,SqL.of ((S9.trans T10) _ _ hnl),a1L nm (i:=6) (by decide),p,_,rfl,a8h.k (k:=.inr (nm 6)) (T10 _ _ e9) (by show 4<sizeLine;decide),?_⟩;rw[b4d N.ne N.ne N.ne N.ne];have t11:∀b ys,H10 b=some (.tup ys)->(upd H10 p (.dK [(.inr (nm 2),.ref a2),(.inr (nm 3),.ref a3),(.inr (nm 4),.ref a5),(.inr (nm 5),.ref a7),(.inr (nm 6),.ref a8)])) b=some (.tup ys):=fun b ys e=>(a0f fun z=>by rw[z,T10 _ _ e9] at e;cases e).trans e;have e11:=a0b (H:=H10) (a:=p) (o:=.dK [((.inr (nm 2):Key),V.ref a2),(.inr (nm 3),.ref a3),(.inr (nm 4),.ref a5),(.inr (nm 5),.ref a7),(.inr (nm 6),.ref a8)]);have S11:a0k H (upd H10 p (.dK [(.inr (nm 2),.ref a2),(.inr (nm 3),.ref a3),(.inr (nm 4),.ref a5),(.inr (nm 5),.ref a7),(.inr (nm 6),.ref a8)])):=(S9.trans T10).put hp;generalize upd H10 p (.dK [(.inr (nm 2),.ref a2),(.inr (nm 3),.ref a3),(.inr (nm 4),.ref a5),(.inr (nm 5),.ref a7),(.inr (nm 6),.ref a8)])=H11 at *;have u8:∀b ys,H8 b=some (.tup ys)->H11 b=some (.tup ys):=fun b ys e=>t11 _ _ (T10 _ _ (t9 _ _ e));have u5:∀b ys,H5 b=some (.tup ys)->H11 b=some (.tup ys):=fun b ys e=>u8 _ _ (S68 _ _ (t6 _ _ e));refine⟨_,rfl,q p [(nm 2,.ref a2),(nm 3,.ref a3),(nm 4,.ref a5),(nm 5,.ref a7),(nm 6,.ref a8)] H11 S11 hp e11 rfl ?_⟩;intro x hx;simp only[mK0,List.not_mem_nil,or_false] at hx;rcases hx with rfl |rfl |rfl |rfl |rfl
  ·exact⟨_,b4y (u5 _ _ ((T3.trans (T4.trans T5)) _ _ e2)) (by decide +kernel),by decide +kernel,by decide +kernel⟩
  ·exact⟨_,b4y (u5 _ _ ((T4.trans T5) _ _ e3)) (by decide +kernel),by decide +kernel,by decide +kernel⟩
  ·exact⟨_,b4A (u5 _ _ e5) (by decide +kernel) (b4A (d:=.int (10 ^ (9:Int).toNat)) (u5 _ _ (T5 _ _ e4)) (by decide +kernel) (by unfold Rep;rfl)),by decide +kernel,by decide +kernel⟩
  ·exact⟨_,b4A (u8 _ _ e8) (by decide +kernel) (b4y (u8 _ _ (T8 _ _ e7)) (by decide +kernel)),by decide +kernel,by decide +kernel⟩
  ·exact⟨_,b4A (d:=.str " ") (t11 _ _ e10) (by decide +kernel) (by unfold Rep;exact⟨rfl,by decide +kernel⟩),by decide +kernel,by decide +kernel⟩
theorem a8M {f:Addr}{fd:FuncData}(F:Fun K "_law_chosen" "_law_chosen" (top 50) f fd)(B:Bl mg):a0y P w K mg base CX0 1 f fd ["_law_names_here","_law_cell_here"] a6O:=by
 have sc:a0o ["_law_names_here","_law_cell_here","_law_chosen_here","_law_k"] ["_law_names_here","_law_cell_here"] (a0e (top 50)):=.k (by decide +kernel);refine F.ok sc (fun vs H Q E h=>?_) (fun cdv A outer s H vs Q E hr h=>?_)
 ·obtain⟨nl,nm,c,rfl,_⟩:=h
  rfl
 ·obtain⟨nl,nm,c,rfl,hnl,N,q⟩:=h
  refine⟨_,a0d (a0w (i:=2) sc.nd rfl (Or.inl rfl) (a1S a0c)) (a0d (a1A PassesOwn.never rfl (a1J rfl B.range (a0a a0g a0c)) (a0q (i:=3) sc.nd rfl (Or.inl rfl)) (a0d (a4Z (a0F (a0z a2l (a0A a1c (pv 1) a0g) a0g (a0B _)) (a0h (a0U (a4A PySem.F.plainAttrs_list PySem.F.slot_list_append PySem.F.type_list_append a7D (pv 2) (a0a (a0x a0r (pv 0) (a0A a2p a0g (pv 3)) (fun _ _=>rfl)) a0c)))) a0m)) (a0h (a0w (i:=1) sc.nd rfl (Or.inl rfl) (a0A a1w (pv 1) a0g))))) (a0d (a0F (a0z a2l (a0A a1c (pv 1) a0g) a0g (a0B _)) (a0h (a0U (a5l PySem.F.plainAttrs_list PySem.F.slot_list_reverse PySem.F.type_list_reverse b0W (pv 2)))) a0m) (a0h (a0s (pv 2))))),?_⟩;refine⟨zL0 _,fun l hl=>?_⟩;have nll:nl≠l:=fun e=>by rw[e,hl] at hnl;cases hnl
  refine⟨5,rfl,by decide,by decide,?_⟩;refine a3Z (fun i σ H2=>(∃c' u3,σ=[some (.ref nl),some (.int c'),some (.ref l),u3])/\a0k H H2/\∃cs:List Str,H2 l=some (.lst (cs.map V.str))/\cs.Nodup/\cs.length<=i/\∀z∈cs,∃j,2<=j/\j<2+i/\j<7/\z=nm j) ⟨⟨_,_,rfl⟩,a0k.upd hl,[],a0b,List.nodup_nil,nR0 _,fun z h=>nomatch h⟩ ?_ ?_
  ·rintro i σ H2 hi ⟨⟨c',u3,rfl⟩,s2,cs,hcs,nd,le,hm⟩
   refine⟨fun σ' H'=>(∃u3,σ'=[some (.ref nl),some (.int c'),some (.ref l),u3])/\a0k H H'/\∃cs:List Str,H' l=some (.lst (cs.map V.str))/\cs.Nodup/\cs.length<=i+1/\∀z∈cs,∃j,2<=j/\j<2+(i+1)/\j<7/\z=nm j,?_,?_⟩
   ·refine⟨_,rfl,_,_,rfl,rfl,pos rfl,rfl,_,rfl,?_⟩
    by_cases hc:c'%2=1
    ·refine a5b (dT0 (congrArg V.int hc)) ?_
     have hi5:i<5:=hi;have at_:atI (nmL nm) (2+(0+(i:Int)))=some (.str (nm (2+i))):=by
      rw[show(2+(0+(i:Int)))=((2+i:Nat):Int) by omega];exact a1L nm (by omega)
     refine⟨_,rfl,.inl ⟨rfl,_,SqL.of hcs⟩,_,rfl,_,rfl,_,_,rfl,rfl,nl,_,_,_,rfl,rfl,SqL.of (s2 _ _ hnl),at_,l,_,_,rfl,rfl,hcs,(by rw[lM0,sizeLine_eq];omega),?_⟩;refine⟨⟨_,rfl⟩,s2.put hl,cs++[nm (2+i)],by rw[a0b,mA0];rfl,?_,by rw[lA0];simp;omega,fun z hz=>?_⟩
     ·rw[List.nodup_append]
      refine⟨nd,by simp,fun x hx b hb e=>?_⟩;rw[mS0.mp hb] at e;obtain⟨j,j2,ji,j7,ej⟩:=hm x hx
      have:=N.inj j (2+i) (by omega) (by omega) (by omega) (by omega) (ej.symm.trans e)
      omega
     ·rcases mB0.mp hz with hz |hz
      ·obtain⟨j,j2,ji,j7,ej⟩:=hm z hz
       exact⟨j,j2,by omega,j7,ej⟩
      ·exact⟨2+i,by omega,by omega,by omega,mS0.mp hz⟩
    ·refine a2q (dF0 fun e=>hc (by injection e)) ⟨⟨_,rfl⟩,s2,cs,hcs,nd,by omega,fun z hz=>?_⟩
     obtain⟨j,j2,ji,j7,ej⟩:=hm z hz;exact⟨j,j2,by omega,j7,ej⟩
   ·rintro σ3 H3 ⟨⟨u3,rfl⟩,s3,cs3,hcs3,nd3,le3,hm3⟩
    exact⟨_,rfl,_,_,rfl,rfl,⟨by decide,by decide⟩,⟨_,_,rfl⟩,s3,cs3,hcs3,nd3,le3,hm3⟩
  ·rintro σ H2 ⟨⟨c',u3,rfl⟩,s2,cs,hcs,nd,le,hm⟩
   have l5:cs.length<=5:=le;refine⟨_,rfl,_,_,rfl,rfl,pos rfl,rfl,_,rfl,?_⟩
   by_cases hc:c'%2=1
   ·refine a5b (dT0 (congrArg V.int hc)) ?_
    refine⟨_,rfl,.inl ⟨rfl,_,SqL.of hcs⟩,l,_,rfl,rfl,hcs,?_⟩;exact⟨_,rfl,q l cs.reverse _ (s2.put hl) hl (by rw[a0b,List.map_reverse]) (List.reverse_perm cs |>.nodup_iff.mpr nd) (fun z hz=>let ⟨j,j2,_,j7,ej⟩:=hm z (List.mem_reverse.mp hz);ej▸a7g j2 j7) (by rw[List.length_reverse];exact l5)⟩
   ·refine a2q (dF0 fun e=>hc (by injection e)) ?_
    exact⟨_,rfl,q l cs H2 s2 hl hcs nd (fun z hz=>let ⟨j,j2,_,j7,ej⟩:=hm z hz;ej▸a7g j2 j7) l5⟩
theorem a5D {f:Addr}{fd:FuncData}(F:Fun K "_law_parted" "_law_parted" (top 51) f fd)(B:Bl mg):a0y P w K mg base CX0 1 f fd ["_law_row_here","_law_chosen_here"] a4X:=by
 have sc:a0o ["_law_row_here","_law_chosen_here","_law_left","_law_right","_law_name"] ["_law_row_here","_law_chosen_here"] (a0e (top 51)):=.k (by decide +kernel);refine F.ok sc (fun vs H Q E h=>?_) (fun cdv A outer s H vs Q E hr h=>?_)
 ·obtain⟨a,l,c,cs,rfl,_⟩:=h
  rfl
 ·obtain⟨a,l,c,cs,rfl,ha,hl,nd,l12,c12,q⟩:=h
  have hu:=a2o hr;refine⟨_,a0d (a0w (i:=2) sc.nd rfl (Or.inl rfl) a4Y) (a0d (a0w (i:=3) sc.nd rfl (Or.inl rfl) a4Y) (a0d (a5F (a1A PassesOwn.never rfl (a6g (pv 0)) (a0q (i:=4) sc.nd rfl (Or.inl rfl)) (a0h (a0F (a0z a5i (pv 4) (pv 1) (by with_unfolding_all rfl)) (a0h (a2c hu (pv 3) (pv 4) (a2a hu (pv 0) (pv 4) (fun _ _=>rfl)) rfl)) (a0h (a2c hu (pv 2) (pv 4) (a2a hu (pv 0) (pv 4) (fun _ _=>rfl)) rfl)))))) (a0h (a0s (a1S (a0a (pv 2) (a0a (pv 3) a0c))))))),?_⟩;intro x hx;have nax:a≠x:=fun e=>by rw[e,hx] at ha;cases ha
  have T1:=a0k.upd (o:=.dK []) hx;have e1:=a0b (H:=H) (a:=x) (o:=.dK []);generalize upd H x (.dK [])=H1 at *;intro y hy;have nay:a≠y:=fun e=>by rw[<-e,T1 _ _ ha] at hy;cases hy
  have nxy:x≠y:=fun e=>by rw[<-e,e1] at hy;cases hy
  have T2:=a0k.upd (o:=.dK []) hy;have e2:=a0b (H:=H1) (a:=y) (o:=.dK []);have hy0:H y=none:=a0G T1 hy;generalize upd H1 y (.dK [])=H2 at *;have S2:=T1.trans T2;refine⟨a,_,S2 _ _ ha,fun o=>?_⟩;have hfa:(upd H2 a (.frz o (.dK (kvC c)))) a=some (.frz o (.dK (kvC c))):=a0b;have hb0:a0k H (upd (upd H2 a (.frz o (.dK (kvC c)))) a (.dK (kvC c))):=S2.trans (a3N (S2 _ _ ha) (a0k.refl _));have x3:(upd H2 a (.frz o (.dK (kvC c)))) x=some (.dK []):=(a0f nax.symm).trans (T2 _ _ e1);have y3:(upd H2 a (.frz o (.dK (kvC c)))) y=some (.dK []):=(a0f nay.symm).trans e2;have l3:(upd H2 a (.frz o (.dK (kvC c)))) l=some (.lst (cs.map V.str)):=(a0f fun e=>by rw[e,ha] at hl;cases hl).trans (S2 _ _ hl);generalize upd H2 a (.frz o (.dK (kvC c)))=H3 at *;have kl:(kvC c).length=c.length:=by unfold kvC;rw[lM0]
  refine⟨_,rfl,a,o,_,rfl,hfa,a3w (a:=a) (o:=o) (kvs:=kvC c) (fun i σ G=>(∃u,σ=[some (.ref a),some (.ref l),some (.ref x),some (.ref y),u])/\G a=some (.frz o (.dK (kvC c)))/\a0k H (upd G a (.dK (kvC c)))/\G l=some (.lst (cs.map V.str))/\G x=some (.dK (kvC (lf (c.take i) cs)))/\G y=some (.dK (kvC (rf (c.take i) cs))))
   ⟨⟨_,rfl⟩,hfa,hb0,l3,x3,y3⟩ (fun i σ G _ p=>p.2.1) ?_ ?_⟩
  ·rintro i k v σ G hk ⟨⟨u,rfl⟩,ga,gs,gl,gx,gy⟩
   have hi:i<c.length:=by rw[<-kl];exact(gS0.mp hk).1
   have ek:(c[i].1,c[i].2)∈c:=gQ0 hi;unfold kvC at hk;rw[gM0,gE0 hi] at hk;cases hk;have tk:c.take (i+1)=c.take i++[c[i]]:=List.take_succ_eq_append_getElem hi;have val:a1U (kvC c) (.inr c[i].1)=some c[i].2:=a6v nd (gQ0 hi);have nin:c[i].1∉(c.take i).map (·.1):=fun h=>by
    rw[<-List.take_append_drop i c,mA0,List.nodup_append] at nd;refine nd.2.2 _ h _ ?_ rfl;rw[List.drop_eq_getElem_cons hi];exact List.mem_cons_self
   have nl':a1U (kvC (lf (c.take i) cs)) (.inr c[i].1)=none:=a2T fun h=>nin (a5T h);have nr':a1U (kvC (rf (c.take i) cs)) (.inr c[i].1)=none:=a2T fun h=>nin (a5B h);have ll:(lf (c.take i) cs).length<=12:=Nat.le_trans (List.length_filter_le _ _) (by rw[List.length_take];omega);have lr:(rf (c.take i) cs).length<=12:=Nat.le_trans (List.length_filter_le _ _) (by rw[List.length_take];omega);refine⟨_,rfl,_,rfl,l,_,rfl,.inl (SqL.of gl),rfl,a3W _,_,rfl,?_⟩
   show(if inV (.str c[i].1) (cs.map V.str)=true then _ else _)
   rw[a6c]
   by_cases hc:c[i].1∈cs
   ·refine a5b (dT0 hc) ?_
    refine⟨_,rfl,_,rfl,a,_,rfl,.inl ⟨_,.inr c[i].1,.inr ⟨_,ga⟩,rfl,val.symm⟩,_,rfl,_,rfl,y,_,rfl,a8h.k (k:=.inr c[i].1) gy (by unfold kvC;rw[lM0,sizeLine_eq];omega),?_⟩;have e3:lf (c.take (i+1)) cs=lf (c.take i) cs:=by
     unfold lf;rw[tk,List.filter_append,List.filter_cons_of_neg (by simpa using hc),List.filter_nil,List.append_nil]
    have e4:rf (c.take (i+1)) cs=rf (c.take i) cs++[c[i]]:=by
     unfold rf;rw[tk,List.filter_append,List.filter_cons_of_pos (by simpa using hc),List.filter_nil]
    rw[L2.a3q _ nr'];refine⟨⟨_,rfl⟩,(a0f nay).trans ga,a7u gs nay hy0,(a0f fun e=>by rw[e,gy] at gl;cases gl).trans gl,?_,?_⟩
    ·rw[e3]
     exact(a0f nxy).trans gx
    ·rw[e4,a0b,a7n]
   ·refine a2q (dF0 hc) ?_
    refine⟨_,rfl,_,rfl,a,_,rfl,.inl ⟨_,.inr c[i].1,.inr ⟨_,ga⟩,rfl,val.symm⟩,_,rfl,_,rfl,x,_,rfl,a8h.k (k:=.inr c[i].1) gx (by unfold kvC;rw[lM0,sizeLine_eq];omega),?_⟩;have e3:rf (c.take (i+1)) cs=rf (c.take i) cs:=by
     unfold rf;rw[tk,List.filter_append,List.filter_cons_of_neg (by simpa using hc),List.filter_nil,List.append_nil]
    have e4:lf (c.take (i+1)) cs=lf (c.take i) cs++[c[i]]:=by
     unfold lf;rw[tk,List.filter_append,List.filter_cons_of_pos (by simpa using hc),List.filter_nil]
    rw[L2.a3q _ nl'];refine⟨⟨_,rfl⟩,(a0f nax).trans ga,a7u gs nax hx,(a0f fun e=>by rw[e,gx] at gl;cases gl).trans gl,?_,?_⟩
    ·rw[e4,a0b,a7n]
    ·rw[e3]
     exact(a0f nxy.symm).trans gy
  ·rintro σ G ⟨⟨u,rfl⟩,ga,gs,gl,gx,gy⟩
   rw[kl,List.take_length] at gx gy;refine⟨ga,_,rfl,_,rfl,(by show 2<=sizeLine;decide),fun t ht=>?_⟩;have x4:(upd G a (.dK (kvC c))) x=some (.dK (kvC (lf c cs))):=(a0f nax.symm).trans gx;have y4:(upd G a (.dK (kvC c))) y=some (.dK (kvC (rf c cs))):=(a0f nay.symm).trans gy;generalize upd G a (.dK (kvC c))=G2 at *;have T5:=a0k.upd (o:=.lst [V.ref x,.ref y]) ht;exact q t x y _ (gs.trans T5) a0b hx hy0 (a0G gs ht) nxy (T5 _ _ x4) (T5 _ _ y4)
def Cc (ns:List Int)(k:Int):Int:=cel ns (3+k)
theorem a2i {ns:List Int}{i:Int}(h0:0<=i)(h1:i<5):atI ((List.range 5).map fun(k:Nat)=>V.int (Cc ns (0+(k:Int)))) i=some (.int (Cc ns i)):=by
 obtain⟨j,rfl⟩:=Int.eq_ofNat_of_zero_le h0;refine a1b ?_;rw[gM0,List.getElem?_range (by omega)];show some (V.int (Cc ns (0+(j:Int))))=_;rw[Int.zero_add]
def kyE (c:Int):V:=if c%2=0 then .non else .int (c/2%7)
theorem b3e (c:Int):atI [V.non,.int (c/2%7)] (c%2)=some (kyE c):=by
 have h:c%2=0\/c%2=1:=by omega
 unfold kyE;rcases h with h |h
 ·rw[if_pos h,h]
  exact a1b (j:=0) rfl
 ·rw[if_neg (by omega),h]
  exact a1b (j:=1) rfl
def rwE (ns:List Int)(nm:Nat->Str)(ta:Addr):Rw:=[(nm 2,V.int (Cc ns 0%(2 * 10 ^ (30:Int).toNat+1)-10 ^ (30:Int).toNat)),(nm 3,kyE (Cc ns 1)),(nm 4,V.int (Cc ns 2%10 ^ (9:Int).toNat)),(nm 5,.ref ta),(nm 6,V.str (Txt.replace (txF (Cc ns 4)) " " ⟨#[]⟩))]
def txE (ns:List Int):List V:=(List.range (Cc ns 3%4).toNat).map fun(k:Nat)=>V.str (txF (Cc ns 3/(0+(k:Int)+1)))
def nRw:List Str:=["_law_script","_law_names_here","_law_cells","_law_row_here"]
def b3X (K:Fg0):Sp:=fun vs H Q _=>∃(a nl:Addr) (ns:List Int) (nm:Nat->Str),vs=[.ref a,.ref nl]/\SqL K H a (ns.map V.int)/\ns.length<=63/\H nl=some (.lst (nmL nm))/\Nm8 nm ∧
 ∀p ta H',a0k H H'->H p=none->H ta=none->H' p=some (.dK (kvC (rwE ns nm ta)))->H' ta=some (.tup (txE ns))->Q (.ref p) H'
theorem b4p (c:Int):(txF c).length<=1048576:=by
 have h:(c%7).toNat=0\/(c%7).toNat=1\/(c%7).toNat=2\/(c%7).toNat=3\/(c%7).toNat=4\/(c%7).toNat=5\/(c%7).toNat=6:=by omega
 unfold txF txL;rcases h with h |h |h |h |h |h |h<;>rw[h]<;>first |exact(by decide:0<=1048576) |exact(by decide:1<=1048576) |exact(by decide:2<=1048576) |exact(by decide:3<=1048576) |exact(by decide:4<=1048576) |exact(by decide:5<=1048576) |exact(by decide:6<=1048576)
theorem b3T {f fC fT:Addr}{fd fdC fdT:FuncData}(F:Fun K "_law_row" "_law_row" (top 49) f fd)(B:Bl mg)(DC:Df K mg "_law_cell" (top 43) fC fdC)(DT:Df K mg "_law_text" (top 47) fT fdT):a0y P w K mg base CX0 2 f fd ["_law_script","_law_names_here"] (b3X K):=by
 have sc:a0o nRw ["_law_script","_law_names_here"] (a0e (top 49)):=.k (by decide +kernel);have GC:a0y P w K mg base CX0 1 fC fdC ["_law_script","_law_k"] (b4u K):=a6k DC.fn B;have bC:=DC.fn.b2 "_law_script" "_law_k" (by intros;rfl);have GT:a0y P w K mg base CX0 1 fT fdT ["_law_cell_here"] b5R:=b4Z DT.fn B;have GW:a7H 0 P w K mg base 1 fT fdT ["_law_cell_here"] b3O:=b3q DT.fn B;have bT:=DT.fn.b1 "_law_cell_here" (by intros;rfl);refine F.ok sc (fun vs H Q E h=>?_) (fun cdv A outer s H vs Q E hr h=>?_)
 ·obtain⟨a,nl,ns,nm,rfl,_⟩:=h
  rfl
 ·obtain⟨a,nl,ns,nm,rfl,ha,h63,hnl,N,q⟩:=h
  have hu:=a2o hr;refine⟨_,a0d (a0w (i:=2) sc.nd rfl (Or.inr rfl) (a1j (osc:=a0e (top 49)) (N0:=nRw) (xs:=["_law_k"]) (fr:=[0]) ⟨rfl,by decide +kernel,by decide +kernel,by decide +kernel,(fun j hj=>by
      have e:j=0:=by simpa using hj
      subst e;exact⟨_,rfl,by decide +kernel⟩),by decide +kernel⟩ rfl rfl rfl (a1J rfl B.range (a0a a0g a0c))
     (fun s H fp=>a0q (i:=0) (show(["_law_k","_law_script"]:List Str).Nodup by decide +kernel) rfl (Or.inl rfl)) (fun s H fp=>a1h)
     (fun s H fp=>(a0j GC hr (by rfl) DC.mg DC.fn.kp bC .nil a0u (a0a (pv 1) (a0a (a0A a2p a0g (pv 0)) a0c))))))
   (a0d (a0w (i:=3) sc.nd rfl (Or.inl rfl) (a2u (a0Y (a0x a0r (pv 1) a0g (fun _ _=>rfl)) (a0A a8O (a0A a1c (a0x a0r (pv 2) a0g (fun _ _=>rfl)) (a0A a2p (a0A a2S a0g (a0A a3D a0g a0g)) a0g)) (a0A a3D a0g a0g)) (a0Y (a0x a0r (pv 1) a0g (fun _ _=>rfl)) (a0x a0r (a1S (a0a a1r (a0a (a0A a1c (a0A a1w (a0x a0r (pv 2) a0g (fun _ _=>rfl)) a0g) a0g) a0c))) (a0A a1c (a0x a0r (pv 2) a0g (fun _ _=>rfl)) a0g) (fun _ _=>rfl)) a2z)) rfl rfl (by simp) (by decide)))
   (a0d (a2c hu (pv 3) (a0x a0r (pv 1) a0g (fun _ _=>rfl)) (a0A a1c (a0x a0r (pv 2) a0g (fun _ _=>rfl)) (a0A a3D a0g a0g)) rfl)
   (a0d (a2c hu (pv 3) (a0x a0r (pv 1) a0g (fun _ _=>rfl)) (a0I a1t (by rfl) B.tuple boot_tuple (a0a (a1j (osc:=a0e (top 49)) (N0:=nRw) (xs:=["_law_k"]) (fr:=[2]) ⟨rfl,by decide +kernel,by decide +kernel,by decide +kernel,(fun j hj=>by
      have e:j=2:=by simpa using hj
      subst e;exact⟨_,rfl,by decide +kernel⟩),by decide +kernel⟩ rfl rfl rfl (a1J rfl B.range (a0a (a0A a1c (a0x a0r (pv 2) a0g (fun _ _=>rfl)) a0g) a0c))
     (fun s H fp=>a0q (i:=0) (show(["_law_k","_law_cells"]:List Str).Nodup by decide +kernel) rfl (Or.inl rfl)) (fun s H fp=>a1h)
     (fun s H fp=>(a0j GT hr (by rfl) DT.mg DT.fn.kp bT .nil a0u (a0a (a0A a1w (a0x (r:=b4J K) a0r (pv 1) a0g (fun _ _=>rfl)) (a0A a2p (pv 0) a0g)) a0c)))) a0c)) rfl)
   (a0d (a2c hu (pv 3) (a0x a0r (pv 1) a0g (fun _ _=>rfl)) (a8d GW hr (by rfl) DT.mg DT.fn.kp bT (a0a (a0x a0r (pv 2) a0g (fun _ _=>rfl)) a0c) (by decide +kernel)) rfl)
   (a0h (a0s (pv 3))))))),?_⟩
  refine⟨5,rfl,by decide,by decide,fun cl hcl=>?_⟩;refine a1H 5 (fun k=>.int (Cc ns (0+(k:Int)))) (fun i σ' Hc=>(∃t,σ'=[t,some (.ref a)])/\a0k H Hc) (by decide) ⟨⟨none,rfl⟩,a0k.upd hcl⟩ a0b ?_ ?_
  ·rintro i σ' Hc hi ⟨⟨t,rfl⟩,sm⟩ hDc
   refine⟨hi,?_⟩;rintro x H' ⟨rfl,rfl⟩;exact⟨_,rfl,_,rfl,_,_,rfl,rfl,a,ns,_,rfl,sm.seq ha,by omega,by omega,h63,fun H4 s4=>⟨rfl,s4 _ _ hDc,⟨_,rfl⟩,a2U (sm.trans s4) hcl⟩⟩
  rintro σ1 H1 ⟨_,s1⟩ hc1;refine⟨nR0 _,?_⟩;intro p hp;have T2:=a0k.upd (o:=.dK []) hp;have e2:=a0b (H:=H1) (a:=p) (o:=.dK []);generalize upd H1 p (.dK [])=H2 at *;have hp0:H p=none:=a0G s1 hp;have s02:=s1.trans T2;refine⟨_,rfl,nl,_,2,_,rfl,rfl,SqL.of (s02 _ _ hnl),a1L nm (i:=2) (by decide),_,rfl,cl,_,0,_,rfl,rfl,SqL.of (T2 _ _ hc1),a2i (by decide) (by decide),_,_,rfl,rfl,⟨by decide,by decide +kernel⟩,_,_,rfl,rfl,.inl ⟨by decide,by decide⟩,_,_,rfl,rfl,_,_,rfl,rfl,(show(0:Int)<2 * 10 ^ (30:Int).toNat+1 by decide +kernel),_,_,rfl,rfl,⟨by decide,by decide +kernel⟩,_,_,rfl,rfl,?_⟩;refine⟨_,rfl,nl,_,3,_,rfl,rfl,SqL.of (s02 _ _ hnl),a1L nm (i:=3) (by decide),?_⟩;refine⟨_,rfl,cl,_,1,_,rfl,rfl,SqL.of (T2 _ _ hc1),a2i (by decide) (by decide),_,_,rfl,rfl,⟨by decide,by decide⟩,_,_,rfl,rfl,pos rfl,(by show 2<=sizeLine;decide),fun k2 hk2=>?_⟩;have T3:=a0k.upd (o:=.lst [V.non,.int (Cc ns 1/2%7)]) hk2;have e3:=a0b (H:=H2) (a:=k2) (o:=.lst [V.non,.int (Cc ns 1/2%7)]);generalize upd H2 k2 (.lst [V.non,.int (Cc ns 1/2%7)])=H3 at *;refine⟨_,rfl,cl,_,1,_,rfl,rfl,SqL.of (T3 _ _ (T2 _ _ hc1)),a2i (by decide) (by decide),_,_,rfl,rfl,pos rfl,k2,_,_,_,rfl,rfl,SqL.of e3,b3e _,T3 _ _ e2,[((.inr (nm 2)),V.int (Cc ns 0%(2 * 10 ^ (30:Int).toNat+1)-10 ^ (30:Int).toNat)),(.inr (nm 3),kyE (Cc ns 1))],rfl,(by show 2<=15;decide),?_⟩;rw[a8p N.ne];have S4:a0k H (upd H3 p (.dK [((.inr (nm 2):Key),V.int (Cc ns 0%(2 * 10 ^ (30:Int).toNat+1)-10 ^ (30:Int).toNat)),(.inr (nm 3),kyE (Cc ns 1))])):=(s02.trans T3).put hp0;have c4:(upd H3 p (.dK [((.inr (nm 2):Key),V.int (Cc ns 0%(2 * 10 ^ (30:Int).toNat+1)-10 ^ (30:Int).toNat)),(.inr (nm 3),kyE (Cc ns 1))])) cl=some (.lst ((List.range 5).map fun(k:Nat)=>V.int (Cc ns (0+(k:Int))))):=(a0f fun e=>by rw[e,hp] at hc1;cases hc1).trans (T3 _ _ (T2 _ _ hc1));have e4:=a0b (H:=H3) (a:=p) (o:=.dK [((.inr (nm 2):Key),V.int (Cc ns 0%(2 * 10 ^ (30:Int).toNat+1)-10 ^ (30:Int).toNat)),(.inr (nm 3),kyE (Cc ns 1))]);generalize upd H3 p (.dK [((.inr (nm 2):Key),V.int (Cc ns 0%(2 * 10 ^ (30:Int).toNat+1)-10 ^ (30:Int).toNat)),(.inr (nm 3),kyE (Cc ns 1))])=H4 at *;refine⟨_,rfl,cl,_,2,_,rfl,rfl,SqL.of c4,a2i (by decide) (by decide),_,_,rfl,rfl,⟨by decide,by decide +kernel⟩,_,_,rfl,rfl,(show(0:Int)<10 ^ (9:Int).toNat by decide +kernel),?_⟩;refine⟨_,rfl,_,rfl,nl,_,4,_,rfl,rfl,SqL.of (S4 _ _ hnl),a1L nm (i:=4) (by decide),p,_,rfl,a8h.k (k:=.inr (nm 4)) e4 (by show 2<sizeLine;decide),?_⟩;rw[b3E N.ne N.ne];have S5:a0k H (upd H4 p (.dK [((.inr (nm 2):Key),V.int (Cc ns 0%(2 * 10 ^ (30:Int).toNat+1)-10 ^ (30:Int).toNat)),(.inr (nm 3),kyE (Cc ns 1)),(.inr (nm 4),V.int (Cc ns 2%10 ^ (9:Int).toNat))])):=S4.put hp0;have c5:(upd H4 p (.dK [((.inr (nm 2):Key),V.int (Cc ns 0%(2 * 10 ^ (30:Int).toNat+1)-10 ^ (30:Int).toNat)),(.inr (nm 3),kyE (Cc ns 1)),(.inr (nm 4),V.int (Cc ns 2%10 ^ (9:Int).toNat))])) cl=some (.lst ((List.range 5).map fun(k:Nat)=>V.int (Cc ns (0+(k:Int))))):=(a0f fun e=>by rw[e,hp] at hc1;cases hc1).trans c4;have e5:=a0b (H:=H4) (a:=p) (o:=.dK [((.inr (nm 2):Key),V.int (Cc ns 0%(2 * 10 ^ (30:Int).toNat+1)-10 ^ (30:Int).toNat)),(.inr (nm 3),kyE (Cc ns 1)),(.inr (nm 4),V.int (Cc ns 2%10 ^ (9:Int).toNat))]);generalize upd H4 p (.dK [((.inr (nm 2):Key),V.int (Cc ns 0%(2 * 10 ^ (30:Int).toNat+1)-10 ^ (30:Int).toNat)),(.inr (nm 3),kyE (Cc ns 1)),(.inr (nm 4),V.int (Cc ns 2%10 ^ (9:Int).toNat))])=H5 at *;have m0:=Int.emod_nonneg (Cc ns 3) (show(4:Int)≠0 by decide);have m4:=Int.emod_lt_of_pos (Cc ns 3) (show(0:Int)<4 by decide);refine⟨_,rfl,cl,_,3,_,rfl,rfl,SqL.of c5,a2i (by decide) (by decide),_,_,rfl,rfl,pos rfl,_,rfl,(by omega),(by omega),fun tl htl=>?_⟩;refine a1H (Cc ns 3%4).toNat (fun k=>.str (txF (Cc ns 3/(0+(k:Int)+1)))) (fun i σ' Hc=>(∃t,σ'=[t,some (.ref cl)])/\a0k H5 Hc) (by rw[sizeLine_eq];omega) ⟨⟨none,rfl⟩,a0k.upd htl⟩ a0b ?_ ?_
  ·rintro i σ' Hc hi ⟨⟨t,rfl⟩,sm⟩ hDc
   refine⟨hi,?_⟩;rintro x H' ⟨rfl,rfl⟩;exact⟨_,rfl,cl,_,3,_,rfl,rfl,SqL.of (sm _ _ c5),a2i (by decide) (by decide),_,rfl,_,_,rfl,rfl,_,_,rfl,rfl,⟨by omega,by omega⟩,_,rfl,fun H4 s4=>⟨rfl,s4 _ _ hDc,⟨_,rfl⟩,a2U (sm.trans s4) htl⟩⟩
  rintro σ6 H6 ⟨_,s6⟩ h6;have h6':H6 tl=some (.lst (txE ns)):=h6;refine⟨nR0 _,tl,_,rfl,.inl ⟨SqL.of h6',fun ta hta=>?_⟩⟩;have T7:=a0k.upd (o:=.tup (txE ns)) hta;have e7:=a0b (H:=H6) (a:=ta) (o:=.tup (txE ns));generalize upd H6 ta (.tup (txE ns))=H7 at *;have S7:a0k H H7:=S5.trans (s6.trans T7);have hta0:H ta=none:=a0G (S5.trans s6) hta;refine⟨_,rfl,_,rfl,nl,_,5,_,rfl,rfl,SqL.of (S7 _ _ hnl),a1L nm (i:=5) (by decide),p,_,rfl,a8h.k (k:=.inr (nm 5)) (T7 _ _ (s6 _ _ e5)) (by show 3<sizeLine;decide),?_⟩;rw[b3n N.ne N.ne N.ne];have S8:a0k H (upd H7 p (.dK [((.inr (nm 2):Key),V.int (Cc ns 0%(2 * 10 ^ (30:Int).toNat+1)-10 ^ (30:Int).toNat)),(.inr (nm 3),kyE (Cc ns 1)),(.inr (nm 4),V.int (Cc ns 2%10 ^ (9:Int).toNat)),(.inr (nm 5),V.ref ta)])):=S7.put hp0;have p7:=T7 _ _ (s6 _ _ e5);have c8:(upd H7 p (.dK [((.inr (nm 2):Key),V.int (Cc ns 0%(2 * 10 ^ (30:Int).toNat+1)-10 ^ (30:Int).toNat)),(.inr (nm 3),kyE (Cc ns 1)),(.inr (nm 4),V.int (Cc ns 2%10 ^ (9:Int).toNat)),(.inr (nm 5),V.ref ta)])) cl=some (.lst ((List.range 5).map fun(k:Nat)=>V.int (Cc ns (0+(k:Int))))):=(a0f fun e=>by rw[e,hp] at hc1;cases hc1).trans (T7 _ _ (s6 _ _ c5));have t8:(upd H7 p (.dK [((.inr (nm 2):Key),V.int (Cc ns 0%(2 * 10 ^ (30:Int).toNat+1)-10 ^ (30:Int).toNat)),(.inr (nm 3),kyE (Cc ns 1)),(.inr (nm 4),V.int (Cc ns 2%10 ^ (9:Int).toNat)),(.inr (nm 5),V.ref ta)])) ta=some (.tup (txE ns)):=(a0f fun e=>by rw[e,p7] at e7;cases e7).trans e7;have e8:=a0b (H:=H7) (a:=p) (o:=.dK [((.inr (nm 2):Key),V.int (Cc ns 0%(2 * 10 ^ (30:Int).toNat+1)-10 ^ (30:Int).toNat)),(.inr (nm 3),kyE (Cc ns 1)),(.inr (nm 4),V.int (Cc ns 2%10 ^ (9:Int).toNat)),(.inr (nm 5),V.ref ta)]);generalize upd H7 p (.dK [((.inr (nm 2):Key),V.int (Cc ns 0%(2 * 10 ^ (30:Int).toNat+1)-10 ^ (30:Int).toNat)),(.inr (nm 3),kyE (Cc ns 1)),(.inr (nm 4),V.int (Cc ns 2%10 ^ (9:Int).toNat)),(.inr (nm 5),V.ref ta)])=H8 at *;refine⟨_,rfl,cl,_,4,_,rfl,rfl,SqL.of c8,a2i (by decide) (by decide),_,rfl,fun u k H9 k1 s9=>⟨k1,_,rfl,b4p _,?_⟩⟩;refine⟨_,rfl,_,rfl,nl,_,6,_,rfl,rfl,SqL.of (s9 _ _ (S8 _ _ hnl)),a1L nm (i:=6) (by decide),p,_,rfl,a8h.k (k:=.inr (nm 6)) (s9 _ _ e8) (by show 4<sizeLine;decide),?_⟩;rw[b4d N.ne N.ne N.ne N.ne];have p9:=s9 _ _ e8;exact⟨_,rfl,q p ta _ ((S8.trans s9).put hp0) hp0 hta0 a0b ((a0f fun e=>by rw[e,e8] at t8;cases t8).trans (s9 _ _ t8))⟩
def nX (ns:List Int)(nm:Nat->Str):Str:=nm (8-5 * (cel ns 8/4%2)).toNat
theorem b3B (ns:List Int)(nm:Nat->Str):atI (nmL nm) (8-5 * (cel ns 8/4%2))=some (.str (nX ns nm)):=by
 have h0:=Int.emod_nonneg (cel ns 8/4) (show(2:Int)≠0 by decide);have h1:=Int.emod_lt_of_pos (cel ns 8/4) (show(0:Int)<2 by decide);have e:(8-5 * (cel ns 8/4%2))=(((8-5 * (cel ns 8/4%2)).toNat:Nat):Int):=(Int.toNat_of_nonneg (by omega)).symm
 have:=a1L nm (i:=(8-5 * (cel ns 8/4%2)).toNat) (by omega)
 rw[<-e] at this;exact this
def mrE (ns:List Int)(nm:Nat->Str)(k:Nat):Rw:=[(nX ns nm,.int (cel ns 8/(0+(k:Int)+1)%10 ^ (12:Int).toNat))]
def mnE (ns:List Int)(nm:Nat->Str):List Rw:=(List.range (cel ns 8%4).toNat).map (mrE ns nm)
theorem a9p {ns:List Int}{nm:Nat->Str}{j:Nat}{row:Rw}(h:(mnE ns nm)[j]? =some row):row=mrE ns nm j:=by
 unfold mnE at h;rw[gM0] at h;obtain⟨k,hk,e⟩:=Option.map_eq_some_iff.mp h
 have:=(gS0.mp hk).2
 rw[List.getElem_range] at this;rw[<-e,this]
theorem a9A (ns:List Int)(nm:Nat->Str):(mnE ns nm).length=(cel ns 8%4).toNat:=by
 unfold mnE;rw[lM0,List.length_range]
def pcO (ns:List Int)(nm:Nat->Str)(ta:Addr):Pc:=[(nm 0,[rwE ns nm ta]),(nm 7,mnE ns nm)]
def pcN (ns:List Int)(nm:Nat->Str)(cs:List Str)(ta:Addr):Pc:=[(nm 0,[lf (rwE ns nm ta) cs]),(nm 1,[rf (rwE ns nm ta) cs]),(nm 7,mnE ns nm)]
def nPs:List Str:=["_law_script","_law_names_here","_law_chosen_here","_law_row_here","_law_parts","_law_cell_here","_law_many","_law_new"]
def a6Y (K:Fg0):Sp:=fun vs H Q _=>∃(a nl l:Addr) (ns:List Int) (nm:Nat->Str) (cs:List Str),vs=[.ref a,.ref nl,.ref l]/\SqL K H a (ns.map V.int)/\ns.length<=63/\H nl=some (.lst (nmL nm))/\Nm8 nm/\H l=some (.lst (cs.map V.str))/\cs.length<=12 ∧
 ∀t p0 p1 ta H',a0k H H'->H t=none->H' t=some (.lst [.ref p0,.ref p1])->H ta=none->H' ta=some (.tup (txE ns))->a3u (cut H H') p0 (pcO ns nm ta)->a3u (cut H H') p1 (pcN ns nm cs ta)->Q (.ref t) H'
theorem a8L {H:Hp}{l:Addr}{rs:List Addr}{ns:List Int}{nm:Nat->Str}(h:H l=some (.lst (rs.map V.ref)))(hl:rs.length=(cel ns 8%4).toNat)(hr:∀(j:Nat) (r:Addr),rs[j]? =some r->H r=some (.dK (kvC (mrE ns nm j)))):a1X H l (mnE ns nm):=
 ⟨rs,h,by rw[a9A];exact hl,fun j r row h1 h2=>by
  rw[a9p h2];exact hr j r h1⟩
theorem a9y {α:Type}{p:Nat->α->Prop}{rs:List α}{r:α}(h:∀(j:Nat) (x:α),rs[j]? =some x->p j x)(hr:p rs.length r):∀(j:Nat) (x:α),(rs++[r])[j]? =some x->p j x:=fun j x hj=>by
 by_cases hjl:j<rs.length
 ·rw[gL0 hjl] at hj
  exact h j x hj
 ·have e:j=rs.length:=by
   have:=(gS0.mp hj).1
   rw[lA0] at this;simp at this
   omega
  subst e;rw[gR0 (nR0 _),Nat.sub_self] at hj;cases hj;exact hr
theorem a8q {f fR fP fC fT:Addr}{fd fdR fdP fdC fdT:FuncData}(F:Fun K "_law_pieces" "_law_pieces" (top 52) f fd)(B:Bl mg)(DR:Df K mg "_law_row" (top 49) fR fdR)(DP:Df K mg "_law_parted" (top 51) fP fdP)(DC:Df K mg "_law_cell" (top 43) fC fdC)(DT:Df K mg "_law_text" (top 47) fT fdT):a0y P w K mg base CX0 3 f fd ["_law_script","_law_names_here","_law_chosen_here"] (a6Y K):=by
 have sc:a0o nPs ["_law_script","_law_names_here","_law_chosen_here"] (a0e (top 52)):=.k (by decide +kernel);have GC:a0y P w K mg base CX0 1 fC fdC ["_law_script","_law_k"] (b4u K):=a6k DC.fn B;have GR:a0y P w K mg base CX0 2 fR fdR ["_law_script","_law_names_here"] (b3X K):=b3T DR.fn B DC DT;have GP:a0y P w K mg base CX0 1 fP fdP ["_law_row_here","_law_chosen_here"] a4X:=a5D DP.fn B;have bC:=DC.fn.b2 "_law_script" "_law_k" (by intros;rfl);have bR:=DR.fn.b2 "_law_script" "_law_names_here" (by intros;rfl);have bP:=DP.fn.b2 "_law_row_here" "_law_chosen_here" (by intros;rfl);refine F.ok sc (fun vs H Q E h=>?_) (fun cdv A outer s H vs Q E hr h=>?_)
 ·obtain⟨a,nl,l,ns,nm,cs,rfl,_⟩:=h
  rfl
 ·obtain⟨a,nl,l,ns,nm,cs,rfl,ha,h63,hnl,N,hl,c12,q⟩:=h
  have hu:=a2o hr;have hr1:a1q 1 _:=hr.mono (by decide);refine⟨_,a0d (a0w (i:=3) sc.nd rfl (Or.inl rfl) (a0j GR hr (by rfl) DR.mg DR.fn.kp bR .nil a0u (a0a (pv 0) (a0a (pv 1) a0c))))
   (a0d (a0w (i:=4) sc.nd rfl (Or.inl rfl) (a0j GP hr1 (by rfl) DP.mg DP.fn.kp bP .nil a0u (a0a (pv 3) (a0a (pv 2) a0c))))
   (a0d (a0w (i:=5) sc.nd rfl (Or.inr rfl) (a0j GC hr1 (by rfl) DC.mg DC.fn.kp bC .nil a0u (a0a (pv 0) (a0a a0g a0c))))
   (a0d (a9f (i:=6) (osc:=a0e (top 52)) (N0:=nPs) (xs:=["_law_k"]) (fr:=[1,5]) ⟨rfl,by decide +kernel,by decide +kernel,by decide +kernel,(fun j hj=>by
      have e:j=1\/j=5:=by simpa using hj
      rcases e with rfl |rfl
      ·exact⟨_,rfl,by decide +kernel⟩
      ·exact⟨_,rfl,by decide +kernel⟩),by decide +kernel⟩ rfl rfl rfl (a1J rfl B.range (a0a (a0A a1c (pv 5) a0g) a0c))
     (fun s H fp=>a0q (i:=0) (show(["_law_k","_law_names_here","_law_cell_here"]:List Str).Nodup by decide +kernel) rfl (Or.inl rfl)) (fun s H fp=>a1h)
     (fun s H fp=>a2u (a0Y (a0x (r:=b4J K) a0r (pv 1) (a0A a8O a0g (a0A a2S a0g (a0A a1c (a0A a1w (pv 2) a0g) a0g))) (fun _ _=>rfl)) (a0A a1c (a0A a1w (pv 2) (a0A a2p (pv 0) a0g)) (a0A a3D a0g a0g)) a2z) rfl rfl (by simp) (by decide)) sc.nd rfl (Or.inl rfl))
   (a0d (a0w (i:=7) sc.nd rfl (Or.inl rfl) (a2u (a0Y (a0x a0r (pv 1) a0g (fun _ _=>rfl)) (a1S (a0a (a0x a0r (pv 4) a0g (fun _ _=>rfl)) a0c)) (a0Y (a0x a0r (pv 1) a0g (fun _ _=>rfl)) (a1S (a0a (a0x a0r (pv 4) a0g (fun _ _=>rfl)) a0c)) (a0Y (a0x a0r (pv 1) a0g (fun _ _=>rfl)) (a1j (osc:=a0e (top 52)) (N0:=nPs) (xs:=["_law_one"]) (fr:=[]) ⟨rfl,by decide +kernel,by decide +kernel,by decide +kernel,by decide,by decide +kernel⟩ rfl rfl rfl (a1D (pv 6))
     (fun s H fp=>a0q (i:=0) (show(["_law_one"]:List Str).Nodup by decide +kernel) rfl (Or.inl rfl)) (fun s H fp=>a1h) (fun s H fp=>a0I a2r (by rfl) B.dict boot_dict (a0a (pv 0) a0c))) a2z))) rfl rfl (by simp) (by decide)))
   (a0h (a0s (a1S (a0a (a2u (a0Y (a0x a0r (pv 1) a0g (fun _ _=>rfl)) (a1S (a0a (pv 3) a0c)) (a0Y (a0x a0r (pv 1) a0g (fun _ _=>rfl)) (pv 6) a2z)) rfl rfl (by simp) (by decide)) (a0a (pv 7) a0c))))))))),?_⟩
  refine⟨_,rfl,_,rfl,a,nl,ns,nm,rfl,ha,h63,hnl,N,fun r ta H1 s1 r0 ta0 er et=>?_⟩;have rnd:((rwE ns nm ta).map (·.1)).Nodup:=a1B N;refine⟨_,rfl,_,rfl,r,l,_,cs,rfl,er,s1 _ _ hl,rnd,(by show 5<=12;decide),c12,fun t2 x y H2 s2 e2 x0 y0 _ nxy ex ey=>?_⟩;have S2:=s1.trans s2;refine⟨_,rfl,a,ns,8,rfl,S2.seq ha,by decide,by decide,h63,fun H3 s3=>?_⟩;have S3:=S2.trans s3;have m0:=Int.emod_nonneg (cel ns 8) (show(4:Int)≠0 by decide);have m4:=Int.emod_lt_of_pos (cel ns 8) (show(0:Int)<4 by decide);refine⟨_,rfl,_,_,rfl,rfl,pos rfl,_,rfl,(by omega),(by omega),fun D hD=>?_⟩;have D0:H D=none:=a0G S3 hD;refine a1m (cel ns 8%4).toNat (fun i ys σ' Hc=>(∃t,σ'=[t,some (.ref nl),some (.int (cel ns 8))])/\a0k H3 Hc/\∃rs:List Addr,ys=rs.map V.ref/\∀(j:Nat) (r:Addr),rs[j]? =some r->(H3 r=none/\r≠D)/\Hc r=some (.dK (kvC (mrE ns nm j)))) (by rw[sizeLine_eq];omega) ⟨⟨none,rfl⟩,a0k.upd hD,[],rfl,fun j r h=>nomatch h⟩ a0b ?_ ?_
  ·rintro i σ' Hc ys hi ⟨⟨t,rfl⟩,sm,rs,rfl,hrs⟩ hyl hDc
   rw[lM0] at hyl;refine⟨hi,?_⟩;rintro x H' ⟨rfl,rfl⟩;intro m hm;have T4:=a0k.upd (o:=.dK []) hm;have nDm:m≠D:=fun e=>by rw[e,hDc] at hm;cases hm
   refine⟨_,rfl,_,rfl,_,_,rfl,rfl,⟨by decide,by decide⟩,_,_,rfl,rfl,pos rfl,_,_,rfl,rfl,.inl ⟨by decide,by decide⟩,_,_,rfl,rfl,nl,_,_,_,rfl,rfl,SqL.of ((S3.trans (sm.trans T4)) _ _ hnl),b3B ns nm,?_⟩;refine⟨_,rfl,_,rfl,_,_,rfl,rfl,_,_,rfl,rfl,⟨by omega,by omega⟩,_,_,rfl,rfl,⟨by decide,by decide +kernel⟩,_,_,rfl,rfl,(show(0:Int)<10 ^ (12:Int).toNat by decide +kernel),a0b,[(.inr (nX ns nm),.int (cel ns 8/(0+(i:Int)+1)%10 ^ (12:Int).toNat))],rfl,(by show 1<=15;decide),?_⟩;have m0':H3 m=none:=a0G sm hm;have S5:a0k H' (upd (upd H' m (.dK [])) m (.dK (a1n [] [((.inr (nX ns nm):Key),V.int (cel ns 8/(0+(i:Int)+1)%10 ^ (12:Int).toNat))]))):=T4.put hm;have e5:(upd (upd H' m (.dK [])) m (.dK (a1n [] [((.inr (nX ns nm):Key),V.int (cel ns 8/(0+(i:Int)+1)%10 ^ (12:Int).toNat))]))) m=some (.dK (kvC (mrE ns nm i))):=a0b;generalize upd (upd H' m (.dK [])) m (.dK (a1n [] [((.inr (nX ns nm):Key),V.int (cel ns 8/(0+(i:Int)+1)%10 ^ (12:Int).toNat))]))=H5 at *;refine⟨S5 _ _ hDc,⟨_,rfl⟩,(sm.trans S5).put hD,rs++[m],by rw[mA0];rfl,a9y (fun j r h=>⟨(hrs j r h).1,(a0f (hrs j r h).1.2).trans (S5 _ _ (hrs j r h).2)⟩) ⟨⟨m0',nDm⟩,(a0f nDm).trans (by rw[hyl];exact e5)⟩⟩
  rintro σ4 H4 ys ⟨_,s4,rs,rfl,hrs⟩ h4 rl;rw[lM0] at rl;refine⟨nR0 _,?_⟩;have S4:=S3.trans s4;have t4:=(s3.trans s4) _ _ e2;intro p1 hp1;have p10:H p1=none:=a0G S4 hp1;have T5:=a0k.upd (o:=.dK []) hp1;have e5:=a0b (H:=H4) (a:=p1) (o:=.dK []);generalize upd H4 p1 (.dK [])=H5 at *;have S5:=S4.trans T5;refine⟨_,rfl,nl,_,0,_,rfl,rfl,SqL.of (S5 _ _ hnl),a1L nm (i:=0) (by decide),_,rfl,t2,_,0,_,rfl,rfl,SqL.of (T5 _ _ t4),a1b (j:=0) rfl,(by show 1<=sizeLine;decide),fun b0 hb0=>?_⟩;have T6:=a0k.upd (o:=.lst [V.ref x]) hb0;have e6:=a0b (H:=H5) (a:=b0) (o:=.lst [V.ref x]);have b00:H b0=none:=a0G S5 hb0;generalize upd H5 b0 (.lst [V.ref x])=H6 at *;have S6:=S5.trans T6;refine⟨_,rfl,nl,_,1,_,rfl,rfl,SqL.of (S6 _ _ hnl),a1L nm (i:=1) (by decide),_,rfl,t2,_,1,_,rfl,rfl,SqL.of (T6 _ _ (T5 _ _ t4)),a1b (j:=1) rfl,(by show 1<=sizeLine;decide),fun b1 hb1=>?_⟩;have T7:=a0k.upd (o:=.lst [V.ref y]) hb1;have e7:=a0b (H:=H6) (a:=b1) (o:=.lst [V.ref y]);have b10:H b1=none:=a0G S6 hb1;generalize upd H6 b1 (.lst [V.ref y])=H7 at *;have S7:=S6.trans T7;have S47:=T5.trans (T6.trans T7);refine⟨_,rfl,nl,_,7,_,rfl,rfl,SqL.of (S7 _ _ hnl),a1L nm (i:=7) (by decide),_,rfl,D,rfl,⟨_,SqL.of (S47 _ _ h4)⟩,fun D2 hD2=>?_⟩;have D20:H D2=none:=a0G S7 hD2;refine a1m rs.length (fun i ys σ' Hc=>(∃t,σ'=[t])/\a0k H7 Hc/\∃qs:List Addr,ys=qs.map V.ref/\∀(j:Nat) (r:Addr),qs[j]? =some r->(H7 r=none/\r≠D2)/\Hc r=some (.dK (kvC (mrE ns nm j)))) (by rw[sizeLine_eq];omega) ⟨⟨none,rfl⟩,a0k.upd hD2,[],rfl,fun j r h=>nomatch h⟩ a0b ?_ ?_
  ·rintro i σ' Hc ys hi ⟨⟨t,rfl⟩,sm,qs,rfl,hqs⟩ hyl hDc
   rw[lM0] at hyl;have hl7:=sm _ _ (S47 _ _ h4);refine⟨⟨_,V.ref rs[i],SqL.of hl7,by rw[gM0,gE0 hi];rfl⟩,?_⟩;rintro x H' ⟨rfl,hx'⟩;have ex:=hx' _ (SqL.of hl7);rw[gM0,gE0 hi] at ex;cases ex;have r4:=(hrs i rs[i] (gE0 hi)).2;refine⟨_,rfl,rs[i],_,rfl,.inl (sm _ _ (S47 _ _ r4)),fun m hm=>?_⟩;have T8:=a0k.upd (o:=.dK (kvC (mrE ns nm i))) hm;have nDm:m≠D2:=fun e=>by rw[e,hDc] at hm;cases hm
   refine⟨T8 _ _ hDc,⟨_,rfl⟩,(sm.trans T8).put hD2,qs++[m],by rw[mA0];rfl,a9y (fun j r h=>⟨(hqs j r h).1,(a0f (hqs j r h).1.2).trans (T8 _ _ (hqs j r h).2)⟩) ⟨⟨a0G sm hm,nDm⟩,(a0f nDm).trans (by rw[hyl];exact a0b)⟩⟩
  rintro σ8 H8 ys ⟨_,s8,qs,rfl,hqs⟩ h8 ql;rw[lM0] at ql;have S8:=S7.trans s8;refine⟨⟨_,SqL.of (s8 _ _ (S47 _ _ h4)),by rw[lM0];exact nR0 _⟩,(T6.trans (T7.trans s8)) _ _ e5,[((.inr (nm 0)),V.ref b0),(.inr (nm 1),.ref b1),(.inr (nm 7),.ref D2)],rfl,(by show 3<=15;decide),?_⟩;rw[b1F N.n10.symm N.ne N.n17];have p18:=(T6.trans (T7.trans s8)) _ _ e5;have e9:=a0b (H:=H8) (a:=p1) (o:=.dK [((.inr (nm 0):Key),V.ref b0),(.inr (nm 1),.ref b1),(.inr (nm 7),.ref D2)]);have S9:a0k H (upd H8 p1 (.dK [((.inr (nm 0):Key),V.ref b0),(.inr (nm 1),.ref b1),(.inr (nm 7),.ref D2)])):=S8.put p10;have k9:∀b o,b≠p1->H8 b=some o->(upd H8 p1 (.dK [((.inr (nm 0):Key),V.ref b0),(.inr (nm 1),.ref b1),(.inr (nm 7),.ref D2)])) b=some o:=fun b o nb e=>(a0f nb).trans e;generalize upd H8 p1 (.dK [((.inr (nm 0):Key),V.ref b0),(.inr (nm 1),.ref b1),(.inr (nm 7),.ref D2)])=H9 at *;have k49:∀b o,H4 b=some o->H9 b=some o:=fun b o e=>k9 b o (fun z=>by rw[z,hp1] at e;cases e) (s8 _ _ (S47 _ _ e));have k9l:∀b ys,H8 b=some (.lst ys)->H9 b=some (.lst ys):=fun b ys e=>k9 b _ (fun z=>by rw[z,p18] at e;cases e) e;intro p0 hp0;have p00:H p0=none:=a0G S9 hp0;have T10:=a0k.upd (o:=.dK []) hp0;have e10:=a0b (H:=H9) (a:=p0) (o:=.dK []);generalize upd H9 p0 (.dK [])=H10 at *;have S10:=S9.trans T10;refine⟨_,rfl,nl,_,0,_,rfl,rfl,SqL.of (S10 _ _ hnl),a1L nm (i:=0) (by decide),_,rfl,(by show 1<=sizeLine;decide),fun c0 hc0=>?_⟩;have T11:=a0k.upd (o:=.lst [V.ref r]) hc0;have e11:=a0b (H:=H10) (a:=c0) (o:=.lst [V.ref r]);have c00:H c0=none:=a0G S10 hc0;generalize upd H10 c0 (.lst [V.ref r])=H11 at *;have S11:=S10.trans T11;refine⟨_,rfl,nl,_,7,_,rfl,rfl,SqL.of (S11 _ _ hnl),a1L nm (i:=7) (by decide),_,rfl,T11 _ _ e10,[((.inr (nm 0)),V.ref c0),(.inr (nm 7),.ref D)],rfl,(by show 2<=15;decide),?_⟩;rw[a8p N.ne];have e12:=a0b (H:=H11) (a:=p0) (o:=.dK [((.inr (nm 0):Key),V.ref c0),(.inr (nm 7),.ref D)]);have S12:a0k H9 (upd H11 p0 (.dK [((.inr (nm 0):Key),V.ref c0),(.inr (nm 7),.ref D)])):=(T10.trans T11).put hp0;have c12':(upd H11 p0 (.dK [((.inr (nm 0):Key),V.ref c0),(.inr (nm 7),.ref D)])) c0=some (.lst [V.ref r]):=(a0f fun e=>by rw[e,T11 _ _ e10] at e11;cases e11).trans e11;generalize upd H11 p0 (.dK [((.inr (nm 0):Key),V.ref c0),(.inr (nm 7),.ref D)])=H12 at *;refine⟨_,rfl,(by show 2<=sizeLine;decide),fun t ht=>?_⟩;have T13:=a0k.upd (o:=.lst [V.ref p0,.ref p1]) ht;have e13:=a0b (H:=H12) (a:=t) (o:=.lst [V.ref p0,.ref p1]);have t0:H t=none:=a0G (S9.trans S12) ht;generalize upd H12 t (.lst [V.ref p0,.ref p1])=H13 at *;have k9':=S12.trans T13;have k4':∀b o,H4 b=some o->H13 b=some o:=fun b o e=>k9' _ _ (k49 b o e);refine q t p0 p1 ta H13 (S9.trans k9') t0 e13 ta0 (k4' _ _ ((s2.trans (s3.trans s4)) _ _ et)) ⟨[c0,D],a0Q p00 (T13 _ _ e12),rfl,fun j l x h1 h2=>?_⟩ ⟨[b0,b1,D2],a0Q p10 (k9' _ _ e9),rfl,fun j l z h1 h2=>?_⟩
  ·match j,h1,h2 with
   |0,h1,h2=>
    cases h1;cases h2;exact a3c (a0Q c00 (T13 _ _ c12')) (a0Q r0 (k4' _ _ ((s2.trans (s3.trans s4)) _ _ er)))
   |1,h1,h2=>
    cases h1;cases h2;exact a8L (a0Q D0 (k4' _ _ h4)) rl fun j r h=>a0Q (a0G S3 (hrs j r h).1.1) (k4' _ _ (hrs j r h).2)
  ·match j,h1,h2 with
   |0,h1,h2=>
    cases h1;cases h2;exact a3c (a0Q b00 (k9' _ _ (k9l _ _ ((T7.trans s8) _ _ e6)))) (a0Q (a0G s1 x0) (k4' _ _ ((s3.trans s4) _ _ ex)))
   |1,h1,h2=>
    cases h1;cases h2;exact a3c (a0Q b10 (k9' _ _ (k9l _ _ (s8 _ _ e7)))) (a0Q (a0G s1 y0) (k4' _ _ ((s3.trans s4) _ _ ey)))
   |2,h1,h2=>
    cases h1;cases h2;exact a8L (a0Q D20 (k9' _ _ (k9l _ _ h8))) (ql.trans rl) fun j r h=>a0Q (a0G S7 (hqs j r h).1.1) (k9' _ _ (k9 _ _ (fun z=>by have:=(hqs j r h).1.1;rw[z,(T6.trans T7) _ _ e5] at this;cases this) (hqs j r h).2))
end
theorem b1y {c:List (Str×V)}{k:Key}{v:V}(h:(k,v)∈kvC c):∃x∈c,k=.inr x.1/\v=x.2:=by
 obtain⟨x,hx,e⟩:=mM0.mp h;cases e;exact⟨x,hx,rfl,rfl⟩
structure RwQ (H:Hp) (r r':Rw):Prop where
 pm:(r.map (·.1)).Perm (r'.map (·.1))
 nd:(r'.map (·.1)).Nodup
 to:∀x'∈r',∃x∈r,x.1=x'.1/\Lq H 1 x.2 x'.2
theorem b4c {H:Hp}{a b:Addr}{r r':Rw}(q:RwQ H r r')(ha:H a=some (.dK (kvC r)))(hb:H b=some (.dK (kvC r'))):Lq H 2 (.ref a) (.ref b):=by
 have nd:(r.map (·.1)).Nodup:=q.pm.nodup_iff.mpr q.nd;have at_:∀(k:Key) (v:V),(k,v)∈kvC r'->∃x,a1U (kvC r) k=some x/\Lq H 1 x v:=fun k v h=>by
  obtain⟨x',hx',rfl,rfl⟩:=b1y h;obtain⟨x,hx,e,l⟩:=q.to x' hx';exact⟨x.2,by rw[<-e];exact a6v nd hx,l⟩
 refine .dct (fun k=>(a1U (kvC r) k).getD .non) (.inl ha) (.inl hb) ?_ (fun k v h=>?_) (fun k v h=>?_) (fun k v h=>?_)
 ·have:=q.pm.length_eq
  rw[lM0,lM0] at this;unfold kvC;rw[lM0,lM0,this]
 ·obtain⟨x,e,_⟩:=at_ k v h
  rw[e]
  rfl
 ·obtain⟨x',hx',rfl,rfl⟩:=b1y h
  exact a6v q.nd hx'
 ·obtain⟨x,e,l⟩:=at_ k v h
  rw[e];exact l
structure RsQ (H:Hp) (t t':Str×List Rw):Prop where
 n:t.1=t'.1
 l:t.2.length=t'.2.length
 to:∀(j:Nat) (r r':Rw),t.2[j]? =some r->t'.2[j]? =some r'->RwQ H r r'
theorem b2f {H:Hp}{a b:Addr}{t t':Str×List Rw}(q:RsQ H t t')(ha:a1X H a t.2)(hb:a1X H b t'.2):Lq H 3 (.ref a) (.ref b):=by
 obtain⟨rs,a1,a2,a3⟩:=ha;obtain⟨rs',b1,b2,b3⟩:=hb;have ql:=q.l;refine .lst a1 b1 (by rw[lM0,lM0];omega) fun i x y hx hy=>?_;have hi:i<rs.length:=by have:=(gS0.mp hx).1;rwa [lM0] at this
 have hi':i<rs'.length:=by omega
 have hit:i<t.2.length:=by omega
 have hit':i<t'.2.length:=by omega
 rw[gM0,gE0 hi] at hx;rw[gM0,gE0 hi'] at hy;cases hx;cases hy;exact b4c (q.to i _ _ (gE0 hit) (gE0 hit')) (a3 i _ _ (gE0 hi) (gE0 hit)) (b3 i _ _ (gE0 hi') (gE0 hit'))
theorem a6S:∀{zs:List Str} {ls:List Addr} {j:Nat} {z:Str} {l:Addr},zs.Nodup->zs[j]? =some z->ls[j]? =some l->a1U (zK zs ls) (.inr z)=some (.ref l)
 |[],_,_,_,_,_,h,_=>by simp at h
 |_::_,[],_,_,_,_,_,h=>by simp at h
 |a::zs,b::ls,0,z,l,nd,h1,h2=>by
  cases h1;cases h2;exact a1x rfl
 |a::zs,b::ls,j+1,z,l,nd,h1,h2=>by
  have hz:z∈zs:=gI0 (i:=j) h1;show a1U (((.inr a:Key),V.ref b)::zK zs ls) (.inr z)=_;rw[a1G (fun e=>(List.nodup_cons.mp nd).1 (by injection e with e;rw[e];exact hz))];exact a6S (List.nodup_cons.mp nd).2 h1 h2
structure PcQ (H:Hp) (pc pc':Pc):Prop where
 pm:(pc.map (·.1)).Perm (pc'.map (·.1))
 nd:(pc'.map (·.1)).Nodup
 to:∀t'∈pc',∃t∈pc,RsQ H t t'
theorem b0z {H:Hp}{p p':Addr}{pc pc':Pc}(q:PcQ H pc pc')(h:a3u H p pc)(h':a3u H p' pc'):Lq H 4 (.ref p) (.ref p'):=by
 have nd:(pc.map (·.1)).Nodup:=q.pm.nodup_iff.mpr q.nd;have ln:pc.length=pc'.length:=by have:=q.pm.length_eq;rwa [lM0,lM0] at this
 obtain⟨ls,a1,a2,a3⟩:=h;obtain⟨ls',b1,b2,b3⟩:=h';have at_:∀(k:Key) (v:V),(k,v)∈zK (pc'.map (·.1)) ls'->(∃x,a1U (zK (pc.map (·.1)) ls) k=some x/\Lq H 3 x v)/\a1U (zK (pc'.map (·.1)) ls') k=some v:=fun k v hk=>by
  obtain⟨j,hj⟩:=List.getElem?_of_mem hk;obtain⟨z,l',hz,hl',rfl,rfl⟩:=a9e hj;have hjp:j<pc'.length:=by have:=(gS0.mp hl').1;omega
  refine⟨?_,a6S q.nd hz hl'⟩;obtain⟨t,ht,rq⟩:=q.to pc'[j] (gQ0 hjp);obtain⟨i,hi⟩:=List.getElem?_of_mem ht;have hil:i<ls.length:=by have:=(gS0.mp hi).1;omega
  rw[gM0,gE0 hjp] at hz;cases hz;refine⟨.ref ls[i],?_,b2f rq (a3 i _ _ (gE0 hil) hi) (b3 j _ _ hl' (gE0 hjp))⟩;exact a6S nd (by rw[gM0,hi];exact congrArg some rq.n) (gE0 hil)
 refine .dct (fun k=>(a1U (zK (pc.map (·.1)) ls) k).getD .non) (.inl a1) (.inl b1) ?_ (fun k v hk=>?_) (fun k v hk=>(at_ k v hk).2) (fun k v hk=>?_)
 ·rw[a6R (by rw[lM0];exact a2),a6R (by rw[lM0];exact b2),lM0,lM0,ln]
 ·obtain⟨⟨x,e,_⟩,_⟩:=at_ k v hk
  rw[e]
  rfl
 ·obtain⟨⟨x,e,l⟩,_⟩:=at_ k v hk
  rw[e];exact l
theorem a8t {c:List (Str×V)}{zs cs:List Str}(p:zs.Perm cs):lf c zs=lf c cs:=by
 unfold lf;refine List.filter_congr fun x _=>?_;rw[decide_eq_decide];exact not_congr p.mem_iff
theorem a8E {c:List (Str×V)}{zs:List Str}{x:Str×V}(h:x∈lf c zs):x∈c:=(mF0.mp h).1
theorem a5f {c:List (Str×V)}{zs:List Str}{x:Str×V}(h:x∈rf c zs):x∈c:=(mF0.mp h).1
theorem a9C {c c2:List (Str×V)}(nd:(c.map (·.1)).Nodup)(nd2:(c2.map (·.1)).Nodup)(h:∀x∈c2,x∈c):∀z∈c2.map (·.1),vOf c2 z=vOf c z:=fun z hz=>by
 obtain⟨x,hx,rfl⟩:=mM0.mp hz;rw[a1T nd2 hx,a1T nd (h x hx)]
theorem b0q {c:List (Str×V)}{zs:List Str}(nd:(c.map (·.1)).Nodup):((lf c zs).map (·.1)).Nodup:=nd.sublist (List.filter_sublist.map _)
theorem a6o {c:List (Str×V)}{zs:List Str}(nd:(c.map (·.1)).Nodup):((rf c zs).map (·.1)).Nodup:=nd.sublist (List.filter_sublist.map _)
theorem a3x {c:List (Str×V)}{cs:List Str}(nd:(c.map (·.1)).Nodup)(cnd:cs.Nodup)(h:∀z∈cs,z∈c.map (·.1)):((rf c cs).map (·.1)).Perm cs:=by
 rw[List.perm_ext_iff_of_nodup (a6o nd) cnd];intro z
 constructor
 ·intro hz
  obtain⟨x,hx,rfl⟩:=mM0.mp hz;exact of_decide_eq_true (mF0.mp hx).2
 ·intro hz
  obtain⟨x,hx,rfl⟩:=mM0.mp (h z hz);exact mM0.mpr ⟨x,mF0.mpr ⟨hx,dT0 hz⟩,rfl⟩
theorem a6z (c:List (Str×V))(cs:List Str):(lf c cs++rf c cs).Perm c:=by
 have:=List.filter_append_perm (fun x:Str×V=>decide (x.1∈cs)) c
 refine List.perm_append_comm.trans ?_;unfold lf rf;refine List.Perm.trans ?_ this;refine List.Perm.append_left _ ?_;rw[show(fun x:Str×V=>decide (x.1∉cs))=fun x=>!decide (x.1∈cs) by funext x;simp]
theorem b0g {c:List (Str×V)}{zs cs:List Str}(nd:(c.map (·.1)).Nodup)(cnd:cs.Nodup)(p:zs.Perm cs)(h:∀z∈cs,z∈c.map (·.1)):cnC (rt c zs)=cnC (rf c cs):=by
 refine a7j ?_ fun z hz=>?_
 ·rw[a3s]
  exact p.trans (a3x nd cnd h).symm
 ·rw[a3s] at hz
  have h2:=a9C nd (a6o (zs:=cs) nd) (fun x hx=>a5f hx) z ((a3x nd cnd h).mem_iff.mpr (p.mem_iff.mp hz));rw[h2];exact a8v hz
theorem b5f {c:List (Str×V)}(nd:(c.map (·.1)).Nodup)(cs:List Str):cnC (lf c cs++rf c cs)=cnC c:=by
 have p:=a6z c cs;exact a7j (p.map _) (a9C nd ((p.map _).nodup_iff.mpr nd) fun x hx=>p.mem_iff.mp hx)
theorem a0L.sub {H:Hp}{c c2:List (Str×V)}(ok:a0L H c)(nd:(c2.map (·.1)).Nodup)(l:c2.length<=12)(h:∀x∈c2,x∈c):a0L H c2:=⟨nd,l,fun p hp=>ok.2.2 p (h p hp)⟩
theorem a5h {H:Hp}{ns:List Int}{nm:Nat->Str}{ta tb:Addr}(h1:H ta=some (.tup (txE ns)))(h2:H tb=some (.tup (txE ns))):∀x'∈rwE ns nm tb,∃x∈rwE ns nm ta,x.1=x'.1/\Lq H 1 x.2 x'.2:=by
 intro x' hx';unfold rwE at hx';simp only[mK0,List.not_mem_nil,or_false] at hx';rcases hx' with rfl |rfl |rfl |rfl |rfl
 ·exact⟨_,by unfold rwE;exact .head _,rfl,.int⟩
 ·refine⟨_,by unfold rwE;exact .tail _ (.head _),rfl,?_⟩
  show Lq H 1 (kyE _) (kyE _);unfold kyE
  split
  ·exact .non
  ·exact .int
 ·exact⟨_,by unfold rwE;exact .tail _ (.tail _ (.head _)),rfl,.int⟩
 ·refine⟨(nm 5,.ref ta),by unfold rwE;exact .tail _ (.tail _ (.tail _ (.head _))),rfl,.tup (.inl h1) (.inl h2) rfl fun i x y hx hy=>?_⟩
  rw[hx] at hy;cases hy;obtain⟨k,_,rfl⟩:=mM0.mp (gI0 hx);exact .str
 ·exact⟨_,by unfold rwE;exact .tail _ (.tail _ (.tail _ (.tail _ (.head _)))),rfl,.str⟩
section
variable {H:Hp}{ns:List Int}{nm:Nat->Str}{ta tb:Addr}{cs zs:List Str}
theorem b5G (N:Nm8 nm)(h1:H ta=some (.tup (txE ns)))(h2:H tb=some (.tup (txE ns))):RwQ H (rwE ns nm ta) (rwE ns nm tb):=⟨.refl _,a1B N,a5h h1 h2⟩
theorem a6u (c c2:List (Str×V))(cs:List Str)(h:c.map (·.1)=c2.map (·.1)):(lf c cs).map (·.1)=(lf c2 cs).map (·.1):=by rw[a2A,a2A,h]
theorem a7e (c:List (Str×V))(zs:List Str):(rf c zs).map (·.1)=(c.map (·.1)).filter fun z=>decide (z∈zs):=by
 unfold rf;rw[List.filter_map]
 rfl
theorem b5N (N:Nm8 nm)(h1:H ta=some (.tup (txE ns)))(h2:H tb=some (.tup (txE ns))):RwQ H (lf (rwE ns nm ta) cs) (lf (rwE ns nm tb) cs):=by
 refine⟨.of_eq (a6u _ _ _ rfl),b0q (a1B N),fun x' hx'=>?_⟩;obtain⟨x,hx,e,l⟩:=a5h (nm:=nm) h1 h2 x' (a8E hx');refine⟨x,mF0.mpr ⟨hx,?_⟩,e,l⟩;rw[e];exact(mF0.mp hx').2
theorem q_rf (N:Nm8 nm)(h1:H ta=some (.tup (txE ns)))(h2:H tb=some (.tup (txE ns))):RwQ H (rf (rwE ns nm ta) cs) (rf (rwE ns nm tb) cs):=by
 refine⟨.of_eq (by rw[a7e,a7e];rfl),a6o (a1B N),fun x' hx'=>?_⟩;obtain⟨x,hx,e,l⟩:=a5h (nm:=nm) h1 h2 x' (a5f hx');refine⟨x,mF0.mpr ⟨hx,?_⟩,e,l⟩;rw[e];exact(mF0.mp hx').2
theorem q_rt (N:Nm8 nm)(h1:H ta=some (.tup (txE ns)))(h2:H tb=some (.tup (txE ns)))(cnd:cs.Nodup)(h:∀z∈cs,z∈a9T nm)(p:zs.Perm cs):RwQ H (rt (rwE ns nm ta) zs) (rf (rwE ns nm tb) cs):=by
 refine⟨by rw[a3s];exact p.trans (a3x (c:=rwE ns nm tb) (a1B N) cnd h).symm,a6o (a1B N),fun x' hx'=>?_⟩;obtain⟨x,hx,e,l⟩:=a5h (nm:=nm) h1 h2 x' (a5f hx');have hz:x.1∈zs:=p.mem_iff.mpr (by rw[e];exact of_decide_eq_true (mF0.mp hx').2);exact⟨(x.1,vOf (rwE ns nm ta) x.1),mM0.mpr ⟨x.1,hz,rfl⟩,e,by show Lq H 1 (vOf (rwE ns nm ta) x.1) _;rw[a1T (c:=rwE ns nm ta) (a1B N) hx];exact l⟩
theorem q_lr (N:Nm8 nm)(h1:H ta=some (.tup (txE ns)))(h2:H tb=some (.tup (txE ns))):RwQ H (lf (rwE ns nm ta) cs++rf (rwE ns nm ta) cs) (rwE ns nm tb):=by
 have p:=a6z (rwE ns nm ta) cs;exact⟨p.map _,a1B N,fun x' hx'=>let ⟨x,hx,e,l⟩:=a5h (nm:=nm) h1 h2 x' hx';⟨x,p.mem_iff.mpr hx,e,l⟩⟩
theorem b4B (N:Nm8 nm):RsQ H (nm 7,mnE ns nm) (nm 7,mnE ns nm):=⟨rfl,rfl,fun j r r' h1 h2=>by
 rw[h1] at h2;cases h2;rw[a9p h1];refine⟨.refl _,List.nodup_cons.mpr ⟨List.not_mem_nil,List.nodup_nil⟩,fun x' hx'=>⟨x',hx',rfl,?_⟩⟩;unfold mrE at hx';rw[mS0.mp hx'];exact .int⟩
theorem rs1 {z:Str}{r r':Rw}(q:RwQ H r r'):RsQ H (z,[r]) (z,[r']):=⟨rfl,rfl,fun j x y h1 h2=>match j,h1,h2 with
 |0,h1,h2=>by cases h1;cases h2;exact q
 |j+1,h1,_=>by cases h1⟩
theorem a7a (N:Nm8 nm):[nm 0,nm 7].Nodup:=by simp[N.ne (i:=0) (j:=7)]
theorem a7z (N:Nm8 nm):[nm 0,nm 1,nm 7].Nodup:=by simp[N.ne (i:=0) (j:=7),N.n10.symm,N.n17]
theorem b3j (N:Nm8 nm){r r':Rw}(q:RwQ H r r'):PcQ H [(nm 0,[r]),(nm 7,mnE ns nm)] [(nm 0,[r']),(nm 7,mnE ns nm)]:=⟨.refl _,a7a N,fun t' ht'=>by
 simp only[mK0,List.not_mem_nil,or_false] at ht';rcases ht' with rfl |rfl
 ·exact⟨_,.head _,rs1 q⟩
 ·exact⟨_,.tail _ (.head _),b4B N⟩⟩
theorem b4O (N:Nm8 nm){r r' x x':Rw}(q:RwQ H r r')(q2:RwQ H x x'):PcQ H [(nm 0,[r]),(nm 1,[x]),(nm 7,mnE ns nm)] [(nm 0,[r']),(nm 1,[x']),(nm 7,mnE ns nm)]:=⟨.refl _,a7z N,fun t' ht'=>by
 simp only[mK0,List.not_mem_nil,or_false] at ht';rcases ht' with rfl |rfl |rfl
 ·exact⟨_,.head _,rs1 q⟩
 ·exact⟨_,.tail _ (.head _),rs1 q2⟩
 ·exact⟨_,.tail _ (.tail _ (.head _)),b4B N⟩⟩
theorem b5A (N:Nm8 nm){r r' x x':Rw}(q:RwQ H r r')(q2:RwQ H x x'):PcQ H [(nm 0,[r]),(nm 7,mnE ns nm),(nm 1,[x])] [(nm 0,[r']),(nm 1,[x']),(nm 7,mnE ns nm)]:=⟨.cons _ (.swap _ _ _),a7z N,fun t' ht'=>by
 simp only[mK0,List.not_mem_nil,or_false] at ht';rcases ht' with rfl |rfl |rfl
 ·exact⟨_,.head _,rs1 q⟩
 ·exact⟨_,.tail _ (.tail _ (.head _)),rs1 q2⟩
 ·exact⟨_,.tail _ (.head _),b4B N⟩⟩
theorem a8U (N:Nm8 nm)(h1:H ta=some (.tup (txE ns))){r:Rw}(nd:(r.map (·.1)).Nodup)(l:r.length<=12)(h:∀x∈r,x∈rwE ns nm ta):b1m H r:=⟨⟨nd,l⟩,fun c hc=>by
 have:=h c hc
 unfold rwE at this;simp only[mK0,List.not_mem_nil,or_false] at this;rcases this with rfl |rfl |rfl |rfl |rfl
 ·exact .inl rfl
 ·refine .inl ?_
  show flt (kyE _)=true;unfold kyE
  split<;>rfl
 ·exact .inl rfl
 ·exact .inr ⟨ta,_,rfl,h1⟩
 ·exact .inl rfl⟩
theorem b3G {row:Rw}(h:row∈mnE ns nm):b1m H row:=by
 obtain⟨j,hj⟩:=List.getElem?_of_mem h;rw[a9p hj];refine⟨⟨List.nodup_cons.mpr ⟨List.not_mem_nil,List.nodup_nil⟩,(by show 1<=12;decide)⟩,fun c hc=>?_⟩;unfold mrE at hc;rw[mS0.mp hc];exact .inl rfl
theorem b3F (ns:List Int)(nm:Nat->Str):(mnE ns nm).length<=1000:=by
 have:=Int.emod_lt_of_pos (cel ns 8) (show(0:Int)<4 by decide)
 rw[a9A]
 omega
theorem b3S {r:Rw}:(lf r cs).length<=r.length:=List.length_filter_le _ _
theorem b4n {r:Rw}:(rf r cs).length<=r.length:=List.length_filter_le _ _
theorem okO (N:Nm8 nm)(h1:H ta=some (.tup (txE ns))):a9V H (pcO ns nm ta):=⟨a7a N,(by show 2<=8;decide),fun t ht=>by
 unfold pcO at ht;simp only[mK0,List.not_mem_nil,or_false] at ht;rcases ht with rfl |rfl
 ·exact(by decide:1<=1000)
 ·exact b3F ns nm,fun t ht row hr=>by
 unfold pcO at ht;simp only[mK0,List.not_mem_nil,or_false] at ht;rcases ht with rfl |rfl
 ·rw[mS0.mp hr]
  exact a8U N h1 (a1B N) (by show 5<=12;decide) fun x hx=>hx
 ·exact b3G hr⟩
theorem okN (N:Nm8 nm)(h1:H ta=some (.tup (txE ns))):a9V H (pcN ns nm cs ta):=⟨a7z N,(by show 3<=8;decide),fun t ht=>by
 unfold pcN at ht;simp only[mK0,List.not_mem_nil,or_false] at ht;rcases ht with rfl |rfl |rfl
 ·exact(by decide:1<=1000)
 ·exact(by decide:1<=1000)
 ·exact b3F ns nm,fun t ht row hr=>by
 have l5:(rwE ns nm ta).length=5:=rfl;unfold pcN at ht;simp only[mK0,List.not_mem_nil,or_false] at ht;rcases ht with rfl |rfl |rfl
 ·rw[mS0.mp hr]
  have:=b3S (cs:=cs) (r:=rwE ns nm ta)
  exact a8U N h1 (b0q (a1B N)) (by omega) fun x hx=>a8E hx
 ·rw[mS0.mp hr]
  have:=b4n (cs:=cs) (r:=rwE ns nm ta)
  exact a8U N h1 (a6o (a1B N)) (by omega) fun x hx=>a5f hx
 ·exact b3G hr⟩
end
def kp (R:List Addr)(H:Hp):Hp:=fun b=>if b∈R then none else H b
theorem b5n {R:List Addr}{H:Hp}:a0k (kp R H) H:=fun b o e=>by
 unfold kp at e
 split at e
 ·cases e
 ·exact e
theorem b5z {R:List Addr}{H:Hp}{b:Addr}(h:b∈R):kp R H b=none:=by unfold kp;rw[if_pos h]
theorem a4v {R:List Addr}{H:Hp}{b:Addr}{o:HO}(h:b∉R)(e:H b=some o):kp R H b=some o:=by unfold kp;rw[if_neg h];exact e
theorem a8u {R:List Addr}{H H':Hp}(h:∀r∈R,∃o,H r=some o):a0k (cut H H') (kp R H'):=fun b o e=>a4v (fun hb=>by
 obtain⟨u,hu⟩:=h b hb;rw[a1K e] at hu;cases hu) (a0p _ _ e)
theorem b3V {R:List Addr}{H H':Hp}(h:∀r∈R,H r=none)(s:a0k H H'):a0k H (kp R H'):=fun b o e=>a4v (fun hb=>by
 rw[h b hb] at e;cases e) (s _ _ e)
def PcL (R:List Addr)(H:Hp)(p:Addr):Prop:=∃(zs:List Str) (ls:List Addr),H p=some (.dK (zK zs ls))/\zs.Nodup/\ls.length=zs.length/\zs.length<=8/\p∉R/\∀l∈ls,l≠p/\∃rs:List Addr,H l=some (.lst (rs.map V.ref))/\∀r∈rs,r∈R
theorem a9o {H G:Hp}{p:Addr}{pc:Pc}(h:a3u G p pc)(ok:a9V H pc)(s:a0k G H):∃R:List Addr,(∀r∈R,∃row,b1m H row/\G r=some (.dK (rK row)))/\∃ls:List Addr,G p=some (.dK (zK (pc.map (·.1)) ls))/\ls.length=pc.length/\∀l∈ls,l≠p/\∃rs:List Addr,G l=some (.lst (rs.map V.ref))/\∀r∈rs,r∈R:=by
 obtain⟨ls,a1,a2,a3⟩:=h;have key:∀n,n<=ls.length->∃R:List Addr,(∀r∈R,∃row,b1m H row/\G r=some (.dK (rK row)))/\∀l∈ls.take n,l≠p/\∃rs:List Addr,G l=some (.lst (rs.map V.ref))/\∀r∈rs,r∈R:=by
  intro n
  induction n with
  |zero=>exact fun _=>⟨[],(fun r h=>nomatch h),fun l h=>by simp at h⟩
  |succ n ih=>
   intro hn;obtain⟨R,h1,h2⟩:=ih (by omega);have hp:n<pc.length:=by omega
   have hRw:=a3 n ls[n] pc[n] (gE0 hn) (gE0 hp);have ap:=a3u.apart ok (s _ _ a1) a2 (gE0 hn) (gE0 hp) (hRw.same s);obtain⟨rs,b1,b2,b3⟩:=hRw;refine⟨R++rs,fun r hr=>?_,fun l hl=>?_⟩
   ·rcases mB0.mp hr with hr |hr
    ·exact h1 r hr
    ·obtain⟨j,hj⟩:=List.getElem?_of_mem hr
     have hjr:j<pc[n].2.length:=by have:=(gS0.mp hj).1;omega
     exact⟨pc[n].2[j],ok.rw_ _ (gQ0 hp) _ (gQ0 hjr),b3 j r _ hj (gE0 hjr)⟩
   ·rw[List.take_succ,gE0 hn] at hl
    rcases mB0.mp hl with hl |hl
    ·obtain⟨x,rs',y,z⟩:=h2 l hl
     exact⟨x,rs',y,fun r hr=>List.mem_append_left _ (z r hr)⟩
    ·rw[Option.toList_some,mS0] at hl
     rw[hl];exact⟨ap.1,rs,b1,fun r hr=>List.mem_append_right _ hr⟩
 obtain⟨R,h1,h2⟩:=key ls.length (nR0 _);rw[List.take_length] at h2;exact⟨R,h1,ls,a1,a2,h2⟩
theorem b1h {H:Hp}{p r:Addr}{z:Str}{zs:List Str}{ls:List Addr}{row:Rw}{l:Addr}{xs:List V}(hp:H p=some (.dK (zK (z::zs) (l::ls))))(hl:H l=some (.lst xs))(ok:b1m H row)(hr:H r=some (.dK (rK row))):r≠p:=fun e=>by
 rw[e,hp] at hr;have h2:((.inr z:Key),V.ref l)∈rK row:=by
  injection hr with hr
  injection hr with hr
  rw[<-hr];exact List.mem_cons_self
 exact a6x ok (fun ys h=>by rw[hl] at h;cases h) h2
def Me (P:Program)(w:World)(K:Fg0)(mg:Str->Option Value)(base:Heap)(C:Addr)(m:Str)(ps:List Str)(ds:List Value)(k:Nat)(sp:Sp):Prop:=∃f fd,b1i K C m f/\a0y P w K mg base CX0 k f fd ps sp/\a1Z K fd ps ds
def b4v (K:Fg0)(PF:Addr):Sp:=fun vs H Q _=>∃(a:Addr) (ns:List Int),vs=[.ref a]/\SqL K H a (ns.map V.int)/\ns.length<=63/\H PF=some (.tbl #[])/\∀H',Q (.bl true) H'
def nLw:List Str:=["_law_script","_law_names_here","_law_chosen_here","_law_kinds_here","_law_parts","_law_beside","_law_old","_law_new","_law_told","_law_move","_law_handed","_law_due","_law_found","_law_again","_law_piece","_law_table","_law_row_here"]
theorem SqL.sb35 {K:Fg0}{H H':Hp}{a:Addr}{xs:List V}(h:SqL K H a xs)(s:Sb H H'):SqL K H' a xs:=by
 rcases h with (h |⟨o,h⟩) |h
 ·exact .inl (.inl (s _ _ rfl h))
 ·exact .inl (.inr ⟨o,s _ _ rfl h⟩)
 ·exact .inr h
theorem b5r {zs:List Str}(z9:zs.length=9)(znd:zs.Nodup)(zok:∀z∈zs,a1C z=true):∃nm,(∀i j,i<9->j<9->nm i=nm j->i=j)/\(∀i,i<9->a1C (nm i)=true)/\zs.map V.str=nmL nm:=by
 refine⟨fun i=>zs.getD i "",fun i j hi hj e=>?_,fun i hi=>?_,?_⟩
 ·have hi':i<zs.length:=by omega
  have hj':j<zs.length:=by omega
  have e:zs.getD i ""=zs.getD j "":=e;rw[List.getD_eq_getElem?_getD,List.getD_eq_getElem?_getD,gE0 hi',gE0 hj'] at e;exact(List.getElem_inj znd).mp e
 ·have hi':i<zs.length:=by omega
  show a1C (zs.getD i "")=true;rw[List.getD_eq_getElem?_getD,gE0 hi'];exact zok _ (gQ0 hi')
 ·refine List.ext_getElem (by simp[z9]) fun i h1 h2=>?_
  have hi':i<zs.length:=by simpa using h1
  simp[gE0 hi']
section
variable {P:Program}{w:World}{K:Fg0}{mg:Str->Option Value}{base:Heap}{CC PF:Addr}
theorem b3m {f fI fC fN fA fF fT fK fR fS fP fG:Addr}{fd fdI fdC fdN fdA fdF fdT fdK fdR fdS fdP fdG:FuncData}(F:Fun K "law" "law" (top 53) f fd)(B:Bl mg)(hz:mg "zip"=none)(T:ClC K CC)
  (DC:Df K mg "_law_cell" (top 43) fC fdC) (DN:Df K mg "_law_names" (top 44) fN fdN) (DA:Df K mg "_law_alike" (top 45) fA fdA) (DF:Df K mg "_law_form" (top 46) fF fdF) (DT:Df K mg "_law_text" (top 47) fT fdT) (DK:Df K mg "_law_kinds" (top 48) fK fdK) (DR:Df K mg "_law_row" (top 49) fR fdR) (DS:Df K mg "_law_chosen" (top 50) fS fdS) (DP:Df K mg "_law_parted" (top 51) fP fdP) (DG:Df K mg "_law_pieces" (top 52) fG fdG)
  (MK:Mk K CC fI) (FI:Fun K "__init__" "Cleave.__init__" (a0N (top 38) 0) fI fdI) (mC:mg "Cleave"=some (.ref CC))
  (eA:Me P w K mg base CC "after" ["self","form"] [] 8 (a8C CC PF)) (eZ:Me P w K mg base CC "before" ["self","form"] [] 8 (a7p CC PF)) (eF:Me P w K mg base CC "forth" ["self","form","piece","rest"] [] 3 (a8T CC)) (eB:Me P w K mg base CC "back" ["self","form","piece","rest"] [] 2 (b1k CC)) (eL:Me P w K mg base CC "left" ["self","form","piece","rest"] [.none] 1 a7c) (eR:Me P w K mg base CC "right" ["self","form","piece","rest"] [] 1 a7c) (eX:Me P w K mg base CC "key_forth" ["self","key"] [] 1 b0M) (eY:Me P w K mg base CC "key_back" ["self","key"] [] 1 b0M) (eU:Me P w K mg base CC "keeps_forth" ["self"] [] 1 b0p) (eV:Me P w K mg base CC "keeps_back" ["self"] [] 1 b0p) (eW:Me P w K mg base CC "words" ["self"] [] 1 (a7o CC)) :
  a0y P w K mg base CX0 9 f fd ["_law_script"] (b4v K PF):=by
 have sc:a0o nLw ["_law_script"] (a0e (top 53)):=.k (by decide +kernel);have GC:a0y P w K mg base CX0 1 fC fdC ["_law_script","_law_k"] (b4u K):=a6k DC.fn B;have bC:=DC.fn.b2 "_law_script" "_law_k" (by intros;rfl);have GN:a0y P w K mg base CX0 1 fN fdN ["_law_cell_here","_law_many"] a9l:=b0r DN.fn B;have bN:=DN.fn.b2 "_law_cell_here" "_law_many" (by intros;rfl);have GA:a0y P w K mg base CX0 8 fA fdA ["_law_found","_law_due"] (b4z 7):=a7d DA B hz 7;have bA:=DA.fn.b2 "_law_found" "_law_due" (by intros;rfl);have GF:a0y P w K mg base CX0 1 fF fdF ["_law_size","_law_head","_law_columns","_law_sides"] b3M:=b3A DF.fn B;have bF:=DF.fn.b4 "_law_size" "_law_head" "_law_columns" "_law_sides" (by intros;rfl);have GK:a0y P w K mg base CX0 1 fK fdK ["_law_names_here"] a8x:=b1d DK.fn;have bK:=DK.fn.b1 "_law_names_here" (by intros;rfl);have GS:a0y P w K mg base CX0 1 fS fdS ["_law_names_here","_law_cell_here"] a6O:=a8M DS.fn B;have bS:=DS.fn.b2 "_law_names_here" "_law_cell_here" (by intros;rfl);have GP:a0y P w K mg base CX0 1 fP fdP ["_law_row_here","_law_chosen_here"] a4X:=a5D DP.fn B;have bP:=DP.fn.b2 "_law_row_here" "_law_chosen_here" (by intros;rfl);have GG:a0y P w K mg base CX0 3 fG fdG ["_law_script","_law_names_here","_law_chosen_here"] (a6Y K):=a8q DG.fn B DR DP DC DT;have bG:=DG.fn.b3 "_law_script" "_law_names_here" "_law_chosen_here" (by intros;rfl);have GI:a0y P w K mg base CX0 1 fI fdI ["self","side","columns"] (a8F CC):=b0b FI B T;have bI:=FI.b3 "self" "side" "columns" (by intros;rfl);refine F.ok sc (fun vs H Q E h=>?_) (fun cdv A outer s H vs Q E hr h=>?_)
 ·obtain⟨a,ns,rfl,_⟩:=h
  rfl
 ·obtain⟨a,ns,rfl,ha,h63,hPF,q⟩:=h
  have hu:=a2o hr;obtain⟨_,_,mxA,gxA,bxA⟩:=eA;obtain⟨_,_,mxZ,gxZ,bxZ⟩:=eZ;obtain⟨_,_,mxF,gxF,bxF⟩:=eF;obtain⟨_,_,mxB,gxB,bxB⟩:=eB;obtain⟨_,_,mxL,gxL,bxL⟩:=eL;obtain⟨_,_,mxR,gxR,bxR⟩:=eR;obtain⟨_,_,mxX,gxX,bxX⟩:=eX;obtain⟨_,_,mxY,gxY,bxY⟩:=eY;obtain⟨_,_,mxU,gxU,bxU⟩:=eU;obtain⟨_,_,mxV,gxV,bxV⟩:=eV;obtain⟨_,_,mxW,gxW,bxW⟩:=eW;refine⟨_,(a0d (a0w (i:=1) sc.nd rfl (Or.inl rfl) (a0j GN (hr.mono (by decide)) (by rfl) DN.mg DN.fn.kp bN .nil a0u (a0a (a0j GC (hr.mono (by decide)) (by rfl) DC.mg DC.fn.kp bC .nil a0u (a0a (pv 0) (a0a a0g a0c))) (a0a a0g a0c))))
   (a0d (a4Z (a0F (a0z a2l (a0A a1c (a0A a1w (a0j GC (hr.mono (by decide)) (by rfl) DC.mg DC.fn.kp bC .nil a0u (a0a (pv 0) (a0a a0g a0c))) a0g) a0g) a0g (a0B _)) (a0h (b1C (a0x a0r (pv 1) a0g (fun _ _=>rfl)) (b3w (pv 1) a0g b0o))) a0m))
   (a0d (a0w (i:=2) sc.nd rfl (Or.inl rfl) (a0j GS (hr.mono (by decide)) (by rfl) DS.mg DS.fn.kp bS .nil a0u (a0a (pv 1) (a0a (a0j GC (hr.mono (by decide)) (by rfl) DC.mg DC.fn.kp bC .nil a0u (a0a (pv 0) (a0a a0g a0c))) a0c))))
   (a0d (a0w (i:=3) sc.nd rfl (Or.inl rfl) (a0j GK (hr.mono (by decide)) (by rfl) DK.mg DK.fn.kp bK .nil a0u (a0a (pv 1) a0c)))
   (a0d (a0w (i:=4) sc.nd rfl (Or.inl rfl) (a0j GP (hr.mono (by decide)) (by rfl) DP.mg DP.fn.kp bP .nil a0u (a0a (pv 3) (a0a (pv 2) a0c))))
   (a0d (a0w (i:=5) sc.nd rfl (Or.inl rfl) (a0P (a0a a0M (a0a (a2u (a0Y (a0x a0r (pv 1) (a0A a8O a0g (a0A a2S a0g (a0A a1c (a0A a1w (a0j GC (hr.mono (by decide)) (by rfl) DC.mg DC.fn.kp bC .nil a0u (a0a (pv 0) (a0a a0g a0c))) a0g) a0g))) (fun _ _=>rfl)) (a0P (a0a a0M a0c)) a2z) rfl rfl (by simp) (by decide)) a0c))))
   (a0d (a0w (i:=6) sc.nd rfl (Or.inl rfl) (a0j GF (hr.mono (by decide)) (by rfl) DF.mg DF.fn.kp bF .nil a0u (a0a a0g (a0a (a0x a0r (pv 1) a0g (fun _ _=>rfl)) (a0a (pv 3) (a0a (a2u (a0Y (a0x a0r (pv 1) a0g (fun _ _=>rfl)) (pv 5) a2z) rfl rfl (by simp) (by decide)) a0c))))))
   (a0d (a0w (i:=7) sc.nd rfl (Or.inl rfl) (a0j GF (hr.mono (by decide)) (by rfl) DF.mg DF.fn.kp bF .nil a0u (a0a a0g (a0a (a0x a0r (pv 1) a0g (fun _ _=>rfl)) (a0a (a0x a0r (pv 4) a0g (fun _ _=>rfl)) (a0a (a2u (a0Y (a0x a0r (pv 1) a0g (fun _ _=>rfl)) (pv 5) (a0Y (a0x a0r (pv 1) a0g (fun _ _=>rfl)) (a0P (a0a a0M (a0a (a0x a0r (pv 4) a0g (fun _ _=>rfl)) a0c))) a2z)) rfl rfl (by simp) (by decide)) a0c))))))
   (a0d (a0w (i:=8) sc.nd rfl (Or.inl rfl) (a0I a3h (by rfl) B.list boot_list (a0a (pv 2) a0c)))
   (a0d (a0w (i:=9) sc.nd rfl (Or.inl rfl) (b2R MK GI (hr.mono (by decide)) (by rfl) mC bI .nil a0u (a0a (a0x a0r (pv 1) a0g (fun _ _=>rfl)) (a0a (pv 8) a0c))))
   (a0d (a0U (a5l PySem.F.plainAttrs_list PySem.F.slot_list_clear PySem.F.type_list_clear b0D (pv 8)))
   (a0d (a0F (PW.pt (a2F (a1k (a0D (a0j GA (hr.mono (by decide)) (by rfl) DA.mg DA.fn.kp bA .nil a0u (a0a (a2w (pv 9) T.cl mxA gxA (hr.mono (by decide)) bxA .nil a0u (a0a (pv 6) a0c)) (a0a (pv 7) a0c))))) (a1Q (a1k (a0D (a0j GA (hr.mono (by decide)) (by rfl) DA.mg DA.fn.kp bA .nil a0u (a0a (a2w (pv 9) T.cl mxZ gxZ (hr.mono (by decide)) bxZ .nil a0u (a0a (pv 7) a0c)) (a0a (pv 6) a0c)))))))) a0l a0m)
   (a0d (a0w (i:=10) sc.nd rfl (Or.inl rfl) (a0j GG (hr.mono (by decide)) (by rfl) DG.mg DG.fn.kp bG .nil a0u (a0a (pv 0) (a0a (pv 1) (a0a (pv 2) a0c)))))
   (a0d (a0w (i:=11) sc.nd rfl (Or.inl rfl) (a0j GG (hr.mono (by decide)) (by rfl) DG.mg DG.fn.kp bG .nil a0u (a0a (pv 0) (a0a (pv 1) (a0a (pv 2) a0c)))))
   (a0d (a0w (i:=12) sc.nd rfl (Or.inl rfl) (a2w (pv 9) T.cl mxF gxF (hr.mono (by decide)) bxF .nil a0u (a0a (pv 6) (a0a (a0x a0r (pv 10) a0g (fun _ _=>rfl)) (a0a a1r a0c)))))
   (a0d (a0w (i:=13) sc.nd rfl (Or.inl rfl) (a2w (pv 9) T.cl mxB gxB (hr.mono (by decide)) bxB .nil a0u (a0a (pv 7) (a0a (a0x a0r (pv 10) a0g (fun _ _=>rfl)) (a0a a1r a0c)))))
   (a0d (a0F (a1k (a0D (a0j GA (hr.mono (by decide)) (by rfl) DA.mg DA.fn.kp bA .nil a0u (a0a (pv 10) (a0a (pv 11) a0c))))) a0l a0m)
   (a0d (a1A PassesOwn.never rfl (a1D (pv 10)) (a0q (i:=14) sc.nd rfl (Or.inl rfl)) (a0h (a5F (a1A PassesOwn.never rfl (a6g (pv 14)) (a0q (i:=15) sc.nd rfl (Or.inl rfl)) (a0h (a1A PassesOwn.never rfl (a1D (a2a hu (pv 14) (pv 15) (fun _ _=>rfl))) (a0q (i:=16) sc.nd rfl (Or.inl rfl)) (a0h (a0U (a5l PySem.F.plainAttrs_dict PySem.F.slot_dict_clear PySem.F.type_dict_clear a9B (pv 16))))))))))
   (a0d (a0F (PW.pt (a2F (a1k (a0D (a0j GA (hr.mono (by decide)) (by rfl) DA.mg DA.fn.kp bA .nil a0u (a0a (pv 12) (a0a (a0P (a0a (a0x a0r (pv 11) a0g (fun _ _=>rfl)) (a0a a1r a0c))) a0c))))) (a1Q (a1k (a0D (a0j GA (hr.mono (by decide)) (by rfl) DA.mg DA.fn.kp bA .nil a0u (a0a (pv 13) (a0a (a0P (a0a (a0x a0r (pv 11) a0g (fun _ _=>rfl)) (a0a a1r a0c))) a0c)))))))) a0l a0m)
   (a0d (a0F (PW.pt (a2F (a0z a9L (a2w (pv 9) T.cl mxL gxL (hr.mono (by decide)) bxL (show a0V [V.non] [Value.none] from .cons rfl .nil) a0u (a0a (pv 6) (a0a (a0x a0r (pv 11) a0g (fun _ _=>rfl)) a0c))) a1r (a0B _)) (a1Q (a0z a9L (a2w (pv 9) T.cl mxR gxR (hr.mono (by decide)) bxR .nil a0u (a0a (pv 7) (a0a (a0x a0r (pv 11) a0g (fun _ _=>rfl)) (a0a a1r a0c)))) a1r (a0B _))))) a0l a0m)
   (a0d (a0F (a1k (a0D (a0j GA (hr.mono (by decide)) (by rfl) DA.mg DA.fn.kp bA .nil a0u (a0a (a0P (a0a (a2w (pv 9) T.cl mxX gxX (hr.mono (by decide)) bxX .nil a0u (a0a a0g a0c)) (a0a (a2w (pv 9) T.cl mxY gxY (hr.mono (by decide)) bxY .nil a0u (a0a a0g a0c)) a0c))) (a0a (a0P (a0a a0g (a0a a0g a0c))) a0c))))) a0l a0m)
   (a0d (a0F (a1k (a0D (a0j GA (hr.mono (by decide)) (by rfl) DA.mg DA.fn.kp bA .nil a0u (a0a (a0P (a0a (a3v (pv 9) T.cl mxU gxU (hr.mono (by decide)) bxU .nil a0u) (a0a (a3v (pv 9) T.cl mxV gxV (hr.mono (by decide)) bxV .nil a0u) a0c))) (a0a (a0P (a0a a3m (a0a a3m a0c))) a0c))))) a0l a0m)
   (a0h (a0s (a0j GA (hr.mono (by decide)) (by rfl) DA.mg DA.fn.kp bA .nil a0u (a0a (a3v (pv 9) T.cl mxW gxW (hr.mono (by decide)) bxW .nil a0u) (a0a (a0P (a0a a0M (a0a (a0x a0r (pv 1) a0g (fun _ _=>rfl)) (a0a (a0I a1t (by rfl) B.tuple boot_tuple (a0a (a0i a3I (by rfl) B.sorted boot_sorted (a0a (pv 2) a0c)) a0c)) a0c)))) a0c))))))))))))))))))))))))))),?_⟩
  refine⟨_,rfl,a,ns,0,rfl,ha,by decide,by decide,h63,fun H1 s1=>⟨_,9,rfl,by decide,by decide,fun nl zn H2 s2 nl0 hnl0 zl znd zok=>?_⟩⟩
  replace s2:=s1.trans s2
  replace nl0:=a0G s1 nl0
  obtain⟨nm0,inj0,ok0,e0⟩:=b5r (by omega) znd zok;rw[e0] at hnl0;clear e0 zl znd zok;refine⟨fun σ' H'=>σ'=[some (.ref a),some (.ref nl),none,none,none,none,none,none,none,none,none,none,none,none,none,none,none]/\∃nm,Nm8 nm/\H' nl=some (.lst (nmL nm))/\a0k H H',?_,?_⟩
  ·refine⟨_,rfl,a,ns,0,rfl,s2.seq ha,by decide,by decide,h63,fun H3 s3=>⟨_,_,rfl,rfl,⟨by decide,by decide⟩,_,_,rfl,rfl,pos rfl,rfl,_,rfl,b0S (fun _=>?_) (fun _=>?_)⟩⟩
   ·refine⟨_,rfl,nl,_,4,_,rfl,rfl,SqL.of (s3 _ _ hnl0),a1L nm0 (i:=4) (by decide),_,rfl,nl,_,1,1,rfl,rfl,s3 _ _ hnl0,rfl,?_⟩
    have ne:∀i j,i<9->j<9->i≠j->nm0 i≠nm0 j:=fun i j hi hj n e=>n (inj0 i j hi hj e);refine⟨rfl,(fun i=>if i=1 then nm0 4 else nm0 i),⟨fun i j hi hj i1 j1 e=>?_,ne 4 0 (by decide) (by decide) (by decide),ne 4 7 (by decide) (by decide) (by decide),fun i hi=>?_⟩,a0b,(s2.trans s3).put nl0⟩
    ·have e:(if i=1 then nm0 4 else nm0 i)=(if j=1 then nm0 4 else nm0 j):=e
     rw[if_neg i1,if_neg j1] at e;exact inj0 i j hi hj e
    ·show a1C (if i=1 then nm0 4 else nm0 i)=true
     split
     ·exact ok0 4 (by decide)
     ·exact ok0 i hi
   ·exact⟨rfl,nm0,⟨fun i j hi hj _ _ e=>inj0 i j hi hj e,fun e=>absurd (inj0 1 0 (by decide) (by decide) e) (by decide),fun e=>absurd (inj0 1 7 (by decide) (by decide) e) (by decide),ok0⟩,s3 _ _ hnl0,s2.trans s3⟩
  clear hnl0 inj0 ok0 s2;rintro σ3 H3 ⟨rfl,nm,N,hnl,s3⟩;refine⟨_,rfl,_,rfl,a,ns,1,rfl,s3.seq ha,by decide,by decide,h63,fun H4 s4=>⟨nl,nm,_,rfl,s4 _ _ hnl,N,fun l cs H5 s5 _ hl cnd csub c5=>?_⟩⟩;have T5:=s4.trans s5;refine⟨_,rfl,nl,nm,rfl,T5 _ _ hnl,N,fun kd c H6 s6 _ ekd cnm ck=>?_⟩;have cN:(c.map (·.1)).Nodup:=by rw[cnm];exact a1B N
  have c5':c.length=5:=by have:=congrArg List.length cnm;rwa [lM0] at this
  have csub':∀z∈cs,z∈c.map (·.1):=fun z hz=>by rw[cnm];exact csub z hz
  refine⟨_,rfl,_,rfl,kd,l,c,cs,rfl,ekd,s6 _ _ hl,cN,by omega,by omega,fun pt x y H7 s7 ept _ _ _ _ ex ey=>?_⟩;have s37:=T5.trans (s6.trans s7);intro bd hbd;have U0:=a0k.upd (o:=.dK []) hbd;have p0:=a0b (H:=H7) (a:=bd) (o:=.dK []);generalize upd H7 bd (.dK [])=G0 at *;refine⟨_,rfl,_,rfl,a,ns,8,rfl,(s3.trans (s37.trans U0)).seq ha,by decide,by decide,h63,fun G1 t1=>⟨_,_,rfl,rfl,⟨by decide,by decide⟩,_,_,rfl,rfl,pos rfl,_,_,rfl,rfl,.inl ⟨by decide,by decide⟩,_,_,rfl,rfl,nl,_,_,_,rfl,rfl,SqL.of ((s37.trans (U0.trans t1)) _ _ hnl),b3B ns nm,(by show 1<=sizeLine;decide),fun wd hwd=>?_⟩⟩;have T2:=a0k.upd (o:=.tup [V.str "whole"]) hwd;have ew:=a0b (H:=G1) (a:=wd) (o:=.tup [V.str "whole"]);generalize upd G1 wd (.tup [V.str "whole"])=G2 at *;refine⟨T2 _ _ (t1 _ _ p0),[(.inr (nX ns nm),.ref wd)],rfl,(by show 1<=15;decide),(by show 2<=sizeLine;decide),fun be hbe=>?_⟩;have p2:=T2 _ _ (t1 _ _ p0);have S7:a0k H7 (upd G2 bd (.dK (a1n [] [((.inr (nX ns nm):Key),V.ref wd)]))):=(U0.trans (t1.trans T2)).put hbd;have eb:(upd G2 bd (.dK (a1n [] [((.inr (nX ns nm):Key),V.ref wd)]))) bd=some (.dK (kvC [(nX ns nm,V.ref wd)])):=a0b;have ew':(upd G2 bd (.dK (a1n [] [((.inr (nX ns nm):Key),V.ref wd)]))) wd=some (.tup [V.str "whole"]):=(a0f fun z=>by rw[z,p2] at ew;cases ew).trans ew;generalize upd G2 bd (.dK (a1n [] [((.inr (nX ns nm):Key),V.ref wd)]))=G3 at *;have T3:=a0k.upd (o:=.tup [V.str "many",.ref bd]) hbe;have ebe:=a0b (H:=G3) (a:=be) (o:=.tup [V.str "many",.ref bd]);generalize upd G3 be (.tup [V.str "many",.ref bd])=H8 at *;have s78:=S7.trans T3;have eb8:=T3 _ _ eb;have ew8:=T3 _ _ ew';have hnl8:=s78 _ _ (s37 _ _ hnl);clear S7 T3 eb ew' ew p2 p0;refine⟨_,rfl,nl,_,0,_,rfl,rfl,SqL.of hnl8,a1L nm (i:=0) (by decide),_,rfl,?_⟩;intro sd hsd;have U1:=a0k.upd (o:=.dK []) hsd;have p1:=a0b (H:=H8) (a:=sd) (o:=.dK []);generalize upd H8 sd (.dK [])=G4 at *;refine⟨_,rfl,nl,_,7,_,rfl,rfl,SqL.of (U1 _ _ hnl8),a1L nm (i:=7) (by decide),_,rfl,p1,[((.inr (nm 7)),V.ref be)],rfl,(by show 1<=15;decide),?_⟩;have S8:a0k H8 (upd G4 sd (.dK (a1n [] [((.inr (nm 7):Key),V.ref be)]))):=U1.put hsd;have esd:(upd G4 sd (.dK (a1n [] [((.inr (nm 7):Key),V.ref be)]))) sd=some (.dK [((.inr (nm 7):Key),V.ref be)]):=a0b;generalize upd G4 sd (.dK (a1n [] [((.inr (nm 7):Key),V.ref be)]))=H9 at *;have tbB:∀{G:Hp},a0k H8 G->TbD G bd [(nX ns nm,V.ref wd)]:=fun s=>⟨s _ _ eb8,List.nodup_cons.mpr ⟨List.not_mem_nil,List.nodup_nil⟩,(by show 1<=12;decide)⟩;refine⟨7,nm 0,kd,sd,c,[⟨nm 7,"many",be,bd,[(nX ns nm,V.ref wd)]⟩],rfl,⟨(s7.trans (s78.trans S8)) _ _ ekd,cN,by omega⟩,esd,List.nodup_cons.mpr ⟨List.not_mem_nil,List.nodup_nil⟩,(by show 1<=7;decide),(fun z hz=>by rw[mS0.mp hz];exact⟨S8 _ _ ebe,tbB S8⟩),fun old Uo H10 s10 fo po ro=>?_⟩;have s810:=S8.trans s10;have hnl10:=s810 _ _ hnl8;have s710:=s78.trans s810;clear esd p1 U1;refine⟨_,rfl,nl,_,0,_,rfl,rfl,SqL.of hnl10,a1L nm (i:=0) (by decide),_,rfl,pt,_,0,_,rfl,rfl,SqL.of (s710 _ _ ept),a1b (j:=0) rfl,?_⟩;intro sn hsn;have U2:=a0k.upd (o:=.dK []) hsn;have p2:=a0b (H:=H10) (a:=sn) (o:=.dK []);generalize upd H10 sn (.dK [])=G5 at *;refine⟨_,rfl,nl,_,7,_,rfl,rfl,SqL.of (U2 _ _ hnl10),a1L nm (i:=7) (by decide),_,rfl,_,rfl,nl,_,1,_,rfl,rfl,SqL.of (U2 _ _ hnl10),a1L nm (i:=1) (by decide),_,rfl,pt,_,1,_,rfl,rfl,SqL.of (U2 _ _ (s710 _ _ ept)),a1b (j:=1) rfl,(by show 2<=sizeLine;decide),fun tw htw=>?_⟩;have T6:=a0k.upd (o:=.tup [V.str "twin",.ref y]) htw;have etw:=a0b (H:=G5) (a:=tw) (o:=.tup [V.str "twin",.ref y]);generalize upd G5 tw (.tup [V.str "twin",.ref y])=G6 at *;refine⟨T6 _ _ p2,[((.inr (nm 7)),V.ref be),(.inr (nm 1),.ref tw)],rfl,(by show 2<=15;decide),?_⟩;rw[a8p N.n17.symm];have p6:=T6 _ _ p2;have S10:a0k H10 (upd G6 sn (.dK [((.inr (nm 7):Key),V.ref be),(.inr (nm 1),.ref tw)])):=(U2.trans T6).put hsn;have esn:(upd G6 sn (.dK [((.inr (nm 7):Key),V.ref be),(.inr (nm 1),.ref tw)])) sn=some (.dK [((.inr (nm 7):Key),V.ref be),(.inr (nm 1),.ref tw)]):=a0b;have etw':(upd G6 sn (.dK [((.inr (nm 7):Key),V.ref be),(.inr (nm 1),.ref tw)])) tw=some (.tup [V.str "twin",.ref y]):=(a0f fun z=>by rw[z,p6] at etw;cases etw).trans etw;generalize upd G6 sn (.dK [((.inr (nm 7):Key),V.ref be),(.inr (nm 1),.ref tw)])=H11 at *;have s711:=s710.trans S10;have s811:=s810.trans S10;have lL:=b3S (cs:=cs) (r:=c);have lR:=b4n (cs:=cs) (r:=c);have n7nd:([nm 7,nm 1]:List Str).Nodup:=by simp[N.n17.symm]
  refine⟨7,nm 0,x,sn,lf c cs,[⟨nm 7,"many",be,bd,[(nX ns nm,V.ref wd)]⟩,⟨nm 1,"twin",tw,y,rf c cs⟩],rfl,⟨s711 _ _ ex,b0q cN,by omega⟩,esn,n7nd,(by show 2<=7;decide),(fun z hz=>?_),fun new Un H12 s12 fn pn rn=>?_⟩
  ·rcases mK0.mp hz with rfl |hz
   ·exact⟨s811 _ _ ebe,tbB s811⟩
   ·rw[mS0.mp hz]
    exact⟨etw',s711 _ _ ey,a6o cN,(by show(rf c cs).length<=12;omega)⟩
  have s712:=s711.trans s12;have s1012:=S10.trans s12;clear esn etw' etw p6 p2 U2 T6 hbe hsd hsn htw hwd hbd;have okN5:∀z∈c,a1C z.1=true:=fun z hz=>by
   have hz1:z.1∈a9T nm:=by rw[<-cnm];exact mM0.mpr ⟨z,hz,rfl⟩
   unfold a9T at hz1;simp only[mK0,List.not_mem_nil,or_false] at hz1;rcases hz1 with h |h |h |h |h<;>rw[h]<;>exact N.ok _ (by decide)
  have okC:a0L H12 c:=⟨cN,by omega,fun z hz=>⟨okN5 z hz,(ck z hz).same (s7.trans s712)⟩⟩;have okB:a0L H12 [(nX ns nm,V.ref wd)]:=⟨List.nodup_cons.mpr ⟨List.not_mem_nil,List.nodup_nil⟩,(by show 1<=12;decide),fun z hz=>by
   rw[mS0.mp hz];have h0:=Int.emod_nonneg (cel ns 8/4) (show(2:Int)≠0 by decide);have h1:=Int.emod_lt_of_pos (cel ns 8/4) (show(0:Int)<2 by decide);exact⟨N.ok _ (by omega),_,b4y ((s811.trans s12) _ _ ew8) (by decide +kernel),by decide +kernel,by decide +kernel⟩⟩
  have okL:a0L H12 (lf c cs):=okC.sub (b0q cN) (by omega) fun z hz=>a8E hz;have okR:a0L H12 (rf c cs):=okC.sub (a6o cN) (by omega) fun z hz=>a5f hz;have fkO:FK H12 old 7 ⟨nm 0,"head",c⟩ [⟨nm 7,"many",[(nX ns nm,V.ref wd)]⟩]:=⟨FAt.of (fo.same s1012) rfl po (.refl _) ro,⟨(by show 1<=7;decide),a7a N,(fun U hU=>by
   simp only[mK0,List.not_mem_nil,or_false] at hU;rcases hU with rfl |rfl
   ·exact N.ok 0 (by decide)
   ·exact N.ok 7 (by decide)),rfl,fun U hU=>by rw[mS0.mp hU];exact(by decide +kernel:("many":Str)∈a3Y)⟩,(fun U hU=>by
   simp only[mK0,List.not_mem_nil,or_false] at hU;rcases hU with rfl |rfl
   ·exact okC
   ·exact okB),by decide⟩
  have nN3:([nm 0,nm 7,nm 1]:List Str).Nodup:=by simp[N.ne (i:=0) (j:=7),N.n10.symm,N.n17.symm]
  have fkN:FK H12 new 7 ⟨nm 0,"head",lf c cs⟩ [⟨nm 7,"many",[(nX ns nm,V.ref wd)]⟩,⟨nm 1,"twin",rf c cs⟩]:=⟨FAt.of fn rfl pn (.refl _) rn,⟨(by show 2<=7;decide),nN3,(fun U hU=>by
   simp only[mK0,List.not_mem_nil,or_false] at hU;rcases hU with rfl |rfl |rfl
   ·exact N.ok 0 (by decide)
   ·exact N.ok 7 (by decide)
   ·exact N.ok 1 (by decide)),rfl,fun U hU=>by
   simp only[mK0,List.not_mem_nil,or_false] at hU;rcases hU with rfl |rfl
   ·exact(by decide +kernel:("many":Str)∈a3Y)
   ·exact(by decide +kernel:("twin":Str)∈a3Y)⟩,(fun U hU=>by
   simp only[mK0,List.not_mem_nil,or_false] at hU;rcases hU with rfl |rfl |rfl
   ·exact okL
   ·exact okB
   ·exact okR),by decide⟩
  have fo12:=fo.same s1012;have hnl12:=s1012 _ _ hnl10;have hl12:=(s6.trans (s7.trans s712)) _ _ hl;have ha12:SqL K H12 a (ns.map V.int):=(s3.trans (s37.trans s712)).seq ha;have tb12:H12 PF=some (.tbl #[]):=(s3.trans (s37.trans s712)) _ _ hPF;clear fo po ro pn rn hnl10 eb8 ew8 hnl8 ebe ekd ck ept ex ey okL okR s1012 s712 s711 s710 s811 s810 s78 s37 S10 S8 s12 s10 s7 s6 s5 s4 T5 s3 s1 hnl ha hPF hl;refine⟨_,rfl,l,_,rfl,.inl (SqL.of hl12),fun tl htl=>?_⟩;have T13:=a0k.upd (o:=.lst (cs.map V.str)) htl;have e13:=a0b (H:=H12) (a:=tl) (o:=.lst (cs.map V.str));generalize upd H12 tl (.lst (cs.map V.str))=H13 at *;refine⟨_,rfl,nl,_,1,_,rfl,rfl,SqL.of (T13 _ _ hnl12),a1L nm (i:=1) (by decide),_,rfl,fun mv dx n1 n2 ndx=>?_⟩;have mtl:tl≠mv:=fun z=>by rw[z,n1] at e13;cases e13
  have dtl:tl≠dx:=fun z=>by rw[z,n2] at e13;cases e13
  refine⟨mv,dx,tl,nm 1,cs,rfl,a0b,(a0f mtl).trans ((a0f dtl).trans e13),(by omega),fun t zs H14 pz so kp14 em et=>⟨rfl,?_⟩⟩;have s14:a0k H13 H14:=fun b o e=>by
   have b1:b≠mv:=fun z=>by rw[z,n1] at e;cases e
   have b2:b≠dx:=fun z=>by rw[z,n2] at e;cases e
   exact kp14 b o b1 ((a0f b1).trans ((a0f b2).trans e))
  refine⟨_,rfl,.inl ⟨rfl,_,SqL.of (s14 _ _ e13)⟩,tl,_,rfl,rfl,s14 _ _ e13,?_⟩;have ttl:t≠tl:=fun z=>by rw[z,s14 _ _ e13] at et;cases et
  have s15:a0k H12 (upd H14 tl (.lst [])):=(T13.trans s14).put htl;have cv:CvA CC (upd H14 tl (.lst [])) mv (nm 1) t zs:=⟨⟨dx,(a0f mtl.symm).trans em⟩,(a0f ttl).trans et⟩;generalize upd H14 tl (.lst [])=H15 at *;clear T13 e13 n1 n2 ndx mtl dtl kp14 em et s14 ttl htl;obtain⟨dx',emv⟩:=cv.ex;have znd:zs.Nodup:=pz.nodup_iff.mpr cnd;have zl:zs.length=cs.length:=pz.length_eq;have zsub:∀z∈zs,z∈c.map (·.1):=fun z hz=>csub' z (pz.mem_iff.mp hz);have rfp:=a3x cN cnd csub';have nin:nm 1∉([nm 0,nm 7]:List Str):=by simp[N.n10,N.n17]
  refine⟨_,rfl,mv,dx',_,rfl,emv,a1M _ _ (by decide +kernel) (by decide +kernel),_,rfl,mv,old,t,nm 1,zs,7,_,_,rfl,cv,fkO.sb s15.sb,.inl (s15 _ _ tb12),N.ok 1 (by decide),nin,(by show 1<=5;decide),znd,by omega,zsub,fun f1 H16 sb16 _ tb16 fa16=>?_⟩;have fkN16:=(fkN.sb s15.sb).sb sb16;have fkO16:=(fkO.sb s15.sb).sb sb16;refine⟨_,rfl,_,_,rfl,b1r fa16 fkN16.at_ (by unfold cn;rw[a8t pz]) (by show List.Perm [_,_] [_,_];unfold cn;rw[b0g cN cnd pz csub']) n7nd fkN16.co,fun H17 s17=>⟨_,rfl,a1W ?_⟩⟩;have sb17:=(s15.sb.trans sb16).trans s17.sb;have cv17:=(cv.sb sb16).same s17;refine⟨_,rfl,mv,dx',_,rfl,s17 _ _ (sb16 _ _ rfl emv),a1M _ _ (by decide +kernel) (by decide +kernel),_,rfl,mv,new,t,nm 1,zs,7,⟨nm 0,"head",lf c cs⟩,⟨nm 1,"twin",rf c cs⟩,_,rfl,cv17,fkN16.sb s17.sb,tb16.same s17,.tail _ (.head _),rfl,rfl,pz.trans rfp.symm,so,(by show(lf c cs).length+_<=12;omega),(fun z hz hm=>?_),fun f2 H18 sb18 _ _ fa18=>?_⟩
  ·obtain⟨w,hw,rfl⟩:=mM0.mp hm
   exact of_decide_eq_true (mF0.mp hw).2 (pz.mem_iff.mp hz)
  have fkO18:=(fkO16.sb s17.sb).sb sb18;have flt1:([⟨nm 7,"many",[(nX ns nm,V.ref wd)]⟩,⟨nm 1,"twin",rf c cs⟩]:List Tb).filter (nz (nm 1))=[⟨nm 7,"many",[(nX ns nm,V.ref wd)]⟩]:=by
   rw[List.filter_cons_of_pos (p:=nz (nm 1)) (show nz (nm 1) _=true from dT0 N.n17.symm),List.filter_cons_of_neg (p:=nz (nm 1)) (by unfold nz;simp),List.filter_nil]
  rw[flt1] at fa18;refine⟨_,rfl,_,_,rfl,b1r fa18 fkO18.at_ (by unfold cn;rw[show cnC (lf c cs++rf c cs)=cnC c from b5f cN cs]) (.refl _) (List.nodup_cons.mpr ⟨List.not_mem_nil,List.nodup_nil⟩) fkO18.co,fun H19 s19=>⟨_,rfl,a1W ?_⟩⟩;have sbA:=(sb17.trans sb18).trans s19.sb;have cv19:=(cv17.sb sb18).same s19;have ha19:=SqL.sb35 ha12 sbA;have hnl19:=sbA _ _ rfl hnl12;have hl19:=sbA _ _ rfl hl12;have fo19:=fo12.sb sbA;have fn19:=fn.sb sbA;clear ha12 hnl12 hl12 fo12 fn fkN16 fkO16 fkO18 fkO fkN tb12 cv cv17 emv sb17 sb18 sb16 s17 s19 tb16 fa16 fa18 s15 sbA okC okB flt1;refine⟨_,rfl,_,rfl,_,rfl,a,nl,l,ns,nm,cs,rfl,ha19,h63,hnl19,N,hl19,by omega,fun hd h0 h1 ta H20 s20 hd0 ehd ta0 eta ph0 ph1=>?_⟩;refine⟨_,rfl,_,rfl,_,rfl,a,nl,l,ns,nm,cs,rfl,s20.seq ha19,h63,s20 _ _ hnl19,N,s20 _ _ hl19,by omega,fun du d0 d1 tb H21 s21 du0 edu tb0 etb pd0 pd1=>?_⟩;have s1921:=s20.trans s21;obtain⟨dx',emv⟩:=cv19.ex;have zsub5:∀z∈zs,z∈a9T nm:=fun z hz=>csub z (pz.mem_iff.mp hz);refine⟨_,rfl,mv,dx',_,rfl,s1921 _ _ emv,a1M _ _ (by decide +kernel) (by decide +kernel),_,rfl,_,rfl,hd,_,0,_,rfl,rfl,SqL.of (s21 _ _ ehd),a1b (j:=0) rfl,mv,old,h0,t,nm 1,nm 7,zs,7,_,_,rwE ns nm ta,mnE ns nm,rfl,cv19.same s1921,fo19.same s1921,(ph0.same a0p).same s21,okO N (s21 _ _ eta),N.n10,N.n17,znd,by omega,zsub5,fun q1 p1 H22 s22 pf1 eq1=>?_⟩;have s1922:=s1921.trans s22;have lrn:((lf (rwE ns nm ta) cs++rf (rwE ns nm ta) cs).map (·.1)).Nodup:=((a6z (rwE ns nm ta) cs).map _).nodup_iff.mpr (a1B N);refine⟨_,rfl,mv,dx',_,rfl,s1922 _ _ emv,a1M _ _ (by decide +kernel) (by decide +kernel),_,rfl,_,rfl,hd,_,1,_,rfl,rfl,SqL.of (s22 _ _ (s21 _ _ ehd)),a1b (j:=1) rfl,mv,new,h1,t,nm 1,nm 7,zs,7,_,_,lf (rwE ns nm ta) cs,rf (rwE ns nm ta) cs,mnE ns nm,rfl,cv19.same s1922,fn19.same s1922,((ph1.same a0p).same s21).same s22,okN N (s22 _ _ (s21 _ _ eta)),lrn,fun q2 p2 H23 s23 pf2 eq2=>?_⟩;have s2023:=s21.trans (s22.trans s23);have s2123:=s22.trans s23;have ta23:=s2023 _ _ eta;have tb23:=s2123 _ _ etb;refine⟨_,rfl,_,rfl,_,_,rfl,?_,fun H24 s24=>⟨_,rfl,a1W ?_⟩⟩
  ·refine(Lq.up (Lq.up (.lst (s2023 _ _ ehd) (s2123 _ _ edu) rfl fun i z w hz hw=>?_)))
   match i,hz,hw with
   |0,hz,hw=>
    cases hz;cases hw;exact b0z (b3j N (b5G N ta23 tb23)) ((ph0.same a0p).same s2023) ((pd0.same a0p).same s2123)
   |1,hz,hw=>
    cases hz;cases hw;exact b0z (b4O N (b5N N ta23 tb23) (q_rf N ta23 tb23)) ((ph1.same a0p).same s2023) ((pd1.same a0p).same s2123)
  have okh0:=okO (ns:=ns) N eta;have okh1:=okN (ns:=ns) (cs:=cs) N eta;obtain⟨R0,r0a,ls0,l0a,l0b,l0c⟩:=a9o ph0 okh0 a0p;obtain⟨R1,r1a,ls1,l1a,l1b,l1c⟩:=a9o ph1 okh1 a0p;have rA:∀r∈R0++R1,∃row,b1m H20 row/\cut H19 H20 r=some (.dK (rK row)):=fun r hr=>(mB0.mp hr).elim (r0a r) (r1a r);have rN:∀r∈R0++R1,H19 r=none:=fun r hr=>let ⟨_,_,e⟩:=rA r hr;a1K e
  have rS:∀{G:Hp},a0k H20 G->∀r∈R0++R1,∃o,G r=some o:=fun s r hr=>let ⟨_,_,e⟩:=rA r hr;⟨_,s _ _ (a0p _ _ e)⟩
  have s2024:=s2023.trans s24;have nR:∀{b:Addr} {o:HO},(∀kv,o≠.dK kv)->H20 b=some o->b∉R0++R1:=fun {b o} ho e hb=>by
   obtain⟨row,_,e2⟩:=rA b hb
   have:=a0p _ _ e2
   rw[e] at this
   injection this with this
   exact ho _ this
  have pL0:PcL (R0++R1) (kp (R0++R1) H24) h0:=by
   match ls0,l0b with
   |[x0,x1],_=>
   obtain⟨_,rs,e,_⟩:=l0c x0 (.head _);have hn:h0∉R0++R1:=fun hb=>by
    obtain⟨row,okr,e2⟩:=rA h0 hb;exact b1h (a0p _ _ l0a) (a0p _ _ e) okr (a0p _ _ e2) rfl
   refine⟨_,_,a4v hn (s2024 _ _ (a0p _ _ l0a)),a7a N,rfl,(by show 2<=8;decide),hn,fun l hl=>?_⟩;obtain⟨nl',rs,e,hrs⟩:=l0c l hl;exact⟨nl',rs,a4v (nR (fun _ h=>by cases h) (a0p _ _ e)) (s2024 _ _ (a0p _ _ e)),fun r hr=>List.mem_append_left _ (hrs r hr)⟩
  have pL1:PcL (R0++R1) (kp (R0++R1) H24) h1:=by
   match ls1,l1b with
   |[x0,x1,x2],_=>
   obtain⟨_,rs,e,_⟩:=l1c x0 (.head _);have hn:h1∉R0++R1:=fun hb=>by
    obtain⟨row,okr,e2⟩:=rA h1 hb;exact b1h (a0p _ _ l1a) (a0p _ _ e) okr (a0p _ _ e2) rfl
   refine⟨_,_,a4v hn (s2024 _ _ (a0p _ _ l1a)),a7z N,rfl,(by show 3<=8;decide),hn,fun l hl=>?_⟩;obtain⟨nl',rs,e,hrs⟩:=l1c l hl;exact⟨nl',rs,a4v (nR (fun _ h=>by cases h) (a0p _ _ e)) (s2024 _ _ (a0p _ _ e)),fun r hr=>List.mem_append_right _ (hrs r hr)⟩
  have ehd24:kp (R0++R1) H24 hd=some (.lst [V.ref h0,.ref h1]):=a4v (nR (fun _ h=>by cases h) ehd) (s2024 _ _ ehd);have rD:∀r∈R0++R1,∃kv:List (Key×V),H24 r=some (.dK kv):=fun r hr=>let ⟨_,_,e⟩:=rA r hr;⟨_,s2024 _ _ (a0p _ _ e)⟩
  have y19:a0k H19 (kp (R0++R1) H24):=b3V rN ((s20.trans s2023).trans s24);have ta24:kp (R0++R1) H24 ta=some (.tup (txE ns)):=a4v (nR (fun _ h=>by cases h) eta) (s2024 _ _ eta);have c2021:a0k (cut H20 H21) (kp (R0++R1) H24):=fun b o e=>a8u (rS (a0k.refl _)) b o (a6X (s2123.trans s24) b o e);have tb24:kp (R0++R1) H24 tb=some (.tup (txE ns)):=c2021 _ _ (a0Q tb0 etb);have du24:kp (R0++R1) H24 du=some (.lst [V.ref d0,.ref d1]):=c2021 _ _ (a0Q du0 edu);have pd0':=pd0.same c2021;have pd1':=pd1.same c2021;have pf1':a3u (kp (R0++R1) H24) p1 _:=pf1.same fun b o e=>a8u (rS s21) b o (a6X (s23.trans s24) b o e);have pf2':a3u (kp (R0++R1) H24) p2 _:=pf2.same fun b o e=>a8u (rS (s21.trans s22)) b o (a6X s24 b o e);have tq:∀{b:Addr} {xs:List V},H24 b=some (.tup xs)->kp (R0++R1) H24 b=some (.tup xs):=fun {b xs} e=>a4v (fun hb=>by obtain⟨kv,h⟩:=rD b hb;rw[e] at h;cases h) e;have eq1':=tq (s24 _ _ (s23 _ _ eq1));have eq2':=tq (s24 _ _ eq2);have emv':=y19 _ _ emv;have cv':=cv19.same y19;have hnl':=y19 _ _ hnl19;have hl':=y19 _ _ hl19;have k24:a0k (kp (R0++R1) H24) H24:=b5n;have kin:∀r∈R0++R1,kp (R0++R1) H24 r=none:=fun r hr=>b5z hr;generalize kp (R0++R1) H24=Y at *;generalize R0++R1=R at *;clear ph0 ph1 pd0 pd1 pf1 pf2 okh0 okh1 r0a r1a l0a l0b l0c l1a l1b l1c rA rN rS nR s2024 s2023 s2123 s24 s23 s22 s21 s20 s1921 s1922 ehd edu eta etb eq1 eq2 ta23 tb23 y19 c2021 tq emv cv19 ha19 hnl19 hl19 fo19 fn19;refine⟨_,rfl,hd,rfl,⟨_,SqL.of (k24 _ _ ehd24)⟩,?_⟩;refine a2C (K:=K) (xs:=[V.ref h0,.ref h1]) (fun i σ G=>(∃u14 u15 u16,σ=[some (.ref a),some (.ref nl),some (.ref l),some (.ref kd),some (.ref pt),some (.ref be),some (.ref old),some (.ref new),some (.ref tl),some (.ref mv),some (.ref hd),some (.ref du),some (.ref q1),some (.ref q2),u14,u15,u16])/\a0k Y G/\∀r∈R,∃kv:List (Key×V),G r=some (.dK kv)) ⟨⟨_,_,_,rfl⟩,k24,rD⟩ (fun i σ G _ p=>SqL.of (p.2.1 _ _ ehd24)) ?_ ?_
  ·rintro i v σ G hv ⟨⟨u14,u15,u16,rfl⟩,sG,rG⟩
   obtain⟨p,hp,rfl⟩:∃p,PcL R Y p/\v=.ref p:=by
    match i,hv with
    |0,hv=>cases hv;exact⟨_,pL0,rfl⟩
    |1,hv=>cases hv;exact⟨_,pL1,rfl⟩
   obtain⟨zn,ls,a1,a2,a3,a4,a5,a6⟩:=hp;refine⟨p,_,sG _ _ a1,fun o=>?_⟩;have f1:(upd G p (.frz o (.dK (zK zn ls)))) p=some (.frz o (.dK (zK zn ls))):=a0b;have f2:∀b u,b≠p->Y b=some u->(upd G p (.frz o (.dK (zK zn ls)))) b=some u:=fun b u nb e=>(a0f nb).trans (sG _ _ e);have f3:∀r∈R,∃kv:List (Key×V),(upd G p (.frz o (.dK (zK zn ls)))) r=some (.dK kv):=fun r hr=>let ⟨kv,e⟩:=rG r hr;⟨kv,(a0f (show r≠p from fun z=>a5 (z▸hr))).trans e⟩
   generalize upd G p (.frz o (.dK (zK zn ls)))=G1 at *;refine⟨_,rfl,p,o,_,rfl,f1,a3w (a:=p) (o:=o) (kvs:=zK zn ls) (fun j σ G2=>(∃u15 u16,σ=[some (.ref a),some (.ref nl),some (.ref l),some (.ref kd),some (.ref pt),some (.ref be),some (.ref old),some (.ref new),some (.ref tl),some (.ref mv),some (.ref hd),some (.ref du),some (.ref q1),some (.ref q2),some (.ref p),u15,u16])/\G2 p=some (.frz o (.dK (zK zn ls)))/\(∀b u,b≠p->Y b=some u->G2 b=some u)/\∀r∈R,∃kv:List (Key×V),G2 r=some (.dK kv)) ⟨⟨_,_,rfl⟩,f1,f2,f3⟩ (fun j σ G2 _ p=>p.2.1) ?_ ?_⟩
   ·rintro j k v σ G2 hk ⟨⟨v15,v16,rfl⟩,g1,g2,g3⟩
    obtain⟨z,l',hz,hl',rfl,rfl⟩:=a9e hk;obtain⟨nlp,rs,el,hrs⟩:=a6 l' (gI0 hl');refine⟨_,rfl,_,rfl,p,_,rfl,.inl ⟨_,.inr z,.inr ⟨o,g1⟩,rfl,(a6S a2 hz hl').symm⟩,l',rfl,⟨_,SqL.of (g2 _ _ nlp el)⟩,?_⟩;refine a2C (K:=K) (xs:=rs.map V.ref) (fun i σ G3=>(∃u16,σ=[some (.ref a),some (.ref nl),some (.ref l),some (.ref kd),some (.ref pt),some (.ref be),some (.ref old),some (.ref new),some (.ref tl),some (.ref mv),some (.ref hd),some (.ref du),some (.ref q1),some (.ref q2),some (.ref p),some (.str z),u16])/\G3 p=some (.frz o (.dK (zK zn ls)))/\(∀b u,b≠p->Y b=some u->G3 b=some u)/\∀r∈R,∃kv:List (Key×V),G3 r=some (.dK kv)) ⟨⟨_,rfl⟩,g1,g2,g3⟩ (fun i σ G3 _ p=>SqL.of (p.2.2.1 _ _ nlp el)) ?_ ?_
    ·rintro i' v σ G3 hv' ⟨⟨v16',rfl⟩,i1,i2,i3⟩
     obtain⟨r,hr,rfl⟩:=mM0.mp (gI0 hv');have hrR:=hrs r hr;obtain⟨kv,ek⟩:=i3 r hrR;have rp:r≠p:=fun z=>a5 (z▸hrR);refine⟨_,rfl,.inr (.inr (.inl ⟨rfl,.inl ⟨_,ek⟩⟩)),r,_,rfl,rfl,ek,?_⟩;refine⟨⟨_,rfl⟩,(a0f rp.symm).trans i1,fun b u nb e=>(a0f fun z=>by rw[z,kin r hrR] at e;cases e).trans (i2 b u nb e),fun r' hr'=>?_⟩
     by_cases e:r'=r
     ·exact⟨[],by rw[e];exact a0b⟩
     ·obtain⟨kv',ek'⟩:=i3 r' hr'
      exact⟨kv',(a0f e).trans ek'⟩
    ·rintro σ G3 ⟨⟨v16',rfl⟩,i1,i2,i3⟩
     exact⟨⟨_,_,rfl⟩,i1,i2,i3⟩
   ·rintro σ G2 ⟨⟨v15,v16,rfl⟩,g1,g2,g3⟩
    refine⟨g1,⟨_,_,_,rfl⟩,fun b u e=>?_,fun r hr=>let ⟨kv,e⟩:=g3 r hr;⟨kv,(a0f (show r≠p from fun z=>a5 (z▸hr))).trans e⟩⟩
    by_cases hb:b=p
    ·rw[hb,a0b,<-a1,<-hb,e]
    ·exact(a0f hb).trans (g2 b u hb e)
  rintro σ G ⟨⟨u14,u15,u16,rfl⟩,sG,_⟩;clear k24 rD ehd24 pL0 pL1 kin;refine⟨_,rfl,_,rfl,du,_,1,_,rfl,rfl,SqL.of (sG _ _ du24),a1b (j:=1) rfl,(by show 2<=sizeLine;decide),fun t1 ht1=>⟨_,_,rfl,?_,fun G1 g1=>⟨_,rfl,a1W ?_⟩⟩⟩
  ·have Tt:=a0k.upd (o:=.tup [V.ref d1,.non]) ht1
   have et:=a0b (H:=G) (a:=t1) (o:=.tup [V.ref d1,.non]);generalize upd G t1 (.tup [V.ref d1,.non])=G' at *;have sY:=sG.trans Tt;exact Lq.up (Lq.up (a3G (.inl (sY _ _ eq1')) (.inl et) (b0z (b5A N (by rw[a8t pz];exact b5N N (sY _ _ ta24) (sY _ _ tb24)) (q_rt N (sY _ _ ta24) (sY _ _ tb24) cnd csub pz)) (pf1'.same sY) (pd1'.same sY)) .non))
  replace sG:=sG.trans ((a0k.upd (o:=.tup [V.ref d1,.non]) ht1).trans g1)
  refine⟨_,rfl,_,rfl,du,_,0,_,rfl,rfl,SqL.of (sG _ _ du24),a1b (j:=0) rfl,(by show 2<=sizeLine;decide),fun t2 ht2=>⟨_,_,rfl,?_,fun G2 g2=>⟨_,rfl,a1W ?_⟩⟩⟩
  ·have Tt:=a0k.upd (o:=.tup [V.ref d0,.non]) ht2
   have et:=a0b (H:=G1) (a:=t2) (o:=.tup [V.ref d0,.non]);generalize upd G1 t2 (.tup [V.ref d0,.non])=G' at *;have sY:=sG.trans Tt;exact Lq.up (Lq.up (a3G (.inl (sY _ _ eq2')) (.inl et) (b0z (b3j N (q_lr N (sY _ _ ta24) (sY _ _ tb24))) (pf2'.same sY) (pd0'.same sY)) .non))
  replace sG:=sG.trans ((a0k.upd (o:=.tup [V.ref d0,.non]) ht2).trans g2)
  clear ht1 ht2 g1 g2 eq1' eq2' pf1' pf2' pd0' pd1' ta24 tb24;refine⟨_,rfl,mv,dx',_,rfl,sG _ _ emv',a1M _ _ (by decide +kernel) (by decide +kernel),_,rfl,_,rfl,du,_,0,_,rfl,rfl,SqL.of (sG _ _ du24),a1b (j:=0) rfl,_,_,_,_,rfl,rfl,_,rfl,a2q (by simp) ?_⟩;refine⟨_,rfl,mv,dx',_,rfl,sG _ _ emv',a1M _ _ (by decide +kernel) (by decide +kernel),_,rfl,_,rfl,du,_,1,_,rfl,rfl,SqL.of (sG _ _ du24),a1b (j:=1) rfl,_,_,_,_,rfl,rfl,_,rfl,a2q (by simp) ?_⟩;refine⟨_,rfl,mv,dx',_,rfl,sG _ _ emv',a1M _ _ (by decide +kernel) (by decide +kernel),_,_,rfl,_,rfl,mv,dx',_,rfl,sG _ _ emv',a1M _ _ (by decide +kernel) (by decide +kernel),_,_,rfl,(by show 2<=sizeLine;decide),fun k1 hk1=>?_⟩;have V1:=a0k.upd (o:=.tup [V.int 6,.int 0]) hk1;have ek1:=a0b (H:=G2) (a:=k1) (o:=.tup [V.int 6,.int 0]);generalize upd G2 k1 (.tup [V.int 6,.int 0])=G3 at *;refine⟨(by show 2<=sizeLine;decide),fun k2 hk2=>⟨_,_,rfl,a3G (n:=6) (.inl ((a0k.upd hk2) _ _ ek1)) (.inl a0b) .int .int,fun G4 g4=>⟨_,rfl,a1W ?_⟩⟩⟩
  replace sG:=sG.trans (V1.trans ((a0k.upd (o:=.tup [V.int 6,.int 0]) hk2).trans g4))
  refine⟨_,rfl,mv,dx',_,rfl,sG _ _ emv',a1M _ _ (by decide +kernel) (by decide +kernel),_,rfl,_,rfl,mv,dx',_,rfl,sG _ _ emv',a1M _ _ (by decide +kernel) (by decide +kernel),_,rfl,(by show 2<=sizeLine;decide),fun k3 hk3=>?_⟩;have V3:=a0k.upd (o:=.tup [V.bl true,.bl true]) hk3;have ek3:=a0b (H:=G4) (a:=k3) (o:=.tup [V.bl true,.bl true]);generalize upd G4 k3 (.tup [V.bl true,.bl true])=G5 at *;refine⟨(by show 2<=sizeLine;decide),fun k4 hk4=>⟨_,_,rfl,a3G (n:=6) (.inl ((a0k.upd hk4) _ _ ek3)) (.inl a0b) .bl .bl,fun G6 g6=>⟨_,rfl,a1W ?_⟩⟩⟩
  replace sG:=sG.trans (V3.trans ((a0k.upd (o:=.tup [V.bl true,.bl true]) hk4).trans g6))
  refine⟨_,rfl,mv,dx',_,rfl,sG _ _ emv',a1M _ _ (by decide +kernel) (by decide +kernel),mv,t,nm 1,zs,rfl,cv'.same sG,fun w1 G7 g7 ew1=>?_⟩;have sG7:=sG.trans g7;refine⟨_,rfl,nl,_,1,_,rfl,rfl,SqL.of (sG7 _ _ hnl'),a1L nm (i:=1) (by decide),_,rfl,l,cs,rfl,SqL.of (sG7 _ _ hl'),(by omega),fun l2 ys hl2 yp yso=>?_⟩;have V8:=a0k.upd (o:=.lst (ys.map V.str)) hl2;have e8:=a0b (H:=G7) (a:=l2) (o:=.lst (ys.map V.str));generalize upd G7 l2 (.lst (ys.map V.str))=G8 at *;refine⟨l2,_,rfl,.inl ⟨SqL.of e8,fun t8 ht8=>?_⟩⟩;have V9:=a0k.upd (o:=.tup (ys.map V.str)) ht8;have e9:=a0b (H:=G8) (a:=t8) (o:=.tup (ys.map V.str));generalize upd G8 t8 (.tup (ys.map V.str))=G9 at *;refine⟨(by show 3<=sizeLine;decide),fun w2 hw2=>⟨_,_,rfl,?_,fun G10 _=>q G10⟩⟩;have V10:=a0k.upd (o:=.tup [V.str "cleave",.str (nm 1),.ref t8]) hw2;have e10:=a0b (H:=G9) (a:=w2) (o:=.tup [V.str "cleave",.str (nm 1),.ref t8]);generalize upd G9 w2 (.tup [V.str "cleave",.str (nm 1),.ref t8])=G10 at *;have ezy:zs=ys:=a3R so yso pz yp;have sV:=V8.trans (V9.trans V10);refine Lq.up (Lq.up (Lq.up (Lq.up (Lq.up (.tup (n:=1) (.inl (sV _ _ ew1)) (.inl e10) rfl fun i z w hz hw=>?_)))))
  match i,hz,hw with
  |0,hz,hw=>cases hz;cases hw;exact .str
  |1,hz,hw=>cases hz;cases hw;exact .str
  |2,hz,hw=>
   cases hz;cases hw;refine .tup (n:=0) (.inl ((sG7.trans sV) _ _ cv'.t)) (.inl (V10 _ _ e9)) (by rw[ezy]) fun i z w hz hw=>?_;rw[ezy,hw] at hz;cases hz;obtain⟨y',_,rfl⟩:=mM0.mp (gI0 hw);exact .str
end
end My
namespace L2
open PySem PySem.Spec PyProof.Rows
def a2h (K:Fg0)(C:Addr)(m qual:Str)(st:Stmt):Prop:=∃f fd,Fun K m qual st f fd/\b1i K C m f
theorem a1g {K:Fg0}{C f:Addr}{m qual:Str}{st:Stmt}{oc:Value}{od an:Option Addr}{osl:Array (Option Value)}{kV doc pm cdv ct:Value}(a:PySem.W.findIn K (.ref C) m=some (some (.ref f)))(i:PySem.W.isFn K (.ref f)=true)
  (l:K.lookup f=some ⟨oc,od,.func (PySem.W.fnOf m qual (a0T st) (a0H st) (a0e st) .none kV doc pm an cdv ct),osl⟩) (c:PySem.W.codeIn K cdv qual=true) (k:PySem.W.keepIn K (.ref f)=true):a2h K C m qual st:=
 ⟨f,_,a9H l c k,⟨a,i,k⟩⟩
def b2n (K:Fg0)(C:Addr)(m qual:Str)(st:Stmt)(ps:List Str):Prop:=∃f fd,b2Y K m qual st f fd/\b1i K C m f/\a1Z K fd ps []/\a1Z K fd ps [.none]
theorem a7q {K:Fg0}{C f:Addr}{m qual:Str}{st:Stmt}{oc:Value}{od an:Option Addr}{osl:Array (Option Value)}{dV kV doc pm cdv ct:Value}(a:PySem.W.findIn K (.ref C) m=some (some (.ref f)))(i:PySem.W.isFn K (.ref f)=true)
  (l:K.lookup f=some ⟨oc,od,.func (PySem.W.fnOf m qual (a0T st) (a0H st) (a0e st) dV kV doc pm an cdv ct),osl⟩) (c:PySem.W.codeIn K cdv qual=true) (k:PySem.W.keepIn K (.ref f)=true)
  (w4:∀(u v x y:Value) (S:Setting),PySem.W.peek K S (bindArgs (PySem.W.fnOf m qual (a0T st) (a0H st) (a0e st) dV kV doc pm an cdv ct) ⟨[u,v,x,y],[]⟩)=some ([("self",u),("form",v),("piece",x),("rest",y)]:List (Str×Value)))
  (w3:∀(u v x:Value) (S:Setting),PySem.W.peek K S (bindArgs (PySem.W.fnOf m qual (a0T st) (a0H st) (a0e st) dV kV doc pm an cdv ct) ⟨[u,v,x],[]⟩)=some ([("self",u),("form",v),("piece",x),("rest",.none)]:List (Str×Value))):b2n K C m qual st ["self","form","piece","rest"]:=
 ⟨f,_,b1P (st:=st) l c k,⟨a,i,k⟩,(fun s us kin hl=>by
  have h1:us.length=4:=by simpa using hl
  match us,h1 with
  |[u,v,x,y],_=>exact PySem.W.kp_binds kin (w4 u v x y)),(fun s us kin hl=>by
  have h1:us.length=3:=by simpa using hl
  match us,h1 with
  |[u,v,x],_=>exact PySem.W.kp_binds kin (w3 u v x))⟩
def a3e (K:Fg0)(x:Str)(st:Stmt)(P:Addr):Prop:=∃(f c:Addr) (oc:Value) (od:Option Addr) (kV doc pm:Value) (an:Option Addr) (ct:Value) (osl:Array (Option Value)),
 PySem.W.nsIn K mainGlobals x=some (some (.ref f))/\K.lookup f=some ⟨oc,od,.func (PySem.W.fnOf x x (a0T st) (a0H st) (a0e st) .none kV doc pm an (.ref c) ct),osl⟩/\PySem.W.codeIn K (.ref c) x=true/\PySem.W.keepIn K (.ref f)=true/\PySem.W.codeHdIn K c P=true/\K.lookup P=none
theorem a9s {K:Fg0}{x:Str}{st:Stmt}{P f c:Addr}{oc:Value}{od an:Option Addr}{osl:Array (Option Value)}{kV doc pm ct:Value}(a:PySem.W.nsIn K mainGlobals x=some (some (.ref f)))
  (l:K.lookup f=some ⟨oc,od,.func (PySem.W.fnOf x x (a0T st) (a0H st) (a0e st) .none kV doc pm an (.ref c) ct),osl⟩) (cd:PySem.W.codeIn K (.ref c) x=true) (k:PySem.W.keepIn K (.ref f)=true) (t:PySem.W.codeHdIn K c P=true) (n:K.lookup P=none):a3e K x st P:=
 ⟨f,c,oc,od,kV,doc,pm,an,ct,osl,a,l,cd,k,t,n⟩
theorem a3e.get {K:Fg0}{h:Heap}{mg:Str->Option Value}{x:Str}{st:Stmt}{P:Addr}(d:a3e K x st P)(X:K.In h)(G:h.Ns mainGlobals mg):∃f fd c,b2Z K x x st f fd c/\mg x=some (.ref f)/\PySem.W.codeHdIn K c P=true:=by
 obtain⟨f,c,oc,od,kV,doc,pm,an,ct,osl,a,l,cd,k,t,n⟩:=d;exact⟨f,_,c,⟨⟨oc,od,kV,doc,pm,an,ct,osl,rfl,l,cd⟩,k⟩,PySem.W.mg_of X G a,t⟩
theorem a3e.tab {K:Fg0}{x:Str}{st:Stmt}{P:Addr}(d:a3e K x st P):(∃c,PySem.W.codeHdIn K c P=true)/\K.lookup P=none:=by
 obtain⟨f,c,oc,od,kV,doc,pm,an,ct,osl,a,l,cd,k,t,n⟩:=d;exact⟨⟨c,t⟩,n⟩
end L2
namespace My
open PySem L2
theorem a4F {P:Program}{w:World}{K:Fg0}{mg:Str->Option Value}{base:Heap}{C:Addr}{m q:Str}{st:Stmt}{ps:List Str}{k:Nat}{sp:Sp}(h:a2h K C m q st)(b:∀{f fd},Fun K m q st f fd->a1Z K fd ps [])(g:∀{f fd},Fun K m q st f fd->a0y P w K mg base CX0 k f fd ps sp):Me P w K mg base C m ps [] k sp:=let ⟨f,fd,F,M⟩:=h;⟨f,fd,M,g F,b F⟩
theorem all_mk {l:PySem.W.OpenLaw}{w:World}{K:Fg0}{h:Heap}{mg:Str->Option Value}{fa CC sA PF:Addr}{tL tN tP tw tm ts:Tok}{od:Option Addr}{nK:Nat}{sl:Array (Option Value)}(X:K.In h)(G:h.Ns mainGlobals mg)(hfa:mg "law"=some (.ref fa))
  (dF:a3e K "form_of" (top 18) PF)
  (gL:PySem.W.nsIn K mainGlobals "LETTERS"=some (some (.str "abcdefghijklmnopqrstuvwxyz" tL)))
  (gN:PySem.W.nsIn K mainGlobals "LONGEST_NAME"=some (some (.int 8 tN)))
  (gP:PySem.W.nsIn K mainGlobals "PERCENT"=some (some (.int 37 tP)))
  (gS:PySem.W.nsIn K mainGlobals "SIDE_SORTS"=some (some (.ref sA)))
  (lS:K.lookup sA=some ⟨.type "tuple",od,.seq #[.str "twin" tw,.str "many" tm,.str "some" ts] nK,sl⟩)
  (aM:PySem.W.nsIn K mainGlobals "Cleave"=some (some (.ref CC)))
  (pg:PySem.W.plainGet K CC Str.empty=true)
  (hd:PySem.W.hasDictIn K CC=true)
  (po:PySem.W.plainOver K CC=true)
  (psa:PySem.W.findIn K (.ref CC) "__setattr__"=some (some (.builtin "object.__setattr__")))
  (mk:PySem.W.makesIn K CC=true)
  (kc:PySem.W.keepIn K (.ref CC)=true)
  (n0:PySem.W.findIn K (.ref CC) "side"=some none)
  (n1:PySem.W.findIn K (.ref CC) "columns"=some none)
  (h0:a2h K CC "__init__" "Cleave.__init__" (a0N (top 38) 0))
  (h1:a2h K CC "after" "Cleave.after" (a0N (top 38) 1))
  (h2:a2h K CC "before" "Cleave.before" (a0N (top 38) 2))
  (h3:a2h K CC "tells_none_twice" "Cleave.tells_none_twice" (a0N (top 38) 3))
  (h4:a2h K CC "forth" "Cleave.forth" (a0N (top 38) 4))
  (h5:a2h K CC "back" "Cleave.back" (a0N (top 38) 5))
  (h6:a2h K CC "words" "Cleave.words" (a0N (top 38) 6))
  (m6:a2h K CC "key_forth" "Move.key_forth" (mv 6))
  (m7:a2h K CC "key_back" "Move.key_back" (mv 7))
  (m8:a2h K CC "keeps_forth" "Move.keeps_forth" (mv 8))
  (m9:a2h K CC "keeps_back" "Move.keeps_back" (mv 9))
  (xl:b2n K CC "left" "Move.left" (mv 4) ["self","form","piece","rest"])
  (xr:b2n K CC "right" "Move.right" (mv 5) ["self","form","piece","rest"])
  (d10:a0X K "is_whole" (top 10))
  (d11:a0X K "is_name" (top 11))
  (d12:a0X K "is_sign" (top 12))
  (d13:a0X K "is_plain" (top 13))
  (d14:a0X K "is_plain_pair" (top 14))
  (d15:a0X K "is_kind" (top 15))
  (d19:a0X K "ask_sorts" (top 19))
  (d20:a0X K "ask_names" (top 20))
  (d21:a0X K "columns_made" (top 21))
  (d22:a0X K "tables_of" (top 22))
  (d23:a0X K "head_of" (top 23))
  (d24:a0X K "sort_of" (top 24))
  (d25:a0X K "columns_of" (top 25))
  (d26:a0X K "table_in" (top 26))
  (d27:a0X K "parts_of" (top 27))
  (d28:a0X K "with_columns" (top 28))
  (d29:a0X K "with_table" (top 29))
  (d30:a0X K "without_table" (top 30))
  (d31:a0X K "copied" (top 31))
  (d34:a0X K "ask_fit" (top 34))
  (d35:a0X K "columns_in" (top 35))
  (d36:a0X K "without_column" (top 36))
  (d39:a0X K "ask_new_side" (top 39))
  (d40:a0X K "picked" (top 40))
  (d41:a0X K "without" (top 41))
  (d43:a0X K "_law_cell" (top 43))
  (d44:a0X K "_law_names" (top 44))
  (d45:a0X K "_law_alike" (top 45))
  (d46:a0X K "_law_form" (top 46))
  (d47:a0X K "_law_text" (top 47))
  (d48:a0X K "_law_kinds" (top 48))
  (d49:a0X K "_law_row" (top 49))
  (d50:a0X K "_law_chosen" (top 50))
  (d51:a0X K "_law_parted" (top 51))
  (d52:a0X K "_law_pieces" (top 52))
  (d53:a0X K "law" (top 53))
  (zb:BlK K) (zz:PySem.W.nsIn K mainGlobals "zip"=some none) :
  ∃fd:FuncData,(∀(s:Shared) (v:Value),BindsTo s fd ⟨[v],[]⟩ [("_law_script",v)])/\∀base:Heap,K.In base->base.Ns mainGlobals mg->L2.a5X base mg->a0y l.prog w K mg base CX0 9 fa fd ["_law_script"] (b4v K PF):=by
 have B:Bl mg:=zb.bl X G;have hz:mg "zip"=none:=PySem.W.mg_none_of X G zz;have mL:=PySem.W.mg_of X G gL;have mN:=PySem.W.mg_of X G gN;have mP:=PySem.W.mg_of X G gP;have mS:=PySem.W.mg_of X G gS;have qS:∀H,SqT K H sA (a3Y.map V.str):=fun H=>.inr ⟨_,_,_,lS,rfl,rfl,(by show 3<=sizeLine;decide),.cons ⟨tw,rfl⟩ (.cons ⟨tm,rfl⟩ (.cons ⟨ts,rfl⟩ .nil))⟩;have T:ClC K CC:=⟨⟨pg,hd,po,psa⟩,n0,n1⟩;obtain⟨g0,gd0,F0,M0⟩:=h0;obtain⟨g3,gd3,F3,M3⟩:=h3;obtain⟨gl,gdl,Fl,Ml,bl0,bl1⟩:=xl;obtain⟨gr,gdr,Fr,Mr,br0,br1⟩:=xr;have b3:=F3.b1 "self" (by intros;rfl);obtain⟨f10,fd10,D10⟩:=d10.df X G;obtain⟨f11,fd11,D11⟩:=d11.df X G;obtain⟨f12,fd12,D12⟩:=d12.df X G;obtain⟨f13,fd13,D13⟩:=d13.df X G;obtain⟨f14,fd14,D14⟩:=d14.df X G;obtain⟨f15,fd15,D15⟩:=d15.df X G;obtain⟨f19,fd19,D19⟩:=d19.df X G;obtain⟨f20,fd20,D20⟩:=d20.df X G;obtain⟨f21,fd21,D21⟩:=d21.df X G;obtain⟨f22,fd22,D22⟩:=d22.df X G;obtain⟨f23,fd23,D23⟩:=d23.df X G;obtain⟨f24,fd24,D24⟩:=d24.df X G;obtain⟨f25,fd25,D25⟩:=d25.df X G;obtain⟨f26,fd26,D26⟩:=d26.df X G;obtain⟨f27,fd27,D27⟩:=d27.df X G;obtain⟨f28,fd28,D28⟩:=d28.df X G;obtain⟨f29,fd29,D29⟩:=d29.df X G;obtain⟨f30,fd30,D30⟩:=d30.df X G;obtain⟨f31,fd31,D31⟩:=d31.df X G;obtain⟨f34,fd34,D34⟩:=d34.df X G;obtain⟨f35,fd35,D35⟩:=d35.df X G;obtain⟨f36,fd36,D36⟩:=d36.df X G;obtain⟨f39,fd39,D39⟩:=d39.df X G;obtain⟨f40,fd40,D40⟩:=d40.df X G;obtain⟨f41,fd41,D41⟩:=d41.df X G;obtain⟨f43,fd43,D43⟩:=d43.df X G;obtain⟨f44,fd44,D44⟩:=d44.df X G;obtain⟨f45,fd45,D45⟩:=d45.df X G;obtain⟨f46,fd46,D46⟩:=d46.df X G;obtain⟨f47,fd47,D47⟩:=d47.df X G;obtain⟨f48,fd48,D48⟩:=d48.df X G;obtain⟨f49,fd49,D49⟩:=d49.df X G;obtain⟨f50,fd50,D50⟩:=d50.df X G;obtain⟨f51,fd51,D51⟩:=d51.df X G;obtain⟨f52,fd52,D52⟩:=d52.df X G;obtain⟨f18,fd18,c18,F18,m18,t18⟩:=dF.get X G;have D18:Df K mg "form_of" (top 18) f18 fd18:=⟨F18.fn,m18⟩;obtain⟨f,oc,od,kV,doc,pm,an,cdv,ct,osl,a,lk,c,k⟩:=d53;have e:=hfa.symm.trans (PySem.W.mg_of X G a);cases e;refine⟨PySem.W.fnOf "law" "law" (a0T (top 53)) (a0H (top 53)) (a0e (top 53)) .none kV doc pm an cdv ct,fun s v=>.of_eq rfl,fun base _ _ hB=>?_⟩;have GN:a0y l.prog w K mg base CX0 1 f11 fd11 ["thing"] (a5G K):=b2H D11.fn B mL ⟨tL,rfl⟩ mN ⟨tN,rfl⟩;have GP:a0y l.prog w K mg base CX0 3 f13 fd13 ["thing"] a6f:=b0n D13.fn B D10 D12 D14 mP ⟨tP,rfl⟩;have GK:a0y l.prog w K mg base CX0 4 f15 fd15 ["thing"] a8Z:=b2G D15.fn B D13 GP;have GF:a0y l.prog w K mg base CX0 6 f18 fd18 ["size","tables"] (a5o PF):=b2b F18 B t18 hB D10 (a7i D10.fn B) D19 (b2r D19.fn mS qS) D20 (b2Q D20.fn D11 GN) D21 (b2c D21.fn B D11 GN D15 GK);have GPt:a0y l.prog w K mg base CX0 1 f27 fd27 ["form"] a3S:=b0L D27.fn B;have G1:a0y l.prog w K mg base CX0 1 f26 fd26 ["form","table"] a3b:=a4D D26.fn;have GWT:a0y l.prog w K mg base CX0 7 f29 fd29 ["form","name","sort","columns"] (a6t PF):=b0j D29.fn D18 GF D27 GPt;have GWC:a0y l.prog w K mg base CX0 7 f28 fd28 ["form","table","columns"] (a4S PF):=b0x D28.fn D18 GF D27 GPt D26 G1;have GWO:a0y l.prog w K mg base CX0 7 f30 fd30 ["form","name"] (a3H PF):=a7X D30.fn D18 GF D27 GPt D26 G1;have GCo:a0y l.prog w K mg base CX0 2 f25 fd25 ["form","table"] a2Q:=a5M D25.fn B D26;have GWs:a0y l.prog w K mg base CX0 2 f41 fd41 ["row","columns"] b0E:=b3r D41.fn B D36;have M:Fms l.prog w K mg base PF f39 f23 f25 f34 f28 f41 f29 f40 fd39 fd23 fd25 fd34 fd28 fd41 fd29 fd40:=⟨D39,a8a D39.fn D34 D11 GN D22,D23,D25,GCo,D34,D28,GWC,D41,GWs,D29,GWT,D40⟩;have M':Fmb l.prog w K mg base PF f35 f24 f30 fd35 fd24 fd30:=⟨D35,a8n D35.fn B D34 D22 D25 D26,D24,a9r D24.fn D26,D30,GWO⟩;exact b3m (a9H lk c k) B hz T D43 D44 D45 D46 D47 D48 D49 D50 D51 D52 ⟨mk,M0.at_,M0.fn,kc⟩ F0 (PySem.W.mg_of X G aM)
  (a4F h1 (fun F=>F.b2 "self" "form" (by intros;rfl)) (fun F=>b0I F B T M M3 (b0f F3 B T) b3)) (a4F h2 (fun F=>F.b2 "self" "form" (by intros;rfl)) (fun F=>a9x F B T M' D23 D25 GCo D34 D28 GWC))
  (a4F h4 (fun F=>F.b4 "self" "form" "piece" "rest" (by intros;rfl)) (fun F=>b0Z F B T D31 D23 D41 GWs D40)) (a4F h5 (fun F=>F.b4 "self" "form" "piece" "rest" (by intros;rfl)) (fun F=>b1Y F B T D31 D23))
  ⟨_,_,Ml,b2I Fl,bl1⟩ ⟨_,_,Mr,b0i Fr,br0⟩ (a4F m6 (fun F=>F.b2 "self" "key" (by intros;rfl)) (fun F=>b5D F)) (a4F m7 (fun F=>F.b2 "self" "key" (by intros;rfl)) (fun F=>b5h F)) (a4F m8 (fun F=>F.b1 "self" (by intros;rfl)) (fun F=>b3C F)) (a4F m9 (fun F=>F.b1 "self" (by intros;rfl)) (fun F=>b3z F)) (a4F h6 (fun F=>F.b1 "self" (by intros;rfl)) (fun F=>a9g F T))
theorem b4T {l:PySem.W.OpenLaw}{q:Program}{loose:List Str}{XP:(Str->Option Value)->Heap->Prop}{d:DefRec}{K:Params->Fg0}{as:List Addr}{e:∀P,as=(K P).map (·.1)}{PF:Addr}(hk:a1q 9 callerA)(hn:l.most=some 63)(hdf:d.params.defaults=[])
  (DF:∀w:World,a3e (K w.params) "form_of" (top 18) PF)
  (F:∀(w:World) (mg:Str->Option Value) (fa:Addr) (h:Heap),(K w.params).In h->h.Ns mainGlobals mg->mg d.name=some (.ref fa)->a3e (K w.params) "form_of" (top 18) PF →
   ∃fd:FuncData,(∀(s:Shared) (u:Value),BindsTo s fd ⟨[u],[]⟩ [("_law_script",u)])/\∀base:Heap,(K w.params).In base->base.Ns mainGlobals mg->L2.a5X base mg->a0y l.prog w (K w.params) mg base CX0 9 fa fd ["_law_script"] (b4v (K w.params) PF)) :
  PySem.W.WalkO q loose XP (PySem.W.kmHook K as e [PF]).says l.row.toRowW d [] (fun f vs=>PySem.call f vs):=by
 refine L2.b0G (n:=63) (k:=9) (x:="_law_script") (CX:=fun _=>CX0) (sp:=fun w=>b4v (K w.params) PF) (tx:=fun _=>[PF]) hn (by decide) hdf hk (fun w h Y=>PySem.W.km_in_of Y) (fun w h Y b hb=>?_) (fun w mg fa h X G m=>F w mg fa h X G m (DF w)) (fun w H a ns hl hO hS=>?_) fun _ _ _ _ _ z=>z
 ·have g:=PySem.W.km_tabs_of Y b hb
  have e:b=PF:=by simpa using hb
  subst e;obtain⟨⟨c,t⟩,n⟩:=(DF w).tab;exact L2.b4j (PySem.W.km_in_of Y) g t n
 ·exact⟨a,ns,rfl,hS,hl,hO.2 PF (by simp),fun _=>rfl⟩
end My
namespace PySem.W.Fast
def tw16522435562111758422:Unit:=()
def tw6059410078494060972:Unit:=()
def tw5619613607990024866:Unit:=()
def tw14918335100938520010:Unit:=()
def tw10789384643451704301:Unit:=()
def tw4105417686059801681:Unit:=()
def tw6894639087856448810:Unit:=()
def tw2584794904307419768:Unit:=()
def tw17277297773759198275:Unit:=()
def tw10204818290368443887:Unit:=()
def tw14020096889905201279:Unit:=()
def tw9395083232385019300:Unit:=()
def tw10753973626816699599:Unit:=()
def tw1625010696139987657:Unit:=()
def tw11730038370289035855:Unit:=()
def tw3610102368791024023:Unit:=()
def tw1912951102902385591:Unit:=()
def tw11450490356021865663:Unit:=()
def tw3286686612857823471:Unit:=()
def tw3032558216932924238:Unit:=()
def tw13963812340860504855:Unit:=()
def tw635094603383489322:Unit:=()
def tw4895803188265493119:Unit:=()
def tw10405540452746177592:Unit:=()
def tw7173356282816982080:Unit:=()
def tw17614904224350311142:Unit:=()
def tw8422788188091268121:Unit:=()
def tw337986025165060594:Unit:=()
def tw10212141580798387509:Unit:=()
def tw4661726126817604169:Unit:=()
def tw5400966736631947286:Unit:=()
def tw11260605403676928020:Unit:=()
def tw1586063974529602177:Unit:=()
def tw13010935486224461947:Unit:=()
def tw4030148988477495405:Unit:=()
def tw9272032062129599948:Unit:=()
def tw10569193059032277607:Unit:=()
def tw17652787019738497403:Unit:=()
def tw8056799992783542545:Unit:=()
def tw14342611999425265452:Unit:=()
def tw16317382839570248434:Unit:=()
def tw7550194753949853766:Unit:=()
def tw2498819734897799558:Unit:=()
def tw16423598936119832293:Unit:=()
def tw12830352935393205226:Unit:=()
def tw9205739144796134163:Unit:=()
def tw18344866806854464732:Unit:=()
def tw14635113030826188004:Unit:=()
def tw16107285059781100450:Unit:=()
def tw683904401063154730:Unit:=()
def tw1904310461855632332:Unit:=()
def tw463660527927084427:Unit:=()
def tw8108804075943098602:Unit:=()
def tw14111189569106936752:Unit:=()
def tw6346793161919717660:Unit:=()
def tw17652928335450068141:Unit:=()
def tw10335380926618282561:Unit:=()
def tw1588774507880676039:Unit:=()
def tw6342219496751699582:Unit:=()
def tw1602921622635893288:Unit:=()
def tw12310975252410160481:Unit:=()
def tw7292480676489042414:Unit:=()
def tw2852225995063952458:Unit:=()
def tw10031553341154258687:Unit:=()
def tw4245682273529827244:Unit:=()
def tw14922728194586434400:Unit:=()
def tw6547716874840747481:Unit:=()
def tw14154812367330451616:Unit:=()
def tw12999954182776531014:Unit:=()
def tw13334186127891365299:Unit:=()
def tw12616576045429342853:Unit:=()
def tw8683194443963951941:Unit:=()
def tw10795024360707515059:Unit:=()
def tw14070340973335296047:Unit:=()
def tw9810740776286514953:Unit:=()
def tw14627808000125105695:Unit:=()
def tw17969820131437720218:Unit:=()
def tw16232513888652906643:Unit:=()
def tw14745300374630475178:Unit:=()
def tw14656473469978834317:Unit:=()
def tw7704414381059450645:Unit:=()
def tw15960870676258581111:Unit:=()
def tw7869714579458220611:Unit:=()
def tw5930274776491656600:Unit:=()
def tw7848164832643708674:Unit:=()
def tw1245393019971812558:Unit:=()
def tw1361649680544845808:Unit:=()
def tw10510323794378868802:Unit:=()
def tw3701867164090378176:Unit:=()
def tw14041657261394514327:Unit:=()
end PySem.W.Fast
open PySem PySem.W PyProof.Rows
set_option maxRecDepth 100000 in
set_option maxHeartbeats 0 in
theorem PySem.Challenge.cw_halfmoved_k35_columns_cleaved_holds : PySem.Challenge.rw_halfmoved_k35_columns_cleaved.Holds := by
 w_on;o_law;k_head;(case hw=>w_witness2)
 k_fill
 refine' My.b4T (l:=PySem.Challenge.rw_halfmoved_k35_columns_cleaved) ⟨rfl,by decide,by decide⟩ rfl rfl ?DF ?F
 case DF=>
  intro w;refine' L2.a9s ?a ?l ?c ?k ?t ?n;(case a=>k_is);(case l=>k_is);(case c=>k_is);(case k=>k_is);(case t=>rfl);(case n=>rfl)
 case F=>
  intro w mg fa h KX G hmg dF;refine' My.all_mk KX G hmg dF ?gL ?gN ?gP ?gS ?lS ?aM ?pg ?hd ?po ?psa ?mk ?kc ?n0 ?n1 ?h0 ?h1 ?h2 ?h3 ?h4 ?h5 ?h6 ?m6 ?m7 ?m8 ?m9 ?xl ?xr ?d10 ?d11 ?d12 ?d13 ?d14 ?d15 ?d19 ?d20 ?d21 ?d22 ?d23 ?d24 ?d25 ?d26 ?d27 ?d28 ?d29 ?d30 ?d31 ?d34 ?d35 ?d36 ?d39 ?d40 ?d41 ?d43 ?d44 ?d45 ?d46 ?d47 ?d48 ?d49 ?d50 ?d51 ?d52 ?d53 ?zb ?zz
  (case gL=>k_is)
  (case gN=>k_is)
  (case gP=>k_is)
  (case gS=>k_is)
  (case lS=>k_is)
  (case aM=>k_is)
  (case pg=>k_is)
  (case hd=>k_is)
  (case po=>k_is)
  (case psa=>k_is)
  (case mk=>k_is)
  (case kc=>k_is)
  (case n0=>k_is)
  (case n1=>k_is)
  (case h0=>refine' L2.a1g ?a ?i ?l ?c ?k;(case a=>k_is);(case i=>k_is);(case l=>k_is);(case c=>k_is);(case k=>k_is))
  (case h1=>refine' L2.a1g ?a ?i ?l ?c ?k;(case a=>k_is);(case i=>k_is);(case l=>k_is);(case c=>k_is);(case k=>k_is))
  (case h2=>refine' L2.a1g ?a ?i ?l ?c ?k;(case a=>k_is);(case i=>k_is);(case l=>k_is);(case c=>k_is);(case k=>k_is))
  (case h3=>refine' L2.a1g ?a ?i ?l ?c ?k;(case a=>k_is);(case i=>k_is);(case l=>k_is);(case c=>k_is);(case k=>k_is))
  (case h4=>refine' L2.a1g ?a ?i ?l ?c ?k;(case a=>k_is);(case i=>k_is);(case l=>k_is);(case c=>k_is);(case k=>k_is))
  (case h5=>refine' L2.a1g ?a ?i ?l ?c ?k;(case a=>k_is);(case i=>k_is);(case l=>k_is);(case c=>k_is);(case k=>k_is))
  (case h6=>refine' L2.a1g ?a ?i ?l ?c ?k;(case a=>k_is);(case i=>k_is);(case l=>k_is);(case c=>k_is);(case k=>k_is))
  (case m6=>refine' L2.a1g ?a ?i ?l ?c ?k;(case a=>k_is);(case i=>k_is);(case l=>k_is);(case c=>k_is);(case k=>k_is))
  (case m7=>refine' L2.a1g ?a ?i ?l ?c ?k;(case a=>k_is);(case i=>k_is);(case l=>k_is);(case c=>k_is);(case k=>k_is))
  (case m8=>refine' L2.a1g ?a ?i ?l ?c ?k;(case a=>k_is);(case i=>k_is);(case l=>k_is);(case c=>k_is);(case k=>k_is))
  (case m9=>refine' L2.a1g ?a ?i ?l ?c ?k;(case a=>k_is);(case i=>k_is);(case l=>k_is);(case c=>k_is);(case k=>k_is))
  (case xl=>refine' L2.a7q ?a ?i ?l ?c ?k ?w4 ?w3;(case a=>k_is);(case i=>k_is);(case l=>k_is);(case c=>k_is);(case k=>k_is);(case w4=>intro u v x y S;rfl);(case w3=>intro u v x S;rfl))
  (case xr=>refine' L2.a7q ?a ?i ?l ?c ?k ?w4 ?w3;(case a=>k_is);(case i=>k_is);(case l=>k_is);(case c=>k_is);(case k=>k_is);(case w4=>intro u v x y S;rfl);(case w3=>intro u v x S;rfl))
  (case zb=>refine' My.BlK.mk ?b0 ?b1 ?b2 ?b3 ?b4 ?b5 ?b6 ?b7 ?b8 ?b9 ?b10 ?b11 ?b12 ?b13 ?b14 ?b15;(case b0=>k_is);(case b1=>k_is);(case b2=>k_is);(case b3=>k_is);(case b4=>k_is);(case b5=>k_is);(case b6=>k_is);(case b7=>k_is);(case b8=>k_is);(case b9=>k_is);(case b10=>k_is);(case b11=>k_is);(case b12=>k_is);(case b13=>k_is);(case b14=>k_is);(case b15=>k_is))
  (case zz=>k_is)
  all_goals (refine' L2.b0y ?a ?l ?c ?k;(case a=>k_is);(case l=>k_is);(case c=>k_is);(case k=>k_is))
#print axioms PySem.Challenge.cw_halfmoved_k35_columns_cleaved_holds
