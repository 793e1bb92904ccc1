import PyProof.Rows.All
import Wide.All
import OpenK.AllK
import Wide.FinOn
import Lean
import PyProof.EqAt
import PyProof.EqKinds
import PyProof.TupleCall
import PyProof.StrBlock
import PyProof.StrBlockL
import PyProof.Rows.StrJoin2
import KE.KIntText
import PyProof.StrCalls6
import PyProof.StationsW
import PyProof.RulesTry
import PyProof.InstStoreFacts
import PyProof.ExcBaseAll.ValueError
import PyProof.ExcAttrAll.ValueError
import PyProof.NsDelKeeps
import KE.KTabLook
import PyProof.MeetsStr
import PyProof.ZipIter
import PyProof.TupleIter
import KE.KDictSum
import PyProof.EnumMake
import PyProof.EnumStmt
import KE.KSortTup
import PyProof.NeKinds
import PyProof.AttrMissSeq
import KE.KDictOf
import KE.KLam
import KE.KNestM
import KE.KSortKey
import PyProof.ListRange
import KE.KPar
import KE.KItemsList
import PyProof.DictValues
import PyProof.FactsAll.dict_valueiterator_1
import KE.KDictList
import PyProof.DictUpdate
import PyProof.FactsAll.set_2
import PyProof.Rows.SetFrom
import PyProof.AttrMissHeap
import PyProof.DictWalks
import PySem.Challenge.RW_halfmoved_k36_sides_refused
set_option Elab.async false
set_option linter.all false
set_option maxRecDepth 100000
set_option maxHeartbeats 4000000
namespace L0
open PySem PySem.Spec PyProof.Rows
theorem gE0:type_of% @List.getElem?_eq_getElem.{0}:=@List.getElem?_eq_getElem.{0}
theorem lM0:type_of% @List.length_map.{0,0}:=@List.length_map.{0,0}
theorem gM0:type_of% @List.getElem?_map.{0,0}:=@List.getElem?_map.{0,0}
theorem hP0:type_of% @PySem.Heap.get?_push_of_some:=@PySem.Heap.get?_push_of_some
theorem wB0:type_of% @wpAny_bind:=@wpAny_bind
theorem wP0:type_of% @wpAny_pure:=@wpAny_pure
theorem lA0:type_of% @List.length_append.{0}:=@List.length_append.{0}
theorem gI0:type_of% @List.mem_of_getElem?.{0}:=@List.mem_of_getElem?.{0}
theorem gS0:type_of% @List.getElem?_eq_some_iff.{0}:=@List.getElem?_eq_some_iff.{0}
theorem mM0:type_of% @List.mem_map.{0,0}:=@List.mem_map.{0,0}
theorem mC0:type_of% @List.map_map.{0,0,0}:=@List.map_map.{0,0,0}
theorem mA0:type_of% @List.map_append.{0,0}:=@List.map_append.{0,0}
theorem nR0:type_of% @Nat.le_refl:=@Nat.le_refl
theorem mS0:type_of% @List.mem_singleton.{0}:=@List.mem_singleton.{0}
theorem hL0:type_of% @PySem.Heap.lt_size:=@PySem.Heap.lt_size
theorem hS0:type_of% @PySem.Heap.get?_push_size:=@PySem.Heap.get?_push_size
theorem aL0:type_of% @Array.length_toList.{0}:=@Array.length_toList.{0}
theorem nL0:type_of% @Nat.ne_of_lt:=@Nat.ne_of_lt
theorem mN0:type_of% @List.map_cons.{0,0}:=@List.map_cons.{0,0}
theorem bF0:type_of% @Bool.false_ne_true:=@Bool.false_ne_true
theorem mB0:type_of% @List.mem_append.{0}:=@List.mem_append.{0}
theorem mK0:type_of% @List.mem_cons.{0}:=@List.mem_cons.{0}
theorem mL0:type_of% @List.mem_cons_of_mem.{0}:=@List.mem_cons_of_mem.{0}
theorem gL0:type_of% @List.getElem?_append_left.{0}:=@List.getElem?_append_left.{0}
theorem gR0:type_of% @List.getElem?_append_right.{0}:=@List.getElem?_append_right.{0}
theorem mF0:type_of% @List.mem_filter.{0}:=@List.mem_filter.{0}
theorem dT0:type_of% @decide_eq_true:=@decide_eq_true
theorem dF0:type_of% @decide_eq_false:=@decide_eq_false
theorem zL0:type_of% @Nat.zero_le:=@Nat.zero_le
abbrev Vs0:=Value->Shared->Prop
abbrev Fg0:=PySem.W.Frag
end L0
open L0
namespace L2
theorem ln0 {α:Type}{l:List α}(h:l.length=0):l=[]:=List.eq_nil_of_length_eq_zero h
theorem ln1 {α:Type}{l:List α}(h:l.length=1):∃a,l=[a]:=List.length_eq_one_iff.mp h
theorem ln2 {α:Type}{l:List α}(h:l.length=2):∃a b,l=[a,b]:=by
 cases l with
 |nil=>cases h
 |cons a r=>obtain⟨b,rfl⟩:=ln1 (Nat.succ.inj h);exact⟨a,b,rfl⟩
theorem ln3 {α:Type}{l:List α}(h:l.length=3):∃a b c,l=[a,b,c]:=by
 cases l with
 |nil=>cases h
 |cons a r=>obtain⟨b,c,rfl⟩:=ln2 (Nat.succ.inj h);exact⟨a,b,c,rfl⟩
theorem ln4 {α:Type}{l:List α}(h:l.length=4):∃a b c d,l=[a,b,c,d]:=by
 cases l with
 |nil=>cases h
 |cons a r=>obtain⟨b,c,d,rfl⟩:=ln3 (Nat.succ.inj h);exact⟨a,b,c,d,rfl⟩
end L2
namespace L2
open PySem PySem.Spec PyProof.Rows
abbrev Key:=Sum Int Str
def a6k:Key->Value->Bool
 | .inl k,v=>Value.isInt k v
 | .inr x,v=>Value.isStrOf x v
def keyH (w:World):Key->Int
 | .inl k=>hashInt k
 | .inr x=>hashStr w x
theorem a0L:∀{k:Key} {v:Value},a6k k v=true->(∃i t,k=Sum.inl i/\v=Value.int i t)\/(∃x t,k=Sum.inr x/\v=Value.str x t)
 | .inl i,v,h=>by
  obtain⟨t,e⟩:=Value.isInt_shape (k:=i) (v:=v) h;exact .inl ⟨i,t,rfl,e⟩
 | .inr x,v,h=>by
  obtain⟨t,e⟩:=Value.isStrOf_shape (x:=x) (v:=v) h;exact .inr ⟨x,t,rfl,e⟩
theorem a9j (i:Int)(t:Tok):a6k (.inl i) (.int i t)=true:=by simp[a6k,Value.isInt]
theorem a3m (x:Str)(t:Tok):a6k (.inr x) (.str x t)=true:=by simp[a6k,Value.isStrOf]
theorem b4q (a b:Int):decide ((Sum.inl a:Key)=Sum.inl b)=(a==b):=by
 by_cases e:a=b
 ·subst e;simp
 ·have h:¬(Sum.inl a:Key)=Sum.inl b:=fun q=>e (Sum.inl.inj q)
  rw[dF0 h];exact(beq_eq_false_iff_ne.mpr e).symm
theorem b4k (a b:Str):decide ((Sum.inr a:Key)=Sum.inr b)=decide (a=b):=by
 by_cases e:a=b
 ·subst e;simp
 ·have h:¬(Sum.inr a:Key)=Sum.inr b:=fun q=>e (Sum.inr.inj q)
  rw[dF0 h,dF0 e]
theorem b4s (a:Int)(b:Str):decide ((Sum.inl a:Key)=Sum.inr b)=false:=dF0 (fun q=>nomatch q)
theorem b4M (a:Str)(b:Int):decide ((Sum.inr a:Key)=Sum.inl b)=false:=dF0 (fun q=>nomatch q)
def a0n (prog:Program)(w:World):PySem.KeyKind prog w Key where
 is:=a6k
 hash:=keyH w
 inj:=fun v a b ha hb=>by
  rcases a0L ha with ⟨i,t,rfl,rfl⟩ |⟨x,t,rfl,rfl⟩
  ·rcases a0L hb with ⟨j,u,rfl,e⟩ |⟨y,u,rfl,e⟩
   ·injection e with e1 _;rw[e1]
   ·exact nomatch e
  ·rcases a0L hb with ⟨j,u,rfl,e⟩ |⟨y,u,rfl,e⟩
   ·exact nomatch e
   ·injection e with e1 _;rw[e1]
 byValue:=fun k v h=>by
  rcases a0L h with ⟨i,t,rfl,rfl⟩ |⟨x,t,rfl,rfl⟩<;>rfl
 pyHash:=fun hv h=>by
  rcases a0L hv with ⟨i,t,rfl,rfl⟩ |⟨x,t,rfl,rfl⟩
  ·exact wpAny_pyHash_int h
  ·exact wpAny_pyHash_str h
 eqBool:=fun hu hv h=>by
  rcases a0L hu with ⟨i,t,rfl,rfl⟩ |⟨x,t,rfl,rfl⟩
  ·rcases a0L hv with ⟨j,u,rfl,rfl⟩ |⟨y,u,rfl,rfl⟩
   ·rw[b4q] at h;exact wpAny_eqBool_int h
   ·rw[b4s] at h;exact SeqAt.EqAt.int_str i t y u _ _ _ _ h
  ·rcases a0L hv with ⟨j,u,rfl,rfl⟩ |⟨y,u,rfl,rfl⟩
   ·rw[b4M] at h;exact SeqAt.EqAt.str_int x t j u _ _ _ _ h
   ·rw[b4k] at h;exact wpAny_eqBool_str h
 «strs»:=fun k x t v h=>by
  rcases a0L h with ⟨i,u,rfl,e⟩ |⟨y,u,rfl,e⟩
  ·exact nomatch e
  ·injection e with e1 _
   subst e1;cases v<;>rfl
theorem a7k (prog:Program)(w:World)(i:Int)(t:Tok):(a0n prog w).is (.inl i) (.int i t)=true:=a9j i t
theorem a7g (prog:Program)(w:World)(x:Str)(t:Tok):(a0n prog w).is (.inr x) (.str x t)=true:=a3m x t
inductive V where
 |non |bl (b:Bool) |int (i:Int) |str (x:Str) |byt (b:Array UInt8) |flt (b:UInt64) |ref (a:Addr) |ty (n:String)
 deriving DecidableEq
def a1e:V->Value->Prop
 | .non,u=>u=Value.none
 | .bl b,u=>u=Value.bool b
 | .int i,u=>∃t,u=Value.int i t
 | .str x,u=>∃t,u=Value.str x t
 | .byt b,u=>∃t,u=Value.bytes b t
 | .flt b,u=>∃t,u=Value.float b t
 | .ref a,u=>u=Value.ref a
 | .ty n,u=>u=Value.type n
abbrev a1l:List V->List Value->Prop:=Paired a1e
theorem a1l.length {xs:List V}{us:List Value}(r:a1l xs us):xs.length=us.length:=Paired.length r
theorem a1l.get:∀{xs:List V} {us:List Value} {i:Nat} {x:V},a1l xs us->xs[i]? =some x->∃u,us[i]? =some u/\a1e x u
 |_,_,_,_,.nil,e=>by simp at e
 |_,_,0,_,.cons r _,e=>by simp at e;subst e;exact⟨_,rfl,r⟩
 |_,_,i+1,x,.cons _ t,e=>by
  obtain⟨u,h1,h2⟩:=a1l.get (i:=i) (x:=x) t (by simpa using e);exact⟨u,by simpa using h1,h2⟩
theorem a1l.append:∀{xs ys:List V} {us ws:List Value},a1l xs us->a1l ys ws->a1l (xs++ys) (us++ws)
 |_,_,_,_,.nil,s=>s
 |_,_,_,_,.cons r t,s=>.cons r (a1l.append t s)
theorem a1l.take:∀{xs:List V} {us:List Value} (n:Nat),a1l xs us->a1l (xs.take n) (us.take n)
 |_,_,0,_=>.nil
 |_,_,_+1,.nil=>.nil
 |_,_,n+1,.cons r t=>.cons r (a1l.take n t)
theorem a1l.drop:∀{xs:List V} {us:List Value} (n:Nat),a1l xs us->a1l (xs.drop n) (us.drop n)
 |_,_,0,r=>r
 |_,_,_+1,.nil=>.nil
 |_,_,n+1,.cons _ t=>a1l.drop n t
def a4w:Option V->Option Value->Prop
 |some v,some u=>a1e v u
 |none,none=>True
 |_,_=>False
def KV {κ:Type}:List (κ×V)->List (κ×Value)->Prop:=Paired fun(p:κ×V) (q:κ×Value)=>p.1=q.1/\a1e p.2 q.2
def kV:Key->V
 | .inl i=>.int i
 | .inr x=>.str x
inductive HO where
 |lst (xs:List V)
 |tup (xs:List V)
 |dK (kvs:List (Key×V)) |dT (kvs:List (List Key×V))
 |set (S:Int->Bool) (n:Nat)
 |ins (C dx:Addr) (fs:List (Str×V))
 |own (x:Addr)
 |xd (fs:List (Str×V))
 |met (f x:Addr)
 |rng (lo hi:Int)
 |frz (o:Obj) (u:HO)
 |tbl (ps:Array Value)
 |ext (φ:Heap->Prop)
abbrev Hp:=Addr->Option HO
def upd (H:Hp)(a:Addr)(o:HO):Hp:=fun b=>if b=a then some o else H b
theorem a0d {H:Hp}{a:Addr}{o:HO}:upd H a o a=some o:=by unfold upd;rw[if_pos rfl]
theorem a0g {H:Hp}{a b:Addr}{o:HO}(h:b≠a):upd H a o b=H b:=by unfold upd;rw[if_neg h]
theorem b2E {H:Hp}{a:Addr}{o u:HO}:upd (upd H a o) a u=upd H a u:=by
 funext b;unfold upd;split<;>rfl
theorem b6b {H:Hp}{a b:Addr}{o u:HO}(h:H a=some o)(h':H b=some u)(d:o≠u):a≠b:=by
 intro e;subst e;rw[h] at h';exact d (Option.some.inj h')
theorem a0O {H:Hp}{a b:Addr}{o:HO}(h:H a=some o)(h':H b=none):a≠b:=by
 intro e;subst e;rw[h] at h';cases h'
section
variable (P:Program)(w:World)
def a1h (H:Hp)(h:Heap)(a:Addr):HO->Prop
 | .lst xs=>xs.length<=sizeLine/\∃(its:List Value) (n:Nat),a1l xs its/\h.get? a=some { cls:=.type "list",data:=.seq its.toArray n }
 | .tup xs=>xs.length<=sizeLine/\∃its:List Value,a1l xs its/\IsTup h a its.toArray
 | .dK kvs=>kvs.length<=sizeLine/\(a==sysModules)=false/\∃vs,KV kvs vs/\h.DictOf (a0n P w) a vs
 | .dT kvs=>kvs.length<=sizeLine/\(a==sysModules)=false/\∃xs:List (List Key×Addr×Value),
   Paired (fun(p:List Key×V) (q:List Key×Addr×Value)=>p.1=q.1/\H q.2.1=some (.tup (p.1.map kV))/\a1e p.2 q.2.2) kvs xs ∧
   ∃o es ep,h.get? a=some o/\o.ExactDict/\o.data=.dict es ep/\es.toList=xs.map (entryOfKey (tupleKind (a0n P w)))/\(xs.map (·.1)).Nodup
 | .set S n=>h.SetOf (intKind P w) a S n
 | .ins C dx fs=>H dx=some (.own a)/\fs.length<=1000/\dx≠a/\h.get? a=some (PySem.W.instObj C dx) ∧
   ∃mA,h.Ns1 dx mA/\(∀f,a4w (fs.lookup f) (mA f))/\PySem.Within mA (fs.map (·.1))
 | .own _=>∃o,h.get? a=some o
 | .xd fs=>∃mA,h.Ns1 a mA/\∀f,a4w (fs.lookup f) (mA f)
 | .rng lo hi=>∃t u v,h.get? a=some { cls:=.type "range",data:=.fields #[.int lo t,.int hi u,.int 1 v] }
 | .frz o u=>h.get? a=some o/\a1h H h a u
 | .tbl ps=>h.get? a=some { cls:=.none,data:=.fields ps }
 | .met f x=>h.get? a=some (PySem.W.methodObj (.ref f) (.ref x))
 | .ext φ=>φ h/\(∃o,h.get? a=some o)/\∀h1 h2:Heap,φ h1->(∀o,h1.get? a=some o->h2.get? a=some o)->φ h2
def HOk (H:Hp)(h:Heap):Prop:=∀a o,H a=some o->a1h P w H h a o
end
section
variable {P:Program}{w:World}{H H':Hp}{h h':Heap}{a:Addr}{o:HO}
theorem a1h.lt (x:a1h P w H h a o):a<h.objs.size:=by
 cases o with
 |lst xs=>obtain⟨_,_,_,_,e⟩:=x;exact hL0 e
 |tup xs=>obtain⟨_,_,_,p⟩:=x;exact p.lt
 |dK kvs=>obtain⟨_,_,_,_,o,_,_,e,_⟩:=x;exact hL0 e
 |dT kvs=>obtain⟨_,_,_,_,o,_,_,e,_⟩:=x;exact hL0 e
 |set S n=>obtain⟨o,_,_,_,e,_⟩:=x;exact hL0 e
 |ins C dx fs=>obtain⟨_,_,_,e,_⟩:=x;exact hL0 e
 |own y=>obtain⟨_,e⟩:=x;exact hL0 e
 |xd fs=>obtain⟨_,⟨_,_,_,e,_⟩,_⟩:=x;exact hL0 e
 |rng lo hi=>obtain⟨_,_,_,e⟩:=x;exact hL0 e
 |frz ob u=>obtain⟨e,_⟩:=x;exact hL0 e
 |tbl ps=>exact hL0 (show h.get? a=some _ from x)
 |met f y=>exact hL0 (show h.get? a=some _ from x)
 |ext φ=>obtain⟨_,⟨_,e⟩,_⟩:=x;exact hL0 e
theorem Paired.mapP {α β:Type}{F G:α->β->Prop}:∀{l₁:List α} {l₂:List β},Paired F l₁ l₂->(∀a b,F a b->G a b)->Paired G l₁ l₂
 |_,_,.nil,_=>.nil
 |_,_,.cons r t,f=>.cons (f _ _ r) (Paired.mapP t f)
theorem a1h.stay (x:a1h P w H h a o)(k:∀b u,(b=a\/H b=some (.own a))->h.get? b=some u->h'.get? b=some u)
  (ho:∀b,H b=some (.own a)->H' b=some (.own a)) (ht:∀b xs,H b=some (.tup xs)->H' b=some (.tup xs)):a1h P w H' h' a o:=by
 induction o with
 |lst xs=>obtain⟨z,its,n,r,e⟩:=x;exact⟨z,its,n,r,k _ _ (.inl rfl) e⟩
 |tup xs=>obtain⟨z,its,r,ob,e,c⟩:=x;exact⟨z,its,r,ob,k _ _ (.inl rfl) e,c⟩
 |dK kvs=>obtain⟨z,y,vs,r,ob,es,ep,e,c⟩:=x;exact⟨z,y,vs,r,ob,es,ep,k _ _ (.inl rfl) e,c⟩
 |dT kvs=>
  obtain⟨z,y,xs,r,ob,es,ep,e,c⟩:=x;exact⟨z,y,xs,Paired.mapP r fun p q z=>⟨z.1,ht _ _ z.2.1,z.2.2⟩,ob,es,ep,k _ _ (.inl rfl) e,c⟩
 |set S n=>obtain⟨ob,es,ep,t,e,c⟩:=x;exact⟨ob,es,ep,t,k _ _ (.inl rfl) e,c⟩
 |ins C dx fs=>
  obtain⟨d,z,ne,e,mA,⟨od,es,ep,e2,c⟩,r⟩:=x;exact⟨ho _ d,z,ne,k _ _ (.inl rfl) e,mA,⟨od,es,ep,k _ _ (.inr d) e2,c⟩,r⟩
 |own y=>obtain⟨ob,e⟩:=x;exact⟨ob,k _ _ (.inl rfl) e⟩
 |xd fs=>obtain⟨mA,⟨od,es,ep,e,c⟩,r⟩:=x;exact⟨mA,⟨od,es,ep,k _ _ (.inl rfl) e,c⟩,r⟩
 |rng lo hi=>obtain⟨t,u,v,e⟩:=x;exact⟨t,u,v,k _ _ (.inl rfl) e⟩
 |frz ob u ih=>obtain⟨e,q⟩:=x;exact⟨k _ _ (.inl rfl) e,ih q⟩
 |tbl ps=>
  have e:h.get? a=some { cls:=.none,data:=.fields ps }:=x;show h'.get? a=some { cls:=.none,data:=.fields ps };exact k a _ (.inl rfl) e
 |met f y=>
  have e:h.get? a=some (PySem.W.methodObj (.ref f) (.ref y)):=x;show h'.get? a=some (PySem.W.methodObj (.ref f) (.ref y));exact k a _ (.inl rfl) e
 |ext φ=>obtain⟨p,⟨o,e⟩,st⟩:=x;exact⟨st _ _ p fun o q=>k _ _ (.inl rfl) q,⟨o,k _ _ (.inl rfl) e⟩,st⟩
theorem HOk.lt (x:HOk P w H h)(e:H a=some o):a<h.objs.size:=(x a o e).lt
theorem HOk.fresh (x:HOk P w H h)(e:h.objs.size<=a):H a=none:=by
 cases q:H a with
 |none=>rfl
 |some u=>exact absurd (Nat.lt_of_lt_of_le (x.lt q) e) (Nat.lt_irrefl _)
theorem HOk.kept (x:HOk P w H h)(k:∀b u,h.get? b=some u->h'.get? b=some u):HOk P w H h':=fun a o e=>
 (x a o e).stay (fun b u _ q=>k b u q) (fun _ q=>q) fun _ _ q=>q
theorem HOk.laid (x:HOk P w H h)(k:∀b u,h.get? b=some u->h'.get? b=some u)(hp:h.objs.size<=a)(new:a1h P w (upd H a o) h' a o):HOk P w (upd H a o) h':=fun b u e=>by
 have hn:=x.fresh hp
 by_cases hb:b=a
 ·subst hb;rw[a0d] at e;cases e;exact new
 ·rw[a0g hb] at e
  exact(x b u e).stay (fun c v _ q=>k c v q) (fun c q=>by rw[a0g (a0O q hn)];exact q) fun c xs q=>by rw[a0g (a0O q hn)];exact q
end
def Rd (H:Hp)(a:Addr)(u:HO):Prop:=H a=some u\/∃o,H a=some (.frz o u)
theorem Rd.ok {P:Program}{w:World}{H:Hp}{h:Heap}{a:Addr}{u:HO}(r:Rd H a u)(x:HOk P w H h):a1h P w H h a u:=by
 rcases r with r |⟨o,r⟩
 ·exact x a u r
 ·obtain⟨_,q⟩:=x a _ r
  exact q
def Mut:Option HO->Prop
 |some (.lst _)=>True
 |some (.dK _)=>True
 |some (.dT _)=>True
 |some (.set _ _)=>True
 |some (.ins _ _ _)=>True
 |some (.ext _)=>True
 |_=>False
section
variable {P:Program}{w:World}{H:Hp}{h h':Heap}{x e:Addr}{o':HO}
theorem HOk.write (ok:HOk P w H h)(mu:Mut (H x))(he:e=x\/H e=some (.own x))(k:∀b u,b≠e->h.get? b=some u->h'.get? b=some u)(heo:∃u,h'.get? e=some u)
  (new:a1h P w (upd H x o') h' x o'):HOk P w (upd H x o') h':=fun b u q=>by
 have nown:∀c y,H c=some (.own y)->c≠x:=fun c y r z=>by subst z;rw[r] at mu;exact mu
 have ntup:∀c xs,H c=some (.tup xs)->c≠x:=fun c xs r z=>by subst z;rw[r] at mu;exact mu
 by_cases hb:b=x
 ·subst hb;rw[a0d] at q;cases q;exact new
 ·rw[a0g hb] at q
  by_cases hbe:b=e
  ·have q':H b=some (.own x):=by
    rcases he with z |z
    ·exact absurd (hbe.trans z) hb
    ·rw[hbe];exact z
   rw[q] at q';cases q';obtain⟨v,hv⟩:=heo;exact⟨v,by rw[hbe];exact hv⟩
  ·refine(ok b u q).stay (fun c v hc r=>k c v ?_ r) (fun c r=>by rw[a0g (nown c b r)];exact r) fun c xs r=>by rw[a0g (ntup c xs r)];exact r
   rcases hc with rfl |hc
   ·exact hbe
   ·rintro rfl
    rcases he with z |z
    ·exact nown c b hc z
    ·rw[hc] at z;cases z;exact hb rfl
end
structure Un (fs ex:List Addr) (H H':Hp) (h h':Heap):Prop where
 keep:∀b o,h.get? b=some o->H b=none->b∉fs->b∉ex->h'.get? b=some o
 slot:∀b o,h.get? b=some o->H b=none->b∈fs->b∉ex->∃sl,h'.get? b=some { o with slots:=sl }
 free:∀b o,h.get? b=some o->H b=none->b∉ex->H' b=none
 there:∀b o,h.get? b=some o->b∉ex->∃o',h'.get? b=some o'
 tups:∀b xs,H b=some (.tup xs)->H' b=some (.tup xs)
 frzs:∀b o u,H b=some (.frz o u)->H' b=some (.frz o u)
 tbls:∀b ps,H b=some (.tbl ps)->∃more,H' b=some (.tbl (ps++more))
section
variable {fs fs' ex ex':List Addr}{H H1 H2:Hp}{h h1 h2 h':Heap}{a x e:Addr}{o:HO}
theorem Un.any (u:Un fs ex H H1 h h1){b:Addr}{ob:Obj}(q:h.get? b=some ob)(n:H b=none)(hx:b∉ex):∃sl,h1.get? b=some { ob with slots:=sl }:=by
 by_cases hb:b∈fs
 ·exact u.slot b ob q n hb hx
 ·exact⟨ob.slots,u.keep b ob q n hb hx⟩
theorem Un.kept (k:∀b u,h.get? b=some u->h'.get? b=some u):Un fs ex H H h h':=
 ⟨fun b ob q _ _ _=>k b ob q,fun b ob q _ _ _=>⟨ob.slots,k b ob q⟩,fun _ _ _ n _=>n,fun b ob q _=>⟨ob,k b ob q⟩,fun _ _ q=>q,fun _ _ _ q=>q,fun _ ps q=>⟨#[],by rw[q];simp⟩⟩
theorem Un.refl:Un fs ex H H h h:=Un.kept fun _ _ q=>q
theorem Un.laid (k:∀b u,h.get? b=some u->h'.get? b=some u)(hp:h.objs.size<=a)(hn:H a=none):Un fs ex H (upd H a o) h h' where
 keep:=fun b u q _ _ _=>k b u q
 slot:=fun b u q _ _ _=>⟨u.slots,k b u q⟩
 free:=fun b u q n _=>by rw[a0g (nL0 (Nat.lt_of_lt_of_le (hL0 q) hp))];exact n
 there:=fun b u q _=>⟨u,k b u q⟩
 tups:=fun b xs q=>by rw[a0g (a0O q hn)];exact q
 frzs:=fun b u xs q=>by rw[a0g (a0O q hn)];exact q
 tbls:=fun b ps q=>⟨#[],by rw[a0g (a0O q hn),q];simp⟩
theorem Un.write (mu:Mut (H x))(he:e=x\/H e=some (.own x))(k:∀b u,b≠e->h.get? b=some u->h'.get? b=some u)(heo:∃u,h'.get? e=some u):Un fs ex H (upd H x o) h h':=by
 have hx:∀b,H b=none->b≠x:=fun b n z=>by subst z;rw[n] at mu;exact mu
 have hb:∀b,H b=none->b≠e:=fun b n z=>by
  subst z;rcases he with r |r
  ·exact hx b n r
  ·rw[n] at r;cases r
 have hm:∀b u,H b=some u->¬Mut (some u)->b≠x:=fun b u q nm z=>by subst z;rw[q] at mu;exact nm mu
 refine⟨fun b u q n _ _=>k b u (hb b n) q,fun b u q n _ _=>⟨u.slots,k b u (hb b n) q⟩,fun b u q n _=>by rw[a0g (hx b n)];exact n,fun b u q _=>?_,
  fun b xs q=>by rw[a0g (hm b _ q fun z=>z)];exact q,fun b u xs q=>by rw[a0g (hm b _ q fun z=>z)];exact q,fun b ps q=>⟨#[],by rw[a0g (hm b _ q fun z=>z),q];simp⟩⟩
 by_cases hbe:b=e
 ·subst hbe;exact heo
 ·exact⟨u,k b u hbe q⟩
end
def trk (h:Heap)(H:Hp):List Addr:=(List.range h.objs.size).filter fun a=>(H a).isSome
def a6E (h:Heap)(H:Hp):Heap:=PySem.W.hideAll h (trk h H)
theorem a5Y (h:Heap)(H:Hp):(a6E h H).objs.size=h.objs.size:=PySem.W.hideAll_size _ _
theorem a7P {h:Heap}{H:Hp}{b:Addr}{o:Obj}(e:h.get? b=some o)(n:H b=none):(a6E h H).get? b=some o:=
 PySem.W.hideAll_get _ e fun hm=>by
  have q:(H b).isSome=true:=(mF0.mp hm).2;rw[n] at q;simp at q
theorem a9c {h:Heap}{H:Hp}{b:Addr}{o:Obj}(e:(a6E h H).get? b=some o):h.get? b=some o/\H b=none:=by
 have e':h.get? b=some o:=PySem.W.of_hideAll (trk h H) e;refine⟨e',?_⟩;cases q:H b with
 |none=>rfl
 |some x=>
  have hm:b∈trk h H:=mF0.mpr ⟨List.mem_range.mpr (hL0 e'),by simp[q]⟩;have z:(a6E h H).get? b=none:=PySem.W.hideAll_none (trk h H) hm;rw[z] at e;cases e
structure Mod (K:Fg0) (mg:Str->Option Value) (base:Heap):Prop where
 kin:K.In base
 glob:base.Ns mainGlobals mg
 blt:∃mb,base.Ns builtinsNs mb/\∀x:Str,x≠"__name__"->mb x=bootBuiltins x
 nolimit:base.NoLimit
structure Cx where
 prog:Program
 w:World
 K:Fg0
 mg:Str->Option Value
 base:Heap
 A:Around
 N:List Str
 s₀:Shared
 H₀:Hp
 env:Env
 outer:List Env
 stack:List Env
 ex:List Addr
 fn:Str->Bool
 calm:Bool
 pn:List (Addr×Obj)
 xe:Vs0
def frs (l:List Env):List Addr:=l.filterMap (·.frame)
abbrev Cx.fs (X:Cx):List Addr:=frs X.outer
def Vis (sc:Scope)(x:Str):Prop:=sc.names.lookup x=some .local\/sc.names.lookup x=some .cell\/sc.names.lookup x=some .free
def Loc (sc:Scope)(x:Str):Prop:=sc.names.lookup x=some .local\/sc.names.lookup x=some .cell
def b6F (env:Env)(h:Heap)(m:Str->Option Value)(x:Str)(u:Value):Prop:=
 (env.kindOf x=some .local/\m x=some u)\/((env.kindOf x=some .cell\/env.kindOf x=some .free)/\∃c,env.cells.lookup x=some c/\h.IsCell c (some u))
structure Cx.Ok (X:Cx):Prop where
 mod:Mod X.K X.mg X.base
 kind:X.env.scope.kind=.function
 glob:X.env.globals=mainGlobals
 blt:X.env.builtins=builtinsNs
 above:X.s₀.heap.objs.size<=X.env.locals
 inj:∀x y c,X.env.cells.lookup x=some c->X.env.cells.lookup y=some c->x=y
 has:∀x,(X.env.kindOf x=some .cell\/X.env.kindOf x=some .free)->∃c,X.env.cells.lookup x=some c
 cab:∀x c,X.fn x=true->X.env.cells.lookup x=some c->X.s₀.heap.objs.size<=c
 hd:X.calm=true->X.A.handled=none
 frames:X.A.frames=some X.stack
 stk:X.stack=X.outer\/(X.stack=X.env::X.outer/\X.env.frame=some X.env.locals)
 exf:∀b∈X.ex,b≠X.env.locals/\∀x c,X.env.cells.lookup x=some c->c≠b
 bs:∀b o,X.base.get? b=some o->X.s₀.heap.get? b=some o/\X.H₀ b=none
 bsz:X.base.objs.size<=X.s₀.heap.objs.size
 noex:∀b o,X.base.get? b=some o->b∉X.ex
 exfs:∀b∈X.ex,b∉X.fs
 funs:X.s₀.heap.FunFrames X.base X.outer
 frf:∀b∈X.fs,X.H₀ b=none
structure Inv (X:Cx) (pins:List (Addr×Obj)) (σ:List (Option V)) (H:Hp) (s:Shared):Prop where
 ok:X.Ok
 os:s.os=X.s₀.os
 bare:AllBare s.gens
 base:Un X.fs X.ex X.H₀ H X.s₀.heap s.heap
 loc:∃m,s.heap.Ns X.env.locals m/\∀(i:Nat) (x:Str) (v:V),X.N[i]? =some x->σ[i]? =some (some v)->Vis X.env.scope x->∃u,a1e v u/\b6F X.env s.heap m x u
 cell:∀x c,X.env.cells.lookup x=some c->∃v,s.heap.IsCell c v
 free:H X.env.locals=none
 freeC:∀x c,X.env.cells.lookup x=some c->H c=none
 pin:∀p∈X.pn++pins,s.heap.get? p.1=some p.2/\H p.1=none/\p.1≠X.env.locals/\p.1∉X.fs/\∀v,p.2.data≠.cell v
 hok:HOk X.prog X.w H s.heap
 len:σ.length=X.N.length
section
variable {X:Cx}{pins:List (Addr×Obj)}{σ:List (Option V)}{H H':Hp}{s:Shared}{h':Heap}
theorem Cx.Ok.nofr (ok:X.Ok){b:Addr}{o:Obj}(e:X.base.get? b=some o):b∉X.fs:=fun hb=>by
 have:=(ok.funs.mem hb).1
 rw[e] at this;cases this
theorem Inv.bs (I:Inv X pins σ H s):∀b o,X.base.get? b=some o->s.heap.get? b=some o/\H b=none:=fun b o e=>
 ⟨I.base.keep b o (I.ok.bs b o e).1 (I.ok.bs b o e).2 (I.ok.nofr e) (I.ok.noex b o e),I.base.free b o (I.ok.bs b o e).1 (I.ok.bs b o e).2 (I.ok.noex b o e)⟩
theorem Inv.bk (I:Inv X pins σ H s):∀b o,X.base.get? b=some o->s.heap.get? b=some o:=fun b o e=>(I.bs b o e).1
theorem Inv.mod (I:Inv X pins σ H s):Mod X.K X.mg X.base:=I.ok.mod
theorem Inv.kIn (I:Inv X pins σ H s):X.K.In s.heap:=I.ok.mod.kin.keeps I.bk
theorem Inv.lt (I:Inv X pins σ H s):X.env.locals<s.heap.objs.size:=let ⟨_,hn,_⟩:=I.loc;hn.lt
theorem Inv.sz (I:Inv X pins σ H s):X.s₀.heap.objs.size<=s.heap.objs.size:=Nat.le_trans I.ok.above (Nat.le_of_lt I.lt)
theorem Inv.nofs (I:Inv X pins σ H s){a:Addr}(h:s.heap.objs.size<=a):a∉X.fs:=fun hb=>by
 obtain⟨_,o,ho,_⟩:=I.ok.funs.mem hb;exact absurd (Nat.lt_of_lt_of_le (hL0 ho) (Nat.le_trans I.sz h)) (Nat.lt_irrefl _)
theorem Inv.cne (I:Inv X pins σ H s):∀x c,X.env.cells.lookup x=some c->c≠X.env.locals:=fun x c e z=>by
 obtain⟨v,o,ho,hd⟩:=I.cell x c e;obtain⟨m,⟨o',es,ep,ho',hd',_⟩,_⟩:=I.loc;rw[z,ho'] at ho;cases ho;rw[hd'] at hd;cases hd
theorem Inv.funs (I:Inv X pins σ H s):s.heap.FunFrames X.base X.outer:=by
 have all:∀(l:List Env),(∀b∈frs l,b∈X.fs)->X.s₀.heap.FunFrames X.base l->s.heap.FunFrames X.base l:=by
  intro l
  induction l with
  |nil=>intro _ _;trivial
  |cons env r ih=>
   intro hs hl;obtain⟨hk,⟨L,o,hf,hn,ho,hd⟩,hr⟩:=hl;have hL:L∈X.fs:=hs L (by unfold frs;rw[List.filterMap_cons,hf];exact List.mem_cons_self);obtain⟨sl,e⟩:=I.base.slot L o ho (I.ok.frf L hL) hL fun z=>I.ok.exfs L z hL;exact⟨hk,⟨L,_,hf,hn,e,hd⟩,ih (fun b hb=>hs b (by unfold frs;rw[List.filterMap_cons,hf];exact mL0 _ hb)) hr⟩
 exact all X.outer (fun _ hb=>hb) I.ok.funs
theorem Inv.stack (I:Inv X pins σ H s):s.heap.FunFrames X.base X.stack:=by
 rcases I.ok.stk with e |⟨e,hf⟩
 ·rw[e];exact I.funs
 ·rw[e]
  obtain⟨m,hn,_⟩:=I.loc;refine .cons (by rw[I.ok.kind];decide) hf hn ?_ I.funs;exact Heap.get?_none_of_le (Nat.le_trans I.ok.bsz I.ok.above)
theorem Inv.stkSub (I:Inv X pins σ H s):∀b∈frs X.stack,b∈X.env.locals::X.fs:=fun b hb=>by
 rcases I.ok.stk with e |⟨e,hf⟩
 ·rw[e] at hb;exact mL0 _ hb
 ·rw[e] at hb
  unfold frs at hb;rw[List.filterMap_cons,hf] at hb;exact hb
theorem Inv.stkFree (I:Inv X pins σ H s):∀b∈frs X.stack,H b=none:=fun b hb=>by
 rcases mK0.mp (I.stkSub b hb) with e |hb
 ·rw[e];exact I.free
 ·obtain⟨_,o,ho,_⟩:=I.ok.funs.mem hb
  exact I.base.free b o ho (I.ok.frf b hb) fun z=>I.ok.exfs b z hb
theorem Inv.step {g':Array GenState}{t':Nat}{d':Drawn}{ch:List Addr}(I:Inv X pins σ H s)
  (hch:∀b∈ch,(b∈X.ex\/X.s₀.heap.objs.size<=b)/\b≠X.env.locals/\(∀x c,X.env.cells.lookup x=some c->c≠b)/\∀p∈X.pn++pins,p.1≠b)
  (keep:∀b o,b≠X.env.locals->b∉X.fs->b∉ch->s.heap.get? b=some o->H b=none->h'.get? b=some o)
  (slot:∀b o,b≠X.env.locals->b∈X.fs->b∉ch->s.heap.get? b=some o->H b=none->∃sl,h'.get? b=some { o with slots:=sl }) (free:∀b o,b∉ch->s.heap.get? b=some o->H b=none->H' b=none)
  (there:∀b o,b∉ch->s.heap.get? b=some o->∃o',h'.get? b=some o')
  (tups:∀b xs,H b=some (.tup xs)->H' b=some (.tup xs)) (frzs:∀b o u,H b=some (.frz o u)->H' b=some (.frz o u)) (tbls:∀b ps,H b=some (.tbl ps)->∃more,H' b=some (.tbl (ps++more)))
  (ns:∀m,s.heap.Ns X.env.locals m->h'.Ns X.env.locals m) (hok:HOk X.prog X.w H' h') (hg:AllBare g') :
  Inv X pins σ H' { s with heap:=h',gens:=g',drawn:=d',toks:=t' }:=by
 have neL:∀b o,X.s₀.heap.get? b=some o->b≠X.env.locals:=fun b o e=>nL0 (Nat.lt_of_lt_of_le (hL0 e) I.ok.above);have neC:∀b o,X.s₀.heap.get? b=some o->b∉X.ex->b∉ch:=fun b o e hx hb=>by
  rcases (hch b hb).1 with z |z
  ·exact hx z
  ·exact absurd (Nat.lt_of_lt_of_le (hL0 e) z) (Nat.lt_irrefl _)
 have cellK:∀x c,X.env.cells.lookup x=some c->∀v,s.heap.IsCell c v->h'.IsCell c v:=fun x c e v ⟨o,ho,hd⟩=>by
  have nch:c∉ch:=fun z=>(hch c z).2.2.1 x c e rfl
  by_cases hc:c∈X.fs
  ·obtain⟨sl,q⟩:=slot c o (I.cne x c e) hc nch ho (I.freeC x c e)
   exact⟨_,q,hd⟩
  ·exact⟨o,keep c o (I.cne x c e) hc nch ho (I.freeC x c e),hd⟩
 refine⟨I.ok,I.os,hg,⟨fun b o e n hb hx=>?_,fun b o e n hb hx=>?_,fun b o e n hx=>?_,fun b o e hx=>?_,fun b xs e=>tups b xs (I.base.tups b xs e),fun b o xs e=>frzs b o xs (I.base.frzs b o xs e),fun b ps e=>?_⟩,?_,fun x c e=>?_,?_,fun x c e=>?_,fun p hp=>?_,hok,I.len⟩
 ·exact keep b o (neL b o e) hb (neC b o e hx) (I.base.keep b o e n hb hx) (I.base.free b o e n hx)
 ·obtain⟨sl,e1⟩:=I.base.slot b o e n hb hx
  obtain⟨sl',e2⟩:=slot b _ (neL b o e) hb (neC b o e hx) e1 (I.base.free b o e n hx);exact⟨sl',e2⟩
 ·obtain⟨o',e1⟩:=I.base.there b o e hx
  exact free b o' (neC b o e hx) e1 (I.base.free b o e n hx)
 ·obtain⟨o',e1⟩:=I.base.there b o e hx
  exact there b o' (neC b o e hx) e1
 ·obtain⟨m1,e1⟩:=I.base.tbls b ps e
  obtain⟨m2,e2⟩:=tbls b _ e1;exact⟨m1++m2,by rw[e2,Array.append_assoc]⟩
 ·obtain⟨m,hn,hl⟩:=I.loc
  refine⟨m,ns m hn,fun i x v e1 e2 e3=>?_⟩;obtain⟨u,r,l⟩:=hl i x v e1 e2 e3;refine⟨u,r,?_⟩;rcases l with l |⟨k,c,e,z⟩
  ·exact .inl l
  ·exact .inr ⟨k,c,e,cellK x c e _ z⟩
 ·obtain⟨v,z⟩:=I.cell x c e
  exact⟨v,cellK x c e v z⟩
 ·obtain⟨m,⟨o,_,_,ho,_⟩,_⟩:=I.loc
  exact free _ o (fun z=>(hch _ z).2.1 rfl) ho I.free
 ·obtain⟨v,o,ho,hd⟩:=I.cell x c e
  exact free c o (fun z=>(hch c z).2.2.1 x c e rfl) ho (I.freeC x c e)
 ·obtain⟨e,n,ne,nf,d⟩:=I.pin p hp
  have nch:p.1∉ch:=fun z=>(hch p.1 z).2.2.2 p hp rfl;exact⟨keep p.1 p.2 ne nf nch e n,free p.1 p.2 nch e n,ne,nf,d⟩
theorem Inv.un {t':Nat}(I:Inv X pins σ H s)(u:Un X.fs [] H H' s.heap h')(hok:HOk X.prog X.w H' h'):Inv X pins σ H' { s with heap:=h',toks:=t' }:=by
 obtain⟨m,⟨o,es,ep,ho,r⟩,_⟩:=id I.loc;obtain⟨sl,hL⟩:=u.any ho I.free (by simp);exact I.step (g':=s.gens) (d':=s.drawn) (ch:=[]) (fun _ z=>nomatch z) (fun b o _ hb _ e n=>u.keep b o e n hb (by simp)) (fun b o _ hb _ e n=>u.slot b o e n hb (by simp)) (fun b o _ e n=>u.free b o e n (by simp)) (fun b o _ e=>u.there b o e (by simp)) u.tups u.frzs u.tbls (fun m' hm=>by
  obtain⟨o',es',ep',ho',r'⟩:=hm;rw[ho] at ho';cases ho';exact⟨_,es',ep',hL,r'⟩) hok I.bare
theorem Inv.call {g':Array GenState}{t':Nat}{d':Drawn}{ch:List Addr}(I:Inv X pins σ H s)(u:Un (frs X.stack) ch H H' s.heap h')(hok:HOk X.prog X.w H' h')(hg:AllBare g')
  (hch:∀b∈ch,(b∈X.ex\/X.s₀.heap.objs.size<=b)/\b≠X.env.locals/\(∀x c,X.env.cells.lookup x=some c->c≠b)/\∀p∈X.pn++pins,p.1≠b) :
  Inv X pins σ H' { s with heap:=h',gens:=g',drawn:=d',toks:=t' }:=by
 obtain⟨m,⟨o,es,ep,ho,r⟩,_⟩:=id I.loc;obtain⟨sl,hL⟩:=u.any ho I.free fun z=>(hch _ z).2.1 rfl;exact I.step (ch:=ch) hch (fun b o hL hb hc e n=>u.keep b o e n (fun z=>(mK0.mp (I.stkSub b z)).elim hL hb) hc) (fun b o _ _ hc e n=>u.any e n hc) (fun b o hc e n=>u.free b o e n hc) (fun b o hc e=>u.there b o e hc) u.tups u.frzs u.tbls (fun m' hm=>by
  obtain⟨o',es',ep',ho',r'⟩:=hm;rw[ho] at ho';cases ho';exact⟨_,es',ep',hL,r'⟩) hok hg
theorem Inv.turned {t':Nat}{it:Addr}(I:Inv X pins σ H s)(k:∀b o,b≠it->s.heap.get? b=some o->h'.get? b=some o)(hn:H it=none)(hL:it≠X.env.locals)
  (h1:it∈X.ex\/X.s₀.heap.objs.size<=it) (h2:∀x c,X.env.cells.lookup x=some c->c≠it) (h3:∀p∈X.pn++pins,p.1≠it):Inv X pins σ H { s with heap:=h',toks:=t' }:=by
 have nit:∀b u,H b=some u->b≠it:=fun b u e z=>by rw[z,hn] at e;cases e
 refine I.step (g':=s.gens) (d':=s.drawn) (ch:=[it]) (fun b hb=>?_) (fun b o _ _ hc e _=>k b o (fun z=>hc (by simp[z])) e) (fun b o _ _ hc e _=>⟨o.slots,k b o (fun z=>hc (by simp[z])) e⟩) (fun _ _ _ _ n=>n)
  (fun b o hc e=>⟨o,k b o (fun z=>hc (by simp[z])) e⟩) (fun _ _ e=>e) (fun _ _ _ e=>e) (fun b ps e=>⟨#[],by rw[e];simp⟩) (fun m hm=>?_) (fun b u e=>?_) I.bare
 ·have e:b=it:=by simpa using hb
  subst e;exact⟨h1,hL,h2,h3⟩
 ·obtain⟨o,es,ep,ho,r⟩:=hm
  exact⟨o,es,ep,k _ o (Ne.symm hL) ho,r⟩
 ·refine(I.hok b u e).stay (fun c v hc q=>k c v ?_ q) (fun _ q=>q) fun _ _ q=>q
  rcases hc with z |z
  ·rw[z];exact nit b u e
  ·exact nit c _ z
theorem Inv.tok (I:Inv X pins σ H s)(t:Nat):Inv X pins σ H { s with toks:=t }:=I.un (h':=s.heap) (t':=t) Un.refl I.hok
theorem Inv.kept {t':Nat}(I:Inv X pins σ H s)(k:∀b u,s.heap.get? b=some u->h'.get? b=some u):Inv X pins σ H { s with heap:=h',toks:=t' }:=I.un (Un.kept k) (I.hok.kept k)
theorem Inv.laid {a:Addr}{o:HO}{t':Nat}(I:Inv X pins σ H s)(k:∀b u,s.heap.get? b=some u->h'.get? b=some u)(hp:s.heap.objs.size<=a)(new:a1h X.prog X.w (upd H a o) h' a o) :
  Inv X pins σ (upd H a o) { s with heap:=h',toks:=t' }:=I.un (Un.laid k hp (I.hok.fresh hp)) (I.hok.laid k hp new)
theorem Inv.write {x e:Addr}{o:HO}{t':Nat}(I:Inv X pins σ H s)(mu:Mut (H x))(he:e=x\/H e=some (.own x))(k:∀b u,b≠e->s.heap.get? b=some u->h'.get? b=some u)(heo:∃u,h'.get? e=some u)
  (new:a1h X.prog X.w (upd H x o) h' x o):Inv X pins σ (upd H x o) { s with heap:=h',toks:=t' }:=I.un (Un.write mu he k heo) (I.hok.write mu he k heo new)
theorem Inv.pins_of {pins':List (Addr×Obj)}(I:Inv X pins σ H s)(h:∀p∈pins',s.heap.get? p.1=some p.2/\H p.1=none/\p.1≠X.env.locals/\p.1∉X.fs/\∀v,p.2.data≠.cell v):Inv X pins' σ H s:=
 ⟨I.ok,I.os,I.bare,I.base,I.loc,I.cell,I.free,I.freeC,fun p hp=>(mB0.mp hp).elim (fun z=>I.pin p (List.mem_append_left _ z)) (h p),I.hok,I.len⟩
theorem a4Y {N:List Str}(hN:N.Nodup){i j:Nat}{x:Str}(a:N[i]? =some x)(b:N[j]? =some x):i=j:=by
 obtain⟨h1,e1⟩:=gS0.mp a;obtain⟨h2,e2⟩:=gS0.mp b;exact(List.getElem_inj hN).mp (e1.trans e2.symm)
theorem a6d {M:Model}{A:Around}{E:Vs0}{i:Nat}{x:Str}{v:V}{u:Value}{Q:Unit->Shared->Prop}(I:Inv X pins σ H s)(hN:X.N.Nodup)(hi:X.N[i]? =some x)(hx:Loc X.env.scope x)(r:a1e v u)
  (h:∀s',Inv X pins (σ.set i (some v)) H s'->(∃a,Heap.SameBut a s.heap s'.heap/\(a=X.env.locals\/X.env.cells.lookup x=some a))->Q () s') (hf:X.fn x=true\/X.env.scope.names.lookup x=some .local:=by first |exact .inl rfl |exact .inr rfl |assumption):wpAny M A (storeName X.env x u) Q E s:=by
 obtain⟨m,hn,hl⟩:=id I.loc;have hcls:(X.env.scope.kind==.class || (X.env.scope.kind==.module&&X.env.locals != X.env.globals))=false:=by rw[I.ok.kind];rfl
 have hiσ:i<σ.length:=by rw[I.len];exact(gS0.mp hi).1
 have cne:=I.cne;have tracked:∀{a:Addr} {h':Heap},(∃o,s.heap.get? a=some o/\H a=none)->Heap.SameBut a s.heap h'->HOk X.prog X.w H h':=fun {a h'} ha hs b ob e=>by
  obtain⟨_,_,hfree⟩:=ha;refine(I.hok b ob e).stay (fun c w' hc q=>(hs.2 c ?_).trans q) (fun _ q=>q) fun _ _ q=>q;rintro rfl;rcases hc with rfl |hc
  ·rw[hfree] at e;cases e
  ·rw[hfree] at hc;cases hc
 rcases hx with hk |hk
 ·refine wpAny_storeName_local hk hn (fun h' hn' hs=>?_) hcls
  obtain⟨oL,_,_,hoL,_⟩:=id hn;refine h _ ⟨I.ok,I.os,I.bare,⟨fun b o e n hb hx=>?_,fun b o e n hb hx=>?_,I.base.free,fun b o e hx=>?_,I.base.tups,I.base.frzs,I.base.tbls⟩,⟨_,hn',fun j y v' e1 e2 e3=>?_⟩,fun y c e=>?_,I.free,I.freeC,fun p hp=>?_,tracked ⟨oL,hoL,I.free⟩ hs,by simpa using I.len⟩ ⟨_,hs,.inl rfl⟩
  ·exact(hs.2 b (nL0 (Nat.lt_of_lt_of_le (hL0 e) I.ok.above))).trans (I.base.keep b o e n hb hx)
  ·obtain⟨sl,e1⟩:=I.base.slot b o e n hb hx
   exact⟨sl,(hs.2 b (nL0 (Nat.lt_of_lt_of_le (hL0 e) I.ok.above))).trans e1⟩
  ·obtain⟨o',e1⟩:=I.base.there b o e hx
   exact⟨o',(hs.2 b (nL0 (Nat.lt_of_lt_of_le (hL0 e) I.ok.above))).trans e1⟩
  ·by_cases hj:j=i
   ·subst hj
    rw[hi] at e1;cases e1;rw[List.getElem?_set_self hiσ] at e2;cases e2;exact⟨u,r,.inl ⟨hk,by simp⟩⟩
   ·rw[List.getElem?_set_ne (Ne.symm hj)] at e2
    obtain⟨u',r',q⟩:=hl j y v' e1 e2 e3;refine⟨u',r',?_⟩;rcases q with ⟨k,e⟩ |⟨k,c,e,z⟩
    ·refine .inl ⟨k,?_⟩
     have:y≠x:=fun e=>hj (a4Y hN e1 (e▸hi))
     simp[this,e]
    ·exact .inr ⟨k,c,e,z.sameBut hs (cne y c e)⟩
  ·obtain⟨w',z⟩:=I.cell y c e
   exact⟨w',z.sameBut hs (cne y c e)⟩
  ·obtain⟨e,n,ne,nf,d⟩:=I.pin p hp
   exact⟨(hs.2 p.1 ne).trans e,n,ne,nf,d⟩
 ·have hfn:X.fn x=true:=by
   rcases hf with z |z
   ·exact z
   ·rw[z] at hk;cases hk
  obtain⟨c,hc⟩:=I.ok.has x (.inl hk);obtain⟨w',z⟩:=I.cell x c hc;refine wpAny_storeName_cell I.ok.kind hk hc z (fun h' hc' hs=>?_);obtain⟨oc,hoc,hocd⟩:=id z;refine h { s with heap:=h' } ⟨I.ok,I.os,I.bare,⟨fun b o e n hb hx=>?_,fun b o e n hb hx=>?_,I.base.free,fun b o e hx=>?_,I.base.tups,I.base.frzs,I.base.tbls⟩,⟨m,hn.sameBut hs (Ne.symm (cne x c hc)),fun j y v' e1 e2 e3=>?_⟩,fun y c' e=>?_,I.free,I.freeC,fun p hp=>?_,tracked ⟨oc,hoc,I.freeC x c hc⟩ hs,by simpa using I.len⟩ ⟨c,hs,.inr hc⟩
  ·exact(hs.2 b (nL0 (Nat.lt_of_lt_of_le (hL0 e) (I.ok.cab x c hfn hc)))).trans (I.base.keep b o e n hb hx)
  ·obtain⟨sl,e1⟩:=I.base.slot b o e n hb hx
   exact⟨sl,(hs.2 b (nL0 (Nat.lt_of_lt_of_le (hL0 e) (I.ok.cab x c hfn hc)))).trans e1⟩
  ·obtain⟨o',e1⟩:=I.base.there b o e hx
   exact⟨o',(hs.2 b (nL0 (Nat.lt_of_lt_of_le (hL0 e) (I.ok.cab x c hfn hc)))).trans e1⟩
  ·by_cases hj:j=i
   ·subst hj
    rw[hi] at e1;cases e1;rw[List.getElem?_set_self hiσ] at e2;cases e2;exact⟨u,r,.inr ⟨.inl hk,c,hc,hc'⟩⟩
   ·rw[List.getElem?_set_ne (Ne.symm hj)] at e2
    obtain⟨u',r',q⟩:=hl j y v' e1 e2 e3;refine⟨u',r',?_⟩;rcases q with q |⟨k,c',e,z'⟩
    ·exact .inl q
    ·refine .inr ⟨k,c',e,z'.sameBut hs ?_⟩
     rintro rfl;exact hj (a4Y hN e1 (I.ok.inj _ _ _ e hc▸hi))
  ·by_cases hcc:c'=c
   ·subst hcc;exact⟨_,hc'⟩
   ·obtain⟨w2,z2⟩:=I.cell y c' e
    exact⟨w2,z2.sameBut hs hcc⟩
  ·obtain⟨e,n,ne,nf,d⟩:=I.pin p hp
   refine⟨(hs.2 p.1 ?_).trans e,n,ne,nf,d⟩;intro q;rw[q,hoc] at e;have q':oc=p.2:=Option.some.inj e;exact d w' (by rw[<-q'];exact hocd)
theorem a5q {M:Model}{A:Around}{E:Vs0}{i:Nat}{x:Str}{v:V}{u:Value}{Q:Unit->Shared->Prop}(I:Inv X pins σ H s)(hN:X.N.Nodup)(hi:X.N[i]? =some x)(hx:Loc X.env.scope x)(r:a1e v u)
  (h:∀s',Inv X pins (σ.set i (some v)) H s'->Q () s') (hf:X.fn x=true\/X.env.scope.names.lookup x=some .local:=by first |exact .inl rfl |exact .inr rfl |assumption):wpAny M A (storeName X.env x u) Q E s:=
 a6d I hN hi hx r (fun s' I' _=>h s' I') hf
theorem Inv.call' {s':Shared}{ch:List Addr}(I:Inv X pins σ H s)(ho:s'.os=s.os)(u:Un (frs X.stack) ch H H' s.heap s'.heap)(hok:HOk X.prog X.w H' s'.heap)(hg:AllBare s'.gens)
  (hch:∀b∈ch,(b∈X.ex\/X.s₀.heap.objs.size<=b)/\b≠X.env.locals/\(∀x c,X.env.cells.lookup x=some c->c≠b)/\∀p∈X.pn++pins,p.1≠b):Inv X pins σ H' s':=by
 obtain⟨h',g',d',t',o'⟩:=s';have e:o'=s.os:=ho;subst e;exact I.call (g':=g') (t':=t') (d':=d') u hok hg hch
end
abbrev XK:=Value->Option Addr->Hp->Prop
abbrev St:=List (Option V)
abbrev VK:=V->Hp->Prop
abbrev TE:=St->Hp->VK->Prop
abbrev TT:=St->Hp->(Bool->Hp->Prop)->Prop
abbrev TA:=St->Hp->(List V->Hp->Prop)->Prop
structure a4J where
 nx:St->Hp->Prop
 rt:VK
 bk:St->Hp->Prop:=fun _ _=>False
 ct:St->Hp->Prop:=fun _ _=>False
abbrev TS:=a4J->St->Hp->Prop
def EP (X:Cx)(pins:List (Addr×Obj))(σ:St)(Q:VK)(u:Value)(s':Shared):Prop:=∃v H',Inv X pins σ H' s'/\a1e v u/\Q v H'
def TP (X:Cx)(pins:List (Addr×Obj))(σ:St)(Q:Bool->Hp->Prop)(b:Bool)(s':Shared):Prop:=∃H',Inv X pins σ H' s'/\Q b H'
def AP (X:Cx)(pins:List (Addr×Obj))(σ:St)(Q:List V->Hp->Prop)(us:List Value)(s':Shared):Prop:=∃vs H',Inv X pins σ H' s'/\a1l vs us/\Q vs H'
def SP (X:Cx)(pins:List (Addr×Obj))(D:a4J)(f:Flow)(s':Shared):Prop:=
 match f with
 | .next=>∃σ' H',Inv X pins σ' H' s'/\D.nx σ' H'
 | .brk=>∃σ' H',Inv X pins σ' H' s'/\D.bk σ' H'
 | .cont=>∃σ' H',Inv X pins σ' H' s'/\D.ct σ' H'
 | .ret u=>∃v σ' H',Inv X pins σ' H' s'/\a1e v u/\D.rt v H'
def PE (X:Cx)(e:Expr)(t:TE):Prop:=
 ∀(pins:List (Addr×Obj)) (s:Shared) (σ:St) (H:Hp) (Q:VK),Inv X pins σ H s->t σ H Q->wpAny (model X.prog X.w) X.A (eval e X.env) (EP X pins σ Q) X.xe s
def PT (X:Cx)(e:Expr)(t:TT):Prop:=
 ∀(pins:List (Addr×Obj)) (s:Shared) (σ:St) (H:Hp) (Q:Bool->Hp->Prop),Inv X pins σ H s->t σ H Q->wpAny (model X.prog X.w) X.A (isTrue e X.env (eval e X.env)) (TP X pins σ Q) X.xe s
def PW (X:Cx)(e:Expr)(t:TT):Prop:=
 ∀(whole:Sem Value) (pins:List (Addr×Obj)) (s:Shared) (σ:St) (H:Hp) (Q:Bool->Hp->Prop),Inv X pins σ H s->t σ H Q->wpAny (model X.prog X.w) X.A (isTrue e X.env whole) (TP X pins σ Q) X.xe s
theorem PW.pt {X:Cx}{e:Expr}{t:TT}(h:PW X e t):PT X e t:=h _
def PA (X:Cx)(es:List Expr)(t:TA):Prop:=
 ∀(pos:Pos) (pins:List (Addr×Obj)) (s:Shared) (σ:St) (H:Hp) (Q:List V->Hp->Prop),Inv X pins σ H s->t σ H Q->wpAny (model X.prog X.w) X.A (spliced (backTo pos (starEach es X.env))) (AP X pins σ Q) X.xe s
def PS (X:Cx)(st:Stmt)(t:TS):Prop:=
 ∀(pins:List (Addr×Obj)) (s:Shared) (σ:St) (H:Hp) (D:a4J),Inv X pins σ H s->t D σ H->wpAny (model X.prog X.w) X.A (exec st X.env) (SP X pins D) X.xe s
def PSs (X:Cx)(st:List Stmt)(t:TS):Prop:=
 ∀(pins:List (Addr×Obj)) (s:Shared) (σ:St) (H:Hp) (D:a4J),Inv X pins σ H s->t D σ H->wpAny (model X.prog X.w) X.A (execs st X.env) (SP X pins D) X.xe s
theorem thn {α:Type}{t:Sem α}{Q Q':α->Shared->Prop}{M:Model}{A:Around}{E:Vs0}{s:Shared}(h:wpAny M A t Q E s)(hQ:∀a s,Q a s->Q' a s):wpAny M A t Q' E s:=wpAny_mono h hQ fun _ _ x=>x
section
variable {X:Cx}
theorem bin {a b:Expr}{ta tb:TE}(ha:PE X a ta)(hb:PE X b tb){pins:List (Addr×Obj)}{s:Shared}{σ:St}{H:Hp}{R:V->V->Hp->Prop}(I:Inv X pins σ H s)(h:ta σ H fun x H1=>tb σ H1 fun y H2=>R x y H2)
  {α:Type} {Q:α->Shared->Prop} {f:Value->Value->Sem α}
  (hf:∀v u s2 x y H2,Inv X pins σ H2 s2->a1e x v->a1e y u->R x y H2->wpAny (model X.prog X.w) X.A (f v u) Q X.xe s2) :
  wpAny (model X.prog X.w) X.A (eval a X.env) (fun v s₁=>wpAny (model X.prog X.w) X.A (eval b X.env) (fun u s₂=>wpAny (model X.prog X.w) X.A (f v u) Q X.xe s₂) X.xe s₁) X.xe s:=by
 refine thn (ha pins s σ H _ I h) fun v s1 ⟨x,H1,I1,r1,q1⟩=>?_;refine thn (hb pins s1 σ H1 _ I1 q1) fun u s2 ⟨y,H2,I2,r2,q2⟩=>?_;exact hf v u s2 x y H2 I2 r1 r2 q2
def b5h (i:Nat):TE:=fun σ H Q=>∃v,σ[i]? =some (some v)/\Q v H
def tC (v:V):TE:=fun _ H Q=>Q v H
theorem b3K {i:Nat}{x:Str}{pos:Pos}(hN:X.N[i]? =some x)(hv:Vis X.env.scope x)(hd:(x==("__debug__":Str))=false:=by decide)(hcd:(x==("__classdict__":Str))=false:=by decide):PE X (.Name x pos) (b5h i):=by
 intro pins s σ H Q I h;obtain⟨v,e,h⟩:=h;obtain⟨m,hn,hl⟩:=I.loc;obtain⟨u,r,l⟩:=hl i x v hN e hv;have fin:EP X pins σ Q u s:=⟨v,H,I,r,h⟩;rcases l with ⟨hk,hm⟩ |⟨hk,c,hc,hcell⟩
 ·exact wpAny_Name (wpAny_loadName_local I.ok.kind hk hn hm fin) hd
 ·rcases hk with hk |hk
  ·exact wpAny_Name (wpAny_loadName_cell I.ok.kind hk hc hcell fin) hd
  ·exact wpAny_Name (wpAny_loadName_free I.ok.kind hk hc hcell fin hcd) hd
theorem a0e {i j pos}:PE X (.Constant (.int i) j pos) (tC (.int i)):=fun _ _ _ H _ I h=>wpAny_Constant_int ⟨.int i,H,I.tok _,⟨_,rfl⟩,h⟩
theorem a3Q {b j pos}:PE X (.Constant (.bool b) j pos) (tC (.bl b)):=fun _ _ _ H _ I h=>Constant_bool ⟨.bl b,H,I,rfl,h⟩
theorem a2X {j pos}:PE X (.Constant .none j pos) (tC .non):=fun _ _ _ H _ I h=>Constant_none ⟨.non,H,I,rfl,h⟩
theorem a0v {x j pos}:PE X (.Constant (.str x) j pos) (tC (.str x)):=fun _ _ _ H _ I h=>Calls.Constant_str ⟨.str x,H,I.tok _,⟨_,rfl⟩,h⟩
def Gl (X:Cx)(x:Str):Prop:=X.env.kindOf x=some .globalImplicit
theorem a3a {E:Vs0}{pins:List (Addr×Obj)}{s:Shared}{σ:St}{H:Hp}{x:Str}{u:Value}{pos:Pos}{Q:Vs0}(I:Inv X pins σ H s)(hg:Gl X x)(hm:X.mg x=some u)(h:Q u s)
  (hd:(x==("__debug__":Str))=false:=by decide):wpAny (model X.prog X.w) X.A (eval (.Name x pos) X.env) Q E s:=
 Calls.Name_function_global I.ok.kind hg (Calls.loadGlobal_global (by rw[I.ok.glob];exact I.mod.glob.keeps I.bk) hm h) hd
theorem a4m {E:Vs0}{pins:List (Addr×Obj)}{s:Shared}{σ:St}{H:Hp}{x:Str}{u:Value}{pos:Pos}{Q:Vs0}(I:Inv X pins σ H s)(hg:Gl X x)(hm:X.mg x=none)(hv:bootBuiltins x=some u)(h:Q u s)
  (hn:x≠"__name__":=by decide) (hd:(x==("__debug__":Str))=false:=by decide):wpAny (model X.prog X.w) X.A (eval (.Name x pos) X.env) Q E s:=by
 obtain⟨mb,h1,h2⟩:=I.mod.blt;exact Calls.Name_function_global I.ok.kind hg (Calls.loadGlobal_builtin (by rw[I.ok.glob];exact I.mod.glob.keeps I.bk) hm (by rw[I.ok.blt];exact h1.keeps I.bk) ((h2 x hn).trans hv) h) hd
theorem a2l {x:Str}{v:V}{u:Value}{pos:Pos}(hg:Gl X x)(hm:X.mg x=some u)(r:a1e v u)(hd:(x==("__debug__":Str))=false:=by decide):PE X (.Name x pos) (tC v):=
 fun _ _ _ H _ I h=>a3a I hg hm ⟨v,H,I,r,h⟩ hd
theorem a0B {x:Str}{v:V}{u:Value}{pos:Pos}(hg:Gl X x)(hm:X.mg x=none)(hv:bootBuiltins x=some u)(r:a1e v u)(hn:x≠"__name__":=by decide)(hd:(x==("__debug__":Str))=false:=by decide):PE X (.Name x pos) (tC v):=
 fun _ _ _ H _ I h=>a4m I hg hm hv ⟨v,H,I,r,h⟩ hn hd
variable {a b:Expr}{ta tb:TE}{pos:Pos}
def PC (X:Cx)(op:CmpOp)(a b:Expr)(t:TE):Prop:=
 ∀(pins:List (Addr×Obj)) (s:Shared) (σ:St) (H:Hp) (Q:VK),Inv X pins σ H s->t σ H Q →
  wpAny (model X.prog X.w) X.A (eval a X.env) (fun v s₁=>wpAny (model X.prog X.w) X.A (eval b X.env) (fun u s₂=>wpAny (model X.prog X.w) X.A (compareOp op v u) (EP X pins σ Q) X.xe s₂) X.xe s₁) X.xe s
def tB (t:TE):TT:=fun σ H Q=>t σ H fun x H1=>∃c,x=.bl c/\Q c H1
theorem a3E {op:CmpOp}{t:TE}(h:PC X op a b t)(h1:behindInMarks op b=false:=by first |exact nobehind _ (by decide) (by decide) |rfl):PE X (.Compare a [op] [b] pos) t:=fun pins s σ H Q I hw=>wpAny_Compare1 (h pins s σ H Q I hw) h1
theorem b3Q {op:CmpOp}{t:TE}(h:PC X op a b t)(h1:behindInMarks op b=false:=by first |exact nobehind _ (by decide) (by decide) |rfl):PT X (.Compare a [op] [b] pos) (tB t):=by
 intro pins s σ H Q I hw;refine wpAny_isTrue_Compare1 (thn (h pins s σ H _ I hw) fun v s1 h1=>thn h1 fun u s2 h2=>thn h2 fun c s3 ⟨x,H1,I1,r1,q1⟩=>?_) h1;obtain⟨d,rfl,q⟩:=q1;cases r1;exact wpAny_truthy_bool ⟨H1,I1,q⟩
theorem a0K {e:Expr}{t:TE}(h:PE X e t)(he:∀whole,isTrue e X.env whole=(do let v <-whole;standAt e.pos;holding [v] (truthy v)):=by intro _;rfl):PT X e (tB t):=by
 intro pins s σ H Q I hw;refine isTrue_plain (thn (h pins s σ H _ I hw) fun v s1 ⟨x,H1,I1,r1,q1⟩=>?_) (he _);obtain⟨d,rfl,q⟩:=q1;cases r1;exact wpAny_truthy_bool ⟨H1,I1,q⟩
variable {tA tB':TT}{rest:List Expr}
def tOr (t u:TT):TT:=fun σ H Q=>t σ H fun c H1=>if c=true then Q true H1 else u σ H1 Q
def tNot (t:TT):TT:=fun σ H Q=>t σ H fun c H1=>Q (!c) H1
theorem a2n (ha:PT X a tA):PW X (.BoolOp .Or [a] pos) tA:=by
 intro wh pins s σ H Q I h;refine isTrue_or (thn (ha pins s σ H Q I h) fun c s1 e=>?_);cases c with
 |false=>exact isTrue_or_nil e
 |true=>exact e
theorem a3x (ha:PT X a tA)(hb:PW X (.BoolOp .Or (b::rest) pos) tB'):PW X (.BoolOp .Or (a::b::rest) pos) (tOr tA tB'):=by
 intro wh pins s σ H Q I h;refine isTrue_or (thn (ha pins s σ H _ I h) fun c s1 ⟨H1,I1,q1⟩=>?_);cases c with
 |true=>exact⟨H1,I1,q1⟩
 |false=>exact hb wh pins s1 σ H1 Q I1 q1
theorem a1P (ha:PT X a tA):PT X (.UnaryOp .Not a pos) (tNot tA):=by
 intro pins s σ H Q I h;exact isTrue_not (ha pins s σ H (fun c H1=>Q (!c) H1) I h)
def b6j (ta tb:TE):TE:=fun σ H Q=>ta σ H fun x H1=>∃c,x=.bl c/\if c=true then tb σ H1 Q else Q (.bl false) H1
def b5A (ta:TE):TE:=fun σ H Q=>ta σ H fun x H1=>∃c,x=.bl c/\Q (.bl (!c)) H1
theorem a1M {op}{t:TE}(h:PE X a t):PE X (.BoolOp op [a] pos) t:=fun pins s σ H Q I hw=>BoolOp_one (h pins s σ H Q I hw)
theorem a1y (ha:PE X a ta)(hb:PE X (.BoolOp .And (b::rest) pos) tb):PE X (.BoolOp .And (a::b::rest) pos) (b6j ta tb):=by
 intro pins s σ H Q I h;refine BoolOp_and (thn (ha pins s σ H _ I h) fun v s1 ⟨x,H1,I1,r1,q1⟩=>?_);obtain⟨c,rfl,q1⟩:=q1;cases r1;refine wpAny_truthy_bool ?_;cases c with
 |true=>exact hb pins s1 σ H1 Q I1 q1
 |false=>exact⟨.bl false,H1,I1,rfl,q1⟩
theorem a9r (ha:PE X a ta):PE X (.UnaryOp .Not a pos) (b5A ta):=by
 intro pins s σ H Q I h;refine UnaryOp_ (thn (ha pins s σ H _ I h) fun v s1 ⟨x,H1,I1,r1,q1⟩=>?_);obtain⟨c,rfl,q1⟩:=q1;cases r1;exact not_of (wpAny_truthy_bool ⟨.bl (!c),H1,I1,rfl,q1⟩)
def tIf (t:TT)(ta tb:TE):TE:=fun σ H Q=>t σ H fun c H1=>if c=true then ta σ H1 Q else tb σ H1 Q
theorem b0V {c:Expr}(hc:PT X c tA)(ha:PE X a ta)(hb:PE X b tb):PE X (.IfExp c a b pos) (tIf tA ta tb):=by
 intro pins s σ H Q I h;refine wpAny_IfExp (thn (hc pins s σ H _ I h) fun d s1 ⟨H1,I1,q1⟩=>?_);cases d with
 |true=>exact ha pins s1 σ H1 Q I1 q1
 |false=>exact hb pins s1 σ H1 Q I1 q1
end
def SqL (K:Fg0)(H:Hp)(a:Addr)(xs:List V):Prop:=
 Rd H a (.lst xs) ∨
  ∃(o:Obj) (its:Array Value) (n:Nat),K.lookup a=some o/\o.cls=.type "list"/\o.dict=none/\o.data=.seq its n/\its.size<=sizeLine/\a1l xs its.toList
def SqT (K:Fg0)(H:Hp)(a:Addr)(xs:List V):Prop:=
 Rd H a (.tup xs) ∨
  ∃(o:Obj) (its:Array Value) (n:Nat),K.lookup a=some o/\o.cls=.type "tuple"/\o.data=.seq its n/\its.size<=sizeLine/\a1l xs its.toList
def absV:Value->Option V
 | .none=>some .non
 | .bool b=>some (.bl b)
 | .int i _=>some (.int i)
 | .str x _=>some (.str x)
 | .bytes b _=>some (.byt b)
 | .float b _=>some (.flt b)
 | .ref a=>some (.ref a)
 | .type n=>some (.ty n)
 |_=>none
theorem a1e.abs {x:V}{u:Value}(r:a1e x u):absV u=some x:=by
 cases x with
 |non=>cases r;rfl
 |bl _=>cases r;rfl
 |int _=>obtain⟨t,rfl⟩:=r;rfl
 |str _=>obtain⟨t,rfl⟩:=r;rfl
 |byt _=>obtain⟨t,rfl⟩:=r;rfl
 |flt _=>obtain⟨t,rfl⟩:=r;rfl
 |ref _=>cases r;rfl
 |ty _=>cases r;rfl
theorem a1e.inj {x y:V}{u:Value}(r:a1e x u)(q:a1e y u):x=y:=Option.some.inj (r.abs.symm.trans q.abs)
theorem a1l.inj:∀{xs ys:List V} {us:List Value},a1l xs us->a1l ys us->xs=ys
 |_,_,_,.nil,.nil=>rfl
 |_,_,_,.cons r t,.cons r' t'=>by rw[r.inj r',a1l.inj t t']
section
variable {X:Cx}{pins:List (Addr×Obj)}{σ:St}{H:Hp}{s:Shared}{a:Addr}{xs ys:List V}
theorem SqL.of {K:Fg0}(h:H a=some (.lst xs)):SqL K H a xs:=.inl (.inl h)
theorem SqT.of {K:Fg0}(h:H a=some (.tup xs)):SqT K H a xs:=.inl (.inl h)
theorem Inv.list (I:Inv X pins σ H s)(h:SqL X.K H a xs):∃its:List Value,a1l xs its/\PlainL s.heap a its.toArray/\xs.length<=sizeLine:=by
 rcases h with h |⟨o,its,n,hk,hc,hd,hs,hz,r⟩
 ·obtain⟨z,its,n,r,e⟩:=h.ok I.hok
  exact⟨its,r,⟨_,n,e,rfl,rfl,rfl⟩,z⟩
 ·refine⟨its.toList,r,⟨o,n,I.kIn a o hk,hc,hd,by simpa using hs⟩,?_⟩
  have e:=r.length;simp only[aL0] at e
  omega
theorem Inv.tuple (I:Inv X pins σ H s)(h:SqT X.K H a xs):∃its:List Value,a1l xs its/\IsTup s.heap a its.toArray/\xs.length<=sizeLine:=by
 rcases h with h |⟨o,its,n,hk,hc,hs,hz,r⟩
 ·obtain⟨z,its,r,p⟩:=h.ok I.hok
  exact⟨its,r,p,z⟩
 ·refine⟨its.toList,r,⟨o,I.kIn a o hk,hc,n,by simpa using hs⟩,?_⟩
  have e:=r.length;simp only[aL0] at e
  omega
theorem Inv.list_inj (I:Inv X pins σ H s)(h:SqL X.K H a xs)(h':SqL X.K H a ys):xs=ys:=by
 obtain⟨its,r,⟨o,n,e,_,_,d⟩,_⟩:=I.list h;obtain⟨its',r',⟨o',n',e',_,_,d'⟩,_⟩:=I.list h';rw[e] at e';cases e';rw[d] at d'
 injection d' with d1 _
 have:its=its':=by simpa using congrArg Array.toList d1
 subst this;exact r.inj r'
theorem Inv.tuple_inj (I:Inv X pins σ H s)(h:SqT X.K H a xs)(h':SqT X.K H a ys):xs=ys:=by
 obtain⟨its,r,⟨o,e,_,n,d⟩,_⟩:=I.tuple h;obtain⟨its',r',⟨o',e',_,n',d'⟩,_⟩:=I.tuple h';rw[e] at e';cases e';rw[d] at d'
 injection d' with d1 _
 have:its=its':=by simpa using congrArg Array.toList d1
 subst this;exact r.inj r'
end
abbrev Cx.wish (X:Cx)(E:Vs0):Cx:={ X with xe:=E }
abbrev Cx.nox (X:Cx):Cx:=X.wish fun _ _=>False
theorem Cx.Ok.wish {X:Cx}(ok:X.Ok)(E:Vs0):(X.wish E).Ok:=
 ⟨ok.mod,ok.kind,ok.glob,ok.blt,ok.above,ok.inj,ok.has,ok.cab,ok.hd,ok.frames,ok.stk,ok.exf,ok.bs,ok.bsz,ok.noex,ok.exfs,ok.funs,ok.frf⟩
theorem Cx.Ok.unwish {X:Cx}{E:Vs0}(ok:(X.wish E).Ok):X.Ok:=
 ⟨ok.mod,ok.kind,ok.glob,ok.blt,ok.above,ok.inj,ok.has,ok.cab,ok.hd,ok.frames,ok.stk,ok.exf,ok.bs,ok.bsz,ok.noex,ok.exfs,ok.funs,ok.frf⟩
section
variable {X:Cx}{pins:List (Addr×Obj)}{σ:St}{H:Hp}{s:Shared}{E:Vs0}
theorem Inv.wish (I:Inv X pins σ H s)(E:Vs0):Inv (X.wish E) pins σ H s:=⟨I.ok.wish E,I.os,I.bare,I.base,I.loc,I.cell,I.free,I.freeC,I.pin,I.hok,I.len⟩
theorem Inv.unwish (I:Inv (X.wish E) pins σ H s):Inv X pins σ H s:=⟨I.ok.unwish,I.os,I.bare,I.base,I.loc,I.cell,I.free,I.freeC,I.pin,I.hok,I.len⟩
theorem SP.unwish {D:a4J}{f:Flow}{s':Shared}(h:SP (X.wish E) pins D f s'):SP X pins D f s':=by
 cases f with
 |next=>obtain⟨σ',H',I,q⟩:=h;exact⟨σ',H',I.unwish,q⟩
 |brk=>obtain⟨σ',H',I,q⟩:=h;exact⟨σ',H',I.unwish,q⟩
 |cont=>obtain⟨σ',H',I,q⟩:=h;exact⟨σ',H',I.unwish,q⟩
 |ret u=>obtain⟨v,σ',H',I,r,q⟩:=h;exact⟨v,σ',H',I.unwish,r,q⟩
theorem PE.nox {e:Expr}{t:TE}(h:PE X.nox e t):PE X e t:=fun pins s σ H Q I hw=>
 wpAny_mono (h pins s σ H Q (I.wish _) hw) (fun _ _ ⟨v,H',I',r,q⟩=>⟨v,H',I'.unwish,r,q⟩) fun _ _ z=>False.elim z
theorem PSs.nox {st:List Stmt}{t:TS}(h:PSs X.nox st t):PSs X st t:=fun pins s σ H D I hw=>
 wpAny_mono (h pins s σ H D (I.wish _) hw) (fun _ _ q=>q.unwish) fun _ _ z=>False.elim z
end
section
variable {X:Cx}{st:Stmt}{rest:List Stmt}{t u:TS}{e:Expr}{te:TE}{pos:Pos}
def b5E:TS:=fun D σ H=>D.nx σ H
def b6z (t u:TS):TS:=fun D σ H=>t { D with nx:=u D } σ H
theorem a0l:PSs X [] b5E:=fun _ _ σ H _ I h=>wpAny_execs_nil ⟨σ,H,I,h⟩
theorem a0c (h1:PS X st t)(h2:PSs X rest u):PSs X (st::rest) (b6z t u):=by
 intro pins s σ H D I h;refine wpAny_execs_cons (thn (h1 pins s σ H { D with nx:=u D } I h) fun f s1 q=>?_);cases f with
 |next=>
  obtain⟨σ',H',I',q⟩:=q;exact h2 pins s1 σ' H' D I' q
 |ret v=>exact q
 |brk=>exact q
 |cont=>exact q
theorem a0h (h1:PS X st t):PSs X [st] t:=by
 intro pins s σ H D I h;refine wpAny_execs_cons (thn (h1 pins s σ H D I h) fun f s1 q=>?_);cases f with
 |next=>exact wpAny_execs_nil q
 |ret v=>exact q
 |brk=>exact q
 |cont=>exact q
theorem Inv.quiet {pins:List (Addr×Obj)}{σ:St}{H:Hp}{s:Shared}(I:Inv X pins σ H s):interactive X.env=false:=by simp[interactive,I.ok.kind]
def b6p (te:TE):TS:=fun D σ H=>te σ H fun _ H1=>D.nx σ H1
theorem a0F (he:PE X e te)(hs:swapsWith e none pos.line X.env=pure false:=by rfl):PS X (.Expr e pos) (b6p te):=by
 intro pins s σ H D I h;exact wpAny_Expr_any (thn (he pins s σ H _ I h) fun v s1 ⟨x,H1,I1,r1,q1⟩=>⟨σ,H1,I1,q1⟩) I.quiet hs
def tRet (te:TE):TS:=fun D σ H=>te σ H D.rt
theorem a0z (he:PE X e te):PS X (.Return (some e) pos) (tRet te):=by
 intro pins s σ H D I h;exact wpAny_Return_some (thn (he pins s σ H _ I h) fun v s1 ⟨x,H1,I1,r1,q1⟩=>⟨x,σ,H1,I1,r1,q1⟩)
def tIfS (c:TT)(t u:TS):TS:=fun D σ H=>c σ H fun b H1=>if b=true then t D σ H1 else u D σ H1
theorem a0C {c:Expr}{a b:List Stmt}{tc:TT}(hc:PT X c tc)(ha:PSs X a t)(hb:PSs X b u):PS X (.If c a b pos) (tIfS tc t u):=by
 intro pins s σ H D I h;refine wpAny_If (thn (hc pins s σ H _ I h) fun d s1 ⟨H1,I1,q1⟩=>?_);cases d with
 |true=>exact ha pins s1 σ H1 D I1 q1
 |false=>exact hb pins s1 σ H1 D I1 q1
def b4j:TS:=fun _ _ _=>False
theorem a0m {sts:List Stmt}:PSs X sts b4j:=fun _ _ _ _ _ _ h=>h.elim
end
abbrev TG:=V->St->Hp->(St->Hp->Prop)->Prop
abbrev TGs:=List V->St->Hp->(St->Hp->Prop)->Prop
def PG (X:Cx)(target:Expr)(t:TG):Prop:=
 ∀(pins:List (Addr×Obj)) (s:Shared) (σ:St) (H:Hp) (v:V) (u:Value) (Q:St->Hp->Prop),Inv X pins σ H s->a1e v u->t v σ H Q →
  wpAny (model X.prog X.w) X.A (assign target X.env u) (fun _ s'=>∃σ' H',Inv X pins σ' H' s'/\Q σ' H') X.xe s
def PGs (X:Cx)(ts:List Expr)(t:TGs):Prop:=
 ∀(pins:List (Addr×Obj)) (s:Shared) (σ:St) (H:Hp) (vs:List V) (us:List Value) (Q:St->Hp->Prop),Inv X pins σ H s->a1l vs us->t vs σ H Q →
  wpAny (model X.prog X.w) X.A (assignInOrder ((assignEach ts X.env).map (·.2)) us) (fun _ s'=>∃σ' H',Inv X pins σ' H' s'/\Q σ' H') X.xe s
section
variable {X:Cx}{pos:Pos}
def b4w (i:Nat):TG:=fun v σ H Q=>Q (σ.set i (some v)) H
theorem a0E {i:Nat}{x:Str}(hN:X.N.Nodup)(hi:X.N[i]? =some x)(hx:Loc X.env.scope x)(hf:X.fn x=true\/X.env.scope.names.lookup x=some .local:=by first |exact .inl rfl |exact .inr rfl |assumption):PG X (.Name x pos) (b4w i):=by
 intro pins s σ H v u Q I r h;exact wpAny_assign_Name (a5q I hN hi hx r (fun s' I'=>⟨_,H,I',h⟩) hf)
def gNil:TGs:=fun vs σ H Q=>vs=[]/\Q σ H
def b5q (t:TG)(u:TGs):TGs:=fun vs σ H Q=>∃v r,vs=v::r/\t v σ H fun σ' H'=>u r σ' H' Q
theorem a2t:PGs X [] gNil:=by
 intro pins s σ H vs us Q I r h;obtain⟨e,h⟩:=h;subst e;cases r;exact assignInOrder_nil ⟨σ,H,I,h⟩
theorem a0N {e:Expr}{es:List Expr}{t:TG}{u:TGs}(h1:PG X e t)(h2:PGs X es u)
  (hs:(assignEach (e::es) X.env).map (·.2)=assign e X.env::(assignEach es X.env).map (·.2):=by rfl):PGs X (e::es) (b5q t u):=by
 intro pins s σ H vs us Q I r h;obtain⟨v,vr,e1,h⟩:=h;subst e1;cases r with
 |cons r rr=>
  rw[hs];refine assignInOrder_cons (thn (h1 pins s σ H _ _ _ I r h) fun _ s1 ⟨σ1,H1,I1,q1⟩=>?_);exact h2 pins s1 σ1 H1 _ _ Q I1 rr q1
def b6D (K:Fg0)(n:Nat)(t:TGs):TG:=fun v σ H Q=>∃a xs,v=.ref a/\SqT K H a xs/\xs.length=n/\t xs σ H Q
theorem a4P {es:List Expr}{k:Nat}{t:TGs}{n:Nat}(hc:X.calm=true)(h:PGs X es t)
  (hn:(assignEach es X.env).length=n:=by rfl) (hst:(assignEach es X.env).findIdx? (·.1)=none:=by rfl):PG X (.Tuple es k pos) (b6D X.K n t):=by
 intro pins s σ H v u Q I r hw;obtain⟨a,xs,e1,hq,hl,hw⟩:=hw;subst e1;cases r;obtain⟨its,rv,ht,hz⟩:=I.tuple hq;refine assign_Tuple_tuple (I.ok.hd hc) ht (by simp[hn,<-hl,rv.length]) hst fun h' hx=>?_;have I1:Inv X pins σ H { s with heap:=h' }:=I.kept (t':=s.toks) fun b o e=>hx b o (nL0 (hL0 e)) e;exact h pins _ σ H xs _ Q I1 (by simpa using rv) hw
def b6E (te:TE)(g:TG):TS:=fun D σ H=>te σ H fun x H1=>g x σ H1 D.nx
theorem b4n {tg e:Expr}{te:TE}{g:TG}(he:PE X e te)(hg:PG X tg g)(hs:swapsWithSole [tg] e pos.line X.env=pure false:=by rfl)(hw:swappedStores [tg] e X.env=pure none:=by rfl)
  (h1:(assignEach [tg] X.env).map (·.2)=[assign tg X.env]:=by rfl):PS X (.Assign [tg] e pos) (b6E te g):=by
 intro pins s σ H D I h;refine wpAny_Assign_stores (thn (he pins s σ H _ I h) fun v s1 ⟨x,H1,I1,r1,q1⟩=>?_) hs hw;rw[h1];exact thn (hg pins s1 σ H1 x v _ I1 r1 q1) fun _ s2 q=>q
theorem a0p {i:Nat}{x:Str}{e:Expr}{te:TE}{pos':Pos}(hN:X.N.Nodup)(hi:X.N[i]? =some x)(hx:Loc X.env.scope x)(he:PE X e te)(hs:swapsWith e (some (.Name x pos')) pos.line X.env=pure false:=by rfl)(hf:X.fn x=true\/X.env.scope.names.lookup x=some .local:=by first |exact .inl rfl |exact .inr rfl |assumption) :
  PS X (.Assign [.Name x pos'] e pos) (b6E te (b4w i)):=by
 intro pins s σ H D I h;refine wpAny_Assign_Name (thn (he pins s σ H _ I h) fun v s1 ⟨y,H1,I1,r1,q1⟩=>?_) hs;exact a5q I1 hN hi hx r1 (fun s2 I2=>⟨_,H1,I2,q1⟩) hf
end
structure It where
 go:Nat->Hp->Prop
 yld:Nat->Hp->V->Hp->Prop
 stop:Nat->Hp->Prop
def a4x (X:Cx)(pins:List (Addr×Obj))(H:Hp)(b:Addr):Prop:=
 H b=none/\b≠X.env.locals/\b∉X.fs/\(b∈X.ex\/X.s₀.heap.objs.size<=b)/\(∀x c,X.env.cells.lookup x=some c->c≠b)/\∀p∈X.pn++pins,p.1≠b
theorem Inv.fpOk {X:Cx}{pins:List (Addr×Obj)}{σ:St}{H H':Hp}{s:Shared}{b:Addr}(I:Inv X pins σ H s)(hb:s.heap.objs.size<=b)(hn:H' b=none):a4x X pins H' b:=by
 refine⟨hn,Nat.ne_of_gt (Nat.lt_of_lt_of_le I.lt hb),I.nofs hb,.inr (Nat.le_trans I.sz hb),fun x c e z=>?_,fun p hp z=>?_⟩
 ·obtain⟨v,q⟩:=I.cell x c e
  exact absurd (Nat.lt_of_lt_of_le q.lt (by rw[z];exact hb)) (Nat.lt_irrefl _)
 ·exact absurd (Nat.lt_of_lt_of_le (hL0 (I.pin p hp).1) (by rw[z];exact hb)) (Nat.lt_irrefl _)
structure b0k (P:Program) (w:World) (K:Fg0) (tg:Expr) (J:It) (fp:List Addr) (it:Addr) (tn:Nat->Heap->Prop):Prop where
 mem:it∈fp
 obj:∀i h,tn i h->∀b∈fp,∃o,h.get? b=some o/\∀v,o.data≠.cell v
 keep:∀i h h',tn i h->(∀b∈fp,∀o,h.get? b=some o->h'.get? b=some o)->tn i h'
 item:∀(X:Cx),X.prog=P->X.w=w->X.K=K->X.calm=true->∀(i:Nat) (pins:List (Addr×Obj)) (s:Shared) (σ:St) (H:Hp) (E:Vs0),Inv X pins σ H s->(∀b∈fp,a4x X pins H b)->tn i s.heap->J.go i H →
  wpAny (model P w) X.A (pyNext (.ref it)) (fun r s1=>∃u,r=some u ∧
   wpAny (model P w) X.A (letOwnedTupleGo tg (.ref it) u) (fun _ s2=>∃x H',Inv X pins σ H' s2/\a1e x u/\J.yld i H x H'/\tn (i+1) s2.heap/\∀b∈fp,H' b=none) E s1) E s
 done:∀(X:Cx),X.prog=P->X.w=w->X.K=K->X.calm=true->∀(i:Nat) (pins:List (Addr×Obj)) (s:Shared) (σ:St) (H:Hp) (E:Vs0),Inv X pins σ H s->(∀b∈fp,a4x X pins H b)->tn i s.heap->J.stop i H →
  wpAny (model P w) X.A (pyNext (.ref it)) (fun r s1=>r=none/\Inv X pins σ H s1) E s
 self:∀(A:Around) (i:Nat) (s:Shared) (Q:Vs0) (E:Vs0),tn i s.heap->Q (.ref it) s->wpAny (model P w) A (pyIter (.ref it)) Q E s
abbrev TI:=St->Hp->(It->Hp->Prop)->Prop
def PIE (X:Cx)(pins:List (Addr×Obj))(σ:St)(tg:Expr)(R:It->Hp->Prop)(itv:Value)(s2:Shared):Prop:=
 ∃(it:Addr) (fp:List Addr) (tn:Nat->Heap->Prop) (J:It) (H':Hp),itv=.ref it/\Inv X pins σ H' s2/\b0k X.prog X.w X.K tg J fp it tn/\tn 0 s2.heap/\(∀b∈fp,a4x X pins H' b)/\R J H'
def PI (X:Cx)(tg iter:Expr)(wi:TI):Prop:=
 ∀(pins:List (Addr×Obj)) (s:Shared) (σ:St) (H:Hp) (R:It->Hp->Prop),Inv X pins σ H s->wi σ H R →
  wpAny (model X.prog X.w) X.A (eval iter X.env) (fun v s1=>wpAny (model X.prog X.w) X.A (pyIter v) (PIE X pins σ tg R) X.xe s1) X.xe s
theorem a8U {M:Model}{A:Around}{E:Vs0}{s:Shared}{tg:Expr}{it:Addr}{u:Value}{o:Obj}{n:String}{vs:Array Value}{Q:Unit->Shared->Prop}(ho:s.heap.get? it=some o)(hc:o.cls=.type n)(hd:o.data=.fields vs)
  (hn:["enumerate","zip","dict_itemiterator","dict_reverseitemiterator","odict_iterator","itertools.zip_longest","itertools.pairwise"].contains n=false) (hQ:Q () s):wpAny M A (letOwnedTupleGo tg (.ref it) u) Q E s:=by
 unfold letOwnedTupleGo;cases tg<;>first
  |exact wP0 hQ
  | (cases u<;>first
    |exact wP0 hQ
    | (refine wB0 (wpAny_load ho ?_)
       rw[hc,hd];show wpAny M A (if (["enumerate","zip","dict_itemiterator","dict_reverseitemiterator","odict_iterator","itertools.zip_longest","itertools.pairwise"].contains n&&vs[0]?==some (rawInt _))=true then _ else _) Q E s;rw[if_neg (by intro h;rw[hn,Bool.false_and] at h;cases h)];exact wP0 hQ))
def Itl (K:Fg0)(a:Addr):It:=
 ⟨fun i H=>∃xs x,SqL K H a xs/\xs[i]? =some x,fun i H x H'=>H'=H/\∀xs,SqL K H a xs->xs[i]? =some x,fun i H=>∃xs,SqL K H a xs/\xs.length<=i⟩
def Itt (K:Fg0)(a:Addr):It:=
 ⟨fun i H=>∃xs x,SqT K H a xs/\xs[i]? =some x,fun i H x H'=>H'=H/\∀xs,SqT K H a xs->xs[i]? =some x,fun i H=>∃xs,SqT K H a xs/\xs.length<=i⟩
def Itr (lo:Int)(n:Nat):It:=⟨fun i _=>i<n,fun i H x H'=>H'=H/\x=.int (lo+i),fun i _=>n<=i⟩
theorem a9I {P:Program}{w:World}{K:Fg0}{tg:Expr}(a it:Addr):b0k P w K tg (Itl K a) [it] it (fun i h=>h.IsListIter it a i) where
 mem:=by simp
 obj:=fun i h st b hb=>by
  have e:b=it:=by simpa using hb
  subst e;obtain⟨o,e,c,d⟩:=st;exact⟨o,e,fun v z=>by rw[d] at z;cases z⟩
 keep:=fun i h h' st k=>st.at fun o e=>k it (by simp) o e
 item:=by
  intro X hP hw hK hc i pins s σ H E I hf st hg;subst hP hw hK;obtain⟨xs,x,hq,hx⟩:=hg;obtain⟨its,rv,p,hz⟩:=I.list hq;obtain⟨u,hu,ru⟩:=rv.get hx;obtain⟨f0,f1,f2,f3,f4,f5⟩:=hf it (by simp);refine wpAny_pyNext_list_item st p.isList (x:=u) (by simpa using hu) fun h' st' sb=>?_;have I1:Inv X pins σ H { s with heap:=h' }:=I.turned (t':=s.toks) (fun b o hb e=>(sb.2 b hb).trans e) f0 f1 f3 f4 f5;obtain⟨o,e,c,d⟩:=id st';exact⟨u,rfl,a8U (s:={ s with heap:=h' }) e c d (by decide) ⟨x,H,I1,ru,⟨rfl,fun ys hy=>by rw[I.list_inj hy hq];exact hx⟩,st',fun b hb=>(hf b hb).1⟩⟩
 done:=by
  intro X hP hw hK hc i pins s σ H E I hf st hg;subst hP hw hK;obtain⟨xs,hq,hx⟩:=hg;obtain⟨its,rv,p,hz⟩:=I.list hq;obtain⟨f0,f1,f2,f3,f4,f5⟩:=hf it (by simp);have hl:=rv.length;exact wpAny_pyNext_list_end (I.ok.hd hc) st p.isList (by simp;omega) fun h' eb=>⟨rfl,I.turned (t':=s.toks) (fun b o hb e=>eb b o hb e) f0 f1 f3 f4 f5⟩
 self:=fun _ _ _ _ _ st h=>wpAny_pyIter_listiter st h
theorem a8F {P:Program}{w:World}{K:Fg0}{tg:Expr}(a it:Addr):b0k P w K tg (Itt K a) [it] it (fun i h=>h.IsTupleIter it a i) where
 mem:=by simp
 obj:=fun i h st b hb=>by
  have e:b=it:=by simpa using hb
  subst e;obtain⟨o,e,c,d⟩:=st;exact⟨o,e,fun v z=>by rw[d] at z;cases z⟩
 keep:=fun i h h' st k=>st.at fun o e=>k it (by simp) o e
 item:=by
  intro X hP hw hK hc i pins s σ H E I hf st hg;subst hP hw hK;obtain⟨xs,x,hq,hx⟩:=hg;obtain⟨its,rv,p,hz⟩:=I.tuple hq;obtain⟨u,hu,ru⟩:=rv.get hx;obtain⟨f0,f1,f2,f3,f4,f5⟩:=hf it (by simp);refine wpAny_pyNext_tuple_item st (show s.heap.IsTuple a its.toArray from p) (x:=u) (by simpa using hu) fun h' st' sb=>?_;have I1:Inv X pins σ H { s with heap:=h' }:=I.turned (t':=s.toks) (fun b o hb e=>(sb.2 b hb).trans e) f0 f1 f3 f4 f5;obtain⟨o,e,c,d⟩:=id st';exact⟨u,rfl,a8U (s:={ s with heap:=h' }) e c d (by decide) ⟨x,H,I1,ru,⟨rfl,fun ys hy=>by rw[I.tuple_inj hy hq];exact hx⟩,st',fun b hb=>(hf b hb).1⟩⟩
 done:=by
  intro X hP hw hK hc i pins s σ H E I hf st hg;subst hP hw hK;obtain⟨xs,hq,hx⟩:=hg;obtain⟨its,rv,p,hz⟩:=I.tuple hq;obtain⟨f0,f1,f2,f3,f4,f5⟩:=hf it (by simp);have hl:=rv.length;exact wpAny_pyNext_tuple_end (I.ok.hd hc) st (show s.heap.IsTuple a its.toArray from p) (by simp;omega) fun h' eb=>⟨rfl,I.turned (t':=s.toks) (fun b o hb e=>eb b o hb e) f0 f1 f3 f4 f5⟩
 self:=fun _ _ _ _ _ st h=>wpAny_pyIter_tupleiter st h
theorem a8s {P:Program}{w:World}{K:Fg0}{tg:Expr}(it:Addr)(lo:Int)(n:Nat):b0k P w K tg (Itr lo n) [it] it (fun i h=>IsRangeIter h it (lo+(i:Nat) * 1) ((n:Int)-(i:Nat)) 1) where
 mem:=by simp
 obj:=fun i h st b hb=>by
  have e:b=it:=by simpa using hb
  subst e;exact⟨_,st,fun v z=>by
   have z':Data.fields _=Data.cell v:=z;cases z'⟩
 keep:=fun i h h' st k=>k it (by simp) _ st
 item:=by
  intro X hP hw hK hc i pins s σ H E I hf st hg;subst hP hw hK;obtain⟨f0,f1,f2,f3,f4,f5⟩:=hf it (by simp);have W:=Walks.range (prog:=X.prog) (w:=X.w) (I.ok.hd hc) it lo 1 n;refine W.item i s _ _ hg st fun v h' tk hv st' kk=>?_;obtain⟨t,rfl⟩:=hv;have I1:Inv X pins σ H { s with heap:=h',toks:=tk }:=I.turned (fun b o hb e=>kk b o (by simpa using hb) e) f0 f1 f3 f4 f5;refine⟨_,rfl,a8U (s:={ s with heap:=h',toks:=tk }) (n:="range_iterator") st' rfl rfl (by decide) ⟨.int (lo+i),H,I1,⟨t,?_⟩,⟨rfl,rfl⟩,st',fun b hb=>(hf b hb).1⟩⟩;rw[Int.mul_one]
 done:=by
  intro X hP hw hK hc i pins s σ H E I hf st hg;subst hP hw hK;obtain⟨f0,f1,f2,f3,f4,f5⟩:=hf it (by simp);exact wpAny_pyNext_range_end (I.ok.hd hc) st (by have:n<=i:=hg;omega) fun h' eb=>⟨rfl,I.turned (t':=s.toks) (fun b o hb e=>eb b o hb e) f0 f1 f3 f4 f5⟩
 self:=fun _ _ _ _ _ st h=>wpAny_pyIter_rangeiter st h
section
variable {X:Cx}{tg:Expr}
def b5Z (K:Fg0)(tl:TE):TI:=fun σ H R=>tl σ H fun x H1=>∃a,x=.ref a/\(∃xs,SqL K H1 a xs)/\R (Itl K a) H1
def iTup (K:Fg0)(tl:TE):TI:=fun σ H R=>tl σ H fun x H1=>∃a,x=.ref a/\(∃xs,SqT K H1 a xs)/\R (Itt K a) H1
theorem a2C {l:Expr}{tl:TE}(hl:PE X l tl):PI X tg l (b5Z X.K tl):=by
 intro pins s σ H R I h;refine thn (hl pins s σ H _ I h) fun v s1 ⟨x,H1,I1,r1,q1⟩=>?_;obtain⟨a,e,⟨xs,hq⟩,q⟩:=q1;subst e;cases r1;obtain⟨its,rv,p,hz⟩:=I1.list hq;refine wpAny_pyIter_list p.isList ?_;refine⟨s1.heap.objs.size,[s1.heap.objs.size],_,_,H1,rfl,I1.kept (t':=s1.toks) fun b o e=>hP0 _ e,a9I a _,⟨_,hS0 _ rfl,rfl,rfl⟩,fun b hb=>?_,q⟩;have e:b=s1.heap.objs.size:=by simpa using hb
 subst e;exact I1.fpOk (nR0 _) (I1.hok.fresh (nR0 _))
theorem a3p {l:Expr}{tl:TE}(hl:PE X l tl):PI X tg l (iTup X.K tl):=by
 intro pins s σ H R I h;refine thn (hl pins s σ H _ I h) fun v s1 ⟨x,H1,I1,r1,q1⟩=>?_;obtain⟨a,e,⟨xs,hq⟩,q⟩:=q1;subst e;cases r1;obtain⟨its,rv,p,hz⟩:=I1.tuple hq;refine wpAny_pyIter_tuple (show s1.heap.IsTuple a its.toArray from p) ?_;refine⟨s1.heap.objs.size,[s1.heap.objs.size],_,_,H1,rfl,I1.kept (t':=s1.toks) fun b o e=>hP0 _ e,a8F a _,⟨_,hS0 _ rfl,rfl,rfl⟩,fun b hb=>?_,q⟩;have e:b=s1.heap.objs.size:=by simpa using hb
 subst e;exact I1.fpOk (nR0 _) (I1.hok.fresh (nR0 _))
theorem b0L {pins:List (Addr×Obj)}{σ:St}{H:Hp}{s:Shared}{R:It->Hp->Prop}{E:Vs0}{lo hi:Int}{t u v:Tok}{tk:Nat}(I:Inv X pins σ H s)(h1:-(2 ^ 62)<=lo)(h2:lo<2 ^ 62)(h3:-(2 ^ 62)<=hi)(h4:hi<2 ^ 62)
  (q:R (Itr lo (hi-lo).toNat) H):wpAny (model X.prog X.w) X.A (pyIter (.ref s.heap.objs.size)) (PIE X pins σ tg R) E { s with heap:=s.heap.push { cls:=.type "range",data:=.fields #[.int lo t,.int hi u,.int 1 v] },toks:=tk }:=by
 refine wpAny_pyIter_range (IsRange.new ..) (small_one h1 h2 h3 h4) ?_;have I1:Inv X pins σ H { s with heap:=s.heap.push { cls:=.type "range",data:=.fields #[.int lo t,.int hi u,.int 1 v] },toks:=tk }:=I.kept fun b o e=>hP0 _ e;refine⟨(s.heap.push { cls:=.type "range",data:=.fields #[.int lo t,.int hi u,.int 1 v] }).objs.size,[(s.heap.push { cls:=.type "range",data:=.fields #[.int lo t,.int hi u,.int 1 v] }).objs.size],_,_,H,rfl,
  I1.kept (t':=tk) fun b o e=>hP0 _ e,a8s _ lo (hi-lo).toNat,?_,fun b hb=>?_,q⟩
 ·have e1:lo+((0:Nat):Int) * 1=lo:=by simp
  have e2:(((hi-lo).toNat:Nat):Int)-((0:Nat):Int)=Builtin.Range.rangeSize lo hi 1:=by rw[rangeSize_one];split<;>omega
  show IsRangeIter _ _ (lo+((0:Nat):Int) * 1) ((((hi-lo).toNat:Nat):Int)-((0:Nat):Int)) 1;rw[e1,e2];exact hS0 _ rfl
 ·have e:b=(s.heap.push { cls:=.type "range",data:=.fields #[.int lo t,.int hi u,.int 1 v] }).objs.size:=by simpa using hb
  subst e;exact I1.fpOk (nR0 _) (I1.hok.fresh (nR0 _))
def b5r (ta:TA):TI:=fun σ H R=>ta σ H fun vs H1=>∃j:Int,vs=[.int j]/\-(2 ^ 62)<=j/\j<2 ^ 62/\R (Itr 0 j.toNat) H1
theorem a5J {a:Expr}{ta:TA}{p pos:Pos}(hg:Gl X "range")(hm:X.mg "range"=none)(ha:PA X [a] ta)(hs:starEach [a] X.env=[(false,eval a X.env)]:=by rfl):PI X tg (.Call (.Name "range" p) [a] [] pos) (b5r ta):=by
 intro pins s σ H R I h;refine Call_ (a4m I hg hm boot_range (PyProof.Rows.callWith_type1 (thn (ha pos pins s σ H _ I h) fun us s1 ⟨vs,H1,I1,r1,q1⟩=>?_) hs rfl));obtain⟨j,e,q1,q2,q⟩:=q1;subst e;cases r1 with
 |cons r rr=>
  cases rr;obtain⟨t,rfl⟩:=r;exact call_range_1 (b0L I1 (by omega) (by omega) q1 q2 (by simpa using q))
def tFor (wi:TI)(g:TG)(tb:TS):TS:=fun D σ H=>wi σ H fun J H1=>∃W:Nat->Nat->St->Hp->Prop,(∃m,W 0 m σ H1)/\∀i m σ H,W i m σ H →
 (J.stop i H/\D.nx σ H)\/(J.go i H/\∃N:St->Hp->Prop,(∀σ' H',N σ' H'->∃m',m'<m/\W (i+1) m' σ' H')/\∀x H',J.yld i H x H'->g x σ H' fun σ2 H2=>tb { D with nx:=N,ct:=N,bk:=D.nx } σ2 H2)
def a5E (fp:List Addr)(h:Heap):List (Addr×Obj):=fp.filterMap fun b=>(h.get? b).map fun o=>(b,o)
theorem a2S {fp:List Addr}{h:Heap}{b:Addr}{o:Obj}(hb:b∈fp)(e:h.get? b=some o):(b,o)∈a5E fp h:=List.mem_filterMap.mpr ⟨b,hb,by rw[e];rfl⟩
theorem a9V {fp:List Addr}{h:Heap}{p:Addr×Obj}(hp:p∈a5E fp h):p.1∈fp/\h.get? p.1=some p.2:=by
 obtain⟨b,hb,e⟩:=List.mem_filterMap.mp hp;cases q:h.get? b with
 |none=>rw[q] at e;cases e
 |some o=>
  rw[q] at e;have e':(b,o)=p:=Option.some.inj e;subst e';exact⟨hb,q⟩
theorem Inv.pinned {pins:List (Addr×Obj)}{σ:St}{H:Hp}{s:Shared}{fp:List Addr}(I:Inv X pins σ H s)(hf:∀b∈fp,a4x X pins H b)(ho:∀b∈fp,∃o,s.heap.get? b=some o/\∀v,o.data≠.cell v):Inv X (pins++a5E fp s.heap) σ H s:=
 I.pins_of fun p hp=>(mB0.mp hp).elim (fun z=>I.pin p (List.mem_append_right _ z)) fun z=>by
  obtain⟨hb,e⟩:=a9V z;obtain⟨f0,f1,f2,_⟩:=hf p.1 hb;obtain⟨o,e',d⟩:=ho p.1 hb;rw[e] at e';cases e';exact⟨e,f0,f1,f2,d⟩
theorem Inv.unpinned {pins pl:List (Addr×Obj)}{σ:St}{H:Hp}{s:Shared}(I:Inv X (pins++pl) σ H s):Inv X pins σ H s:=I.pins_of fun p hp=>I.pin p (List.mem_append_right _ (List.mem_append_left _ hp))
theorem a2E {iter:Expr}{body:List Stmt}{wi:TI}{g:TG}{tb:TS}{pos:Pos}(hp:PassesOwn (model X.prog X.w) X.A X.env X.xe)(hc:X.calm=true)(hi:PI X tg iter wi)(hg:PG X tg g)(hb:PSs X body tb)
  (hs:∀x,foldedSetIterable iter X.env x=pure x:=by intro _;rfl):PS X (.For tg iter body [] pos) (tFor wi g tb):=by
 intro pins s σ H D I h;refine wpAny_For (thn (hi pins s σ H _ I h) fun v s1 h1=>thn h1 fun itv s2 h2=>?_) hs;obtain⟨it,fp,tn,J,H2,e,I2,T,st2,f2,W,⟨m0,w0⟩,turn⟩:=h2;subst e;have stat:∀{H':Hp},(∀b∈fp,H' b=none)->∀b∈fp,a4x X pins H' b:=fun hn b hb=>⟨hn b hb,(f2 b hb).2⟩;refine codeAny_forLoop_any (fun n s'=>∃i σ' H',Inv X pins σ' H' s'/\tn i s'.heap/\(∀b∈fp,H' b=none)/\W i n σ' H') ?_ m0 ⟨0,σ,H2,I2,st2,fun b hb=>(f2 b hb).1,w0⟩;rintro n s3 ⟨i,σ3,H3,I3,st3,fr3,w3⟩;rcases turn i n σ3 H3 w3 with ⟨stop,qn⟩ |⟨go,N,hN,step⟩
 ·refine wpAny_passesOwn hp (thn (T.done X rfl rfl rfl hc i pins s3 σ3 H3 X.xe I3 (stat fr3) st3 stop) fun r s4 ⟨hr,I4⟩=>?_)
  subst hr;exact wpAny_execs_nil ⟨σ3,H3,I4,qn⟩
 ·refine wpAny_passesOwn hp (thn (T.item X rfl rfl rfl hc i pins s3 σ3 H3 X.xe I3 (stat fr3) st3 go) fun r s4 ⟨u,hr,h4⟩=>?_)
  subst hr;refine wpAny_passesOwn hp (thn h4 fun _ s5 ⟨x,H5,I5,r5,y5,st5,fr5⟩=>?_);have I5':=I5.pinned (stat fr5) (T.obj _ _ st5);refine wpAny_passesOwn hp (thn (hg _ s5 σ3 H5 x u _ I5' r5 (step x H5 y5)) fun _ s6 ⟨σ6,H6,I6,q6⟩=>?_);refine wpAny_passesOwn hp (thn (hb _ s6 σ6 H6 _ I6 q6) fun f s7 q7=>?_);have again:∀{σ7:St} {H7:Hp},Inv X (pins++a5E fp s5.heap) σ7 H7 s7->N σ7 H7->∃m,m<n/\∃i σ' H',Inv X pins σ' H' s7/\tn i s7.heap/\(∀b∈fp,H' b=none)/\W i m σ' H':=fun {σ7 H7} I7 n7=>by
   obtain⟨m',hm,w7⟩:=hN σ7 H7 n7;refine⟨m',hm,i+1,σ7,H7,I7.unpinned,T.keep _ _ _ st5 fun b hb o e=>(I7.pin (b,o) (List.mem_append_right _ (List.mem_append_right _ (a2S hb e)))).1,fun b hb=>?_,w7⟩;obtain⟨o,e,d⟩:=T.obj _ _ st5 b hb;exact(I7.pin (b,o) (List.mem_append_right _ (List.mem_append_right _ (a2S hb e)))).2.1
  cases f with
  |next=>obtain⟨σ7,H7,I7,n7⟩:=q7;exact again I7 n7
  |cont=>obtain⟨σ7,H7,I7,n7⟩:=q7;exact again I7 n7
  |brk=>obtain⟨σ7,H7,I7,q7⟩:=q7;exact⟨σ7,H7,I7.unpinned,q7⟩
  |ret v=>obtain⟨x7,σ7,H7,I7,r7,q7⟩:=q7;exact⟨x7,σ7,H7,I7.unpinned,r7,q7⟩
end
theorem a3S {K:Fg0}{a:Addr}{xs:List V}{g:TG}{tb:TS}{D:a4J}{σ:St}{H:Hp}(Pv:Nat->St->Hp->Prop)(h0:Pv 0 σ H)(hl:∀i σ H,i<=xs.length->Pv i σ H->SqL K H a xs)
  (hs:∀i x σ H,xs[i]? =some x->Pv i σ H->g x σ H fun σ2 H2=>tb { D with nx:=Pv (i+1),ct:=Pv (i+1),bk:=D.nx } σ2 H2) (hd:∀σ H,Pv xs.length σ H->D.nx σ H) :
  ∃W:Nat->Nat->St->Hp->Prop,(∃m,W 0 m σ H)/\∀i m σ H,W i m σ H →
   ((Itl K a).stop i H/\D.nx σ H)\/((Itl K a).go i H/\∃N:St->Hp->Prop,(∀σ' H',N σ' H'->∃m',m'<m/\W (i+1) m' σ' H')/\∀x H',(Itl K a).yld i H x H'->g x σ H' fun σ2 H2=>tb { D with nx:=N,ct:=N,bk:=D.nx } σ2 H2):=by
 refine⟨fun i m σ H=>m=xs.length-i/\i<=xs.length/\Pv i σ H,⟨xs.length,by simp,zL0 _,h0⟩,?_⟩;rintro i m σ H ⟨rfl,hi,p⟩;have q:=hl i σ H hi p
 by_cases hlt:i<xs.length
 ·refine .inr ⟨⟨xs,xs[i],q,by simp[hlt]⟩,Pv (i+1),fun σ' H' p'=>⟨xs.length-(i+1),by omega,rfl,hlt,p'⟩,fun x H' y=>?_⟩
  obtain⟨e,y⟩:=y;subst e;exact hs i x σ _ (y xs q) p
 ·have e:i=xs.length:=by omega
  subst e;exact .inl ⟨⟨xs,q,nR0 _⟩,hd σ H p⟩
theorem a9g {K:Fg0}{a:Addr}{xs:List V}{g:TG}{tb:TS}{D:a4J}{σ:St}{H:Hp}(Pv:Nat->St->Hp->Prop)(h0:Pv 0 σ H)(hl:∀i σ H,i<=xs.length->Pv i σ H->SqT K H a xs)
  (hs:∀i x σ H,xs[i]? =some x->Pv i σ H->g x σ H fun σ2 H2=>tb { D with nx:=Pv (i+1),ct:=Pv (i+1),bk:=D.nx } σ2 H2) (hd:∀σ H,Pv xs.length σ H->D.nx σ H) :
  ∃W:Nat->Nat->St->Hp->Prop,(∃m,W 0 m σ H)/\∀i m σ H,W i m σ H →
   ((Itt K a).stop i H/\D.nx σ H)\/((Itt K a).go i H/\∃N:St->Hp->Prop,(∀σ' H',N σ' H'->∃m',m'<m/\W (i+1) m' σ' H')/\∀x H',(Itt K a).yld i H x H'->g x σ H' fun σ2 H2=>tb { D with nx:=N,ct:=N,bk:=D.nx } σ2 H2):=by
 refine⟨fun i m σ H=>m=xs.length-i/\i<=xs.length/\Pv i σ H,⟨xs.length,by simp,zL0 _,h0⟩,?_⟩;rintro i m σ H ⟨rfl,hi,p⟩;have q:=hl i σ H hi p
 by_cases hlt:i<xs.length
 ·refine .inr ⟨⟨xs,xs[i],q,by simp[hlt]⟩,Pv (i+1),fun σ' H' p'=>⟨xs.length-(i+1),by omega,rfl,hlt,p'⟩,fun x H' y=>?_⟩
  obtain⟨e,y⟩:=y;subst e;exact hs i x σ _ (y xs q) p
 ·have e:i=xs.length:=by omega
  subst e;exact .inl ⟨⟨xs,q,nR0 _⟩,hd σ H p⟩
theorem a6x {lo:Int}{n:Nat}{g:TG}{tb:TS}{D:a4J}{σ:St}{H:Hp}(Pv:Nat->St->Hp->Prop)(h0:Pv 0 σ H)
  (hs:∀i σ H,i<n->Pv i σ H->g (.int (lo+i)) σ H fun σ2 H2=>tb { D with nx:=Pv (i+1),ct:=Pv (i+1),bk:=D.nx } σ2 H2) (hd:∀σ H,Pv n σ H->D.nx σ H) :
  ∃W:Nat->Nat->St->Hp->Prop,(∃m,W 0 m σ H)/\∀i m σ H,W i m σ H →
   ((Itr lo n).stop i H/\D.nx σ H)\/((Itr lo n).go i H/\∃N:St->Hp->Prop,(∀σ' H',N σ' H'->∃m',m'<m/\W (i+1) m' σ' H')/\∀x H',(Itr lo n).yld i H x H'->g x σ H' fun σ2 H2=>tb { D with nx:=N,ct:=N,bk:=D.nx } σ2 H2):=by
 refine⟨fun i m σ H=>m=n-i/\i<=n/\Pv i σ H,⟨n,by simp,zL0 _,h0⟩,?_⟩;rintro i m σ H ⟨rfl,hi,p⟩
 by_cases hlt:i<n
 ·refine .inr ⟨hlt,Pv (i+1),fun σ' H' p'=>⟨n-(i+1),by omega,rfl,hlt,p'⟩,fun x H' y=>?_⟩
  obtain⟨e,y⟩:=y;subst e y;exact hs i σ _ hlt p
 ·have e:i=n:=by omega
  subst e;exact .inl ⟨nR0 _,hd σ H p⟩
abbrev R2:=V->V->Hp->VK->Prop
def OpR (X:Cx)(f:Value->Value->Sem Value)(r:R2):Prop:=
 ∀(pins:List (Addr×Obj)) (s:Shared) (σ:St) (H:Hp) (x y:V) (v u:Value) (Q:VK),Inv X pins σ H s->a1e x v->a1e y u->r x y H Q →
  wpAny (model X.prog X.w) X.A (f v u) (EP X pins σ Q) X.xe s
def UnR (X:Cx)(f:Value->Sem Value)(r:V->Hp->VK->Prop):Prop:=
 ∀(pins:List (Addr×Obj)) (s:Shared) (σ:St) (H:Hp) (x:V) (v:Value) (Q:VK),Inv X pins σ H s->a1e x v->r x H Q →
  wpAny (model X.prog X.w) X.A (f v) (EP X pins σ Q) X.xe s
def a1u (X:Cx)(f:Value)(r:List V->Hp->VK->Prop):Prop:=
 ∀(pins:List (Addr×Obj)) (s:Shared) (σ:St) (H:Hp) (xs:List V) (us:List Value) (Q:VK),Inv X pins σ H s->a1l xs us->r xs H Q →
  wpAny (model X.prog X.w) X.A (call f us) (EP X pins σ Q) X.xe s
def tOp (r:R2)(ta tb:TE):TE:=fun σ H Q=>ta σ H fun x H1=>tb σ H1 fun y H2=>r x y H2 Q
def tUn (r:V->Hp->VK->Prop)(ta:TE):TE:=fun σ H Q=>ta σ H fun x H1=>r x H1 Q
def rI (C:Int->Int->Prop)(g:Int->Int->V):R2:=fun x y H Q=>∃i j,x=.int i/\y=.int j/\C i j/\Q (g i j) H
def rI0 (g:Int->Int->V):R2:=fun x y H Q=>∃i j,x=.int i/\y=.int j/\Q (g i j) H
def rU (g:Int->V):V->Hp->VK->Prop:=fun x H Q=>∃i,x=.int i/\Q (g i) H
section
variable {X:Cx}{a b c:Expr}{ta tb tc:TE}{pos:Pos}
theorem b5o (ha:PE X a ta)(hb:PE X b tb){pins:List (Addr×Obj)}{s:Shared}{σ:St}{H:Hp}{R:V->V->Hp->Prop}(I:Inv X pins σ H s)
  (h:ta σ H fun x H1=>tb σ H1 fun y H2=>R x y H2) {Q:Vs0} {f:Value->Value->Sem Value}
  (hf:∀v u s2 x y H2,Inv X pins σ H2 s2->a1e x v->a1e y u->R x y H2->wpAny (model X.prog X.w) X.A (f v u) Q X.xe s2) :
  wpAny (model X.prog X.w) X.A (eval a X.env) (fun v s₁=>wpAny (model X.prog X.w) X.A (eval b X.env) (fun u s₂=>wpAny (model X.prog X.w) X.A (f v u) Q X.xe s₂) X.xe s₁) X.xe s:=by
 refine thn (ha pins s σ H _ I h) fun v s1 ⟨x,H1,I1,r1,q1⟩=>?_;refine thn (hb pins s1 σ H1 _ I1 q1) fun u s2 ⟨y,H2,I2,r2,q2⟩=>?_;exact hf v u s2 x y H2 I2 r1 r2 q2
theorem a1p {op:Operator}{r:R2}(ho:OpR X (binaryOp op) r)(ha:PE X a ta)(hb:PE X b tb):PE X (.BinOp a op b pos) (tOp r ta tb):=by
 intro pins s σ H Q I h;exact wpAny_BinOp (b5o ha hb I h fun v u s2 x y H2 I2 rx ry q=>ho pins s2 σ H2 x y v u Q I2 rx ry q)
theorem b0a {op:UnaryOp}{r:V->Hp->VK->Prop}(ho:UnR X (unaryOp op) r)(ha:PE X a ta):PE X (.UnaryOp op a pos) (tUn r ta):=by
 intro pins s σ H Q I h;exact UnaryOp_ (thn (ha pins s σ H _ I h) fun v s1 ⟨x,H1,I1,r1,q1⟩=>ho pins s1 σ H1 x v Q I1 r1 q1)
theorem opI {f:Value->Value->Sem Value}{C:Int->Int->Prop}{g:Int->Int->Int}
  (rule:∀(i j:Int) (t u:Tok) (s:Shared) (Q:Vs0) (E:Vs0),C i j->Q (.int (g i j) s.toks) { s with toks:=s.toks+1 }->wpAny (model X.prog X.w) X.A (f (.int i t) (.int j u)) Q E s) :
  OpR X f (rI C fun i j=>.int (g i j)):=by
 intro pins s σ H x y v u Q I rx ry h;obtain⟨i,j,rfl,rfl,hc,q⟩:=h;obtain⟨t,rfl⟩:=rx;obtain⟨t',rfl⟩:=ry;exact rule i j t t' s _ _ hc ⟨.int (g i j),H,I.tok _,⟨_,rfl⟩,q⟩
theorem opI0 {f:Value->Value->Sem Value}{g:Int->Int->Int}
  (rule:∀(i j:Int) (t u:Tok) (s:Shared) (Q:Vs0) (E:Vs0),Q (.int (g i j) s.toks) { s with toks:=s.toks+1 }->wpAny (model X.prog X.w) X.A (f (.int i t) (.int j u)) Q E s) :
  OpR X f (rI0 fun i j=>.int (g i j)):=by
 intro pins s σ H x y v u Q I rx ry h;obtain⟨i,j,rfl,rfl,q⟩:=h;obtain⟨t,rfl⟩:=rx;obtain⟨t',rfl⟩:=ry;exact rule i j t t' s _ _ ⟨.int (g i j),H,I.tok _,⟨_,rfl⟩,q⟩
theorem b4T {f:Value->Value->Sem Value}{g:Int->Int->Bool}
  (rule:∀(i j:Int) (t u:Tok) (s:Shared) (Q:Vs0) (E:Vs0),Q (.bool (g i j)) s->wpAny (model X.prog X.w) X.A (f (.int i t) (.int j u)) Q E s) :
  OpR X f (rI0 fun i j=>.bl (g i j)):=by
 intro pins s σ H x y v u Q I rx ry h;obtain⟨i,j,rfl,rfl,q⟩:=h;obtain⟨t,rfl⟩:=rx;obtain⟨t',rfl⟩:=ry;exact rule i j t t' s _ _ ⟨.bl (g i j),H,I,rfl,q⟩
def CDiv (i j:Int):Prop:=0<j/\j<1073741824
def b5G (i j:Int):Prop:=(-(2 ^ 64)<i/\i<2 ^ 64)\/(-(2 ^ 64)<j/\j<2 ^ 64)
theorem b5G.ok {i j:Int}(h:b5G i j):IntMulOk i j:=by
 rcases h with ⟨h1,h2⟩ |⟨h1,h2⟩
 ·exact .of_left (intBits_le_64 h1 h2)
 ·exact .of_right (intBits_le_64 h1 h2)
theorem two_pow_nn (k:Nat):(0:Int)<=2 ^ k:=by
 rw[two_pow_cast];exact Int.natCast_nonneg _
theorem a7X:OpR X (binaryOp .Add) (rI0 fun i j=>.int (i+j)):=opI0 fun _ _ _ _ _ _ _ q=>add_int q
theorem a7y:OpR X (binaryOp .Mult) (rI b5G fun i j=>.int (i * j)):=opI fun _ _ _ _ _ _ _ hc q=>mul_int q hc.ok
theorem a4f:OpR X (binaryOp .FloorDiv) (rI CDiv fun i j=>.int (i/j)):=opI fun i j _ _ _ _ _ hc q=>by
 have h1:(0:Int)<j:=hc.1;have h2:j<1073741824:=hc.2;exact floordiv_int (by omega) (by rw[Int.fdiv_eq_ediv_of_nonneg i (by omega)];exact q) (.inl (PyProof.noPylong_small (by omega)))
theorem a1A:OpR X (binaryOp .Mod) (rI (fun _ j=>0<j) fun i j=>.int (i%j)):=opI fun i j _ _ _ _ _ hc q=>by
 have h1:(0:Int)<j:=hc;exact mod_int' (by omega) (by rw[Int.fmod_eq_emod_of_nonneg i (by omega)];exact q)
theorem unI {f:Value->Sem Value}{g:Int->Int}
  (rule:∀(i:Int) (t:Tok) (s:Shared) (Q:Vs0) (E:Vs0),Q (.int (g i) s.toks) { s with toks:=s.toks+1 }->wpAny (model X.prog X.w) X.A (f (.int i t)) Q E s) :
  UnR X f (rU fun i=>.int (g i)):=by
 intro pins s σ H x v Q I rx h;obtain⟨i,rfl,q⟩:=h;obtain⟨t,rfl⟩:=rx;exact rule i t s _ _ ⟨.int (g i),H,I.tok _,⟨_,rfl⟩,q⟩
theorem a5N:UnR X (unaryOp .USub) (rU fun i=>.int (-i)):=unI fun _ _ _ _ _ q=>neg_int q
def b6H:V->V->Bool
 | .non,.non=>true | .non,.int _=>true | .int _,.non=>true | .non,.bl _=>true | .bl _,.non=>true | .non,.str _=>true | .str _,.non=>true
 | .int _,.int _=>true | .bl _,.bl _=>true | .str _,.str _=>true | .byt _,.byt _=>true
 | .int _,.str _=>true | .str _,.int _=>true | .bl _,.str _=>true | .str _,.bl _=>true
 |_,_=>false
def rEq:R2:=fun x y H Q=>b6H x y=true/\Q (.bl (decide (x=y))) H
def rNe:R2:=fun x y H Q=>b6H x y=true/\Q (.bl (!decide (x=y))) H
theorem a8W {i j:Int}:decide (V.int i=V.int j)=(i==j):=by
 rw[Bool.eq_iff_iff];simp
theorem b1K {i j:Bool}:decide (V.bl i=V.bl j)=(i==j):=by
 rw[Bool.eq_iff_iff];simp
theorem a7d {i j:Str}:decide (V.str i=V.str j)=(i==j):=by
 rw[Bool.eq_iff_iff];simp
theorem a9P {i j:Array UInt8}:decide (V.byt i=V.byt j)=(i.toList==j.toList):=by
 rw[Bool.eq_iff_iff];cases i;cases j;simp
theorem a1b {pins:List (Addr×Obj)}{σ:St}{H:Hp}{s:Shared}{Q:VK}{k k':Bool}(I:Inv X pins σ H s)(q:Q (.bl k) H)(e:k=k'):EP X pins σ Q (.bool k') s:=by
 subst e;exact⟨.bl k,H,I,rfl,q⟩
theorem a1k:OpR X (compareOp .Eq) rEq:=by
 intro pins s σ H x y v u Q I rx ry h;obtain⟨hs,q⟩:=h;cases x with
 |non=>
  cases rx;cases y with
  |non=>cases ry;exact PySem.EqNone.eq_none_none (a1b I q (by simp))
  |bl j=>cases ry;exact PySem.EqNone.eq_none_bool (a1b I q (by simp))
  |int j=>obtain⟨t',rfl⟩:=ry;exact PySem.EqNone.eq_none_int (a1b I q (by simp))
  |str j=>obtain⟨t',rfl⟩:=ry;exact PySem.EqNone.eq_none_str (a1b I q (by simp))
  |_=>exact absurd (show false=true from hs) bF0
 |bl i=>
  cases rx;cases y with
  |non=>cases ry;exact PySem.EqNone.eq_bool_none (a1b I q (by simp))
  |bl j=>cases ry;exact eq_bool (a1b I q b1K)
  |str j=>obtain⟨t',rfl⟩:=ry;exact PySem.EqMixed.eq_bool_str (a1b I q (by simp))
  |_=>exact absurd (show false=true from hs) bF0
 |int i=>
  obtain⟨t,rfl⟩:=rx;cases y with
  |non=>cases ry;exact PySem.EqNone.eq_int_none (a1b I q (by simp))
  |int j=>obtain⟨t',rfl⟩:=ry;exact eq_int (a1b I q a8W)
  |str j=>obtain⟨t',rfl⟩:=ry;exact PySem.EqMixed.eq_int_str (a1b I q (by simp))
  |_=>exact absurd (show false=true from hs) bF0
 |str i=>
  obtain⟨t,rfl⟩:=rx;cases y with
  |non=>cases ry;exact PySem.EqNone.eq_str_none (a1b I q (by simp))
  |bl j=>cases ry;exact PySem.EqMixed.eq_str_bool (a1b I q (by simp))
  |int j=>obtain⟨t',rfl⟩:=ry;exact PySem.EqMixed.eq_str_int (a1b I q (by simp))
  |str j=>obtain⟨t',rfl⟩:=ry;exact eq_str (a1b I q a7d)
  |_=>exact absurd (show false=true from hs) bF0
 |byt i=>
  obtain⟨t,rfl⟩:=rx;cases y with
  |byt j=>obtain⟨t',rfl⟩:=ry;exact PySem.W.eq_bytes (a1b I q a9P)
  |_=>exact absurd (show false=true from hs) bF0
 |_=>cases y<;>exact absurd (show false=true from hs) bF0
theorem a3O:OpR X (compareOp .NotEq) rNe:=by
 intro pins s σ H x y v u Q I rx ry h;obtain⟨hs,q⟩:=h;cases x with
 |non=>
  cases rx;cases y with
  |non=>cases ry;exact PySem.EqNone.ne_none_none (a1b I q (by simp))
  |bl j=>cases ry;exact PySem.EqNone.ne_none_bool (a1b I q (by simp))
  |int j=>obtain⟨t',rfl⟩:=ry;exact PySem.EqNone.ne_none_int (a1b I q (by simp))
  |str j=>obtain⟨t',rfl⟩:=ry;exact PySem.EqNone.ne_none_str (a1b I q (by simp))
  |_=>exact absurd (show false=true from hs) bF0
 |bl i=>
  cases rx;cases y with
  |non=>cases ry;exact PySem.EqNone.ne_bool_none (a1b I q (by simp))
  |bl j=>cases ry;exact ne_bool (a1b I q (congrArg not b1K))
  |str j=>obtain⟨t',rfl⟩:=ry;exact PySem.EqMixed.ne_bool_str (a1b I q (by simp))
  |_=>exact absurd (show false=true from hs) bF0
 |int i=>
  obtain⟨t,rfl⟩:=rx;cases y with
  |non=>cases ry;exact PySem.EqNone.ne_int_none (a1b I q (by simp))
  |int j=>obtain⟨t',rfl⟩:=ry;exact ne_int (a1b I q (congrArg not a8W))
  |str j=>obtain⟨t',rfl⟩:=ry;exact PySem.EqMixed.ne_int_str (a1b I q (by simp))
  |_=>exact absurd (show false=true from hs) bF0
 |str i=>
  obtain⟨t,rfl⟩:=rx;cases y with
  |non=>cases ry;exact PySem.EqNone.ne_str_none (a1b I q (by simp))
  |bl j=>cases ry;exact PySem.EqMixed.ne_str_bool (a1b I q (by simp))
  |int j=>obtain⟨t',rfl⟩:=ry;exact PySem.EqMixed.ne_str_int (a1b I q (by simp))
  |str j=>obtain⟨t',rfl⟩:=ry;exact ne_str (a1b I q (congrArg not a7d))
  |_=>exact absurd (show false=true from hs) bF0
 |byt i=>
  obtain⟨t,rfl⟩:=rx;cases y with
  |byt j=>obtain⟨t',rfl⟩:=ry;exact PySem.W.ne_bytes (a1b I q (congrArg not a9P))
  |_=>exact absurd (show false=true from hs) bF0
 |_=>cases y<;>exact absurd (show false=true from hs) bF0
theorem b0e:OpR X (compareOp .Lt) (rI0 fun i j=>.bl (decide (i<j))):=b4T fun _ _ _ _ _ _ _ q=>lt_int q
theorem b4r:OpR X (compareOp .LtE) (rI0 fun i j=>.bl (decide (i<=j))):=b4T fun _ _ _ _ _ _ _ q=>le_int q
theorem b5I:OpR X (compareOp .Gt) (rI0 fun i j=>.bl (decide (j<i))):=b4T fun _ _ _ _ _ _ _ q=>gt_int q
theorem b5i:OpR X (compareOp .GtE) (rI0 fun i j=>.bl (decide (j<=i))):=b4T fun _ _ _ _ _ _ _ q=>ge_int q
theorem a9i:OpR X (compareOp .In) (fun x y H Q=>∃i j,x=.str i/\y=.str j/\Q (.bl (!(Builtin.Str.occurrences j i 0 j.length 1).isEmpty)) H):=by
 intro pins s σ H x y v u Q I rx ry h;obtain⟨i,j,rfl,rfl,q⟩:=h;obtain⟨t,rfl⟩:=rx;obtain⟨t',rfl⟩:=ry;exact in_str (a1b I q rfl)
theorem a3K:OpR X (compareOp .Is) (fun x y H Q=>y=.non/\Q (.bl (decide (x=.non))) H):=by
 intro pins s σ H x y v u Q I rx ry h;obtain⟨rfl,q⟩:=h;cases ry;refine is_none_gen (a1b I q ?_);cases x<;>first
  | (cases rx;rfl)
  | (obtain⟨t,rfl⟩:=rx;rfl)
theorem a0u (b:Expr){op:CmpOp}(h:op≠.In:=by decide)(h2:op≠.NotIn:=by decide):behindInMarks op b=false:=by
 have e1:(op==CmpOp.In)=false:=by cases op<;>first |rfl |exact absurd rfl h
 have e2:(op==CmpOp.NotIn)=false:=by cases op<;>first |rfl |exact absurd rfl h2
 cases b<;>simp[behindInMarks,e1,e2]
theorem a0Q {op:CmpOp}{r:R2}(ho:OpR X (compareOp op) r)(ha:PE X a ta)(hb:PE X b tb)(hm:behindInMarks op b=false):PE X (.Compare a [op] [b] pos) (tOp r ta tb):=by
 intro pins s σ H Q I h;exact wpAny_Compare1 (b5o ha hb I h fun v u s2 x y H2 I2 rx ry q=>ho pins s2 σ H2 x y v u Q I2 rx ry q) hm
def b3O (t:TE):TT:=fun σ H Q=>t σ H fun x H'=>∃k,x=.bl k/\Q k H'
theorem a0t {op:CmpOp}{r:R2}(ho:OpR X (compareOp op) r)(ha:PE X a ta)(hb:PE X b tb)(hm:behindInMarks op b=false):PT X (.Compare a [op] [b] pos) (b3O (tOp r ta tb)):=by
 intro pins s σ H Q I h;refine wpAny_isTrue_Compare1 (thn (ha pins s σ H _ I h) fun v s1 ⟨x,H1,I1,r1,q1⟩=>thn (hb pins s1 σ H1 _ I1 q1) fun u s2 ⟨y,H2,I2,r2,q2⟩=>
  thn (ho pins s2 σ H2 x y v u _ I2 r1 r2 q2) fun c s3 ⟨z,H3,I3,r3,k,e,q3⟩=>?_) hm
 subst e;cases r3;exact wpAny_truthy_bool ⟨H3,I3,q3⟩
def b2i (r r':R2)(ta tb tc:TE):TE:=fun σ H Q=>ta σ H fun x H1=>tb σ H1 fun y H2=>r x y H2 fun z H3=>∃k,z=.bl k ∧
 (if k=true then tc σ H3 fun w' H4=>r' y w' H4 Q else Q (.bl false) H3)
theorem b0B {op op':CmpOp}{r r':R2}(ho:OpR X (compareOp op) r)(ho':OpR X (compareOp op') r')(ha:PE X a ta)(hb:PE X b tb)(hc:PE X c tc)
  (hm:lastMarks [op,op'] [b,c]=false:=by with_unfolding_all rfl):PE X (.Compare a [op,op'] [b,c] pos) (b2i r r' ta tb tc):=by
 intro pins s σ H Q I h;refine Compare_chain (thn (ha pins s σ H _ I h) fun v s1 ⟨x,H1,I1,r1,q1⟩=>chain_link (thn (hb pins s1 σ H1 _ I1 q1) fun u s2 ⟨y,H2,I2,r2,q2⟩=>
  thn (ho pins s2 σ H2 x y v u _ I2 r1 r2 q2) fun d s3 ⟨z,H3,I3,r3,k,e,q3⟩=>?_)) hm
 subst e;cases r3;refine wpAny_truthy_bool ?_;cases k with
 |false=>exact ite_ff ⟨.bl false,H3,I3,rfl,q3⟩
 |true=>exact ite_tt (chain_last (thn (hc pins s3 σ H3 _ I3 q3) fun w' s4 ⟨z',H4,I4,r4,q4⟩=>ho' pins s4 σ H4 y z' u w' Q I4 r2 r4 q4))
theorem b1v {op op':CmpOp}{r r':R2}(ho:OpR X (compareOp op) r)(ho':OpR X (compareOp op') r')(ha:PE X a ta)(hb:PE X b tb)(hc:PE X c tc)
  (hm:lastMarks [op,op'] [b,c]=false:=by with_unfolding_all rfl):PT X (.Compare a [op,op'] [b,c] pos) (b3O (b2i r r' ta tb tc)):=by
 intro pins s σ H Q I h;refine isTrue_chain (thn (ha pins s σ H _ I h) fun v s1 ⟨x,H1,I1,r1,q1⟩=>test_link (thn (hb pins s1 σ H1 _ I1 q1) fun u s2 ⟨y,H2,I2,r2,q2⟩=>
  thn (ho pins s2 σ H2 x y v u _ I2 r1 r2 q2) fun d s3 ⟨z,H3,I3,r3,k,e,q3⟩=>?_)) hm
 subst e;cases r3;refine wpAny_truthy_bool ?_;cases k with
 |false=>
  obtain⟨k',e',q'⟩:=q3;cases e';exact ite_ff ⟨H3,I3,q'⟩
 |true=>
  refine ite_tt (test_last (thn (hc pins s3 σ H3 _ I3 q3) fun w' s4 ⟨z',H4,I4,r4,q4⟩=>thn (ho' pins s4 σ H4 y z' u w' _ I4 r2 r4 q4) fun d' s5 ⟨z2,H5,I5,r5,k2,e2,q5⟩=>?_));subst e2;cases r5;exact wpAny_truthy_bool ⟨H5,I5,q5⟩
theorem a6v:(sizeLine:Nat)<2 ^ 63:=by rw[sizeLine_eq];decide
theorem a8z:OpR X (binaryOp .Add) (fun x y H Q=>∃i j,x=.str i/\y=.str j/\i.length+j.length<=sizeLine/\Q (.str (i++j)) H):=by
 intro pins s σ H x y v u Q I rx ry h;obtain⟨i,j,rfl,rfl,hz,q⟩:=h;obtain⟨t,rfl⟩:=rx;obtain⟨t',rfl⟩:=ry;exact add_str (fun t' tk=>⟨.str (i++j),H,I.tok _,⟨_,rfl⟩,q⟩) hz
theorem a2o {x:V}{us:List Value}(r:a1l [x] us):∃u,us=[u]/\a1e x u:=by
 cases r with
 |cons r1 r2=>cases r2;exact⟨_,rfl,r1⟩
theorem a9y {x y:V}{us:List Value}(r:a1l [x,y] us):∃u w',us=[u,w']/\a1e x u/\a1e y w':=by
 cases r with
 |cons r1 r2=>
  cases r2 with
  |cons r3 r4=>cases r4;exact⟨_,_,rfl,r1,r3⟩
theorem b0t:a1u X (.builtin "ord") (fun xs H Q=>∃x,xs=[.str x]/\x.length=1/\Q (.int (x.cps.getD 0 0:Nat)) H):=by
 intro pins s σ H xs us Q I r h;obtain⟨x,rfl,hz,q⟩:=h;obtain⟨u,rfl,t,rfl⟩:=a2o r;exact ord_of_one hz ⟨.int _,H,I.tok _,⟨_,rfl⟩,q⟩
end
structure b3g (h:Heap) (x dx C:Addr) (mA:Str->Option Value):Prop where
 obj:h.get? x=some (PySem.W.instObj C dx)
 ns:h.Ns1 dx mA
 ne:dx≠x
theorem a6q {h:Heap}{dx:Addr}{mA:Str->Option Value}(n:h.Ns1 dx mA):∃od,h.get? dx=some od/\∀name,PySem.W.lookIn name od=some (mA name):=by
 obtain⟨o,es,ep,ho,hd,hk,_,hm⟩:=n;refine⟨o,ho,fun name=>?_⟩;have e:=hm name;unfold nsFind findBy at e;rw[<-Array.find?_toList] at e;unfold PySem.W.lookIn;rw[hd]
 dsimp only
 split
 ·rename_i y q
  rw[q] at e;exact congrArg some e
 ·rename_i q
  rw[q] at e;have a:es.toList.any (·.refKey)=false:=by
   rw[List.any_eq_false];intro y hy;obtain⟨z,t,hkey⟩:=hk y (Array.mem_toList_iff.mp hy);simp[DictEntry.refKey,hkey]
  have a':¬es.toList.any (·.refKey)=true:=by rw[a];exact bF0
  rw[if_neg a'];exact congrArg some e
theorem b3g.look {h:Heap}{x dx C:Addr}{mA:Str->Option Value}(I:b3g h x dx C mA):∃od,PySem.W.InstAt h x (PySem.W.instObj C dx) C (some od)/\∀name,PySem.W.lookIn name od=some (mA name):=
 let ⟨od,ho,hl⟩:=a6q I.ns
 ⟨od,⟨I.obj,rfl,rfl,ho⟩,hl⟩
section
variable {prog:Program}{w:World}{A:Around}{E:Vs0}{s:Shared}{K:Fg0}{x dx C f:Addr}{mA:Str->Option Value}{name:Str}{v:Value}
theorem b2r {expr:Bool}{Q:Vs0}(X:K.In s.heap)(I:b3g s.heap x dx C mA)(hg:PySem.W.plainGet K C name=true)(hh:PySem.W.hasDictIn K C=true)
  (ha:PySem.W.findIn K (.ref C) name=some none) (hv:mA name=some v) (hv':PySem.W.handedIn v=true) (h:Q v { s with toks:=s.toks+1 }) :
  wpAny (model prog w) A (getAttr (.ref x) name expr) Q E s:=by
 obtain⟨od,J,hl⟩:=I.look;exact PySem.W.get_value X J (PySem.W.plainGet_of hg).1 (PySem.W.findObj_own hh ha rfl (by rw[hl,hv])) hv' h
theorem b1q {pl:Sem Bool}{Q:Value×List Value->Shared->Prop}(X:K.In s.heap)(I:b3g s.heap x dx C mA)(hg:PySem.W.plainGet K C name=true)
  (hf:PySem.W.findIn K (.ref C) name=some (some (.ref f))) (ht:PySem.W.isFn K (.ref f)=true) (hv:mA name=none) (h:Q (.ref f,[.ref x]) s) :
  wpAny (model prog w) A (getMethod (.ref x) name pl) Q E s:=by
 obtain⟨od,J,hl⟩:=I.look;exact PySem.W.method_fn X J (PySem.W.plainGet_of hg).1 (PySem.W.plainGet_of hg).2 hf (beq_iff_eq.mp ht) (by show(PySem.W.lookIn name od).map (·.isSome)=some false;rw[hl,hv];rfl) h
theorem b2M {ns:List Str}{Q:Unit->Shared->Prop}(X:K.In s.heap)(I:b3g s.heap x dx C mA)
  (hs:PySem.W.findIn K (.ref C) "__setattr__"=some (some (.builtin "object.__setattr__"))) (hp:PySem.W.plainOver K C=true) (ht:PySem.W.takerIn K C name=some none) (hh:PySem.W.hasDictIn K C=true)
  (hw:PySem.Within mA ns) (hsz:ns.length<=sizeLine)
  (h:∀h',b3g h' x dx C (fun y=>if y=name then some v else mA y)->Heap.SameBut dx s.heap h'->Q () { s with heap:=h',toks:=s.toks+2 }) :
  wpAny (model prog w) A (setAttr (.ref x) name v) Q E s:=by
 obtain⟨od,J,hl⟩:=I.look;refine PySem.W.set_plain X J hs (PySem.W.osa_open (s:={ s with toks:=s.toks+1 }) (r:=none) X J hp ht fun b=>?_);obtain⟨cd,hc,hd'⟩:=PySem.W.any_some hh;have hx:s.heap.get? x=some ⟨.ref C,some dx,.plain,#[]⟩:=I.obj;refine wB0 (wP0 (wB0 (wB0 (wpAny_loadPart hx (wB0 (PySem.W.Looks.here (s:={ s with toks:=s.toks+1 }) (PySem.W.looks_clsIn X hc) ?_))))));rw[hd'];refine wP0 (a:=some dx) (wB0 (wP0 (wB0 ?_)));refine wpAny_nsSet1 (s:={ s with toks:=s.toks+1 }) I.ns fun h' hn2 hs2=>?_;obtain⟨oD,esD,epD,hoD,hdD,hcD⟩:=hn2.count (PySem.Within.cons name v hw);refine wB0 (wpAny_lookBehind hoD (by rw[hdD];exact pastItsLine_dict (Nat.le_trans hcD (by rw[List.length_cons];omega))) ?_);exact wP0 (h _ ⟨(hs2.2 _ (Ne.symm I.ne)).trans I.obj,hn2,I.ne⟩ hs2)
theorem b0o {R:Result->Shared->Prop}{vs:List Value}{kw:List (Str×Value)}(X:K.In s.heap)(hm:PySem.W.makesIn K C=true)
  (hi:PySem.W.findIn K (.ref C) "__init__"=some (some (.ref f))) (hf:PySem.W.typeIn K (.ref f)=some (.type "function"))
  (h:codeAny (model prog w) (A.under (.builtin "type.__call__" ⟨.ref C::vs,kw⟩)) (.call (.ref f) ⟨.ref (s.heap.objs.size+1)::vs,kw⟩) (PySem.W.InitBack (s.heap.objs.size+1) R)
   { s with heap:=(s.heap.push PySem.W.emptyDict).push (PySem.W.instObj C s.heap.objs.size) }) :
  codeAny (model prog w) A (.call (.ref C) ⟨vs,kw⟩) R s:=by
 obtain⟨hh,g,d,t,os⟩:=s;exact PySem.W.make_core (PySem.W.makes_of X hm) (PySem.W.looks_findIn X hi) (fun self=>PySem.W.bind_fn X self hf) (.inl rfl) h
end
def a3t (f:Str)(v:V):List (Str×V)->List (Str×V)
 |[]=>[(f,v)]
 | (g,x)::r=>if g=f then(g,v)::r else(g,x)::a3t f v r
theorem a0Y (f g:Str)(v:V):∀fs:List (Str×V),(a3t f v fs).lookup g=if g=f then some v else fs.lookup g
 |[]=>by
  show List.lookup g [(f,v)]=_
  by_cases h:g=f
  ·have hb:(g==f)=true:=beq_iff_eq.mpr h
   simp only[List.lookup,hb,if_pos h]
  ·have hb:(g==f)=false:=beq_eq_false_iff_ne.mpr h
   simp only[List.lookup,hb,if_neg h]
 | (k,x)::r=>by
  have ih:=a0Y f g v r;rw[show a3t f v ((k,x)::r)=(if k=f then(k,v)::r else(k,x)::a3t f v r) from rfl]
  by_cases hk:k=f
  ·rw[if_pos hk]
   by_cases h:g=k
   ·have hb:(g==k)=true:=beq_iff_eq.mpr h
    simp only[List.lookup,hb,if_pos (h.trans hk)]
   ·have hb:(g==k)=false:=beq_eq_false_iff_ne.mpr h
    simp only[List.lookup,hb,if_neg (fun e:g=f=>h (e.trans hk.symm))]
  ·rw[if_neg hk]
   by_cases h:g=k
   ·have hb:(g==k)=true:=beq_iff_eq.mpr h
    simp only[List.lookup,hb,if_neg (fun e:g=f=>hk (h.symm.trans e))]
   ·have hb:(g==k)=false:=beq_eq_false_iff_ne.mpr h
    simp only[List.lookup,hb];exact ih
theorem a4j (f:Str)(v:V):∀fs:List (Str×V),f∈(a3t f v fs).map (·.1)/\∀g,g∈fs.map (·.1)->g∈(a3t f v fs).map (·.1)
 |[]=>⟨by simp[a3t],fun g h=>by simp at h⟩
 | (k,x)::r=>by
  obtain⟨i1,i2⟩:=a4j f v r;rw[show a3t f v ((k,x)::r)=(if k=f then(k,v)::r else(k,x)::a3t f v r) from rfl]
  by_cases hk:k=f
  ·rw[if_pos hk]
   subst hk;exact⟨by simp,fun g h=>by simpa using h⟩
  ·rw[if_neg hk]
   refine⟨?_,fun g h=>?_⟩
   ·rw[mN0]
    exact mL0 _ i1
   ·rw[mN0] at h ⊢
    rcases mK0.mp h with e |e
    ·exact mK0.mpr (.inl e)
    ·exact mL0 _ (i2 g e)
theorem a2A (f:Str)(v:V):∀fs:List (Str×V),(a3t f v fs).length<=fs.length+1
 |[]=>by simp[a3t]
 | (k,x)::r=>by
  have ih:=a2A f v r;rw[show a3t f v ((k,x)::r)=(if k=f then(k,v)::r else(k,x)::a3t f v r) from rfl]
  by_cases hk:k=f
  ·rw[if_pos hk,List.length_cons,List.length_cons];omega
  ·rw[if_neg hk,List.length_cons,List.length_cons];omega
theorem a4w.some_of {v:V}{o:Option Value}(r:a4w (some v) o):∃u,o=some u/\a1e v u:=by
 cases o with
 |none=>exact(show False from r).elim
 |some u=>exact⟨u,rfl,r⟩
theorem a4w.none_of {o:Option Value}(r:a4w none o):o=none:=by
 cases o with
 |none=>rfl
 |some u=>exact(show False from r).elim
theorem a5L {v:V}{u:Value}(r:a1e v u):PySem.W.handedIn u=true:=by
 cases v with
 |non=>cases(show u=Value.none from r);rfl
 |bl b=>cases(show u=Value.bool b from r);rfl
 |int i=>obtain⟨t,e⟩:=(show ∃t,u=Value.int i t from r);cases e;rfl
 |str x=>obtain⟨t,e⟩:=(show ∃t,u=Value.str x t from r);cases e;rfl
 |byt b=>obtain⟨t,e⟩:=(show ∃t,u=Value.bytes b t from r);cases e;rfl
 |flt b=>obtain⟨t,e⟩:=(show ∃t,u=Value.float b t from r);cases e;rfl
 |ref a=>cases(show u=Value.ref a from r);rfl
 |ty n=>cases(show u=Value.type n from r);rfl
section
variable {P:Program}{w:World}{H H':Hp}{h h':Heap}{a C dx:Addr}{fs fs':List (Str×V)}
theorem a5u (hok:HOk P w H h)(e:H a=some (.ins C dx fs)):∃mA,b3g h a dx C mA/\(∀f,a4w (fs.lookup f) (mA f))/\PySem.Within mA (fs.map (·.1))/\fs.length<=1000/\H dx=some (.own a):=by
 obtain⟨d,z,ne,ob,mA,n,r,q⟩:=(show a1h P w H h a (.ins C dx fs) from hok a _ e);exact⟨mA,⟨ob,n,ne⟩,r,q,z,d⟩
end
structure Cls (K:Fg0) (C:Addr):Prop where
 pg:PySem.W.plainGet K C Str.empty=true
 hd:PySem.W.hasDictIn K C=true
 po:PySem.W.plainOver K C=true
 sa:PySem.W.findIn K (.ref C) "__setattr__"=some (some (.builtin "object.__setattr__"))
theorem Cls.get {K:Fg0}{C:Addr}(c:Cls K C)(f:Str):PySem.W.plainGet K C f=true:=c.pg
def a2q (K:Fg0)(C:Addr)(f:Str):Prop:=PySem.W.findIn K (.ref C) f=some none
theorem a2q.taker {K:Fg0}{C:Addr}{f:Str}(n:a2q K C f):PySem.W.takerIn K C f=some none:=by
 unfold PySem.W.takerIn;rw[show PySem.W.findIn K (.ref C) f=some none from n]
 rfl
structure a6C (K:Fg0) (C:Addr) (m:Str) (f:Addr):Prop where
 at_:PySem.W.findIn K (.ref C) m=some (some (.ref f))
 fn:PySem.W.isFn K (.ref f)=true
 kp:PySem.W.keepIn K (.ref f)=true
section
variable {X:Cx}{pins:List (Addr×Obj)}{σ:St}{H:Hp}{s:Shared}{a C dx:Addr}{fs:List (Str×V)}{f:Str}{v:V}{A:Around}{E:Vs0}
theorem a8h {b:Bool}{Q:Vs0}(I:Inv X pins σ H s)(e:H a=some (.ins C dx fs))(c:Cls X.K C)(n:a2q X.K C f)(l:fs.lookup f=some v)
  (h:∀u s',Inv X pins σ H s'->a1e v u->Q u s'):wpAny (model X.prog X.w) A (getAttr (.ref a) f b) Q E s:=by
 obtain⟨mA,O,r,_,_,_⟩:=a5u I.hok e;obtain⟨u,hu,ru⟩:=a4w.some_of (v:=v) (o:=mA f) (by rw[<-l];exact r f);exact b2r I.kIn O (c.get f) c.hd n hu (a5L ru) (h u _ (I.tok _) ru)
theorem a2V {m:Str}{g:Addr}{pl:Sem Bool}{Q:Value×List Value->Shared->Prop}(I:Inv X pins σ H s)(e:H a=some (.ins C dx fs))(c:Cls X.K C)(k:a6C X.K C m g)(l:fs.lookup m=none)
  (h:Q (.ref g,[.ref a]) s):wpAny (model X.prog X.w) A (getMethod (.ref a) m pl) Q E s:=by
 obtain⟨mA,O,r,_,_,_⟩:=a5u I.hok e;have hn:mA m=none:=a4w.none_of (by rw[<-l];exact r m);exact b1q I.kIn O (c.get m) k.at_ k.fn hn h
theorem a8C {y:V}{u:Value}{Q:Unit->Shared->Prop}(I:Inv X pins σ H s)(e:H a=some (.ins C dx fs))(c:Cls X.K C)(n:a2q X.K C f)(hl:fs.length<1000)(ry:a1e y u)
  (h:∀s',Inv X pins σ (upd H a (.ins C dx (a3t f y fs))) s'->Q () s'):wpAny (model X.prog X.w) A (setAttr (.ref a) f u) Q E s:=by
 obtain⟨mA,O,r,wi,_,ho⟩:=a5u I.hok e;have hz:(fs.map (·.1)).length<=sizeLine:=by rw[lM0,sizeLine_eq];omega
 refine b2M I.kIn O c.sa c.po n.taker c.hd wi hz fun h' O' sb=>h _ ?_;have hd:∃o,h'.get? dx=some o:=let ⟨o,_,_,e',_⟩:=O'.ns;⟨o,e'⟩
 refine I.write (x:=a) (e:=dx) (by rw[e];exact True.intro) (.inr ho) (fun b q hb z=>(sb.2 b hb).trans z) hd ?_;refine⟨by rw[a0g O.ne];exact ho,?_,O.ne,O'.obj,_,O'.ns,fun g=>?_,fun g hg=>?_⟩
 ·have:=a2A f y fs;omega
 ·show a4w ((a3t f y fs).lookup g) (if g=f then some u else mA g)
  rw[a0Y]
  by_cases q:g=f
  ·rw[if_pos q,if_pos q];exact ry
  ·rw[if_neg q,if_neg q];exact r g
 ·by_cases q:g=f
  ·rw[q];exact(a4j f y fs).1
  ·refine(a4j f y fs).2 g (wi g fun z=>hg ?_)
   show(if g=f then some u else mA g)=none
   rw[if_neg q];exact z
theorem Inv.made (I:Inv X pins σ H s):Inv X pins σ (upd (upd H s.heap.objs.size (.own (s.heap.objs.size+1))) (s.heap.objs.size+1) (.ins C s.heap.objs.size []))
  { s with heap:=(s.heap.push PySem.W.emptyDict).push (PySem.W.instObj C s.heap.objs.size) }:=by
 have e1:(s.heap.push PySem.W.emptyDict).get? s.heap.objs.size=some PySem.W.emptyDict:=hS0 s.heap rfl;have e2:((s.heap.push PySem.W.emptyDict).push (PySem.W.instObj C s.heap.objs.size)).get? (s.heap.objs.size+1)=some (PySem.W.instObj C s.heap.objs.size):=by
  have:=hS0 (s.heap.push PySem.W.emptyDict) (o:=PySem.W.instObj C s.heap.objs.size) rfl
  rwa [Heap.size_push] at this
 have e3:(s.heap.push PySem.W.emptyDict).Ns s.heap.objs.size (fun _=>none):=⟨PySem.W.emptyDict,#[],_,e1,rfl,(fun e he=>absurd he (by simp)),fun _=>rfl⟩;have I1:=I.laid (a:=s.heap.objs.size) (o:=.own (s.heap.objs.size+1)) (h':=s.heap.push PySem.W.emptyDict) (t':=s.toks) (fun b u q=>hP0 _ q) (nR0 _) ⟨_,e1⟩;refine I1.laid (a:=s.heap.objs.size+1) (o:=.ins C s.heap.objs.size []) (t':=s.toks) (fun b u q=>hP0 _ q) (Nat.le_of_eq (Heap.size_push _ _)) ?_;have ne:s.heap.objs.size≠s.heap.objs.size+1:=nL0 (Nat.lt_succ_self _);refine⟨by rw[a0g ne,a0d],zL0 _,ne,e2,fun _=>none,(Heap.Ns1.of_empty e3).at fun o q=>hP0 _ q,fun _=>True.intro,fun y hy=>absurd rfl hy⟩
theorem a9f {prog:Program}{w:World}{env:Env}{e:Expr}{f:Str}{pos:Pos}{s:Shared}{Q:Vs0}(hb:attributeBase e f env (eval e env)=eval e env)
  (h:wpAny (model prog w) A (eval e env) (fun o s₁=>wpAny (model prog w) A (getAttr o f true) Q E s₁) E s):wpAny (model prog w) A (eval (.Attribute e f pos) env) Q E s:=
 Attribute_any_ h (by rw[arm_eval_Attribute,hb])
end
def tFld (K:Fg0)(ta:TE)(f:Str):TE:=fun σ H Q=>ta σ H fun x H1=>∃a C dx fs v,x=.ref a/\H1 a=some (.ins C dx fs)/\Cls K C/\a2q K C f/\fs.lookup f=some v/\Q v H1
def sFld (K:Fg0)(ta tv:TE)(f:Str):TS:=fun D σ H=>tv σ H fun y H1=>ta σ H1 fun x H2=>∃a C dx fs,x=.ref a/\H2 a=some (.ins C dx fs)/\Cls K C/\a2q K C f/\fs.length<1000 ∧
 D.nx σ (upd H2 a (.ins C dx (a3t f y fs)))
section
variable {X:Cx}{o e value:Expr}{f:Str}{pos pos' tpos:Pos}{ta tv:TE}
theorem a0M (he:PE X e ta)(hb:attributeBase e f X.env (eval e X.env)=eval e X.env):PE X (.Attribute e f pos) (tFld X.K ta f):=by
 intro pins s σ H Q I h;refine a9f hb (thn (he pins s σ H _ I h) fun u s1 ⟨x,H1,I1,rx,a,C,dx,fs,v,ex,ea,c,n,l,q⟩=>?_);subst ex;obtain rfl:u=Value.ref a:=rx;exact a8h I1 ea c n l fun u' s2 I2 ru=>⟨v,H1,I2,ru,q⟩
theorem a7M (ha:PE X o ta)(hv:PE X value tv)(hs:swapsWith value (some (.Attribute o f pos')) pos.line X.env=pure false):PS X (.Assign [.Attribute o f pos'] value pos) (sFld X.K ta tv f):=by
 intro pins s σ H D I h;refine plainObj_wpAny_Assign_Attribute (thn (hv pins s σ H _ I h) fun u s1 ⟨y,H1,I1,ry,q⟩=>thn (ha pins s1 σ H1 _ I1 q) fun ov s2 ⟨x,H2,I2,rx,a,C,dx,fs,ex,ea,c,n,l,q2⟩=>?_) hs;subst ex;obtain rfl:ov=Value.ref a:=rx;exact a8C I2 ea c n l ry fun s3 I3=>⟨σ,_,I3,q2⟩
theorem b2v {pl:Sem Bool}{m:Str}{apos:Pos}{args:List Expr}{pins:List (Addr×Obj)}{s:Shared}{σ:St}{H:Hp}{Q:Vs0}{te:TE}(he:PE X e te)(I:Inv X pins σ H s)
  (h:te σ H fun x H1=>∃a C dx fs g,x=.ref a/\H1 a=some (.ins C dx fs)/\Cls X.K C/\a6C X.K C m g/\fs.lookup m=none ∧
   ∀s1,Inv X pins σ H1 s1->wpAny (model X.prog X.w) X.A (callWith pos (.ref g) [.ref a] (backTo pos (starEach args X.env)) (backToKw pos (keywordEach [] X.env))) Q X.xe s1)
  (ht:eval (.Call (.Attribute e m apos) args [] pos) X.env=(do
   let ov <-eval e X.env
   standAt apos.atName
   let (f,first) <-holding [ov] (getMethod ov m pl)
   callWith pos f first (backTo pos (starEach args X.env)) (backToKw pos (keywordEach [] X.env)))) :
  wpAny (model X.prog X.w) X.A (eval (.Call (.Attribute e m apos) args [] pos) X.env) Q X.xe s:=by
 refine PySem.W.methodCall_KW (pl:=pl) (thn (he pins s σ H _ I h) fun u s1 ⟨x,H1,I1,rx,a,C,dx,fs,g,ex,ea,c,k,l,q⟩=>?_) ht;subst ex;obtain rfl:u=Value.ref a:=rx;exact a2V I1 ea c k l (q s1 I1)
end
section
variable {X:Cx}{pins:List (Addr×Obj)}{σ:St}{H:Hp}{s:Shared}{A:Around}{E:Vs0}{Q:Vs0}{c:Value}{b:Bool}
inductive a7e (K:Fg0) (H:Hp):V->Value->Prop where
 |non:a7e K H .non (.type "NoneType")
 |bl (x:Bool):a7e K H (.bl x) (.type "bool")
 |int (i:Int):a7e K H (.int i) (.type "int")
 |str (x:Str):a7e K H (.str x) (.type "str")
 |flt (x:UInt64):a7e K H (.flt x) (.type "float")
 |lst {a:Addr} {xs:List V} (e:H a=some (.lst xs)):a7e K H (.ref a) (.type "list")
 |frz {a:Addr} {o:Obj} {xs:List V} (e:H a=some (.frz o (.lst xs))):a7e K H (.ref a) (.type "list")
 |tup {a:Addr} {xs:List V} (e:H a=some (.tup xs)):a7e K H (.ref a) (.type "tuple")
 |dK {a:Addr} {kvs:List (Key×V)} (e:H a=some (.dK kvs)):a7e K H (.ref a) (.type "dict")
 |dT {a:Addr} {kvs:List (List Key×V)} (e:H a=some (.dT kvs)):a7e K H (.ref a) (.type "dict")
 |ins {a C dx:Addr} {fs:List (Str×V)} (e:H a=some (.ins C dx fs)) (cl:Cls K C) (ha:PySem.W.findIn K (.ref C) "__class__"=some (some (.builtin "object.__class__")))
   (hn:PySem.W.specialIn K (.builtin "object.__class__") "__get__"=some (some (.builtin "getset_descriptor.__get__"))) (htk:PySem.W.takesIn K (.builtin "object.__class__")=some true)
   (hm:PySem.W.mroIn K C (.type "object")=some true):a7e K H (.ref a) (.ref C)
theorem a8X {x:V}{u t:Value}(I:Inv X pins σ H s)(rx:a1e x u)(ty:a7e X.K H x t)(e:PySem.W.kitOne X.K t c=some b)(h:∀tk,Q (.bool b) { s with toks:=tk }) :
  wpAny (model X.prog X.w) A (call (.builtin "isinstance") [u,c]) Q E s:=by
 cases ty with
 |non=>cases(show u=Value.none from rx);exact PySem.W.kia_one PySem.W.kitx_none I.kIn True.intro e (fun z=>nomatch z) h
 |bl y=>cases(show u=Value.bool y from rx);exact PySem.W.kia_one PySem.W.kitx_bool I.kIn True.intro e (fun z=>nomatch z) h
 |int i=>obtain⟨t,q⟩:=(show ∃t,u=Value.int i t from rx);cases q;exact PySem.W.kia_one PySem.W.kitx_int I.kIn True.intro e (fun z=>nomatch z) h
 |str y=>obtain⟨t,q⟩:=(show ∃t,u=Value.str y t from rx);cases q;exact PySem.W.kia_one PySem.W.kitx_str I.kIn True.intro e (fun z=>nomatch z) h
 |flt y=>obtain⟨t,q⟩:=(show ∃t,u=Value.float y t from rx);cases q;exact PySem.W.kia_one PySem.W.kitx_float I.kIn True.intro e (fun z=>nomatch z) h
 |@lst a xs ea=>
  cases(show u=Value.ref a from rx)
  obtain⟨_,_,n,_,h1⟩:=(show a1h X.prog X.w H s.heap a (.lst xs) from I.hok a _ ea);exact PySem.W.kia_one PySem.W.kitx_list I.kIn ⟨_,h1,rfl⟩ e (fun z=>nomatch z) h
 |@frz a ob xs ea=>
  cases(show u=Value.ref a from rx)
  obtain⟨_,_,_,n,_,h1⟩:=(show a1h X.prog X.w H s.heap a (.frz ob (.lst xs)) from I.hok a _ ea);exact PySem.W.kia_one PySem.W.kitx_list I.kIn ⟨_,h1,rfl⟩ e (fun z=>nomatch z) h
 |@tup a xs ea=>
  cases(show u=Value.ref a from rx)
  obtain⟨_,_,_,p⟩:=(show a1h X.prog X.w H s.heap a (.tup xs) from I.hok a _ ea);obtain⟨o,h1,h2,_⟩:=p;exact PySem.W.kia_one PySem.W.kitx_tuple I.kIn ⟨o,h1,h2⟩ e (fun z=>nomatch z) h
 |@dK a kvs ea=>
  cases(show u=Value.ref a from rx)
  obtain⟨_,_,vs,_,p⟩:=(show a1h X.prog X.w H s.heap a (.dK kvs) from I.hok a _ ea);obtain⟨o,es,ep,h1,h2,_⟩:=p;exact PySem.W.kia_one PySem.W.kitx_dict I.kIn ⟨o,h1,h2.1⟩ e (fun z=>nomatch z) h
 |@dT a kvs ea=>
  cases(show u=Value.ref a from rx)
  obtain⟨_,_,xs,_,o,es,ep,h1,h2,_⟩:=(show a1h X.prog X.w H s.heap a (.dT kvs) from I.hok a _ ea);exact PySem.W.kia_one PySem.W.kitx_dict I.kIn ⟨o,h1,h2.1⟩ e (fun z=>nomatch z) h
 |@ins a C dx fs ea cl ha hn htk hm=>
  cases(show u=Value.ref a from rx)
  obtain⟨mA,O,_⟩:=a5u I.hok ea;obtain⟨od,J,_⟩:=O.look;exact PySem.W.kia_one (PySem.W.kitx_own (cl.get _) cl.hd ha hn htk hm) I.kIn J e (fun z=>nomatch z) h
end
structure a1g (k:Nat) (A:Around):Prop where
 hd:A.handled=none
 dp:A.depth+3 * k+5<recursionLimit
 un:A.units+16 * k+200<cLine
theorem a1g.mono {j k:Nat}{A:Around}(r:a1g k A)(h:j<=k):a1g j A:=⟨r.hd,by have:=r.dp;omega,by have:=r.un;omega⟩
theorem a1g.deeper {k:Nat}{A:Around}(r:a1g (k+1) A)(env:Env):a1g k (A.deeper env):=
 ⟨r.hd,by have:=r.dp;show A.depth+1+3 * k+5<_;omega,by have:=r.un;show A.units+3+16 * k+200<_;omega⟩
theorem a1g.in1 {k:Nat}{A:Around}(r:a1g (k+1) A):a1g k A.in1:=
 ⟨r.hd,by have:=r.dp;show A.depth+3 * k+5<_;omega,by have:=r.un;show A.units+1+16 * k+200<_;omega⟩
theorem a8d {A:Around}{C:Addr}{us:List Value}{kw:List (Str×Value)}:(A.under (.builtin "type.__call__" ⟨.ref C::us,kw⟩)).depth=A.depth+1:=by
 first |rfl |simp[Around.under,Code.weight,Code.isCreation,Code.isGuard,Code.isCaller,Code.frames,Code.isFrame,guardIds]
theorem a8u {A:Around}{C:Addr}{us:List Value}{kw:List (Str×Value)}:(A.under (.builtin "type.__call__" ⟨.ref C::us,kw⟩)).units=A.units+1:=by
 first |rfl |simp[Around.under,Code.cUnits,Code.frames,Code.isFrame]
theorem a1g.make {k:Nat}{A:Around}(r:a1g (k+1) A)(C:Addr)(us:List Value)(kw:List (Str×Value)):a1g k (A.under (.builtin "type.__call__" ⟨.ref C::us,kw⟩)):=
 ⟨r.hd,by have:=r.dp;rw[a8d];omega,by have:=r.un;rw[a8u];omega⟩
theorem a1g.depth {k:Nat}{A:Around}(r:a1g k A):A.depth<recursionLimit:=by have:=r.dp;omega
theorem a1g.units {k:Nat}{A:Around}(r:a1g k A):A.units+64<cLine:=by have:=r.un;omega
theorem a1g.units0 {k:Nat}{A:Around}(r:a1g k A):A.units<cLine:=by have:=r.un;omega
def b2Q:TA:=fun _ H Q=>Q [] H
def b5L (ta:TE)(tr:TA):TA:=fun σ H Q=>ta σ H fun x H1=>tr σ H1 fun xs H2=>Q (x::xs) H2
section
variable {X:Cx}{e:Expr}{es:List Expr}{te:TE}{t:TA}{pos:Pos}
theorem a0b:PA X [] b2Q:=fun _ _ _ _ H Q I h=>Calls.spliced_nil ⟨[],H,I,.nil,h⟩
theorem a0a (ha:PE X e te)(hr:PA X es t)(hs:starEach (e::es) X.env=(false,eval e X.env)::starEach es X.env:=by rfl):PA X (e::es) (b5L te t):=by
 intro pos pins s σ H Q I h;rw[hs];show wpAny _ _ (spliced ((false,eval e X.env)::backTo pos (starEach es X.env))) _ _ s;refine Calls.spliced_cons (thn (ha pins s σ H _ I h) fun u s1 ⟨x,H1,I1,r1,q1⟩=>?_);exact thn (hr pos pins s1 σ H1 _ I1 q1) fun us s2 ⟨xs,H2,I2,r2,q2⟩=>⟨x::xs,H2,I2,.cons r1 r2,q2⟩
def tTup (t:TA):TE:=fun σ H Q=>t σ H fun xs H1=>xs.length<=sizeLine/\∀p,H1 p=none->Q (.ref p) (upd H1 p (.tup xs))
def tLst (t:TA):TE:=fun σ H Q=>t σ H fun xs H1=>xs.length<=sizeLine/\∀p,H1 p=none->Q (.ref p) (upd H1 p (.lst xs))
theorem a0D {x1}(h:PA X es t):PE X (.Tuple es x1 pos) (tTup t):=by
 intro pins s σ H Q I hq;refine wpAny_Tuple_spliced (thn (h pos pins s σ H _ I hq) fun us s1 ⟨xs,H1,I1,r,z,q⟩=>⟨by rw[<-r.length];exact z,?_⟩);have hf:H1 s1.heap.objs.size=none:=I1.hok.fresh (nR0 _);refine⟨.ref s1.heap.objs.size,upd H1 s1.heap.objs.size (.tup xs),I1.laid (t':=s1.toks) (fun b u e=>hP0 _ e) (nR0 _) ?_,rfl,q _ hf⟩;exact⟨z,us,r,⟨_,hS0 _ rfl,rfl,_,rfl⟩⟩
theorem a1r (h:PA X es t):PE X (.List es pos) (tLst t):=by
 intro pins s σ H Q I hq;refine wpAny_List_spliced (thn (h pos pins s σ H _ I hq) fun us s1 ⟨xs,H1,I1,r,z,q⟩=>⟨by rw[<-r.length];exact z,?_⟩);have hf:H1 s1.heap.objs.size=none:=I1.hok.fresh (nR0 _);refine⟨.ref s1.heap.objs.size,upd H1 s1.heap.objs.size (.lst xs),I1.laid (t':=s1.toks) (fun b u e=>hP0 _ e) (nR0 _) ?_,rfl,q _ hf⟩;exact⟨z,us,0,r,hS0 _ rfl⟩
end
abbrev Sp:=List V->Hp->VK->XK->Prop
abbrev CXT:=List Env->Hp->Shared->XK->Value->Shared->Prop
structure a8w (P:Program) (w:World) (K:Fg0) (mg:Str->Option Value) (base:Heap) (A:Around) (outer:List Env) (s:Shared) (H:Hp):Prop where
 frames:A.frames=some outer
 mod:Mod K mg base
 bs:∀b o,base.get? b=some o->s.heap.get? b=some o/\H b=none
 bsz:base.objs.size<=s.heap.objs.size
 funs:s.heap.FunFrames base outer
 frf:∀b∈frs outer,H b=none
 hok:HOk P w H s.heap
 bare:AllBare s.gens
def CE (outer:List Env)(P:Program)(w:World)(H:Hp)(s:Shared)(Q:VK)(u:Value)(s':Shared):Prop:=
 ∃v H',s'.os=s.os/\AllBare s'.gens/\Un (frs outer) [] H H' s.heap s'.heap/\HOk P w H' s'.heap/\a1e v u/\Q v H'
def CR (CX:CXT)(outer:List Env)(P:Program)(w:World)(H:Hp)(s:Shared)(Q:VK)(E:XK)(r:Result)(s':Shared):Prop:=
 match r with
 | .ok (.ret u)=>CE outer P w H s Q u s'
 | .ok _=>False
 | .error e=>CX outer H s E e s'
structure a0x (P:Program) (w:World) (K:Fg0) (mg:Str->Option Value) (base:Heap) (CX:CXT) (k:Nat) (f:Addr) (fd:FuncData) (ps:List Str) (sp:Sp):Prop where
 len:∀vs H Q E,sp vs H Q E->vs.length=ps.length
 run:∀(A:Around) (outer:List Env) (s:Shared) (H:Hp) (args:Args) (us:List Value) (vs:List V) (Q:VK) (E:XK),a1g k A->a8w P w K mg base A outer s H->BindsTo s fd args (ps.zip us)->a1l vs us->sp vs H Q E →
  codeAny (model P w) A (.call (.ref f) args) (CR CX outer P w H s Q E) s
theorem a8w.make {P:Program}{w:World}{K:Fg0}{mg:Str->Option Value}{base:Heap}{A:Around}{outer:List Env}{s:Shared}{H:Hp}(e:a8w P w K mg base A outer s H)(C:Addr)(us:List Value)(kw:List (Str×Value)) :
  a8w P w K mg base (A.under (.builtin "type.__call__" ⟨.ref C::us,kw⟩)) outer s H:=⟨by first |exact e.frames | (simpa[Around.under,Code.envs,Code.isFrame,pushEnvs] using e.frames),e.mod,e.bs,e.bsz,e.funs,e.frf,e.hok,e.bare⟩
theorem a8w.in1 {P:Program}{w:World}{K:Fg0}{mg:Str->Option Value}{base:Heap}{A:Around}{outer:List Env}{s:Shared}{H:Hp}(e:a8w P w K mg base A outer s H) :
  a8w P w K mg base A.in1 outer s H:=⟨e.frames,e.mod,e.bs,e.bsz,e.funs,e.frf,e.hok,e.bare⟩
section
variable {X:Cx}{pins:List (Addr×Obj)}{σ:St}{H:Hp}{s s':Shared}
theorem Inv.env0 (I:Inv X pins σ H s):a8w X.prog X.w X.K X.mg X.base X.A X.stack s H:=
 ⟨I.ok.frames,I.ok.mod,I.bs,Nat.le_trans I.ok.bsz I.sz,I.stack,I.stkFree,I.hok,I.bare⟩
theorem Inv.after {Q:VK}{u:Value}(I:Inv X pins σ H s)(h:CE X.stack X.prog X.w H s Q u s'):EP X pins σ Q u s':=by
 obtain⟨v,H',os,bare,un,hok,r,q⟩:=h;obtain⟨hh,g,d,t,os'⟩:=s';obtain rfl:os'=s.os:=os;exact⟨v,H',I.call (h':=hh) (g':=g) (d':=d) (t':=t) (ch:=[]) un hok bare (fun b z=>absurd z (by simp)),r,q⟩
end
def b5Q (sp:Sp)(dvs:List V)(E:XK)(t:TA):TE:=fun σ H Q=>t σ H fun vs H1=>sp (vs++dvs) H1 Q E
def b4K (C:Addr)(m:Str)(sp:Sp)(dvs:List V)(E:XK)(ta:TE)(t:TA):TE:=fun σ H Q=>ta σ H fun x H1=>∃a dx fs,x=.ref a/\H1 a=some (.ins C dx fs)/\fs.lookup m=none ∧
 t σ H1 fun vs H2=>sp (x::(vs++dvs)) H2 Q E
def b5F (C:Addr)(sp:Sp)(dvs:List V)(E:XK)(t:TA):TE:=fun σ H Q=>t σ H fun vs H1=>∀x dx,H1 x=none->H1 dx=none->dx≠x →
 sp (.ref x::(vs++dvs)) (upd (upd H1 dx (.own x)) x (.ins C dx [])) (fun v H2=>v=.non/\Q (.ref x) H2) E
def a1C (K:Fg0)(fd:FuncData)(ps:List Str)(ds:List Value):Prop:=
 ∀(s:Shared) (us:List Value),K.In s.heap->(us++ds).length=ps.length->BindsTo s fd ⟨us,[]⟩ (ps.zip (us++ds))
theorem a1C.all {K:Fg0}{fd:FuncData}{ps:List Str}(h:∀us:List Value,us.length=ps.length->bindArgs fd ⟨us,[]⟩=pure (ps.zip us)):a1C K fd ps []:=fun s us _ hl=>by
 rw[List.append_nil] at hl ⊢;exact .of_eq (h us hl)
def a3Z (CX:CXT)(X:Cx)(E:XK):Prop:=∀(pins:List (Addr×Obj)) (σ:St) (H:Hp) (s:Shared) (e:Value) (s':Shared),Inv X pins σ H s->CX X.stack H s E e s'->X.xe e s'
section
variable {X:Cx}{CX:CXT}{k:Nat}{f C:Addr}{fd:FuncData}{ps:List Str}{sp:Sp}{dvs:List V}{ds:List Value}{E:XK}{x m:Str}{p pos apos:Pos}{e o:Expr}{es:List Expr}{ta:TE}{t:TA}
theorem a9B {pins:List (Addr×Obj)}{σ:St}{H:Hp}{s:Shared}{Q:VK}{us:List Value}{vs:List V}(F:a0x X.prog X.w X.K X.mg X.base CX k f fd ps sp)(hr:a1g k X.A)(hb:a1C X.K fd ps ds)(hd:a1l dvs ds)(hx:a3Z CX X E)
  (I:Inv X pins σ H s) (r:a1l vs us) (h:sp (vs++dvs) H Q E):wpAny (model X.prog X.w) X.A (call (.ref f) us) (EP X pins σ Q) X.xe s:=by
 have r2:a1l (vs++dvs) (us++ds):=r.append hd;have hl:(us++ds).length=ps.length:=by rw[<-r2.length];exact F.len _ _ _ _ h
 refine wpAny_call (codeAny_mono (F.run X.A X.stack s H ⟨us,[]⟩ (us++ds) (vs++dvs) Q E hr I.env0 (hb s us I.kIn hl) r2 h) fun r s' hq=>?_);cases r with
 |error e=>exact hx pins σ H s e s' I hq
 |ok fl=>
  cases fl with
  |ret u=>exact I.after hq
  |next=>exact False.elim hq
  |brk=>exact False.elim hq
  |cont=>exact False.elim hq
theorem a0i (F:a0x X.prog X.w X.K X.mg X.base CX k f fd ps sp)(hr:a1g k X.A)(hg:Gl X x)(hm:X.mg x=some (.ref f))(hk:PySem.W.keepIn X.K (.ref f)=true)(hb:a1C X.K fd ps ds)(hd:a1l dvs ds)(hx:a3Z CX X E)
  (ha:PA X (e::es) t) (hdb:(x==("__debug__":Str))=false:=by decide) (he:starEach (e::es) X.env=(false,eval e X.env)::starEach es X.env:=by rfl) (hpl:(backTo pos (starEach es X.env)).any (·.1)=false:=by rfl) :
  PE X (.Call (.Name x p) (e::es) [] pos) (b5Q sp dvs E t):=by
 intro pins s σ H Q I h;refine wpAny_Call_Name_kw (a3a I hg hm ?_ hdb);refine PySem.W.callWith_K (h₀:=X.base) I.ok.mod.kin hk (thn (ha pos pins s σ H _ I h) fun us s1 ⟨vs,H1,I1,r,q⟩=>⟨I1.kIn,?_⟩) he hpl;exact a9B F hr hb hd hx I1 r q
theorem a2O {pl:Sem Bool}(he:PE X o ta)(c:Cls X.K C)(hm:a6C X.K C m f)(F:a0x X.prog X.w X.K X.mg X.base CX k f fd ps sp)(hr:a1g k X.A)(hb:a1C X.K fd ps ds)(hd:a1l dvs ds)(hx:a3Z CX X E)(ha:PA X (e::es) t)
  (hst:starEach (e::es) X.env=(false,eval e X.env)::starEach es X.env:=by rfl) (hpl:(backTo pos (starEach es X.env)).any (·.1)=false:=by rfl)
  (ht:eval (.Call (.Attribute o m apos) (e::es) [] pos) X.env=(do
   let ov <-eval o X.env
   standAt apos.atName
   let (f,first) <-holding [ov] (getMethod ov m pl)
   callWith pos f first (backTo pos (starEach (e::es) X.env)) (backToKw pos (keywordEach [] X.env))):=by rfl) :
  PE X (.Call (.Attribute o m apos) (e::es) [] pos) (b4K C m sp dvs E ta t):=by
 intro pins s σ H Q I h;refine PySem.W.methodCall_KW (pl:=pl) (thn (he pins s σ H _ I h) fun u s1 ⟨x,H1,I1,rx,a,dx,fs,ex,ea,l,q⟩=>?_) ht;subst ex;obtain rfl:u=Value.ref a:=rx;refine a2V I1 ea c hm l ?_;refine PySem.W.callWith_K (first:=[.ref a]) (h₀:=X.base) I.ok.mod.kin hm.kp (thn (ha pos pins s1 σ H1 _ I1 q) fun us s2 ⟨vs,H2,I2,r,q2⟩=>⟨I2.kIn,?_⟩) hst hpl;exact a9B (us:=.ref a::us) (vs:=.ref a::vs) F hr hb hd hx I2 (.cons rfl r) q2
theorem a7F {pl:Sem Bool}(he:PE X o ta)(c:Cls X.K C)(hm:a6C X.K C m f)(F:a0x X.prog X.w X.K X.mg X.base CX k f fd ps sp)(hr:a1g k X.A)(hb:a1C X.K fd ps ds)(hd:a1l dvs ds)(hx:a3Z CX X E)
  (ht:eval (.Call (.Attribute o m apos) [] [] pos) X.env=(do
   let ov <-eval o X.env
   standAt apos.atName
   let (f,first) <-holding [ov] (getMethod ov m pl)
   callWith pos f first (backTo pos (starEach [] X.env)) (backToKw pos (keywordEach [] X.env))):=by rfl) :
  PE X (.Call (.Attribute o m apos) [] [] pos) (b4K C m sp dvs E ta b2Q):=by
 intro pins s σ H Q I h;refine PySem.W.methodCall_KW (pl:=pl) (thn (he pins s σ H _ I h) fun u s1 ⟨x,H1,I1,rx,a,dx,fs,ex,ea,l,q⟩=>?_) ht;subst ex;obtain rfl:u=Value.ref a:=rx;refine a2V I1 ea c hm l ?_;exact PySem.W.callWith_K0 (first:=[.ref a]) I1.kIn hm.kp (a9B (us:=[.ref a]) (vs:=[.ref a]) F hr hb hd hx I1 (.cons rfl .nil) q)
structure Mk (K:Fg0) (C f:Addr):Prop where
 makes:PySem.W.makesIn K C=true
 init:PySem.W.findIn K (.ref C) "__init__"=some (some (.ref f))
 fn:PySem.W.isFn K (.ref f)=true
 kp:PySem.W.keepIn K (.ref C)=true
theorem b0M {pins:List (Addr×Obj)}{σ:St}{H:Hp}{s:Shared}{Q:VK}{us:List Value}{vs:List V}(M:Mk X.K C f)(F:a0x X.prog X.w X.K X.mg X.base CX k f fd ps sp)(hr:a1g (k+1) X.A)(hb:a1C X.K fd ps ds)(hd:a1l dvs ds)
  (hx:a3Z CX X E) (I:Inv X pins σ H s) (r:a1l vs us)
  (h:∀x dx,H x=none->H dx=none->dx≠x->sp (.ref x::(vs++dvs)) (upd (upd H dx (.own x)) x (.ins C dx [])) (fun v H2=>v=.non/\Q (.ref x) H2) E) :
  wpAny (model X.prog X.w) X.A (call (.ref C) us) (EP X pins σ Q) X.xe s:=by
 have hq:=h (s.heap.objs.size+1) s.heap.objs.size (I.hok.fresh (Nat.le_succ _)) (I.hok.fresh (nR0 _)) (nL0 (Nat.lt_succ_self _));have I2:=Inv.made (C:=C) I;have r2:a1l (V.ref (s.heap.objs.size+1)::(vs++dvs)) (Value.ref (s.heap.objs.size+1)::(us++ds)):=.cons rfl (r.append hd);have hl:(Value.ref (s.heap.objs.size+1)::us++ds).length=ps.length:=by
  have e:=r2.length;rw[F.len _ _ _ _ hq] at e;exact e.symm
 refine wpAny_call (b0o (f:=f) I.kIn M.makes M.init (beq_iff_eq.mp M.fn) (codeAny_mono (F.run _ X.stack _ _ ⟨Value.ref (s.heap.objs.size+1)::us,[]⟩ (Value.ref (s.heap.objs.size+1)::(us++ds)) _ _ E (hr.make C us [])
  (I2.env0.make C us []) (hb _ (Value.ref (s.heap.objs.size+1)::us) I2.kIn hl) r2 hq) fun r s' hq'=>?_))
 cases r with
 |error e=>exact hx pins σ _ _ e s' I2 hq'
 |ok fl=>
  cases fl with
  |ret u=>
   obtain⟨v,H',I3,rv,ev,q3⟩:=I2.after hq';subst ev;exact⟨rv,⟨V.ref (s.heap.objs.size+1),H',I3,rfl,q3⟩⟩
  |next=>exact False.elim hq'
  |brk=>exact False.elim hq'
  |cont=>exact False.elim hq'
theorem a3v (M:Mk X.K C f)(F:a0x X.prog X.w X.K X.mg X.base CX k f fd ps sp)(hr:a1g (k+1) X.A)(hg:Gl X x)(hm:X.mg x=some (.ref C))(hb:a1C X.K fd ps ds)(hd:a1l dvs ds)(hx:a3Z CX X E)
  (ha:PA X (e::es) t) (hdb:(x==("__debug__":Str))=false:=by decide) (he:starEach (e::es) X.env=(false,eval e X.env)::starEach es X.env:=by rfl) (hpl:(backTo pos (starEach es X.env)).any (·.1)=false:=by rfl) :
  PE X (.Call (.Name x p) (e::es) [] pos) (b5F C sp dvs E t):=by
 intro pins s σ H Q I h;refine wpAny_Call_Name_kw (a3a I hg hm ?_ hdb);refine PySem.W.callWith_K (h₀:=X.base) I.ok.mod.kin M.kp (thn (ha pos pins s σ H _ I h) fun us s1 ⟨vs,H1,I1,r,q⟩=>⟨I1.kIn,?_⟩) he hpl;exact b0M M F hr hb hd hx I1 r q
end
structure a0o (N P:List Str) (sc:Scope):Prop where
 kind:sc.kind=.function
 co:sc.isCoroutine=false
 gen:sc.isGenerator=false
 nd:N.Nodup
 pre:N.take P.length=P
 par:∀x∈P,sc.names.lookup x=some .local\/sc.names.lookup x=some .cell
 nofree:∀y∈sc.names,y.2≠.free
theorem a6b {kindOf:Str->Option NameKind}{x:Str}:∀{binds:List (Str×Value)} {m:Str->Option Value},(∀v,(x,v)∉binds)->bindL kindOf binds m x=m x
 |[],_,_=>rfl
 | (n,v)::r,m,h=>by
  unfold bindL;rw[a6b fun w hw=>h w (mL0 _ hw)]
  split
  ·have:x≠n:=by rintro rfl;exact h v List.mem_cons_self
   simp[this]
  ·rfl
theorem a6t {kindOf:Str->Option NameKind}{x:Str}:∀{binds:List (Str×Value)} {m:Str->Option Value},(∀v,(x,v)∉binds)->bindC kindOf binds m x=m x
 |[],_,_=>rfl
 | (n,v)::r,m,h=>by
  unfold bindC;rw[a6t fun w hw=>h w (mL0 _ hw)]
  split
  ·rfl
  ·have:x≠n:=by rintro rfl;exact h v List.mem_cons_self
   simp[this]
theorem a6f {kindOf:Str->Option NameKind}{x:Str}{v:Value}:∀{P:List Str} {vs:List Value} {i:Nat} {m:Str->Option Value},P.Nodup->P[i]? =some x->vs[i]? =some v->kindOf x=some .local →
  bindL kindOf (P.zip vs) m x=some v
 |[],_,_,_,_,h,_,_=>by simp at h
 |_::_,[],_,_,_,_,h,_=>by simp at h
 |p::P,w::vs,0,m,nd,h1,h2,hk=>by
  simp at h1 h2;subst h1;subst h2;show bindL kindOf ((p,w)::P.zip vs) m p=_;unfold bindL;rw[a6b fun v hv=>(List.nodup_cons.mp nd).1 (List.of_mem_zip hv).1,if_pos hk];simp
 |p::P,w::vs,i+1,m,nd,h1,h2,hk=>by
  show bindL kindOf ((p,w)::P.zip vs) m x=_;unfold bindL;exact a6f (i:=i) (List.nodup_cons.mp nd).2 (by simpa using h1) (by simpa using h2) hk
theorem a5R {kindOf:Str->Option NameKind}{x:Str}{v:Value}:∀{P:List Str} {vs:List Value} {i:Nat} {m:Str->Option Value},P.Nodup->P[i]? =some x->vs[i]? =some v->kindOf x≠some .local →
  bindC kindOf (P.zip vs) m x=some v
 |[],_,_,_,_,h,_,_=>by simp at h
 |_::_,[],_,_,_,_,h,_=>by simp at h
 |p::P,w::vs,0,m,nd,h1,h2,hk=>by
  simp at h1 h2;subst h1;subst h2;show bindC kindOf ((p,w)::P.zip vs) m p=_;unfold bindC;rw[a6t fun v hv=>(List.nodup_cons.mp nd).1 (List.of_mem_zip hv).1,if_neg hk];simp
 |p::P,w::vs,i+1,m,nd,h1,h2,hk=>by
  show bindC kindOf ((p,w)::P.zip vs) m x=_;unfold bindC;exact a5R (i:=i) (List.nodup_cons.mp nd).2 (by simpa using h1) (by simpa using h2) hk
def a3w (N:List Str)(vs:List V):St:=vs.map some++List.replicate (N.length-vs.length) none
def a7U (CX:CXT)(P:Program)(w:World)(K:Fg0)(mg:Str->Option Value)(base:Heap)(N:List Str)(qual:Str)(scope:Scope)(f:Addr)(cd:Value)(A:Around)(outer:List Env)(s:Shared)(H:Hp)(E:XK):Cx where
 prog:=P
 w:=w
 K:=K
 mg:=mg
 base:=base
 A:=A.deeper (envOfC qual scope s.heap.objs.size f cd)
 N:=N
 s₀:=s
 H₀:=H
 env:=envOfC qual scope s.heap.objs.size f cd
 outer:=outer
 stack:=envOfC qual scope s.heap.objs.size f cd::outer
 ex:=[]
 calm:=true
 fn:=fun _=>true
 pn:=[]
 xe:=fun e s'=>wpAny (model P w) (A.deeper (envOfC qual scope s.heap.objs.size f cd)) (leaving (envOfC qual scope s.heap.objs.size f cd) e) (fun _ s''=>CX outer H s E e s'') (fun e' s''=>CX outer H s E e' s'') s'
theorem a7s {sc:Scope}{n:Nat}{x:Str}(h:sc.names.lookup x=some .cell):∃c,(cellsFrom n sc.names []).lookup x=some c:=by
 have q:=PySem.W.cellsFrom_some sc.names n [] (.inl h);exact Option.isSome_iff_exists.mp q
theorem a5C {CX:CXT}{P:Program}{w:World}{K:Fg0}{mg:Str->Option Value}{base:Heap}{N ps:List Str}{qual:Str}{scope:Scope}{f:Addr}{cd:Value}{A:Around}{outer:List Env}{s s1:Shared}{H:Hp}{E:XK}{us:List Value}{vs:List V}
  (S:a0o N ps scope) (hd:A.handled=none) (e0:a8w P w K mg base A outer s H) (hl:vs.length=ps.length) (r:a1l vs us)
  (x:InCallC s s.heap.objs.size (bindL (envOfC qual scope s.heap.objs.size f cd).kindOf (ps.zip us) fun _=>none) (cellsFrom (s.heap.objs.size+1) scope.names []) (bindC (envOfC qual scope s.heap.objs.size f cd).kindOf (ps.zip us) fun _=>none) s1) :
  Inv (a7U CX P w K mg base N qual scope f cd A outer s H E) [] (a3w N vs) H s1:=by
 have hpl:ps.length<=N.length:=by have:=congrArg List.length S.pre;rw[List.length_take] at this;omega
 obtain⟨h1,tk,rfl,hk⟩:=x.done;have noA:∀b:Addr,b∉(a7U CX P w K mg base N qual scope f cd A outer s H E).ex:=fun b z=>absurd (show b∈([]:List Addr) from z) (by simp);refine⟨⟨e0.mod,S.kind,rfl,rfl,nR0 _,fun y z c h1 h2=>?_,fun y hy=>?_,fun y c _ h=>?_,fun _=>hd,Around.frames_deeper e0.frames,.inr ⟨rfl,rfl⟩,fun b z=>absurd z (noA b),e0.bs,e0.bsz,fun b _ _=>noA b,fun b z=>absurd z (noA b),e0.funs,e0.frf⟩,
  rfl,e0.bare,Un.kept hk,⟨_,x.toInCall.ns,fun i y v h1 h2 h3=>?_⟩,fun y c h=>⟨_,x.cell y c h⟩,e0.hok.fresh (nR0 _),fun y c h=>?_,fun p hp=>absurd (show p∈([]:List (Addr×Obj)) from hp) (by simp),e0.hok.kept hk,?_⟩
 ·exact name_of_addr x.apart (PySem.mem_of_lookup h1) (PySem.mem_of_lookup h2)
 ·have hy:scope.names.lookup y=some .cell\/scope.names.lookup y=some .free:=hy
  rcases hy with hy |hy
  ·exact a7s hy
  ·exact absurd rfl (S.nofree _ (PySem.mem_of_lookup hy))
 ·exact Nat.le_of_lt (x.above y c (PySem.mem_of_lookup h))
 ·have hi:i<vs.length:=by
   unfold a3w at h2
   by_cases hi:i<vs.length
   ·exact hi
   ·rw[gR0 (by simpa using hi)] at h2
    rw[List.getElem?_replicate] at h2
    split at h2<;>cases h2
  have ha:vs[i]? =some v:=by
   unfold a3w at h2;rw[gL0 (by simpa using hi),gM0] at h2;cases e:vs[i]? with
   |none=>rw[e] at h2;cases h2
   |some a=>rw[e] at h2;cases h2;rfl
  obtain⟨u,hu,rv⟩:=r.get ha;have hp:ps[i]? =some y:=by
   rw[<-S.pre,List.getElem?_take_of_lt (by omega)];exact h1
  have ndP:ps.Nodup:=by rw[<-S.pre];exact S.nd.sublist (List.take_sublist _ _)
  refine⟨u,rv,?_⟩;rcases S.par y (gI0 hp) with k |k
  ·exact .inl ⟨k,a6f ndP hp hu k⟩
  ·obtain⟨c,e⟩:=a7s (n:=s.heap.objs.size+1) k
   refine .inr ⟨.inl k,c,e,?_⟩;have q:=x.cell y c e;rw[a5R ndP hp hu (by show scope.names.lookup y≠_;rw[k];decide)] at q;exact q
 ·exact e0.hok.fresh (Nat.le_of_lt (x.above y c (PySem.mem_of_lookup h)))
 ·unfold a3w
  show _=N.length;rw[lA0,lM0,List.length_replicate]
  omega
theorem b1t {CX:CXT}{P:Program}{w:World}{K:Fg0}{mg:Str->Option Value}{base:Heap}{k:Nat}{f:Addr}{name qual:Str}{params:Arguments}{body:List Stmt}{scope:Scope}{dV kV doc pm cdv ct oc:Value}{an od:Option Addr}
  {osl:Array (Option Value)} {N ps:List Str} {sp:Sp} (lk:K.lookup f=some ⟨oc,od,.func (PySem.W.fnOf name qual params body scope dV kV doc pm an cdv ct),osl⟩) (hcd:PySem.W.codeIn K cdv qual=true) (S:a0o N ps scope)
  (len:∀vs H Q E,sp vs H Q E->vs.length=ps.length)
  (hbody:∀(A:Around) (outer:List Env) (s:Shared) (H:Hp) (vs:List V) (Q:VK) (E:XK),a1g k (A.deeper (envOfC qual scope s.heap.objs.size f cdv))->sp vs H Q E →
   ∃t,PSs (a7U CX P w K mg base N qual scope f cdv A outer s H E) body t/\t { nx:=fun _ H'=>Q .non H',rt:=Q } (a3w N vs) H) :
  a0x P w K mg base CX (k+1) f (PySem.W.fnOf name qual params body scope dV kV doc pm an cdv ct) ps sp:=by
 refine⟨len,fun A outer s H args us vs Q E hr e0 hb r hsp=>?_⟩;have hl:=len _ _ _ _ hsp;have KX:K.In s.heap:=e0.mod.kin.keeps fun b o e=>(e0.bs b o e).1;have lim:s.heap.NoLimit:=e0.mod.nolimit.keeps fun b o e=>(e0.bs b o e).1;have hkind:∀y∈ps.zip us,scope.names.lookup y.1=some .local\/(scope.names.lookup y.1=some .cell/\((cellsFrom (s.heap.objs.size+1) scope.names []).lookup y.1).isSome=true):=fun⟨n,v⟩ hy=>by
  rcases S.par n (List.of_mem_zip hy).1 with q |q
  ·exact .inl q
  ·exact .inr ⟨q,PySem.W.cellsFrom_some _ _ _ (.inl q)⟩
 refine codeAny_call_function hr.depth (KX _ _ lk) rfl S.co S.gen rfl (PySem.W.codeRec_of KX hcd) (hb _ _ _ _ ?_);refine wpAny_newFunctionEnv_cells S.kind hkind fun env he s1 x=>?_;subst he;refine⟨lim.keeps x.toInCall.keep,codeAny_func ?_⟩;obtain⟨t,ht,hq⟩:=hbody A outer s H vs Q E (hr.deeper _) hsp;have I:Inv (a7U CX P w K mg base N qual scope f cdv A outer s H E) [] (a3w N vs) H s1:=a5C S hr.hd e0 hl r x;refine wpAny_mono (ht [] s1 (a3w N vs) H _ I hq) (fun fl s' hs=>?_) fun e s' hs=>hs;have fin:∀{σ':St} {H':Hp} {v:V} {u:Value},Inv (a7U CX P w K mg base N qual scope f cdv A outer s H E) [] σ' H' s'->a1e v u->Q v H'->CE outer P w H s Q u s':=
  fun {σ' H' v u} J rv q=>⟨v,H',J.os,J.bare,J.base,J.hok,rv,q⟩
 cases fl with
 |ret u=>
  obtain⟨v,σ',H',J,rv,q⟩:=hs;exact fin J rv q
 |next=>
  obtain⟨σ',H',J,q⟩:=hs;exact fin (v:=V.non) (u:=Value.none) J rfl q
 |brk=>
  obtain⟨_,_,_,q⟩:=hs;exact False.elim q
 |cont=>
  obtain⟨_,_,_,q⟩:=hs;exact False.elim q
section
variable {X:Cx}{x:Str}{p pos:Pos}{e:Expr}{es:List Expr}{t:TA}{id T:String}{r:List V->Hp->VK->Prop}
def tCB (r:List V->Hp->VK->Prop)(t:TA):TE:=fun σ H Q=>t σ H fun vs H1=>r vs H1 Q
theorem a0k (hc:a1u X (.builtin id) r)(hg:Gl X x)(hm:X.mg x=none)(hv:bootBuiltins x=some (.builtin id))(ha:PA X (e::es) t)(hn:x≠"__name__":=by decide)(hdb:(x==("__debug__":Str))=false:=by decide)
  (he:starEach (e::es) X.env=(false,eval e X.env)::starEach es X.env:=by rfl) (hpl:(backTo pos (starEach es X.env)).any (·.1)=false:=by rfl):PE X (.Call (.Name x p) (e::es) [] pos) (tCB r t):=by
 intro pins s σ H Q I h;refine wpAny_Call_Name_kw (a4m I hg hm hv ?_ hn hdb);exact PyProof.Rows.callWith_builtin1 (thn (ha pos pins s σ H _ I h) fun us s1 ⟨vs,H1,I1,r1,q1⟩=>hc pins s1 σ H1 vs us Q I1 r1 q1) he hpl
theorem a0V (hc:a1u X (.type T) r)(hg:Gl X x)(hm:X.mg x=none)(hv:bootBuiltins x=some (.type T))(ha:PA X (e::es) t)(hn:x≠"__name__":=by decide)(hdb:(x==("__debug__":Str))=false:=by decide)
  (he:starEach (e::es) X.env=(false,eval e X.env)::starEach es X.env:=by rfl) (hpl:(backTo pos (starEach es X.env)).any (·.1)=false:=by rfl):PE X (.Call (.Name x p) (e::es) [] pos) (tCB r t):=by
 intro pins s σ H Q I h;refine wpAny_Call_Name_kw (a4m I hg hm hv ?_ hn hdb);exact PyProof.Rows.callWith_type1 (thn (ha pos pins s σ H _ I h) fun us s1 ⟨vs,H1,I1,r1,q1⟩=>hc pins s1 σ H1 vs us Q I1 r1 q1) he hpl
end
end L2
namespace HT
open PySem PyProof.Rows
section
open PySem.SeqAt
open PySem.AutoSeq1 (wpAny_loadPart')
open PySem.MeetsSeq PySem.MeetsSeq2 PySem.MeetsSeq3
end
section
variable {prog:Program}{w:World}{A:Around}{E:Vs0}{s:Shared}
def sIx (n d:Nat):Option Int->Nat
 |none=>d
 |some v=>if v<0 then(v+(n:Int)).toNat else min v.toNat n
theorem a7B (n d:Nat):sIx n d none=d:=rfl
theorem b2R (v:Int)(n d:Nat):(if v<0 then max (v+(n:Int)) 0 else min v (n:Int))=((sIx n d (some v):Nat):Int):=by
 show(if v<0 then max (v+(n:Int)) 0 else min v (n:Int))=(((if v<0 then(v+(n:Int)).toNat else min v.toNat n):Nat):Int)
 by_cases hv:v<0
 ·simp only[if_pos hv];omega
 ·simp only[if_neg hv];omega
end
end HT
namespace L2
open PySem PySem.Spec PyProof.Rows
abbrev TO:=St->Hp->(Option Int->Hp->Prop)->Prop
def PO (X:Cx)(e:Option Expr)(t:TO):Prop:=
 ∀(pins:List (Addr×Obj)) (s:Shared) (σ:St) (H:Hp) (Q:Option Int->Hp->Prop),Inv X pins σ H s->t σ H Q →
  wpAny (model X.prog X.w) X.A (evalPart e X.env) (fun u s'=>∃o H',Inv X pins σ H' s'/\IsPart u o/\Q o H') X.xe s
def b3p:TO:=fun _ H Q=>Q none H
def b5k (t:TE):TO:=fun σ H Q=>t σ H fun x H1=>∃i,x=.int i/\Q (some i) H1
section
variable {X:Cx}{e:Expr}{te:TE}{lo hi:Option Expr}{tl th:TO}{pos p2:Pos}
theorem a5n:PO X none b3p:=by
 intro pins s σ H Q I h;rw[evalPart_none];exact wP0 ⟨none,H,I,.none,h⟩
theorem a5x (h:PE X e te):PO X (some e) (b5k te):=by
 intro pins s σ H Q I hw;rw[evalPart_some];refine thn (h pins s σ H _ I hw) fun u s1 ⟨x,H1,I1,r1,q1⟩=>?_;obtain⟨i,rfl,q⟩:=q1;obtain⟨t,rfl⟩:=r1;exact⟨some i,H1,I1,.int i t,q⟩
def SlR (X:Cx)(r:V->Option Int->Option Int->Hp->VK->Prop):Prop:=
 ∀(pins:List (Addr×Obj)) (s:Shared) (σ:St) (H:Hp) (x:V) (v vl vu:Value) (lo hi:Option Int) (sl:Addr) (Q:VK),Inv X pins σ H s->a1e x v->s.heap.IsSliceOf sl vl vu .none->IsPart vl lo->IsPart vu hi->r x lo hi H Q →
  ∃T id,typeLookup (.type T) "__getitem__"=pure (some (.builtin id))/\s.TypeIs v T/\wpAny (model X.prog X.w) X.A (getItem v (.ref sl)) (EP X pins σ Q) X.xe s
def tSl (r:V->Option Int->Option Int->Hp->VK->Prop)(te:TE)(tl th:TO):TE:=fun σ H Q=>te σ H fun x H1=>tl σ H1 fun l H2=>th σ H2 fun u H3=>r x l u H3 Q
theorem a3U {r:V->Option Int->Option Int->Hp->VK->Prop}(hr:SlR X r)(he:PE X e te)(hl:PO X lo tl)(hu:PO X hi th):PE X (.Subscript e (.Slice lo hi none p2) pos) (tSl r te tl th):=by
 intro pins s σ H Q I h;refine Subscript_ (thn (he pins s σ H _ I h) fun v s1 ⟨x,H1,I1,r1,q1⟩=>?_);refine wpAny_Slice (thn (hl pins s1 σ H1 _ I1 q1) fun vl s2 ⟨l,H2,I2,pl,q2⟩=>thn (hu pins s2 σ H2 _ I2 q2) fun vu s3 ⟨u,H3,I3,pu,q3⟩=>?_);rw[evalPart_none];refine wP0 ?_;have I4:Inv X pins σ H3 { s3 with heap:=s3.heap.push { cls:=.type "slice",data:=.fields #[vl,vu,.none] } }:=I3.kept (t':=s3.toks) fun b ob q=>hP0 _ q;obtain⟨T,id,hT,ht,hg⟩:=hr pins { s3 with heap:=s3.heap.push { cls:=.type "slice",data:=.fields #[vl,vu,.none] } } σ H3 x v vl vu l u s3.heap.objs.size Q I4 r1 (Heap.IsSliceOf.new ..) pl pu q3;show wpAny (model X.prog X.w) X.A (subscriptTail e (.Slice lo hi none p2) v (.ref s3.heap.objs.size)) (EP X pins σ Q) X.xe { s3 with heap:=s3.heap.push { cls:=.type "slice",data:=.fields #[vl,vu,.none] } };exact tail_any (ops:=[.ref s3.heap.objs.size,v]) ht hT hg (by with_unfolding_all rfl)
def b1U (xs:List V)(lo hi:Option Int):List V:=(xs.drop (HT.sIx xs.length 0 lo)).take (HT.sIx xs.length xs.length hi-HT.sIx xs.length 0 lo)
theorem a6V (xs:List V)(lo hi:Option Int):(b1U xs lo hi).length<=xs.length:=by
 unfold b1U;rw[List.length_take,List.length_drop]
 omega
end
def ixN (n:Nat)(i:Int):Option Nat:=if 0<=i then(if i<n then some i.toNat else none) else if -(n:Int)<=i then some (i+n).toNat else none
def atI {α:Type}(xs:List α)(i:Int):Option α:=(ixN xs.length i).bind fun j=>xs[j]?
theorem b2u {n:Nat}{i:Int}{j:Nat}(h:ixN n i=some j):seqIndex? i n=some j/\j<n/\-(n:Int)<=i/\i<n:=by
 unfold ixN at h
 by_cases h0:0<=i
 ·rw[if_pos h0] at h
  by_cases h1:i<n
  ·rw[if_pos h1] at h
   have e:i.toNat=j:=Option.some.inj h;exact⟨by rw[seqIndex_of h0 h1,e],by omega,by omega,h1⟩
  ·rw[if_neg h1] at h;cases h
 ·rw[if_neg h0] at h
  by_cases h1:-(n:Int)<=i
  ·rw[if_pos h1] at h
   have e:(i+n).toNat=j:=Option.some.inj h;exact⟨by rw[seqIndex_neg (by omega) h1,e],by omega,h1,by omega⟩
  ·rw[if_neg h1] at h;cases h
theorem a6X {α:Type}{xs:List α}{i:Int}{v:α}(h:atI xs i=some v):∃j,seqIndex? i xs.length=some j/\xs[j]? =some v/\j<xs.length/\-(xs.length:Int)<=i/\i<xs.length:=by
 unfold atI at h;cases e:ixN xs.length i with
 |none=>rw[e] at h;cases h
 |some j=>
  rw[e] at h;obtain⟨h1,h2,h3,h4⟩:=b2u e;exact⟨j,h1,h,h2,h3,h4⟩
theorem a0P {α:Type}{xs:List α}{j:Nat}{v:α}(h:xs[j]? =some v):atI xs (j:Int)=some v:=by
 have hj:j<xs.length:=(gS0.mp h).1;have e:ixN xs.length (j:Int)=some j:=by
  unfold ixN;rw[if_pos (by omega),if_pos (by omega)];simp
 unfold atI;rw[e];exact h
def b2H (b:Expr):Prop:=∀o i,subscripted b false o i=operate [o,i] (getItem o i)
def IxR (X:Cx)(r:R2):Prop:=
 ∀(value slice:Expr) (pins:List (Addr×Obj)) (s:Shared) (σ:St) (H:Hp) (x y:V) (v u:Value) (Q:VK),Inv X pins σ H s->a1e x v->a1e y u->r x y H Q →
  subscripted slice false v u=operate [v,u] (getItem v u)->wpAny (model X.prog X.w) X.A (subscriptTail value slice v u) (EP X pins σ Q) X.xe s
def MtR (X:Cx)(id:String)(r:V->List V->Hp->VK->Prop):Prop:=
 ∀(pins:List (Addr×Obj)) (s:Shared) (σ:St) (H:Hp) (x:V) (xs:List V) (v:Value) (us:List Value) (Q:VK),Inv X pins σ H s->a1e x v->a1l xs us->r x xs H Q →
  wpAny (model X.prog X.w) X.A (call (.builtin id) (v::us)) (EP X pins σ Q) X.xe s
section
variable {X:Cx}{a b:Expr}{ta tb:TE}{pos:Pos}
theorem a0s {r:R2}(hr:IxR X r)(ha:PE X a ta)(hb:PE X b tb)(hs:b2H b):PE X (.Subscript a b pos) (tOp r ta tb):=by
 intro pins s σ H Q I h;exact Subscript_ (b5o ha hb I h fun v u s2 x y H2 I2 rx ry q=>hr a b pins s2 σ H2 x y v u Q I2 rx ry q (hs _ _))
def b0l (K:Fg0):R2:=fun x y H Q=>∃p xs i v,x=.ref p/\y=.int i/\SqL K H p xs/\atI xs i=some v/\Q v H
def b3P (K:Fg0):R2:=fun x y H Q=>∃p xs i v,x=.ref p/\y=.int i/\SqT K H p xs/\atI xs i=some v/\Q v H
def rIxS:R2:=fun x y H Q=>∃z i c,x=.str z/\y=.int i/\z.length<=sizeLine/\atI z.cps.toList i=some c/\Q (.str ⟨#[c]⟩) H
theorem a0j:IxR X (b0l X.K):=by
 intro value slice pins s σ H x y v u Q I rx ry h hs;obtain⟨p,xs,i,z,rfl,rfl,hq,he,q⟩:=h;cases rx;obtain⟨t,rfl⟩:=ry;obtain⟨its,r,pl,hz⟩:=I.list hq;obtain⟨j,h1,h2,h3,h4,h5⟩:=a6X he;obtain⟨w,ew,rw'⟩:=r.get h2;have hl:=r.length;have hn:=a6v;have fin:EP X pins σ Q w s:=⟨z,H,I,rw',q⟩
 by_cases h0:0<=i
 ·have hj:i.toNat=j:=by
   rw[seqIndex_of h0 h5] at h1;exact Option.some.inj h1
  exact item_listR pl.isList h0 (by omega) (by rw[hj];simpa using ew) fin hs
 ·have hj:(i+(its.toArray.size:Int)).toNat=j:=by
   rw[seqIndex_neg (by omega) h4] at h1;rw[List.size_toArray,<-hl];exact Option.some.inj h1
  exact subscriptTail_builtinR (x:=w) pl.isList.typeIs slot_list_getitem.lookup
   (wpAny_getItem_list_neg (Q:=fun r s'=>r=w/\EP X pins σ Q r s') pl.isList (by omega) (by rw[List.size_toArray]<;>omega) (by omega) (by rw[hj];simpa using ew) ⟨rfl,fin⟩) hs
theorem a1n:IxR X (b3P X.K):=by
 intro value slice pins s σ H x y v u Q I rx ry h hs;obtain⟨p,xs,i,z,rfl,rfl,hq,he,q⟩:=h;cases rx;obtain⟨t,rfl⟩:=ry;obtain⟨its,r,pl,hz⟩:=I.tuple hq;obtain⟨j,h1,h2,h3,h4,h5⟩:=a6X he;obtain⟨w,ew,rw'⟩:=r.get h2;have hl:=r.length;have hn:=a6v;have fin:EP X pins σ Q w s:=⟨z,H,I,rw',q⟩;exact subscriptTail_builtinR (x:=w) pl.typeIs slot_tuple_getitem.lookup
  (getItem_tuple (j:=j) (Q:=fun r s'=>r=w/\EP X pins σ Q r s') pl (by omega) (by omega) (by rw[List.size_toArray,<-hl];exact h1) (by simpa using ew) ⟨rfl,fin⟩) hs
theorem b3F:IxR X rIxS:=by
 intro value slice pins s σ H x y v u Q I rx ry h hs;obtain⟨z,i,c,rfl,rfl,hz,he,q⟩:=h;obtain⟨t,rfl⟩:=rx;obtain⟨t',rfl⟩:=ry;obtain⟨j,h1,h2,h3,h4,h5⟩:=a6X he;have hl:z.cps.toList.length=z.length:=by simp[Str.length]
 rw[hl] at h1 h4 h5;have hn:=a6v;exact tail_any (typeIs_str s z t) slot_str_getitem.lookup (getItem_str (c:=c) (by
  have e1:decide (i < -(2 ^ 63:Int))=false:=dF0 (by omega);have e2:decide (i≥2 ^ 63)=false:=dF0 (by omega);rw[e1,e2,Bool.or_false]) (by rw[h1];simpa using h2) ⟨.str ⟨#[c]⟩,H,I.tok _,⟨_,rfl⟩,q⟩) hs
theorem a6p (lo hi:Option Int)(n:Nat):(sliceBounds lo hi none n).1=((HT.sIx n 0 lo:Nat):Int)/\(sliceBounds lo hi none n).2.1=((HT.sIx n n hi:Nat):Int)/\(sliceBounds lo hi none n).2.2=1:=by
 refine⟨?_,?_,rfl⟩
 ·cases lo with
  |none=>simp[sliceBounds,HT.sIx]
  |some i=>
   simp only[sliceBounds,HT.sIx,Option.getD_none,show(1:Int) > 0 by decide,if_true]
   by_cases h:i<0
   ·simp only[h,if_true]<;>omega
   ·simp only[h,if_false]<;>omega
 ·cases hi with
  |none=>simp[sliceBounds,HT.sIx]
  |some i=>
   simp only[sliceBounds,HT.sIx,Option.getD_none,show(1:Int) > 0 by decide,if_true]
   by_cases h:i<0
   ·simp only[h,if_true]<;>omega
   ·simp only[h,if_false]<;>omega
theorem a5z (its:List Value)(lo hi:Option Int):slicePick its.toArray lo hi none=((its.drop (HT.sIx its.length 0 lo)).take (HT.sIx its.length its.length hi-HT.sIx its.length 0 lo)).toArray:=by
 obtain⟨h1,h2,h3⟩:=a6p lo hi its.toArray.size;unfold slicePick;rw[h1,h2,h3];simp only[sliceRange_one,pick_run,List.size_toArray]<;>rfl
def rSlL (K:Fg0):V->Option Int->Option Int->Hp->VK->Prop:=fun x lo hi H Q=>∃a xs,x=.ref a/\SqL K H a xs/\∀p,H p=none->Q (.ref p) (upd H p (.lst (b1U xs lo hi)))
theorem a5v:SlR X (rSlL X.K):=by
 intro pins s σ H x v vl vu lo hi sl Q I rx hs pl pu h;obtain⟨a,xs,rfl,hx,q⟩:=h;cases rx;obtain⟨its,r,ht,hz⟩:=I.list hx;have hlen:=r.length;refine⟨"list",_,slot_list_getitem.lookup,ht.isList.typeIs,?_⟩;refine wpAny_getItem_list_slice ht.isList hs pl pu .none (by simp) ?_ (by rw[List.size_toArray]<;>omega);rw[a5z,<-hlen];refine⟨.ref s.heap.objs.size,_,I.laid (t':=s.toks) (o:=.lst (b1U xs lo hi)) (fun b ob q=>hP0 _ q) (nR0 _) ?_,rfl,q _ (I.hok.fresh (nR0 _))⟩;exact⟨Nat.le_trans (a6V xs lo hi) hz,_,0,(r.drop (HT.sIx xs.length 0 lo)).take (HT.sIx xs.length xs.length hi-HT.sIx xs.length 0 lo),hS0 _ rfl⟩
def a5f:V->Bool
 | .non=>true
 | .bl _=>true
 | .int _=>true
 | .str _=>true
 |_=>false
def eqV:V->V->Bool
 | .non,.non=>true
 | .bl a,.bl b=>a==b
 | .bl a,.int b=>(if a then 1 else 0)==b
 | .int a,.bl b=>a==(if b then 1 else 0)
 | .int a,.int b=>a==b
 | .str a,.str b=>a==b
 |_,_=>false
theorem b3T {A:Around}{s:Shared}{y x:V}{u v:Value}(ry:a1e y u)(rx:a1e x v)(fy:a5f y=true)(fx:a5f x=true):SeqAt.EqAt A s u v (eqV y x):=by
 cases y with
 |non=>
  cases ry;cases x with
  |non=>cases rx;exact SeqAt.EqAt.same _
  |bl b=>cases rx;exact SeqAt.EqAt.none_bool b
  |int b=>obtain⟨t,rfl⟩:=rx;exact SeqAt.EqAt.none_int b t
  |str b=>obtain⟨t,rfl⟩:=rx;exact SeqAt.EqAt.none_str b t
  |_=>exact absurd (show false=true from fx) bF0
 |bl a=>
  cases ry;cases x with
  |non=>cases rx;exact SeqAt.EqAt.bool_none a
  |bl b=>cases rx;exact SeqAt.EqAt.bool_bool a b
  |int b=>obtain⟨t,rfl⟩:=rx;exact SeqAt.EqAt.bool_int a b t
  |str b=>obtain⟨t,rfl⟩:=rx;exact SeqAt.EqAt.bool_str a b t
  |_=>exact absurd (show false=true from fx) bF0
 |int a=>
  obtain⟨t',rfl⟩:=ry;cases x with
  |non=>cases rx;exact SeqAt.EqAt.int_none a t'
  |bl b=>cases rx;exact SeqAt.EqAt.int_bool a t' b
  |int b=>obtain⟨t,rfl⟩:=rx;exact SeqAt.EqAt.int_int a t' b t
  |str b=>obtain⟨t,rfl⟩:=rx;exact SeqAt.EqAt.int_str a t' b t
  |_=>exact absurd (show false=true from fx) bF0
 |str a=>
  obtain⟨t',rfl⟩:=ry;cases x with
  |non=>cases rx;exact SeqAt.EqAt.str_none a t'
  |bl b=>cases rx;exact SeqAt.EqAt.str_bool a t' b
  |int b=>obtain⟨t,rfl⟩:=rx;exact SeqAt.EqAt.str_int a t' b t
  |str b=>obtain⟨t,rfl⟩:=rx;exact SeqAt.EqAt.str_str a t' b t
  |_=>exact absurd (show false=true from fx) bF0
 |_=>exact absurd (show false=true from fy) bF0
def eqU (x:V)(u:Value):Bool:=match u with
 | .none=>eqV .non x
 | .bool b=>eqV (.bl b) x
 | .int i _=>eqV (.int i) x
 | .str z _=>eqV (.str z) x
 |_=>false
theorem b2e {x y:V}{u:Value}(r:a1e y u)(f:a5f y=true):eqU x u=eqV y x:=by
 cases y with
 |non=>cases r;rfl
 |bl b=>cases r;rfl
 |int i=>obtain⟨t,rfl⟩:=r;rfl
 |str z=>obtain⟨t,rfl⟩:=r;rfl
 |_=>exact absurd (show false=true from f) bF0
theorem a4n {x:V}:∀{xs:List V} {us:List Value},a1l xs us->xs.all a5f=true->us.any (eqU x)=xs.any fun y=>eqV y x
 |_,_,.nil,_=>rfl
 |y::xs,u::us,.cons r t,f=>by
  rw[List.all_cons,Bool.and_eq_true] at f;rw[List.any_cons,List.any_cons,b2e r f.1,a4n t f.2]
theorem a3f {A:Around}{s:Shared}{x:V}{v:Value}(rx:a1e x v)(fx:a5f x=true):∀{xs:List V} {us:List Value},a1l xs us->xs.all a5f=true->∀u∈us,SeqAt.EqAt A s u v (eqU x u)
 |_,_,.nil,_=>fun u hu=>by cases hu
 |y::xs,u::us,.cons r t,f=>fun u' hu=>by
  rw[List.all_cons,Bool.and_eq_true] at f;rcases mK0.mp hu with rfl |hu
  ·rw[b2e r f.1];exact b3T r rx f.1 fx
  ·exact a3f rx fx t f.2 u' hu
def inV (x:V)(xs:List V):Bool:=xs.any fun y=>eqV y x
def rIn (K:Fg0)(neg:Bool):R2:=fun x y H Q=>∃p xs,y=.ref p/\(SqL K H p xs\/SqT K H p xs)/\a5f x=true/\xs.all a5f=true/\Q (.bl (if neg then !inV x xs else inV x xs)) H
theorem a6c:OpR X (compareOp .In) (rIn X.K false):=by
 intro pins s σ H x y v u Q I rx ry h;obtain⟨p,xs,rfl,hq,fx,fs,q⟩:=h;cases ry;rcases hq with hq |hq
 ·obtain⟨its,r,pl,hz⟩:=I.list hq
  refine SeqAt.in_listAt (eqU x) pl.isList (fun w hw=>a3f rx fx r fs w (by simpa using hw)) ⟨.bl _,H,I,rfl,?_⟩;rw[show its.toArray.any (eqU x)=its.any (eqU x) by simp,a4n r fs];exact q
 ·obtain⟨its,r,pl,hz⟩:=I.tuple hq
  refine SeqAt.in_tupleAt (eqU x) pl (fun w hw=>a3f rx fx r fs w (by simpa using hw)) ⟨.bl _,H,I,rfl,?_⟩;rw[show its.toArray.any (eqU x)=its.any (eqU x) by simp,a4n r fs];exact q
theorem a2N:OpR X (compareOp .NotIn) (rIn X.K true):=by
 intro pins s σ H x y v u Q I rx ry h;obtain⟨p,xs,rfl,hq,fx,fs,q⟩:=h;cases ry;rcases hq with hq |hq
 ·obtain⟨its,r,pl,hz⟩:=I.list hq
  refine SeqAt.notIn_listAt (eqU x) pl.isList (fun w hw=>a3f rx fx r fs w (by simpa using hw)) ⟨.bl _,H,I,rfl,?_⟩;rw[show its.toArray.any (eqU x)=its.any (eqU x) by simp,a4n r fs];exact q
 ·obtain⟨its,r,pl,hz⟩:=I.tuple hq
  refine SeqAt.notIn_tupleAt (eqU x) pl (fun w hw=>a3f rx fx r fs w (by simpa using hw)) ⟨.bl _,H,I,rfl,?_⟩;rw[show its.toArray.any (eqU x)=its.any (eqU x) by simp,a4n r fs];exact q
theorem a0W:a1u X (.builtin "len") (fun xs H Q=>∃p ys,xs=[.ref p]/\(SqL X.K H p ys\/SqT X.K H p ys)/\Q (.int ys.length) H):=by
 intro pins s σ H xs us Q I r h;obtain⟨p,ys,rfl,hq,q⟩:=h;obtain⟨u,rfl,rx⟩:=a2o r;cases rx;have hn:=a6v;rcases hq with hq |hq
 ·obtain⟨its,r',pl,hz⟩:=I.list hq
  have hlen:=r'.length;exact Calls.call_len_list pl.isList (by simp only[List.size_toArray]<;>omega) ⟨.int ys.length,H,I.tok _,⟨s.toks+1,by rw[List.size_toArray,hlen]⟩,q⟩
 ·obtain⟨its,r',pl,hz⟩:=I.tuple hq
  have hlen:=r'.length;exact len_tuple pl (by simp only[List.size_toArray]<;>omega) ⟨.int ys.length,H,I.tok _,⟨s.toks+1,by rw[List.size_toArray,hlen]⟩,q⟩
theorem a3J:a1u X (.builtin "len") (fun xs H Q=>∃z,xs=[.str z]/\z.length<=sizeLine/\Q (.int z.length) H):=by
 intro pins s σ H xs us Q I r h;obtain⟨z,rfl,hz,q⟩:=h;obtain⟨u,rfl,t,rfl⟩:=a2o r;have hn:=a6v;exact len_str (by omega) ⟨.int z.length,H,I.tok _,⟨_,rfl⟩,q⟩
theorem a3H:a1u X (.type "list") (fun xs H Q=>∃p ys,xs=[.ref p]/\(SqL X.K H p ys\/SqT X.K H p ys)/\∀l,H l=none->Q (.ref l) (upd H l (.lst ys))):=by
 intro pins s σ H xs us Q I r h;obtain⟨p,ys,rfl,hq,q⟩:=h;obtain⟨u,rfl,rx⟩:=a2o r;cases rx;have fin:∀(its:List Value),a1l ys its->ys.length<=sizeLine->∀(h':Heap) (c':Nat),(∀b o',s.heap.get? b=some o'->h'.get? b=some o') →
   h'.get? s.heap.objs.size=some { cls:=.type "list",dict:=none,data:=.seq its.toArray c',slots:=#[] }->EP X pins σ Q (.ref s.heap.objs.size) { s with heap:=h' }:=fun its r' hz h' c' kp e=>
  ⟨.ref s.heap.objs.size,_,I.laid (t':=s.toks) kp (nR0 _) (show a1h X.prog X.w _ h' _ (.lst ys) from⟨hz,its,c',r',e⟩),rfl,q _ (I.hok.fresh (nR0 _))⟩
 rcases hq with hq |hq
 ·obtain⟨its,r',pl,hz⟩:=I.list hq
  have hlen:=r'.length;obtain⟨o,ho,hc,n,hd⟩:=pl.isList;exact call_list_seq p (.inl rfl) ho hc hd (fun h' c' kp e=>fin its r' hz h' c' kp e) (by simp only[List.size_toArray]<;>omega)
 ·obtain⟨its,r',pl,hz⟩:=I.tuple hq
  have hlen:=r'.length;obtain⟨o,ho,hc,n,hd⟩:=pl;exact call_list_seq p (.inr rfl) ho hc hd (fun h' c' kp e=>fin its r' hz h' c' kp e) (by simp only[List.size_toArray]<;>omega)
theorem a2w:a1u X (.type "tuple") (fun xs H Q=>∃p ys,xs=[.ref p]/\((SqL X.K H p ys/\∀l,H l=none->Q (.ref l) (upd H l (.tup ys)))\/(SqT X.K H p ys/\Q (.ref p) H))):=by
 intro pins s σ H xs us Q I r h;obtain⟨p,ys,rfl,h⟩:=h;obtain⟨u,rfl,rx⟩:=a2o r;cases rx;rcases h with ⟨hq,q⟩ |⟨hq,q⟩
 ·obtain⟨its,r',pl,hz⟩:=I.list hq
  have hlen:=r'.length;refine call_tuple_list pl.isList (fun h' kp=>?_) (by simp only[List.size_toArray]<;>omega);have I1:Inv X pins σ H { s with heap:=h' }:=I.kept (t':=s.toks) kp;have I2:Inv X pins σ (upd H h'.objs.size (.tup ys)) { s with heap:=h'.push { cls:=.type "tuple",data:=.seq its.toArray } }:=
   I1.laid (t':=s.toks) (fun b o e=>hP0 _ e) (nR0 _) (show a1h X.prog X.w _ _ _ (.tup ys) from⟨hz,its,r',IsTup.new _ _⟩)
  exact⟨.ref h'.objs.size,_,I2,rfl,q _ (I1.hok.fresh (nR0 _))⟩
 ·obtain⟨its,r',pl,hz⟩:=I.tuple hq
  exact call_tuple_same pl ⟨.ref p,H,I,rfl,q⟩
def tyV (K:Fg0)(T:String)(x:V)(H:Hp):Prop:=match x with
 | .str _=>T="str"
 | .int _=>T="int"
 | .ref p=>(T="list"/\∃xs,SqL K H p xs)\/(T="tuple"/\∃o,K.lookup p=some o/\o.cls=.type "tuple"/\o.dict=none) ∨
   (T="dict"/\((∃kvs,H p=some (.dK kvs))\/∃kvs,H p=some (.dT kvs)))\/(T="set"/\∃S n,H p=some (.set S n))
 |_=>False
theorem b2h {pins:List (Addr×Obj)}{σ:St}{H:Hp}{s:Shared}{T:String}{x:V}{v:Value}(I:Inv X pins σ H s)(r:a1e x v)(ty:tyV X.K T x H) :
  s.TypeIs v T/\∀a,v=.ref a->∃ob,s.heap.get? a=some ob/\ob.dict=none:=by
 cases x with
 |str z=>
  obtain⟨t,rfl⟩:=r
  cases(show T="str" from ty)
  exact⟨typeIs_str s z t,fun _ e=>nomatch e⟩
 |int i=>
  obtain⟨t,rfl⟩:=r
  cases(show T="int" from ty)
  exact⟨typeIs_int s i t,fun _ e=>nomatch e⟩
 |ref p=>
  cases r;rcases ty with ⟨rfl,xs,hq⟩ |⟨rfl,o,hk,hc,hd⟩ |⟨rfl,hk⟩ |⟨rfl,S,n,hk⟩
  ·obtain⟨its,_,pl,_⟩:=I.list hq
   refine⟨pl.isList.typeIs,fun a e=>?_⟩;cases e;obtain⟨o,n,e,c,hd,_⟩:=pl;exact⟨o,e,hd⟩
  ·refine⟨⟨o,I.kIn p o hk,hc⟩,fun a e=>?_⟩
   cases e;exact⟨o,I.kIn _ o hk,hd⟩
  ·have z:∃o,s.heap.get? p=some o/\o.ExactDict:=by
    rcases hk with ⟨kvs,hk⟩ |⟨kvs,hk⟩
    ·obtain⟨_,_,_,_,o,_,_,e,ex,_⟩:=I.hok p _ hk
     exact⟨o,e,ex⟩
    ·obtain⟨_,_,_,_,o,_,_,e,ex,_⟩:=I.hok p _ hk
     exact⟨o,e,ex⟩
   obtain⟨o,e,ex⟩:=z;refine⟨⟨o,e,ex.1⟩,fun a e2=>?_⟩;cases e2;exact⟨o,e,ex.2.1⟩
  ·obtain⟨o,_,_,_,e,ex,_⟩:=I.hok p _ hk
   refine⟨⟨o,e,ex.1⟩,fun a e2=>?_⟩;cases e2;exact⟨o,e,ex.2.1⟩
 |_=>exact False.elim ty
def tBM0 (K:Fg0)(T:String)(r:V->List V->Hp->VK->Prop)(to:TE):TE:=fun σ H Q=>to σ H fun x H1=>tyV K T x H1/\r x [] H1 Q
def tBM (K:Fg0)(T:String)(r:V->List V->Hp->VK->Prop)(to:TE)(t:TA):TE:=fun σ H Q=>to σ H fun x H1=>tyV K T x H1/\t σ H1 fun xs H2=>r x xs H2 Q
variable {o e:Expr}{es:List Expr}{to:TE}{t:TA}{name:Str}{apos cpos:Pos}{T id:String}{r:V->List V->Hp->VK->Prop}
theorem b1Z (pa:PlainAttrs T)(slot:Slot T name id)(hty:typeOf (.builtin id)=pure (.type "method_descriptor"))(hm:MtR X id r)(ho:PE X o to)
  (hbase:attributeBase o name X.env (eval o X.env)=eval o X.env:=by rfl) (hline:(apos.endLine==cpos.line)=true:=by rfl):PE X (.Call (.Attribute o name apos) [] [] cpos) (tBM0 X.K T r to):=by
 intro pins s σ H Q I h;refine wpAny_Call_method0_late hbase hline (thn (ho pins s σ H _ I h) fun v s1 ⟨x,H1,I1,r1,ty,q1⟩=>?_);obtain⟨h1,h2⟩:=b2h I1 r1 ty;exact⟨T,id,pa,slot,hty,h1,h2,Calls.callWith_builtin rfl (PySem.evalArgs_none (hm pins s1 σ H1 x [] v [] Q I1 r1 .nil q1))⟩
theorem a6Y (pa:PlainAttrs T)(slot:Slot T name id)(hty:typeOf (.builtin id)=pure (.type "method_descriptor"))(hm:MtR X id r)(ho:PE X o to)(ha:PA X (e::es) t)
  (hbase:attributeBase o name X.env (eval o X.env)=eval o X.env:=by rfl)
  (hfew:((backTo cpos (starEach (e::es) X.env)).all (fun x=>!x.1)&&(backToKw cpos (keywordEach [] X.env)).all (fun x=>x.1.isSome)
   && decide ((e::es).length+([]:List Keyword).length+(if ([]:List Keyword).isEmpty then 0 else 1)<30))=true:=by rfl)
  (hline:(apos.endLine==cpos.line)=true:=by rfl) (hs:starEach (e::es) X.env=(false,eval e X.env)::starEach es X.env:=by rfl) (hplain:(backTo cpos (starEach es X.env)).any (·.1)=false:=by rfl) :
  PE X (.Call (.Attribute o name apos) (e::es) [] cpos) (tBM X.K T r to t):=by
 intro pins s σ H Q I h;refine wpAny_Call_method_late hbase hfew hline rfl (thn (ho pins s σ H _ I h) fun v s1 ⟨x,H1,I1,r1,ty,q1⟩=>?_);obtain⟨h1,h2⟩:=b2h I1 r1 ty;refine⟨T,id,pa,slot,hty,h1,h2,?_⟩;have hA:=ha cpos pins s1 σ H1 _ I1 q1;rw[hs] at hA ⊢;refine Calls.callWith_builtin (by show(false || (backTo cpos (starEach es X.env)).any (·.1))=false;rw[hplain]<;>rfl) (Calls.evalArgs_plain ?_);exact thn hA fun us s2 ⟨vs,H2,I2,r2,q2⟩=>hm pins s2 σ H2 x vs v us Q I2 r1 r2 q2
end
def MtM (X:Cx)(id:String)(r:V->List V->Hp->VK->Prop):Prop:=
 ∀(pins:List (Addr×Obj)) (s:Shared) (σ:St) (H:Hp) (x:V) (xs:List V) (v:Value) (us:List Value) (Q:VK),Inv X pins σ H s->a1e x v->a1l xs us->r x xs H Q →
  wpAny (model X.prog X.w) X.A (call (.builtin id) (v::us)) (EP X pins σ Q) X.xe s
theorem a1l.one:∀{x:V} {us:List Value},a1l [x] us->∃u,us=[u]/\a1e x u
 |_,_,.cons r .nil=>⟨_,rfl,r⟩
theorem a1l.zero:∀{us:List Value},a1l [] us->us=[]
 |_,.nil=>rfl
section
variable {X:Cx}{pins:List (Addr×Obj)}{σ:St}{H:Hp}{s:Shared}{l b:Addr}{xs ys zs:List V}
theorem Inv.lset {its its':List Value}{n:Nat}{f:Array Value->Array Value}{t':Nat}(I:Inv X pins σ H s)(hH:H l=some (.lst xs))
  (e:s.heap.get? l=some { cls:=.type "list",data:=.seq its.toArray n }) (hf:f its.toArray=its'.toArray) (hv:a1l ys its') (hz:ys.length<=sizeLine) :
  Inv X pins σ (upd H l (.lst ys)) { s with heap:=s.heap.update l (Obj.mapSeq f),toks:=t' }:=by
 have q:=PySem.IsL.update e f;rw[hf] at q;refine I.write (x:=l) (e:=l) (by rw[hH];exact trivial) (.inl rfl) (fun b' u hb hu=>(Heap.get?_update_other s.heap (Obj.mapSeq f) (Ne.symm hb)).trans hu) ⟨_,q⟩ ?_;exact⟨hz,its',_,hv,q⟩
theorem Inv.lnew {its:List Value}{t':Nat}(I:Inv X pins σ H s)(hv:a1l ys its)(hz:ys.length<=sizeLine) :
  Inv X pins σ (upd H s.heap.objs.size (.lst ys)) { s with heap:=s.heap.push { cls:=.type "list",data:=.seq its.toArray },toks:=t' }:=
 I.laid (fun _ _ q=>hP0 _ q) (nR0 _) ⟨hz,its,0,hv,hS0 _ rfl⟩
theorem Inv.fresh (I:Inv X pins σ H s):H s.heap.objs.size=none:=I.hok.fresh (nR0 _)
theorem Inv.lstM (I:Inv X pins σ H s)(hH:H l=some (.lst xs)):xs.length<=sizeLine/\∃(its:List Value) (n:Nat),a1l xs its/\xs.length=its.length/\s.heap.get? l=some { cls:=.type "list",data:=.seq its.toArray n }:=by
 obtain⟨z,its,n,r,e⟩:=I.hok l _ hH;exact⟨z,its,n,r,r.length,e⟩
theorem b0Z {n:Nat}(h:n<=sizeLine):Builtin.List.listTooLong n=false:=by
 unfold Builtin.List.listTooLong;exact dF0 (by omega)
end
section
variable {X:Cx}
def a9p:V->List V->Hp->VK->Prop:=fun x vs H Q=>∃l xs y,x=.ref l/\vs=[y]/\H l=some (.lst xs)/\xs.length<sizeLine/\Q .non (upd H l (.lst (xs++[y])))
theorem a5K:MtM X "list.append" a9p:=by
 intro pins s σ H x vs v us Q I rx rv h;obtain⟨l,xs,y,rfl,rfl,hH,hz,q⟩:=h;cases rx;obtain⟨u,rfl,ru⟩:=rv.one;obtain⟨z,its,n,r,hl,e⟩:=I.lstM hH;refine call_meets F.slot_list_append ⟨_,e,rfl⟩ F.entry_list_append (F.args_list_append_2 _ _) (PySem.list_append l its.toArray n u (by rw[List.size_toArray];omega)) ⟨e,?_⟩;refine⟨.non,_,I.lset (its':=its++[u]) hH e (by simp) (r.append (.cons ru .nil)) ?_,rfl,q⟩;rw[lA0,List.length_singleton]
 omega
def b3v:V->List V->Hp->VK->Prop:=fun x vs H Q=>∃l b xs zs,x=.ref l/\vs=[.ref b]/\H l=some (.lst xs)/\H b=some (.lst zs)/\xs.length+zs.length<=sizeLine/\Q .non (upd H l (.lst (xs++zs)))
theorem b4C:MtM X "list.extend" b3v:=by
 intro pins s σ H x vs v us Q I rx rv h;obtain⟨l,b,xs,zs,rfl,rfl,hH,hB,hz,q⟩:=h;cases rx;obtain⟨u,rfl,ru⟩:=rv.one;cases ru;obtain⟨z,its,n,r,hl,e⟩:=I.lstM hH;obtain⟨z2,its2,n2,r2,hl2,e2⟩:=I.lstM hB;have hsz:its.toArray.size+its2.toArray.size<=sizeLine:=by rw[List.size_toArray,List.size_toArray];omega
 have hlong:¬(!its.toArray.isEmpty&&Builtin.List.listTooLong (its.toArray.size+its2.toArray.size))=true:=by
  rw[b0Z hsz,Bool.and_false];exact bF0
 refine call_meets F.slot_list_extend ⟨_,e,rfl⟩ F.entry_list_extend (F.args_list_extend_2 _ _)
  (AutoSeq1.list_extend_list_list_0 l its.toArray n b its2.toArray n2 hlong (by rw[List.size_toArray];omega) (by omega)) ⟨e,e2,?_⟩
 refine⟨.non,_,I.lset (its':=its++its2) hH e (by simp) (r.append r2) ?_,rfl,q⟩;rw[lA0]
 omega
def rCat:R2:=fun x y H Q=>∃l b xs zs,x=.ref l/\y=.ref b/\H l=some (.lst xs)/\H b=some (.lst zs)/\xs.length+zs.length<=sizeLine/\∀p,H p=none->Q (.ref p) (upd H p (.lst (xs++zs)))
theorem a8L:OpR X (binaryOp .Add) rCat:=by
 intro pins s σ H x y v u Q I rx ry h;obtain⟨l,b,xs,zs,rfl,rfl,hH,hB,hz,q⟩:=h;cases rx;cases ry;obtain⟨z,its,n,r,hl,e⟩:=I.lstM hH;obtain⟨z2,its2,n2,r2,hl2,e2⟩:=I.lstM hB;refine PySem.P.add_list e e2 ?_ (by rw[List.size_toArray,List.size_toArray];omega);have ea:its.toArray++its2.toArray=(its++its2).toArray:=by simp
 rw[ea];exact⟨.ref _,_,I.lnew (t':=s.toks) (r.append r2) (by rw[lA0];omega),rfl,q _ I.fresh⟩
end
section
variable {prog:Program}{w:World}{A:Around}{E:Vs0}{s:Shared}
set_option maxRecDepth 100000 in
end
section
variable {κ:Type}[DecidableEq κ]
def a2g (kvs:List (κ×V))(k:κ):Option V:=(kvs.find? fun kv=>decide (kv.1=k)).map (·.2)
def a3s (kvs:List (κ×V))(k:κ)(v:V):List (κ×V):=
 if (kvs.any fun kv=>decide (kv.1=k))=true then kvs.map (fun kv=>if kv.1=k then(kv.1,v) else kv) else kvs++[(k,v)]
def a3P (kvs:List (κ×V))(k:κ):List (κ×V):=kvs.filter fun kv=>decide (kv.1≠k)
theorem a1K {p:κ×V}{r:List (κ×V)}{k:κ}(e:p.1=k):a2g (p::r) k=some p.2:=by simp[a2g,List.find?_cons,e]
theorem a2i {p:κ×V}{r:List (κ×V)}{k:κ}(e:¬p.1=k):a2g (p::r) k=a2g r k:=by simp[a2g,List.find?_cons,e]
theorem a5i (k:κ):∀kvs:List (κ×V),(kvs.any fun kv=>decide (kv.1=k))=(a2g kvs k).isSome
 |[]=>rfl
 |p::r=>by
  rw[List.any_cons]
  by_cases e:p.1=k
  ·simp only[a1K e,dT0 e,Bool.true_or,Option.isSome_some]
  ·rw[a2i e,dF0 e,Bool.false_or];exact a5i k r
theorem a2Z (kvs:List (κ×V))(k:κ)(v:V):(a3s kvs k v).length<=kvs.length+1:=by
 unfold a3s
 split
 ·rw[lM0];omega
 ·rw[lA0,List.length_cons,List.length_nil];omega
theorem a5w {kvs:List (κ×V)}{k:κ}(v:V)(h:a2g kvs k=none):a3s kvs k v=kvs++[(k,v)]:=by
 unfold a3s;rw[a5i,h];exact if_neg (by decide)
theorem a4w.isSome_eq {o:Option V}{u:Option Value}(r:a4w o u):o.isSome=u.isSome:=by
 cases o with
 |none=>cases u with
  |none=>rfl
  |some _=>exact(show False from r).elim
 |some _=>cases u with
  |none=>exact(show False from r).elim
  |some _=>rfl
theorem KV.val {kvs:List (κ×V)}{vs:List (κ×Value)}(r:KV kvs vs)(k:κ):a4w (a2g kvs k) (valueAt vs k):=by
 unfold KV at r
 induction r with
 |nil=>exact True.intro
 |@cons p q ps qs h t ih=>
  obtain⟨h1,h2⟩:=h
  by_cases e:p.1=k
  ·have e':q.1=k:=h1.symm.trans e
   have b:valueAt (q::qs) k=some q.2:=by simp[valueAt,List.find?_cons,e']
   rw[a1K e,b];exact h2
  ·have e':¬q.1=k:=fun z=>e (h1.trans z)
   have b:valueAt (q::qs) k=valueAt qs k:=by simp[valueAt,List.find?_cons,e']
   rw[a2i e,b];exact ih
theorem KV.any {kvs:List (κ×V)}{vs:List (κ×Value)}(r:KV kvs vs)(k:κ):(kvs.any fun kv=>decide (kv.1=k))=vs.any fun kv=>decide (kv.1=k):=by
 unfold KV at r
 induction r with
 |nil=>rfl
 |cons h t ih=>rw[List.any_cons,List.any_cons,ih,h.1]
theorem KV.repl {kvs:List (κ×V)}{vs:List (κ×Value)}(r:KV kvs vs)(k:κ){y:V}{u:Value}(ry:a1e y u) :
  KV (kvs.map fun kv=>if kv.1=k then(kv.1,y) else kv) (vs.map fun kv=>if kv.1=k then(kv.1,u) else kv):=by
 unfold KV at r ⊢
 induction r with
 |nil=>exact .nil
 |@cons p q ps qs h t ih=>
  rw[mN0,mN0];refine .cons ?_ ih;obtain⟨h1,h2⟩:=h
  by_cases e:p.1=k
  ·rw[if_pos e,if_pos (h1.symm.trans e)];exact⟨h1,ry⟩
  ·rw[if_neg e,if_neg (fun z=>e (h1.trans z))];exact⟨h1,h2⟩
theorem KV.put {kvs:List (κ×V)}{vs:List (κ×Value)}(r:KV kvs vs)(k:κ){y:V}{u:Value}(ry:a1e y u):KV (a3s kvs k y) (stored vs k u):=by
 unfold a3s stored;rw[r.any k]
 by_cases e:(vs.any fun kv=>decide (kv.1=k))=true
 ·rw[if_pos e,if_pos e];exact r.repl k ry
 ·rw[if_neg e,if_neg e];exact Paired.snoc r ⟨rfl,ry⟩
theorem KV.drop {kvs:List (κ×V)}{vs:List (κ×Value)}(r:KV kvs vs)(k:κ):KV (a3P kvs k) (without vs k):=by
 unfold KV at r ⊢;unfold a3P without
 induction r with
 |nil=>exact .nil
 |@cons p q ps qs h t ih=>
  obtain⟨h1,h2⟩:=h;rw[List.filter_cons,List.filter_cons]
  by_cases e:p.1=k
  ·have a:¬decide (p.1≠k)=true:=by simp[e]
   have b:¬decide (q.1≠k)=true:=by simp[h1.symm.trans e]
   rw[if_neg a,if_neg b];exact ih
  ·have e':¬q.1=k:=fun z=>e (h1.trans z)
   have a:decide (p.1≠k)=true:=by simp[e]
   have b:decide (q.1≠k)=true:=by simp[e']
   rw[if_pos a,if_pos b];exact .cons ⟨h1,h2⟩ ih
theorem KV.length {kvs:List (κ×V)}{vs:List (κ×Value)}(r:KV kvs vs):kvs.length=vs.length:=Paired.length r
theorem a7r (kvs:List (κ×V))(k:κ):(a3P kvs k).length<=kvs.length:=List.length_filter_le _ _
end
theorem a4A {P:Program}{w:World}{k:Key}{u:Value}(r:a1e (kV k) u):(a0n P w).is k u=true:=by
 cases k with
 |inl i=>obtain⟨t,e⟩:=(show ∃t,u=Value.int i t from r);subst e;exact a7k P w i t
 |inr x=>obtain⟨t,e⟩:=(show ∃t,u=Value.str x t from r);subst e;exact a7g P w x t
theorem a6i {P:Program}{w:World}:∀{ks:List Key} {us:List Value},a1l (ks.map kV) us->ItemsAre (a0n P w) ks us
 |[],_,r=>by rw[List.map_nil] at r;cases r;exact .nil
 |k::ks,_,r=>by
  rw[mN0] at r;cases r with
  |cons h t=>exact .cons (a4A h) (a6i t)
abbrev KT (H:Hp):List (List Key×V)->List (List Key×Addr×Value)->Prop:=Paired fun p q=>p.1=q.1/\H q.2.1=some (.tup (p.1.map kV))/\a1e p.2 q.2.2
theorem KT.val {H:Hp}{kvs:List (List Key×V)}{xs:List (List Key×Addr×Value)}(r:KT H kvs xs)(k:List Key):a4w (a2g kvs k) ((atKey xs k).map (·.2)):=by
 induction r with
 |nil=>exact True.intro
 |@cons p q ps qs h t ih=>
  obtain⟨h1,_,h2⟩:=h
  by_cases e:p.1=k
  ·have e':q.1=k:=h1.symm.trans e
   have b:atKey (q::qs) k=some q.2:=by simp[atKey,List.find?_cons,e']
   rw[a1K e,b];exact h2
  ·have e':¬q.1=k:=fun z=>e (h1.trans z)
   have b:atKey (q::qs) k=atKey qs k:=by simp[atKey,List.find?_cons,e']
   rw[a2i e,b];exact ih
theorem KT.repl {H:Hp}{kvs:List (List Key×V)}{xs:List (List Key×Addr×Value)}(r:KT H kvs xs)(k:List Key){y:V}{u:Value}(ry:a1e y u) :
  KT H (kvs.map fun kv=>if kv.1=k then(kv.1,y) else kv) (xs.map (putAt k u)):=by
 induction r with
 |nil=>exact .nil
 |@cons p q ps qs h t ih=>
  rw[mN0,mN0];refine .cons ?_ ih;obtain⟨h1,h2,h3⟩:=h;unfold putAt
  by_cases e:p.1=k
  ·rw[if_pos e,if_pos (h1.symm.trans e)];exact⟨h1,h2,ry⟩
  ·rw[if_neg e,if_neg (fun z=>e (h1.trans z))];exact⟨h1,h2,h3⟩
theorem KT.put {H:Hp}{kvs:List (List Key×V)}{xs:List (List Key×Addr×Value)}(r:KT H kvs xs)(k:List Key){b:Addr}{y:V}{u:Value}(hb:H b=some (.tup (k.map kV)))(ry:a1e y u) :
  KT H (a3s kvs k y) (storedH xs k b u):=by
 have e:(kvs.any fun kv=>decide (kv.1=k))=(atKey xs k).isSome:=by
  rw[a5i,(r.val k).isSome_eq,Option.isSome_map]
 unfold a3s storedH;rw[e]
 by_cases q:(atKey xs k).isSome=true
 ·rw[if_pos q,if_pos q];exact r.repl k ry
 ·rw[if_neg q,if_neg q];exact Paired.snoc r ⟨rfl,hb,ry⟩
theorem KT.keeps {H H':Hp}{kvs:List (List Key×V)}{xs:List (List Key×Addr×Value)}(r:KT H kvs xs)(ht:∀b ys,H b=some (.tup ys)->H' b=some (.tup ys)):KT H' kvs xs:=
 Paired.mapP r fun _ _ z=>⟨z.1,ht _ _ z.2.1,z.2.2⟩
section
variable {P:Program}{w:World}{H:Hp}{h:Heap}{a:Addr}
theorem b4h {u:HO}(ok:HOk P w H h)(e:Rd H a u):a1h P w H h a u:=e.ok ok
theorem a4g {kvs:List (Key×V)}(ok:HOk P w H h)(e:Rd H a (.dK kvs)):kvs.length<=sizeLine/\(a==sysModules)=false/\∃vs,KV kvs vs/\h.DictOf (a0n P w) a vs:=
 show a1h P w H h a (.dK kvs) from b4h ok e
theorem a5V {kvs:List (Key×V)}(ok:HOk P w H h)(e:H a=some (.dK kvs)):kvs.length<=sizeLine/\(a==sysModules)=false/\∃vs,KV kvs vs/\h.DictOf (a0n P w) a vs:=a4g ok (.inl e)
theorem a6m {ks:List Key}(ok:HOk P w H h)(e:H a=some (.tup (ks.map kV))):(tupleKind (a0n P w)).is h ks a:=by
 obtain⟨_,its,r,o,h1,h2,n,h3⟩:=(show a1h P w H h a (.tup (ks.map kV)) from ok a _ e);exact⟨o,its.toArray,n,h1,h2,h3,by simpa using a6i r⟩
theorem a8k {kvs:List (List Key×V)}(ok:HOk P w H h)(e:Rd H a (.dT kvs)):kvs.length<=sizeLine/\(a==sysModules)=false ∧
  ∃xs,KT H kvs xs/\h.DictOfH (tupleKind (a0n P w)) a xs:=by
 obtain⟨z,y,xs,r,o,es,ep,h1,h2,h3,h4,h5⟩:=(show a1h P w H h a (.dT kvs) from b4h ok e);refine⟨z,y,xs,r,o,es,ep,h1,h2,h3,h4,fun x hx=>?_,h5⟩;have all:∀{l:List (List Key×V)} {m:List (List Key×Addr×Value)},KT H l m->∀x∈m,(tupleKind (a0n P w)).is h x.1 x.2.1:=by
  intro l m q
  induction q with
  |nil=>intro x hx;exact nomatch hx
  |@cons p q ps qs hq t ih=>
   intro x hx;rcases mK0.mp hx with e |hx
   ·subst e
    exact a6m ok (by rw[<-hq.1];exact hq.2.1)
   ·exact ih x hx
 exact all r x hx
theorem b5z {kvs:List (List Key×V)}(ok:HOk P w H h)(e:H a=some (.dT kvs)):kvs.length<=sizeLine/\(a==sysModules)=false ∧
  ∃xs,KT H kvs xs/\h.DictOfH (tupleKind (a0n P w)) a xs:=a8k ok (.inl e)
end
def b3c (H:Hp)(a:Addr)(y:V)(r:Option V):Prop:=
 (∃kvs k,Rd H a (.dK kvs)/\y=kV k/\r=a2g kvs k)\/∃kvs k b,Rd H a (.dT kvs)/\y=.ref b/\H b=some (.tup (k.map kV))/\r=a2g kvs k
def a8J (H:Hp)(a:Addr)(y v:V)(H':Hp):Prop:=
 (∃kvs k,H a=some (.dK kvs)/\y=kV k/\kvs.length<sizeLine/\H'=upd H a (.dK (a3s kvs k v))) ∨
 ∃kvs k b,H a=some (.dT kvs)/\y=.ref b/\H b=some (.tup (k.map kV))/\kvs.length<sizeLine/\H'=upd H a (.dT (a3s kvs k v))
theorem a8J.k {H:Hp}{a:Addr}{kvs:List (Key×V)}{k:Key}{v:V}(e:H a=some (.dK kvs))(hl:kvs.length<sizeLine):a8J H a (kV k) v (upd H a (.dK (a3s kvs k v))):=.inl ⟨kvs,k,e,rfl,hl,rfl⟩
section
variable {X:Cx}{pins:List (Addr×Obj)}{σ:St}{H:Hp}{s:Shared}{a:Addr}{y v:V}{u r:Value}{o:Option V}{A:Around}{E:Vs0}
theorem Inv.big (I:Inv X pins σ H s):sysModules<s.heap.objs.size:=by
 have h:mainGlobals<s.heap.objs.size:=(I.mod.glob.keeps I.bk).lt;exact Nat.lt_trans (by decide) h
theorem a9n {Q:Vs0}(hu:A.units+1<cLine)(I:Inv X pins σ H s)(g:b3c H a y (some v))(ry:a1e y u)(h:∀w' s',Inv X pins σ H s'->a1e v w'->Q w' s') :
  wpAny (model X.prog X.w) A (getItem (.ref a) u) Q E s:=by
 rcases g with ⟨kvs,k,e,ey,l⟩ |⟨kvs,k,b,e,ey,eb,l⟩
 ·subst ey
  obtain⟨z,hd,vs,rel,dd⟩:=a4g I.hok e;obtain⟨w',hw,rw'⟩:=a4w.some_of (v:=v) (o:=valueAt vs k) (by rw[l];exact rel.val k);exact wpAny_getItem_of (a4A ry) dd.mapOf hw (h w' _ (I.tok _) rw')
 ·subst ey
  cases(show u=Value.ref b from ry)
  obtain⟨z,hd,xs,rel,dd⟩:=a8k I.hok e;obtain⟨w',hw,rw'⟩:=a4w.some_of (v:=v) (o:=(atKey xs k).map (·.2)) (by rw[l];exact rel.val k);obtain⟨p,hp,hp2⟩:=Option.map_eq_some_iff.mp hw;refine wpAny_getItem_heap (tupleKind_room_in1 hu) (a6m I.hok eb) dd hp ?_;rw[hp2];exact h w' _ (I.tok _) rw'
theorem d_in {Q:Vs0}(hu:A.units+1<cLine)(I:Inv X pins σ H s)(g:b3c H a y o)(ry:a1e y u)(h:∀s',Inv X pins σ H s'->Q (.bool o.isSome) s') :
  wpAny (model X.prog X.w) A (compareOp .In u (.ref a)) Q E s:=by
 rcases g with ⟨kvs,k,e,ey,l⟩ |⟨kvs,k,b,e,ey,eb,l⟩
 ·subst ey
  obtain⟨z,hd,vs,rel,dd⟩:=a4g I.hok e;refine wpAny_in_of (a4A ry) hd dd.mapOf ?_;rw[<-(rel.val k).isSome_eq,<-l];exact h _ (I.tok _)
 ·subst ey
  cases(show u=Value.ref b from ry)
  obtain⟨z,hd,xs,rel,dd⟩:=a8k I.hok e;refine wpAny_in_heap (tupleKind_room_in1 hu) (a6m I.hok eb) hd dd ?_;have q:=(rel.val k).isSome_eq;rw[Option.isSome_map] at q;rw[<-q,<-l];exact h _ (I.tok _)
theorem b2w {Q:Vs0}(hu:A.units+1<cLine)(I:Inv X pins σ H s)(g:b3c H a y o)(ry:a1e y u)(h:∀s',Inv X pins σ H s'->Q (.bool (!o.isSome)) s') :
  wpAny (model X.prog X.w) A (compareOp .NotIn u (.ref a)) Q E s:=by
 rcases g with ⟨kvs,k,e,ey,l⟩ |⟨kvs,k,b,e,ey,eb,l⟩
 ·subst ey
  obtain⟨z,hd,vs,rel,dd⟩:=a4g I.hok e;refine wpAny_notIn_of (a4A ry) hd dd.mapOf ?_;rw[<-(rel.val k).isSome_eq,<-l];exact h _ (I.tok _)
 ·subst ey
  cases(show u=Value.ref b from ry)
  obtain⟨z,hd,xs,rel,dd⟩:=a8k I.hok e;refine wpAny_notIn_heap (tupleKind_room_in1 hu) (a6m I.hok eb) hd dd ?_;have q:=(rel.val k).isSome_eq;rw[Option.isSome_map] at q;rw[<-q,<-l];exact h _ (I.tok _)
theorem a3z {h':Heap}{t':Nat}{ob:HO}(I:Inv X pins σ H s)(mu:Mut (H a))(hs:Heap.SameBut a s.heap h')(he:∃q,h'.get? a=some q)(new:a1h X.prog X.w (upd H a ob) h' a ob) :
  Inv X pins σ (upd H a ob) { s with heap:=h',toks:=t' }:=
 I.write (x:=a) (e:=a) mu (.inl rfl) (fun b q hb z=>(hs.2 b hb).trans z) he new
theorem a3N {P:Program}{w:World}{H':Hp}{h':Heap}{kvs:List (Key×V)}{vs:List (Key×Value)}(z:kvs.length<=sizeLine)(hd:(a==sysModules)=false)(rel:KV kvs vs)(dd:h'.DictOf (a0n P w) a vs) :
  a1h P w H' h' a (.dK kvs):=⟨z,hd,vs,rel,dd⟩
theorem a9Q {H':Hp}{Q:Unit->Shared->Prop}(hu:A.units+1<cLine)(I:Inv X pins σ H s)(g:a8J H a y v H')(ry:a1e y u)(rv:a1e v r)(h:∀s',Inv X pins σ H' s'->Q () s') :
  wpAny (model X.prog X.w) A (setItem (.ref a) u r) Q E s:=by
 rcases g with ⟨kvs,k,e,ey,l,eH⟩ |⟨kvs,k,b,e,ey,eb,l,eH⟩
 ·subst ey eH
  obtain⟨z,hd,vs,rel,dd⟩:=a5V I.hok e;have hz:vs.length<=sizeLine:=by rw[<-rel.length];exact z
  have hl:(a3s kvs k v).length<=sizeLine:=by have:=a2Z kvs k v;omega
  refine wpAny_setItem_pairs (hsz:=hz) (a4A ry) dd fun h' dd' hs=>h _ ?_;have he:∃q,h'.get? a=some q:=let ⟨q,_,_,hq,_⟩:=dd';⟨q,hq⟩
  exact a3z I (by rw[e];exact True.intro) hs he (a3N hl hd (rel.put k rv) dd')
 ·subst ey eH
  cases(show u=Value.ref b from ry)
  obtain⟨z,hd,xs,rel,dd⟩:=b5z I.hok e;have hz:xs.length<=sizeLine:=by rw[<-Paired.length rel];exact z
  have hl:(a3s kvs k v).length<=sizeLine:=by have:=a2Z kvs k v;omega
  refine wpAny_setItem_heap (hsz:=hz) (tupleKind_room_in1 hu) (a6m I.hok eb) dd fun h' dd' hs=>h _ ?_;obtain⟨q,es,ep,hq,h2,h3,h4,_,h5⟩:=dd';refine a3z I (by rw[e];exact True.intro) hs ⟨q,hq⟩ ⟨hl,hd,_,(rel.put k eb rv).keeps fun c ys ec=>?_,q,es,ep,hq,h2,h3,h4,h5⟩;rw[a0g (b6b ec e (fun z=>nomatch z))];exact ec
end
section
variable {X:Cx}{pins:List (Addr×Obj)}{σ:St}{H:Hp}{s:Shared}{a:Addr}{kvs:List (Key×V)}{k:Key}{u:Value}{A:Around}{E:Vs0}
theorem b4A {Q:Unit->Shared->Prop}(I:Inv X pins σ H s)(e:H a=some (.dK kvs))(ry:a1e (kV k) u)(l:(a2g kvs k).isSome=true)(h:∀s',Inv X pins σ (upd H a (.dK (a3P kvs k))) s'->Q () s') :
  wpAny (model X.prog X.w) A (delItem (.ref a) u) Q E s:=by
 obtain⟨z,hd,vs,rel,dd⟩:=a5V I.hok e;refine wpAny_delItem_slot dd.typeIs (by decide) PySem.F.slot_dict_delitem
  (call_meetsIn PySem.F.slot_dict_delitem dd.typeIs PySem.F.entry_dict_delitem (PySem.F.args_dict_delitem_2 _ _) (meets_dict_delitem_pairs (a0n X.prog X.w) a (a4A ry)) ⟨vs,dd,by rw[<-rel.length];exact z,by rw[<-(rel.val k).isSome_eq];exact l,fun h' dd' hs=>h _ ?_⟩)
 have he:∃q,h'.get? a=some q:=let ⟨q,_,_,hq,_⟩:=dd';⟨q,hq⟩
 exact a3z I (by rw[e];exact True.intro) hs he (a3N (Nat.le_trans (a7r kvs k) z) hd (rel.drop k) dd')
theorem b6o {v:V}{more:List Value}{Q:Vs0}(I:Inv X pins σ H s)(e:H a=some (.dK kvs))(ry:a1e (kV k) u)(l:a2g kvs k=some v)(hm:more=[]\/∃x,more=[x])
  (h:∀w' s',Inv X pins σ (upd H a (.dK (a3P kvs k))) s'->a1e v w'->Q w' s'):wpAny (model X.prog X.w) A (call (.builtin "dict.pop") (.ref a::u::more)) Q E s:=by
 obtain⟨z,hd,vs,rel,dd⟩:=a5V I.hok e;obtain⟨w',hw,rw'⟩:=a4w.some_of (v:=v) (o:=valueAt vs k) (by rw[<-l];exact rel.val k);have hp:(keyPart u).isSome=true:=by
  cases k with
  |inl i=>obtain⟨t,q⟩:=(show ∃t,u=Value.int i t from ry);subst q;rfl
  |inr x=>obtain⟨t,q⟩:=(show ∃t,u=Value.str x t from ry);subst q;rfl
 have ha:argsOk "dict.pop" ⟨.ref a::u::more,[]⟩:=by
  rcases hm with q |⟨x,q⟩
  ·subst q;exact PySem.F.args_dict_pop_2 _ _
  ·subst q;exact PySem.F.args_dict_pop_3 _ _ _
 refine call_meetsIn PySem.F.slot_dict_pop dd.typeIs PySem.F.entry_dict_pop ha (meets_dict_pop_there (a0n X.prog X.w) a (a4A ry) more hm hp)
  ⟨vs,w',dd,by rw[<-rel.length];exact z,hw,fun h' dd' hs=>h w' _ ?_ rw'⟩
 have he:∃q,h'.get? a=some q:=let ⟨q,_,_,hq,_⟩:=dd';⟨q,hq⟩
 exact a3z I (by rw[e];exact True.intro) hs he (a3N (Nat.le_trans (a7r kvs k) z) hd (rel.drop k) dd')
theorem b5w {Q:Vs0}(I:Inv X pins σ H s)(e:Rd H a (.dK kvs))(h:∀t s',Inv X pins σ H s'->Q (.int kvs.length t) s'):wpAny (model X.prog X.w) A (call (.builtin "len") [.ref a]) Q E s:=by
 obtain⟨z,hd,vs,rel,dd⟩:=a4g I.hok e;refine call_len_dict hd dd (by rw[<-rel.length];rw[sizeLine_eq] at z;omega) ?_;rw[<-rel.length];exact h _ _ (I.tok _)
end
def b6A (i:Expr):Prop:=∀ov iv,subscripted i false ov iv=operate [ov,iv] (getItem ov iv)
theorem b2m {prog:Program}{w:World}{A:Around}{E:Vs0}{s:Shared}{env:Env}{value slice:Expr}{pos:Pos}{T id:String}{Q:Vs0}
  (hl:typeLookup (.type T) "__getitem__"=pure (some (.builtin id))) (hs:b6A slice)
  (h:wpAny (model prog w) A (eval value env) (fun o s₁=>wpAny (model prog w) A (eval slice env) (fun i s₂=>s₂.TypeIs o T/\wpAny (model prog w) A (getItem o i) Q E s₂) E s₁) E s) :
  wpAny (model prog w) A (eval (.Subscript value slice pos) env) Q E s:=by
 refine Subscript_ (wpAny_mono h (fun o s₁ h₁=>wpAny_mono h₁ (fun i s₂ h₂=>?_) fun _ _ x=>x) fun _ _ x=>x);obtain⟨hT,h₂⟩:=h₂;unfold subscriptTail;refine wB0 ?_;rw[getitemInPython_of_ne hT.not_modules];refine wB0 (wpAny_specialOf hT hl ?_);have fin:wpAny (model prog w) A (subscripted slice false o i) (fun r s₃=>wpAny (model prog w) A (letTemporaryGo value o r >>= fun _=>pure r) Q E s₃) E s₂:=by
  rw[hs o i];exact wpAny_operating (wpAny_mono h₂ (fun r s₃ h₃=>wB0 (wpAny_letTemporaryGo (wP0 h₃))) fun _ _ x=>x)
 first
  |exact wP0 (wB0 fin)
  |exact wB0 (wP0 (wB0 fin))
  |exact wB0 fin
theorem a7c {X:Cx}{pins:List (Addr×Obj)}{σ:St}{H:Hp}{s:Shared}{a:Addr}{y:V}{o:Option V}(I:Inv X pins σ H s)(g:b3c H a y o):s.TypeIs (.ref a) "dict":=by
 rcases g with ⟨kvs,k,e,_,_⟩ |⟨kvs,k,b,e,_,_,_⟩
 ·obtain⟨_,_,vs,_,dd⟩:=a4g I.hok e
  exact dd.typeIs
 ·obtain⟨_,_,xs,_,dd⟩:=a8k I.hok e
  exact dd.typeIs
def b5U (td ty:TE):TE:=fun σ H Q=>td σ H fun x H1=>ty σ H1 fun y H2=>∃a v,x=.ref a/\b3c H2 a y (some v)/\Q v H2
def tDIn (ty td:TE):TE:=fun σ H Q=>ty σ H fun y H1=>td σ H1 fun x H2=>∃a o,x=.ref a/\b3c H2 a y o/\Q (.bl o.isSome) H2
def b2y (ty td:TE):TE:=fun σ H Q=>ty σ H fun y H1=>td σ H1 fun x H2=>∃a o,x=.ref a/\b3c H2 a y o/\Q (.bl (!o.isSome)) H2
def b5n (td ty tv:TE):TS:=fun D σ H=>tv σ H fun v H1=>td σ H1 fun x H2=>ty σ H2 fun y H3=>∃a H4,x=.ref a/\a8J H3 a y v H4/\D.nx σ H4
section
variable {X:Cx}{o i e value:Expr}{pos pos' tpos:Pos}{td ty tv:TE}
theorem a2k (hu:X.A.units+1<cLine)(ho:PE X o td)(hi:PE X i ty)(hs:b6A i):PE X (.Subscript o i pos) (b5U td ty):=by
 intro pins s σ H Q I h;refine b2m PySem.F.slot_dict_getitem.lookup hs (thn (ho pins s σ H _ I h) fun u s1 ⟨x,H1,I1,rx,q1⟩=>thn (hi pins s1 σ H1 _ I1 q1) fun iv s2 ⟨y,H2,I2,ry,a,v,ex,g,q2⟩=>?_);subst ex;obtain rfl:u=Value.ref a:=rx;exact⟨a7c I2 g,a9n hu I2 g ry fun w' s3 I3 rw'=>⟨v,H2,I3,rw',q2⟩⟩
theorem a4I (hu:X.A.units+1<cLine)(hi:PE X i ty)(ho:PE X o td):PC X .In i o (tDIn ty td):=by
 intro pins s σ H Q I h;refine thn (hi pins s σ H _ I h) fun iv s1 ⟨y,H1,I1,ry,q1⟩=>thn (ho pins s1 σ H1 _ I1 q1) fun u s2 ⟨x,H2,I2,rx,a,ov,ex,g,q2⟩=>?_;subst ex;obtain rfl:u=Value.ref a:=rx;exact d_in hu I2 g ry fun s3 I3=>⟨.bl ov.isSome,H2,I3,rfl,q2⟩
theorem a4e (hu:X.A.units+1<cLine)(hi:PE X i ty)(ho:PE X o td):PC X .NotIn i o (b2y ty td):=by
 intro pins s σ H Q I h;refine thn (hi pins s σ H _ I h) fun iv s1 ⟨y,H1,I1,ry,q1⟩=>thn (ho pins s1 σ H1 _ I1 q1) fun u s2 ⟨x,H2,I2,rx,a,ov,ex,g,q2⟩=>?_;subst ex;obtain rfl:u=Value.ref a:=rx;exact b2w hu I2 g ry fun s3 I3=>⟨.bl (!ov.isSome),H2,I3,rfl,q2⟩
theorem a2L (hu:X.A.units+1<cLine)(ho:PE X o td)(hi:PE X i ty)(hv:PE X value tv)(hs:swapsWith value (some (.Subscript o i pos')) pos.line X.env=pure false) :
  PS X (.Assign [.Subscript o i pos'] value pos) (b5n td ty tv):=by
 intro pins s σ H D I h;refine wpAny_Assign_Subscript (thn (hv pins s σ H _ I h) fun r s1 ⟨v,H1,I1,rv,q1⟩=>thn (ho pins s1 σ H1 _ I1 q1) fun u s2 ⟨x,H2,I2,rx,q2⟩=>thn (hi pins s2 σ H2 _ I2 q2) fun iv s3 ⟨y,H3,I3,ry,a,H4,ex,g,q3⟩=>?_) hs;subst ex;obtain rfl:u=Value.ref a:=rx;exact a9Q hu I3 g ry rv fun s4 I4=>⟨σ,H4,I4,q3⟩
end
theorem a7V {P:Program}{w:World}{H:Hp}(h:Heap)(hb:sysModules<h.objs.size):a1h P w H (h.push { cls:=.type "dict",data:=.dict #[] }) h.objs.size (.dK []):=
 ⟨zL0 _,beq_eq_false_iff_ne.mpr (Ne.symm (nL0 hb)),[],.nil,Heap.DictOf.new h⟩
def b4i:TE:=fun _ H Q=>∀p,H p=none->Q (.ref p) (upd H p (.dK []))
section
variable {X:Cx}{pos:Pos}
theorem a7H:PE X (.Dict [] [] pos) b4i:=fun pins s σ H Q I h=>
 wpAny_Dict_empty ⟨.ref s.heap.objs.size,_,I.laid (a:=s.heap.objs.size) (o:=.dK []) (t':=s.toks) (fun _ _ q=>hP0 _ q) (nR0 _) (a7V s.heap I.big),rfl,h _ (I.hok.fresh (nR0 _))⟩
end
def a9K:List (TE×TE)->St->Hp->(List (V×V)->Hp->Prop)->Prop
 |[],_,H,Q=>Q [] H
 | (tk,tv)::r,σ,H,Q=>tk σ H fun x H1=>tv σ H1 fun y H2=>a9K r σ H2 fun ps H3=>Q ((x,y)::ps) H3
abbrev VV:List (V×V)->List (Value×Value)->Prop:=Paired fun p q=>a1e p.1 q.1/\a1e p.2 q.2
def PPs (X:Cx)(pos:Pos)(keys:List (Option Expr))(values:List Expr)(trs:List (TE×TE)):Prop:=
 ∀(pins:List (Addr×Obj)) (s:Shared) (σ:St) (H:Hp) (Q:List (V×V)->Hp->Prop),Inv X pins σ H s->a9K trs σ H Q →
  wpAny (model X.prog X.w) X.A (evalPairs (pairTrees keys values X.env pos)) (fun vs s'=>∃ps H',Inv X pins σ H' s'/\VV ps vs/\Q ps H') X.xe s
theorem a1s {X:Cx}{pos:Pos}:PPs X pos [] [] []:=fun pins s σ H Q I h=>pairTrees_nil_walk ⟨[],H,I,.nil,h⟩
theorem a0R {X:Cx}{pos:Pos}{k v:Expr}{ks:List (Option Expr)}{vs:List Expr}{tk tv:TE}{trs:List (TE×TE)}(hk:PE X k tk)(hv:PE X v tv)(hr:PPs X pos ks vs trs) :
  PPs X pos (some k::ks) (v::vs) ((tk,tv)::trs):=fun pins s σ H Q I h=>
 pairTrees_cons_walk (thn (hk pins s σ H _ I h) fun u s1 ⟨x,H1,I1,rx,q1⟩=>thn (hv pins s1 σ H1 _ I1 q1) fun w2 s2 ⟨y,H2,I2,ry,q2⟩=>
  thn (hr pins s2 σ H2 _ I2 q2) fun ws s3 ⟨ps,H3,I3,rel,q3⟩=>⟨(x,y)::ps,H3,I3,.cons ⟨rx,ry⟩ rel,q3⟩)
def a0A (kvs more:List (Key×V)):List (Key×V):=more.foldl (fun acc kv=>a3s acc kv.1 kv.2) kvs
theorem KV.merge:∀{more:List (Key×V)} {rs:List (Key×Value)} {kvs:List (Key×V)} {vs:List (Key×Value)},KV more rs->KV kvs vs->KV (a0A kvs more) (merged vs rs):=by
 intro more rs kvs vs r;unfold KV at r
 induction r generalizing kvs vs with
 |nil=>intro q;exact q
 |@cons p q ps qs h t ih=>
  intro r0;have e:KV (a3s kvs p.1 p.2) (stored vs q.1 q.2):=by
   have:=r0.put p.1 h.2
   rw[<-h.1];exact this
  exact ih e
theorem a2y:∀(more kvs:List (Key×V)),(a0A kvs more).length<=kvs.length+more.length
 |[],kvs=>by show kvs.length<=kvs.length+0;omega
 |p::r,kvs=>by
  have h1:=a2y r (a3s kvs p.1 p.2);have h2:=a2Z kvs p.1 p.2
  show(a0A (a3s kvs p.1 p.2) r).length<=_
  rw[List.length_cons];omega
theorem a4O {P:Program}{w:World}:∀{kvs:List (Key×V)} {ws:List (Value×Value)},VV (kvs.map fun kv=>(kV kv.1,kv.2)) ws->∃rs,Carries (a0n P w) ws rs/\KV kvs rs
 |[],_,r=>by rw[List.map_nil] at r;cases r;exact⟨[],True.intro,.nil⟩
 |p::kvs,_,r=>by
  rw[mN0] at r;cases r with
  |@cons a b as bs h t=>
   obtain⟨rs,c,q⟩:=a4O (P:=P) (w:=w) t;obtain⟨b1,b2⟩:=b;exact⟨(p.1,b2)::rs,⟨a4A h.1,rfl,c⟩,.cons ⟨rfl,h.2⟩ q⟩
def b5t (trs:List (TE×TE)):TE:=fun σ H Q=>∀p,H p=none->a9K trs σ (upd H p (.dK [])) fun ps H2=>H2 p=some (.dK [])/\∃kvs:List (Key×V),ps=kvs.map (fun kv=>(kV kv.1,kv.2))/\kvs.length<=15/\Q (.ref p) (upd H2 p (.dK (a0A [] kvs)))
theorem a1t {X:Cx}{pos:Pos}{keys:List (Option Expr)}{values:List Expr}{trs:List (TE×TE)}(h:PPs X pos keys values trs)(hall:keys.all (·.isSome)=true)(hl:keys.length=values.length)(h0:keys≠[])
  (h15:keys.length<=15):PE X (.Dict keys values pos) (b5t trs):=by
 intro pins s σ H Q I q;have hn:=I.hok.fresh (nR0 s.heap.objs.size);have I1:=I.laid (a:=s.heap.objs.size) (o:=.dK []) (h':=s.heap.push { cls:=.type "dict",data:=.dict #[] }) (t':=s.toks) (fun _ _ q=>hP0 _ q) (nR0 _) (a7V s.heap I.big);refine wpAny_Dict_walk (knd:=a0n X.prog X.w) hall hl h0 h15 (thn (h pins _ σ _ _ I1 (q _ hn)) fun ws s2 ⟨ps,H2,I2,rel,e,kvs,ep,lk,q2⟩=>?_);subst ep;obtain⟨rs,c,rk⟩:=a4O (P:=X.prog) (w:=X.w) rel;obtain⟨z,hd,vs0,r0,dd⟩:=a5V I2.hok e;cases r0;refine⟨rs,c,dd,fun h' dd' hs=>⟨.ref s.heap.objs.size,_,?_,rfl,q2⟩⟩;have hz:(a0A [] kvs).length<=sizeLine:=by
  have h1:=a2y kvs [];rw[List.length_nil] at h1;rw[sizeLine_eq];omega
 have he:∃q,h'.get? s.heap.objs.size=some q:=let ⟨q,_,_,hq,_⟩:=dd';⟨q,hq⟩
 exact a3z I2 (by rw[e];exact True.intro) hs he (a3N hz hd (rk.merge .nil) dd')
structure M1 (X:Cx) (o:Expr) (m:Str) (apos:Pos) (e:Expr) (cpos:Pos):Prop where
 base:attributeBase o m X.env (eval o X.env)=eval o X.env
 few:((backTo cpos (starEach [e] X.env)).all (fun x=>!x.1)&&(backToKw cpos (keywordEach [] X.env)).all (fun x=>x.1.isSome)
  && decide (([e]:List Expr).length+([]:List Keyword).length+(if ([]:List Keyword).isEmpty then 0 else 1)<30))=true
 line:(apos.endLine==cpos.line)=true
 trees:backTo cpos (starEach [e] X.env)=[(false,eval e X.env)]
def IsD (H:Hp)(a:Addr):Prop:=(∃kvs,Rd H a (.dK kvs))\/∃kvs,Rd H a (.dT kvs)
theorem b4E {X:Cx}{pins:List (Addr×Obj)}{σ:St}{H:Hp}{s:Shared}{a:Addr}(I:Inv X pins σ H s)(d:IsD H a) :
  s.TypeIs (.ref a) "dict"/\(∀b,Value.ref a=.ref b->∃ob,s.heap.get? b=some ob/\ob.dict=none)/\(a==sysModules)=false:=by
 rcases d with ⟨kvs,e⟩ |⟨kvs,e⟩
 ·obtain⟨_,hd,vs,_,dd⟩:=a4g I.hok e
  refine⟨dd.typeIs,fun b q=>?_,hd⟩;cases q;obtain⟨ob,_,_,h1,h2,_⟩:=dd;exact⟨ob,h1,h2.2.1⟩
 ·obtain⟨_,hd,xs,_,dd⟩:=a8k I.hok e
  refine⟨dd.typeIs,fun b q=>?_,hd⟩;cases q;obtain⟨ob,_,_,h1,h2,_⟩:=dd;exact⟨ob,h1,h2.2.1⟩
def b4Q (td ty:TE):TE:=fun σ H Q=>td σ H fun x H1=>∃a,x=.ref a/\IsD H1 a/\ty σ H1 fun y H2=>∃kvs k v,H2 a=some (.dK kvs)/\y=kV k/\a2g kvs k=some v/\Q v (upd H2 a (.dK (a3P kvs k)))
section
variable {X:Cx}{o e f:Expr}{apos cpos:Pos}{td ty tx:TE}
theorem a3l (ho:PE X o td)(he:PE X e ty)(m:M1 X o "pop" apos e cpos):PE X (.Call (.Attribute o "pop" apos) [e] [] cpos) (b4Q td ty):=by
 intro pins s σ H Q I h;refine wpAny_Call_method m.base m.few m.line PySem.F.plainAttrs_dict PySem.F.slot_dict_pop PySem.F.type_dict_pop (thn (ho pins s σ H _ I h) fun u s1 ⟨x,H1,I1,rx,a,ex,d,q1⟩=>?_);subst ex;obtain rfl:u=Value.ref a:=rx;obtain⟨t1,t2,_⟩:=b4E I1 d;refine⟨t1,t2,?_⟩;rw[m.trees];refine Calls.callWith_builtin rfl (Calls.evalArgs_plain (Calls.spliced_cons (thn (he pins s1 σ H1 _ I1 q1) fun iv s2 ⟨y,H2,I2,ry,kvs,k,v,ea,ey,l,q2⟩=>Calls.spliced_nil ?_)));subst ey;exact b6o I2 ea ry l (.inl rfl) fun w' s3 I3 rw'=>⟨v,_,I3,rw',q2⟩
end
section
variable {X:Cx}{pins:List (Addr×Obj)}{σ:St}{H:Hp}{s:Shared}{a:Addr}{kvs:List (Key×V)}{A:Around}{E:Vs0}
theorem b1u {Q:Vs0}(I:Inv X pins σ H s)(e:Rd H a (.dK kvs))(h:∀p s',H p=none->Inv X pins σ (upd H p (.dK kvs)) s'->Q (.ref p) s'):wpAny (model X.prog X.w) A (call (.type "dict") [.ref a]) Q E s:=by
 obtain⟨z,hd,vs,rel,dd⟩:=a4g I.hok e;refine kt_call_dict hd dd (by rw[<-rel.length];exact z) fun h' dd' hs=>?_;refine h _ _ (I.hok.fresh (nR0 _)) (I.laid (a:=s.heap.objs.size) (o:=.dK kvs) (t':=s.toks) (fun b q hq=>?_) (nR0 _) (a3N z (beq_eq_false_iff_ne.mpr (Ne.symm (nL0 I.big))) rel dd'));exact(hs.2 b (nL0 (hL0 hq))).trans (hP0 _ hq)
end
end L2
namespace Att
open PySem PySem.W PySem.Calls PyProof.Rows
theorem a4b {P:Params}{h:Heap}:∀(ns:List Int) (vs:List Value),WellAll P h vs (ns.map WData.int)->IntsAre vs ns:=by
 intro ns
 induction ns with
 |nil=>
  intro vs w;rw[List.map_nil] at w;cases w;exact .nil
 |cons n ns ih=>
  intro vs w;rw[mN0] at w;cases w with
  |cons a b=>
   cases a;exact .cons _ _ (ih _ b)
theorem a9M {l:OpenLaw}{n:Nat}(hn:l.most=some n){P:Params}{h:Heap}{args:List WData}{vals:List Value}
  (hpre:l.row.toRowW.claim.pre args=true) (hwl:WellAll P h vals args) :
  ∃a vs ns,vals=[Value.ref a]/\args=[WData.list (ns.map WData.int)]/\h.get? a=some { cls:=.type "list",data:=.seq vs.toArray }/\IntsAre vs ns/\ns.length<=n:=by
 have hsh:WShape.hasAll [] args [.list .int]=true:=(pre_splitW hpre).1;have hc:l.pre.holds [] { args:=args }=true:=(pre_splitW hpre).2;obtain⟨d,r,rfl,h1,h2⟩:=hasAllW_cons hsh;obtain rfl:=hasAllW_nil h2;obtain⟨xs,rfl,h3⟩:=hasW_list h1;obtain⟨ns,rfl⟩:=items_int h3;have hlen:ns.length<=n:=by
  unfold OpenLaw.pre at hc;have h4:(WTm.not (.lt (.lit (.int (n:Int))) (.len (.arg 0)))).holds [] { args:=[.list (ns.map .int)] }=true:=by
   have h4:=(holds_andW hc).1;rw[hn] at h4;exact h4
  have h5:=condW_of h4 (w_not (w_lt w_lit (w_len_list (w_arg rfl))));rw[lM0] at h5;refine Nat.le_of_not_lt fun q=>?_;have q':(n:Int)<((ns.length:Nat):Int):=by omega
  first
   | (rw[dT0 q'] at h5;exact absurd h5 (by decide))
   | (simp at h5;omega)
 cases hwl with
 |cons w1 w2=>
  cases w2;cases w1 with
  |list ho hall=>exact⟨_,_,ns,rfl,rfl,ho,a4b ns _ hall,hlen⟩
theorem a8O (l:OpenLaw)(args:List WData):l.row.toRowW.claim.post args (.bool true) args=true:=
 postW_of (r:=l.row.toRowW) (X:=(true==true))
  (show WShape.has [] (.bool true) .bool=true by first |rfl |decide |simp[WShape.has,WShape.arms,WShape.armsAll])
  (show(WTm.eq .res (.lit (.bool true))).value [] { args:=args,res:=some (.bool true),after:=args }=some (.bool (true==true)) from w_eq_bool (w_res rfl) w_lit) rfl
theorem a4a {l:OpenLaw}{n:Nat}{q:Program}{loose:List Str}{XP:(Str->Option Value)->Heap->Prop}{YP:World->Heap->Prop}{d:DefRec}
  (hn:l.most=some n) (hdf:d.params.defaults=[])
  (call:∀(w:World) (s₀ s₁:Shared) (mg mb:Str->Option Value) (fa:Addr) (o:Obj) (pm cd doc:Value) (a:Addr) (vs:List Value) (ns:List Int),
   Ground q loose [] XP w s₀ mg mb s₁.heap->YP w s₁.heap →
   s₁.heap.get? fa=some o->o.data=.func (docDef d.name d.params d.body d.scope pm cd doc)->s₁.heap.CodeRec cd d.name->mg d.name=some (.ref fa) →
   s₁.heap.get? a=some { cls:=.type "list",data:=.seq vs.toArray }->IntsAre vs ns->ns.length<=n->s₁.gens=#[] →
   codeAny (model l.prog w) callerA (.call (.ref fa) ⟨[.ref a],[]⟩) (fun r s'=>r=.ok (.ret (.bool true))/\OldK s₁.heap s'.heap/\s'.os=s₁.os/\AllBare s'.gens) s₁) :
  WalkO q loose XP YP l.row.toRowW d [] (fun f vs=>PySem.call f vs):=by
 intro w s₀ s₁ mg mb G Y fa o pm cd doc dV kV ho hd hcd hD hmg hg args vals as hpre hlay hrd hwl hlo;obtain rfl:dV=.none:=Dflts.none hD hdf;obtain rfl:kV=.none:=Dflts.noKw hD;obtain⟨a,vs,ns,rfl,rfl,hobj,hints,hlen⟩:=a9M hn hpre hwl;refine enter_call (codeAny_mono (call w s₀ s₁ mg mb fa o pm cd doc a vs ns G Y ho (fd_plain hd) hcd hmg hobj hints hlen hg) fun r s' hq=>?_);obtain⟨rfl,h2,h3,h4⟩:=hq;exact⟨.inl ⟨.bool true,.bool true,[],rfl,fun _=>rfl,.bool true,a8O l _,fun _=>⟨List.Pairwise.nil,fun _ hm=>(nomatch hm)⟩⟩,h2,h3,h4⟩
end Att
namespace L2
open PySem PySem.Spec PyProof.Rows
theorem a4i:∀{vs:List Value} {ns:List Int},IntsAre vs ns->a1l (ns.map V.int) vs
 |_,_,.nil=>.nil
 |_,_,.cons n t h=>.cons ⟨t,rfl⟩ (a4i h)
def b5N (H:Hp):Prop:=∀b,H b=none\/∃o xs,H b=some (.frz o (.lst xs))
theorem b1m {P:Program}{w:World}{K:Fg0}{mg mb:Str->Option Value}{CX:CXT}{k:Nat}{fa a:Addr}{fd:FuncData}{x:Str}{sp:Sp}{s₁:Shared}{vs:List Value}{ns:List Int}
  (KX:K.In s₁.heap) (hns:s₁.heap.Ns mainGlobals mg) (hb:s₁.heap.Ns builtinsNs mb) (hbb:∀x:Str,x≠"__name__"->mb x=bootBuiltins x) (hlim:s₁.heap.NoLimit) (hg:s₁.gens=#[])
  (ha:s₁.heap.get? a=some { cls:=.type "list",data:=.seq vs.toArray }) (hi:IntsAre vs ns) (hl:ns.length<=sizeLine) (hr:a1g k callerA)
  (F:∀base:Heap,K.In base->base.Ns mainGlobals mg->a0x P w K mg base CX k fa fd [x] sp) (hbind:∀(s:Shared) (u:Value),BindsTo s fd ⟨[u],[]⟩ [(x,u)])
  (hsp:∀H:Hp,b5N H->SqL K H a (ns.map V.int)->sp [.ref a] H (fun v _=>v=.bl true) fun _ _ _=>False)
  (hCX:∀H e s',CX [] H s₁ (fun _ _ _=>False) e s'->False) :
  codeAny (model P w) callerA (.call (.ref fa) ⟨[.ref a],[]⟩) (fun r s'=>r=.ok (.ret (.bool true))/\OldK s₁.heap s'.heap/\s'.os=s₁.os/\AllBare s'.gens) s₁:=by
 have rv:=a4i hi;have lenV:=hi.length;have core:∀H:Hp,b5N H->SqL K H a (ns.map V.int)->HOk P w H s₁.heap->(∀b,H b≠none->b=a)->(H a≠none->K.lookup a=none) →
   codeAny (model P w) callerA (.call (.ref fa) ⟨[.ref a],[]⟩) (fun r s'=>r=.ok (.ret (.bool true))/\OldK s₁.heap s'.heap/\s'.os=s₁.os/\AllBare s'.gens) s₁:=by
  intro H hO hS hok hA hK;have base_of:∀{b:Addr} {o:Obj},s₁.heap.get? b=some o->H b=none->(a6E s₁.heap H).get? b=some o:=fun e n=>a7P e n;have noA:∀{b:Addr} {o:Obj} {es:Array DictEntry} {ep:Nat},s₁.heap.get? b=some o->o.data=.dict es ep->H b=none:=fun {b o es ep} e d=>by
   cases q:H b with
   |none=>rfl
   |some u=>
    have e':b=a:=hA b (by rw[q];simp);subst e';rw[ha] at e;cases e;have d':Data.seq vs.toArray _=Data.dict es ep:=d;cases d'
  have nsK:∀{b:Addr} {m:Str->Option Value},s₁.heap.Ns b m->(a6E s₁.heap H).Ns b m:=fun {b m} ⟨o,es,ep,e,d,r⟩=>⟨o,es,ep,base_of e (noA e d),d,r⟩;have hKb:K.In (a6E s₁.heap H):=fun b o e=>base_of (KX b o e) (by
   cases q:H b with
   |none=>rfl
   |some u=>
    have e':b=a:=hA b (by rw[q];simp);subst e';rw[hK (by rw[q];simp)] at e;cases e)
  have hM:Mod K mg (a6E s₁.heap H):=⟨hKb,nsK hns,⟨mb,nsK hb,hbb⟩,let ⟨mc,h1,h2⟩:=hlim;⟨mc,nsK h1,h2⟩⟩;have e0:a8w P w K mg (a6E s₁.heap H) callerA [] s₁ H:=⟨rfl,hM,fun b o e=>a9c e,Nat.le_of_eq (a5Y _ _),trivial,fun b hb=>absurd (show b∈([]:List Addr) from hb) (by simp),hok,.of_eq hg⟩;refine codeAny_mono ((F _ hKb (nsK hns)).run callerA [] s₁ H ⟨[.ref a],[]⟩ [.ref a] [.ref a] _ _ hr e0 (hbind s₁ (.ref a)) (.cons rfl .nil) (hsp H hO hS)) fun r s' h=>?_;cases r with
  |error e=>exact(hCX H e s' h).elim
  |ok fl=>
   cases fl with
   |next=>exact False.elim h
   |brk=>exact False.elim h
   |cont=>exact False.elim h
   |ret u=>
    obtain⟨v,H',os,bare,un,hok',r',q⟩:=h;have q':v=.bl true:=q;subst q';obtain rfl:u=Value.bool true:=r';refine⟨rfl,OldK.of_keep fun b o e=>?_,os,bare⟩;cases q:H b with
    |none=>exact un.keep b o e q (by intro z;exact absurd (show b∈([]:List Addr) from z) (by simp)) (by simp)
    |some u=>
     rcases hO b with z |⟨ob,xs,z⟩
     ·rw[q] at z;cases z
     ·have z2:=un.frzs b ob _ z
      obtain⟨e1,_⟩:=hok b _ z;obtain⟨e2,_⟩:=hok' b _ z2;rw[e] at e1;cases e1;exact e2
 cases hk:K.lookup a with
 |some o=>
  have e:=KX a o hk;rw[ha] at e;cases e;refine core (fun _=>none) (fun _=>.inl rfl) (.inr ⟨_,vs.toArray,_,hk,rfl,rfl,rfl,by rw[List.size_toArray,lenV];exact hl,by simpa using rv⟩) (fun b u z=>by have z':(none:Option HO)=some u:=z;cases z') (fun b z=>absurd rfl z) fun z=>absurd rfl z
 |none=>
  refine core (fun b=>if b=a then some (.frz { cls:=.type "list",data:=.seq vs.toArray } (.lst (ns.map V.int))) else none) (fun b=>?_) (.inl (.inr ⟨{ cls:=.type "list",data:=.seq vs.toArray },if_pos rfl⟩)) (fun b u z=>?_) (fun b z=>?_) fun _=>hk
  ·by_cases hb:b=a
   ·exact .inr ⟨_,_,if_pos hb⟩
   ·exact .inl (if_neg hb)
  ·by_cases hb:b=a
   ·have z':=(if_pos hb).symm.trans z
    cases z';subst hb;exact⟨ha,by rw[lM0];exact hl,vs,_,rv,ha⟩
   ·have z':=(if_neg hb).symm.trans z
    cases z'
  ·by_cases hb:b=a
   ·exact hb
   ·exact absurd (if_neg hb) z
theorem b2x {l:PySem.W.OpenLaw}{n k:Nat}{q:Program}{loose:List Str}{XP:(Str->Option Value)->Heap->Prop}{YP:World->Heap->Prop}{d:DefRec}{K:Params->Fg0}{CX:World->CXT}{sp:World->Sp}{x:Str}
  (hn:l.most=some n) (hn2:n<=sizeLine) (hdf:d.params.defaults=[]) (hr:a1g k callerA)
  (hY:∀(w:World) (h:Heap),YP w h->(K w.params).In h)
  (F:∀(w:World) (mg:Str->Option Value) (fa:Addr) (h:Heap),(K w.params).In h->h.Ns mainGlobals mg->mg d.name=some (.ref fa) →
   ∃fd:FuncData,(∀(s:Shared) (u:Value),BindsTo s fd ⟨[u],[]⟩ [(x,u)]) ∧
    ∀base:Heap,(K w.params).In base->base.Ns mainGlobals mg->a0x l.prog w (K w.params) mg base (CX w) k fa fd [x] (sp w))
  (hsp:∀(w:World) (H:Hp) (a:Addr) (ns:List Int),ns.length<=n->b5N H->SqL (K w.params) H a (ns.map V.int)->sp w [.ref a] H (fun v _=>v=.bl true) fun _ _ _=>False)
  (hCX:∀(w:World) (H:Hp) (s:Shared) (e:Value) (s':Shared),CX w [] H s (fun _ _ _=>False) e s'->False) :
  PySem.W.WalkO q loose XP YP l.row.toRowW d [] (fun f vs=>PySem.call f vs):=by
 refine Att.a4a hn hdf fun w s₀ s₁ mg mb fa o pm cd doc a vs ns G Y ho hd hcd hmg hobj hints hlen hg=>?_;have KX:=hY w _ Y;obtain⟨fd,hb,hF⟩:=F w mg fa _ KX G.T.g hmg;exact b1m KX G.T.g G.T.b G.T.builtins G.T.nolimit hg hobj hints (Nat.le_trans hlen hn2) hr hF hb (fun H hO hS=>hsp w H a ns hlen hO hS) fun H e s'=>hCX w H s₁ e s'
def a0w (s:Stmt)(j:Nat):Stmt:=match s with
 | .ClassDef _ _ _ body _ _ _ _ _ _ _=>body.getD j (.Pass ⟨0,0,0,0⟩)
 |_=>.Pass ⟨0,0,0,0⟩
def a1d (s:Stmt):Arguments:=match s with
 | .FunctionDef _ a _ _ _ _ _ _ _ _=>a
 |_=>{ posonlyargs:=[],args:=[],vararg:=none,kwonlyargs:=[],kw_defaults:=[],kwarg:=none,defaults:=[] }
def a0U (s:Stmt):List Stmt:=match s with
 | .FunctionDef _ _ b _ _ _ _ _ _ _=>b
 |_=>[]
def a0f (s:Stmt):Scope:=match s with
 | .FunctionDef _ _ _ _ _ _ sc _ _ _=>sc
 |_=>{ kind:=.function,names:=[],isGenerator:=false,isCoroutine:=false }
abbrev CX0:CXT:=fun _ _ _ _ _ _=>False
abbrev E0:XK:=fun _ _ _=>False
theorem a0q {X:Cx}:a3Z CX0 X E0:=fun _ _ _ _ _ _ _ h=>h.elim
structure Fun (K:Fg0) (x qual:Str) (st:Stmt) (f:Addr) (fd:FuncData):Prop where
 ex:∃(oc:Value) (od:Option Addr) (kV doc pm:Value) (an:Option Addr) (cdv ct:Value) (osl:Array (Option Value)),
  fd=PySem.W.fnOf x qual (a1d st) (a0U st) (a0f st) .none kV doc pm an cdv ct/\K.lookup f=some ⟨oc,od,.func fd,osl⟩/\PySem.W.codeIn K cdv qual=true
 kp:PySem.W.keepIn K (.ref f)=true
section
variable {P:Program}{w:World}{K:Fg0}{mg:Str->Option Value}{base:Heap}
theorem Fun.ok {x qual:Str}{st:Stmt}{f:Addr}{fd:FuncData}{N ps:List Str}{k:Nat}{sp:Sp}(F:Fun K x qual st f fd)(S:a0o N ps (a0f st))(len:∀vs H Q E,sp vs H Q E->vs.length=ps.length)
  (hbody:∀(cdv:Value) (A:Around) (outer:List Env) (s:Shared) (H:Hp) (vs:List V) (Q:VK) (E:XK),a1g k (A.deeper (envOfC qual (a0f st) s.heap.objs.size f cdv))->sp vs H Q E →
   ∃t,PSs (a7U CX0 P w K mg base N qual (a0f st) f cdv A outer s H E).nox (a0U st) t/\t { nx:=fun _ H'=>Q .non H',rt:=Q } (a3w N vs) H):a0x P w K mg base CX0 (k+1) f fd ps sp:=by
 obtain⟨oc,od,kV,doc,pm,an,cdv,ct,osl,rfl,lk,hcd⟩:=F.ex;refine b1t lk hcd S len fun A outer s H vs Q E hr hsp=>?_;obtain⟨t,h,q⟩:=hbody cdv A outer s H vs Q E hr hsp;exact⟨t,h.nox,q⟩
theorem Fun.binds {x qual:Str}{st:Stmt}{f:Addr}{fd:FuncData}{ps:List Str}(F:Fun K x qual st f fd)
  (h:∀(kV doc pm:Value) (an:Option Addr) (cdv ct:Value) (us:List Value),us.length=ps.length->bindArgs (PySem.W.fnOf x qual (a1d st) (a0U st) (a0f st) .none kV doc pm an cdv ct) ⟨us,[]⟩=pure (ps.zip us)):a1C K fd ps []:=by
 obtain⟨oc,od,kV,doc,pm,an,cdv,ct,osl,rfl,lk,hcd⟩:=F.ex;exact .all (h kV doc pm an cdv ct)
theorem a9N {x qual:Str}{st:Stmt}{f:Addr}{oc:Value}{od an:Option Addr}{osl:Array (Option Value)}{kV doc pm cdv ct:Value}(l:K.lookup f=some ⟨oc,od,.func (PySem.W.fnOf x qual (a1d st) (a0U st) (a0f st) .none kV doc pm an cdv ct),osl⟩)
  (c:PySem.W.codeIn K cdv qual=true) (k:PySem.W.keepIn K (.ref f)=true):Fun K x qual st f (PySem.W.fnOf x qual (a1d st) (a0U st) (a0f st) .none kV doc pm an cdv ct):=⟨⟨oc,od,kV,doc,pm,an,cdv,ct,osl,rfl,l,c⟩,k⟩
end
theorem a2s {A:Around}{k:Nat}(hr:a1g k A):A.units+1<cLine:=Nat.lt_of_le_of_lt (Nat.add_le_add_left (by decide:1<=64) _) hr.units
section
variable {X:Cx}
theorem pv (i:Nat){x:Str}{pos:Pos}(hN:X.N[i]? =some x:=by rfl)(hv:Vis X.env.scope x:=by first |exact Or.inl rfl |exact Or.inr (Or.inl rfl) |exact Or.inr (Or.inr rfl))(hd:(x==("__debug__":Str))=false:=by decide)
  (hcd:(x==("__classdict__":Str))=false:=by decide):PE X (.Name x pos) (b5h i):=b3K hN hv hd hcd
theorem a1Z {A B:Prop}(h:B):if false=true then A else B:=by
 rw[if_neg bF0];exact h
theorem a3C {A B:Prop}(h:A):if true=true then A else B:=by
 rw[if_pos rfl];exact h
theorem a8I {c A B:Prop}[Decidable c](h1:c->A)(h2:¬c->B):if c then A else B:=by
 by_cases h:c
 ·rw[if_pos h]
  exact h1 h
 ·rw[if_neg h]
  exact h2 h
theorem a7h {c A B:Prop}[Decidable c](hc:c)(h:B):if (!decide c)=true then A else B:=by
 rw[dT0 hc];exact a1Z h
def a0r (H H':Hp):Prop:=∀b o,H b=some o->H' b=some o
theorem a0r.refl (H:Hp):a0r H H:=fun _ _ h=>h
theorem a0r.trans {H H1 H2:Hp}(a:a0r H H1)(b:a0r H1 H2):a0r H H2:=fun c o h=>b c o (a c o h)
theorem a0r.seq {K:Fg0}{H H':Hp}{a:Addr}{xs:List V}(e:a0r H H')(h:SqL K H a xs):SqL K H' a xs:=by
 rcases h with (h |⟨o,h⟩) |h
 ·exact .inl (.inl (e _ _ h))
 ·exact .inl (.inr ⟨o,e _ _ h⟩)
 ·exact .inr h
theorem Fun.b1 {K:Fg0}{x q:Str}{st:Stmt}{f:Addr}{fd:FuncData}(F:Fun K x q st f fd)(p0:Str)(h:∀(kV doc pm:Value) (an:Option Addr) (cdv ct u0:Value),bindArgs (PySem.W.fnOf x q (a1d st) (a0U st) (a0f st) .none kV doc pm an cdv ct) ⟨[u0],[]⟩=pure [(p0,u0)]):a1C K fd [p0] []:=F.binds fun kV doc pm an cdv ct us hl=>by
 match us,hl with
 |[u0],_=>exact h kV doc pm an cdv ct u0
theorem Fun.b2 {K:Fg0}{x q:Str}{st:Stmt}{f:Addr}{fd:FuncData}(F:Fun K x q st f fd)(p0 p1:Str)(h:∀(kV doc pm:Value) (an:Option Addr) (cdv ct u0 u1:Value),bindArgs (PySem.W.fnOf x q (a1d st) (a0U st) (a0f st) .none kV doc pm an cdv ct) ⟨[u0,u1],[]⟩=pure [(p0,u0),(p1,u1)]):a1C K fd [p0,p1] []:=F.binds fun kV doc pm an cdv ct us hl=>by
 match us,hl with
 |[u0,u1],_=>exact h kV doc pm an cdv ct u0 u1
theorem Fun.b3 {K:Fg0}{x q:Str}{st:Stmt}{f:Addr}{fd:FuncData}(F:Fun K x q st f fd)(p0 p1 p2:Str)(h:∀(kV doc pm:Value) (an:Option Addr) (cdv ct u0 u1 u2:Value),bindArgs (PySem.W.fnOf x q (a1d st) (a0U st) (a0f st) .none kV doc pm an cdv ct) ⟨[u0,u1,u2],[]⟩=pure [(p0,u0),(p1,u1),(p2,u2)]):a1C K fd [p0,p1,p2] []:=F.binds fun kV doc pm an cdv ct us hl=>by
 match us,hl with
 |[u0,u1,u2],_=>exact h kV doc pm an cdv ct u0 u1 u2
theorem Fun.b4 {K:Fg0}{x q:Str}{st:Stmt}{f:Addr}{fd:FuncData}(F:Fun K x q st f fd)(p0 p1 p2 p3:Str)(h:∀(kV doc pm:Value) (an:Option Addr) (cdv ct u0 u1 u2 u3:Value),bindArgs (PySem.W.fnOf x q (a1d st) (a0U st) (a0f st) .none kV doc pm an cdv ct) ⟨[u0,u1,u2,u3],[]⟩=pure [(p0,u0),(p1,u1),(p2,u2),(p3,u3)]):a1C K fd [p0,p1,p2,p3] []:=F.binds fun kV doc pm an cdv ct us hl=>by
 match us,hl with
 |[u0,u1,u2,u3],_=>exact h kV doc pm an cdv ct u0 u1 u2 u3
theorem a0o.k {N P:List Str}{sc:Scope}(h:sc.kind=.function/\sc.isCoroutine=false/\sc.isGenerator=false/\N.Nodup/\N.take P.length=P/\(∀x∈P,sc.names.lookup x=some .local\/sc.names.lookup x=some .cell)/\∀y∈sc.names,y.2≠.free):a0o N P sc:=let ⟨a,b,c,d,e,f,g⟩:=h;⟨a,b,c,d,e,f,g⟩
def a3X (env:Env)(cs:List (Str×Addr))(y:Str×NameKind):List (Str×Addr):=
 if (y.2==NameKind.free)=true then(y.1,(env.cells.lookup y.1).getD 0)::cs else cs
def a6L (env:Env)(names:List (Str×NameKind)):List (Str×Addr):=names.foldl (a3X env) []
theorem a4h {env:Env}:∀(names:List (Str×NameKind)) (cs:List (Str×Addr)),(∀y∈names,y.2=.free->∃c,env.cells.lookup y.1=some c) →
  (forIn names cs fun y r=>(if (y.2==NameKind.free)=true then do let a <-cellOf env y.1;pure (ForInStep.yield ((y.1,a)::r)) else pure (ForInStep.yield r):Sem (ForInStep (List (Str×Addr)))))=pure (names.foldl (a3X env) cs)
 |[],cs,_=>rfl
 |y::r,cs,h=>by
  rw[List.forIn_cons,List.foldl_cons]
  by_cases hy:(y.2==NameKind.free)=true
  ·obtain⟨c,hc⟩:=h y List.mem_cons_self (eq_of_beq hy)
   have e:cellOf env y.1=pure c:=by unfold cellOf;rw[hc]
   rw[if_pos hy,e,pure_bind,pure_bind];have e2:a3X env cs y=(y.1,c)::cs:=by unfold a3X;rw[if_pos hy,hc];rfl
   rw[e2];exact a4h r _ fun z hz=>h z (mL0 _ hz)
  ·rw[if_neg hy,pure_bind]
   have e2:a3X env cs y=cs:=by unfold a3X;rw[if_neg hy]
   rw[e2];exact a4h r _ fun z hz=>h z (mL0 _ hz)
theorem a9U {env:Env}{scope:Scope}(h:∀y∈scope.names,y.2=.free->∃c,env.cells.lookup y.1=some c):closureFor scope env=pure (a6L env scope.names):=by
 have e:=a4h (env:=env) scope.names [] h;unfold a6L;rw[<-e];simp only[closureFor,bind_pure_comp,map_pure,bind_pure]
theorem a7A {env:Env}:∀(names:List (Str×NameKind)) (cs:List (Str×Addr)),(∀y∈names,y.2=.free->∃c,env.cells.lookup y.1=some c)->(∀x c,cs.lookup x=some c->env.cells.lookup x=some c) →
  ∀x c,(names.foldl (a3X env) cs).lookup x=some c->env.cells.lookup x=some c
 |[],cs,_,hc,x,c,e=>hc x c e
 |y::r,cs,h,hc,x,c,e=>by
  rw[List.foldl_cons] at e;refine a7A r _ (fun z hz=>h z (mL0 _ hz)) (fun z d q=>?_) x c e;unfold a3X at q
  by_cases hy:(y.2==NameKind.free)=true
  ·obtain⟨c',hc'⟩:=h y List.mem_cons_self (eq_of_beq hy)
   rw[if_pos hy,List.lookup_cons,hc'] at q;cases hz:z==y.1 with
   |true=>
    rw[hz] at q;have q':c'=d:=Option.some.inj q;rw[eq_of_beq hz,hc',q']
   |false=>
    rw[hz] at q;exact hc z d q
  ·rw[if_neg hy] at q
   exact hc z d q
theorem a5a {env:Env}:∀(names:List (Str×NameKind)) (cs:List (Str×Addr)) (x:Str),((x,NameKind.free)∈names\/∃c,cs.lookup x=some c)->∃c,(names.foldl (a3X env) cs).lookup x=some c
 |[],cs,x,h=>by
  rcases h with h |h
  ·cases h
  ·exact h
 |y::r,cs,x,h=>by
  rw[List.foldl_cons];refine a5a r _ x ?_;rcases h with h |⟨c,h⟩
  ·rcases mK0.mp h with e |e
   ·subst e
    refine .inr ⟨(env.cells.lookup x).getD 0,?_⟩;unfold a3X;rw[if_pos (show((x,NameKind.free).2==NameKind.free)=true from rfl),List.lookup_cons,beq_self_eq_true]
   ·exact .inl e
  ·refine .inr ?_
   unfold a3X
   by_cases hy:(y.2==NameKind.free)=true
   ·rw[if_pos hy,List.lookup_cons]
    cases hz:x==y.1 with
    |true=>exact⟨_,rfl⟩
    |false=>exact⟨c,h⟩
   ·rw[if_neg hy]
    exact⟨c,h⟩
abbrev a1I (X:Cx)(scope:Scope)(N:List Str)(s:Shared)(H:Hp)(fp:List Addr):Cx where
 prog:=X.prog
 w:=X.w
 K:=X.K
 mg:=X.mg
 base:=X.base
 A:=X.A
 N:=N
 s₀:=s
 H₀:=H
 env:=compEnvC scope (a6L X.env scope.names) s.heap.objs.size X.env
 outer:=X.stack
 stack:=X.stack
 ex:=fp
 fn:=fun _=>false
 calm:=X.calm
 pn:=[]
 xe:=fun _ _=>False
structure a5P (osc scope:Scope) (N0:List Str) (xs:List Str) (fr:List Nat):Prop where
 kind:scope.kind=.function
 nocell:∀y∈scope.names,y.2≠.cell
 names:∀y∈scope.names,y.2=.local->scope.names.lookup y.1=some .local
 free:∀y∈scope.names,y.2=.free->osc.names.lookup y.1=some .cell\/osc.names.lookup y.1=some .free
 fro:∀j∈fr,∃x,N0[j]? =some x/\scope.names.lookup x=some .free
 nd:(xs++fr.map fun j=>N0.getD j "").Nodup
def a2f (N0:List Str)(xs:List Str)(fr:List Nat):List Str:=xs++fr.map fun j=>N0.getD j ""
def a3G (xs:List Str)(fr:List Nat)(σ:St):St:=xs.map (fun _=>none)++fr.map fun j=>(σ[j]?).join
theorem a1o {κ:Type}:∀{l:List (Str×κ)} {x:Str} {k:κ},l.lookup x=some k->(x,k)∈l
 |[],_,_,h=>by cases h
 | (n,k')::r,x,k,h=>by
  rw[List.lookup_cons] at h;cases hx:x==n with
  |true=>
   rw[hx] at h;have h':k'=k:=Option.some.inj h;rw[eq_of_beq hx,h'];exact List.mem_cons_self
  |false=>
   rw[hx] at h;exact mL0 _ (a1o h)
theorem a2P {env:Env}:∀{names:List (Str×NameKind)} {x:Str} {k:NameKind},
  (names.map fun(n,k)=>if (k==NameKind.free&&env.scope.kind==.function&&env.kindOf n==some .cell) then(n,NameKind.cell) else(n,k)).lookup x=some k →
  names.lookup x=some k\/(k=.cell/\names.lookup x=some .free)
 |[],_,_,h=>by cases h
 | (n,k')::r,x,k,h=>by
  have ih:=@a2P env r x k;rw[mN0] at h;rw[List.lookup_cons]
  by_cases hc:(k'==NameKind.free&&env.scope.kind==.function&&env.kindOf n==some .cell)=true
  ·have h':List.lookup x ((n,NameKind.cell)::(r.map fun(n,k)=>if (k==NameKind.free&&env.scope.kind==.function&&env.kindOf n==some .cell) then(n,NameKind.cell) else(n,k)))=some k:=by
    rw[<-h];simp only[hc,if_true]
   rw[List.lookup_cons] at h';cases hx:x==n with
   |true=>
    rw[hx] at h';have h2:NameKind.cell=k:=Option.some.inj h';rw[Bool.and_eq_true,Bool.and_eq_true] at hc;exact .inr ⟨h2.symm,congrArg some (eq_of_beq hc.1.1)⟩
   |false=>
    rw[hx] at h';exact ih h'
  ·have h':List.lookup x ((n,k')::(r.map fun(n,k)=>if (k==NameKind.free&&env.scope.kind==.function&&env.kindOf n==some .cell) then(n,NameKind.cell) else(n,k)))=some k:=by
    rw[<-h];simp only[hc];rfl
   rw[List.lookup_cons] at h';cases hx:x==n with
   |true=>
    rw[hx] at h';exact .inl h'
   |false=>
    rw[hx] at h';exact ih h'
theorem a3L {env:Env}:∀{names:List (Str×NameKind)} {x:Str},names.lookup x=some .free →
  (names.map fun(n,k)=>if (k==NameKind.free&&env.scope.kind==.function&&env.kindOf n==some .cell) then(n,NameKind.cell) else(n,k)).lookup x=some .cell ∨
  (names.map fun(n,k)=>if (k==NameKind.free&&env.scope.kind==.function&&env.kindOf n==some .cell) then(n,NameKind.cell) else(n,k)).lookup x=some .free
 |[],_,h=>by cases h
 | (n,k')::r,x,h=>by
  have ih:=@a3L env r x;rw[List.lookup_cons] at h;rw[mN0]
  by_cases hc:(k'==NameKind.free&&env.scope.kind==.function&&env.kindOf n==some .cell)=true
  ·have e:(match (n,k') with | (n,k)=>if (k==NameKind.free&&env.scope.kind==.function&&env.kindOf n==some .cell) then(n,NameKind.cell) else(n,k))=(n,NameKind.cell):=by
    simp only[hc,if_true]
   rw[e,List.lookup_cons];cases hx:x==n with
   |true=>exact .inl rfl
   |false=>rw[hx] at h;exact ih h
  ·have e:(match (n,k') with | (n,k)=>if (k==NameKind.free&&env.scope.kind==.function&&env.kindOf n==some .cell) then(n,NameKind.cell) else(n,k))=(n,k'):=by
    simp only[hc];rfl
   rw[e,List.lookup_cons];cases hx:x==n with
   |true=>
    rw[hx] at h;exact .inr h
   |false=>rw[hx] at h;exact ih h
theorem a4c {osc scope:Scope}{N0 xs:List Str}{fr:List Nat}{pins:List (Addr×Obj)}{σ:St}{H:Hp}{s:Shared}(C:a5P osc scope N0 xs fr)(ho:X.env.scope=osc)(I:Inv X pins σ H s) :
  ∀y∈scope.names,y.2=.free->∃c,X.env.cells.lookup y.1=some c:=fun y hy e=>by
 refine I.ok.has y.1 ?_;rw[<-ho] at C;exact C.free y hy e
theorem a8j {osc scope:Scope}{N0 xs:List Str}{fr:List Nat}{pins:List (Addr×Obj)}{σ:St}{H:Hp}{s:Shared}{fp:List Addr}{h₁:Heap}{tk:Nat}(C:a5P osc scope N0 xs fr)(ho:X.env.scope=osc)(hN0:X.N=N0)(I:Inv X pins σ H s)
  (hf:∀b∈fp,a4x X pins H b) (hlt:∀b∈fp,b<s.heap.objs.size) (hn:h₁.Ns s.heap.objs.size fun _=>none) (hk:∀b o,s.heap.get? b=some o->h₁.get? b=some o) :
  Inv (a1I X scope (a2f N0 xs fr) s H fp) [] (a3G xs fr σ) H { s with heap:=h₁,toks:=tk }:=by
 subst hN0;have hfree:=a4c C ho I;have sub:=a7A (env:=X.env) scope.names [] hfree (fun x c e=>by cases e);have nC:∀x c,X.env.cells.lookup x=some c->c≠s.heap.objs.size:=fun x c e z=>by
  obtain⟨v,q⟩:=I.cell x c e;exact absurd q.lt (by rw[z];exact Nat.lt_irrefl _)
 refine⟨⟨I.ok.mod,C.kind,I.ok.glob,I.ok.blt,nR0 _,fun x y c h1 h2=>I.ok.inj x y c (sub x c h1) (sub y c h2),fun x hx=>?_,fun x c h _=>(bF0 h).elim,I.ok.hd,I.ok.frames,.inl rfl,fun b hb=>?_,I.bs,Nat.le_trans I.ok.bsz I.sz,fun b o e hb=>?_,fun b hb hz=>?_,I.stack,I.stkFree⟩,
  rfl,I.bare,Un.kept hk,⟨_,hn,fun i x v h1 h2 h3=>?_⟩,fun x c h=>?_,I.hok.fresh (nR0 _),fun x c h=>I.freeC x c (sub x c h),fun p hp=>absurd (show p∈([]:List (Addr×Obj)) from hp) (by simp),I.hok.kept hk,?_⟩
 ·have hx':(relabel scope X.env).names.lookup x=some .cell\/(relabel scope X.env).names.lookup x=some .free:=hx
  refine a5a (env:=X.env) scope.names [] x (.inl ?_);rcases hx' with q |q
  ·rcases a2P q with z |⟨_,z⟩
   ·exact absurd rfl (C.nocell _ (a1o z))
   ·exact a1o z
  ·rcases a2P q with z |⟨z,_⟩
   ·exact a1o z
   ·cases z
 ·exact⟨nL0 (hlt b hb),fun x c h=>(hf b hb).2.2.2.2.1 x c (sub x c h)⟩
 ·rcases (hf b hb).2.2.2.1 with z |z
  ·exact I.ok.noex b o e z
  ·exact absurd (Nat.lt_of_lt_of_le (hL0 e) (Nat.le_trans I.ok.bsz z)) (Nat.lt_irrefl _)
 ·rcases mK0.mp (I.stkSub b hz) with z |z
  ·exact(hf b hb).2.1 z
  ·exact(hf b hb).2.2.1 z
 ·
  have hi:¬i<xs.length:=fun hi=>by
   unfold a3G at h2;rw[gL0 (by rw[lM0];exact hi),gM0] at h2;cases q:xs[i]? with
   |none=>rw[q] at h2;cases h2
   |some y=>rw[q] at h2;cases h2
  have hi':xs.length<=i:=Nat.le_of_not_lt hi;have e2:(fr.map fun j=>(σ[j]?).join)[i-xs.length]? =some (some v):=by
   have:=h2
   unfold a3G at this;rw[gR0 (by rw[lM0];exact hi'),lM0] at this;exact this
  rw[gM0] at e2;cases q:fr[i-xs.length]? with
  |none=>rw[q] at e2;cases e2
  |some j=>
   rw[q] at e2;have e3:(σ[j]?).join=some v:=Option.some.inj e2;have e4:σ[j]? =some (some v):=by
    cases z:σ[j]? with
    |none=>rw[z] at e3;cases e3
    |some u=>rw[z] at e3;rw[show u=some v from e3]
   obtain⟨y,hy,hyf⟩:=C.fro j (gI0 q);have ex:x=y:=by
    have h1':(a2f X.N xs fr)[i]? =some x:=h1;unfold a2f at h1';rw[gR0 hi',gM0,q] at h1';have h5:X.N.getD j ""=x:=Option.some.inj h1';rw[<-h5,List.getD_eq_getElem?_getD,hy]
    rfl
   subst ex;obtain⟨m,_,hl⟩:=I.loc;have kf:=C.free _ (a1o hyf) rfl;rw[<-ho] at kf;have vis:Vis X.env.scope x:=by
    rcases kf with z |z
    ·exact .inr (.inl z)
    ·exact .inr (.inr z)
   obtain⟨u,r,l⟩:=hl j x v hy e4 vis;refine⟨u,r,.inr ⟨a3L hyf,?_⟩⟩;rcases l with ⟨z,_⟩ |⟨_,c,hc,hcell⟩
   ·have z':X.env.scope.names.lookup x=some .local:=z
    rcases kf with w |w
    ·rw[z'] at w;cases w
    ·rw[z'] at w;cases w
   ·obtain⟨c',hc'⟩:=a5a (env:=X.env) scope.names [] x (.inl (a1o hyf))
    have e5:=sub x c' hc';rw[hc] at e5;cases e5;refine⟨c,hc',?_⟩;obtain⟨o,ho',hd⟩:=hcell;exact⟨o,hk _ _ ho',hd⟩
 ·obtain⟨v,o,ho',hd⟩:=I.cell x c (sub x c h)
  exact⟨v,o,hk _ _ ho',hd⟩
 ·show(a3G xs fr σ).length=(a2f X.N xs fr).length
  unfold a3G a2f;simp
def PIf (X:Cx)(ifs:List Expr)(t:TT):Prop:=
 ∀(pins:List (Addr×Obj)) (s:Shared) (σ:St) (H:Hp) (Q:Bool->Hp->Prop),Inv X pins σ H s->t σ H Q →
  wpAny (model X.prog X.w) X.A (forIn ifs true fun c r=>if r=true then do let ok <-isTrue c X.env (eval c X.env);pure (ForInStep.yield ok) else pure (ForInStep.yield r)) (TP X pins σ Q) X.xe s
def b6a:TT:=fun _ H Q=>Q true H
theorem a1U {X:Cx}:PIf X [] b6a:=fun _ _ σ H Q I h=>wpAny_tests_nil ⟨H,I,h⟩
theorem b3t {X:Cx}{c:Expr}{t:TT}(h:PT X c t):PIf X [c] t:=fun pins s σ H Q I hw=>wpAny_tests_one (h pins s σ H Q I hw)
def a8g (J:It)(g:TG)(tt:TT)(te:TE)(R:Addr->Hp->Prop)(D:Addr)(σ0:St)(H0:Hp):Prop:=
 ∃W:Nat->Nat->St->Hp->Prop,(∃m,W 0 m σ0 H0)/\∀i m σ H,W i m σ H →
  (J.stop i H/\R D H) ∨
  (J.go i H/\∃(N:St->V->Hp->Prop) (M:St->Hp->Prop),(∀σ2 y H4,N σ2 y H4->∃ys,H4 D=some (.lst ys)/\ys.length<sizeLine/\∃m',m'<m/\W (i+1) m' σ2 (upd H4 D (.lst (ys++[y])))) ∧
   (∀σ2 H3,M σ2 H3->∃m',m'<m/\W (i+1) m' σ2 H3) ∧
   ∀x H',J.yld i H x H'->g x σ H' fun σ2 H2=>tt σ2 H2 fun b H3=>if b=true then te σ2 H3 (N σ2) else M σ2 H3)
def b5d (xs:List Str)(fr:List Nat)(wi:TI)(g:TG)(tt:TT)(te:TE):TE:=fun σ H Q=>wi σ H fun J H1=>∀D,H1 D=none->a8g J g tt te (fun D H2=>Q (.ref D) H2) D (a3G xs fr σ) (upd H1 D (.lst []))
def b5J (i:Nat)(xs:List Str)(fr:List Nat)(wi:TI)(g:TG)(tt:TT)(te:TE):TS:=fun E σ H=>wi σ H fun J H1=>∀D,H1 D=none->a8g J g tt te (fun D H2=>E.nx (σ.set i (some (.ref D))) H2) D (a3G xs fr σ) (upd H1 D (.lst []))
theorem a4C {osc scope:Scope}{N0 xs:List Str}{fr:List Nat}{pins:List (Addr×Obj)}{σ:St}{H2:Hp}{s2:Shared}{fp:List Addr}{it:Addr}{tn:Nat->Heap->Prop}{J:It}{elt tg iter:Expr}{ifs:List Expr}{pos:Pos}
  {g:TG} {tt:TT} {te:TE} {E:Vs0} {R:Addr->Hp->Prop} {RR:Value->Addr->Result->Shared->Prop} (C:a5P osc scope N0 xs fr) (ho:X.env.scope=osc) (hN0:X.N=N0) (hc:X.calm=true)
  (hg:∀s H fp,PG (a1I X scope (a2f N0 xs fr) s H fp) tg g) (ht:∀s H fp,PIf (a1I X scope (a2f N0 xs fr) s H fp) ifs tt) (he:∀s H fp,PE (a1I X scope (a2f N0 xs fr) s H fp) elt te)
  (I2:Inv X pins σ H2 s2) (T:b0k X.prog X.w X.K tg J fp it tn) (st2:tn 0 s2.heap) (f2:∀b∈fp,a4x X pins H2 b)
  (hR:∀D,H2 D=none->a8g J g tt te R D (a3G xs fr σ) (upd H2 D (.lst [])))
  (hRR:∀(D C:Addr) (s':Shared) (H':Hp) (m:Str->Option Value),Inv X pins σ H' s'->s'.heap.Ns C m->a4x X pins H' C->R D H'->RR (.ref D) C (.ok .next) s') :
  wpAny (model X.prog X.w) X.A (newList []) (fun acc s₃=>wpAny (model X.prog X.w) X.A (newFunctionEnv scope X.env.globals (a6L X.env scope.names) [] X.env.qual none .none (some X.env)) (fun cenv s₄=>
   codeAny (model X.prog X.w) X.A (.compStart (.ListComp elt [⟨tg,iter,ifs,0⟩] scope pos) 0 (.ref it) acc { cenv with scope:=relabel scope X.env }) (RR acc cenv.locals) s₄) E s₃) E s2:=by
 refine wpAny_newObj_type (wpAny_newFunctionEnv C.nocell (by intro y hy;simp at hy) (fun h₁ hns₁ hsb₁=>?_) C.kind)
 dsimp only at hns₁ hsb₁ ⊢
 have I3:Inv X pins σ (upd H2 s2.heap.objs.size (.lst [])) { s2 with heap:=s2.heap.push { cls:=.type "list",data:=.seq ([]:List Value).toArray } }:=I2.lnew (its:=[]) (t':=s2.toks) .nil (by simp);have flt:∀b∈fp,b<s2.heap.objs.size:=fun b hb=>by
  obtain⟨o,e,_⟩:=T.obj 0 _ st2 b hb;exact hL0 e
 have f3:∀b∈fp,a4x X pins (upd H2 s2.heap.objs.size (.lst [])) b:=fun b hb=>⟨by rw[a0g (nL0 (flt b hb))];exact(f2 b hb).1,(f2 b hb).2⟩;have flt3:∀b∈fp,b<(s2.heap.push { cls:=.type "list",data:=.seq ([]:List Value).toArray }).objs.size:=fun b hb=>by
  rw[Heap.size_push];exact Nat.lt_succ_of_lt (flt b hb)
 obtain⟨W,⟨m0,w0⟩,turn⟩:=hR s2.heap.objs.size I2.fresh;generalize hD:s2.heap.objs.size=D at *;generalize hs3:s2.heap.push { cls:=.type "list",data:=.seq ([]:List Value).toArray }=h3 at *;have up2:∀b o,s2.heap.get? b=some o->h3.get? b=some o:=fun b o e=>by rw[<-hs3];exact hP0 _ e
 have old:∀b o,h3.get? b=some o->h₁.get? b=some o:=fun b o e=>hsb₁.extBut b o (nL0 (hL0 e)) (hP0 _ e);have Ic:=a8j (tk:=s2.toks+([]:List (Str×Value)).length) C ho hN0 I3 f3 flt3 hns₁ old;have st4:tn 0 h₁:=T.keep 0 _ _ st2 fun b hb o e=>old b o (up2 b o e);have stat:∀{H':Hp},(∀b∈fp,H' b=none)->∀b∈fp,a4x (a1I X scope (a2f N0 xs fr) { s2 with heap:=h3 } (upd H2 D (.lst [])) fp) [] H' b:=fun hn b hb=>
  ⟨hn b hb,nL0 (flt3 b hb),fun z=>by
   rcases mK0.mp (I3.stkSub b z) with q |q
   ·exact(f3 b hb).2.1 q
   ·exact(f3 b hb).2.2.1 q,.inl hb,fun x c h=>(Ic.ok.exf b hb).2 x c h,fun p hp=>absurd (show p∈([]:List (Addr×Obj)) from hp) (by simp)⟩
 have fin:∀{σ':St} {H':Hp} {s':Shared},Inv (a1I X scope (a2f N0 xs fr) { s2 with heap:=h3 } (upd H2 D (.lst [])) fp) [] σ' H' s'->R D H'->RR (.ref D) h3.objs.size (.ok .next) s':=fun {σ' H' s'} I' q=>by
  obtain⟨m,hm,_⟩:=I'.loc;refine hRR D h3.objs.size s' H' m (I3.call' I'.os I'.base I'.hok I'.bare fun b hb=>?_) hm (I3.fpOk (nR0 _) I'.free) q;exact⟨(f3 b hb).2.2.2.1,(f3 b hb).2.1,(f3 b hb).2.2.2.2.1,(f3 b hb).2.2.2.2.2⟩
 have loop:codeAny (model X.prog X.w) X.A (.compLoop (.ListComp elt [⟨tg,iter,ifs,0⟩] scope pos) 0 (.ref it) (.ref D) (compEnvC scope (a6L X.env scope.names) h3.objs.size X.env)) (RR (.ref D) h3.objs.size) { s2 with heap:=h₁,toks:=s2.toks+([]:List (Str×Value)).length }:=by
  refine codeAny_loop rfl (fun n s'=>∃i σ' H',Inv (a1I X scope (a2f N0 xs fr) { s2 with heap:=h3 } (upd H2 D (.lst [])) fp) [] σ' H' s'/\tn i s'.heap/\(∀b∈fp,H' b=none)/\W i n σ' H') (fun n s' hI=>?_) m0 ⟨0,_,_,Ic,st4,fun b hb=>(f3 b hb).1,w0⟩;show wpAny _ X.A ((compTurn (.ListComp elt [⟨tg,iter,ifs,0⟩] scope pos) 0 (.ref it) (.ref D) (compEnvC scope (a6L X.env scope.names) h3.objs.size X.env)).onRaise (fun x=>do noteFrame x (compEnvC scope (a6L X.env scope.names) h3.objs.size X.env);theTreesLotGoes x)) _ _ s';refine wpAny_noted ?_;rw[compTurn_list];obtain⟨i,σ',H',I',st',fr',w'⟩:=hI;refine wB0 (wpAny_standAt (wB0 ?_));rcases turn i n σ' H' w' with ⟨stop,q⟩ |⟨go,N,M,hN,hM,step⟩
  ·refine thn (T.done (a1I X scope (a2f N0 xs fr) { s2 with heap:=h3 } (upd H2 D (.lst [])) fp) rfl rfl rfl hc i [] s' σ' H' _ I' (stat fr') st' stop) fun r s4 ⟨hr,I4⟩=>?_
   subst hr;exact wP0 (fin I4 q)
  ·refine thn (T.item (a1I X scope (a2f N0 xs fr) { s2 with heap:=h3 } (upd H2 D (.lst [])) fp) rfl rfl rfl hc i [] s' σ' H' _ I' (stat fr') st' go) fun r s4 ⟨u,hr,h4⟩=>?_
   subst hr;refine wB0 (thn h4 fun _ s5 ⟨x,H5,I5,r5,y5,st5,fr5⟩=>?_);have I5':=I5.pinned (stat fr5) (T.obj _ _ st5);have again:∀{σ7:St} {H7:Hp} {s7:Shared},Inv (a1I X scope (a2f N0 xs fr) { s2 with heap:=h3 } (upd H2 D (.lst [])) fp) ([]++a5E fp s5.heap) σ7 H7 s7->(∃m',m'<n/\W (i+1) m' σ7 H7) →
     ∃m,m<n/\∃i σ' H',Inv (a1I X scope (a2f N0 xs fr) { s2 with heap:=h3 } (upd H2 D (.lst [])) fp) [] σ' H' s7/\tn i s7.heap/\(∀b∈fp,H' b=none)/\W i m σ' H':=fun {σ7 H7 s7} I7 n7=>by
    obtain⟨m',hm,w7⟩:=n7;refine⟨m',hm,i+1,σ7,H7,I7.unpinned,T.keep _ _ _ st5 fun b hb o e=>(I7.pin (b,o) (List.mem_append_right _ (List.mem_append_right _ (a2S hb e)))).1,fun b hb=>?_,w7⟩;obtain⟨o,e,d⟩:=T.obj _ _ st5 b hb;exact(I7.pin (b,o) (List.mem_append_right _ (List.mem_append_right _ (a2S hb e)))).2.1
   refine wB0 (wpAny_mono (hg _ _ _ _ s5 σ' H5 x u _ I5' r5 (step x H5 y5)) (fun _ s6 ⟨σ6,H6,I6,q6⟩=>?_) fun _ _ z=>False.elim z);refine wB0 (wpAny_mono (ht _ _ _ _ s6 σ6 H6 _ I6 q6) (fun ok s7 ⟨H7,I7,q7⟩=>?_) fun _ _ z=>False.elim z);cases ok with
   |false=>
    rw[if_neg bF0] at q7;exact wP0 ⟨rfl,again I7 (hM _ _ q7)⟩
   |true=>
    rw[if_pos rfl] at q7;refine wB0 (wB0 (wpAny_mono (he _ _ _ _ s7 σ6 H7 _ I7 q7) (fun y s8 ⟨v,H8,I8,r8,q8⟩=>?_) fun _ _ z=>False.elim z));obtain⟨ys,eD,hz,q8⟩:=hN _ _ _ q8;refine wB0 (wpAny_mono (a5K (X:=a1I X scope (a2f N0 xs fr) { s2 with heap:=h3 } (upd H2 D (.lst [])) fp) _ s8 σ6 H8 (.ref D) [v] (.ref D) [y] (fun _ H9=>∃m',m'<n/\W (i+1) m' σ6 H9) I8 rfl (.cons r8 .nil) ⟨D,ys,v,rfl,rfl,eD,hz,q8⟩) (fun _ s9 ⟨_,H9,I9,_,q9⟩=>?_) fun _ _ z=>False.elim z);exact wP0 (wP0 ⟨rfl,again I9 q9⟩)
 exact codeAny_compStart_list loop (T.self X.A 0 _ _ _ st4 loop)
variable {osc scope:Scope}{N0 xs:List Str}{fr:List Nat}{elt tg iter:Expr}{ifs:List Expr}{pos:Pos}{wi:TI}{g:TG}{tt:TT}{te:TE}
theorem a1T (C:a5P osc scope N0 xs fr)(ho:X.env.scope=osc)(hN0:X.N=N0)(hc:X.calm=true)(hi:PI X tg iter wi)
  (hg:∀s H fp,PG (a1I X scope (a2f N0 xs fr) s H fp) tg g) (ht:∀s H fp,PIf (a1I X scope (a2f N0 xs fr) s H fp) ifs tt) (he:∀s H fp,PE (a1I X scope (a2f N0 xs fr) s H fp) elt te)
  (hs:∀x,foldedSetIterable iter X.env x=pure x:=by intro _;rfl):PE X (.ListComp elt [⟨tg,iter,ifs,0⟩] scope pos) (b5d xs fr wi g tt te):=by
 intro pins s σ H Q I h;rw[eval_ListComp];refine wpAny_comprehension_free (use:=none) rfl hs (a9U (a4c C ho I)) C.kind C.names (thn (hi pins s σ H _ I h) fun v s1 h1=>thn h1 fun itv s2 h2=>?_);obtain⟨it,fp,tn,J,H2,e,I2,T,st2,f2,hR⟩:=h2;subst e;refine a4C C ho hN0 hc hg ht he I2 T st2 f2 hR fun D C s' H' m I' hm fC q=>?_;refine⟨m,hm,fun h' sb=>⟨.ref D,H',?_,rfl,q⟩⟩;exact I'.turned (t':=s'.toks) (fun b o hb e=>(sb.2 b hb).trans e) fC.1 fC.2.1 fC.2.2.2.1 fC.2.2.2.2.1 fC.2.2.2.2.2
theorem b3j {i:Nat}{y:Str}{py spos:Pos}(C:a5P osc scope N0 xs fr)(ho:X.env.scope=osc)(hN0:X.N=N0)(hc:X.calm=true)(hi:PI X tg iter wi)
  (hg:∀s H fp,PG (a1I X scope (a2f N0 xs fr) s H fp) tg g) (ht:∀s H fp,PIf (a1I X scope (a2f N0 xs fr) s H fp) ifs tt) (he:∀s H fp,PE (a1I X scope (a2f N0 xs fr) s H fp) elt te)
  (hN:X.N.Nodup) (hy:X.N[i]? =some y) (hx:Loc X.env.scope y)
  (hsw:swapsWith (.ListComp elt [⟨tg,iter,ifs,0⟩] scope pos) (some (.Name y py)) spos.line X.env=pure true:=by rfl)
  (hf:X.fn y=true\/X.env.scope.names.lookup y=some .local:=by first |exact .inl rfl |exact .inr rfl |assumption)
  (hs:∀x,foldedSetIterable iter X.env x=pure x:=by intro _;rfl):PS X (.Assign [.Name y py] (.ListComp elt [⟨tg,iter,ifs,0⟩] scope pos) spos) (b5J i xs fr wi g tt te):=by
 intro pins s σ H D I h;rw[exec_Assign_Name_used _ _ _ _ hsw];refine wB0 (wpAny_standAt (wB0 ?_));show wpAny _ X.A (do let _ <-comprehension (.ListComp elt [⟨tg,iter,ifs,0⟩] scope pos) scope X.env _ (newList []) false (eval iter X.env) (some (assign (.Name y py) X.env))) _ _ s;refine wB0 (wpAny_mono (wpAny_comprehension_free (use:=some (assign (.Name y py) X.env)) (Q:=fun _ s'=>SP X pins D .next s') rfl hs (a9U (a4c C ho I)) C.kind C.names
  (thn (hi pins s σ H _ I h) fun v s1 h1=>thn h1 fun itv s2 h2=>?_)) (fun _ s' hq=>wP0 (wP0 hq)) fun _ _ e=>e)
 obtain⟨it,fp,tn,J,H2,e,I2,T,st2,f2,hR⟩:=h2;subst e;refine a4C C ho hN0 hc hg ht he I2 T st2 f2 hR fun Dl C s' H' m I' hm fC q=>?_;refine wpAny_assign_Name (a6d I' hN hy hx (show a1e (.ref Dl) (.ref Dl) from rfl) (fun s3 I3 hsb=>?_) hf);obtain⟨a,sb,ha⟩:=hsb;have hCa:C≠a:=by
  rcases ha with z |z
  ·rw[z];exact fC.2.1
  ·exact fun w=>fC.2.2.2.2.1 y a z w.symm
 refine⟨m,hm.sameBut sb hCa,fun h' sb'=>⟨_,H',?_,q⟩⟩;exact I3.turned (t':=s3.toks) (fun b o hb e=>(sb'.2 b hb).trans e) fC.1 fC.2.1 fC.2.2.2.1 fC.2.2.2.2.1 fC.2.2.2.2.2
end
def Its (x:Str):It:=⟨fun i _=>i<x.cps.size,fun i H v H'=>H'=H/\∃c,x.cps[i]? =some c/\v=.str ⟨#[c]⟩,fun i _=>x.cps.size<=i⟩
theorem a2U (x:Str):strIterType x="str_ascii_iterator"\/strIterType x="str_iterator":=by
 unfold strIterType
 split
 ·exact .inl rfl
 ·exact .inr rfl
theorem b0H {P:Program}{w:World}{K:Fg0}{tg:Expr}(x:Str)(t:Tok)(it:Addr):b0k P w K tg (Its x) [it] it (fun i h=>h.IsStrIter it (strIterType x) x t i) where
 mem:=by simp
 obj:=fun i h st b hb=>by
  have e:b=it:=by simpa using hb
  subst e;obtain⟨o,e,c,d⟩:=st;exact⟨o,e,fun v z=>by rw[d] at z;cases z⟩
 keep:=fun i h h' st k=>by
  obtain⟨o,e,r⟩:=st;exact⟨o,k it (by simp) o e,r⟩
 item:=by
  intro X hP hw hK hc i pins s σ H E I hf st hg;subst hP hw hK;have hg':i<x.cps.size:=hg;obtain⟨f0,f1,f2,f3,f4,f5⟩:=hf it (by simp);have key:∀h',h'.IsStrIter it (strIterType x) x t (i+1)->Heap.SameBut it s.heap h'->∃u,some (Value.str ⟨#[x.cps[i]]⟩ s.toks)=some u ∧
   wpAny (model X.prog X.w) X.A (letOwnedTupleGo tg (.ref it) u) (fun _ s2=>∃v H',Inv X pins σ H' s2/\a1e v u/\(Its x).yld i H v H'/\s2.heap.IsStrIter it (strIterType x) x t (i+1)/\∀b∈[it],H' b=none) E { s with heap:=h',toks:=s.toks+1 }:=fun h' st' sb=>by
   have I1:Inv X pins σ H { s with heap:=h',toks:=s.toks+1 }:=I.turned (t':=s.toks+1) (fun b o hb e=>(sb.2 b hb).trans e) f0 f1 f3 f4 f5;obtain⟨o,e,c,d⟩:=id st';refine⟨_,rfl,a8U (s:={ s with heap:=h',toks:=s.toks+1 }) e c d ?_ ⟨.str ⟨#[x.cps[i]]⟩,H,I1,⟨_,rfl⟩,⟨rfl,_,by simp[hg'],rfl⟩,st',fun b hb=>(hf b hb).1⟩⟩;rcases a2U x with z |z<;>rw[z]<;>decide
  rcases a2U x with z |z
  ·rw[z] at st key
   rw[z];exact wpAny_pyNext_ascii_item st (c:=x.cps[i]) (by simp[hg']) fun h' a b=>key h' a b
  ·rw[z] at st key
   rw[z];exact wpAny_pyNext_wide_item st (c:=x.cps[i]) (by simp[hg']) fun h' a b=>key h' a b
 done:=by
  intro X hP hw hK hc i pins s σ H E I hf st hg;subst hP hw hK;have hg':x.cps.size<=i:=hg;obtain⟨f0,f1,f2,f3,f4,f5⟩:=hf it (by simp);have hx:x.cps[i]? =none:=by simp[hg']
  rcases a2U x with z |z
  ·rw[z] at st
   exact wpAny_pyNext_ascii_end (I.ok.hd hc) st hx fun h' eb=>⟨rfl,I.turned (t':=s.toks) (fun b o hb e=>eb b o hb e) f0 f1 f3 f4 f5⟩
  ·rw[z] at st
   exact wpAny_pyNext_wide_end (I.ok.hd hc) st hx fun h' eb=>⟨rfl,I.turned (t':=s.toks) (fun b o hb e=>eb b o hb e) f0 f1 f3 f4 f5⟩
 self:=fun A i s Q E st h=>by
  rcases a2U x with z |z
  ·rw[z] at st
   exact wpAny_pyIter_striter_ascii st h
  ·rw[z] at st
   exact wpAny_pyIter_striter_wide st h
section
variable {X:Cx}{tg:Expr}
def iStr (tl:TE):TI:=fun σ H R=>tl σ H fun x H1=>∃z,x=.str z/\R (Its z) H1
theorem b4v {l:Expr}{tl:TE}(hl:PE X l tl):PI X tg l (iStr tl):=by
 intro pins s σ H R I h;refine thn (hl pins s σ H _ I h) fun v s1 ⟨x,H1,I1,r1,q1⟩=>?_;obtain⟨z,e,q⟩:=q1;subst e;obtain⟨t,rfl⟩:=r1;refine wpAny_pyIter_strU ?_;refine⟨s1.heap.objs.size,[s1.heap.objs.size],_,_,H1,rfl,I1.kept (t':=s1.toks) fun b o e=>hP0 _ e,b0H z t _,⟨_,hS0 _ rfl,rfl,rfl⟩,fun b hb=>?_,q⟩;have e:b=s1.heap.objs.size:=by simpa using hb
 subst e;exact I1.fpOk (nR0 _) (I1.hok.fresh (nR0 _))
theorem a5l:∀{bs:List Bool} {us:List Value},a1l (bs.map V.bl) us->LSm.BoolsAre us bs
 |[],_,r=>by rw[List.map_nil] at r;cases r;exact .nil
 |b::bs,_,r=>by
  rw[mN0] at r;cases r with
  |cons h t=>
   cases h;exact .cons b (a5l t)
theorem a5s (hc:X.calm=true):a1u X (.builtin "all") (fun xs H Q=>∃(p:Addr) (bs:List Bool),xs=[.ref p]/\SqL X.K H p (bs.map V.bl)/\Q (.bl (bs.all id)) H):=by
 intro pins s σ H xs us Q I r h;obtain⟨l,bs,rfl,hq,q⟩:=h;obtain⟨u,rfl,rx⟩:=a2o r;cases rx;obtain⟨vs,r',pl,hz⟩:=I.list hq;have hb:LSm.BoolsAre vs bs:=a5l r';have hl:=pl.isList;have hlt:l<s.heap.objs.size:=by obtain⟨_,e,_⟩:=hl;exact hL0 e
 refine call_all_walk (wpAny_pyIter_list hl ?_);refine⟨s.heap.objs.size,[s.heap.objs.size,l],[s.heap.objs.size],vs.toArray.size,_,_,fun i=>(bs[i]?).getD true,rfl,Walks.list (A:=X.A.in1) (I.ok.hd hc) _ l (nL0 hlt) vs.toArray,
  ⟨⟨_,hS0 _ rfl,rfl,rfl⟩,hl.push _⟩,fun i v s' Q' E' hP hQ=>?_,fun h' tk hk=>?_⟩
 ·obtain⟨b,e,rfl⟩:=hb.get i v (by simpa using hP)
  simp only[e,Option.getD_some] at hQ;exact wpAny_truthy_bool hQ
 ·have e:((List.range vs.toArray.size).all fun i=>(bs[i]?).getD true)=bs.all id:=by
   rw[List.size_toArray,hb.length];exact LSm.range_all bs
  rw[e];exact⟨.bl (bs.all id),H,I.kept (LSm.kept_iter hk),rfl,q⟩
theorem a7o (hc:X.calm=true):a1u X (.builtin "any") (fun xs H Q=>∃(p:Addr) (bs:List Bool),xs=[.ref p]/\SqL X.K H p (bs.map V.bl)/\Q (.bl (bs.any id)) H):=by
 intro pins s σ H xs us Q I r h;obtain⟨l,bs,rfl,hq,q⟩:=h;obtain⟨u,rfl,rx⟩:=a2o r;cases rx;obtain⟨vs,r',pl,hz⟩:=I.list hq;have hb:LSm.BoolsAre vs bs:=a5l r';have hl:=pl.isList;have hlt:l<s.heap.objs.size:=by obtain⟨_,e,_⟩:=hl;exact hL0 e
 refine call_any_walk (wpAny_pyIter_list hl ?_);refine⟨s.heap.objs.size,[s.heap.objs.size,l],[s.heap.objs.size],vs.toArray.size,_,_,fun i=>(bs[i]?).getD false,rfl,Walks.list (A:=X.A.in1) (I.ok.hd hc) _ l (nL0 hlt) vs.toArray,
  ⟨⟨_,hS0 _ rfl,rfl,rfl⟩,hl.push _⟩,fun i v s' Q' E' hP hQ=>?_,fun h' tk hk=>?_⟩
 ·obtain⟨b,e,rfl⟩:=hb.get i v (by simpa using hP)
  simp only[e,Option.getD_some] at hQ;exact wpAny_truthy_bool hQ
 ·have e:((List.range vs.toArray.size).any fun i=>(bs[i]?).getD false)=bs.any id:=by
   rw[List.size_toArray,hb.length];exact LSm.range_any bs
  rw[e];exact⟨.bl (bs.any id),H,I.kept (LSm.kept_iter hk),rfl,q⟩
theorem a2z:a1u X (.builtin "isinstance") (fun xs H Q=>∃x n t b,xs=[x,.ty n]/\a7e X.K H x t/\PySem.W.kitOne X.K t (.type n)=some b/\Q (.bl b) H):=by
 intro pins s σ H xs us Q I r h;obtain⟨x,n,t,b,rfl,ty,e,q⟩:=h;obtain⟨u,w',rfl,rx,rc⟩:=a9y r
 cases(show w'=Value.type n from rc)
 exact a8X I rx ty e fun tk=>⟨.bl b,H,I.tok tk,rfl,q⟩
end
theorem a3h {J:It}{g:TG}{te:TE}{R:Addr->Hp->Prop}{D:Addr}{σ0:St}{H0:Hp}(n:Nat)(ev:Nat->V)(Pv:Nat->St->Hp->Prop)(hn:n<=sizeLine)(h0:Pv 0 σ0 H0)(hD0:H0 D=some (.lst []))
  (hs:∀i σ H,i<n->Pv i σ H->H D=some (.lst ((List.range i).map ev))->J.go i H/\∀x H',J.yld i H x H'->g x σ H' fun σ2 H2=>te σ2 H2 fun y H4=>y=ev i/\H4 D=some (.lst ((List.range i).map ev))/\Pv (i+1) σ2 (upd H4 D (.lst ((List.range (i+1)).map ev))))
  (hd:∀σ H,Pv n σ H->H D=some (.lst ((List.range n).map ev))->J.stop n H/\R D H):a8g J g b6a te R D σ0 H0:=by
 refine⟨fun i m σ H=>m=n-i/\i<=n/\Pv i σ H/\H D=some (.lst ((List.range i).map ev)),⟨n,by omega,zL0 _,h0,hD0⟩,?_⟩;rintro i m σ H ⟨rfl,hi,p,hD⟩
 by_cases hlt:i<n
 ·obtain⟨go,st⟩:=hs i σ H hlt p hD
  refine .inr ⟨go,fun σ2 y H4=>y=ev i/\H4 D=some (.lst ((List.range i).map ev))/\Pv (i+1) σ2 (upd H4 D (.lst ((List.range (i+1)).map ev))),fun _ _=>False,?_,fun _ _ z=>z.elim,st⟩;rintro σ2 y H4 ⟨rfl,e,p'⟩;refine⟨_,e,by simp;omega,n-(i+1),by omega,rfl,hlt,?_,?_⟩
  ·rw[List.range_succ,mA0] at p'
   exact p'
  ·rw[a0d,List.range_succ,mA0]
   rfl
 ·have e:i=n:=by omega
  subst e;exact .inl (hd σ H p hD)
theorem a1J {α β:Type}(l:List α)(d:α)(f:α->β):((List.range l.length).map fun i=>f (l.getD i d))=l.map f:=by
 apply List.ext_getElem?;intro i;rw[gM0,gM0]
 by_cases h:i<l.length
 ·rw[List.getElem?_range h,gE0 h]
  simp[List.getD_eq_getElem?_getD,gE0 h]
 ·rw[List.getElem?_eq_none (by simpa using h),List.getElem?_eq_none (by simpa using h)]
  rfl
theorem a0r.upd {H:Hp}{D:Addr}{o:HO}(h:H D=none):a0r H (L2.upd H D o):=fun b u e=>by
 rw[a0g (a0O e h)];exact e
def a1c (a b:String):Option Bool:=if (Value.type a==Value.type b)=true then some true else if PySem.W.kitMeta b=true then(fastBuiltinMro a).map (·.contains (.type b)) else none
theorem a2J {K:Fg0}{a b:String}:PySem.W.kitOne K (.type a) (.type b)=a1c a b:=rfl
def a4r:List String:=["NoneType","bool","int","str","list","tuple","dict"]
theorem b2X:∀n∈a4r,a1c n "int"=some (n=="int" || n=="bool"):=by decide +kernel
theorem b1r:∀n∈a4r,a1c n "bool"=some (n=="bool"):=by decide +kernel
theorem a8T:∀n∈a4r,a1c n "str"=some (n=="str"):=by decide +kernel
theorem a5O:∀n∈a4r,a1c n "tuple"=some (n=="tuple"):=by decide +kernel
def Is (K:Fg0)(H:Hp)(v:V)(n:String):Prop:=a7e K H v (.type n)/\n∈a4r
theorem Is.non {K:Fg0}{H:Hp}:Is K H .non "NoneType":=⟨.non,by decide⟩
theorem Is.bl {K:Fg0}{H:Hp}{b:Bool}:Is K H (.bl b) "bool":=⟨.bl b,by decide⟩
theorem Is.int {K:Fg0}{H:Hp}{i:Int}:Is K H (.int i) "int":=⟨.int i,by decide⟩
theorem Is.str {K:Fg0}{H:Hp}{x:Str}:Is K H (.str x) "str":=⟨.str x,by decide⟩
theorem Is.lst {K:Fg0}{H:Hp}{a:Addr}{xs:List V}(h:H a=some (.lst xs)):Is K H (.ref a) "list":=⟨.lst h,by decide⟩
theorem Is.tup {K:Fg0}{H:Hp}{a:Addr}{xs:List V}(h:H a=some (.tup xs)):Is K H (.ref a) "tuple":=⟨.tup h,by decide⟩
theorem Is.dK {K:Fg0}{H:Hp}{a:Addr}{kvs:List (Key×V)}(h:H a=some (.dK kvs)):Is K H (.ref a) "dict":=⟨.dK h,by decide⟩
theorem Is.str_of {K:Fg0}{H:Hp}{v:V}(h:Is K H v "str"):∃x,v=.str x:=by
 obtain⟨t,_⟩:=h;generalize e:Value.type "str"=u at t;cases t<;>first |exact⟨_,rfl⟩ |exact absurd (Value.type.inj e) (by decide) |cases e
def a1j (K:Fg0)(x:Str)(st:Stmt):Prop:=∃(f:Addr) (oc:Value) (od:Option Addr) (kV doc pm:Value) (an:Option Addr) (cdv ct:Value) (osl:Array (Option Value)),
 PySem.W.nsIn K mainGlobals x=some (some (.ref f))/\K.lookup f=some ⟨oc,od,.func (PySem.W.fnOf x x (a1d st) (a0U st) (a0f st) .none kV doc pm an cdv ct),osl⟩/\PySem.W.codeIn K cdv x=true/\PySem.W.keepIn K (.ref f)=true
theorem b0N {K:Fg0}{x:Str}{st:Stmt}{f:Addr}{oc:Value}{od an:Option Addr}{osl:Array (Option Value)}{kV doc pm cdv ct:Value}(a:PySem.W.nsIn K mainGlobals x=some (some (.ref f)))
  (l:K.lookup f=some ⟨oc,od,.func (PySem.W.fnOf x x (a1d st) (a0U st) (a0f st) .none kV doc pm an cdv ct),osl⟩) (c:PySem.W.codeIn K cdv x=true) (k:PySem.W.keepIn K (.ref f)=true):a1j K x st:=
 ⟨f,oc,od,kV,doc,pm,an,cdv,ct,osl,a,l,c,k⟩
structure Df (K:Fg0) (mg:Str->Option Value) (x:Str) (st:Stmt) (f:Addr) (fd:FuncData):Prop where
 fn:Fun K x x st f fd
 mg:mg x=some (.ref f)
theorem a1j.df {K:Fg0}{h:Heap}{mg:Str->Option Value}{x:Str}{st:Stmt}(d:a1j K x st)(X:K.In h)(G:h.Ns mainGlobals mg):∃f fd,Df K mg x st f fd:=by
 obtain⟨f,oc,od,kV,doc,pm,an,cdv,ct,osl,a,l,c,k⟩:=d;exact⟨f,_,a9N l c k,PySem.W.mg_of X G a⟩
end L2
namespace PySem.SeqAt
open MeetsSeq
open AutoSeq1 (wpAny_loadPart')
theorem a1X (l:Addr)(es:Array DictEntry)(ep:Nat)(dd:Option Addr)(sl:Array (Option Value))(b:Str)(u:Tok) :
  Meets (Builtin.«dict.__eq__» ⟨[.ref l,.str b u],[]⟩) (fun _ R s=>s.heap.get? l=some { cls:=.type "dict",dict:=dd,data:=.dict es ep,slots:=sl }/\R (.ok (.ret .notImplemented)) s):=
 .of_wp fun prog w A R s h=>by obtain⟨hp,g,d,tk,os⟩:=s;obtain⟨hl,h⟩:=h;have f1:=F.sub_str_dict;wp_walk using wpAny_loadPart' hl;exact⟨_,rfl,h⟩
theorem a1W (b:Str)(u:Tok)(l:Addr)(c:Value)(es:Array DictEntry)(ep:Nat)(dd:Option Addr)(sl:Array (Option Value)) :
  Meets (Builtin.«str.__eq__» ⟨[.str b u,.ref l],[]⟩) (fun _ R s=>s.heap.get? l=some { cls:=c,dict:=dd,data:=.dict es ep,slots:=sl }/\R (.ok (.ret .notImplemented)) s):=
 .of_wp fun prog w A R s h=>by obtain⟨hp,g,d,tk,os⟩:=s;obtain⟨hl,h⟩:=h;wp_walk using wpAny_loadPart' hl,wpAny_load hl;exact⟨_,rfl,h⟩
section
variable {A:Around}{s:Shared}
theorem RcAt.dict_str {l:Addr}{o:Obj}{es:Array DictEntry}{ep:Nat}(b:Str)(u:Tok)(ho:s.heap.get? l=some o)(hc:o.cls=.type "dict")(hd:o.data=.dict es ep)(hu:A.units<cLine):RcAt A s (.ref l) (.str b u) false:=fun prog w E Q h=>by
 obtain⟨cls,dd,data,sl⟩:=o;simp only at hc hd;subst hc hd;exact rc_eq_decline_or (k:=false) ⟨_,ho,rfl⟩ (typeIs_str s b u) (by decide) F.sub_str_dict F.slot_dict_eq F.slot_str_eq_refl
  (fun _ hq=>call_meets F.slot_dict_eq ⟨_,ho,rfl⟩ F.entry_dict_eq (F.args_dict_eq_2 _ _) (a1X l es ep dd sl b u) ⟨ho,hq⟩)
  (fun _ hq=>call_meets F.slot_str_eq_refl (typeIs_str s b u) F.entry_str_eq (F.args_str_eq_2 _ _) (a1W b u l (.type "dict") es ep dd sl) ⟨ho,hq⟩)
  (fun _ hq=>wpAny_of_eq (rfl:isSame (.ref l) (.str b u)=pure false) hq) (.inr hu) h
theorem EqAt.str_dict {l:Addr}{o:Obj}{es:Array DictEntry}{ep:Nat}(b:Str)(u:Tok)(ho:s.heap.get? l=some o)(hc:o.cls=.type "dict")(hd:o.data=.dict es ep)(hu:A.units<cLine):EqAt A s (.str b u) (.ref l) false:=fun prog w E Q h=>by
 obtain⟨cls,dd,data,sl⟩:=o;simp only at hc hd;subst hc hd;unfold eqBool;refine wpAny_holding ?_;refine wpAny_ite_split (fun hab=>absurd (eq_of_beq hab) nofun) (fun _=>?_);refine wB0 (rc_eq_decline_or (k:=false) (typeIs_str s b u) ⟨_,ho,rfl⟩ (by decide) F.sub_dict_str F.slot_str_eq F.slot_dict_eq_refl
  (fun _ hq=>call_meets F.slot_str_eq (typeIs_str s b u) F.entry_str_eq (F.args_str_eq_2 _ _) (a1W b u l (.type "dict") es ep dd sl) ⟨ho,hq⟩)
  (fun _ hq=>call_meets F.slot_dict_eq_refl ⟨_,ho,rfl⟩ F.entry_dict_eq (F.args_dict_eq_2 _ _) (a1X l es ep dd sl b u) ⟨ho,hq⟩)
  (fun _ hq=>wpAny_of_eq (rfl:isSame (.str b u) (.ref l)=pure false) hq) (.inr hu) (wpAny_truthy_bool h))
end
end PySem.SeqAt
namespace L2
open PySem PySem.Spec PyProof.Rows
inductive Dt where
 |non |bl (b:Bool) |int (i:Int) |str (z:Str) |tup (ds:List Dt) |lst (ds:List Dt) |dct
mutual
def Rep (H:Hp):Dt->V->Prop
 | .non,v=>v=.non
 | .bl b,v=>v=.bl b
 | .int i,v=>v=.int i
 | .str z,v=>v=.str z/\z.length<=1000
 | .tup ds,v=>∃a xs,v=.ref a/\H a=some (.tup xs)/\a2e H ds xs
 | .lst ds,v=>∃a xs,v=.ref a/\H a=some (.lst xs)/\a2e H ds xs
 | .dct,v=>∃a kvs,v=.ref a/\H a=some (.dK kvs)
def a2e (H:Hp):List Dt->List V->Prop
 |[],xs=>xs=[]
 |d::ds,xs=>∃v vs,xs=v::vs/\Rep H d v/\a2e H ds vs
end
mutual
theorem Rep.same {H H':Hp}(e:a0r H H'):∀{d:Dt} {v:V},Rep H d v->Rep H' d v
 | .non,v,h=>by unfold Rep at h ⊢;exact h
 | .bl b,v,h=>by unfold Rep at h ⊢;exact h
 | .int i,v,h=>by unfold Rep at h ⊢;exact h
 | .str z,v,h=>by unfold Rep at h ⊢;exact h
 | .tup ds,v,h=>by
  unfold Rep at h ⊢;obtain⟨a,xs,h1,h2,h3⟩:=h;exact⟨a,xs,h1,e _ _ h2,a2e.same e h3⟩
 | .lst ds,v,h=>by
  unfold Rep at h ⊢;obtain⟨a,xs,h1,h2,h3⟩:=h;exact⟨a,xs,h1,e _ _ h2,a2e.same e h3⟩
 | .dct,v,h=>by
  unfold Rep at h ⊢;obtain⟨a,xs,h1,h2⟩:=h;exact⟨a,xs,h1,e _ _ h2⟩
theorem a2e.same {H H':Hp}(e:a0r H H'):∀{ds:List Dt} {vs:List V},a2e H ds vs->a2e H' ds vs
 |[],vs,h=>by unfold a2e at h ⊢;exact h
 |d::ds,vs,h=>by
  unfold a2e at h ⊢;obtain⟨v,ws,h1,h2,h3⟩:=h;exact⟨v,ws,h1,Rep.same e h2,a2e.same e h3⟩
end
def tyD:Dt->String
 | .non=>"NoneType" | .bl _=>"bool" | .int _=>"int" | .str _=>"str" | .tup _=>"tuple" | .lst _=>"list" | .dct=>"dict"
theorem Rep.is {K:Fg0}{H:Hp}:∀{d:Dt} {v:V},Rep H d v->Is K H v (tyD d)
 | .non,v,h=>by unfold Rep at h;subst h;exact .non
 | .bl b,v,h=>by unfold Rep at h;subst h;exact .bl
 | .int i,v,h=>by unfold Rep at h;subst h;exact .int
 | .str z,v,h=>by unfold Rep at h;obtain⟨rfl,_⟩:=h;exact .str
 | .tup ds,v,h=>by unfold Rep at h;obtain⟨a,xs,rfl,h2,_⟩:=h;exact .tup h2
 | .lst ds,v,h=>by unfold Rep at h;obtain⟨a,xs,rfl,h2,_⟩:=h;exact .lst h2
 | .dct,v,h=>by unfold Rep at h;obtain⟨a,xs,rfl,h2⟩:=h;exact .dK h2
theorem a2e.length {H:Hp}:∀{ds:List Dt} {vs:List V},a2e H ds vs->vs.length=ds.length
 |[],vs,h=>by unfold a2e at h;subst h;rfl
 |d::ds,vs,h=>by
  unfold a2e at h;obtain⟨v,ws,rfl,_,h3⟩:=h;rw[List.length_cons,List.length_cons,a2e.length h3]
def a1B:Dt->Str->Bool
 | .str y,z=>y==z
 |_,_=>false
section
variable {X:Cx}{pins:List (Addr×Obj)}{σ:St}{H:Hp}{s:Shared}
theorem a7L (hu:X.A.units<cLine):OpR X (compareOp .Eq) (fun x y H Q=>∃d z,Rep H d x/\y=.str z/\Q (.bl (a1B d z)) H):=by
 intro pins s σ H x y v u Q I rx ry h;obtain⟨d,z,hd,rfl,q⟩:=h;obtain⟨t,rfl⟩:=ry;cases d with
 |non=>
  unfold Rep at hd;subst hd;exact a1k pins s σ H .non (.str z) v _ Q I rx ⟨t,rfl⟩ ⟨rfl,by simpa[a1B] using q⟩
 |bl b=>
  unfold Rep at hd;subst hd;exact a1k pins s σ H (.bl b) (.str z) v _ Q I rx ⟨t,rfl⟩ ⟨rfl,by simpa[a1B] using q⟩
 |int i=>
  unfold Rep at hd;subst hd;exact a1k pins s σ H (.int i) (.str z) v _ Q I rx ⟨t,rfl⟩ ⟨rfl,by simpa[a1B] using q⟩
 |str y=>
  unfold Rep at hd;obtain⟨rfl,_⟩:=hd;exact a1k pins s σ H (.str y) (.str z) v _ Q I rx ⟨t,rfl⟩ ⟨rfl,by rw[a7d];exact q⟩
 |tup ds=>
  unfold Rep at hd;obtain⟨a,xs,rfl,ha,_⟩:=hd;cases rx;obtain⟨its,_,p,_⟩:=I.tuple (SqT.of ha);exact SeqAt.RcAt.tuple_str z t p hu X.prog X.w X.xe _ ⟨.bl false,H,I,rfl,q⟩
 |lst ds=>
  unfold Rep at hd;obtain⟨a,xs,rfl,ha,_⟩:=hd;cases rx;obtain⟨its,_,p,_⟩:=I.list (SqL.of ha);exact SeqAt.RcAt.list_str z t p.isList hu X.prog X.w X.xe _ ⟨.bl false,H,I,rfl,q⟩
 |dct=>
  unfold Rep at hd;obtain⟨a,kvs,rfl,ha⟩:=hd;cases rx;obtain⟨_,_,vs,_,o,es,ep,h1,h2,h3,_⟩:=a5V I.hok ha;exact SeqAt.RcAt.dict_str z t h1 h2.1 h3 hu X.prog X.w X.xe _ ⟨.bl false,H,I,rfl,q⟩
theorem b4P {A:Around}{d:Dt}{x:V}{v:Value}(hu:A.units<cLine)(I:Inv X pins σ H s)(hd:Rep H d x)(rx:a1e x v)(z:Str)(t:Tok):SeqAt.EqAt A s (.str z t) v (a1B d z):=by
 cases d with
 |non=>
  unfold Rep at hd;subst hd;cases rx;exact SeqAt.EqAt.str_none z t
 |bl b=>
  unfold Rep at hd;subst hd;cases rx;exact SeqAt.EqAt.str_bool z t b
 |int i=>
  unfold Rep at hd;subst hd;obtain⟨t',rfl⟩:=rx;exact SeqAt.EqAt.str_int z t i t'
 |str y=>
  unfold Rep at hd;obtain⟨rfl,_⟩:=hd;obtain⟨t',rfl⟩:=rx;have e:a1B (.str y) z=(z==y):=by
   show(y==z)=(z==y)
   rw[Bool.eq_iff_iff,beq_iff_eq,beq_iff_eq];exact⟨Eq.symm,Eq.symm⟩
  rw[e];exact SeqAt.EqAt.str_str z t y t'
 |tup ds=>
  unfold Rep at hd;obtain⟨a,xs,rfl,ha,_⟩:=hd;cases rx;obtain⟨its,_,p,_⟩:=I.tuple (SqT.of ha);exact SeqAt.EqAt.str_tuple z t p hu
 |lst ds=>
  unfold Rep at hd;obtain⟨a,xs,rfl,ha,_⟩:=hd;cases rx;obtain⟨its,_,p,_⟩:=I.list (SqL.of ha);exact SeqAt.EqAt.str_list z t p.isList hu
 |dct=>
  unfold Rep at hd;obtain⟨a,kvs,rfl,ha⟩:=hd;cases rx;obtain⟨_,_,vs,_,o,es,ep,h1,h2,h3,_⟩:=a5V I.hok ha;exact SeqAt.EqAt.str_dict z t h1 h2.1 h3 hu
def b4W (d:Dt):Value->Bool
 | .str z _=>a1B d z
 |_=>false
theorem a7E {d:Dt}:∀{zs:List Str} {us:List Value},a1l (zs.map V.str) us->us.any (b4W d)=zs.any (a1B d)
 |[],_,r=>by rw[List.map_nil] at r;cases r;rfl
 |z::zs,_,r=>by
  rw[mN0] at r;cases r with
  |cons h t=>
   obtain⟨t',rfl⟩:=h;rw[List.any_cons,List.any_cons,a7E t]
   rfl
theorem b1l {zs:List Str}{us:List Value}(r:a1l (zs.map V.str) us):∀u∈us,∃z t,u=.str z t:=by
 intro u hu;obtain⟨i,hi,e⟩:=List.getElem_of_mem hu;have hl:=r.length
 have:(zs.map V.str)[i]? =some (.str (zs[i]'(by rw[lM0] at hl;omega))):=by
  rw[gM0,gE0 (by rw[lM0] at hl;omega)]
  rfl
 obtain⟨w,hw,rw'⟩:=r.get this;rw[gE0 hi,e] at hw;cases hw;obtain⟨t,rfl⟩:=rw';exact⟨_,t,rfl⟩
theorem b1E (hu:X.A.units+1<cLine):OpR X (compareOp .In) (fun x y H Q=>∃(d:Dt) (p:Addr) (zs:List Str),Rep H d x/\y=.ref p/\H p=some (.tup (zs.map V.str))/\Q (.bl (zs.any (a1B d))) H):=by
 intro pins s σ H x y v u Q I rx ry h;obtain⟨d,p,zs,hd,rfl,hp,q⟩:=h;cases ry;obtain⟨its,r,pl,_⟩:=I.tuple (SqT.of hp);refine SeqAt.in_tupleAt (b4W d) pl (fun w' hw=>?_) ⟨.bl _,H,I,rfl,?_⟩
 ·obtain⟨z,t,rfl⟩:=b1l r w' (by simpa using hw)
  exact b4P (A:=X.A.in1) hu I hd rx z t
 ·rw[show its.toArray.any (b4W d)=its.any (b4W d) by simp,a7E r]
  exact q
theorem a6s:OpR X (compareOp .LtE) (fun x y H Q=>∃i j,x=.str i/\y=.str j/\Q (.bl (!decide (j.cps.toList<i.cps.toList))) H):=by
 intro pins s σ H x y v u Q I rx ry h;obtain⟨i,j,rfl,rfl,q⟩:=h;obtain⟨t,rfl⟩:=rx;obtain⟨t',rfl⟩:=ry;exact PySem.P.le_str ⟨.bl _,H,I,rfl,q⟩
end
end L2
namespace My
open PySem L2 PyProof.Rows
theorem sl1:1<=sizeLine:=by decide
theorem sl2:2<=sizeLine:=by decide
theorem sl3:3<=sizeLine:=by decide
theorem sl4:4<=sizeLine:=by decide
theorem sl8:8<=sizeLine:=by decide
theorem pos {j:Int}(h:decide ((0:Int)<j)=true):0<j:=of_decide_eq_true h
def a7f (K:Fg0):Sp:=fun vs H Q _=>∃(v:V) (n:String),vs=[v]/\Is K H v n/\Q (.bl (n=="int")) H
theorem a6n {ns:List Int}{k:Int}(h0:0<=k)(h1:k<ns.length):atI (ns.map V.int) k=some (.int (ns.getD k.toNat 0)):=by
 obtain⟨j,rfl⟩:=Int.eq_ofNat_of_zero_le h0;refine a0P ?_;have hj:j<ns.length:=by omega
 rw[gM0,gE0 hj];simp[List.getD_eq_getElem?_getD,gE0 hj]
theorem boot_isi:bootBuiltins "isinstance"=some (.builtin "isinstance"):=by decide +kernel
theorem boot_int:bootBuiltins "int"=some (.type "int"):=by decide +kernel
theorem boot_bool:bootBuiltins "bool"=some (.type "bool"):=by decide +kernel
theorem boot_str:bootBuiltins "str"=some (.type "str"):=by decide +kernel
theorem boot_list:bootBuiltins "list"=some (.type "list"):=by decide +kernel
theorem boot_tuple:bootBuiltins "tuple"=some (.type "tuple"):=by decide +kernel
theorem boot_dict:bootBuiltins "dict"=some (.type "dict"):=by decide +kernel
theorem boot_ord:bootBuiltins "ord"=some (.builtin "ord"):=by decide +kernel
structure Bl (mg:Str->Option Value):Prop where
 len:mg "len"=none
 isi:mg "isinstance"=none
 int:mg "int"=none
 bool:mg "bool"=none
 str:mg "str"=none
 all:mg "all"=none
 range:mg "range"=none
 abs:mg "abs"=none
 ord:mg "ord"=none
 list:mg "list"=none
 tuple:mg "tuple"=none
 dict:mg "dict"=none
 any:mg "any"=none
 sorted:mg "sorted"=none
 set:mg "set"=none
 enum:mg "enumerate"=none
structure BlK (K:Fg0):Prop where
 len:PySem.W.nsIn K mainGlobals "len"=some none
 isi:PySem.W.nsIn K mainGlobals "isinstance"=some none
 int:PySem.W.nsIn K mainGlobals "int"=some none
 bool:PySem.W.nsIn K mainGlobals "bool"=some none
 str:PySem.W.nsIn K mainGlobals "str"=some none
 all:PySem.W.nsIn K mainGlobals "all"=some none
 range:PySem.W.nsIn K mainGlobals "range"=some none
 abs:PySem.W.nsIn K mainGlobals "abs"=some none
 ord:PySem.W.nsIn K mainGlobals "ord"=some none
 list:PySem.W.nsIn K mainGlobals "list"=some none
 tuple:PySem.W.nsIn K mainGlobals "tuple"=some none
 dict:PySem.W.nsIn K mainGlobals "dict"=some none
 any:PySem.W.nsIn K mainGlobals "any"=some none
 sorted:PySem.W.nsIn K mainGlobals "sorted"=some none
 set:PySem.W.nsIn K mainGlobals "set"=some none
 enum:PySem.W.nsIn K mainGlobals "enumerate"=some none
theorem BlK.bl {K:Fg0}{h:Heap}{mg:Str->Option Value}(b:BlK K)(X:K.In h)(G:h.Ns mainGlobals mg):Bl mg:=
 ⟨PySem.W.mg_none_of X G b.len,PySem.W.mg_none_of X G b.isi,PySem.W.mg_none_of X G b.int,PySem.W.mg_none_of X G b.bool,PySem.W.mg_none_of X G b.str,PySem.W.mg_none_of X G b.all,PySem.W.mg_none_of X G b.range,PySem.W.mg_none_of X G b.abs,PySem.W.mg_none_of X G b.ord,PySem.W.mg_none_of X G b.list,PySem.W.mg_none_of X G b.tuple,PySem.W.mg_none_of X G b.dict,PySem.W.mg_none_of X G b.any,PySem.W.mg_none_of X G b.sorted,PySem.W.mg_none_of X G b.set,PySem.W.mg_none_of X G b.enum⟩
theorem a6B {b:Bool}{A B:Prop}(h:b=true)(a:A):if b=true then A else B:=by rw[if_pos h];exact a
theorem a3e {b:Bool}{A B:Prop}(h:b=false)(a:B):if b=true then A else B:=by rw[h,if_neg bF0];exact a
theorem a8D {n k:Nat}:decide (V.int (n:Int)=V.int (k:Int))=decide (n=k):=by
 rw[Bool.eq_iff_iff,decide_eq_true_iff,decide_eq_true_iff]
 constructor
 ·intro e;injection e with e;omega
 ·intro e;rw[e]
def b3D (K:Fg0):Sp:=fun vs H Q _=>∃(a:Addr) (ns:List Int),vs=[.ref a]/\SqL K H a (ns.map V.int)/\ns.length<=63/\∀H',Q (.bl true) H'
theorem walk (k:Nat){l:PySem.W.OpenLaw}{q:Program}{loose:List Str}{XP:(Str->Option Value)->Heap->Prop}{YP:World->Heap->Prop}{d:DefRec}{K:Params->Fg0}(hk:a1g k callerA)(hn:l.most=some 63)(hdf:d.params.defaults=[])
  (hY:∀(w:World) (h:Heap),YP w h->(K w.params).In h)
  (F:∀(w:World) (mg:Str->Option Value) (fa:Addr) (h:Heap),(K w.params).In h->h.Ns mainGlobals mg->mg d.name=some (.ref fa) →
   ∃fd:FuncData,(∀(s:Shared) (u:Value),BindsTo s fd ⟨[u],[]⟩ [("_law_script",u)])/\∀base:Heap,(K w.params).In base->base.Ns mainGlobals mg->a0x l.prog w (K w.params) mg base CX0 k fa fd ["_law_script"] (b3D (K w.params))) :
  PySem.W.WalkO q loose XP YP l.row.toRowW d [] (fun f vs=>PySem.call f vs):=
 L2.b2x (n:=63) (k:=k) (x:="_law_script") (CX:=fun _=>CX0) (sp:=fun w=>b3D (K w.params)) hn (by decide) hdf hk hY F (fun _ _ a ns hl _ hS=>⟨a,ns,rfl,hS,hl,fun _=>rfl⟩) fun _ _ _ _ _ z=>z
end My
namespace L2
open PySem PySem.Spec PyProof.Rows
end L2
namespace Nm
open PySem PySem.NumText PySem.W PyProof.Rows
end Nm
namespace L2
open PySem PySem.Spec PyProof.Rows
end L2
namespace L2
open PySem
def Tb (h:Heap)(P:Addr->Prop)(x:Addr)(fl v:Value):Prop:=
 (v=.none/\fl=.none)\/∃T oT ts,v=.ref T/\P T/\T≠x/\h.get? T=some oT/\oT.data=.fields ts/\ts[3]? =some fl
def XAt (h:Heap)(P:Addr->Prop)(x:Addr)(C:Value)(od:Option Addr)(fl:Value):Prop:=
 ∃vs sl v1,h.get? x=some ⟨C,od,.fields vs,sl⟩/\vs[1]? =some v1/\Tb h P x fl v1
structure Nt (P:Addr->Prop) (fr:List Addr) (x:Addr) (h h':Heap):Prop where
 chg:∃ch:List Addr,(∀b∈ch,b=x\/P b/\∃o vs,h.get? b=some o/\o.data=.fields vs)/\∀b o,h.get? b=some o->b∉fr->b∉ch->h'.get? b=some o
 frm:∀b o,h.get? b=some o->b∈fr->∃sl,h'.get? b=some { o with slots:=sl }
 thr:∀b o,h.get? b=some o->∃o',h'.get? b=some o'
theorem Nt.refl {P:Addr->Prop}{fr:List Addr}{x:Addr}{h:Heap}:Nt P fr x h h:=⟨⟨[],(fun _ z=>absurd z (by simp)),fun _ _ e _ _=>e⟩,fun _ o e _=>⟨o.slots,e⟩,fun _ o e=>⟨o,e⟩⟩
section
variable {M:Model}{A:Around}{E:Vs0}{s:Shared}{base:Heap}{env:Env}{outer:List Env}{L x:Addr}{P:Addr->Prop}{C:Value}{od:Option Addr}
theorem a7R {vs:Array Value}{sl:Array (Option Value)}{head:Value}{had:Bool}{Q:Unit->Shared->Prop}(hfr:A.frames=some (env::outer))(hl:s.heap.FunFrames base (env::outer))(hf:env.frame=some L)
  (hx:s.heap.get? x=some ⟨C,od,.fields vs,sl⟩) (hsz:1<vs.size) (hP:∀T,s.heap.objs.size<=T->P T)
  (h:∀h',Nt P ((env::outer).filterMap (·.frame)) x s.heap h'->XAt h' P x C od (rawInt L)->Q () { s with heap:=h' }) :
  wpAny M A (do let a <-frameOf env;let pl <-entryPlaceOf L had;let b <-EntryCells.newEntry head a .none (rawInt L) .none pl;setField (.ref x) 1 b) Q E s:=by
 have nx:x∉(env::outer).filterMap (·.frame):=fun hm=>by
  obtain⟨_,o,ho,hnf⟩:=hl.mem hm;rw[hx] at ho;cases ho;exact hnf vs rfl
 refine wB0 (wpAny_frameOf_fun hfr hl hf fun h1 k1=>?_);refine wB0 (wpAny_entryPlaceOf fun pl hpl=>?_);unfold EntryCells.newEntry newFields;refine wB0 (wpAny_newObj_type ?_ (hpl.sizeOk5 _ _ _ _ _));generalize ho:(⟨.type "traceback",none,.fields ([head,.ref L,.none,rawInt L,.none]++(if pl.isEmpty then List.replicate 6 Value.none else pl)).toArray,#[]⟩:Obj)=ob;have x1:h1.get? x=some ⟨C,od,.fields vs,sl⟩:=(k1.2.1 x nx).trans hx;have x2:(h1.push ob).get? x=some ⟨C,od,.fields vs,sl⟩:=hP0 _ x1;have sz:h1.objs.size=s.heap.objs.size:=k1.1;refine wpAny_setField x2 rfl hsz (h _ ?_ ?_)
 ·have other:∀b o,b≠x->h1.get? b=some o->((h1.push ob).update x (Obj.mapFields (·.setIfInBounds 1 (.ref h1.objs.size)))).get? b=some o:=fun b o hb e=>by
   rw[Heap.get?_update_other _ _ (Ne.symm hb)];exact hP0 _ e
  refine⟨⟨[x],fun b hb=>.inl (mS0.mp hb),fun b o e hb hc=>?_⟩,fun b o e hb=>?_,fun b o e=>?_⟩
  ·exact other b o (fun z=>hc (by rw[z];exact mS0.mpr rfl)) ((k1.2.1 b hb).trans e)
  ·obtain⟨sl',e1⟩:=k1.2.2 b o e
   exact⟨sl',other b _ (fun z=>nx (z▸hb)) e1⟩
  ·by_cases hb:b=x
   ·subst hb
    exact⟨_,Heap.get?_update_self _ x2 rfl⟩
   ·obtain⟨sl',e1⟩:=k1.2.2 b o e
    exact⟨_,other b _ hb e1⟩
 ·have ne:h1.objs.size≠x:=Nat.ne_of_gt (hL0 x1)
  refine⟨_,_,.ref h1.objs.size,Heap.get?_update_self _ x2 rfl,(by show(vs.setIfInBounds 1 _)[1]? =_;simp[hsz]),.inr ⟨h1.objs.size,ob,_,rfl,hP _ (by rw[sz];exact nR0 _),ne,?_,(by rw[<-ho]),?_⟩⟩
  ·rw[Heap.get?_update_other _ _ (Ne.symm ne)]
   exact hS0 h1 (by rw[<-ho];rfl)
  ·first | (simp;done) | (rcases hpl with rfl |⟨_,_,_,_,_,_,_,rfl⟩<;>simp)
theorem Nt.trans {fr:List Addr}{h h1 h2:Heap}(n1:Nt P fr x h h1)(n2:Nt P fr x h1 h2)(fresh:∀b o,h.get? b=some o->b∈fr->∀vs,o.data≠.fields vs):Nt P fr x h h2:=by
 obtain⟨c1,p1,k1⟩:=n1.chg;obtain⟨c2,p2,k2⟩:=n2.chg;refine⟨⟨c1++c2.filter (fun b=>(h.get? b).isSome),fun b hb=>?_,fun b o e hb hc=>?_⟩,fun b o e hb=>?_,fun b o e=>?_⟩
 ·rcases mB0.mp hb with z |z
  ·exact p1 b z
  ·obtain⟨z1,z2⟩:=mF0.mp z
   by_cases hb1:b∈c1
   ·exact p1 b hb1
   rcases p2 b z1 with q |⟨q,o1,vs,e1,d1⟩
   ·exact .inl q
   ·refine .inr ⟨q,?_⟩
    cases g:h.get? b with
    |none=>rw[g] at z2;cases z2
    |some o=>
     by_cases hfr:b∈fr
     ·obtain⟨sl,e2⟩:=n1.frm b o g hfr
      rw[e1] at e2;cases e2;exact absurd d1 (fresh b o g hfr vs)
     ·have e2:=k1 b o g hfr hb1
      rw[e1] at e2;cases e2;exact⟨_,vs,rfl,d1⟩
 ·have m1:b∉c1:=fun z=>hc (List.mem_append_left _ z)
  have m2:b∉c2:=fun z=>hc (List.mem_append_right _ (mF0.mpr ⟨z,by rw[e];rfl⟩));exact k2 b o (k1 b o e hb m1) hb m2
 ·obtain⟨sl,e1⟩:=n1.frm b o e hb
  obtain⟨sl2,e2⟩:=n2.frm _ _ e1 hb;exact⟨sl2,e2⟩
 ·obtain⟨o1,e1⟩:=n1.thr b o e
  exact n2.thr _ _ e1
theorem a9k {Q:Unit->Shared->Prop}(hfr:A.frames=some (env::outer))(hl:s.heap.FunFrames base (env::outer))(hf:env.frame=some L)
  (hx:XAt s.heap P x C od .none) (hP:∀T,s.heap.objs.size<=T->P T)
  (h:∀h',Nt P ((env::outer).filterMap (·.frame)) x s.heap h'->XAt h' P x C od (rawInt L)->Q () { s with heap:=h' }):wpAny M A (noteFrame (.ref x) env) Q E s:=by
 obtain⟨vs,sl,v1,ex,e1,tb⟩:=hx;have hsz:1<vs.size:=(Array.getElem?_eq_some_iff.mp e1).1;unfold noteFrame;simp only[hf];refine wB0 (wpAny_field ex rfl e1 ?_);rcases tb with ⟨rfl,_⟩ |⟨T,oT,ts,rfl,pT,nT,eT,dT,fT⟩
 ·rw[if_neg (by decide)]
  exact a7R hfr hl hf ex hsz hP h
 ·rw[if_pos (show(Value.ref T != Value.none)=true from by simp)]
  refine wB0 (wpAny_field eT dT fT ?_);rw[if_neg (show ¬((Value.none==rawInt L)=true) from by simp[rawInt])];refine wB0 (wpAny_setField eT dT (Array.getElem?_eq_some_iff.mp fT).1 ?_);have oth:∀b,b≠T->(s.heap.update T (Obj.mapFields (·.setIfInBounds 3 Value.none))).get? b=s.heap.get? b:=fun b hb=>Heap.get?_update_other _ _ (Ne.symm hb);have nrec:∀b o,s.heap.get? b=some o->(∀vs,o.data≠.fields vs)->b≠T:=fun b o hb hn q=>by
   rw[q,eT] at hb;cases hb;exact hn ts dT
  have hl':=hl.of_keeps (h':=s.heap.update T (Obj.mapFields (·.setIfInBounds 3 Value.none))) fun b o hb hn=>⟨o,(oth b (nrec b o hb hn)).trans hb,rfl⟩;have frn:∀b o,s.heap.get? b=some o->b∈(env::outer).filterMap (·.frame)->∀vs,o.data≠.fields vs:=fun b o e hb=>by
   obtain⟨_,o',ho',hn⟩:=hl.mem hb;rw[e] at ho';cases ho';exact hn
  have N1:Nt P ((env::outer).filterMap (·.frame)) x s.heap (s.heap.update T (Obj.mapFields (·.setIfInBounds 3 Value.none))):=by
   refine⟨⟨[T],fun b hb=>.inr ?_,fun b o e _ hc=>?_⟩,fun b o e hb=>⟨o.slots,?_⟩,fun b o e=>?_⟩
   ·rw[mS0.mp hb]
    exact⟨pT,oT,ts,eT,dT⟩
   ·exact(oth b fun z=>hc (by rw[z];exact mS0.mpr rfl)).trans e
   ·exact(oth b (nrec b o e (frn b o e hb))).trans e
   ·by_cases hb:b=T
    ·rw[hb]
     exact⟨_,Heap.get?_update_self _ eT (Obj.isFreed_of_fields (Obj.data_mapFields dT _))⟩
    ·exact⟨o,(oth b hb).trans e⟩
  refine a7R (s:={ s with heap:=s.heap.update T (Obj.mapFields (·.setIfInBounds 3 Value.none)) }) hfr hl' hf ((oth x (Ne.symm nT)).trans ex) hsz (fun T' hT'=>hP T' (by rw[<-Heap.size_after_update s.heap T];exact hT')) fun h' n' x'=>h h' (N1.trans n' frn) x'
theorem a6W {fl:Value}{fr:List Addr}{Q:Unit->Shared->Prop}(hx:XAt s.heap P x C od fl)(frn:∀b o,s.heap.get? b=some o->b∈fr->∀vs,o.data≠.fields vs)
  (h:∀h',Nt P fr x s.heap h'->XAt h' P x C od .none->Q () { s with heap:=h' }):wpAny M A (setFlight (.ref x) none) Q E s:=by
 obtain⟨vs,sl,v1,ex,e1,tb⟩:=hx;unfold setFlight;refine wB0 (wpAny_field ex rfl e1 ?_);rcases tb with ⟨rfl,_⟩ |⟨T,oT,ts,rfl,pT,nT,eT,dT,fT⟩
 ·rw[if_neg (by decide)]
  exact wP0 (h s.heap .refl ⟨vs,sl,_,ex,e1,.inl ⟨rfl,rfl⟩⟩)
 ·rw[if_pos (show(Value.ref T != Value.none)=true from by simp)]
  refine wpAny_setField eT dT (Array.getElem?_eq_some_iff.mp fT).1 (h _ ?_ ?_)
  ·refine⟨⟨[T],fun b hb=>.inr ?_,fun b o e _ hc=>?_⟩,fun b o e hb=>⟨o.slots,?_⟩,fun b o e=>?_⟩
   ·rw[mS0.mp hb]
    exact⟨pT,oT,ts,eT,dT⟩
   ·rw[Heap.get?_update_other _ _ fun z=>hc (by rw[z];exact mS0.mpr rfl)]
    exact e
   ·rw[Heap.get?_update_other _ _ fun z=>?_]
    ·exact e
    ·subst z
     rw[eT] at e;cases e;exact frn T oT eT hb ts dT
   ·by_cases hb:b=T
    ·rw[hb]
     exact⟨_,Heap.get?_update_self _ eT (Obj.isFreed_of_fields (Obj.data_mapFields dT _))⟩
    ·exact⟨o,by rw[Heap.get?_update_other _ _ (Ne.symm hb)];exact e⟩
  ·refine⟨vs,sl,.ref T,by rw[Heap.get?_update_other _ _ nT];exact ex,e1,.inr ⟨T,_,_,rfl,pT,nT,Heap.get?_update_self _ eT (Obj.isFreed_of_fields (Obj.data_mapFields dT _)),Obj.data_mapFields dT _,?_⟩⟩
   have:=(Array.getElem?_eq_some_iff.mp fT).1
   simp[this]
theorem b0O {Q:Unit->Shared->Prop}(hfr:A.frames=some (env::outer))(hl:s.heap.FunFrames base (env::outer))(hf:env.frame=some L)
  (hx:XAt s.heap P x C od .none) (hP:∀T,s.heap.objs.size<=T->P T)
  (h:∀h',Nt P ((env::outer).filterMap (·.frame)) x s.heap h'->XAt h' P x C od .none->Q () { s with heap:=h' }):wpAny M A (leaving env (.ref x)) Q E s:=by
 have frn:∀b o,s.heap.get? b=some o->b∈(env::outer).filterMap (·.frame)->∀vs,o.data≠.fields vs:=fun b o e hb=>by
  obtain⟨_,o',ho',hn⟩:=hl.mem hb;rw[e] at ho';cases ho';exact hn
 unfold leaving;refine wB0 (a9k hfr hl hf hx hP fun h1 n1 x1=>?_);refine a6W (s:={ s with heap:=h1 }) (fr:=(env::outer).filterMap (·.frame)) x1 (fun b o e hb=>?_) fun h2 n2 x2=>h h2 (n1.trans n2 frn) x2;obtain⟨_,o',ho',hn⟩:=hl.mem hb;obtain⟨sl,e1⟩:=n1.frm b o' ho' hb;have e':h1.get? b=some o:=e;rw[e1] at e';cases e';exact hn
end
end L2
namespace L2
open PySem PySem.Spec PyProof.Rows
theorem Tb.imp {h:Heap}{P P':Addr->Prop}{x:Addr}{fl v:Value}(t:Tb h P x fl v)(k:∀b,P b->P' b):Tb h P' x fl v:=by
 rcases t with z |⟨T,oT,ts,a,b,c⟩
 ·exact .inl z
 ·exact .inr ⟨T,oT,ts,a,k T b,c⟩
theorem XAt.imp {h:Heap}{P P':Addr->Prop}{x:Addr}{C:Value}{od:Option Addr}{fl:Value}(t:XAt h P x C od fl)(k:∀b,P b->P' b):XAt h P' x C od fl:=by
 obtain⟨vs,sl,v1,a,b,c⟩:=t;exact⟨vs,sl,v1,a,b,c.imp k⟩
structure Our (X:Cx) (pins:List (Addr×Obj)) (H:Hp) (b:Addr):Prop where
 new:X.s₀.heap.objs.size<=b
 loc:b≠X.env.locals
 cel:∀y c,X.env.cells.lookup y=some c->c≠b
 pin:∀p∈X.pn++pins,p.1≠b
 unt:H b=none
section
variable {X:Cx}{pins:List (Addr×Obj)}{σ:St}{H H':Hp}{s s':Shared}{x b:Addr}{C:Value}{od:Option Addr}
theorem Inv.our' (I:Inv X pins σ H s)(h:s.heap.objs.size<=b)(hn:H' b=none):Our X pins H' b:=by
 have lt:∀c o,s.heap.get? c=some o->c≠b:=fun c o e z=>by
  subst z;exact absurd (Nat.lt_of_lt_of_le (hL0 e) h) (Nat.lt_irrefl _)
 refine⟨Nat.le_trans I.sz h,fun z=>?_,fun y c e=>?_,fun p hp=>?_,hn⟩
 ·obtain⟨m,⟨o,_,_,ho,_⟩,_⟩:=I.loc
  exact lt _ o ho z.symm
 ·obtain⟨v,o,ho,_⟩:=I.cell y c e
  exact lt c o ho
 ·exact lt p.1 _ (I.pin p hp).1
theorem Inv.our (I:Inv X pins σ H s)(h:s.heap.objs.size<=b):Our X pins H b:=I.our' h (I.hok.fresh h)
theorem Inv.noted {h':Heap}(I:Inv X pins σ H s)(hx:Our X pins H x)(n:Nt (Our X pins H) (frs X.stack) x s.heap h'):Inv X pins σ H { s with heap:=h' }:=by
 obtain⟨ch,pc,kc⟩:=n.chg;have oc:∀b∈ch,Our X pins H b:=fun b hb=>by
  rcases pc b hb with z |z
  ·rw[z];exact hx
  ·exact z.1
 have nfs:∀b,b≠X.env.locals->b∉X.fs->b∉frs X.stack:=fun b h1 h2 z=>by
  rcases mK0.mp (I.stkSub b z) with q |q
  ·exact h1 q
  ·exact h2 q
 refine I.step (g':=s.gens) (d':=s.drawn) (t':=s.toks) (ch:=ch) (fun b hb=>⟨.inr (oc b hb).new,(oc b hb).loc,(oc b hb).cel,(oc b hb).pin⟩) (fun b o h1 h2 h3 e _=>kc b o e (nfs b h1 h2) h3) (fun b o _ _ h3 e _=>?_) (fun _ _ _ _ z=>z)
  (fun b o _ e=>n.thr b o e) (fun _ _ e=>e) (fun _ _ _ e=>e) (fun b ps e=>⟨#[],by rw[e];simp⟩) (fun m hm=>?_) (fun a o e=>?_) I.bare
 ·by_cases hf:b∈frs X.stack
  ·exact n.frm b o e hf
  ·exact⟨o.slots,kc b o e hf h3⟩
 ·obtain⟨o,es,ep,ho,hd,r⟩:=hm
  by_cases hf:X.env.locals∈frs X.stack
  ·obtain⟨sl,e⟩:=n.frm _ o ho hf
   exact⟨_,es,ep,e,hd,r⟩
  ·exact⟨o,es,ep,kc _ o ho hf (fun z=>(oc _ z).loc rfl),hd,r⟩
 ·refine(I.hok a o e).stay (fun c u hc q=>kc c u q ?_ ?_) (fun _ q=>q) fun _ _ q=>q
  ·intro z
   have:=I.stkFree c z
   rcases hc with rfl |hc
   ·rw[this] at e;cases e
   ·rw[this] at hc;cases hc
  ·intro z
   have:=(oc c z).unt
   rcases hc with rfl |hc
   ·rw[this] at e;cases e
   ·rw[this] at hc;cases hc
theorem Inv.leave {M:Model}{E:Vs0}{Q:Unit->Shared->Prop}(I:Inv X pins σ H s)(hst:X.stack=X.env::X.outer)(hf:X.env.frame=some X.env.locals)(hx:Our X pins H x)(xa:XAt s.heap (Our X pins H) x C od .none)
  (h:∀s',Inv X pins σ H s'->XAt s'.heap (Our X pins H) x C od .none->Q () s'):wpAny M X.A (leaving X.env (.ref x)) Q E s:=
 b0O (base:=X.base) (by rw[I.ok.frames,hst]) (by rw[<-hst];exact I.stack) hf xa (fun T hT=>I.our hT) fun h' n xa'=>h _ (I.noted hx (by rw[hst];exact n)) xa'
end
def CX1 (P:Program)(w:World):CXT:=fun outer H s E e s'=>∃x C od H',e=.ref x/\s'.os=s.os/\AllBare s'.gens/\Un (frs outer) [] H H' s.heap s'.heap/\HOk P w H' s'.heap/\s.heap.objs.size<=x/\H' x=none ∧
 XAt s'.heap (fun T=>s.heap.objs.size<=T/\H' T=none) x C od .none/\E C od H'
abbrev XS:=Value->Option Addr->St->Hp->Prop
def a6z (X:Cx)(E:XS):Prop:=∀(pins:List (Addr×Obj)) (σ:St) (H:Hp) (s:Shared) (x:Addr) (C:Value) (od:Option Addr),Inv X pins σ H s->Our X pins H x->XAt s.heap (Our X pins H) x C od .none->E C od σ H->X.xe (.ref x) s
theorem a1q {P:Program}{w:World}{K:Fg0}{mg:Str->Option Value}{base:Heap}{N:List Str}{qual:Str}{scope:Scope}{f:Addr}{cd:Value}{A:Around}{outer:List Env}{s₀:Shared}{H₀:Hp}{E:XK} :
  a6z (a7U (CX1 P w) P w K mg base N qual scope f cd A outer s₀ H₀ E) (fun C od _ H=>E C od H):=by
 intro pins σ H s x C od I hx xa q;exact I.leave (Q:=fun _ s''=>CX1 P w outer H₀ s₀ E (.ref x) s'') rfl rfl hx xa fun s' I' xa'=>⟨x,C,od,H,rfl,I'.os,I'.bare,I'.base,I'.hok,hx.new,hx.unt,xa'.imp fun T o=>⟨o.new,o.unt⟩,q⟩
theorem a6z.pass {X:Cx}{E:XS}(L:a6z X E){pins:List (Addr×Obj)}{σ:St}{H:Hp}{s s':Shared}{e:Value}(I:Inv X pins σ H s)(h:CX1 X.prog X.w X.stack H s (fun C od H'=>E C od σ H') e s'):X.xe e s':=by
 obtain⟨x,C,od,H',rfl,os,bare,un,hok,nx,hx,xa,q⟩:=h;have I':Inv X pins σ H' s':=I.call' os un hok bare (fun b z=>absurd z (by simp));exact L pins σ H' s' x C od I' (I.our' nx hx) (xa.imp fun T z=>I.our' z.1 z.2) q
section
variable {X:Cx}{k:Nat}{f C:Addr}{fd:FuncData}{ps:List Str}{sp:Sp}{dvs:List V}{ds:List Value}{E:XS}{x m:Str}{p pos apos:Pos}{e o:Expr}{es:List Expr}{ta:TE}{t:TA}
theorem b0c {pins:List (Addr×Obj)}{σ:St}{H:Hp}{s:Shared}{Q:VK}{us:List Value}{vs:List V}(F:a0x X.prog X.w X.K X.mg X.base (CX1 X.prog X.w) k f fd ps sp)(hr:a1g k X.A)(hb:a1C X.K fd ps ds)(hd:a1l dvs ds)(L:a6z X E)
  (I:Inv X pins σ H s) (r:a1l vs us) (h:sp (vs++dvs) H Q (fun C od H'=>E C od σ H')):wpAny (model X.prog X.w) X.A (call (.ref f) us) (EP X pins σ Q) X.xe s:=by
 have r2:a1l (vs++dvs) (us++ds):=r.append hd;have hl:(us++ds).length=ps.length:=by rw[<-r2.length];exact F.len _ _ _ _ h
 refine wpAny_call (codeAny_mono (F.run X.A X.stack s H ⟨us,[]⟩ (us++ds) (vs++dvs) Q _ hr I.env0 (hb s us I.kIn hl) r2 h) fun r s' hq=>?_);cases r with
 |error e=>exact L.pass I hq
 |ok fl=>
  cases fl with
  |ret u=>exact I.after hq
  |next=>exact False.elim hq
  |brk=>exact False.elim hq
  |cont=>exact False.elim hq
def b4g (sp:Sp)(dvs:List V)(E:XS)(t:TA):TE:=fun σ H Q=>t σ H fun vs H1=>sp (vs++dvs) H1 Q (fun C od H'=>E C od σ H')
def b4O (C:Addr)(m:Str)(sp:Sp)(dvs:List V)(E:XS)(ta:TE)(t:TA):TE:=fun σ H Q=>ta σ H fun x H1=>∃a dx fs,x=.ref a/\H1 a=some (.ins C dx fs)/\fs.lookup m=none ∧
 t σ H1 fun vs H2=>sp (x::(vs++dvs)) H2 Q (fun C od H'=>E C od σ H')
theorem a1v (F:a0x X.prog X.w X.K X.mg X.base (CX1 X.prog X.w) k f fd ps sp)(hr:a1g k X.A)(hg:Gl X x)(hm:X.mg x=some (.ref f))(hk:PySem.W.keepIn X.K (.ref f)=true)(hb:a1C X.K fd ps ds)(hd:a1l dvs ds)(L:a6z X E)
  (ha:PA X (e::es) t) (hdb:(x==("__debug__":Str))=false:=by decide) (he:starEach (e::es) X.env=(false,eval e X.env)::starEach es X.env:=by rfl) (hpl:(backTo pos (starEach es X.env)).any (·.1)=false:=by rfl) :
  PE X (.Call (.Name x p) (e::es) [] pos) (b4g sp dvs E t):=by
 intro pins s σ H Q I h;refine wpAny_Call_Name_kw (a3a I hg hm ?_ hdb);refine PySem.W.callWith_K (h₀:=X.base) I.ok.mod.kin hk (thn (ha pos pins s σ H _ I h) fun us s1 ⟨vs,H1,I1,r,q⟩=>⟨I1.kIn,?_⟩) he hpl;exact b0c F hr hb hd L I1 r q
theorem a3T {pl:Sem Bool}(he:PE X o ta)(c:Cls X.K C)(hm:a6C X.K C m f)(F:a0x X.prog X.w X.K X.mg X.base (CX1 X.prog X.w) k f fd ps sp)(hr:a1g k X.A)(hb:a1C X.K fd ps ds)(hd:a1l dvs ds)(L:a6z X E)(ha:PA X (e::es) t)
  (hst:starEach (e::es) X.env=(false,eval e X.env)::starEach es X.env:=by rfl) (hpl:(backTo pos (starEach es X.env)).any (·.1)=false:=by rfl)
  (ht:eval (.Call (.Attribute o m apos) (e::es) [] pos) X.env=(do
   let ov <-eval o X.env
   standAt apos.atName
   let (f,first) <-holding [ov] (getMethod ov m pl)
   callWith pos f first (backTo pos (starEach (e::es) X.env)) (backToKw pos (keywordEach [] X.env))):=by rfl) :
  PE X (.Call (.Attribute o m apos) (e::es) [] pos) (b4O C m sp dvs E ta t):=by
 intro pins s σ H Q I h;refine PySem.W.methodCall_KW (pl:=pl) (thn (he pins s σ H _ I h) fun u s1 ⟨x,H1,I1,rx,a,dx,fs,ex,ea,l,q⟩=>?_) ht;subst ex;obtain rfl:u=Value.ref a:=rx;refine a2V I1 ea c hm l ?_;refine PySem.W.callWith_K (first:=[.ref a]) (h₀:=X.base) I.ok.mod.kin hm.kp (thn (ha pos pins s1 σ H1 _ I1 q) fun us s2 ⟨vs,H2,I2,r,q2⟩=>⟨I2.kIn,?_⟩) hst hpl;exact b0c (us:=.ref a::us) (vs:=.ref a::vs) F hr hb hd L I2 (.cons rfl r) q2
end
end L2
namespace L2
open PySem PySem.Spec PyProof.Rows Builtin Builtin.ObjectAttr
abbrev bmV:List Value:=[.type "ValueError",.type "Exception",.type "BaseException",.type "object"]
def a2I:List Value->Bool
 |[]=>false
 |v::r=>(v::r)==bmV || match v with | .ref _=>a2I r |_=>false
theorem a1z {X:String}{b:Bool}(hb:bmV.contains (.type X)=b):∀{l:List Value},a2I l=true->l.contains (.type X)=b
 |[],e=>by cases e
 |v::r,e=>by
  unfold a2I at e;rcases Bool.or_eq_true_iff.mp e with q |q
  ·rw[beq_iff_eq.mp q];exact hb
  ·cases v with
   |ref a=>
    have q':a2I r=true:=q;rw[List.contains_cons,a1z hb q']
    rfl
   |_=>exact Bool.noConfusion q
theorem a4D (self:Value):∀{l:List Value},a2I l=true->refuseLoop self "__setattr__" l=pure ()
 |[],e=>by cases e
 |v::r,e=>by
  unfold a2I at e;rcases Bool.or_eq_true_iff.mp e with q |q
  ·rw[beq_iff_eq.mp q];exact PySem.F.store_ValueError.passes self
  ·cases v with
   |ref a=>
    rw[refuseLoop_ref];exact a4D self (l:=r) q
   |_=>exact Bool.noConfusion q
structure XCl (K:Fg0) (C:Addr):Prop where
 at_:∃(nm q:Str) (N:Addr) (bs bm:List Value) (sn:List Str) (sub:List Value) (ab:Bool) (col:Option Bool) (dd:Option Addr) (k0 k1 k2 k3 k5:Option Value),K.lookup C=some (excClassObj nm q C N bs bm true sn sub ab col dd k0 k1 k2 k3 k5 "ValueError.__new__")/\a2I bm=true
 ga:PySem.W.findIn K (.ref C) "__getattribute__"=some (some (.builtin "BaseException.__getattribute__"))
 gx:PySem.W.findIn K (.ref C) "__getattr__"=some none
 sa:PySem.W.findIn K (.ref C) "__setattr__"=some (some (.builtin "object.__setattr__"))
 kp:PySem.W.keepIn K (.ref C)=true
theorem b4B {K:Fg0}{C N:Addr}{nm q:Str}{bs bm:List Value}{sn:List Str}{sub:List Value}{ab:Bool}{col:Option Bool}{dd:Option Addr}{k0 k1 k2 k3 k5:Option Value}
  (l:K.lookup C=some (excClassObj nm q C N bs bm true sn sub ab col dd k0 k1 k2 k3 k5 "ValueError.__new__")) (t:a2I bm=true) (ga:PySem.W.findIn K (.ref C) "__getattribute__"=some (some (.builtin "BaseException.__getattribute__")))
  (gx:PySem.W.findIn K (.ref C) "__getattr__"=some none) (sa:PySem.W.findIn K (.ref C) "__setattr__"=some (some (.builtin "object.__setattr__"))) (kp:PySem.W.keepIn K (.ref C)=true):XCl K C:=
 ⟨⟨nm,q,N,bs,bm,sn,sub,ab,col,dd,k0,k1,k2,k3,k5,l,t⟩,ga,gx,sa,kp⟩
section
variable {prog:Program}{w:World}{A:Around}{E:Vs0}{h:Heap}{g:Array GenState}{d:Drawn}{t:Nat}{os:OsState}
variable {nm q:Str}{C N:Addr}{bs bm:List Value}{sn:List Str}{sub:List Value}{ab:Bool}{col:Option Bool}{dd:Option Addr}{k0 k1 k2 k3 k5:Option Value}
theorem b2G {M:Model}{rest:List Value}{Q:Unit->Shared->Prop}(tv:a2I bm=true)(hC:h.get? C=some (excClassObj nm q C N bs bm true sn sub ab col dd k0 k1 k2 k3 k5 "ValueError.__new__"))
  (hq:Q () ⟨h,g,d,t,os⟩):wpAny M A (checkBuiltinCall "ValueError.__new__" ⟨.ref C::rest,[]⟩) Q E ⟨h,g,d,t,os⟩:=by
 have F:=PySem.F.excBase_ValueError;have hc:(Value.ref C::bm).contains (.type "ValueError")=true:=by rw[List.contains_cons,a1z (X:="ValueError") rfl tv];rfl
 have ns:=F.noStar;simp only[checkBuiltinCall,F.newKind,F.newSplit,F.newRow]
 repeat (first |refine wpAny_loadPart_at hC ?_ | (refine wpAny_isSubtype_exc hC ?_;rw[hc]) |refine wpAny_staticBase_exc hC ?_ |refine wpAny_madeBy_exc hC ?_ |simp only[bne_self_eq_false,Bool.false_eq_true,if_false] |wp_step)
 exact hq
abbrev b0n (rest:List Value):Obj:={ cls:=.type "tuple",data:=.seq rest.toArray }
abbrev a4v (C:Addr)(od:Option Addr)(t:Addr):Obj:=⟨.ref C,od,.fields #[.ref t,.none,.none,.none,.bool false,.none],#[]⟩
theorem xnew {R:Result->Shared->Prop}{rest:List Value}(tv:a2I bm=true)(hC:h.get? C=some (excClassObj nm q C N bs bm true sn sub ab col dd k0 k1 k2 k3 k5 "ValueError.__new__"))
  (hq:R (.ok (.ret (.ref (h.objs.size+1)))) ⟨(h.push (b0n rest)).push (a4v C none h.objs.size),g,d,t,os⟩) (hrest:rest.length<=sizeLine) :
  codeAny (model prog w) A (.builtin "ValueError.__new__" ⟨.ref C::rest,[]⟩) R ⟨h,g,d,t,os⟩:=by
 have F:=PySem.F.excBase_ValueError;have fe:=F.ends;have c1:(Value.ref C::bm).contains (.type "ValueError")=true:=by rw[List.contains_cons,a1z (X:="ValueError") rfl tv];rfl
 have c2:(Value.ref C::bm).contains (.type "AttributeError")=false:=by rw[List.contains_cons,a1z (X:="AttributeError") rfl tv];rfl
 have c3:(Value.ref C::bm).contains (.type "NameError")=false:=by rw[List.contains_cons,a1z (X:="NameError") rfl tv];rfl
 refine codeAny_builtinAt F.entry ?_;unfold Builtin.«BaseException.__new__»;refine PySem.wpAt_bind ?_;show PySem.wpAt _ _ _ (stack >>= _) _ _ _;refine PySem.wpAt_bind (PySem.wpAt_stack fun p below=>PySem.wpAt_of_wpAny ?_)
 wp_walk
 refine PySem.wpAt_of_wpAny ?_;rw[F.owner]
 repeat (first |with_reducible refine wpAny_madeHere_exc F.canon hC ?_ |with_reducible refine wpAny_loadPart_at hC ?_ | (with_reducible refine wpAny_isSubtype_exc hC ?_;first |rw[c1] |rw[c2] |rw[c3]) |wp_step)
 show R _ _;rw[Heap.size_push];exact hq
theorem a8v {rest:List Value}{fI:Addr}{oI:Obj}{Q:Fin->Shared->Prop}(tv:a2I bm=true)(hC:h.get? C=some (excClassObj nm q C N bs bm true sn sub ab col dd k0 k1 k2 k3 k5 "ValueError.__new__"))
  (hi:PySem.W.Looks (model prog w) h (typeLookup (.ref C) "__init__") (some (.ref fI))) (hf:h.get? fI=some oI) (hfc:oI.cls=.type "function") (hrest:rest.length<=sizeLine)
  (hq:wpAny (model prog w) A (call (.ref fI) (.ref (h.objs.size+1)::rest)) (fun r s'=>r=.none/\Q (.done (.ret (.ref (h.objs.size+1)))) s') E ⟨(h.push (b0n rest)).push (a4v C none h.objs.size),g,d,t,os⟩) :
  wpAny (model prog w) A (Builtin.«type.__call__» ⟨.ref C::rest,[]⟩) Q E ⟨h,g,d,t,os⟩:=by
 have F:=PySem.F.excBase_ValueError
 repeat (first |with_reducible refine wpAny_loadPart_at hC ?_ |with_reducible refine wpAny_madeBy_exc hC ?_ |wp_step)
 refine codeAny_call_builtin_code (Code.quiet_builtin _ F.quiet) (b2G tv hC ?_);refine xnew tv hC ?_ hrest;show wpAny _ _ _ _ _ _;have kp:∀b o,h.get? b=some o->((h.push (b0n rest)).push (a4v C none h.objs.size)).get? b=some o:=fun b o e=>hP0 _ (hP0 _ e);have hg2:((h.push (b0n rest)).push (a4v C none h.objs.size)).get? (h.objs.size+1)=some (a4v C none h.objs.size):=by
  have:=hS0 (h.push (b0n rest)) (o:=a4v C none h.objs.size) rfl
  rwa [Heap.size_push] at this
 have hcC:(Value.ref C::bm).contains (.ref C)=true:=by simp
 unfold isInstance
 repeat (first |with_reducible refine wpAny_loadPart_at hg2 ?_ | (with_reducible refine wpAny_isSubtype_exc (kp _ _ hC) ?_;rw[hcC]) |wp_step)
 show wpAny _ _ (typeLookup (.ref C) _) _ _ _;refine hi _ _ _ _ kp ?_;refine wpAny_holding (wB0 ?_);unfold bindSpecial;refine wB0 (wpAny_typeOf (T:="function") ⟨_,kp _ _ hf,hfc⟩ ?_);rw[if_pos (by decide)];refine wP0 (wB0 (wpAny_mono hq (fun r s' hr=>?_) fun _ _ x=>x));obtain⟨rfl,hQ⟩:=hr
 wp_walk
 exact hQ
theorem b5s {rest:List Value}{fI:Addr}{oI:Obj}{Q:Vs0}(tv:a2I bm=true)(hC:h.get? C=some (excClassObj nm q C N bs bm true sn sub ab col dd k0 k1 k2 k3 k5 "ValueError.__new__"))
  (hi:PySem.W.Looks (model prog w) h (typeLookup (.ref C) "__init__") (some (.ref fI))) (hf:h.get? fI=some oI) (hfc:oI.cls=.type "function") (hrest:rest.length<=sizeLine)
  (hq:wpAny (model prog w) (A.under (.builtin "type.__call__" ⟨.ref C::rest,[]⟩)) (call (.ref fI) (.ref (h.objs.size+1)::rest)) (fun r s'=>r=.none/\Q (.ref (h.objs.size+1)) s') E ⟨(h.push (b0n rest)).push (a4v C none h.objs.size),g,d,t,os⟩) :
  wpAny (model prog w) A (call (.ref C) rest) Q E ⟨h,g,d,t,os⟩:=by
 have f1:=tc_lookup;have f2:=tc_bind (.ref C);have hT:(⟨h,g,d,t,os⟩:Shared).TypeIs (.ref C) "type":=⟨_,hC,rfl⟩;refine wpAny_call (codeAny_of_tree ?_);show wpAny _ _ (callAny (.ref C) _) _ _ _
 repeat (any_goals (first |assumption |with_reducible refine wpAny_loadPart_at hC ?_ |wp_step))
 refine⟨rfl,?_⟩;exact codeAny_call_builtin_at (Code.quiet_builtin _ (by decide +kernel)) entry_typeCall (wpAny_check_type_call_sub hC (a8v tv hC hi hf hfc hrest hq))
theorem b1F {M:Model}{s:Shared}{env:Env}{x:Sem Value}{Q:Flow->Shared->Prop}(hh:A.handled=none)
  (hx:wpAny M A x (fun v s₁=>∃e C nm q N bs bm sn sub ab col dd k0 k1 k2 k3 k5 od t0,v=.ref e/\s₁.heap.get? C=some (excClassObj nm q C N bs bm true sn sub ab col dd k0 k1 k2 k3 k5 "ValueError.__new__")/\a2I bm=true/\s₁.heap.get? e=some (a4v C od t0)/\E (.ref e) s₁) E s) :
  wpAny M A (raiseStmt env (some x) none) Q E s:=by
 unfold raiseStmt;refine wB0 (wpAny_mono hx (fun v s₁ h₁=>?_) fun _ _ z=>z);obtain⟨e,C,nm,q,N,bs,bm,sn,sub,ab,col,dd,k0,k1,k2,k3,k5,od,t0,rfl,hC,tv,he,hE⟩:=h₁;obtain⟨hp,g,d,tk,os⟩:=s₁;have hb:(Value.ref C::bm).contains (.type "BaseException")=true:=by rw[List.contains_cons,a1z (X:="BaseException") rfl tv];rfl
 repeat (first |with_reducible refine wpAny_loadPart_at he ?_ |with_reducible refine wpAny_loadPart_at hC ?_ | (with_reducible refine wpAny_isSubtype_exc hC ?_;rw[hb]) |wp_step)
 exact wpAny_raiseNew_none hh hE
end
section
variable {prog:Program}{w:World}{A:Around}{E:Vs0}{s:Shared}{K:Fg0}{x C dx t0:Addr}{name:Str}{v:Value}
theorem XCl.cls (c:XCl K C):∃cd bm,PySem.W.clsIn K C=some cd/\cd.mro=.ref C::bm/\a2I bm=true/\cd.hasDict=true:=by
 obtain⟨nm,q,N,bs,bm,sn,sub,ab,col,dd,k0,k1,k2,k3,k5,l,tv⟩:=c.at_;have e:PySem.W.clsIn K C=some ⟨nm,bs,.ref C::bm,N,q,true,sn,sub,ab,col,false⟩:=by
  unfold PySem.W.clsIn;rw[l]
 exact⟨_,bm,e,rfl,tv,rfl⟩
theorem xosa {ox:Obj}{od:Option Obj}{tk:Tok}{R:Result->Shared->Prop}(Xk:K.In s.heap)(I:PySem.W.InstAt s.heap x ox C od)(c:XCl K C)(n:PySem.W.findIn K (.ref C) name=some none)
  (h:wpAny (model prog w) A.in1 (storeInOwnDict (.ref x) (.ref C) (.str name tk) name v false)
   (fun fin s'=>match fin with | .done f=>R (.ok f) s' | .again c'=>c'.quiet=true/\codeAny (model prog w) A c' R s') (fun e s'=>R (.error e) s') s) :
  codeAny (model prog w) A (.call (.builtin "object.__setattr__") ⟨[.ref x,.str name tk,v],[]⟩) R s:=by
 have SF:=PySem.F.store_ValueError;obtain⟨cd,bm,hc,hm,tv,_⟩:=c.cls;have sub:PySem.W.Looks (model prog w) s.heap (isInstance (.ref x) (.type "object")) true:=I.type.andThen (PySem.W.looks_mroIn Xk (by
  unfold PySem.W.mroIn;rw[hc,Option.bind_some,hm];show some (List.contains _ _)=_;rw[List.contains_cons,a1z (X:="object") rfl tv]
  rfl))
 refine codeAny_call_builtin SF.slot.plain SF.entry (@PySem.W.check_slot (model prog w) _ _ s "object.__setattr__" "object" "__setattr__" (.ref x) [.str name tk,v] [] _ SF.kind SF.split sub (SF.args (.ref x) (.str name tk) v) ?_);have lm:PySem.W.Looks (model prog w) s.heap (mroOf (.ref C)) cd.mro:=(PySem.W.looks_clsIn Xk hc).andThen .now;rw[PySem.W.osa_eq,refuse_eq];refine wB0 (wB0 (I.type.here (wB0 (lm.here ?_))));rw[hm,refuseLoop_ref,a4D _ tv];refine wP0 (wB0 (I.type.here (wB0 ((PySem.W.looks_findIn Xk n).here (wB0 (PySem.W.Looks.here (r:=none) .now ?_))))));exact h
theorem b1d {Q:Unit->Shared->Prop}(Xk:K.In s.heap)(c:XCl K C)(n:PySem.W.findIn K (.ref C) name=some none)(hx:s.heap.get? x=some (a4v C none t0))
  (hq:∀h' tk',h'.get? x=some (a4v C (some s.heap.objs.size) t0)->h'.Ns1 s.heap.objs.size (fun y=>if y=name then some v else none)->(∀b o,b≠x->s.heap.get? b=some o->h'.get? b=some o)->Q () { s with heap:=h',toks:=tk' }) :
  wpAny (model prog w) A (setAttr (.ref x) name v) Q E s:=by
 obtain⟨h,g,d,t,os⟩:=s;obtain⟨cd,bm,hc,hm,tv,hd⟩:=c.cls;have J:PySem.W.InstAt h x (a4v C none t0) C none:=⟨hx,rfl,rfl,trivial⟩;refine PySem.W.set_plain (s:=⟨h,g,d,t,os⟩) Xk J c.sa (xosa (s:=⟨h,g,d,t+1,os⟩) Xk J c n ?_);refine wB0 (wP0 (wB0 (wB0 (wpAny_loadPart_at hx (wB0 (PySem.W.Looks.here (s:=⟨h,g,d,t+1,os⟩) (PySem.W.looks_clsIn Xk hc) ?_))))));rw[hd];have hx1:(h.push { cls:=.type "dict",data:=.dict #[] }).get? x=some (a4v C none t0):=hP0 _ hx;have hxs:x≠h.objs.size:=nL0 (hL0 hx);refine wB0 (wpAny_alloc' ?_);refine wB0 (wpAny_update' hx1 ?_);refine wP0 ?_;have g1:((h.push { cls:=.type "dict",data:=.dict #[] }).update x fun o=>{ o with dict:=some h.objs.size }).get? h.objs.size=some { cls:=.type "dict",data:=.dict #[] }:=
  (Heap.get?_update_ne _ _ _ _ hxs.symm).trans (Heap.get?_push_at rfl rfl)
 have g2:((h.push { cls:=.type "dict",data:=.dict #[] }).update x fun o=>{ o with dict:=some h.objs.size }).get? x=some (a4v C (some h.objs.size) t0):=Heap.get?_update_self _ hx1 rfl;have gn:((h.push { cls:=.type "dict",data:=.dict #[] }).update x fun o=>{ o with dict:=some h.objs.size }).Ns h.objs.size (fun _=>none):=⟨_,#[],_,g1,rfl,fun e he=>absurd he (by simp),fun _=>rfl⟩;show wpAny _ _ (storeInDict h.objs.size (.str name t) name v) _ _ _;unfold storeInDict newKeyGuard;refine wB0 (wP0 (wB0 (wpAny_nsSet1 (Heap.Ns1.of_empty gn) fun h' n' sb=>?_)));obtain⟨oD,esD,epD,hoD,hdD,hcD⟩:=n'.count (Within.cons name v Within.nil);refine wB0 (wpAny_lookBehind hoD (by rw[hdD];exact pastItsLine_dict (Nat.le_trans hcD (by rw[List.length_cons,List.length_nil,sizeLine_eq];omega))) ?_);refine wP0 (hq h' _ ((sb.2 x hxs).trans g2) n' fun b o hb e=>?_);exact(sb.2 b (nL0 (hL0 e))).trans ((Heap.get?_update_ne _ _ _ _ hb).trans (hP0 _ e))
theorem xget {expr:Bool}{vs:Array Value}{sl:Array (Option Value)}{mA:Str->Option Value}{Q:Vs0}(Xk:K.In s.heap)(c:XCl K C)(n:PySem.W.findIn K (.ref C) name=some none)(hx:s.heap.get? x=some ⟨.ref C,some dx,.fields vs,sl⟩)(hn:s.heap.Ns1 dx mA)
  (hv:mA name=some v) (hh:PySem.W.handedIn v=true) (hq:Q v { s with toks:=s.toks+1 }):wpAny (model prog w) A (getAttr (.ref x) name expr) Q E s:=by
 obtain⟨h,g,d,t,os⟩:=s;obtain⟨cd,bm,hc,hm,tv,hd⟩:=c.cls;obtain⟨od,ho,hl⟩:=a6q hn;have J:PySem.W.InstAt h x ⟨.ref C,some dx,.fields vs,sl⟩ C (some od):=⟨hx,rfl,rfl,ho⟩;have hf:PySem.W.findObj K C (some od) name=some (.value v):=by
  unfold PySem.W.findObj;rw[hc,Option.bind_some,n,Option.bind_some]
  show(Option.bind (some none) fun get=>_)=_
  rw[Option.bind_some]
  show(Option.bind (some false) fun data=>_)=_
  rw[Option.bind_some]
  show(Option.bind (PySem.W.ownOf cd (some od) name) fun own=>_)=_
  have e:PySem.W.ownOf cd (some od) name=some (some v):=by
   unfold PySem.W.ownOf;rw[hd,if_pos rfl];show PySem.W.lookIn name od=_;rw[hl,hv]
  rw[e]
  rfl
 have FX:=PySem.F.attr_ValueError;have L0:=J.type (M:=model prog w);have L1:=PySem.W.looks_find (M:=model prog w) Xk J hf;have sub:PySem.W.Looks (model prog w) h (isInstance (.ref x) (.type "BaseException")) true:=L0.andThen (PySem.W.looks_mroIn Xk (by
  unfold PySem.W.mroIn;rw[hc,Option.bind_some,hm];show some (List.contains _ _)=_;rw[List.contains_cons,a1z (X:="BaseException") rfl tv]
  rfl))
 have nq:(onTheHeap (Value.ref C)&&Value.builtin "BaseException.__getattribute__"==Value.builtin "object.__getattribute__")=false:=by
  rw[show(Value.builtin "BaseException.__getattribute__"==Value.builtin "object.__getattribute__")=false from by decide +kernel,Bool.and_false]
 unfold getAttr getAttrBy;refine wB0 (wpAny_mkText (wpAny_holding (wB0 (L0.at (wB0 ((PySem.W.looks_findIn (M:=model prog w) Xk c.ga).at ?_))))));show wpAny _ _ (if _=true then _ else _) _ _ _;rw[nq,if_neg (by decide)];unfold getAttrByItsOwn hookBefore;refine wB0 (PySem.W.Looks.at (t:=if onTheHeap (Value.ref C)=true then typeLookup (.ref C) "__getattr__" else pure none) (r:=none) (PySem.W.looks_findIn (M:=model prog w) Xk c.gx) (wB0 (wpAny_attempt (wpAny_holding ?_))));unfold callGetattribute;rw[show(expr&&onTheHeap (Value.builtin "BaseException.__getattribute__"))=false from Bool.and_false _,if_neg (by decide)];unfold boundAndCalled;rw[FX.ga.bind];refine wB0 (wP0 ?_);show wpAny _ _ (call (.builtin "BaseException.__getattribute__") [.ref x,.str name t]) _ _ _;refine wpAny_call ?_;refine codeAny_call_builtin FX.ga.plain PySem.F.entry_bexc_ga ?_;refine @PySem.W.check_slot (model prog w) _ _ ⟨h,g,d,t+1,os⟩ "BaseException.__getattribute__" "BaseException" "__getattribute__" (.ref x) [.str name t] [] _ (by decide +kernel) (by decide +kernel) sub (PySem.F.args_bexc_ga (.ref x) (.str name t)) ?_;unfold Builtin.«object.__getattribute__»;refine wB0 (wP0 (wB0 (wP0 (wB0 (L0.at (wB0 (L1.at ?_)))))));refine wP0 ?_;show wpAny _ _ (handedOut v) _ _ _;rw[PySem.W.handedOut_of hh];exact wP0 hq
end
def a9l (x C:Addr)(od:Option Addr)(h:Heap):Prop:=∃t,h.get? x=some (a4v C od t)
def b4U (x C:Addr)(od:Option Addr)(h:Heap):Prop:=∃vs sl,h.get? x=some ⟨.ref C,od,.fields vs,sl⟩
def b4e (dx:Addr)(fs:List (Str×V))(h:Heap):Prop:=∃mA,h.Ns1 dx mA/\(∀f,a4w (fs.lookup f) (mA f))/\Within mA (fs.map (·.1))
section
variable {P:Program}{w:World}{H:Hp}{h:Heap}{x C dx t:Addr}{od:Option Addr}
theorem a6Q (e:h.get? x=some (a4v C od t)):a1h P w H h x (.ext (a9l x C od)):=⟨⟨t,e⟩,⟨_,e⟩,fun _ _ ⟨t,e⟩ k=>⟨t,k _ e⟩⟩
theorem b3q {vs:Array Value}{sl:Array (Option Value)}(e:h.get? x=some ⟨.ref C,od,.fields vs,sl⟩):a1h P w H h x (.ext (b4U x C od)):=⟨⟨vs,sl,e⟩,⟨_,e⟩,fun _ _ ⟨vs,sl,e⟩ k=>⟨vs,sl,k _ e⟩⟩
theorem b3n {fs:List (Str×V)}{mA:Str->Option Value}(n:h.Ns1 dx mA)(r:∀f,a4w (fs.lookup f) (mA f))(wi:Within mA (fs.map (·.1))):a1h P w H h dx (.ext (b4e dx fs)):=
 ⟨⟨mA,n,r,wi⟩,(let ⟨o,_,_,e,_⟩:=n;⟨o,e⟩),fun _ _ ⟨mA,⟨o,es,ep,e,c⟩,r,wi⟩ k=>⟨mA,⟨o,es,ep,k _ e,c⟩,r,wi⟩⟩
end
def a8p (H:Hp)(x:Addr):Hp:=fun b=>if b=x then none else H b
theorem a2a {H:Hp}{x b:Addr}(h:b≠x):a8p H x b=H b:=if_neg h
theorem a3B {H:Hp}{x:Addr}:a8p H x x=none:=if_pos rfl
section
variable {X:Cx}{pins:List (Addr×Obj)}{σ:St}{H:Hp}{s:Shared}{x dx C:Addr}{φ:Heap->Prop}{od:Option Addr}
theorem Inv.drop (I:Inv X pins σ H s)(e:H x=some (.ext φ)):Inv X pins σ (a8p H x) s:=by
 have ne:∀b u,H b=some u->(∀ψ,u≠.ext ψ)->b≠x:=fun b u q hu z=>by
  rw[z,e] at q;cases q;exact hu φ rfl
 have nn:∀b,H b=none->a8p H x b=none:=fun b q=>by
  by_cases z:b=x
  ·rw[z,a3B]
  ·rw[a2a z,q]
 refine⟨I.ok,I.os,I.bare,⟨I.base.keep,I.base.slot,fun b o q n hx=>nn b (I.base.free b o q n hx),I.base.there,fun b xs q=>?_,fun b o u q=>?_,fun b ps q=>?_⟩,I.loc,I.cell,nn _ I.free,fun y c q=>nn c (I.freeC y c q),fun p hp=>?_,fun a o q=>?_,I.len⟩
 ·have z:=I.base.tups b xs q
  rw[a2a (ne b _ z fun ψ q=>by cases q)];exact z
 ·have z:=I.base.frzs b o u q
  rw[a2a (ne b _ z fun ψ q=>by cases q)];exact z
 ·obtain⟨m,z⟩:=I.base.tbls b ps q
  exact⟨m,by rw[a2a (ne b _ z fun ψ q=>by cases q)];exact z⟩
 ·obtain⟨a,b,c⟩:=I.pin p hp
  exact⟨a,nn _ b,c⟩
 ·have na:a≠x:=fun z=>by rw[z,a3B] at q;cases q
  rw[a2a na] at q;exact(I.hok a o q).stay (fun _ _ _ r=>r) (fun c r=>by rw[a2a (ne c _ r fun ψ q=>by cases q)];exact r) fun c xs r=>by rw[a2a (ne c _ r fun ψ q=>by cases q)];exact r
theorem Inv.track {o:HO}(I:Inv X pins σ H s)(hx:Our X pins H x)(new:a1h X.prog X.w (upd H x o) s.heap x o):Inv X pins σ (upd H x o) s:=by
 have ne:∀b u,H b=some u->b≠x:=fun b u q z=>by rw[z,hx.unt] at q;cases q
 refine I.step (h':=s.heap) (g':=s.gens) (d':=s.drawn) (t':=s.toks) (ch:=[x]) (fun b hb=>?_) (fun b o _ _ _ e _=>e) (fun b o _ _ _ e _=>⟨o.slots,e⟩) (fun b o hc e n=>?_) (fun b o _ e=>⟨o,e⟩) (fun b xs e=>?_) (fun b u xs e=>?_) (fun b ps e=>⟨#[],?_⟩) (fun m hm=>hm) (fun b u q=>?_) I.bare
 ·rw[mS0.mp hb]
  exact⟨.inr hx.new,hx.loc,hx.cel,hx.pin⟩
 ·rw[a0g fun z=>hc (by rw[z];exact mS0.mpr rfl)]
  exact n
 ·rw[a0g (ne b _ e)];exact e
 ·rw[a0g (ne b _ e)];exact e
 ·rw[a0g (ne b _ e),e];simp
 ·by_cases hb:b=x
  ·subst hb
   rw[a0d] at q;cases q;exact new
  ·rw[a0g hb] at q
   exact(I.hok b u q).stay (fun _ _ _ r=>r) (fun c r=>by rw[a0g (ne c _ r)];exact r) fun c xs r=>by rw[a0g (ne c _ r)];exact r
theorem Inv.xput {ψ χ:Heap->Prop}{h':Heap}{t':Nat}(I:Inv X pins σ H s)(e:H x=some (.ext φ))(nd:s.heap.objs.size<=dx)(k:∀b o,b≠x->s.heap.get? b=some o->h'.get? b=some o)
  (n1:∀H',a1h X.prog X.w H' h' dx (.ext χ)) (n2:∀H',a1h X.prog X.w H' h' x (.ext ψ)):Inv X pins σ (upd (upd H dx (.ext χ)) x (.ext ψ)) { s with heap:=h',toks:=t' }:=by
 have hd:H dx=none:=I.hok.fresh nd;have xd:x≠dx:=fun z=>by rw[z,hd] at e;cases e
 have ne:∀b u,H b=some u->(∀ψ,u≠.ext ψ)->b≠x/\b≠dx:=fun b u q hu=>⟨fun z=>by
  rw[z,e] at q;cases q;exact hu φ rfl,fun z=>by rw[z,hd] at q;cases q⟩
 have same:∀b u,H b=some u->(∀ψ,u≠.ext ψ)->upd (upd H dx (.ext χ)) x (.ext ψ) b=some u:=fun b u q hu=>by
  rw[a0g (ne b u q hu).1,a0g (ne b u q hu).2];exact q
 obtain⟨o2,e2⟩:∃o,h'.get? x=some o:=(n2 H).2.1;refine I.un (t':=t') ⟨fun b o q n _ _=>k b o (fun z=>by rw[z,e] at n;cases n) q,fun b o q n _ _=>⟨o.slots,k b o (fun z=>by rw[z,e] at n;cases n) q⟩,fun b o q n _=>?_,fun b o q _=>?_,fun b xs q=>same b _ q (fun ψ q=>by cases q),fun b o u q=>same b _ q (fun ψ q=>by cases q),fun b ps q=>⟨#[],by rw[same b _ q (fun ψ q=>by cases q)];simp⟩⟩ (fun b u q=>?_)
 ·rw[a0g (fun z=>by rw[z,e] at n;cases n),a0g (nL0 (Nat.lt_of_lt_of_le (hL0 q) nd))]
  exact n
 ·by_cases hb:b=x
  ·rw[hb];exact⟨o2,e2⟩
  ·exact⟨o,k b o hb q⟩
 ·by_cases hb:b=x
  ·subst hb
   rw[a0d] at q;cases q;exact n2 _
  ·rw[a0g hb] at q
   by_cases hb2:b=dx
   ·subst hb2
    rw[a0d] at q;cases q;exact n1 _
   ·rw[a0g hb2] at q
    refine(I.hok b u q).stay (fun c v hc r=>k c v ?_ r) (fun c r=>same c _ r (fun ψ q=>by cases q)) fun c xs r=>same c _ r (fun ψ q=>by cases q);rcases hc with rfl |hc
    ·exact hb
    ·exact(ne c _ hc fun ψ q=>by cases q).1
end
structure XMk (K:Fg0) (C f:Addr):Prop where
 cl:XCl K C
 init:PySem.W.findIn K (.ref C) "__init__"=some (some (.ref f))
 fn:PySem.W.isFn K (.ref f)=true
def b4x (n:Nat)(C:Addr)(sp:Sp)(dvs:List V)(t:TA):TE:=fun σ H Q=>t σ H fun vs H1=>vs.length<=sizeLine/\∀x,n<=x->H1 x=none->sp (.ref x::(vs++dvs)) (upd H1 x (.ext (a9l x C none))) (fun v H2=>v=.non/\Q (.ref x) H2) E0
def b3G (n:Nat)(K:Fg0)(E:XS)(te:TE):TS:=fun _ σ H=>te σ H fun v H1=>∃x C od,v=.ref x/\H1 x=some (.ext (a9l x C od))/\n<=x/\XCl K C/\E (.ref C) od σ (a8p H1 x)
section
variable {X:Cx}{k:Nat}{f C:Addr}{fd:FuncData}{ps:List Str}{sp:Sp}{dvs:List V}{ds:List Value}{E:XS}{x m:Str}{p pos apos:Pos}{e o:Expr}{es:List Expr}{ta te:TE}{t:TA}
theorem a9d {pins:List (Addr×Obj)}{σ:St}{H:Hp}{s:Shared}{Q:VK}{us:List Value}{vs:List V}(M:XMk X.K C f)(F:a0x X.prog X.w X.K X.mg X.base CX0 k f fd ps sp)(hr:a1g (k+1) X.A)(hb:a1C X.K fd ps ds)(hd:a1l dvs ds)
  (I:Inv X pins σ H s) (r:a1l vs us) (hz:vs.length<=sizeLine) (h:∀x,X.s₀.heap.objs.size<=x->H x=none->sp (.ref x::(vs++dvs)) (upd H x (.ext (a9l x C none))) (fun v H2=>v=.non/\Q (.ref x) H2) E0) :
  wpAny (model X.prog X.w) X.A (call (.ref C) us) (EP X pins σ Q) X.xe s:=by
 obtain⟨nm,q,N,bs,bm,sn,sub,ab,col,dd,k0,k1,k2,k3,k5,lk,tv⟩:=M.cl.at_;have ht:PySem.W.typeIn X.K (.ref f)=some (.type "function"):=beq_iff_eq.mp M.fn;obtain⟨oI,hl,hc⟩:=Option.map_eq_some_iff.mp ht;have hq:=h (s.heap.objs.size+1) (Nat.le_succ_of_le I.sz) (I.hok.fresh (Nat.le_succ _));have I1:Inv X pins σ H { s with heap:=s.heap.push (b0n us) }:=I.kept (t':=s.toks) fun b u q=>hP0 _ q;have e2:((s.heap.push (b0n us)).push (a4v C none s.heap.objs.size)).get? (s.heap.objs.size+1)=some (a4v C none s.heap.objs.size):=by
  have:=hS0 (s.heap.push (b0n us)) (o:=a4v C none s.heap.objs.size) rfl
  rwa [Heap.size_push] at this
 have I2:Inv X pins σ (upd H (s.heap.objs.size+1) (.ext (a9l (s.heap.objs.size+1) C none))) { s with heap:=(s.heap.push (b0n us)).push (a4v C none s.heap.objs.size) }:=
  I1.laid (a:=s.heap.objs.size+1) (t':=s.toks) (fun b u q=>hP0 _ q) (Nat.le_of_eq (Heap.size_push _ _)) (a6Q e2)
 have r2:a1l (V.ref (s.heap.objs.size+1)::(vs++dvs)) (Value.ref (s.heap.objs.size+1)::(us++ds)):=.cons rfl (r.append hd);have hlen:(Value.ref (s.heap.objs.size+1)::us++ds).length=ps.length:=by
  have e:=r2.length;rw[F.len _ _ _ _ hq] at e;exact e.symm
 have go:=F.run (X.A.under (.builtin "type.__call__" ⟨.ref C::us,[]⟩)) X.stack _ _ ⟨Value.ref (s.heap.objs.size+1)::us,[]⟩ (Value.ref (s.heap.objs.size+1)::(us++ds)) _ _ E0 (hr.make C us []) (I2.env0.make C us []) (hb _ (Value.ref (s.heap.objs.size+1)::us) I2.kIn hlen) r2 hq;obtain⟨hh,g,d,tk,os⟩:=s;refine b5s tv (I.kIn _ _ lk) (PySem.W.looks_findIn I.kIn M.init) (I.kIn _ _ hl) hc (by rw[<-r.length];exact hz) (wpAny_call (codeAny_mono go fun r s' hq'=>?_));cases r with
 |error e=>exact False.elim hq'
 |ok fl=>
  cases fl with
  |ret u=>
   obtain⟨v,H',I3,rv,ev,q3⟩:=I2.after hq';subst ev;exact⟨rv,⟨V.ref (hh.objs.size+1),H',I3,rfl,q3⟩⟩
  |next=>exact False.elim hq'
  |brk=>exact False.elim hq'
  |cont=>exact False.elim hq'
theorem a8Q (M:XMk X.K C f)(F:a0x X.prog X.w X.K X.mg X.base CX0 k f fd ps sp)(hr:a1g (k+1) X.A)(hg:Gl X x)(hm:X.mg x=some (.ref C))(hb:a1C X.K fd ps ds)(hd:a1l dvs ds)
  (hdb:(x==("__debug__":Str))=false:=by decide):PE X (.Call (.Name x p) [] [] pos) (b4x X.s₀.heap.objs.size C sp dvs b2Q):=by
 intro pins s σ H Q I h;refine wpAny_Call_Name_kw (a3a I hg hm ?_ hdb);exact PySem.W.callWith_K0 I.kIn M.cl.kp (a9d (us:=[]) M F hr hb hd I .nil h.1 h.2)
theorem b1f (hc:X.calm=true)(he:PE X e te)(L:a6z X E):PS X (.Raise (some e) none pos) (b3G X.s₀.heap.objs.size X.K E te):=by
 intro pins s σ H D I h;rw[arm_exec_Raise];have go:wpAny (model X.prog X.w) X.A (eval e X.env) (fun v s₁=>∃x C nm q N bs bm sn sub ab col dd k0 k1 k2 k3 k5 od t0,v=.ref x/\s₁.heap.get? C=some (excClassObj nm q C N bs bm true sn sub ab col dd k0 k1 k2 k3 k5 "ValueError.__new__")/\a2I bm=true/\s₁.heap.get? x=some (a4v C od t0)/\X.xe (.ref x) s₁) X.xe s:=by
  refine thn (he pins s σ H _ I h) fun v s1 ⟨y,H1,I1,rv,x,C,od,ey,hx,nx,c,q⟩=>?_;subst ey;obtain rfl:v=Value.ref x:=rv;obtain⟨nm,qn,N,bs,bm,sn,sub,ab,col,dd,k0,k1,k2,k3,k5,lk,tv⟩:=c.at_;obtain⟨⟨t0,ex⟩,_⟩:=I1.hok x _ hx;have I2:=I1.drop hx;have our:Our X pins (a8p H1 x) x:=⟨nx,(fun z=>by rw[z,I1.free] at hx;cases hx),(fun y c e z=>by rw[<-z,I1.freeC y c e] at hx;cases hx),(fun p hp z=>by rw[<-z,(I1.pin p hp).2.1] at hx;cases hx),a3B⟩;exact⟨x,C,nm,qn,N,bs,bm,sn,sub,ab,col,dd,k0,k1,k2,k3,k5,od,t0,rfl,I1.kIn _ _ lk,tv,ex,L pins σ _ s1 x _ od I2 our ⟨_,_,.none,ex,rfl,.inl ⟨rfl,rfl⟩⟩ q⟩
 first
  |exact wB0 (wpAny_standAt (b1F (I.ok.hd hc) (wB0 (wpAny_mono go (fun v s₃ h₃=>wB0 (wpAny_standAt (wP0 h₃))) fun _ _ z=>z))))
  | (simp only[evalOpt,Option.map];exact wB0 (wpAny_standAt (b1F (I.ok.hd hc) (wB0 (wpAny_mono go (fun v s₃ h₃=>wB0 (wpAny_standAt (wP0 h₃))) fun _ _ z=>z)))))
end
def sX1 (K:Fg0)(ta tv:TE)(f:Str):TS:=fun D σ H=>tv σ H fun y H1=>ta σ H1 fun x H2=>∃a C,x=.ref a/\H2 a=some (.ext (a9l a C none))/\XCl K C/\a2q K C f ∧
 ∀dx,H2 dx=none->dx≠a->D.nx σ (upd (upd H2 dx (.ext (b4e dx [(f,y)]))) a (.ext (a9l a C (some dx))))
def b6v (K:Fg0)(ta:TE)(f:Str):TE:=fun σ H Q=>ta σ H fun x H1=>∃a C dx fs v,x=.ref a/\H1 a=some (.ext (b4U a C (some dx)))/\H1 dx=some (.ext (b4e dx fs))/\XCl K C/\a2q K C f/\fs.lookup f=some v/\Q v H1
section
variable {X:Cx}{o e value:Expr}{f:Str}{pos pos' tpos:Pos}{ta tv:TE}
theorem b0U (ha:PE X o ta)(hv:PE X value tv)(hs:swapsWith value (some (.Attribute o f pos')) pos.line X.env=pure false):PS X (.Assign [.Attribute o f pos'] value pos) (sX1 X.K ta tv f):=by
 intro pins s σ H D I h;refine plainObj_wpAny_Assign_Attribute (thn (hv pins s σ H _ I h) fun u s1 ⟨y,H1,I1,ry,q⟩=>thn (ha pins s1 σ H1 _ I1 q) fun ov s2 ⟨x,H2,I2,rx,a,C,ex,ea,c,n,q2⟩=>?_) hs;subst ex;obtain rfl:ov=Value.ref a:=rx;obtain⟨⟨t0,eo⟩,_⟩:=I2.hok a _ ea;refine b1d I2.kIn c n eo fun h' tk' g1 g2 kk=>?_;have hd:H2 s2.heap.objs.size=none:=I2.hok.fresh (nR0 _);have na:s2.heap.objs.size≠a:=fun z=>by rw[<-z,hd] at ea;cases ea
 refine⟨σ,_,I2.xput (t':=tk') ea (nR0 _) kk (fun H'=>b3n (fs:=[(f,y)]) g2 (fun g=>?_) (fun g hg=>?_)) (fun H'=>a6Q g1),q2 _ hd na⟩
 ·by_cases z:g=f
  ·subst z
   rw[List.lookup_cons_self];show a4w (some y) (if g=g then some u else none);rw[if_pos rfl];exact ry
  ·have zb:(g==f)=false:=beq_eq_false_iff_ne.mpr z
   simp only[List.lookup,zb];show a4w none (if g=f then some u else none);rw[if_neg z];exact True.intro
 ·by_cases z:g=f
  ·subst z
   simp
  ·exact absurd (if_neg z) hg
theorem b2n (he:PE X e ta)(hb:attributeBase e f X.env (eval e X.env)=eval e X.env):PE X (.Attribute e f pos) (b6v X.K ta f):=by
 intro pins s σ H Q I h;refine a9f hb (thn (he pins s σ H _ I h) fun u s1 ⟨x,H1,I1,rx,a,C,dx,fs,v,ex,ea,ed,c,n,l,q⟩=>?_);subst ex;obtain rfl:u=Value.ref a:=rx;obtain⟨⟨vs,sl,eo⟩,_⟩:=I1.hok a _ ea;obtain⟨⟨mA,hn,hr,wi⟩,_⟩:=I1.hok dx _ ed;obtain⟨u,hu,ru⟩:=a4w.some_of (v:=v) (o:=mA f) (by rw[<-l];exact hr f);exact xget I1.kIn c n eo hn hu (a5L ru) ⟨v,H1,I1.tok _,ru,q⟩
end
structure BIn (K:Fg0) (B:Addr):Prop where
 sp:PySem.W.specialIn K (.ref B) "__getattribute__"=some (some (.builtin "type.__getattribute__"))
 rd:PySem.W.readsIn K B (.type "type")=true
 fc:PySem.W.findCls K (.ref B) (.type "type") "__init__"=some (.val (.builtin "ValueError.__init__"))
section
variable {prog:Program}{w:World}{A:Around}{E:Vs0}{h:Heap}{g:Array GenState}{d:Drawn}{t:Nat}{os:OsState}
variable {nm q:Str}{C N x t0:Addr}{bs bm:List Value}{sn:List Str}{sub:List Value}{ab:Bool}{col:Option Bool}{dd:Option Addr}{k0 k1 k2 k3 k5:Option Value}
theorem b0J {M:Model}{oe:Obj}{rest:List Value}{Q:Unit->Shared->Prop}(tv:a2I bm=true)(hC:h.get? C=some (excClassObj nm q C N bs bm true sn sub ab col dd k0 k1 k2 k3 k5 "ValueError.__new__"))(hx:h.get? x=some oe)(hc:oe.cls=.ref C)
  (hq:Q () ⟨h,g,d,t,os⟩):wpAny M A (checkBuiltinCall "ValueError.__init__" ⟨.ref x::rest,[]⟩) Q E ⟨h,g,d,t,os⟩:=by
 have F:=PySem.F.excBase_ValueError;have c1:(Value.ref C::bm).contains (.type "ValueError")=true:=by rw[List.contains_cons,a1z (X:="ValueError") rfl tv];rfl
 have ns:=F.noStar;simp only[checkBuiltinCall,F.initKind,F.initSplit,F.initRow]
 repeat (first | (with_reducible refine wpAny_loadPart_at hx ?_;rw[hc]) |with_reducible refine wpAny_loadPart_at hC ?_ | (with_reducible refine wpAny_isSubtype_exc hC ?_;rw[c1]) |wp_step)
 refine wpAny_onRaise ?_;rw[show ∀(a b:String) (n:Nat),Bind.check ⟨.positional,"*","ValueError",.self,[⟨"args",.varPos,false⟩]⟩ a b n (List.map (fun y=>y.fst) ({ pos:=Value.ref x::rest }:Args).kw)=pure () from fun a b n=>check_star_args _ _ _ _ _ _];exact wP0 hq
theorem b6q {rest:List Value}{od:Option Addr}{Q:Vs0}(tv:a2I bm=true)(hC:h.get? C=some (excClassObj nm q C N bs bm true sn sub ab col dd k0 k1 k2 k3 k5 "ValueError.__new__"))(hx:h.get? x=some (a4v C od t0))(hz:rest.length<=sizeLine)
  (hq:∀h' t1 tk',h'.get? x=some (a4v C od t1)->(∀b o,b≠x->h.get? b=some o->h'.get? b=some o)->Q .none ⟨h',g,d,tk',os⟩) :
  wpAny (model prog w) A (call (.builtin "ValueError.__init__") (.ref x::rest)) Q E ⟨h,g,d,t,os⟩:=by
 have F:=PySem.F.excBase_ValueError;refine wpAny_call (codeAny_call_builtin F.init.plain F.initEntry (b0J tv hC hx rfl ?_))
 wp_walk
 refine hq _ h.objs.size _ ?_ fun b o hb e=>?_
 ·rw[Heap.get?_update_self _ (hP0 _ hx) rfl]
  rfl
 ·rw[Heap.get?_update_other _ _ (Ne.symm hb)]
  exact hP0 _ e
end
def tBIn (K:Fg0)(t:TA):TE:=fun σ H Q=>t σ H fun vs H1=>∃x C od rest,vs=.ref x::rest/\H1 x=some (.ext (a9l x C od))/\XCl K C/\rest.length<=sizeLine/\Q .non H1
theorem b3Y {H:Hp}{a:Addr}{o:HO}(h:H a=some o):upd H a o=H:=by
 funext b
 by_cases z:b=a
 ·rw[z,a0d,h]
 ·exact a0g z
section
variable {X:Cx}{B:Addr}{y:Str}{p pos apos:Pos}{e:Expr}{es:List Expr}{t:TA}
theorem b0w {pl:Sem Bool}(hg:Gl X y)(hm:X.mg y=some (.ref B))(b:BIn X.K B)(ha:PA X (e::es) t)(hdb:(y==("__debug__":Str))=false:=by decide)
  (hst:starEach (e::es) X.env=(false,eval e X.env)::starEach es X.env:=by rfl) (hpl:(backTo pos (starEach es X.env)).any (·.1)=false:=by rfl)
  (ht:eval (.Call (.Attribute (.Name y p) "__init__" apos) (e::es) [] pos) X.env=(do
   let ov <-eval (.Name y p) X.env
   standAt apos.atName
   let (f,first) <-holding [ov] (getMethod ov "__init__" pl)
   callWith pos f first (backTo pos (starEach (e::es) X.env)) (backToKw pos (keywordEach [] X.env))):=by rfl) :
  PE X (.Call (.Attribute (.Name y p) "__init__" apos) (e::es) [] pos) (tBIn X.K t):=by
 intro pins s σ H Q I h;refine PySem.W.methodCall_KW (pl:=pl) (a3a I hg hm ?_ hdb) ht;refine PySem.W.method_cls I.kIn b.sp (PySem.W.cls_value I.kIn b.rd b.fc rfl ?_);refine PyProof.Rows.callWith_builtin1 (thn (ha pos pins _ σ H _ (I.tok _) h) fun us s1 ⟨vs,H1,I1,r,x,C,od,rest,ev,hx,c,hz,q⟩=>?_) hst hpl;subst ev;cases r with
 |cons rx rr=>
  rename_i u us' hap
  obtain rfl:u=Value.ref x:=rx;obtain⟨nm,qn,N,bs,bm,sn,sub,ab,col,dd,k0,k1,k2,k3,k5,lk,tv⟩:=c.at_;obtain⟨⟨t0,ex⟩,_⟩:=I1.hok x _ hx;obtain⟨hh,g,d,tk,os⟩:=s1;refine b6q tv (I1.kIn _ _ lk) ex (by rw[<-rr.length];exact hz) fun h' t1 tk' e1 kk=>?_;have I2:Inv X pins σ (upd H1 x (.ext (a9l x C od))) ⟨h',g,d,tk',os⟩:=I1.write (t':=tk') (x:=x) (e:=x) (by rw[hx];exact True.intro) (.inl rfl) (fun b o hb z=>kk b o hb z) ⟨_,e1⟩ (a6Q e1);rw[b3Y hx] at I2;exact⟨.non,H1,I2,rfl,q⟩
end
abbrev Cx.caught (X:Cx)(x:Addr):Cx:={ X with A:=X.A.mark (some (.ref x)),calm:=false,xe:=fun _ _=>False }
abbrev Cx.within (X:Cx)(pn:List (Addr×Obj))(E:Vs0):Cx:={ X with pn:=pn,xe:=E }
section
variable {X:Cx}{pins:List (Addr×Obj)}{σ:St}{H:Hp}{s:Shared}{x:Addr}{E:Vs0}
theorem Inv.caught (I:Inv X pins σ H s):Inv (X.caught x) pins σ H s:=
 ⟨⟨I.ok.mod,I.ok.kind,I.ok.glob,I.ok.blt,I.ok.above,I.ok.inj,I.ok.has,I.ok.cab,fun h=>Bool.noConfusion h,I.ok.frames,I.ok.stk,I.ok.exf,I.ok.bs,I.ok.bsz,I.ok.noex,I.ok.exfs,I.ok.funs,I.ok.frf⟩,I.os,I.bare,I.base,I.loc,I.cell,I.free,I.freeC,I.pin,I.hok,I.len⟩
theorem Inv.uncaught (ok:X.Ok)(I:Inv (X.caught x) pins σ H s):Inv X pins σ H s:=⟨ok,I.os,I.bare,I.base,I.loc,I.cell,I.free,I.freeC,I.pin,I.hok,I.len⟩
theorem Inv.within (I:Inv X pins σ H s):Inv (X.within (X.pn++pins) E) [] σ H s:=
 ⟨⟨I.ok.mod,I.ok.kind,I.ok.glob,I.ok.blt,I.ok.above,I.ok.inj,I.ok.has,I.ok.cab,I.ok.hd,I.ok.frames,I.ok.stk,I.ok.exf,I.ok.bs,I.ok.bsz,I.ok.noex,I.ok.exfs,I.ok.funs,I.ok.frf⟩,I.os,I.bare,I.base,I.loc,I.cell,I.free,I.freeC,(by intro p hp;exact I.pin p (by simpa using hp)),I.hok,I.len⟩
theorem Inv.out {pins':List (Addr×Obj)}(ok:X.Ok)(I:Inv (X.within (X.pn++pins) E) pins' σ H s):Inv X pins σ H s:=⟨ok,I.os,I.bare,I.base,I.loc,I.cell,I.free,I.freeC,fun p hp=>I.pin p (List.mem_append_left _ hp),I.hok,I.len⟩
theorem SP.out {D:a4J}{f:Flow}{pins':List (Addr×Obj)}(ok:X.Ok)(h:SP (X.within (X.pn++pins) E) pins' D f s):SP X pins D f s:=by
 cases f with
 |next=>obtain⟨σ',H',I,q⟩:=h;exact⟨σ',H',I.out ok,q⟩
 |brk=>obtain⟨σ',H',I,q⟩:=h;exact⟨σ',H',I.out ok,q⟩
 |cont=>obtain⟨σ',H',I,q⟩:=h;exact⟨σ',H',I.out ok,q⟩
 |ret u=>obtain⟨v,σ',H',I,r,q⟩:=h;exact⟨v,σ',H',I.out ok,r,q⟩
theorem Our.out {pins':List (Addr×Obj)}{b:Addr}(o:Our (X.within (X.pn++pins) E) pins' H b):Our X pins H b:=⟨o.new,o.loc,o.cel,fun p hp=>o.pin p (List.mem_append_left _ hp),o.unt⟩
theorem Inv.unname {i:Nat}{n:Str}{h':Heap}{v:Option Value}{m:Str->Option Value}{t':Nat}(I:Inv X pins σ H s)(hN:X.N.Nodup)(hi:X.N[i]? =some n)(hn:h'.Ns X.env.locals (fun y=>if y=n then v else m y))
  (hm:∀(i:Nat) (x:Str) (v:V),X.N[i]? =some x->σ[i]? =some (some v)->Vis X.env.scope x->∃u,a1e v u/\b6F X.env s.heap m x u) (sb:Heap.SameBut X.env.locals s.heap h') :
  Inv X pins (σ.set i none) H { s with heap:=h',toks:=t' }:=by
 have cne:=I.cne;have neL:∀b o,X.s₀.heap.get? b=some o->b≠X.env.locals:=fun b o e=>nL0 (Nat.lt_of_lt_of_le (hL0 e) I.ok.above);refine⟨I.ok,I.os,I.bare,⟨fun b o e n' hb hx=>(sb.2 b (neL b o e)).trans (I.base.keep b o e n' hb hx),fun b o e n' hb hx=>?_,I.base.free,fun b o e hx=>?_,I.base.tups,I.base.frzs,I.base.tbls⟩,⟨_,hn,fun j y w e1 e2 e3=>?_⟩,fun y c e=>?_,I.free,I.freeC,fun p hp=>?_,fun b ob e=>?_,by simpa using I.len⟩
 ·obtain⟨sl,e1⟩:=I.base.slot b o e n' hb hx
  exact⟨sl,(sb.2 b (neL b o e)).trans e1⟩
 ·obtain⟨o',e1⟩:=I.base.there b o e hx
  exact⟨o',(sb.2 b (neL b o e)).trans e1⟩
 ·by_cases hj:j=i
  ·subst hj
   have:(σ.set j none)[j]? =some (some w):=e2
   rw[List.getElem?_set] at this;simp at this
  ·rw[List.getElem?_set_ne (Ne.symm hj)] at e2
   obtain⟨u,r,q⟩:=hm j y w e1 e2 e3;refine⟨u,r,?_⟩;rcases q with ⟨k,e⟩ |⟨k,c,e,z⟩
   ·refine .inl ⟨k,?_⟩
    have:y≠n:=fun e=>hj (a4Y hN e1 (e▸hi))
    show(if y=n then v else m y)=some u
    rw[if_neg this];exact e
   ·exact .inr ⟨k,c,e,z.sameBut sb (cne y c e)⟩
 ·obtain⟨w',z⟩:=I.cell y c e
  exact⟨w',z.sameBut sb (cne y c e)⟩
 ·obtain⟨e,n',ne,nf,d⟩:=I.pin p hp
  exact⟨(sb.2 p.1 ne).trans e,n',ne,nf,d⟩
 ·refine(I.hok b ob e).stay (fun c w' hc q=>(sb.2 c ?_).trans q) (fun _ q=>q) fun _ _ q=>q
  rintro rfl;rcases hc with rfl |hc
  ·rw[I.free] at e;cases e
  ·rw[I.free] at hc;cases hc
end
def a9s (i:Nat)(D:a4J):a4J:={ nx:=fun σ' H'=>D.nx (σ'.set i none) H',rt:=D.rt,bk:=fun σ' H'=>D.bk (σ'.set i none) H',ct:=fun σ' H'=>D.ct (σ'.set i none) H' }
def EXh (CN:Addr)(i:Nat)(ts:Addr->TS)(D:a4J):XS:=fun C od σ H=>C=.ref CN/\∀x,H x=none->ts x (a9s i D) (σ.set i (some (.ref x))) (upd H x (.ext (b4U x CN od)))
def tTry (tb:a4J->TS):TS:=fun D σ H=>tb D D σ H
section
variable {X:Cx}{body:List Stmt}{cx n:Str}{b₀:Stmt}{suite:List Stmt}{np hp pos:Pos}{CN:Addr}{i:Nat}{tb:a4J->TS}{ts:Addr->TS}
theorem b4f (hst:X.stack=X.env::X.outer)(hfr:X.env.frame=some X.env.locals)(hN:X.N.Nodup)(hi:X.N[i]? =some n)(hk:X.env.scope.names.lookup n=some .local)(hg:Gl X cx)(hm:X.mg cx=some (.ref CN))(c:XCl X.K CN)
  (hb:∀D pn XE,a6z (X.within pn XE) (EXh CN i ts D)->PSs (X.within pn XE) body (tb D)) (hs:∀x,PSs (X.caught x) (b₀::suite) (ts x)) (hdb:(cx==("__debug__":Str))=false:=by decide) :
  PS X (.Try body [.ExceptHandler (some (.Name cx np)) (some n) (b₀::suite) hp] [] [] pos) (tTry tb):=by
 intro pins s σ H D I h;refine wpAny_Try_except ?_;refine wpAny_mono (hb D (X.pn++pins) (fun e s₁=>wpAny (model X.prog X.w) X.A (noteFrame e X.env) (fun _ s₂=>wpAny (model X.prog X.w) X.A (setFlight e none) (fun _ s₃=>wpAny (model X.prog X.w) X.A (handleBy e X.env [.ExceptHandler (some (.Name cx np)) (some n) (b₀::suite) hp]) (SP X pins D) X.xe s₃) X.xe s₂) X.xe s₁) ?_ [] s σ H D I.within h) (fun f s₁ hf=>?_) fun e s₁ z=>z
 ·intro pins' σ1 H1 s1 x C od I1' hx' xa' q
  have I1:Inv X pins σ1 H1 s1:=I1'.out I.ok;have hx:Our X pins H1 x:=hx'.out;have xa:XAt s1.heap (Our X pins H1) x C od .none:=xa'.imp fun _ o=>o.out;obtain⟨rfl,q⟩:=q;have hfl:X.A.frames=some (X.env::X.outer):=by rw[I.ok.frames,hst]
  have frn:∀{s':Shared} {σ':St} {H':Hp},Inv X pins σ' H' s'->∀b o,s'.heap.get? b=some o->b∈frs X.stack->∀vs,o.data≠.fields vs:=fun {s' σ' H'} J b o e hb=>by
   obtain⟨_,o',ho',hn⟩:=J.stack.mem hb;rw[e] at ho';cases ho';exact hn
  refine a9k (base:=X.base) hfl (by rw[<-hst];exact I1.stack) hfr xa (fun T hT=>I1.our hT) fun h1 n1 xa1=>?_;have I2:=I1.noted hx (by rw[hst];exact n1);refine a6W (s:={ s1 with heap:=h1 }) (fr:=frs X.stack) xa1 (frn I2) fun h2 n2 xa2=>?_;have I3:=I2.noted hx n2;obtain⟨nm,qn,N,bs,bm,sn,sub,ab,col,dd,k0,k1,k2,k3,k5,lk,tv⟩:=c.at_;refine wpAny_handleBy_cons (codeAny_handlers_test ?_) (by intro q;cases q);refine a3a (X:=X.caught x) I3.caught hg hm ?_ hdb;obtain⟨vs,sl,v1,ex,ev1,tb2⟩:=id xa2;refine wpAny_excMatches_sub_self (g:=s1.gens) (d:=s1.drawn) (t:=s1.toks) (os:=s1.os) (I3.kIn _ _ lk) ex rfl (a1z (X:="BaseException") rfl tv) ?_;refine codeAny_handlers_suite_as ?_;refine a6W (s:={ s1 with heap:=h2 }) (fr:=frs X.stack) xa2 (frn I3) fun h3 n3 xa3=>?_;have I4:=I3.noted hx n3;obtain⟨vs3,sl3,v3,ex3,_,_⟩:=id xa3;have I5:Inv X pins σ1 (upd H1 x (.ext (b4U x CN od))) { s1 with heap:=h3 }:=I4.track hx (b3q ex3);refine a5q (X:=X.caught x) I5.caught hN hi (.inl hk) (show a1e (.ref x) (.ref x) from rfl) (fun s6 I6=>?_) (.inr hk);refine wpAny_mono (hs x pins s6 _ _ (a9s i D) I6 (q x hx.unt)) (fun f s7 hf=>?_) fun _ _ z=>False.elim z;have fin:∀{σ':St} {H':Hp} {Q:Unit->Shared->Prop},Inv (X.caught x) pins σ' H' s7->(∀s',Inv X pins (σ'.set i none) H' s'->Q () s')->wpAny (model X.prog X.w) X.A (do bindName X.env n .none;unbindBehindTheSuite X.env n hp) Q X.xe s7:=fun {σ' H' Q} J kq=>by
   have J':Inv X pins σ' H' s7:=J.uncaught I.ok;obtain⟨m,hmn,hml⟩:=id J'.loc;exact wpAny_nameGoes_keeps hk hmn (by rw[I.ok.kind];rfl) fun h' v hn' sb=>kq _ (J'.unname hN hi hn' hml sb)
  cases f with
  |next=>obtain⟨σ',H',J,z⟩:=hf;exact fin J fun s' J'=>⟨_,H',J',z⟩
  |brk=>obtain⟨σ',H',J,z⟩:=hf;exact fin J fun s' J'=>⟨_,H',J',z⟩
  |cont=>obtain⟨σ',H',J,z⟩:=hf;exact fin J fun s' J'=>⟨_,H',J',z⟩
  |ret u=>obtain⟨v,σ',H',J,r,z⟩:=hf;exact fin J fun s' J'=>⟨v,_,H',J',r,z⟩
 ·have hf':=hf.out I.ok
  cases f with
  |next=>exact wP0 hf'
  |brk=>exact hf'
  |cont=>exact hf'
  |ret u=>exact hf'
end
end L2
namespace L2
open PySem PySem.Spec PyProof.Rows
section
variable {X:Cx}
def b1s (K:Fg0)(a:Addr)(D:List (Str×KTD.Dat)):Prop:=KTD.tabLook (KTD.datLooks fun a=>List.lookup a K) (fun a=>List.lookup a K) a D=true
theorem a5G {pins:List (Addr×Obj)}{s:Shared}{σ:St}{H:Hp}{a:Addr}{D:List (Str×KTD.Dat)}(I:Inv X pins σ H s)(h:b1s X.K a D):KTD.Here s.heap s.heap a D:=
 ⟨KTD.text_of_look (fun a o e=>I.kIn a o e) h,fun _ _ e=>e⟩
theorem a3i:OpR X (compareOp .In) (fun x y H Q=>∃z a D,x=.str z/\y=.ref a/\b1s X.K a D/\Q (.bl (KTD.inKeys z D)) H):=by
 intro pins s σ H x y v u Q I rx ry h;obtain⟨z,a,D,rfl,rfl,hk,q⟩:=h;obtain⟨t,rfl⟩:=rx;cases ry;exact KTD.in_text (a5G I hk) ⟨.bl _,H,I.tok _,rfl,q⟩
theorem b1I:IxR X (fun x y H Q=>∃(z:Str) (a:Addr) (D:List (Str×Str)) (c:Str),x=.ref a/\y=.str z/\b1s X.K a (D.map fun p=>(p.1,KTD.Dat.flat (.str p.2)))/\D.lookup z=some c/\Q (.str c) H):=by
 intro value slice pins s σ H x y v u Q I rx ry h hs;obtain⟨z,a,D,c,rfl,rfl,hk,hc,q⟩:=h;cases rx;obtain⟨t,rfl⟩:=ry;have hm:∀(D:List (Str×Str)),D.lookup z=some c->KTD.inKeys z (D.map fun p=>(p.1,KTD.Dat.flat (PyData.str p.2)))=true/\∀P:Value->Prop,(∀t,P (.str c t))->KTD.EachL s.heap z P (D.map fun p=>(p.1,KTD.Dat.flat (PyData.str p.2))):=by
  intro D
  induction D with
  |nil=>intro h;cases h
  |cons p D ih=>
   intro h
   by_cases e:z=p.1
   ·have hp:p.2=c:=by
     rw[List.lookup_cons,beq_iff_eq.mpr e] at h;exact Option.some.inj h
    refine⟨?_,fun P hP=>KTD.eachL_hit e ?_⟩
    ·show(decide (z=p.1) || _)=true
     rw[dT0 e];rfl
    ·rw[hp]
     exact KTD.opened_str hP
   ·have h':D.lookup z=some c:=by
     rw[List.lookup_cons,beq_eq_false_iff_ne.mpr e] at h;exact h
    refine⟨?_,fun P hP=>KTD.eachL_miss e ((ih h').2 P hP)⟩
    show(decide (z=p.1) || _)=true
    rw[(ih h').1];simp
 have hpl:∀D:List (Str×Str),((D.map fun p=>(p.1,KTD.Dat.flat (PyData.str p.2))).all fun p=>KTD.plain p.2)=true:=by
  intro D
  induction D with
  |nil=>rfl
  |cons p D ih=>rw[mN0,List.all_cons,ih];rfl
 exact KTD.item_textA (a5G I hk) (hpl D) (hm D hc).1 ((hm D hc).2 _ fun t=>⟨.str c,H,I.tok _,⟨t,rfl⟩,q⟩) hs
variable {n:Nat}
end
end L2
namespace L2
open PySem
section
variable {prog:Program}{w:World}{A:Around}{E:Vs0}{s:Shared}
theorem a4L {it t:Addr}{i:Nat}{xs:Array Value}{x:Value}{Q:Vs0}(hi:s.heap.IsTupleIter it t i)(ht:s.heap.IsTuple t xs)(hx:xs[i]? =some x)
  (hQ:∀h',h'.IsTupleIter it t (i+1)->Heap.SameBut it s.heap h'->Q x { s with heap:=h' }):wpAny (model prog w) A (Builtin.SmallTypes.nextOf (.ref it)) Q E s:=by
 obtain⟨o,ho,hc,hd⟩:=id hi;obtain⟨ot,hot,_,nt,hdt⟩:=ht;unfold Builtin.SmallTypes.nextOf;refine wB0 (wpAny_callSpecial?_slot (name:=Str.ofString "__next__") hi.typeIs F.slot_tuple_iterator_next (wpAny_call_entry F.slot_tuple_iterator_next hi.typeIs F.entry_tuple_iterator_next ?_ (F.args_tuple_iterator_next_1 _)));show wpAny _ _ (field (.ref it) 0 >>= _) _ _ s;refine wB0 (wpAny_field ho hd (x:=.ref t) rfl ?_);show wpAny _ _ (if (Value.ref t==Value.none)=true then _ else _) _ _ s;rw[if_neg (show ¬((Value.ref t==Value.none)=true) from bF0)];show wpAny _ _ (field (.ref it) 1 >>= _) _ _ s;refine wB0 (wpAny_field ho hd (x:=.int i 0) rfl ?_);show wpAny _ _ (seqItems? (.ref t) >>= _) _ _ s;refine wB0 (wpAny_seqItems hot hdt ?_);simp only[Int.toNat_natCast,hx];refine wB0 (wpAny_setField ho hd (by simp) (wP0 ⟨x,rfl,wP0 (hQ _ ⟨_,Heap.get?_update_self _ ho (Obj.isFreed_of_fields (Obj.data_mapFields hd _)),(Obj.cls_mapFields ..).trans hc,?_⟩ (Heap.SameBut.update ..))⟩));rw[Obj.data_mapFields hd];simp[rawInt]
theorem a9O {it t:Addr}{i:Nat}{xs:Array Value}{Q:Vs0}(hh:A.handled=none)(hi:s.heap.IsTupleIter it t i)(ht:s.heap.IsTuple t xs)(hx:xs[i]? =none)
  (hE:∀h' e,Heap.ExtBut it s.heap h'->(∃o,h'.get? e=some o/\o.cls=.type "StopIteration")->E (.ref e) { s with heap:=h' }):wpAny (model prog w) A (Builtin.SmallTypes.nextOf (.ref it)) Q E s:=by
 obtain⟨o,ho,hc,hd⟩:=id hi;obtain⟨ot,hot,_,nt,hdt⟩:=ht;unfold Builtin.SmallTypes.nextOf;refine wB0 (wpAny_callSpecial?_slot (name:=Str.ofString "__next__") hi.typeIs F.slot_tuple_iterator_next (wpAny_call_entry F.slot_tuple_iterator_next hi.typeIs F.entry_tuple_iterator_next ?_ (F.args_tuple_iterator_next_1 _)));show wpAny _ _ (field (.ref it) 0 >>= _) _ _ s;refine wB0 (wpAny_field ho hd (x:=.ref t) rfl ?_);show wpAny _ _ (if (Value.ref t==Value.none)=true then _ else _) _ _ s;rw[if_neg (show ¬((Value.ref t==Value.none)=true) from bF0)];show wpAny _ _ (field (.ref it) 1 >>= _) _ _ s;refine wB0 (wpAny_field ho hd (x:=.int i 0) rfl ?_);show wpAny _ _ (seqItems? (.ref t) >>= _) _ _ s;refine wB0 (wpAny_seqItems hot hdt ?_);simp only[Int.toNat_natCast,hx];refine wB0 (wpAny_rule (wB0 (wpAny_setField ho hd (by simp) ?_)));show wpAny _ _ (newExc (.type "StopIteration") [] >>= _) _ _ _;refine wB0 ?_;simp only[newExc,newTuple];refine wB0 (wpAny_newObj_type ?_ (by size_fits));refine wB0 (m:=firstArgMember _ _) (wpAny_of_eq (a:=Value.none) (by first |rfl | (simp only[firstArgMember];rfl)) ?_);refine wpAny_newObj_type ?_ (by size_fits);simp only[raiseNew];refine wB0 (wpAny_handled ?_)
 first |rw[show A.in1.handled=none from hh] |rw[hh]
 refine wB0 (wP0 (wpAny_throw ?_));exact hE _ _ (((Heap.SameBut.update ..).extBut.push _).push _) ⟨_,hS0 _ rfl,rfl⟩
structure ZT (h:Heap) (z TI TO i1 i2 t1 t2:Addr) (k:Nat) (xs ys:Array Value) (f0:Value):Prop where
 zp:IsZip h z TI TO f0
 ti:IsPair h TI (.ref i1) (.ref i2)
 to:∃a b,IsPair h TO a b
 j1:h.IsTupleIter i1 t1 k
 j2:h.IsTupleIter i2 t2 k
 l1:h.IsTuple t1 xs
 l2:h.IsTuple t2 ys
theorem a9X {z TI TO i1 i2 t1 t2:Addr}{k:Nat}{xs ys:Array Value}{x y:Value}{Q:Vs0}(D:ZipApart z TI TO i1 i2 t1 t2)(Z:ZT s.heap z TI TO i1 i2 t1 t2 k xs ys .none)(hx:xs[k]? =some x)(hy:ys[k]? =some y)
  (hQ:∀h',ZT h' z TI TO i1 i2 t1 t2 (k+1) xs ys (rawInt s.heap.objs.size)->IsPair h' s.heap.objs.size x y->h'.objs.size=s.heap.objs.size+1->(∀c o,c≠z->c≠TO->c≠i1->c≠i2->s.heap.get? c=some o->h'.get? c=some o)->Q (.ref s.heap.objs.size) { s with heap:=h' }) :
  wpAny (model prog w) A (Builtin.«zip.__next__» ⟨[.ref z],[]⟩) (fun fin s'=>∃v,fin=.done (.ret v)/\Q v s') E s:=by
 obtain⟨hz,hTI,⟨a,b,hTO⟩,h1,h2,hl1,hl2⟩:=Z;show wpAny _ _ (field (.ref z) 2 >>= _) _ _ _;refine wB0 (wpAny_field hz rfl (x:=.bool false) rfl ?_);show wpAny _ _ (field (.ref z) 3 >>= _) _ _ _;refine wB0 (wpAny_field hz rfl (x:=.ref TI) rfl ?_);refine wB0 (wpAny_seqItems hTI rfl ?_);show wpAny _ _ (Builtin.SmallTypes.ownedTupleIsFree (.ref z) >>= _) _ _ _;refine wB0 ?_;unfold Builtin.SmallTypes.ownedTupleIsFree;refine wB0 (wpAny_field hz rfl (x:=.none) rfl (wP0 ?_));simp only[if_true];refine wB0 (wpAny_rule ?_);refine wB0 (wpAny_field hz rfl (x:=.ref TO) rfl ?_);refine wB0 (wpAny_setField_rec hz (by simp) fun g1 z1 b1=>?_)
 replace z1:IsZip g1 z TI TO .ellipsis:=z1
 refine wB0 ?_;simp only[List.zipIdx_cons,List.zipIdx_nil,List.forIn_cons,List.forIn_nil];refine wB0 (wB0 (wpAny_onRaise ?_));show wpAny _ _ (Builtin.SmallTypes.nextOf (.ref i1) >>= _) _ _ _;refine wB0 (a4L (s:={ s with heap:=g1 }) (h1.extBut b1.extBut D.i1z) (hl1.extBut b1.extBut D.l1z) hx fun g2 j2 b2=>wP0 ?_);have o2:IsPair g2 TO a b:=b2.extBut _ _ D.TOi1 (b1.extBut _ _ D.TOz hTO);refine wB0 (wpAny_seqItems o2 rfl ?_);refine wB0 (wpAny_updateSeq_pair o2 fun g3 o3 b3=>?_)
 replace o3:IsPair g3 TO x b:=o3
 refine wB0 (wpAny_letGo (wP0 ?_));refine wB0 (wB0 (wpAny_onRaise ?_));show wpAny _ _ (Builtin.SmallTypes.nextOf (.ref i2) >>= _) _ _ _;refine wB0 (a4L (s:={ s with heap:=g3 }) (((h2.extBut b1.extBut D.i2z).extBut b2.extBut D.i12.symm).extBut b3.extBut D.TOi2.symm) (((hl2.extBut b1.extBut D.l2z).extBut b2.extBut D.l2i1).extBut b3.extBut D.l2TO) hy fun g4 j4 b4=>wP0 ?_);have o4:IsPair g4 TO x b:=b4.extBut _ _ D.TOi2 o3;refine wB0 (wpAny_seqItems o4 rfl ?_);refine wB0 (wpAny_updateSeq_pair o4 fun g5 o5 b5=>?_)
 replace o5:IsPair g5 TO x y:=o5
 refine wB0 (wpAny_letGo (wP0 (wP0 ?_)));refine wB0 (wpAny_seqItems o5 rfl ?_);refine wB0 (wpAny_newTuple ?_);have sz:g5.objs.size=s.heap.objs.size:=by rw[b5.1,b4.1,b3.1,b2.1,b1.1]
 have z5:IsZip g5 z TI TO .ellipsis:=b5.extBut _ _ D.TOz.symm (b4.extBut _ _ D.i2z.symm (b3.extBut _ _ D.TOz.symm (b2.extBut _ _ D.i1z.symm z1)));have k5:∀c o,c≠z->c≠TO->c≠i1->c≠i2->s.heap.get? c=some o->g5.get? c=some o:=fun c o c1 c2 c3 c4 e=>b5.extBut _ _ c2 (b4.extBut _ _ c4 (b3.extBut _ _ c2 (b2.extBut _ _ c3 (b1.extBut _ _ c1 e))));have p1:g5.IsTupleIter i1 t1 (k+1):=((j2.extBut b3.extBut D.TOi1.symm).extBut b4.extBut D.i12).extBut b5.extBut D.TOi1.symm;have p2:g5.IsTupleIter i2 t2 (k+1):=j4.extBut b5.extBut D.TOi2.symm;have zlt:z<g5.objs.size:=hL0 z5;show wpAny _ _ (Builtin.SmallTypes.ownedTupleHandOut (.ref z) (.ref g5.objs.size) >>= _) _ _ _;refine wB0 ?_;unfold Builtin.SmallTypes.ownedTupleHandOut;have z6:IsZip (g5.push { cls:=.type "tuple",data:=.seq #[x,y] }) z TI TO .ellipsis:=hP0 _ z5;refine wB0 (wpAny_setField_rec z6 (by simp) fun g7 z7 b7=>?_)
 replace z7:IsZip g7 z TI TO (rawInt g5.objs.size):=z7
 refine wpAny_setField_rec z7 (by simp) fun g8 z8 b8=>?_
 replace z8:IsZip g8 z TI TO (rawInt g5.objs.size):=z8
 have up:∀c o,c≠z->g5.get? c=some o->g8.get? c=some o:=fun c o c1 e=>b8.extBut _ _ c1 (b7.extBut _ _ c1 (hP0 _ e));have T8:IsPair g8 g5.objs.size x y:=b8.extBut _ _ (Nat.ne_of_gt zlt) (b7.extBut _ _ (Nat.ne_of_gt zlt) (hS0 _ rfl));have s8:g8.objs.size=g5.objs.size+1:=by rw[b8.1,b7.1,Heap.size_push]
 rw[sz] at z8 T8 s8;refine wP0 ⟨_,rfl,?_⟩;show Q (.ref g5.objs.size) _;rw[sz];have kk:∀c o,c≠z->c≠TO->c≠i1->c≠i2->s.heap.get? c=some o->g8.get? c=some o:=fun c o c1 c2 c3 c4 e=>up c o c1 (k5 c o c1 c2 c3 c4 e);refine hQ g8 ⟨z8,kk _ _ D.TIz D.TITO D.TIi1 D.TIi2 hTI,⟨x,y,up _ _ D.TOz o5⟩,?_,?_,?_,?_⟩ T8 s8 kk
 ·obtain⟨o,e,r⟩:=p1;exact⟨o,up _ o D.i1z e,r⟩
 ·obtain⟨o,e,r⟩:=p2;exact⟨o,up _ o D.i2z e,r⟩
 ·obtain⟨o,e,r⟩:=hl1;exact⟨o,kk _ o D.l1z D.l1TO D.l1i1 D.l1i2 e,r⟩
 ·obtain⟨o,e,r⟩:=hl2;exact⟨o,kk _ o D.l2z D.l2TO D.l2i1 D.l2i2 e,r⟩
theorem b0y {z TI TO i1 i2 t1 t2:Addr}{k:Nat}{xs ys:Array Value}{Q:Fin->Shared->Prop}(hh:A.handled=none)(D:ZipApart z TI TO i1 i2 t1 t2)(Z:ZT s.heap z TI TO i1 i2 t1 t2 k xs ys .none)(hx:xs[k]? =none)
  (hE:∀h' e,(∀c o,c≠z->c≠TO->c≠i1->c≠i2->s.heap.get? c=some o->h'.get? c=some o)->(∃o,h'.get? e=some o/\o.cls=.type "StopIteration")->E (.ref e) { s with heap:=h' }) :
  wpAny (model prog w) A (Builtin.«zip.__next__» ⟨[.ref z],[]⟩) Q E s:=by
 obtain⟨hz,hTI,⟨a,b,hTO⟩,h1,h2,hl1,hl2⟩:=Z;show wpAny _ _ (field (.ref z) 2 >>= _) _ _ _;refine wB0 (wpAny_field hz rfl (x:=.bool false) rfl ?_);show wpAny _ _ (field (.ref z) 3 >>= _) _ _ _;refine wB0 (wpAny_field hz rfl (x:=.ref TI) rfl ?_);refine wB0 (wpAny_seqItems hTI rfl ?_);show wpAny _ _ (Builtin.SmallTypes.ownedTupleIsFree (.ref z) >>= _) _ _ _;refine wB0 ?_;unfold Builtin.SmallTypes.ownedTupleIsFree;refine wB0 (wpAny_field hz rfl (x:=.none) rfl (wP0 ?_));simp only[if_true];refine wB0 (wpAny_rule ?_);refine wB0 (wpAny_field hz rfl (x:=.ref TO) rfl ?_);refine wB0 (wpAny_setField_rec hz (by simp) fun g1 z1 b1=>?_)
 replace z1:IsZip g1 z TI TO .ellipsis:=z1
 refine wB0 ?_;simp only[List.zipIdx_cons,List.zipIdx_nil,List.forIn_cons,List.forIn_nil];refine wB0 (wB0 (wpAny_onRaise ?_));show wpAny _ _ (Builtin.SmallTypes.nextOf (.ref i1) >>= _) _ _ _;refine wB0 (a9O (s:={ s with heap:=g1 }) hh (h1.extBut b1.extBut D.i1z) (hl1.extBut b1.extBut D.l1z) hx fun g2 e b2 he=>?_);obtain⟨oe,hoe,hce⟩:=he;have z2:IsZip g2 z TI TO .ellipsis:=b2 _ _ D.i1z.symm z1;have hez:e≠z:=fun q=>by subst q;rw[z2] at hoe;cases hoe;simp at hce
 exact wpAny_setField_rec z2 (by simp) fun g3 _ b3=>hE g3 e (fun c o c1 _ c3 _ q=>b3.extBut _ _ c1 (b2 _ _ c3 (b1.extBut _ _ c1 q))) ⟨oe,b3.extBut _ _ hez hoe,hce⟩
theorem a8S {z TI TO i1 i2 t1 t2:Addr}{k:Nat}{xs ys:Array Value}{x y:Value}{Q:Option Value->Shared->Prop}(D:ZipApart z TI TO i1 i2 t1 t2)(Z:ZT s.heap z TI TO i1 i2 t1 t2 k xs ys .none)(hx:xs[k]? =some x)(hy:ys[k]? =some y)
  (hQ:∀h',ZT h' z TI TO i1 i2 t1 t2 (k+1) xs ys (rawInt s.heap.objs.size)->IsPair h' s.heap.objs.size x y->h'.objs.size=s.heap.objs.size+1->(∀c o,c≠z->c≠TO->c≠i1->c≠i2->s.heap.get? c=some o->h'.get? c=some o)->Q (some (.ref s.heap.objs.size)) { s with heap:=h' }) :
  wpAny (model prog w) A (pyNext (.ref z)) Q E s:=by
 have hT:s.TypeIs (.ref z) "zip":=⟨_,Z.zp,rfl⟩;unfold pyNext;exact wB0 (wpAny_attempt (wpAny_callSpecial?_slot (name:=Str.ofString "__next__") hT F.slot_zip_next (wpAny_call_entry F.slot_zip_next hT F.entry_zip_next (a9X D Z hx hy fun h' a1 a2 a3 a4=>wP0 (hQ h' a1 a2 a3 a4)) (F.args_zip_next_1 _))))
theorem a9e {z TI TO i1 i2 t1 t2:Addr}{k:Nat}{xs ys:Array Value}{Q:Option Value->Shared->Prop}(hh:A.handled=none)(D:ZipApart z TI TO i1 i2 t1 t2)(Z:ZT s.heap z TI TO i1 i2 t1 t2 k xs ys .none)(hx:xs[k]? =none)
  (hQ:∀h',(∀c o,c≠z->c≠TO->c≠i1->c≠i2->s.heap.get? c=some o->h'.get? c=some o)->Q none { s with heap:=h' }):wpAny (model prog w) A (pyNext (.ref z)) Q E s:=by
 have hT:s.TypeIs (.ref z) "zip":=⟨_,Z.zp,rfl⟩;unfold pyNext;refine wB0 (wpAny_attempt (wpAny_callSpecial?_slot (name:=Str.ofString "__next__") hT F.slot_zip_next (wpAny_call_entry F.slot_zip_next hT F.entry_zip_next (b0y hh D Z hx fun h' e hk he=>?_) (F.args_zip_next_1 _))));obtain⟨o,ho,hc⟩:=he;refine wB0 (wpAny_isInstance (T:="StopIteration") (b:=true) ⟨o,ho,hc⟩ isSubtype_stop ?_);exact wP0 (hQ _ hk)
end
abbrev zT1 (h:Heap)(l1:Addr):Heap:=h.push { cls:=.type "tuple_iterator",data:=.fields #[.ref l1,.int 0 0] }
abbrev zT2 (h:Heap)(l1 l2:Addr):Heap:=(zT1 h l1).push { cls:=.type "tuple_iterator",data:=.fields #[.ref l2,.int 0 0] }
abbrev zT3 (h:Heap)(l1 l2:Addr):Heap:=(zT2 h l1 l2).push { cls:=.type "tuple",data:=.seq #[.ref h.objs.size,.ref (zT1 h l1).objs.size] }
abbrev zT4 (h:Heap)(l1 l2:Addr):Heap:=(zT3 h l1 l2).push { cls:=.type "tuple",data:=.seq #[.none,.none] }
abbrev zT5 (h:Heap)(l1 l2:Addr):Heap:=(zT4 h l1 l2).push { cls:=.type "zip",data:=.fields #[.none,.bool false,.bool false,.ref (zT2 h l1 l2).objs.size,.ref (zT3 h l1 l2).objs.size] }
theorem a8t (l1 l2:Addr)(xs ys:Array Value) :
  Meets (Builtin.«zip.__new__» ⟨[.type "zip",.ref l1,.ref l2],[]⟩) (fun _ R s=>s.heap.IsTuple l1 xs/\s.heap.IsTuple l2 ys/\R (.ok (.ret (.ref (zT4 s.heap l1 l2).objs.size))) { s with heap:=zT5 s.heap l1 l2 }):=
 .of_wp fun prog w A R s h=>by
  obtain⟨hp,g,d,tk,os⟩:=s;obtain⟨hl1,hl2,h⟩:=h;have hsub:=sub_zip;have m1:Heap.IsTuple (Shared.heap ⟨hp,g,d,tk,os⟩) l1 xs:=hl1;have m2:Heap.IsTuple (Shared.heap ⟨hp.push { cls:=.type "tuple_iterator",data:=.fields #[.ref l1,.int 0 0] },g,d,tk,os⟩) l2 ys:=Heap.IsTuple.push hl2 _
  wp_walk using wpAny_pyIter_tuple m1,wpAny_pyIter_tuple m2
  exact⟨_,rfl,h⟩
theorem a9z {prog:Program}{w:World}{A:Around}{E:Vs0}{s:Shared}{l1 l2:Addr}{xs ys:Array Value}{Q:Vs0}(hl1:s.heap.IsTuple l1 xs)(hl2:s.heap.IsTuple l2 ys)
  (h:∀h',ZT h' (s.heap.objs.size+4) (s.heap.objs.size+2) (s.heap.objs.size+3) s.heap.objs.size (s.heap.objs.size+1) l1 l2 0 xs ys .none->h'.objs.size=s.heap.objs.size+5->(∀c o,s.heap.get? c=some o->h'.get? c=some o)->Q (.ref (s.heap.objs.size+4)) { s with heap:=h' }) :
  wpAny (model prog w) A (call (.type "zip") [.ref l1,.ref l2]) Q E s:=by
 refine callType_new F.called_zip (by decide) (F.typeCall_zip_2 _ _) (F.newCall_zip_2 _ _) (fun obj=>F.args_object_init_3 obj _ _) F.entry_zip_new (a8t l1 l2 xs ys) ⟨hl1,hl2,?_⟩;have z1:(zT1 s.heap l1).objs.size=s.heap.objs.size+1:=Heap.size_push ..;have z2:(zT2 s.heap l1 l2).objs.size=s.heap.objs.size+2:=by rw[Heap.size_push,z1]
 have z3:(zT3 s.heap l1 l2).objs.size=s.heap.objs.size+3:=by rw[Heap.size_push,z2]
 have z4:(zT4 s.heap l1 l2).objs.size=s.heap.objs.size+4:=by rw[Heap.size_push,z3]
 have z5:(zT5 s.heap l1 l2).objs.size=s.heap.objs.size+5:=by rw[Heap.size_push,z4]
 have kp:∀c o,s.heap.get? c=some o->(zT5 s.heap l1 l2).get? c=some o:=fun c o x=>hP0 _ (hP0 _ (hP0 _ (hP0 _ (hP0 _ x))));have g5:(zT5 s.heap l1 l2).get? (zT4 s.heap l1 l2).objs.size=some _:=hS0 _ rfl;have g4:(zT5 s.heap l1 l2).get? (zT3 s.heap l1 l2).objs.size=some _:=hP0 _ (hS0 _ rfl);have g3:(zT5 s.heap l1 l2).get? (zT2 s.heap l1 l2).objs.size=some _:=hP0 _ (hP0 _ (hS0 _ rfl));have g2:(zT5 s.heap l1 l2).get? (zT1 s.heap l1).objs.size=some _:=hP0 _ (hP0 _ (hP0 _ (hS0 _ rfl)));have g1:(zT5 s.heap l1 l2).get? s.heap.objs.size=some _:=hP0 _ (hP0 _ (hP0 _ (hP0 _ (hS0 _ rfl))));show _/\_;rw[z2,z3,z4] at g5;rw[z1,z2] at g3;rw[z3] at g4;rw[z1] at g2;rw[z4];refine⟨⟨_,g5,rfl⟩,h _ ⟨g5,g3,⟨_,_,g4⟩,⟨_,g1,rfl,rfl⟩,⟨_,g2,rfl,rfl⟩,?_,?_⟩ z5 kp⟩
 ·obtain⟨o,e,r⟩:=hl1;exact⟨o,kp _ o e,r⟩
 ·obtain⟨o,e,r⟩:=hl2;exact⟨o,kp _ o e,r⟩
end L2
namespace L2
open PySem PySem.Spec PyProof.Rows
section
variable {X:Cx}{pins:List (Addr×Obj)}{σ:St}{H:Hp}{s:Shared}{h':Heap}
theorem Inv.turnedL {t':Nat}{ch:List Addr}(I:Inv X pins σ H s)(k:∀b o,b∉ch->s.heap.get? b=some o->h'.get? b=some o)(f:∀b∈ch,a4x X pins H b):Inv X pins σ H { s with heap:=h',toks:=t' }:=by
 have nit:∀b u,H b=some u->b∉ch:=fun b u e z=>by rw[(f b z).1] at e;cases e
 refine I.step (g':=s.gens) (d':=s.drawn) (ch:=ch) (fun b hb=>?_) (fun b o _ _ hc e _=>k b o hc e) (fun b o _ _ hc e _=>⟨o.slots,k b o hc e⟩) (fun _ _ _ _ n=>n) (fun b o hc e=>⟨o,k b o hc e⟩) (fun _ _ e=>e) (fun _ _ _ e=>e) (fun b ps e=>⟨#[],by rw[e];simp⟩) (fun m hm=>?_) (fun b u e=>?_) I.bare
 ·obtain⟨f0,f1,f2,f3,f4,f5⟩:=f b hb
  exact⟨f3,f1,f4,f5⟩
 ·obtain⟨o,es,ep,ho,r⟩:=hm
  refine⟨o,es,ep,k _ o (fun z=>?_) ho,r⟩;obtain⟨f0,f1,_⟩:=f _ z;exact f1 rfl
 ·refine(I.hok b u e).stay (fun c v hc q=>k c v ?_ q) (fun _ q=>q) fun _ _ q=>q
  rcases hc with z |z
  ·rw[z];exact nit b u e
  ·exact nit c _ z
end
structure ZM (h:Heap) (z TI TO i1 i2 a b:Addr) (k:Nat):Prop where
 zp:IsZip h z TI TO .none
 ti:IsPair h TI (.ref i1) (.ref i2)
 to:∃u v,IsPair h TO u v
 j1:h.IsTupleIter i1 a k
 j2:h.IsTupleIter i2 b k
def ItZ (K:Fg0)(a b:Addr):It:=
 ⟨fun i H=>∃xs ys x y,SqT K H a xs/\SqT K H b ys/\xs[i]? =some x/\ys[i]? =some y,fun i H x H'=>∃u v p,(∀xs ys,SqT K H a xs->SqT K H b ys->xs[i]? =some u/\ys[i]? =some v)/\x=.ref p/\H p=none/\H'=upd H p (.tup [u,v]),fun i H=>∃xs ys,SqT K H a xs/\SqT K H b ys/\xs.length<=i⟩
theorem a9C {P:Program}{w:World}{K:Fg0}{es:List Expr}{x1:Nat}{tp:Pos}(a b z TI TO i1 i2:Addr)(D:ZipApart z TI TO i1 i2 a b):b0k P w K (.Tuple es x1 tp) (ItZ K a b) [z,TI,TO,i1,i2] z (fun i h=>ZM h z TI TO i1 i2 a b i) where
 mem:=by simp
 obj:=fun i h st c hc=>by
  obtain⟨s1,s2,⟨u,v,s3⟩,s4,s5⟩:=st;simp only[mK0,List.not_mem_nil,or_false] at hc;rcases hc with q |q |q |q |q
  ·subst q;exact⟨_,s1,fun v z=>by cases z⟩
  ·subst q;exact⟨_,s2,fun v z=>by cases z⟩
  ·subst q;exact⟨_,s3,fun v z=>by cases z⟩
  ·subst q;obtain⟨o,e,_,d⟩:=s4;exact⟨o,e,fun v z=>by rw[d] at z;cases z⟩
  ·subst q;obtain⟨o,e,_,d⟩:=s5;exact⟨o,e,fun v z=>by rw[d] at z;cases z⟩
 keep:=fun i h h' st k=>by
  obtain⟨s1,s2,⟨u,v,s3⟩,⟨o4,e4,r4⟩,⟨o5,e5,r5⟩⟩:=st;exact⟨k z (by simp) _ s1,k TI (by simp) _ s2,⟨u,v,k TO (by simp) _ s3⟩,⟨o4,k i1 (by simp) _ e4,r4⟩,⟨o5,k i2 (by simp) _ e5,r5⟩⟩
 item:=by
  intro X hP hw hK hc i pins s σ H E I hf st hg;subst hP hw hK;obtain⟨s1,s2,s3,s4,s5⟩:=st;obtain⟨xs,ys,x,y,hq1,hq2,hx,hy⟩:=hg;obtain⟨its,rv,p,hz⟩:=I.tuple hq1;obtain⟨jts,rw',p',hz'⟩:=I.tuple hq2;obtain⟨u,hu,ru⟩:=rv.get hx;obtain⟨v,hv,rv'⟩:=rw'.get hy;have Z:ZT s.heap z TI TO i1 i2 a b i its.toArray jts.toArray .none:=⟨s1,s2,s3,s4,s5,p,p'⟩;refine a8S D Z (x:=u) (y:=v) (by simpa using hu) (by simpa using hv) fun h' Z' ht hsz kp=>?_;refine⟨_,rfl,?_⟩;refine wpAny_letOwnedTupleGo_zip (s:={ s with heap:=h' }) Z'.zp fun h'' zp'' sb=>?_;have zlt:z<s.heap.objs.size:=hL0 s1;have kp2:∀c o,c∉[z,TI,TO,i1,i2]->s.heap.get? c=some o->h''.get? c=some o:=fun c o hc e=>by
   simp only[mK0,List.not_mem_nil,or_false,not_or] at hc;exact(sb.2 c hc.1).trans (kp c o hc.1 hc.2.2.1 hc.2.2.2.1 hc.2.2.2.2 e)
  have I1:Inv X pins σ H { s with heap:=h'' }:=I.turnedL (t':=s.toks) kp2 hf;have hp:H s.heap.objs.size=none:=I.hok.fresh (nR0 _);have e2:h''.get? s.heap.objs.size=some { cls:=.type "tuple",data:=.seq #[u,v] }:=(sb.2 _ (Nat.ne_of_gt zlt)).trans ht;have I2:Inv X pins σ (upd H s.heap.objs.size (.tup [x,y])) { s with heap:=h'' }:=I1.track (I.our (nR0 _)) ⟨(show 2<=sizeLine by decide),[u,v],.cons ru (.cons rv' .nil),⟨_,e2,rfl,_,rfl⟩⟩;refine⟨.ref s.heap.objs.size,_,I2,rfl,⟨x,y,_,fun ws us h1 h2=>?_,rfl,hp,rfl⟩,?_,fun c hc=>?_⟩
  ·rw[I.tuple_inj h1 hq1,I.tuple_inj h2 hq2]
   exact⟨hx,hy⟩
  ·have up:∀c o,c≠z->h'.get? c=some o->h''.get? c=some o:=fun c o hc e=>(sb.2 c hc).trans e
   obtain⟨_,q2,⟨q3a,q3b,q3⟩,⟨o4,e4,r4⟩,⟨o5,e5,r5⟩,_,_⟩:=Z';exact⟨zp'',up _ _ D.TIz q2,⟨q3a,q3b,up _ _ D.TOz q3⟩,⟨o4,up _ _ D.i1z e4,r4⟩,⟨o5,up _ _ D.i2z e5,r5⟩⟩
  ·obtain⟨f0,_⟩:=hf c hc
   rw[a0g fun q=>?_]
   ·exact f0
   ·have lt:∀c o,s.heap.get? c=some o->c≠s.heap.objs.size:=fun c o e=>nL0 (hL0 e)
    obtain⟨q3a,q3b,q3⟩:=s3;obtain⟨o4,e4,_⟩:=s4;obtain⟨o5,e5,_⟩:=s5;simp only[mK0,List.not_mem_nil,or_false] at hc;rcases hc with r |r |r |r |r
    ·exact lt z _ s1 (r▸q)
    ·exact lt TI _ s2 (r▸q)
    ·exact lt TO _ q3 (r▸q)
    ·exact lt i1 _ e4 (r▸q)
    ·exact lt i2 _ e5 (r▸q)
 done:=by
  intro X hP hw hK hc i pins s σ H E I hf st hg;subst hP hw hK;obtain⟨s1,s2,s3,s4,s5⟩:=st;obtain⟨xs,ys,hq1,hq2,hx⟩:=hg;obtain⟨its,rv,p,hz⟩:=I.tuple hq1;obtain⟨jts,rw',p',hz'⟩:=I.tuple hq2;have hl:=rv.length;have Z:ZT s.heap z TI TO i1 i2 a b i its.toArray jts.toArray .none:=⟨s1,s2,s3,s4,s5,p,p'⟩;refine a9e (I.ok.hd hc) D Z (by simp;omega) fun h' kp=>⟨rfl,I.turnedL (t':=s.toks) (fun c o hc e=>?_) hf⟩;simp only[mK0,List.not_mem_nil,or_false,not_or] at hc;exact kp c o hc.1 hc.2.2.1 hc.2.2.2.1 hc.2.2.2.2 e
 self:=fun A i s Q E st h=>wpAny_pyIter_zip st.zp h
section
variable {X:Cx}
theorem boot_zip:bootBuiltins "zip"=some (.type "zip"):=by decide +kernel
def b6g (K:Fg0)(ta:TA):TI:=fun σ H R=>ta σ H fun vs H1=>∃a b,vs=[.ref a,.ref b]/\(∃xs,SqT K H1 a xs)/\(∃ys,SqT K H1 b ys)/\R (ItZ K a b) H1
theorem b3k {es:List Expr}{x1:Nat}{tp:Pos}{l m:Expr}{ta:TA}{p pos:Pos}(hg:Gl X "zip")(hm:X.mg "zip"=none)(ha:PA X [l,m] ta)(hs:starEach [l,m] X.env=(false,eval l X.env)::starEach [m] X.env:=by rfl)(hpl:(backTo pos (starEach [m] X.env)).any (·.1)=false:=by rfl) :
  PI X (.Tuple es x1 tp) (.Call (.Name "zip" p) [l,m] [] pos) (b6g X.K ta):=by
 intro pins s σ H R I h;refine Call_ (a4m I hg hm boot_zip (PyProof.Rows.callWith_type1 (thn (ha pos pins s σ H _ I h) fun us s1 ⟨vs,H1,I1,r1,q1⟩=>?_) hs hpl));obtain⟨a,b,e,⟨xs,hq1⟩,⟨ys,hq2⟩,q⟩:=q1;subst e;obtain⟨u,v,rfl,rx,ry⟩:=a9y r1;cases rx;cases ry;obtain⟨its,rv,p1,hz⟩:=I1.tuple hq1;obtain⟨jts,rw',p2,hz'⟩:=I1.tuple hq2;have la:a<s1.heap.objs.size:=by obtain⟨o,e,_⟩:=p1;exact hL0 e
 have lb:b<s1.heap.objs.size:=by obtain⟨o,e,_⟩:=p2;exact hL0 e
 have D:ZipApart (s1.heap.objs.size+4) (s1.heap.objs.size+2) (s1.heap.objs.size+3) s1.heap.objs.size (s1.heap.objs.size+1) a b:=by
  generalize s1.heap.objs.size=n at la lb
  constructor<;>(intro z;simp only[Addr] at *;omega)
 refine a9z p1 p2 fun h' Z hsz hk=>?_;have I2:Inv X pins σ H1 { s1 with heap:=h' }:=I1.kept (t':=s1.toks) hk;refine wpAny_pyIter_zip (s:={ s1 with heap:=h' }) Z.zp ?_;refine⟨s1.heap.objs.size+4,[s1.heap.objs.size+4,s1.heap.objs.size+2,s1.heap.objs.size+3,s1.heap.objs.size,s1.heap.objs.size+1],_,_,H1,rfl,I2,a9C a b _ _ _ _ _ D,⟨Z.zp,Z.ti,Z.to,Z.j1,Z.j2⟩,fun c hc=>?_,q⟩;have nb:s1.heap.objs.size<=c:=by
  simp only[mK0,List.not_mem_nil,or_false] at hc;rcases hc with r |r |r |r |r<;>(rw[r];first |exact nR0 _ |exact Nat.le_add_right _ _)
 exact I1.fpOk nb (I1.hok.fresh nb)
theorem b0D {K:Fg0}{a b:Addr}{xs ys:List V}{g:TG}{tb:TS}{D:a4J}{σ:St}{H:Hp}(Pv:Nat->St->Hp->Prop)(hlen:xs.length=ys.length)(h0:Pv 0 σ H)(hl:∀i σ H,i<=xs.length->Pv i σ H->SqT K H a xs/\SqT K H b ys)
  (hs:∀i x y p σ H,xs[i]? =some x->ys[i]? =some y->Pv i σ H->H p=none->g (.ref p) σ (upd H p (.tup [x,y])) fun σ2 H2=>tb { D with nx:=Pv (i+1),ct:=Pv (i+1),bk:=D.nx } σ2 H2) (hd:∀σ H,Pv xs.length σ H->D.nx σ H) :
  ∃W:Nat->Nat->St->Hp->Prop,(∃m,W 0 m σ H)/\∀i m σ H,W i m σ H →
   ((ItZ K a b).stop i H/\D.nx σ H)\/((ItZ K a b).go i H/\∃N:St->Hp->Prop,(∀σ' H',N σ' H'->∃m',m'<m/\W (i+1) m' σ' H')/\∀x H',(ItZ K a b).yld i H x H'->g x σ H' fun σ2 H2=>tb { D with nx:=N,ct:=N,bk:=D.nx } σ2 H2):=by
 refine⟨fun i m σ H=>m=xs.length-i/\i<=xs.length/\Pv i σ H,⟨xs.length,by simp,zL0 _,h0⟩,?_⟩;rintro i m σ H ⟨rfl,hi,p⟩;obtain⟨q1,q2⟩:=hl i σ H hi p
 by_cases hlt:i<xs.length
 ·have hlt2:i<ys.length:=by omega
  refine .inr ⟨⟨xs,ys,xs[i],ys[i],q1,q2,by simp[hlt],by simp[hlt2]⟩,Pv (i+1),fun σ' H' p'=>⟨xs.length-(i+1),by omega,rfl,hlt,p'⟩,fun x H' y=>?_⟩;obtain⟨u,v,pa,hk,ex,hn,e⟩:=y;subst e ex;exact hs i u v pa σ H (hk xs ys q1 q2).1 (hk xs ys q1 q2).2 p hn
 ·have e:i=xs.length:=by omega
  subst e;exact .inl ⟨⟨xs,ys,q1,q2,nR0 _⟩,hd σ H p⟩
end
end L2
namespace My
open PySem L2 PyProof.Rows
def top (i:Nat):Stmt:=PySem.Challenge.pw_halfmoved_k36_sides_refused.main.body.getD i (.Pass ⟨0,0,0,0⟩)
section
variable {P:Program}{w:World}{K:Fg0}{mg:Str->Option Value}{base:Heap}
theorem a7Y {f:Addr}{fd:FuncData}(F:Fun K "is_whole" "is_whole" (top 11) f fd)(B:Bl mg):a0x P w K mg base CX0 1 f fd ["thing"] (a7f K):=by
 have sc:a0o ["thing"] ["thing"] (a0f (top 11)):=.k (by decide +kernel);refine F.ok sc (fun vs H Q E h=>?_) (fun cdv A outer s H vs Q E hr h=>?_)
 ·obtain⟨v,n,rfl,_⟩:=h
  rfl
 ·obtain⟨v,n,rfl,⟨ty,hn⟩,q⟩:=h
  refine⟨_,a0h (a0z (a1y (a0k a2z (by rfl) B.isi boot_isi (a0a (pv 0) (a0a (a0B (v:=.ty "int") (by rfl) B.int boot_int rfl) a0b)))
   (a1M (a9r (a0k a2z (by rfl) B.isi boot_isi (a0a (pv 0) (a0a (a0B (v:=.ty "bool") (by rfl) B.bool boot_bool rfl) a0b))))))),?_⟩
  refine⟨_,rfl,_,_,_,_,rfl,ty,a2J.trans (b2X n hn),_,rfl,?_⟩;refine a8I (fun c=>?_) (fun c=>?_)
  ·refine⟨_,rfl,_,_,_,_,rfl,ty,a2J.trans (b1r n hn),_,rfl,?_⟩
   have e:(!(n=="bool"))=(n=="int"):=by
    revert c hn
    clear ty q
    revert n
    decide +kernel
   rw[e];exact q
  ·have e:(n=="int")=false:=by
    cases z:n=="int" with
    |false=>rfl
    |true=>rw[z] at c;exact(c rfl).elim
   rw[e] at q;exact q
def a4o:Dt->Bool
 | .int _=>true
 |_=>false
def b2P (l:List Nat):Bool:=match l with
 |[c]=>decide (32<=c)&&(decide (c<=126)&&!decide (c=37))
 |_=>false
def a6F:Dt->Bool
 | .str z=>b2P z.cps.toList
 |_=>false
def geD:Dt->Bool
 | .int i=>decide (1<=i)
 |_=>false
def a4B (s b:Dt):Bool:=if a1B s "below"=true then geD b else if a1B s "upto"=true then a4o b else a1B s "without"&&a6F b
def w2:List Str:=["whole","word"]
def w3:List Str:=["list","some","once"]
def a1E:Dt->Bool
 | .tup [s]=>w2.any (a1B s)
 | .tup [s,b]=>a4B s b
 |_=>false
def a9t:Dt->Bool
 | .tup [s]=>a1B s "key"
 | .tup [s,b]=>w3.any (a1B s)&&a1E b
 |_=>false
def a1H (d:Dt):Bool:=a1E d || a9t d
theorem a4u (d:Dt):(tyD d=="int")=a4o d:=by cases d<;>simp[tyD,a4o]
theorem b2O {f:Addr}{fd:FuncData}(F:Fun K "is_sign" "is_sign" (top 13) f fd)(B:Bl mg){uP:Value}(hP:mg "PERCENT"=some uP)(rP:a1e (.int 37) uP) :
  a0x P w K mg base CX0 1 f fd ["thing"] (fun vs H Q _=>∃(v:V) (d:Dt),vs=[v]/\Rep H d v/\Q (.bl (a6F d)) H):=by
 have sc:a0o ["thing"] ["thing"] (a0f (top 13)):=.k (by decide +kernel);refine F.ok sc (fun vs H Q E h=>?_) (fun cdv A outer s H vs Q E hr h=>?_)
 ·obtain⟨v,d,rfl,_⟩:=h
  rfl
 ·obtain⟨v,d,rfl,hd,q⟩:=h
  refine⟨_,a0c (a0C (PW.pt (a3x (a1P (a0K (a0k a2z (by rfl) B.isi boot_isi (a0a (pv 0) (a0a (a0B (v:=.ty "str") (by rfl) B.str boot_str rfl) a0b)))))
    (a2n (a0t a3O (a0k a3J (by rfl) B.len PySem.boot_len (a0a (pv 0) a0b)) a0e (a0u _))))) (a0h (a0z a3Q)) a0l)
   (a0h (a0z (a1y (b0B a6s a6s a0v (pv 0) a0v) (a1M (a0Q a3O (a0k b0t (by rfl) B.ord boot_ord (a0a (pv 0) a0b)) (a2l (by rfl) hP rP) (a0u _)))))),?_⟩
  by_cases hs:tyD d="str"
  ·obtain⟨z,rfl⟩:∃z,d=.str z:=by
    cases d<;>first |exact⟨_,rfl⟩ | (simp[tyD] at hs)
   unfold Rep at hd;obtain⟨rfl,hz⟩:=hd;have hzs:z.length<=sizeLine:=by rw[sizeLine_eq];omega
   refine⟨_,rfl,_,_,_,_,rfl,.str z,a2J.trans (show a1c "str" "str"=some true by decide +kernel),_,rfl,?_⟩;refine a1Z ?_;refine⟨_,rfl,_,rfl,hzs,rfl,_,rfl,?_⟩;have hl:z.cps.toList.length=z.length:=by simp[Str.length]
   by_cases h1:z.length=1
   ·obtain⟨c,hc⟩:∃c,z.cps.toList=[c]:=by
     rw[h1] at hl
     match h:z.cps.toList,hl with
     |[c],_=>exact⟨c,rfl⟩
    have hg:z.cps.getD 0 0=c:=by
     have:z.cps=#[c]:=by rw[<-Array.toArray_toList (xs:=z.cps),hc]
     rw[this]
     rfl
    refine a3e (by rw[h1];rfl) ?_;have hq:a6F (.str z)=(decide (32<=c)&&(decide (c<=126)&&!decide (c=37))):=by
     show b2P z.cps.toList=_;rw[hc]
     rfl
    rw[hq] at q;have e32:(" ":Str).cps.toList=[32]:=by decide +kernel
    have e126:("~":Str).cps.toList=[126]:=by decide +kernel
    have l1:(!decide (z.cps.toList<(" ":Str).cps.toList))=decide (32<=c):=by
     rw[hc,e32,StrLaws.lt_cons_cons,StrLaws.lt_nil_nil,Bool.and_false,Bool.or_false]
     by_cases h:32<=c
     ·rw[dT0 h,dF0 (by omega)];rfl
     ·rw[dF0 h,dT0 (by omega)];rfl
    have l2:(!decide (("~":Str).cps.toList<z.cps.toList))=decide (c<=126):=by
     rw[hc,e126,StrLaws.lt_cons_cons,StrLaws.lt_nil_nil,Bool.and_false,Bool.or_false]
     by_cases h:c<=126
     ·rw[dT0 h,dF0 (by omega)];rfl
     ·rw[dF0 h,dT0 (by omega)];rfl
    refine⟨_,rfl,_,_,rfl,rfl,_,rfl,?_⟩
    by_cases h32:32<=c
    ·refine a6B (l1.trans (dT0 h32)) ?_
     refine⟨_,_,rfl,rfl,_,rfl,?_⟩;rw[dT0 h32,Bool.true_and] at q
     by_cases h126:c<=126
     ·refine a6B (l2.trans (dT0 h126)) ?_
      rw[dT0 h126,Bool.true_and] at q;refine⟨_,rfl,_,rfl,h1,rfl,?_⟩;have e:decide (V.int (z.cps.getD 0 0:Nat)=V.int 37)=decide (c=37):=by
       rw[hg];exact a8D (k:=37)
      rw[e];exact q
     ·refine a3e (l2.trans (dF0 h126)) ?_
      rw[dF0 h126,Bool.false_and] at q;exact q
    ·refine a3e (l1.trans (dF0 h32)) ?_
     rw[dF0 h32,Bool.false_and] at q;exact⟨_,rfl,a1Z q⟩
   ·refine a6B ?_ ?_
    ·have e:decide (V.int (z.length:Int)=V.int 1)=decide (z.length=1):=a8D (k:=1)
     rw[e,dF0 h1]
     rfl
    ·have hq:a6F (.str z)=false:=by
      show b2P z.cps.toList=_;rw[<-hl] at h1
      match h:z.cps.toList,h1 with
      |[],_=>rfl
      |[c],h1=>exact(h1 rfl).elim
      |_::_::_,_=>rfl
     rw[hq] at q;exact q
  ·have e:(tyD d=="str")=false:=beq_eq_false_iff_ne.mpr hs
   have hi:=hd.is (K:=K);refine⟨_,rfl,_,_,_,_,rfl,hi.1,a2J.trans ((a8T _ hi.2).trans (congrArg some e)),_,rfl,?_⟩;refine a3C ?_;have hq:a6F d=false:=by
    cases d<;>first |rfl |exact(hs rfl).elim
   rw[hq] at q;exact q
theorem b2t {f fW fS:Addr}{fd fdW fdS:FuncData}(F:Fun K "is_plain_pair" "is_plain_pair" (top 15) f fd)(B:Bl mg)(DW:Df K mg "is_whole" (top 11) fW fdW)(DS:Df K mg "is_sign" (top 13) fS fdS){uP:Value}(hP:mg "PERCENT"=some uP)(rP:a1e (.int 37) uP) :
  a0x P w K mg base CX0 2 f fd ["sort","bound"] (fun vs H Q _=>∃(u v:V) (s b:Dt),vs=[u,v]/\Rep H s u/\Rep H b v/\Q (.bl (a4B s b)) H):=by
 have sc:a0o ["sort","bound"] ["sort","bound"] (a0f (top 15)):=.k (by decide +kernel);have GW:a0x P w K mg base CX0 1 fW fdW ["thing"] (a7f K):=a7Y DW.fn B;have GS:=b2O (P:=P) (w:=w) (base:=base) DS.fn B hP rP;have bW:=DW.fn.b1 "thing" (by intros;rfl);have bS:=DS.fn.b1 "thing" (by intros;rfl);refine F.ok sc (fun vs H Q E h=>?_) (fun cdv A outer s H vs Q E hr h=>?_)
 ·obtain⟨u,v,s,b,rfl,_⟩:=h
  rfl
 ·obtain⟨u,v,ds,db,rfl,hds,hdb,q⟩:=h
  have hu:(A.deeper (envOfC "is_plain_pair" (a0f (top 15)) s.heap.objs.size f cdv)).units<cLine:=hr.units0;refine⟨_,a0c (a0C (a0t (a7L hu) (pv 0) a0v (a0u _)) (a0h (a0z (a1y (a0i GW hr (by rfl) DW.mg DW.fn.kp bW .nil a0q (a0a (pv 1) a0b)) (a1M (a0Q b5i (pv 1) a0e (a0u _)))))) a0l)
   (a0c (a0C (a0t (a7L hu) (pv 0) a0v (a0u _)) (a0h (a0z (a0i GW hr (by rfl) DW.mg DW.fn.kp bW .nil a0q (a0a (pv 1) a0b)))) a0l)
   (a0h (a0z (a1y (a0Q (a7L hu) (pv 0) a0v (a0u _)) (a1M (a0i GS hr (by rfl) DS.mg DS.fn.kp bS .nil a0q (a0a (pv 1) a0b))))))),?_⟩
  refine⟨_,rfl,ds,_,hds,rfl,_,rfl,?_⟩
  by_cases c1:a1B ds "below"=true
  ·refine a6B c1 ?_
   have e:a4B ds db=geD db:=by unfold a4B;rw[if_pos c1]
   rw[e] at q;refine⟨_,rfl,_,_,rfl,hdb.is,_,rfl,?_⟩
   by_cases hw:a4o db=true
   ·refine a6B ((a4u db).trans hw) ?_
    obtain⟨i,rfl⟩:∃i,db=.int i:=by
     cases db<;>first |exact⟨_,rfl⟩ | (simp[a4o] at hw)
    unfold Rep at hdb;subst hdb;exact⟨_,rfl,_,_,rfl,rfl,q⟩
   ·refine a3e ((a4u db).trans (by simpa using hw)) ?_
    have e2:geD db=false:=by
     cases db<;>first |rfl |exact(hw rfl).elim
    rw[e2] at q;exact q
  ·refine a3e (by simpa using c1) ?_
   refine⟨_,rfl,ds,_,hds,rfl,_,rfl,?_⟩
   by_cases c2:a1B ds "upto"=true
   ·refine a6B c2 ?_
    have e:a4B ds db=a4o db:=by unfold a4B;rw[if_neg c1,if_pos c2]
    rw[e,<-a4u db] at q;exact⟨_,rfl,_,_,rfl,hdb.is,q⟩
   ·refine a3e (by simpa using c2) ?_
    have e:a4B ds db=(a1B ds "without"&&a6F db):=by unfold a4B;rw[if_neg c1,if_neg c2]
    rw[e] at q;refine⟨_,rfl,ds,_,hds,rfl,_,rfl,?_⟩
    by_cases c3:a1B ds "without"=true
    ·refine a6B c3 ?_
     rw[c3,Bool.true_and] at q;exact⟨_,rfl,_,_,rfl,hdb,q⟩
    ·refine a3e (by simpa using c3) ?_
     rw[(by simpa using c3:a1B ds "without"=false),Bool.false_and] at q;exact q
def a4T:Sp:=fun vs H Q _=>∃(v:V) (d:Dt),vs=[v]/\Rep H d v/\∀H',a0r H H'->Q (.bl (a1E d)) H'
theorem b0x {f fW fS fR:Addr}{fd fdW fdS fdR:FuncData}(F:Fun K "is_plain" "is_plain" (top 14) f fd)(B:Bl mg)(DW:Df K mg "is_whole" (top 11) fW fdW)(DS:Df K mg "is_sign" (top 13) fS fdS)(DR:Df K mg "is_plain_pair" (top 15) fR fdR)
  {uP:Value} (hP:mg "PERCENT"=some uP) (rP:a1e (.int 37) uP):a0x P w K mg base CX0 3 f fd ["thing"] a4T:=by
 have sc:a0o ["thing"] ["thing"] (a0f (top 14)):=.k (by decide +kernel);have GR:=b2t (P:=P) (w:=w) (base:=base) DR.fn B DW DS hP rP;have bR:=DR.fn.b2 "sort" "bound" (by intros;rfl);refine F.ok sc (fun vs H Q E h=>?_) (fun cdv A outer s H vs Q E hr h=>?_)
 ·obtain⟨v,d,rfl,_⟩:=h
  rfl
 ·obtain⟨v,d,rfl,hd,q⟩:=h
  have hu:=a2s hr;refine⟨_,a0c (a0C (a1P (a0K (a0k a2z (by rfl) B.isi boot_isi (a0a (pv 0) (a0a (a0B (v:=.ty "tuple") (by rfl) B.tuple boot_tuple rfl) a0b))))) (a0h (a0z a3Q)) a0l)
   (a0c (a0C (a0t a1k (a0k a0W (by rfl) B.len PySem.boot_len (a0a (pv 0) a0b)) a0e (a0u _)) (a0h (a0z (a0Q (b1E hu) (a0s a1n (pv 0) a0e (fun _ _=>rfl)) (a0D (a0a a0v (a0a a0v a0b))) (by with_unfolding_all rfl)))) a0l)
   (a0h (a0z (a1y (a0Q a1k (a0k a0W (by rfl) B.len PySem.boot_len (a0a (pv 0) a0b)) a0e (a0u _))
    (a1M (a0i GR hr (by rfl) DR.mg DR.fn.kp bR .nil a0q (a0a (a0s a1n (pv 0) a0e (fun _ _=>rfl)) (a0a (a0s a1n (pv 0) a0e (fun _ _=>rfl)) a0b)))))))),?_⟩
  have hi:=hd.is (K:=K)
  by_cases ht:tyD d="tuple"
  ·obtain⟨ds,rfl⟩:∃ds,d=.tup ds:=by
    cases d<;>first |exact⟨_,rfl⟩ | (simp[tyD] at ht)
   have hd':=hd;unfold Rep at hd';obtain⟨a,xs,rfl,ha,hr2⟩:=hd';have hl:=hr2.length;refine⟨_,rfl,_,_,_,_,rfl,hi.1,a2J.trans (show a1c "tuple" "tuple"=some true by decide +kernel),_,rfl,?_⟩;refine a1Z ?_;refine⟨_,rfl,_,_,rfl,.inr (SqT.of ha),rfl,_,rfl,?_⟩;have e1:decide (V.int (xs.length:Int)=V.int 1)=decide (xs.length=1):=a8D (k:=1);have e2:decide (V.int (xs.length:Int)=V.int 2)=decide (xs.length=2):=a8D (k:=2)
   match ds,hr2,hl,q with
   |[],hr2,hl,q=>
    refine a3e (e1.trans (dF0 (by rw[hl];simp))) ?_;refine⟨_,rfl,_,_,rfl,.inr (SqT.of ha),rfl,_,rfl,?_⟩;refine a3e (e2.trans (dF0 (by rw[hl];simp))) ?_;exact q H (a0r.refl H)
   |[d0],hr2,hl,q=>
    refine a6B (e1.trans (dT0 hl)) ?_;unfold a2e at hr2;obtain⟨v0,r0,rfl,h0,hn⟩:=hr2;unfold a2e at hn;subst hn;refine⟨_,rfl,_,_,_,v0,rfl,rfl,SqT.of ha,rfl,?_⟩;refine⟨(by decide),fun p hp=>?_⟩;have sm:=a0r.upd (o:=.tup [.str "whole",.str "word"]) hp;exact⟨d0,p,w2,h0.same sm,rfl,a0d,q _ sm⟩
   |[d0,d1],hr2,hl,q=>
    refine a3e (e1.trans (dF0 (by rw[hl];simp))) ?_;unfold a2e at hr2;obtain⟨v0,r0,rfl,h0,hn⟩:=hr2;unfold a2e at hn;obtain⟨v1,r1,rfl,h1,hn⟩:=hn;unfold a2e at hn;subst hn;refine⟨_,rfl,_,_,rfl,.inr (SqT.of ha),rfl,_,rfl,?_⟩;refine a6B (e2.trans (dT0 hl)) ?_;refine⟨_,rfl,_,_,_,v0,rfl,rfl,SqT.of ha,rfl,_,rfl,_,_,_,v1,rfl,rfl,SqT.of ha,rfl,?_⟩;exact⟨v0,v1,d0,d1,rfl,h0,h1,q H (a0r.refl H)⟩
   |d0::d1::d2::r,hr2,hl,q=>
    refine a3e (e1.trans (dF0 (by rw[hl];simp))) ?_;refine⟨_,rfl,_,_,rfl,.inr (SqT.of ha),rfl,_,rfl,?_⟩;refine a3e (e2.trans (dF0 (by rw[hl];simp))) ?_;exact q H (a0r.refl H)
  ·have e:(tyD d=="tuple")=false:=beq_eq_false_iff_ne.mpr ht
   refine⟨_,rfl,_,_,_,_,rfl,hi.1,a2J.trans ((a5O _ hi.2).trans (congrArg some e)),_,rfl,?_⟩;refine a3C ?_;have hq:a1E d=false:=by
    cases d<;>first |rfl |exact(ht rfl).elim
   have:=q H (a0r.refl H)
   rw[hq] at this;exact this
def b2a:Sp:=fun vs H Q _=>∃(v:V) (d:Dt),vs=[v]/\Rep H d v/\∀H',a0r H H'->Q (.bl (a1H d)) H'
theorem b2D {f fP:Addr}{fd fdP:FuncData}(F:Fun K "is_kind" "is_kind" (top 16) f fd)(B:Bl mg)(DP:Df K mg "is_plain" (top 14) fP fdP)(GP:a0x P w K mg base CX0 3 fP fdP ["thing"] a4T):a0x P w K mg base CX0 4 f fd ["thing"] b2a:=by
 have sc:a0o ["thing"] ["thing"] (a0f (top 16)):=.k (by decide +kernel);have bP:=DP.fn.b1 "thing" (by intros;rfl);refine F.ok sc (fun vs H Q E h=>?_) (fun cdv A outer s H vs Q E hr h=>?_)
 ·obtain⟨v,d,rfl,_⟩:=h
  rfl
 ·obtain⟨v,d,rfl,hd,q⟩:=h
  have hu:=a2s hr;refine⟨_,a0c (a0C (a0K (a0i GP hr (by rfl) DP.mg DP.fn.kp bP .nil a0q (a0a (pv 0) a0b))) (a0h (a0z a3Q)) a0l)
   (a0c (a0C (a1P (a0K (a0k a2z (by rfl) B.isi boot_isi (a0a (pv 0) (a0a (a0B (v:=.ty "tuple") (by rfl) B.tuple boot_tuple rfl) a0b))))) (a0h (a0z a3Q)) a0l)
   (a0c (a0C (a0t a1k (a0k a0W (by rfl) B.len PySem.boot_len (a0a (pv 0) a0b)) a0e (a0u _)) (a0h (a0z (a0Q (a7L (Nat.lt_of_succ_lt hu)) (a0s a1n (pv 0) a0e (fun _ _=>rfl)) a0v (a0u _)))) a0l)
   (a0h (a0z (a1y (a0Q a1k (a0k a0W (by rfl) B.len PySem.boot_len (a0a (pv 0) a0b)) a0e (a0u _))
    (a1y (a0Q (b1E hu) (a0s a1n (pv 0) a0e (fun _ _=>rfl)) (a0D (a0a a0v (a0a a0v (a0a a0v a0b)))) (by with_unfolding_all rfl))
    (a1M (a0i GP hr (by rfl) DP.mg DP.fn.kp bP .nil a0q (a0a (a0s a1n (pv 0) a0e (fun _ _=>rfl)) a0b))))))))),?_⟩
  refine⟨_,rfl,v,d,rfl,hd,fun H1 s1=>?_⟩;refine⟨_,rfl,?_⟩
  by_cases hp:a1E d=true
  ·refine a6B hp ?_
   have e:a1H d=true:=by unfold a1H;rw[hp];rfl
   have:=q H1 s1
   rw[e] at this;exact this
  ·refine a3e (by simpa using hp) ?_
   have ek:a1H d=a9t d:=by unfold a1H;rw[(by simpa using hp:a1E d=false)];rfl
   rw[ek] at q;have hd1:=hd.same s1;have hi:=hd1.is (K:=K)
   by_cases ht:tyD d="tuple"
   ·obtain⟨ds,rfl⟩:∃ds,d=.tup ds:=by
     cases d<;>first |exact⟨_,rfl⟩ | (simp[tyD] at ht)
    have hd':=hd1;unfold Rep at hd';obtain⟨a,xs,rfl,ha,hr2⟩:=hd';have hl:=hr2.length;refine⟨_,rfl,_,_,_,_,rfl,hi.1,a2J.trans (show a1c "tuple" "tuple"=some true by decide +kernel),_,rfl,?_⟩;refine a1Z ?_;refine⟨_,rfl,_,_,rfl,.inr (SqT.of ha),rfl,_,rfl,?_⟩;have e1:decide (V.int (xs.length:Int)=V.int 1)=decide (xs.length=1):=a8D (k:=1);have e2:decide (V.int (xs.length:Int)=V.int 2)=decide (xs.length=2):=a8D (k:=2)
    match ds,hr2,hl,q with
    |[],hr2,hl,q=>
     refine a3e (e1.trans (dF0 (by rw[hl];simp))) ?_;refine⟨_,rfl,_,_,rfl,.inr (SqT.of ha),rfl,_,rfl,?_⟩;refine a3e (e2.trans (dF0 (by rw[hl];simp))) ?_;exact q H1 s1
    |[d0],hr2,hl,q=>
     refine a6B (e1.trans (dT0 hl)) ?_;unfold a2e at hr2;obtain⟨v0,r0,rfl,h0,hn⟩:=hr2;unfold a2e at hn;subst hn;refine⟨_,rfl,_,_,_,v0,rfl,rfl,SqT.of ha,rfl,?_⟩;exact⟨d0,_,h0,rfl,q H1 s1⟩
    |[d0,d1],hr2,hl,q=>
     refine a3e (e1.trans (dF0 (by rw[hl];simp))) ?_;unfold a2e at hr2;obtain⟨v0,r0,rfl,h0,hn⟩:=hr2;unfold a2e at hn;obtain⟨v1,r1,rfl,h1,hn⟩:=hn;unfold a2e at hn;subst hn;refine⟨_,rfl,_,_,rfl,.inr (SqT.of ha),rfl,_,rfl,?_⟩;refine a6B (e2.trans (dT0 hl)) ?_;refine⟨_,rfl,_,_,_,v0,rfl,rfl,SqT.of ha,rfl,?_⟩;refine⟨(by decide),fun p hp'=>?_⟩;have sm:=a0r.upd (o:=.tup [.str "list",.str "some",.str "once"]) hp';have s2:=s1.trans sm;refine⟨d0,p,w3,h0.same sm,rfl,a0d,_,rfl,?_⟩;have em:a9t (.tup [d0,d1])=(w3.any (a1B d0)&&a1E d1):=rfl;rw[em] at q
     by_cases c:w3.any (a1B d0)=true
     ·refine a6B c ?_
      rw[c,Bool.true_and] at q;refine⟨_,rfl,_,_,_,v1,rfl,rfl,SqT.of (sm _ _ ha),rfl,?_⟩;exact⟨v1,d1,rfl,h1.same sm,fun H3 s3=>q H3 (s2.trans s3)⟩
     ·refine a3e (by simpa using c) ?_
      rw[(by simpa using c:w3.any (a1B d0)=false),Bool.false_and] at q;exact q _ s2
    |d0::d1::d2::r,hr2,hl,q=>
     refine a3e (e1.trans (dF0 (by rw[hl];simp))) ?_;refine⟨_,rfl,_,_,rfl,.inr (SqT.of ha),rfl,_,rfl,?_⟩;refine a3e (e2.trans (dF0 (by rw[hl];simp))) ?_;exact q H1 s1
   ·have e:(tyD d=="tuple")=false:=beq_eq_false_iff_ne.mpr ht
    refine⟨_,rfl,_,_,_,_,rfl,hi.1,a2J.trans ((a5O _ hi.2).trans (congrArg some e)),_,rfl,?_⟩;refine a3C ?_;have hq:a9t d=false:=by
     cases d<;>first |rfl |exact(ht rfl).elim
    have:=q H1 s1
    rw[hq] at this;exact this
end
end My
namespace L2
open PySem PySem.Spec PyProof.Rows
section
variable {X:Cx}{pins:List (Addr×Obj)}{σ:St}{H:Hp}{s:Shared}{a:Addr}{kvs:List (Key×V)}{o:Obj}
theorem Inv.freeze (I:Inv X pins σ H s)(e:H a=some (.dK kvs))(ho:s.heap.get? a=some o):Inv X pins σ (upd H a (.frz o (.dK kvs))) s:=by
 have ne:∀b u,H b=some u->u≠.dK kvs->b≠a:=fun b u q n z=>by
  subst z;rw[e] at q;exact n (Option.some.inj q).symm
 have nn:∀b,H b=none->b≠a:=fun b q z=>by subst z;rw[e] at q;cases q
 refine⟨I.ok,I.os,I.bare,⟨I.base.keep,I.base.slot,fun b ob q n hx=>?_,I.base.there,fun b xs q=>?_,fun b ob u q=>?_,fun b ps q=>?_⟩,I.loc,I.cell,?_,fun x c q=>?_,fun p hp=>?_,fun b u q=>?_,I.len⟩
 ·have h:=I.base.free b ob q n hx
  rw[a0g (nn b h)];exact h
 ·have h:=I.base.tups b xs q
  rw[a0g (ne b _ h (by simp))];exact h
 ·have h:=I.base.frzs b ob u q
  rw[a0g (ne b _ h (by simp))];exact h
 ·obtain⟨m,h⟩:=I.base.tbls b ps q
  exact⟨m,by rw[a0g (ne b _ h (by simp))];exact h⟩
 ·rw[a0g (nn _ I.free)]
  exact I.free
 ·rw[a0g (nn _ (I.freeC x c q))]
  exact I.freeC x c q
 ·obtain⟨h1,h2,h3⟩:=I.pin p hp
  exact⟨h1,by rw[a0g (nn _ h2)];exact h2,h3⟩
 ·by_cases hb:b=a
  ·subst hb
   rw[a0d] at q;cases q;exact⟨ho,I.hok b _ e⟩
  ·rw[a0g hb] at q
   exact(I.hok b u q).stay (fun c v _ r=>r) (fun c r=>by rw[a0g (ne c _ r (by simp))];exact r) fun c xs r=>by rw[a0g (ne c _ r (by simp))];exact r
theorem Inv.thaw (I:Inv X pins σ H s)(n0:∀ob u,X.H₀ a≠some (.frz ob u))(e:H a=some (.frz o (.dK kvs))):Inv X pins σ (upd H a (.dK kvs)) s:=by
 have ne:∀b u,H b=some u->u≠.frz o (.dK kvs)->b≠a:=fun b u q n z=>by
  subst z;rw[e] at q;exact n (Option.some.inj q).symm
 have nn:∀b,H b=none->b≠a:=fun b q z=>by subst z;rw[e] at q;cases q
 refine⟨I.ok,I.os,I.bare,⟨I.base.keep,I.base.slot,fun b ob q n hx=>?_,I.base.there,fun b xs q=>?_,fun b ob u q=>?_,fun b ps q=>?_⟩,I.loc,I.cell,?_,fun x c q=>?_,fun p hp=>?_,fun b u q=>?_,I.len⟩
 ·have h:=I.base.free b ob q n hx
  rw[a0g (nn b h)];exact h
 ·have h:=I.base.tups b xs q
  rw[a0g (ne b _ h (by simp))];exact h
 ·have h:=I.base.frzs b ob u q
  rw[a0g (fun z=>by subst z;exact n0 _ _ q)];exact h
 ·obtain⟨m,h⟩:=I.base.tbls b ps q
  exact⟨m,by rw[a0g (ne b _ h (by simp))];exact h⟩
 ·rw[a0g (nn _ I.free)]
  exact I.free
 ·rw[a0g (nn _ (I.freeC x c q))]
  exact I.freeC x c q
 ·obtain⟨h1,h2,h3⟩:=I.pin p hp
  exact⟨h1,by rw[a0g (nn _ h2)];exact h2,h3⟩
 ·by_cases hb:b=a
  ·subst hb
   rw[a0d] at q;cases q;exact(I.hok b _ e).2
  ·rw[a0g hb] at q
   exact(I.hok b u q).stay (fun c v _ r=>r) (fun c r=>by rw[a0g (ne c _ r (by simp))];exact r) fun c xs r=>by rw[a0g (ne c _ r (by simp))];exact r
theorem Inv.dk_obj (I:Inv X pins σ H s)(e:H a=some (.dK kvs)):∃o,s.heap.get? a=some o:=by
 obtain⟨_,_,_,_,o,_,_,g,_⟩:=I.hok a _ e;exact⟨o,g⟩
theorem Inv.not_frz (I:Inv X pins σ H s)(e:H a=some (.dK kvs)):∀ob u,X.H₀ a≠some (.frz ob u):=fun ob u q=>by
 have:=I.base.frzs a ob u q
 rw[e] at this;cases this
def b6C (a:Addr)(o:Obj)(kvs:List (Key×V))(D:a4J):a4J where
 nx:=fun σ' H'=>H' a=some (.frz o (.dK kvs))/\D.nx σ' (upd H' a (.dK kvs))
 rt:=fun v H'=>H' a=some (.frz o (.dK kvs))/\D.rt v (upd H' a (.dK kvs))
 bk:=fun σ' H'=>H' a=some (.frz o (.dK kvs))/\D.bk σ' (upd H' a (.dK kvs))
 ct:=fun σ' H'=>H' a=some (.frz o (.dK kvs))/\D.ct σ' (upd H' a (.dK kvs))
def sFrz (t:TS):TS:=fun D σ H=>∃a kvs,H a=some (.dK kvs)/\∀o,t (b6C a o kvs D) σ (upd H a (.frz o (.dK kvs)))
theorem b1X {st:Stmt}{t:TS}(h:PS X st t):PS X st (sFrz t):=by
 intro pins s σ H D I hq;obtain⟨a,kvs,e,q⟩:=hq;obtain⟨o,ho⟩:=I.dk_obj e;have n0:=I.not_frz e;refine thn (h pins s σ _ _ (I.freeze e ho) (q o)) fun f s' hs=>?_;cases f with
 |next=>obtain⟨σ',H',I',e',z⟩:=hs;exact⟨σ',_,I'.thaw n0 e',z⟩
 |brk=>obtain⟨σ',H',I',e',z⟩:=hs;exact⟨σ',_,I'.thaw n0 e',z⟩
 |cont=>obtain⟨σ',H',I',e',z⟩:=hs;exact⟨σ',_,I'.thaw n0 e',z⟩
 |ret u=>obtain⟨v,σ',H',I',r,e',z⟩:=hs;exact⟨v,σ',_,I'.thaw n0 e',r,z⟩
end
def b2W (o:Obj):Nat:=match o.data with
 | .dict _ ep=>ep
 |_=>0
theorem a8x {P:Program}{w:World}:∀{k:Key} {u:Value},(a0n P w).is k u=true->a1e (kV k) u:=by
 intro k u h;rcases a0L (k:=k) (v:=u) h with ⟨i,t,rfl,rfl⟩ |⟨x,t,rfl,rfl⟩
 ·exact⟨t,rfl⟩
 ·exact⟨t,rfl⟩
def Itd (a:Addr)(o:Obj)(kvs:List (Key×V)):It:=
 ⟨fun i H=>i<kvs.length/\H a=some (.frz o (.dK kvs)),fun i H x H'=>H'=H/\∃k v,kvs[i]? =some (k,v)/\x=kV k,fun i H=>kvs.length<=i/\H a=some (.frz o (.dK kvs))⟩
section
variable {X:Cx}
theorem a7Q:∀{kvs:List (Key×V)} {vs:List (Key×Value)} {i:Nat} {p:Key×V},KV kvs vs->kvs[i]? =some p->∃u,vs[i]? =some (p.1,u)/\a1e p.2 u
 |_,_,_,_,.nil,e=>by simp at e
 |_,_,0,_,.cons (b:=q) r _,e=>by
  simp at e;subst e;obtain⟨q1,q2⟩:=q;obtain⟨r1,r2⟩:=r;exact⟨q2,by rw[List.getElem?_cons_zero];exact congrArg (fun z=>some (z,q2)) r1.symm,r2⟩
 |_,_,i+1,p,.cons _ t,e=>by
  obtain⟨u,h1,h2⟩:=a7Q (i:=i) (p:=p) t (by simpa using e);exact⟨u,by simpa using h1,h2⟩
theorem Inv.dictAt {pins:List (Addr×Obj)}{σ:St}{H:Hp}{s:Shared}{a:Addr}{o:Obj}{kvs:List (Key×V)}(I:Inv X pins σ H s)(e:H a=some (.frz o (.dK kvs))) :
  ∃vs,KV kvs vs/\s.heap.DictAt (a0n X.prog X.w) a vs (b2W o)/\(a==sysModules)=false:=by
 obtain⟨g,_,hs,vs,kv,o',es,ep,g',ex,hd,hk,hp,hn⟩:=I.hok a _ e;rw[g] at g';cases g';have he:b2W o=ep:=by unfold b2W;rw[hd]
 exact⟨vs,kv,⟨o,es,g,ex,by rw[he];exact hd,hk,hp,hn⟩,hs⟩
theorem KV.len {kvs:List (Key×V)}{vs:List (Key×Value)}(r:KV kvs vs):kvs.length=vs.length:=Paired.length r
theorem a9u {P:Program}{w:World}{K:Fg0}{tg:Expr}(a it:Addr)(o:Obj)(kvs:List (Key×V)):b0k P w K tg (Itd a o kvs) [it] it (fun i h=>h.IsKeyIter it a i kvs.length (b2W o)) where
 mem:=by simp
 obj:=fun i h st b hb=>by
  have e:b=it:=by simpa using hb
  subst e;obtain⟨o,e,c,d⟩:=st;exact⟨o,e,fun v z=>by rw[d] at z;cases z⟩
 keep:=fun i h h' st k=>st.at fun o e=>k it (by simp) o e
 item:=by
  intro X hP hw hK hc i pins s σ H E I hf st hg;subst hP hw hK;obtain⟨hi,hq⟩:=hg;obtain⟨vs,kv,da,_⟩:=I.dictAt hq;have hl:=kv.len;obtain⟨u,hu,ru⟩:=a7Q kv (show kvs[i]? =some (kvs[i].1,kvs[i].2) by simp[hi]);obtain⟨f0,f1,f2,f3,f4,f5⟩:=hf it (by simp);rw[hl] at st;refine wpAny_pyNext_dict_item st da hu fun key h' hkey st' sb=>?_;rw[<-hl] at st';have I1:Inv X pins σ H { s with heap:=h' }:=I.turned (t':=s.toks) (fun b o hb e=>(sb.2 b hb).trans e) f0 f1 f3 f4 f5;obtain⟨oi,e,c,d⟩:=id st';exact⟨key,rfl,a8U (s:={ s with heap:=h' }) e c d (by decide) ⟨kV kvs[i].1,H,I1,a8x hkey,⟨rfl,kvs[i].1,kvs[i].2,by simp[hi],rfl⟩,st',fun b hb=>(hf b hb).1⟩⟩
 done:=by
  intro X hP hw hK hc i pins s σ H E I hf st hg;subst hP hw hK;obtain⟨hi,hq⟩:=hg;obtain⟨vs,kv,da,_⟩:=I.dictAt hq;have hl:=kv.len;obtain⟨f0,f1,f2,f3,f4,f5⟩:=hf it (by simp);rw[hl] at st;exact wpAny_pyNext_dict_end (I.ok.hd hc) st da (by simp;omega) fun h' eb=>⟨rfl,I.turned (t':=s.toks) (fun b o hb e=>eb b o hb e) f0 f1 f3 f4 f5⟩
 self:=fun _ _ _ _ _ st h=>wpAny_pyIter_keyiter st h
def b5f (tl:TE):TI:=fun σ H R=>tl σ H fun x H1=>∃a o kvs,x=.ref a/\H1 a=some (.frz o (.dK kvs))/\R (Itd a o kvs) H1
theorem b3d {tg l:Expr}{tl:TE}(hl:PE X l tl):PI X tg l (b5f tl):=by
 intro pins s σ H R I h;refine thn (hl pins s σ H _ I h) fun v s1 ⟨x,H1,I1,r1,q1⟩=>?_;obtain⟨a,o,kvs,e,hq,q⟩:=q1;subst e;cases r1;obtain⟨vs,kv,da,hs⟩:=I1.dictAt hq;refine wpAny_pyIter_dict hs da ?_;refine⟨s1.heap.objs.size,[s1.heap.objs.size],_,_,H1,rfl,I1.kept (t':=s1.toks) fun b o e=>hP0 _ e,a9u a _ o kvs,⟨_,hS0 _ rfl,rfl,by rw[kv.len];rfl⟩,fun b hb=>?_,q⟩;have e:b=s1.heap.objs.size:=by simpa using hb
 subst e;exact I1.fpOk (nR0 _) (I1.hok.fresh (nR0 _))
theorem a7z {a:Addr}{o:Obj}{kvs:List (Key×V)}{g:TG}{tb:TS}{D:a4J}{σ:St}{H:Hp}(Pv:Nat->St->Hp->Prop)(h0:Pv 0 σ H)(hl:∀i σ H,i<=kvs.length->Pv i σ H->H a=some (.frz o (.dK kvs)))
  (hs:∀i k v σ H,kvs[i]? =some (k,v)->Pv i σ H->g (kV k) σ H fun σ2 H2=>tb { D with nx:=Pv (i+1),ct:=Pv (i+1),bk:=D.nx } σ2 H2) (hd:∀σ H,Pv kvs.length σ H->D.nx σ H) :
  ∃W:Nat->Nat->St->Hp->Prop,(∃m,W 0 m σ H)/\∀i m σ H,W i m σ H →
   ((Itd a o kvs).stop i H/\D.nx σ H)\/((Itd a o kvs).go i H/\∃N:St->Hp->Prop,(∀σ' H',N σ' H'->∃m',m'<m/\W (i+1) m' σ' H')/\∀x H',(Itd a o kvs).yld i H x H'->g x σ H' fun σ2 H2=>tb { D with nx:=N,ct:=N,bk:=D.nx } σ2 H2):=by
 refine⟨fun i m σ H=>m=kvs.length-i/\i<=kvs.length/\Pv i σ H,⟨kvs.length,by simp,zL0 _,h0⟩,?_⟩;rintro i m σ H ⟨rfl,hi,p⟩;have q:=hl i σ H hi p
 by_cases hlt:i<kvs.length
 ·refine .inr ⟨⟨hlt,q⟩,Pv (i+1),fun σ' H' p'=>⟨kvs.length-(i+1),by omega,rfl,hlt,p'⟩,fun x H' y=>?_⟩
  obtain⟨e,k,v,hk,ex⟩:=y;subst e ex;exact hs i k v σ _ hk p
 ·have e:i=kvs.length:=by omega
  subst e;exact .inl ⟨⟨nR0 _,q⟩,hd σ H p⟩
theorem a4t:∀{zs:List Str} {us:List Value},a1l (zs.map V.str) us->StrsAre us zs
 |[],_,r=>by rw[List.map_nil] at r;cases r;exact .nil
 |z::zs,_,r=>by
  rw[mN0] at r;cases r with
  |cons h t=>
   obtain⟨k,rfl⟩:=h;exact .cons _ _ (a4t t)
theorem a3g:∀{us:List Value} {zs:List Str},StrsAre us zs->a1l (zs.map V.str) us
 |_,_,.nil=>.nil
 |_,_,.cons _ k t=>.cons ⟨_,rfl⟩ (a3g t)
theorem a6S:a1u X (.builtin "sorted") (fun xs H Q=>∃p zs,xs=[.ref p]/\SqL X.K H p (zs.map V.str)/\zs.length<64/\∀l ys,H l=none->ys.Perm zs->sortedS ys=true->Q (.ref l) (upd H l (.lst (ys.map V.str)))):=by
 intro pins s σ H xs us Q I r h;obtain⟨p,zs,rfl,hq,h64,q⟩:=h;obtain⟨u,rfl,rx⟩:=a2o r;cases rx;obtain⟨its,r',pl,hz⟩:=I.list hq;have hl:=r'.length;rw[lM0] at hl;refine sorted_strs pl.isList (a4t r') (by omega) fun out ss' h1 h2 h3=>?_;obtain⟨e,he⟩:=sortedAll_at s.heap its out;have hlen:ss'.length=zs.length:=h2.length_eq;have hv:=a3g h1;refine⟨.ref (s.heap.objs.size+1),_,I.laid (t':=s.toks) (o:=.lst (ss'.map V.str)) (fun b ob e'=>sortedAll_old e') (Nat.le_succ _) ?_,rfl,q _ ss' (I.hok.fresh (Nat.le_succ _)) h2 h3⟩;exact⟨by rw[lM0,hlen];rw[lM0] at hz;exact hz,out.toList,e,hv,he⟩
theorem a3b:entryFor table "dict_itemiterator.__iter__"=some Builtin.«dict_keyiterator.__iter__»:=
 entryFor_alias (id':="dict_keyiterator.__iter__") (by kernel_rfl) rfl (by decide +kernel) (by kernel_rfl)
theorem a4S {prog:Program}{w:World}{A:Around}{E:Vs0}{s:Shared}{it d:Addr}{i n ep:Nat}{ok ov:Value}{Q:Vs0}(hit:IsItemIter s.heap it d i n ep ok ov)(h:Q (.ref it) s):wpAny (model prog w) A (pyIter (.ref it)) Q E s:=by
 have hT:s.TypeIs (.ref it) "dict_itemiterator":=⟨_,hit,rfl⟩;refine wpAny_pyIter_slot hT F.slot_dict_itemiterator_iter (wpAny_call_entry F.slot_dict_itemiterator_iter hT a3b ?_ (F.args_dict_itemiterator_iter_1 _));show wpAny _ _ (ret (.ref it)) _ _ s;exact wP0 ⟨_,rfl,"dict_itemiterator",_,hT,F.slot_dict_itemiterator_next.lookup,h⟩
def Itm (a:Addr)(o:Obj)(kvs:List (Key×V)):It:=
 ⟨fun i H=>i<kvs.length/\H a=some (.frz o (.dK kvs)),fun i H x H'=>∃k v p,kvs[i]? =some (k,v)/\x=.ref p/\H p=none/\H'=upd H p (.tup [kV k,v]),fun i H=>kvs.length<=i/\H a=some (.frz o (.dK kvs))⟩
theorem a8n {P:Program}{w:World}{K:Fg0}{es:List Expr}{x1:Nat}{tp:Pos}(a it:Addr)(o:Obj)(kvs:List (Key×V)):b0k P w K (.Tuple es x1 tp) (Itm a o kvs) [it] it (fun i h=>∃ok ov,IsItemIter h it a i kvs.length (b2W o) ok ov) where
 mem:=by simp
 obj:=fun i h st b hb=>by
  have e:b=it:=by simpa using hb
  subst e;obtain⟨ok,ov,st⟩:=st;exact⟨_,st,fun v z=>by cases z⟩
 keep:=fun i h h' st k=>by
  obtain⟨ok,ov,st⟩:=st;exact⟨ok,ov,k it (by simp) _ st⟩
 item:=by
  intro X hP hw hK hc i pins s σ H E I hf st hg;subst hP hw hK;obtain⟨hi,hq⟩:=hg;obtain⟨ok,ov,st⟩:=st;obtain⟨vs,kv,da,_⟩:=I.dictAt hq;have hl:=kv.len;obtain⟨u,hu,ru⟩:=a7Q kv (show kvs[i]? =some (kvs[i].1,kvs[i].2) by simp[hi]);obtain⟨f0,f1,f2,f3,f4,f5⟩:=hf it (by simp);have hit:it<s.heap.objs.size:=hL0 st;rw[hl] at st;refine wpAny_pyNext_items_item st da hu fun key h' hkey st' ht hsz kp=>?_;refine⟨_,rfl,?_⟩;refine wpAny_letOwnedTupleGo_items (s:={ s with heap:=h' }) st' fun h'' st'' sb=>?_;rw[<-hl] at st'';have I0:Inv X pins σ H { s with heap:=s.heap.update it fun _=>{ cls:=.type "dict_itemiterator",dict:=none,data:=.fields #[.none,.bool false,.ref a,.int (i+1:Nat) 0,.int kvs.length 0,.int (b2W o) 0,key,u],slots:=#[] } }:=
   I.turned (t':=s.toks) (fun b ob hb e=>by rw[Heap.get?_update_ne _ _ _ _ hb];exact e) f0 f1 f3 f4 f5
  have hp:H s.heap.objs.size=none:=I.hok.fresh (nR0 _);refine⟨.ref s.heap.objs.size,upd H s.heap.objs.size (.tup [kV kvs[i].1,kvs[i].2]),I0.laid (t':=s.toks) (h':=h'') (fun b ob e=>?_) (by rw[Heap.size_update];exact nR0 _) ?_,rfl,⟨_,_,_,by simp[hi],rfl,hp,rfl⟩,⟨key,u,st''⟩,fun b hb=>?_⟩
  ·by_cases hb:b=it
   ·subst hb
    rw[Heap.get?_update_self _ st rfl] at e;rw[<-e];exact st''
   ·rw[Heap.get?_update_ne _ _ _ _ hb] at e
    exact(sb.2 b hb).trans (kp b ob hb e)
  ·refine⟨(show 2<=sizeLine by decide),[key,u],.cons (a8x hkey) (.cons ru .nil),⟨_,(sb.2 _ (Nat.ne_of_gt hit)).trans ht,rfl,_,rfl⟩⟩
  ·have e:b=it:=by simpa using hb
   subst e;rw[a0g (nL0 hit)];exact f0
 done:=by
  intro X hP hw hK hc i pins s σ H E I hf st hg;subst hP hw hK;obtain⟨hi,hq⟩:=hg;obtain⟨ok,ov,st⟩:=st;obtain⟨vs,kv,da,_⟩:=I.dictAt hq;have hl:=kv.len;obtain⟨f0,f1,f2,f3,f4,f5⟩:=hf it (by simp);rw[hl] at st;exact wpAny_pyNext_items_end (I.ok.hd hc) st da (by simp;omega) fun h' eb=>⟨rfl,I.turned (t':=s.toks) (fun b o hb e=>eb b o hb e) f0 f1 f3 f4 f5⟩
 self:=fun A i s Q E st h=>by
  obtain⟨ok,ov,st⟩:=st;exact a4S st h
def b4p (tl:TE):TI:=fun σ H R=>tl σ H fun x H1=>∃a o kvs,x=.ref a/\H1 a=some (.frz o (.dK kvs))/\R (Itm a o kvs) H1
theorem b0p {es:List Expr}{x1:Nat}{tp:Pos}{l:Expr}{tl:TE}{apos cpos:Pos}(hl:PE X l tl)(hbase:attributeBase l "items" X.env (eval l X.env)=eval l X.env:=by rfl)(hline:(apos.endLine==cpos.line)=true:=by rfl) :
  PI X (.Tuple es x1 tp) (.Call (.Attribute l "items" apos) [] [] cpos) (b4p tl):=by
 intro pins s σ H R I h;refine wpAny_Call_method0_late hbase hline (thn (hl pins s σ H _ I h) fun v s1 ⟨x,H1,I1,r1,q1⟩=>?_);obtain⟨a,o,kvs,e,hq,q⟩:=q1;subst e;cases r1;obtain⟨vs,kv,da,hs⟩:=I1.dictAt hq;obtain⟨g,_⟩:=I1.hok a _ hq;have ex:o.ExactDict:=by
  obtain⟨o',es',g',x',_⟩:=id da;rw[g] at g';cases g';exact x'
 refine⟨"dict","dict.items",F.plainAttrs_dict,F.slot_dict_items,F.type_dict_items,da.dictOf.typeIs,(fun b e=>by cases e;exact⟨o,g,ex.2.1⟩),Calls.callWith_builtin rfl (PySem.evalArgs_none ?_)⟩;refine call_meetsIn F.slot_dict_items da.dictOf.typeIs F.entry_dict_items (F.args_dict_items_1 _) (meets_dict_items (a0n X.prog X.w) a hs) ⟨⟨vs,da.dictOf⟩,?_⟩;have I2:Inv X pins σ H1 { s1 with heap:=s1.heap.push { cls:=.type "dict_items",data:=.fields #[.ref a] } }:=I1.kept (t':=s1.toks) fun b o e=>hP0 _ e;refine wpAny_pyIter_items (s:={ s1 with heap:=s1.heap.push { cls:=.type "dict_items",data:=.fields #[.ref a] } }) (knd:=a0n X.prog X.w) (kvs:=vs) (ep:=b2W o) ⟨_,hS0 _ rfl,rfl,rfl⟩ (da.push _) ?_;refine⟨_,[_],_,_,H1,rfl,I2.kept (t':=s1.toks) fun b o e=>hP0 _ e,a8n a _ o kvs,⟨.none,.none,by rw[kv.len];exact hS0 _ rfl⟩,fun b hb=>?_,q⟩;have e:=mS0.mp hb;subst e;exact I2.fpOk (nR0 _) (I2.hok.fresh (nR0 _))
theorem a9Z {a:Addr}{o:Obj}{kvs:List (Key×V)}{g:TG}{tb:TS}{D:a4J}{σ:St}{H:Hp}(Pv:Nat->St->Hp->Prop)(h0:Pv 0 σ H)(hl:∀i σ H,i<=kvs.length->Pv i σ H->H a=some (.frz o (.dK kvs)))
  (hs:∀i k v p σ H,kvs[i]? =some (k,v)->Pv i σ H->H p=none->g (.ref p) σ (upd H p (.tup [kV k,v])) fun σ2 H2=>tb { D with nx:=Pv (i+1),ct:=Pv (i+1),bk:=D.nx } σ2 H2) (hd:∀σ H,Pv kvs.length σ H->D.nx σ H) :
  ∃W:Nat->Nat->St->Hp->Prop,(∃m,W 0 m σ H)/\∀i m σ H,W i m σ H →
   ((Itm a o kvs).stop i H/\D.nx σ H)\/((Itm a o kvs).go i H/\∃N:St->Hp->Prop,(∀σ' H',N σ' H'->∃m',m'<m/\W (i+1) m' σ' H')/\∀x H',(Itm a o kvs).yld i H x H'->g x σ H' fun σ2 H2=>tb { D with nx:=N,ct:=N,bk:=D.nx } σ2 H2):=by
 refine⟨fun i m σ H=>m=kvs.length-i/\i<=kvs.length/\Pv i σ H,⟨kvs.length,by simp,zL0 _,h0⟩,?_⟩;rintro i m σ H ⟨rfl,hi,p⟩;have q:=hl i σ H hi p
 by_cases hlt:i<kvs.length
 ·refine .inr ⟨⟨hlt,q⟩,Pv (i+1),fun σ' H' p'=>⟨kvs.length-(i+1),by omega,rfl,hlt,p'⟩,fun x H' y=>?_⟩
  obtain⟨k,v,pa,hk,ex,hn,e⟩:=y;subst e ex;exact hs i k v pa σ H hk p hn
 ·have e:i=kvs.length:=by omega
  subst e;exact .inl ⟨⟨nR0 _,q⟩,hd σ H p⟩
theorem a6a:a1u X (.type "dict") (fun xs H Q=>∃a kvs,xs=[.ref a]/\Rd H a (.dK kvs)/\∀p,H p=none->Q (.ref p) (upd H p (.dK kvs))):=by
 intro pins s σ H xs us Q I r h;obtain⟨a,kvs,rfl,e,q⟩:=h;obtain⟨u,rfl,rx⟩:=a2o r;cases rx;exact b1u I e fun p s' hp I'=>⟨.ref p,_,I',rfl,q p hp⟩
end
theorem a1h.there {P:Program}{w:World}{H:Hp}{h:Heap}{a:Addr}{o:HO}(x:a1h P w H h a o):∃ob,h.get? a=some ob:=by
 cases o with
 |lst xs=>obtain⟨_,_,_,_,e⟩:=x;exact⟨_,e⟩
 |tup xs=>obtain⟨_,_,_,o,e,_⟩:=x;exact⟨_,e⟩
 |dK kvs=>obtain⟨_,_,_,_,o,_,_,e,_⟩:=x;exact⟨_,e⟩
 |dT kvs=>obtain⟨_,_,_,_,o,_,_,e,_⟩:=x;exact⟨_,e⟩
 |set S n=>obtain⟨o,_,_,_,e,_⟩:=x;exact⟨_,e⟩
 |ins C dx fs=>obtain⟨_,_,_,e,_⟩:=x;exact⟨_,e⟩
 |own y=>exact x
 |xd fs=>obtain⟨_,⟨_,_,_,e,_⟩,_⟩:=x;exact⟨_,e⟩
 |met f y=>exact⟨_,x⟩
 |rng lo hi=>obtain⟨_,_,_,e⟩:=x;exact⟨_,e⟩
 |frz ob u=>exact⟨_,x.1⟩
 |tbl ps=>exact⟨_,x⟩
 |ext φ=>exact x.2.1
section
variable {X:Cx}{pins:List (Addr×Obj)}{σ:St}{H:Hp}{s:Shared}{h':Heap}{a:Addr}{o:HO}
theorem Inv.none_at (I:Inv X pins σ H s)(hn:s.heap.get? a=none):H a=none:=by
 cases e:H a with
 |none=>rfl
 |some u=>
  obtain⟨ob,q⟩:=(I.hok a u e).there;rw[hn] at q;cases q
theorem Inv.laidAt {t':Nat}(I:Inv X pins σ H s)(k:∀b u,s.heap.get? b=some u->h'.get? b=some u)(hn:s.heap.get? a=none)(new:a1h X.prog X.w (upd H a o) h' a o):Inv X pins σ (upd H a o) { s with heap:=h',toks:=t' }:=by
 have hH:=I.none_at hn;have ne:∀b u,s.heap.get? b=some u->b≠a:=fun b u q z=>by subst z;rw[hn] at q;cases q
 refine I.un ⟨fun b u q _ _ _=>k b u q,fun b u q _ _ _=>⟨u.slots,k b u q⟩,fun b u q n _=>by rw[a0g (ne b u q)];exact n,fun b u q _=>⟨u,k b u q⟩,
  fun b xs q=>by rw[a0g (a0O q hH)];exact q,fun b u xs q=>by rw[a0g (a0O q hH)];exact q,fun b ps q=>⟨#[],by rw[a0g (a0O q hH),q];simp⟩⟩ fun b u q=>?_
 by_cases hb:b=a
 ·subst hb
  rw[a0d] at q;cases q;exact new
 ·rw[a0g hb] at q
  exact(I.hok b u q).stay (fun c v _ r=>k c v r) (fun c r=>by rw[a0g (a0O r hH)];exact r) fun c xs r=>by rw[a0g (a0O r hH)];exact r
end
theorem a6P:∀(us:List Value) (zs:List Str),us.length=zs.length->(∀(j:Nat) (v:Value) (z:Str),us[j]? =some v->zs[j]? =some z->∃t,v=Value.str z t)->StrsAre us zs
 |[],[],_,_=>.nil
 |[],_::_,h,_=>by simp at h
 |_::_,[],h,_=>by simp at h
 |u::us,z::zs,h,f=>by
  obtain⟨t,rfl⟩:=f 0 u z rfl rfl;exact .cons _ _ (a6P us zs (by simpa using h) fun j v y h1 h2=>f (j+1) v y (by simpa using h1) (by simpa using h2))
theorem a7w:∀{kvs:List (Key×V)} {vs:List (Key×Value)} {i:Nat} {q:Key×Value},KV kvs vs->vs[i]? =some q->(kvs.map (·.1))[i]? =some q.1
 |_,_,_,_,.nil,e=>by simp at e
 |_,_,0,_,.cons r _,e=>by
  simp at e;subst e;simp[r.1]
 |_,_,i+1,q,.cons _ t,e=>by
  have h:=a7w (i:=i) (q:=q) t (by simpa using e);simpa using h
section
variable {X:Cx}
theorem a3I (hc:X.calm=true):a1u X (.builtin "sorted") (fun xs H Q=>∃p kvs zs,xs=[.ref p]/\Rd H p (.dK kvs)/\kvs.map (·.1)=zs.map Sum.inr/\zs.length<64/\∀l ys,H l=none->ys.Perm zs->sortedS ys=true->Q (.ref l) (upd H l (.lst (ys.map V.str)))):=by
 intro pins s σ H xs us Q I r h;obtain⟨p,kvs,zs,rfl,hq,hz,h64,q⟩:=h;obtain⟨u,rfl,rx⟩:=a2o r;cases rx;obtain⟨hlen,lo,vs,kv,dd⟩:=hq.ok I.hok;obtain⟨ep,da⟩:=dd.dictAt;have hl:=kv.len;have hl2:kvs.length=zs.length:=by simpa using congrArg List.length hz
 refine Calls.call_function_entry kind_sorted plain_sorted entry_sorted (args_sorted1 _) ?_;unfold Builtin.«sorted»;refine wB0 (m:=checkCount "sorted" 1 1 _) (wP0 ?_);refine wB0 (PySem.W.kdu_collect (PySem.W.kdl_dict (knd:=a0n X.prog X.w) (kvs:=vs) (ep:=ep) lo) (I.ok.hd hc) da (by rw[<-hl];exact hlen) fun h' tk acc hk hacc=>?_);have hS:StrsAre acc.toList zs:=by
  refine a6P _ _ (by rw[aL0,hacc.1,<-hl,hl2]) fun j v z h1 h2=>?_;obtain⟨k,x,hx,hkv⟩:=hacc.2 j v (by rw[<-Array.getElem?_toList];exact h1);have hk':=a7w kv hx;rw[hz,gM0,h2] at hk';have e:Sum.inr z=k:=by simpa using hk'
  subst e;exact a8x hkv
 have hal:acc.toList.length=zs.length:=by
  rw[aL0,hacc.1,<-hl,hl2]
 refine wB0 (wpAny_newList ?_ (by rw[hal,<-hl2];exact hlen));have hoL:(h'.push (seqObj "list" acc.toList.toArray 0)).get? h'.objs.size=some (seqObj "list" acc.toList.toArray 0):=hS0 _ rfl;refine wB0 (wpAny_holding (wpAny_call_entry slot_list_sort ⟨_,hoL,rfl⟩ entry_list_sort (list_sort_treeK (s:={ s with heap:=h'.push (seqObj "list" acc.toList.toArray 0),toks:=tk }) strKind_oneLt hoL hS.keysOf (fun v₁ v₂ rest e=>keyKind_strs (by rw[<-e];exact hS)) (by rw[hal];exact h64) fun st' hp hs=>⟨_,rfl,?_⟩) (args_list_sort _)));obtain⟨ss',h1,h2,h3⟩:=sorted_out_str hS hp hs;obtain⟨e,he⟩:=sortedHeap_at (out:=(arrOf st').map (·.2)) hoL;have hn:s.heap.get? h'.objs.size=none:=by
  cases q:s.heap.get? h'.objs.size with
  |none=>rfl
  |some ob=>exact absurd (hL0 (hk _ _ q)) (Nat.lt_irrefl _)
 refine wP0 ⟨_,rfl,.ref h'.objs.size,_,I.laidAt (t':=tk) (o:=.lst (ss'.map V.str)) (fun b ob q=>?_) hn ?_,rfl,q _ ss' (I.none_at hn) h2 h3⟩
 ·have q':=hk b ob q
  have hlt:=hL0 q';rw[sortedHeap_old (nL0 hlt) (by rw[size_push'];exact Nat.lt_succ_of_lt hlt)];exact hP0 _ q'
 ·exact⟨by rw[lM0,h2.length_eq,<-hl2];exact hlen,_,e,a3g h1,he⟩
def b6m (z:Str):Value->Bool
 | .str a _=>a==z
 |_=>false
theorem a7G {z:Str}:∀{us:List Value} {zs:List Str},StrsAre us zs->us.countP (b6m z)=zs.count z
 |_,_,.nil=>rfl
 |_,_,.cons y t r=>by
  rw[List.countP_cons,a7G r,List.count_cons]
  rfl
theorem b0P:MtR X "list.count" (fun x xs H Q=>∃(p:Addr) (zs:List Str) (z:Str),x=.ref p/\xs=[.str z]/\SqL X.K H p (zs.map V.str)/\Q (.int (zs.count z:Nat)) H):=by
 intro pins s σ H x xs v us Q I rx r h;obtain⟨p,zs,z,rfl,rfl,hq,q⟩:=h;cases rx;obtain⟨u,rfl,t,rfl⟩:=a2o r;obtain⟨its,r',pl,hz⟩:=I.list hq;have hS:=a4t r';obtain⟨⟨c,dd,dt,sl⟩,e,hc,n,hd⟩:=pl.isList;simp only at hc hd;subst hc hd;refine call_meets F.slot_list_count ⟨_,e,rfl⟩ F.entry_list_count (F.args_list_count_2 _ _) (SeqAt.list_countAt p its.toArray n dd sl (.str z t) (b6m z)) ⟨e,fun y hy=>?_,?_⟩
 ·obtain⟨a,ta,rfl⟩:=hS.all y (by simpa using hy)
  exact SeqAt.EqAt.str_str a ta z t
 ·refine⟨.int (zs.count z:Nat),H,I.tok _,⟨s.toks,?_⟩,q⟩
  show Value.int (its.toArray.toList.countP (b6m z):Nat) s.toks=Value.int (zs.count z:Nat) s.toks;rw[List.toList_toArray,a7G hS]
theorem a3j:∀{us:List Value} {zs:List Str} {j:Nat},StrsAre us zs->(h:j<us.length)->∃a t,us[j]=.str a t/\zs[j]? =some a
 |_,_,_,.nil,h=>by simp at h
 |_,_,0,.cons y t _,_=>⟨y,t,rfl,rfl⟩
 |_,_,j+1,.cons y t r,h=>by
  obtain⟨a,t',h1,h2⟩:=a3j (j:=j) r (by simpa using h);exact⟨a,t',by simpa using h1,by simpa using h2⟩
theorem b2z:∀{us ws:List Value} {zs ys:List Str},StrsAre us zs->StrsAre ws ys->us.length=ws.length->((List.range us.length).all fun j=>(zs[j]?==ys[j]?))=decide (zs=ys)
 |us,ws,zs,ys,h1,h2,hl=>by
  have l1:us.length=zs.length:=h1.length;have l2:ws.length=ys.length:=h2.length;rw[Bool.eq_iff_iff,List.all_eq_true,decide_eq_true_iff]
  constructor
  ·intro h
   apply List.ext_getElem?;intro j
   by_cases hj:j<us.length
   ·exact eq_of_beq (h j (List.mem_range.mpr hj))
   ·rw[List.getElem?_eq_none (by omega),List.getElem?_eq_none (by omega)]
  ·intro e j _
   rw[e];exact beq_self_eq_true _
theorem a8Y (hu:X.A.units<cLine):OpR X (compareOp .Eq) (fun x y H Q=>∃(p b:Addr) (zs ys:List Str),x=.ref p/\y=.ref b/\SqL X.K H p (zs.map V.str)/\SqL X.K H b (ys.map V.str)/\Q (.bl (decide (zs=ys))) H):=by
 intro pins s σ H x y v u Q I rx ry h;obtain⟨p,b,zs,ys,rfl,rfl,hp,hb,q⟩:=h;cases rx;cases ry;obtain⟨its,r1,pl,_⟩:=I.list hp;obtain⟨jts,r2,ql,_⟩:=I.list hb;have h1:=a4t r1;have h2:=a4t r2
 by_cases hl:its.length=jts.length
 ·refine SeqAt.eq_listAt (e:=fun j=>(zs[j]?==ys[j]?)) pl.isList ql.isList (by simpa using hl) hu (fun j g1 g2=>?_) ?_
  ·have g1':j<its.length:=by simpa using g1
   have g2':j<jts.length:=by simpa using g2
   obtain⟨a,ta,e1,k1⟩:=a3j h1 g1';obtain⟨c,tc,e2,k2⟩:=a3j h2 g2';have w1:its.toArray[j]=.str a ta:=by simpa using e1
   have w2:jts.toArray[j]=.str c tc:=by simpa using e2
   rw[w1,w2,k1,k2];have e:((some a==some c):Bool)=(a==c):=by rw[Bool.eq_iff_iff];simp
   rw[e];exact SeqAt.EqAt.str_str a ta c tc
  ·rw[List.size_toArray,b2z h1 h2 hl]
   exact⟨.bl _,H,I,rfl,q⟩
 ·refine SeqAt.eq_list_lengthsAt pl.isList ql.isList (by simpa using hl) hu ⟨.bl (decide (zs=ys)),H,I,?_,q⟩
  have:zs≠ys:=fun e=>hl (by rw[show its.length=zs.length from h1.length,show jts.length=ys.length from h2.length,e])
  rw[dF0 this]
  rfl
end
end L2
namespace Srt
open PySem PySem.W PyProof.Rows
structure Ord (N:Nat) (r:Nat->Nat->Bool):Prop where
 asym:∀a b,a<N->b<N->r a b=true->r b a=false
 trans:∀a b c,a<N->b<N->c<N->r b a=false->r c b=false->r c a=false
 dist:∀a b,a<N->b<N->a≠b->r a b=true\/r b a=true
def Cmp (N:Nat)(r:Nat->Nat->Bool)(cmp:Nat->Nat->(Bool->Shared->Prop)->Shared->Prop)(P:Shared->Prop):Prop:=
 ∀(i j:Nat) (C:Bool->Shared->Prop) (s:Shared),i<N->j<N->i≠j->P s->(∀s',P s'->C (r i j) s')->cmp i j C s
def PN (N:Nat)(p:Array Nat):Prop:=p.toList.Perm (List.range N)
def Up (r:Nat->Nat->Bool)(p:Array Nat)(k:Nat):Prop:=∀i j,i<=j->j<k->r (p.getD j 0) (p.getD i 0)=false
def Dn (r:Nat->Nat->Bool)(p:Array Nat)(k:Nat):Prop:=∀i j,i<=j->j<k->r (p.getD i 0) (p.getD j 0)=false
section
variable {N:Nat}{r:Nat->Nat->Bool}{cmp:Nat->Nat->(Bool->Shared->Prop)->Shared->Prop}{P:Shared->Prop}{p:Array Nat}
theorem Ord.refl (O:Ord N r){a:Nat}(h:a<N):r a a=false:=by
 cases e:r a a with
 |false=>rfl
 |true=>exact(O.asym a a h h e).symm.trans e |>.symm
theorem PN.size (h:PN N p):p.size=N:=by
 have:=h.length_eq
 simpa using this
theorem a2u {i:Nat}(hi:i<p.size):p.getD i 0=p[i]:=by simp[Array.getD,hi]
theorem PN.lt (h:PN N p){i:Nat}(hi:i<N):p.getD i 0<N:=by
 have hs:=h.size;rw[a2u (by omega)]
 have:p[i]'(by omega)∈p.toList:=by simp
 exact List.mem_range.mp (h.mem_iff.mp this)
theorem PN.inj (h:PN N p){i j:Nat}(hi:i<N)(hj:j<N)(e:p.getD i 0=p.getD j 0):i=j:=by
 have hs:=h.size;rw[a2u (by omega),a2u (by omega)] at e;have nd:p.toList.Nodup:=h.nodup_iff.mpr List.nodup_range;rcases Nat.lt_trichotomy i j with h1 |h1 |h1
 ·exact absurd (show p.toList[i]'(by simp;omega)=p.toList[j]'(by simp;omega) by rw[Array.getElem_toList,Array.getElem_toList];exact e) (List.pairwise_iff_getElem.mp nd i j (by simp;omega) (by simp;omega) h1)
 ·exact h1
 ·exact absurd (show p.toList[j]'(by simp;omega)=p.toList[i]'(by simp;omega) by rw[Array.getElem_toList,Array.getElem_toList];exact e.symm) (List.pairwise_iff_getElem.mp nd j i (by simp;omega) (by simp;omega) h1)
theorem asc (O:Ord N r)(hc:Cmp N r cmp P)(hp:PN N p):∀(f n:Nat) (s:Shared) (Q:Nat->Shared->Prop),1<=n->n+f<=N->Up r p n->P s →
  (∀m s',n<=m->m<=n+f->(m=n+f\/r (p.getD m 0) (p.getD (m-1) 0)=true)->Up r p m->P s'->Q m s')->(kas_asc p f n).kasWp cmp Q s
 |0,n,s,Q,h1,hn,hu,hP,hq=>hq n s (nR0 _) (nR0 _) (.inl rfl) hu hP
 |f+1,n,s,Q,h1,hn,hu,hP,hq=>by
  show cmp _ _ _ s;refine hc _ _ _ s (hp.lt (by omega)) (hp.lt (by omega)) (fun z=>by have:=hp.inj (by omega) (by omega) z;omega) hP fun s' hs'=>?_;cases e:r (p.getD n 0) (p.getD (n-1) 0) with
  |true=>
   dsimp only
   rw[if_pos rfl];exact hq n s' (nR0 _) (by omega) (.inr e) hu hs'
  |false=>
   dsimp only
   rw[if_neg (by decide)];refine asc O hc hp f (n+1) s' Q (by omega) (by omega) (fun i j hij hj=>?_) hs' fun m s'' h2 h3 h4 h5 h6=>hq m s'' (by omega) (by omega) (h4.imp (fun z=>by omega) id) h5 h6
   by_cases hjn:j<n
   ·exact hu i j hij hjn
   ·have ej:j=n:=by omega
    subst ej
    by_cases hi:i=j
    ·subst hi
     exact O.refl (hp.lt (by omega))
    ·exact O.trans _ _ _ (hp.lt (by omega)) (hp.lt (by omega)) (hp.lt (by omega)) (hu i (j-1) (by omega) (by omega)) e
theorem b6w (O:Ord N r)(hc:Cmp N r cmp P)(hp:PN N p):∀(f n:Nat) (s:Shared) (Q:Array Nat×Nat×Nat->Shared->Prop),1<=n->n+f<=N->Dn r p n->P s →
  (∀m s',n<=m->m<=n+f->Dn r p m->P s'->Q (p,m,0) s')->(kas_desc f p n 0).kasWp cmp Q s
 |0,n,s,Q,h1,hn,hu,hP,hq=>hq n s (nR0 _) (nR0 _) hu hP
 |f+1,n,s,Q,h1,hn,hu,hP,hq=>by
  show cmp _ _ _ s;refine hc _ _ _ s (hp.lt (by omega)) (hp.lt (by omega)) (fun z=>by have:=hp.inj (by omega) (by omega) z;omega) hP fun s' hs'=>?_;cases e:r (p.getD n 0) (p.getD (n-1) 0) with
  |true=>
   dsimp only
   rw[if_pos rfl,if_neg (by omega)];refine b6w O hc hp f (n+1) s' Q (by omega) (by omega) (fun i j hij hj=>?_) hs' fun m s'' h2 h3 h5 h6=>hq m s'' (by omega) (by omega) h5 h6
   by_cases hjn:j<n
   ·exact hu i j hij hjn
   ·have ej:j=n:=by omega
    subst ej
    by_cases hi:i=j
    ·subst hi
     exact O.refl (hp.lt (by omega))
    ·exact O.trans _ _ _ (hp.lt (by omega)) (hp.lt (by omega)) (hp.lt (by omega)) (O.asym _ _ (hp.lt (by omega)) (hp.lt (by omega)) e) (hu i (j-1) (by omega) (by omega))
  |false=>
   dsimp only
   rw[if_neg (by decide)];show cmp _ _ _ s';refine hc _ _ _ s' (hp.lt (by omega)) (hp.lt (by omega)) (fun z=>by have:=hp.inj (by omega) (by omega) z;omega) hs' fun s'' hs''=>?_;have hd:r (p.getD (n-1) 0) (p.getD n 0)=true:=by
    rcases O.dist _ _ (hp.lt (i:=n-1) (by omega)) (hp.lt (i:=n) (by omega)) (fun z=>by have:=hp.inj (by omega) (by omega) z;omega) with h |h
    ·exact h
    ·rw[e] at h;cases h
   dsimp only
   rw[hd,if_pos rfl];exact hq n s'' (nR0 _) (by omega) hu hs''
theorem b1J {i j:Nat}(hj:j<=p.size)(k:Nat):(kas_rev p i j).getD k 0=if i<=k/\k<j then p.getD (i+j-1-k) 0 else p.getD k 0:=by
 have h:=getElem?_mirror_all (xs:=p) (i:=i) (j:=j) hj k;unfold kas_rev;rw[Array.getD_eq_getD_getElem?,h]
 split<;>rw[Array.getD_eq_getD_getElem?]
theorem b1A {i j:Nat}(h:PN N p):PN N (kas_rev p i j):=(Array.perm_iff_toList_perm.mp (mirror_perm p i j _)).trans h
theorem b5g (O:Ord N r)(hc:Cmp N r cmp P)(hp:PN N p){n:Nat}{s:Shared}{Q:Nat×Array Nat->Shared->Prop}(h1:1<=n)(hn:n<=N)(hd:Dn r p n)(hP:P s)
  (hq:∀m p' s',n<=m->m<=N->PN N p'->Up r p' m->P s'->Q (m,p') s'):(kas_tail3 n N p).kasWp cmp Q s:=by
 unfold kas_tail3;rw[KasT.kasWp_bind];have hs:=hp.size;refine asc O hc (b1A hp) (N-n) n s _ h1 (by omega) (fun i j hij hj=>?_) hP fun m s' h2 h3 _ h5 h6=>hq m _ s' h2 (by omega) (b1A hp) h5 h6;rw[b1J (by omega),b1J (by omega),if_pos (by omega),if_pos (by omega)];exact hd _ _ (by omega) (by omega)
theorem b6l (O:Ord N r)(hc:Cmp N r cmp P)(hp:PN N p){s:Shared}{Q:Nat×Array Nat->Shared->Prop}(h1:1<=N)(hP:P s)
  (hq:∀m p' s',1<=m->m<=N->PN N p'->Up r p' m->P s'->Q (m,p') s'):(kas_count N p).kasWp cmp Q s:=by
 unfold kas_count;rw[KasT.kasWp_bind];refine asc O hc hp (N-1) 1 s _ (nR0 _) (by omega) (fun i j hij hj=>?_) hP fun m s' h2 h3 h4 h5 h6=>?_
 ·have ei:i=0:=by omega
  have ej:j=0:=by omega
  subst ei ej;exact O.refl (hp.lt (by omega))
 ·by_cases hm:m=N
  ·rw[if_pos (by rw[hm];exact beq_self_eq_true N)]
   exact hq m p s' h2 (by omega) hp h5 h6
  ·rw[if_neg (by rw[beq_iff_eq];exact hm)]
   have hr:r (p.getD m 0) (p.getD (m-1) 0)=true:=h4.resolve_left (by omega)
   by_cases hm1:m > 1
   ·rw[if_pos hm1]
    show cmp _ _ _ s';refine hc _ _ _ s' (hp.lt (by omega)) (hp.lt (by omega)) (fun z=>by have:=hp.inj (by omega) (by omega) z;omega) h6 fun s'' hs''=>?_;have hd:r (p.getD 0 0) (p.getD (m-1) 0)=true:=by
     rcases O.dist _ _ (hp.lt (i:=0) (by omega)) (hp.lt (i:=m-1) (by omega)) (fun z=>by have:=hp.inj (by omega) (by omega) z;omega) with h |h
     ·exact h
     ·rw[h5 0 (m-1) (by omega) (by omega)] at h;cases h
    dsimp only
    rw[hd,if_pos rfl];exact hq m p s'' h2 (by omega) hp h5 hs''
   ·rw[if_neg hm1]
    have em:m=1:=by omega
    subst em;unfold kas_descPart;rw[KasT.kasWp_bind];refine b6w O hc hp (N-(1+1)) (1+1) s' _ (by omega) (by omega) (fun i j hij hj=>?_) h6 fun m s'' g2 g3 g5 g6=>?_
    ·by_cases hi:i=j
     ·subst hi
      exact O.refl (hp.lt (by omega))
     ·have ei:i=0:=by omega
      have ej:j=1:=by omega
      subst ei ej;exact O.asym _ _ (hp.lt (by omega)) (hp.lt (by omega)) hr
    ·rw[if_neg (by show ¬(0 > 0);omega)]
     exact b5g O hc hp (by show 1<=m;omega) (by show m<=N;omega) g5 g6 fun m' p' s3 a1 a2 a3 a4 a5=>hq m' p' s3 (by have:m<=m':=a1;omega) a2 a3 a4 a5
theorem b2U (O:Ord N r)(hc:Cmp N r cmp P)(hp:PN N p){k:Nat}(hk:k<N)(hu:Up r p k):∀(f l q:Nat) (s:Shared) (Q:Nat->Shared->Prop),l<=q->q<=k->q-l<=f->(∀i,i<l->r (p.getD k 0) (p.getD i 0)=false) →
  (∀i,q<=i->i<k->r (p.getD k 0) (p.getD i 0)=true)->P s →
  (∀m s',m<=k->(∀i,i<m->r (p.getD k 0) (p.getD i 0)=false)->(∀i,m<=i->i<k->r (p.getD k 0) (p.getD i 0)=true)->P s'->Q m s')->(kas_place p k f l q).kasWp cmp Q s
 |0,l,q,s,Q,hl,hq,hf,lo,hi,hP,h=>h l s (by omega) lo (fun i h1 h2=>hi i (by omega) h2) hP
 |f+1,l,q,s,Q,hl,hq,hf,lo,hi,hP,h=>by
  unfold kas_place
  by_cases e:l≥q
  ·rw[if_pos e]
   exact h l s (by omega) lo (fun i h1 h2=>hi i (by omega) h2) hP
  ·rw[if_neg e]
   show cmp _ _ _ s;have hm:(l+q)/2<q:=by omega
   have hm2:l<=(l+q)/2:=by omega
   refine hc _ _ _ s (hp.lt (by omega)) (hp.lt (by omega)) (fun z=>by have:=hp.inj (by omega) (by omega) z;omega) hP fun s' hs'=>?_;cases c:r (p.getD k 0) (p.getD ((l+q)/2) 0) with
   |true=>
    dsimp only
    rw[if_pos rfl];refine b2U O hc hp hk hu f l ((l+q)/2) s' Q (by omega) (by omega) (by omega) lo (fun i h1 h2=>?_) hs' h;cases d:r (p.getD k 0) (p.getD i 0) with
    |true=>rfl
    |false=>
     have:=O.trans _ _ _ (hp.lt (i:=(l+q)/2) (by omega)) (hp.lt (i:=i) (by omega)) (hp.lt (i:=k) (by omega)) (hu _ i h1 h2) d
     rw[this] at c;cases c
   |false=>
    dsimp only
    rw[if_neg (by decide)];refine b2U O hc hp hk hu f ((l+q)/2+1) q s' Q (by omega) (by omega) (by omega) (fun i h1=>?_) hi hs' h;exact O.trans _ _ _ (hp.lt (by omega)) (hp.lt (by omega)) (hp.lt (by omega)) (hu i ((l+q)/2) (by omega) (by omega)) c
theorem b2b {src d:Nat}(hs:src<p.size)(hd:d<=src)(k:Nat):(bubble p src d).getD k 0=if k=src-d then p.getD src 0 else if src-d<k/\k<=src then p.getD (k-1) 0 else p.getD k 0:=by
 have h:=getElem?_bubble hs d hd k;rw[Array.getD_eq_getD_getElem?,h,Array.getD_eq_getD_getElem?,Array.getD_eq_getD_getElem?,Array.getD_eq_getD_getElem?]
 by_cases e1:k=src-d
 ·rw[if_pos e1,if_pos e1]
 ·rw[if_neg e1,if_neg e1]
  by_cases e2:src-d<k/\k<=src
  ·rw[if_pos e2,if_pos e2]
  ·rw[if_neg e2,if_neg e2]
theorem bin (O:Ord N r)(hc:Cmp N r cmp P):∀(f:Nat) (p:Array Nat) (k:Nat) (s:Shared) (Q:Array Nat->Shared->Prop),PN N p->k+f=N->Up r p k->P s →
  (∀p' s',PN N p'->Up r p' N->P s'->Q p' s')->(kas_bin f p k).kasWp cmp Q s
 |0,p,k,s,Q,hp,hk,hu,hP,h=>h p s hp ((show k=N from hk)▸hu) hP
 |f+1,p,k,s,Q,hp,hk,hu,hP,h=>by
  unfold kas_bin;rw[KasT.kasWp_bind];have hs:=hp.size;refine b2U O hc hp (k:=k) (by omega) hu k 0 k s _ (zL0 _) (nR0 _) (by omega) (fun i hi=>absurd hi (Nat.not_lt_zero _)) (fun i h1 h2=>absurd h2 (by omega)) hP fun m s' h1 lo hi hs'=>?_;refine bin O hc f _ (k+1) s' Q ((Array.perm_iff_toList_perm.mp (bubble_perm p k _)).trans hp) (by omega) (fun i j hij hj=>?_) hs' h;rw[b2b (by omega) (by omega),b2b (by omega) (by omega)];have e:k-(k-m)=m:=by omega
  rw[e];have hi':∀i,m<=i->i<k->r (p.getD i 0) (p.getD k 0)=false:=fun i a b=>O.asym _ _ (hp.lt (by omega)) (hp.lt (by omega)) (hi i a b)
  by_cases ej:j=m
  ·rw[if_pos ej]
   by_cases ei:i=m
   ·rw[if_pos ei]
    exact O.refl (hp.lt (by omega))
   ·rw[if_neg ei,if_neg (by omega)]
    exact lo i (by omega)
  ·rw[if_neg ej]
   by_cases ei:i=m
   ·rw[if_pos ei,if_pos (by omega)]
    exact hi' (j-1) (by omega) (by omega)
   ·rw[if_neg ei]
    by_cases bj:m<j/\j<=k
    ·rw[if_pos bj]
     by_cases bi:m<i/\i<=k
     ·rw[if_pos bi]
      exact hu _ _ (by omega) (by omega)
     ·rw[if_neg bi]
      exact hu _ _ (by omega) (by omega)
    ·rw[if_neg bj,if_neg (by omega)]
     exact hu _ _ hij (by omega)
theorem sort (O:Ord N r)(hc:Cmp N r cmp P){s:Shared}{Q:Array Nat->Shared->Prop}(h1:1<=N)(hP:P s)(h:∀p' s',PN N p'->Up r p' N->P s'->Q p' s'):(kas_sort N).kasWp cmp Q s:=by
 unfold kas_sort;rw[KasT.kasWp_bind];refine b6l O hc (by unfold PN;simp) h1 hP fun m p' s' a1 a2 a3 a4 a5=>?_
 show(if m<N then kas_bin (N-max m 1) p' (max m 1) else .ret p').kasWp cmp Q s'
 have em:max m 1=m:=by omega
 rw[em]
 by_cases hm:m<N
 ·rw[if_pos hm]
  exact bin O hc _ p' m s' Q a3 (by omega) a4 a5 h
 ·rw[if_neg hm]
  have:m=N:=by omega
  subst this;exact h p' s' a3 a4 a5
end
def TA1 (h:Heap)(vs:List Value)(zs:List Str):Prop:=vs.length=zs.length/\∀(i:Nat) (z:Str),zs[i]? =some z->∃a o t rest n,vs[i]? =some (.ref a)/\h.get? a=some o/\o.cls=.type "tuple"/\o.data=.seq (Value.str z t::rest).toArray n
def rz (zs:List Str)(i j:Nat):Bool:=decide ((zs.getD i "").cps.toList<(zs.getD j "").cps.toList)
theorem b2J {a b:Str}(h:a.cps.toList=b.cps.toList):a=b:=by
 cases a;cases b;simp at h;rw[h]
theorem b3U {zs:List Str}(nd:zs.Nodup):Ord zs.length (rz zs) where
 asym:=fun a b _ _ h=>by
  unfold rz at h ⊢;rw[decide_eq_true_iff] at h;rw[decide_eq_false_iff_not];exact List.lt_asymm h
 trans:=fun a b c _ _ _ h1 h2=>by
  unfold rz at h1 h2 ⊢;rw[decide_eq_false_iff_not] at h1 h2 ⊢;rw[List.not_lt] at h1 h2 ⊢;exact List.le_trans h1 h2
 dist:=fun a b ha hb n=>by
  unfold rz;rw[decide_eq_true_iff,decide_eq_true_iff];apply Classical.byContradiction;intro h;rw[not_or,List.not_lt,List.not_lt] at h;have e:=b2J (List.le_antisymm h.2 h.1);simp only[List.getD_eq_getElem?_getD,gE0 ha,gE0 hb,Option.getD_some] at e;rcases Nat.lt_trichotomy a b with q |q |q
  ·exact List.pairwise_iff_getElem.mp nd a b ha hb q e
  ·exact n q
  ·exact List.pairwise_iff_getElem.mp nd b a hb ha q e.symm
theorem TA1.keep {h h':Heap}{vs:List Value}{zs:List Str}(t:TA1 h vs zs)(k:∀b o,o.cls=.type "tuple"->h.get? b=some o->h'.get? b=some o):TA1 h' vs zs:=
 ⟨t.1,fun i z e=>by
  obtain⟨a,o,tk,rest,n,h1,h2,h3,h4⟩:=t.2 i z e;exact⟨a,o,tk,rest,n,h1,k a o h3 h2,h3,h4⟩⟩
theorem TA1.kat {h:Heap}:∀{vs:List Value} {zs:List Str},TA1 h vs zs->∃fs,KatTups h vs fs/\fs.length=zs.length/\∀v∈fs,∃z t,v=Value.str z t
 |[],[],_=>⟨[],KatTups.nil,rfl,fun v hv=>by simp at hv⟩
 |[],_::_,t=>by have:=t.1;simp at this
 |_::_,[],t=>by have:=t.1;simp at this
 |v::vs,z::zs,t=>by
  obtain⟨a,o,tk,rest,n,h1,h2,h3,h4⟩:=t.2 0 z rfl;have ev:v=.ref a:=by simpa using h1
  subst ev;obtain⟨fs,k,hl,hs⟩:=TA1.kat (vs:=vs) (zs:=zs) ⟨by have:=t.1;simpa using this,fun i y e=>by
   obtain⟨a,o,tk,rest,n,g1,g2⟩:=t.2 (i+1) y (by simpa using e);exact⟨a,o,tk,rest,n,by simpa using g1,g2⟩⟩
  refine⟨.str z tk::fs,KatTups.cons h2 h3 h4 (by simp) k,by simp[hl],fun w hw=>?_⟩;rcases mK0.mp hw with e |hw
  ·exact⟨z,tk,e⟩
  ·exact hs w hw
section
variable {prog:Program}{w:World}{A:Around}{E:Vs0}{s:Shared}
theorem b5e {vs:List Value}{zs:List Str}{s1:Shared}(t:TA1 s1.heap vs zs)(nd:zs.Nodup):Cmp zs.length (rz zs) (kas_ask prog w A (tuples' true) vs) (fun s'=>s'=s1):=by
 intro i j C s' hi hj hij hs' hC;subst hs';obtain⟨a,o,tk,rest,n,h1,h2,h3,h4⟩:=t.2 i zs[i] (by simp[hi]);obtain⟨b,o',tk',rest',n',g1,g2,g3,g4⟩:=t.2 j zs[j] (by simp[hj]);unfold kas_ask;have e1:vs.getD i Value.none=.ref a:=by rw[List.getD_eq_getElem?_getD,h1];rfl
 have e2:vs.getD j Value.none=.ref b:=by rw[List.getD_eq_getElem?_getD,g1];rfl
 rw[e1,e2];refine kat_lt h2 h4 g2 g4 ?_;have ez:(Value.str zs[i] tk::rest).toArray.toList.zip (Value.str zs[j] tk'::rest').toArray.toList=(Value.str zs[i] tk,Value.str zs[j] tk')::rest.zip rest':=by simp
 rw[ez];refine kat_cons (wpAny_eqBool_str ?_);have en:decide (zs[i]=zs[j])=false:=by
  rw[decide_eq_false_iff_not];intro e;rcases Nat.lt_trichotomy i j with q |q |q
  ·exact List.pairwise_iff_getElem.mp nd i j hi hj q e
  ·exact hij q
  ·exact List.pairwise_iff_getElem.mp nd j i hj hi q e.symm
 rw[en];refine kat_no (oneLt_str ?_);have er:rz zs i j=decide (zs[i].cps.toList<zs[j].cps.toList):=by
  unfold rz;simp only[List.getD_eq_getElem?_getD,gE0 hi,gE0 hj,Option.getD_some]
 rw[<-er];exact hC s' rfl
theorem a5j {a:Addr}{vs:List Value}{zs:List Str}{n:Nat}{P:PySem.Fin->Shared->Prop}(ho:s.heap.get? a=some (seqObj "list" vs.toArray n))(t:TA1 s.heap vs zs)(nd:zs.Nodup)(h64:vs.length<64)
  (h:∀(p:Array Nat),PN vs.length p->Up (rz zs) p vs.length->P (.done (.ret .none)) { s with heap:=sortedHeap s.heap a vs (List.toArray (p.toList.map fun i=>vs.getD i Value.none)) }) :
  wpAny (model prog w) A (Builtin.«list.sort» ⟨[.ref a],[]⟩) P E s:=by
 rw[list_sort_plain];have ha:a<s.heap.objs.size:=hL0 ho;refine wB0 (listItems_at ho rfl ?_);refine wB0 (listUpdate_at ho rfl ?_ (by rw[List.size_toArray,sizeLine_eq];omega) (zL0 _));obtain⟨e1,ho1⟩:∃e1,(s.heap.update a (Obj.mapSeq fun _=>(#[]:Array Value))).get? a=some (seqObj "list" #[] e1):=⟨_,get?_update_seq ho (fun _=>#[])⟩;refine wB0 (seqEpoch_at ho1 rfl ?_);refine wB0 (wpAny_newTuple ?_ (by show vs.length<=_;rw[sizeLine_eq];omega));refine wB0 (wpAny_newList ?_ (zL0 _));refine wpAny_holding ?_;have ho6:(((s.heap.update a (Obj.mapSeq fun _=>(#[]:Array Value))).push (seqObj "tuple" vs.toArray 0)).push (seqObj "list" #[] 0)).get? a=some (seqObj "list" #[] e1):=by
  rw[Heap.get?_push_ne _ _ _ (by rw[size_push',Heap.size_update];exact nL0 (Nat.lt_succ_of_lt ha)),Heap.get?_push_ne _ _ _ (by rw[Heap.size_update];exact nL0 ha)];exact ho1
 have tk:TA1 (((s.heap.update a (Obj.mapSeq fun _=>(#[]:Array Value))).push (seqObj "tuple" vs.toArray 0)).push (seqObj "list" #[] 0)) vs zs:=t.keep fun b o hc e=>by
  have nb:b≠a:=fun z=>by
   rw[z,ho] at e;have e':=Option.some.inj e;rw[<-e'] at hc;exact absurd (show Value.type "list"=Value.type "tuple" from hc) (by decide)
  exact hP0 _ (hP0 _ ((Heap.get?_update_ne _ _ _ _ nb).trans e))
 show wpAny (model prog w) A _ P E { s with heap:=((s.heap.update a (Obj.mapSeq fun _=>(#[]:Array Value))).push (seqObj "tuple" vs.toArray 0)).push (seqObj "list" #[] 0) }
 dsimp only
 have hsz:vs.toArray.size=vs.length:=by simp
 by_cases h2:vs.toArray.size<2
 ·rw[if_pos h2,if_pos h2]
  refine wB0 (wP0 ?_);rw[StateT.run_pure];refine wB0 (wP0 ?_)
  dsimp only
  have hout:=kat_snds (vs:=vs) (ks:=vs) rfl (st:=SortSt.mk' general' (vs.toArray.zip vs.toArray) #[] 7 none) (p:=List.toArray (List.range vs.length)) (by
   have e:=kas_range (vs.toArray.zip vs.toArray);rw[show(vs.toArray.zip vs.toArray).size=vs.length by simp] at e;exact e.symm)
  rw[hout];refine wB0 (seqEpoch_at ho6 rfl ?_);refine wB0 (listUpdate_at ho6 rfl ?_ (zL0 _) (by rw[List.size_toArray,lM0,List.length_range,sizeLine_eq];omega));simp only[bne_self_eq_false,Bool.false_eq_true,if_false];refine wP0 (h (List.toArray (List.range vs.length)) (by unfold PN;simp) fun i j hij hj=>?_);have ei:i=0:=by omega
  have ej:j=0:=by omega
  subst ei ej;unfold rz;rw[decide_eq_false_iff_not];exact List.lt_irrefl _
 ·have hn2:2<=vs.length:=by omega
  rw[if_neg h2,if_neg h2];obtain⟨fs,kt,hl,hs⟩:=tk.kat;refine wB0 (kat_kind (T:=.type "str") kt (by have:=t.1;omega) (fun v hv=>?_) rfl ?_)
  ·obtain⟨z,u,rfl⟩:=hs v hv
   exact PySem.W.Looks.of_pure rfl
  ·refine wB0 (wpAny_mono (kat_run (prog:=prog) (w:=w) (A:=A) (E:=E) (κ:=tuples' true) (ks:=vs) (vs:=vs) (s:={ s with heap:=((s.heap.update a (Obj.mapSeq fun _=>(#[]:Array Value))).push (seqObj "tuple" vs.toArray 0)).push (seqObj "list" #[] 0) })
    (Q:=fun st' s'=>∃p:Array Nat,p.size=vs.length/\arrOf st'=p.map (kas_item (vs.toArray.zip vs.toArray))/\failedOf st'=none/\PN vs.length p/\Up (rz zs) p vs.length/\s'={ s with heap:=((s.heap.update a (Obj.mapSeq fun _=>(#[]:Array Value))).push (seqObj "tuple" vs.toArray 0)).push (seqObj "list" #[] 0) })
    (G:=fun p s'=>PN vs.length p/\Up (rz zs) p vs.length/\s'={ s with heap:=((s.heap.update a (Obj.mapSeq fun _=>(#[]:Array Value))).push (seqObj "tuple" vs.toArray 0)).push (seqObj "list" #[] 0) })
    rfl hn2 h64 (fun p' st' s' a1 a2 a3 a4=>⟨p',a1,a2,a3,a4⟩) ?_) ?_ fun _ _ e=>e)
   ·have el:=t.1
    rw[el];exact sort (b3U nd) (b5e (s1:={ s with heap:=((s.heap.update a (Obj.mapSeq fun _=>(#[]:Array Value))).push (seqObj "tuple" vs.toArray 0)).push (seqObj "list" #[] 0) }) tk nd) (by omega) rfl fun p' s' b1 b2 b3=>⟨b1,b2,b3⟩
   ·rintro⟨⟨⟩,st'⟩ s' ⟨p,hp,har,hf,pn,up,rfl⟩
    dsimp only
    have hout:=kat_snds (vs:=vs) (ks:=vs) rfl har;rw[hout];refine wB0 (seqEpoch_at ho6 rfl ?_);refine wB0 (listUpdate_at ho6 rfl ?_ (zL0 _) (by rw[List.size_toArray,lM0,aL0,hp,sizeLine_eq];omega));rw[hf];simp only[bne_self_eq_false,Bool.false_eq_true,if_false];exact wP0 (h p pn up)
end
end Srt
namespace L2
open PySem PySem.Spec PyProof.Rows
theorem a9v {α:Type}(d:α)(l:List α){q:List Nat}(h:q.Perm (List.range l.length)):(q.map fun i=>l.getD i d).Perm l:=by
 have h1:=h.map fun i=>l.getD i d;have e:(List.range l.length).map (fun i=>l.getD i d)=l:=by
  apply List.ext_getElem
  ·simp
  ·intro i a b
   rw[List.getElem_map,List.getElem_range,List.getD_eq_getElem?_getD,gE0 b,Option.getD_some]
 rw[e] at h1;exact h1
theorem a5h {xs:List V}{us:List Value}(r:a1l xs us):∀(q:List Nat),(∀i∈q,i<xs.length)->a1l (q.map fun i=>xs.getD i .non) (q.map fun i=>us.getD i Value.none)
 |[],_=>.nil
 |i::q,h=>by
  refine .cons ?_ (a5h r q fun j hj=>h j (mL0 _ hj));have hi:=h i List.mem_cons_self;have hu:i<us.length:=by rw[<-r.length];exact hi
  obtain⟨u,e,ru⟩:=r.get (i:=i) (x:=xs[i]) (by simp[hi]);simp only[List.getD_eq_getElem?_getD,gE0 hi,e,Option.getD_some];exact ru
def a5M (zs:List Str):Prop:=zs.Pairwise fun a b=>¬b.cps.toList<a.cps.toList
end L2
namespace L2
open PySem PySem.Spec PyProof.Rows PySem.Builtin PySem.Builtin.Dict
theorem a5H (a b:Value):Builtin.«dict.__eq__» ⟨[a,b],[]⟩=(do
  let (self,other) <-dictSlotArgs "__eq__" ⟨[a,b],[]⟩
  if !(<-isInstance other (.type "dict")) then rule s!"dict.{("__eq__" : String)}.not-a-dict";return <-ret .notImplemented
  ret (.bool ((<-Dict.samePairs s!"dict.{("__eq__" : String)}" (<-addrOf self) (<-addrOf other))==true))):=rfl
theorem a5g:isSubtype (.type "dict") (.type "dict")=pure true:=by rw[isSubtype_type];kernel_rfl
section
variable {prog:Program}{w:World}{A:Around}{E:Vs0}{s:Shared}{a b:Addr}{oa ob:Obj}{es fs:Array DictEntry}{ep fp:Nat}
theorem a8A {id:String}{Q:Bool->Shared->Prop}(ha:s.heap.get? a=some oa)(da:oa.data=.dict es ep)(hb:s.heap.get? b=some ob)(db:ob.data=.dict fs fp)(na:(a==sysModules)=false)(nb:(b==sysModules)=false)(hsz:es.size=fs.size)
  (hf:∀(i:Nat) (e:DictEntry),es[i]? =some e->∃(j:Nat) (f:DictEntry),fs[j]? =some f/\(∀(R:Option Nat->Shared->Prop),R (some j) s->wpAny (model prog w) A (dictFind b e.key e.hash) R E s)/\∀(R:Bool->Shared->Prop),R true s->wpAny (model prog w) A (eqBool e.val f.val) R E s)
  (hq:Q true s):wpAny (model prog w) A (Dict.samePairs id a b) Q E s:=by
 unfold Dict.samePairs Dict.showsAll;simp only[na,nb,Bool.false_eq_true,if_false];refine wB0 (wP0 (wB0 (wP0 ?_)));refine wB0 (wpAny_dictEntries ha da ?_);refine wB0 (wpAny_dictEntries hb db ?_);rw[if_neg (by rw[hsz];simp)];refine wB0 (wpAny_dictEpoch ha da ?_);rw[Std.Legacy.Range.forIn_eq_forIn_range'];refine wB0 (wpAny_forIn_list _ (fun rest b s'=>b=(none,())/\s'=s/\∀x∈rest,x<es.size) _ (fun i rest b s' hI=>?_) (fun b s' hI=>?_) _ _ ⟨rfl,rfl,fun x hx=>?_⟩)
 ·obtain⟨rfl,rfl,hl⟩:=hI
  have hi:=hl i List.mem_cons_self;obtain⟨j,f,hj,h1,h2⟩:=hf i es[i] (by simp[hi]);refine wB0 (wpAny_dictEntries ha da ?_);have ei:es[i]? =some es[i]:=by simp[hi]
  rw[ei]
  dsimp only
  refine wB0 (wpAny_holding (wB0 (h1 _ ?_)))
  dsimp only
  refine wB0 (wpAny_dictEntries hb db ?_);rw[hj]
  dsimp only
  refine wpAny_holding (h2 _ ?_);rw[if_neg (by decide)];refine wB0 (wpAny_dictEpoch ha da ?_);rw[if_neg (by simp)];exact wP0 ⟨rfl,rfl,fun x hx=>hl x (mL0 _ hx)⟩
 ·obtain⟨rfl,rfl,_⟩:=hI
  exact wP0 hq
 ·have:=List.mem_range'.mp hx
  obtain⟨k,hk,rfl⟩:=this;simp[Std.Legacy.Range.size] at hk ⊢
  omega
end
theorem a4k {P:Program}{w:World}:∀{es:List DictEntry} {kvs:List (Key×Value)},Pairs (a0n P w) es kvs->es.length=kvs.length
 |_,_,.nil=>rfl
 |_,_,.cons _ _ r=>by simp[a4k r]
theorem b1k {prog:Program}{w:World}{A:Around}{E:Vs0}{s:Shared}{d:Addr}{o:Obj}{es:Array DictEntry}{ep j:Nat}{x:Str}{t:Tok}{hs:Int}{Q:Option Nat->Shared->Prop}(ho:s.heap.get? d=some o)(hd:o.data=.dict es ep)
  (hall:∀e∈es,∃z t,e.key=Value.str z t) (hj:es.findIdx? (fun e=>e.key.isStr x)=some j) (h:Q (some j) s):wpAny (model prog w) A (dictFind d (.str x t) hs) Q E s:=by
 obtain⟨hjs,hjt,_⟩:=Array.findIdx?_eq_some_iff_getElem.mp hj;have ha:(es.all fun e=>isExactStrKey e.key)=true:=by
  rw[Array.all_eq_true'];intro e he;obtain⟨z,t,q⟩:=hall e he;rw[q]
  rfl
 obtain⟨z,tz,ez⟩:=hall es[j] (Array.getElem_mem hjs);have zx:z=x:=by
  rw[ez] at hjt;exact eq_of_beq hjt
 subst zx;unfold dictFind;refine wpAny_holding ?_;refine wB0 (wpAny_dictEntries ho hd ?_)
 dsimp only
 rw[if_pos ha];unfold foundByValue;rw[hj]
 dsimp only
 rw[Array.getElem?_eq_getElem hjs]
 dsimp only
 rw[ez];refine wB0 (wpAny_dictEpoch ho hd (wB0 (wpAny_eqBool_str (wB0 (wpAny_dictEpoch ho hd ?_)))));rw[if_neg (by simp),if_pos (by simp)];exact wB0 (wpAny_rule (wP0 h))
section
variable {A:Around}{s:Shared}{P:Program}{w:World}
theorem a8E {a b:Addr}{kvs kws:List (Key×Value)}(da:s.heap.DictOf (a0n P w) a kvs)(db:s.heap.DictOf (a0n P w) b kws)(na:(a==sysModules)=false)(nb:(b==sysModules)=false)(hl:kvs.length=kws.length)(tx:∀(k:Key) (v:Value),(k,v)∈kws->∃x,k=.inr x)
  (he:∀(k:Key) (v:Value),(k,v)∈kvs->∃v',(k,v')∈kws/\SeqAt.EqAt A.in1 s v v' true) (hu:A.units<cLine):SeqAt.EqAt A s (.ref a) (.ref b) true:=by
 by_cases hab:a=b
 ·rw[hab]
  exact SeqAt.EqAt.same _
 refine SeqAt.EqAt.of_refs hab fun prog w' E Q hq=>?_;obtain⟨oa,es,ep,ha,xa,dda,ka,pa,nda⟩:=da;obtain⟨ob,fs,fp,hb,xb,ddb,kb,pb,ndb⟩:=db;have Ta:s.TypeIs (.ref a) "dict":=⟨oa,ha,xa.1⟩;have Tb:s.TypeIs (.ref b) "dict":=⟨ob,hb,xb.1⟩;have la:es.size=kvs.length:=by have:=a4k pa;simpa using this
 have lb:fs.size=kws.length:=by have:=a4k pb;simpa using this
 have kb':∀e∈fs,∃z t,e.key=Value.str z t:=fun e he'=>by
  obtain⟨m,hm,rfl⟩:=Array.mem_iff_getElem.mp he';obtain⟨⟨k,v⟩,hk⟩:∃kv,kws[m]? =some kv:=⟨_,gE0 (by omega)⟩;obtain⟨g1,_⟩:=pb.get? (i:=m) (e:=fs[m]) (by simp[hm]) hk;obtain⟨x,rfl⟩:=tx k v (gI0 hk);rcases a0L (k:=.inr x) (v:=fs[m].key) g1 with ⟨i,t,q,_⟩ |⟨z,t,q,q2⟩
  ·cases q
  ·exact⟨z,t,q2⟩
 refine wpAny_richCompare_same_room Ta Tb F.slot_dict_eq (wpAny_call_entry F.slot_dict_eq Ta F.entry_dict_eq ?_ (F.args_dict_eq_2 _ _)) hu;rw[a5H];refine wB0 ?_;show wpAny _ _ (pure (Value.ref a,Value.ref b)) _ _ _;refine wP0 ?_
 dsimp only
 refine wB0 (wpAny_isInstance (T:="dict") (b:=true) Tb a5g ?_);simp only[Bool.not_true,Bool.false_eq_true,if_false];refine wB0 (wP0 (wB0 (wP0 (wB0 (a8A ha dda hb ddb na nb (by omega) (fun i e ei=>?_) ?_)))))
 ·have hi:i<es.size:=(Array.getElem?_eq_some_iff.mp ei).1
  obtain⟨⟨k,v⟩,hk⟩:∃kv,kvs[i]? =some kv:=⟨_,gE0 (by omega)⟩;obtain⟨g1,g2⟩:=pa.get? (i:=i) (e:=e) (by simpa using ei) hk;obtain⟨k2,g3,g4⟩:=ka e (Array.mem_of_getElem? ei);have ek:k2=k:=(a0n P w).inj _ _ _ g3 g1;subst ek;obtain⟨v',hv',eq⟩:=he k2 v (gI0 hk);obtain⟨x,rfl⟩:=tx k2 v' hv';obtain⟨t0,ek0⟩:∃t,e.key=Value.str x t:=by
   rcases a0L (k:=.inr x) (v:=e.key) g1 with ⟨i,t,q,_⟩ |⟨z,t,q,q2⟩
   ·cases q
   ·cases q
    exact⟨t,q2⟩
  obtain⟨m,hm⟩:=List.getElem?_of_mem hv';have hm':m<fs.size:=by have:=(gS0.mp hm).1;omega
  have em:fs.toList[m]? =some fs[m]:=by simp[hm']
  obtain⟨q1,q2⟩:=pb.get? em hm;obtain⟨j,hj⟩:∃j,fs.findIdx? (fun e=>e.key.isStr x)=some j:=by
   cases z:fs.findIdx? (fun e=>e.key.isStr x) with
   |some j=>exact⟨j,rfl⟩
   |none=>
    have:=Array.findIdx?_eq_none_iff.mp z fs[m] (Array.getElem_mem hm')
    have q1':fs[m].key.isStr x=true:=by
     rcases a0L (k:=.inr x) (v:=fs[m].key) q1 with ⟨i,t,q,_⟩ |⟨z,t,q,q2⟩
     ·cases q
     ·cases q
      rw[q2];exact beq_self_eq_true x
    rw[q1'] at this;cases this
  obtain⟨hjs,hjt,_⟩:=Array.findIdx?_eq_some_iff_getElem.mp hj;obtain⟨⟨k3,v3⟩,hk3⟩:∃kv,kws[j]? =some kv:=⟨_,gE0 (by omega)⟩;obtain⟨r1,r2⟩:=pb.get? (i:=j) (e:=fs[j]) (by simp[hjs]) hk3;have hjk:(a0n P w).is (.inr x) fs[j].key=true:=by
   obtain⟨z,t,q⟩:=kb' fs[j] (Array.getElem_mem hjs);rw[q] at hjt ⊢;have zx:z=x:=eq_of_beq hjt;rw[zx];rw[(a0n P w).strs (.inr x) x t0 _ (by rw[<-ek0];exact g1)];exact beq_self_eq_true x
  have e3:k3=.inr x:=(a0n P w).inj _ _ _ r1 hjk;subst e3;have jm:j=m:=by
   have hj1:(kws.map (·.1))[j]? =some (Sum.inr x):=by rw[gM0,hk3];rfl
   have hm1:(kws.map (·.1))[m]? =some (Sum.inr x):=by rw[gM0,hm];rfl
   obtain⟨x1,y1⟩:=gS0.mp hj1;obtain⟨x2,y2⟩:=gS0.mp hm1;rcases Nat.lt_trichotomy j m with z |z |z
   ·exact absurd (y1.trans y2.symm) (List.pairwise_iff_getElem.mp ndb j m x1 x2 z)
   ·exact z
   ·exact absurd (y2.trans y1.symm) (List.pairwise_iff_getElem.mp ndb m j x2 x1 z)
  subst jm;rw[hm] at hk3;cases hk3;refine⟨j,fs[j],by simp[hjs],fun R hR=>?_,fun R hR=>?_⟩
  ·rw[ek0]
   exact b1k hb ddb kb' hj hR
  ·rw[g2,r2]
   exact eq prog w' E R hR
 ·exact wP0 ⟨_,rfl,(fun z=>nomatch z),hq⟩
end
end L2
namespace L2
open PySem PySem.Spec PyProof.Rows
inductive Dq (H:Hp):Nat->V->V->Prop
 |non {n:Nat}:Dq H n .non .non
 |bl {n:Nat} {b:Bool}:Dq H n (.bl b) (.bl b)
 |int {n:Nat} {i:Int}:Dq H n (.int i) (.int i)
 |str {n:Nat} {z:Str}:Dq H n (.str z) (.str z)
 |ref {n:Nat} {a:Addr}:Dq H n (.ref a) (.ref a)
 |tup {n:Nat} {a b:Addr} {xs ys:List V} (ha:H a=some (.tup xs)) (hb:H b=some (.tup ys)) (hl:xs.length=ys.length) (h:∀(i:Nat) (x y:V),xs[i]? =some x->ys[i]? =some y->Dq H n x y):Dq H (n+1) (.ref a) (.ref b)
 |lst {n:Nat} {a b:Addr} {xs ys:List V} (ha:H a=some (.lst xs)) (hb:H b=some (.lst ys)) (hl:xs.length=ys.length) (h:∀(i:Nat) (x y:V),xs[i]? =some x->ys[i]? =some y->Dq H n x y):Dq H (n+1) (.ref a) (.ref b)
 |dct {n:Nat} {a b:Addr} {kvs kws:List (Key×V)} (f:Key->V) (ha:Rd H a (.dK kvs)) (hb:Rd H b (.dK kws)) (hl:kvs.length=kws.length) (tx:∀(k:Key) (v:V),(k,v)∈kws->∃x,k=.inr x)
   (hf:∀(k:Key) (v:V),(k,v)∈kvs->(k,f k)∈kws) (h:∀(k:Key) (v:V),(k,v)∈kvs->Dq H n v (f k)):Dq H (n+1) (.ref a) (.ref b)
theorem a5A:∀{kvs:List (Key×V)} {vs:List (Key×Value)} {k:Key} {u:Value} {i:Nat},KV kvs vs->vs[i]? =some (k,u)->∃v,kvs[i]? =some (k,v)/\a1e v u
 |_,_,_,_,_,.nil,e=>by simp at e
 |_,_,k,u,0,.cons (a:=p) r _,e=>by
  simp at e;subst e;obtain⟨p1,p2⟩:=p;obtain⟨r1,r2⟩:=r;simp only at r1;subst r1;exact⟨p2,rfl,r2⟩
 |_,_,k,u,i+1,.cons _ t,e=>by
  obtain⟨v,h1,h2⟩:=a5A (i:=i) t (by simpa using e);exact⟨v,by simpa using h1,h2⟩
section
variable {X:Cx}{pins:List (Addr×Obj)}{σ:St}{H:Hp}{s:Shared}
theorem b3a (I:Inv X pins σ H s){n:Nat}{x y:V}(d:Dq H n x y):∀{u u':Value} {A:Around},a1e x u->a1e y u'->A.units+n<cLine->SeqAt.EqAt A s u u' true:=by
 induction d with
 |non=>intro u u' A r r' _;cases r;cases r';exact SeqAt.EqAt.same _
 |bl=>intro u u' A r r' _;cases r;cases r';exact SeqAt.EqAt.same _
 |@int n i=>
  intro u u' A r r' _;obtain⟨t,rfl⟩:=r;obtain⟨t',rfl⟩:=r';have h:=SeqAt.EqAt.int_int (A:=A) (s:=s) i t i t'
  rwa [beq_self_eq_true] at h
 |@str n z=>
  intro u u' A r r' _;obtain⟨t,rfl⟩:=r;obtain⟨t',rfl⟩:=r';have h:=SeqAt.EqAt.str_str (A:=A) (s:=s) z t z t'
  rwa [beq_self_eq_true] at h
 |ref=>intro u u' A r r' _;cases r;cases r';exact SeqAt.EqAt.same _
 |@tup n a b xs ys ha hb hl h ih=>
  intro u u' A r r' hu;cases r;cases r'
  by_cases hab:a=b
  ·rw[hab];exact SeqAt.EqAt.same _
  obtain⟨its,r1,pl,_⟩:=I.tuple (SqT.of (K:=X.K) ha);obtain⟨jts,r2,ql,_⟩:=I.tuple (SqT.of (K:=X.K) hb);have l1:=r1.length;have l2:=r2.length;have h0:=SeqAt.RcAt.tuples (A:=A) (e:=fun _=>true) pl ql (by omega) (fun j g1 g2=>?_)
  ·have e:((List.range (min its.toArray.size jts.toArray.size)).all (fun _=>true)&&its.toArray.size==jts.toArray.size)=true:=by
    simp
    omega
   rw[e] at h0;exact SeqAt.EqAt.of_refs hab h0
  ·have g1':j<its.length:=by simpa using g1
   have g2':j<jts.length:=by simpa using g2
   obtain⟨u1,e1,k1⟩:=r1.get (i:=j) (x:=xs[j]'(by omega)) (by simp);obtain⟨u2,e2,k2⟩:=r2.get (i:=j) (x:=ys[j]'(by omega)) (by simp);have w1:its.toArray[j]=u1:=by have:=(gS0.mp e1).2;simpa using this
   have w2:jts.toArray[j]=u2:=by have:=(gS0.mp e2).2;simpa using this
   rw[w1,w2];exact ih j _ _ (by simp) (by simp) k1 k2 (by show A.units+1+n<cLine;omega)
 |@lst n a b xs ys ha hb hl h ih=>
  intro u u' A r r' hu;cases r;cases r'
  by_cases hab:a=b
  ·rw[hab];exact SeqAt.EqAt.same _
  obtain⟨its,r1,pl,_⟩:=I.list (xs:=xs) (.inl (.inl ha));obtain⟨jts,r2,ql,_⟩:=I.list (xs:=ys) (.inl (.inl hb));have l1:=r1.length;have l2:=r2.length;have h0:=SeqAt.RcAt.lists (A:=A) (e:=fun _=>true) pl.isList ql.isList (by simp;omega) (by omega) (fun j g1 g2=>?_)
  ·have e:((List.range its.toArray.size).all (fun _=>true))=true:=by simp
   rw[e] at h0;exact SeqAt.EqAt.of_refs hab h0
  ·have g1':j<its.length:=by simpa using g1
   have g2':j<jts.length:=by simpa using g2
   obtain⟨u1,e1,k1⟩:=r1.get (i:=j) (x:=xs[j]'(by omega)) (by simp);obtain⟨u2,e2,k2⟩:=r2.get (i:=j) (x:=ys[j]'(by omega)) (by simp);have w1:its.toArray[j]=u1:=by have:=(gS0.mp e1).2;simpa using this
   have w2:jts.toArray[j]=u2:=by have:=(gS0.mp e2).2;simpa using this
   rw[w1,w2];exact ih j _ _ (by simp) (by simp) k1 k2 (by show A.units+1+n<cLine;omega)
 |@dct n a b kvs kws f ha hb hl tx hf h ih=>
  intro u u' A r r' hu;cases r;cases r';obtain⟨_,na,vs,kv,da⟩:=a4g I.hok ha;obtain⟨_,nb,ws,kw,db⟩:=a4g I.hok hb;have l1:=kv.length;have l2:=kw.length;refine a8E da db na nb (by omega) (fun k v hk=>?_) (fun k v hk=>?_) (by omega)
  ·obtain⟨i,hi⟩:=List.getElem?_of_mem hk
   obtain⟨v0,e0,_⟩:=a5A kw hi;exact tx k v0 (gI0 e0)
  ·obtain⟨i,hi⟩:=List.getElem?_of_mem hk
   obtain⟨v0,e0,rv⟩:=a5A kv hi;have m0:=gI0 e0;obtain⟨m,hm⟩:=List.getElem?_of_mem (hf k v0 m0);obtain⟨u',e1,rv'⟩:=a7Q kw hm;exact⟨u',gI0 e1,ih k v0 m0 rv rv' (by show A.units+1+n<cLine;omega)⟩
theorem a8b {A:Around}(I:Inv X pins σ H s){n:Nat}{a b:Addr}{xs ys:List V}(ha:SqL X.K H a xs)(hb:SqL X.K H b ys)(hl:xs.length=ys.length)(h:∀(i:Nat) (x y:V),xs[i]? =some x->ys[i]? =some y->Dq H n x y)(hu:A.units+n+1<cLine) :
  SeqAt.RcAt A s (.ref a) (.ref b) true/\SeqAt.RcNeAt A s (.ref a) (.ref b) false:=by
 obtain⟨its,r1,pl,_⟩:=I.list ha;obtain⟨jts,r2,ql,_⟩:=I.list hb;have l1:=r1.length;have l2:=r2.length;have el:∀j (g1:j<its.toArray.size) (g2:j<jts.toArray.size),SeqAt.EqAt A.in1 s its.toArray[j] jts.toArray[j] true:=fun j g1 g2=>by
  have g1':j<its.length:=by simpa using g1
  have g2':j<jts.length:=by simpa using g2
  obtain⟨u1,e1,k1⟩:=r1.get (i:=j) (x:=xs[j]'(by omega)) (by simp);obtain⟨u2,e2,k2⟩:=r2.get (i:=j) (x:=ys[j]'(by omega)) (by simp);have w1:its.toArray[j]=u1:=by have:=(gS0.mp e1).2;simpa using this
  have w2:jts.toArray[j]=u2:=by have:=(gS0.mp e2).2;simpa using this
  rw[w1,w2];exact b3a I (h j _ _ (by simp) (by simp)) k1 k2 (by show A.units+1+n<cLine;omega)
 have e:((List.range its.toArray.size).all (fun _=>true))=true:=by simp
 have h1:=SeqAt.RcAt.lists (A:=A) (e:=fun _=>true) pl.isList ql.isList (by simp;omega) (by omega) el;have h2:=SeqAt.RcNeAt.lists (A:=A) (e:=fun _=>true) pl.isList ql.isList (by simp;omega) (by omega) el;rw[e] at h1 h2;exact⟨h1,h2⟩
theorem b1S:OpR X (compareOp .Eq) (fun x y H Q=>∃(n:Nat) (a b:Addr) (xs ys:List V),x=.ref a/\y=.ref b/\SqL X.K H a xs/\SqL X.K H b ys/\xs.length=ys.length/\(∀(i:Nat) (x y:V),xs[i]? =some x->ys[i]? =some y->Dq H n x y)/\X.A.units+n+1<cLine/\Q (.bl true) H):=by
 intro pins s σ H x y v u Q I rx ry h;obtain⟨n,a,b,xs,ys,rfl,rfl,ha,hb,hl,hd,hu,q⟩:=h;cases rx;cases ry;exact(a8b I ha hb hl hd hu).1 X.prog X.w X.xe _ ⟨.bl true,H,I,rfl,q⟩
theorem b3L:OpR X (compareOp .NotEq) (fun x y H Q=>∃(n:Nat) (a b:Addr) (xs ys:List V),x=.ref a/\y=.ref b/\SqL X.K H a xs/\SqL X.K H b ys/\xs.length=ys.length/\(∀(i:Nat) (x y:V),xs[i]? =some x->ys[i]? =some y->Dq H n x y)/\X.A.units+n+1<cLine/\Q (.bl false) H):=by
 intro pins s σ H x y v u Q I rx ry h;obtain⟨n,a,b,xs,ys,rfl,rfl,ha,hb,hl,hd,hu,q⟩:=h;cases rx;cases ry;exact(a8b I ha hb hl hd hu).2 X.prog X.w X.xe _ ⟨.bl false,H,I,rfl,q⟩
end
theorem a6u {X:Cx}:MtR X "list.append" a9p:=a5K
theorem a0r.put {H H':Hp}{d:Addr}{o:HO}(s:a0r H H')(h:H d=none):a0r H (L2.upd H' d o):=fun b u e=>by
 rw[a0g (a0O e h)];exact s b u e
end L2
namespace My
open PySem L2 PyProof.Rows
seal L2.PE L2.PT L2.PW L2.PS L2.PSs L2.PA L2.PI L2.PG L2.PGs L2.OpR L2.UnR L2.a1u L2.IxR L2.SlR L2.MtR L2.PIf L2.PO L2.MtM L2.PC
def a1w:List Nat:=("abcdefghijklmnopqrstuvwxyz":Str).cps.toList
def a0T (z:Str):Bool:=decide (1<=z.length/\z.length<=8)&&z.cps.toList.all fun c=>decide (c∈a1w)
def a5U (K:Fg0):Sp:=fun vs H Q _=>∃(v:V) (n:String),vs=[v]/\Is K H v n/\(∀z,v=.str z->z.length<=sizeLine/\∀H',a0r H H'->Q (.bl (a0T z)) H')/\(n≠"str"->Q (.bl false) H)
section
variable {P:Program}{w:World}{K:Fg0}{mg:Str->Option Value}{base:Heap}
theorem b3o {f:Addr}{fd:FuncData}(F:Fun K "is_name" "is_name" (top 12) f fd)(B:Bl mg){uL uN:Value}(hL:mg "LETTERS"=some uL)(rL:a1e (.str "abcdefghijklmnopqrstuvwxyz") uL)(hN:mg "LONGEST_NAME"=some uN)(rN:a1e (.int 8) uN) :
  a0x P w K mg base CX0 1 f fd ["thing"] (a5U K):=by
 have sc:a0o ["thing"] ["thing"] (a0f (top 12)):=.k (by decide +kernel);refine F.ok sc (fun vs H Q E h=>?_) (fun cdv A outer s H vs Q E hr h=>?_)
 ·obtain⟨v,n,rfl,_⟩:=h
  rfl
 ·obtain⟨v,n,rfl,⟨ty,hn⟩,q1,q2⟩:=h
  refine⟨_,a0c (a0C (PW.pt (a3x (a1P (a0K (a0k a2z (by rfl) B.isi boot_isi (a0a (pv 0) (a0a (a0B (v:=.ty "str") (by rfl) B.str boot_str rfl) a0b)))))
    (a2n (a1P (b1v b4r b4r a0e (a0k a3J (by rfl) B.len PySem.boot_len (a0a (pv 0) a0b)) (a2l (by rfl) hN rN)))))) (a0h (a0z a3Q)) a0l)
   (a0h (a0z (a0k (a5s rfl) (by rfl) B.all boot_all (a0a (a1T (osc:=a0f (top 12)) (N0:=["thing"]) (xs:=["sign"]) (fr:=[]) ⟨rfl,by decide +kernel,by decide +kernel,by decide +kernel,by decide,by decide +kernel⟩ rfl rfl rfl (b4v (pv 0))
    (fun s H fp=>a0E (i:=0) (show(["sign"]:List Str).Nodup by decide +kernel) rfl (Or.inl rfl)) (fun s H fp=>a1U) (fun s H fp=>a0Q a9i (pv 0) (a2l (by rfl) hL rL) (by with_unfolding_all rfl))) a0b)))),?_⟩
  by_cases hs:n="str"
  ·subst hs
   obtain⟨z,rfl⟩:=Is.str_of ⟨ty,hn⟩;obtain⟨hz,q⟩:=q1 z rfl;have q0:a0T z=false->Q (.bl false) H:=fun e=>by
    have:=q H (a0r.refl H)
    rw[e] at this;exact this
   refine⟨_,rfl,_,_,_,_,rfl,ty,a2J.trans (show a1c "str" "str"=some true by decide +kernel),_,rfl,?_⟩;refine a1Z ?_;refine⟨_,rfl,_,rfl,hz,_,_,rfl,rfl,_,rfl,?_⟩;refine a8I (fun c1=>?_) (fun c1=>?_)
   ·have d1:(1:Int)<=z.length:=of_decide_eq_true c1
    refine⟨_,_,rfl,rfl,_,rfl,?_⟩;refine a8I (fun c2=>?_) (fun c2=>?_)
    ·refine q0 ?_
     have d2:¬((z.length:Int)<=8):=by
      intro e;rw[dT0 e] at c2;cases c2
     have e:decide (1<=z.length/\z.length<=8)=false:=dF0 (by omega);unfold a0T;rw[e]
     rfl
    ·have d2:(z.length:Int)<=8:=by
      by_cases e:(z.length:Int)<=8
      ·exact e
      ·rw[dF0 e] at c2
       exact(c2 rfl).elim
     refine⟨_,rfl,_,rfl,fun D hD=>?_⟩;have hlen:z.cps.toList.length=z.cps.size:=aL0;refine a3h z.cps.size (fun i=>.bl (decide (z.cps.toList.getD i 0∈a1w))) (fun i σ' Hc=>(∃a,σ'=[a])/\Hc=upd H D (.lst ((List.range i).map fun i=>.bl (decide (z.cps.toList.getD i 0∈a1w))))) hz ⟨⟨none,rfl⟩,rfl⟩ a0d ?_ ?_
     ·rintro i σ' Hc hi ⟨⟨a,rfl⟩,rfl⟩ hD'
      refine⟨hi,?_⟩;rintro x H' ⟨rfl,c,hc,rfl⟩;refine⟨_,rfl,_,_,rfl,rfl,?_,hD',⟨_,rfl⟩,b2E⟩;have ec:z.cps.toList.getD i 0=c:=by
       rw[List.getD_eq_getElem?_getD,Array.getElem?_toList,hc]
       rfl
      rw[ec];exact congrArg V.bl (StrLaws.found_one "abcdefghijklmnopqrstuvwxyz" c)
     ·rintro σ' Hc ⟨_,rfl⟩ hDn
      refine⟨nR0 _,?_⟩;refine⟨D,z.cps.toList.map fun c=>decide (c∈a1w),rfl,SqL.of ?_,?_⟩
      ·rw[a0d,<-hlen,a1J z.cps.toList 0 (fun c=>V.bl (decide (c∈a1w))),mC0]
       rfl
      ·have e:a0T z=(z.cps.toList.map fun c=>decide (c∈a1w)).all id:=by
        unfold a0T;rw[dT0 (show 1<=z.length/\z.length<=8 by omega),Bool.true_and,List.all_map]
        rfl
       rw[<-e];exact q _ (a0r.upd hD)
   ·refine⟨_,rfl,?_⟩
    refine a3C ?_;refine q0 ?_;have d1:¬((1:Int)<=z.length):=fun e=>c1 (dT0 e);have e:decide (1<=z.length/\z.length<=8)=false:=dF0 (by omega);unfold a0T;rw[e]
    rfl
  ·have e:(n=="str")=false:=beq_eq_false_iff_ne.mpr hs
   refine⟨_,rfl,_,_,_,_,rfl,ty,a2J.trans ((a8T n hn).trans (congrArg some e)),_,rfl,?_⟩;refine a3C ?_;exact q2 hs
end
def b1n (i:Int):Nat:=(a1w[(i%26).toNat]?).getD 0
theorem a6M:a1w.length=26:=by decide +kernel
theorem a9L (i:Int):atI a1w (i%26)=some (b1n i)/\b1n i∈a1w:=by
 have h0:=Int.emod_nonneg i (show(26:Int)≠0 by decide);have h1:=Int.emod_lt_of_pos i (show(0:Int)<26 by decide);obtain⟨n,hn⟩:=Int.eq_ofNat_of_zero_le h0;have hl:n<a1w.length:=by rw[a6M];omega
 have e:b1n i=a1w[n]:=by
  unfold b1n;rw[hn,Int.toNat_natCast,gE0 hl]
  rfl
 rw[e,hn];exact⟨a0P (gE0 hl),List.getElem_mem hl⟩
theorem b4m:a1w.Nodup:=by decide +kernel
theorem b0z {i j:Int}(h:b1n i=b1n j):i%26=j%26:=by
 have a0:=Int.emod_nonneg i (show(26:Int)≠0 by decide);have a1:=Int.emod_lt_of_pos i (show(0:Int)<26 by decide);have b0:=Int.emod_nonneg j (show(26:Int)≠0 by decide);have b1:=Int.emod_lt_of_pos j (show(0:Int)<26 by decide);obtain⟨n,hn⟩:=Int.eq_ofNat_of_zero_le a0;obtain⟨m,hm⟩:=Int.eq_ofNat_of_zero_le b0;have hl:n<a1w.length:=by rw[a6M];omega
 have hk:m<a1w.length:=by rw[a6M];omega
 unfold b1n at h;rw[hn,hm,Int.toNat_natCast,Int.toNat_natCast,gE0 hl,gE0 hk] at h
 have:n=m:=(List.getElem_inj b4m).mp h
 omega
def AllL (l:List Nat):Prop:=∀c∈l,c∈a1w
theorem b0F {z:Str}(h:AllL z.cps.toList)(h1:1<=z.length)(h8:z.length<=8):a0T z=true:=by
 unfold a0T;rw[dT0 ⟨h1,h8⟩,Bool.true_and,List.all_eq_true];exact fun c hc=>dT0 (h c hc)
end My
namespace L2
open PySem PySem.Spec PyProof.Rows PySem.Builtin PySem.Builtin.Dict
theorem a6H:typeLookup (.type "tuple") "keys"=pure none:=am_miss_of_fast (by decide +kernel)
theorem a9W {prog:Program}{w:World}{A:Around}{E:Vs0}{s:Shared}{a:Addr}{o:Obj}{xs:Array Value}{k:Nat}{Q:Option Value->Shared->Prop}
  (hx:s.heap.get? a=some o) (hc:o.cls=.type "tuple") (hdat:o.data=.seq xs k) (hd:o.dict=none) (hA:A.handled=none)
  (h:∀h' tk,(∀b ob,s.heap.get? b=some ob->h'.get? b=some ob)->Q none { s with heap:=h',toks:=tk }):wpAny (model prog w) A (getAttr? (.ref a) "keys") Q E s:=by
 obtain⟨c,dct,dat,sl⟩:=o;simp only at hc hdat hd;subst hc hdat hd;obtain⟨hp,g,d,tk,os⟩:=s;have hT:∀tk',(⟨hp,g,d,tk',os⟩:Shared).TypeIs (.ref a) "tuple":=fun _=>⟨_,hx,rfl⟩;have f1:=sub_AttributeError;have f3:=F.slot_tuple_getattribute.lookup;have f4:=F.slot_tuple_getattribute.bind (.ref a);have f5:=am_tuple_getattr_none;unfold getAttr? getAttrBy? getAttrBy
 repeat (any_goals (first |assumption |exact hT _ | ((with_reducible show wpAny _ _ (call (Value.builtin "tuple.__getattribute__") _ _) _ _ _);refine call_meets F.slot_tuple_getattribute (hT _) am_entry_tuple_getattribute (F.args_tuple_getattribute_2 _ _) (meets_getattribute_miss_tuple a xs k sl "keys" _ a6H (by decide +kernel) (by size_fits)) ⟨hx,hA,fun h' tk' e hx'=>?_⟩) |wp_step))
 obtain⟨t',u',he⟩:=hx'.there;show wpAny _ _ (getattributeRaised _ _ _ _ _ _ _) _ _ _;unfold getattributeRaised
 repeat (any_goals (first |assumption |wp_step))
 exact h _ _ hx'.keeps
theorem a1L:entryFor table "dict.update.loop"=some Builtin.«dict.update.loop»:=entryFor_of_tree (by kernel_rfl)
section
variable {prog:Program}{w:World}{A:Around}{R:Result->Shared->Prop}
theorem a8c {h0:Heap}{d it t:Addr}{items:Array Value}{ps:List (Key×Value)}(hh:A.handled=none)(ht:h0.IsTuple t items)(tne:t≠it/\t≠d)(idne:it≠d)(hl:ps.length=items.size)(hz:items.size<=1000)
  (hp:∀(j:Nat) (k:Key) (v:Value),ps[j]? =some (k,v)->∃a o key n,items[j]? =some (.ref a)/\h0.get? a=some o/\o.cls=.type "tuple"/\o.data=.seq #[key,v] n/\(a0n prog w).is k key=true/\a≠it/\a≠d)
  (nd:(ps.map (·.1)).Nodup):∀(m i:Nat) (tk:Tok) (s:Shared),i+m=items.size->s.heap.IsTupleIter it t i->s.heap.DictOf (a0n prog w) d (ps.take i)->(∀b o,b≠it->b≠d->h0.get? b=some o->s.heap.get? b=some o) →
  (∀(h':Heap) (k:Nat),h'.DictOf (a0n prog w) d ps->(∀b o,b≠it->b≠d->h0.get? b=some o->h'.get? b=some o)->R (.ok (.ret .none)) { s with heap:=h',toks:=k }) →
  codeAny (model prog w) A (.builtin "dict.update.loop" ⟨[.ref d,.ref it,.int i tk,.none],[]⟩) R s
 |0,i,tk,s,hi,hit,hd,kp,hq=>by
  refine codeAny_builtin a1L ?_;unfold Builtin.«dict.update.loop»
  dsimp only
  obtain⟨o,ho,hc,n,hdt⟩:=id ht;refine wB0 (wpAny_pyNext_tuple_end (items:=items) hh hit ⟨o,kp t o tne.1 tne.2 ho,hc,n,hdt⟩ (by rw[Array.getElem?_eq_none (by omega)]) fun h' ex=>?_)
  dsimp only
  refine wB0 (wP0 (wP0 ?_));have e:ps.take i=ps:=List.take_of_length_le (by omega);rw[e] at hd;exact hq h' s.toks (hd.extBut ex idne.symm) fun b o hb1 hb2 q=>ex b o hb1 (kp b o hb1 hb2 q)
 |m+1,i,tk,s,hi,hit,hd,kp,hq=>by
  refine codeAny_builtin a1L ?_;unfold Builtin.«dict.update.loop»
  dsimp only
  obtain⟨o,ho,hc,n,hdt⟩:=id ht;obtain⟨⟨k,v⟩,hk⟩:∃kv,ps[i]? =some kv:=⟨_,gE0 (by omega)⟩;obtain⟨a,oa,key,na,e1,e2,e3,e4,e5,e6,e7⟩:=hp i k v hk;refine wB0 (wpAny_pyNext_tuple_item (items:=items) hit ⟨o,kp t o tne.1 tne.2 ho,hc,n,hdt⟩ e1 fun h1 it1 sb=>?_)
  dsimp only
  have ha1:h1.get? a=some oa:=(sb.2 a e6).trans (kp a oa e6 e7 e2);have hd1:h1.DictOf (a0n prog w) d (ps.take i):=by
   obtain⟨od,es,ep,g,r⟩:=hd;exact⟨od,es,ep,(sb.2 d idne.symm).trans g,r⟩
  refine wB0 (wpAny_holding (wB0 (wpAny_tryCatch ?_)));unfold Dict.pairItems;refine wB0 (wpAny_typeOf (T:="tuple") ⟨oa,ha1,e3⟩ ?_);rw[if_pos (by decide)];refine wB0 (wpAny_seqItems ha1 e4 (wP0 ?_));show wpAny _ _ (holding [key,v] (dictSet d key v)) _ _ _;refine wpAny_holding (wpAny_dictSet_pairs (knd:=a0n prog w) (k:=k) e5 hd1 (fun h2 hd2 sb2=>?_) (by rw[List.length_take,sizeLine_eq];omega));refine wP0 ⟨Code.quiet_builtin _ (by decide +kernel),?_⟩;have es:stored (ps.take i) k v=ps.take (i+1):=by
   have no:((ps.take i).any fun kv=>decide (kv.1=k))=false:=by
    rw[List.any_eq_false];intro kv hkv;rw[decide_eq_true_iff];intro ek;obtain⟨j,hj,ej⟩:=List.mem_take_iff_getElem.mp hkv;have hj2:j<ps.length:=by omega
    have hij:j<i:=by omega
    have hi2:i<ps.length:=by omega
    have ei:ps[i]=(k,v):=(gS0.mp hk).2;refine List.pairwise_iff_getElem.mp nd j i (by simpa using hj2) (by simpa using hi2) hij ?_;rw[List.getElem_map,List.getElem_map,ej,ei,ek]
   unfold stored;rw[if_neg (by rw[no];decide),List.take_add_one,hk]
   rfl
  rw[es] at hd2;exact a8c hh ht tne idne hl hz hp nd m (i+1) _ _ (by omega) (by
   obtain⟨oi,g1,g2⟩:=it1;exact⟨oi,(sb2.2 it idne).trans g1,g2⟩) hd2 (fun b o hb1 hb2 q=>(sb2.2 b hb2).trans ((sb.2 b hb1).trans (kp b o hb1 hb2 q))) fun h' k' x y=>hq h' k' x y
end
theorem b4y {α β:Type}:∀(l:List α) (P:Nat->α->β->Prop),(∀(j:Nat) (x:α),l[j]? =some x->∃u,P j x u)->∃us:List β,us.length=l.length/\∀(j:Nat) (x:α),l[j]? =some x->∃u,us[j]? =some u/\P j x u
 |[],_,_=>⟨[],rfl,fun j x e=>by simp at e⟩
 |y::l,P,h=>by
  obtain⟨u,hu⟩:=h 0 y rfl;obtain⟨us,hl,hs⟩:=b4y l (fun j=>P (j+1)) fun j x e=>h (j+1) x (by simpa using e);refine⟨u::us,by simp[hl],fun j x e=>?_⟩;cases j with
  |zero=>
   simp at e;subst e;exact⟨u,rfl,hu⟩
  |succ j=>
   obtain⟨v,h1,h2⟩:=hs j x (by simpa using e);exact⟨v,by simpa using h1,h2⟩
theorem b2q:∀{kvs:List (Key×V)} {ps:List (Key×Value)},ps.length=kvs.length->(∀(j:Nat) (k:Key) (v:V),kvs[j]? =some (k,v)->∃u,ps[j]? =some (k,u)/\a1e v u)->KV kvs ps
 |[],[],_,_=>.nil
 |[],_::_,h,_=>by simp at h
 |_::_,[],h,_=>by simp at h
 | (k,v)::kvs,(k',u')::ps,h,f=>by
  obtain⟨u,e,r⟩:=f 0 k v rfl;simp at e;obtain⟨rfl,rfl⟩:=e;exact .cons ⟨rfl,r⟩ (b2q (by simpa using h) fun j k v e=>f (j+1) k v (by simpa using e))
section
variable {X:Cx}
theorem a3d:a1u X (.type "tuple") (fun xs H Q=>∃p ys,xs=[.ref p]/\SqL X.K H p ys/\∀l o,H l=none->o.dict=none->Q (.ref l) (upd H l (.frz o (.tup ys)))):=by
 intro pins s σ H xs us Q I r h;obtain⟨p,ys,rfl,hq,q⟩:=h;obtain⟨u,rfl,rx⟩:=a2o r;cases rx;obtain⟨its,r',pl,hz⟩:=I.list hq;have hlen:=r'.length;refine call_tuple_list pl.isList (fun h' kp=>?_) (by simp only[List.size_toArray]<;>omega);have I1:Inv X pins σ H { s with heap:=h' }:=I.kept (t':=s.toks) kp;have I2:Inv X pins σ (upd H h'.objs.size (.frz { cls:=.type "tuple",data:=.seq its.toArray } (.tup ys))) { s with heap:=h'.push { cls:=.type "tuple",data:=.seq its.toArray } }:=
  I1.laid (t':=s.toks) (fun b o e=>hP0 _ e) (nR0 _) (show a1h X.prog X.w _ _ _ (.frz _ (.tup ys)) from⟨hS0 _ rfl,hz,its,r',IsTup.new _ _⟩)
 exact⟨.ref h'.objs.size,_,I2,rfl,q _ _ (I1.hok.fresh (nR0 _)) rfl⟩
theorem a4E (hc:X.calm=true):a1u X (.type "dict") (fun xs H Q=>∃(t:Addr) (o:Obj) (ys:List V) (kvs:List (Key×V)),xs=[.ref t]/\H t=some (.frz o (.tup ys))/\o.dict=none/\ys.length<=1000/\kvs.length=ys.length ∧
  (∀(j:Nat) (k:Key) (v:V),kvs[j]? =some (k,v)->∃a,ys[j]? =some (.ref a)/\SqT X.K H a [kV k,v])/\(kvs.map (·.1)).Nodup/\∀p,H p=none->Q (.ref p) (upd H p (.dK kvs))):=by
 intro pins s σ H xs us Q I r h;obtain⟨t,o,ys,kvs,rfl,ht,hod,hys,hkl,hp,nd,q⟩:=h;obtain⟨u,rfl,rx⟩:=a2o r;cases rx;obtain⟨g,hz,its,r',tp⟩:=I.hok t _ ht;obtain⟨o',g',hcl,n,hdat⟩:=tp;rw[g] at g';cases g';have hlen:=r'.length;have hh:=I.ok.hd hc;have hpk:∃ps:List (Key×Value),ps.length=kvs.length/\∀(j:Nat) (kv:Key×V),kvs[j]? =some kv->∃u,ps[j]? =some u/\(u.1=kv.1/\a1e kv.2 u.2/\∃a oa key na,its[j]? =some (.ref a)/\s.heap.get? a=some oa/\oa.cls=.type "tuple"/\oa.data=.seq #[key,u.2] na/\(a0n X.prog X.w).is kv.1 key=true):=by
  refine b4y kvs (fun(j:Nat) (kv:Key×V) (u:Key×Value)=>u.1=kv.1/\a1e kv.2 u.2/\∃a oa key na,its[j]? =some (.ref a)/\s.heap.get? a=some oa/\oa.cls=.type "tuple"/\oa.data=.seq #[key,u.2] na/\(a0n X.prog X.w).is kv.1 key=true) fun j kv hj=>?_;obtain⟨k,v⟩:=kv;obtain⟨a,ea,sq⟩:=hp j k v hj;obtain⟨jts,rj,pj,_⟩:=I.tuple sq;cases rj with
  |@cons _ j1 _ jr rk rr=>cases rr with
   |@cons _ j2 _ jr2 rv rr2=>
    cases rr2;obtain⟨oa,ga,ca,na,da⟩:=pj;refine⟨(k,j2),rfl,rv,a,oa,j1,na,?_,ga,ca,da,a4A rk⟩;obtain⟨w,ew,rw1⟩:=a1l.get r' ea;cases rw1;exact ew
 obtain⟨ps,hpl,hps⟩:=hpk;have gt:s.heap.get? t=some o:=g;have tlt:t<s.heap.objs.size:=hL0 gt;refine callType_codes (Q₁:=fun obj s₁=>obj=.ref s.heap.objs.size/\s₁={ s with heap:=s.heap.push { cls:=.type "dict",data:=.dict #[] } }) F.kt_called_dict (F.kt_typeCall_dict_1 _) F.entry_dict_init (kt_code_dict_new _ ⟨rfl,rfl⟩) ?_;rintro obj s₁ ⟨rfl,rfl⟩;have hnew:(s.heap.push { cls:=.type "dict",data:=.dict #[] }).DictOf (a0n X.prog X.w) s.heap.objs.size []:=Heap.DictOf.new s.heap;have gt1:(s.heap.push { cls:=.type "dict",data:=.dict #[] }).get? t=some o:=hP0 _ gt;refine⟨hnew.typeIs,F.args_dict_init_2 _ _,?_⟩;unfold Builtin.«dict.__init__»;refine wB0 ?_;unfold Builtin.Dict.selfAndRest;refine wB0 (wpAny_notOrdered_dict hnew.typeIs ?_);show wpAny _ _ (pure (s.heap.objs.size,[Value.ref t])) _ _ _;refine wP0 ?_;show wpAny _ _ (Builtin.Dict.updateFrom "dict.__init__" s.heap.objs.size (.ref t) [] .none) _ _ _;unfold Builtin.Dict.updateFrom;refine wB0 (wpAny_typeOf (T:="tuple") ⟨o,gt1,hcl⟩ ?_);rw[if_pos (by decide)];refine wB0 (a9W (o:=o) (xs:=its.toArray) (k:=n) gt1 hcl hdat hod hh fun h1 tk1 kp1=>?_);rw[if_pos (show(none:Option Value).isNone=true from rfl)];have kp:∀b ob,s.heap.get? b=some ob->h1.get? b=some ob:=fun b ob e=>kp1 b ob (hP0 _ e);have gt2:=kp t o gt;have gd2:h1.get? s.heap.objs.size=some { cls:=.type "dict",data:=.dict #[] }:=kp1 _ _ (hS0 _ rfl);have dlt:s.heap.objs.size<h1.objs.size:=hL0 gd2;have dd1:h1.DictOf (a0n X.prog X.w) s.heap.objs.size []:=by
  obtain⟨od,es,ep,gg,rr⟩:=hnew;exact⟨od,es,ep,kp1 _ _ gg,rr⟩
 refine wB0 (wpAny_rule ?_);refine wB0 (wpAny_pyIter_tuple (items:=its.toArray) ⟨o,gt2,hcl,n,hdat⟩ ?_);refine wP0 ⟨Code.quiet_builtin _ (by decide +kernel),?_⟩;have epl:ps.length=its.toArray.size:=by simp;omega
 have fsts:ps.map (·.1)=kvs.map (·.1):=by
  refine List.ext_getElem (by simp[hpl]) fun j h1 h2=>?_;rw[List.getElem_map,List.getElem_map];rw[lM0] at h1 h2;obtain⟨u,eu,e1,_⟩:=hps j kvs[j] (gE0 h2);rw[gE0 h1] at eu;cases eu;exact e1
 refine a8c (A:=X.A.in1) (ps:=ps) (items:=its.toArray) (h0:=h1.push { cls:=.type "tuple_iterator",data:=.fields #[.ref t,.int 0 0] }) (t:=t) (d:=s.heap.objs.size) (it:=h1.objs.size) (show X.A.in1.handled=none from hh) ⟨o,hP0 _ gt2,hcl,n,hdat⟩ ⟨nL0 (Nat.lt_trans tlt dlt),nL0 tlt⟩ (Nat.ne_of_gt dlt) epl (by rw[<-epl,hpl,hkl];exact hys) (fun j k v hj=>?_) (by rw[fsts];exact nd) its.toArray.size 0 _ { s with heap:=h1.push { cls:=.type "tuple_iterator",data:=.fields #[.ref t,.int 0 0] },toks:=tk1 } (by omega) ⟨_,hS0 _ rfl,rfl,rfl⟩ (dd1.push _) (fun b o _ _ e=>e) (fun h2 k2 dd2 kp2=>?_)
 ·have hjl:j<kvs.length:=by
   have:=(gS0.mp hj).1
   omega
  obtain⟨u,eu,e1,e2,a,oa,key,na,e3,e4,e5,e6,e7⟩:=hps j kvs[j] (gE0 hjl);rw[hj] at eu;cases eu;have alt:=hL0 e4;refine⟨a,oa,key,na,by simpa using e3,hP0 _ (kp a oa e4),e5,e6,?_,nL0 (Nat.lt_trans alt dlt),nL0 alt⟩;rw[show k=kvs[j].1 from e1];exact e7
 ·refine⟨rfl,.ref s.heap.objs.size,_,?_,rfl,q s.heap.objs.size (I.hok.fresh (nR0 _))⟩
  have rel:KV kvs ps:=b2q hpl fun j k v e=>by
   obtain⟨u,eu,e1,e2,_⟩:=hps j (k,v) e;obtain⟨u1,u2⟩:=u
   cases(show u1=k from e1)
   exact⟨u2,eu,e2⟩
  refine I.laid (a:=s.heap.objs.size) (o:=.dK kvs) (fun b qo hb=>?_) (nR0 _) (a3N (by rw[sizeLine_eq];omega) (beq_eq_false_iff_ne.mpr (Ne.symm (nL0 I.big))) rel dd2);have blt:=hL0 hb;exact kp2 b qo (nL0 (Nat.lt_trans blt dlt)) (nL0 blt) (hP0 _ (kp b qo hb))
end
end L2
namespace L2
open PySem PySem.Spec PyProof.Rows
theorem b1N {n d:Nat}{k:Int}(h0:0<=k)(h1:k<=n):HT.sIx n d (some k)=k.toNat:=by
 have e:=HT.b2R k n d;rw[if_neg (by omega)] at e
 omega
theorem b2f {xs:List V}{k:Int}(h0:0<=k)(h1:k<=xs.length):b1U xs none (some k)=xs.take k.toNat:=by
 unfold b1U;rw[b1N h0 h1,HT.a7B,List.drop_zero,Nat.sub_zero]
theorem a7Z {xs:List V}{k:Int}(h0:0<=k)(h1:k<=xs.length):b1U xs (some k) none=xs.drop k.toNat:=by
 unfold b1U;rw[b1N h0 h1,HT.a7B];refine List.take_of_length_le ?_;rw[List.length_drop]
 omega
theorem a1Q {J:It}{g:TG}{te:TE}{R:Addr->Hp->Prop}{D:Addr}{σ0:St}{H0:Hp}(n:Nat)(Pv:Nat->List V->St->Hp->Prop)(hn:n<=sizeLine)(h0:Pv 0 [] σ0 H0)(hD0:H0 D=some (.lst []))
  (hs:∀i σ H ys,i<n->Pv i ys σ H->ys.length=i->H D=some (.lst ys)->J.go i H/\∀x H',J.yld i H x H'->g x σ H' fun σ2 H2=>te σ2 H2 fun y H4=>H4 D=some (.lst ys)/\Pv (i+1) (ys++[y]) σ2 (upd H4 D (.lst (ys++[y]))))
  (hd:∀σ H ys,Pv n ys σ H->H D=some (.lst ys)->ys.length=n->J.stop n H/\R D H):a8g J g b6a te R D σ0 H0:=by
 refine⟨fun i m σ H=>m=n-i/\i<=n/\∃ys,Pv i ys σ H/\H D=some (.lst ys)/\ys.length=i,⟨n,by omega,zL0 _,[],h0,hD0,rfl⟩,?_⟩;rintro i m σ H ⟨rfl,hi,ys,p,hD,hl⟩
 by_cases hlt:i<n
 ·obtain⟨go,st⟩:=hs i σ H ys hlt p hl hD
  refine .inr ⟨go,fun σ2 y H4=>H4 D=some (.lst ys)/\Pv (i+1) (ys++[y]) σ2 (upd H4 D (.lst (ys++[y]))),fun _ _=>False,?_,fun _ _ z=>z.elim,st⟩;rintro σ2 y H4 ⟨e,p'⟩;exact⟨_,e,by rw[hl];omega,n-(i+1),by omega,rfl,hlt,_,p',a0d,by simp[hl]⟩
 ·have e:i=n:=by omega
  subst e;exact .inl (hd σ H ys p hD hl)
end L2
namespace My
open PySem L2 PyProof.Rows
seal L2.PE L2.PT L2.PW L2.PS L2.PSs L2.PA L2.PI L2.PG L2.PGs L2.OpR L2.UnR L2.a1u L2.IxR L2.SlR L2.MtR L2.PIf L2.PO L2.MtM L2.PC
def a1S:List Str:=["twin","many","some"]
def b1M:Sp:=fun vs H Q _=>∃(p:Addr) (ss:List Str),vs=[.ref p]/\H p=some (.lst ((("head":Str)::ss).map V.str))/\(∀z∈ss,z∈a1S)/\∀H',a0r H H'->Q .non H'
def b1z:Sp:=fun vs H Q _=>∃(p:Addr) (zs:List Str),vs=[.ref p]/\H p=some (.lst (zs.map V.str))/\zs.Nodup/\(∀z∈zs,a0T z=true)/\∀H',a0r H H'->Q .non H'
def kvC (cols:List (Str×V)):List (Key×V):=cols.map fun p=>(.inr p.1,p.2)
def vOf (cols:List (Str×V))(z:Str):V:=(a2g (kvC cols) (.inr z)).getD .non
mutual
def a1V:Dt->Bool
 | .dct=>false
 | .tup ds=>a4M ds
 | .lst _=>false
 | .non=>true
 | .bl _=>true
 | .int _=>true
 | .str _=>true
def a4M:List Dt->Bool
 |[]=>true
 |d::ds=>a1V d&&a4M ds
end
mutual
theorem Rep.beside {H:Hp}{a:Addr}{u:HO}(e:∀xs,H a≠some (.tup xs)):∀{d:Dt} {v:V},a1V d=true->Rep H d v->Rep (L2.upd H a u) d v
 | .non,v,_,h=>by unfold Rep at h ⊢;exact h
 | .bl b,v,_,h=>by unfold Rep at h ⊢;exact h
 | .int i,v,_,h=>by unfold Rep at h ⊢;exact h
 | .str z,v,_,h=>by unfold Rep at h ⊢;exact h
 | .tup ds,v,n,h=>by
  unfold Rep at h ⊢;obtain⟨b,xs,h1,h2,h3⟩:=h;have hne:b≠a:=fun q=>e _ (by rw[<-q];exact h2);exact⟨b,xs,h1,by rw[a0g hne];exact h2,a2e.beside e (by simpa[a1V] using n) h3⟩
 | .lst ds,v,n,h=>by simp[a1V] at n
 | .dct,v,n,h=>by simp[a1V] at n
theorem a2e.beside {H:Hp}{a:Addr}{u:HO}(e:∀xs,H a≠some (.tup xs)):∀{ds:List Dt} {vs:List V},a4M ds=true->a2e H ds vs->a2e (L2.upd H a u) ds vs
 |[],vs,_,h=>by unfold a2e at h ⊢;exact h
 |d::ds,vs,n,h=>by
  unfold a2e at h ⊢;obtain⟨v,ws,h1,h2,h3⟩:=h;have n':a1V d=true/\a4M ds=true:=by simpa[a4M] using n
  exact⟨v,ws,h1,Rep.beside e n'.1 h2,a2e.beside e n'.2 h3⟩
end
def a0G (H:Hp)(cols:List (Str×V)):Prop:=(cols.map (·.1)).Nodup/\cols.length<=12/\∀p∈cols,a0T p.1=true/\∃d,Rep H d p.2/\a1H d=true/\a1V d=true
theorem a0G.same {H H':Hp}{cols:List (Str×V)}(h:a0G H cols)(e:a0r H H'):a0G H' cols:=⟨h.1,h.2.1,fun p hp=>⟨(h.2.2 p hp).1,let ⟨d,h1,h2⟩:=(h.2.2 p hp).2;⟨d,h1.same e,h2⟩⟩⟩
theorem a4q:∀{cols:List (Str×V)} {z:Str},z∈cols.map (·.1)->a2g (kvC cols) (.inr z)=some (vOf cols z)
 |[],z,h=>nomatch h
 |p::r,z,h=>by
  unfold vOf
  by_cases e:p.1=z
  ·rw[show kvC (p::r)=(.inr p.1,p.2)::kvC r from rfl,a1K (by rw[e])]
   rfl
  ·have hz:z∈r.map (·.1):=by
    rcases mK0.mp h with h |h
    ·exact absurd h.symm e
    ·exact h
   rw[show kvC (p::r)=(.inr p.1,p.2)::kvC r from rfl,a2i (fun h=>e (by injection h)),a4q hz]
   rfl
def a1F (H:Hp)(t:Addr)(cols:List (Str×V)):Prop:=∃(o:Obj) (ps:List Addr) (zs:List Str),zs.Perm (cols.map (·.1))/\sortedS zs=true/\o.dict=none/\H t=some (.frz o (.tup (ps.map V.ref)))/\ps.length=zs.length/\∀(j:Nat) (p:Addr) (z:Str),ps[j]? =some p->zs[j]? =some z->H p=some (.tup [.str z,vOf cols z])
theorem a1F.same {H H':Hp}{t:Addr}{cols:List (Str×V)}(h:a1F H t cols)(e:a0r H H'):a1F H' t cols:=by
 obtain⟨o,ps,zs,h1,h2,h3,h4,h5,h6⟩:=h;exact⟨o,ps,zs,h1,h2,h3,e _ _ h4,h5,fun j p z a b=>e _ _ (h6 j p z a b)⟩
def b1P:Sp:=fun vs H Q _=>∃(a:Addr) (cols:List (Str×V)),vs=[.ref a]/\H a=some (.dK (kvC cols))/\a0G H cols/\∀t H',a0r H H'->a1F H' t cols->Q (.ref t) H'
section
variable {P:Program}{w:World}{K:Fg0}{mg:Str->Option Value}{base:Heap}
theorem b2I {f sA:Addr}{fd:FuncData}(F:Fun K "ask_sorts" "ask_sorts" (top 20) f fd)(mS:mg "SIDE_SORTS"=some (.ref sA))(qS:∀H,SqT K H sA (a1S.map V.str)):a0x P w K mg base CX0 1 f fd ["sorts"] b1M:=by
 have sc:a0o ["sorts","sort"] ["sorts"] (a0f (top 20)):=.k (by decide +kernel);refine F.ok sc (fun vs H Q E h=>?_) (fun cdv A outer s H vs Q E hr h=>?_)
 ·obtain⟨p,ss,rfl,_⟩:=h
  rfl
 ·obtain⟨p,ss,rfl,hp,hss,q⟩:=h
  have hu:=a2s hr;refine⟨_,a0c (a0C (a0t b3L (a3U a5v (pv 0) a5n (a5x a0e)) (a1r (a0a a0v a0b)) (a0u _)) a0m a0l)
   (a0h (a2E PassesOwn.never rfl (a2C (a3U a5v (pv 0) (a5x a0e) a5n)) (a0E (i:=1) sc.nd rfl (Or.inl rfl))
    (a0h (a0C (a0t a2N (pv 1) (a2l (v:=.ref sA) (by rfl) mS rfl) (by with_unfolding_all rfl)) a0m a0l)))),?_⟩
  refine⟨_,rfl,_,rfl,p,_,rfl,SqL.of hp,fun p1 e1=>?_⟩;rw[b2f (by decide) (by rw[lM0,List.length_cons];omega)];have T1:=a0r.upd (o:=.lst [V.str "head"]) e1;refine⟨(by exact sl1),fun p2 e2=>?_⟩;have T2:=a0r.upd (o:=.lst [V.str "head"]) e2;refine⟨0,p1,p2,[V.str "head"],[V.str "head"],rfl,rfl,SqL.of (T2 _ _ a0d),SqL.of a0d,rfl,(fun i x y h1 h2=>?_),hu,_,rfl,?_⟩
  ·rw[h1] at h2
   cases h2
   have:x=V.str "head":=by simpa using gI0 h1
   rw[this];exact .str
  refine a1Z ?_;have S2:=T1.trans T2;refine⟨_,rfl,_,rfl,p,_,rfl,SqL.of (S2 _ _ hp),fun p3 e3=>?_⟩;rw[a7Z (by decide) (by rw[lM0,List.length_cons];omega)];have T3:=a0r.upd (o:=.lst (ss.map V.str)) e3;refine⟨p3,rfl,⟨_,SqL.of a0d⟩,a3S (K:=K) (a:=p3) (xs:=ss.map V.str) (fun j σ H4=>H4=upd _ p3 (.lst (ss.map V.str))/\∃u,σ=[some (.ref p),u]) ⟨rfl,_,rfl⟩ (fun j σ H4 _ pp=>by rw[pp.1];exact SqL.of a0d) ?_ ?_⟩
  ·rintro j x σ H4 hx ⟨rfl,u,rfl⟩
   obtain⟨z,hz,rfl⟩:=mM0.mp (gI0 hx);refine⟨_,rfl,sA,_,rfl,.inr (qS _),rfl,(by decide),_,rfl,?_⟩;have hin:inV (.str z) (a1S.map V.str)=true:=by
    have:∀z∈a1S,inV (.str z) (a1S.map V.str)=true:=by decide +kernel
    exact this z (hss z hz)
   refine a3e (by rw[hin];rfl) ?_;exact⟨rfl,_,rfl⟩
  ·rintro σ H4 ⟨rfl,u,rfl⟩
   exact q _ (S2.trans T3)
theorem b3x {f fN:Addr}{fd fdN:FuncData}(F:Fun K "ask_names" "ask_names" (top 21) f fd)(DN:Df K mg "is_name" (top 12) fN fdN)(GN:a0x P w K mg base CX0 1 fN fdN ["thing"] (a5U K)):a0x P w K mg base CX0 2 f fd ["names"] b1z:=by
 have sc:a0o ["names","name"] ["names"] (a0f (top 21)):=.k (by decide +kernel);have bN:=DN.fn.b1 "thing" (by intros;rfl);refine F.ok sc (fun vs H Q E h=>?_) (fun cdv A outer s H vs Q E hr h=>?_)
 ·obtain⟨p,zs,rfl,_⟩:=h
  rfl
 ·obtain⟨p,zs,rfl,hp,nd,hz,q⟩:=h
  refine⟨_,a0h (a2E PassesOwn.never rfl (a2C (pv 0)) (a0E (i:=1) sc.nd rfl (Or.inl rfl))
    (a0c (a0C (a1P (a0K (a0i GN hr (by rfl) DN.mg DN.fn.kp bN .nil a0q (a0a (pv 1) a0b)))) a0m a0l)
    (a0h (a0C (a0t b5I (a6Y PySem.F.plainAttrs_list PySem.F.slot_list_count PySem.F.type_list_count b0P (pv 0) (a0a (pv 1) a0b)) a0e (a0u _)) a0m a0l)))),?_⟩
  refine⟨_,rfl,p,rfl,⟨_,SqL.of hp⟩,a3S (K:=K) (a:=p) (xs:=zs.map V.str) (fun j σ H4=>a0r H H4/\∃u,σ=[some (.ref p),u]) ⟨a0r.refl H,_,rfl⟩ (fun j σ H4 _ pp=>SqL.of (pp.1 _ _ hp)) ?_ ?_⟩
  ·rintro j x σ H4 hx ⟨s4,u,rfl⟩
   obtain⟨z,hzm,rfl⟩:=mM0.mp (gI0 hx);have h8:z.length<=8:=by
    have:=hz z hzm
    unfold a0T at this;exact(of_decide_eq_true (Bool.and_eq_true_iff.mp this).1).2
   refine⟨_,rfl,_,_,rfl,Is.str,(fun z' e=>?_),(fun h=>absurd rfl h)⟩;cases e;refine⟨by rw[sizeLine_eq];omega,fun H5 s5=>⟨_,rfl,?_⟩⟩;rw[hz z hzm];refine a1Z ?_;have hp5:=s5 _ _ (s4 _ _ hp);refine⟨_,rfl,.inl ⟨rfl,_,SqL.of hp5⟩,_,rfl,p,zs,z,rfl,rfl,SqL.of hp5,_,_,rfl,rfl,_,rfl,?_⟩;have hc:zs.count z<=1:=List.nodup_iff_count.mp nd z;refine a3e (dF0 (by omega)) ?_;exact⟨s4.trans s5,_,rfl⟩
  ·rintro σ H4 ⟨s4,u,rfl⟩
   exact q _ s4
theorem b3w {f fN fK:Addr}{fd fdN fdK:FuncData}(F:Fun K "columns_made" "columns_made" (top 22) f fd)(B:Bl mg)(DN:Df K mg "is_name" (top 12) fN fdN)(GN:a0x P w K mg base CX0 1 fN fdN ["thing"] (a5U K))(DK:Df K mg "is_kind" (top 16) fK fdK)(GK:a0x P w K mg base CX0 4 fK fdK ["thing"] b2a) :
  a0x P w K mg base CX0 5 f fd ["columns"] b1P:=by
 have sc:a0o ["columns","column","kind"] ["columns"] (a0f (top 22)):=.k (by decide +kernel);have bN:=DN.fn.b1 "thing" (by intros;rfl);have bK:=DK.fn.b1 "thing" (by intros;rfl);refine F.ok sc (fun vs H Q E h=>?_) (fun cdv A outer s H vs Q E hr h=>?_)
 ·obtain⟨a,cols,rfl,_⟩:=h
  rfl
 ·obtain⟨a,cols,rfl,hc,ok,q⟩:=h
  have hr1:a1g 1 _:=hr.mono (by decide);have hu:=a2s hr;refine⟨_,a0c (b1X (a2E PassesOwn.never rfl (b0p (pv 0)) (a4P rfl (a0N (a0E (i:=1) sc.nd rfl (Or.inl rfl)) (a0N (a0E (i:=2) sc.nd rfl (Or.inl rfl)) a2t)))
    (a0c (a0C (a1P (a0K (a0i GN hr1 (by rfl) DN.mg DN.fn.kp bN .nil a0q (a0a (pv 1) a0b)))) a0m a0l)
    (a0h (a0C (a1P (a0K (a0i GK hr (by rfl) DK.mg DK.fn.kp bK .nil a0q (a0a (pv 2) a0b)))) a0m a0l)))))
   (a0h (a0z (a0V a3d (by rfl) B.tuple boot_tuple (a0a (a1T (osc:=a0f (top 22)) (N0:=["columns","column","kind"]) (xs:=["column"]) (fr:=[0]) ⟨rfl,by decide +kernel,by decide +kernel,by decide +kernel,(fun j hj=>by
       have e:j=0:=by simpa using hj
       subst e;exact⟨_,rfl,by decide +kernel⟩),by decide +kernel⟩ rfl rfl rfl (a2C (a0k (a3I rfl) (by rfl) B.sorted boot_sorted (a0a (pv 0) a0b)))
      (fun s H fp=>a0E (i:=0) (show(["column","columns"]:List Str).Nodup by decide +kernel) rfl (Or.inl rfl)) (fun s H fp=>a1U)
      (fun s H fp=>a0D (a0a (pv 0) (a0a (a2k hu (pv 1) (pv 0) (fun _ _=>rfl)) a0b)))) a0b)))),?_⟩
  refine⟨a,_,hc,fun o=>?_⟩;have hfa:(upd H a (.frz o (.dK (kvC cols)))) a=some (.frz o (.dK (kvC cols))):=a0d;have back:∀H1:Hp,a0r H (upd H1 a (.dK (kvC cols)))\/¬a0r (upd H a (.frz o (.dK (kvC cols)))) H1:=fun H1=>by
   by_cases e:a0r (upd H a (.frz o (.dK (kvC cols)))) H1
   ·refine .inl fun b u hb=>?_
    by_cases eb:b=a
    ·subst eb
     rw[hc] at hb;rw[<-hb];exact a0d
    ·rw[a0g eb]
     exact e b u (by rw[a0g eb];exact hb)
   ·exact .inr e
  refine⟨_,rfl,a,o,_,rfl,hfa,a9Z (a:=a) (o:=o) (kvs:=kvC cols) (fun i σ H1=>a0r (upd H a (.frz o (.dK (kvC cols)))) H1/\∃u1 u2,σ=[some (.ref a),u1,u2]) ⟨a0r.refl _,_,_,rfl⟩ (fun i σ H1 _ p=>p.1 _ _ hfa) ?_ ?_⟩
  ·rintro i k v p σ H1 hk ⟨s1,u1,u2,rfl⟩ hp
   obtain⟨⟨z,v'⟩,hm,e⟩:=mM0.mp (gI0 hk);cases e;obtain⟨hn,d,hd,hkd,hnd⟩:=ok.2.2 _ hm;have h8:z.length<=8:=by
    unfold a0T at hn;exact(of_decide_eq_true (Bool.and_eq_true_iff.mp hn).1).2
   have T:=a0r.upd (o:=.tup [kV (.inr z),v']) hp;refine⟨p,_,rfl,SqT.of a0d,rfl,_,_,rfl,_,_,rfl,rfl,?_⟩;refine⟨_,rfl,_,_,rfl,Is.str,(fun z' e=>?_),(fun h=>absurd rfl h)⟩;cases e;refine⟨by show z.length<=sizeLine;rw[sizeLine_eq];omega,fun H5 s5=>⟨_,rfl,?_⟩⟩;rw[hn];refine a1Z ?_;have S5:=s1.trans (T.trans s5);refine⟨_,rfl,_,d,rfl,(Rep.beside (fun xs h=>by rw[hc] at h;cases h) hnd hd).same S5,fun H6 s6=>⟨_,rfl,?_⟩⟩;rw[hkd];refine a1Z ?_;exact⟨S5.trans s6,_,_,rfl⟩
  ·rintro σ H1 ⟨s1,u1,u2,rfl⟩
   refine⟨s1 _ _ hfa,?_⟩;have S1:a0r H (L2.upd H1 a (.dK (kvC cols))):=by
    rcases back H1 with h |h
    ·exact h
    ·exact absurd s1 h
   generalize L2.upd H1 a (.dK (kvC cols))=H2 at S1 ⊢;have hc2:=S1 _ _ hc;have hkm:(kvC cols).map (·.1)=(cols.map (·.1)).map Sum.inr:=by
    unfold kvC;rw[mC0,mC0]
    rfl
   refine⟨_,rfl,a,_,_,rfl,.inl hc2,hkm,(by rw[lM0];have:=ok.2.1;omega),fun l zs hl hpm hso=>?_⟩;have T3:=a0r.upd (o:=.lst (zs.map V.str)) hl;have S3:=S1.trans T3;refine⟨l,rfl,⟨_,SqL.of a0d⟩,fun D hD=>?_⟩;have hD0:H D=none:=by
    cases e:H D with
    |none=>rfl
    |some o=>rw[S3 _ _ e] at hD;cases hD
   have hlD:l≠D:=fun e=>by rw[<-e,a0d] at hD;cases hD
   have hzl:zs.length<=12:=by
    have:=hpm.length_eq
    rw[lM0] at this
    have:=ok.2.1
    omega
   refine a1Q zs.length (fun i ys σ' Hc=>(∃t,σ'=[t,some (.ref a)])/\a0r H Hc/\Hc l=some (.lst (zs.map V.str))/\∃ps:List Addr,ys=ps.map V.ref/\∀(j:Nat) (p:Addr) (z:Str),ps[j]? =some p->zs[j]? =some z->Hc p=some (.tup [.str z,vOf cols z])) (by rw[sizeLine_eq];omega) ⟨⟨none,rfl⟩,S3.trans (a0r.upd hD),(a0r.upd hD) _ _ a0d,[],rfl,fun j p z h=>nomatch h⟩ a0d ?_ ?_
   ·rintro i σ' Hc ys hi ⟨⟨t,rfl⟩,sm,hlc,ps,rfl,hps⟩ hyl hD'
    rw[lM0] at hyl;refine⟨⟨_,V.str zs[i],SqL.of hlc,by rw[gM0,gE0 hi];rfl⟩,?_⟩;rintro x H' ⟨rfl,hx'⟩;have ex:=hx' _ (SqL.of hlc);rw[gM0,gE0 hi] at ex;cases ex;have hzm:zs[i]∈cols.map (·.1):=hpm.mem_iff.mp (List.getElem_mem hi);refine⟨_,rfl,_,rfl,_,rfl,a,_,rfl,.inl ⟨_,.inr zs[i],.inl (sm _ _ hc),rfl,(a4q hzm).symm⟩,(by exact sl2),fun p hp=>?_⟩;have T:=a0r.upd (o:=.tup [.str zs[i],vOf cols zs[i]]) hp;have hpD:p≠D:=fun e=>by rw[e,hD'] at hp;cases hp
    refine⟨T _ _ hD',⟨_,rfl⟩,(sm.trans T).put hD0,by rw[a0g hlD];exact T _ _ hlc,ps++[p],by rw[mA0];rfl,fun j p' z' h1 h2=>?_⟩
    by_cases hj:j<ps.length
    ·rw[gL0 hj] at h1
     have hh:=hps j p' z' h1 h2;have hne:p'≠D:=fun e=>by rw[e,hD'] at hh;cases hh
     rw[a0g hne];exact T _ _ hh
    ·have hj':j=ps.length:=by
      have:=(gS0.mp h1).1
      rw[lA0] at this;simp at this
      omega
     subst hj';rw[gR0 (nR0 _),Nat.sub_self] at h1;cases h1;rw[hyl,gE0 hi] at h2;cases h2;rw[a0g hpD];exact a0d
   ·rintro σ' Hc ys ⟨_,sm,hlc,ps,rfl,hps⟩ hDn hyl
    rw[lM0] at hyl;refine⟨⟨_,SqL.of hlc,by rw[lM0];exact nR0 _⟩,?_⟩;refine⟨D,_,rfl,SqL.of hDn,fun t o2 ht ho2=>?_⟩;have T:=a0r.upd (o:=.frz o2 (.tup (ps.map V.ref))) ht;exact q t _ (sm.trans T) ⟨o2,ps,zs,hpm,hso,ho2,a0d,hyl,fun j p z h1 h2=>T _ _ (hps j p z h1 h2)⟩
structure Tb where
 name:Str
 sort:Str
 cols:List (Str×V)
def a2x (H:Hp)(e:Addr)(T:Tb):Prop:=∃ct,H e=some (.tup [.str T.name,.str T.sort,.ref ct])/\a1F H ct T.cols
def a1f (H:Hp)(f:Addr)(sz:Int)(Ts:List Tb):Prop:=∃(tt:Addr) (es:List Addr),H f=some (.tup [.int sz,.ref tt])/\H tt=some (.tup (es.map V.ref))/\es.length=Ts.length/\∀(j:Nat) (e:Addr) (T:Tb),es[j]? =some e->Ts[j]? =some T->a2x H e T
theorem a2x.same {H H':Hp}{e:Addr}{T:Tb}(h:a2x H e T)(s:a0r H H'):a2x H' e T:=by
 obtain⟨ct,h1,h2⟩:=h;exact⟨ct,s _ _ h1,h2.same s⟩
theorem a1f.same {H H':Hp}{f:Addr}{sz:Int}{Ts:List Tb}(h:a1f H f sz Ts)(s:a0r H H'):a1f H' f sz Ts:=by
 obtain⟨tt,es,h1,h2,h3,h4⟩:=h;exact⟨tt,es,s _ _ h1,s _ _ h2,h3,fun j e T a b=>(h4 j e T a b).same s⟩
def a5D:Sp:=fun vs H Q _=>∃(f:Addr) (sz:Int) (Ts:List Tb),vs=[.ref f]/\a1f H f sz Ts/\Ts.length<=8/\∀p H',H p=none->a0r H H'->H' p=some (.lst ((Ts.map (·.name)).map V.str))->Q (.ref p) H'
def a3n:Sp:=fun vs H Q _=>∃(f:Addr) (sz:Int) (T:Tb) (Ts:List Tb),vs=[.ref f]/\a1f H f sz (T::Ts)/\Q (.str T.name) H
def a4s:Sp:=fun vs H Q _=>∃(f:Addr) (sz:Int) (Ts:List Tb) (T:Tb),vs=[.ref f,.str T.name]/\a1f H f sz Ts/\(Ts.map (·.name)).Nodup/\T∈Ts/\∀e,a2x H e T->Q (.ref e) H
def a3o:Sp:=fun vs H Q _=>∃(f:Addr) (sz:Int) (Ts:List Tb) (T:Tb),vs=[.ref f,.str T.name]/\a1f H f sz Ts/\(Ts.map (·.name)).Nodup/\T∈Ts/\Q (.str T.sort) H
def a1G:Sp:=fun vs H Q _=>∃(f:Addr) (sz:Int) (Ts:List Tb) (T:Tb),vs=[.ref f,.str T.name]/\a1f H f sz Ts/\(Ts.map (·.name)).Nodup/\T∈Ts/\(T.cols.map (·.1)).Nodup/\T.cols.length<=12 ∧
 ∀(p:Addr) (H':Hp) (zs:List Str),H p=none->a0r H H'->zs.Perm (T.cols.map (·.1))->sortedS zs=true->H' p=some (.dK (zs.map fun z=>(.inr z,vOf T.cols z)))->Q (.ref p) H'
theorem a5t {f:Addr}{fd:FuncData}(F:Fun K "tables_of" "tables_of" (top 23) f fd):a0x P w K mg base CX0 1 f fd ["form"] a5D:=by
 have sc:a0o ["form"] ["form"] (a0f (top 23)):=.k (by decide +kernel);refine F.ok sc (fun vs H Q E h=>?_) (fun cdv A outer s H vs Q E hr h=>?_)
 ·obtain⟨f,sz,Ts,rfl,_⟩:=h
  rfl
 ·obtain⟨f,sz,Ts,rfl,⟨tt,es,h1,h2,h3,h4⟩,h8,q⟩:=h
  refine⟨_,a0h (a0z (a1T (osc:=a0f (top 23)) (N0:=["form"]) (xs:=["entry"]) (fr:=[]) ⟨rfl,by decide +kernel,by decide +kernel,by decide +kernel,by decide,by decide +kernel⟩ rfl rfl rfl (a3p (a0s a1n (pv 0) a0e (fun _ _=>rfl)))
    (fun s H fp=>a0E (i:=0) (show(["entry"]:List Str).Nodup by decide +kernel) rfl (Or.inl rfl)) (fun s H fp=>a1U) (fun s H fp=>a0s (r:=b3P K) a1n (pv 0) a0e (fun _ _=>rfl)))),?_⟩
  refine⟨_,rfl,_,_,1,_,rfl,rfl,SqT.of h1,rfl,tt,rfl,⟨_,SqT.of h2⟩,fun D hD=>?_⟩;refine a3h Ts.length (fun i=>.str ((Ts.map (·.name)).getD i "")) (fun i σ' Hc=>(∃t,σ'=[t])/\a0r H Hc) (by rw[sizeLine_eq];omega) ⟨⟨none,rfl⟩,a0r.upd hD⟩ a0d ?_ ?_
  ·rintro i σ' Hc hi ⟨⟨t,rfl⟩,sm⟩ hD'
   have hie:i<es.length:=by omega
   refine⟨⟨_,V.ref es[i],SqT.of (sm _ _ h2),by rw[gM0,gE0 hie];rfl⟩,?_⟩;rintro x H' ⟨rfl,hx'⟩;have ex:=hx' _ (SqT.of (sm _ _ h2));rw[gM0,gE0 hie] at ex;cases ex;obtain⟨ct,g1,_⟩:=h4 i es[i] Ts[i] (gE0 hie) (gE0 hi);refine⟨_,rfl,_,_,0,_,rfl,rfl,SqT.of (sm _ _ g1),rfl,?_,hD',⟨_,rfl⟩,sm.put hD⟩;rw[List.getD_eq_getElem?_getD,gM0,gE0 hi]
   rfl
  ·rintro σ' Hc ⟨_,sm⟩ hDn
   refine⟨⟨_,SqT.of (sm _ _ h2),by rw[lM0];omega⟩,q D Hc hD sm ?_⟩
   have:=a1J (Ts.map (·.name)) ("":Str) (fun z=>V.str z)
   rw[lM0] at this;rw[hDn,this]
theorem a5k {f:Addr}{fd:FuncData}(F:Fun K "table_in" "table_in" (top 27) f fd):a0x P w K mg base CX0 1 f fd ["form","table"] a4s:=by
 have sc:a0o ["form","table","entry"] ["form","table"] (a0f (top 27)):=.k (by decide +kernel);refine F.ok sc (fun vs H Q E h=>?_) (fun cdv A outer s H vs Q E hr h=>?_)
 ·obtain⟨f,sz,Ts,T,rfl,_⟩:=h
  rfl
 ·obtain⟨f,sz,Ts,T,rfl,⟨tt,es,h1,h2,h3,h4⟩,nd,hT,q⟩:=h
  refine⟨_,a0c (a2E PassesOwn.never rfl (a3p (a0s a1n (pv 0) a0e (fun _ _=>rfl))) (a0E (i:=2) sc.nd rfl (Or.inl rfl))
    (a0h (a0C (a0t a1k (a0s a1n (pv 2) a0e (fun _ _=>rfl)) (pv 1) (a0u _)) (a0h (a0z (pv 2))) a0l))) a0m,?_⟩
  refine⟨_,rfl,_,_,1,_,rfl,rfl,SqT.of h1,rfl,tt,rfl,⟨_,SqT.of h2⟩,a9g (K:=K) (a:=tt) (xs:=es.map V.ref) (fun i σ H'=>H'=H/\(∃u,σ=[some (.ref f),some (.str T.name),u])/\∀j T',j<i->Ts[j]? =some T'->T'.name≠T.name) ⟨rfl,⟨_,rfl⟩,fun j _ hj=>absurd hj (Nat.not_lt_zero _)⟩ (fun i σ H' _ p=>by rw[p.1];exact SqT.of h2) ?_ ?_⟩
  ·rintro i x σ H' hx ⟨rfl,⟨u,rfl⟩,hn⟩
   have hie:i<es.length:=by
    have:=(gS0.mp hx).1
    rwa [lM0] at this
   have hit:i<Ts.length:=by omega
   rw[gM0,gE0 hie] at hx;cases hx;have ent:=h4 i es[i] Ts[i] (gE0 hie) (gE0 hit);obtain⟨ct,g1,g2⟩:=id ent;refine⟨_,rfl,_,_,0,_,rfl,rfl,SqT.of g1,rfl,_,rfl,rfl,_,rfl,?_⟩;refine a8I (fun hc=>?_) (fun hc=>?_)
   ·have en:Ts[i].name=T.name:=by
     have:=of_decide_eq_true hc
     injection this
    have eT:Ts[i]=T:=by
     obtain⟨k,hk,ek⟩:=List.mem_iff_getElem.mp hT
     have:i=k:=by
      refine(List.getElem_inj (h₀:=by rw[lM0];exact hit) (h₁:=by rw[lM0];exact hk) nd).mp ?_;rw[List.getElem_map,List.getElem_map,ek,en]
     subst this;exact ek
    rw[eT] at ent;exact⟨_,rfl,q _ ent⟩
   ·refine⟨rfl,⟨_,rfl⟩,fun j T' hj hT'=>?_⟩
    by_cases hji:j<i
    ·exact hn j T' hji hT'
    ·have:j=i:=by omega
     subst this;rw[gE0 hit] at hT';cases hT';exact fun e=>hc (by rw[e];exact dT0 rfl)
  ·rintro σ H' ⟨rfl,⟨u,rfl⟩,hn⟩
   obtain⟨k,hk,ek⟩:=List.mem_iff_getElem.mp hT;exact absurd rfl (hn k T (by rw[lM0];omega) (by rw[gE0 hk,ek]))
theorem a9w {f fT:Addr}{fd fdT:FuncData}(F:Fun K "sort_of" "sort_of" (top 25) f fd)(DT:Df K mg "table_in" (top 27) fT fdT):a0x P w K mg base CX0 2 f fd ["form","table"] a3o:=by
 have sc:a0o ["form","table"] ["form","table"] (a0f (top 25)):=.k (by decide +kernel);have GT:a0x P w K mg base CX0 1 fT fdT ["form","table"] a4s:=a5k DT.fn;have bT:=DT.fn.b2 "form" "table" (by intros;rfl);refine F.ok sc (fun vs H Q E h=>?_) (fun cdv A outer s H vs Q E hr h=>?_)
 ·obtain⟨f,sz,Ts,T,rfl,_⟩:=h
  rfl
 ·obtain⟨f,sz,Ts,T,rfl,hf,nd,hT,q⟩:=h
  refine⟨_,a0h (a0z (a0s a1n (a0i GT hr (by rfl) DT.mg DT.fn.kp bT .nil a0q (a0a (pv 0) (a0a (pv 1) a0b))) a0e (fun _ _=>rfl))),?_⟩;refine⟨_,rfl,_,rfl,f,sz,Ts,T,rfl,hf,nd,hT,fun e he=>?_⟩;obtain⟨ct,g1,_⟩:=he;exact⟨_,_,1,_,rfl,rfl,SqT.of g1,rfl,q⟩
theorem a3Y {f fT:Addr}{fd fdT:FuncData}(F:Fun K "columns_of" "columns_of" (top 26) f fd)(B:Bl mg)(DT:Df K mg "table_in" (top 27) fT fdT):a0x P w K mg base CX0 2 f fd ["form","table"] a1G:=by
 have sc:a0o ["form","table"] ["form","table"] (a0f (top 26)):=.k (by decide +kernel);have GT:a0x P w K mg base CX0 1 fT fdT ["form","table"] a4s:=a5k DT.fn;have bT:=DT.fn.b2 "form" "table" (by intros;rfl);refine F.ok sc (fun vs H Q E h=>?_) (fun cdv A outer s H vs Q E hr h=>?_)
 ·obtain⟨f,sz,Ts,T,rfl,_⟩:=h
  rfl
 ·obtain⟨f,sz,Ts,T,rfl,hf,nd,hT,ndc,c12,q⟩:=h
  refine⟨_,a0h (a0z (a0V (a4E rfl) (by rfl) B.dict boot_dict (a0a (a0s a1n (a0i GT hr (by rfl) DT.mg DT.fn.kp bT .nil a0q (a0a (pv 0) (a0a (pv 1) a0b))) a0e (fun _ _=>rfl)) a0b))),?_⟩;refine⟨_,rfl,_,rfl,f,sz,Ts,T,rfl,hf,nd,hT,fun e he=>?_⟩;obtain⟨ct,g1,o,ps,zs,hpm,hso,ho,hct,hpl,hpz⟩:=he;have hzl:zs.length<=12:=by
   have:=hpm.length_eq
   rw[lM0] at this
   omega
  refine⟨_,_,2,_,rfl,rfl,SqT.of g1,rfl,ct,o,_,zs.map (fun z=>(.inr z,vOf T.cols z)),rfl,hct,ho,(by rw[lM0];omega),(by rw[lM0,lM0];omega),(fun j k v hj=>?_),?_,fun p hp=>q p _ zs hp (a0r.upd hp) hpm hso a0d⟩
  ·have hjz:j<zs.length:=by
    have:=(gS0.mp hj).1
    rwa [lM0] at this
   have hjp:j<ps.length:=by omega
   rw[gM0,gE0 hjz] at hj;cases hj;exact⟨ps[j],by rw[gM0,gE0 hjp];rfl,SqT.of (hpz j ps[j] zs[j] (gE0 hjp) (gE0 hjz))⟩
  ·rw[mC0]
   have e:((fun x:Key×V=>x.1)∘fun z=>((Sum.inr z:Key),vOf T.cols z))=fun z=>(Sum.inr z:Key):=rfl;rw[e];exact List.Pairwise.map _ (fun a b hab h=>hab (by injection h)) (hpm.nodup_iff.mpr ndc)
end
end My
namespace L2
open PySem PySem.Spec PyProof.Rows
def b2k (tabs:List Addr)(H:Hp):Prop:=(∀b,H b=none\/(∃o xs,H b=some (.frz o (.lst xs)))\/(b∈tabs/\H b=some (.tbl #[])))/\∀b∈tabs,H b=some (.tbl #[])
def a5W (h:Heap)(mg:Str->Option Value):Prop:=∃bm ob,mg "__builtins__"=some (.ref bm)/\bm≠builtinsNs/\h.get? bm=some ob/\ob.cls=.type "module"/\ob.dict=some builtinsNs/\ob.data=.plain
theorem a9m {P:Program}{w:World}{K:Fg0}{mg mb:Str->Option Value}{CX:CXT}{k:Nat}{fa a:Addr}{fd:FuncData}{x:Str}{sp:Sp}{s₁:Shared}{vs:List Value}{ns:List Int}{tabs:List Addr}
  (KX:K.In s₁.heap) (hns:s₁.heap.Ns mainGlobals mg) (hb:s₁.heap.Ns builtinsNs mb) (hbb:∀x:Str,x≠"__name__"->mb x=bootBuiltins x) (hlim:s₁.heap.NoLimit) (hg:s₁.gens=#[])
  (ha:s₁.heap.get? a=some { cls:=.type "list",data:=.seq vs.toArray }) (hi:IntsAre vs ns) (hl:ns.length<=sizeLine) (hr:a1g k callerA)
  (hT:∀b∈tabs,(∃c,s₁.heap.TableAt c b #[])/\K.lookup b=none)
  (hbm:a5W s₁.heap mg)
  (F:∀base:Heap,K.In base->base.Ns mainGlobals mg->a5W base mg->a0x P w K mg base CX k fa fd [x] sp) (hbind:∀(s:Shared) (u:Value),BindsTo s fd ⟨[u],[]⟩ [(x,u)])
  (hsp:∀H:Hp,b2k tabs H->SqL K H a (ns.map V.int)->sp [.ref a] H (fun v _=>v=.bl true) fun _ _ _=>False)
  (hCX:∀H e s',CX [] H s₁ (fun _ _ _=>False) e s'->False) :
  codeAny (model P w) callerA (.call (.ref fa) ⟨[.ref a],[]⟩) (fun r s'=>r=.ok (.ret (.bool true))/\OldK s₁.heap s'.heap/\s'.os=s₁.os/\AllBare s'.gens) s₁:=by
 have rv:=a4i hi;have lenV:=hi.length;have tabG:∀b∈tabs,s₁.heap.get? b=some (PySem.W.tabObj #[]):=fun b hb=>(hT b hb).1.elim fun c h=>h.2;have core:∀H:Hp,b2k tabs H->SqL K H a (ns.map V.int)->HOk P w H s₁.heap->(∀b,H b≠none->b=a\/b∈tabs)->(H a≠none->K.lookup a=none) →
   codeAny (model P w) callerA (.call (.ref fa) ⟨[.ref a],[]⟩) (fun r s'=>r=.ok (.ret (.bool true))/\OldK s₁.heap s'.heap/\s'.os=s₁.os/\AllBare s'.gens) s₁:=by
  intro H hO hS hok hA hK;have base_of:∀{b:Addr} {o:Obj},s₁.heap.get? b=some o->H b=none->(a6E s₁.heap H).get? b=some o:=fun e n=>a7P e n;have noA:∀{b:Addr} {o:Obj} {es:Array DictEntry} {ep:Nat},s₁.heap.get? b=some o->o.data=.dict es ep->H b=none:=fun {b o es ep} e d=>by
   cases q:H b with
   |none=>rfl
   |some u=>
    rcases hA b (by rw[q];simp) with e' |e'
    ·subst e'
     rw[ha] at e;cases e;have d':Data.seq vs.toArray _=Data.dict es ep:=d;cases d'
    ·rw[tabG b e'] at e;cases e
     have d':Data.fields #[]=Data.dict es ep:=d;cases d'
  have nsK:∀{b:Addr} {m:Str->Option Value},s₁.heap.Ns b m->(a6E s₁.heap H).Ns b m:=fun {b m} ⟨o,es,ep,e,d,r⟩=>⟨o,es,ep,base_of e (noA e d),d,r⟩;have hKb:K.In (a6E s₁.heap H):=fun b o e=>base_of (KX b o e) (by
   cases q:H b with
   |none=>rfl
   |some u=>
    rcases hA b (by rw[q];simp) with e' |e'
    ·subst e'
     rw[hK (by rw[q];simp)] at e;cases e
    ·rw[(hT b e').2] at e;cases e)
  have hM:Mod K mg (a6E s₁.heap H):=⟨hKb,nsK hns,⟨mb,nsK hb,hbb⟩,let ⟨mc,h1,h2⟩:=hlim;⟨mc,nsK h1,h2⟩⟩;have e0:a8w P w K mg (a6E s₁.heap H) callerA [] s₁ H:=⟨rfl,hM,fun b o e=>a9c e,Nat.le_of_eq (a5Y _ _),trivial,fun b hb=>absurd (show b∈([]:List Addr) from hb) (by simp),hok,.of_eq hg⟩;have hB:a5W (a6E s₁.heap H) mg:=by
   obtain⟨bm,ob,b1,b2,b3,b4,b5,b6⟩:=hbm;refine⟨bm,ob,b1,b2,base_of b3 ?_,b4,b5,b6⟩;cases q:H bm with
   |none=>rfl
   |some u=>
    rcases hA bm (by rw[q];simp) with e' |e'
    ·rw[e',ha] at b3
     cases b3;cases b6
    ·rw[tabG bm e'] at b3
     cases b3;cases b6
  refine codeAny_mono ((F _ hKb (nsK hns) hB).run callerA [] s₁ H ⟨[.ref a],[]⟩ [.ref a] [.ref a] _ _ hr e0 (hbind s₁ (.ref a)) (.cons rfl .nil) (hsp H hO hS)) fun r s' h=>?_;cases r with
  |error e=>exact(hCX H e s' h).elim
  |ok fl=>
   cases fl with
   |next=>exact False.elim h
   |brk=>exact False.elim h
   |cont=>exact False.elim h
   |ret u=>
    obtain⟨v,H',os,bare,un,hok',r',q⟩:=h;have q':v=.bl true:=q;subst q';obtain rfl:u=Value.bool true:=r';refine⟨rfl,⟨fun b o e=>?_,fun b o e=>un.there b o e (by simp)⟩,os,bare⟩;cases q:H b with
    |none=>exact .inl (un.keep b o e q (by intro z;exact absurd (show b∈([]:List Addr) from z) (by simp)) (by simp))
    |some u=>
     rcases hO.1 b with z |⟨ob,xs,z⟩ |⟨hb,z⟩
     ·rw[q] at z;cases z
     ·have z2:=un.frzs b ob _ z
      obtain⟨e1,_⟩:=hok b _ z;obtain⟨e2,_⟩:=hok' b _ z2;rw[e] at e1;cases e1;exact .inl e2
     ·obtain⟨more,z2⟩:=un.tbls b _ z
      have e2:=hok' b _ z2;obtain⟨c,ht⟩:=(hT b hb).1;rw[tabG b hb] at e;cases e;exact .inr (.inl ⟨ht.isCodeTable,rfl,#[],more,rfl,e2⟩)
 have na:a∉tabs:=fun z=>by
  have e:=tabG a z;rw[ha] at e;have e':=congrArg Obj.data (Option.some.inj e);have e2:Data.seq vs.toArray 0=Data.fields #[]:=e';cases e2
 cases hk:K.lookup a with
 |some o=>
  have e:=KX a o hk;rw[ha] at e;cases e;refine core (fun b=>if b∈tabs then some (.tbl #[]) else none) ⟨fun b=>?_,fun b hb=>if_pos hb⟩ (.inr ⟨_,vs.toArray,_,hk,rfl,rfl,rfl,by rw[List.size_toArray,lenV];exact hl,by simpa using rv⟩) (fun b u z=>?_) (fun b z=>?_) (fun z=>absurd (if_neg na) z)
  ·by_cases hb:b∈tabs
   ·exact .inr (.inr ⟨hb,if_pos hb⟩)
   ·exact .inl (if_neg hb)
  ·by_cases hb:b∈tabs
   ·have z':=(if_pos hb).symm.trans z
    cases z';exact tabG b hb
   ·have z':=(if_neg hb).symm.trans z
    cases z'
  ·by_cases hb:b∈tabs
   ·exact .inr hb
   ·exact absurd (if_neg hb) z
 |none=>
  refine core (fun b=>if b∈tabs then some (.tbl #[]) else if b=a then some (.frz { cls:=.type "list",data:=.seq vs.toArray } (.lst (ns.map V.int))) else none) ⟨fun b=>?_,fun b hb=>if_pos hb⟩ (.inl (.inr ⟨{ cls:=.type "list",data:=.seq vs.toArray },by
   show(if a∈tabs then _ else if a=a then _ else _)=_
   rw[if_neg na,if_pos rfl]⟩)) (fun b u z=>?_) (fun b z=>?_) (fun _=>hk)
  ·by_cases hb:b∈tabs
   ·exact .inr (.inr ⟨hb,if_pos hb⟩)
   ·by_cases hb2:b=a
    ·refine .inr (.inl ⟨{ cls:=.type "list",data:=.seq vs.toArray },ns.map V.int,?_⟩)
     show(if b∈tabs then _ else if b=a then _ else _)=_
     rw[if_neg hb,if_pos hb2]
    ·refine .inl ?_
     show(if b∈tabs then _ else if b=a then _ else _)=_
     rw[if_neg hb,if_neg hb2]
  ·have z0:(if b∈tabs then some (HO.tbl #[]) else if b=a then some (.frz { cls:=.type "list",data:=.seq vs.toArray } (.lst (ns.map V.int))) else none)=some u:=z
   by_cases hb:b∈tabs
   ·rw[if_pos hb] at z0
    cases z0;exact tabG b hb
   ·rw[if_neg hb] at z0
    by_cases hb2:b=a
    ·rw[if_pos hb2] at z0
     cases z0;subst hb2;exact⟨ha,by rw[lM0];exact hl,vs,_,rv,ha⟩
    ·rw[if_neg hb2] at z0
     cases z0
  ·by_cases hb:b∈tabs
   ·exact .inr hb
   ·by_cases hb2:b=a
    ·exact .inl hb2
    ·refine absurd ?_ z
     show(if b∈tabs then _ else if b=a then _ else _)=_
     rw[if_neg hb,if_neg hb2]
theorem b3X {K:Fg0}{h:Heap}{c P:Addr}(X:K.In h)(g:h.get? P=some (PySem.W.tabObj #[]))(e:PySem.W.codeHdIn K c P=true)(n:K.lookup P=none):(∃c,h.TableAt c P #[])/\K.lookup P=none:=
 ⟨⟨c,(PySem.W.codeHd_of_K X e).tab g⟩,n⟩
theorem b0Y {l:PySem.W.OpenLaw}{n k:Nat}{q:Program}{loose:List Str}{XP:(Str->Option Value)->Heap->Prop}{YP:World->Heap->Prop}{d:DefRec}{K:Params->Fg0}{CX:World->CXT}{sp:World->Sp}{x:Str}{tx:World->List Addr}
  (hn:l.most=some n) (hn2:n<=sizeLine) (hdf:d.params.defaults=[]) (hr:a1g k callerA)
  (hY:∀(w:World) (h:Heap),YP w h->(K w.params).In h)
  (hT:∀(w:World) (h:Heap),YP w h->∀b∈tx w,(∃c,h.TableAt c b #[])/\(K w.params).lookup b=none)
  (F:∀(w:World) (mg:Str->Option Value) (fa:Addr) (h:Heap),(K w.params).In h->h.Ns mainGlobals mg->mg d.name=some (.ref fa) →
   ∃fd:FuncData,(∀(s:Shared) (u:Value),BindsTo s fd ⟨[u],[]⟩ [(x,u)]) ∧
    ∀base:Heap,(K w.params).In base->base.Ns mainGlobals mg->a5W base mg->a0x l.prog w (K w.params) mg base (CX w) k fa fd [x] (sp w))
  (hsp:∀(w:World) (H:Hp) (a:Addr) (ns:List Int),ns.length<=n->b2k (tx w) H->SqL (K w.params) H a (ns.map V.int)->sp w [.ref a] H (fun v _=>v=.bl true) fun _ _ _=>False)
  (hCX:∀(w:World) (H:Hp) (s:Shared) (e:Value) (s':Shared),CX w [] H s (fun _ _ _=>False) e s'->False) :
  PySem.W.WalkO q loose XP YP l.row.toRowW d [] (fun f vs=>PySem.call f vs):=by
 refine Att.a4a hn hdf fun w s₀ s₁ mg mb fa o pm cd doc a vs ns G Y ho hd hcd hmg hobj hints hlen hg=>?_;have KX:=hY w _ Y;obtain⟨fd,hb,hF⟩:=F w mg fa _ KX G.T.g hmg;exact a9m KX G.T.g G.T.b G.T.builtins G.T.nolimit hg hobj hints (Nat.le_trans hlen hn2) hr (hT w _ Y) G.T.bmain hF hb (fun H hO hS=>hsp w H a ns hlen hO hS) fun H e s'=>hCX w H s₁ e s'
def a4z (c:Addr)(q:Str)(h:Heap):Prop:=h.CodeRec (.ref c) q
def a9R (f:Addr)(q:Str)(params:Arguments)(body:Expr)(scope:Scope)(pm:Value)(c':Addr)(h:Heap):Prop:=∃ctv,h.get? f=some (PySem.W.kla_obj "<lambda>" q params body scope [] pm c' ctv)
section
variable {P:Program}{w:World}{H:Hp}{h:Heap}{f c:Addr}{q:Str}{params:Arguments}{body:Expr}{scope:Scope}{pm:Value}
theorem b0T (e:h.CodeRec (.ref c) q):a1h P w H h c (.ext (a4z c q)):=by
 refine⟨e,?_,fun h1 h2 x k=>?_⟩
 ·obtain⟨c',o,vs,t,e1,e2,_⟩:=e
  cases e1;exact⟨o,e2⟩
 ·obtain⟨c',o,vs,t,e1,e2,e3⟩:=x
  cases e1;exact⟨c,o,vs,t,rfl,k o e2,e3⟩
theorem a9Y {ctv:Value}(e:h.get? f=some (PySem.W.kla_obj "<lambda>" q params body scope [] pm c ctv)):a1h P w H h f (.ext (a9R f q params body scope pm c)):=⟨⟨ctv,e⟩,⟨_,e⟩,fun _ _ ⟨ctv,e⟩ k=>⟨ctv,k _ e⟩⟩
end
def b6B (P:Addr)(pos:Pos)(q:Str)(params:Arguments)(body:Expr)(scope:Scope)(pm:Value):TE:=fun σ H Q=>∃ps,H P=some (.tbl ps)/\TriplesOk ps.toList ∧
 ((codeAmong pos ps.toList=none/\∀c' f,H c'=none->H f=none->c'≠f->c'≠P->f≠P->Q (.ref f) (upd (upd (upd H P (.tbl (ps++#[rawInt pos.line,rawInt pos.col,.ref c']))) c' (.ext (a4z c' q))) f (.ext (a9R f q params body scope pm c')))) ∨
  ∃c',codeAmong pos ps.toList=some (.ref c')/\∀f,H f=none->Q (.ref f) (upd H f (.ext (a9R f q params body scope pm c'))))
section
variable {X:Cx}{params:Arguments}{body:Expr}{scope:Scope}{pos:Pos}{c P:Addr}
theorem b4L (hcode:X.env.code=.ref c)(hC:PySem.W.codeHdIn X.K c P=true)(hB:a5W X.base X.mg)(hcl:closureFor scope X.env=pure []:=by rfl)(hdef:defaultsOf params X.env=([],[]):=by rfl) :
  PE X (.Lambda params body scope pos) (b6B P pos (X.env.qual++"<lambda>") params body scope ((X.mg "__name__").getD .none)):=by
 intro pins s σ H Q I h;obtain⟨ps,hp,tr,h⟩:=h;have hg:s.heap.Ns mainGlobals X.mg:=I.mod.glob.keeps I.bk;have C:=PySem.W.codeHd_of_K I.kIn hC;have hP:s.heap.get? P=some (PySem.W.tabObj ps):=I.hok P _ hp;have hgP:mainGlobals≠P:=fun z=>by
  obtain⟨o,es,ep,e,d,_⟩:=id hg;rw[z,hP] at e;cases e;cases d
 have hb:s.heap.BuiltinsAt X.mg P:=by
  obtain⟨bm,ob,b1,b2,b3,b4,b5,b6⟩:=hB;have b3':=I.bk _ _ b3;refine⟨bm,ob,b1,b2,fun z=>?_,fun z=>?_,b3',b4,b5,b6⟩
  ·obtain⟨o,es,ep,e,d,_⟩:=id hg
   rw[z,e] at b3';cases b3';rw[d] at b6;cases b6
  ·rw[z,hP] at b3'
   cases b3';cases b6
 refine PySem.W.kla_eval hdef ?_;rcases h with ⟨hnf,q⟩ |⟨c',hf,q⟩
 ·refine PySem.W.kla_makeFunction hcl I.ok.glob hg hcode C hP tr hnf hgP hb fun c' ctv h' tk hx hge hlt hrec htb=>?_
  have hcN:H c'=none:=I.hok.fresh hge;have hfN:H h'.objs.size=none:=I.hok.fresh (Nat.le_trans hge (Nat.le_of_lt hlt));have cf:c'≠h'.objs.size:=nL0 hlt;have cP:c'≠P:=fun z=>by rw[z,hp] at hcN;cases hcN
  have fP:h'.objs.size≠P:=fun z=>by rw[z,hp] at hfN;cases hfN
  have keep:∀b o,b≠P->s.heap.get? b=some o->(h'.push (PySem.W.kla_obj "<lambda>" (X.env.qual++"<lambda>") params body scope [] ((X.mg "__name__").getD .none) c' ctv)).get? b=some o:=fun b o hb e=>hP0 _ (hx b o hb e);have nP:∀b,H b=none->b≠P:=fun b n z=>by rw[z,hp] at n;cases n
  have old:∀b u,H b=some u->b≠P->upd (upd (upd H P (.tbl (ps++#[rawInt pos.line,rawInt pos.col,.ref c']))) c' (.ext (a4z c' (X.env.qual++"<lambda>")))) h'.objs.size (.ext (a9R h'.objs.size (X.env.qual++"<lambda>") params body scope ((X.mg "__name__").getD .none) c')) b=some u:=fun b u e hb=>by
   rw[a0g (fun z=>by rw[z,hfN] at e;cases e),a0g (fun z=>by rw[z,hcN] at e;cases e),a0g hb];exact e
  have atP:upd (upd (upd H P (.tbl (ps++#[rawInt pos.line,rawInt pos.col,.ref c']))) c' (.ext (a4z c' (X.env.qual++"<lambda>")))) h'.objs.size (.ext (a9R h'.objs.size (X.env.qual++"<lambda>") params body scope ((X.mg "__name__").getD .none) c')) P=some (.tbl (ps++#[rawInt pos.line,rawInt pos.col,.ref c'])):=by
   rw[a0g (Ne.symm fP),a0g (Ne.symm cP),a0d]
  have noT:∀b u,H b=some u->(∀zs,u≠.tbl zs)->b≠P:=fun b u e hu z=>by
   rw[z,hp] at e;cases e;exact hu ps rfl
  refine⟨.ref h'.objs.size,_,I.un (t':=tk) ⟨fun b o e n _ _=>keep b o (nP b n) e,fun b o e n _ _=>⟨o.slots,keep b o (nP b n) e⟩,fun b o e n _=>?_,fun b o e _=>?_,fun b xs e=>old b _ e (noT b _ e fun zs z=>by cases z),fun b o u e=>old b _ e (noT b _ e fun zs z=>by cases z),fun b zs e=>?_⟩ fun b u e=>?_,rfl,q c' h'.objs.size hcN hfN cf cP fP⟩
  ·have hlt':b<s.heap.objs.size:=hL0 e
   rw[a0g (nL0 (Nat.lt_of_lt_of_le hlt' (Nat.le_trans hge (Nat.le_of_lt hlt)))),a0g (nL0 (Nat.lt_of_lt_of_le hlt' hge)),a0g (nP b n)];exact n
  ·by_cases hbP:b=P
   ·rw[hbP]
    exact⟨_,hP0 _ htb⟩
   ·exact⟨o,keep b o hbP e⟩
  ·by_cases hbP:b=P
   ·subst hbP
    rw[hp] at e;cases e;exact⟨_,atP⟩
   ·exact⟨#[],by rw[old b _ e hbP];simp⟩
  ·by_cases hbf:b=h'.objs.size
   ·subst hbf
    rw[a0d] at e;cases e;exact a9Y (hS0 _ rfl)
   ·rw[a0g hbf] at e
    by_cases hbc:b=c'
    ·subst hbc
     rw[a0d] at e;cases e;exact b0T (hrec.push _)
    ·rw[a0g hbc] at e
     by_cases hbP:b=P
     ·subst hbP
      rw[a0d] at e;cases e;exact hP0 _ htb
     ·rw[a0g hbP] at e
      refine(I.hok b u e).stay (fun d v hd r=>keep d v ?_ r) (fun d r=>old d _ r (noT d _ r fun zs z=>by cases z)) fun d xs r=>old d _ r (noT d _ r fun zs z=>by cases z);rcases hd with rfl |hd
      ·exact hbP
      ·exact noT d _ hd fun zs z=>by cases z
 ·refine PySem.W.kla_makeFunctionHit hcl I.ok.glob hg hcode C hP tr hf hb fun ctv h' tk hk hsz=>?_
  have hfN:H h'.objs.size=none:=I.hok.fresh hsz;exact⟨.ref h'.objs.size,_,I.laid (a:=h'.objs.size) (t':=tk) (fun b o e=>hP0 _ (hk b o e)) hsz (a9Y (hS0 _ rfl)),rfl,q _ hfN⟩
end
section
variable {X:Cx}{pins:List (Addr×Obj)}{σ:St}{H:Hp}{s:Shared}{Q:VK}{f c':Addr}{q x:Str}{params:Arguments}{body:Expr}{scope:Scope}{pm:Value}{u:Value}{v:V}{k:Nat}
theorem b1h {t:TE}{A:Around}{outer:List Env}(e0:a8w X.prog X.w X.K X.mg X.base A outer s H)(hr:a1g (k+1) A)(hf:H f=some (.ext (a9R f q params body scope pm c')))(hc:H c'=some (.ext (a4z c' q)))(S:a0o [x] [x] scope)
  (hb:∀(ctv u:Value),bindArgs (PySem.W.kla_fn "<lambda>" q params body scope [] pm (.ref c') ctv) ⟨[u],[]⟩=pure [(x,u)])
  (hbody:PE (a7U CX0 X.prog X.w X.K X.mg X.base [x] q scope f (.ref c') A outer s H E0).nox body t) (r:a1e v u) (ht:t [some v] H Q) :
  codeAny (model X.prog X.w) A (.call (.ref f) ⟨[u],[]⟩) (CR CX0 outer X.prog X.w H s Q E0) s:=by
 obtain⟨⟨ctv,ho⟩,_⟩:=e0.hok f _ hf;obtain⟨hcd,_⟩:=e0.hok c' _ hc;have lim:s.heap.NoLimit:=e0.mod.nolimit.keeps fun b o e=>(e0.bs b o e).1;have hkind:∀y∈([x].zip [u]),scope.names.lookup y.1=some .local\/(scope.names.lookup y.1=some .cell/\((cellsFrom (s.heap.objs.size+1) scope.names []).lookup y.1).isSome=true):=fun⟨n,v⟩ hy=>by
  rcases S.par n (List.of_mem_zip hy).1 with q |q
  ·exact .inl q
  ·exact .inr ⟨q,PySem.W.cellsFrom_some _ _ _ (.inl q)⟩
 refine PySem.W.kla_callFunE hr.depth ho rfl S.co S.gen rfl hcd ?_;rw[hb];refine wP0 (wpAny_newFunctionEnv_cells (binds:=[x].zip [u]) S.kind hkind fun env he s1 z=>?_);subst he;refine⟨lim.keeps z.toInCall.keep,PySem.W.kla_codeExpr ?_⟩;have I:Inv (a7U CX0 X.prog X.w X.K X.mg X.base [x] q scope f (.ref c') A outer s H E0) [] (a3w [x] [v]) H s1:=a5C S hr.hd e0 rfl (.cons r .nil) z;refine wpAny_mono (hbody.nox [] s1 (a3w [x] [v]) H Q I ht) (fun u' s' hs=>?_) fun e s' hs=>hs;obtain⟨v',H',J,rv,q'⟩:=hs;exact⟨v',H',J.os,J.bare,J.base,J.hok,rv,q'⟩
end
end L2
namespace L2
open PySem PySem.Spec PyProof.Rows PySem.W
theorem b6t {prog:Program}{w:World}{A:Around}{ks:List Value}{zs:List Str}{s1:Shared}(t:StrsAre ks zs):Srt.Cmp zs.length (Srt.rz zs) (kas_ask prog w A oneType' ks) (fun s'=>s'=s1):=by
 intro i j C s' hi hj hij hs' hC;subst hs';have hl:ks.length=zs.length:=t.length;obtain⟨a,ta,e1,e1'⟩:=a3j (j:=i) t (by omega);obtain⟨b,tb,e2,e2'⟩:=a3j (j:=j) t (by omega);unfold kas_ask;have g1:ks.getD i Value.none=.str a ta:=by rw[List.getD_eq_getElem?_getD,gE0 (by omega),Option.getD_some,e1]
 have g2:ks.getD j Value.none=.str b tb:=by rw[List.getD_eq_getElem?_getD,gE0 (by omega),Option.getD_some,e2]
 rw[g1,g2];refine kas_lt_str ?_;have er:Srt.rz zs i j=decide (a.cps.toList<b.cps.toList):=by
  unfold Srt.rz;rw[List.getD_eq_getElem?_getD,List.getD_eq_getElem?_getD,e1',e2',Option.getD_some,Option.getD_some]
 rw[<-er];exact hC s' rfl
theorem a5F {z:Str}{t:Tok}:∀{vs:List Value} {zs:List Str},StrsAre vs zs->StrsAre (vs++[.str z t]) (zs++[z])
 |_,_,.nil=>.cons z t .nil
 |_,_,.cons y u r=>.cons y u (a5F r)
section
variable {X:Cx}{pins:List (Addr×Obj)}{σ:St}{H:Hp}{s:Shared}
theorem Inv.moved {h':Heap}{it:Addr}{t':Nat}(I:Inv X pins σ H s)(fp:a4x X pins H it)(k:∀b o,b≠it->s.heap.get? b=some o->h'.get? b=some o):Inv X pins σ H { s with heap:=h',toks:=t' }:=
 I.turned k fp.1 fp.2.1 fp.2.2.2.1 fp.2.2.2.2.1 fp.2.2.2.2.2
theorem a7p {A:Around}{E:Vs0}{a kS:Addr}{vs ks:List Value}{e e1:Nat}{p:Array Nat}{st:SortSt}{P:PySem.Fin->Shared->Prop}(I:Inv X pins σ H s)(fa:a4x X pins H a)(fk:a4x X pins H kS)(hka:kS≠a)
  (hk:s.heap.get? kS=some (seqObj "list" ks.toArray e)) (ha:s.heap.get? a=some (seqObj "list" #[] e1)) (hl:ks.length=vs.length) (h64:vs.length<64) (hp:p.size=vs.length) (har:arrOf st=p.map (kas_item (ks.toArray.zip vs.toArray))) (hf:failedOf st=none)
  (h:∀(s':Shared) (e:Nat),Inv X pins σ H s'->s'.heap.get? a=some (seqObj "list" (List.toArray (p.toList.map fun i=>vs.getD i Value.none)) e)->P (.done (.ret .none)) s') :
  wpAny (model X.prog X.w) A (ksk_tail a false e1 (.ref kS) st) P E s:=by
 have hout:=kat_snds (vs:=vs) (ks:=ks) hl har;unfold ksk_tail
 try dsimp only
 have s1:=Heap.SameBut.update s.heap kS (Obj.mapSeq fun _=>(#[]:Array Value));have ha1:(s.heap.update kS (Obj.mapSeq fun _=>(#[]:Array Value))).get? a=some (seqObj "list" #[] e1):=(s1.2 a hka.symm).trans ha;refine wB0 (listUpdate_at hk rfl ?_ (by rw[List.size_toArray,hl,sizeLine_eq];omega) (zL0 _));refine wB0 (wpAny_letGo ?_);refine wB0 (seqEpoch_at ha1 rfl ?_);simp only[Bool.false_eq_true,if_false];rw[hout];have s2:=Heap.SameBut.update (s.heap.update kS (Obj.mapSeq fun _=>(#[]:Array Value))) a (Obj.mapSeq fun _=>List.toArray (p.toList.map fun i=>vs.getD i Value.none));obtain⟨c2,hc2⟩:∃c2,((s.heap.update kS (Obj.mapSeq fun _=>(#[]:Array Value))).update a (Obj.mapSeq fun _=>List.toArray (p.toList.map fun i=>vs.getD i Value.none))).get? a=some (seqObj "list" (List.toArray (p.toList.map fun i=>vs.getD i Value.none)) c2):=
  ⟨_,get?_update_seq ha1 fun _=>List.toArray (p.toList.map fun i=>vs.getD i Value.none)⟩
 refine wB0 (listUpdate_at ha1 rfl ?_ (zL0 _) (by rw[List.size_toArray,lM0,aL0,hp,sizeLine_eq];omega));rw[hf];simp only[bne_self_eq_false,Bool.false_eq_true,if_false];have I1:Inv X pins σ H { s with heap:=s.heap.update kS (Obj.mapSeq fun _=>(#[]:Array Value)) }:=I.moved (t':=s.toks) fk fun b o hb q=>(s1.2 b hb).trans q;exact wP0 (h _ c2 (I1.moved (t':=s.toks) fa fun b o hb q=>(s2.2 b hb).trans q) hc2)
theorem a5b {A:Around}{E:Vs0}{a:Addr}{vs:List Value}{n:Nat}{f:Value}{zs:List Str}{P:PySem.Fin->Shared->Prop}(I:Inv X pins σ H s)(fa:a4x X pins H a)(ho:s.heap.get? a=some (seqObj "list" vs.toArray n))(hlen:zs.length=vs.length)(nd:zs.Nodup)(h64:vs.length<64)
  (turn:∀(i:Nat) (v:Value) (z:Str),vs[i]? =some v->zs[i]? =some z->∀s':Shared,Inv X pins σ H s'->wpAny (model X.prog X.w) A (call f [v]) (fun k s''=>(∃t,k=.str z t)/\Inv X pins σ H s''/\∀b o,a4x X pins H b->s'.heap.get? b=some o->s''.heap.get? b=some o) (fun _ _=>False) s')
  (h:∀(p:Array Nat) (s':Shared) (e:Nat),Srt.PN vs.length p->Srt.Up (Srt.rz zs) p vs.length->Inv X pins σ H s'->s'.heap.get? a=some (seqObj "list" (List.toArray (p.toList.map fun i=>vs.getD i Value.none)) e)->P (.done (.ret .none)) s') :
  wpAny (model X.prog X.w) A (ksk_tree a f false) P E s:=by
 have haL:a<s.heap.objs.size:=hL0 ho;have s1:=Heap.SameBut.update s.heap a (Obj.mapSeq fun _=>(#[]:Array Value));obtain⟨e1,ho1⟩:∃e1,(s.heap.update a (Obj.mapSeq fun _=>(#[]:Array Value))).get? a=some (seqObj "list" #[] e1):=⟨_,get?_update_seq ho fun _=>#[]⟩;have I1:Inv X pins σ H { s with heap:=s.heap.update a (Obj.mapSeq fun _=>(#[]:Array Value)) }:=I.moved (t':=s.toks) fa fun b o hb q=>(s1.2 b hb).trans q;have I2:Inv X pins σ H { s with heap:=(s.heap.update a (Obj.mapSeq fun _=>(#[]:Array Value))).push (seqObj "tuple" vs.toArray 0) }:=I1.kept (t':=s.toks) fun b o q=>hP0 _ q;have I3:Inv X pins σ H { s with heap:=((s.heap.update a (Obj.mapSeq fun _=>(#[]:Array Value))).push (seqObj "tuple" vs.toArray 0)).push (seqObj "list" #[] 0) }:=I2.kept (t':=s.toks) fun b o q=>hP0 _ q;have fk:a4x X pins H ((s.heap.update a (Obj.mapSeq fun _=>(#[]:Array Value))).push (seqObj "tuple" vs.toArray 0)).objs.size:=I2.fpOk (nR0 _) (I2.hok.fresh (nR0 _));have hkS:((s.heap.update a (Obj.mapSeq fun _=>(#[]:Array Value))).push (seqObj "tuple" vs.toArray 0)).objs.size=s.heap.objs.size+1:=by rw[size_push',Heap.size_update]
 have hka:((s.heap.update a (Obj.mapSeq fun _=>(#[]:Array Value))).push (seqObj "tuple" vs.toArray 0)).objs.size≠a:=by rw[hkS];exact Nat.ne_of_gt (Nat.lt_succ_of_lt haL)
 unfold ksk_tree;refine wB0 (listItems_at ho rfl ?_);refine wB0 (listUpdate_at ho rfl ?_ (by rw[List.size_toArray,sizeLine_eq];omega) (zL0 _));refine wB0 (seqEpoch_at ho1 rfl ?_);refine wB0 (wpAny_newTuple ?_ (by show vs.length<=_;rw[sizeLine_eq];omega));refine wB0 (wpAny_newList ?_ (zL0 _));refine wpAny_holding ?_;generalize ekS:((s.heap.update a (Obj.mapSeq fun _=>(#[]:Array Value))).push (seqObj "tuple" vs.toArray 0)).objs.size=kS at fk hka;show wpAny (model X.prog X.w) A (ksk_rest a f false vs.toArray e1 (.ref kS)) P E { s with heap:=((s.heap.update a (Obj.mapSeq fun _=>(#[]:Array Value))).push (seqObj "tuple" vs.toArray 0)).push (seqObj "list" #[] 0) };have hk0:(((s.heap.update a (Obj.mapSeq fun _=>(#[]:Array Value))).push (seqObj "tuple" vs.toArray 0)).push (seqObj "list" #[] 0)).get? kS=some (seqObj "list" #[] 0):=by rw[<-ekS];exact hS0 _ rfl
 have ha0:(((s.heap.update a (Obj.mapSeq fun _=>(#[]:Array Value))).push (seqObj "tuple" vs.toArray 0)).push (seqObj "list" #[] 0)).get? a=some (seqObj "list" #[] e1):=hP0 _ (hP0 _ ho1);unfold ksk_rest;refine wB0 (wpAny_rule ?_)
 first
  |rw[List.forIn_toArray]
  | (rw[<-Array.forIn_toList];simp only[List.toList_toArray])
  |rw[<-Array.forIn_toList]
 refine wB0 (ksk_fold (fun i s'=>∃(kA:List Value) (e:Nat),Inv X pins σ H s'/\s'.heap.get? kS=some (seqObj "list" kA.toArray e)/\s'.heap.get? a=some (seqObj "list" #[] e1)/\StrsAre kA (zs.take i)) vs 0 _ ⟨[],0,I3,hk0,ha0,by simpa using StrsAre.nil⟩ ?step ?done)
 case step=>
  rintro j x s' hx ⟨kA,e,J,hk,ha,hs⟩;simp only[Nat.zero_add] at hs ⊢;have hj:j<vs.length:=(gS0.mp hx).1;obtain⟨z,hz⟩:∃z,zs[j]? =some z:=⟨_,gE0 (by omega)⟩;have hsz:kA.length<=vs.length:=by
   have h1:kA.length=(zs.take j).length:=hs.length;rw[List.length_take] at h1
   omega
  refine wB0 (wpAny_attempt (wpAny_mono (turn j x z hx hz s' J) (fun v s'' he=>?_) fun _ _ hF=>hF.elim));obtain⟨⟨t,rfl⟩,J2,kp⟩:=he
  try dsimp only
  have hk2:=kp kS _ fk hk;have ha2:=kp a _ fa ha;have u1:=Heap.SameBut.update s''.heap kS (Obj.mapSeq (·.push (.str z t)));obtain⟨c2,hc2⟩:∃c2,(s''.heap.update kS (Obj.mapSeq (·.push (.str z t)))).get? kS=some (seqObj "list" (kA.toArray.push (.str z t)) c2):=⟨_,get?_update_seq hk2 (·.push (.str z t))⟩;have ek:zs.take (j+1)=zs.take j++[z]:=by rw[List.take_add_one,hz];simp
  refine wB0 (listUpdate_at hk2 rfl ?_ (by rw[List.size_toArray,sizeLine_eq];omega) (Nat.le_trans (Nat.le_of_eq (Array.size_push ..)) (by rw[List.size_toArray,sizeLine_eq];omega)));exact wP0 ⟨rfl,kA++[.str z t],c2,J2.moved (t':=s''.toks) fk fun b o hb q=>(u1.2 b hb).trans q,by rw[hc2];simp,(u1.2 a hka.symm).trans ha2,by rw[ek];exact a5F hs⟩
 case done=>
  rintro s' ⟨kA,e,J,hk,ha,hs⟩;have hs':StrsAre kA zs:=by
   have e3:zs.take (0+vs.length)=zs:=List.take_of_length_le (by omega);rw[e3] at hs;exact hs
  have hl:kA.length=vs.length:=by have h1:kA.length=zs.length:=hs'.length;omega
  try dsimp only
  refine wB0 (listItems_at hk rfl ?_);unfold ksk_end
  try dsimp only
  rw[if_neg (by decide)]
  by_cases h2:vs.toArray.size<2
  ·rw[if_pos h2,if_pos h2]
   refine wB0 (wP0 ?_);rw[StateT.run_pure];refine wB0 (wP0 ?_)
   try dsimp only
   simp only[Bool.false_eq_true,if_false];refine a7p (vs:=vs) (ks:=kA) (p:=List.toArray (List.range vs.length)) J fa fk hka hk ha hl h64 (by simp) (by
    have e:=kas_range (kA.toArray.zip vs.toArray);rw[show(kA.toArray.zip vs.toArray).size=vs.length by simp[hl]] at e;exact e.symm) rfl fun s3 e3 J3 g3=>h (List.toArray (List.range vs.length)) s3 e3 (by unfold Srt.PN;simp) (fun i j hij hj=>?_) J3 g3
   rw[List.size_toArray] at h2;have ei:i=0:=by omega
   have ej:j=0:=by omega
   subst ei ej;unfold Srt.rz;rw[decide_eq_false_iff_not];exact List.lt_irrefl _
  ·have hn2:2<=vs.length:=by rw[List.size_toArray] at h2;omega
   rw[if_neg h2,if_neg h2];obtain⟨v₁,v₂,rest,ev⟩:∃v₁ v₂ rest,kA=v₁::v₂::rest:=by
    match kA,hl with
    |[],hl=>simp at hl;omega
    |[_],hl=>simp at hl;omega
    |v₁::v₂::rest,_=>exact⟨v₁,v₂,rest,rfl⟩
   have hkk:keyKind' kA.toArray=pure oneType':=by rw[ev];exact keyKind_strs (by rw[<-ev];exact hs')
   rw[hkk];refine wB0 (wP0 ?_);simp only[Bool.false_eq_true,if_false];refine wB0 (wpAny_mono (kat_run (prog:=X.prog) (w:=X.w) (A:=A) (E:=E) (κ:=oneType') (ks:=kA) (vs:=vs) (s:=s')
    (Q:=fun st' s''=>∃p:Array Nat,p.size=vs.length/\arrOf st'=p.map (kas_item (kA.toArray.zip vs.toArray))/\failedOf st'=none/\Srt.PN vs.length p/\Srt.Up (Srt.rz zs) p vs.length/\s''=s')
    (G:=fun p s''=>Srt.PN vs.length p/\Srt.Up (Srt.rz zs) p vs.length/\s''=s')
    hl hn2 h64 (fun p' st' s'' a1 a2 a3 a4=>⟨p',a1,a2,a3,a4⟩) ?_) ?_ fun _ _ e=>e)
   ·rw[<-hlen]
    exact Srt.sort (Srt.b3U nd) (b6t (s1:=s') hs') (by omega) rfl fun p' s'' b1 b2 b3=>⟨b1,b2,b3⟩
   ·rintro⟨⟨⟩,st'⟩ s'' ⟨p,hp,har,hf,pn,up,rfl⟩
    try dsimp only
    exact a7p (vs:=vs) (ks:=kA) J fa fk hka hk ha hl h64 hp har hf fun s3 e3 J3 g3=>h p s3 e3 pn up J3 g3
end
section
variable {X:Cx}{pins:List (Addr×Obj)}{σ:St}{H:Hp}{s:Shared}{f c':Addr}{q x:Str}{params:Arguments}{body:Expr}{scope:Scope}{pm:Value}{k:Nat}
theorem b0s {t:TE}{A:Around}{u:Value}{v:V}{z:Str}(I:Inv X pins σ H s)(e0:a8w X.prog X.w X.K X.mg X.base A X.stack s H)(hr:a1g (k+1) A)(hf:H f=some (.ext (a9R f q params body scope pm c')))(hc:H c'=some (.ext (a4z c' q)))(S:a0o [x] [x] scope)
  (hb:∀(ctv u:Value),bindArgs (PySem.W.kla_fn "<lambda>" q params body scope [] pm (.ref c') ctv) ⟨[u],[]⟩=pure [(x,u)])
  (hbody:PE (a7U CX0 X.prog X.w X.K X.mg X.base [x] q scope f (.ref c') A X.stack s H E0).nox body t) (r:a1e v u) (ht:t [some v] H fun v' H'=>v'=.str z/\H'=H) :
  wpAny (model X.prog X.w) A (call (.ref f) [u]) (fun k s''=>(∃t,k=.str z t)/\Inv X pins σ H s''/\∀b o,a4x X pins H b->s.heap.get? b=some o->s''.heap.get? b=some o) (fun _ _=>False) s:=by
 refine wpAny_call (codeAny_mono (b1h e0 hr hf hc S hb hbody r ht) fun r s' hq=>?_);cases r with
 |error e=>exact hq
 |ok fl=>
  cases fl with
  |ret w'=>
   have hq':CE X.stack X.prog X.w H s (fun v' H'=>v'=.str z/\H'=H) w' s':=hq;obtain⟨v1,H1,J,rv,rfl,rfl⟩:=I.after hq';obtain⟨v2,H2,os,bare,un,hok,rv2,rfl,rfl⟩:=hq';refine⟨rv,J,fun b o fb e=>un.keep b o e fb.1 (fun hm=>?_) (by simp)⟩;rcases mK0.mp (I.stkSub b hm) with y |y
   ·exact fb.2.1 y
   ·exact fb.2.2.1 y
  |next=>exact False.elim hq
  |brk=>exact False.elim hq
  |cont=>exact False.elim hq
theorem a8e {p:Addr}{xs:List V}{zs:List Str}{fv:Value}{Q:VK}(I:Inv X pins σ H s)(hp:SqL X.K H p xs)(hlen:zs.length=xs.length)(nd:zs.Nodup)(h64:xs.length<64)(hfv:∃f,fv=.ref f)
  (turn:∀(i:Nat) (v:V) (u:Value) (z:Str),xs[i]? =some v->a1e v u->zs[i]? =some z->∀s':Shared,Inv X pins σ H s'->wpAny (model X.prog X.w) X.A.in1.in1 (call fv [u]) (fun k s''=>(∃t,k=.str z t)/\Inv X pins σ H s''/\∀b o,a4x X pins H b->s'.heap.get? b=some o->s''.heap.get? b=some o) (fun _ _=>False) s')
  (h:∀(l:Addr) (ix:List Nat),H l=none->ix.Perm (List.range xs.length)->a5M (ix.map fun i=>zs.getD i "")->Q (.ref l) (upd H l (.lst (ix.map fun i=>xs.getD i .non)))) :
  wpAny (model X.prog X.w) X.A (call (.builtin "sorted") [.ref p] [(Str.ofString "key",fv)]) (EP X pins σ Q) X.xe s:=by
 obtain⟨f,rfl⟩:=hfv;obtain⟨vs,r',pl,hz⟩:=I.list hp;have hl:=r'.length;refine call_function_entry_kw kind_sorted plain_sorted entry_sorted (ksk_s1 _ _) ?_;unfold Builtin.«sorted»;refine wB0 (m:=checkCount "sorted" 1 1 _) (wP0 ?_);refine wB0 (collect_list pl.isList ?_ (by rw[sizeLine_eq];omega));refine wB0 (wpAny_newList ?_ (by rw[sizeLine_eq];omega));have hsz:((s.heap.push (seqObj "list" #[] 0)).update s.heap.objs.size (Obj.mapSeq (·++vs.toArray))).objs.size=s.heap.objs.size+1:=by
  rw[Heap.size_update,size_push']
 have hoL:(((s.heap.push (seqObj "list" #[] 0)).update s.heap.objs.size (Obj.mapSeq (·++vs.toArray))).push (seqObj "list" vs.toArray 0)).get? (s.heap.objs.size+1)=some (seqObj "list" vs.toArray 0):=by
  rw[<-hsz];exact hS0 _ rfl
 have keep:∀b o,s.heap.get? b=some o->(((s.heap.push (seqObj "list" #[] 0)).update s.heap.objs.size (Obj.mapSeq (·++vs.toArray))).push (seqObj "list" vs.toArray 0)).get? b=some o:=fun b o q=>by
  have hlt:b<s.heap.objs.size:=hL0 q;rw[Heap.get?_push_ne _ _ _ (by rw[hsz];exact nL0 (Nat.lt_succ_of_lt hlt)),Heap.get?_update_ne _ _ _ _ (nL0 hlt),Heap.get?_push_ne _ _ _ (nL0 hlt)];exact q
 have I2:Inv X pins σ H { s with heap:=((s.heap.push (seqObj "list" #[] 0)).update s.heap.objs.size (Obj.mapSeq (·++vs.toArray))).push (seqObj "list" vs.toArray 0) }:=I.kept (t':=s.toks) keep;have fa:a4x X pins H (s.heap.objs.size+1):=I.fpOk (Nat.le_succ _) (I.hok.fresh (Nat.le_succ _));have our:Our X pins H (s.heap.objs.size+1):=⟨Nat.le_trans I.sz (Nat.le_succ _),fa.2.1,fa.2.2.2.2.1,fa.2.2.2.2.2,fa.1⟩;show wpAny _ _ _ _ _ { s with heap:=((s.heap.push (seqObj "list" #[] 0)).update s.heap.objs.size (Obj.mapSeq (·++vs.toArray))).push (seqObj "list" vs.toArray 0) };rw[hsz];refine wB0 (wpAny_holding (wpAny_call_entry_kw slot_list_sort ⟨_,hoL,rfl⟩ entry_list_sort ?body (ksk_l1 _ _)))
 case body=>
  show wpAny (model X.prog X.w) X.A.in1.in1 (Builtin.«list.sort» ⟨[.ref (s.heap.objs.size+1)],[(Str.ofString "key",.ref f)]⟩) _ _ _;rw[ksk_t1];refine a5b (zs:=zs) I2 fa hoL (by omega) nd (by omega) (fun i v z hv hzi s' J=>?_) fun p' s3 e pn up J3 g3=>⟨_,rfl,?_⟩
  ·have hi:i<vs.length:=(gS0.mp hv).1
   obtain⟨u,hu,ru⟩:=r'.get (i:=i) (x:=xs[i]'(by omega)) (by simp);rw[hv] at hu;cases hu;exact turn i (xs[i]'(by omega)) v z (by simp) ru hzi s' J
  ·have hs:=pn.size
   have lt:∀i∈p'.toList,i<vs.length:=fun i hi=>List.mem_range.mp (pn.mem_iff.mp hi);refine wP0 ⟨_,rfl,.ref (s.heap.objs.size+1),_,J3.track our (o:=.lst (p'.toList.map fun i=>xs.getD i .non)) ?_,rfl,h _ p'.toList (I.hok.fresh (Nat.le_succ _)) (by rw[hl];exact pn) ?_⟩
   ·refine⟨by rw[lM0,aL0,hs,<-hl];exact hz,_,e,?_,g3⟩
    exact a5h r' _ fun i hi=>by have:=lt i hi;omega
   ·unfold a5M
    rw[List.pairwise_map,List.pairwise_iff_getElem];intro i j hi hj hij;have hi':i<p'.size:=by simpa using hi
    have hj':j<p'.size:=by simpa using hj
    have h0:=up i j (by omega) (by omega);unfold Srt.rz at h0;rw[decide_eq_false_iff_not,Srt.a2u hi',Srt.a2u hj'] at h0;rw[Array.getElem_toList,Array.getElem_toList];exact h0
def b3E (K:Fg0)(q:Str)(params:Arguments)(body:Expr)(scope:Scope)(pm:Value)(te tl tb:TE):TE:=fun σ H Q=>te σ H fun y H1=>tl σ H1 fun g H2=>∃(p f c':Addr) (xs:List V) (zs:List Str),y=.ref p/\g=.ref f ∧
 H2 f=some (.ext (a9R f q params body scope pm c'))/\H2 c'=some (.ext (a4z c' q))/\SqL K H2 p xs/\zs.length=xs.length/\zs.Nodup/\xs.length<64 ∧
 (∀(i:Nat) (v:V) (z:Str),xs[i]? =some v->zs[i]? =some z->tb [some v] H2 fun v' H'=>v'=.str z/\H'=H2) ∧
 ∀(l:Addr) (ix:List Nat),H2 l=none->ix.Perm (List.range xs.length)->a5M (ix.map fun i=>zs.getD i "")->Q (.ref l) (upd H2 l (.lst (ix.map fun i=>xs.getD i .non)))
theorem a8B {e lam:Expr}{te tl tb:TE}{np kpos pos:Pos}(hr:a1g (k+3) X.A)(hg:Gl X "sorted")(hm:X.mg "sorted"=none)(he:PE X e te)(hlam:PE X lam tl)(S:a0o [x] [x] scope)
  (hb:∀(c':Addr) (ctv u:Value),bindArgs (PySem.W.kla_fn "<lambda>" q params body scope [] pm (.ref c') ctv) ⟨[u],[]⟩=pure [(x,u)])
  (hbody:∀(f c':Addr) (s:Shared) (H:Hp),PE (a7U CX0 X.prog X.w X.K X.mg X.base [x] q scope f (.ref c') X.A.in1.in1 X.stack s H E0).nox body tb) (hstar:starEach [e] X.env=[(false,eval e X.env)]:=by rfl) :
  PE X (.Call (.Name "sorted" np) [e] [⟨some "key",lam,kpos⟩] pos) (b3E X.K q params body scope pm te tl tb):=by
 intro pins s σ H Q I h;refine wpAny_Call_Name_kw (a4m I hg hm (show bootBuiltins "sorted"=some (.builtin "sorted") by decide +kernel) ?_ (by decide) (by decide));refine callWith_kw (e:=e) (rest:=[]) (kws:=[⟨some "key",lam,kpos⟩]) ?_ (by rw[hstar];rfl) (by rw[hstar];rfl);rw[hstar];show wpAny _ _ (spliced [(false,eval e X.env)]) _ _ s;refine Calls.spliced_cons (thn (he pins s σ H _ I h) fun u s1 ⟨y,H1,I1,ry,q1⟩=>Calls.spliced_nil ?_);show wpAny _ _ (evalAll [(do let v <-eval lam X.env;standAt pos;pure v)]) _ _ s1;refine wpAny_evalAll_cons (wB0 (thn (hlam pins s1 σ H1 _ I1 q1) fun gv s2 ⟨g,H2,I2,rg,q2⟩=>wB0 (wpAny_standAt (wP0 (wpAny_evalAll_nil ?_)))));obtain⟨p,f,c',xs,zs,rfl,rfl,hf,hc,hp,hlen,nd,h64,ht,hq⟩:=q2;cases ry;cases rg;have hr1:a1g (k+1) X.A.in1.in1:=hr.in1.in1;exact a8e I2 hp hlen nd h64 ⟨f,rfl⟩ (fun i v u z hv ru hz s' J=>b0s J J.env0.in1.in1 hr1 hf hc S (hb c') (hbody f c' s' H2) ru (ht i v z hv hz)) hq
end
end L2
namespace L2
open PySem PySem.Spec PyProof.Rows
structure b3z (K:Fg0) (x qual:Str) (st:Stmt) (f:Addr) (fd:FuncData) (c:Addr):Prop where
 ex:∃(oc:Value) (od:Option Addr) (kV doc pm:Value) (an:Option Addr) (ct:Value) (osl:Array (Option Value)),
  fd=PySem.W.fnOf x qual (a1d st) (a0U st) (a0f st) .none kV doc pm an (.ref c) ct/\K.lookup f=some ⟨oc,od,.func fd,osl⟩/\PySem.W.codeIn K (.ref c) qual=true
 kp:PySem.W.keepIn K (.ref f)=true
section
variable {P:Program}{w:World}{K:Fg0}{mg:Str->Option Value}{base:Heap}
theorem b3z.fn {x qual:Str}{st:Stmt}{f c:Addr}{fd:FuncData}(F:b3z K x qual st f fd c):Fun K x qual st f fd:=by
 obtain⟨⟨oc,od,kV,doc,pm,an,ct,osl,h1,h2,h3⟩,kp⟩:=F;exact⟨⟨oc,od,kV,doc,pm,an,.ref c,ct,osl,h1,h2,h3⟩,kp⟩
theorem b3z.ok {x qual:Str}{st:Stmt}{f c:Addr}{fd:FuncData}{N ps:List Str}{k:Nat}{sp:Sp}(F:b3z K x qual st f fd c)(S:a0o N ps (a0f st))(len:∀vs H Q E,sp vs H Q E->vs.length=ps.length)
  (hbody:∀(A:Around) (outer:List Env) (s:Shared) (H:Hp) (vs:List V) (Q:VK) (E:XK),a1g k (A.deeper (envOfC qual (a0f st) s.heap.objs.size f (.ref c)))->sp vs H Q E →
   ∃t,PSs (a7U CX0 P w K mg base N qual (a0f st) f (.ref c) A outer s H E).nox (a0U st) t/\t { nx:=fun _ H'=>Q .non H',rt:=Q } (a3w N vs) H):a0x P w K mg base CX0 (k+1) f fd ps sp:=by
 obtain⟨oc,od,kV,doc,pm,an,ct,osl,rfl,lk,hcd⟩:=F.ex;refine b1t lk hcd S len fun A outer s H vs Q E hr hsp=>?_;obtain⟨t,h,q⟩:=hbody A outer s H vs Q E hr hsp;exact⟨t,h.nox,q⟩
end
theorem a4V {X:Cx}{K:Fg0}{es:List Expr}{k:Nat}{pos:Pos}{t:TGs}{n:Nat}(hK:X.K=K)(hc:X.calm=true)(h:PGs X es t)
  (hn:(assignEach es X.env).length=n:=by rfl) (hst:(assignEach es X.env).findIdx? (·.1)=none:=by rfl):PG X (.Tuple es k pos) (b6D K n t):=by
 subst hK;exact a4P hc h hn hst
def notT:HO->Bool
 | .tbl _=>false
 |_=>true
def Sb (H H':Hp):Prop:=∀a o,notT o=true->H a=some o->H' a=some o
theorem Sb.trans {H H1 H2:Hp}(a:Sb H H1)(b:Sb H1 H2):Sb H H2:=fun x o n e=>b x o n (a x o n e)
theorem a0r.sb {H H':Hp}(s:a0r H H'):Sb H H':=fun a o _ e=>s a o e
end L2
namespace My
open PySem L2 PyProof.Rows
mutual
theorem Rep.sb {H H':Hp}(e:Sb H H'):∀{d:Dt} {v:V},Rep H d v->Rep H' d v
 | .non,v,h=>by unfold Rep at h ⊢;exact h
 | .bl b,v,h=>by unfold Rep at h ⊢;exact h
 | .int i,v,h=>by unfold Rep at h ⊢;exact h
 | .str z,v,h=>by unfold Rep at h ⊢;exact h
 | .tup ds,v,h=>by
  unfold Rep at h ⊢;obtain⟨a,xs,h1,h2,h3⟩:=h;exact⟨a,xs,h1,e _ _ rfl h2,a2e.sb e h3⟩
 | .lst ds,v,h=>by
  unfold Rep at h ⊢;obtain⟨a,xs,h1,h2,h3⟩:=h;exact⟨a,xs,h1,e _ _ rfl h2,a2e.sb e h3⟩
 | .dct,v,h=>by
  unfold Rep at h ⊢;obtain⟨a,xs,h1,h2⟩:=h;exact⟨a,xs,h1,e _ _ rfl h2⟩
theorem a2e.sb {H H':Hp}(e:Sb H H'):∀{ds:List Dt} {vs:List V},a2e H ds vs->a2e H' ds vs
 |[],vs,h=>by unfold a2e at h ⊢;exact h
 |d::ds,vs,h=>by
  unfold a2e at h ⊢;obtain⟨v,ws,h1,h2,h3⟩:=h;exact⟨v,ws,h1,Rep.sb e h2,a2e.sb e h3⟩
end
theorem a0G.sb {H H':Hp}{cols:List (Str×V)}(h:a0G H cols)(e:Sb H H'):a0G H' cols:=⟨h.1,h.2.1,fun p hp=>⟨(h.2.2 p hp).1,let ⟨d,h1,h2⟩:=(h.2.2 p hp).2;⟨d,Rep.sb e h1,h2⟩⟩⟩
theorem a1F.sb {H H':Hp}{t:Addr}{cols:List (Str×V)}(h:a1F H t cols)(e:Sb H H'):a1F H' t cols:=by
 obtain⟨o,ps,zs,h1,h2,h3,h4,h5,h6⟩:=h;exact⟨o,ps,zs,h1,h2,h3,e _ _ rfl h4,h5,fun j p z a b=>e _ _ rfl (h6 j p z a b)⟩
theorem a2x.sb {H H':Hp}{e:Addr}{T:Tb}(h:a2x H e T)(s:Sb H H'):a2x H' e T:=by
 obtain⟨ct,h1,h2⟩:=h;exact⟨ct,s _ _ rfl h1,h2.sb s⟩
theorem a1f.sb {H H':Hp}{f:Addr}{sz:Int}{Ts:List Tb}(h:a1f H f sz Ts)(s:Sb H H'):a1f H' f sz Ts:=by
 obtain⟨tt,es,h1,h2,h3,h4⟩:=h;exact⟨tt,es,s _ _ rfl h1,s _ _ rfl h2,h3,fun j e T a b=>(h4 j e T a b).sb s⟩
def a1O (P:Addr)(pos:Pos)(q:Str)(H:Hp):Prop:=H P=some (.tbl #[])\/∃c',H P=some (.tbl #[rawInt pos.line,rawInt pos.col,.ref c'])/\H c'=some (.ext (a4z c' q))
theorem a1O.same {P:Addr}{pos:Pos}{q:Str}{H H':Hp}(h:a1O P pos q H)(s:a0r H H'):a1O P pos q H':=by
 rcases h with h |⟨c',h1,h2⟩
 ·exact .inl (s _ _ h)
 ·exact .inr ⟨c',s _ _ h1,s _ _ h2⟩
theorem b1i {P:Addr}{pos:Pos}{q:Str}{params:Arguments}{body:Expr}{scope:Scope}{pm:Value}{σ:L2.St}{H:Hp}{Q:VK}(h:a1O P pos q H)
  (hq:∀f c' H',Sb H H'->(∀a,a≠P->H a≠none->H' a=H a)->a1O P pos q H'->H' f=some (.ext (a9R f q params body scope pm c'))->H' c'=some (.ext (a4z c' q))->Q (.ref f) H'):b6B P pos q params body scope pm σ H Q:=by
 rcases h with h |⟨c',h1,h2⟩
 ·refine⟨#[],h,trivial,.inl ⟨rfl,fun c' f n1 n2 n3 n4 n5=>?_⟩⟩
  have fr:∀a,a≠P->H a≠none->(L2.upd (L2.upd (L2.upd H P (.tbl (#[]++#[rawInt pos.line,rawInt pos.col,.ref c']))) c' (.ext (a4z c' q))) f (.ext (a9R f q params body scope pm c'))) a=H a:=fun a n n0=>by
   rw[a0g (fun e=>n0 (by rw[e];exact n2)),a0g (fun e=>n0 (by rw[e];exact n1)),a0g n]
  refine hq f c' _ (fun a o n e=>?_) fr ?_ a0d (by rw[a0g n3];exact a0d)
  ·rw[fr a (fun e'=>by rw[e',h] at e;cases e;cases n) (by rw[e];simp)]
   exact e
  ·refine .inr ⟨c',?_,by rw[a0g n3];exact a0d⟩
   rw[a0g (Ne.symm n5),a0g (Ne.symm n4)];exact a0d
 ·refine⟨_,h1,trivial,.inr ⟨c',by simp[codeAmong,rawInt],fun f n=>?_⟩⟩
  have S:=a0r.upd (o:=.ext (a9R f q params body scope pm c')) n;exact hq f c' _ S.sb (fun a _ n0=>a0g fun e=>n0 (by rw[e];exact n)) (.inr ⟨c',S _ _ h1,S _ _ h2⟩) a0d (S _ _ h2)
seal L2.PE L2.PT L2.PW L2.PS L2.PSs L2.PA L2.PI L2.PG L2.PGs L2.OpR L2.UnR L2.a1u L2.IxR L2.SlR L2.MtR L2.PIf L2.PO L2.MtM L2.PC
def a1D (H:Hp)(e d:Addr)(T:Tb):Prop:=H e=some (.tup [.str T.name,.str T.sort,.ref d])/\H d=some (.dK (kvC T.cols))/\a0G H T.cols
def a2b (H:Hp)(l:Addr)(es ds:List Addr)(Ts:List Tb):Prop:=H l=some (.lst (es.map V.ref))/\es.length=Ts.length/\ds.length=Ts.length/\∀(j:Nat) (e d:Addr) (T:Tb),es[j]? =some e->ds[j]? =some d->Ts[j]? =some T->a1D H e d T
theorem a1D.sb {H H':Hp}{e d:Addr}{T:Tb}(h:a1D H e d T)(s:Sb H H'):a1D H' e d T:=⟨s _ _ rfl h.1,s _ _ rfl h.2.1,h.2.2.sb s⟩
theorem a2b.sb {H H':Hp}{l:Addr}{es ds:List Addr}{Ts:List Tb}(h:a2b H l es ds Ts)(s:Sb H H'):a2b H' l es ds Ts:=⟨s _ _ rfl h.1,h.2.1,h.2.2.1,fun j e d T a b c=>(h.2.2.2 j e d T a b c).sb s⟩
def b0f (T0:Tb)(R:List Tb):Prop:=R.length<=7/\((T0::R).map (·.name)).Nodup/\(∀T∈T0::R,a0T T.name=true)/\T0.sort="head"/\∀T∈R,T.sort∈a1S
def Fr (P:Addr)(H H':Hp):Prop:=∀a o,a≠P->H a=some o->H' a=some o
def b5c:Stmt->Expr
 | .Assign _ (.Call _ _ [⟨_,e,_⟩] _) _=>e
 |_=>.Constant .none 0 ⟨0,0,0,0⟩
def b3A:Expr->Pos
 | .Lambda _ _ _ p=>p
 |_=>⟨0,0,0,0⟩
def b0u:Expr:=b5c ((a0U (top 19)).getD 4 (.Pass ⟨0,0,0,0⟩))
def b2S:Expr->Arguments
 | .Lambda a _ _ _=>a
 |_=>a1d (top 19)
def b3m:Expr->Expr
 | .Lambda _ b _ _=>b
 |e=>e
def b0W:Expr->Scope
 | .Lambda _ _ s _=>s
 |_=>a0f (top 19)
def a2j:Pos:=b3A b0u
def foQ:Str:="form_of.<locals>.<lambda>"
def a7t (PF:Addr):Sp:=fun vs H Q _=>∃(l:Addr) (sz:Int) (es ds:List Addr) (T0:Tb) (R:List Tb),vs=[.int sz,.ref l]/\1<=sz/\a2b H l es ds (T0::R)/\b0f T0 R/\a1O PF a2j foQ H ∧
 ∀(f:Addr) (H':Hp) (R':List Tb),Sb H H'->Fr PF H H'->a1O PF a2j foQ H'->R'.Perm R->a5M (R'.map (·.name))->a1f H' f sz (T0::R')->Q (.ref f) H'
def a4N (o:Option HO):Prop:=(∀xs,o≠some (.tup xs))/\∀ob xs,o≠some (.frz ob (.tup xs))
theorem a4N.lst {H:Hp}{D:Addr}{ys:List V}(e:H D=some (.lst ys)):a4N (H D):=by rw[e];exact⟨(fun _ h=>by cases h),(fun _ _ h=>by cases h)⟩
theorem a1F.beside {H:Hp}{D t:Addr}{u:HO}{cols:List (Str×V)}(n:a4N (H D))(h:a1F H t cols):a1F (L2.upd H D u) t cols:=by
 obtain⟨o,ps,zs,h1,h2,h3,h4,h5,h6⟩:=h;refine⟨o,ps,zs,h1,h2,h3,?_,h5,fun j p z a b=>?_⟩
 ·rw[a0g (fun e=>n.2 _ _ (by rw[<-e];exact h4))];exact h4
 ·have:=h6 j p z a b
  rw[a0g (fun e=>n.1 _ (by rw[<-e];exact this))];exact this
theorem a2x.beside {H:Hp}{D e:Addr}{u:HO}{T:Tb}(n:a4N (H D))(h:a2x H e T):a2x (L2.upd H D u) e T:=by
 obtain⟨ct,h1,h2⟩:=h;exact⟨ct,by rw[a0g (fun e=>n.1 _ (by rw[<-e];exact h1))];exact h1,h2.beside n⟩
section
variable {P:Program}{w:World}{K:Fg0}{mg:Str->Option Value}{base:Heap}
theorem b2T {f c PF fW fS fN fC:Addr}{fd fdW fdS fdN fdC:FuncData}(F:b3z K "form_of" "form_of" (top 19) f fd c)(B:Bl mg)(hC:PySem.W.codeHdIn K c PF=true)(hB:L2.a5W base mg)
  (DW:Df K mg "is_whole" (top 11) fW fdW) (GW:a0x P w K mg base CX0 1 fW fdW ["thing"] (a7f K)) (DS:Df K mg "ask_sorts" (top 20) fS fdS) (GS:a0x P w K mg base CX0 1 fS fdS ["sorts"] b1M) (DN:Df K mg "ask_names" (top 21) fN fdN) (GN:a0x P w K mg base CX0 2 fN fdN ["names"] b1z)
  (DC:Df K mg "columns_made" (top 22) fC fdC) (GC:a0x P w K mg base CX0 5 fC fdC ["columns"] b1P):a0x P w K mg base CX0 6 f fd ["size","tables"] (a7t PF):=by
 have sc:a0o ["size","tables","made","sides"] ["size","tables"] (a0f (top 19)):=.k (by decide +kernel);have bW:=DW.fn.b1 "thing" (by intros;rfl);have bS:=DS.fn.b1 "sorts" (by intros;rfl);have bN:=DN.fn.b1 "names" (by intros;rfl);have bC:=DC.fn.b1 "columns" (by intros;rfl);refine F.ok sc (fun vs H Q E h=>?_) (fun A outer s H vs Q E hr h=>?_)
 ·obtain⟨l,sz,es,ds,T0,R,rfl,_⟩:=h
  rfl
 ·obtain⟨l,sz,es,ds,T0,R,rfl,sz1,hP,hT,hTab,q⟩:=h
  have hr1:a1g 1 _:=hr.mono (by decide);have hr2:a1g 2 _:=hr.mono (by decide);refine⟨_,a0c (a0C (PW.pt (a3x (a1P (a0K (a0i GW hr1 (by rfl) DW.mg DW.fn.kp bW .nil a0q (a0a (pv 0) a0b)))) (a2n (a0t b0e (pv 0) a0e (a0u _))))) a0m a0l)
   (a0c (a0F (a0i GS hr1 (by rfl) DS.mg DS.fn.kp bS .nil a0q (a0a (a1T (osc:=a0f (top 19)) (N0:=["size","tables","made","sides"]) (xs:=["name","sort","columns"]) (fr:=[]) ⟨rfl,by decide +kernel,by decide +kernel,by decide +kernel,by decide,by decide +kernel⟩ rfl rfl rfl (a2C (pv 1))
     (fun s H fp=>a4V (K:=K) (n:=3) rfl rfl (a0N (a0E (i:=0) (show(["name","sort","columns"]:List Str).Nodup by decide +kernel) rfl (Or.inl rfl)) (a0N (a0E (i:=1) (show(["name","sort","columns"]:List Str).Nodup by decide +kernel) rfl (Or.inl rfl)) (a0N (a0E (i:=2) (show(["name","sort","columns"]:List Str).Nodup by decide +kernel) rfl (Or.inl rfl)) a2t)))) (fun s H fp=>a1U)
     (fun s H fp=>pv 1)) a0b)))
   (a0c (a0F (a0i GN hr2 (by rfl) DN.mg DN.fn.kp bN .nil a0q (a0a (a1T (osc:=a0f (top 19)) (N0:=["size","tables","made","sides"]) (xs:=["name","sort","columns"]) (fr:=[]) ⟨rfl,by decide +kernel,by decide +kernel,by decide +kernel,by decide,by decide +kernel⟩ rfl rfl rfl (a2C (pv 1))
     (fun s H fp=>a4V (K:=K) (n:=3) rfl rfl (a0N (a0E (i:=0) (show(["name","sort","columns"]:List Str).Nodup by decide +kernel) rfl (Or.inl rfl)) (a0N (a0E (i:=1) (show(["name","sort","columns"]:List Str).Nodup by decide +kernel) rfl (Or.inl rfl)) (a0N (a0E (i:=2) (show(["name","sort","columns"]:List Str).Nodup by decide +kernel) rfl (Or.inl rfl)) a2t)))) (fun s H fp=>a1U)
     (fun s H fp=>pv 0)) a0b)))
   (a0c (b3j (i:=2) (osc:=a0f (top 19)) (N0:=["size","tables","made","sides"]) (xs:=["name","sort","columns"]) (fr:=[]) ⟨rfl,by decide +kernel,by decide +kernel,by decide +kernel,by decide,by decide +kernel⟩ rfl rfl rfl (a2C (pv 1))
     (fun s H fp=>a4V (K:=K) (n:=3) rfl rfl (a0N (a0E (i:=0) (show(["name","sort","columns"]:List Str).Nodup by decide +kernel) rfl (Or.inl rfl)) (a0N (a0E (i:=1) (show(["name","sort","columns"]:List Str).Nodup by decide +kernel) rfl (Or.inl rfl)) (a0N (a0E (i:=2) (show(["name","sort","columns"]:List Str).Nodup by decide +kernel) rfl (Or.inl rfl)) a2t)))) (fun s H fp=>a1U)
     (fun s H fp=>a0D (a0a (pv 0) (a0a (pv 1) (a0a (a0i GC hr (by rfl) DC.mg DC.fn.kp bC .nil a0q (a0a (pv 2) a0b)) a0b)))) sc.nd rfl (Or.inl rfl))
   (a0c (a0p (i:=3) sc.nd rfl (Or.inl rfl) (a8B (k:=2) (x:="table") (q:=foQ) (params:=b2S b0u) (body:=b3m b0u) (scope:=b0W b0u) (pm:=(mg "__name__").getD .none) (tb:=tOp (b3P K) (b5h 0) (tC (.int 0))) hr (by rfl) B.sorted (a3U a5v (pv 2) (a5x a0e) a5n) (b4L rfl hC hB) ⟨rfl,rfl,rfl,by decide +kernel,rfl,by decide +kernel,by decide +kernel⟩ (fun _ _ _=>rfl) (fun f c' s H=>a0s (r:=b3P K) a1n (pv 0) a0e (fun _ _=>rfl))))
   (a0h (a0z (a0D (a0a (pv 0) (a0a (a0V a2w (by rfl) B.tuple boot_tuple (a0a (a1p a8L (a3U a5v (pv 2) a5n (a5x a0e)) (pv 3)) a0b)) a0b)))))))))
   ,?_⟩
  obtain⟨Ts,eTs⟩:∃Ts,Ts=T0::R:=⟨_,rfl⟩;rw[<-eTs] at hP;obtain⟨r7,ndn,hnm,hhd,hsd⟩:=hT;rw[<-eTs] at ndn hnm;have tl:Ts.length=R.length+1:=by rw[eTs];rfl
  have e1l:=hP.2.1;have e2l:=hP.2.2.1;refine⟨_,rfl,.int sz,"int",rfl,Is.int,_,rfl,a3e (by decide) ?_⟩;refine⟨_,rfl,_,_,rfl,rfl,_,rfl,a3e (dF0 (by omega)) ?_⟩;obtain⟨HX,eHX⟩:∃HX,HX=H:=⟨_,rfl⟩;have SX:a0r H HX:=by rw[eHX];exact a0r.refl H
  rw[<-eHX];refine⟨_,rfl,l,rfl,⟨_,SqL.of (SX _ _ hP.1)⟩,fun D2 hD2=>?_⟩;refine a3h Ts.length (fun i=>.str ((Ts.map (·.sort)).getD i "")) (fun i σ' Hc=>(∃t0 t1 t2,σ'=[t0,t1,t2])/\a0r HX Hc) (by rw[sizeLine_eq];omega) ⟨⟨_,_,_,rfl⟩,a0r.upd hD2⟩ a0d ?_ ?_
  ·rintro i σ' Hc hi ⟨⟨t0,t1,t2,rfl⟩,sm⟩ hD'
   have hie:i<es.length:=by omega
   have hid:i<ds.length:=by omega
   have sc:=SX.trans sm;have pt:=hP.2.2.2 i es[i] ds[i] Ts[i] (gE0 hie) (gE0 hid) (gE0 hi);refine⟨⟨_,V.ref es[i],SqL.of (sc _ _ hP.1),by rw[gM0,gE0 hie];rfl⟩,?_⟩;rintro x H' ⟨rfl,hx'⟩;have ex:=hx' _ (SqL.of (sc _ _ hP.1));rw[gM0,gE0 hie] at ex;cases ex;refine⟨_,_,rfl,SqT.of (sc _ _ pt.1),rfl,_,_,rfl,_,_,rfl,_,_,rfl,rfl,_,rfl,?_,hD',⟨_,_,_,rfl⟩,sm.put hD2⟩;rw[List.getD_eq_getElem?_getD,gM0,gE0 hi]
   rfl
  rintro σ2 H2 ⟨_,sm2⟩ hDn2;refine⟨⟨_,SqL.of ((SX.trans sm2) _ _ hP.1),by rw[lM0];omega⟩,?_⟩;rw[show(List.range Ts.length).map (fun i=>V.str ((Ts.map (·.sort)).getD i ""))=(Ts.map (·.sort)).map V.str from by
   have:=a1J (Ts.map (·.sort)) ("":Str) (fun z=>V.str z)
   rw[lM0] at this;exact this] at hDn2
  refine⟨D2,R.map (·.sort),rfl,by rw[hDn2,eTs,mN0,hhd],(fun z hz=>?_),fun H3 s3=>?_⟩
  ·obtain⟨T,hT',rfl⟩:=mM0.mp hz
   exact hsd T hT'
  have S3:a0r H H3:=(SX.trans sm2).trans s3;clear SX eHX hD2 sm2 hDn2 s3;clear H2;obtain⟨HX,eHX⟩:∃HX,HX=H3:=⟨_,rfl⟩;have SX:a0r H HX:=by rw[eHX];exact S3
  rw[<-eHX];refine⟨_,rfl,l,rfl,⟨_,SqL.of (SX _ _ hP.1)⟩,fun D4 hD4=>?_⟩;refine a3h Ts.length (fun i=>.str ((Ts.map (·.name)).getD i "")) (fun i σ' Hc=>(∃t0 t1 t2,σ'=[t0,t1,t2])/\a0r HX Hc) (by rw[sizeLine_eq];omega) ⟨⟨_,_,_,rfl⟩,a0r.upd hD4⟩ a0d ?_ ?_
  ·rintro i σ' Hc hi ⟨⟨t0,t1,t2,rfl⟩,sm⟩ hD'
   have hie:i<es.length:=by omega
   have hid:i<ds.length:=by omega
   have sc:=SX.trans sm;have pt:=hP.2.2.2 i es[i] ds[i] Ts[i] (gE0 hie) (gE0 hid) (gE0 hi);refine⟨⟨_,V.ref es[i],SqL.of (sc _ _ hP.1),by rw[gM0,gE0 hie];rfl⟩,?_⟩;rintro x H' ⟨rfl,hx'⟩;have ex:=hx' _ (SqL.of (sc _ _ hP.1));rw[gM0,gE0 hie] at ex;cases ex;refine⟨_,_,rfl,SqT.of (sc _ _ pt.1),rfl,_,_,rfl,_,_,rfl,_,_,rfl,rfl,_,rfl,?_,hD',⟨_,_,_,rfl⟩,sm.put hD4⟩;rw[List.getD_eq_getElem?_getD,gM0,gE0 hi]
   rfl
  rintro σ4 H4 ⟨_,sm4⟩ hDn4;refine⟨⟨_,SqL.of ((SX.trans sm4) _ _ hP.1),by rw[lM0];omega⟩,?_⟩;rw[show(List.range Ts.length).map (fun i=>V.str ((Ts.map (·.name)).getD i ""))=(Ts.map (·.name)).map V.str from by
   have:=a1J (Ts.map (·.name)) ("":Str) (fun z=>V.str z)
   rw[lM0] at this;exact this] at hDn4
  refine⟨D4,Ts.map (·.name),rfl,hDn4,ndn,(fun z hz=>?_),fun H5 s5=>?_⟩
  ·obtain⟨T,hT',rfl⟩:=mM0.mp hz
   exact hnm T hT'
  have S5:a0r H H5:=(SX.trans sm4).trans s5;refine⟨_,rfl,l,rfl,⟨_,SqL.of (S5 _ _ hP.1)⟩,fun D6 hD6=>?_⟩;have hD60:H D6=none:=by
   cases e:H D6 with
   |none=>rfl
   |some o=>rw[S5 _ _ e] at hD6;cases hD6
  refine a1Q Ts.length (fun i ys σ' Hc=>(∃t0 t1 t2,σ'=[t0,t1,t2])/\a0r H Hc/\∃es':List Addr,ys=es'.map V.ref/\∀(j:Nat) (e:Addr) (T:Tb),es'[j]? =some e->Ts[j]? =some T->a2x Hc e T) (by rw[sizeLine_eq];omega) ⟨⟨_,_,_,rfl⟩,S5.trans (a0r.upd hD6),[],rfl,fun j e T h=>nomatch h⟩ a0d ?_ ?_
  ·rintro i σ' Hc ys hi ⟨⟨t0,t1,t2,rfl⟩,sm,es',rfl,hes⟩ hyl hD'
   rw[lM0] at hyl;have hie:i<es.length:=by omega
   have hid:i<ds.length:=by omega
   have pt:=hP.2.2.2 i es[i] ds[i] Ts[i] (gE0 hie) (gE0 hid) (gE0 hi);refine⟨⟨_,V.ref es[i],SqL.of (sm _ _ hP.1),by rw[gM0,gE0 hie];rfl⟩,?_⟩;rintro x H' ⟨rfl,hx'⟩;have ex:=hx' _ (SqL.of (sm _ _ hP.1));rw[gM0,gE0 hie] at ex;cases ex;refine⟨_,_,rfl,SqT.of (sm _ _ pt.1),rfl,_,_,rfl,_,_,rfl,_,_,rfl,rfl,?_⟩;refine⟨_,rfl,_,rfl,_,rfl,ds[i],Ts[i].cols,rfl,sm _ _ pt.2.1,pt.2.2.sb sm.sb,fun t H7 s7 hct=>?_⟩;refine⟨(by exact sl3),fun p hp=>?_⟩;have T:=a0r.upd (o:=.tup [.str Ts[i].name,.str Ts[i].sort,.ref t]) hp;have nD:a4N ((L2.upd H7 p (.tup [.str Ts[i].name,.str Ts[i].sort,.ref t])) D6):=a4N.lst (T _ _ (s7 _ _ hD'));refine⟨T _ _ (s7 _ _ hD'),⟨_,_,_,rfl⟩,((sm.trans s7).trans T).put hD60,es'++[p],by rw[mA0];rfl,fun j e T' h1 h2=>?_⟩
   by_cases hj:j<es'.length
   ·rw[gL0 hj] at h1
    exact((hes j e T' h1 h2).same (s7.trans T)).beside nD
   ·have hj':j=es'.length:=by
     have:=(gS0.mp h1).1
     rw[lA0] at this;simp at this
     omega
    subst hj';rw[gR0 (nR0 _),Nat.sub_self] at h1;cases h1;rw[hyl,gE0 hi] at h2;cases h2;exact a2x.beside nD ⟨t,a0d,hct.same T⟩
  rintro σ6 H6 ys ⟨_,S6,es',rfl,hes⟩ hD6n hyl;rw[lM0] at hyl;refine⟨⟨_,SqL.of (S6 _ _ hP.1),by rw[lM0];omega⟩,?_⟩;refine⟨_,rfl,_,rfl,D6,_,rfl,SqL.of hD6n,fun p7 e7=>?_⟩;rw[a7Z (by decide) (by rw[lM0];omega),<-List.map_drop];have T7:=a0r.upd (o:=.lst ((es'.drop (1:Int).toNat).map V.ref)) e7;have S7:=S6.trans T7;refine b1i (hTab.same S7) fun lf c' H8 sb8 fr8 tab8 hlf hc8=>?_;have hPF:∀o,H PF=some o->∃ps,o=.tbl ps:=fun o e=>by
   rcases hTab with h |⟨c'',h,_⟩
   ·rw[h] at e;cases e;exact⟨_,rfl⟩
   ·rw[h] at e;cases e;exact⟨_,rfl⟩
  have SB8:=S7.sb.trans sb8;have FR8:Fr PF H H8:=fun b o nb e=>by
   have:=S7 _ _ e
   rw[fr8 b nb (by rw[this];simp)];exact this
  have hes8:∀(j:Nat) (e:Addr) (T:Tb),es'[j]? =some e->Ts[j]? =some T->a2x H8 e T:=fun j e T a b=>((hes j e T a b).same T7).sb sb8;refine⟨p7,lf,c',_,R.map (·.name),rfl,rfl,hlf,hc8,SqL.of (sb8 _ _ rfl a0d),?_,?_,?_,(fun i v z h1 h2=>?_),fun l9 ix n9 hix hri=>?_⟩
  ·rw[lM0,lM0,List.length_drop]
   show R.length=es'.length-1
   omega
  ·rw[eTs,mN0] at ndn
   exact(List.nodup_cons.mp ndn).2
  ·rw[lM0,List.length_drop]
   show es'.length-1<64
   omega
  ·have h1':(es'.drop 1)[i]?.map V.ref=some v:=by rw[<-gM0];exact h1
   rw[List.getElem?_drop] at h1';obtain⟨e,he,rfl⟩:=Option.map_eq_some_iff.mp h1';rw[gM0] at h2;obtain⟨T,hT',rfl⟩:=Option.map_eq_some_iff.mp h2;obtain⟨ct,g1,_⟩:=hes8 (1+i) e T he (by rw[eTs,Nat.add_comm,List.getElem?_cons_succ];exact hT');exact⟨_,rfl,_,_,0,_,rfl,rfl,SqT.of g1,rfl,rfl,rfl⟩
  rw[lM0,List.length_drop] at hix;have hix':ix.Perm (List.range R.length):=by
   have:es'.length-(1:Int).toNat=R.length:=by
    show es'.length-1=R.length
    omega
   rw[this] at hix;exact hix
  have ixlt:∀i∈ix,i<R.length:=fun i hi=>List.mem_range.mp (hix'.mem_iff.mp hi);have elst:(ix.map fun i=>((es'.drop (1:Int).toNat).map V.ref).getD i .non)=(ix.map fun i=>(es'.drop 1).getD i 0).map V.ref:=by
   rw[mC0];refine List.map_congr_left fun i hi=>?_;have hl:i<(es'.drop 1).length:=by
    rw[List.length_drop]
    have:=ixlt i hi
    omega
   show(((es'.drop 1).map V.ref).getD i .non)=V.ref ((es'.drop 1).getD i 0)
   rw[List.getD_eq_getElem?_getD,List.getD_eq_getElem?_getD,gM0,gE0 hl]
   rfl
  rw[elst];have T9:=a0r.upd (o:=.lst ((ix.map fun i=>(es'.drop 1).getD i 0).map V.ref)) n9;have hD9:=T9 _ _ (sb8 _ _ rfl (T7 _ _ hD6n));have ixl:ix.length=R.length:=by rw[hix'.length_eq,List.length_range]
  have he0:0<es'.length:=by omega
  have etk:es'.take (1:Int).toNat=[es'[0]]:=by
   show es'.take 1=[es'[0]];cases es' with
   |nil=>simp at he0
   |cons a r=>rfl
  refine⟨_,rfl,_,rfl,_,rfl,D6,_,rfl,SqL.of hD9,fun p10 e10=>?_⟩;rw[b2f (by decide) (by rw[lM0];omega),<-List.map_take,etk];have T10:=a0r.upd (o:=.lst ([es'[0]].map V.ref)) e10;refine⟨_,rfl,p10,l9,_,_,rfl,rfl,a0d,T10 _ _ a0d,?_,fun p11 e11=>?_⟩
  ·rw[lM0,lM0,lM0,sizeLine_eq,ixl]
   simp only[List.length_cons,List.length_nil]
   omega
  rw[show([es'[0]].map V.ref++(ix.map fun i=>(es'.drop 1).getD i 0).map V.ref)=(es'[0]::ix.map fun i=>(es'.drop 1).getD i 0).map V.ref from rfl];have T11:=a0r.upd (o:=.lst ((es'[0]::ix.map fun i=>(es'.drop 1).getD i 0).map V.ref)) e11;refine⟨p11,_,rfl,.inl ⟨SqL.of a0d,fun t12 e12=>?_⟩⟩;have T12:=a0r.upd (o:=.tup ((es'[0]::ix.map fun i=>(es'.drop 1).getD i 0).map V.ref)) e12;refine⟨(by exact sl2),fun f13 e13=>?_⟩;have T13:=a0r.upd (o:=.tup [.int sz,.ref t12]) e13;have S13:=T9.trans (T10.trans (T11.trans (T12.trans T13)));refine q f13 _ (ix.map fun i=>R.getD i T0) (SB8.trans S13.sb) (fun b o nb e=>S13 _ _ (FR8 b o nb e)) (tab8.same S13) (L2.a9v T0 R hix') ?_ ⟨t12,es'[0]::ix.map fun i=>(es'.drop 1).getD i 0,a0d,T13 _ _ a0d,?_,fun j e T h1 h2=>?_⟩
  ·have:(ix.map fun i=>(R.map (·.name)).getD i ("":Str))=(ix.map fun i=>R.getD i T0).map (·.name):=by
    rw[mC0];refine List.map_congr_left fun i hi=>?_;have hl:=ixlt i hi
    show(R.map (·.name)).getD i ("":Str)=(R.getD i T0).name
    rw[List.getD_eq_getElem?_getD,List.getD_eq_getElem?_getD,gM0,gE0 hl]
    rfl
   rw[<-this];exact hri
  ·rw[List.length_cons,List.length_cons,lM0,lM0]
  ·refine a2x.same ?_ S13
   cases j with
   |zero=>
    cases h1;cases h2;exact hes8 0 es'[0] T0 (gE0 he0) (by rw[eTs];rfl)
   |succ j=>
    rw[List.getElem?_cons_succ,gM0] at h1 h2;obtain⟨i,hi,rfl⟩:=Option.map_eq_some_iff.mp h1;rw[hi] at h2;cases h2;have hl:=ixlt i (gI0 hi);have hl2:i<(es'.drop 1).length:=by rw[List.length_drop];omega
    refine hes8 (1+i) _ _ ?_ ?_
    ·show es'[1+i]? =some ((es'.drop 1).getD i 0)
     rw[<-List.getElem?_drop,List.getD_eq_getElem?_getD,gE0 hl2]
     rfl
    ·show Ts[1+i]? =some (R.getD i T0)
     rw[eTs,Nat.add_comm,List.getElem?_cons_succ,List.getD_eq_getElem?_getD,gE0 hl]
     rfl
end
def leS (a b:Str):Bool:=!decide (b.cps.toList<a.cps.toList)
theorem a3c {a b:Str}:leS a b=true↔a.cps.toList<=b.cps.toList:=by
 unfold leS;rw[Bool.not_eq_true',decide_eq_false_iff_not];exact Iff.rfl
theorem a6j (a b c:Str)(h:leS a b=true)(h':leS b c=true):leS a c=true:=a3c.mpr (List.le_trans (a3c.mp h) (a3c.mp h'))
theorem b0R {a b:Str}(h:a.cps.toList=b.cps.toList):a=b:=Str.ext' (Array.toList_inj.mp h)
theorem a5y {a b:Str}(h:leS a b=true)(h':leS b a=true):a=b:=b0R (List.le_antisymm (a3c.mp h) (a3c.mp h'))
theorem a6e:∀{l:List Str} {p:Str},PyProof.Rows.risingS p l=true->(p::l).Pairwise fun a b=>leS a b=true
 |[],p,_=>List.pairwise_singleton _ _
 |x::r,p,h=>by
  unfold PyProof.Rows.risingS at h;rw[Bool.and_eq_true] at h;have hx:leS p x=true:=by
   unfold leS;rw[PyProof.Rows.le_meets];exact h.1
  have ih:=a6e (l:=r) (p:=x) h.2;refine List.Pairwise.cons (fun y hy=>?_) ih;rcases mK0.mp hy with rfl |hy
  ·exact hx
  ·exact a6j p x y hx ((List.pairwise_cons.mp ih).1 y hy)
theorem a2T:∀{l:List Str},PyProof.Rows.sortedS l=true->l.Pairwise fun a b=>leS a b=true
 |[],_=>List.Pairwise.nil
 |x::r,h=>a6e h
theorem a6y {l m k:List Str}(h1:sortedS l=true)(h2:sortedS m=true)(p1:l.Perm k)(p2:m.Perm k):l=m:=
 List.Perm.eq_of_pairwise (fun a b _ _ h1 h2=>a5y h1 h2) (a2T h1) (a2T h2) (p1.trans p2.symm)
def Sl (d:Addr)(H H':Hp):Prop:=∀b o,b≠d->H b=some o->H' b=some o
theorem Sl.of {d:Addr}{H H':Hp}(s:a0r H H'):Sl d H H':=fun b o _ e=>s b o e
theorem Sl.put {d:Addr}{H H1 H2:Hp}{o:HO}(a:Sl d H H1)(s:a0r H1 H2):Sl d H (L2.upd H2 d o):=fun b u nb e=>by
 rw[a0g nb];exact s _ _ (a b u nb e)
theorem a1D.besideL {H:Hp}{D e d:Addr}{u:HO}{ys:List V}{T:Tb}(hD:H D=some (.lst ys))(h:a1D H e d T):a1D (L2.upd H D u) e d T:=by
 refine⟨?_,?_,h.2.2.1,h.2.2.2.1,fun p hp=>⟨(h.2.2.2.2 p hp).1,?_⟩⟩
 ·rw[a0g (fun q=>by have:=h.1;rw[q,hD] at this;cases this)];exact h.1
 ·rw[a0g (fun q=>by have:=h.2.1;rw[q,hD] at this;cases this)];exact h.2.1
 ·obtain⟨dt,h1,h2,h3⟩:=(h.2.2.2.2 p hp).2
  exact⟨dt,Rep.beside (fun xs q=>by rw[hD] at q;cases q) h3 h1,h2,h3⟩
end My
namespace L2
open PySem PySem.Spec PyProof.Rows
theorem a9H {J:It}{g:TG}{tt:TT}{te:TE}{R:Addr->Hp->Prop}{D:Addr}{σ0:St}{H0:Hp}(n:Nat)(Pv:Nat->List V->St->Hp->Prop)(hn:n<=sizeLine)(h0:Pv 0 [] σ0 H0)(hD0:H0 D=some (.lst []))
  (hs:∀i σ H ys,i<n->Pv i ys σ H->H D=some (.lst ys)->J.go i H/\∀x H',J.yld i H x H'->g x σ H' fun σ2 H2=>tt σ2 H2 fun b H3=>if b=true then te σ2 H3 (fun y H4=>H4 D=some (.lst ys)/\Pv (i+1) (ys++[y]) σ2 (upd H4 D (.lst (ys++[y])))) else H3 D=some (.lst ys)/\Pv (i+1) ys σ2 H3)
  (hd:∀σ H ys,Pv n ys σ H->H D=some (.lst ys)->J.stop n H/\R D H):a8g J g tt te R D σ0 H0:=by
 refine⟨fun i m σ H=>m=n-i/\i<=n/\∃ys,Pv i ys σ H/\H D=some (.lst ys)/\ys.length<=i,⟨n,by omega,zL0 _,[],h0,hD0,nR0 _⟩,?_⟩;rintro i m σ H ⟨rfl,hi,ys,p,hD,hl⟩
 by_cases hlt:i<n
 ·obtain⟨go,st⟩:=hs i σ H ys hlt p hD
  refine .inr ⟨go,fun σ2 y H4=>H4 D=some (.lst ys)/\Pv (i+1) (ys++[y]) σ2 (upd H4 D (.lst (ys++[y]))),fun σ2 H3=>H3 D=some (.lst ys)/\Pv (i+1) ys σ2 H3,?_,?_,st⟩
  ·rintro σ2 y H4 ⟨e,p'⟩
   exact⟨_,e,by omega,n-(i+1),by omega,rfl,hlt,_,p',a0d,by simp;omega⟩
  ·rintro σ2 H3 ⟨e,p'⟩
   exact⟨n-(i+1),by omega,rfl,hlt,_,p',e,by omega⟩
 ·have e:i=n:=by omega
  subst e;exact .inl (hd σ H ys p hD)
def b4D (K:Fg0)(xs:List V)(H:Hp)(Q:VK):Prop:=∃(t:Addr) (o:Obj) (ys:List V) (kvs:List (Key×V)),xs=[.ref t]/\H t=some (.frz o (.tup ys))/\o.dict=none/\ys.length<=1000/\kvs.length=ys.length ∧
  (∀(j:Nat) (k:Key) (v:V),kvs[j]? =some (k,v)->∃a,ys[j]? =some (.ref a)/\SqT K H a [kV k,v])/\(kvs.map (·.1)).Nodup/\∀p,H p=none->Q (.ref p) (upd H p (.dK kvs))
theorem a6D {X:Cx}{K:Fg0}(hK:X.K=K)(hc:X.calm=true):a1u X (.type "dict") (b4D K):=by
 subst hK;exact a4E hc
end L2
namespace My
open PySem L2 PyProof.Rows
def srt (l:List Str):List Str:=l.mergeSort leS
theorem a0J (l:List Str):(srt l).Perm l:=List.mergeSort_perm l leS
theorem b0d (a b:Str):(leS a b || leS b a)=true:=by
 rw[Bool.or_eq_true];rcases List.le_total a.cps.toList b.cps.toList with h |h
 ·exact .inl (a3c.mpr h)
 ·exact .inr (a3c.mpr h)
theorem a5I (l:List Str):(srt l).Pairwise fun a b=>leS a b=true:=List.pairwise_mergeSort a6j b0d l
theorem b2l {l m:List Str}(h1:l.Pairwise fun a b=>leS a b=true)(h2:m.Pairwise fun a b=>leS a b=true)(p:l.Perm m):l=m:=List.Perm.eq_of_pairwise (fun a b _ _ h1 h2=>a5y h1 h2) h1 h2 p
theorem b3C {zs l:List Str}(p:zs.Perm l)(h:sortedS zs=true):zs=srt l:=b2l (a2T h) (a5I l) (p.trans (a0J l).symm)
theorem b2B (l:List Str):srt (srt l)=srt l:=b2l (a5I _) (a5I _) (a0J _)
def cnC (cols:List (Str×V)):List (Str×V):=(srt (cols.map (·.1))).map fun z=>(z,vOf cols z)
def cn (T:Tb):Tb:=⟨T.name,T.sort,cnC T.cols⟩
def nmS (T:Tb):Str×Str:=(T.name,T.sort)
theorem a0S (cols:List (Str×V)):(cnC cols).map (·.1)=srt (cols.map (·.1)):=by
 unfold cnC;rw[mC0];exact List.map_id _
theorem b2g (cols:List (Str×V)):kvC (cnC cols)=(srt (cols.map (·.1))).map fun z=>(.inr z,vOf cols z):=by
 unfold kvC cnC;rw[mC0]
 rfl
theorem a7m {zs:List Str}{f:Str->V}{z:Str}(h:z∈zs):a2g (zs.map fun z=>((.inr z:Key),f z)) (.inr z)=some (f z):=by
 induction zs with
 |nil=>cases h
 |cons y r ih=>
  by_cases e:y=z
  ·rw[mN0,a1K (by rw[e]),e]
  ·rw[mN0,a2i (fun q=>e (by injection q))]
   rcases mK0.mp h with h |h
   ·exact absurd h.symm e
   ·exact ih h
theorem a2D {cols:List (Str×V)}{z:Str}(h:z∈cols.map (·.1)):vOf (cnC cols) z=vOf cols z:=by
 have e:a2g (kvC (cnC cols)) (.inr z)=some (vOf cols z):=by
  rw[b2g];exact a7m ((a0J _).mem_iff.mpr h)
 unfold vOf at e ⊢;rw[e]
 rfl
theorem b3f (cols:List (Str×V)):cnC (cnC cols)=cnC cols:=by
 show(srt ((cnC cols).map (·.1))).map (fun z=>(z,vOf (cnC cols) z))=cnC cols
 rw[a0S,b2B];refine List.map_congr_left fun z hz=>?_;rw[a2D ((a0J _).mem_iff.mp hz)]
theorem a8G (T:Tb):cn (cn T)=cn T:=by
 unfold cn;rw[b3f]
theorem a1F.cn {H:Hp}{t:Addr}{cols:List (Str×V)}(h:a1F H t cols):a1F H t (cnC cols):=by
 obtain⟨o,ps,zs,h1,h2,h3,h4,h5,h6⟩:=h;refine⟨o,ps,zs,by rw[a0S];exact h1.trans (a0J _).symm,h2,h3,h4,h5,fun j p z a b=>?_⟩;rw[a2D (h1.mem_iff.mp (gI0 b))];exact h6 j p z a b
theorem a1f.cn {H:Hp}{f:Addr}{sz:Int}{Ts:List Tb}(h:a1f H f sz Ts):a1f H f sz (Ts.map cn):=by
 obtain⟨tt,es,h1,h2,h3,h4⟩:=h;refine⟨tt,es,h1,h2,by rw[lM0];exact h3,fun j e T a b=>?_⟩;rw[gM0] at b;obtain⟨T',hT,rfl⟩:=Option.map_eq_some_iff.mp b;obtain⟨ct,g1,g2⟩:=h4 j e T' a hT;exact⟨ct,g1,g2.cn⟩
theorem a2F {H:Hp}{cols:List (Str×V)}(ok:a0G H cols){z:Str}(h:z∈cols.map (·.1)):a0T z=true/\∃d,Rep H d (vOf cols z)/\a1H d=true/\a1V d=true:=by
 have hval:=a4q h;unfold a2g at hval;obtain⟨kv,hf,e⟩:=Option.map_eq_some_iff.mp hval;have hmem:=List.mem_of_find?_eq_some hf;have hk:=List.find?_some hf;obtain⟨pr,hpr,rfl⟩:=mM0.mp hmem;obtain⟨hn,d,h1,h2,h3⟩:=ok.2.2 pr hpr;have ez:pr.1=z:=by
  have:(Sum.inr pr.1:Key)=.inr z:=by simpa using hk
  injection this
 rw[<-e,<-ez];exact⟨hn,d,h1,h2,h3⟩
theorem a0G.cn {H:Hp}{cols:List (Str×V)}(ok:a0G H cols):a0G H (cnC cols):=by
 refine⟨by rw[a0S];exact(a0J _).nodup_iff.mpr ok.1,?_,fun p hp=>?_⟩
 ·unfold cnC
  rw[lM0,(a0J _).length_eq,lM0];exact ok.2.1
 ·obtain⟨z,hz,rfl⟩:=mM0.mp hp
  exact a2F ok ((a0J _).mem_iff.mp hz)
theorem b0f.perm {T0 X0:Tb}{R X:List Tb}(h:b0f T0 R)(e:nmS X0=nmS T0)(p:(X.map nmS).Perm (R.map nmS)):b0f X0 X:=by
 have e1:X0.name=T0.name:=congrArg Prod.fst e;have e2:X0.sort=T0.sort:=congrArg Prod.snd e;have nn:∀L:List Tb,L.map (·.name)=(L.map nmS).map (·.1):=fun L=>by rw[mC0];rfl
 have pn:(X.map (·.name)).Perm (R.map (·.name)):=by rw[nn,nn];exact p.map _
 have mem:∀T∈X,∃T'∈R,nmS T'=nmS T:=fun T hT=>by
  obtain⟨T',h1,h2⟩:=mM0.mp (p.mem_iff.mp (mM0.mpr ⟨T,hT,rfl⟩));exact⟨T',h1,h2⟩
 obtain⟨h7,nd,hn,hh,hs⟩:=h;refine⟨?_,?_,fun T hT=>?_,by rw[e2];exact hh,fun T hT=>?_⟩
 ·have:=p.length_eq
  rw[lM0,lM0] at this
  omega
 ·rw[mN0] at nd ⊢
  rw[e1];exact((pn.cons _).nodup_iff).mpr nd
 ·rcases mK0.mp hT with rfl |hT
  ·rw[e1];exact hn T0 List.mem_cons_self
  ·obtain⟨T',h1,h2⟩:=mem T hT
   have e3:T'.name=T.name:=congrArg Prod.fst h2;rw[<-e3];exact hn T' (mL0 _ h1)
 ·obtain⟨T',h1,h2⟩:=mem T hT
  have e3:T'.sort=T.sort:=congrArg Prod.snd h2;rw[<-e3];exact hs T' h1
def FAt (H:Hp)(f:Addr)(sz:Int)(T0:Tb)(R:List Tb):Prop:=∃U:List Tb,a1f H f sz (cn T0::U)/\U.Perm (R.map cn)/\a5M (U.map (·.name))
theorem FAt.sb {H H':Hp}{f:Addr}{sz:Int}{T0:Tb}{R:List Tb}(h:FAt H f sz T0 R)(s:Sb H H'):FAt H' f sz T0 R:=by
 obtain⟨U,h1,h2,h3⟩:=h;exact⟨U,h1.sb s,h2,h3⟩
theorem a2v (L:List Tb):(L.map cn).map (·.name)=L.map (·.name):=by rw[mC0];rfl
theorem a4G (L:List Tb):(L.map cn).map nmS=L.map nmS:=by rw[mC0];rfl
theorem FAt.of {H:Hp}{f:Addr}{sz:Int}{X0 T0:Tb}{V X R:List Tb}(h:a1f H f sz (X0::V))(e0:cn X0=cn T0)(p:V.Perm X)(pr:(X.map cn).Perm (R.map cn))(hr:a5M (V.map (·.name))):FAt H f sz T0 R:=by
 refine⟨V.map cn,?_,(p.map cn).trans pr,by rw[a2v];exact hr⟩
 have:=h.cn
 rw[mN0,e0] at this;exact this
structure FK (H:Hp) (f:Addr) (sz:Int) (T0:Tb) (R:List Tb):Prop where
 at_:FAt H f sz T0 R
 ts:b0f T0 R
 co:∀T∈T0::R,a0G H T.cols
 sz1:1<=sz
theorem FK.get {H:Hp}{f:Addr}{sz:Int}{T0:Tb}{R:List Tb}(h:FK H f sz T0 R):∃U:List Tb,a1f H f sz (cn T0::U)/\U.Perm (R.map cn)/\(∀T∈cn T0::U,cn T=T)/\(∀T∈cn T0::U,a0G H T.cols)/\(cn T0::U).length<=8/\b0f (cn T0) U/\U.map cn=U:=by
 obtain⟨U,h1,h2,h3⟩:=h.at_;have mem:∀T∈U,∃T'∈R,cn T'=T:=fun T hT=>by
  obtain⟨T',a,b⟩:=mM0.mp (h2.mem_iff.mp hT);exact⟨T',a,b⟩
 have fx:∀T∈U,cn T=T:=fun T hT=>by
  obtain⟨T',_,rfl⟩:=mem T hT;exact a8G T'
 refine⟨U,h1,h2,fun T hT=>?_,fun T hT=>?_,?_,h.ts.perm rfl ?_,?_⟩
 ·rcases mK0.mp hT with rfl |hT
  ·exact a8G T0
  ·exact fx T hT
 ·rcases mK0.mp hT with rfl |hT
  ·exact(h.co T0 List.mem_cons_self).cn
  ·obtain⟨T',a,rfl⟩:=mem T hT
   exact(h.co T' (mL0 _ a)).cn
 ·have:=h2.length_eq
  rw[lM0] at this
  have:=h.ts.1
  rw[List.length_cons]
  omega
 ·rw[<-a4G R]
  exact h2.map _
 ·exact(List.map_congr_left fx).trans (List.map_id _)
theorem a1D.same {H H':Hp}{e d:Addr}{T:Tb}(h:a1D H e d T)(s:a0r H H'):a1D H' e d T:=h.sb s.sb
theorem a2b.same {H H':Hp}{l:Addr}{es ds:List Addr}{Ts:List Tb}(h:a2b H l es ds Ts)(s:a0r H H'):a2b H' l es ds Ts:=h.sb s.sb
theorem a2b.snoc {H:Hp}{l l' p cd:Addr}{es ds:List Addr}{Ts:List Tb}{T:Tb}(h:a2b H l es ds Ts)(hl:H l'=some (.lst ((es++[p]).map V.ref)))(hp:a1D H p cd T):a2b H l' (es++[p]) (ds++[cd]) (Ts++[T]):=by
 obtain⟨_,h2,h3,h4⟩:=h;refine⟨hl,by rw[lA0,lA0,h2];rfl,by rw[lA0,lA0,h3];rfl,fun j e d T' a b c=>?_⟩
 by_cases hj:j<Ts.length
 ·rw[gL0 (by omega)] at a b c
  exact h4 j e d T' a b c
 ·have:j=Ts.length:=by
   have:=(gS0.mp c).1
   rw[lA0] at this;simp at this
   omega
  subst this;rw[gR0 (by omega),h2,Nat.sub_self] at a;rw[gR0 (by omega),h3,Nat.sub_self] at b;rw[gR0 (by omega),Nat.sub_self] at c;cases a;cases b;cases c;exact hp
seal L2.PE L2.PT L2.PW L2.PS L2.PSs L2.PA L2.PI L2.PG L2.PGs L2.OpR L2.UnR L2.a1u L2.IxR L2.SlR L2.MtR L2.PIf L2.PO L2.MtM L2.PC
def a4U:Sp:=fun vs H Q _=>∃(f:Addr) (sz:Int) (Ts:List Tb),vs=[.ref f]/\a1f H f sz Ts/\(∀T∈Ts,cn T=T)/\(∀T∈Ts,a0G H T.cols)/\Ts.length<=8/\∀l es ds H',a0r H H'->H l=none->a2b H' l es ds Ts->Q (.ref l) H'
section
variable {P:Program}{w:World}{K:Fg0}{mg:Str->Option Value}{base:Heap}{CT CO CN:Addr}
theorem b1g {f:Addr}{fd:FuncData}(F:Fun K "parts_of" "parts_of" (top 28) f fd)(B:Bl mg):a0x P w K mg base CX0 1 f fd ["form"] a4U:=by
 have sc:a0o ["form"] ["form"] (a0f (top 28)):=.k (by decide +kernel);refine F.ok sc (fun vs H Q E h=>?_) (fun cdv A outer s H vs Q E hr h=>?_)
 ·obtain⟨f,sz,Ts,rfl,_⟩:=h
  rfl
 ·obtain⟨f,sz,Ts,rfl,⟨tt,es0,h1,h2,h3,h4⟩,fx,co,t8,q⟩:=h
  refine⟨_,a0h (a0z (a1T (osc:=a0f (top 28)) (N0:=["form"]) (xs:=["name","sort","columns"]) (fr:=[]) ⟨rfl,by decide +kernel,by decide +kernel,by decide +kernel,by decide,by decide +kernel⟩ rfl rfl rfl (a3p (a0s a1n (pv 0) a0e (fun _ _=>rfl)))
     (fun s H fp=>a4V (K:=K) (n:=3) rfl rfl (a0N (a0E (i:=0) (show(["name","sort","columns"]:List Str).Nodup by decide +kernel) rfl (Or.inl rfl)) (a0N (a0E (i:=1) (show(["name","sort","columns"]:List Str).Nodup by decide +kernel) rfl (Or.inl rfl)) (a0N (a0E (i:=2) (show(["name","sort","columns"]:List Str).Nodup by decide +kernel) rfl (Or.inl rfl)) a2t)))) (fun s H fp=>a1U)
     (fun s H fp=>a0D (a0a (pv 0) (a0a (pv 1) (a0a (a0V (a6D (K:=K) rfl rfl) (by rfl) B.dict boot_dict (a0a (pv 2) a0b)) a0b)))))),?_⟩
  refine⟨_,rfl,_,_,1,_,rfl,rfl,SqT.of h1,rfl,tt,rfl,⟨_,SqT.of h2⟩,fun D hD=>?_⟩;refine a1Q Ts.length (fun i ys σ' Hc=>(∃t0 t1 t2,σ'=[t0,t1,t2])/\a0r H Hc/\∃es ds:List Addr,ys=es.map V.ref/\ds.length=i/\∀(j:Nat) (e d:Addr) (T:Tb),es[j]? =some e->ds[j]? =some d->Ts[j]? =some T->a1D Hc e d T) (by rw[sizeLine_eq];omega) ⟨⟨_,_,_,rfl⟩,a0r.upd hD,[],[],rfl,rfl,fun j e d T h=>nomatch h⟩ a0d ?_ ?_
  ·rintro i σ' Hc ys hi ⟨⟨t0,t1,t2,rfl⟩,sm,es,ds,rfl,hdl,hpt⟩ hyl hD'
   rw[lM0] at hyl;have hie:i<es0.length:=by omega
   refine⟨⟨_,V.ref es0[i],SqT.of (sm _ _ h2),by rw[gM0,gE0 hie];rfl⟩,?_⟩;rintro x H' ⟨rfl,hx'⟩;have ex:=hx' _ (SqT.of (sm _ _ h2));rw[gM0,gE0 hie] at ex;cases ex;obtain⟨ct,g1,o,ps,zs,hpm,hso,ho,hct,hpl,hpz⟩:=h4 i es0[i] Ts[i] (gE0 hie) (gE0 hi);have eT:=fx Ts[i] (List.getElem_mem hi);have cT:=co Ts[i] (List.getElem_mem hi);obtain⟨T,eTi⟩:∃T,Ts[i]=T:=⟨_,rfl⟩;rw[eTi] at g1 hpm hpz eT cT;have hzl:zs.length<=12:=by
    have:=hpm.length_eq
    rw[lM0] at this
    have:=cT.2.1
    omega
   have ekv:zs.map (fun z=>((.inr z:Key),vOf T.cols z))=kvC T.cols:=by
    rw[b3C hpm hso,<-b2g,show cnC T.cols=T.cols from congrArg Tb.cols eT]
   refine⟨_,_,rfl,SqT.of (sm _ _ g1),rfl,_,_,rfl,_,_,rfl,_,_,rfl,rfl,?_⟩;refine⟨_,rfl,_,rfl,_,rfl,ct,o,_,zs.map (fun z=>(.inr z,vOf T.cols z)),rfl,sm _ _ hct,ho,(by rw[lM0];omega),(by rw[lM0,lM0];omega),(fun j k v hj=>?_),?_,fun d1 n1=>?_⟩
   ·have hjz:j<zs.length:=by
     have:=(gS0.mp hj).1
     rwa [lM0] at this
    have hjp:j<ps.length:=by omega
    rw[gM0,gE0 hjz] at hj;cases hj;exact⟨ps[j],by rw[gM0,gE0 hjp];rfl,SqT.of (sm _ _ (hpz j ps[j] zs[j] (gE0 hjp) (gE0 hjz)))⟩
   ·rw[mC0]
    have e:((fun x:Key×V=>x.1)∘fun z=>((Sum.inr z:Key),vOf T.cols z))=fun z=>(Sum.inr z:Key):=rfl;rw[e];exact List.Pairwise.map _ (fun a b hab h=>hab (by injection h)) (hpm.nodup_iff.mpr cT.1)
   rw[ekv];have T3:=a0r.upd (o:=.dK (kvC T.cols)) n1;refine⟨(by exact sl3),fun p hp=>?_⟩;have T4:=a0r.upd (o:=.tup [.str T.name,.str T.sort,.ref d1]) hp;have S4:=T3.trans T4;have hD4:=S4 _ _ hD';refine⟨hD4,⟨_,_,_,rfl⟩,(sm.trans S4).put hD,es++[p],ds++[d1],by rw[mA0];rfl,by rw[lA0,hdl];rfl,fun j e d T' a1 a2 a3=>?_⟩;refine a1D.besideL hD4 ?_
   by_cases hj:j<i
   ·rw[gL0 (by omega)] at a1 a2
    exact(hpt j e d T' a1 a2 a3).sb S4.sb
   ·have:j=i:=by
     have:=(gS0.mp a1).1
     rw[lA0] at this;simp at this
     omega
    subst this;rw[gR0 (by omega),hyl,Nat.sub_self] at a1;rw[gR0 (by omega),hdl,Nat.sub_self] at a2;cases a1;cases a2;rw[gE0 hi,eTi] at a3;cases a3;exact⟨a0d,T4 _ _ a0d,cT.same (sm.trans S4)⟩
  ·rintro σ' Hc ys ⟨_,sm,es,ds,rfl,hdl,hpt⟩ hDn hyl
   rw[lM0] at hyl;exact⟨⟨_,SqT.of (sm _ _ h2),by rw[lM0];omega⟩,q D es ds Hc sm hD ⟨hDn,hyl,hdl,hpt⟩⟩
end
theorem a7S {z:Str}(h:a0T z=true):z.length<=8:=by
 unfold a0T at h;exact(of_decide_eq_true (Bool.and_eq_true_iff.mp h).1).2
def a6J (PF:Addr):Sp:=fun vs H Q _=>∃(f:Addr) (sz:Int) (T0:Tb) (R:List Tb) (z so:Str) (cd:Addr) (cols:List (Str×V)),vs=[.ref f,.str z,.str so,.ref cd]/\FK H f sz T0 R/\H cd=some (.dK (kvC cols))/\a0G H cols/\a1O PF a2j foQ H ∧
 b0f T0 (R++[⟨z,so,cols⟩])/\∀f' H',Sb H H'->Fr PF H H'->a1O PF a2j foQ H'->FAt H' f' sz T0 (R++[⟨z,so,cols⟩])->Q (.ref f') H'
section
variable {P:Program}{w:World}{K:Fg0}{mg:Str->Option Value}{base:Heap}{PF:Addr}
theorem b1e {f fF fP:Addr}{fd fdF fdP:FuncData}(F:Fun K "with_table" "with_table" (top 30) f fd)(DF:Df K mg "form_of" (top 19) fF fdF)(GF:a0x P w K mg base CX0 6 fF fdF ["size","tables"] (a7t PF))(DP:Df K mg "parts_of" (top 28) fP fdP)(GP:a0x P w K mg base CX0 1 fP fdP ["form"] a4U) :
  a0x P w K mg base CX0 7 f fd ["form","name","sort","columns"] (a6J PF):=by
 have sc:a0o ["form","name","sort","columns"] ["form","name","sort","columns"] (a0f (top 30)):=.k (by decide +kernel);have bF:=DF.fn.b2 "size" "tables" (by intros;rfl);have bP:=DP.fn.b1 "form" (by intros;rfl);refine F.ok sc (fun vs H Q E h=>?_) (fun cdv A outer s H vs Q E hr h=>?_)
 ·obtain⟨f,sz,T0,R,z,so,cd,cols,rfl,_⟩:=h
  rfl
 ·obtain⟨f,sz,T0,R,z,so,cd,cols,rfl,fk,hcd,hco,tab,ts,q⟩:=h
  have hr1:a1g 1 _:=hr.mono (by decide);refine⟨_,a0h (a0z (a0i GF hr (by rfl) DF.mg DF.fn.kp bF .nil a0q (a0a (a0s a1n (pv 0) a0e (fun _ _=>rfl)) (a0a (a1p a8L (a0i GP hr1 (by rfl) DP.mg DP.fn.kp bP .nil a0q (a0a (pv 0) a0b)) (a1r (a0a (a0D (a0a (pv 1) (a0a (pv 2) (a0a (pv 3) a0b)))) a0b))) a0b)))),?_⟩;obtain⟨U,hF,hU,fx,co,t8,tsU,eU⟩:=fk.get;have hF1:=hF;obtain⟨tt,es0,h1,_⟩:=hF1;refine⟨_,rfl,_,_,0,_,rfl,rfl,SqT.of h1,rfl,?_⟩;refine⟨_,rfl,f,sz,cn T0::U,rfl,hF,fx,co,t8,fun l es ds H1 s1 nl hP=>?_⟩;refine⟨_,rfl,_,rfl,_,rfl,(by exact sl3),fun p hp=>?_⟩;have T1:=a0r.upd (o:=.tup [.str z,.str so,.ref cd]) hp;refine⟨(by exact sl1),fun l2 hl2=>?_⟩;have T2:=a0r.upd (o:=.lst [V.ref p]) hl2;have hel:es.length<=8:=by rw[hP.2.1];exact t8
  refine⟨l,l2,_,_,rfl,rfl,T2 _ _ (T1 _ _ hP.1),a0d,?_,fun l3 e3=>?_⟩
  ·rw[lM0,sizeLine_eq]
   simp only[List.length_cons,List.length_nil]
   omega
  have T3:=a0r.upd (o:=.lst (es.map V.ref++[V.ref p])) e3;have S3:=T1.trans (T2.trans T3);have SH:=s1.trans S3;have hl3:(L2.upd (L2.upd (L2.upd H1 p (.tup [.str z,.str so,.ref cd])) l2 (.lst [V.ref p])) l3 (.lst (es.map V.ref++[V.ref p]))) l3=some (.lst ((es++[p]).map V.ref)):=by rw[a0d,mA0];rfl
  have hp3:(L2.upd (L2.upd (L2.upd H1 p (.tup [.str z,.str so,.ref cd])) l2 (.lst [V.ref p])) l3 (.lst (es.map V.ref++[V.ref p]))) p=some (.tup [.str z,.str so,.ref cd]):=(T2.trans T3) _ _ a0d;refine⟨l3,sz,es++[p],ds++[cd],cn T0,U++[⟨z,so,cols⟩],rfl,fk.sz1,(hP.same S3).snoc hl3 ⟨hp3,SH _ _ hcd,hco.same SH⟩,ts.perm rfl ?_,tab.same SH,fun f' H' V sb fr tb pV hr hf=>?_⟩
  ·rw[mA0,mA0]
   refine List.Perm.append_right _ ?_;rw[<-a4G R];exact hU.map _
  ·refine q f' H' (SH.sb.trans sb) (fun b o nb e=>fr b o nb (SH b o e)) tb (FAt.of hf (a8G T0) pV ?_ hr)
   rw[mA0,mA0];refine List.Perm.append_right _ ?_;rw[eU];exact hU
def rc (z:Str)(cols:List (Str×V))(T:Tb):Tb:=if T.name=z then⟨T.name,T.sort,cols⟩ else T
theorem b4d (z:Str)(cols:List (Str×V))(T:Tb):nmS (rc z cols T)=nmS T:=by
 unfold rc
 split<;>rfl
theorem b3N (z:Str)(cols:List (Str×V))(T:Tb):cn (rc z cols (cn T))=cn (rc z cols T):=by
 unfold rc;show cn (if T.name=z then _ else _)=_
 split
 ·rfl
 ·exact a8G T
def a4d (PF:Addr):Sp:=fun vs H Q _=>∃(f:Addr) (sz:Int) (T0:Tb) (R:List Tb) (z:Str) (cd:Addr) (cols:List (Str×V)),vs=[.ref f,.str z,.ref cd]/\FK H f sz T0 R/\a1O PF a2j foQ H/\z∈(T0::R).map (·.name) ∧
 H cd=some (.dK (kvC cols))/\a0G H cols/\∀f' H',Sb H H'->Fr PF H H'->a1O PF a2j foQ H'->FAt H' f' sz (rc z cols T0) (R.map (rc z cols))->Q (.ref f') H'
def wcN:List Str:=["form","table","columns","parts","name","sort","had"]
theorem a1Y {U R:List Tb}{T0:Tb}(h:U.Perm (R.map cn)):((cn T0::U).map (·.name)).Perm ((T0::R).map (·.name)):=by
 rw[mN0,mN0];refine List.Perm.cons _ ?_;rw[<-a2v R];exact h.map _
theorem b0K {fself fF fP fT:Addr}{fd fdF fdP fdT:FuncData}(F:Fun K "with_columns" "with_columns" (top 29) fself fd)(DF:Df K mg "form_of" (top 19) fF fdF)(GF:a0x P w K mg base CX0 6 fF fdF ["size","tables"] (a7t PF))(DP:Df K mg "parts_of" (top 28) fP fdP)(GP:a0x P w K mg base CX0 1 fP fdP ["form"] a4U)
  (DT:Df K mg "table_in" (top 27) fT fdT) (GT:a0x P w K mg base CX0 1 fT fdT ["form","table"] a4s) :
  a0x P w K mg base CX0 7 fself fd ["form","table","columns"] (a4d PF):=by
 have sc:a0o wcN ["form","table","columns"] (a0f (top 29)):=.k (by decide +kernel);have bF:=DF.fn.b2 "size" "tables" (by intros;rfl);have bP:=DP.fn.b1 "form" (by intros;rfl);have bT:=DT.fn.b2 "form" "table" (by intros;rfl);refine F.ok sc (fun vs H Q E h=>?_) (fun cdv A outer s H vs Q E hr h=>?_)
 ·obtain⟨f,sz,T0,R,z,cd,cols,rfl,_⟩:=h
  rfl
 ·obtain⟨f,sz,T0,R,z,cd,cols,rfl,fk,tab,hz,hcd,hco,q⟩:=h
  have hr1:a1g 1 _:=hr.mono (by decide);refine⟨_,a0c (a0F (a0i GT hr1 (by rfl) DT.mg DT.fn.kp bT .nil a0q (a0a (pv 0) (a0a (pv 1) a0b))))
   (a0c (a0p (i:=3) sc.nd rfl (Or.inl rfl) (a1r a0b))
   (a0c (a2E PassesOwn.never rfl (a2C (a0i GP hr1 (by rfl) DP.mg DP.fn.kp bP .nil a0q (a0a (pv 0) a0b))) (a4P rfl (a0N (a0E (i:=4) sc.nd rfl (Or.inl rfl)) (a0N (a0E (i:=5) sc.nd rfl (Or.inl rfl)) (a0N (a0E (i:=6) sc.nd rfl (Or.inl rfl)) a2t))))
    (a0h (a0F (a6Y PySem.F.plainAttrs_list PySem.F.slot_list_append PySem.F.type_list_append a6u (pv 3) (a0a (a0D (a0a (pv 4) (a0a (pv 5) (a0a (b0V (a0t a1k (pv 4) (pv 1) (a0u _)) (pv 2) (pv 6)) a0b)))) a0b)))))
   (a0h (a0z (a0i GF hr (by rfl) DF.mg DF.fn.kp bF .nil a0q (a0a (a0s a1n (pv 0) a0e (fun _ _=>rfl)) (a0a (pv 3) a0b))))))),?_⟩
  obtain⟨U,hF,hU,fx,co,t8,tsU,eU⟩:=fk.get;have hF1:=hF;obtain⟨tt,es0,h1,_⟩:=hF1;have pN:=a1Y (T0:=T0) hU;refine⟨_,rfl,_,rfl,?_⟩;obtain⟨Tz,hTz,eTz⟩:=mM0.mp (pN.mem_iff.mpr hz);refine⟨f,sz,cn T0::U,Tz,(by rw[eTz];rfl),hF,tsU.2.1,hTz,fun e _=>?_⟩;refine⟨zL0 _,fun D hD=>?_⟩;have T1:=a0r.upd (o:=.lst []) hD;refine⟨_,rfl,f,sz,cn T0::U,rfl,hF.same T1,fx,(fun T hT=>(co T hT).same T1),t8,fun l es ds H2 s2 nl hP=>?_⟩;have S2:=T1.trans s2;have hD2:H2 D=some (.lst []):=s2 _ _ a0d;generalize eTs:(cn T0::U)=Ts at *;obtain⟨hl,e1l,e2l,hpt⟩:=id hP;have lD:l≠D:=fun e=>by rw[e,hD2] at hl;cases es<;>simp at hl;subst eTs;simp at e1l
  let dn:Nat->Addr:=fun j=>if (Ts.map (fun T:Tb=>T.name)).getD j ("":Str)=z then cd else ds.getD j 0
  refine⟨l,rfl,⟨_,SqL.of hl⟩,a3S (K:=K) (a:=l) (xs:=es.map V.ref) (fun i σ Hc=>∃(rs:List Addr) (u4 u5 u6:Option V),σ=[some (.ref f),some (.str z),some (.ref cd),some (.ref D),u4,u5,u6]/\Sl D H2 Hc/\Hc D=some (.lst (rs.map V.ref))/\rs.length=i/\∀(j:Nat) (e:Addr) (T:Tb),rs[j]? =some e->Ts[j]? =some T->Hc e=some (.tup [.str T.name,.str T.sort,.ref (dn j)])) ⟨[],_,_,_,rfl,Sl.of (a0r.refl _),hD2,rfl,fun j e T h=>nomatch h⟩ (fun i σ Hc _ pp=>by obtain⟨rs,u4,u5,u6,_,sl,_⟩:=pp;exact SqL.of (sl _ _ lD hl)) ?_ ?_⟩
  ·rintro i x σ Hc hx ⟨rs,u4,u5,u6,rfl,sl,hDc,hrl,hent⟩
   have hie:i<es.length:=by
    have:=(gS0.mp hx).1
    rwa [lM0] at this
   have hid:i<ds.length:=by omega
   have hit:i<Ts.length:=by omega
   rw[gM0,gE0 hie] at hx;cases hx;have pt:=hpt i es[i] ds[i] Ts[i] (gE0 hie) (gE0 hid) (gE0 hit);have ne1:es[i]≠D:=fun q=>by have:=pt.1;rw[q,hD2] at this;cases this
   have edn:dn i=if Ts[i].name=z then cd else ds[i]:=by
    show(if (Ts.map (fun T:Tb=>T.name)).getD i ("":Str)=z then cd else ds.getD i 0)=_
    rw[List.getD_eq_getElem?_getD,List.getD_eq_getElem?_getD,gM0,gE0 hit,gE0 hid]
    rfl
   refine⟨_,_,rfl,SqT.of (sl _ _ ne1 pt.1),rfl,_,_,rfl,_,_,rfl,_,_,rfl,rfl,?_⟩;refine⟨_,rfl,.inl ⟨rfl,_,SqL.of hDc⟩,_,rfl,_,rfl,_,rfl,_,rfl,rfl,_,rfl,?_⟩;have fin:∀dd:Addr,dn i=dd->([V.str Ts[i].name,.str Ts[i].sort,.ref dd].length<=sizeLine/\∀p,Hc p=none->∃d ys v,V.ref D=.ref d/\[V.ref p]=[v]/\(L2.upd Hc p (.tup [.str Ts[i].name,.str Ts[i].sort,.ref dd])) d=some (.lst ys)/\ys.length<sizeLine ∧
     ∃(rs:List Addr) (u4 u5 u6:Option V),[some (.ref f),some (.str z),some (.ref cd),some (.ref D),some (.str Ts[i].name),some (.str Ts[i].sort),some (.ref ds[i])]=[some (.ref f),some (.str z),some (.ref cd),some (.ref D),u4,u5,u6]/\Sl D H2 (L2.upd (L2.upd Hc p (.tup [.str Ts[i].name,.str Ts[i].sort,.ref dd])) d (.lst (ys++[v])))/\(L2.upd (L2.upd Hc p (.tup [.str Ts[i].name,.str Ts[i].sort,.ref dd])) d (.lst (ys++[v]))) D=some (.lst (rs.map V.ref))/\rs.length=i+1/\∀(j:Nat) (e:Addr) (T:Tb),rs[j]? =some e->Ts[j]? =some T->(L2.upd (L2.upd Hc p (.tup [.str Ts[i].name,.str Ts[i].sort,.ref dd])) d (.lst (ys++[v]))) e=some (.tup [.str T.name,.str T.sort,.ref (dn j)])):=by
    intro dd edd;refine⟨(by exact sl3),fun p hp=>?_⟩;have T5:=a0r.upd (o:=.tup [.str Ts[i].name,.str Ts[i].sort,.ref dd]) hp;have hD5:=T5 _ _ hDc;have pD:p≠D:=fun q=>by rw[q,hDc] at hp;cases hp
    refine⟨D,_,_,rfl,rfl,hD5,by rw[lM0,hrl,sizeLine_eq];omega,rs++[p],_,_,_,rfl,sl.put T5,by rw[a0d,mA0];rfl,by rw[lA0,hrl];rfl,fun j e T a1 a2=>?_⟩
    by_cases hj:j<rs.length
    ·rw[gL0 hj] at a1
     have he:=hent j e T a1 a2;rw[a0g (fun q=>by rw[q,hDc] at he;cases he)];exact T5 _ _ he
    ·have hj':j=rs.length:=by
      have:=(gS0.mp a1).1
      rw[lA0] at this;simp at this
      omega
     subst hj';rw[gR0 (nR0 _),Nat.sub_self] at a1;cases a1;rw[hrl,gE0 hit] at a2;cases a2;rw[a0g pD,a0d,hrl,edd]
   refine a8I (fun hc=>?_) (fun hc=>?_)
   ·have en:Ts[i].name=z:=by
     have:=of_decide_eq_true hc
     injection this
    exact⟨_,rfl,fin cd (by rw[edn,if_pos en])⟩
   ·have en:¬Ts[i].name=z:=fun e=>hc (by rw[e];exact dT0 rfl)
    exact⟨_,rfl,fin ds[i] (by rw[edn,if_neg en])⟩
  ·rintro σ Hc ⟨rs,u4,u5,u6,rfl,sl,hDc,hrl,hent⟩
   rw[lM0] at hrl;have SC:a0r H Hc:=fun b o e=>sl b o (fun q=>by rw[q,hD] at e;cases e) (S2 b o e);refine⟨_,rfl,_,_,0,_,rfl,rfl,SqT.of (SC _ _ h1),rfl,_,rfl,?_⟩;have part:∀{j:Nat} {e:Addr} {T:Tb},rs[j]? =some e->Ts[j]? =some T->¬T.name=z->a1D Hc e (dn j) T:=fun {j e T} a1 a2 n=>by
    have hjt:j<Ts.length:=(gS0.mp a2).1;have hje:j<es.length:=by omega
    have hjd:j<ds.length:=by omega
    have pt:=hpt j es[j] ds[j] T (gE0 hje) (gE0 hjd) a2;have edn:dn j=ds[j]:=by
     show(if (Ts.map (fun T:Tb=>T.name)).getD j ("":Str)=z then cd else ds.getD j 0)=_
     rw[List.getD_eq_getElem?_getD,List.getD_eq_getElem?_getD,gM0,a2,gE0 hjd];exact if_neg n
    refine⟨hent j e T a1 a2,?_,(co T (gI0 a2)).same SC⟩;rw[edn];exact sl _ _ (fun q=>by have:=pt.2.1;rw[q,hD2] at this;cases this) pt.2.1
   have dnz:∀{j:Nat} {T:Tb},Ts[j]? =some T->T.name=z->dn j=cd:=fun {j T} a2 n=>by
    show(if (Ts.map (fun T:Tb=>T.name)).getD j ("":Str)=z then cd else ds.getD j 0)=_
    rw[List.getD_eq_getElem?_getD,gM0,a2];exact if_pos n
   have nmX:(U.map (rc z cols)).map nmS=U.map nmS:=by
    rw[mC0];exact List.map_congr_left fun T _=>b4d z cols T
   refine⟨D,sz,rs,(List.range rs.length).map dn,rc z cols (cn T0),U.map (rc z cols),rfl,fk.sz1,⟨hDc,?_,?_,fun j e d T a1 a2 a3=>?_⟩,tsU.perm (b4d z cols (cn T0)) (by rw[nmX]),tab.same SC,fun f' H' V sb fr tb pV hr hf=>?_⟩
   ·rw[hrl,e1l,<-eTs]
    simp
   ·rw[lM0,List.length_range,hrl,e1l,<-eTs]
    simp
   ·have hjr:j<rs.length:=(gS0.mp a1).1
    rw[gM0,List.getElem?_range hjr] at a2;cases a2;have a3':(Ts.map (rc z cols))[j]? =some T:=by rw[<-eTs];exact a3
    rw[gM0] at a3';obtain⟨T',hT',rfl⟩:=Option.map_eq_some_iff.mp a3'
    by_cases n:T'.name=z
    ·have hrc:rc z cols T'=⟨T'.name,T'.sort,cols⟩:=if_pos n
     rw[hrc];refine⟨hent j e T' a1 hT',?_,hco.same SC⟩;rw[dnz hT' n];exact SC _ _ hcd
    ·have hrc:rc z cols T'=T':=if_neg n
     rw[hrc];exact part a1 hT' n
   ·refine q f' H' (SC.sb.trans sb) (fun b o nb e=>fr b o nb (SC b o e)) tb (FAt.of hf (b3N z cols T0) pV ?_ hr)
    have:((R.map cn).map (rc z cols)).map cn=(R.map (rc z cols)).map cn:=by
     rw[mC0,mC0,mC0];exact List.map_congr_left fun T _=>b3N z cols T
    rw[<-this];exact(hU.map _).map _
def nz (z:Str)(T:Tb):Bool:=decide (T.name≠z)
def a4p (PF:Addr):Sp:=fun vs H Q _=>∃(f:Addr) (sz:Int) (T0:Tb) (R:List Tb) (z:Str),vs=[.ref f,.str z]/\FK H f sz T0 R/\a1O PF a2j foQ H ∧
  z∈R.map (·.name)/\∀f' H',Sb H H'->Fr PF H H'->a1O PF a2j foQ H'->FAt H' f' sz T0 (R.filter (nz z))->Q (.ref f') H'
def PP (H:Hp)(es ds:List Addr)(Ts:List Tb):Prop:=es.length=Ts.length/\ds.length=Ts.length/\∀(j:Nat) (e d:Addr) (T:Tb),es[j]? =some e->ds[j]? =some d->Ts[j]? =some T->a1D H e d T
theorem PP.snoc {H:Hp}{p cd:Addr}{es ds:List Addr}{Ts:List Tb}{T:Tb}(h:PP H es ds Ts)(hp:a1D H p cd T):PP H (es++[p]) (ds++[cd]) (Ts++[T]):=by
 obtain⟨h2,h3,h4⟩:=h;refine⟨by rw[lA0,lA0,h2];rfl,by rw[lA0,lA0,h3];rfl,fun j e d T' a b c=>?_⟩
 by_cases hj:j<Ts.length
 ·rw[gL0 (by omega)] at a b c
  exact h4 j e d T' a b c
 ·have:j=Ts.length:=by
   have:=(gS0.mp c).1
   rw[lA0] at this;simp at this
   omega
  subst this;rw[gR0 (by omega),h2,Nat.sub_self] at a;rw[gR0 (by omega),h3,Nat.sub_self] at b;rw[gR0 (by omega),Nat.sub_self] at c;cases a;cases b;cases c;exact hp
theorem PP.map {H H':Hp}{es ds:List Addr}{Ts:List Tb}(h:PP H es ds Ts)(k:∀e d T,a1D H e d T->a1D H' e d T):PP H' es ds Ts:=⟨h.1,h.2.1,fun j e d T a b c=>k e d T (h.2.2 j e d T a b c)⟩
theorem b0f.filter {T0:Tb}{R:List Tb}(h:b0f T0 R)(p:Tb->Bool):b0f T0 (R.filter p):=by
 obtain⟨h7,nd,hn,hh,hs⟩:=h;have sl:(R.filter p).Sublist R:=List.filter_sublist;refine⟨Nat.le_trans sl.length_le h7,nd.sublist ((sl.cons₂ T0).map _),fun T hT=>?_,hh,fun T hT=>hs T (sl.subset hT)⟩;exact hn T ((sl.cons₂ T0).subset hT)
theorem a8l {fself fF fP fT:Addr}{fd fdF fdP fdT:FuncData}(F:Fun K "without_table" "without_table" (top 31) fself fd)(DF:Df K mg "form_of" (top 19) fF fdF)(GF:a0x P w K mg base CX0 6 fF fdF ["size","tables"] (a7t PF))(DP:Df K mg "parts_of" (top 28) fP fdP)(GP:a0x P w K mg base CX0 1 fP fdP ["form"] a4U)
  (DT:Df K mg "table_in" (top 27) fT fdT) (GT:a0x P w K mg base CX0 1 fT fdT ["form","table"] a4s) :
  a0x P w K mg base CX0 7 fself fd ["form","name"] (a4p PF):=by
 have sc:a0o ["form","name"] ["form","name"] (a0f (top 31)):=.k (by decide +kernel);have bF:=DF.fn.b2 "size" "tables" (by intros;rfl);have bP:=DP.fn.b1 "form" (by intros;rfl);have bT:=DT.fn.b2 "form" "table" (by intros;rfl);refine F.ok sc (fun vs H Q E h=>?_) (fun cdv A outer s H vs Q E hr h=>?_)
 ·obtain⟨f,sz,T0,R,z,rfl,_⟩:=h
  rfl
 ·obtain⟨f,sz,T0,R,z,rfl,fk,tab,hzR,q⟩:=h
  have hr1:a1g 1 _:=hr.mono (by decide);refine⟨_,a0c (a0F (a0i GT hr1 (by rfl) DT.mg DT.fn.kp bT .nil a0q (a0a (pv 0) (a0a (pv 1) a0b))))
   (a0h (a0z (a0i GF hr (by rfl) DF.mg DF.fn.kp bF .nil a0q (a0a (a0s a1n (pv 0) a0e (fun _ _=>rfl)) (a0a (a1T (osc:=a0f (top 31)) (N0:=["form","name"]) (xs:=["part"]) (fr:=[1]) ⟨rfl,by decide +kernel,by decide +kernel,by decide +kernel,(fun j hj=>by
       have e:j=1:=by simpa using hj
       subst e;exact⟨_,rfl,by decide +kernel⟩),by decide +kernel⟩ rfl rfl rfl (a2C (a0i GP hr1 (by rfl) DP.mg DP.fn.kp bP .nil a0q (a0a (pv 0) a0b)))
      (fun s H fp=>a0E (i:=0) (show(["part","name"]:List Str).Nodup by decide +kernel) rfl (Or.inl rfl)) (fun s H fp=>b3t (a0t a3O (a0s (r:=b3P K) a1n (pv 0) a0e (fun _ _=>rfl)) (pv 1) (a0u _)))
      (fun s H fp=>pv 0)) a0b))))),?_⟩
  obtain⟨U,hF,hU,fx,co,t8,tsU,eU⟩:=fk.get;have hF1:=hF;obtain⟨tt,es0,h1,_⟩:=hF1;have pN:=a1Y (T0:=T0) hU;refine⟨_,rfl,_,rfl,?_⟩;have hz:z∈(T0::R).map (·.name):=by
   rw[mN0];exact mL0 _ hzR
  obtain⟨Tz,hTz,eTz⟩:=mM0.mp (pN.mem_iff.mpr hz);refine⟨f,sz,cn T0::U,Tz,(by rw[eTz];rfl),hF,tsU.2.1,hTz,fun e _=>?_⟩;refine⟨_,rfl,_,_,0,_,rfl,rfl,SqT.of h1,rfl,?_⟩;refine⟨_,rfl,f,sz,cn T0::U,rfl,hF,fx,co,t8,fun l es ds H2 s2 nl hP=>?_⟩;generalize eTs:(cn T0::U)=Ts at *;obtain⟨hl,e1l,e2l,hpt⟩:=id hP;refine⟨l,rfl,⟨_,SqL.of hl⟩,fun D hD=>?_⟩;refine a9H Ts.length (fun i ys σ' Hc=>(∃t,σ'=[t,some (.str z)])/\a0r H2 Hc/\∃es' ds':List Addr,ys=es'.map V.ref/\PP Hc es' ds' ((Ts.take i).filter (nz z))) (by rw[sizeLine_eq];omega) ⟨⟨_,rfl⟩,a0r.upd hD,[],[],rfl,rfl,rfl,fun j e d T h=>nomatch h⟩ a0d ?_ ?_
  ·rintro i σ' Hc ys hi ⟨⟨t,rfl⟩,sm,es',ds',rfl,pp⟩ hD'
   have hie:i<es.length:=by omega
   have hid:i<ds.length:=by omega
   have pt:=hpt i es[i] ds[i] Ts[i] (gE0 hie) (gE0 hid) (gE0 hi);have etk:Ts.take (i+1)=Ts.take i++[Ts[i]]:=by rw[List.take_add_one,gE0 hi];rfl
   refine⟨⟨_,V.ref es[i],SqL.of (sm _ _ hl),by rw[gM0,gE0 hie];rfl⟩,?_⟩;rintro x H' ⟨rfl,hx'⟩;have ex:=hx' _ (SqL.of (sm _ _ hl));rw[gM0,gE0 hie] at ex;cases ex;refine⟨_,rfl,_,_,0,_,rfl,rfl,SqT.of (sm _ _ pt.1),rfl,_,rfl,rfl,_,rfl,?_⟩;refine a8I (fun hc=>?_) (fun hc=>?_)
   ·have n:nz z Ts[i]=true:=by
     unfold nz;refine dT0 fun e=>?_;rw[e,dT0 rfl] at hc;cases hc
    refine⟨_,rfl,hD',⟨_,rfl⟩,sm.put hD,es'++[es[i]],ds'++[ds[i]],by rw[mA0];rfl,?_⟩;rw[etk,List.filter_append,show[Ts[i]].filter (nz z)=[Ts[i]] from by rw[List.filter_cons_of_pos n];rfl];exact(pp.snoc (pt.same sm)).map fun e d T h=>a1D.besideL hD' h
   ·have n:nz z Ts[i]=false:=by
     unfold nz;refine dF0 fun e=>hc ?_;rw[dF0 (fun q=>e (by injection q))]
     rfl
    refine⟨hD',⟨_,rfl⟩,sm,es',ds',rfl,?_⟩;rw[etk,List.filter_append,show[Ts[i]].filter (nz z)=[] from by rw[List.filter_cons_of_neg (by rw[n];decide)];rfl,List.append_nil];exact pp
  ·rintro σ' Hc ys ⟨_,sm,es',ds',rfl,pp⟩ hDc
   refine⟨⟨_,SqL.of (sm _ _ hl),by rw[lM0];omega⟩,?_⟩;rw[List.take_length] at pp;have SC:=s2.trans sm;have nd:=tsU.2.1;rw[mN0] at nd;have n0:¬T0.name=z:=fun e=>by
    have hn:=fk.ts.2.1;rw[mN0] at hn;exact(List.nodup_cons.mp hn).1 (by rw[e];exact hzR)
   have eF:Ts.filter (nz z)=cn T0::U.filter (nz z):=by
    rw[<-eTs,List.filter_cons_of_pos (by unfold nz;exact dT0 n0)]
   rw[eF] at pp;refine⟨D,sz,es',ds',cn T0,U.filter (nz z),rfl,fk.sz1,⟨hDc,pp⟩,tsU.filter _,tab.same SC,fun f' H' V sb fr tb pV hr hf=>?_⟩;refine q f' H' (SC.sb.trans sb) (fun b o nb e=>fr b o nb (SC b o e)) tb (FAt.of hf (a8G T0) pV ?_ hr);have e1:((R.map cn).filter (nz z)).map cn=(R.filter (nz z)).map cn:=by
    rw[List.filter_map,mC0,show(nz z∘cn)=nz z from rfl];exact List.map_congr_left fun T _=>a8G T
   rw[<-e1];exact(hU.filter _).map _
end
end My
namespace L2
open PySem PySem.Spec PyProof.Rows
section
variable {X:Cx}
theorem a5Z:a1u X (.builtin "len") (fun xs H Q=>∃a kvs,xs=[V.ref a]/\Rd H a (.dK kvs)/\Q (.int kvs.length) H):=by
 intro pins s σ H xs us Q I r h;obtain⟨a,kvs,rfl,ha,q⟩:=h;obtain⟨u,rfl,rx⟩:=a2o r;cases rx;exact b5w I ha fun t s' J=>⟨.int kvs.length,H,J,⟨t,rfl⟩,q⟩
theorem a2m:a1u X (.builtin "isinstance") (fun xs H Q=>∃a kvs n b,xs=[V.ref a,.ty n]/\Rd H a (.dK kvs)/\PySem.W.kitOne X.K (.type "dict") (.type n)=some b/\Q (.bl b) H):=by
 intro pins s σ H xs us Q I r h;obtain⟨a,kvs,n,b,rfl,ha,e,q⟩:=h;obtain⟨u,w',rfl,rx,rc⟩:=a9y r;cases rx
 cases(show w'=Value.type n from rc)
 obtain⟨_,_,vs,_,o,es,ep,h1,h2,_⟩:=a4g I.hok ha;exact PySem.W.kia_one PySem.W.kitx_dict I.kIn ⟨o,h1,h2.1⟩ e (fun z=>nomatch z) fun tk=>⟨.bl b,H,I.tok tk,rfl,q⟩
def b6u (t:TS):TS:=fun D σ H=>∃a kvs,Rd H a (.dK kvs)/\(∀o,H a=some (.frz o (.dK kvs))->t D σ H)/\(H a=some (.dK kvs)->∀o,t (b6C a o kvs D) σ (upd H a (.frz o (.dK kvs))))
theorem b3l {st:Stmt}{t:TS}(h:PS X st t):PS X st (b6u t):=by
 intro pins s σ H D I hq;obtain⟨a,kvs,rd,h1,h2⟩:=hq;rcases rd with e |⟨o,e⟩
 ·exact b1X h pins s σ H D I ⟨a,kvs,e,h2 e⟩
 ·exact h pins s σ H D I (h1 o e)
end
inductive Lq (H:Hp):Nat->V->V->Prop
 |non {n:Nat}:Lq H n .non .non
 |bl {n:Nat} {b:Bool}:Lq H n (.bl b) (.bl b)
 |int {n:Nat} {i:Int}:Lq H n (.int i) (.int i)
 |str {n:Nat} {z:Str}:Lq H n (.str z) (.str z)
 |tup {n:Nat} {a b:Addr} {xs ys:List V} (ha:Rd H a (.tup xs)) (hb:Rd H b (.tup ys)) (hl:xs.length=ys.length) (h:∀(i:Nat) (x y:V),xs[i]? =some x->ys[i]? =some y->Lq H n x y):Lq H (n+1) (.ref a) (.ref b)
 |lst {n:Nat} {a b:Addr} {xs ys:List V} (ha:H a=some (.lst xs)) (hb:H b=some (.lst ys)) (hl:xs.length=ys.length) (h:∀(i:Nat) (x y:V),xs[i]? =some x->ys[i]? =some y->Lq H n x y):Lq H (n+1) (.ref a) (.ref b)
 |dct {n:Nat} {a b:Addr} {kvs kws:List (Key×V)} (f:Key->V) (ha:Rd H a (.dK kvs)) (hb:Rd H b (.dK kws)) (hl:kvs.length=kws.length)
   (hf:∀(k:Key) (v:V),(k,v)∈kws->a2g kvs k=some (f k)) (hg:∀(k:Key) (v:V),(k,v)∈kws->a2g kws k=some v) (h:∀(k:Key) (v:V),(k,v)∈kws->Lq H n (f k) v):Lq H (n+1) (.ref a) (.ref b)
theorem Rd.same {H H':Hp}(s:a0r H H'){a:Addr}{u:HO}(r:Rd H a u):Rd H' a u:=by
 rcases r with e |⟨o,e⟩
 ·exact .inl (s _ _ e)
 ·exact .inr ⟨o,s _ _ e⟩
theorem Lq.same {H H':Hp}(s:a0r H H'){n:Nat}{x y:V}(h:Lq H n x y):Lq H' n x y:=by
 induction h with
 |non=>exact .non
 |bl=>exact .bl
 |int=>exact .int
 |str=>exact .str
 |tup ha hb hl _ ih=>exact .tup (ha.same s) (hb.same s) hl ih
 |lst ha hb hl _ ih=>exact .lst (s _ _ ha) (s _ _ hb) hl ih
 |dct f ha hb hl hf hg _ ih=>exact .dct f (ha.same s) (hb.same s) hl hf hg ih
theorem Rd.frz {H:Hp}{a c:Addr}{o:Obj}{kvs:List (Key×V)}(e:H a=some (.dK kvs)){kws:List (Key×V)}(r:Rd H c (.dK kws)):Rd (upd H a (.frz o (.dK kvs))) c (.dK kws):=by
 by_cases z:c=a
 ·subst z
  rcases r with q |⟨o',q⟩
  ·rw[e] at q
   cases q;exact .inr ⟨o,a0d⟩
  ·rw[e] at q
   cases q
 ·rcases r with q |⟨o',q⟩
  ·exact .inl ((a0g z).trans q)
  ·exact .inr ⟨o',(a0g z).trans q⟩
theorem Lq.frz {H:Hp}{a:Addr}{o:Obj}{kvs:List (Key×V)}(e:H a=some (.dK kvs)){n:Nat}{x y:V}(h:Lq H n x y):Lq (upd H a (.frz o (.dK kvs))) n x y:=by
 have ne:∀b u,H b=some u->u≠.dK kvs->upd H a (.frz o (.dK kvs)) b=some u:=fun b u q n=>(a0g fun z=>by rw[z,e] at q;cases q;exact n rfl).trans q;have nr:∀b xs,Rd H b (.tup xs)->Rd (upd H a (.frz o (.dK kvs))) b (.tup xs):=fun b xs r=>by
  rcases r with q |⟨o',q⟩
  ·exact .inl (ne b _ q (by simp))
  ·exact .inr ⟨o',ne b _ q (by simp)⟩
 induction h with
 |non=>exact .non
 |bl=>exact .bl
 |int=>exact .int
 |str=>exact .str
 |tup ha hb hl _ ih=>exact .tup (nr _ _ ha) (nr _ _ hb) hl ih
 |lst ha hb hl _ ih=>exact .lst (ne _ _ ha (by simp)) (ne _ _ hb (by simp)) hl ih
 |dct f ha hb hl hf hg _ ih=>exact .dct f (ha.frz e) (hb.frz e) hl hf hg ih
structure b1G (K:Fg0) (x qual:Str) (st:Stmt) (f:Addr) (fd:FuncData):Prop where
 ex:∃(oc:Value) (od:Option Addr) (dV kV doc pm:Value) (an:Option Addr) (cdv ct:Value) (osl:Array (Option Value)),
  fd=PySem.W.fnOf x qual (a1d st) (a0U st) (a0f st) dV kV doc pm an cdv ct/\K.lookup f=some ⟨oc,od,.func fd,osl⟩/\PySem.W.codeIn K cdv qual=true
 kp:PySem.W.keepIn K (.ref f)=true
theorem b2K {K:Fg0}{x qual:Str}{st:Stmt}{f:Addr}{oc:Value}{od an:Option Addr}{osl:Array (Option Value)}{dV kV doc pm cdv ct:Value}(l:K.lookup f=some ⟨oc,od,.func (PySem.W.fnOf x qual (a1d st) (a0U st) (a0f st) dV kV doc pm an cdv ct),osl⟩)
  (c:PySem.W.codeIn K cdv qual=true) (k:PySem.W.keepIn K (.ref f)=true):b1G K x qual st f (PySem.W.fnOf x qual (a1d st) (a0U st) (a0f st) dV kV doc pm an cdv ct):=⟨⟨oc,od,dV,kV,doc,pm,an,cdv,ct,osl,rfl,l,c⟩,k⟩
section
variable {P:Program}{w:World}{K:Fg0}{mg:Str->Option Value}{base:Heap}
theorem b1G.ok {x qual:Str}{st:Stmt}{f:Addr}{fd:FuncData}{N ps:List Str}{k:Nat}{sp:Sp}(F:b1G K x qual st f fd)(S:a0o N ps (a0f st))(len:∀vs H Q E,sp vs H Q E->vs.length=ps.length)
  (hbody:∀(cdv:Value) (A:Around) (outer:List Env) (s:Shared) (H:Hp) (vs:List V) (Q:VK) (E:XK),a1g k (A.deeper (envOfC qual (a0f st) s.heap.objs.size f cdv))->sp vs H Q E →
   ∃t,PSs (a7U CX0 P w K mg base N qual (a0f st) f cdv A outer s H E).nox (a0U st) t/\t { nx:=fun _ H'=>Q .non H',rt:=Q } (a3w N vs) H):a0x P w K mg base CX0 (k+1) f fd ps sp:=by
 obtain⟨oc,od,dV,kV,doc,pm,an,cdv,ct,osl,rfl,lk,hcd⟩:=F.ex;refine b1t lk hcd S len fun A outer s H vs Q E hr hsp=>?_;obtain⟨t,h,q⟩:=hbody cdv A outer s H vs Q E hr hsp;exact⟨t,h.nox,q⟩
theorem b1G.okX {x qual:Str}{st:Stmt}{f:Addr}{fd:FuncData}{N ps:List Str}{k:Nat}{sp:Sp}(F:b1G K x qual st f fd)(S:a0o N ps (a0f st))(len:∀vs H Q E,sp vs H Q E->vs.length=ps.length)
  (hbody:∀(cdv:Value) (A:Around) (outer:List Env) (s:Shared) (H:Hp) (vs:List V) (Q:VK) (E:XK),a1g k (A.deeper (envOfC qual (a0f st) s.heap.objs.size f cdv))->sp vs H Q E →
   ∃t,PSs (a7U (CX1 P w) P w K mg base N qual (a0f st) f cdv A outer s H E) (a0U st) t/\t { nx:=fun _ H'=>Q .non H',rt:=Q } (a3w N vs) H):a0x P w K mg base (CX1 P w) (k+1) f fd ps sp:=by
 obtain⟨oc,od,dV,kV,doc,pm,an,cdv,ct,osl,rfl,lk,hcd⟩:=F.ex;exact b1t lk hcd S len fun A outer s H vs Q E hr hsp=>hbody cdv A outer s H vs Q E hr hsp
theorem Fun.x {x qual:Str}{st:Stmt}{f:Addr}{fd:FuncData}(F:Fun K x qual st f fd):b1G K x qual st f fd:=by
 obtain⟨oc,od,kV,doc,pm,an,cdv,ct,osl,e,lk,hcd⟩:=F.ex;exact⟨⟨oc,od,.none,kV,doc,pm,an,cdv,ct,osl,e,lk,hcd⟩,F.kp⟩
end
structure ZL (h:Heap) (z TI TO i1 i2 a b:Addr) (k:Nat):Prop where
 zp:IsZip h z TI TO .none
 ti:IsPair h TI (.ref i1) (.ref i2)
 to:∃u v,IsPair h TO u v
 j1:h.IsListIter i1 a k
 j2:h.IsListIter i2 b k
def ItY (K:Fg0)(a b:Addr):It:=
 ⟨fun i H=>∃xs ys x y,SqL K H a xs/\SqL K H b ys/\xs[i]? =some x/\ys[i]? =some y,fun i H x H'=>∃u v p,(∀xs ys,SqL K H a xs->SqL K H b ys->xs[i]? =some u/\ys[i]? =some v)/\x=.ref p/\H p=none/\H'=upd H p (.tup [u,v]),fun i H=>∃xs ys,SqL K H a xs/\SqL K H b ys/\xs.length<=i⟩
theorem a9o {P:Program}{w:World}{K:Fg0}{es:List Expr}{x1:Nat}{tp:Pos}(a b z TI TO i1 i2:Addr)(D:ZipApart z TI TO i1 i2 a b):b0k P w K (.Tuple es x1 tp) (ItY K a b) [z,TI,TO,i1,i2] z (fun i h=>ZL h z TI TO i1 i2 a b i) where
 mem:=by simp
 obj:=fun i h st c hc=>by
  obtain⟨s1,s2,⟨u,v,s3⟩,s4,s5⟩:=st;simp only[mK0,List.not_mem_nil,or_false] at hc;rcases hc with q |q |q |q |q
  ·subst q;exact⟨_,s1,fun v z=>by cases z⟩
  ·subst q;exact⟨_,s2,fun v z=>by cases z⟩
  ·subst q;exact⟨_,s3,fun v z=>by cases z⟩
  ·subst q;obtain⟨o,e,_,d⟩:=s4;exact⟨o,e,fun v z=>by rw[d] at z;cases z⟩
  ·subst q;obtain⟨o,e,_,d⟩:=s5;exact⟨o,e,fun v z=>by rw[d] at z;cases z⟩
 keep:=fun i h h' st k=>by
  obtain⟨s1,s2,⟨u,v,s3⟩,⟨o4,e4,r4⟩,⟨o5,e5,r5⟩⟩:=st;exact⟨k z (by simp) _ s1,k TI (by simp) _ s2,⟨u,v,k TO (by simp) _ s3⟩,⟨o4,k i1 (by simp) _ e4,r4⟩,⟨o5,k i2 (by simp) _ e5,r5⟩⟩
 item:=by
  intro X hP hw hK hc i pins s σ H E I hf st hg;subst hP hw hK;obtain⟨s1,s2,s3,s4,s5⟩:=st;obtain⟨xs,ys,x,y,hq1,hq2,hx,hy⟩:=hg;obtain⟨its,rv,p,hz⟩:=I.list hq1;obtain⟨jts,rw',p',hz'⟩:=I.list hq2;obtain⟨u,hu,ru⟩:=rv.get hx;obtain⟨v,hv,rv'⟩:=rw'.get hy;obtain⟨t3a,t3b,t3⟩:=id s3;refine wpAny_pyNext_zip_item D s1 s2 t3 s4 s5 p.isList p'.isList (x:=u) (y:=v) (by simpa using hu) (by simpa using hv) fun h' z1 z3 z4 z5 ht hsz kp=>?_;refine⟨_,rfl,?_⟩;refine wpAny_letOwnedTupleGo_zip (s:={ s with heap:=h' }) z1 fun h'' zp'' sb=>?_;have zlt:z<s.heap.objs.size:=hL0 s1;have kp2:∀c o,c∉[z,TI,TO,i1,i2]->s.heap.get? c=some o->h''.get? c=some o:=fun c o hc e=>by
   simp only[mK0,List.not_mem_nil,or_false,not_or] at hc;exact(sb.2 c hc.1).trans (kp c o hc.1 hc.2.2.1 hc.2.2.2.1 hc.2.2.2.2 e)
  have I1:Inv X pins σ H { s with heap:=h'' }:=I.turnedL (t':=s.toks) kp2 hf;have hp:H s.heap.objs.size=none:=I.hok.fresh (nR0 _);have e2:h''.get? s.heap.objs.size=some { cls:=.type "tuple",data:=.seq #[u,v] }:=(sb.2 _ (Nat.ne_of_gt zlt)).trans ht;have I2:Inv X pins σ (upd H s.heap.objs.size (.tup [x,y])) { s with heap:=h'' }:=I1.track (I.our (nR0 _)) ⟨(show 2<=sizeLine by decide),[u,v],.cons ru (.cons rv' .nil),⟨_,e2,rfl,_,rfl⟩⟩;refine⟨.ref s.heap.objs.size,_,I2,rfl,⟨x,y,_,fun ws us h1 h2=>?_,rfl,hp,rfl⟩,?_,fun c hc=>?_⟩
  ·rw[I.list_inj h1 hq1,I.list_inj h2 hq2]
   exact⟨hx,hy⟩
  ·have up:∀c o,c≠z->h'.get? c=some o->h''.get? c=some o:=fun c o hc e=>(sb.2 c hc).trans e
   obtain⟨o4,e4,r4⟩:=z4;obtain⟨o5,e5,r5⟩:=z5;exact⟨zp'',up _ _ D.TIz (kp _ _ D.TIz D.TITO D.TIi1 D.TIi2 s2),⟨_,_,up _ _ D.TOz z3⟩,⟨o4,up _ _ D.i1z e4,r4⟩,⟨o5,up _ _ D.i2z e5,r5⟩⟩
  ·obtain⟨f0,_⟩:=hf c hc
   rw[a0g fun q=>?_]
   ·exact f0
   ·have lt:∀c o,s.heap.get? c=some o->c≠s.heap.objs.size:=fun c o e=>nL0 (hL0 e)
    obtain⟨q3a,q3b,q3⟩:=s3;obtain⟨o4,e4,_⟩:=s4;obtain⟨o5,e5,_⟩:=s5;simp only[mK0,List.not_mem_nil,or_false] at hc;rcases hc with r |r |r |r |r
    ·exact lt z _ s1 (r▸q)
    ·exact lt TI _ s2 (r▸q)
    ·exact lt TO _ q3 (r▸q)
    ·exact lt i1 _ e4 (r▸q)
    ·exact lt i2 _ e5 (r▸q)
 done:=by
  intro X hP hw hK hc i pins s σ H E I hf st hg;subst hP hw hK;obtain⟨s1,s2,s3,s4,s5⟩:=st;obtain⟨xs,ys,hq1,hq2,hx⟩:=hg;obtain⟨its,rv,p,hz⟩:=I.list hq1;obtain⟨jts,rw',p',hz'⟩:=I.list hq2;have hl:=rv.length;obtain⟨t3a,t3b,t3⟩:=id s3;refine wpAny_pyNext_zip_end (I.ok.hd hc) D s1 s2 t3 s4 s5 p.isList p'.isList (.inl (by simp;omega)) fun h' kp=>⟨rfl,I.turnedL (t':=s.toks) (fun c o hc e=>?_) hf⟩;simp only[mK0,List.not_mem_nil,or_false,not_or] at hc;exact kp c o hc.1 hc.2.2.1 hc.2.2.2.1 hc.2.2.2.2 e
 self:=fun A i s Q E st h=>wpAny_pyIter_zip st.zp h
section
variable {X:Cx}
def b5P (K:Fg0)(ta:TA):TI:=fun σ H R=>ta σ H fun vs H1=>∃a b,vs=[.ref a,.ref b]/\(∃xs,SqL K H1 a xs)/\(∃ys,SqL K H1 b ys)/\R (ItY K a b) H1
theorem b2o {es:List Expr}{x1:Nat}{tp:Pos}{l m:Expr}{ta:TA}{p pos:Pos}(hg:Gl X "zip")(hm:X.mg "zip"=none)(ha:PA X [l,m] ta)(hs:starEach [l,m] X.env=(false,eval l X.env)::starEach [m] X.env:=by rfl)(hpl:(backTo pos (starEach [m] X.env)).any (·.1)=false:=by rfl) :
  PI X (.Tuple es x1 tp) (.Call (.Name "zip" p) [l,m] [] pos) (b5P X.K ta):=by
 intro pins s σ H R I h;refine Call_ (a4m I hg hm boot_zip (PyProof.Rows.callWith_type1 (thn (ha pos pins s σ H _ I h) fun us s1 ⟨vs,H1,I1,r1,q1⟩=>?_) hs hpl));obtain⟨a,b,e,⟨xs,hq1⟩,⟨ys,hq2⟩,q⟩:=q1;subst e;obtain⟨u,v,rfl,rx,ry⟩:=a9y r1;cases rx;cases ry;obtain⟨its,rv,p1,hz⟩:=I1.list hq1;obtain⟨jts,rw',p2,hz'⟩:=I1.list hq2;have la:a<s1.heap.objs.size:=by obtain⟨o,e,_⟩:=p1.isList;exact hL0 e
 have lb:b<s1.heap.objs.size:=by obtain⟨o,e,_⟩:=p2.isList;exact hL0 e
 have D:ZipApart (s1.heap.objs.size+4) (s1.heap.objs.size+2) (s1.heap.objs.size+3) s1.heap.objs.size (s1.heap.objs.size+1) a b:=by
  generalize s1.heap.objs.size=n at la lb
  constructor<;>(intro z;simp only[Addr] at *;omega)
 refine call_zip_2 p1.isList p2.isList fun h' z1 z2 z3 z4 z5 hsz hk=>?_;have I2:Inv X pins σ H1 { s1 with heap:=h' }:=I1.kept (t':=s1.toks) hk;refine wpAny_pyIter_zip (s:={ s1 with heap:=h' }) z1 ?_;refine⟨s1.heap.objs.size+4,[s1.heap.objs.size+4,s1.heap.objs.size+2,s1.heap.objs.size+3,s1.heap.objs.size,s1.heap.objs.size+1],_,_,H1,rfl,I2,a9o a b _ _ _ _ _ D,⟨z1,z2,⟨_,_,z3⟩,z4,z5⟩,fun c hc=>?_,q⟩;have nb:s1.heap.objs.size<=c:=by
  simp only[mK0,List.not_mem_nil,or_false] at hc;rcases hc with r |r |r |r |r<;>(rw[r];first |exact nR0 _ |exact Nat.le_add_right _ _)
 exact I1.fpOk nb (I1.hok.fresh nb)
theorem b0S {K:Fg0}{a b:Addr}{xs ys:List V}{g:TG}{tb:TS}{D:a4J}{σ:St}{H:Hp}(Pv:Nat->St->Hp->Prop)(hlen:xs.length=ys.length)(h0:Pv 0 σ H)(hl:∀i σ H,i<=xs.length->Pv i σ H->SqL K H a xs/\SqL K H b ys)
  (hs:∀i x y p σ H,xs[i]? =some x->ys[i]? =some y->Pv i σ H->H p=none->g (.ref p) σ (upd H p (.tup [x,y])) fun σ2 H2=>tb { D with nx:=Pv (i+1),ct:=Pv (i+1),bk:=D.nx } σ2 H2) (hd:∀σ H,Pv xs.length σ H->D.nx σ H) :
  ∃W:Nat->Nat->St->Hp->Prop,(∃m,W 0 m σ H)/\∀i m σ H,W i m σ H →
   ((ItY K a b).stop i H/\D.nx σ H)\/((ItY K a b).go i H/\∃N:St->Hp->Prop,(∀σ' H',N σ' H'->∃m',m'<m/\W (i+1) m' σ' H')/\∀x H',(ItY K a b).yld i H x H'->g x σ H' fun σ2 H2=>tb { D with nx:=N,ct:=N,bk:=D.nx } σ2 H2):=by
 refine⟨fun i m σ H=>m=xs.length-i/\i<=xs.length/\Pv i σ H,⟨xs.length,by simp,zL0 _,h0⟩,?_⟩;rintro i m σ H ⟨rfl,hi,p⟩;obtain⟨q1,q2⟩:=hl i σ H hi p
 by_cases hlt:i<xs.length
 ·have hlt2:i<ys.length:=by omega
  refine .inr ⟨⟨xs,ys,xs[i],ys[i],q1,q2,by simp[hlt],by simp[hlt2]⟩,Pv (i+1),fun σ' H' p'=>⟨xs.length-(i+1),by omega,rfl,hlt,p'⟩,fun x H' y=>?_⟩;obtain⟨u,v,pa,hk,ex,hn,e⟩:=y;subst e ex;exact hs i u v pa σ H (hk xs ys q1 q2).1 (hk xs ys q1 q2).2 p hn
 ·have e:i=xs.length:=by omega
  subst e;exact .inl ⟨⟨xs,ys,q1,q2,nR0 _⟩,hd σ H p⟩
end
theorem a9x {H H1:Hp}{a:Addr}{o:Obj}{kvs:List (Key×V)}(hc:H a=some (.dK kvs))(e:a0r (L2.upd H a (.frz o (.dK kvs))) H1):a0r H (L2.upd H1 a (.dK kvs)):=fun b u hb=>by
 by_cases eb:b=a
 ·subst eb
  rw[hc] at hb;rw[<-hb];exact a0d
 ·rw[a0g eb]
  exact e b u (by rw[a0g eb];exact hb)
end L2
namespace L2
open PySem PySem.Spec PyProof.Rows PySem.Builtin PySem.Builtin.Dict
end L2
namespace L2
open PySem PySem.Spec PyProof.Rows
section
variable {X:Cx}{pins:List (Addr×Obj)}{σ:St}{H H':Hp}{s:Shared}{h':Heap}
theorem Inv.laidM {t':Nat}(I:Inv X pins σ H s)(k:∀b u,s.heap.get? b=some u->h'.get? b=some u)(old:∀b u,s.heap.get? b=some u->H' b=H b)(new:∀b u,H' b=some u->s.heap.get? b=none->a1h X.prog X.w H' h' b u):Inv X pins σ H' { s with heap:=h',toks:=t' }:=by
 have oldH:∀b u,H b=some u->H' b=some u:=fun b u q=>by
  obtain⟨ob,e⟩:=(I.hok b u q).there;rw[old b ob e];exact q
 refine I.un ⟨fun b u q _ _ _=>k b u q,fun b u q _ _ _=>⟨u.slots,k b u q⟩,fun b u q n _=>by rw[old b u q];exact n,fun b u q _=>⟨u,k b u q⟩,
  fun b xs q=>oldH _ _ q,fun b u xs q=>oldH _ _ q,fun b ps q=>⟨#[],by rw[oldH _ _ q];simp⟩⟩ fun b u q=>?_
 cases e:s.heap.get? b with
 |none=>exact new b u q e
 |some ob=>
  rw[old b ob e] at q;exact(I.hok b u q).stay (fun c v _ r=>k c v r) (fun c r=>oldH _ _ r) fun c xs r=>oldH _ _ r
end
theorem b1R:∀{as:List Addr} {j:Nat} {a:Addr},as.Nodup->as[j]? =some a->as.idxOf a=j
 |[],_,_,_,h=>by simp at h
 |b::r,0,a,nd,h=>by
  have e:b=a:=by simpa using h
  subst e;exact List.idxOf_cons_self
 |b::r,j+1,a,nd,h=>by
  have h':r[j]? =some a:=by simpa using h
  have ne:¬b=a:=fun e=>(List.nodup_cons.mp nd).1 (by rw[e];exact gI0 h');have nb:(b==a)=false:=by simpa using ne
  rw[List.idxOf_cons,nb,b1R (List.nodup_cons.mp nd).2 h']
  rfl
def vwP (p d:Addr)(h:Heap):Prop:=h.IsItemsView p d
section
variable {X:Cx}
theorem a7I:MtR X "dict.items" (fun x xs H Q=>∃a kvs,x=.ref a/\xs=[]/\Rd H a (.dK kvs)/\∀p,H p=none->Q (.ref p) (upd H p (.ext (vwP p a)))):=by
 intro pins s σ H x xs v us Q I rx r h;obtain⟨a,kvs,rfl,rfl,e,q⟩:=h;cases rx;have hus:=r.zero;subst hus;obtain⟨_,lo,vs,kv,dd⟩:=e.ok I.hok;refine call_meetsIn F.slot_dict_items dd.typeIs F.entry_dict_items (F.args_dict_items_1 _) (meets_dict_items (a0n X.prog X.w) a lo) ⟨⟨vs,dd⟩,?_⟩;have hv:vwP s.heap.objs.size a (s.heap.push { cls:=.type "dict_items",data:=.fields #[.ref a] }):=⟨_,hS0 _ rfl,rfl,rfl⟩;refine⟨.ref s.heap.objs.size,_,I.laid (t':=s.toks) (o:=.ext (vwP s.heap.objs.size a)) (fun b ob e'=>hP0 _ e') (nR0 _) ⟨hv,?_,fun h1 h2 x k=>?_⟩,rfl,q _ (I.hok.fresh (nR0 _))⟩
 ·obtain⟨o,ho,_⟩:=hv
  exact⟨o,ho⟩
 ·obtain⟨o,ho,r⟩:=x
  exact⟨o,k o ho,r⟩
def itH (H:Hp)(l:Addr)(o:HO)(as:List Addr)(kvs:List (Key×V)):Hp:=fun b=>if b=l then some o else if b∈as then some (.tup [kV (kvs.getD (as.idxOf b) (.inl 0,.non)).1,(kvs.getD (as.idxOf b) (.inl 0,.non)).2]) else H b
theorem a3k (hc:X.calm=true):a1u X (.builtin "sorted") (fun xs H Q=>∃(p d:Addr) (kvs:List (Key×V)) (zs:List Str),xs=[.ref p]/\H p=some (.ext (vwP p d))/\Rd H d (.dK kvs)/\kvs.map (·.1)=zs.map Sum.inr/\zs.Nodup/\zs.length<64 ∧
  ∀(l:Addr) (as:List Addr) (ix:List Nat) (H':Hp),H l=none->(∀a∈as,H a=none)->l∉as->as.Nodup->as.length=kvs.length->a0r H H'->(∀(j:Nat) (a:Addr) (k:Key) (v:V),as[j]? =some a->kvs[j]? =some (k,v)->H' a=some (.tup [kV k,v])) →
   ix.Perm (List.range as.length)->a5M (ix.map fun i=>zs.getD i "")->H' l=some (.lst ((ix.map fun i=>as.getD i 0).map V.ref))->Q (.ref l) H'):=by
 intro pins s σ H xs us Q I r h;obtain⟨p,d,kvs,zs,rfl,hp,hq,hz,nd,h64,q⟩:=h;obtain⟨u,rfl,rx⟩:=a2o r;cases rx;obtain⟨hlen,lo,vs,kv,dd⟩:=hq.ok I.hok;obtain⟨ep,da⟩:=dd.dictAt;obtain⟨hv,_⟩:=I.hok p _ hp;have hl:=kv.len;have hl2:kvs.length=zs.length:=by simpa using congrArg List.length hz
 refine Calls.call_function_entry kind_sorted plain_sorted entry_sorted (args_sorted1 _) ?_;unfold Builtin.«sorted»;refine wB0 (m:=checkCount "sorted" 1 1 _) (wP0 ?_);refine wB0 (PySem.W.kdx_collect (knd:=a0n X.prog X.w) (kvs:=vs) (ep:=ep) (I.ok.hd hc) hv da (by rw[<-hl];exact hlen) fun h' tk as hk hal hG=>?_);have hal':(as.map Value.ref).length=zs.length:=by rw[lM0,hal,<-hl,hl2]
 refine wB0 (wpAny_newList ?_ (by rw[hal',<-hl2];exact hlen));have hoL:(h'.push (seqObj "list" (as.map Value.ref).toArray 0)).get? h'.objs.size=some (seqObj "list" (as.map Value.ref).toArray 0):=hS0 _ rfl;have ta:Srt.TA1 (h'.push (seqObj "list" (as.map Value.ref).toArray 0)) (as.map Value.ref) zs:=⟨hal',fun i z e=>by
  have hi:i<zs.length:=(gS0.mp e).1;have hia:i<as.length:=by rw[lM0] at hal';omega
  obtain⟨key,k,x,e1,e2,e3⟩:=hG.pairs i as[i] (gE0 hia);have hk':=a7w kv e1;rw[hz,gM0,e] at hk';have ek:Sum.inr z=k:=by simpa using hk'
  subst ek;obtain⟨t,rfl⟩:=a8x e2;exact⟨as[i],_,t,[x],0,by rw[gM0,gE0 hia];rfl,hP0 _ e3,rfl,rfl⟩⟩
 refine wB0 (wpAny_holding (wpAny_call_entry slot_list_sort ⟨_,hoL,rfl⟩ entry_list_sort (Srt.a5j (s:={ s with heap:=h'.push (seqObj "list" (as.map Value.ref).toArray 0),toks:=tk }) (zs:=zs) hoL ta nd (by rw[hal'];exact h64) fun p' pn up=>⟨_,rfl,?_⟩) (args_list_sort _)));have hndA:as.Nodup:=hG.rise.imp fun h=>nL0 h;have hltA:∀a∈as,a<h'.objs.size:=fun a ha=>hG.there ha;have hlA:h'.objs.size∉as:=fun hm=>Nat.lt_irrefl _ (hltA _ hm);have hgA:∀a∈as,s.heap.get? a=none:=fun a ha=>by
  cases e:s.heap.get? a with
  |none=>rfl
  |some ob=>exact absurd (hL0 e) (Nat.lt_asymm (hG.above a ha))
 have hnL:s.heap.get? h'.objs.size=none:=by
  cases e:s.heap.get? h'.objs.size with
  |none=>rfl
  |some ob=>exact absurd (hL0 (hk _ _ e)) (Nat.lt_irrefl _)
 obtain⟨e,he⟩:=sortedHeap_at (out:=List.toArray (p'.toList.map fun i=>(as.map Value.ref).getD i Value.none)) hoL;have keep:∀b ob,h'.get? b=some ob->(sortedHeap (h'.push (seqObj "list" (as.map Value.ref).toArray 0)) h'.objs.size (as.map Value.ref) (List.toArray (p'.toList.map fun i=>(as.map Value.ref).getD i Value.none))).get? b=some ob:=fun b ob q'=>by
  have hlt:=hL0 q';rw[sortedHeap_old (nL0 hlt) (by rw[size_push'];exact Nat.lt_succ_of_lt hlt)];exact hP0 _ q'
 have la:as.length=kvs.length:=by rw[hal,<-hl]
 have lt:∀i∈p'.toList,i<as.length:=fun i hi=>by
  have:=List.mem_range.mp (pn.mem_iff.mp hi)
  rwa [lM0] at this
 have ev:(p'.toList.map fun i=>as.getD i 0).map V.ref=p'.toList.map fun i=>(as.map V.ref).getD i .non:=by
  rw[mC0];apply List.map_congr_left;intro i hi;have h1:=lt i hi;simp[List.getD_eq_getElem?_getD,h1]
 have hs:=pn.size;have rr:∀{bs:List Addr},a1l (bs.map V.ref) (bs.map Value.ref):=fun {bs}=>by
  induction bs with
  |nil=>exact .nil
  |cons b r ih=>exact .cons rfl ih
 have at_:∀(j:Nat) (a:Addr) (k:Key) (v:V),as[j]? =some a->kvs[j]? =some (k,v)->itH H h'.objs.size (.lst ((p'.toList.map fun i=>as.getD i 0).map V.ref)) as kvs a=some (.tup [kV k,v]):=fun j a k v h1 h2=>by
  have hm:=gI0 h1;unfold itH;rw[if_neg (nL0 (hltA a hm)),if_pos hm,b1R hndA h1,List.getD_eq_getElem?_getD,h2]
  rfl
 have oldI:∀b u,s.heap.get? b=some u->itH H h'.objs.size (.lst ((p'.toList.map fun i=>as.getD i 0).map V.ref)) as kvs b=H b:=fun b u e=>by
  unfold itH;rw[if_neg (fun z=>by rw[z,hnL] at e;cases e),if_neg (fun z=>by rw[hgA b z] at e;cases e)]
 refine wP0 ⟨_,rfl,.ref h'.objs.size,itH H h'.objs.size (.lst ((p'.toList.map fun i=>as.getD i 0).map V.ref)) as kvs,I.laidM (t':=tk) (fun b ob e=>keep b ob (hk b ob e)) oldI fun b u hu hn=>?_,rfl,
  q _ as p'.toList _ (I.none_at hnL) (fun a ha=>I.none_at (hgA a ha)) hlA hndA la (fun b u hb=>?_) at_ (by have:=pn;unfold Srt.PN at this;rw[lM0] at this;exact this) ?_ (by unfold itH;rw[if_pos rfl])⟩
 ·by_cases hbl:b=h'.objs.size
  ·subst hbl
   unfold itH at hu;rw[if_pos rfl] at hu;cases hu;refine⟨?_,_,e,?_,he⟩
   ·rw[lM0,lM0,aL0,hs,lM0,la]
    exact hlen
   ·rw[ev]
    exact a5h rr _ fun i hi=>by rw[lM0];exact lt i hi
  ·by_cases hba:b∈as
   ·obtain⟨j,hj⟩:=List.getElem?_of_mem hba
    obtain⟨key,k,x,e1,e2,e3⟩:=hG.pairs j b hj;obtain⟨v,e4,rv⟩:=a5A kv e1;rw[at_ j b k v hj e4] at hu;cases hu;exact⟨by show 2<=sizeLine;decide,[key,x],.cons (a8x e2) (.cons rv .nil),_,keep _ _ e3,rfl,0,rfl⟩
   ·unfold itH at hu
    rw[if_neg hbl,if_neg hba] at hu;obtain⟨ob,z⟩:=(I.hok b u hu).there;rw[hn] at z;cases z
 ·obtain⟨ob,z⟩:=(I.hok b u hb).there
  rw[oldI b ob z];exact hb
 ·unfold a5M
  rw[List.pairwise_map,List.pairwise_iff_getElem];intro i j hi hj hij;have hi':i<p'.size:=by simpa using hi
  have hj':j<p'.size:=by simpa using hj
  have h0:=up i j (by omega) (by omega);unfold Srt.rz at h0;rw[decide_eq_false_iff_not,Srt.a2u hi',Srt.a2u hj'] at h0;rw[Array.getElem_toList,Array.getElem_toList];exact h0
def del (H:Hp)(c:Addr):Hp:=fun b=>if b=c then none else H b
theorem a3W {H:Hp}{c:Addr}:del H c c=none:=if_pos rfl
theorem a2H {H:Hp}{b c:Addr}(h:b≠c):del H c b=H b:=if_neg h
def b4t (t:TS):TS:=fun D σ H=>∃R:St->Hp->Prop,t { D with nx:=R } σ H/\∀σ' H',R σ' H'->D.nx σ' H'
theorem a0I {X:Cx}{st:Stmt}{t:TS}(h:PS X st t):PS X st (b4t t):=by
 intro pins s σ H D I hq;obtain⟨R,h1,h2⟩:=hq;refine thn (h pins s σ H _ I h1) fun f s' hs=>?_;cases f with
 |next=>obtain⟨σ',H',I',z⟩:=hs;exact⟨σ',H',I',h2 _ _ z⟩
 |brk=>exact hs
 |cont=>exact hs
 |ret u=>exact hs
theorem b4S (hu:X.A.units<cLine):OpR X (compareOp .Eq) (fun x y H Q=>∃(p b:Addr) (xs:List V),x=.ref p/\y=.ref b/\SqL X.K H p xs/\SqL X.K H b []/\Q (.bl (decide (xs.length=0))) H):=by
 intro pins s σ H x y v u Q I rx ry h;obtain⟨p,b,xs,rfl,rfl,hp,hb,q⟩:=h;cases rx;cases ry;obtain⟨its,r1,pl,_⟩:=I.list hp;obtain⟨jts,r2,ql,_⟩:=I.list hb;have l1:xs.length=its.length:=r1.length;have l2:([]:List V).length=jts.length:=r2.length
 by_cases hl:its.length=jts.length
 ·refine SeqAt.eq_listAt (e:=fun _=>true) pl.isList ql.isList (by simpa using hl) hu (fun j g1 g2=>?_) ?_
  ·have g2':j<jts.length:=by simpa using g2
   rw[<-l2] at g2';exact absurd g2' (Nat.not_lt_zero _)
  ·have e:((List.range its.toArray.size).all fun _=>true)=decide (xs.length=0):=by
    rw[dT0 (show xs.length=0 by rw[l1,hl,<-l2];rfl)];simp
   rw[e];exact⟨.bl _,H,I,rfl,q⟩
 ·refine SeqAt.eq_list_lengthsAt pl.isList ql.isList (by simpa using hl) hu ⟨.bl (decide (xs.length=0)),H,I,?_,q⟩
  have:¬xs.length=0:=fun e=>hl (by rw[<-l1,<-l2,e];rfl)
  rw[dF0 this]
  rfl
end
end L2
namespace My
open PySem L2 PyProof.Rows
seal L2.PE L2.PT L2.PW L2.PS L2.PSs L2.PA L2.PI L2.PG L2.PGs L2.OpR L2.UnR L2.a1u L2.IxR L2.SlR L2.MtR L2.PIf L2.PO L2.MtM L2.PC
def cel (ns:List Int)(k:Int):Int:=if k<ns.length then ns.getD k.toNat 0 else if ns.length=0 then k * 48271%65537 else ns.getD (k%ns.length).toNat 0 * 48271%2147483647+7919 * k
def b6x (K:Fg0):Sp:=fun vs H Q _=>∃(a:Addr) (ns:List Int) (k:Int),vs=[.ref a,.int k]/\SqL K H a (ns.map V.int)/\0<=k/\k<=1000000/\ns.length<=63/\∀H':Hp,a0r H H'->Q (.int (cel ns k)) H'
def b3y:Str:="abcdefghijklmnopqrstuvwxyz"
def nmC (fi st at_ k:Int)(n:Nat):List Nat:=(List.range n).map fun(j:Nat)=>b1n (if (0+(j:Int))=at_ then fi+(0+(j:Int)) * st+k else fi+(0+(j:Int)) * st)
theorem a8Z {fi st at_ k:Int}{n:Nat}:(nmC fi st at_ k n).length=n:=by unfold nmC;rw[lM0,List.length_range]
theorem b3r {fi st at_ k k':Int}{n:Nat}(h0:0<=at_)(h1:at_<n)(e:nmC fi st at_ k n=nmC fi st at_ k' n):(fi+(0+at_) * st+k)%26=(fi+(0+at_) * st+k')%26:=by
 obtain⟨j,rfl⟩:=Int.eq_ofNat_of_zero_le h0;have hj:j<n:=by omega
 have g:=congrArg (fun l:List Nat=>l[j]?) e;simp only[nmC,gM0,List.getElem?_range hj,Option.map_some] at g;have g':=Option.some.inj g;rw[if_pos (by omega),if_pos (by omega)] at g';exact b0z g'
def a8M:Sp:=fun vs H Q _=>∃c m:Int,vs=[.int c,.int m]/\0<=m/\m<=12/\∀(l:Addr) (zs:List Str) (H':Hp),a0r H H'->H l=none->H' l=some (.lst (zs.map V.str))->(zs.length:Int)=m->zs.Nodup->(∀z∈zs,a0T z=true)->Q (.ref l) H'
theorem b1b {H H1:Hp}{p:Addr}{o:HO}(s:a0r H H1)(h:H p=none):a0r H (upd H1 p o):=fun b u e=>by
 rw[a0g (a0O e h)];exact s _ _ e
theorem b1a {fi st at_ k:Int}{n:Nat}:nmC fi st at_ k (n+1)=nmC fi st at_ k n++[b1n (if (0+(n:Int))=at_ then fi+(0+(n:Int)) * st+k else fi+(0+(n:Int)) * st)]:=by
 unfold nmC;rw[List.range_succ,mA0]
 rfl
section
variable {P:Program}{w:World}{K:Fg0}{mg:Str->Option Value}{base:Heap}
theorem b2L {f:Addr}{fd:FuncData}(F:Fun K "_law_cell" "_law_cell" (top 46) f fd)(B:Bl mg):a0x P w K mg base CX0 1 f fd ["_law_script","_law_k"] (b6x K):=by
 have sc:a0o ["_law_script","_law_k"] ["_law_script","_law_k"] (a0f (top 46)):=.k (by decide +kernel);refine F.ok sc (fun vs H Q E h=>?_) (fun cdv A outer s H vs Q E hr h=>?_)
 ·obtain⟨a,ns,k,rfl,_⟩:=h
  rfl
 ·obtain⟨a,ns,k,rfl,hS,h0,h1,h63,q⟩:=h
  have hl:(ns.map V.int).length=ns.length:=lM0 ..;have hu:_+1<cLine:=a2s hr;refine⟨_,a0c (a0C (a0t b0e (pv 1) (a0k a0W (by rfl) B.len PySem.boot_len (a0a (pv 0) a0b)) (a0u _)) (a0h (a0z (a0s a0j (pv 0) (pv 1) (fun _ _=>rfl)))) a0l)
   (a0c (a0C (a0t (b4S (Nat.lt_of_succ_lt hu)) (pv 0) (a1r a0b) (a0u _)) (a0h (a0z (a1p a1A (a1p a7y (pv 1) a0e) a0e))) a0l)
   (a0h (a0z (a1p a7X (a1p a1A (a1p a7y (a0s a0j (pv 0) (a1p a1A (pv 1) (a0k a0W (by rfl) B.len PySem.boot_len (a0a (pv 0) a0b))) (fun _ _=>rfl)) a0e) a0e) (a1p a7y a0e (pv 1)))))),?_⟩
  refine⟨_,rfl,_,rfl,_,_,rfl,.inl hS,_,_,rfl,rfl,_,rfl,?_⟩;refine a8I (fun c=>?_) (fun c=>?_)
  ·have c':k<ns.length:=by rw[<-hl];exact of_decide_eq_true c
   exact⟨_,rfl,_,rfl,_,_,_,_,rfl,rfl,hS,a6n h0 c',(by have:=q _ (a0r.refl H);unfold cel at this;rw[if_pos c'] at this;exact this)⟩
  ·have nc:¬k<ns.length:=fun e=>c (dT0 (by rw[hl];exact e))
   refine⟨_,rfl,zL0 _,fun p hp=>?_⟩;have s1:a0r H (upd H p (.lst [])):=a0r.upd hp;refine⟨_,_,_,rfl,rfl,s1.seq hS,SqL.of a0d,_,rfl,?_⟩;refine a8I (fun c2=>?_) (fun c2=>?_)
   ·exact⟨_,rfl,_,_,rfl,rfl,.inr ⟨by decide,by decide⟩,_,_,rfl,rfl,(pos rfl),(by have:=q _ s1;unfold cel at this;rw[if_neg nc,if_pos (by rw[<-hl];exact of_decide_eq_true c2)] at this;exact this)⟩
   ·have c3:(0:Int)<ns.length:=by
     have:¬(ns.map V.int).length=0:=fun e=>c2 (dT0 e)
     rw[hl] at this
     omega
    have m0:0<=k%(ns.length:Int):=Int.emod_nonneg _ (by omega);have m1:k%(ns.length:Int)<ns.length:=Int.emod_lt_of_pos _ c3;exact⟨_,rfl,_,rfl,_,rfl,_,_,rfl,.inl (s1.seq hS),_,_,rfl,rfl,(by rw[hl];exact c3),_,_,_,_,rfl,rfl,s1.seq hS,(by rw[hl];exact a6n m0 m1),_,_,rfl,rfl,.inr ⟨by decide,by decide⟩,_,_,rfl,rfl,(pos rfl),_,rfl,_,_,rfl,rfl,.inl ⟨by decide,by decide⟩,_,_,rfl,rfl,(by have:=q _ s1;unfold cel at this;rw[if_neg nc,if_neg (by omega)] at this;exact this)⟩
theorem b0q {f:Addr}{fd:FuncData}(F:Fun K "_law_names" "_law_names" (top 47) f fd)(B:Bl mg):a0x P w K mg base CX0 1 f fd ["_law_cell_here","_law_many"] a8M:=by
 have sc:a0o ["_law_cell_here","_law_many","_law_letters","_law_long","_law_at","_law_names_here","_law_k","_law_name","_law_j","_law_step"] ["_law_cell_here","_law_many"] (a0f (top 47)):=.k (by decide +kernel);refine F.ok sc (fun vs H Q E h=>?_) (fun cdv A outer s H vs Q E hr h=>?_)
 ·obtain⟨c,m,rfl,_⟩:=h
  rfl
 ·obtain⟨c,m,rfl,m0,m12,q⟩:=h
  refine⟨_,a0c (a0p (i:=2) sc.nd rfl (Or.inl rfl) a0v)
   (a0c (a0p (i:=3) sc.nd rfl (Or.inl rfl) (a1p a7X a0e (a1p a1A (pv 0) a0e)))
   (a0c (a0p (i:=4) sc.nd rfl (Or.inl rfl) (a1p a1A (a1p a4f (pv 0) a0e) (pv 3)))
   (a0c (a0p (i:=5) sc.nd rfl (Or.inl rfl) (a1r a0b))
   (a0c (a2E PassesOwn.never rfl (a5J rfl B.range (a0a (pv 1) a0b)) (a0E (i:=6) sc.nd rfl (Or.inl rfl))
    (a0c (a0p (i:=7) sc.nd rfl (Or.inl rfl) a0v)
    (a0c (a2E PassesOwn.never rfl (a5J rfl B.range (a0a (pv 3) a0b)) (a0E (i:=8) sc.nd rfl (Or.inl rfl))
     (a0c (a0p (i:=9) sc.nd rfl (Or.inl rfl) (a1p a7X (a1p a4f (pv 0) a0e) (a1p a7y (pv 8) (a1p a4f (pv 0) a0e))))
     (a0c (a0I (a0C (a0t a1k (pv 8) (pv 4) (a0u _)) (a0h (a0p (i:=9) sc.nd rfl (Or.inl rfl) (a1p a7X (pv 9) (pv 6)))) a0l))
     (a0h (a0p (i:=7) sc.nd rfl (Or.inl rfl) (a1p a8z (pv 7) (a0s b3F (pv 2) (a1p a1A (pv 9) a0e) (fun _ _=>rfl))))))))
    (a0h (a0F (a6Y PySem.F.plainAttrs_list PySem.F.slot_list_append PySem.F.type_list_append a6u (pv 5) (a0a (pv 7) a0b)))))))
   (a0h (a0z (pv 5))))))),?_⟩
  have l0:=Int.emod_nonneg c (show(8:Int)≠0 by decide);have l8:=Int.emod_lt_of_pos c (show(0:Int)<8 by decide);refine⟨_,rfl,_,_,rfl,rfl,(pos rfl),_,_,rfl,rfl,?_⟩;have lp:(0:Int)<1+c%8:=by omega
  refine⟨_,rfl,_,_,rfl,rfl,⟨by decide,by decide⟩,_,rfl,_,_,rfl,rfl,lp,?_⟩;have a0:=Int.emod_nonneg (c/8) (show(1+c%8:Int)≠0 by omega);have a9:=Int.emod_lt_of_pos (c/8) lp;refine⟨zL0 _,fun l hl=>?_⟩;have T1:=a0r.upd (o:=.lst []) hl;have e1:=a0d (H:=H) (a:=l) (o:=.lst []);show b6z _ _ _ [some (.int c),some (.int m),some (.str b3y),some (.int (1+c%8)),some (.int (c/8%(1+c%8))),some (.ref l),none,none,none,none] _;generalize upd H l (.lst [])=H1 at *;generalize c/8%(1+c%8)=at_ at *;generalize hln:1+c%8=ln at *;have abz:b3y.length<=sizeLine:=by decide +kernel
  obtain⟨nL,hnL⟩:=Int.eq_ofNat_of_zero_le (show 0<=ln by omega);refine⟨_,rfl,_,rfl,(by omega),(by omega),a6x (fun i σ H'=>a0r H H'/\(∃u8 u9 u10 u11,σ=[some (.int c),some (.int m),some (.str b3y),some (.int ln),some (.int at_),some (.ref l),u8,u9,u10,u11])/\∃zs:List Str,H' l=some (.lst (zs.map V.str))/\zs.length=i/\∀(j:Nat) (z:Str),zs[j]? =some z->z.cps.toList=nmC (c/64) (c/1664) at_ (0+(j:Int)) nL) ⟨T1,⟨_,_,_,_,rfl⟩,[],e1,rfl,fun j z h=>nomatch h⟩ ?_ ?_⟩
  ·rintro i σ H' hi ⟨sm,⟨u8,u9,u10,u11,rfl⟩,zs,g1,g2,g3⟩
   refine⟨_,rfl,_,rfl,(by omega),(by omega),a6x (fun j σ H2=>H2=H'/\∃(z:Str) (u10 u11:Option V),σ=[some (.int c),some (.int m),some (.str b3y),some (.int ln),some (.int at_),some (.ref l),some (.int (0+(i:Int))),some (.str z),u10,u11]/\z.cps.toList=nmC (c/64) (c/1664) at_ (0+(i:Int)) j) ⟨rfl,"",_,_,rfl,rfl⟩ ?_ ?_⟩
   ·rintro j σ H2 hj ⟨rfl,z,v10,v11,rfl,hz⟩
    refine⟨_,rfl,_,_,rfl,rfl,⟨by decide,by decide⟩,_,rfl,_,rfl,_,_,rfl,rfl,⟨by decide,by decide⟩,_,_,rfl,rfl,.inl ⟨by omega,by omega⟩,_,_,rfl,rfl,?_⟩;refine⟨fun σ' H3=>H3=H2/\σ'=[some (.int c),some (.int m),some (.str b3y),some (.int ln),some (.int at_),some (.ref l),some (.int (0+(i:Int))),some (.str z),some (.int (0+(j:Int))),some (.int (if (0+(j:Int))=at_ then c/64+(0+(j:Int)) * (c/1664)+(0+(i:Int)) else c/64+(0+(j:Int)) * (c/1664)))],?_,?_⟩
    ·refine⟨_,rfl,_,rfl,rfl,_,rfl,?_⟩
     by_cases hc:(0+(j:Int))=at_
     ·refine a6B (by rw[hc];exact dT0 rfl) ⟨_,rfl,_,rfl,_,_,rfl,rfl,rfl,?_⟩
      rw[if_pos hc]
      rfl
     ·refine a3e (dF0 fun e=>hc (by injection e)) ⟨rfl,?_⟩
      rw[if_neg hc]
      rfl
    rintro σ3 H3 ⟨rfl,rfl⟩;have lt:=a9L (if (0+(j:Int))=at_ then c/64+(0+(j:Int)) * (c/1664)+(0+(i:Int)) else c/64+(0+(j:Int)) * (c/1664));have zl:z.length=j:=by
     have:=congrArg List.length hz
     rw[a8Z] at this;show z.cps.size=j;rw[<-aL0];exact this
    refine⟨_,rfl,_,rfl,_,rfl,_,_,rfl,rfl,(pos rfl),b3y,_,_,rfl,rfl,abz,lt.1,_,_,rfl,rfl,(by rw[sizeLine_eq];show z.length+1<=_;omega),rfl,_,_,_,rfl,?_⟩;rw[Str.cps_append,Array.toList_append,hz,b1a]
   ·rintro σ H2 ⟨rfl,z,v10,v11,rfl,hz⟩
    refine⟨_,rfl,.inl ⟨rfl,_,SqL.of g1⟩,_,rfl,l,_,_,rfl,rfl,g1,(by rw[lM0,sizeLine_eq];omega),?_⟩;refine⟨b1b sm hl,⟨_,_,_,_,rfl⟩,zs++[z],by rw[a0d,mA0];rfl,by rw[lA0,g2];rfl,fun j z' hj=>?_⟩
    by_cases hjl:j<zs.length
    ·rw[gL0 hjl] at hj
     exact g3 j z' hj
    ·have e:j=zs.length:=by
      have:=(gS0.mp hj).1
      rw[lA0] at this;simp at this
      omega
     subst e;rw[gR0 (nR0 _),Nat.sub_self] at hj;cases hj;rw[g2];have en:ln.toNat=nL:=by rw[hnL];simp
     rw[en] at hz;exact hz
  ·rintro σ H' ⟨sm,⟨u8,u9,u10,u11,rfl⟩,zs,g1,g2,g3⟩
   refine⟨_,rfl,q l zs H' sm hl g1 (by omega) ?_ fun z hz=>?_⟩
   ·rw[List.nodup_iff_pairwise_ne,List.pairwise_iff_getElem]
    intro i j hi hj hij e;have h1:=g3 i zs[i] (gE0 hi);have h2:=g3 j zs[j] (gE0 hj);rw[e,h2] at h1
    have:=b3r a0 (by omega) h1
    omega
   ·obtain⟨j,hj⟩:=List.getElem?_of_mem hz
    have:=congrArg List.length (g3 j z hj)
    rw[a8Z] at this;have zl:z.length=nL:=by
     show z.cps.size=nL;rw[<-aL0];exact this
    refine b0F (fun x hx=>?_) (by omega) (by omega);rw[g3 j z hj] at hx;obtain⟨k,_,rfl⟩:=mM0.mp hx;exact(a9L _).2
end
end My
namespace L2
open PySem PySem.Spec PyProof.Rows
theorem SqT.rd {K:Fg0}{H:Hp}{a:Addr}{xs:List V}(h:Rd H a (.tup xs)):SqT K H a xs:=.inl h
theorem a0y {X:Cx}:a1u X (.builtin "isinstance") (fun xs H Q=>∃x n t b,xs=[x,.ty n]/\(a7e X.K H x t\/∃a ys,x=.ref a/\Rd H a (.tup ys)/\t=.type "tuple")/\PySem.W.kitOne X.K t (.type n)=some b/\Q (.bl b) H):=by
 intro pins s σ H xs us Q I r h;obtain⟨x,n,t,b,rfl,hx,e,q⟩:=h;rcases hx with hx |⟨a,ys,rfl,ha,rfl⟩
 ·exact a2z pins s σ H _ us Q I r ⟨x,n,t,b,rfl,hx,e,q⟩
 ·obtain⟨u,w',rfl,rx,rc⟩:=a9y r
  cases rx
  cases(show w'=Value.type n from rc)
  obtain⟨its,_,⟨o,h1,h2,_⟩,_⟩:=I.tuple (SqT.rd ha);exact PySem.W.kia_one PySem.W.kitx_tuple I.kIn ⟨o,h1,h2⟩ e (fun z=>nomatch z) fun tk=>⟨.bl b,H,I.tok tk,rfl,q⟩
end L2
namespace My
open PySem L2 PyProof.Rows
seal L2.PE L2.PT L2.PW L2.PS L2.PSs L2.PA L2.PI L2.PG L2.PGs L2.OpR L2.UnR L2.a1u L2.IxR L2.SlR L2.MtR L2.PIf L2.PO L2.MtM L2.PC
def b3J (n:Nat):Sp:=fun vs H Q _=>∃x y,vs=[x,y]/\Lq H n x y/\∀H',a0r H H'->Q (.bl true) H'
section
variable {P:Program}{w:World}{K:Fg0}{mg:Str->Option Value}{base:Heap}
theorem kq {a b:String}{r:Bool}(h:a1c a b=some r):PySem.W.kitOne K (.type a) (.type b)=some r:=a2J.trans h
theorem b3M {fself:Addr}{fd:FuncData}(D:Df K mg "_law_alike" (top 48) fself fd)(B:Bl mg)(hz:mg "zip"=none)(n:Nat)(ih:∀m,n=m+1->a0x P w K mg base CX0 (m+1) fself fd ["_law_found","_law_due"] (b3J m)) :
  a0x P w K mg base CX0 (n+1) fself fd ["_law_found","_law_due"] (b3J n):=by
 have sc:a0o ["_law_found","_law_due","_law_name","_law_one","_law_other"] ["_law_found","_law_due"] (a0f (top 48)):=.k (by decide +kernel);have bA:=D.fn.b2 "_law_found" "_law_due" (by intros;rfl);refine D.fn.ok sc (fun vs H Q E h=>?_) (fun cdv A outer s H vs Q E' hr h=>?_)
 ·obtain⟨x,y,rfl,_⟩:=h
  rfl
 ·obtain⟨x,y,rfl,hl,q⟩:=h
  cases hl with
  |non=>
   refine⟨_,(a0c (a0C (a0t a3K (pv 1) a2X (a0u _)) (a0h (a0z (a0Q a3K (pv 0) a2X (a0u _)))) a0l)
     a0m),?_⟩
   refine⟨_,rfl,rfl,_,rfl,a6B (dT0 rfl) ?_⟩;refine⟨_,rfl,rfl,?_⟩;rw[dT0 rfl];exact q H (a0r.refl H)
  |bl=>
   refine⟨_,(a0c (a0C (a0t a3K (pv 1) a2X (a0u _)) a0m a0l)
     (a0c (a0C (PW.pt (a3x (a0K (a0k a0y (by rfl) B.isi boot_isi (a0a (pv 1) (a0a (a0B (v:=.ty "bool") (by rfl) B.bool boot_bool rfl) a0b)))) (a2n (a0K (a0k a0y (by rfl) B.isi boot_isi (a0a (pv 0) (a0a (a0B (v:=.ty "bool") (by rfl) B.bool boot_bool rfl) a0b))))))) (a0h (a0z (a1y (a0k a0y (by rfl) B.isi boot_isi (a0a (pv 1) (a0a (a0B (v:=.ty "bool") (by rfl) B.bool boot_bool rfl) a0b))) (a1y (a0k a0y (by rfl) B.isi boot_isi (a0a (pv 0) (a0a (a0B (v:=.ty "bool") (by rfl) B.bool boot_bool rfl) a0b))) (a1M (a0Q a1k (pv 0) (pv 1) (a0u _))))))) a0l)
     a0m)),?_⟩
   refine⟨_,rfl,rfl,_,rfl,a3e (dF0 fun e=>by cases e) ?_⟩;refine⟨_,rfl,_,_,_,_,rfl,.inl (.bl _),kq (show a1c "bool" "bool"=some true by decide +kernel),_,rfl,?_⟩;refine a3C ?_;refine a3C ?_;refine⟨_,rfl,_,_,_,_,rfl,.inl (.bl _),kq (show a1c "bool" "bool"=some true by decide +kernel),_,rfl,?_⟩;refine a3C ?_;refine⟨_,rfl,_,_,_,_,rfl,.inl (.bl _),kq (show a1c "bool" "bool"=some true by decide +kernel),_,rfl,?_⟩;refine a3C ?_;refine⟨_,rfl,_,rfl,rfl,?_⟩;rw[dT0 rfl];exact q H (a0r.refl H)
  |int=>
   refine⟨_,(a0c (a0C (a0t a3K (pv 1) a2X (a0u _)) a0m a0l)
     (a0c (a0C (PW.pt (a3x (a0K (a0k a0y (by rfl) B.isi boot_isi (a0a (pv 1) (a0a (a0B (v:=.ty "bool") (by rfl) B.bool boot_bool rfl) a0b)))) (a2n (a0K (a0k a0y (by rfl) B.isi boot_isi (a0a (pv 0) (a0a (a0B (v:=.ty "bool") (by rfl) B.bool boot_bool rfl) a0b))))))) a0m a0l)
     (a0c (a0C (a0K (a0k a0y (by rfl) B.isi boot_isi (a0a (pv 1) (a0a (a0B (v:=.ty "int") (by rfl) B.int boot_int rfl) a0b)))) (a0h (a0z (a1y (a0k a0y (by rfl) B.isi boot_isi (a0a (pv 0) (a0a (a0B (v:=.ty "int") (by rfl) B.int boot_int rfl) a0b))) (a1M (a0Q a1k (pv 0) (pv 1) (a0u _)))))) a0l)
     a0m))),?_⟩
   refine⟨_,rfl,rfl,_,rfl,a3e (dF0 fun e=>by cases e) ?_⟩;refine⟨_,rfl,_,_,_,_,rfl,.inl (.int _),kq (show a1c "int" "bool"=some false by decide +kernel),_,rfl,?_⟩;refine a1Z ?_;refine⟨_,rfl,_,_,_,_,rfl,.inl (.int _),kq (show a1c "int" "bool"=some false by decide +kernel),_,rfl,?_⟩;refine a1Z ?_;refine⟨_,rfl,_,_,_,_,rfl,.inl (.int _),kq (show a1c "int" "int"=some true by decide +kernel),_,rfl,?_⟩;refine a3C ?_;refine⟨_,rfl,_,_,_,_,rfl,.inl (.int _),kq (show a1c "int" "int"=some true by decide +kernel),_,rfl,?_⟩;refine a3C ?_;refine⟨_,rfl,_,rfl,rfl,?_⟩;rw[dT0 rfl];exact q H (a0r.refl H)
  |str=>
   refine⟨_,(a0c (a0C (a0t a3K (pv 1) a2X (a0u _)) a0m a0l)
     (a0c (a0C (PW.pt (a3x (a0K (a0k a0y (by rfl) B.isi boot_isi (a0a (pv 1) (a0a (a0B (v:=.ty "bool") (by rfl) B.bool boot_bool rfl) a0b)))) (a2n (a0K (a0k a0y (by rfl) B.isi boot_isi (a0a (pv 0) (a0a (a0B (v:=.ty "bool") (by rfl) B.bool boot_bool rfl) a0b))))))) a0m a0l)
     (a0c (a0C (a0K (a0k a0y (by rfl) B.isi boot_isi (a0a (pv 1) (a0a (a0B (v:=.ty "int") (by rfl) B.int boot_int rfl) a0b)))) a0m a0l)
     (a0c (a0C (a0K (a0k a0y (by rfl) B.isi boot_isi (a0a (pv 1) (a0a (a0B (v:=.ty "str") (by rfl) B.str boot_str rfl) a0b)))) (a0h (a0z (a1y (a0k a0y (by rfl) B.isi boot_isi (a0a (pv 0) (a0a (a0B (v:=.ty "str") (by rfl) B.str boot_str rfl) a0b))) (a1M (a0Q a1k (pv 0) (pv 1) (a0u _)))))) a0l)
     a0m)))),?_⟩
   refine⟨_,rfl,rfl,_,rfl,a3e (dF0 fun e=>by cases e) ?_⟩;refine⟨_,rfl,_,_,_,_,rfl,.inl (.str _),kq (show a1c "str" "bool"=some false by decide +kernel),_,rfl,?_⟩;refine a1Z ?_;refine⟨_,rfl,_,_,_,_,rfl,.inl (.str _),kq (show a1c "str" "bool"=some false by decide +kernel),_,rfl,?_⟩;refine a1Z ?_;refine⟨_,rfl,_,_,_,_,rfl,.inl (.str _),kq (show a1c "str" "int"=some false by decide +kernel),_,rfl,?_⟩;refine a1Z ?_;refine⟨_,rfl,_,_,_,_,rfl,.inl (.str _),kq (show a1c "str" "str"=some true by decide +kernel),_,rfl,?_⟩;refine a3C ?_;refine⟨_,rfl,_,_,_,_,rfl,.inl (.str _),kq (show a1c "str" "str"=some true by decide +kernel),_,rfl,?_⟩;refine a3C ?_;refine⟨_,rfl,_,rfl,rfl,?_⟩;rw[dT0 rfl];exact q H (a0r.refl H)
  |@tup m a b xs ys ha hb hlen hi=>
   have ihS:=ih m rfl;have hrS:a1g (m+1) _:=hr;refine⟨_,(a0c (a0C (a0t a3K (pv 1) a2X (a0u _)) a0m a0l)
     (a0c (a0C (PW.pt (a3x (a0K (a0k a0y (by rfl) B.isi boot_isi (a0a (pv 1) (a0a (a0B (v:=.ty "bool") (by rfl) B.bool boot_bool rfl) a0b)))) (a2n (a0K (a0k a0y (by rfl) B.isi boot_isi (a0a (pv 0) (a0a (a0B (v:=.ty "bool") (by rfl) B.bool boot_bool rfl) a0b))))))) a0m a0l)
     (a0c (a0C (a0K (a0k a0y (by rfl) B.isi boot_isi (a0a (pv 1) (a0a (a0B (v:=.ty "int") (by rfl) B.int boot_int rfl) a0b)))) a0m a0l)
     (a0c (a0C (a0K (a0k a0y (by rfl) B.isi boot_isi (a0a (pv 1) (a0a (a0B (v:=.ty "str") (by rfl) B.str boot_str rfl) a0b)))) a0m a0l)
     (a0c (a0C (a0K (a0k a0y (by rfl) B.isi boot_isi (a0a (pv 1) (a0a (a0B (v:=.ty "dict") (by rfl) B.dict boot_dict rfl) a0b)))) a0m a0l)
     (a0c (a0C (PW.pt (a3x (a0t a3O (a0k a0y (by rfl) B.isi boot_isi (a0a (pv 1) (a0a (a0B (v:=.ty "list") (by rfl) B.list boot_list rfl) a0b))) (a0k a0y (by rfl) B.isi boot_isi (a0a (pv 0) (a0a (a0B (v:=.ty "list") (by rfl) B.list boot_list rfl) a0b))) (a0u _)) (a2n (a0t a3O (a0k a0y (by rfl) B.isi boot_isi (a0a (pv 1) (a0a (a0B (v:=.ty "tuple") (by rfl) B.tuple boot_tuple rfl) a0b))) (a0k a0y (by rfl) B.isi boot_isi (a0a (pv 0) (a0a (a0B (v:=.ty "tuple") (by rfl) B.tuple boot_tuple rfl) a0b))) (a0u _))))) a0m a0l)
     (a0c (a0C (a0t a3O (a0k a0W (by rfl) B.len PySem.boot_len (a0a (pv 0) a0b)) (a0k a0W (by rfl) B.len PySem.boot_len (a0a (pv 1) a0b)) (a0u _)) a0m a0l)
     (a0c (a2E PassesOwn.never rfl (b3k (by rfl) hz (a0a (pv 0) (a0a (pv 1) a0b))) (a4P rfl (a0N (a0E (i:=3) sc.nd rfl (Or.inl rfl)) (a0N (a0E (i:=4) sc.nd rfl (Or.inl rfl)) a2t)))
      (a0h (a0C (a1P (a0K (a0i ihS hrS (by rfl) D.mg D.fn.kp bA .nil a0q (a0a (pv 3) (a0a (pv 4) a0b))))) a0m a0l)))
     (a0h (a0z a3Q)))))))))),?_⟩
   refine⟨_,rfl,rfl,_,rfl,a3e (dF0 fun e=>by cases e) ?_⟩;refine⟨_,rfl,_,_,_,_,rfl,.inr ⟨_,_,rfl,hb,rfl⟩,kq (show a1c "tuple" "bool"=some false by decide +kernel),_,rfl,?_⟩;refine a1Z ?_;refine⟨_,rfl,_,_,_,_,rfl,.inr ⟨_,_,rfl,ha,rfl⟩,kq (show a1c "tuple" "bool"=some false by decide +kernel),_,rfl,?_⟩;refine a1Z ?_;refine⟨_,rfl,_,_,_,_,rfl,.inr ⟨_,_,rfl,hb,rfl⟩,kq (show a1c "tuple" "int"=some false by decide +kernel),_,rfl,?_⟩;refine a1Z ?_;refine⟨_,rfl,_,_,_,_,rfl,.inr ⟨_,_,rfl,hb,rfl⟩,kq (show a1c "tuple" "str"=some false by decide +kernel),_,rfl,?_⟩;refine a1Z ?_;refine⟨_,rfl,_,_,_,_,rfl,.inr ⟨_,_,rfl,hb,rfl⟩,kq (show a1c "tuple" "dict"=some false by decide +kernel),_,rfl,?_⟩;refine a1Z ?_;refine⟨_,rfl,_,_,_,_,rfl,.inr ⟨_,_,rfl,hb,rfl⟩,kq (show a1c "tuple" "list"=some false by decide +kernel),_,rfl,_,_,_,_,rfl,.inr ⟨_,_,rfl,ha,rfl⟩,kq (show a1c "tuple" "list"=some false by decide +kernel),rfl,_,rfl,?_⟩;refine a7h rfl ?_;refine⟨_,rfl,_,_,_,_,rfl,.inr ⟨_,_,rfl,hb,rfl⟩,kq (show a1c "tuple" "tuple"=some true by decide +kernel),_,rfl,_,_,_,_,rfl,.inr ⟨_,_,rfl,ha,rfl⟩,kq (show a1c "tuple" "tuple"=some true by decide +kernel),rfl,_,rfl,?_⟩;refine a7h rfl ?_;refine⟨_,rfl,_,_,rfl,.inr (SqT.rd ha),_,rfl,_,_,rfl,.inr (SqT.rd hb),rfl,_,rfl,?_⟩;refine a7h (by rw[hlen]) ?_;refine⟨_,rfl,_,rfl,a,b,rfl,⟨_,SqT.rd ha⟩,⟨_,SqT.rd hb⟩,b0D (K:=K) (xs:=xs) (ys:=ys) (fun i σ H'=>a0r H H'/\∃(u v:Option V),σ=[some (.ref a),some (.ref b),none,u,v]) hlen ⟨a0r.refl H,_,_,rfl⟩ (fun i σ H' _ p=>⟨SqT.rd (ha.same p.1),SqT.rd (hb.same p.1)⟩) ?_ ?_⟩
   ·rintro i x y p σ H' hx hy ⟨s1,u,v,rfl⟩ hp
    refine⟨p,[x,y],rfl,SqT.of a0d,rfl,x,[y],rfl,y,[],rfl,rfl,?_⟩;have s2:=s1.trans (a0r.upd (o:=.tup [x,y]) hp);refine⟨_,rfl,_,rfl,x,y,rfl,(hi i x y hx hy).same s2,fun H2 s3=>⟨_,rfl,?_⟩⟩;refine a1Z ?_;exact⟨s2.trans s3,_,_,rfl⟩
   ·rintro σ H' ⟨s1,u,v,rfl⟩
    exact q H' s1
  |@lst m a b xs ys ha hb hlen hi=>
   have ihS:=ih m rfl;have hrS:a1g (m+1) _:=hr;refine⟨_,(a0c (a0C (a0t a3K (pv 1) a2X (a0u _)) a0m a0l)
     (a0c (a0C (PW.pt (a3x (a0K (a0k a0y (by rfl) B.isi boot_isi (a0a (pv 1) (a0a (a0B (v:=.ty "bool") (by rfl) B.bool boot_bool rfl) a0b)))) (a2n (a0K (a0k a0y (by rfl) B.isi boot_isi (a0a (pv 0) (a0a (a0B (v:=.ty "bool") (by rfl) B.bool boot_bool rfl) a0b))))))) a0m a0l)
     (a0c (a0C (a0K (a0k a0y (by rfl) B.isi boot_isi (a0a (pv 1) (a0a (a0B (v:=.ty "int") (by rfl) B.int boot_int rfl) a0b)))) a0m a0l)
     (a0c (a0C (a0K (a0k a0y (by rfl) B.isi boot_isi (a0a (pv 1) (a0a (a0B (v:=.ty "str") (by rfl) B.str boot_str rfl) a0b)))) a0m a0l)
     (a0c (a0C (a0K (a0k a0y (by rfl) B.isi boot_isi (a0a (pv 1) (a0a (a0B (v:=.ty "dict") (by rfl) B.dict boot_dict rfl) a0b)))) a0m a0l)
     (a0c (a0C (PW.pt (a3x (a0t a3O (a0k a0y (by rfl) B.isi boot_isi (a0a (pv 1) (a0a (a0B (v:=.ty "list") (by rfl) B.list boot_list rfl) a0b))) (a0k a0y (by rfl) B.isi boot_isi (a0a (pv 0) (a0a (a0B (v:=.ty "list") (by rfl) B.list boot_list rfl) a0b))) (a0u _)) (a2n (a0t a3O (a0k a0y (by rfl) B.isi boot_isi (a0a (pv 1) (a0a (a0B (v:=.ty "tuple") (by rfl) B.tuple boot_tuple rfl) a0b))) (a0k a0y (by rfl) B.isi boot_isi (a0a (pv 0) (a0a (a0B (v:=.ty "tuple") (by rfl) B.tuple boot_tuple rfl) a0b))) (a0u _))))) a0m a0l)
     (a0c (a0C (a0t a3O (a0k a0W (by rfl) B.len PySem.boot_len (a0a (pv 0) a0b)) (a0k a0W (by rfl) B.len PySem.boot_len (a0a (pv 1) a0b)) (a0u _)) a0m a0l)
     (a0c (a2E PassesOwn.never rfl (b2o (by rfl) hz (a0a (pv 0) (a0a (pv 1) a0b))) (a4P rfl (a0N (a0E (i:=3) sc.nd rfl (Or.inl rfl)) (a0N (a0E (i:=4) sc.nd rfl (Or.inl rfl)) a2t)))
      (a0h (a0C (a1P (a0K (a0i ihS hrS (by rfl) D.mg D.fn.kp bA .nil a0q (a0a (pv 3) (a0a (pv 4) a0b))))) a0m a0l)))
     (a0h (a0z a3Q)))))))))),?_⟩
   refine⟨_,rfl,rfl,_,rfl,a3e (dF0 fun e=>by cases e) ?_⟩;refine⟨_,rfl,_,_,_,_,rfl,.inl (.lst hb),kq (show a1c "list" "bool"=some false by decide +kernel),_,rfl,?_⟩;refine a1Z ?_;refine⟨_,rfl,_,_,_,_,rfl,.inl (.lst ha),kq (show a1c "list" "bool"=some false by decide +kernel),_,rfl,?_⟩;refine a1Z ?_;refine⟨_,rfl,_,_,_,_,rfl,.inl (.lst hb),kq (show a1c "list" "int"=some false by decide +kernel),_,rfl,?_⟩;refine a1Z ?_;refine⟨_,rfl,_,_,_,_,rfl,.inl (.lst hb),kq (show a1c "list" "str"=some false by decide +kernel),_,rfl,?_⟩;refine a1Z ?_;refine⟨_,rfl,_,_,_,_,rfl,.inl (.lst hb),kq (show a1c "list" "dict"=some false by decide +kernel),_,rfl,?_⟩;refine a1Z ?_;refine⟨_,rfl,_,_,_,_,rfl,.inl (.lst hb),kq (show a1c "list" "list"=some true by decide +kernel),_,rfl,_,_,_,_,rfl,.inl (.lst ha),kq (show a1c "list" "list"=some true by decide +kernel),rfl,_,rfl,?_⟩;refine a7h rfl ?_;refine⟨_,rfl,_,_,_,_,rfl,.inl (.lst hb),kq (show a1c "list" "tuple"=some false by decide +kernel),_,rfl,_,_,_,_,rfl,.inl (.lst ha),kq (show a1c "list" "tuple"=some false by decide +kernel),rfl,_,rfl,?_⟩;refine a7h rfl ?_;refine⟨_,rfl,_,_,rfl,.inl (SqL.of ha),_,rfl,_,_,rfl,.inl (SqL.of hb),rfl,_,rfl,?_⟩;refine a7h (by rw[hlen]) ?_;refine⟨_,rfl,_,rfl,a,b,rfl,⟨_,SqL.of ha⟩,⟨_,SqL.of hb⟩,b0S (K:=K) (xs:=xs) (ys:=ys) (fun i σ H'=>a0r H H'/\∃(u v:Option V),σ=[some (.ref a),some (.ref b),none,u,v]) hlen ⟨a0r.refl H,_,_,rfl⟩ (fun i σ H' _ p=>⟨SqL.of (p.1 _ _ ha),SqL.of (p.1 _ _ hb)⟩) ?_ ?_⟩
   ·rintro i x y p σ H' hx hy ⟨s1,u,v,rfl⟩ hp
    refine⟨p,[x,y],rfl,SqT.of a0d,rfl,x,[y],rfl,y,[],rfl,rfl,?_⟩;have s2:=s1.trans (a0r.upd (o:=.tup [x,y]) hp);refine⟨_,rfl,_,rfl,x,y,rfl,(hi i x y hx hy).same s2,fun H2 s3=>⟨_,rfl,?_⟩⟩;refine a1Z ?_;exact⟨s2.trans s3,_,_,rfl⟩
   ·rintro σ H' ⟨s1,u,v,rfl⟩
    exact q H' s1
  |@dct m a b kvs kws f ha hb hlen hf hg hi=>
   have ihS:=ih m rfl;have hrS:a1g (m+1) _:=hr;have hu:=a2s hr;refine⟨_,(a0c (a0C (a0t a3K (pv 1) a2X (a0u _)) a0m a0l)
     (a0c (a0C (PW.pt (a3x (a0K (a0k a2m (by rfl) B.isi boot_isi (a0a (pv 1) (a0a (a0B (v:=.ty "bool") (by rfl) B.bool boot_bool rfl) a0b)))) (a2n (a0K (a0k a2m (by rfl) B.isi boot_isi (a0a (pv 0) (a0a (a0B (v:=.ty "bool") (by rfl) B.bool boot_bool rfl) a0b))))))) a0m a0l)
     (a0c (a0C (a0K (a0k a2m (by rfl) B.isi boot_isi (a0a (pv 1) (a0a (a0B (v:=.ty "int") (by rfl) B.int boot_int rfl) a0b)))) a0m a0l)
     (a0c (a0C (a0K (a0k a2m (by rfl) B.isi boot_isi (a0a (pv 1) (a0a (a0B (v:=.ty "str") (by rfl) B.str boot_str rfl) a0b)))) a0m a0l)
     (a0c (a0C (a0K (a0k a2m (by rfl) B.isi boot_isi (a0a (pv 1) (a0a (a0B (v:=.ty "dict") (by rfl) B.dict boot_dict rfl) a0b)))) (a0c (a0C (PW.pt (a3x (a1P (a0K (a0k a2m (by rfl) B.isi boot_isi (a0a (pv 0) (a0a (a0B (v:=.ty "dict") (by rfl) B.dict boot_dict rfl) a0b))))) (a2n (a0t a3O (a0k a5Z (by rfl) B.len PySem.boot_len (a0a (pv 0) a0b)) (a0k a5Z (by rfl) B.len PySem.boot_len (a0a (pv 1) a0b)) (a0u _))))) a0m a0l)
      (a0c (b3l (a2E PassesOwn.never rfl (b3d (pv 1)) (a0E (i:=2) sc.nd rfl (Or.inl rfl))
       (a0h (a0C (PW.pt (a3x (b3Q (a4e hu (pv 2) (pv 0))) (a2n (a1P (a0K (a0i ihS hrS (by rfl) D.mg D.fn.kp bA .nil a0q (a0a (a2k hu (pv 0) (pv 2) (fun _ _=>rfl)) (a0a (a2k hu (pv 1) (pv 2) (fun _ _=>rfl)) a0b)))))))) a0m a0l))))
      (a0h (a0z a3Q)))) a0l)
     a0m))))),?_⟩
   refine⟨_,rfl,rfl,_,rfl,a3e (dF0 fun e=>by cases e) ?_⟩;refine⟨_,rfl,_,_,_,_,rfl,hb,kq (show a1c "dict" "bool"=some false by decide +kernel),_,rfl,?_⟩;refine a1Z ?_;refine⟨_,rfl,_,_,_,_,rfl,ha,kq (show a1c "dict" "bool"=some false by decide +kernel),_,rfl,?_⟩;refine a1Z ?_;refine⟨_,rfl,_,_,_,_,rfl,hb,kq (show a1c "dict" "int"=some false by decide +kernel),_,rfl,?_⟩;refine a1Z ?_;refine⟨_,rfl,_,_,_,_,rfl,hb,kq (show a1c "dict" "str"=some false by decide +kernel),_,rfl,?_⟩;refine a1Z ?_;refine⟨_,rfl,_,_,_,_,rfl,hb,kq (show a1c "dict" "dict"=some true by decide +kernel),_,rfl,?_⟩;refine a3C ?_;refine⟨_,rfl,_,_,_,_,rfl,ha,kq (show a1c "dict" "dict"=some true by decide +kernel),_,rfl,a1Z ?_⟩;refine⟨_,rfl,a,kvs,rfl,ha,_,rfl,b,kws,rfl,hb,rfl,_,rfl,a7h (by rw[hlen]) ?_⟩;refine⟨b,kws,hb,fun o ho=>?_,fun ho o=>?_⟩
   ·refine⟨_,rfl,b,o,_,rfl,ho,a7z (a:=b) (o:=o) (kvs:=kws) (fun i σ H1=>a0r H H1/\∃u,σ=[some (.ref a),some (.ref b),u,none,none]) ⟨a0r.refl H,_,rfl⟩ (fun i σ H1 _ p=>p.1 _ _ ho) ?_ ?_⟩
    ·rintro i k v σ H1 hk ⟨s1,u,rfl⟩
     have hm:=gI0 hk;refine⟨_,rfl,_,rfl,a,_,rfl,.inl ⟨kvs,k,Rd.same s1 ha,rfl,(hf k v hm).symm⟩,_,rfl,a1Z ?_⟩;refine⟨_,rfl,_,rfl,a,_,rfl,.inl ⟨kvs,k,Rd.same s1 ha,rfl,(hf k v hm).symm⟩,_,rfl,_,rfl,b,_,rfl,.inl ⟨kws,k,Rd.same s1 hb,rfl,(hg k v hm).symm⟩,_,_,rfl,(hi k v hm).same s1,fun H2 s2=>⟨_,rfl,a1Z ?_⟩⟩;exact⟨s1.trans s2,_,rfl⟩
    ·rintro σ H1 ⟨s1,u,rfl⟩
     exact q H1 s1
   ·have e1:(upd H b (.frz o (.dK kws))) b=some (.frz o (.dK kws)):=a0d
    have ha1:Rd (upd H b (.frz o (.dK kws))) a (.dK kvs):=Rd.frz ho ha;have hb1:Rd (upd H b (.frz o (.dK kws))) b (.dK kws):=Rd.frz ho hb;have hi1:∀(k:Key) (v:V),(k,v)∈kws->Lq (upd H b (.frz o (.dK kws))) m (f k) v:=fun k v hm=>(hi k v hm).frz ho;have bk:∀{G:Hp},a0r (upd H b (.frz o (.dK kws))) G->a0r H (upd G b (.dK kws)):=fun {G} sg=>a9x ho sg;generalize upd H b (.frz o (.dK kws))=H0 at *;refine⟨_,rfl,b,o,_,rfl,e1,a7z (a:=b) (o:=o) (kvs:=kws) (fun i σ H1=>a0r H0 H1/\∃u,σ=[some (.ref a),some (.ref b),u,none,none]) ⟨a0r.refl H0,_,rfl⟩ (fun i σ H1 _ p=>p.1 _ _ e1) ?_ ?_⟩
    ·rintro i k v σ H1 hk ⟨s1,u,rfl⟩
     have hm:=gI0 hk;refine⟨_,rfl,_,rfl,a,_,rfl,.inl ⟨kvs,k,Rd.same s1 ha1,rfl,(hf k v hm).symm⟩,_,rfl,a1Z ?_⟩;refine⟨_,rfl,_,rfl,a,_,rfl,.inl ⟨kvs,k,Rd.same s1 ha1,rfl,(hf k v hm).symm⟩,_,rfl,_,rfl,b,_,rfl,.inl ⟨kws,k,Rd.same s1 hb1,rfl,(hg k v hm).symm⟩,_,_,rfl,(hi1 k v hm).same s1,fun H2 s2=>⟨_,rfl,a1Z ?_⟩⟩;exact⟨s1.trans s2,_,rfl⟩
    ·rintro σ H1 ⟨s1,u,rfl⟩
     exact⟨s1 _ _ e1,q _ (bk s1)⟩
theorem a7C {f:Addr}{fd:FuncData}(D:Df K mg "_law_alike" (top 48) f fd)(B:Bl mg)(hz:mg "zip"=none):∀n:Nat,a0x P w K mg base CX0 (n+1) f fd ["_law_found","_law_due"] (b3J n)
 |0=>b3M D B hz 0 (fun m e=>by cases e)
 |n+1=>b3M D B hz (n+1) (fun m e=>by cases e;exact a7C D B hz n)
end
end My
namespace L2
open PySem PySem.Spec PyProof.Rows
theorem a1a {H0 H1:Hp}{b:Addr}(s:a0r H0 H1)(h:H1 b=none):H0 b=none:=by
 cases e:H0 b with
 |none=>rfl
 |some o=>rw[s _ _ e] at h;cases h
theorem b4a {H:Hp}{l:Addr}:a0r (del H l) H:=fun b o e=>by
 have hb:b≠l:=fun z=>by rw[z,a3W] at e;cases e
 rwa [a2H hb] at e
theorem b4b {H H':Hp}{l:Addr}{o:HO}(s:a0r H H'):a0r (del H l) (del (upd H' l o) l):=fun b u e=>by
 have hb:b≠l:=fun z=>by rw[z,a3W] at e;cases e
 rw[a2H hb] at e;rw[a2H hb,a0g hb];exact s _ _ e
end L2
namespace My
open PySem L2 PyProof.Rows
seal L2.PE L2.PT L2.PW L2.PS L2.PSs L2.PA L2.PI L2.PG L2.PGs L2.OpR L2.UnR L2.a1u L2.IxR L2.SlR L2.MtR L2.PIf L2.PO L2.MtM L2.PC
theorem a6w:∀{l:List Str} {p:Str},(p::l).Pairwise (fun a b=>leS a b=true)->PyProof.Rows.risingS p l=true
 |[],p,_=>rfl
 |x::r,p,h=>by
  unfold PyProof.Rows.risingS;rw[Bool.and_eq_true];have h1:=(List.pairwise_cons.mp h).1 x List.mem_cons_self;unfold leS at h1;rw[PyProof.Rows.le_meets] at h1;exact⟨h1,a6w (List.pairwise_cons.mp h).2⟩
theorem a6K {zs:List Str}(h:a5M zs):sortedS zs=true:=by
 have h':zs.Pairwise fun a b=>leS a b=true:=h.imp fun hab=>by
  unfold leS;rw[dF0 hab]
  rfl
 cases zs with
 |nil=>rfl
 |cons x r=>exact a6w h'
theorem a6N {zs:List Str}(h:sortedS zs=true):a5M zs:=(a2T h).imp fun hab q=>by
 unfold leS at hab;rw[dT0 q] at hab;cases hab
theorem b1D {cols:List (Str×V)}(nd:(cols.map (·.1)).Nodup){i:Nat}{c:Str×V}(h:cols[i]? =some c):vOf cols c.1=c.2:=by
 induction cols generalizing i with
 |nil=>cases h
 |cons a r ih=>
  rw[mN0,List.nodup_cons] at nd;cases i with
  |zero=>
   cases h;unfold vOf kvC;rw[mN0,a1K rfl]
   rfl
  |succ i=>
   have hm:c∈r:=gI0 (i:=i) h;have hne:a.1≠c.1:=fun e=>nd.1 (by rw[e];exact mM0.mpr ⟨c,hm,rfl⟩)
   have:=ih nd.2 (i:=i) h
   unfold vOf kvC at this ⊢;rw[mN0,a2i (fun e=>hne (by injection e))];exact this
theorem a8K {l:List Str}{ix:List Nat}{n:Nat}(hp:ix.Perm (List.range n))(hn:n=l.length):(ix.map fun i=>l.getD i ("":Str)).Perm l:=by
 refine(hp.map _).trans (List.Perm.of_eq ?_);subst hn;refine List.ext_getElem (by simp) fun i h1 h2=>?_;simp only[List.getElem_map,List.getElem_range,List.getD_eq_getElem?_getD,gE0 h2]
 rfl
theorem a7O {H:Hp}{ct:Addr}{o:Obj}{as:List Addr}{ix:List Nat}{cols:List (Str×V)}(nd:(cols.map (·.1)).Nodup)(ho:o.dict=none)(hl:as.length=cols.length)(pm:ix.Perm (List.range as.length))(rs:a5M (ix.map fun i=>(cols.map (·.1)).getD i ("":Str)))(hc:H ct=some (.frz o (.tup ((ix.map fun i=>as.getD i 0).map V.ref))))
  (g:∀(i:Nat) (a:Addr) (c:Str×V),as[i]? =some a->cols[i]? =some c->H a=some (.tup [.str c.1,c.2])):a1F H ct cols:=by
 refine⟨o,_,_,a8K pm (by rw[lM0];exact hl),a6K rs,ho,hc,by rw[lM0,lM0],fun j p z h1 h2=>?_⟩;rw[gM0] at h1 h2;cases e:ix[j]? with
 |none=>rw[e] at h1;cases h1
 |some i=>
  rw[e] at h1 h2;have hi:i<as.length:=List.mem_range.mp (pm.mem_iff.mp (gI0 e));have hi2:i<cols.length:=by omega
  have e1:as[i]? =some p:=by
   rw[<-h1];show as[i]? =some (as.getD i 0);rw[List.getD_eq_getElem?_getD,gE0 hi]
   rfl
  have e2:z=cols[i].1:=by
   have h3:some ((cols.map (·.1)).getD i ("":Str))=some z:=h2;rw[List.getD_eq_getElem?_getD,gM0,gE0 hi2] at h3;exact(Option.some.inj h3).symm
  have h4:=g i p cols[i] e1 (gE0 hi2);rw[e2,b1D nd (gE0 hi2)];exact h4
theorem a9J {α:Type}{f:α->Str}{g:α->V}{l:List α}(nd:(l.map f).Nodup){t:α}(h:t∈l):a2g (l.map fun t=>((Sum.inr (f t):Key),g t)) (.inr (f t))=some (g t):=by
 induction l with
 |nil=>cases h
 |cons a r ih=>
  rw[mN0,List.nodup_cons] at nd;rw[mN0];rcases mK0.mp h with rfl |h
  ·exact a1K rfl
  ·rw[a2i (fun e=>nd.1 (by
    have e2:f a=f t:=by injection e
    rw[e2];exact mM0.mpr ⟨t,h,rfl⟩))]
   exact ih nd.2 h
theorem a5B {α:Type}{f:α->Str}{l:List α}(nd:(l.map f).Nodup):l.Nodup:=by
 rw[List.nodup_iff_pairwise_ne] at nd ⊢;rw[List.pairwise_map] at nd;exact nd.imp fun h e=>h (by rw[e])
theorem b1V {α:Type}{f:α->Str}{l:List α}(nd:(l.map f).Nodup){a b:α}(ha:a∈l)(hb:b∈l)(e:f a=f b):a=b:=by
 induction l with
 |nil=>cases ha
 |cons x r ih=>
  rw[mN0,List.nodup_cons] at nd;rcases mK0.mp ha with h1 |h1
  ·rcases mK0.mp hb with h2 |h2
   ·rw[h1,h2]
   ·exact absurd (mM0.mpr ⟨b,h2,by rw[<-e,h1]⟩) nd.1
  ·rcases mK0.mp hb with h2 |h2
   ·exact absurd (mM0.mpr ⟨a,h1,by rw[e,h2]⟩) nd.1
   ·exact ih nd.2 h1 h2
structure Sd where
 n:Str
 so:Str
 t:Addr
 d:Addr
 c:List (Str×V)
def Sd.tb (x:Sd):Tb:=⟨x.n,x.so,x.c⟩
structure TbD (H:Hp) (d:Addr) (c:List (Str×V)):Prop where
 at_:H d=some (.dK (kvC c))
 nd:(c.map (·.1)).Nodup
 le:c.length<=12
theorem TbD.same {H H':Hp}{d:Addr}{c:List (Str×V)}(h:TbD H d c)(s:a0r H H'):TbD H' d c:=⟨s _ _ h.at_,h.nd,h.le⟩
def b0h:Sp:=fun vs H Q _=>∃(z:Int) (n0:Str) (cd sd:Addr) (c0:List (Str×V)) (S:List Sd),vs=[.int z,.str n0,.ref cd,.ref sd]/\TbD H cd c0/\H sd=some (.dK (S.map fun x=>(.inr x.n,.ref x.t)))/\(S.map (·.n)).Nodup/\S.length<=7 ∧
 (∀x∈S,H x.t=some (.tup [.str x.so,.ref x.d])/\TbD H x.d x.c) ∧
 ∀fm Us H',a0r H H'->a1f H' fm z (⟨n0,"head",c0⟩::Us)->Us.Perm (S.map Sd.tb)->a5M (Us.map (·.name))->Q (.ref fm) H'
section
variable {P:Program}{w:World}{K:Fg0}{mg:Str->Option Value}{base:Heap}
theorem a8a {f:Addr}{fd:FuncData}(F:Fun K "_law_form" "_law_form" (top 49) f fd)(B:Bl mg):a0x P w K mg base CX0 1 f fd ["_law_size","_law_head","_law_columns","_law_sides"] b0h:=by
 have sc:a0o ["_law_size","_law_head","_law_columns","_law_sides","_law_tables","_law_name","_law_sort","_law_own"] ["_law_size","_law_head","_law_columns","_law_sides"] (a0f (top 49)):=.k (by decide +kernel);refine F.ok sc (fun vs H Q E h=>?_) (fun cdv A outer s H vs Q E hr h=>?_)
 ·obtain⟨z,n0,cd,sd,c0,S,rfl,_⟩:=h
  rfl
 ·obtain⟨z,n0,cd,sd,c0,S,rfl,hcd,hsd,nS,l7,hS,q⟩:=h
  have hu:=a2s hr;refine⟨_,a0c (a0p (i:=4) sc.nd rfl (Or.inl rfl) (a1r (a0a (a0D (a0a (pv 1) (a0a a0v (a0a (a0V a3d (by rfl) B.tuple boot_tuple (a0a (a0k (a3k rfl) (by rfl) B.sorted boot_sorted (a0a (b1Z PySem.F.plainAttrs_dict PySem.F.slot_dict_items PySem.F.type_dict_items a7I (pv 2)) a0b)) a0b)) a0b)))) a0b)))
   (a0c (a2E PassesOwn.never rfl (a2C (a0k (a3I rfl) (by rfl) B.sorted boot_sorted (a0a (pv 3) a0b))) (a0E (i:=5) sc.nd rfl (Or.inl rfl))
    (a0c (b4n (a2k hu (pv 3) (pv 5) (fun _ _=>rfl)) (a4P rfl (a0N (a0E (i:=6) sc.nd rfl (Or.inl rfl)) (a0N (a0E (i:=7) sc.nd rfl (Or.inl rfl)) a2t))))
    (a0h (a0F (a6Y PySem.F.plainAttrs_list PySem.F.slot_list_append PySem.F.type_list_append a6u (pv 4) (a0a (a0D (a0a (pv 5) (a0a (pv 6) (a0a (a0V a3d (by rfl) B.tuple boot_tuple (a0a (a0k (a3k rfl) (by rfl) B.sorted boot_sorted (a0a (b1Z PySem.F.plainAttrs_dict PySem.F.slot_dict_items PySem.F.type_dict_items a7I (pv 7)) a0b)) a0b)) a0b)))) a0b))))))
   (a0h (a0z (a0D (a0a (pv 0) (a0a (a0V a2w (by rfl) B.tuple boot_tuple (a0a (pv 4) a0b)) a0b)))))),?_⟩
  have kvz:∀c:List (Str×V),(kvC c).map (·.1)=(c.map (·.1)).map Sum.inr:=fun c=>by
   unfold kvC;rw[mC0,mC0]
   rfl
  have kvl:∀c:List (Str×V),(kvC c).length=c.length:=fun c=>by unfold kvC;rw[lM0]
  have kvg:∀(c:List (Str×V)) (i:Nat) (x:Str×V),c[i]? =some x->(kvC c)[i]? =some (.inr x.1,x.2):=fun c i x h=>by
   unfold kvC;rw[gM0,h]
   rfl
  refine⟨_,rfl,_,rfl,.inr (.inr (.inl ⟨rfl,.inl ⟨_,hcd.at_⟩⟩)),cd,_,rfl,rfl,.inl hcd.at_,fun pw hpw=>?_⟩;have T1:=a0r.upd (o:=.ext (vwP pw cd)) hpw;refine⟨pw,cd,_,c0.map (·.1),rfl,a0d,.inl (T1 _ _ hcd.at_),kvz c0,hcd.nd,by rw[lM0];have:=hcd.le;omega,fun sl as ix H5 m1 m2 m3 nd len5 s5 g5 pm rise el=>?_⟩;refine⟨sl,_,rfl,SqL.of el,fun ct o hct ho=>⟨(show 3<=sizeLine by decide),fun e0 he0=>⟨(show 1<=sizeLine by decide),fun l hl=>?_⟩⟩⟩;have T6:=a0r.upd (o:=.frz o (.tup ((ix.map fun i=>as.getD i 0).map V.ref))) hct;have T7:=a0r.upd (o:=.tup [.str n0,.str "head",.ref ct]) he0;have T8:=a0r.upd (o:=.lst [.ref e0]) hl;have a6:=a0d (H:=H5) (a:=ct) (o:=.frz o (.tup ((ix.map fun i=>as.getD i 0).map V.ref)));have cs:a1F (upd H5 ct (.frz o (.tup ((ix.map fun i=>as.getD i 0).map V.ref)))) ct c0:=a7O hcd.nd ho (len5.trans (kvl c0)) pm rise a6 fun i a c h1 h2=>T6 _ _ (g5 i a _ _ h1 (kvg c0 i c h2));have sm0:=((T1.trans s5).trans T6).trans T7;have hlH:H l=none:=a1a sm0 hl;have en0:a2x (upd (upd H5 ct (.frz o (.tup ((ix.map fun i=>as.getD i 0).map V.ref)))) e0 (.tup [.str n0,.str "head",.ref ct])) e0 ⟨n0,"head",c0⟩:=⟨ct,a0d,cs.same T7⟩;generalize upd (upd H5 ct (.frz o (.tup ((ix.map fun i=>as.getD i 0).map V.ref)))) e0 (.tup [.str n0,.str "head",.ref ct])=H7 at *;have e8:=a0d (H:=H7) (a:=l) (o:=.lst [.ref e0]);have dn8:a0r H7 (del (upd H7 l (.lst [.ref e0])) l):=fun b u e=>by
   have hb:b≠l:=fun z=>by rw[z,hl] at e;cases e
   rw[a2H hb,a0g hb];exact e
  generalize upd H7 l (.lst [.ref e0])=H8 at *;have s8:=sm0.trans T8;refine⟨_,rfl,sd,_,S.map (·.n),rfl,.inl (s8 _ _ hsd),(by rw[mC0,mC0];rfl),(by rw[lM0];omega),fun ly ys hly yp yso=>?_⟩;have T9:=a0r.upd (o:=.lst (ys.map V.str)) hly;have e9:=a0d (H:=H8) (a:=ly) (o:=.lst (ys.map V.str));have nly:l≠ly:=fun z=>by rw[<-z,e8] at hly;cases hly
  have dn9:a0r H7 (del (upd H8 ly (.lst (ys.map V.str))) l):=fun b u e=>by
   have h1:=dn8 b u e;have hb:b≠l:=fun z=>by rw[z,a3W] at h1;cases h1
   rw[a2H hb] at h1;rw[a2H hb];exact T9 _ _ h1
  generalize upd H8 ly (.lst (ys.map V.str))=H9 at *;have yl:ys.length=S.length:=by rw[yp.length_eq,lM0]
  have vd:∀y∈ys,∃x∈S,x.n=y/\a2g (S.map fun x=>((.inr x.n:Key),V.ref x.t)) (.inr y)=some (.ref x.t):=fun y hy=>by
   obtain⟨x,hx,rfl⟩:=mM0.mp (yp.mem_iff.mp hy);exact⟨x,hx,rfl,a9J (f:=Sd.n) (g:=fun x:Sd=>V.ref x.t) nS hx⟩
  refine⟨ly,rfl,⟨_,SqL.of e9⟩,?_⟩;refine a3S (K:=K) (xs:=ys.map V.str) (fun i σ H2=>(∃u5 u6 u7,σ=[some (.int z),some (.str n0),some (.ref cd),some (.ref sd),some (.ref l),u5,u6,u7])/\a0r H H2/\H2 ly=some (.lst (ys.map V.str))/\∃(es:List Addr) (Ts:List Tb),H2 l=some (.lst (es.map V.ref))/\es.length=i+1/\Ts.length=i+1/\(∀(j:Nat) (e:Addr) (T:Tb),es[j]? =some e->Ts[j]? =some T->a2x (del H2 l) e T)/\∃Us,Ts=⟨n0,"head",c0⟩::Us/\Us.map (·.name)=ys.take i/\∀T∈Us,T∈S.map Sd.tb) ⟨⟨_,_,_,rfl⟩,s8.trans T9,e9,[e0],[⟨n0,"head",c0⟩],T9 _ _ e8,rfl,rfl,fun j e T h1 h2=>?_,[],rfl,rfl,fun T hT=>(nomatch hT)⟩ (fun i σ H2 _ p=>SqL.of p.2.2.1) ?_ ?_
  ·match j,h1,h2 with
   |0,h1,h2=>
    cases h1;cases h2;exact en0.same dn9
  ·rintro i x σ H2 hx ⟨⟨u5,u6,u7,rfl⟩,sm,hly2,es,Ts,hl2,esl,tsl,hes,Us,hTU,hnm,hUs⟩
   obtain⟨y,hy,rfl⟩:∃y,ys[i]? =some y/\x=.str y:=by
    rw[gM0] at hx;cases e:ys[i]? with
    |none=>rw[e] at hx;cases hx
    |some y=>rw[e] at hx;cases hx;exact⟨y,rfl,rfl⟩
   obtain⟨x,hxS,rfl,v1⟩:=vd y (gI0 hy);obtain⟨v2,v3⟩:=hS x hxS;refine⟨_,rfl,_,rfl,sd,_,rfl,.inl ⟨_,.inr x.n,.inl (sm _ _ hsd),rfl,v1.symm⟩,?_⟩;refine⟨x.t,_,rfl,SqT.of (sm _ _ v2),rfl,_,_,rfl,_,_,rfl,rfl,?_⟩;have td:=v3.same sm;refine⟨_,rfl,.inl ⟨rfl,_,SqL.of hl2⟩,_,rfl,_,rfl,_,rfl,.inr (.inr (.inl ⟨rfl,.inl ⟨_,td.at_⟩⟩)),x.d,_,rfl,rfl,.inl td.at_,fun pw' hpw'=>?_⟩;have U1:=a0r.upd (o:=.ext (vwP pw' x.d)) hpw';refine⟨pw',x.d,_,x.c.map (·.1),rfl,a0d,.inl (U1 _ _ td.at_),kvz x.c,td.nd,by rw[lM0];have:=td.le;omega,fun sl' as' ix' H5' m1 m2 m3 nd' len5' s5' g5' pm' rise' el'=>?_⟩;refine⟨sl',_,rfl,SqL.of el',fun ct' o' hct' ho'=>⟨(show 3<=sizeLine by decide),fun e' he'=>?_⟩⟩;have U6:=a0r.upd (o:=.frz o' (.tup ((ix'.map fun i=>as'.getD i 0).map V.ref))) hct';have U7:=a0r.upd (o:=.tup [.str x.n,.str x.so,.ref ct']) he';have a6':=a0d (H:=H5') (a:=ct') (o:=.frz o' (.tup ((ix'.map fun i=>as'.getD i 0).map V.ref)));have cs':a1F (upd H5' ct' (.frz o' (.tup ((ix'.map fun i=>as'.getD i 0).map V.ref)))) ct' x.c:=a7O td.nd ho' (len5'.trans (kvl x.c)) pm' rise' a6' fun i a c' h1 h2=>U6 _ _ (g5' i a _ _ h1 (kvg x.c i c' h2));have su:=((U1.trans s5').trans U6).trans U7;have en':a2x (upd (upd H5' ct' (.frz o' (.tup ((ix'.map fun i=>as'.getD i 0).map V.ref)))) e' (.tup [.str x.n,.str x.so,.ref ct'])) e' x.tb:=⟨ct',a0d,cs'.same U7⟩;generalize upd (upd H5' ct' (.frz o' (.tup ((ix'.map fun i=>as'.getD i 0).map V.ref)))) e' (.tup [.str x.n,.str x.so,.ref ct'])=H7' at *;have dd:a2x (del H7' l) e' x.tb:=by
    have hl7:=su _ _ hl2;obtain⟨ct2,x1,o2,ps2,zs2,y1,y2,x2,x3,x4,x5⟩:=en';have ne:∀b xs,H7' b=some (.tup xs)->b≠l:=fun b xs e z=>by rw[z,hl7] at e;cases e
    have nf:∀b oo xs,H7' b=some (.frz oo xs)->b≠l:=fun b oo xs e z=>by rw[z,hl7] at e;cases e
    exact⟨ct2,(a2H (ne _ _ x1)).trans x1,o2,ps2,zs2,y1,y2,x2,(a2H (nf _ _ _ x3)).trans x3,x4,fun j p c h1 h2=>(a2H (ne _ _ (x5 j p c h1 h2))).trans (x5 j p c h1 h2)⟩
   have il:i<7:=by have:=(gS0.mp hy).1;omega
   refine⟨l,_,_,rfl,rfl,su _ _ hl2,(by rw[lM0,sizeLine_eq];omega),⟨_,_,_,rfl⟩,(sm.trans su).put hlH,?_,es++[e'],Ts++[x.tb],?_,by rw[lA0,esl];rfl,by rw[lA0,tsl];rfl,fun j e T h1 h2=>?_,Us++[x.tb],by rw[hTU];rfl,?_,fun T hT=>?_⟩
   ·rw[a0g (Ne.symm nly)]
    exact su _ _ hly2
   ·rw[a0d,mA0]
    rfl
   ·by_cases hj:j<es.length
    ·rw[gL0 hj] at h1
     rw[gL0 (by omega)] at h2;exact(hes j e T h1 h2).same (b4b su)
    ·have ej:j=es.length:=by
      have:=(gS0.mp h1).1
      rw[lA0] at this;simp at this
      omega
     subst ej;rw[gR0 (nR0 _),Nat.sub_self] at h1;rw[gR0 (by omega),esl,tsl,Nat.sub_self] at h2;cases h1;cases h2;refine dd.same fun b u e=>?_;have hb:b≠l:=fun z=>by rw[z,a3W] at e;cases e
     rw[a2H hb] at e;rw[a2H hb,a0g hb];exact e
   ·rw[mA0,hnm,List.take_add_one,hy]
    rfl
   ·rcases mB0.mp hT with h |h
    ·exact hUs T h
    ·rw[mS0.mp h]
     exact mM0.mpr ⟨x,hxS,rfl⟩
  ·rintro σ H2 ⟨⟨u5,u6,u7,rfl⟩,sm,hly2,es,Ts,hl2,esl,tsl,hes,Us,rfl,hnm,hUs⟩
   refine⟨_,rfl,_,rfl,l,_,rfl,.inl ⟨SqL.of hl2,fun tt htt=>⟨(show 2<=sizeLine by decide),fun fm hfm=>?_⟩⟩⟩;have U1:=a0r.upd (o:=.tup (es.map V.ref)) htt;have U2:=a0r.upd (o:=.tup [.int z,.ref tt]) hfm;rw[lM0,List.take_length] at hnm;have ndU:(Us.map (·.name)).Nodup:=by rw[hnm];exact yp.nodup_iff.mpr nS
   refine q fm Us _ (sm.trans (U1.trans U2)) ⟨tt,es,a0d,U2 _ _ a0d,by omega,fun j e T h1 h2=>(hes j e T h1 h2).same (b4a.trans (U1.trans U2))⟩ ?_ (by rw[hnm];exact a6N yso);have nU:Us.Nodup:=a5B ndU;have nT:(S.map Sd.tb).Nodup:=a5B (f:=fun T:Tb=>T.name) (by rw[mC0];exact nS);refine(List.perm_ext_iff_of_nodup nU nT).mpr fun T=>⟨hUs T,fun hT=>?_⟩;obtain⟨x,hx,rfl⟩:=mM0.mp hT
   have:x.n∈Us.map (·.name):=by rw[hnm];exact yp.mem_iff.mpr (mM0.mpr ⟨x,hx,rfl⟩)
   obtain⟨U,hU,eU⟩:=mM0.mp this;obtain⟨x',hx',rfl⟩:=mM0.mp (hUs U hU)
   have:x'=x:=b1V nS hx' hx eU
   rw[<-this];exact hU
end
end My
namespace L2
open PySem PySem.Spec PyProof.Rows
theorem Lq.up {H:Hp}{n:Nat}{x y:V}(h:Lq H n x y):Lq H (n+1) x y:=by
 induction h with
 |non=>exact .non
 |bl=>exact .bl
 |int=>exact .int
 |str=>exact .str
 |tup ha hb hl _ ih=>exact .tup ha hb hl ih
 |lst ha hb hl _ ih=>exact .lst ha hb hl ih
 |dct f ha hb hl hf hg _ ih=>exact .dct f ha hb hl hf hg ih
end L2
namespace My
open PySem L2 PyProof.Rows
seal L2.PE L2.PT L2.PW L2.PS L2.PSs L2.PA L2.PI L2.PG L2.PGs L2.OpR L2.UnR L2.a1u L2.IxR L2.SlR L2.MtR L2.PIf L2.PO L2.MtM L2.PC
theorem a2p {d:Dt}{z:Str}(h:a1B d z=true):∃y,d=.str y:=by
 cases d with
 |str y=>exact⟨y,rfl⟩
 |_=>cases h
theorem b1y {H:Hp}{n:Nat}{a b:Addr}{x y:V}(ha:Rd H a (.tup [x]))(hb:Rd H b (.tup [y]))(h1:Lq H n x y):Lq H (n+1) (.ref a) (.ref b):=by
 refine .tup ha hb rfl fun i u v hu hv=>?_
 match i,hu,hv with
 |0,hu,hv=>cases hu;cases hv;exact h1
 |i+1,hu,hv=>simp at hu
theorem a4F {H:Hp}{n:Nat}{a b:Addr}{x y x2 y2:V}(ha:Rd H a (.tup [x,x2]))(hb:Rd H b (.tup [y,y2]))(h1:Lq H n x y)(h2:Lq H n x2 y2):Lq H (n+1) (.ref a) (.ref b):=by
 refine .tup ha hb rfl fun i u v hu hv=>?_
 match i,hu,hv with
 |0,hu,hv=>cases hu;cases hv;exact h1
 |1,hu,hv=>cases hu;cases hv;exact h2
 |i+2,hu,hv=>simp at hu
theorem b4X {H:Hp}{s:Dt}{v:V}(h:Rep H (.tup [s]) v):∃a x,v=.ref a/\H a=some (.tup [x])/\Rep H s x:=by
 simp only[Rep,a2e] at h;obtain⟨a,xs,rfl,ha,v1,vs,rfl,h1,rfl⟩:=h;exact⟨a,v1,rfl,ha,h1⟩
theorem b4F {H:Hp}{s b:Dt}{v:V}(h:Rep H (.tup [s,b]) v):∃a x y,v=.ref a/\H a=some (.tup [x,y])/\Rep H s x/\Rep H b y:=by
 simp only[Rep,a2e] at h;obtain⟨a,xs,rfl,ha,v1,vs,rfl,h1,v2,vs2,rfl,h2,rfl⟩:=h;exact⟨a,v1,v2,rfl,ha,h1,h2⟩
theorem a4K {H:Hp}{n:Nat}{z:Str}{v v':V}(h:Rep H (.str z) v)(h':Rep H (.str z) v'):Lq H n v v':=by
 simp only[Rep] at h h';rw[h.1,h'.1];exact .str
theorem a7v {H:Hp}{d:Dt}{v v':V}(hp:a1E d=true)(h:Rep H d v)(h':Rep H d v'):Lq H 1 v v':=by
 match d,hp,h,h' with
 | .tup [s],hp,h,h'=>
  obtain⟨a,x,rfl,ha,h1⟩:=b4X h;obtain⟨a',x',rfl,ha',h1'⟩:=b4X h';obtain⟨z,_,hz⟩:=List.any_eq_true.mp (show w2.any (a1B s)=true from hp);obtain⟨y,rfl⟩:=a2p hz;exact b1y (.inl ha) (.inl ha') (a4K h1 h1')
 | .tup [s,b],hp,h,h'=>
  obtain⟨a,x,u,rfl,ha,h1,h2⟩:=b4F h;obtain⟨a',x',u',rfl,ha',h1',h2'⟩:=b4F h';have hp':a4B s b=true:=hp;unfold a4B at hp';have hs:∃y,s=.str y:=by
   by_cases e1:a1B s "below"=true
   ·exact a2p e1
   ·rw[if_neg e1] at hp'
    by_cases e2:a1B s "upto"=true
    ·exact a2p e2
    ·rw[if_neg e2] at hp'
     exact a2p (Bool.and_eq_true_iff.mp hp').1
  have hb:(∃i,b=.int i)\/∃y,b=.str y:=by
   cases b with
   |int i=>exact .inl ⟨i,rfl⟩
   |str y=>exact .inr ⟨y,rfl⟩
   |_=>
    simp only[geD,a4o,a6F,Bool.and_false] at hp'
    split at hp'
    ·cases hp'
    ·split at hp'<;>cases hp'
  obtain⟨y,rfl⟩:=hs;rcases hb with ⟨i,rfl⟩ |⟨y2,rfl⟩
  ·simp only[Rep] at h2 h2'
   rw[h2] at ha;rw[h2'] at ha';exact a4F (.inl ha) (.inl ha') (a4K h1 h1') .int
  ·exact a4F (.inl ha) (.inl ha') (a4K h1 h1') (a4K h2 h2')
theorem b2Y {H:Hp}{d:Dt}{v v':V}(hk:a1H d=true)(h:Rep H d v)(h':Rep H d v'):Lq H 2 v v':=by
 unfold a1H at hk;rcases Bool.or_eq_true_iff.mp hk with hp |hm
 ·exact(a7v hp h h').up
 ·match d,hm,h,h' with
  | .tup [s],hm,h,h'=>
   obtain⟨a,x,rfl,ha,h1⟩:=b4X h;obtain⟨a',x',rfl,ha',h1'⟩:=b4X h';obtain⟨y,rfl⟩:=a2p (show a1B s "key"=true from hm);exact b1y (.inl ha) (.inl ha') (a4K h1 h1')
  | .tup [s,b],hm,h,h'=>
   obtain⟨a,x,u,rfl,ha,h1,h2⟩:=b4F h;obtain⟨a',x',u',rfl,ha',h1',h2'⟩:=b4F h';have hm':=Bool.and_eq_true_iff.mp (show(w3.any (a1B s)&&a1E b)=true from hm);obtain⟨z,_,hz⟩:=List.any_eq_true.mp hm'.1;obtain⟨y,rfl⟩:=a2p hz;exact a4F (.inl ha) (.inl ha') (a4K h1 h1') (a7v hm'.2 h2 h2')
def CQ (H:Hp)(c c':List (Str×V)):Prop:=(c.map (·.1)).Perm (c'.map (·.1))/\∀z∈c.map (·.1),∃d,Rep H d (vOf c z)/\Rep H d (vOf c' z)/\a1H d=true
def TQ (H:Hp)(T T':Tb):Prop:=T.name=T'.name/\T.sort=T'.sort/\CQ H T.cols T'.cols
theorem CQ.cn {H:Hp}{c c':List (Str×V)}(q:CQ H c c'):CQ H (cnC c) (cnC c'):=by
 refine⟨?_,fun z hz=>?_⟩
 ·rw[a0S,a0S]
  exact(a0J _).trans (q.1.trans (a0J _).symm)
 ·rw[a0S] at hz
  have hz':=(a0J _).mem_iff.mp hz;obtain⟨d,a,b,e⟩:=q.2 z hz';have e1:vOf (cnC c) z=vOf c z:=a2D hz';have e2:vOf (cnC c') z=vOf c' z:=a2D (q.1.mem_iff.mp hz');rw[e1,e2];exact⟨d,a,b,e⟩
theorem b3u {H:Hp}{t t':Addr}{c c':List (Str×V)}(q:CQ H c c')(h:a1F H t c)(h':a1F H t' c'):Lq H 4 (.ref t) (.ref t'):=by
 obtain⟨o,ps,zs,p1,s1,d1,h1,l1,e1⟩:=h;obtain⟨o',ps',zs',p2,s2,d2,h2,l2,e2⟩:=h';obtain rfl:=a6y s1 s2 p1 (p2.trans q.1.symm);refine .tup (.inr ⟨o,h1⟩) (.inr ⟨o',h2⟩) (by rw[lM0,lM0,l1,l2]) fun i x y hx hy=>?_;rw[gM0] at hx hy;cases ex:ps[i]? with
 |none=>rw[ex] at hx;cases hx
 |some p=>
  cases ey:ps'[i]? with
  |none=>rw[ey] at hy;cases hy
  |some p'=>
   rw[ex] at hx;rw[ey] at hy;cases hx;cases hy;have hi:i<zs.length:=by have:=(gS0.mp ex).1;omega
   have a:=e1 i p _ ex (gE0 hi);have a':=e2 i p' _ ey (gE0 hi);obtain⟨d,r,r',kd⟩:=q.2 _ (p1.mem_iff.mp (List.getElem_mem hi));exact a4F (.inl a) (.inl a') .str (b2Y kd r r')
theorem b3h {H:Hp}{f f':Addr}{sz:Int}{Ts Ts':List Tb}(l:Ts.length=Ts'.length)(q:∀(i:Nat) (T T':Tb),Ts[i]? =some T->Ts'[i]? =some T'->TQ H T T')(h:a1f H f sz Ts)(h':a1f H f' sz Ts'):Lq H 7 (.ref f) (.ref f'):=by
 obtain⟨tt,es,a1,a2,a3,a4⟩:=h;obtain⟨tt',es',b1,b2,b3,b4⟩:=h';refine a4F (.inl a1) (.inl b1) .int ?_;refine .tup (.inl a2) (.inl b2) (by rw[lM0,lM0,a3,b3,l]) fun i x y hx hy=>?_;rw[gM0] at hx hy;cases ex:es[i]? with
 |none=>rw[ex] at hx;cases hx
 |some e=>
  cases ey:es'[i]? with
  |none=>rw[ey] at hy;cases hy
  |some e'=>
   rw[ex] at hx;rw[ey] at hy;cases hx;cases hy;have hi:i<Ts.length:=by have:=(gS0.mp ex).1;omega
   have hi':i<Ts'.length:=by omega
   obtain⟨ct,c1,c2⟩:=a4 i e _ ex (gE0 hi);obtain⟨ct',c1',c2'⟩:=b4 i e' _ ey (gE0 hi');obtain⟨q1,q2,q3⟩:=q i _ _ (gE0 hi) (gE0 hi');rw[<-q1,<-q2] at c1';refine .tup (.inl c1) (.inl c1') rfl fun k x y hx hy=>?_
   match k,hx,hy with
   |0,hx,hy=>cases hx;cases hy;exact .str
   |1,hx,hy=>cases hx;cases hy;exact .str
   |2,hx,hy=>cases hx;cases hy;exact b3u q3 c2 c2'
theorem b1p {l m:List Str}(h1:a5M l)(h2:a5M m)(p:l.Perm m):l=m:=by
 have pw:∀{S:List Str},a5M S->S.Pairwise fun a b=>leS a b=true:=fun h=>by
  refine List.Pairwise.imp (fun hab=>?_) h;unfold leS;rw[dF0 hab]
  rfl
 exact List.Perm.eq_of_pairwise (fun a b _ _ h1 h2=>a5y h1 h2) (pw h1) (pw h2) p
theorem b2d {H:Hp}{f f':Addr}{sz:Int}{T0 T0':Tb}{R R':List Tb}(h:FAt H f sz T0 R)(h':FAt H f' sz T0' R')(q0:TQ H T0 T0')(p:(R.map (·.name)).Perm (R'.map (·.name)))(nd:(R'.map (·.name)).Nodup)(q:∀T∈R,∀T'∈R',T.name=T'.name->TQ H T T'):Lq H 7 (.ref f) (.ref f'):=by
 obtain⟨U,a1,a2,a3⟩:=h;obtain⟨U',b1,b2,b3⟩:=h';have n1:(U.map (·.name)).Perm (R.map (·.name)):=by have:=a2.map (fun T:Tb=>T.name);rw[a2v] at this;exact this
 have n2:(U'.map (·.name)).Perm (R'.map (·.name)):=by have:=b2.map (fun T:Tb=>T.name);rw[a2v] at this;exact this
 have en:U.map (·.name)=U'.map (·.name):=b1p a3 b3 (n1.trans (p.trans n2.symm));have ln:U.length=U'.length:=by have:=congrArg List.length en;rwa [lM0,lM0] at this
 have cq:∀{T T':Tb},TQ H T T'->TQ H (cn T) (cn T'):=fun t=>⟨t.1,t.2.1,t.2.2.cn⟩;refine b3h (by rw[List.length_cons,List.length_cons,ln]) (fun i T T' hT hT'=>?_) a1 b1
 match i,hT,hT' with
 |0,hT,hT'=>cases hT;cases hT';exact cq q0
 |i+1,hT,hT'=>
  have hT:U[i]? =some T:=hT;have hT':U'[i]? =some T':=hT';obtain⟨X,hX,rfl⟩:=mM0.mp (a2.mem_iff.mp (gI0 hT));obtain⟨X',hX',rfl⟩:=mM0.mp (b2.mem_iff.mp (gI0 hT'));have e:=congrArg (fun l=>l[i]?) en;simp only[gM0,hT,hT',Option.map_some] at e;exact cq (q X hX X' hX' (Option.some.inj e))
end My
namespace L2
open PySem PySem.Spec PyProof.Rows
section
variable {X:Cx}
theorem b1o:MtR X "dict.update" (fun x xs H Q=>∃(a b:Addr) (kvs kws:List (Key×V)),x=.ref a/\xs=[.ref b]/\a≠b/\H a=some (.dK kvs)/\H b=some (.dK kws)/\kvs.length+kws.length<=sizeLine/\Q .non (upd H a (.dK (a0A kvs kws)))):=by
 intro pins s σ H x xs u us Q I rx r h;obtain⟨a,b,kvs,kws,rfl,rfl,nab,ea,eb,hl,q⟩:=h;cases rx;obtain⟨u',rfl,ru⟩:=a2o r;cases ru;obtain⟨z,hd,vs,rel,dd⟩:=a5V I.hok ea;obtain⟨z2,hd2,ws,rel2,dd2⟩:=a5V I.hok eb;have hz:=rel.length;have hz2:=rel2.length;refine call_meetsIn F.slot_dict_update dd.typeIs F.entry_dict_update (F.args_dict_update_2 _ _) (meets_dict_update (a0n X.prog X.w) a b nab hd2) ⟨vs,ws,dd,dd2,(by omega),fun h' dd' _ hs=>?_⟩;have hl2:(a0A kvs kws).length<=sizeLine:=by have:=a2y kws kvs;omega
 have he:∃q,h'.get? a=some q:=let ⟨q,_,_,hq,_⟩:=dd';⟨q,hq⟩
 exact⟨.non,_,a3z (t':=s.toks) I (by rw[ea];exact True.intro) hs he (a3N hl2 hd (rel2.merge rel) dd'),rfl,q⟩
end
end L2
namespace L2
open PySem PySem.Spec PyProof.Rows PySem.Builtin PySem.Builtin.Dict
theorem a6G:typeLookup (.type "list") "keys"=pure none:=am_miss_of_fast (by decide +kernel)
theorem a8m {prog:Program}{w:World}{A:Around}{E:Vs0}{s:Shared}{a:Addr}{o:Obj}{xs:Array Value}{k:Nat}{Q:Option Value->Shared->Prop}
  (hx:s.heap.get? a=some o) (hc:o.cls=.type "list") (hdat:o.data=.seq xs k) (hd:o.dict=none) (hA:A.handled=none)
  (h:∀h' tk,(∀b ob,s.heap.get? b=some ob->h'.get? b=some ob)->Q none { s with heap:=h',toks:=tk }):wpAny (model prog w) A (getAttr? (.ref a) "keys") Q E s:=by
 obtain⟨c,dct,dat,sl⟩:=o;simp only at hc hdat hd;subst hc hdat hd;obtain⟨hp,g,d,tk,os⟩:=s;have hT:∀tk',(⟨hp,g,d,tk',os⟩:Shared).TypeIs (.ref a) "list":=fun _=>⟨_,hx,rfl⟩;have f1:=sub_AttributeError;have f3:=F.slot_list_getattribute.lookup;have f4:=F.slot_list_getattribute.bind (.ref a);have f5:=am_list_getattr_none;unfold getAttr? getAttrBy? getAttrBy
 repeat (any_goals (first |assumption |exact hT _ | ((with_reducible show wpAny _ _ (call (Value.builtin "list.__getattribute__") _ _) _ _ _);refine call_meets F.slot_list_getattribute (hT _) am_entry_list_getattribute (F.args_list_getattribute_2 _ _) (meets_getattribute_miss_list a xs k sl "keys" _ a6G (by decide +kernel) (by size_fits)) ⟨hx,hA,fun h' tk' e hx'=>?_⟩) |wp_step))
 obtain⟨t',u',he⟩:=hx'.there;show wpAny _ _ (getattributeRaised _ _ _ _ _ _ _) _ _ _;unfold getattributeRaised
 repeat (any_goals (first |assumption |wp_step))
 exact h _ _ hx'.keeps
section
variable {prog:Program}{w:World}{A:Around}{R:Result->Shared->Prop}
theorem a6l {h0:Heap}{d it t:Addr}{items:Array Value}{ps:List (Key×Value)}(hh:A.handled=none)(ht:h0.IsList t items)(tne:t≠it/\t≠d)(idne:it≠d)(hl:ps.length=items.size)(hz:items.size<=1000)
  (hp:∀(j:Nat) (k:Key) (v:Value),ps[j]? =some (k,v)->∃a o key n,items[j]? =some (.ref a)/\h0.get? a=some o/\o.cls=.type "tuple"/\o.data=.seq #[key,v] n/\(a0n prog w).is k key=true/\a≠it/\a≠d)
  (nd:(ps.map (·.1)).Nodup):∀(m i:Nat) (tk:Tok) (s:Shared),i+m=items.size->s.heap.IsListIter it t i->s.heap.DictOf (a0n prog w) d (ps.take i)->(∀b o,b≠it->b≠d->h0.get? b=some o->s.heap.get? b=some o) →
  (∀(h':Heap) (k:Nat),h'.DictOf (a0n prog w) d ps->(∀b o,b≠it->b≠d->h0.get? b=some o->h'.get? b=some o)->R (.ok (.ret .none)) { s with heap:=h',toks:=k }) →
  codeAny (model prog w) A (.builtin "dict.update.loop" ⟨[.ref d,.ref it,.int i tk,.none],[]⟩) R s
 |0,i,tk,s,hi,hit,hd,kp,hq=>by
  refine codeAny_builtin a1L ?_;unfold Builtin.«dict.update.loop»
  dsimp only
  obtain⟨o,ho,hc,n,hdt⟩:=id ht;refine wB0 (wpAny_pyNext_list_end (items:=items) hh hit ⟨o,kp t o tne.1 tne.2 ho,hc,n,hdt⟩ (by rw[Array.getElem?_eq_none (by omega)]) fun h' ex=>?_)
  dsimp only
  refine wB0 (wP0 (wP0 ?_));have e:ps.take i=ps:=List.take_of_length_le (by omega);rw[e] at hd;exact hq h' s.toks (hd.extBut ex idne.symm) fun b o hb1 hb2 q=>ex b o hb1 (kp b o hb1 hb2 q)
 |m+1,i,tk,s,hi,hit,hd,kp,hq=>by
  refine codeAny_builtin a1L ?_;unfold Builtin.«dict.update.loop»
  dsimp only
  obtain⟨o,ho,hc,n,hdt⟩:=id ht;obtain⟨⟨k,v⟩,hk⟩:∃kv,ps[i]? =some kv:=⟨_,gE0 (by omega)⟩;obtain⟨a,oa,key,na,e1,e2,e3,e4,e5,e6,e7⟩:=hp i k v hk;refine wB0 (wpAny_pyNext_list_item (items:=items) hit ⟨o,kp t o tne.1 tne.2 ho,hc,n,hdt⟩ e1 fun h1 it1 sb=>?_)
  dsimp only
  have ha1:h1.get? a=some oa:=(sb.2 a e6).trans (kp a oa e6 e7 e2);have hd1:h1.DictOf (a0n prog w) d (ps.take i):=by
   obtain⟨od,es,ep,g,r⟩:=hd;exact⟨od,es,ep,(sb.2 d idne.symm).trans g,r⟩
  refine wB0 (wpAny_holding (wB0 (wpAny_tryCatch ?_)));unfold Dict.pairItems;refine wB0 (wpAny_typeOf (T:="tuple") ⟨oa,ha1,e3⟩ ?_);rw[if_pos (by decide)];refine wB0 (wpAny_seqItems ha1 e4 (wP0 ?_));show wpAny _ _ (holding [key,v] (dictSet d key v)) _ _ _;refine wpAny_holding (wpAny_dictSet_pairs (knd:=a0n prog w) (k:=k) e5 hd1 (fun h2 hd2 sb2=>?_) (by rw[List.length_take,sizeLine_eq];omega));refine wP0 ⟨Code.quiet_builtin _ (by decide +kernel),?_⟩;have es:stored (ps.take i) k v=ps.take (i+1):=by
   have no:((ps.take i).any fun kv=>decide (kv.1=k))=false:=by
    rw[List.any_eq_false];intro kv hkv;rw[decide_eq_true_iff];intro ek;obtain⟨j,hj,ej⟩:=List.mem_take_iff_getElem.mp hkv;have hj2:j<ps.length:=by omega
    have hij:j<i:=by omega
    have hi2:i<ps.length:=by omega
    have ei:ps[i]=(k,v):=(gS0.mp hk).2;refine List.pairwise_iff_getElem.mp nd j i (by simpa using hj2) (by simpa using hi2) hij ?_;rw[List.getElem_map,List.getElem_map,ej,ei,ek]
   unfold stored;rw[if_neg (by rw[no];decide),List.take_add_one,hk]
   rfl
  rw[es] at hd2;exact a6l hh ht tne idne hl hz hp nd m (i+1) _ _ (by omega) (by
   obtain⟨oi,g1,g2⟩:=it1;exact⟨oi,(sb2.2 it idne).trans g1,g2⟩) hd2 (fun b o hb1 hb2 q=>(sb2.2 b hb2).trans ((sb.2 b hb1).trans (kp b o hb1 hb2 q))) fun h' k' x y=>hq h' k' x y
end
section
variable {X:Cx}
theorem a8H (hc:X.calm=true):a1u X (.type "dict") (fun xs H Q=>∃(t:Addr) (ys:List V) (kvs:List (Key×V)),xs=[.ref t]/\SqL X.K H t ys/\ys.length<=1000/\kvs.length=ys.length ∧
  (∀(j:Nat) (k:Key) (v:V),kvs[j]? =some (k,v)->∃a,ys[j]? =some (.ref a)/\SqT X.K H a [kV k,v])/\(kvs.map (·.1)).Nodup/\∀p,H p=none->Q (.ref p) (upd H p (.dK kvs))):=by
 intro pins s σ H xs us Q I r h;obtain⟨t,ys,kvs,rfl,ht,hys,hkl,hp,nd,q⟩:=h;obtain⟨u,rfl,rx⟩:=a2o r;cases rx;obtain⟨its,r',⟨o,n,g,hcl,hod,hdat⟩,_⟩:=I.list ht;have hlen:=r'.length;have hh:=I.ok.hd hc;have hpk:∃ps:List (Key×Value),ps.length=kvs.length/\∀(j:Nat) (kv:Key×V),kvs[j]? =some kv->∃u,ps[j]? =some u/\(u.1=kv.1/\a1e kv.2 u.2/\∃a oa key na,its[j]? =some (.ref a)/\s.heap.get? a=some oa/\oa.cls=.type "tuple"/\oa.data=.seq #[key,u.2] na/\(a0n X.prog X.w).is kv.1 key=true):=by
  refine b4y kvs (fun(j:Nat) (kv:Key×V) (u:Key×Value)=>u.1=kv.1/\a1e kv.2 u.2/\∃a oa key na,its[j]? =some (.ref a)/\s.heap.get? a=some oa/\oa.cls=.type "tuple"/\oa.data=.seq #[key,u.2] na/\(a0n X.prog X.w).is kv.1 key=true) fun j kv hj=>?_;obtain⟨k,v⟩:=kv;obtain⟨a,ea,sq⟩:=hp j k v hj;obtain⟨jts,rj,pj,_⟩:=I.tuple sq;cases rj with
  |@cons _ j1 _ jr rk rr=>cases rr with
   |@cons _ j2 _ jr2 rv rr2=>
    cases rr2;obtain⟨oa,ga,ca,na,da⟩:=pj;refine⟨(k,j2),rfl,rv,a,oa,j1,na,?_,ga,ca,da,a4A rk⟩;obtain⟨w,ew,rw1⟩:=a1l.get r' ea;cases rw1;exact ew
 obtain⟨ps,hpl,hps⟩:=hpk;have gt:s.heap.get? t=some o:=g;have tlt:t<s.heap.objs.size:=hL0 gt;refine callType_codes (Q₁:=fun obj s₁=>obj=.ref s.heap.objs.size/\s₁={ s with heap:=s.heap.push { cls:=.type "dict",data:=.dict #[] } }) F.kt_called_dict (F.kt_typeCall_dict_1 _) F.entry_dict_init (kt_code_dict_new _ ⟨rfl,rfl⟩) ?_;rintro obj s₁ ⟨rfl,rfl⟩;have hnew:(s.heap.push { cls:=.type "dict",data:=.dict #[] }).DictOf (a0n X.prog X.w) s.heap.objs.size []:=Heap.DictOf.new s.heap;have gt1:(s.heap.push { cls:=.type "dict",data:=.dict #[] }).get? t=some o:=hP0 _ gt;refine⟨hnew.typeIs,F.args_dict_init_2 _ _,?_⟩;unfold Builtin.«dict.__init__»;refine wB0 ?_;unfold Builtin.Dict.selfAndRest;refine wB0 (wpAny_notOrdered_dict hnew.typeIs ?_);show wpAny _ _ (pure (s.heap.objs.size,[Value.ref t])) _ _ _;refine wP0 ?_;show wpAny _ _ (Builtin.Dict.updateFrom "dict.__init__" s.heap.objs.size (.ref t) [] .none) _ _ _;unfold Builtin.Dict.updateFrom;refine wB0 (wpAny_typeOf (T:="list") ⟨o,gt1,hcl⟩ ?_);rw[if_pos (by decide)];refine wB0 (a8m (o:=o) (xs:=its.toArray) (k:=n) gt1 hcl hdat hod hh fun h1 tk1 kp1=>?_);rw[if_pos (show(none:Option Value).isNone=true from rfl)];have kp:∀b ob,s.heap.get? b=some ob->h1.get? b=some ob:=fun b ob e=>kp1 b ob (hP0 _ e);have gt2:=kp t o gt;have gd2:h1.get? s.heap.objs.size=some { cls:=.type "dict",data:=.dict #[] }:=kp1 _ _ (hS0 _ rfl);have dlt:s.heap.objs.size<h1.objs.size:=hL0 gd2;have dd1:h1.DictOf (a0n X.prog X.w) s.heap.objs.size []:=by
  obtain⟨od,es,ep,gg,rr⟩:=hnew;exact⟨od,es,ep,kp1 _ _ gg,rr⟩
 refine wB0 (wpAny_rule ?_);refine wB0 (wpAny_pyIter_list (items:=its.toArray) ⟨o,gt2,hcl,n,hdat⟩ ?_);refine wP0 ⟨Code.quiet_builtin _ (by decide +kernel),?_⟩;have epl:ps.length=its.toArray.size:=by simp;omega
 have fsts:ps.map (·.1)=kvs.map (·.1):=by
  refine List.ext_getElem (by simp[hpl]) fun j h1 h2=>?_;rw[List.getElem_map,List.getElem_map];rw[lM0] at h1 h2;obtain⟨u,eu,e1,_⟩:=hps j kvs[j] (gE0 h2);rw[gE0 h1] at eu;cases eu;exact e1
 refine a6l (A:=X.A.in1) (ps:=ps) (items:=its.toArray) (h0:=h1.push { cls:=.type "list_iterator",data:=.fields #[.ref t,.int 0 0] }) (t:=t) (d:=s.heap.objs.size) (it:=h1.objs.size) (show X.A.in1.handled=none from hh) ⟨o,hP0 _ gt2,hcl,n,hdat⟩ ⟨nL0 (Nat.lt_trans tlt dlt),nL0 tlt⟩ (Nat.ne_of_gt dlt) epl (by rw[<-epl,hpl,hkl];exact hys) (fun j k v hj=>?_) (by rw[fsts];exact nd) its.toArray.size 0 _ { s with heap:=h1.push { cls:=.type "list_iterator",data:=.fields #[.ref t,.int 0 0] },toks:=tk1 } (by omega) ⟨_,hS0 _ rfl,rfl,rfl⟩ (dd1.push _) (fun b o _ _ e=>e) (fun h2 k2 dd2 kp2=>?_)
 ·have hjl:j<kvs.length:=by
   have:=(gS0.mp hj).1
   omega
  obtain⟨u,eu,e1,e2,a,oa,key,na,e3,e4,e5,e6,e7⟩:=hps j kvs[j] (gE0 hjl);rw[hj] at eu;cases eu;have alt:=hL0 e4;refine⟨a,oa,key,na,by simpa using e3,hP0 _ (kp a oa e4),e5,e6,?_,nL0 (Nat.lt_trans alt dlt),nL0 alt⟩;rw[show k=kvs[j].1 from e1];exact e7
 ·refine⟨rfl,.ref s.heap.objs.size,_,?_,rfl,q s.heap.objs.size (I.hok.fresh (nR0 _))⟩
  have rel:KV kvs ps:=b2q hpl fun j k v e=>by
   obtain⟨u,eu,e1,e2,_⟩:=hps j (k,v) e;obtain⟨u1,u2⟩:=u
   cases(show u1=k from e1)
   exact⟨u2,eu,e2⟩
  refine I.laid (a:=s.heap.objs.size) (o:=.dK kvs) (fun b qo hb=>?_) (nR0 _) (a3N (by rw[sizeLine_eq];omega) (beq_eq_false_iff_ne.mpr (Ne.symm (nL0 I.big))) rel dd2);have blt:=hL0 hb;exact kp2 b qo (nL0 (Nat.lt_trans blt dlt)) (nL0 blt) (hP0 _ (kp b qo hb))
end
end L2
namespace L2
open PySem PySem.Spec PyProof.Rows
section
variable {prog:Program}{w:World}{A:Around}{E:Vs0}{s:Shared}{R:Result->Shared->Prop}{K:Type}[DecidableEq K]{knd:KeyKind prog w K}{d:Addr}{kvs:List (K×Value)}{ep:Nat}
theorem a8N {Q:Bool->Shared->Prop}(hm:s.heap.DictAt knd d kvs ep)(h:Q false s):wpAny (model prog w) A (Builtin.List.listLengthHint (.ref d)) Q E s:=by
 have T:=hm.dictOf.typeIs;unfold Builtin.List.listLengthHint;refine wB0 (wpAny_specialOf T F.slot_dict_len.lookup ?_);generalize hid:("dict.__len__":String)=id0
 wp_delta
 rw[show splitId id0=some ("dict","__len__") from by subst hid;decide +kernel];subst hid;refine wB0 (wpAny_isInstance (T:="dict") (b:=true) T (by rw[isSubtype_type];kernel_rfl) ?_);refine wpAny_ite_split (fun hab=>absurd hab (by decide)) (fun _=>?_);refine wpAny_ite_split (fun _=>?_) (fun hab=>absurd (by decide +kernel) hab);exact wB0 (wpAny_typeOf T (wP0 h))
theorem a6R (hh:A.handled=none)(nd:(d==sysModules)=false)(hm:s.heap.DictAt knd d kvs ep)(hlen:kvs.length<=sizeLine)(S:Addr)(res:Value)(c₀:Nat)(hS:s.heap.get? S=some { cls:=.type "list",data:=.seq #[] c₀ })
  (hR:∀h' tk acc' c',(∀b o,b≠S->s.heap.get? b=some o->h'.get? b=some o)->h'.get? S=some { cls:=.type "list",dict:=none,data:=.seq acc' c',slots:=#[] } →
   ItemsOf (fun i v=>∃k x,kvs[i]? =some (k,x)/\knd.is k v=true) acc' kvs.length->R (.ok (.ret res)) { s with heap:=h',toks:=tk }) :
  wpAny (model prog w) A.in1 (Builtin.List.listExtendWith (.ref S) (.ref d) res)
   (fun fin s'=>match fin with | .done f=>R (.ok f) s' | .again c'=>c'.quiet=true/\codeAny (model prog w) A c' R s') (fun e s'=>R (.error e) s') s:=by
 have T:=hm.dictOf.typeIs;obtain⟨od,ed,hod,xd,dd,_⟩:=id hm;have hSd:S≠d:=fun e=>by rw[e,hod] at hS;cases hS;cases dd
 have hSlt:S<s.heap.objs.size:=hL0 hS;have hSI:S≠s.heap.objs.size:=nL0 hSlt;have hdI:d≠s.heap.objs.size:=nL0 (hL0 hod);have hSf:S∉[s.heap.objs.size,d]:=fun hm=>by
  rcases mK0.mp hm with e |e
  ·exact hSI e
  ·exact hSd (mS0.mp e)
 have W:=(Walks.dictKeys (prog:=prog) (w:=w) (A:=A.in1) (knd:=knd) hh s.heap.objs.size d hdI kvs ep).toS;have key:∀(h:Heap) (c₁ tk:Nat),(h.IsKeyIter s.heap.objs.size d 0 kvs.length ep/\h.DictAt knd d kvs ep)->(∀b o,b≠S->s.heap.get? b=some o->h.get? b=some o) →
   h.get? S=some { cls:=.type "list",data:=.seq #[] c₁ }->codeAny (model prog w) A (.builtin "list.extend.loop" ⟨[.ref S,.ref s.heap.objs.size,res],[]⟩) R { s with heap:=h,toks:=tk }:=by
  intro h c₁ tk hit hk hS₁;refine codeAny_extend_loopS W hlen S hSf res kvs.length 0 _ #[] c₁ rfl (zL0 _) hit hS₁ (ItemsOf.nil _) fun s' acc' c' hm hS' hacc=>?_;rw[Moved.eq_with hm];refine hR s'.heap s'.toks acc' c' (fun b o hb e=>hm.heap b o (fun hmem=>?_) (hk b o hb e)) hS' hacc;rcases mK0.mp hmem with e' |hmem
  ·exact hb e'
  ·exact absurd (hL0 e) (by rw[mS0.mp hmem];exact Nat.lt_irrefl _)
 unfold Builtin.List.listExtendWith;refine wB0 (wpAny_typeOf T ?_);have h1:Builtin.List.listSameRef (.ref S) (.ref d)=false:=by simp[Builtin.List.listSameRef,hSd]
 simp only[h1,show(Value.type "dict"==Value.type "list")=false by decide,show(Value.type "dict"==Value.type "tuple")=false by decide,Bool.or_false,Bool.false_eq_true,if_false];refine wB0 (wpAny_pyIter_dict nd hm ?_);have hit₁:((s.heap.push { cls:=.type "dict_keyiterator",data:=.fields #[.ref d,.int 0 0,.int kvs.length 0,.int ep 0] }).IsKeyIter s.heap.objs.size d 0 kvs.length ep/\(s.heap.push { cls:=.type "dict_keyiterator",data:=.fields #[.ref d,.int 0 0,.int kvs.length 0,.int ep 0] }).DictAt knd d kvs ep):=⟨⟨_,hS0 _ rfl,rfl,rfl⟩,hm.push _⟩;have hS₁:=hP0 { cls:=.type "dict_keyiterator",data:=.fields #[.ref d,.int 0 0,.int kvs.length 0,.int ep 0] } hS;refine wB0 (wpAny_holding (a8N (s:={ s with heap:=s.heap.push { cls:=.type "dict_keyiterator",data:=.fields #[.ref d,.int 0 0,.int kvs.length 0,.int ep 0] } }) (hm.push _) ?_));refine wpAny_ite_split (fun _=>?_) (fun _=>wP0 ⟨plainId_quiet F.plain_extend_loop _,key _ c₀ _ hit₁ (fun b o _ e=>hP0 _ e) hS₁⟩);refine wB0 (wpAny_rule ?_);refine wB0 ?_;show wpAny _ _ (updateSeq S (·.push .none) >>= fun _=>updateSeq S (·.pop)) _ _ _;refine wB0 (wpAny_updateSeq hS₁ rfl ?_);have hS₂:=Heap.get?_update_self (Obj.mapSeq (·.push Value.none)) hS₁ rfl;refine wpAny_updateSeq (hz:=by seq_fits) hS₂ rfl ?_;have hS₃:=Heap.get?_update_self (Obj.mapSeq (·.pop)) hS₂ rfl;have oth:∀b o,b≠S->(s.heap.push { cls:=.type "dict_keyiterator",data:=.fields #[.ref d,.int 0 0,.int kvs.length 0,.int ep 0] }).get? b=some o->_:=fun b o hb e=>(Heap.get?_update_other _ (Obj.mapSeq (·.pop)) (Ne.symm hb)).trans ((Heap.get?_update_other _ (Obj.mapSeq (·.push Value.none)) (Ne.symm hb)).trans e);refine wP0 ⟨plainId_quiet F.plain_extend_loop _,key _ _ _ ⟨hit₁.1.at fun o e=>oth _ o hSI.symm e,?_⟩ (fun b o hb e=>oth b o hb (hP0 _ e)) hS₃⟩;obtain⟨o2,es2,e2,r2⟩:=hit₁.2;exact⟨o2,es2,oth d o2 hSd.symm e2,r2⟩
theorem a4y {Q:Vs0}(hh:A.handled=none)(nd:(d==sysModules)=false)(hm:s.heap.DictAt knd d kvs ep)(hlen:kvs.length<=sizeLine)
  (hQ:∀h' tk acc' c',(∀b o,s.heap.get? b=some o->h'.get? b=some o) →
   h'.get? s.heap.objs.size=some { cls:=.type "list",dict:=none,data:=.seq acc' c',slots:=#[] }->ItemsOf (fun i v=>∃k x,kvs[i]? =some (k,x)/\knd.is k v=true) acc' kvs.length->Q (.ref s.heap.objs.size) { s with heap:=h',toks:=tk }) :
  wpAny (model prog w) A (call (.type "list") [.ref d]) Q E s:=by
 refine callType_codes (Q₁:=fun obj s₁=>obj=.ref s.heap.objs.size/\s₁={ s with heap:=s.heap.push { cls:=.type "list",data:=.seq #[] } }) F.called_list (F.typeCall_list_1 _) F.entry_list_init
  (code_list_new _ ⟨rfl,rfl⟩) fun obj s₁ h₁=>?_
 obtain⟨rfl,rfl⟩:=h₁;have hS:(s.heap.push { cls:=.type "list",data:=.seq #[] }).get? s.heap.objs.size=some { cls:=.type "list",data:=.seq #[] }:=hS0 _ rfl;have ndS:s.heap.objs.size≠d:=(nL0 hm.lt_size).symm;refine⟨⟨_,hS,rfl⟩,F.args_list_init_2 _ _,?_⟩;show wpAny _ _ (do let old <-Builtin.List.listItems (.ref s.heap.objs.size);Builtin.List.listUpdate (.ref s.heap.objs.size) (fun _=>#[]);letGo old.toList.reverse;Builtin.List.listExtendWith (.ref s.heap.objs.size) (.ref d) .none) _ _ _;refine wB0 ?_;unfold Builtin.List.listItems;refine wB0 (wpAny_seqItems hS rfl (wP0 ?_));show wpAny _ _ (updateSeq s.heap.objs.size (fun _=>#[]) >>= fun _=>letGo (#[]:Array Value).toList.reverse >>= fun _=>Builtin.List.listExtendWith (.ref s.heap.objs.size) (.ref d) .none) _ _ _;refine wB0 (wpAny_updateSeq hS rfl ?_);have hS₂:=Heap.get?_update_self (Obj.mapSeq (fun _=>(#[]:Array Value))) hS rfl;have oth:∀b o,b≠s.heap.objs.size->s.heap.get? b=some o->((s.heap.push { cls:=.type "list",data:=.seq #[] }).update s.heap.objs.size (Obj.mapSeq (fun _=>(#[]:Array Value)))).get? b=some o:=
  fun b o hb e=>(Heap.get?_update_other _ _ (Ne.symm hb)).trans (hP0 _ e)
 refine wB0 (wpAny_letGo ?_);have hm2:((s.heap.push { cls:=.type "list",data:=.seq #[] }).update s.heap.objs.size (Obj.mapSeq (fun _=>(#[]:Array Value)))).DictAt knd d kvs ep:=by
  obtain⟨o2,es2,e2,r2⟩:=hm;exact⟨o2,es2,oth d o2 ndS.symm e2,r2⟩
 refine a6R (A:=A.in1) hh nd hm2 hlen _ .none _ hS₂ fun h' tk acc' c' hk hS' hacc=>?_;exact⟨rfl,hQ h' tk acc' c' (fun b o e=>hk b o (nL0 (hL0 e)) (oth b o (nL0 (hL0 e)) e)) hS' hacc⟩
end
section
variable {X:Cx}
theorem a2W (hc:X.calm=true):a1u X (.type "list") (fun xs H Q=>∃(p:Addr) (kvs:List (Key×V)) (zs:List Str),xs=[.ref p]/\Rd H p (.dK kvs)/\kvs.map (·.1)=zs.map Sum.inr/\∀l,H l=none->Q (.ref l) (upd H l (.lst (zs.map V.str)))):=by
 intro pins s σ H xs us Q I r h;obtain⟨p,kvs,zs,rfl,hq,hz,q⟩:=h;obtain⟨u,rfl,rx⟩:=a2o r;cases rx;obtain⟨hlen,lo,vs,kv,dd⟩:=hq.ok I.hok;obtain⟨ep,da⟩:=dd.dictAt;have hl:=kv.len;have hl2:kvs.length=zs.length:=by simpa using congrArg List.length hz
 refine a4y (I.ok.hd hc) lo da (by rw[<-hl];exact hlen) fun h' tk acc c' kp e1 hacc=>?_;have hS:StrsAre acc.toList zs:=by
  refine a6P _ _ (by rw[aL0,hacc.1,<-hl,hl2]) fun j v z h1 h2=>?_;obtain⟨k,x,hx,hkv⟩:=hacc.2 j v (by rw[<-Array.getElem?_toList];exact h1);have hk':=a7w kv hx;rw[hz,gM0,h2] at hk';have e:Sum.inr z=k:=by simpa using hk'
  subst e;exact a8x hkv
 exact⟨.ref s.heap.objs.size,_,I.laid (a:=s.heap.objs.size) (o:=.lst (zs.map V.str)) (t':=tk) kp (nR0 _) ⟨by rw[lM0,<-hl2];exact hlen,acc.toList,c',a3g hS,by simpa using e1⟩,rfl,q _ (I.hok.fresh (nR0 _))⟩
end
theorem a4Z (z:Str)(l:List Str):inV (.str z) (l.map V.str)=decide (z∈l):=by
 unfold inV;rw[Bool.eq_iff_iff,List.any_eq_true,decide_eq_true_iff]
 constructor
 ·rintro⟨y,hy,e⟩
  obtain⟨x,hx,rfl⟩:=mM0.mp hy
  have:x=z:=by simpa[eqV] using e
  rw[<-this];exact hx
 ·intro h
  exact⟨_,mM0.mpr ⟨z,h,rfl⟩,by simp[eqV]⟩
theorem a3r (l:List Str):(l.map V.str).all a5f=true:=by
 rw[List.all_map];exact List.all_eq_true.mpr fun _ _=>rfl
end L2
namespace My
open PySem L2 PyProof.Rows
seal L2.PE L2.PT L2.PW L2.PS L2.PSs L2.PA L2.PI L2.PG L2.PGs L2.OpR L2.UnR L2.a1u L2.IxR L2.SlR L2.MtR L2.PIf L2.PO L2.MtM L2.PC
theorem gz {H H':Hp}{a:Addr}{o:HO}(h:upd H a o=H')(ha:H a=none):a0r H H'/\H' a=some o:=by rw[<-h];exact⟨a0r.upd ha,a0d⟩
def a6T:Sp:=fun vs H Q _=>vs=[.bl true]/\Q .non H
def a4X:Sp:=fun vs H Q _=>∃(f:Addr) (sz:Int) (Ts:List Tb) (T:Tb),vs=[.ref f,.str T.name]/\a1f H f sz Ts/\Ts.length<=8/\(Ts.map (·.name)).Nodup/\T∈Ts/\(T.cols.map (·.1)).Nodup/\T.cols.length<=12 ∧
 ∀(p:Addr) (H':Hp) (zs:List Str),H p=none->a0r H H'->zs.Perm (T.cols.map (·.1))->sortedS zs=true->H' p=some (.dK (zs.map fun z=>(.inr z,vOf T.cols z)))->Q (.ref p) H'
def b6G:Sp:=fun vs H Q _=>∃(a:Addr) (c:List (Str×V)) (z:Str),vs=[.ref a,.str z]/\H a=some (.dK (kvC c))/\z∈c.map (·.1)/\∀p H',a0r H H'->H p=none->H' p=some (.dK (kvC (c.filter fun x=>decide (x.1≠z))))->Q (.ref p) H'
def b4c:Sp:=fun vs H Q _=>∃(a t:Addr) (c:List (Str×V)) (zs:List Str),vs=[.ref a,.ref t]/\H a=some (.dK (kvC c))/\H t=some (.tup (zs.map V.str))/\zs.Nodup/\(∀z∈zs,z∈c.map (·.1))/\∀p H',a0r H H'->(p=a\/H p=none)->H' p=some (.dK (kvC (c.filter fun x=>decide (x.1∉zs))))->Q (.ref p) H'
def a7q:Sp:=fun vs H Q _=>∃(a t:Addr) (c:List (Str×V)) (zs:List Str),vs=[.ref a,.ref t]/\H a=some (.dK (kvC c))/\H t=some (.tup (zs.map V.str))/\zs.Nodup/\zs.length<=12/\(∀z∈zs,z∈c.map (·.1))/\∀p H',a0r H H'->H p=none->H' p=some (.dK (kvC (zs.map fun z=>(z,vOf c z))))->Q (.ref p) H'
def a4l:Sp:=fun vs H Q _=>∃(f:Addr) (sz:Int) (Ts:List Tb) (z:Str),vs=[.ref f,.str z]/\a1f H f sz Ts/\Ts.length<=8/\a0T z=true/\z∉Ts.map (·.name)/\∀H',a0r H H'->Q .non H'
theorem a3q (c:List (Str×V))(z:Str):a3P (kvC c) (.inr z)=kvC (c.filter fun x=>decide (x.1≠z)):=by
 unfold a3P kvC;rw[List.filter_map]
 congr 1
 refine List.filter_congr fun e _=>?_;show decide ((Sum.inr e.1:Key)≠.inr z)=decide (e.1≠z);rw[Bool.eq_iff_iff,decide_eq_true_iff,decide_eq_true_iff];exact⟨fun h q=>h (by rw[q]),fun h q=>h (by injection q)⟩
section
variable {P:Program}{w:World}{K:Fg0}{mg:Str->Option Value}{base:Heap}
theorem a2M {f:Addr}{fd:FuncData}(F:Fun K "head_of" "head_of" (top 24) f fd):a0x P w K mg base CX0 1 f fd ["form"] a3n:=by
 have sc:a0o ["form"] ["form"] (a0f (top 24)):=.k (by decide +kernel);refine F.ok sc (fun vs H Q E h=>?_) (fun cdv A outer s H vs Q E hr h=>?_)
 ·obtain⟨f,sz,T,Ts,rfl,_⟩:=h
  rfl
 ·obtain⟨f,sz,T,Ts,rfl,⟨tt,es,h1,h2,h3,h4⟩,q⟩:=h
  refine⟨_,a0h (a0z (a0s a1n (a0s a1n (a0s a1n (pv 0) a0e (fun _ _=>rfl)) a0e (fun _ _=>rfl)) a0e (fun _ _=>rfl))),?_⟩
  match es,h3 with
  |e::es,h3=>
   obtain⟨ct,c1,_⟩:=h4 0 e T rfl rfl;exact⟨_,rfl,f,_,1,_,rfl,rfl,SqT.of h1,rfl,tt,_,0,_,rfl,rfl,SqT.of h2,(a0P (j:=0) rfl),e,_,0,_,rfl,rfl,SqT.of c1,rfl,q⟩
theorem a4R {f:Addr}{fd:FuncData}(F:Fun K "ask_fit" "ask_fit" (top 34) f fd):a0x P w K mg base CX0 1 f fd ["fine"] a6T:=by
 have sc:a0o ["fine"] ["fine"] (a0f (top 34)):=.k (by decide +kernel);refine F.ok sc (fun vs H Q E h=>?_) (fun cdv A outer s H vs Q E hr h=>?_)
 ·obtain⟨rfl,_⟩:=h
  rfl
 ·obtain⟨rfl,q⟩:=h
  refine⟨_,a0h (a0C (a1P (a0K (pv 0))) a0m a0l),?_⟩;exact⟨_,rfl,_,rfl,a1Z q⟩
theorem a9G {f fA fT fC fI:Addr}{fd fdA fdT fdC fdI:FuncData}(F:Fun K "columns_in" "columns_in" (top 35) f fd)(B:Bl mg)(DA:Df K mg "ask_fit" (top 34) fA fdA)(DT:Df K mg "tables_of" (top 23) fT fdT)(DC:Df K mg "columns_of" (top 26) fC fdC)(DI:Df K mg "table_in" (top 27) fI fdI):a0x P w K mg base CX0 3 f fd ["form","table"] a4X:=by
 have sc:a0o ["form","table"] ["form","table"] (a0f (top 35)):=.k (by decide +kernel);have GA:a0x P w K mg base CX0 1 fA fdA ["fine"] a6T:=a4R DA.fn;have GT:a0x P w K mg base CX0 1 fT fdT ["form"] a5D:=a5t DT.fn;have GC:a0x P w K mg base CX0 2 fC fdC ["form","table"] a1G:=a3Y DC.fn B DI;have bA:=DA.fn.b1 "fine" (by intros;rfl);have bT:=DT.fn.b1 "form" (by intros;rfl);have bC:=DC.fn.b2 "form" "table" (by intros;rfl);refine F.ok sc (fun vs H Q E h=>?_) (fun cdv A outer s H vs Q E hr h=>?_)
 ·obtain⟨f,sz,Ts,T,rfl,_⟩:=h
  rfl
 ·obtain⟨f,sz,Ts,T,rfl,hF,l8,nd,hT,cn,cl,q⟩:=h
  have hr1:a1g 1 _:=hr.mono (by decide);refine⟨_,a0c (a0F (a0i GA hr1 (by rfl) DA.mg DA.fn.kp bA .nil a0q (a0a (a0Q a6c (pv 1) (a0i GT hr1 (by rfl) DT.mg DT.fn.kp bT .nil a0q (a0a (pv 0) a0b)) (by with_unfolding_all rfl)) a0b)))
   (a0h (a0z (a0i GC hr (by rfl) DC.mg DC.fn.kp bC .nil a0q (a0a (pv 0) (a0a (pv 1) a0b))))),?_⟩
  refine⟨_,rfl,_,rfl,f,sz,Ts,rfl,hF,l8,fun p H1 hp s1 p1=>?_⟩;refine⟨p,_,rfl,.inl (SqL.of p1),rfl,a3r _,?_⟩;refine⟨?_,?_⟩
  ·show[V.bl (inV (.str T.name) ((Ts.map (·.name)).map V.str))]=[V.bl true]
   rw[a4Z,dT0 (mM0.mpr ⟨T,hT,rfl⟩)]
  ·exact⟨_,rfl,_,rfl,f,sz,Ts,T,rfl,hF.same s1,nd,hT,cn,cl,fun p' H' zs hp' s' pz so e=>q p' H' zs (a1a s1 hp') (s1.trans s') pz so e⟩
theorem b6c {f:Addr}{fd:FuncData}(F:Fun K "without_column" "without_column" (top 36) f fd)(B:Bl mg):a0x P w K mg base CX0 1 f fd ["row","column"] b6G:=by
 have sc:a0o ["row","column","fresh"] ["row","column"] (a0f (top 36)):=.k (by decide +kernel);refine F.ok sc (fun vs H Q E h=>?_) (fun cdv A outer s H vs Q E hr h=>?_)
 ·obtain⟨a,c,z,rfl,_⟩:=h
  rfl
 ·obtain⟨a,c,z,rfl,e,hz,q⟩:=h
  refine⟨_,a0c (a0p (i:=2) sc.nd rfl (Or.inl rfl) (a0V a6a (by rfl) B.dict boot_dict (a0a (pv 0) a0b)))
   (a0c (a0F (a3l (pv 2) (pv 1) ⟨rfl,rfl,rfl,rfl⟩)) (a0h (a0z (pv 2)))),?_⟩
  refine⟨_,rfl,a,_,rfl,.inl e,fun p hp=>?_⟩;have T1:=a0r.upd (o:=.dK (kvC c)) hp;refine⟨_,rfl,p,rfl,.inl ⟨_,.inl a0d⟩,_,rfl,_,.inr z,_,a0d,rfl,a4q hz,?_⟩;rw[a3q];exact⟨_,rfl,q p _ (T1.put hp) hp a0d⟩
theorem b4J {f fW:Addr}{fd fdW:FuncData}(F:Fun K "without" "without" (top 44) f fd)(B:Bl mg)(DW:Df K mg "without_column" (top 36) fW fdW):a0x P w K mg base CX0 2 f fd ["row","columns"] b4c:=by
 have sc:a0o ["row","columns","fresh","column"] ["row","columns"] (a0f (top 44)):=.k (by decide +kernel);have GW:a0x P w K mg base CX0 1 fW fdW ["row","column"] b6G:=b6c DW.fn B;have bW:=DW.fn.b2 "row" "column" (by intros;rfl);refine F.ok sc (fun vs H Q E h=>?_) (fun cdv A outer s H vs Q E hr h=>?_)
 ·obtain⟨a,t,c,zs,rfl,_⟩:=h
  rfl
 ·obtain⟨a,t,c,zs,rfl,ha,ht,nd,hz,q⟩:=h
  refine⟨_,a0c (a0p (i:=2) sc.nd rfl (Or.inl rfl) (pv 0))
   (a0c (a2E PassesOwn.never rfl (a3p (pv 1)) (a0E (i:=3) sc.nd rfl (Or.inl rfl))
    (a0h (a0p (i:=2) sc.nd rfl (Or.inl rfl) (a0i GW hr (by rfl) DW.mg DW.fn.kp bW .nil a0q (a0a (pv 2) (a0a (pv 3) a0b))))))
   (a0h (a0z (pv 2)))),?_⟩
  have step:∀i (hi:i<zs.length),(c.filter fun x=>decide (x.1∉zs.take i)).filter (fun x=>decide (x.1≠zs[i]))=c.filter fun x=>decide (x.1∉zs.take (i+1)):=fun i hi=>by
   rw[List.filter_filter];refine List.filter_congr fun x _=>?_;rw[List.take_add_one,gE0 hi,Bool.eq_iff_iff,Bool.and_eq_true,decide_eq_true_iff,decide_eq_true_iff,decide_eq_true_iff];show _↔x.1∉zs.take i++[zs[i]];rw[mB0,mS0,not_or];exact⟨fun h=>⟨h.2,h.1⟩,fun h=>⟨h.2,h.1⟩⟩
  refine⟨_,rfl,_,rfl,t,rfl,⟨_,SqT.of ht⟩,a9g (K:=K) (a:=t) (xs:=zs.map V.str) (fun i σ H1=>a0r H H1/\∃p u3,σ=[some (.ref a),some (.ref t),some (.ref p),u3]/\(p=a\/H p=none)/\H1 p=some (.dK (kvC (c.filter fun x=>decide (x.1∉zs.take i))))) ⟨a0r.refl _,a,_,rfl,.inl rfl,?_⟩ (fun i σ H1 _ p=>SqT.of (p.1 _ _ ht)) ?_ ?_⟩
  ·rw[ha,List.take_zero,List.filter_eq_self.mpr (fun x _=>dT0 (by simp))]
  ·rintro i x σ H1 hx ⟨s1,p,u3,rfl,hp,e⟩
   have hi:i<zs.length:=by have:=(gS0.mp hx).1;rwa [lM0] at this
   rw[gM0,gE0 hi] at hx;cases hx;refine⟨_,rfl,_,rfl,p,_,zs[i],rfl,e,?_,fun p' H' s' hp' e'=>?_⟩
   ·obtain⟨x,hx,ex⟩:=mM0.mp (hz _ (List.getElem_mem hi))
    refine mM0.mpr ⟨x,mF0.mpr ⟨hx,dT0 ?_⟩,ex⟩;rw[ex];intro hm;obtain⟨k,hk⟩:=List.getElem?_of_mem hm;have hk2:=(gS0.mp hk).1;rw[List.length_take] at hk2;rw[List.getElem?_take_of_lt (by omega),gE0 (by omega)] at hk
    have:=(List.getElem_inj (h₀:=by omega) (h₁:=hi) nd).mp (Option.some.inj hk)
    omega
   ·rw[step i hi] at e'
    exact⟨s1.trans s',p',_,rfl,.inr (a1a s1 hp'),e'⟩
  ·rintro σ H1 ⟨s1,p,u3,rfl,hp,e⟩
   rw[lM0,List.take_length] at e;exact⟨_,rfl,q p H1 s1 hp e⟩
theorem a9h {f:Addr}{fd:FuncData}(F:Fun K "picked" "picked" (top 43) f fd)(B:Bl mg):a0x P w K mg base CX0 1 f fd ["row","columns"] a7q:=by
 have sc:a0o ["row","columns"] ["row","columns"] (a0f (top 43)):=.k (by decide +kernel);refine F.ok sc (fun vs H Q E h=>?_) (fun cdv A outer s H vs Q E hr h=>?_)
 ·obtain⟨a,t,c,zs,rfl,_⟩:=h
  rfl
 ·obtain⟨a,t,c,zs,rfl,ha,ht,nd,l12,hz,q⟩:=h
  have hu:=a2s hr;refine⟨_,a0h (a0z (a0V (a8H rfl) (by rfl) B.dict boot_dict (a0a (a1T (osc:=a0f (top 43)) (N0:=["row","columns"]) (xs:=["column"]) (fr:=[0]) ⟨rfl,by decide +kernel,by decide +kernel,by decide +kernel,(fun j hj=>by
       have e:j=0:=by simpa using hj
       subst e;exact⟨_,rfl,by decide +kernel⟩),by decide +kernel⟩ rfl rfl rfl (a3p (pv 1))
      (fun s H fp=>a0E (i:=0) (show(["column","row"]:List Str).Nodup by decide +kernel) rfl (Or.inl rfl)) (fun s H fp=>a1U)
      (fun s H fp=>a0D (a0a (pv 0) (a0a (a2k hu (pv 1) (pv 0) (fun _ _=>rfl)) a0b)))) a0b))),?_⟩
  refine⟨_,rfl,t,rfl,⟨_,SqT.of ht⟩,fun D hD=>?_⟩;refine a1Q zs.length (fun i ys σ' Hc=>(∃u,σ'=[u,some (.ref a)])/\a0r H Hc/\∃ps:List Addr,ys=ps.map V.ref/\∀(j:Nat) (p:Addr) (z:Str),ps[j]? =some p->zs[j]? =some z->Hc p=some (.tup [.str z,vOf c z])) (by rw[sizeLine_eq];omega) ⟨⟨none,rfl⟩,a0r.upd hD,[],rfl,(fun j p z h=>nomatch h)⟩ a0d ?_ ?_
  ·rintro i σ' Hc ys hi ⟨⟨u,rfl⟩,sm,ps,rfl,hps⟩ hyl hD'
   rw[lM0] at hyl;refine⟨⟨_,V.str zs[i],SqT.of (sm _ _ ht),by rw[gM0,gE0 hi];rfl⟩,?_⟩;rintro x H' ⟨rfl,hx'⟩;have ex:=hx' _ (SqT.of (sm _ _ ht));rw[gM0,gE0 hi] at ex;cases ex;refine⟨_,rfl,_,rfl,_,rfl,a,_,rfl,.inl ⟨_,.inr zs[i],.inl (sm _ _ ha),rfl,(a4q (hz _ (List.getElem_mem hi))).symm⟩,(by exact sl2),fun p hp=>?_⟩;generalize hX:upd H' p _=H4;obtain⟨T1,e1⟩:=gz hX hp;refine⟨T1 _ _ hD',⟨_,rfl⟩,(sm.trans T1).put hD,ps++[p],by rw[mA0];rfl,fun j p' z h1 h2=>?_⟩;have kt:∀{x:Addr} {vs ys:List V},H4 x=some (.tup vs)->(upd H4 D (.lst ys)) x=some (.tup vs):=fun {x vs ys} e=>(a0g (fun z=>by rw[z,T1 _ _ hD'] at e;cases e)).trans e
   by_cases hj:j<ps.length
   ·rw[gL0 hj] at h1
    exact kt (T1 _ _ (hps j p' z h1 h2))
   ·have hj':=(gS0.mp h1).1
    rw[lA0,List.length_singleton] at hj';obtain rfl:j=ps.length:=by omega
    rw[gR0 (nR0 _),Nat.sub_self] at h1;cases h1;rw[hyl,gE0 hi] at h2;cases h2;exact kt e1
  ·rintro σ' Hc ys ⟨_,sm,ps,rfl,hps⟩ hDn hyl
   rw[lM0] at hyl;refine⟨⟨_,SqT.of (sm _ _ ht),by rw[lM0];exact nR0 _⟩,D,_,kvC (zs.map fun z=>(z,vOf c z)),rfl,SqL.of hDn,(by rw[lM0];omega),(by unfold kvC;rw[lM0,lM0,lM0];omega),fun j k v hk=>?_,?_,fun p hp=>?_⟩
   ·have hjz:j<zs.length:=by have:=(gS0.mp hk).1;unfold kvC at this;rwa [lM0,lM0] at this
    have hjp:j<ps.length:=by omega
    unfold kvC at hk;rw[gM0,gM0,gE0 hjz] at hk;cases hk;exact⟨ps[j],by rw[gM0,gE0 hjp];rfl,SqT.of (hps j _ _ (gE0 hjp) (gE0 hjz))⟩
   ·unfold kvC
    rw[mC0,mC0];exact List.Pairwise.map _ (fun a b hab h=>hab (by injection h)) nd
   ·exact q p _ (sm.trans (a0r.upd hp)) (a1a sm hp) a0d
theorem a8q {f fA fN fT:Addr}{fd fdA fdN fdT:FuncData}(F:Fun K "ask_new_side" "ask_new_side" (top 42) f fd)(DA:Df K mg "ask_fit" (top 34) fA fdA)(DN:Df K mg "is_name" (top 12) fN fdN)(GN:a0x P w K mg base CX0 1 fN fdN ["thing"] (a5U K))(DT:Df K mg "tables_of" (top 23) fT fdT):a0x P w K mg base CX0 2 f fd ["form","side"] a4l:=by
 have sc:a0o ["form","side"] ["form","side"] (a0f (top 42)):=.k (by decide +kernel);have GA:a0x P w K mg base CX0 1 fA fdA ["fine"] a6T:=a4R DA.fn;have GT:a0x P w K mg base CX0 1 fT fdT ["form"] a5D:=a5t DT.fn;have bA:=DA.fn.b1 "fine" (by intros;rfl);have bN:=DN.fn.b1 "thing" (by intros;rfl);have bT:=DT.fn.b1 "form" (by intros;rfl);refine F.ok sc (fun vs H Q E h=>?_) (fun cdv A outer s H vs Q E hr h=>?_)
 ·obtain⟨f,sz,Ts,z,rfl,_⟩:=h
  rfl
 ·obtain⟨f,sz,Ts,z,rfl,hF,l8,hn,hz,q⟩:=h
  have z8:=a7S hn;refine⟨_,a0h (a0F (a0i GA hr (by rfl) DA.mg DA.fn.kp bA .nil a0q (a0a (a1y (a0i GN hr (by rfl) DN.mg DN.fn.kp bN .nil a0q (a0a (pv 1) a0b)) (a1M (a0Q a2N (pv 1) (a0i GT hr (by rfl) DT.mg DT.fn.kp bT .nil a0q (a0a (pv 0) a0b)) (by with_unfolding_all rfl)))) a0b))),?_⟩;refine⟨_,rfl,.str z,_,rfl,Is.str,(fun z' e=>?_),(fun h=>absurd rfl h)⟩;cases e;refine⟨by rw[sizeLine_eq];omega,fun H1 s1=>⟨_,rfl,?_⟩⟩;rw[hn];refine a3C ⟨_,rfl,_,rfl,f,sz,Ts,rfl,hF.same s1,l8,fun p H2 hp s2 p2=>?_⟩;refine⟨p,_,rfl,.inl (SqL.of p2),rfl,a3r _,?_⟩;refine⟨?_,q H2 (s1.trans s2)⟩
  show[V.bl (!inV (.str z) ((Ts.map (·.name)).map V.str))]=[V.bl true]
  rw[a4Z,dF0 hz]
  rfl
end
def b0m (c z:Str):List (Str×V):=a3t "side" (.str z) (a3t "column" (.str c) [])
theorem a1i (c z:Str):(b0m c z).lookup ("column":Str)=some (.str c):=by
 unfold b0m;rw[a0Y,if_neg (by decide +kernel),a0Y,if_pos rfl]
theorem a1N (c z:Str):(b0m c z).lookup ("side":Str)=some (.str z):=by
 unfold b0m;rw[a0Y,if_pos rfl]
theorem a3D (c z:Str){m:Str}(h1:¬m="column")(h2:¬m="side"):(b0m c z).lookup m=none:=by
 unfold b0m;rw[a0Y,if_neg h2,a0Y,if_neg h1]
 rfl
structure ClC (K:Fg0) (CC:Addr):Prop where
 cl:Cls K CC
 nS:a2q K CC "side"
 nC:a2q K CC "column"
def CvA (CC:Addr)(H:Hp)(a:Addr)(c z:Str):Prop:=∃dx,H a=some (.ins CC dx (b0m c z))
theorem CvA.same {CC:Addr}{H H':Hp}{a:Addr}{c z:Str}(h:CvA CC H a c z)(s:a0r H H'):CvA CC H' a c z:=let ⟨dx,e⟩:=h;⟨dx,s _ _ e⟩
theorem CvA.sb {CC:Addr}{H H':Hp}{a:Addr}{c z:Str}(h:CvA CC H a c z)(s:Sb H H'):CvA CC H' a c z:=let ⟨dx,e⟩:=h;⟨dx,s _ _ rfl e⟩
def a7l (CC:Addr):Sp:=fun vs H Q _=>∃(a dx:Addr) (c z:Str),vs=[.ref a,.str c,.str z]/\H a=some (.ins CC dx [])/\∀H',(∀b o,b≠a->H b=some o->H' b=some o)->H' a=some (.ins CC dx (b0m c z))->Q .non H'
def a9b:List (Str×Str):=[("list","many"),("some","some")]
def b0v:List (Str×Str):=[("many","list"),("some","some")]
def a1m (so:Str):Str:=if so="list" then "many" else "some"
def a2G (so:Str):Str:=if so="many" then "list" else "some"
def dts (D:List (Str×Str)):List (Str×KTD.Dat):=D.map fun p=>(p.1,KTD.Dat.flat (.str p.2))
def lo (c:List (Str×V))(z:Str):List (Str×V):=c.filter fun x=>decide (x.1≠z)
theorem a0X {c:List (Str×V)}(nd:(c.map (·.1)).Nodup){x:Str×V}(h:x∈c):vOf c x.1=x.2:=by
 obtain⟨i,hi⟩:=List.getElem?_of_mem h;exact b1D nd hi
theorem a7N {c c2:List (Str×V)}(p:(c2.map (·.1)).Perm (c.map (·.1)))(h:∀z∈c2.map (·.1),vOf c2 z=vOf c z):cnC c2=cnC c:=by
 unfold cnC;have e:srt (c2.map (·.1))=srt (c.map (·.1)):=b2l (a5I _) (a5I _) ((a0J _).trans (p.trans (a0J _).symm));rw[e];refine List.map_congr_left fun z hz=>?_;rw[h z (p.mem_iff.mpr ((a0J _).mem_iff.mp hz))]
theorem a0G.of {H:Hp}{c c2:List (Str×V)}(ok:a0G H c)(nd:(c2.map (·.1)).Nodup)(l:c2.length<=12)(h:∀p∈c2,p.1∈c.map (·.1)/\p.2=vOf c p.1):a0G H c2:=⟨nd,l,fun p hp=>by
 obtain⟨h1,h2⟩:=h p hp;rw[h2];exact a2F ok h1⟩
theorem FAt.cong {H:Hp}{f:Addr}{sz:Int}{T0 T0':Tb}{R R':List Tb}(h:FAt H f sz T0 R)(e:cn T0=cn T0')(p:(R.map cn).Perm (R'.map cn)):FAt H f sz T0' R':=by
 obtain⟨U,a,b,c⟩:=h;rw[e] at a;exact⟨U,a,b.trans p,c⟩
theorem FK.sb {H H':Hp}{f:Addr}{sz:Int}{T0:Tb}{R:List Tb}(h:FK H f sz T0 R)(s:Sb H H'):FK H' f sz T0 R:=⟨h.at_.sb s,h.ts,fun T hT=>(h.co T hT).sb s,h.sz1⟩
theorem a2d (ys:List Str)(g:Str->V):kvC (ys.map fun z=>(z,g z))=ys.map fun z=>(.inr z,g z):=by
 unfold kvC;rw[mC0]
 rfl
theorem a5c {ys:List Str}{g:Str->V}{z:Str}(h:z∈ys):vOf (ys.map fun z=>(z,g z)) z=g z:=by
 unfold vOf;rw[a2d,a7m h]
 rfl
theorem a2B {c:List (Str×V)}{z:Str}{v:V}(h:a2g (kvC c) (.inr z)=some v):z∈c.map (·.1):=by
 induction c with
 |nil=>cases h
 |cons x r ih=>
  by_cases e:x.1=z
  ·rw[<-e];exact List.mem_cons_self
  ·rw[show kvC (x::r)=(.inr x.1,x.2)::kvC r from rfl,a2i (fun q=>e (by injection q))] at h
   exact mL0 _ (ih h)
theorem a5d (c:List (Str×V))(z:Str):(lo c z).map (·.1)=(c.map (·.1)).filter fun y=>decide (y≠z):=by
 unfold lo;rw[List.filter_map]
 rfl
theorem b4l {c:List (Str×V)}{z:Str}(nd:(c.map (·.1)).Nodup):((lo c z).map (·.1)).Nodup:=nd.sublist (List.filter_sublist.map _)
theorem b1L {c:List (Str×V)}{z:Str}{x:Str×V}(h:x∈lo c z):x∈c:=(mF0.mp h).1
theorem b6h {c c1:List (Str×V)}(nd:(c.map (·.1)).Nodup)(p:(c1.map (·.1)).Perm (c.map (·.1)))(h:∀z∈c1.map (·.1),vOf c1 z=vOf c z)(z:Str):cnC (lo c1 z)=cnC (lo c z):=by
 have nd1:(c1.map (·.1)).Nodup:=p.nodup_iff.mpr nd;have v1:∀{d:List (Str×V)},(d.map (·.1)).Nodup->∀y∈(lo d z).map (·.1),vOf (lo d z) y=vOf d y:=fun {d} nd y hy=>by
  obtain⟨x,hx,rfl⟩:=mM0.mp hy;rw[a0X (b4l nd) hx,a0X nd (b1L hx)]
 have pp:((lo c1 z).map (·.1)).Perm ((lo c z).map (·.1)):=by
  rw[a5d,a5d];exact p.filter _
 refine a7N pp fun y hy=>?_;rw[v1 nd1 y hy,v1 nd y (pp.mem_iff.mp hy)];rw[a5d] at hy;exact h y (mF0.mp hy).1
section
variable {P:Program}{w:World}{K:Fg0}{mg:Str->Option Value}{base:Heap}{CC PF:Addr}
theorem a7D {f:Addr}{fd:FuncData}(F:Fun K "__init__" "Rows.__init__" (a0w (top 40) 0) f fd)(T:ClC K CC):a0x P w K mg base CX0 1 f fd ["self","column","side"] (a7l CC):=by
 have sc:a0o ["self","column","side"] ["self","column","side"] (a0f (a0w (top 40) 0)):=.k (by decide +kernel);refine F.ok sc (fun vs H Q E h=>?_) (fun cdv A outer s H vs Q E hr h=>?_)
 ·obtain⟨a,dx,c,z,rfl,_⟩:=h
  rfl
 ·obtain⟨a,dx,c,z,rfl,ha,q⟩:=h
  refine⟨_,a0c (a7M (pv 0) (pv 1) rfl) (a0h (a7M (pv 0) (pv 2) rfl)),?_⟩;refine⟨_,rfl,_,rfl,a,CC,dx,[],rfl,ha,T.cl,T.nC,(by show 0<1000;decide),?_⟩;have a1:(upd H a (.ins CC dx (a3t "column" (.str c) []))) a=some (.ins CC dx (a3t "column" (.str c) [])):=a0d;have k1:∀b o,b≠a->H b=some o->(upd H a (.ins CC dx (a3t "column" (.str c) []))) b=some o:=fun b o nb e=>(a0g nb).trans e;generalize upd H a (.ins CC dx (a3t "column" (.str c) []))=H1 at *;refine⟨_,rfl,_,rfl,a,CC,dx,_,rfl,a1,T.cl,T.nS,?_,?_⟩
  ·have:=a2A "column" (.str c) []
   simp only[List.length_nil] at this
   omega
  ·exact q _ (fun b o nb e=>(a0g nb).trans (k1 b o nb e)) a0d
def a3A (CC PF:Addr):Sp:=fun vs H Q _=>∃(a f k:Addr) (c z so:Str) (u:V) (d:Dt) (sz:Int) (T0:Tb) (R:List Tb),vs=[.ref a,.ref f]/\CvA CC H a c z/\FK H f sz T0 R/\a1O PF a2j foQ H/\a0T z=true/\z∉(T0::R).map (·.name)/\R.length<=5/\c∈T0.cols.map (·.1)/\vOf T0.cols c=.ref k/\H k=some (.tup [.str so,u])/\(so="list"\/so="some")/\Rep H d u/\a1E d=true/\a1V d=true ∧
 ∀f' H',Sb H H'->Fr PF H H'->a1O PF a2j foQ H'->FAt H' f' sz ⟨T0.name,T0.sort,lo T0.cols c⟩ (R++[⟨z,a1m so,[(c,u)]⟩])->Q (.ref f') H'
structure Fms (P:Program) (w:World) (K:Fg0) (mg:Str->Option Value) (base:Heap) (PF fS fH fC fF fW fT:Addr) (fdS fdH fdC fdF fdW fdT:FuncData):Prop where
 DS:Df K mg "ask_new_side" (top 42) fS fdS
 GS:a0x P w K mg base CX0 2 fS fdS ["form","side"] a4l
 DH:Df K mg "head_of" (top 24) fH fdH
 DC:Df K mg "columns_of" (top 26) fC fdC
 GC:a0x P w K mg base CX0 2 fC fdC ["form","table"] a1G
 DF:Df K mg "ask_fit" (top 34) fF fdF
 DW:Df K mg "with_columns" (top 29) fW fdW
 GW:a0x P w K mg base CX0 7 fW fdW ["form","table","columns"] (a4d PF)
 DT:Df K mg "with_table" (top 30) fT fdT
 GT:a0x P w K mg base CX0 7 fT fdT ["form","name","sort","columns"] (a6J PF)
theorem a2Y {c:List (Str×V)}{z:Str}(h:z∈c.map (·.1)):a2g (kvC c) (.inr z)=some (vOf c z):=a4q h
theorem a5p {so:Str}(h:so="list"\/so="some"):KTD.inKeys so (dts a9b)=true/\a9b.lookup so=some (a1m so)/\a1m so∈a1S:=by
 rcases h with rfl |rfl
 ·exact⟨by decide +kernel,by decide +kernel,by decide +kernel⟩
 ·exact⟨by decide +kernel,by decide +kernel,by decide +kernel⟩
theorem a8f {d:Dt}(h:a1E d=true):a1H d=true:=by unfold a1H;rw[h];rfl
theorem b0G {f fS fH fC fF fW fT aR:Addr}{fd fdS fdH fdC fdF fdW fdT:FuncData}(F:Fun K "after" "Rows.after" (a0w (top 40) 1) f fd)(T:ClC K CC)(M:Fms P w K mg base PF fS fH fC fF fW fT fdS fdH fdC fdF fdW fdT)(mR:mg "SORT_OF_ROWS"=some (.ref aR))(kR:b1s K aR (dts a9b)) :
  a0x P w K mg base CX0 8 f fd ["self","form"] (a3A CC PF):=by
 have sc:a0o ["self","form","head","columns","kind","lesser"] ["self","form"] (a0f (a0w (top 40) 1)):=.k (by decide +kernel);have GH:a0x P w K mg base CX0 1 fH fdH ["form"] a3n:=a2M M.DH.fn;have GF:a0x P w K mg base CX0 1 fF fdF ["fine"] a6T:=a4R M.DF.fn;have bS:=M.DS.fn.b2 "form" "side" (by intros;rfl);have bH:=M.DH.fn.b1 "form" (by intros;rfl);have bC:=M.DC.fn.b2 "form" "table" (by intros;rfl);have bF:=M.DF.fn.b1 "fine" (by intros;rfl);have bW:=M.DW.fn.b3 "form" "table" "columns" (by intros;rfl);have bT:=M.DT.fn.b4 "form" "name" "sort" "columns" (by intros;rfl);refine F.ok sc (fun vs H Q E h=>?_) (fun cdv A outer s H vs Q E hr h=>?_)
 ·obtain⟨a,f,k,c,z,so,u,d,sz,T0,R,rfl,_⟩:=h
  rfl
 ·obtain⟨a,f,k,c,z,so,u,d,sz,T0,R,rfl,⟨dx,ha⟩,fk,tab,hn,hz,r5,hc,vk,hk,hso,rd,pd,nd,q⟩:=h
  have hu:=a2s hr;have hr1:a1g 1 _:=hr.mono (by decide);have hr2:a1g 2 _:=hr.mono (by decide);obtain⟨i1,i2,i3⟩:=a5p hso;refine⟨_,a0c (a0F (a0i M.GS hr2 (by rfl) M.DS.mg M.DS.fn.kp bS .nil a0q (a0a (pv 1) (a0a (a0M (pv 0) rfl) a0b))))
   (a0c (a0p (i:=2) sc.nd rfl (Or.inl rfl) (a0i GH hr1 (by rfl) M.DH.mg M.DH.fn.kp bH .nil a0q (a0a (pv 1) a0b)))
   (a0c (a0p (i:=3) sc.nd rfl (Or.inl rfl) (a0i M.GC hr2 (by rfl) M.DC.mg M.DC.fn.kp bC .nil a0q (a0a (pv 1) (a0a (pv 2) a0b))))
   (a0c (a0F (a0i GF hr1 (by rfl) M.DF.mg M.DF.fn.kp bF .nil a0q (a0a (a1y (a3E (a4I hu (a0M (pv 0) rfl) (pv 3))) (a1M (a0Q a3i (a0s a1n (a2k hu (pv 3) (a0M (pv 0) rfl) (fun _ _=>rfl)) a0e (fun _ _=>rfl)) (a2l (v:=.ref aR) (by rfl) mR rfl) (by with_unfolding_all rfl)))) a0b)))
   (a0c (a0p (i:=4) sc.nd rfl (Or.inl rfl) (a3l (pv 3) (a0M (pv 0) rfl) ⟨rfl,rfl,rfl,rfl⟩))
   (a0c (a0p (i:=5) sc.nd rfl (Or.inl rfl) (a0i M.GW hr (by rfl) M.DW.mg M.DW.fn.kp bW .nil a0q (a0a (pv 1) (a0a (pv 2) (a0a (pv 3) a0b)))))
   (a0h (a0z (a0i M.GT hr (by rfl) M.DT.mg M.DT.fn.kp bT .nil a0q (a0a (pv 5) (a0a (a0M (pv 0) rfl) (a0a (a0s b1I (a2l (v:=.ref aR) (by rfl) mR rfl) (a0s a1n (pv 4) a0e (fun _ _=>rfl)) (fun _ _=>rfl)) (a0a (a1t (a0R (a0M (pv 0) rfl) (a0s a1n (pv 4) a0e (fun _ _=>rfl)) a1s) rfl rfl (by simp) (by decide)) a0b)))))))))))),?_⟩
  obtain⟨U,hF,hU,fx,co,t8,tsU,eU⟩:=fk.get;have pN:=a1Y (T0:=T0) hU;have okc:=fk.co T0 List.mem_cons_self;refine⟨_,rfl,_,rfl,a,CC,dx,_,_,rfl,ha,T.cl,T.nS,a1N _ _,f,sz,cn T0::U,z,rfl,hF,t8,hn,(fun h=>hz (pN.mem_iff.mp h)),fun H1 s1=>?_⟩;refine⟨_,rfl,f,sz,cn T0,U,rfl,hF.same s1,?_⟩;refine⟨_,rfl,_,rfl,f,sz,cn T0::U,cn T0,rfl,hF.same s1,tsU.2.1,List.mem_cons_self,okc.cn.1,okc.cn.2.1,fun cp H2 ys hcp s2 py _ ecp=>?_⟩;have S2:=s1.trans s2;have py':ys.Perm (T0.cols.map (·.1)):=py.trans (by rw[show(cn T0).cols=cnC T0.cols from rfl,a0S];exact a0J _);have ecp':H2 cp=some (.dK (kvC (ys.map fun z=>(z,vOf (cn T0).cols z)))):=by rw[a2d];exact ecp
  have nc:((ys.map fun z=>(z,vOf (cn T0).cols z)).map (·.1))=ys:=by rw[mC0];exact List.map_id' _
  have vc:∀y∈ys,vOf (ys.map fun z=>(z,vOf (cn T0).cols z)) y=vOf T0.cols y:=fun y hy=>by
   rw[a5c hy];exact a2D (py'.mem_iff.mp hy)
  have ndy:ys.Nodup:=py'.nodup_iff.mpr okc.1;have yl:ys.length<=12:=by rw[py'.length_eq,lM0];exact okc.2.1
  have lc1:(ys.map fun z=>(z,vOf (cn T0).cols z)).length=ys.length:=lM0 ..;generalize ys.map (fun z=>(z,vOf (cn T0).cols z))=c1 at *;have hcy:c∈ys:=py'.mem_iff.mpr hc;have hv:a2g (kvC c1) (.inr c)=some (.ref k):=by rw[a2Y (by rw[nc];exact hcy),vc c hcy,vk]
  refine⟨_,rfl,a,CC,dx,_,_,rfl,S2 _ _ ha,T.cl,T.nC,a1i _ _,_,rfl,cp,_,rfl,.inl ⟨_,.inr c,.inl ecp',rfl,hv.symm⟩,_,rfl,a3C ?_⟩;refine⟨_,rfl,_,rfl,a,CC,dx,_,_,rfl,S2 _ _ ha,T.cl,T.nC,a1i _ _,cp,_,rfl,.inl ⟨_,.inr c,.inl ecp',rfl,hv.symm⟩,k,_,0,_,rfl,rfl,SqT.of (S2 _ _ hk),rfl,so,aR,dts a9b,rfl,rfl,kR,?_,?_⟩
  ·show[V.bl (KTD.inKeys so (dts a9b))]=[V.bl true]
   rw[i1]
  refine⟨_,rfl,cp,rfl,.inl ⟨_,.inl ecp'⟩,_,rfl,a,CC,dx,_,_,rfl,S2 _ _ ha,T.cl,T.nC,a1i _ _,_,.inr c,_,ecp',rfl,hv,?_⟩;rw[show a3P (kvC c1) (.inr c)=kvC (lo c1 c) from a3q c1 c];have hcp0:H cp=none:=a1a s1 hcp;have S3:a0r H (upd H2 cp (.dK (kvC (lo c1 c)))):=S2.put hcp0;have e3:=a0d (H:=H2) (a:=cp) (o:=.dK (kvC (lo c1 c)));have k3:∀b o,b≠cp->H2 b=some o->(upd H2 cp (.dK (kvC (lo c1 c)))) b=some o:=fun b o nb e=>(a0g nb).trans e;generalize upd H2 cp (.dK (kvC (lo c1 c)))=H3 at *;have fk3:=fk.sb S3.sb;have ok3:a0G H3 T0.cols:=okc.same S3;have okl:a0G H3 (lo c1 c):=ok3.of (b4l (by rw[nc];exact ndy)) (Nat.le_trans (List.length_filter_le _ _) (by rw[lc1];exact yl)) fun x hx=>by
   have hx1:=b1L hx;have hx2:x.1∈ys:=by rw[<-nc];exact mM0.mpr ⟨x,hx1,rfl⟩
   exact⟨py'.mem_iff.mp hx2,by rw[<-vc x.1 hx2,a0X (by rw[nc];exact ndy) hx1]⟩
  refine⟨_,rfl,_,rfl,_,rfl,f,sz,T0,R,T0.name,cp,lo c1 c,rfl,fk3,tab.same S3,(by rw[mN0];exact List.mem_cons_self),e3,okl,fun f1 H5 sb5 fr5 tb5 fa5=>?_⟩;have B5:=S3.sb.trans sb5;have rc0:rc T0.name (lo c1 c) T0=⟨T0.name,T0.sort,lo c1 c⟩:=if_pos rfl;have rcR:R.map (rc T0.name (lo c1 c))=R:=by
   have:∀X∈R,rc T0.name (lo c1 c) X=X:=fun X hX=>if_neg fun e=>by
    have:=fk.ts.2.1
    rw[mN0,List.nodup_cons] at this;exact this.1 (by rw[<-e];exact mM0.mpr ⟨X,hX,rfl⟩)
   rw[List.map_congr_left this];exact List.map_id' _
  rw[rc0,rcR] at fa5;have ha5:=B5 _ _ rfl ha;have hk5:=B5 _ _ rfl hk;have fk5:FK H5 f1 sz ⟨T0.name,T0.sort,lo c1 c⟩ R:=⟨fa5,fk.ts.perm rfl (.refl _),fun X hX=>by
   rcases mK0.mp hX with rfl |hX
   ·exact okl.sb sb5
   ·exact(fk.co X (mL0 _ hX)).sb B5,fk.sz1⟩
  refine⟨_,rfl,_,rfl,a,CC,dx,_,_,rfl,ha5,T.cl,T.nS,a1N _ _,_,rfl,k,_,0,_,rfl,rfl,SqT.of hk5,rfl,so,aR,a9b,a1m so,rfl,rfl,kR,i2,fun p hp=>?_⟩;have T6:=a0r.upd (o:=.dK []) hp;refine⟨_,rfl,a,CC,dx,_,_,rfl,T6 _ _ ha5,T.cl,T.nC,a1i _ _,_,rfl,k,_,1,_,rfl,rfl,SqT.of (T6 _ _ hk5),rfl,a0d,[(.inr c,u)],rfl,(by decide:1<=15),?_⟩;have s6:a0r H5 (upd (upd H5 p (.dK [])) p (.dK (a0A [] [((.inr c:Key),u)]))):=T6.put hp;have e6:(upd (upd H5 p (.dK [])) p (.dK (a0A [] [((.inr c:Key),u)]))) p=some (.dK (kvC [(c,u)])):=a0d;generalize upd (upd H5 p (.dK [])) p (.dK (a0A [] [((.inr c:Key),u)]))=H6 at *;have okr:a0G H6 [(c,u)]:=⟨List.nodup_cons.mpr ⟨List.not_mem_nil,List.nodup_nil⟩,(by show 1<=12;decide),fun x hx=>by
   rw[mS0.mp hx];exact⟨(a2F okc hc).1,d,(Rep.sb (B5.trans s6.sb) rd),a8f pd,nd⟩⟩
  obtain⟨t7,tnd,tn,th,tss⟩:=fk.ts;refine⟨f1,sz,⟨T0.name,T0.sort,lo c1 c⟩,R,z,a1m so,p,[(c,u)],rfl,fk5.sb s6.sb,e6,okr,tb5.same s6,⟨?_,?_,fun X hX=>?_,th,fun X hX=>?_⟩,fun f2 H7 sb7 fr7 tb7 fa7=>?_⟩
  ·rw[lA0]
   show R.length+1<=7
   omega
  ·show(T0.name::(R++[(⟨z,a1m so,[(c,u)]⟩:Tb)]).map (fun X:Tb=>X.name)).Nodup
   rw[mA0,<-List.cons_append,List.nodup_append];refine⟨tnd,by simp,fun x hx y hy e=>?_⟩
   have:y=z:=by simpa using hy
   rw[e,this] at hx;exact hz hx
  ·rcases mK0.mp hX with rfl |hX
   ·exact tn T0 List.mem_cons_self
   ·rcases mB0.mp hX with hX |hX
    ·exact tn X (mL0 _ hX)
    ·rw[mS0.mp hX];exact hn
  ·rcases mB0.mp hX with hX |hX
   ·exact tss X hX
   ·rw[mS0.mp hX];exact i3
  ·refine q f2 H7 ((B5.trans s6.sb).trans sb7) (fun b o nb e=>fr7 b o nb (s6 _ _ (fr5 b o nb (S3 _ _ e)))) tb7 (fa7.cong ?_ (.refl _))
   show(⟨T0.name,T0.sort,cnC (lo c1 c)⟩:Tb)=⟨T0.name,T0.sort,cnC (lo T0.cols c)⟩
   rw[b6h okc.1 (by rw[nc];exact py') (fun y hy=>vc y (by rw[<-nc];exact hy)) c]
def a2Q (CC PF:Addr):Sp:=fun vs H Q _=>∃(a f:Addr) (c z:Str) (u:V) (d:Dt) (sz:Int) (T0 Tz:Tb) (R:List Tb),vs=[.ref a,.ref f]/\CvA CC H a c z/\FK H f sz T0 R/\a1O PF a2j foQ H/\Tz∈R/\Tz.name=z/\(Tz.sort="many"\/Tz.sort="some")/\Tz.cols=[(c,u)]/\Rep H d u/\a1E d=true/\a1V d=true/\T0.cols.length<=11/\c∉T0.cols.map (·.1) ∧
 ∀f' k H',Sb H H'->Fr PF H H'->a1O PF a2j foQ H'->H' k=some (.tup [.str (a2G Tz.sort),u])->FAt H' f' sz ⟨T0.name,T0.sort,T0.cols++[(c,.ref k)]⟩ (R.filter (nz z))->Q (.ref f') H'
structure Fmb (P:Program) (w:World) (K:Fg0) (mg:Str->Option Value) (base:Heap) (PF fI fS fO fL:Addr) (fdI fdS fdO fdL:FuncData):Prop where
 DI:Df K mg "columns_in" (top 35) fI fdI
 GI:a0x P w K mg base CX0 3 fI fdI ["form","table"] a4X
 DS:Df K mg "sort_of" (top 25) fS fdS
 GS:a0x P w K mg base CX0 2 fS fdS ["form","table"] a3o
 DO:Df K mg "without_table" (top 31) fO fdO
 GO:a0x P w K mg base CX0 7 fO fdO ["form","name"] (a4p PF)
 DL:Df K mg "is_plain" (top 14) fL fdL
 GL:a0x P w K mg base CX0 3 fL fdL ["thing"] a4T
theorem a7a {so:Str}(h:so="many"\/so="some"):KTD.inKeys so (dts b0v)=true/\b0v.lookup so=some (a2G so)/\(a2G so="list"\/a2G so="some"):=by
 rcases h with rfl |rfl
 ·exact⟨by decide +kernel,by decide +kernel,by decide +kernel⟩
 ·exact⟨by decide +kernel,by decide +kernel,by decide +kernel⟩
theorem a5X {so:Str}{d:Dt}(h:so="list"\/so="some")(p:a1E d=true):a1H (.tup [.str so,d])=true:=by
 have:a9t (.tup [.str so,d])=true:=by
  show(w3.any (a1B (.str so))&&a1E d)=true
  rw[p,Bool.and_true];rcases h with rfl |rfl<;>decide +kernel
 unfold a1H;rw[this,Bool.or_true]
theorem a9E {f_ fH fC fF fW fI fS fO fL aT:Addr}{fd fdH fdC fdF fdW fdI fdS fdO fdL:FuncData}(F:Fun K "before" "Rows.before" (a0w (top 40) 2) f_ fd)(B:Bl mg)(T:ClC K CC)(M:Fmb P w K mg base PF fI fS fO fL fdI fdS fdO fdL)(DH:Df K mg "head_of" (top 24) fH fdH)(DC:Df K mg "columns_of" (top 26) fC fdC)(GC:a0x P w K mg base CX0 2 fC fdC ["form","table"] a1G)(DF:Df K mg "ask_fit" (top 34) fF fdF)(DW:Df K mg "with_columns" (top 29) fW fdW)(GW:a0x P w K mg base CX0 7 fW fdW ["form","table","columns"] (a4d PF))(mT:mg "SORT_OF_TUPLES"=some (.ref aT))(kT:b1s K aT (dts b0v)) :
  a0x P w K mg base CX0 8 f_ fd ["self","form"] (a2Q CC PF):=by
 have sc:a0o ["self","form","had","sort","head","columns"] ["self","form"] (a0f (a0w (top 40) 2)):=.k (by decide +kernel);have GH:a0x P w K mg base CX0 1 fH fdH ["form"] a3n:=a2M DH.fn;have GF:a0x P w K mg base CX0 1 fF fdF ["fine"] a6T:=a4R DF.fn;have bI:=M.DI.fn.b2 "form" "table" (by intros;rfl);have bS:=M.DS.fn.b2 "form" "table" (by intros;rfl);have bO:=M.DO.fn.b2 "form" "name" (by intros;rfl);have bL:=M.DL.fn.b1 "thing" (by intros;rfl);have bH:=DH.fn.b1 "form" (by intros;rfl);have bC:=DC.fn.b2 "form" "table" (by intros;rfl);have bF:=DF.fn.b1 "fine" (by intros;rfl);have bW:=DW.fn.b3 "form" "table" "columns" (by intros;rfl);refine F.ok sc (fun vs H Q E h=>?_) (fun cdv A outer s H vs Q E hr h=>?_)
 ·obtain⟨a,f,c,z,u,d,sz,T0,Tz,R,rfl,_⟩:=h
  rfl
 ·obtain⟨a,f,c,z,u,d,sz,T0,Tz,R,rfl,⟨dx,ha⟩,fk,tab,hTz,rfl,hso,ecz,rd,pd,nd,l11,dj,q⟩:=h
  have hu:=a2s hr;have hr1:a1g 1 _:=hr.mono (by decide);have hr2:a1g 2 _:=hr.mono (by decide);have hr3:a1g 3 _:=hr.mono (by decide);obtain⟨i1,i2,i3⟩:=a7a hso;refine⟨_,a0c (a0p (i:=2) sc.nd rfl (Or.inl rfl) (a0i M.GI hr3 (by rfl) M.DI.mg M.DI.fn.kp bI .nil a0q (a0a (pv 1) (a0a (a0M (pv 0) rfl) a0b))))
   (a0c (a0p (i:=3) sc.nd rfl (Or.inl rfl) (a0i M.GS hr2 (by rfl) M.DS.mg M.DS.fn.kp bS .nil a0q (a0a (pv 1) (a0a (a0M (pv 0) rfl) a0b))))
   (a0c (a0F (a0i GF hr1 (by rfl) DF.mg DF.fn.kp bF .nil a0q (a0a (a1y (a0Q a3i (pv 3) (a2l (v:=.ref aT) (by rfl) mT rfl) (by with_unfolding_all rfl)) (a1y (a0Q b1S (a0V (a2W rfl) (by rfl) B.list boot_list (a0a (pv 2) a0b)) (a1r (a0a (a0M (pv 0) rfl) a0b)) (a0u _)) (a1M (a0i M.GL hr3 (by rfl) M.DL.mg M.DL.fn.kp bL .nil a0q (a0a (a2k hu (pv 2) (a0M (pv 0) rfl) (fun _ _=>rfl)) a0b))))) a0b)))
   (a0c (a0p (i:=4) sc.nd rfl (Or.inl rfl) (a0i GH hr1 (by rfl) DH.mg DH.fn.kp bH .nil a0q (a0a (pv 1) a0b)))
   (a0c (a0p (i:=5) sc.nd rfl (Or.inl rfl) (a0i GC hr2 (by rfl) DC.mg DC.fn.kp bC .nil a0q (a0a (pv 1) (a0a (pv 4) a0b))))
   (a0c (a0F (a0i GF hr1 (by rfl) DF.mg DF.fn.kp bF .nil a0q (a0a (a3E (a4e hu (a0M (pv 0) rfl) (pv 5))) a0b)))
   (a0c (a2L hu (pv 5) (a0M (pv 0) rfl) (a0D (a0a (a0s b1I (a2l (v:=.ref aT) (by rfl) mT rfl) (pv 3) (fun _ _=>rfl)) (a0a (a2k hu (pv 2) (a0M (pv 0) rfl) (fun _ _=>rfl)) a0b))) rfl)
   (a0h (a0z (a0i GW hr (by rfl) DW.mg DW.fn.kp bW .nil a0q (a0a (a0i M.GO hr (by rfl) M.DO.mg M.DO.fn.kp bO .nil a0q (a0a (pv 1) (a0a (a0M (pv 0) rfl) a0b))) (a0a (pv 4) (a0a (pv 5) a0b)))))))))))),?_⟩
  obtain⟨U,hF,hU,fx,co,t8,tsU,eU⟩:=fk.get;have okc:=fk.co T0 List.mem_cons_self;have okz:=fk.co Tz (mL0 _ hTz);have hTU:cn Tz∈U:=hU.mem_iff.mpr (mM0.mpr ⟨Tz,hTz,rfl⟩);refine⟨_,rfl,_,rfl,a,CC,dx,_,_,rfl,ha,T.cl,T.nS,a1N _ _,f,sz,cn T0::U,cn Tz,rfl,hF,t8,tsU.2.1,mL0 _ hTU,okz.cn.1,okz.cn.2.1,fun hp H1 ys hph s1 py so1 e1=>?_⟩;have py':ys.Perm [c]:=py.trans (by rw[show(cn Tz).cols=cnC Tz.cols from rfl,a0S];exact(a0J _).trans (by rw[ecz];exact .refl _));obtain rfl:ys=[c]:=List.perm_singleton.mp py';have e1':H1 hp=some (.dK [(.inr c,u)]):=by
   have:vOf (cn Tz).cols c=u:=by
    show vOf (cnC Tz.cols) c=u;rw[a2D (by rw[ecz];exact List.mem_cons_self),ecz];exact a0X (c:=[(c,u)]) (List.nodup_cons.mpr ⟨List.not_mem_nil,List.nodup_nil⟩) List.mem_cons_self
   rw[<-this];exact e1
  have hv:a2g [((.inr c:Key),u)] (.inr c)=some u:=a1K rfl;refine⟨_,rfl,_,rfl,a,CC,dx,_,_,rfl,s1 _ _ ha,T.cl,T.nS,a1N _ _,f,sz,cn T0::U,cn Tz,rfl,hF.same s1,tsU.2.1,mL0 _ hTU,?_⟩;refine⟨_,rfl,Tz.sort,aT,dts b0v,rfl,rfl,kT,_,rfl,?_⟩;rw[i1];refine a3C ⟨_,rfl,hp,_,[c],rfl,.inl e1',rfl,fun l1 hl1=>?_⟩;generalize hX:upd H1 l1 _=H2;obtain⟨T2,e2⟩:=gz hX hl1;have S2:=s1.trans T2;refine⟨_,rfl,a,CC,dx,_,_,rfl,S2 _ _ ha,T.cl,T.nC,a1i _ _,(by exact sl1),fun l2 hl2=>?_⟩;generalize hX:upd H2 l2 _=H3;obtain⟨T3,e3⟩:=gz hX hl2;have S3:=S2.trans T3;have hp3:=T3 _ _ (T2 _ _ e1');refine⟨0,l1,l2,_,_,rfl,rfl,SqL.of (T3 _ _ e2),SqL.of e3,rfl,(fun i x y c1 c2=>?_),hu,_,rfl,a3C ?_⟩
  ·match i,c1,c2 with
   |0,c1,c2=>cases c1;cases c2;exact .str
  refine⟨_,rfl,_,rfl,a,CC,dx,_,_,rfl,S3 _ _ ha,T.cl,T.nC,a1i _ _,hp,_,rfl,.inl ⟨_,.inr c,.inl hp3,rfl,hv.symm⟩,u,d,rfl,rd.same S3,fun H4 s4=>?_⟩;refine⟨?_,?_⟩
  ·show[V.bl (a1E d)]=[V.bl true]
   rw[pd]
  have S4:=S3.trans s4;refine⟨_,rfl,f,sz,cn T0,U,rfl,hF.same S4,?_⟩;refine⟨_,rfl,_,rfl,f,sz,cn T0::U,cn T0,rfl,hF.same S4,tsU.2.1,List.mem_cons_self,okc.cn.1,okc.cn.2.1,fun cp H5 ws hcp s5 pw _ e5=>?_⟩;have pw':ws.Perm (T0.cols.map (·.1)):=pw.trans (by rw[show(cn T0).cols=cnC T0.cols from rfl,a0S];exact a0J _);have e5':H5 cp=some (.dK (kvC (ws.map fun z=>(z,vOf (cn T0).cols z)))):=by rw[a2d];exact e5
  have nw:((ws.map fun z=>(z,vOf (cn T0).cols z)).map (·.1))=ws:=by rw[mC0];exact List.map_id' _
  have vw:∀y∈ws,vOf (ws.map fun z=>(z,vOf (cn T0).cols z)) y=vOf T0.cols y:=fun y hy=>by
   rw[a5c hy];exact a2D (pw'.mem_iff.mp hy)
  have ndw:ws.Nodup:=pw'.nodup_iff.mpr okc.1;have wl:ws.length=T0.cols.length:=by rw[pw'.length_eq,lM0]
  have lw:(ws.map fun z=>(z,vOf (cn T0).cols z)).length=ws.length:=lM0 ..;generalize ws.map (fun z=>(z,vOf (cn T0).cols z))=c5 at *;have hcw:c∉c5.map (·.1):=by rw[nw];exact fun h=>dj (pw'.mem_iff.mp h)
  have nv:a2g (kvC c5) (.inr c)=none:=by
   cases e:a2g (kvC c5) (.inr c) with
   |none=>rfl
   |some v=>exact absurd (a2B e) hcw
  have S5:=S4.trans s5;have hp5:=s5 _ _ (s4 _ _ hp3);refine⟨_,rfl,a,CC,dx,_,_,rfl,S5 _ _ ha,T.cl,T.nC,a1i _ _,_,rfl,cp,none,rfl,.inl ⟨_,.inr c,.inl e5',rfl,nv.symm⟩,rfl,?_⟩;refine⟨_,rfl,Tz.sort,aT,b0v,a2G Tz.sort,rfl,rfl,kT,i2,_,rfl,_,rfl,a,CC,dx,_,_,rfl,S5 _ _ ha,T.cl,T.nC,a1i _ _,hp,_,rfl,.inl ⟨_,.inr c,.inl hp5,rfl,hv.symm⟩,(by exact sl2),fun k hk=>?_⟩;generalize hX:upd H5 k _=H6;obtain⟨T6,e6⟩:=gz hX hk;have S6:=S5.trans T6;have ec6:=T6 _ _ e5';refine⟨_,rfl,_,rfl,a,CC,dx,_,_,rfl,S6 _ _ ha,T.cl,T.nC,a1i _ _,cp,_,rfl,a8J.k (k:=.inr c) ec6 (by unfold kvC;rw[lM0,lw,wl,sizeLine_eq];omega),?_⟩;rw[L2.a5w _ nv,show kvC c5++[((.inr c:Key),V.ref k)]=kvC (c5++[(c,.ref k)]) by unfold kvC;rw[mA0];rfl];have hcp0:H cp=none:=a1a S4 hcp;have S7:a0r H (upd H6 cp (.dK (kvC (c5++[(c,.ref k)])))):=S6.put hcp0;have e7:=a0d (H:=H6) (a:=cp) (o:=.dK (kvC (c5++[(c,.ref k)])));have k7:(upd H6 cp (.dK (kvC (c5++[(c,.ref k)])))) k=some (.tup [.str (a2G Tz.sort),u]):=(a0g (fun e=>by rw[e,ec6] at e6;cases e6)).trans e6;generalize upd H6 cp (.dK (kvC (c5++[(c,.ref k)])))=H7 at *;have fk7:=fk.sb S7.sb;refine⟨_,rfl,_,rfl,a,CC,dx,_,_,rfl,S7 _ _ ha,T.cl,T.nS,a1N _ _,f,sz,T0,R,Tz.name,rfl,fk7,tab.same S7,mM0.mpr ⟨Tz,hTz,rfl⟩,fun f1 H8 sb8 fr8 tb8 fa8=>?_⟩;have B8:=S7.sb.trans sb8;have fk8:FK H8 f1 sz T0 (R.filter (nz Tz.name)):=⟨fa8,fk.ts.filter _,fun X hX=>by
   rcases mK0.mp hX with rfl |hX
   ·exact okc.sb B8
   ·exact(fk.co X (mL0 _ (mF0.mp hX).1)).sb B8,fk.sz1⟩
  have k8:=sb8 _ _ rfl k7;have ndj:((c5++[(c,V.ref k)]).map (·.1)).Nodup:=by
   rw[mA0,List.nodup_append];refine⟨by rw[nw];exact ndw,by simp,fun x hx y hy e=>?_⟩
   have:y=c:=by simpa using hy
   rw[e,this] at hx;exact hcw hx
  have okj:a0G H8 (c5++[(c,.ref k)]):=by
   refine⟨ndj,?_,fun x hx=>?_⟩
   ·rw[lA0,lw,wl]
    show T0.cols.length+1<=12
    omega
   ·rcases mB0.mp hx with hx |hx
    ·have hx2:x.1∈ws:=by rw[<-nw];exact mM0.mpr ⟨x,hx,rfl⟩
     rw[show x.2=vOf T0.cols x.1 by rw[<-vw x.1 hx2,a0X (by rw[nw];exact ndw) hx]];exact a2F (okc.sb B8) (pw'.mem_iff.mp hx2)
    ·rw[mS0.mp hx]
     refine⟨(a2F okz (by rw[ecz];exact List.mem_cons_self)).1,.tup [.str (a2G Tz.sort),d],?_,a5X i3 pd,?_⟩
     ·simp only[Rep,a2e]
      exact⟨k,_,rfl,k8,_,_,rfl,⟨rfl,by rcases i3 with e |e<;>rw[e]<;>decide +kernel⟩,u,[],rfl,Rep.sb B8 rd,rfl⟩
     ·simp only[a1V,a4M,nd,Bool.and_true]
  refine⟨_,rfl,_,rfl,f1,sz,T0,R.filter (nz Tz.name),T0.name,cp,_,rfl,fk8,tb8,(by rw[mN0];exact List.mem_cons_self),sb8 _ _ rfl e7,okj,fun f2 H9 sb9 fr9 tb9 fa9=>?_⟩;refine q f2 k H9 (B8.trans sb9) (fun b o nb e=>fr9 b o nb (fr8 b o nb (S7 _ _ e))) tb9 (sb9 _ _ rfl k8) (fa9.cong ?_ ?_)
  ·unfold rc
   rw[if_pos rfl]
   show(⟨T0.name,T0.sort,cnC _⟩:Tb)=⟨T0.name,T0.sort,cnC _⟩
   congr 1
   have nT:((T0.cols++[(c,V.ref k)]).map (·.1)).Nodup:=by
    rw[mA0,List.nodup_append];refine⟨okc.1,by simp,fun x hx y hy e=>?_⟩
    have:y=c:=by simpa using hy
    rw[e,this] at hx;exact dj hx
   refine a7N ?_ fun y hy=>?_
   ·rw[mA0,mA0,nw]
    exact pw'.append (.refl _)
   ·obtain⟨x,hx,rfl⟩:=mM0.mp hy
    rw[a0X ndj hx];rcases mB0.mp hx with hx |hx
    ·have hx2:x.1∈ws:=by rw[<-nw];exact mM0.mpr ⟨x,hx,rfl⟩
     obtain⟨x0,hx0,e0⟩:=mM0.mp (pw'.mem_iff.mp hx2);rw[show x.2=vOf T0.cols x.1 by rw[<-vw x.1 hx2,a0X (by rw[nw];exact ndw) hx],<-e0,a0X okc.1 hx0,a0X nT (List.mem_append_left _ hx0)]
    ·rw[a0X nT (List.mem_append_right _ hx)]
  ·have hq:∀X∈R.filter (nz Tz.name),rc T0.name (c5++[(c,V.ref k)]) X=X:=fun X hX=>if_neg fun e=>by
    have:=fk.ts.2.1
    rw[mN0,List.nodup_cons] at this;exact this.1 (by rw[<-e];exact mM0.mpr ⟨X,(mF0.mp hX).1,rfl⟩)
   rw[List.map_congr_left hq,List.map_id']
end
end My
namespace L2
open PySem PySem.Spec PyProof.Rows
theorem b2V (t:SetTable)(es:Array (Int×Value))(h:Int)(x:Value):(layNew t es h x).2.1.led=t.led:=by
 unfold layNew
 split
 ·unfold SetTable.orStandIn
  dsimp only
  split<;>rfl
 ·rfl
theorem b0C {m f mv:Nat}{a b:Bool}{hs:Array Int}{t:SetTable}{o:Array Nat}(h:SetTable.laid m f mv a b hs=some (t,o)):t.led=a/\t.plain=b:=by
 unfold SetTable.laid at h;cases e:SetTable.layClean m hs with
 |none=>rw[e] at h;cases h
 |some ow=>
  rw[e] at h
  injection h with h
  injection h with h1 h2
  rw[<-h1];exact⟨rfl,rfl⟩
theorem a9T (t:SetTable)(es:Array (Int×Value))(n:Nat):(relayAll t es n).2.1.led=t.led/\(t.plain=false->(relayAll t es n).2.1.plain=false):=by
 unfold relayAll
 split
 ·rename_i t' order e
  obtain⟨e1,e2⟩:=b0C e
  dsimp only
  split
  ·exact⟨e1,fun q=>e2.trans q⟩
  ·exact⟨rfl,fun _=>rfl⟩
 ·exact⟨rfl,fun _=>rfl⟩
def txE:Int×Value->Str
 | (_,.str z _)=>z
 |_=>""
structure b0i (P:Program) (w:World) (es:Array (Int×Value)) (t:SetTable) (zs:List Str):Prop where
 el:ElemsOf (a0n P w) es.toList
 tx:∀e∈es.toList,∃z k,e.2=.str z k
 pm:(es.toList.map txE).Perm zs
 nd:zs.Nodup
 bd:es.size<scanBound
 ft:t.fits es.size=true
 ld:w.params.followText "set-order"=false->t.led=true
 pl:es.size=0\/t.plain=false
def a5Q (P:Program)(w:World)(p:Addr)(zs:List Str)(h:Heap):Prop:=∃o es ep t,h.get? p=some o/\o.ExactSet/\o.data=.set es ep t/\b0i P w es t zs
section
variable {P:Program}{w:World}{es:Array (Int×Value)}{t:SetTable}{zs:List Str}
theorem b0i.size (h:b0i P w es t zs):es.size=zs.length:=by
 rw[<-h.pm.length_eq,lM0,aL0]
theorem b0i.mem (h:b0i P w es t zs){z:Str}:z∈zs↔∃e∈es.toList,(a0n P w).is (.inr z) e.2=true:=by
 rw[<-h.pm.mem_iff,mM0]
 constructor
 ·rintro⟨e,he,rfl⟩
  obtain⟨z,k,q⟩:=h.tx e he;refine⟨e,he,?_⟩;obtain⟨i,v⟩:=e;simp only at q;subst q;exact a3m z k
 ·rintro⟨e,he,hk⟩
  refine⟨e,he,?_⟩;obtain⟨i,v⟩:=e;have hk':a6k (.inr z) v=true:=hk;rcases a0L hk' with ⟨_,_,q,_⟩ |⟨x,k,q,e2⟩
  ·cases q
  ·subst e2
   injection q with q
   exact q.symm
theorem b0i.of (h:b0i P w es t zs):∀k:Key,((zs.map Sum.inr).any fun x=>decide (x=k))=true↔∃e∈es.toList,(a0n P w).is k e.2=true:=by
 intro k;rw[List.any_eq_true]
 constructor
 ·rintro⟨x,hx,e⟩
  rw[decide_eq_true_iff] at e;subst e;obtain⟨z,hz,rfl⟩:=mM0.mp hx;exact h.mem.mp hz
 ·rintro⟨e,he,hk⟩
  have hk':a6k k e.2=true:=hk;rcases a0L hk' with ⟨i,t,rfl,q⟩ |⟨x,t,rfl,q⟩
  ·obtain⟨z,k,q'⟩:=h.tx e he
   rw[q'] at q;cases q
  ·exact⟨.inr x,List.mem_map_of_mem (h.mem.mpr ⟨e,he,hk⟩),dT0 rfl⟩
end
theorem a5Q.keep {P:Program}{w:World}{p:Addr}{zs:List Str}{h h':Heap}(x:a5Q P w p zs h)(k:∀o,h.get? p=some o->h'.get? p=some o):a5Q P w p zs h':=by
 obtain⟨o,es,ep,t,h1,r⟩:=x;exact⟨o,es,ep,t,k _ h1,r⟩
theorem b2p {P:Program}{w:World}{H:Hp}{h:Heap}{p:Addr}{zs:List Str}(e:a5Q P w p zs h):a1h P w H h p (.ext (a5Q P w p zs)):=by
 refine⟨e,?_,fun h1 h2 x k=>x.keep k⟩;obtain⟨o,es,ep,t,ho,_⟩:=e;exact⟨o,ho⟩
def a6A (zs:List Str)(z:Str):List Str:=if z∈zs then zs else zs++[z]
section
variable {P:Program}{w:World}{A:Around}{E:Vs0}{s:Shared}{a:Addr}
theorem a6g {g:Bool->Sem Unit}(hg:∀(b:Bool) (s₁:Shared) (Q':Unit->Shared->Prop),Q' () s₁->wpAny (model P w) A (g b) Q' E s₁)
  {o:Obj} {es:Array (Int×Value)} {ep:Nat} {t:SetTable} (ho:s.heap.get? a=some o) (hex:o.ExactSet) (hd:o.data=.set es ep t)
  {es1:Array (Int×Value)} {t2:SetTable} {zs:List Str} (T:b0i P w es1 t2 zs) (np:t2.plain=false) {wasDummy:Bool} {R:Option Bool->Shared->Prop}
  (h:∀h',Heap.SameBut a s.heap h'->a5Q P w a zs h'->R (some true) { s with heap:=h' }) :
  wpAny (model P w) A (do
    storeSet a es1 t2
    if (!wasDummy&&t2.tooFull)=true then do
      g (relayAll t2 es1 (SetTable.grown es1.size)).2.2
      storeSet a (relayAll t2 es1 (SetTable.grown es1.size)).1 (relayAll t2 es1 (SetTable.grown es1.size)).2.1
      pure (some true)
     else pure (some true)) R E s:=by
 refine wB0 (wpAny_storeSet_of ho hd ?_ (fits_of_scanBound T.bd));obtain⟨ho1,_⟩:=SetOf_store (knd:=a0n P w) ho hex hd T.el T.of T.bd T.ft;have hsb1:=Heap.SameBut.update s.heap a (Obj.putSet es1 t2)
 split
 ·have hp:=relayAll_perm t2 es1 (SetTable.grown es1.size)
  have hfr:=relayAll_fits t2 es1 (SetTable.grown es1.size);have hle:=a9T t2 es1 (SetTable.grown es1.size);generalize hRl:relayAll t2 es1 (SetTable.grown es1.size)=Rl at hp hfr hle ⊢;obtain⟨es2,t3,gave2⟩:=Rl
  dsimp only at hp hfr hle ⊢
  have hsz:es2.size=es1.size:=by rw[<-aL0,hp.length_eq,aL0]
  have T2:b0i P w es2 t3 zs:=⟨T.el.perm hp,fun e he=>T.tx e (hp.mem_iff.mp he),(hp.map _).trans T.pm,T.nd,by rw[hsz];exact T.bd,hfr,fun q=>hle.1.trans (T.ld q),.inr (hle.2 np)⟩;refine wB0 (hg _ _ _ ?_);refine wB0 (wpAny_storeSet_of ho1 rfl ?_ (fits_of_scanBound T2.bd));obtain⟨ho2,_⟩:=SetOf_store (knd:=a0n P w) ho1 hex rfl T2.el T2.of T2.bd T2.ft;exact wP0 (h _ (hsb1.trans (Heap.SameBut.update _ a _)) ⟨_,_,_,_,ho2,hex,rfl,T2⟩)
 ·exact wP0 (h _ hsb1 ⟨_,_,_,_,ho1,hex,rfl,T⟩)
theorem b0X {z:Str}{tk:Tok}{zs:List Str}{Q:Bool->Shared->Prop}(hS:a5Q P w a zs s.heap)(hroom:zs.length+1<scanBound)
  (h:∀b h',Heap.SameBut a s.heap h'->a5Q P w a (a6A zs z) h'->Q b { s with heap:=h' }) :
  wpAny (model P w) A (setAddHashed a (.str z tk) ((a0n P w).hash (.inr z))) Q E s:=by
 obtain⟨o,es,ep,t,ho,hex,hd,T⟩:=hS;have hkey:(a0n P w).is (.inr z) (.str z tk)=true:=a3m z tk;have hb1:es.size+1<scanBound:=by rw[T.size];exact hroom
 unfold setAddHashed setAddHashedIn;refine wpAny_holding (wB0 (wpAny_setState_of ho hd T.ft ?_))
 dsimp only
 rw[byScan_of rfl T.bd T.el];simp only[↓reduceIte];unfold setAddByScan;refine wB0 ?_;refine wB0 (wpAny_rule ?_);refine wB0 (wpAny_setScan_of hkey ho hd T.ft T.el ?_);cases hr:List.findIdx? (fun e=>(a0n P w).is (.inr z) e.2) es.toList with
 |some j=>
  dsimp only
  obtain⟨hj,hpj,_⟩:=List.findIdx?_eq_some_iff_getElem.mp hr;have hz:z∈zs:=T.mem.mpr ⟨es.toList[j],List.getElem_mem hj,hpj⟩;refine wP0 (wP0 ?_);have e:s={ s with heap:=s.heap }:=by cases s;rfl
  rw[e];refine h _ s.heap (Heap.SameBut.refl a s.heap) ?_;unfold a6A;rw[if_pos hz];exact⟨o,es,ep,t,ho,hex,hd,T⟩
 |none=>
  dsimp only
  have hz:z∉zs:=fun q=>by
   obtain⟨e,he,hp⟩:=T.mem.mp q
   have:=List.findIdx?_eq_none_iff.mp hr e he
   rw[hp] at this;exact Bool.noConfusion this
  have hgw:∀(b:Bool) {s₁:Shared} {Q':Unit->Shared->Prop},Q' () s₁->wpAny (model P w) A (match b with |true=>rule "set.scan.the-table-gave-way" |false=>pure ()) Q' E s₁:=
   fun b s₁ Q' hq=>by cases b<;>first |exact wP0 hq |exact wpAny_rule hq
  have hperm:=layNew_perm t es ((a0n P w).hash (.inr z)) (.str z tk);have hfits:=layNew_fits t es ((a0n P w).hash (.inr z)) (.str z tk);have hled:=b2V t es ((a0n P w).hash (.inr z)) (.str z tk);generalize hL:layNew t es ((a0n P w).hash (.inr z)) (.str z tk)=L at hperm hfits hled ⊢;obtain⟨es1,t1,wasDummy,gave⟩:=L
  dsimp only at hperm hfits hled ⊢
  rw[Array.toList_push] at hperm;have hb1':es1.size<scanBound:=by rw[<-aL0,hperm.length_eq,lA0,aL0];simpa using hb1
  have ea:a6A zs z=zs++[z]:=if_neg hz;have T1:∀t2:SetTable,t2.led=t.led->t2.plain=false->t2.fits es1.size=true->b0i P w es1 t2 (a6A zs z):=fun t2 l2 p2 f2=>by
   refine⟨(T.el.push hkey rfl).perm hperm,fun e he=>?_,?_,?_,hb1',f2,fun q=>l2.trans (T.ld q),.inr p2⟩
   ·rcases mB0.mp (hperm.mem_iff.mp he) with he |he
    ·exact T.tx e he
    ·rw[mS0] at he;subst he;exact⟨z,tk,rfl⟩
   ·rw[ea]
    refine(hperm.map _).trans ?_;rw[mA0];exact T.pm.append_right _
   ·rw[ea,List.nodup_append]
    exact⟨T.nd,by simp,fun x hx y hy=>by rw[mS0] at hy;subst hy;exact fun q=>hz (q▸hx)⟩
  refine wB0 (hgw _ ?_)
  split
  ·refine wB0 ?_
   rw[hashByValue_scannable 8 rfl];refine wP0 ?_;refine a6g ?_ ho hex hd (T1 _ ?_ ?_ ?_) ?_ ?_
   ·intro b s₁ Q' hq;cases b<;>first |exact wP0 hq |exact wpAny_rule hq
   ·exact hled
   ·rfl
   ·exact SetTable.fits_plain_off hfits
   ·rfl
   ·intro h' hsb hS';dsimp only;exact wP0 (h _ h' hsb hS')
  ·rename_i np
   have np':t1.plain=false:=by revert np;cases t1.plain<;>simp
   refine wB0 (wP0 ?_);simp only[↓reduceIte];refine a6g ?_ ho hex hd (T1 _ hled np' hfits) np' ?_
   ·intro b s₁ Q' hq;cases b<;>first |exact wP0 hq |exact wpAny_rule hq
   ·intro h' hsb hS';dsimp only;exact wP0 (h _ h' hsb hS')
end
def ddZ (zs:List Str):List Str:=zs.foldl a6A []
theorem b0r (zs:List Str)(z:Str):(a6A zs z).length<=zs.length+1:=by
 unfold a6A
 split
 ·exact Nat.le_succ _
 ·simp
theorem a7K (ys:List Str):∀zs:List Str,(ys.foldl a6A zs).length<=zs.length+ys.length:=by
 induction ys with
 |nil=>intro zs;exact nR0 _
 |cons y ys ih=>
  intro zs;have h1:=ih (a6A zs y);have h2:=b0r zs y;rw[List.foldl_cons,List.length_cons]
  omega
section
variable {prog:Program}{w:World}{A:Around}{E:Vs0}{s:Shared}
theorem a5T (a:Value){Q₁:Vs0}
  (h:Q₁ (.ref s.heap.objs.size) { s with heap:=s.heap.push { cls:=.type "set",dict:=none,data:=.set #[] 0 (.fresh 0 0 (!w.params.followText "set-order")) } }) :
  codeAny (model prog w) A (.call (.builtin "set.__new__") ⟨[.type "set",a],[]⟩) (wants Q₁ E) s:=by
 refine codeAny_of_tree ?_;show wpAny _ A.in1 (do checkBuiltinCall "set.__new__" ⟨[.type "set",a],[]⟩;again (.builtin "set.__new__" ⟨[.type "set",a],[]⟩)) _ _ s;refine wB0 (wpAny_of_eq (F.newCall_set_1 a) (wP0 ⟨plainId_quiet F.plain_set_new _,codeAny_builtin F.entry_set_new ?_⟩));rw[Around.under_plainId F.plain_set_new _];unfold Builtin.«set.__new__» Builtin.Frozenset.newClass;have hsub:=sub_set_self;obtain⟨hp,g,d,tk,os⟩:=s
 dsimp only
 wp_walk
 refine wpAny_askSetting (wP0 ?_)
 dsimp only
 simp only[newObj];refine wB0 (wpAny_alloc (wP0 ?_));exact wP0 h
end
section
variable {P:Program}{w:World}{A:Around}{R:Result->Shared->Prop}{I:Addr}{fp wr:List Addr}{G:Array GenState->Array GenState->Prop}{n:Nat}{PV:Nat->Value->Prop}{St:Nat->Shared->Prop}
theorem a8R (W:WalksS P w A.in1 I fp wr G n PV St)(a:Addr)(haf:a∉fp)(ks:List Str)(hn:ks.length=n)(hv:∀i v,PV i v->∀k,ks[i]? =some k->∃t,v=.str k t)(hb:ks.length+1<scanBound) :
  ∀(m i:Nat) (s:Shared),m=n-i->i<=n->St i s->a5Q P w a ((ks.take i).foldl a6A []) s.heap →
   (∀s',Moved (a::wr) G s s'->a5Q P w a (ddZ ks) s'.heap->R (.ok (.ret .none)) s')->codeAny (model P w) A (.builtin "set.update.loop" ⟨[.ref a,.ref I],[]⟩) R s:=by
 have haw:a∉wr:=fun h=>haf (W.sub _ h);have sub:∀b∈wr,b∈a::wr:=fun b hb=>mL0 _ hb;have keep:∀{s s':Shared} {zs:List Str},Moved wr G s s'->a5Q P w a zs s.heap->a5Q P w a zs s'.heap:=fun hm hS=>hS.keep fun o ho=>hm.heap a _ haw ho;intro m
 induction m with
 |zero=>
  intro i s hm hi st hS hR;have ei:i=n:=by omega
  subst ei;refine codeAny_builtin F.entry_set_update_loop ?_;rw[Around.under_plainId F.plain_set_update_loop _];refine wB0 (W.done s _ _ st fun s' mv=>?_);refine wP0 (hR s' (mv.mono sub) ?_)
  have:=keep mv hS
  rw[List.take_of_length_le (by omega)] at this;exact this
 |succ m ih=>
  intro i s hm hi st hS hR;have hlt:i<n:=by omega
  have hlk:i<ks.length:=by omega
  refine codeAny_builtin F.entry_set_update_loop ?_;rw[Around.under_plainId F.plain_set_update_loop _];refine wB0 (W.item i s _ _ hlt st fun v s' hp st' mv=>?_);obtain⟨tz,rfl⟩:=hv i v hp ks[i] (gE0 hlk);refine wB0 (wpAny_holding ?_);unfold setAdd;refine wpAny_holding (wB0 ((a0n P w).pyHash (k:=.inr ks[i]) (show(a0n P w).is (.inr ks[i]) (.str ks[i] tz)=true from a3m ks[i] tz) ?_));have hS1:=keep mv hS;have hln:=a7K (ks.take i) [];have hlt2:(ks.take i).length<=i:=by rw[List.length_take];exact Nat.min_le_left _ _
  refine b0X (s:={ s' with toks:=s'.toks+1 }) hS1 (by simp only[List.length_nil] at hln;omega) fun b h' sb hS'=>?_;have eS:a6A ((ks.take i).foldl a6A []) ks[i]=(ks.take (i+1)).foldl a6A []:=by
   rw[List.take_add_one,gE0 hlk,List.foldl_append]
   rfl
  rw[eS] at hS';refine wP0 ⟨plainId_quiet F.plain_set_update_loop _,ih (i+1) _ (by omega) hlt (W.frame _ s' _ _ st' (Nat.le_succ _) fun b hb o e=>?_) hS' fun s'' mv2 hS2=>?_⟩
  ·rw[sb.2 b (fun q:b=a=>haf (by rw[<-q];exact hb))]
   exact e
  ·refine hR s'' (Moved.trans W.gtrans ((mv.mono sub).then_heap (Nat.le_succ _) fun b o hb e=>?_) mv2) hS2
   rw[sb.2 b (fun q:b=a=>hb (by rw[q];exact List.mem_cons_self))];exact e
end
section
variable {P:Program}{w:World}{A:Around}{s:Shared}{E:Vs0}
theorem a5r {l:Addr}{items:Array Value}{ks:List Str}{Q:Vs0}(hh:A.handled=none)(hl:s.heap.IsTuple l items)(hn:ks.length=items.size)(hk:∀(i:Nat) (v:Value) (k:Str),items[i]? =some v->ks[i]? =some k->∃t,v=.str k t)(hb:ks.length<=1000)
  (h:∀(h':Heap) (tk:Nat),a5Q P w s.heap.objs.size (ddZ ks) h'->(∀b o,s.heap.get? b=some o->h'.get? b=some o)->Q (.ref s.heap.objs.size) { s with heap:=h',toks:=tk }) :
  wpAny (model P w) A (call (.type "set") [.ref l]) Q E s:=by
 obtain⟨c,tl,hmro⟩:=F.called_set.mro;have hmade:=F.called_set.made;have hsub:=F.called_set.sub;have q1:=F.called_set.notType;have q2:=F.called_set.canCreate;have q3:=F.typeCall_set_1 (.ref l);refine wpAny_call (codeAny_of_tree ?_);show wpAny _ _ (callAny (.type "set") ⟨[.ref l],[]⟩) _ _ s;refine wP0 ⟨Code.quiet_builtin _ (by decide +kernel),codeAny_builtin F.entry_type_call ?_⟩;rw[Around.under_plain (weight_type_call_type "set" [.ref l] []) rfl]
 repeat (any_goals (first |assumption |wp_step))
 refine codeAny_mono (a5T (.ref l) (E:=E) (Q₁:=fun v s1=>v=.ref s.heap.objs.size/\s1={ s with heap:=s.heap.push { cls:=.type "set",dict:=none,data:=.set #[] 0 (.fresh 0 0 (!w.params.followText "set-order")) } }) ⟨rfl,rfl⟩) fun r s1 hr=>?_
 match r,hr with
 | .error e,hr=>exact hr
 | .ok (.next),hr=>exact hr.elim
 | .ok (.brk),hr=>exact hr.elim
 | .ok (.cont),hr=>exact hr.elim
 | .ok (.ret v),hr=>
  obtain⟨rfl,rfl⟩:=hr;generalize el:(!w.params.followText "set-order")=led;have hS:(s.heap.push { cls:=.type "set",dict:=none,data:=.set #[] 0 (.fresh 0 0 led) }).get? s.heap.objs.size=some { cls:=.type "set",dict:=none,data:=.set #[] 0 (.fresh 0 0 led) }:=hS0 _ rfl;generalize eh:s.heap.push { cls:=.type "set",dict:=none,data:=.set #[] 0 (.fresh 0 0 led) }=h1 at hS ⊢;have k1:∀b o,s.heap.get? b=some o->h1.get? b=some o:=fun b o e=>by rw[<-eh];exact hP0 _ e
  have z1:s.heap.objs.size<h1.objs.size:=by rw[<-eh,Heap.size_push];exact Nat.lt_succ_self _
  have hT:Shared.TypeIs { s with heap:=h1 } (.ref s.heap.objs.size) "set":=⟨_,hS,rfl⟩;have i1:=F.called_set.init.lookup;have i2:=F.called_set.init.bind (.ref s.heap.objs.size)
  repeat (any_goals (first |assumption |wp_step))
  refine codeAny_mono (codeAny_call_builtin (R:=wants (fun r s2=>r=.none/\∃h' tk,s2={ s with heap:=h',toks:=tk }/\a5Q P w s.heap.objs.size (ddZ ks) h'/\∀b o,s.heap.get? b=some o->h'.get? b=some o) E) F.called_set.init.plain F.entry_set_init (check_set_init_1 hT ?_)) fun r2 s2 hr2=>?_
  ·have hl0:=hl
   obtain⟨ol,o1,o2,nl,o3⟩:=hl;have o1':=k1 _ _ o1;have hlS:l<s.heap.objs.size:=hL0 o1;obtain⟨ocls,odict,odata,oslots⟩:=ol;simp only at o2 o3;subst o2 o3;have t1:=F.sub_tuple_set;have t2:=F.sub_tuple_frozenset;have t3:(Value.type "tuple"==Value.type "dict")=false:=by decide
   have hl1:h1.IsTuple l items:=⟨_,o1',rfl,nl,rfl⟩;unfold Builtin.«set.__init__» noKeywords Builtin.Frozenset.updateFrom;generalize eI:pyIter=IT
   wp_walk
   subst eI;refine wpAny_pyIter_tuple hl1 (wB0 (wpAny_runValue ?_));have hIl:l≠h1.objs.size:=nL0 (Nat.lt_trans hlS z1);refine a8R ((Walks.tuple (by simp[hh]) _ l hIl items).toS) s.heap.objs.size ?_ ks hn (fun i v hp k hik=>hk i v k hp hik) (by unfold scanBound;omega) (items.size-0) 0 _ rfl (zL0 _) ⟨⟨_,hS0 _ rfl,rfl,rfl⟩,hl1.push _⟩ ?_ fun s' mv hS'=>?_
   ·simp only[mK0,List.not_mem_nil,or_false,not_or]
    exact⟨nL0 z1,Nat.ne_of_gt hlS⟩
   ·exact⟨_,#[],0,_,hP0 _ hS,⟨rfl,rfl,rfl⟩,rfl,fun e he=>by simp at he,fun e he=>by simp at he,by simp,List.nodup_nil,by decide,rfl,fun q=>by show led=true;rw[<-el,q];rfl,.inl rfl⟩
   ·obtain⟨h',g',d',tk',os'⟩:=s'
    have e1:g'=s.gens:=mv.gens;have e2:d'=s.drawn:=mv.drawn;have e3:os'=s.os:=mv.os;subst e1 e2 e3;refine wP0 (wP0 ⟨rfl,h',tk',rfl,hS',fun b o e=>mv.heap b o ?_ (hP0 _ (k1 b o e))⟩);have lb:=hL0 e;simp only[mK0,List.not_mem_nil,or_false,not_or];exact⟨nL0 lb,nL0 (Nat.lt_trans lb z1)⟩
  ·match r2,hr2 with
   | .error e,hr2=>exact hr2
   | .ok (.next),hr2=>exact hr2.elim
   | .ok (.brk),hr2=>exact hr2.elim
   | .ok (.cont),hr2=>exact hr2.elim
   | .ok (.ret v),hr2=>
    obtain⟨rfl,h',tk,rfl,hSn,kp⟩:=hr2
    repeat (any_goals (first |assumption |wp_step))
    exact h h' tk hSn kp
end
section
variable {X:Cx}
theorem a8r (hc:X.calm=true):a1u X (.type "set") (fun xs H Q=>∃(a:Addr) (zs:List Str),xs=[.ref a]/\SqT X.K H a (zs.map V.str)/\zs.length<=1000/\∀p,H p=none->Q (.ref p) (upd H p (.ext (a5Q X.prog X.w p (ddZ zs))))):=by
 intro pins s σ H xs us Q I r h;obtain⟨a,zs,rfl,hq,hl,q⟩:=h;obtain⟨u,rfl,rx⟩:=a2o r;cases rx;obtain⟨its,rv,pl,hz⟩:=I.tuple hq;have hlen:its.length=zs.length:=by
  have:=rv.length
  rw[lM0] at this;exact this.symm
 refine a5r (ks:=zs) (I.ok.hd hc) pl (by rw[List.size_toArray];exact hlen.symm) (fun i v k hv hk=>?_) hl fun h' tk hS kp=>?_
 ·obtain⟨u,hu,ru⟩:=rv.get (show(zs.map V.str)[i]? =some (V.str k) by rw[gM0,hk];rfl)
  have hv':its[i]? =some v:=by simpa using hv
  rw[hv'] at hu;cases hu;exact ru
 ·exact⟨.ref s.heap.objs.size,_,I.laid (a:=s.heap.objs.size) (t':=tk) kp (nR0 _) (b2p hS),rfl,q _ (I.hok.fresh (nR0 _))⟩
theorem a9S:a1u X (.builtin "len") (fun xs H Q=>∃(a:Addr) (zs:List Str),xs=[.ref a]/\H a=some (.ext (a5Q X.prog X.w a zs))/\Q (.int zs.length) H):=by
 intro pins s σ H xs us Q I r h;obtain⟨a,zs,rfl,ea,q⟩:=h;obtain⟨u,rfl,rx⟩:=a2o r;cases rx;obtain⟨hS,_⟩:=I.hok a _ ea;obtain⟨o,es,ep,t,h1,h2,h3,h4⟩:=hS;have hb:es.size<2 ^ 40:=Nat.lt_of_lt_of_le h4.bd (by unfold scanBound;decide);refine call_len_set h1 h2 h3 h4.ft (by omega) ⟨.int zs.length,H,(I.tok _).tok _,⟨_,by rw[h4.size]⟩,q⟩
end
theorem a9a:∀(ys acc:List Str),(ys.foldl a6A acc).length=acc.length+ys.length↔ys.Nodup/\∀y∈ys,y∉acc
 |[],acc=>⟨fun _=>⟨List.nodup_nil,fun y h=>nomatch h⟩,fun _=>rfl⟩
 |y::ys,acc=>by
  rw[List.foldl_cons,List.length_cons]
  by_cases h:y∈acc
  ·have h1:a6A acc y=acc:=if_pos h
   have h2:=a7K ys acc;rw[h1];exact⟨fun e=>by omega,fun e=>absurd h (e.2 y List.mem_cons_self)⟩
  ·have h1:a6A acc y=acc++[y]:=if_neg h
   have ih:=a9a ys (acc++[y]);rw[lA0,List.length_singleton] at ih;rw[h1,show acc.length+(ys.length+1)=acc.length+1+ys.length by omega,ih,List.nodup_cons]
   constructor
   ·rintro⟨a,b⟩
    refine⟨⟨fun hy=>b y hy (List.mem_append_right _ List.mem_cons_self),a⟩,fun z hz=>?_⟩;rcases mK0.mp hz with rfl |hz
    ·exact h
    ·exact fun hm=>b z hz (List.mem_append_left _ hm)
   ·rintro⟨⟨a,b⟩,c⟩
    refine⟨b,fun z hz hm=>?_⟩;rcases mB0.mp hm with hm |hm
    ·exact c z (mL0 _ hz) hm
    ·rw[mS0.mp hm] at hz
     exact a hz
theorem b0I (zs:List Str):(ddZ zs).length=zs.length↔zs.Nodup:=by
 have:=a9a zs []
 rw[List.length_nil,Nat.zero_add] at this;unfold ddZ;rw[this];exact⟨fun h=>h.1,fun h=>⟨h,fun y _ h=>nomatch h⟩⟩
end L2
namespace My
open PySem L2 PyProof.Rows
seal L2.PE L2.PT L2.PW L2.PS L2.PSs L2.PA L2.PI L2.PG L2.PGs L2.OpR L2.UnR L2.a1u L2.IxR L2.SlR L2.MtR L2.PIf L2.PO L2.MtM L2.PC
def b0j (z:Str)(t:Addr):List (Str×V):=a3t "columns" (.ref t) (a3t "side" (.str z) [])
theorem a1x (z:Str)(t:Addr):(b0j z t).lookup ("columns":Str)=some (.ref t):=by
 unfold b0j;rw[a0Y,if_pos rfl]
theorem a1R (z:Str)(t:Addr):(b0j z t).lookup ("side":Str)=some (.str z):=by
 unfold b0j;rw[a0Y,if_neg (by decide +kernel),a0Y,if_pos rfl]
theorem a2K (z:Str)(t:Addr){m:Str}(h1:¬m="columns")(h2:¬m="side"):(b0j z t).lookup m=none:=by
 unfold b0j;rw[a0Y,if_neg h1,a0Y,if_neg h2]
 rfl
structure ClV (K:Fg0) (CC:Addr):Prop where
 cl:Cls K CC
 nS:a2q K CC "side"
 nC:a2q K CC "columns"
structure CvC (CC:Addr) (H:Hp) (a:Addr) (z:Str) (t:Addr) (zs:List Str):Prop where
 ex:∃dx,H a=some (.ins CC dx (b0j z t))
 t:H t=some (.tup (zs.map V.str))
theorem CvC.same {CC:Addr}{H H':Hp}{a t:Addr}{z:Str}{zs:List Str}(h:CvC CC H a z t zs)(s:a0r H H'):CvC CC H' a z t zs:=⟨let ⟨dx,e⟩:=h.ex;⟨dx,s _ _ e⟩,s _ _ h.t⟩
def a7j (CC:Addr):Sp:=fun vs H Q _=>∃(a dx l:Addr) (z:Str) (cs:List Str),vs=[.ref a,.str z,.ref l]/\H a=some (.ins CC dx [])/\H l=some (.lst (cs.map V.str))/\cs.length<64/\∀t zs H',zs.Perm cs->sortedS zs=true->(∀b o,b≠a->H b=some o->H' b=some o)->H' a=some (.ins CC dx (b0j z t))->H' t=some (.tup (zs.map V.str))->Q .non H'
def a6U (CC:Addr):Sp:=fun vs H Q _=>∃(a t:Addr) (z:Str) (zs:List Str),vs=[.ref a]/\CvC CC H a z t zs/\zs.length<=12/\∀H',a0r H H'->Q (.bl (decide zs.Nodup)) H'
section
variable {P:Program}{w:World}{K:Fg0}{mg:Str->Option Value}{base:Heap}{CC PF:Addr}
theorem a7u {f:Addr}{fd:FuncData}(F:Fun K "__init__" "Cleave.__init__" (a0w (top 41) 0) f fd)(B:Bl mg)(T:ClV K CC):a0x P w K mg base CX0 1 f fd ["self","side","columns"] (a7j CC):=by
 have sc:a0o ["self","side","columns"] ["self","side","columns"] (a0f (a0w (top 41) 0)):=.k (by decide +kernel);refine F.ok sc (fun vs H Q E h=>?_) (fun cdv A outer s H vs Q E hr h=>?_)
 ·obtain⟨a,dx,l,z,cs,rfl,_⟩:=h
  rfl
 ·obtain⟨a,dx,l,z,cs,rfl,ha,hl,h64,q⟩:=h
  refine⟨_,a0c (a7M (pv 0) (pv 1) rfl) (a0h (a7M (pv 0) (a0V a2w (by rfl) B.tuple boot_tuple (a0a (a0k a6S (by rfl) B.sorted boot_sorted (a0a (pv 2) a0b)) a0b)) rfl)),?_⟩;refine⟨_,rfl,_,rfl,a,CC,dx,[],rfl,ha,T.cl,T.nS,(by show 0<1000;decide),?_⟩;have nal:l≠a:=fun e=>by rw[e,ha] at hl;cases hl
  have a1:(upd H a (.ins CC dx (a3t "side" (.str z) []))) a=some (.ins CC dx (a3t "side" (.str z) [])):=a0d;have k1:∀b o,b≠a->H b=some o->(upd H a (.ins CC dx (a3t "side" (.str z) []))) b=some o:=fun b o nb e=>(a0g nb).trans e;generalize upd H a (.ins CC dx (a3t "side" (.str z) []))=H1 at *;refine⟨_,rfl,l,cs,rfl,SqL.of (k1 _ _ nal hl),h64,fun l2 ys hl2 yp yso=>?_⟩;generalize hX:upd H1 l2 _=H2;obtain⟨T2,e2⟩:=gz hX hl2;refine⟨l2,_,rfl,.inl ⟨SqL.of e2,fun t ht=>?_⟩⟩;generalize hX:upd H2 t _=H3;obtain⟨T3,e3⟩:=gz hX ht;have S13:=T2.trans T3;have nta:t≠a:=fun e=>by rw[e,S13 _ _ a1] at e3;cases e3
  refine⟨_,rfl,a,CC,dx,_,rfl,S13 _ _ a1,T.cl,T.nC,?_,?_⟩
  ·have:=a2A "side" (.str z) []
   simp only[List.length_nil] at this
   omega
  ·exact q t ys _ yp yso (fun b o nb e=>(a0g nb).trans (S13 _ _ (k1 b o nb e))) a0d ((a0g nta).trans e3)
theorem b0Q {f:Addr}{fd:FuncData}(F:Fun K "tells_none_twice" "Cleave.tells_none_twice" (a0w (top 41) 3) f fd)(B:Bl mg)(T:ClV K CC):a0x P w K mg base CX0 1 f fd ["self"] (a6U CC):=by
 have sc:a0o ["self"] ["self"] (a0f (a0w (top 41) 3)):=.k (by decide +kernel);refine F.ok sc (fun vs H Q E h=>?_) (fun cdv A outer s H vs Q E hr h=>?_)
 ·obtain⟨a,t,z,zs,rfl,_⟩:=h
  rfl
 ·obtain⟨a,t,z,zs,rfl,⟨⟨dx,ha⟩,ht⟩,l12,q⟩:=h
  refine⟨_,a0h (a0z (a0Q a1k (a0k a9S (by rfl) B.len PySem.boot_len (a0a (a0V (a8r rfl) (by rfl) B.set boot_set (a0a (a0M (pv 0) rfl) a0b)) a0b)) (a0k a0W (by rfl) B.len PySem.boot_len (a0a (a0M (pv 0) rfl) a0b)) (a0u _))),?_⟩;refine⟨_,rfl,a,CC,dx,_,_,rfl,ha,T.cl,T.nC,a1x _ _,t,zs,rfl,SqT.of ht,(by omega),fun p hp=>?_⟩;have T1:=a0r.upd (o:=.ext (a5Q P w p (ddZ zs))) hp;refine⟨p,_,rfl,a0d,_,rfl,a,CC,dx,_,_,rfl,T1 _ _ ha,T.cl,T.nC,a1x _ _,t,_,rfl,.inr (SqT.of (T1 _ _ ht)),rfl,?_⟩;have e2:decide (V.int ((ddZ zs).length:Nat)=V.int ((zs.map V.str).length:Nat))=decide zs.Nodup:=by
   rw[lM0,decide_eq_decide,<-b0I zs];exact⟨fun h=>by injection h with h;omega,fun h=>by rw[h]⟩
  rw[e2];exact q _ T1
def lf (c:List (Str×V))(zs:List Str):List (Str×V):=c.filter fun x=>decide (x.1∉zs)
def rt (c:List (Str×V))(zs:List Str):List (Str×V):=zs.map fun z=>(z,vOf c z)
theorem CvC.sb {CC:Addr}{H H':Hp}{a t:Addr}{z:Str}{zs:List Str}(h:CvC CC H a z t zs)(s:Sb H H'):CvC CC H' a z t zs:=⟨let ⟨dx,e⟩:=h.ex;⟨dx,s _ _ rfl e⟩,s _ _ rfl h.t⟩
theorem a7n (c:List (Str×V))(zs:List Str):(rt c zs).map (·.1)=zs:=by
 unfold rt;rw[mC0];exact List.map_id' _
theorem a3R (c:List (Str×V))(zs:List Str):(lf c zs).map (·.1)=(c.map (·.1)).filter fun z=>decide (z∉zs):=by
 unfold lf;rw[List.filter_map]
 rfl
theorem b5O {c c1:List (Str×V)}(nd:(c.map (·.1)).Nodup)(p:(c1.map (·.1)).Perm (c.map (·.1)))(h:∀z∈c1.map (·.1),vOf c1 z=vOf c z)(zs:List Str):cnC (lf c1 zs)=cnC (lf c zs):=by
 have nd1:(c1.map (·.1)).Nodup:=p.nodup_iff.mpr nd;have v1:∀{d:List (Str×V)},(d.map (·.1)).Nodup->∀z∈(lf d zs).map (·.1),vOf (lf d zs) z=vOf d z:=fun {d} nd z hz=>by
  obtain⟨x,hx,rfl⟩:=mM0.mp hz;have hn:((lf d zs).map (·.1)).Nodup:=nd.sublist (List.filter_sublist.map _);rw[a0X hn hx,a0X nd (mF0.mp hx).1]
 have pp:((lf c1 zs).map (·.1)).Perm ((lf c zs).map (·.1)):=by
  rw[a3R,a3R];exact p.filter _
 refine a7N pp fun z hz=>?_;rw[v1 nd1 z hz,v1 nd z (pp.mem_iff.mp hz)];rw[a3R] at hz;exact h z (mF0.mp hz).1
theorem b5a {c c1:List (Str×V)}{zs:List Str}(h:∀z∈zs,vOf c1 z=vOf c z):rt c1 zs=rt c zs:=by
 unfold rt;exact List.map_congr_left fun z hz=>by rw[h z hz]
def a2R (CC PF:Addr):Sp:=fun vs H Q _=>∃(a f t:Addr) (z:Str) (zs:List Str) (sz:Int) (T0:Tb) (R:List Tb),vs=[.ref a,.ref f]/\CvC CC H a z t zs/\FK H f sz T0 R/\a1O PF a2j foQ H/\a0T z=true/\z∉(T0::R).map (·.name)/\R.length<=5/\zs.Nodup/\zs.length<=12/\(∀y∈zs,y∈T0.cols.map (·.1)) ∧
 ∀f' H',Sb H H'->Fr PF H H'->a1O PF a2j foQ H'->FAt H' f' sz ⟨T0.name,T0.sort,lf T0.cols zs⟩ (R++[⟨z,"twin",rt T0.cols zs⟩])->Q (.ref f') H'
structure Fmv (P:Program) (w:World) (K:Fg0) (mg:Str->Option Value) (base:Heap) (PF fS fH fC fF fW fO fT fP:Addr) (fdS fdH fdC fdF fdW fdO fdT fdP:FuncData):Prop where
 DS:Df K mg "ask_new_side" (top 42) fS fdS
 GS:a0x P w K mg base CX0 2 fS fdS ["form","side"] a4l
 DH:Df K mg "head_of" (top 24) fH fdH
 DC:Df K mg "columns_of" (top 26) fC fdC
 GC:a0x P w K mg base CX0 2 fC fdC ["form","table"] a1G
 DF:Df K mg "ask_fit" (top 34) fF fdF
 DW:Df K mg "with_columns" (top 29) fW fdW
 GW:a0x P w K mg base CX0 7 fW fdW ["form","table","columns"] (a4d PF)
 DO:Df K mg "without" (top 44) fO fdO
 GO:a0x P w K mg base CX0 2 fO fdO ["row","columns"] b4c
 DT:Df K mg "with_table" (top 30) fT fdT
 GT:a0x P w K mg base CX0 7 fT fdT ["form","name","sort","columns"] (a6J PF)
 DP:Df K mg "picked" (top 43) fP fdP
theorem b0g {f fS fH fC fF fW fO fT fP f3:Addr}{fd fdS fdH fdC fdF fdW fdO fdT fdP fd3:FuncData}(F:Fun K "after" "Cleave.after" (a0w (top 41) 1) f fd)(B:Bl mg)(T:ClV K CC)(M:Fmv P w K mg base PF fS fH fC fF fW fO fT fP fdS fdH fdC fdF fdW fdO fdT fdP)(m3:a6C K CC "tells_none_twice" f3)(g3:a0x P w K mg base CX0 1 f3 fd3 ["self"] (a6U CC))(b3:a1C K fd3 ["self"] []) :
  a0x P w K mg base CX0 8 f fd ["self","form"] (a2R CC PF):=by
 have sc:a0o ["self","form","head","columns","lesser"] ["self","form"] (a0f (a0w (top 41) 1)):=.k (by decide +kernel);have GH:a0x P w K mg base CX0 1 fH fdH ["form"] a3n:=a2M M.DH.fn;have GF:a0x P w K mg base CX0 1 fF fdF ["fine"] a6T:=a4R M.DF.fn;have GP:a0x P w K mg base CX0 1 fP fdP ["row","columns"] a7q:=a9h M.DP.fn B;have bS:=M.DS.fn.b2 "form" "side" (by intros;rfl);have bH:=M.DH.fn.b1 "form" (by intros;rfl);have bC:=M.DC.fn.b2 "form" "table" (by intros;rfl);have bF:=M.DF.fn.b1 "fine" (by intros;rfl);have bW:=M.DW.fn.b3 "form" "table" "columns" (by intros;rfl);have bO:=M.DO.fn.b2 "row" "columns" (by intros;rfl);have bT:=M.DT.fn.b4 "form" "name" "sort" "columns" (by intros;rfl);have bP:=M.DP.fn.b2 "row" "columns" (by intros;rfl);refine F.ok sc (fun vs H Q E h=>?_) (fun cdv A outer s H vs Q E hr h=>?_)
 ·obtain⟨a,f,t,z,zs,sz,T0,R,rfl,_⟩:=h
  rfl
 ·obtain⟨a,f,t,z,zs,sz,T0,R,rfl,cv,fk,tab,hn,hz,r5,nd,l12,hzs,q⟩:=h
  have hu:=a2s hr;have hr1:a1g 1 _:=hr.mono (by decide);have hr2:a1g 2 _:=hr.mono (by decide);refine⟨_,a0c (a0F (a0i M.GS hr2 (by rfl) M.DS.mg M.DS.fn.kp bS .nil a0q (a0a (pv 1) (a0a (a0M (pv 0) rfl) a0b))))
   (a0c (a0p (i:=2) sc.nd rfl (Or.inl rfl) (a0i GH hr1 (by rfl) M.DH.mg M.DH.fn.kp bH .nil a0q (a0a (pv 1) a0b)))
   (a0c (a0p (i:=3) sc.nd rfl (Or.inr rfl) (a0i M.GC hr2 (by rfl) M.DC.mg M.DC.fn.kp bC .nil a0q (a0a (pv 1) (a0a (pv 2) a0b))))
   (a0c (a0F (a0i GF hr1 (by rfl) M.DF.mg M.DF.fn.kp bF .nil a0q (a0a (a1y (a7F (pv 0) T.cl m3 g3 hr1 b3 .nil a0q) (a1M (a0k (a5s rfl) (by rfl) B.all boot_all (a0a (a1T (osc:=a0f (a0w (top 41) 1)) (N0:=["self","form","head","columns","lesser"]) (xs:=["column"]) (fr:=[3]) ⟨rfl,by decide +kernel,by decide +kernel,by decide +kernel,(fun j hj=>by
       have e:j=3:=by simpa using hj
       subst e;exact⟨_,rfl,by decide +kernel⟩),by decide +kernel⟩ rfl rfl rfl (a3p (a0M (pv 0) rfl))
      (fun s H fp=>a0E (i:=0) (show(["column","columns"]:List Str).Nodup by decide +kernel) rfl (Or.inl rfl)) (fun s H fp=>a1U)
      (fun s H fp=>a3E (a4I hu (pv 0) (pv 1)))) a0b)))) a0b)))
   (a0c (a0p (i:=4) sc.nd rfl (Or.inl rfl) (a0i M.GW hr (by rfl) M.DW.mg M.DW.fn.kp bW .nil a0q (a0a (pv 1) (a0a (pv 2) (a0a (a0i M.GO hr2 (by rfl) M.DO.mg M.DO.fn.kp bO .nil a0q (a0a (pv 3) (a0a (a0M (pv 0) rfl) a0b))) a0b)))))
   (a0h (a0z (a0i M.GT hr (by rfl) M.DT.mg M.DT.fn.kp bT .nil a0q (a0a (pv 4) (a0a (a0M (pv 0) rfl) (a0a a0v (a0a (a0i GP hr1 (by rfl) M.DP.mg M.DP.fn.kp bP .nil a0q (a0a (pv 3) (a0a (a0M (pv 0) rfl) a0b))) a0b))))))))))),?_⟩
  obtain⟨U,hF,hU,fx,co,t8,tsU,eU⟩:=fk.get;have pN:=a1Y (T0:=T0) hU;obtain⟨dx,ha⟩:=cv.ex;have ht:=cv.t;have okc:=fk.co T0 List.mem_cons_self;refine⟨_,rfl,_,rfl,a,CC,dx,_,_,rfl,ha,T.cl,T.nS,a1R _ _,f,sz,cn T0::U,z,rfl,hF,t8,hn,(fun h=>hz (pN.mem_iff.mp h)),fun H1 s1=>?_⟩;refine⟨_,rfl,f,sz,cn T0,U,rfl,hF.same s1,?_⟩;refine⟨_,rfl,_,rfl,f,sz,cn T0::U,cn T0,rfl,hF.same s1,tsU.2.1,List.mem_cons_self,okc.cn.1,okc.cn.2.1,fun cp H2 ys hcp s2 py _ ecp=>?_⟩;have S2:=s1.trans s2;have py':ys.Perm (T0.cols.map (·.1)):=py.trans (by rw[show(cn T0).cols=cnC T0.cols from rfl,a0S];exact a0J _);have ecp':H2 cp=some (.dK (kvC (ys.map fun z=>(z,vOf (cn T0).cols z)))):=by rw[a2d];exact ecp
  have nc:((ys.map fun z=>(z,vOf (cn T0).cols z)).map (·.1))=ys:=by rw[mC0];exact List.map_id' _
  have vc:∀y∈ys,vOf (ys.map fun z=>(z,vOf (cn T0).cols z)) y=vOf T0.cols y:=fun y hy=>by
   rw[a5c hy];exact a2D (py'.mem_iff.mp hy)
  have ndy:ys.Nodup:=py'.nodup_iff.mpr okc.1;have yl:ys.length<=12:=by rw[py'.length_eq,lM0];exact okc.2.1
  have lc1:(ys.map fun z=>(z,vOf (cn T0).cols z)).length=ys.length:=lM0 ..;generalize ys.map (fun z=>(z,vOf (cn T0).cols z))=c1 at *;have hzc:∀y∈zs,y∈c1.map (·.1):=fun y hy=>by rw[nc];exact py'.mem_iff.mpr (hzs y hy)
  refine⟨_,rfl,a,dx,_,rfl,S2 _ _ ha,a2K _ _ (by decide +kernel) (by decide +kernel),a,t,z,zs,rfl,cv.same S2,l12,fun H3 s3=>⟨_,rfl,a6B (dT0 nd) ?_⟩⟩;have S3:=S2.trans s3;refine⟨_,rfl,a,CC,dx,_,_,rfl,S3 _ _ ha,T.cl,T.nC,a1x _ _,t,rfl,⟨_,SqT.of (S3 _ _ ht)⟩,fun D hD=>?_⟩;have cp3:=s3 _ _ ecp';refine a1Q zs.length (fun i ys' σ' Hc=>(∃u,σ'=[u,some (.ref cp)])/\a0r H3 Hc/\ys'=(List.replicate i true).map V.bl) (by rw[sizeLine_eq];omega) ⟨⟨none,rfl⟩,a0r.upd hD,rfl⟩ a0d ?_ ?_
  ·rintro i σ' Hc ys' hi ⟨⟨u,rfl⟩,sm,rfl⟩ hyl hD'
   refine⟨⟨_,V.str zs[i],SqT.of (sm _ _ (S3 _ _ ht)),by rw[gM0,gE0 hi];rfl⟩,?_⟩;rintro x H' ⟨rfl,hx'⟩;have ex:=hx' _ (SqT.of (sm _ _ (S3 _ _ ht)));rw[gM0,gE0 hi] at ex;cases ex;refine⟨_,rfl,_,rfl,cp,_,rfl,.inl ⟨_,.inr zs[i],.inl (sm _ _ cp3),rfl,(a4q (hzc _ (List.getElem_mem hi))).symm⟩,hD',⟨_,rfl⟩,sm.put hD,?_⟩;rw[List.replicate_succ',mA0]
   rfl
  ·rintro σ' Hc ys' ⟨_,sm,rfl⟩ hDn hyl
   refine⟨⟨_,SqT.of (sm _ _ (S3 _ _ ht)),by rw[lM0];exact nR0 _⟩,D,_,rfl,SqL.of hDn,?_,?_⟩
   ·show[V.bl ((List.replicate zs.length true).all id)]=[V.bl true]
    rw[List.all_eq_true.mpr fun b hb=>by rw[List.eq_of_mem_replicate hb];rfl]
   have Sc:=S3.trans sm;have cpc:=sm _ _ cp3;have fkc:=fk.sb Sc.sb;refine⟨_,rfl,_,rfl,_,rfl,_,rfl,a,CC,dx,_,_,rfl,Sc _ _ ha,T.cl,T.nC,a1x _ _,cp,t,c1,zs,rfl,cpc,Sc _ _ ht,nd,hzc,fun p H4 s4 _ ep=>?_⟩;have S4:=Sc.trans s4;have fk4:=fk.sb S4.sb;have ok4:a0G H4 T0.cols:=okc.same S4;have nlf:((lf c1 zs).map (·.1)).Nodup:=by
    rw[a3R,nc];exact ndy.sublist List.filter_sublist
   have okl:a0G H4 (lf c1 zs):=ok4.of nlf (Nat.le_trans (List.length_filter_le _ _) (by rw[lc1];exact yl)) fun x hx=>by
    have hx1:=(mF0.mp hx).1;have hx2:x.1∈ys:=by rw[<-nc];exact mM0.mpr ⟨x,hx1,rfl⟩
    exact⟨py'.mem_iff.mp hx2,by rw[<-vc x.1 hx2,a0X (by rw[nc];exact ndy) hx1]⟩
   refine⟨f,sz,T0,R,T0.name,p,lf c1 zs,rfl,fk4,tab.same S4,(by rw[mN0];exact List.mem_cons_self),ep,okl,fun f1 H5 sb5 fr5 tb5 fa5=>?_⟩;have B5:=S4.sb.trans sb5;have rc0:rc T0.name (lf c1 zs) T0=⟨T0.name,T0.sort,lf c1 zs⟩:=if_pos rfl;have rcR:R.map (rc T0.name (lf c1 zs))=R:=by
    have:∀X∈R,rc T0.name (lf c1 zs) X=X:=fun X hX=>if_neg fun e=>by
     have:=fk.ts.2.1
     rw[mN0,List.nodup_cons] at this;exact this.1 (by rw[<-e];exact mM0.mpr ⟨X,hX,rfl⟩)
    rw[List.map_congr_left this];exact List.map_id' _
   rw[rc0,rcR] at fa5;have cp5:=sb5 _ _ rfl (s4 _ _ cpc);have ha5:=B5 _ _ rfl ha;have ht5:=B5 _ _ rfl ht;have ok5:a0G H5 T0.cols:=okc.sb B5;have fk5:FK H5 f1 sz ⟨T0.name,T0.sort,lf c1 zs⟩ R:=⟨fa5,fk.ts.perm rfl (.refl _),fun X hX=>by
    rcases mK0.mp hX with rfl |hX
    ·exact okl.sb sb5
    ·exact(fk.co X (mL0 _ hX)).sb B5,fk.sz1⟩
   refine⟨_,rfl,_,rfl,a,CC,dx,_,_,rfl,ha5,T.cl,T.nS,a1R _ _,_,rfl,_,rfl,a,CC,dx,_,_,rfl,ha5,T.cl,T.nC,a1x _ _,cp,t,c1,zs,rfl,cp5,ht5,nd,l12,hzc,fun p2 H6 s6 hp2 e6=>?_⟩;have okr:a0G H6 (rt c1 zs):=(ok5.same s6).of (by rw[a7n];exact nd) (by unfold rt;rw[lM0];exact l12) fun x hx=>by
    obtain⟨y,hy,rfl⟩:=mM0.mp hx;exact⟨hzs y hy,vc y (py'.mem_iff.mpr (hzs y hy))⟩
   obtain⟨t7,tnd,tn,th,tss⟩:=fk.ts;refine⟨f1,sz,⟨T0.name,T0.sort,lf c1 zs⟩,R,z,"twin",p2,rt c1 zs,rfl,fk5.sb s6.sb,e6,okr,tb5.same s6,⟨?_,?_,fun X hX=>?_,th,fun X hX=>?_⟩,fun f2 H7 sb7 fr7 tb7 fa7=>?_⟩
   ·rw[lA0]
    show R.length+1<=7
    omega
   ·show(T0.name::(R++[(⟨z,"twin",rt c1 zs⟩:Tb)]).map (fun X:Tb=>X.name)).Nodup
    rw[mA0,<-List.cons_append,List.nodup_append];refine⟨tnd,by simp,fun x hx y hy e=>?_⟩
    have:y=z:=by simpa using hy
    rw[e,this] at hx;exact hz hx
   ·rcases mK0.mp hX with rfl |hX
    ·exact tn T0 List.mem_cons_self
    ·rcases mB0.mp hX with hX |hX
     ·exact tn X (mL0 _ hX)
     ·rw[mS0.mp hX];exact hn
   ·rcases mB0.mp hX with hX |hX
    ·exact tss X hX
    ·rw[mS0.mp hX];exact(by show("twin":Str)∈a1S;decide +kernel)
   ·refine q f2 H7 ((B5.trans s6.sb).trans sb7) (fun b o nb e=>fr7 b o nb (s6 _ _ (fr5 b o nb (S4 _ _ e)))) tb7 (fa7.cong ?_ ?_)
    ·show(⟨T0.name,T0.sort,cnC (lf c1 zs)⟩:Tb)=⟨T0.name,T0.sort,cnC (lf T0.cols zs)⟩
     rw[b5O okc.1 (by rw[nc];exact py') (fun y hy=>vc y (by rw[<-nc];exact hy)) zs]
    ·rw[b5a fun y hy=>vc y (py'.mem_iff.mpr (hzs y hy))]
theorem a6h:∀{c2 c1:List (Str×V)},((c1++c2).map (·.1)).Nodup->a0A (kvC c1) (kvC c2)=kvC (c1++c2)
 |[],c1,_=>by rw[List.append_nil];rfl
 |x::r,c1,h=>by
  have hn:x.1∉c1.map (·.1):=by
   rw[mA0,List.nodup_append] at h;exact fun hm=>h.2.2 _ hm x.1 (by rw[mN0];exact List.mem_cons_self) rfl
  have hv:a2g (kvC c1) (.inr x.1)=none:=by
   cases e:a2g (kvC c1) (.inr x.1) with
   |none=>rfl
   |some v=>exact absurd (a2B e) hn
  show a0A (a3s (kvC c1) (.inr x.1) x.2) (kvC r)=_;rw[L2.a5w _ hv,show kvC c1++[((.inr x.1:Key),x.2)]=kvC (c1++[x]) by unfold kvC;rw[mA0];rfl,a6h (c1:=c1++[x]) (by rw[List.append_assoc];exact h),List.append_assoc]
  rfl
def a2r (CC PF:Addr):Sp:=fun vs H Q _=>∃(a f t:Addr) (z:Str) (zs:List Str) (sz:Int) (T0 Tz:Tb) (R:List Tb),vs=[.ref a,.ref f]/\CvC CC H a z t zs/\FK H f sz T0 R/\a1O PF a2j foQ H/\Tz∈R/\Tz.name=z/\Tz.sort="twin"/\zs.Perm (Tz.cols.map (·.1))/\sortedS zs=true/\T0.cols.length+zs.length<=12/\(∀y∈zs,y∉T0.cols.map (·.1)) ∧
 ∀f' H',Sb H H'->Fr PF H H'->a1O PF a2j foQ H'->FAt H' f' sz ⟨T0.name,T0.sort,T0.cols++Tz.cols⟩ (R.filter (nz z))->Q (.ref f') H'
structure Fmw (P:Program) (w:World) (K:Fg0) (mg:Str->Option Value) (base:Heap) (PF fI fS fO:Addr) (fdI fdS fdO:FuncData):Prop where
 DI:Df K mg "columns_in" (top 35) fI fdI
 GI:a0x P w K mg base CX0 3 fI fdI ["form","table"] a4X
 DS:Df K mg "sort_of" (top 25) fS fdS
 GS:a0x P w K mg base CX0 2 fS fdS ["form","table"] a3o
 DO:Df K mg "without_table" (top 31) fO fdO
 GO:a0x P w K mg base CX0 7 fO fdO ["form","name"] (a4p PF)
theorem a8o {f_ fH fC fF fW fI fS fO:Addr}{fd fdH fdC fdF fdW fdI fdS fdO:FuncData}(F:Fun K "before" "Cleave.before" (a0w (top 41) 2) f_ fd)(B:Bl mg)(T:ClV K CC)(M:Fmw P w K mg base PF fI fS fO fdI fdS fdO)(DH:Df K mg "head_of" (top 24) fH fdH)(DC:Df K mg "columns_of" (top 26) fC fdC)(GC:a0x P w K mg base CX0 2 fC fdC ["form","table"] a1G)(DF:Df K mg "ask_fit" (top 34) fF fdF)(DW:Df K mg "with_columns" (top 29) fW fdW)(GW:a0x P w K mg base CX0 7 fW fdW ["form","table","columns"] (a4d PF)) :
  a0x P w K mg base CX0 8 f_ fd ["self","form"] (a2r CC PF):=by
 have sc:a0o ["self","form","had","head","columns"] ["self","form"] (a0f (a0w (top 41) 2)):=.k (by decide +kernel);have GH:a0x P w K mg base CX0 1 fH fdH ["form"] a3n:=a2M DH.fn;have GF:a0x P w K mg base CX0 1 fF fdF ["fine"] a6T:=a4R DF.fn;have bI:=M.DI.fn.b2 "form" "table" (by intros;rfl);have bS:=M.DS.fn.b2 "form" "table" (by intros;rfl);have bO:=M.DO.fn.b2 "form" "name" (by intros;rfl);have bH:=DH.fn.b1 "form" (by intros;rfl);have bC:=DC.fn.b2 "form" "table" (by intros;rfl);have bF:=DF.fn.b1 "fine" (by intros;rfl);have bW:=DW.fn.b3 "form" "table" "columns" (by intros;rfl);refine F.ok sc (fun vs H Q E h=>?_) (fun cdv A outer s H vs Q E hr h=>?_)
 ·obtain⟨a,f,t,z,zs,sz,T0,Tz,R,rfl,_⟩:=h
  rfl
 ·obtain⟨a,f,t,z,zs,sz,T0,Tz,R,rfl,cv,fk,tab,hTz,rfl,hso,pz,soz,l12,dj,q⟩:=h
  have hu:=a2s hr;have hr1:a1g 1 _:=hr.mono (by decide);have hr2:a1g 2 _:=hr.mono (by decide);have hr3:a1g 3 _:=hr.mono (by decide);refine⟨_,a0c (a0p (i:=2) sc.nd rfl (Or.inl rfl) (a0i M.GI hr3 (by rfl) M.DI.mg M.DI.fn.kp bI .nil a0q (a0a (pv 1) (a0a (a0M (pv 0) rfl) a0b))))
   (a0c (a0F (a0i GF hr1 (by rfl) DF.mg DF.fn.kp bF .nil a0q (a0a (a0Q a1k (a0i M.GS hr2 (by rfl) M.DS.mg M.DS.fn.kp bS .nil a0q (a0a (pv 1) (a0a (a0M (pv 0) rfl) a0b))) a0v (a0u _)) a0b)))
   (a0c (a0F (a0i GF hr1 (by rfl) DF.mg DF.fn.kp bF .nil a0q (a0a (a0Q b1S (a0V (a2W rfl) (by rfl) B.list boot_list (a0a (pv 2) a0b)) (a0V a3H (by rfl) B.list boot_list (a0a (a0M (pv 0) rfl) a0b)) (a0u _)) a0b)))
   (a0c (a0p (i:=3) sc.nd rfl (Or.inl rfl) (a0i GH hr1 (by rfl) DH.mg DH.fn.kp bH .nil a0q (a0a (pv 1) a0b)))
   (a0c (a0p (i:=4) sc.nd rfl (Or.inr rfl) (a0i GC hr2 (by rfl) DC.mg DC.fn.kp bC .nil a0q (a0a (pv 1) (a0a (pv 3) a0b))))
   (a0c (a0F (a0i GF hr1 (by rfl) DF.mg DF.fn.kp bF .nil a0q (a0a (a9r (a0k (a7o rfl) (by rfl) B.any boot_any (a0a (a1T (osc:=a0f (a0w (top 41) 2)) (N0:=["self","form","had","head","columns"]) (xs:=["column"]) (fr:=[4]) ⟨rfl,by decide +kernel,by decide +kernel,by decide +kernel,(fun j hj=>by
       have e:j=4:=by simpa using hj
       subst e;exact⟨_,rfl,by decide +kernel⟩),by decide +kernel⟩ rfl rfl rfl (a3p (a0M (pv 0) rfl))
      (fun s H fp=>a0E (i:=0) (show(["column","columns"]:List Str).Nodup by decide +kernel) rfl (Or.inl rfl)) (fun s H fp=>a1U)
      (fun s H fp=>a3E (a4I hu (pv 0) (pv 1)))) a0b))) a0b)))
   (a0c (a0F (a6Y PySem.F.plainAttrs_dict PySem.F.slot_dict_update PySem.F.type_dict_update b1o (pv 4) (a0a (pv 2) a0b)))
   (a0h (a0z (a0i GW hr (by rfl) DW.mg DW.fn.kp bW .nil a0q (a0a (a0i M.GO hr (by rfl) M.DO.mg M.DO.fn.kp bO .nil a0q (a0a (pv 1) (a0a (a0M (pv 0) rfl) a0b))) (a0a (pv 3) (a0a (pv 4) a0b)))))))))))),?_⟩
  obtain⟨U,hF,hU,fx,co,t8,tsU,eU⟩:=fk.get;have pN:=a1Y (T0:=T0) hU;obtain⟨dx,ha⟩:=cv.ex;have ht:=cv.t;have okc:=fk.co T0 List.mem_cons_self;have okz:=fk.co Tz (mL0 _ hTz);have hTU:cn Tz∈U:=hU.mem_iff.mpr (mM0.mpr ⟨Tz,hTz,rfl⟩);refine⟨_,rfl,_,rfl,a,CC,dx,_,_,rfl,ha,T.cl,T.nS,a1R _ _,f,sz,cn T0::U,cn Tz,rfl,hF,t8,tsU.2.1,mL0 _ hTU,okz.cn.1,okz.cn.2.1,fun hp H1 ys hph s1 py so1 e1=>?_⟩;have py':ys.Perm (Tz.cols.map (·.1)):=py.trans (by rw[show(cn Tz).cols=cnC Tz.cols from rfl,a0S];exact a0J _);obtain rfl:=a6y so1 soz py' pz;have e1':H1 hp=some (.dK (kvC (ys.map fun z=>(z,vOf (cn Tz).cols z)))):=by rw[a2d];exact e1
  have vz:∀y∈ys,vOf (cn Tz).cols y=vOf Tz.cols y:=fun y hy=>a2D (py'.mem_iff.mp hy);have ndy:ys.Nodup:=py'.nodup_iff.mpr okz.1;refine⟨_,rfl,_,rfl,a,CC,dx,_,_,rfl,s1 _ _ ha,T.cl,T.nS,a1R _ _,f,sz,cn T0::U,cn Tz,rfl,hF.same s1,tsU.2.1,mL0 _ hTU,rfl,?_,?_⟩
  ·show[V.bl (decide (V.str Tz.sort=V.str "twin"))]=[V.bl true]
   rw[hso,dT0 rfl]
  refine⟨_,rfl,hp,_,ys,rfl,.inl e1',(by rw[a2d,mC0];rfl),fun l1 hl1=>?_⟩;generalize hX:upd H1 l1 _=H2;obtain⟨T2,e2⟩:=gz hX hl1;have S2:=s1.trans T2;refine⟨_,rfl,a,CC,dx,_,_,rfl,S2 _ _ ha,T.cl,T.nC,a1x _ _,t,_,rfl,.inr (SqT.of (S2 _ _ ht)),fun l2 hl2=>?_⟩;generalize hX:upd H2 l2 _=H3;obtain⟨T3,e3⟩:=gz hX hl2;have S3:=S2.trans T3;refine⟨0,l1,l2,_,_,rfl,rfl,SqL.of (T3 _ _ e2),SqL.of e3,rfl,(fun i x y c1 c2=>?_),hu,rfl,?_⟩
  ·have:x=y:=Option.some.inj (c1.symm.trans c2)
   subst this;rw[gM0] at c1;cases ez:ys[i]? with
   |none=>rw[ez] at c1;cases c1
   |some w=>rw[ez] at c1;cases c1;exact .str
  refine⟨_,rfl,f,sz,cn T0,U,rfl,hF.same S3,?_⟩;refine⟨_,rfl,_,rfl,f,sz,cn T0::U,cn T0,rfl,hF.same S3,tsU.2.1,List.mem_cons_self,okc.cn.1,okc.cn.2.1,fun cp H4 ws hcp s4 pw _ e4=>?_⟩;have pw':ws.Perm (T0.cols.map (·.1)):=pw.trans (by rw[show(cn T0).cols=cnC T0.cols from rfl,a0S];exact a0J _);have e4':H4 cp=some (.dK (kvC (ws.map fun z=>(z,vOf (cn T0).cols z)))):=by rw[a2d];exact e4
  have vw:∀y∈ws,vOf (cn T0).cols y=vOf T0.cols y:=fun y hy=>a2D (pw'.mem_iff.mp hy);have ndw:ws.Nodup:=pw'.nodup_iff.mpr okc.1;have S4:=S3.trans s4;have S14:=(T2.trans T3).trans s4;have S13h:=(T2.trans T3) _ _ e1';refine⟨_,rfl,a,CC,dx,_,_,rfl,S4 _ _ ha,T.cl,T.nC,a1x _ _,t,rfl,⟨_,SqT.of (S4 _ _ ht)⟩,fun D hD=>?_⟩;refine a1Q ys.length (fun i ys' σ' Hc=>(∃u,σ'=[u,some (.ref cp)])/\a0r H4 Hc/\ys'=(List.replicate i false).map V.bl) (by rw[sizeLine_eq];have:=okz.2.1;have:=py'.length_eq;rw[lM0] at this;omega) ⟨⟨none,rfl⟩,a0r.upd hD,rfl⟩ a0d ?_ ?_
  ·rintro i σ' Hc ys' hi ⟨⟨u,rfl⟩,sm,rfl⟩ hyl hD'
   refine⟨⟨_,V.str ys[i],SqT.of (sm _ _ (S4 _ _ ht)),by rw[gM0,gE0 hi];rfl⟩,?_⟩;rintro x H' ⟨rfl,hx'⟩;have ex:=hx' _ (SqT.of (sm _ _ (S4 _ _ ht)));rw[gM0,gE0 hi] at ex;cases ex;have nv:a2g (kvC (ws.map fun z=>(z,vOf (cn T0).cols z))) (.inr ys[i])=none:=by
    cases e:a2g (kvC (ws.map fun z=>(z,vOf (cn T0).cols z))) (.inr ys[i]) with
    |none=>rfl
    |some v=>
     have:=a2B e
     rw[mC0] at this;obtain⟨y,hy,ey⟩:=mM0.mp this;have ey':y=ys[i]:=ey;exact absurd (pw'.mem_iff.mp hy) (by rw[ey'];exact dj _ (List.getElem_mem hi))
   refine⟨_,rfl,_,rfl,cp,none,rfl,.inl ⟨_,.inr ys[i],.inl (sm _ _ e4'),rfl,nv.symm⟩,hD',⟨_,rfl⟩,sm.put hD,?_⟩;rw[List.replicate_succ',mA0]
   rfl
  ·rintro σ' Hc ys' ⟨_,sm,rfl⟩ hDn hyl
   refine⟨⟨_,SqT.of (sm _ _ (S4 _ _ ht)),by rw[lM0];exact nR0 _⟩,D,_,rfl,SqL.of hDn,?_⟩;refine⟨_,rfl,?_,?_⟩
   ·have ea:(List.replicate ys.length false).any id=false:=List.any_eq_false.mpr fun b hb=>by rw[List.eq_of_mem_replicate hb];exact bF0
    show[V.bl (!((List.replicate ys.length false).any id))]=[V.bl true]
    rw[ea]
    rfl
   have Sc:=S4.trans sm;have ec:=sm _ _ e4';have eh:=(S14.trans sm) _ _ e1';have nhc:cp≠hp:=fun e=>by rw[e] at hcp;rw[S13h] at hcp;cases hcp
   refine⟨_,rfl,.inr (.inr (.inl ⟨rfl,.inl ⟨_,ec⟩⟩)),_,rfl,cp,hp,_,_,rfl,rfl,nhc,ec,eh,?_,?_⟩
   ·unfold kvC
    rw[lM0,lM0,lM0,lM0,sizeLine_eq,pw'.length_eq,lM0]
    omega
   have ndj:(((ws.map fun z=>(z,vOf (cn T0).cols z))++(ys.map fun z=>(z,vOf (cn Tz).cols z))).map (·.1)).Nodup:=by
    rw[mA0,mC0,mC0,show ws.map ((fun x:Str×V=>x.1)∘fun z=>(z,vOf (cn T0).cols z))=ws from List.map_id' _,show ys.map ((fun x:Str×V=>x.1)∘fun z=>(z,vOf (cn Tz).cols z))=ys from List.map_id' _,List.nodup_append];exact⟨ndw,ndy,fun x hx y hy e=>dj y hy (by rw[<-e];exact pw'.mem_iff.mp hx)⟩
   rw[a6h ndj];have k5:∀b o,b≠cp->Hc b=some o->(upd Hc cp (.dK (kvC ((ws.map fun z=>(z,vOf (cn T0).cols z))++(ys.map fun z=>(z,vOf (cn Tz).cols z)))))) b=some o:=fun b o nb e=>(a0g nb).trans e;have ec5:=a0d (H:=Hc) (a:=cp) (o:=.dK (kvC ((ws.map fun z=>(z,vOf (cn T0).cols z))++(ys.map fun z=>(z,vOf (cn Tz).cols z)))));have hcp0:H cp=none:=a1a S3 hcp;generalize upd Hc cp (.dK (kvC ((ws.map fun z=>(z,vOf (cn T0).cols z))++(ys.map fun z=>(z,vOf (cn Tz).cols z)))))=H5 at *;have S5:a0r H H5:=fun b o e=>k5 b o (a0O e hcp0) (Sc _ _ e);have fk5:=fk.sb S5.sb;refine⟨_,rfl,_,rfl,a,CC,dx,_,_,rfl,S5 _ _ ha,T.cl,T.nS,a1R _ _,f,sz,T0,R,Tz.name,rfl,fk5,tab.same S5,mM0.mpr ⟨Tz,hTz,rfl⟩,fun f1 H6 sb6 fr6 tb6 fa6=>?_⟩;have B6:=S5.sb.trans sb6;have fk6:FK H6 f1 sz T0 (R.filter (nz Tz.name)):=⟨fa6,fk.ts.filter _,fun X hX=>by
    rcases mK0.mp hX with rfl |hX
    ·exact okc.sb B6
    ·exact(fk.co X (mL0 _ (mF0.mp hX).1)).sb B6,fk.sz1⟩
   have okj:a0G H6 ((ws.map fun z=>(z,vOf (cn T0).cols z))++(ys.map fun z=>(z,vOf (cn Tz).cols z))):=by
    refine⟨ndj,?_,fun x hx=>?_⟩
    ·rw[lA0,lM0,lM0,pw'.length_eq,lM0]
     omega
    ·rcases mB0.mp hx with hx |hx
     ·obtain⟨y,hy,rfl⟩:=mM0.mp hx
      show a0T y=true/\∃d,Rep H6 d (vOf (cn T0).cols y)/\a1H d=true/\a1V d=true;rw[vw y hy];exact a2F (okc.sb B6) (pw'.mem_iff.mp hy)
     ·obtain⟨y,hy,rfl⟩:=mM0.mp hx
      show a0T y=true/\∃d,Rep H6 d (vOf (cn Tz).cols y)/\a1H d=true/\a1V d=true;rw[vz y hy];exact a2F (okz.sb B6) (py'.mem_iff.mp hy)
   refine⟨_,rfl,_,rfl,f1,sz,T0,R.filter (nz Tz.name),T0.name,cp,_,rfl,fk6,tb6,(by rw[mN0];exact List.mem_cons_self),sb6 _ _ rfl ec5,okj,fun f2 H7 sb7 fr7 tb7 fa7=>?_⟩;refine q f2 H7 (B6.trans sb7) (fun b o nb e=>fr7 b o nb (fr6 b o nb (S5 _ _ e))) tb7 (fa7.cong ?_ ?_)
   ·unfold rc
    rw[if_pos rfl]
    show(⟨T0.name,T0.sort,cnC _⟩:Tb)=⟨T0.name,T0.sort,cnC _⟩
    congr 1
    have nT:((T0.cols++Tz.cols).map (·.1)).Nodup:=by
     rw[mA0,List.nodup_append];exact⟨okc.1,okz.1,fun x hx y hy e=>dj y (py'.mem_iff.mpr hy) (by rw[<-e];exact hx)⟩
    refine a7N ?_ fun y hy=>?_
    ·rw[mA0,mA0,mC0,mC0]
     exact List.Perm.append (by rw[show ws.map ((fun x:Str×V=>x.1)∘fun z=>(z,vOf (cn T0).cols z))=ws from List.map_id' _];exact pw') (by rw[show ys.map ((fun x:Str×V=>x.1)∘fun z=>(z,vOf (cn Tz).cols z))=ys from List.map_id' _];exact py')
    ·obtain⟨x,hx,rfl⟩:=mM0.mp hy
     rw[a0X ndj hx];rcases mB0.mp hx with hx |hx
     ·obtain⟨y,hy2,rfl⟩:=mM0.mp hx
      obtain⟨x0,hx0,e0⟩:=mM0.mp (pw'.mem_iff.mp hy2);show vOf (cn T0).cols y=vOf (T0.cols++Tz.cols) y;rw[vw y hy2,<-e0,a0X okc.1 hx0,a0X nT (List.mem_append_left _ hx0)]
     ·obtain⟨y,hy2,rfl⟩:=mM0.mp hx
      obtain⟨x0,hx0,e0⟩:=mM0.mp (py'.mem_iff.mp hy2);show vOf (cn Tz).cols y=vOf (T0.cols++Tz.cols) y;rw[vz y hy2,<-e0,a0X okz.1 hx0,a0X nT (List.mem_append_right _ hx0)]
   ·have:(R.filter (nz Tz.name)).map (rc T0.name ((ws.map fun z=>(z,vOf (cn T0).cols z))++(ys.map fun z=>(z,vOf (cn Tz).cols z))))=R.filter (nz Tz.name):=by
     have hq:∀X∈R.filter (nz Tz.name),rc T0.name ((ws.map fun z=>(z,vOf (cn T0).cols z))++(ys.map fun z=>(z,vOf (cn Tz).cols z))) X=X:=fun X hX=>if_neg fun e=>by
      have:=fk.ts.2.1
      rw[mN0,List.nodup_cons] at this;exact this.1 (by rw[<-e];exact mM0.mpr ⟨X,(mF0.mp hX).1,rfl⟩)
     rw[List.map_congr_left hq];exact List.map_id' _
    rw[this]
end
structure TxN (K:Fg0) (mg:Str->Option Value) (CN CT:Addr):Prop where
 mN:mg "NoMove"=some (.ref CN)
 mT:mg "TableError"=some (.ref CT)
 xN:XCl K CN
 nM:a2q K CN "move"
 bT:BIn K CT
def b5V (H H':Hp)(dx:Addr):Prop:=H dx=none/\H' dx=some (.ext (b4e dx [(("move":Str),V.int 0)]))/\a0r H H'
def Ref (CN:Addr)(H:Hp)(E:XK):Prop:=∀dx H',b5V H H' dx->E (.ref CN) (some dx) H'
theorem Ref.pre {CN:Addr}{H H1:Hp}{E:XK}(r:Ref CN H E)(s:a0r H H1):Ref CN H1 E:=fun dx H' t=>r dx H' ⟨a1a s t.1,t.2.1,s.trans t.2.2⟩
def a9A (CN:Addr):Sp:=fun vs H Q _=>∃(x:Addr) (i:Int),vs=[.ref x,.int i]/\H x=some (.ext (a9l x CN none))/\∀dx,H dx=none->dx≠x->Q .non (upd (upd H dx (.ext (b4e dx [(("move":Str),V.int i)]))) x (.ext (a9l x CN (some dx))))
def a6I (CN:Addr):Sp:=fun vs H Q E=>∃b:Bool,vs=[.bl b]/\(b=true->Q .non H)/\(b=false->Ref CN H E)
def b0b (CN:Addr):Sp:=fun vs H Q E=>∃(f:Addr) (sz:Int) (Ts:List Tb) (z:Str),vs=[.ref f,.str z]/\a1f H f sz Ts/\Ts.length<=8/\z.length<=1000/\(a0T z=true/\z∉Ts.map (·.name)->∀H',a0r H H'->Q .non H')/\(¬(a0T z=true/\z∉Ts.map (·.name))->Ref CN H E)
def a7b (CN:Addr):Sp:=fun vs H Q E=>∃(f:Addr) (sz:Int) (Ts:List Tb) (z:Str),vs=[.ref f,.str z]/\a1f H f sz Ts/\Ts.length<=8/\(Ts.map (·.name)).Nodup/\(z∉Ts.map (·.name)->Ref CN H E)/\(z∈Ts.map (·.name)->∃T∈Ts,T.name=z/\(T.cols.map (·.1)).Nodup/\T.cols.length<=12 ∧
 ∀(p:Addr) (H':Hp) (zs:List Str),H p=none->a0r H H'->zs.Perm (T.cols.map (·.1))->sortedS zs=true->H' p=some (.dK (zs.map fun z=>(.inr z,vOf T.cols z)))->Q (.ref p) H')
def b5X (H:Hp)(c z:Str)(T0:Tb)(R:List Tb):Prop:=¬(a0T z=true/\z∉(T0::R).map (·.name))\/c∉T0.cols.map (·.1)\/∃(k:Addr) (so:Str) (xs:List V),c∈T0.cols.map (·.1)/\vOf T0.cols c=.ref k/\H k=some (.tup (.str so::xs))/\so≠"list"/\so≠"some"
def a7W (CC CN:Addr):Sp:=fun vs H Q E=>∃(a f:Addr) (c z:Str) (sz:Int) (T0:Tb) (R:List Tb),vs=[.ref a,.ref f]/\CvA CC H a c z/\FK H f sz T0 R/\z.length<=1000/\b5X H c z T0 R/\Ref CN H E
theorem b2C {so:Str}(h1:so≠"list")(h2:so≠"some"):KTD.inKeys so (dts a9b)=false:=by
 show(decide (so="list") || (decide (so="some") || false))=false
 rw[dF0 h1,dF0 h2]
 rfl
section
variable {P:Program}{w:World}{K:Fg0}{mg:Str->Option Value}{base:Heap}{CC PF CN CT:Addr}
theorem b0E {f:Addr}{fd:FuncData}(F:b1G K "__init__" "NoMove.__init__" (a0w (top 6) 0) f fd)(T:TxN K mg CN CT):a0x P w K mg base CX0 1 f fd ["self","move"] (a9A CN):=by
 have sc:a0o ["self","move"] ["self","move"] (a0f (a0w (top 6) 0)):=.k (by decide +kernel);refine F.ok sc (fun vs H Q E h=>?_) (fun cdv A outer s H vs Q E hr h=>?_)
 ·obtain⟨x,i,rfl,_⟩:=h
  rfl
 ·obtain⟨x,i,rfl,hx,q⟩:=h
  refine⟨_,a0c (a0F (b0w (by rfl) T.mT T.bT (a0a (pv 0) (a0a (pv 1) a0b)))) (a0h (b0U (pv 0) (pv 1) rfl)),?_⟩;refine⟨_,rfl,_,rfl,x,CN,none,_,rfl,hx,T.xN,(by exact sl1),?_⟩;exact⟨_,rfl,_,rfl,x,CN,rfl,hx,T.xN,T.nM,fun dx hd ne=>q dx hd ne⟩
theorem b3R {f fN:Addr}{fd fdN:FuncData}{tk:Tok}(F:Fun K "ask_fit" "ask_fit" (top 34) f fd)(T:TxN K mg CN CT)(FN:b1G K "__init__" "NoMove.__init__" (a0w (top 6) 0) fN fdN)(MN:XMk K CN fN)(bN:a1C K fdN ["self","move"] [.int 0 tk]) :
  a0x P w K mg base (CX1 P w) 3 f fd ["fine"] (a6I CN):=by
 have sc:a0o ["fine"] ["fine"] (a0f (top 34)):=.k (by decide +kernel);have GN:a0x P w K mg base CX0 1 fN fdN ["self","move"] (a9A CN):=b0E FN T;refine F.x.okX sc (fun vs H Q E h=>?_) (fun cdv A outer s H vs Q E hr h=>?_)
 ·obtain⟨b,rfl,_⟩:=h
  rfl
 ·obtain⟨b,rfl,qt,qf⟩:=h
  refine⟨_,a0h (a0C (a1P (a0K (pv 0))) (a0h (b1f rfl (a8Q (dvs:=[.int 0]) MN GN hr (by rfl) T.mN bN (.cons ⟨tk,rfl⟩ .nil)) a1q)) a0l),?_⟩;refine⟨_,rfl,b,rfl,?_⟩;cases b with
  |true=>exact a1Z (qt rfl)
  |false=>
   refine a3C ⟨zL0 _,fun x nx hx=>⟨x,0,rfl,a0d,fun dx hd ne=>⟨rfl,x,CN,some dx,rfl,a0d,nx,T.xN,?_⟩⟩⟩;rw[a0g ne] at hd;refine qf rfl dx _ ⟨hd,?_,fun b o e=>?_⟩
   ·rw[a2a ne,a0g ne,a0d]
   ·have nb:b≠x:=a0O e hx
    rw[a2a nb,a0g nb,a0g (a0O e hd),a0g nb];exact e
theorem b3i {f fA fN fT:Addr}{fd fdA fdN fdT:FuncData}(F:Fun K "ask_new_side" "ask_new_side" (top 42) f fd)(DA:Df K mg "ask_fit" (top 34) fA fdA)(GA:a0x P w K mg base (CX1 P w) 3 fA fdA ["fine"] (a6I CN))(DN:Df K mg "is_name" (top 12) fN fdN)(GN:a0x P w K mg base CX0 1 fN fdN ["thing"] (a5U K))(DT:Df K mg "tables_of" (top 23) fT fdT):a0x P w K mg base (CX1 P w) 4 f fd ["form","side"] (b0b CN):=by
 have sc:a0o ["form","side"] ["form","side"] (a0f (top 42)):=.k (by decide +kernel);have GT:a0x P w K mg base CX0 1 fT fdT ["form"] a5D:=a5t DT.fn;have bA:=DA.fn.b1 "fine" (by intros;rfl);have bN:=DN.fn.b1 "thing" (by intros;rfl);have bT:=DT.fn.b1 "form" (by intros;rfl);refine F.x.okX sc (fun vs H Q E h=>?_) (fun cdv A outer s H vs Q E hr h=>?_)
 ·obtain⟨f,sz,Ts,z,rfl,_⟩:=h
  rfl
 ·obtain⟨f,sz,Ts,z,rfl,hF,l8,z8,q,r⟩:=h
  have hr1:a1g 1 _:=hr.mono (by decide);refine⟨_,a0h (a0F (a1v GA hr (by rfl) DA.mg DA.fn.kp bA .nil a1q (a0a (a1y (a0i GN hr1 (by rfl) DN.mg DN.fn.kp bN .nil a0q (a0a (pv 1) a0b)) (a1M (a0Q a2N (pv 1) (a0i GT hr1 (by rfl) DT.mg DT.fn.kp bT .nil a0q (a0a (pv 0) a0b)) (by with_unfolding_all rfl)))) a0b))),?_⟩;refine⟨_,rfl,.str z,_,rfl,Is.str,(fun z' e=>?_),(fun h=>absurd rfl h)⟩;cases e;refine⟨by rw[sizeLine_eq];omega,fun H1 s1=>⟨_,rfl,?_⟩⟩;refine a8I (fun hn=>?_) (fun hn=>?_)
  ·refine⟨_,rfl,_,rfl,f,sz,Ts,rfl,hF.same s1,l8,fun p H2 hp s2 p2=>?_⟩
   refine⟨p,_,rfl,.inl (SqL.of p2),rfl,a3r _,?_⟩;refine⟨!inV (.str z) ((Ts.map (·.name)).map V.str),rfl,?_⟩;rw[a4Z];refine⟨fun hb=>q ⟨hn,?_⟩ H2 (s1.trans s2),fun hb=>(r fun h=>?_).pre (s1.trans s2)⟩
   ·exact fun hm=>by rw[dT0 hm] at hb;cases hb
   ·rw[dF0 h.2] at hb;cases hb
  ·refine⟨_,rfl,fun hb=>(nomatch hb),fun _=>(r fun h=>hn h.1).pre s1⟩
theorem b0A {f fA fT fC fI:Addr}{fd fdA fdT fdC fdI:FuncData}(F:Fun K "columns_in" "columns_in" (top 35) f fd)(B:Bl mg)(DA:Df K mg "ask_fit" (top 34) fA fdA)(GA:a0x P w K mg base (CX1 P w) 3 fA fdA ["fine"] (a6I CN))(DT:Df K mg "tables_of" (top 23) fT fdT)(DC:Df K mg "columns_of" (top 26) fC fdC)(DI:Df K mg "table_in" (top 27) fI fdI):a0x P w K mg base (CX1 P w) 4 f fd ["form","table"] (a7b CN):=by
 have sc:a0o ["form","table"] ["form","table"] (a0f (top 35)):=.k (by decide +kernel);have GT:a0x P w K mg base CX0 1 fT fdT ["form"] a5D:=a5t DT.fn;have GC:a0x P w K mg base CX0 2 fC fdC ["form","table"] a1G:=a3Y DC.fn B DI;have bA:=DA.fn.b1 "fine" (by intros;rfl);have bT:=DT.fn.b1 "form" (by intros;rfl);have bC:=DC.fn.b2 "form" "table" (by intros;rfl);refine F.x.okX sc (fun vs H Q E h=>?_) (fun cdv A outer s H vs Q E hr h=>?_)
 ·obtain⟨f,sz,Ts,z,rfl,_⟩:=h
  rfl
 ·obtain⟨f,sz,Ts,z,rfl,hF,l8,nd,r,q⟩:=h
  have hr1:a1g 1 _:=hr.mono (by decide);have hr2:a1g 2 _:=hr.mono (by decide);refine⟨_,a0c (a0F (a1v GA hr (by rfl) DA.mg DA.fn.kp bA .nil a1q (a0a (a0Q a6c (pv 1) (a0i GT hr1 (by rfl) DT.mg DT.fn.kp bT .nil a0q (a0a (pv 0) a0b)) (by with_unfolding_all rfl)) a0b)))
   (a0h (a0z (a0i GC hr2 (by rfl) DC.mg DC.fn.kp bC .nil a0q (a0a (pv 0) (a0a (pv 1) a0b))))),?_⟩
  refine⟨_,rfl,_,rfl,f,sz,Ts,rfl,hF,l8,fun p H1 hp s1 p1=>?_⟩;refine⟨p,_,rfl,.inl (SqL.of p1),rfl,a3r _,inV (.str z) ((Ts.map (·.name)).map V.str),rfl,?_⟩;rw[a4Z];refine⟨fun hb=>?_,fun hb=>(r fun hm=>by rw[dT0 hm] at hb;cases hb).pre s1⟩;obtain⟨T,hT,rfl,cn,cl,q⟩:=q (of_decide_eq_true hb);exact⟨_,rfl,_,rfl,f,sz,Ts,T,rfl,hF.same s1,nd,hT,cn,cl,fun p' H' zs hp' s' pz so e=>q p' H' zs (a1a s1 hp') (s1.trans s') pz so e⟩
theorem a8V {f fS fH fC fF aR:Addr}{fd fdS fdH fdC fdF:FuncData}(F:Fun K "after" "Rows.after" (a0w (top 40) 1) f fd)(T:ClC K CC)(DS:Df K mg "ask_new_side" (top 42) fS fdS)(GS:a0x P w K mg base (CX1 P w) 4 fS fdS ["form","side"] (b0b CN))(DH:Df K mg "head_of" (top 24) fH fdH)(DC:Df K mg "columns_of" (top 26) fC fdC)(GC:a0x P w K mg base CX0 2 fC fdC ["form","table"] a1G)(DF:Df K mg "ask_fit" (top 34) fF fdF)(GF:a0x P w K mg base (CX1 P w) 3 fF fdF ["fine"] (a6I CN))(mR:mg "SORT_OF_ROWS"=some (.ref aR))(kR:b1s K aR (dts a9b)) :
  a0x P w K mg base (CX1 P w) 5 f fd ["self","form"] (a7W CC CN):=by
 have sc:a0o ["self","form","head","columns","kind","lesser"] ["self","form"] (a0f (a0w (top 40) 1)):=.k (by decide +kernel);have GH:a0x P w K mg base CX0 1 fH fdH ["form"] a3n:=a2M DH.fn;have bS:=DS.fn.b2 "form" "side" (by intros;rfl);have bH:=DH.fn.b1 "form" (by intros;rfl);have bC:=DC.fn.b2 "form" "table" (by intros;rfl);have bF:=DF.fn.b1 "fine" (by intros;rfl);refine F.x.okX sc (fun vs H Q E h=>?_) (fun cdv A outer s H vs Q E hr h=>?_)
 ·obtain⟨a,f,c,z,sz,T0,R,rfl,_⟩:=h
  rfl
 ·obtain⟨a,f,c,z,sz,T0,R,rfl,⟨dx,ha⟩,fk,z8,bad,rf⟩:=h
  have hu:=a2s hr;have hr1:a1g 1 _:=hr.mono (by decide);have hr2:a1g 2 _:=hr.mono (by decide);have hr3:a1g 3 _:=hr.mono (by decide);refine⟨_,a0c (a0F (a1v GS hr (by rfl) DS.mg DS.fn.kp bS .nil a1q (a0a (pv 1) (a0a (a0M (pv 0) rfl) a0b))))
   (a0c (a0p (i:=2) sc.nd rfl (Or.inl rfl) (a0i GH hr1 (by rfl) DH.mg DH.fn.kp bH .nil a0q (a0a (pv 1) a0b)))
   (a0c (a0p (i:=3) sc.nd rfl (Or.inl rfl) (a0i GC hr2 (by rfl) DC.mg DC.fn.kp bC .nil a0q (a0a (pv 1) (a0a (pv 2) a0b))))
   (a0c (a0F (a1v GF hr3 (by rfl) DF.mg DF.fn.kp bF .nil a1q (a0a (a1y (a3E (a4I hu (a0M (pv 0) rfl) (pv 3))) (a1M (a0Q a3i (a0s a1n (a2k hu (pv 3) (a0M (pv 0) rfl) (fun _ _=>rfl)) a0e (fun _ _=>rfl)) (a2l (v:=.ref aR) (by rfl) mR rfl) (by with_unfolding_all rfl)))) a0b)))
   a0m))),?_⟩
  obtain⟨U,hF,hU,fx,co,t8,tsU,eU⟩:=fk.get;have pN:=a1Y (T0:=T0) hU;have okc:=fk.co T0 List.mem_cons_self;refine⟨_,rfl,_,rfl,a,CC,dx,_,_,rfl,ha,T.cl,T.nS,a1N _ _,f,sz,cn T0::U,z,rfl,hF,t8,z8,fun hs H1 s1=>?_,fun _=>rf⟩;have hs':a0T z=true/\z∉(T0::R).map (·.name):=⟨hs.1,fun h=>hs.2 (pN.mem_iff.mpr h)⟩;refine⟨_,rfl,f,sz,cn T0,U,rfl,hF.same s1,?_⟩;refine⟨_,rfl,_,rfl,f,sz,cn T0::U,cn T0,rfl,hF.same s1,tsU.2.1,List.mem_cons_self,okc.cn.1,okc.cn.2.1,fun cp H2 ys hcp s2 py _ ecp=>?_⟩;have S2:=s1.trans s2;have py':ys.Perm (T0.cols.map (·.1)):=py.trans (by rw[show(cn T0).cols=cnC T0.cols from rfl,a0S];exact a0J _);have ecp':H2 cp=some (.dK (kvC (ys.map fun z=>(z,vOf (cn T0).cols z)))):=by rw[a2d];exact ecp
  have nc:((ys.map fun z=>(z,vOf (cn T0).cols z)).map (·.1))=ys:=by rw[mC0];exact List.map_id' _
  have vc:∀y∈ys,vOf (ys.map fun z=>(z,vOf (cn T0).cols z)) y=vOf T0.cols y:=fun y hy=>by
   rw[a5c hy];exact a2D (py'.mem_iff.mp hy)
  generalize ys.map (fun z=>(z,vOf (cn T0).cols z))=c1 at *;rcases bad with bad |bad |⟨k,so,xs,hc,vk,hk,so1,so2⟩
  ·exact absurd hs' bad
  ·have nv:a2g (kvC c1) (.inr c)=none:=by
    cases e:a2g (kvC c1) (.inr c) with
    |none=>rfl
    |some v=>exact absurd (py'.mem_iff.mp (by rw[<-nc];exact a2B e)) bad
   exact⟨_,rfl,a,CC,dx,_,_,rfl,S2 _ _ ha,T.cl,T.nC,a1i _ _,_,rfl,cp,none,rfl,.inl ⟨_,.inr c,.inl ecp',rfl,nv.symm⟩,_,rfl,a1Z ⟨false,rfl,(fun h=>nomatch h),fun _=>rf.pre S2⟩⟩
  ·have hcy:c∈ys:=py'.mem_iff.mpr hc
   have hv:a2g (kvC c1) (.inr c)=some (.ref k):=by rw[a2Y (by rw[nc];exact hcy),vc c hcy,vk]
   refine⟨_,rfl,a,CC,dx,_,_,rfl,S2 _ _ ha,T.cl,T.nC,a1i _ _,_,rfl,cp,_,rfl,.inl ⟨_,.inr c,.inl ecp',rfl,hv.symm⟩,_,rfl,a3C ?_⟩;refine⟨_,rfl,_,rfl,a,CC,dx,_,_,rfl,S2 _ _ ha,T.cl,T.nC,a1i _ _,cp,_,rfl,.inl ⟨_,.inr c,.inl ecp',rfl,hv.symm⟩,k,_,0,_,rfl,rfl,SqT.of (S2 _ _ hk),(a0P (j:=0) rfl),so,aR,dts a9b,rfl,rfl,kR,false,?_,(fun h=>nomatch h),fun _=>rf.pre S2⟩
   show[V.bl (KTD.inKeys so (dts a9b))]=[V.bl false]
   rw[b2C so1 so2]
end
def b5C (H:Hp)(c z:Str)(T0:Tb)(R:List Tb):Prop:=z∉(T0::R).map (·.name)\/∃T∈T0::R,T.name=z/\((T.sort≠"many"/\T.sort≠"some")\/(T.sort="many"\/T.sort="some")/\(T.cols.map (·.1)≠[c]\/∃v d,T.cols=[(c,v)]/\Rep H d v/\(a1E d=false\/a1E d=true/\c∈T0.cols.map (·.1))))
def a6o (CC CN:Addr):Sp:=fun vs H Q E=>∃(a f:Addr) (c z:Str) (sz:Int) (T0:Tb) (R:List Tb),vs=[.ref a,.ref f]/\CvA CC H a c z/\FK H f sz T0 R/\b5C H c z T0 R/\Ref CN H E
theorem b2A {so:Str}(h1:so≠"many")(h2:so≠"some"):KTD.inKeys so (dts b0v)=false:=by
 show(decide (so="many") || (decide (so="some") || false))=false
 rw[dF0 h1,dF0 h2]
 rfl
theorem b1B {T T0:Tb}{R U:List Tb}(hU:U.Perm (R.map cn))(h:T∈T0::R):cn T∈cn T0::U:=by
 rcases mK0.mp h with rfl |h
 ·exact List.mem_cons_self
 ·exact mL0 _ (hU.mem_iff.mpr (mM0.mpr ⟨T,h,rfl⟩))
def b5y (z:Str)(zs:List Str)(T0:Tb)(R:List Tb):Prop:=¬(a0T z=true/\z∉(T0::R).map (·.name))\/¬zs.Nodup\/∃y∈zs,y∉T0.cols.map (·.1)
def b5j (z:Str)(zs:List Str)(T0:Tb)(R:List Tb):Prop:=z∉(T0::R).map (·.name)\/∃T∈T0::R,T.name=z/\(T.sort≠"twin"\/T.sort="twin"/\(¬zs.Perm (T.cols.map (·.1))\/zs.Perm (T.cols.map (·.1))/\∃y∈zs,y∈T0.cols.map (·.1)))
def a6r (CV CN:Addr):Sp:=fun vs H Q E=>∃(a f t:Addr) (z:Str) (zs:List Str) (sz:Int) (T0:Tb) (R:List Tb),vs=[.ref a,.ref f]/\CvC CV H a z t zs/\FK H f sz T0 R/\z.length<=1000/\zs.length<=12/\b5y z zs T0 R/\Ref CN H E
def a4Q (CV CN:Addr):Sp:=fun vs H Q E=>∃(a f t:Addr) (z:Str) (zs:List Str) (sz:Int) (T0:Tb) (R:List Tb),vs=[.ref a,.ref f]/\CvC CV H a z t zs/\FK H f sz T0 R/\zs.length<=12/\sortedS zs=true/\b5j z zs T0 R/\Ref CN H E
section
variable {P:Program}{w:World}{K:Fg0}{mg:Str->Option Value}{base:Heap}{CC CV PF CN CT:Addr}
theorem a8y {f_ fH fC fF fI fS fL aT:Addr}{fd fdH fdC fdF fdI fdS fdL:FuncData}(F:Fun K "before" "Rows.before" (a0w (top 40) 2) f_ fd)(B:Bl mg)(T:ClC K CC)(DI:Df K mg "columns_in" (top 35) fI fdI)(GI:a0x P w K mg base (CX1 P w) 4 fI fdI ["form","table"] (a7b CN))(DS:Df K mg "sort_of" (top 25) fS fdS)(GS:a0x P w K mg base CX0 2 fS fdS ["form","table"] a3o)(DL:Df K mg "is_plain" (top 14) fL fdL)(GL:a0x P w K mg base CX0 3 fL fdL ["thing"] a4T)(DH:Df K mg "head_of" (top 24) fH fdH)(DC:Df K mg "columns_of" (top 26) fC fdC)(GC:a0x P w K mg base CX0 2 fC fdC ["form","table"] a1G)(DF:Df K mg "ask_fit" (top 34) fF fdF)(GF:a0x P w K mg base (CX1 P w) 3 fF fdF ["fine"] (a6I CN))(mT:mg "SORT_OF_TUPLES"=some (.ref aT))(kT:b1s K aT (dts b0v)) :
  a0x P w K mg base (CX1 P w) 5 f_ fd ["self","form"] (a6o CC CN):=by
 have sc:a0o ["self","form","had","sort","head","columns"] ["self","form"] (a0f (a0w (top 40) 2)):=.k (by decide +kernel);have GH:a0x P w K mg base CX0 1 fH fdH ["form"] a3n:=a2M DH.fn;have bI:=DI.fn.b2 "form" "table" (by intros;rfl);have bS:=DS.fn.b2 "form" "table" (by intros;rfl);have bL:=DL.fn.b1 "thing" (by intros;rfl);have bH:=DH.fn.b1 "form" (by intros;rfl);have bC:=DC.fn.b2 "form" "table" (by intros;rfl);have bF:=DF.fn.b1 "fine" (by intros;rfl);refine F.x.okX sc (fun vs H Q E h=>?_) (fun cdv A outer s H vs Q E hr h=>?_)
 ·obtain⟨a,f,c,z,sz,T0,R,rfl,_⟩:=h
  rfl
 ·obtain⟨a,f,c,z,sz,T0,R,rfl,⟨dx,ha⟩,fk,bad,rf⟩:=h
  have hu:=a2s hr;have hr1:a1g 1 _:=hr.mono (by decide);have hr2:a1g 2 _:=hr.mono (by decide);have hr3:a1g 3 _:=hr.mono (by decide);refine⟨_,a0c (a0p (i:=2) sc.nd rfl (Or.inl rfl) (a1v GI hr (by rfl) DI.mg DI.fn.kp bI .nil a1q (a0a (pv 1) (a0a (a0M (pv 0) rfl) a0b))))
   (a0c (a0p (i:=3) sc.nd rfl (Or.inl rfl) (a0i GS hr2 (by rfl) DS.mg DS.fn.kp bS .nil a0q (a0a (pv 1) (a0a (a0M (pv 0) rfl) a0b))))
   (a0c (a0F (a1v GF hr3 (by rfl) DF.mg DF.fn.kp bF .nil a1q (a0a (a1y (a0Q a3i (pv 3) (a2l (v:=.ref aT) (by rfl) mT rfl) (by with_unfolding_all rfl)) (a1y (a0Q (a8Y (Nat.lt_of_succ_lt hu)) (a0V (a2W rfl) (by rfl) B.list boot_list (a0a (pv 2) a0b)) (a1r (a0a (a0M (pv 0) rfl) a0b)) (a0u _)) (a1M (a0i GL hr3 (by rfl) DL.mg DL.fn.kp bL .nil a0q (a0a (a2k hu (pv 2) (a0M (pv 0) rfl) (fun _ _=>rfl)) a0b))))) a0b)))
   (a0c (a0p (i:=4) sc.nd rfl (Or.inl rfl) (a0i GH hr1 (by rfl) DH.mg DH.fn.kp bH .nil a0q (a0a (pv 1) a0b)))
   (a0c (a0p (i:=5) sc.nd rfl (Or.inl rfl) (a0i GC hr2 (by rfl) DC.mg DC.fn.kp bC .nil a0q (a0a (pv 1) (a0a (pv 4) a0b))))
   (a0c (a0F (a1v GF hr3 (by rfl) DF.mg DF.fn.kp bF .nil a1q (a0a (a3E (a4e hu (a0M (pv 0) rfl) (pv 5))) a0b)))
   a0m))))),?_⟩
  obtain⟨U,hF,hU,fx,co,t8,tsU,eU⟩:=fk.get;have pN:=a1Y (T0:=T0) hU;have okc:=fk.co T0 List.mem_cons_self;refine⟨_,rfl,_,rfl,a,CC,dx,_,_,rfl,ha,T.cl,T.nS,a1N _ _,f,sz,cn T0::U,z,rfl,hF,t8,tsU.2.1,fun _=>rf,fun hz=>?_⟩;rcases bad with bad |⟨Tz,hTz,rfl,bad⟩
  ·exact absurd (pN.mem_iff.mp hz) bad
  have okz:=fk.co Tz hTz;have hTU:=b1B hU hTz;refine⟨cn Tz,hTU,rfl,okz.cn.1,okz.cn.2.1,fun hp H1 ys hph s1 py so1 e1=>?_⟩;have py':ys.Perm (Tz.cols.map (·.1)):=py.trans (by rw[show(cn Tz).cols=cnC Tz.cols from rfl,a0S];exact a0J _);refine⟨_,rfl,_,rfl,a,CC,dx,_,_,rfl,s1 _ _ ha,T.cl,T.nS,a1N _ _,f,sz,cn T0::U,cn Tz,rfl,hF.same s1,tsU.2.1,hTU,?_⟩;refine⟨_,rfl,Tz.sort,aT,dts b0v,rfl,rfl,kT,_,rfl,?_⟩;rcases bad with ⟨b1,b2⟩ |⟨hso,bad⟩
  ·rw[b2A b1 b2]
   exact a1Z ⟨false,rfl,(fun h=>nomatch h),fun _=>rf.pre s1⟩
  rw[(a7a hso).1];refine a3C ⟨_,rfl,hp,_,ys,rfl,.inl e1,(by rw[mC0];rfl),fun l1 hl1=>?_⟩;generalize hX:upd H1 l1 _=H2;obtain⟨T2,e2⟩:=gz hX hl1;have S2:=s1.trans T2;refine⟨_,rfl,a,CC,dx,_,_,rfl,S2 _ _ ha,T.cl,T.nC,a1i _ _,(by exact sl1),fun l2 hl2=>?_⟩;generalize hX:upd H2 l2 _=H3;obtain⟨T3,e3⟩:=gz hX hl2;have S3:=S2.trans T3;refine⟨l1,l2,ys,[c],rfl,rfl,SqL.of (T3 _ _ e2),SqL.of e3,_,rfl,?_⟩;rcases bad with bad |⟨v,d,ecz,rd,bad⟩
  ·have ne:ys≠[c]:=fun e=>bad (List.perm_singleton.mp (by rw[<-e];exact py'.symm))
   rw[dF0 ne];exact a1Z ⟨false,rfl,(fun h=>nomatch h),fun _=>rf.pre S3⟩
  rw[ecz] at py';obtain rfl:ys=[c]:=List.perm_singleton.mp py';rw[dT0 rfl];have e1':H1 hp=some (.dK [(.inr c,v)]):=by
   have:vOf (cn Tz).cols c=v:=by
    show vOf (cnC Tz.cols) c=v;rw[a2D (by rw[ecz];exact List.mem_cons_self),ecz];exact a0X (c:=[(c,v)]) (List.nodup_cons.mpr ⟨List.not_mem_nil,List.nodup_nil⟩) List.mem_cons_self
   rw[<-this];exact e1
  have hv:a2g [((.inr c:Key),v)] (.inr c)=some v:=a1K rfl;have hp3:=T3 _ _ (T2 _ _ e1');refine a3C ⟨_,rfl,_,rfl,a,CC,dx,_,_,rfl,S3 _ _ ha,T.cl,T.nC,a1i _ _,hp,_,rfl,.inl ⟨_,.inr c,.inl hp3,rfl,hv.symm⟩,v,d,rfl,rd.same S3,fun H4 s4=>?_⟩;have S4:=S3.trans s4;refine⟨a1E d,rfl,fun hpl=>?_,fun _=>rf.pre S4⟩;have hcm:c∈T0.cols.map (·.1):=by
   rcases bad with h |h
   ·rw[h] at hpl;cases hpl
   ·exact h.2
  refine⟨_,rfl,f,sz,cn T0,U,rfl,hF.same S4,?_⟩;refine⟨_,rfl,_,rfl,f,sz,cn T0::U,cn T0,rfl,hF.same S4,tsU.2.1,List.mem_cons_self,okc.cn.1,okc.cn.2.1,fun cp H5 ws hcp s5 pw _ e5=>?_⟩;have pw':ws.Perm (T0.cols.map (·.1)):=pw.trans (by rw[show(cn T0).cols=cnC T0.cols from rfl,a0S];exact a0J _);have e5':H5 cp=some (.dK (kvC (ws.map fun z=>(z,vOf (cn T0).cols z)))):=by rw[a2d];exact e5
  have nw:((ws.map fun z=>(z,vOf (cn T0).cols z)).map (·.1))=ws:=by rw[mC0];exact List.map_id' _
  have hv5:=a2Y (c:=ws.map fun z=>(z,vOf (cn T0).cols z)) (z:=c) (by rw[nw];exact pw'.mem_iff.mpr hcm);have S5:=S4.trans s5;exact⟨_,rfl,a,CC,dx,_,_,rfl,S5 _ _ ha,T.cl,T.nC,a1i _ _,_,rfl,cp,_,rfl,.inl ⟨_,.inr c,.inl e5',rfl,hv5.symm⟩,false,rfl,(fun h=>nomatch h),fun _=>rf.pre S5⟩
theorem a8i {f fS fH fC fF f3:Addr}{fd fdS fdH fdC fdF fd3:FuncData}(F:Fun K "after" "Cleave.after" (a0w (top 41) 1) f fd)(B:Bl mg)(T:ClV K CV)(DS:Df K mg "ask_new_side" (top 42) fS fdS)(GS:a0x P w K mg base (CX1 P w) 4 fS fdS ["form","side"] (b0b CN))(DH:Df K mg "head_of" (top 24) fH fdH)(DC:Df K mg "columns_of" (top 26) fC fdC)(GC:a0x P w K mg base CX0 2 fC fdC ["form","table"] a1G)(DF:Df K mg "ask_fit" (top 34) fF fdF)(GF:a0x P w K mg base (CX1 P w) 3 fF fdF ["fine"] (a6I CN))(m3:a6C K CV "tells_none_twice" f3)(g3:a0x P w K mg base CX0 1 f3 fd3 ["self"] (a6U CV))(b3:a1C K fd3 ["self"] []) :
  a0x P w K mg base (CX1 P w) 5 f fd ["self","form"] (a6r CV CN):=by
 have sc:a0o ["self","form","head","columns","lesser"] ["self","form"] (a0f (a0w (top 41) 1)):=.k (by decide +kernel);have GH:a0x P w K mg base CX0 1 fH fdH ["form"] a3n:=a2M DH.fn;have bS:=DS.fn.b2 "form" "side" (by intros;rfl);have bH:=DH.fn.b1 "form" (by intros;rfl);have bC:=DC.fn.b2 "form" "table" (by intros;rfl);have bF:=DF.fn.b1 "fine" (by intros;rfl);refine F.x.okX sc (fun vs H Q E h=>?_) (fun cdv A outer s H vs Q E hr h=>?_)
 ·obtain⟨a,f,t,z,zs,sz,T0,R,rfl,_⟩:=h
  rfl
 ·obtain⟨a,f,t,z,zs,sz,T0,R,rfl,cv,fk,z8,l12,bad,rf⟩:=h
  have hu:=a2s hr;have hr1:a1g 1 _:=hr.mono (by decide);have hr2:a1g 2 _:=hr.mono (by decide);have hr3:a1g 3 _:=hr.mono (by decide);refine⟨_,a0c (a0F (a1v GS hr (by rfl) DS.mg DS.fn.kp bS .nil a1q (a0a (pv 1) (a0a (a0M (pv 0) rfl) a0b))))
   (a0c (a0p (i:=2) sc.nd rfl (Or.inl rfl) (a0i GH hr1 (by rfl) DH.mg DH.fn.kp bH .nil a0q (a0a (pv 1) a0b)))
   (a0c (a0p (i:=3) sc.nd rfl (Or.inr rfl) (a0i GC hr2 (by rfl) DC.mg DC.fn.kp bC .nil a0q (a0a (pv 1) (a0a (pv 2) a0b))))
   (a0c (a0F (a1v GF hr3 (by rfl) DF.mg DF.fn.kp bF .nil a1q (a0a (a1y (a7F (pv 0) T.cl m3 g3 hr1 b3 .nil a0q) (a1M (a0k (a5s rfl) (by rfl) B.all boot_all (a0a (a1T (osc:=a0f (a0w (top 41) 1)) (N0:=["self","form","head","columns","lesser"]) (xs:=["column"]) (fr:=[3]) ⟨rfl,by decide +kernel,by decide +kernel,by decide +kernel,(fun j hj=>by
       have e:j=3:=by simpa using hj
       subst e;exact⟨_,rfl,by decide +kernel⟩),by decide +kernel⟩ rfl rfl rfl (a3p (a0M (pv 0) rfl))
      (fun s H fp=>a0E (i:=0) (show(["column","columns"]:List Str).Nodup by decide +kernel) rfl (Or.inl rfl)) (fun s H fp=>a1U)
      (fun s H fp=>a3E (a4I hu (pv 0) (pv 1)))) a0b)))) a0b)))
   a0m))),?_⟩
  obtain⟨U,hF,hU,fx,co,t8,tsU,eU⟩:=fk.get;have pN:=a1Y (T0:=T0) hU;obtain⟨dx,ha⟩:=cv.ex;have ht:=cv.t;have okc:=fk.co T0 List.mem_cons_self;refine⟨_,rfl,_,rfl,a,CV,dx,_,_,rfl,ha,T.cl,T.nS,a1R _ _,f,sz,cn T0::U,z,rfl,hF,t8,z8,fun hs H1 s1=>?_,fun _=>rf⟩;have hs':a0T z=true/\z∉(T0::R).map (·.name):=⟨hs.1,fun h=>hs.2 (pN.mem_iff.mpr h)⟩;refine⟨_,rfl,f,sz,cn T0,U,rfl,hF.same s1,?_⟩;refine⟨_,rfl,_,rfl,f,sz,cn T0::U,cn T0,rfl,hF.same s1,tsU.2.1,List.mem_cons_self,okc.cn.1,okc.cn.2.1,fun cp H2 ys hcp s2 py _ ecp=>?_⟩;have S2:=s1.trans s2;have py':ys.Perm (T0.cols.map (·.1)):=py.trans (by rw[show(cn T0).cols=cnC T0.cols from rfl,a0S];exact a0J _);have ecp':H2 cp=some (.dK (kvC (ys.map fun z=>(z,vOf (cn T0).cols z)))):=by rw[a2d];exact ecp
  have nc:((ys.map fun z=>(z,vOf (cn T0).cols z)).map (·.1))=ys:=by rw[mC0];exact List.map_id' _
  generalize ys.map (fun z=>(z,vOf (cn T0).cols z))=c1 at *;refine⟨_,rfl,a,dx,_,rfl,S2 _ _ ha,a2K _ _ (by decide +kernel) (by decide +kernel),a,t,z,zs,rfl,cv.same S2,l12,fun H3 s3=>⟨_,rfl,?_⟩⟩;have S3:=S2.trans s3;rcases bad with bad |bad |⟨y,hy,hyn⟩
  ·exact absurd hs' bad
  ·rw[dF0 bad]
   exact a1Z ⟨false,rfl,(fun h=>nomatch h),fun _=>rf.pre S3⟩
  by_cases nd:zs.Nodup
  ·rw[dT0 nd]
   refine a3C ⟨_,rfl,a,CV,dx,_,_,rfl,S3 _ _ ha,T.cl,T.nC,a1x _ _,t,rfl,⟨_,SqT.of (S3 _ _ ht)⟩,fun D hD=>?_⟩;have cp3:=s3 _ _ ecp';refine a1Q zs.length (fun i ys' σ' Hc=>(∃u,σ'=[u,some (.ref cp)])/\a0r H3 Hc/\ys'=((zs.take i).map fun x=>decide (x∈c1.map (·.1))).map V.bl) (by rw[sizeLine_eq];omega) ⟨⟨none,rfl⟩,a0r.upd hD,rfl⟩ a0d ?_ ?_
   ·rintro i σ' Hc ys' hi ⟨⟨u,rfl⟩,sm,rfl⟩ hyl hD'
    refine⟨⟨_,V.str zs[i],SqT.of (sm _ _ (S3 _ _ ht)),by rw[gM0,gE0 hi];rfl⟩,?_⟩;rintro x H' ⟨rfl,hx'⟩;have ex:=hx' _ (SqT.of (sm _ _ (S3 _ _ ht)));rw[gM0,gE0 hi] at ex;cases ex;refine⟨_,rfl,_,rfl,cp,a2g (kvC c1) (.inr zs[i]),rfl,.inl ⟨_,.inr zs[i],.inl (sm _ _ cp3),rfl,rfl⟩,hD',⟨_,rfl⟩,sm.put hD,?_⟩;rw[List.take_succ,gE0 hi,mA0,mA0];show _++[V.bl (a2g (kvC c1) (.inr zs[i])).isSome]=_++[V.bl (decide (zs[i]∈c1.map (·.1)))]
    by_cases hm:zs[i]∈c1.map (·.1)
    ·rw[a2Y hm,dT0 hm]
     rfl
    ·rw[dF0 hm]
     cases e:a2g (kvC c1) (.inr zs[i]) with
     |none=>rfl
     |some v=>exact absurd (a2B e) hm
   ·rintro σ' Hc ys' ⟨_,sm,rfl⟩ hDn hyl
    refine⟨⟨_,SqT.of (sm _ _ (S3 _ _ ht)),by rw[lM0];exact nR0 _⟩,D,_,rfl,SqL.of hDn,false,?_,(fun h=>nomatch h),fun _=>rf.pre (S3.trans sm)⟩;rw[List.take_length]
    show[V.bl ((zs.map fun x=>decide (x∈c1.map (·.1))).all id)]=[V.bl false]
    have:(zs.map fun x=>decide (x∈c1.map (·.1))).all id=false:=by
     rw[List.all_eq_false];refine⟨_,mM0.mpr ⟨y,hy,rfl⟩,?_⟩
     have:y∉c1.map (·.1):=by rw[nc];exact fun h=>hyn (py'.mem_iff.mp h)
     rw[dF0 this];exact bF0
    rw[this]
  ·rw[dF0 nd]
   exact a1Z ⟨false,rfl,(fun h=>nomatch h),fun _=>rf.pre S3⟩
theorem a6Z {f_ fH fC fF fI fS:Addr}{fd fdH fdC fdF fdI fdS:FuncData}(F:Fun K "before" "Cleave.before" (a0w (top 41) 2) f_ fd)(B:Bl mg)(T:ClV K CV)(DI:Df K mg "columns_in" (top 35) fI fdI)(GI:a0x P w K mg base (CX1 P w) 4 fI fdI ["form","table"] (a7b CN))(DS:Df K mg "sort_of" (top 25) fS fdS)(GS:a0x P w K mg base CX0 2 fS fdS ["form","table"] a3o)(DH:Df K mg "head_of" (top 24) fH fdH)(DC:Df K mg "columns_of" (top 26) fC fdC)(GC:a0x P w K mg base CX0 2 fC fdC ["form","table"] a1G)(DF:Df K mg "ask_fit" (top 34) fF fdF)(GF:a0x P w K mg base (CX1 P w) 3 fF fdF ["fine"] (a6I CN)) :
  a0x P w K mg base (CX1 P w) 5 f_ fd ["self","form"] (a4Q CV CN):=by
 have sc:a0o ["self","form","had","head","columns"] ["self","form"] (a0f (a0w (top 41) 2)):=.k (by decide +kernel);have GH:a0x P w K mg base CX0 1 fH fdH ["form"] a3n:=a2M DH.fn;have bI:=DI.fn.b2 "form" "table" (by intros;rfl);have bS:=DS.fn.b2 "form" "table" (by intros;rfl);have bH:=DH.fn.b1 "form" (by intros;rfl);have bC:=DC.fn.b2 "form" "table" (by intros;rfl);have bF:=DF.fn.b1 "fine" (by intros;rfl);refine F.x.okX sc (fun vs H Q E h=>?_) (fun cdv A outer s H vs Q E hr h=>?_)
 ·obtain⟨a,f,t,z,zs,sz,T0,R,rfl,_⟩:=h
  rfl
 ·obtain⟨a,f,t,z,zs,sz,T0,R,rfl,cv,fk,l12,soz,bad,rf⟩:=h
  have hu:=a2s hr;have hr1:a1g 1 _:=hr.mono (by decide);have hr2:a1g 2 _:=hr.mono (by decide);have hr3:a1g 3 _:=hr.mono (by decide);refine⟨_,a0c (a0p (i:=2) sc.nd rfl (Or.inl rfl) (a1v GI hr (by rfl) DI.mg DI.fn.kp bI .nil a1q (a0a (pv 1) (a0a (a0M (pv 0) rfl) a0b))))
   (a0c (a0F (a1v GF hr3 (by rfl) DF.mg DF.fn.kp bF .nil a1q (a0a (a0Q a1k (a0i GS hr2 (by rfl) DS.mg DS.fn.kp bS .nil a0q (a0a (pv 1) (a0a (a0M (pv 0) rfl) a0b))) a0v (a0u _)) a0b)))
   (a0c (a0F (a1v GF hr3 (by rfl) DF.mg DF.fn.kp bF .nil a1q (a0a (a0Q (a8Y (Nat.lt_of_succ_lt hu)) (a0V (a2W rfl) (by rfl) B.list boot_list (a0a (pv 2) a0b)) (a0V a3H (by rfl) B.list boot_list (a0a (a0M (pv 0) rfl) a0b)) (a0u _)) a0b)))
   (a0c (a0p (i:=3) sc.nd rfl (Or.inl rfl) (a0i GH hr1 (by rfl) DH.mg DH.fn.kp bH .nil a0q (a0a (pv 1) a0b)))
   (a0c (a0p (i:=4) sc.nd rfl (Or.inr rfl) (a0i GC hr2 (by rfl) DC.mg DC.fn.kp bC .nil a0q (a0a (pv 1) (a0a (pv 3) a0b))))
   (a0c (a0F (a1v GF hr3 (by rfl) DF.mg DF.fn.kp bF .nil a1q (a0a (a9r (a0k (a7o rfl) (by rfl) B.any boot_any (a0a (a1T (osc:=a0f (a0w (top 41) 2)) (N0:=["self","form","had","head","columns"]) (xs:=["column"]) (fr:=[4]) ⟨rfl,by decide +kernel,by decide +kernel,by decide +kernel,(fun j hj=>by
       have e:j=4:=by simpa using hj
       subst e;exact⟨_,rfl,by decide +kernel⟩),by decide +kernel⟩ rfl rfl rfl (a3p (a0M (pv 0) rfl))
      (fun s H fp=>a0E (i:=0) (show(["column","columns"]:List Str).Nodup by decide +kernel) rfl (Or.inl rfl)) (fun s H fp=>a1U)
      (fun s H fp=>a3E (a4I hu (pv 0) (pv 1)))) a0b))) a0b)))
   a0m))))),?_⟩
  obtain⟨U,hF,hU,fx,co,t8,tsU,eU⟩:=fk.get;have pN:=a1Y (T0:=T0) hU;obtain⟨dx,ha⟩:=cv.ex;have ht:=cv.t;have okc:=fk.co T0 List.mem_cons_self;refine⟨_,rfl,_,rfl,a,CV,dx,_,_,rfl,ha,T.cl,T.nS,a1R _ _,f,sz,cn T0::U,z,rfl,hF,t8,tsU.2.1,fun _=>rf,fun hz=>?_⟩;rcases bad with bad |⟨Tz,hTz,rfl,bad⟩
  ·exact absurd (pN.mem_iff.mp hz) bad
  have okz:=fk.co Tz hTz;have hTU:=b1B hU hTz;refine⟨cn Tz,hTU,rfl,okz.cn.1,okz.cn.2.1,fun hp H1 ys hph s1 py so1 e1=>?_⟩;have py':ys.Perm (Tz.cols.map (·.1)):=py.trans (by rw[show(cn Tz).cols=cnC Tz.cols from rfl,a0S];exact a0J _);refine⟨_,rfl,_,rfl,a,CV,dx,_,_,rfl,s1 _ _ ha,T.cl,T.nS,a1R _ _,f,sz,cn T0::U,cn Tz,rfl,hF.same s1,tsU.2.1,hTU,rfl,decide (V.str Tz.sort=V.str "twin"),rfl,fun htw=>?_,fun _=>rf.pre s1⟩;have htw':Tz.sort="twin":=by have:=of_decide_eq_true htw;injection this
  refine⟨_,rfl,hp,_,ys,rfl,.inl e1,(by rw[mC0];rfl),fun l1 hl1=>?_⟩;generalize hX:upd H1 l1 _=H2;obtain⟨T2,e2⟩:=gz hX hl1;have S2:=s1.trans T2;refine⟨_,rfl,a,CV,dx,_,_,rfl,S2 _ _ ha,T.cl,T.nC,a1x _ _,t,_,rfl,.inr (SqT.of (S2 _ _ ht)),fun l2 hl2=>?_⟩;generalize hX:upd H2 l2 _=H3;obtain⟨T3,e3⟩:=gz hX hl2;have S3:=S2.trans T3;refine⟨l1,l2,ys,zs,rfl,rfl,SqL.of (T3 _ _ e2),SqL.of e3,decide (ys=zs),rfl,fun heq=>?_,fun _=>rf.pre S3⟩;obtain rfl:=of_decide_eq_true heq;obtain⟨y,hy,hyn⟩:∃y∈ys,y∈T0.cols.map (·.1):=by
   rcases bad with b |⟨_,b |⟨_,b⟩⟩
   ·exact absurd htw' b
   ·exact absurd py' b
   ·exact b
  refine⟨_,rfl,f,sz,cn T0,U,rfl,hF.same S3,?_⟩;refine⟨_,rfl,_,rfl,f,sz,cn T0::U,cn T0,rfl,hF.same S3,tsU.2.1,List.mem_cons_self,okc.cn.1,okc.cn.2.1,fun cp H4 ws hcp s4 pw _ e4=>?_⟩;have pw':ws.Perm (T0.cols.map (·.1)):=pw.trans (by rw[show(cn T0).cols=cnC T0.cols from rfl,a0S];exact a0J _);have e4':H4 cp=some (.dK (kvC (ws.map fun z=>(z,vOf (cn T0).cols z)))):=by rw[a2d];exact e4
  have nc:((ws.map fun z=>(z,vOf (cn T0).cols z)).map (·.1))=ws:=by rw[mC0];exact List.map_id' _
  generalize ws.map (fun z=>(z,vOf (cn T0).cols z))=c1 at *;have S4:=S3.trans s4;refine⟨_,rfl,a,CV,dx,_,_,rfl,S4 _ _ ha,T.cl,T.nC,a1x _ _,t,rfl,⟨_,SqT.of (S4 _ _ ht)⟩,fun D hD=>?_⟩;refine a1Q ys.length (fun i ys' σ' Hc=>(∃u,σ'=[u,some (.ref cp)])/\a0r H4 Hc/\ys'=((ys.take i).map fun x=>decide (x∈c1.map (·.1))).map V.bl) (by rw[sizeLine_eq];omega) ⟨⟨none,rfl⟩,a0r.upd hD,rfl⟩ a0d ?_ ?_
  ·rintro i σ' Hc ys' hi ⟨⟨u,rfl⟩,sm,rfl⟩ hyl hD'
   refine⟨⟨_,V.str ys[i],SqT.of (sm _ _ (S4 _ _ ht)),by rw[gM0,gE0 hi];rfl⟩,?_⟩;rintro x H' ⟨rfl,hx'⟩;have ex:=hx' _ (SqT.of (sm _ _ (S4 _ _ ht)));rw[gM0,gE0 hi] at ex;cases ex;refine⟨_,rfl,_,rfl,cp,a2g (kvC c1) (.inr ys[i]),rfl,.inl ⟨_,.inr ys[i],.inl (sm _ _ e4'),rfl,rfl⟩,hD',⟨_,rfl⟩,sm.put hD,?_⟩;rw[List.take_succ,gE0 hi,mA0,mA0];show _++[V.bl (a2g (kvC c1) (.inr ys[i])).isSome]=_++[V.bl (decide (ys[i]∈c1.map (·.1)))]
   by_cases hm:ys[i]∈c1.map (·.1)
   ·rw[a2Y hm,dT0 hm]
    rfl
   ·rw[dF0 hm]
    cases e:a2g (kvC c1) (.inr ys[i]) with
    |none=>rfl
    |some v=>exact absurd (a2B e) hm
  ·rintro σ' Hc ys' ⟨_,sm,rfl⟩ hDn hyl
   refine⟨⟨_,SqT.of (sm _ _ (S4 _ _ ht)),by rw[lM0];exact nR0 _⟩,D,_,rfl,SqL.of hDn,_,rfl,false,?_,(fun h=>nomatch h),fun _=>rf.pre (S4.trans sm)⟩;rw[List.take_length]
   show[V.bl (!((ys.map fun x=>decide (x∈c1.map (·.1))).any id))]=[V.bl false]
   have:(ys.map fun x=>decide (x∈c1.map (·.1))).any id=true:=by
    rw[List.any_eq_true];refine⟨_,mM0.mpr ⟨y,hy,rfl⟩,?_⟩;exact dT0 (by rw[nc];exact pw'.mem_iff.mpr hyn)
   rw[this]
   rfl
end
theorem b1c {a b:Str}{v u:V}(h:a≠b):a3s [((.inr a:Key),v)] (.inr b) u=[(.inr a,v),(.inr b,u)]:=by
 unfold a3s;rw[if_neg]
 ·rfl
 ·simp[h]
theorem b5v {a b c:Str}{v u x:V}(h1:a≠c)(h2:b≠c):a3s [((.inr a:Key),v),(.inr b,u)] (.inr c) x=[(.inr a,v),(.inr b,u),(.inr c,x)]:=by
 unfold a3s;rw[if_neg]
 ·rfl
 ·simp[h1,h2]
theorem a7J {a b:Str}{v u:V}(h:a≠b):a0A [] [((.inr a:Key),v),(.inr b,u)]=[(.inr a,v),(.inr b,u)]:=b1c h
theorem b4z {a b c:Str}{v u x:V}(h:a≠b)(h1:a≠c)(h2:b≠c):a0A [] [((.inr a:Key),v),(.inr b,u),(.inr c,x)]=[(.inr a,v),(.inr b,u),(.inr c,x)]:=by
 show a3s (a3s [((.inr a:Key),v)] (.inr b) u) (.inr c) x=_;rw[b1c h,b5v h1 h2]
abbrev nmL (nm:Nat->Str):List V:=(List.range 6).map fun i=>V.str (nm i)
structure Nm6 (nm:Nat->Str):Prop where
 inj:∀i j,i<6->j<6->nm i=nm j->i=j
 ok:∀i,i<6->a0T (nm i)=true
theorem Nm6.ne {nm:Nat->Str}(h:Nm6 nm){i j:Nat}(hi:i<6:=by decide)(hj:j<6:=by decide)(n:i≠j:=by decide):nm i≠nm j:=fun e=>n (h.inj i j hi hj e)
theorem a0Z (nm:Nat->Str){i:Nat}(hi:i<6):atI (nmL nm) (i:Int)=some (.str (nm i)):=a0P (by rw[gM0,List.getElem?_range hi];rfl)
inductive ClR (H:Hp):List (Str×V)->List (Str×Dt)->Prop
 |nil:ClR H [] []
 |cons {z:Str} {v:V} {d:Dt} {ks:List (Str×V)} {ds:List (Str×Dt)} (r:Rep H d v) (k:a1H d=true/\a1V d=true) (t:ClR H ks ds):ClR H ((z,v)::ks) ((z,d)::ds)
theorem ClR.imp {H H':Hp}{ks:List (Str×V)}{ds:List (Str×Dt)}(h:ClR H ks ds)(f:∀{d v},a1V d=true->Rep H d v->Rep H' d v):ClR H' ks ds:=by
 induction h with
 |nil=>exact .nil
 |cons r k _ ih=>exact .cons (f k.2 r) k ih
theorem ClR.same {H H':Hp}{ks:List (Str×V)}{ds:List (Str×Dt)}(h:ClR H ks ds)(s:a0r H H'):ClR H' ks ds:=h.imp fun _ r=>r.same s
theorem ClR.sb {H H':Hp}{ks:List (Str×V)}{ds:List (Str×Dt)}(h:ClR H ks ds)(s:Sb H H'):ClR H' ks ds:=h.imp fun _ r=>Rep.sb s r
theorem ClR.bes {H:Hp}{ks:List (Str×V)}{ds:List (Str×Dt)}{a:Addr}{o:HO}{u:HO}(h:ClR H ks ds)(e:H a=some o)(n:∀xs,o≠.tup xs):ClR (upd H a u) ks ds:=h.imp fun hn r=>Rep.beside (fun xs h=>n xs (by rw[e] at h;injection h)) hn r
theorem ClR.nm {H:Hp}{ks:List (Str×V)}{ds:List (Str×Dt)}(h:ClR H ks ds):ks.map (·.1)=ds.map (·.1):=by
 induction h with
 |nil=>rfl
 |cons _ _ _ ih=>rw[mN0,mN0,ih]
theorem ClR.len {H:Hp}{ks:List (Str×V)}{ds:List (Str×Dt)}(h:ClR H ks ds):ks.length=ds.length:=by have:=congrArg List.length h.nm;rwa [lM0,lM0] at this
theorem ClR.snoc {H:Hp}{ks:List (Str×V)}{ds:List (Str×Dt)}{z:Str}{v:V}{d:Dt}(h:ClR H ks ds)(r:Rep H d v)(k:a1H d=true/\a1V d=true):ClR H (ks++[(z,v)]) (ds++[(z,d)]):=by
 induction h with
 |nil=>exact .cons r k .nil
 |cons r' k' _ ih=>exact .cons r' k' ih
theorem ClR.lo {H:Hp}{ks:List (Str×V)}{ds:List (Str×Dt)}(h:ClR H ks ds)(z:Str):ClR H (My.lo ks z) (ds.filter fun d=>decide (d.1≠z)):=by
 induction h with
 |nil=>exact .nil
 |@cons y v d ks ds r k _ ih=>
  unfold My.lo at ih ⊢
  by_cases e:y=z
  ·rw[List.filter_cons_of_neg (by simp[e]),List.filter_cons_of_neg (by simp[e])]
   exact ih
  ·rw[List.filter_cons_of_pos (by simp[e]),List.filter_cons_of_pos (by simp[e])]
   exact .cons r k ih
theorem ClR.rep {H:Hp}{ks:List (Str×V)}{ds:List (Str×Dt)}(h:ClR H ks ds){x:Str×V}(hx:x∈ks):∃d,(x.1,d)∈ds/\Rep H d x.2/\a1H d=true/\a1V d=true:=by
 induction h with
 |nil=>cases hx
 |cons r k _ ih=>
  rcases mK0.mp hx with rfl |hx
  ·exact⟨_,List.mem_cons_self,r,k⟩
  ·obtain⟨d,a,b⟩:=ih hx
   exact⟨d,mL0 _ a,b⟩
theorem ClR.at {H:Hp}{ks:List (Str×V)}{ds:List (Str×Dt)}(h:ClR H ks ds)(nd:(ds.map (·.1)).Nodup){z:Str}{d:Dt}(hz:(z,d)∈ds):z∈ks.map (·.1)/\Rep H d (vOf ks z)/\a1H d=true:=by
 have hm:z∈ks.map (·.1):=by rw[h.nm];exact mM0.mpr ⟨_,hz,rfl⟩
 refine⟨hm,?_⟩;obtain⟨x,hx,rfl⟩:=mM0.mp hm;obtain⟨d',hd',r,k,_⟩:=h.rep hx
 have:d'=d:=by
  have:=b1V (f:=fun x:Str×Dt=>x.1) nd hd' hz rfl
  injection this
 rw[a0X (by rw[h.nm];exact nd) hx];exact⟨this▸r,this▸k⟩
theorem ClR.cols {H:Hp}{ks:List (Str×V)}{ds:List (Str×Dt)}(h:ClR H ks ds)(nd:(ds.map (·.1)).Nodup)(l:ds.length<=12)(ok:∀d∈ds,a0T d.1=true):a0G H ks:=⟨by rw[h.nm];exact nd,by rw[h.len];exact l,fun x hx=>by
 obtain⟨d,hd,r,k⟩:=h.rep hx;exact⟨ok _ hd,d,r,k⟩⟩
theorem b1j {c:List (Str×V)}{z:Str}(h:z∉c.map (·.1)):a2g (kvC c) (.inr z)=none:=by
 cases e:a2g (kvC c) (.inr z) with
 |none=>rfl
 |some v=>exact absurd (a2B e) h
theorem a3V {c:List (Str×V)}{z:Str}{v:V}(h:z∉c.map (·.1)):a3s (kvC c) (.inr z) v=kvC (c++[(z,v)]):=by
 rw[L2.a5w _ (b1j h)];unfold kvC;rw[mA0]
 rfl
theorem a5o {H:Hp}{a:Addr}{z:Str}(h:H a=some (.tup [.str z]))(l:z.length<=1000):Rep H (.tup [.str z]) (.ref a):=by
 simp only[Rep,a2e];exact⟨a,_,rfl,h,_,_,rfl,⟨rfl,l⟩,rfl⟩
theorem a2h {H:Hp}{a:Addr}{z:Str}{v:V}{d:Dt}(h:H a=some (.tup [.str z,v]))(l:z.length<=1000)(r:Rep H d v):Rep H (.tup [.str z,d]) (.ref a):=by
 simp only[Rep,a2e];exact⟨a,_,rfl,h,_,_,rfl,⟨rfl,l⟩,v,[],rfl,r,rfl⟩
def dW:Dt:=.tup [.str "whole"]
def dWd:Dt:=.tup [.str "word"]
def dKy:Dt:=.tup [.str "key"]
def dOn (so:Str)(d:Dt):Dt:=.tup [.str so,d]
theorem kW:a1H dW=true/\a1V dW=true:=by decide +kernel
theorem kWd:a1H dWd=true/\a1V dWd=true:=by decide +kernel
theorem kKy:a1H dKy=true/\a1V dKy=true:=by decide +kernel
theorem rW {H:Hp}{p:Addr}(h:H p=some (.tup [.str "whole"])):Rep H dW (.ref p):=a5o h (by decide +kernel)
theorem rWd {H:Hp}{p:Addr}(h:H p=some (.tup [.str "word"])):Rep H dWd (.ref p):=a5o h (by decide +kernel)
theorem rKy {H:Hp}{p:Addr}(h:H p=some (.tup [.str "key"])):Rep H dKy (.ref p):=a5o h (by decide +kernel)
def b6y:List Str:=["","Side","abcdefghi","a b","a1","a_b"," a","a-"]
def odd (c:Int):Str:=b6y.getD (c%8).toNat ""
theorem a5S (c:Int):atI (b6y.map V.str) (c%8)=some (.str (odd c))/\a0T (odd c)=false/\(odd c).length<=1000:=by
 have h:c%8=0\/c%8=1\/c%8=2\/c%8=3\/c%8=4\/c%8=5\/c%8=6\/c%8=7:=by omega
 unfold odd;rcases h with h |h |h |h |h |h |h |h<;>rw[h]<;>exact⟨by decide +kernel,by decide +kernel,by decide +kernel⟩
def b2N:Sp:=fun vs H Q _=>∃c:Int,vs=[.int c]/\∀H',a0r H H'->Q (.str (odd c)) H'
def soL (c:Int):Str:=if c%2=0 then "list" else "some"
theorem a5e (c:Int):atI [V.str "list",.str "some"] (c%2)=some (.str (soL c))/\atI [V.str "many",.str "some"] (c%2)=some (.str (a1m (soL c)))/\(soL c="list"\/soL c="some"):=by
 have h:c%2=0\/c%2=1:=by omega
 unfold soL;rcases h with h |h<;>rw[h]<;>exact⟨by decide +kernel,by decide +kernel,by decide +kernel⟩
def d4 (c:Int):Dt:=if c%4=0 then dW else if c%4=1 then dWd else if c%4=2 then dKy else dOn "once" dW
def dR0 (nm:Nat->Str)(c:Int):List (Str×Dt):=[(nm 2,dOn (soL c) dW),(nm 3,dW)]
def dR1 (nm:Nat->Str)(ft c:Int):List (Str×Dt):=if ft=0 then[(nm 3,dW)] else dR0 nm c
def dR2 (nm:Nat->Str)(ft c:Int):List (Str×Dt):=if ft=1 then[(nm 2,d4 c),(nm 3,dW)] else dR1 nm ft c
def sR2 (nm:Nat->Str)(ft:Int):Str:=if ft=2 then nm 0 else nm 1
def sR3 (nm:Nat->Str)(ft:Int):Str:=if ft=3 then nm 4 else sR2 nm ft
def sR (nm:Nat->Str)(ft c:Int):Str:=if ft=4 then odd c else sR3 nm ft
def b6s (CC:Addr):Sp:=fun vs H Q _=>∃(nl:Addr) (nm:Nat->Str) (ft c:Int),vs=[.ref nl,.int ft,.int c]/\H nl=some (.lst (nmL nm))/\Nm6 nm/\∀l mv f wd ks H',a0r H H'->H l=none->H' l=some (.lst [.ref mv,.ref f,.bl true])->CvA CC H' mv (nm 2) (sR nm ft c)->FK H' f 5 ⟨nm 0,"head",ks⟩ [⟨nm 4,"twin",[(nm 5,.ref wd)]⟩]->ClR H' ks (dR2 nm ft c)->Q (.ref l) H'
theorem b3s {so:Str}(h:so="list"\/so="some"):a1H (dOn so dW)=true/\a1V (dOn so dW)=true:=⟨a5X h (by decide +kernel),by rcases h with e |e<;>rw[e]<;>decide +kernel⟩
theorem a8P {so:Str}(h:so="list"\/so="some"):so.length<=1000:=by rcases h with e |e<;>rw[e]<;>decide +kernel
section
variable {P:Program}{w:World}{K:Fg0}{mg:Str->Option Value}{base:Heap}{CC PF:Addr}
theorem b1Q {f:Addr}{fd:FuncData}(F:Fun K "_law_odd" "_law_odd" (top 50) f fd):a0x P w K mg base CX0 1 f fd ["_law_cell_here"] b2N:=by
 have sc:a0o ["_law_cell_here"] ["_law_cell_here"] (a0f (top 50)):=.k (by decide +kernel);refine F.ok sc (fun vs H Q E h=>?_) (fun cdv A outer s H vs Q E hr h=>?_)
 ·obtain⟨c,rfl,_⟩:=h
  rfl
 ·obtain⟨c,rfl,q⟩:=h
  refine⟨_,a0h (a0z (a0s a0j (a1r (a0a a0v (a0a a0v (a0a a0v (a0a a0v (a0a a0v (a0a a0v (a0a a0v (a0a a0v a0b))))))))) (a1p a1A (pv 0) a0e) (fun _ _=>rfl))),?_⟩;exact⟨(by exact sl8),fun l hl=>⟨_,rfl,_,_,rfl,rfl,pos rfl,l,_,_,_,rfl,rfl,SqL.of a0d,(a5S c).1,q _ (a0r.upd hl)⟩⟩
theorem a0H {ft k:Int}{p q:Prop}(h1:ft=k->p)(h2:ft≠k->q):if decide (V.int ft=V.int k)=true then p else q:=by
 by_cases e:ft=k
 ·rw[if_pos (dT0 (by rw[e]))]
  exact h1 e
 ·rw[if_neg (by simpa using e)]
  exact h2 e
theorem b6e (c:Int):a1H (d4 c)=true/\a1V (d4 c)=true:=by
 unfold d4
 split
 ·exact kW
 ·split
  ·exact kWd
  ·split
   ·exact kKy
   ·decide +kernel
theorem b5S {H:Hp}{p0 p1 p2 p3 w3:Addr}(c:Int)(h0:H p0=some (.tup [.str "whole"]))(h1:H p1=some (.tup [.str "word"]))(h2:H p2=some (.tup [.str "key"]))(h3:H p3=some (.tup [.str "once",.ref w3]))(h4:H w3=some (.tup [.str "whole"])):∃v,atI [V.ref p0,.ref p1,.ref p2,.ref p3] (c%4)=some v/\Rep H (d4 c) v:=by
 have h:c%4=0\/c%4=1\/c%4=2\/c%4=3:=by omega
 unfold d4;rcases h with h |h |h |h<;>rw[h]
 ·exact⟨.ref p0,rfl,rW h0⟩
 ·exact⟨.ref p1,rfl,rWd h1⟩
 ·exact⟨.ref p2,rfl,rKy h2⟩
 ·exact⟨.ref p3,rfl,a2h h3 (by decide +kernel) (rW h4)⟩
theorem nd2 {a b:Str}(h:a≠b){x y:Dt}:(([(a,x),(b,y)]:List (Str×Dt)).map (·.1)).Nodup:=by
 show[a,b].Nodup
 simp[h]
theorem b1x {nm:Nat->Str}(N:Nm6 nm)(ft c:Int):((dR2 nm ft c).map (·.1)).Nodup/\(dR2 nm ft c).length<=2/\∀d∈dR2 nm ft c,a0T d.1=true:=by
 have ok:∀x y:Dt,∀d∈[(nm 2,x),(nm 3,y)],a0T d.1=true:=fun x y d hd=>by
  rcases mK0.mp hd with rfl |hd
  ·exact N.ok 2 (by decide)
  ·rw[mS0.mp hd];exact N.ok 3 (by decide)
 unfold dR2 dR1 dR0
 split
 ·exact⟨nd2 N.ne,nR0 _,ok _ _⟩
 ·split
  ·exact⟨List.nodup_cons.mpr ⟨List.not_mem_nil,List.nodup_nil⟩,Nat.le_succ 1,fun d hd=>by rw[mS0.mp hd];exact N.ok 3 (by decide)⟩
  ·exact⟨nd2 N.ne,nR0 _,ok _ _⟩
theorem b2F {H:Hp}{f:Addr}{n0:Str}{c0:List (Str×V)}{Us Rs:List Tb}(fo:a1f H f 5 (⟨n0,"head",c0⟩::Us))(p:Us.Perm Rs)(ri:a5M (Us.map (·.name)))(l:Rs.length<=7)(nd:(n0::Rs.map (·.name)).Nodup)(ok0:a0T n0=true/\a0G H c0)(ok:∀T∈Rs,a0T T.name=true/\T.sort∈a1S/\a0G H T.cols):FK H f 5 ⟨n0,"head",c0⟩ Rs:=⟨FAt.of fo rfl p (.refl _) ri,⟨l,nd,(fun T hT=>by
 rcases mK0.mp hT with rfl |hT
 ·exact ok0.1
 ·exact(ok T hT).1),rfl,fun T hT=>(ok T hT).2.1⟩,(fun T hT=>by
 rcases mK0.mp hT with rfl |hT
 ·exact ok0.2
 ·exact(ok T hT).2.2),by decide⟩
theorem a5m {H:Hp}{z:Str}{v:V}{d:Dt}(h:a0T z=true)(r:Rep H d v)(k:a1H d=true/\a1V d=true):a0G H [(z,v)]:=⟨List.nodup_cons.mpr ⟨List.not_mem_nil,List.nodup_nil⟩,(by show 1<=12;decide),fun x hx=>by rw[mS0.mp hx];exact⟨h,d,r,k⟩⟩
theorem a4W {H:Hp}{d:Addr}{c:List (Str×V)}(e:H d=some (.dK (kvC c)))(o:a0G H c):TbD H d c:=⟨e,o.1,o.2.1⟩
theorem b5p {f fO fF fI:Addr}{fd fdO fdF fdI:FuncData}(F:Fun K "_law_rows_old" "_law_rows_old" (top 51) f fd)(B:Bl mg)(T:ClC K CC)(DO:Df K mg "_law_odd" (top 50) fO fdO)(DF:Df K mg "_law_form" (top 49) fF fdF)(MK:Mk K CC fI)(FI:Fun K "__init__" "Rows.__init__" (a0w (top 40) 0) fI fdI)(mC:mg "Rows"=some (.ref CC)):a0x P w K mg base CX0 3 f fd ["_law_names_here","_law_fault","_law_cell_here"] (b6s CC):=by
 have sc:a0o ["_law_names_here","_law_fault","_law_cell_here","_law_kinds","_law_side"] ["_law_names_here","_law_fault","_law_cell_here"] (a0f (top 51)):=.k (by decide +kernel);have GO:a0x P w K mg base CX0 1 fO fdO ["_law_cell_here"] b2N:=b1Q DO.fn;have bO:=DO.fn.b1 "_law_cell_here" (by intros;rfl);have GF:a0x P w K mg base CX0 1 fF fdF ["_law_size","_law_head","_law_columns","_law_sides"] b0h:=a8a DF.fn B;have bF:=DF.fn.b4 "_law_size" "_law_head" "_law_columns" "_law_sides" (by intros;rfl);have GI:a0x P w K mg base CX0 1 fI fdI ["self","column","side"] (a7l CC):=a7D FI T;have bI:=FI.b3 "self" "column" "side" (by intros;rfl);refine F.ok sc (fun vs H Q E h=>?_) (fun cdv A outer s H vs Q E hr h=>?_)
 ·obtain⟨nl,nm,ft,c,rfl,_⟩:=h
  rfl
 ·obtain⟨nl,nm,ft,c,rfl,hnl,N,q⟩:=h
  have hu:=a2s hr;have hr1:a1g 1 _:=hr.mono (by decide);refine⟨_,(a0c (a0p (i:=3) sc.nd rfl (Or.inl rfl) (a1t (a0R (a0s a0j (pv 0) a0e (fun _ _=>rfl)) (a0D (a0a (a0s a0j (a1r (a0a a0v (a0a a0v a0b))) (a1p a1A (pv 2) a0e) (fun _ _=>rfl)) (a0a (a0D (a0a a0v a0b)) a0b))) (a0R (a0s a0j (pv 0) a0e (fun _ _=>rfl)) (a0D (a0a a0v a0b)) a1s)) rfl rfl (by simp) (by decide)))
   (a0c (a0p (i:=4) sc.nd rfl (Or.inl rfl) (a0s a0j (pv 0) a0e (fun _ _=>rfl)))
   (a0c (a0I (a0C (a0t a1k (pv 1) a0e (a0u _)) (a0h (a0F (a3l (pv 3) (a0s a0j (pv 0) a0e (fun _ _=>rfl)) ⟨rfl,rfl,rfl,rfl⟩))) a0l))
   (a0c (a0I (a0C (a0t a1k (pv 1) a0e (a0u _)) (a0h (a2L hu (pv 3) (a0s a0j (pv 0) a0e (fun _ _=>rfl)) (a0s a0j (a1r (a0a (a0D (a0a a0v a0b)) (a0a (a0D (a0a a0v a0b)) (a0a (a0D (a0a a0v a0b)) (a0a (a0D (a0a a0v (a0a (a0D (a0a a0v a0b)) a0b))) a0b))))) (a1p a1A (pv 2) a0e) (fun _ _=>rfl)) rfl)) a0l))
   (a0c (a0I (a0C (a0t a1k (pv 1) a0e (a0u _)) (a0h (a0p (i:=4) sc.nd rfl (Or.inl rfl) (a0s a0j (pv 0) a0e (fun _ _=>rfl)))) a0l))
   (a0c (a0I (a0C (a0t a1k (pv 1) a0e (a0u _)) (a0h (a0p (i:=4) sc.nd rfl (Or.inl rfl) (a0s a0j (pv 0) a0e (fun _ _=>rfl)))) a0l))
   (a0c (a0I (a0C (a0t a1k (pv 1) a0e (a0u _)) (a0h (a0p (i:=4) sc.nd rfl (Or.inl rfl) (a0i GO hr1 (by rfl) DO.mg DO.fn.kp bO .nil a0q (a0a (pv 2) a0b)))) a0l))
   (a0h (a0z (a1r (a0a (a3v MK GI hr (by rfl) mC bI .nil a0q (a0a (a0s a0j (pv 0) a0e (fun _ _=>rfl)) (a0a (pv 4) a0b))) (a0a (a0i GF hr1 (by rfl) DF.mg DF.fn.kp bF .nil a0q (a0a a0e (a0a (a0s a0j (pv 0) a0e (fun _ _=>rfl)) (a0a (pv 3) (a0a (a1t (a0R (a0s a0j (pv 0) a0e (fun _ _=>rfl)) (a0D (a0a a0v (a0a (a1t (a0R (a0s a0j (pv 0) a0e (fun _ _=>rfl)) (a0D (a0a a0v a0b)) a1s) rfl rfl (by simp) (by decide)) a0b))) a1s) rfl rfl (by simp) (by decide)) a0b))))) (a0a a3Q a0b))))))))))))),?_⟩
  obtain⟨so1,_,so3⟩:=a5e c;intro kd hkd;generalize x1:upd H kd _=H1;obtain⟨T1,e1⟩:=gz x1 hkd;refine⟨_,rfl,nl,_,2,_,rfl,rfl,SqL.of (T1 _ _ hnl),a0Z nm (i:=2) (by decide),(by exact sl2),fun l1 hl1=>⟨_,rfl,_,_,rfl,rfl,pos rfl,l1,_,_,_,rfl,rfl,SqL.of a0d,so1,(by exact sl1),fun w1 hw1=>⟨(by exact sl2),fun k1 hk1=>?_⟩⟩⟩;generalize x2:upd H1 l1 _=H2 at *;obtain⟨T2,_⟩:=gz x2 hl1;generalize x3:upd H2 w1 _=H3 at *;obtain⟨T3,e3⟩:=gz x3 hw1;generalize x4:upd H3 k1 _=H4 at *;obtain⟨T4,e4⟩:=gz x4 hk1;have s14:=T2.trans (T3.trans T4);refine⟨_,rfl,nl,_,3,_,rfl,rfl,SqL.of ((T1.trans s14) _ _ hnl),a0Z nm (i:=3) (by decide),(by exact sl1),fun w2 hw2=>?_⟩;generalize x5:upd H4 w2 _=H5 at *;obtain⟨T5,e5⟩:=gz x5 hw2;have s15:=s14.trans T5;have p5:=s15 _ _ e1;refine⟨p5,[(.inr (nm 2),.ref k1),(.inr (nm 3),.ref w2)],rfl,(by show 2<=15;decide),?_⟩;rw[a7J N.ne];have r5:ClR H5 [(nm 2,.ref k1),(nm 3,.ref w2)] (dR0 nm c):=.cons (a2h (T5 _ _ e4) (a8P so3) (rW (T5 _ _ (T4 _ _ e3)))) (b3s so3) (.cons (rW e5) kW .nil);have S6:a0r H (upd H5 kd (.dK [((.inr (nm 2):Key),V.ref k1),(.inr (nm 3),.ref w2)])):=(T1.trans s15).put hkd;have e6:(upd H5 kd (.dK [((.inr (nm 2):Key),V.ref k1),(.inr (nm 3),.ref w2)])) kd=some (.dK (kvC [(nm 2,.ref k1),(nm 3,.ref w2)])):=a0d
  replace r5:ClR (upd H5 kd (.dK [((.inr (nm 2):Key),V.ref k1),(.inr (nm 3),.ref w2)])) [(nm 2,.ref k1),(nm 3,.ref w2)] (dR0 nm c):=r5.bes p5 (fun _ h=>by cases h)
  generalize upd H5 kd (.dK [((.inr (nm 2):Key),V.ref k1),(.inr (nm 3),.ref w2)])=H6 at *;clear x1 x2 x3 x4 x5 T1 T2 T3 T4 T5 e1 e3 e4 e5 s14 s15 p5 hl1 hw1 hk1 hw2;refine⟨_,rfl,nl,_,1,_,rfl,rfl,SqL.of (S6 _ _ hnl),a0Z nm (i:=1) (by decide),?_⟩;refine⟨fun σ' H'=>σ'=[some (.ref nl),some (.int ft),some (.int c),some (.ref kd),some (.str (nm 1))]/\a0r H H'/\∃ks,H' kd=some (.dK (kvC ks))/\ClR H' ks (dR1 nm ft c),?_,?_⟩
  ·refine⟨_,rfl,rfl,_,rfl,a0H (fun h0=>?_) (fun h0=>⟨rfl,S6,_,e6,by unfold dR1;rw[if_neg h0];exact r5⟩)⟩
   refine⟨_,rfl,kd,rfl,.inl ⟨_,.inl e6⟩,_,rfl,nl,_,2,_,rfl,rfl,SqL.of (S6 _ _ hnl),a0Z nm (i:=2) (by decide),_,.inr (nm 2),_,e6,rfl,a1K rfl,?_⟩;rw[show a3P (kvC [(nm 2,V.ref k1),(nm 3,V.ref w2)]) (.inr (nm 2))=kvC (lo [(nm 2,V.ref k1),(nm 3,V.ref w2)] (nm 2)) from a3q _ _];refine⟨rfl,S6.put hkd,_,a0d,?_⟩
   have:=(r5.lo (nm 2)).bes (u:=.dK (kvC (lo [(nm 2,V.ref k1),(nm 3,V.ref w2)] (nm 2)))) e6 (fun _ h=>by cases h)
   unfold dR1;rw[if_pos h0];unfold dR0 at this
   rwa [List.filter_cons_of_neg (by simp),List.filter_cons_of_pos (by simp[N.ne (i:=3) (j:=2)]),List.filter_nil] at this
  rintro σ1 H7 ⟨rfl,S7,ks,e7,r7⟩;refine⟨fun σ' H'=>σ'=[some (.ref nl),some (.int ft),some (.int c),some (.ref kd),some (.str (nm 1))]/\a0r H H'/\∃ks,H' kd=some (.dK (kvC ks))/\ClR H' ks (dR2 nm ft c),?_,?_⟩
  ·refine⟨_,rfl,rfl,_,rfl,a0H (fun h0=>?_) (fun h0=>⟨rfl,S7,_,e7,by unfold dR2;rw[if_neg h0];exact r7⟩)⟩
   unfold dR1 dR0 at r7;rw[if_neg (by omega)] at r7;cases r7 with
   |cons ra ka rest=>
   cases rest with
   |@cons _ vb _ _ _ rb kb rest=>
   cases rest with
   |nil=>
   refine⟨(by decide),fun a0 h0'=>⟨(by decide),fun a1 h1'=>⟨(by decide),fun a2 h2'=>⟨(by decide),fun a4 h4'=>⟨(by exact sl2),fun a3 h3'=>⟨(by exact sl4),fun l2 hl2=>?_⟩⟩⟩⟩⟩⟩;generalize x0:upd H7 a0 _=G0 at *;obtain⟨U0,f0⟩:=gz x0 h0';generalize x1:upd G0 a1 _=G1 at *;obtain⟨U1,f1⟩:=gz x1 h1';generalize x2:upd G1 a2 _=G2 at *;obtain⟨U2,f2⟩:=gz x2 h2';generalize x4:upd G2 a4 _=G3 at *;obtain⟨U3,f4⟩:=gz x4 h4';generalize x3:upd G3 a3 _=G4 at *;obtain⟨U4,f3⟩:=gz x3 h3';generalize x5:upd G4 l2 _=G5 at *;obtain⟨U5,f5⟩:=gz x5 hl2;have u45:=U4.trans U5;have u35:=U3.trans u45;have u25:=U2.trans u35;have u15:=U1.trans u25;have u75:=U0.trans u15;obtain⟨v,ev,rv⟩:=b5S c (u15 _ _ f0) (u25 _ _ f1) (u35 _ _ f2) (U5 _ _ f3) (u45 _ _ f4);have e7':=u75 _ _ e7;refine⟨_,rfl,_,_,rfl,rfl,pos rfl,l2,_,_,v,rfl,rfl,SqL.of f5,ev,_,rfl,_,rfl,nl,_,2,_,rfl,rfl,SqL.of ((S7.trans u75) _ _ hnl),a0Z nm (i:=2) (by decide),kd,_,rfl,a8J.k (k:=.inr (nm 2)) e7' (by show 2<sizeLine;decide),?_⟩;refine⟨rfl,(S7.trans u75).put hkd,[(nm 2,v),(nm 3,vb)],?_,?_⟩
   ·rw[a0d]
    unfold a3s kvC;simp[N.ne (i:=3) (j:=2)]
   ·unfold dR2
    rw[if_pos h0];exact(ClR.cons rv (b6e c) (.cons (rb.same u75) kb .nil)).bes e7' (fun _ h=>by cases h)
  rintro σ1 H8 ⟨rfl,S8,ks8,e8,r8⟩;clear r7 e7 S7 r5 e6 S6;refine⟨fun σ' H'=>σ'=[some (.ref nl),some (.int ft),some (.int c),some (.ref kd),some (.str (sR2 nm ft))]/\H'=H8,?_,?_⟩
  ·refine⟨_,rfl,rfl,_,rfl,a0H (fun h0=>⟨_,rfl,nl,_,0,_,rfl,rfl,SqL.of (S8 _ _ hnl),a0Z nm (i:=0) (by decide),?_⟩) (fun h0=>?_)⟩<;>unfold sR2
   ·rw[if_pos h0];exact⟨rfl,rfl⟩
   ·rw[if_neg h0];exact⟨rfl,rfl⟩
  rintro σ1 H9 ⟨rfl,rfl⟩;refine⟨fun σ' H'=>σ'=[some (.ref nl),some (.int ft),some (.int c),some (.ref kd),some (.str (sR3 nm ft))]/\H'=H9,?_,?_⟩
  ·refine⟨_,rfl,rfl,_,rfl,a0H (fun h0=>⟨_,rfl,nl,_,4,_,rfl,rfl,SqL.of (S8 _ _ hnl),a0Z nm (i:=4) (by decide),?_⟩) (fun h0=>?_)⟩<;>unfold sR3
   ·rw[if_pos h0];exact⟨rfl,rfl⟩
   ·rw[if_neg h0];exact⟨rfl,rfl⟩
  rintro σ1 H9 ⟨rfl,rfl⟩;refine⟨fun σ' H'=>σ'=[some (.ref nl),some (.int ft),some (.int c),some (.ref kd),some (.str (sR nm ft c))]/\a0r H9 H',?_,?_⟩
  ·refine⟨_,rfl,rfl,_,rfl,a0H (fun h0=>⟨_,rfl,c,rfl,fun H' s'=>?_⟩) (fun h0=>?_)⟩<;>unfold sR
   ·rw[if_pos h0];exact⟨rfl,s'⟩
   ·rw[if_neg h0];exact⟨rfl,a0r.refl _⟩
  rintro σ1 H10 ⟨rfl,s10⟩;have S10:=S8.trans s10;have e10:=s10 _ _ e8;have r10:=r8.same s10;refine⟨_,rfl,nl,_,2,_,rfl,rfl,SqL.of (S10 _ _ hnl),a0Z nm (i:=2) (by decide),_,rfl,fun mv dx n1 n2 ndx=>?_⟩;refine⟨mv,dx,nm 2,sR nm ft c,rfl,a0d,fun H11 kp11 em=>⟨rfl,?_⟩⟩;have s11:a0r H10 H11:=fun b o e=>by
   have b1:b≠mv:=fun z=>by rw[z,n1] at e;cases e
   have b2:b≠dx:=fun z=>by rw[z,n2] at e;cases e
   exact kp11 b o b1 ((a0g b1).trans ((a0g b2).trans e))
  have S11:=S10.trans s11;refine⟨_,rfl,nl,_,0,_,rfl,rfl,SqL.of (S11 _ _ hnl),a0Z nm (i:=0) (by decide),_,rfl,?_⟩;intro sd hsd;generalize y1:upd H11 sd _=M1;obtain⟨V1,g1⟩:=gz y1 hsd;refine⟨_,rfl,nl,_,4,_,rfl,rfl,SqL.of ((S11.trans V1) _ _ hnl),a0Z nm (i:=4) (by decide),?_⟩;intro bd hbd;generalize y2:upd M1 bd _=M2;obtain⟨V2,g2⟩:=gz y2 hbd;refine⟨_,rfl,nl,_,5,_,rfl,rfl,SqL.of ((S11.trans (V1.trans V2)) _ _ hnl),a0Z nm (i:=5) (by decide),(by exact sl1),fun wd hwd=>?_⟩;generalize y3:upd M2 wd _=M3;obtain⟨V3,g3⟩:=gz y3 hwd;refine⟨V3 _ _ g2,[(.inr (nm 5),.ref wd)],rfl,(by show 1<=15;decide),(by exact sl2),fun be hbe=>?_⟩;have nbw:bd≠wd:=fun e=>by rw[<-e,g2] at hwd;cases hwd
  have V4:a0r M1 (upd M3 bd (.dK (a0A [] [((.inr (nm 5):Key),V.ref wd)]))):=(V2.trans V3).put hbd;have g4:(upd M3 bd (.dK (a0A [] [((.inr (nm 5):Key),V.ref wd)]))) bd=some (.dK (kvC [(nm 5,V.ref wd)])):=a0d;have gw:(upd M3 bd (.dK (a0A [] [((.inr (nm 5):Key),V.ref wd)]))) wd=some (.tup [.str "whole"]):=(a0g nbw.symm).trans g3;generalize upd M3 bd (.dK (a0A [] [((.inr (nm 5):Key),V.ref wd)]))=M4 at *;generalize y5:upd M4 be _=M5;obtain⟨V5,g5⟩:=gz y5 hbe;have v15:=V4.trans V5;refine⟨v15 _ _ g1,[(.inr (nm 4),.ref be)],rfl,(by show 1<=15;decide),?_⟩;have nbs:bd≠sd:=fun e=>by rw[e,g1] at hbd;cases hbd
  have nes:be≠sd:=fun e=>by rw[e,V4 _ _ g1] at hbe;cases hbe
  have nws:wd≠sd:=fun e=>by rw[e,V2 _ _ g1] at hwd;cases hwd
  have S12:a0r H11 (upd M5 sd (.dK (a0A [] [((.inr (nm 4):Key),V.ref be)]))):=(V1.trans v15).put hsd;have k12:∀b o,b≠sd->M5 b=some o->(upd M5 sd (.dK (a0A [] [((.inr (nm 4):Key),V.ref be)]))) b=some o:=fun b o nb e=>(a0g nb).trans e;have e12:(upd M5 sd (.dK (a0A [] [((.inr (nm 4):Key),V.ref be)]))) sd=some (.dK [((.inr (nm 4):Key),V.ref be)]):=a0d;generalize upd M5 sd (.dK (a0A [] [((.inr (nm 4):Key),V.ref be)]))=H12 at *;have hw12:=k12 _ _ nws (V5 _ _ gw);have hb12:=k12 _ _ nbs (V5 _ _ g4);have he12:=k12 _ _ nes g5;have okB:∀{G:Hp},a0r H12 G->a0G G [(nm 5,V.ref wd)]:=fun s=>a5m (N.ok 5 (by decide)) (rW (s _ _ hw12)) kW;obtain⟨dn,dl,dok⟩:=b1x N ft c;have okK:∀{G:Hp},a0r H10 G->a0G G ks8:=fun s=>(r10.same s).cols dn (by omega) dok;refine⟨5,nm 0,kd,sd,ks8,[⟨nm 4,"twin",be,bd,[(nm 5,.ref wd)]⟩],rfl,a4W ((s11.trans S12) _ _ e10) (okK (s11.trans S12)),e12,List.nodup_cons.mpr ⟨List.not_mem_nil,List.nodup_nil⟩,(by show 1<=7;decide),(fun x hx=>by rw[mS0.mp hx];exact⟨he12,a4W hb12 (okB (a0r.refl _))⟩),fun fm Us H13 s13 fo po ro=>⟨(by exact sl3),fun l hl=>?_⟩⟩;generalize y6:upd H13 l _=H14;obtain⟨V6,g6⟩:=gz y6 hl;have s1014:=s11.trans (S12.trans (s13.trans V6));have s1214:=s13.trans V6;refine q l mv fm wd ks8 H14 (S10.trans s1014) (a1a (S11.trans (S12.trans s13)) hl) g6 ⟨dx,(S12.trans s1214) _ _ em⟩ (b2F (fo.same V6) po ro (by show 1<=7;decide) (by show[nm 0,nm 4].Nodup;simp[N.ne (i:=0) (j:=4)]) ⟨N.ok 0 (by decide),okK s1014⟩ fun X hX=>?_) (r10.same s1014);rw[mS0.mp hX];exact⟨N.ok 4 (by decide),(by decide +kernel:("twin":Str)∈a1S),okB s1214⟩
end
structure St4 (H0 H:Hp) (kd od sd be bd:Addr) (ks os c4:List (Str×V)) (dk do_ dc:List (Str×Dt)) (n4 so4:Str):Prop where
 s:a0r H0 H
 k0:H0 kd=none
 o0:H0 od=none
 s0:H0 sd=none
 ek:H kd=some (.dK (kvC ks))
 rk:ClR H ks dk
 eo:H od=some (.dK (kvC os))
 ro:ClR H os do_
 es:H sd=some (.dK [(.inr n4,.ref be)])
 ee:H be=some (.tup [.str so4,.ref bd])
 eb:H bd=some (.dK (kvC c4))
 rb:ClR H c4 dc
 ko:kd≠od
 ks_:kd≠sd
 os_:od≠sd
 kb:kd≠bd
 ob:od≠bd
 sb:sd≠bd
section
variable {H0 H H':Hp}{kd od sd be bd:Addr}{ks os c4:List (Str×V)}{dk do_ dc:List (Str×Dt)}{n4 so4:Str}
theorem St4.same (h:St4 H0 H kd od sd be bd ks os c4 dk do_ dc n4 so4)(s:a0r H H'):St4 H0 H' kd od sd be bd ks os c4 dk do_ dc n4 so4:=⟨h.s.trans s,h.k0,h.o0,h.s0,s _ _ h.ek,h.rk.same s,s _ _ h.eo,h.ro.same s,s _ _ h.es,s _ _ h.ee,s _ _ h.eb,h.rb.same s,h.ko,h.ks_,h.os_,h.kb,h.ob,h.sb⟩
theorem nt {H:Hp}{a:Addr}{kv:List (Key×V)}(e:H a=some (.dK kv)):∀xs,(HO.dK kv)≠.tup xs:=fun _ h=>by cases h
theorem St4.putO (h:St4 H0 H kd od sd be bd ks os c4 dk do_ dc n4 so4){os':List (Str×V)}{do':List (Str×Dt)}(r:ClR H os' do'):St4 H0 (upd H od (.dK (kvC os'))) kd od sd be bd ks os' c4 dk do' dc n4 so4:=
 have k:∀b o,b≠od->H b=some o->(upd H od (.dK (kvC os'))) b=some o:=fun b o nb e=>(a0g nb).trans e
 ⟨h.s.put h.o0,h.k0,h.o0,h.s0,k _ _ h.ko h.ek,h.rk.bes h.eo (nt h.eo),a0d,r.bes h.eo (nt h.eo),k _ _ h.os_.symm h.es,k _ _ (fun e=>by have:=h.ee;rw[e,h.eo] at this;cases this) h.ee,k _ _ h.ob.symm h.eb,h.rb.bes h.eo (nt h.eo),h.ko,h.ks_,h.os_,h.kb,h.ob,h.sb⟩
theorem St4.putK (h:St4 H0 H kd od sd be bd ks os c4 dk do_ dc n4 so4){ks':List (Str×V)}{dk':List (Str×Dt)}(r:ClR H ks' dk'):St4 H0 (upd H kd (.dK (kvC ks'))) kd od sd be bd ks' os c4 dk' do_ dc n4 so4:=
 have k:∀b o,b≠kd->H b=some o->(upd H kd (.dK (kvC ks'))) b=some o:=fun b o nb e=>(a0g nb).trans e
 ⟨h.s.put h.k0,h.k0,h.o0,h.s0,a0d,r.bes h.ek (nt h.ek),k _ _ h.ko.symm h.eo,h.ro.bes h.ek (nt h.ek),k _ _ h.ks_.symm h.es,k _ _ (fun e=>by have:=h.ee;rw[e,h.ek] at this;cases this) h.ee,k _ _ h.kb.symm h.eb,h.rb.bes h.ek (nt h.ek),h.ko,h.ks_,h.os_,h.kb,h.ob,h.sb⟩
theorem St4.newO (h:St4 H0 H kd od sd be bd ks os c4 dk do_ dc n4 so4){x:Addr}{os':List (Str×V)}{do':List (Str×Dt)}(s:a0r H H')(n:H x=none)(e:H' x=some (.dK (kvC os')))(r:ClR H' os' do'):St4 H0 H' kd x sd be bd ks os' c4 dk do' dc n4 so4:=⟨h.s.trans s,h.k0,a1a h.s n,h.s0,s _ _ h.ek,h.rk.same s,e,r,s _ _ h.es,s _ _ h.ee,s _ _ h.eb,h.rb.same s,(fun z=>by rw[<-z,h.ek] at n;cases n),h.ks_,(fun z=>by rw[z,h.es] at n;cases n),h.kb,(fun z=>by rw[z,h.eb] at n;cases n),h.sb⟩
theorem St4.newK (h:St4 H0 H kd od sd be bd ks os c4 dk do_ dc n4 so4){x:Addr}{ks':List (Str×V)}{dk':List (Str×Dt)}(s:a0r H H')(n:H x=none)(e:H' x=some (.dK (kvC ks')))(r:ClR H' ks' dk'):St4 H0 H' x od sd be bd ks' os c4 dk' do_ dc n4 so4:=⟨h.s.trans s,a1a h.s n,h.o0,h.s0,e,r,s _ _ h.eo,h.ro.same s,s _ _ h.es,s _ _ h.ee,s _ _ h.eb,h.rb.same s,(fun z=>by rw[z,h.eo] at n;cases n),(fun z=>by rw[z,h.es] at n;cases n),h.os_,(fun z=>by rw[z,h.eb] at n;cases n),h.ob,h.sb⟩
end
theorem CvA.bes {CC:Addr}{H:Hp}{a mv:Addr}{c z:Str}{kv:List (Key×V)}{u:HO}(h:CvA CC H mv c z)(e:H a=some (.dK kv)):CvA CC (upd H a u) mv c z:=let ⟨dx,e'⟩:=h;⟨dx,(a0g (fun q=>by rw[q,e] at e';cases e')).trans e'⟩
theorem tb1 {H:Hp}{z:Str}{v:V}{d:Dt}(r:Rep H d v)(k:a1H d=true/\a1V d=true):ClR H [(z,v)] [(z,d)]:=.cons r k .nil
def Sds (H:Hp)(sd:Addr)(Rs:List Tb):Prop:=∃S:List Sd,H sd=some (.dK (S.map fun x=>(.inr x.n,.ref x.t)))/\S.map Sd.tb=Rs/\∀x∈S,H x.t=some (.tup [.str x.so,.ref x.d])/\TbD H x.d x.c
def Rn (n4 so4 n1 so:Str)(c4 os:List (Str×V))(b:Bool):List Tb:=⟨n4,so4,c4⟩::if b=true then[⟨n1,so,os⟩] else[]
structure a3u (ds:List (Str×Dt)):Prop where
 nd:(ds.map (·.1)).Nodup
 le:ds.length<=12
 ok:∀d∈ds,a0T d.1=true
theorem a3u.nil:a3u []:=⟨List.nodup_nil,by decide,fun d h=>nomatch h⟩
theorem a3u.one {z:Str}{d:Dt}(h:a0T z=true):a3u [(z,d)]:=⟨List.nodup_cons.mpr ⟨List.not_mem_nil,List.nodup_nil⟩,(by show 1<=12;decide),fun d hd=>by rw[mS0.mp hd];exact h⟩
theorem a3u.cons {z:Str}{d:Dt}{ds:List (Str×Dt)}(o:a3u ds)(h:a0T z=true)(n:z∉ds.map (·.1))(l:ds.length<=11):a3u ((z,d)::ds):=⟨by rw[mN0,List.nodup_cons];exact⟨n,o.nd⟩,by rw[List.length_cons];omega,fun x hx=>by
 rcases mK0.mp hx with rfl |hx
 ·exact h
 ·exact o.ok x hx⟩
theorem ClR.dsok {H:Hp}{ks:List (Str×V)}{ds:List (Str×Dt)}(h:ClR H ks ds)(o:a3u ds):a0G H ks:=h.cols o.nd o.le o.ok
section
variable {H0 H:Hp}{kd od sd be bd:Addr}{ks os c4:List (Str×V)}{dk do_ dc:List (Str×Dt)}{n4 so4 n1 so:Str}
theorem St4.sds0 (h:St4 H0 H kd od sd be bd ks os c4 dk do_ dc n4 so4)(oc:a3u dc):Sds H sd (Rn n4 so4 n1 so c4 os false):=⟨[⟨n4,so4,be,bd,c4⟩],h.es,rfl,fun x hx=>by
 rw[mS0.mp hx];exact⟨h.ee,a4W h.eb (h.rb.dsok oc)⟩⟩
theorem St4.sds1 (h:St4 H0 H kd od sd be bd ks os c4 dk do_ dc n4 so4)(oc:a3u dc)(oo:a3u do_)(n:n4≠n1){t:Addr}(et:H t=some (.tup [.str so,.ref od])):Sds (upd H sd (.dK [(.inr n4,.ref be),(.inr n1,.ref t)])) sd (Rn n4 so4 n1 so c4 os true)/\a0r H0 (upd H sd (.dK [(.inr n4,.ref be),(.inr n1,.ref t)]))/\(upd H sd (.dK [(.inr n4,.ref be),(.inr n1,.ref t)])) kd=some (.dK (kvC ks))/\ClR (upd H sd (.dK [(.inr n4,.ref be),(.inr n1,.ref t)])) ks dk/\ClR (upd H sd (.dK [(.inr n4,.ref be),(.inr n1,.ref t)])) os do_/\ClR (upd H sd (.dK [(.inr n4,.ref be),(.inr n1,.ref t)])) c4 dc:=by
 have k:∀b o,b≠sd->H b=some o->(upd H sd (.dK [(.inr n4,.ref be),(.inr n1,.ref t)])) b=some o:=fun b o nb e=>(a0g nb).trans e;have rb:=h.rb.bes (u:=.dK [(.inr n4,.ref be),(.inr n1,.ref t)]) h.es (nt h.es);have ro:=h.ro.bes (u:=.dK [(.inr n4,.ref be),(.inr n1,.ref t)]) h.es (nt h.es);have nbe:be≠sd:=fun e=>by have:=h.ee;rw[e,h.es] at this;cases this
 have nte:t≠sd:=fun e=>by rw[e,h.es] at et;cases et
 refine⟨⟨[⟨n4,so4,be,bd,c4⟩,⟨n1,so,t,od,os⟩],a0d,rfl,fun x hx=>?_⟩,h.s.put h.s0,k _ _ h.ks_ h.ek,h.rk.bes h.es (nt h.es),ro,rb⟩;rcases mK0.mp hx with rfl |hx
 ·exact⟨k _ _ nbe h.ee,a4W (k _ _ h.sb.symm h.eb) (rb.dsok oc)⟩
 ·rw[mS0.mp hx]
  exact⟨k _ _ nte et,a4W (k _ _ h.os_ h.eo) (ro.dsok oo)⟩
end
theorem b1T {H:Hp}{f:Addr}{n0 n4 so4 n1 so:Str}{ks c4 os:List (Str×V)}{dk dc do_:List (Str×Dt)}{Us:List Tb}{b:Bool}(fo:a1f H f 5 (⟨n0,"head",ks⟩::Us))(po:Us.Perm (Rn n4 so4 n1 so c4 os b))(ri:a5M (Us.map (·.name)))(ok0:a0T n0=true)(ok4:a0T n4=true)(ok1:a0T n1=true)(n04:n0≠n4)(n01:n0≠n1)(n41:n4≠n1)(s4:so4∈a1S)(s1:so∈a1S)(rk:ClR H ks dk)(okk:a3u dk)(rc:ClR H c4 dc)(okc:a3u dc)(ro:ClR H os do_)(oko:a3u do_):FK H f 5 ⟨n0,"head",ks⟩ (Rn n4 so4 n1 so c4 os b):=by
 refine b2F fo po ri ?_ ?_ ⟨ok0,rk.dsok okk⟩ fun T hT=>?_
 ·unfold Rn
  split
  ·show 2<=7;decide
  ·show 1<=7;decide
 ·cases b with
  |false=>show[n0,n4].Nodup;simp[n04]
  |true=>show[n0,n4,n1].Nodup;simp[n04,n01,n41]
 ·rcases mK0.mp hT with rfl |hT
  ·exact⟨ok4,s4,rc.dsok okc⟩
  ·cases b with
   |false=>cases hT
   |true=>
    rw[mS0.mp hT];exact⟨ok1,s1,ro.dsok oko⟩
def d5 (c:Int):Dt:=if c/2%4=0 then dKy else if c/2%4=1 then dOn "once" dW else if c/2%4=2 then dOn "list" dW else dOn "some" dWd
def sN (ft c:Int):Str:=if ft=6 then "twin" else a1m (soL c)
def dO7 (nm:Nat->Str)(ft:Int):List (Str×Dt):=if ft=7 then[(nm 2,dW),(nm 5,dW)] else[(nm 2,dW)]
def dO8 (nm:Nat->Str)(ft c:Int):List (Str×Dt):=if ft=8 then(if c/2%2=0 then[] else[(nm 5,dW)]) else dO7 nm ft
def dO (nm:Nat->Str)(ft c:Int):List (Str×Dt):=if ft=9 then[(nm 2,d5 c)] else dO8 nm ft c
def b4G (nm:Nat->Str)(ft:Int):List (Str×Dt):=if ft=10 then[(nm 3,dW),(nm 2,dOn "list" dW)] else[(nm 3,dW)]
def dKn (nm:Nat->Str)(ft:Int):List (Str×Dt):=if ft=11 then[(nm 2,dW)] else b4G nm ft
def mvS (nm:Nat->Str)(ft:Int):Str:=if ft=11 then nm 0 else nm 1
def b6i (CC:Addr):Sp:=fun vs H Q _=>∃(nl:Addr) (nm:Nat->Str) (ft c:Int),vs=[.ref nl,.int ft,.int c]/\H nl=some (.lst (nmL nm))/\Nm6 nm/\∀l mv f w4 ks os H',a0r H H'->H l=none->H' l=some (.lst [.ref mv,.ref f,.bl false])->CvA CC H' mv (nm 2) (mvS nm ft)->FK H' f 5 ⟨nm 0,"head",ks⟩ (Rn (nm 4) "many" (nm 1) (sN ft c) [(nm 2,.ref w4)] os (!decide (ft=5)))->ClR H' ks (dKn nm ft)->ClR H' os (dO nm ft c)->Q (.ref l) H'
theorem b5H (c:Int):a1H (d5 c)=true/\a1V (d5 c)=true:=by
 unfold d5
 split
 ·exact kKy
 ·split
  ·decide +kernel
  ·split<;>decide +kernel
theorem b5M {H:Hp}{p0 p1 p2 p3 w1 w2 w3:Addr}(c:Int)(h0:H p0=some (.tup [.str "key"]))(h1:H p1=some (.tup [.str "once",.ref w1]))(h2:H p2=some (.tup [.str "list",.ref w2]))(h3:H p3=some (.tup [.str "some",.ref w3]))(g1:H w1=some (.tup [.str "whole"]))(g2:H w2=some (.tup [.str "whole"]))(g3:H w3=some (.tup [.str "word"])):∃v,atI [V.ref p0,.ref p1,.ref p2,.ref p3] (c/2%4)=some v/\Rep H (d5 c) v:=by
 have h:c/2%4=0\/c/2%4=1\/c/2%4=2\/c/2%4=3:=by omega
 unfold d5;rcases h with h |h |h |h<;>rw[h]
 ·exact⟨.ref p0,rfl,rKy h0⟩
 ·exact⟨.ref p1,rfl,a2h h1 (by decide +kernel) (rW g1)⟩
 ·exact⟨.ref p2,rfl,a2h h2 (by decide +kernel) (rW g2)⟩
 ·exact⟨.ref p3,rfl,a2h h3 (by decide +kernel) (rWd g3)⟩
section
variable {nm:Nat->Str}(N:Nm6 nm)(ft c:Int)
include N
theorem ok1 (i:Nat)(hi:i<6)(d:Dt):a3u [(nm i,d)]:=a3u.one (N.ok i hi)
theorem ok2 (i j:Nat)(hi:i<6)(hj:j<6)(n:i≠j)(d e:Dt):a3u [(nm i,d),(nm j,e)]:=(a3u.one (N.ok j hj)).cons (N.ok i hi) (by simpa using N.ne hi hj n) (by show 1<=11;decide)
theorem b3V:a3u (dO nm ft c):=by
 unfold dO dO8 dO7
 split
 ·exact ok1 N 2 (by decide) _
 ·split
  ·split
   ·exact .nil
   ·exact ok1 N 5 (by decide) _
  ·split
   ·exact ok2 N 2 5 (by decide) (by decide) (by decide) _ _
   ·exact ok1 N 2 (by decide) _
theorem b1C:a3u (dKn nm ft):=by
 unfold dKn b4G
 split
 ·exact ok1 N 2 (by decide) _
 ·split
  ·exact ok2 N 3 2 (by decide) (by decide) (by decide) _ _
  ·exact ok1 N 3 (by decide) _
end
theorem b4Z (ft c:Int):sN ft c∈a1S:=by
 unfold sN
 split
 ·decide +kernel
 ·exact(a5p (a5e c).2.2).2.2
theorem a4H {ft k:Int}{p q:Prop}(h1:ft≠k->p)(h2:ft=k->q):if (!decide (V.int ft=V.int k))=true then p else q:=by
 by_cases e:ft=k
 ·rw[if_neg (by simp[e])]
  exact h2 e
 ·rw[if_pos (by simpa using e)]
  exact h1 e
section
variable {P:Program}{w:World}{K:Fg0}{mg:Str->Option Value}{base:Heap}{CC PF:Addr}
theorem b5x {f fF fI:Addr}{fd fdF fdI:FuncData}(F:Fun K "_law_rows_new" "_law_rows_new" (top 52) f fd)(B:Bl mg)(T:ClC K CC)(DF:Df K mg "_law_form" (top 49) fF fdF)(MK:Mk K CC fI)(FI:Fun K "__init__" "Rows.__init__" (a0w (top 40) 0) fI fdI)(mC:mg "Rows"=some (.ref CC)):a0x P w K mg base CX0 3 f fd ["_law_names_here","_law_fault","_law_cell_here"] (b6i CC):=by
 have sc:a0o ["_law_names_here","_law_fault","_law_cell_here","_law_kinds","_law_sort","_law_own","_law_sides","_law_move"] ["_law_names_here","_law_fault","_law_cell_here"] (a0f (top 52)):=.k (by decide +kernel);have GF:a0x P w K mg base CX0 1 fF fdF ["_law_size","_law_head","_law_columns","_law_sides"] b0h:=a8a DF.fn B;have bF:=DF.fn.b4 "_law_size" "_law_head" "_law_columns" "_law_sides" (by intros;rfl);have GI:a0x P w K mg base CX0 1 fI fdI ["self","column","side"] (a7l CC):=a7D FI T;have bI:=FI.b3 "self" "column" "side" (by intros;rfl);refine F.ok sc (fun vs H Q E h=>?_) (fun cdv A outer s H vs Q E hr h=>?_)
 ·obtain⟨nl,nm,ft,c,rfl,_⟩:=h
  rfl
 ·obtain⟨nl,nm,ft,c,rfl,hnl,N,q⟩:=h
  have hu:=a2s hr;have hr1:a1g 1 _:=hr.mono (by decide);refine⟨_,(a0c (a0p (i:=3) sc.nd rfl (Or.inl rfl) (a1t (a0R (a0s a0j (pv 0) a0e (fun _ _=>rfl)) (a0D (a0a a0v a0b)) a1s) rfl rfl (by simp) (by decide)))
   (a0c (a0p (i:=4) sc.nd rfl (Or.inl rfl) (a0s a0j (a1r (a0a a0v (a0a a0v a0b))) (a1p a1A (pv 2) a0e) (fun _ _=>rfl)))
   (a0c (a0p (i:=5) sc.nd rfl (Or.inl rfl) (a1t (a0R (a0s a0j (pv 0) a0e (fun _ _=>rfl)) (a0D (a0a a0v a0b)) a1s) rfl rfl (by simp) (by decide)))
   (a0c (a0p (i:=6) sc.nd rfl (Or.inl rfl) (a1t (a0R (a0s a0j (pv 0) a0e (fun _ _=>rfl)) (a0D (a0a a0v (a0a (a1t (a0R (a0s a0j (pv 0) a0e (fun _ _=>rfl)) (a0D (a0a a0v a0b)) a1s) rfl rfl (by simp) (by decide)) a0b))) a1s) rfl rfl (by simp) (by decide)))
   (a0c (a0p (i:=7) sc.nd rfl (Or.inl rfl) (a3v MK GI hr (by rfl) mC bI .nil a0q (a0a (a0s a0j (pv 0) a0e (fun _ _=>rfl)) (a0a (a0s a0j (pv 0) a0e (fun _ _=>rfl)) a0b))))
   (a0c (a0I (a0C (a0t a1k (pv 1) a0e (a0u _)) (a0h (a0p (i:=4) sc.nd rfl (Or.inl rfl) a0v)) a0l))
   (a0c (a0I (a0C (a0t a1k (pv 1) a0e (a0u _)) (a0h (a2L hu (pv 5) (a0s a0j (pv 0) a0e (fun _ _=>rfl)) (a0D (a0a a0v a0b)) rfl)) a0l))
   (a0c (a0I (a0C (a0t a1k (pv 1) a0e (a0u _)) (a0h (a0p (i:=5) sc.nd rfl (Or.inl rfl) (a0s a0j (a1r (a0a a7H (a0a (a1t (a0R (a0s a0j (pv 0) a0e (fun _ _=>rfl)) (a0D (a0a a0v a0b)) a1s) rfl rfl (by simp) (by decide)) a0b))) (a1p a1A (a1p a4f (pv 2) a0e) a0e) (fun _ _=>rfl)))) a0l))
   (a0c (a0I (a0C (a0t a1k (pv 1) a0e (a0u _)) (a0h (a0p (i:=5) sc.nd rfl (Or.inl rfl) (a1t (a0R (a0s a0j (pv 0) a0e (fun _ _=>rfl)) (a0s a0j (a1r (a0a (a0D (a0a a0v a0b)) (a0a (a0D (a0a a0v (a0a (a0D (a0a a0v a0b)) a0b))) (a0a (a0D (a0a a0v (a0a (a0D (a0a a0v a0b)) a0b))) (a0a (a0D (a0a a0v (a0a (a0D (a0a a0v a0b)) a0b))) a0b))))) (a1p a1A (a1p a4f (pv 2) a0e) a0e) (fun _ _=>rfl)) a1s) rfl rfl (by simp) (by decide)))) a0l))
   (a0c (a0I (a0C (a0t a1k (pv 1) a0e (a0u _)) (a0h (a2L hu (pv 3) (a0s a0j (pv 0) a0e (fun _ _=>rfl)) (a0D (a0a a0v (a0a (a0D (a0a a0v a0b)) a0b))) rfl)) a0l))
   (a0c (a0I (a0C (a0t a1k (pv 1) a0e (a0u _)) (a0c (a0p (i:=7) sc.nd rfl (Or.inl rfl) (a3v MK GI hr (by rfl) mC bI .nil a0q (a0a (a0s a0j (pv 0) a0e (fun _ _=>rfl)) (a0a (a0s a0j (pv 0) a0e (fun _ _=>rfl)) a0b)))) (a0h (a0p (i:=3) sc.nd rfl (Or.inl rfl) (a1t (a0R (a0s a0j (pv 0) a0e (fun _ _=>rfl)) (a0D (a0a a0v a0b)) a1s) rfl rfl (by simp) (by decide))))) a0l))
   (a0c (a0I (a0C (a0t a3O (pv 1) a0e (a0u _)) (a0h (a2L hu (pv 6) (a0s a0j (pv 0) a0e (fun _ _=>rfl)) (a0D (a0a (pv 4) (a0a (pv 5) a0b))) rfl)) a0l))
   (a0h (a0z (a1r (a0a (pv 7) (a0a (a0i GF hr1 (by rfl) DF.mg DF.fn.kp bF .nil a0q (a0a a0e (a0a (a0s a0j (pv 0) a0e (fun _ _=>rfl)) (a0a (pv 3) (a0a (pv 6) a0b))))) (a0a a3Q a0b)))))))))))))))))),?_⟩
  obtain⟨_,so2,so3⟩:=a5e c;intro kd hkd;generalize xkd:upd H kd _=akd;obtain⟨Tkd,ekd⟩:=gz xkd hkd;refine⟨_,rfl,nl,_,3,_,rfl,rfl,SqL.of (((a0r.refl H).trans Tkd) _ _ hnl),a0Z nm (i:=3) (by decide),(by exact sl1),fun wkd hwkd=>?_⟩;generalize ykd:upd akd wkd _=bkd;obtain⟨Ukd,fkd⟩:=gz ykd hwkd;have gkd:=Ukd _ _ ekd;refine⟨gkd,[(.inr (nm 3),.ref wkd)],rfl,(by show 1<=15;decide),?_⟩;have Vkd:a0r H (upd bkd kd (.dK (a0A [] [((.inr (nm 3):Key),V.ref wkd)]))):=(Tkd.trans Ukd).put hkd;have ckd:(upd bkd kd (.dK (a0A [] [((.inr (nm 3):Key),V.ref wkd)]))) kd=some (.dK (kvC [(nm 3,V.ref wkd)])):=a0d;have rkd:ClR (upd bkd kd (.dK (a0A [] [((.inr (nm 3):Key),V.ref wkd)]))) [(nm 3,V.ref wkd)] [(nm 3,dW)]:=(tb1 (rW fkd) kW).bes gkd (nt gkd);generalize (upd bkd kd (.dK (a0A [] [((.inr (nm 3):Key),V.ref wkd)])))=H1 at *;clear xkd ykd Tkd Ukd ekd fkd gkd hwkd;refine⟨(by exact sl2),fun l1 hl1=>⟨_,rfl,_,_,rfl,rfl,pos rfl,l1,_,_,_,rfl,rfl,SqL.of a0d,so2,?_⟩⟩;generalize x2:upd H1 l1 _=H2 at *;obtain⟨T2,_⟩:=gz x2 hl1;have S2:=Vkd.trans T2;intro od hod;generalize xod:upd H2 od _=aod;obtain⟨Tod,eod⟩:=gz xod hod;refine⟨_,rfl,nl,_,2,_,rfl,rfl,SqL.of ((S2.trans Tod) _ _ hnl),a0Z nm (i:=2) (by decide),(by exact sl1),fun wod hwod=>?_⟩;generalize yod:upd aod wod _=bod;obtain⟨Uod,fod⟩:=gz yod hwod;have god:=Uod _ _ eod;refine⟨god,[(.inr (nm 2),.ref wod)],rfl,(by show 1<=15;decide),?_⟩;have Vod:a0r H2 (upd bod od (.dK (a0A [] [((.inr (nm 2):Key),V.ref wod)]))):=(Tod.trans Uod).put hod;have cod:(upd bod od (.dK (a0A [] [((.inr (nm 2):Key),V.ref wod)]))) od=some (.dK (kvC [(nm 2,V.ref wod)])):=a0d;have rod:ClR (upd bod od (.dK (a0A [] [((.inr (nm 2):Key),V.ref wod)]))) [(nm 2,V.ref wod)] [(nm 2,dW)]:=(tb1 (rW fod) kW).bes god (nt god);generalize (upd bod od (.dK (a0A [] [((.inr (nm 2):Key),V.ref wod)])))=H3 at *;clear xod yod Tod Uod eod fod god hwod;have S3:=S2.trans Vod;intro sd hsd;generalize x3:upd H3 sd _=J0;obtain⟨Q0,e3⟩:=gz x3 hsd;refine⟨_,rfl,nl,_,4,_,rfl,rfl,SqL.of ((S3.trans Q0) _ _ hnl),a0Z nm (i:=4) (by decide),?_⟩;intro bd hbd;generalize xbd:upd J0 bd _=abd;obtain⟨Tbd,ebd⟩:=gz xbd hbd;refine⟨_,rfl,nl,_,2,_,rfl,rfl,SqL.of (((S3.trans Q0).trans Tbd) _ _ hnl),a0Z nm (i:=2) (by decide),(by exact sl1),fun wbd hwbd=>?_⟩;generalize ybd:upd abd wbd _=bbd;obtain⟨Ubd,fbd⟩:=gz ybd hwbd;have gbd:=Ubd _ _ ebd;refine⟨gbd,[(.inr (nm 2),.ref wbd)],rfl,(by show 1<=15;decide),(by exact sl2),fun be hbe=>?_⟩;have Vbd:a0r J0 (upd bbd bd (.dK (a0A [] [((.inr (nm 2):Key),V.ref wbd)]))):=(Tbd.trans Ubd).put hbd;have cbd:(upd bbd bd (.dK (a0A [] [((.inr (nm 2):Key),V.ref wbd)]))) bd=some (.dK (kvC [(nm 2,V.ref wbd)])):=a0d;have rbd:ClR (upd bbd bd (.dK (a0A [] [((.inr (nm 2):Key),V.ref wbd)]))) [(nm 2,V.ref wbd)] [(nm 2,dW)]:=(tb1 (rW fbd) kW).bes gbd (nt gbd);generalize (upd bbd bd (.dK (a0A [] [((.inr (nm 2):Key),V.ref wbd)])))=J1 at *;clear xbd ybd Tbd Ubd ebd fbd gbd hwbd;generalize x4:upd J1 be _=J2;obtain⟨Q2,e4⟩:=gz x4 hbe;refine⟨(Vbd.trans Q2) _ _ e3,[(.inr (nm 4),.ref be)],rfl,(by show 1<=15;decide),?_⟩;have sJ:=Q0.trans (Vbd.trans Q2);have esd:=(Vbd.trans Q2) _ _ e3;have k5:∀b o,b≠sd->J2 b=some o->(upd J2 sd (.dK (a0A [] [((.inr (nm 4):Key),V.ref be)]))) b=some o:=fun b o nb e=>(a0g nb).trans e;have n_k:kd≠sd:=fun e=>by rw[<-e,(T2.trans Vod) _ _ ckd] at hsd;cases hsd
  have n_o:od≠sd:=fun e=>by rw[<-e,cod] at hsd;cases hsd
  have n_b:sd≠bd:=fun e=>by rw[<-e,e3] at hbd;cases hbd
  have n_e:be≠sd:=fun e=>by rw[e,Vbd _ _ e3] at hbe;cases hbe
  have n_ko:kd≠od:=fun e=>by rw[<-e,T2 _ _ ckd] at hod;cases hod
  have n_kb:kd≠bd:=fun e=>by rw[<-e,(T2.trans (Vod.trans Q0)) _ _ ckd] at hbd;cases hbd
  have n_ob:od≠bd:=fun e=>by rw[<-e,Q0 _ _ cod] at hbd;cases hbd
  have A:St4 H (upd J2 sd (.dK (a0A [] [((.inr (nm 4):Key),V.ref be)]))) kd od sd be bd [(nm 3,V.ref wkd)] [(nm 2,V.ref wod)] [(nm 2,V.ref wbd)] [(nm 3,dW)] [(nm 2,dW)] [(nm 2,dW)] (nm 4) "many":=
   ⟨(S3.trans sJ).put (a1a S3 hsd),hkd,a1a S2 hod,a1a S3 hsd,k5 _ _ n_k ((T2.trans (Vod.trans sJ)) _ _ ckd),(rkd.same (T2.trans (Vod.trans sJ))).bes esd (nt esd),k5 _ _ n_o (sJ _ _ cod),(rod.same sJ).bes esd (nt esd),a0d,k5 _ _ n_e e4,k5 _ _ n_b.symm (Q2 _ _ cbd),(rbd.same Q2).bes esd (nt esd),n_ko,n_k,n_o,n_kb,n_ob,n_b⟩
  generalize upd J2 sd (.dK (a0A [] [((.inr (nm 4):Key),V.ref be)]))=H5 at *;clear k5 n_k n_o n_b n_e n_ko n_kb n_ob sJ esd e3 e4 x2 x3 x4 Q0 Q2 Vbd cbd rbd Vod cod rod Vkd ckd rkd S3 S2 T2 hkd hod hsd hbd hbe hl1;refine⟨_,rfl,nl,_,2,_,rfl,rfl,SqL.of (A.s _ _ hnl),a0Z nm (i:=2) (by decide),_,rfl,nl,_,1,_,rfl,rfl,SqL.of (A.s _ _ hnl),a0Z nm (i:=1) (by decide),fun mv dx n1 n2 ndx=>?_⟩;refine⟨mv,dx,nm 2,nm 1,rfl,a0d,fun H6 kp_ em=>⟨rfl,?_⟩⟩;have s_:a0r H5 H6:=fun b o e=>by
   have b1:b≠mv:=fun z=>by rw[z,n1] at e;cases e
   have b2:b≠dx:=fun z=>by rw[z,n2] at e;cases e
   exact kp_ b o b1 ((a0g b1).trans ((a0g b2).trans e))
  replace A:=A.same s_
  have C:CvA CC H6 mv (nm 2) (nm 1):=⟨dx,em⟩;clear n1 n2 ndx kp_ em s_;refine⟨fun σ' H'=>σ'=[some (.ref nl),some (.int ft),some (.int c),some (.ref kd),some (.str (sN ft c)),some (.ref od),some (.ref sd),some (.ref mv)]/\H'=H6,?_,?_⟩
  ·refine⟨_,rfl,rfl,_,rfl,a0H (fun h0=>?_) (fun h0=>?_)⟩<;>unfold sN
   ·rw[if_pos h0];exact⟨rfl,rfl⟩
   ·rw[if_neg h0];exact⟨rfl,rfl⟩
  rintro σ1 H7 ⟨rfl,rfl⟩;refine⟨fun σ' H'=>σ'=[some (.ref nl),some (.int ft),some (.int c),some (.ref kd),some (.str (sN ft c)),some (.ref od),some (.ref sd),some (.ref mv)]/\CvA CC H' mv (nm 2) (nm 1)/\∃ks os,St4 H H' kd od sd be bd ks os [(nm 2,V.ref wbd)] [(nm 3,dW)] (dO7 nm ft) [(nm 2,dW)] (nm 4) "many",?_,?_⟩
  ·refine⟨_,rfl,rfl,_,rfl,a0H (fun h0=>?_) (fun h0=>⟨rfl,C,_,_,by unfold dO7;rw[if_neg h0];exact A⟩)⟩
   refine⟨(by decide),fun w1 hw1=>?_⟩;generalize y1:upd H7 w1 _=G1;obtain⟨U1,f1⟩:=gz y1 hw1
   replace A:=A.same U1
   replace C:=C.same U1
   refine⟨_,rfl,_,rfl,nl,_,5,_,rfl,rfl,SqL.of (A.s _ _ hnl),a0Z nm (i:=5) (by decide),od,_,rfl,a8J.k (k:=.inr (nm 5)) A.eo (by show 1<sizeLine;decide),?_⟩;rw[show a3s (kvC [(nm 2,V.ref wod)]) (.inr (nm 5)) (.ref w1)=kvC [(nm 2,V.ref wod),(nm 5,.ref w1)] from a3V (by simp[N.ne (i:=5) (j:=2)])];refine⟨rfl,C.bes A.eo,[(nm 3,V.ref wkd)],[(nm 2,V.ref wod),(nm 5,.ref w1)],?_⟩;unfold dO7;rw[if_pos h0];exact A.putO (A.ro.snoc (rW f1) kW)
  rintro σ1 H8 ⟨rfl,C,ks,os,A⟩;refine⟨fun σ' H'=>∃od,σ'=[some (.ref nl),some (.int ft),some (.int c),some (.ref kd),some (.str (sN ft c)),some (.ref od),some (.ref sd),some (.ref mv)]/\CvA CC H' mv (nm 2) (nm 1)/\∃ks os,St4 H H' kd od sd be bd ks os [(nm 2,V.ref wbd)] [(nm 3,dW)] (dO8 nm ft c) [(nm 2,dW)] (nm 4) "many",?_,?_⟩
  ·refine⟨_,rfl,rfl,_,rfl,a0H (fun h0=>?_) (fun h0=>⟨od,rfl,C,_,_,by unfold dO8;rw[if_neg h0];exact A⟩)⟩
   intro x0 hx0;generalize y0:upd H8 x0 _=G0;obtain⟨U0,f0⟩:=gz y0 hx0;have U1:=a0r.refl G0;generalize hG:G0=G1 at *;intro xd hxd;generalize xxd:upd G1 xd _=axd;obtain⟨Txd,exd⟩:=gz xxd hxd;refine⟨_,rfl,nl,_,5,_,rfl,rfl,SqL.of (((A.s.trans (U0.trans U1)).trans Txd) _ _ hnl),a0Z nm (i:=5) (by decide),(by exact sl1),fun wxd hwxd=>?_⟩;generalize yxd:upd axd wxd _=bxd;obtain⟨Uxd,fxd⟩:=gz yxd hwxd;have gxd:=Uxd _ _ exd;refine⟨gxd,[(.inr (nm 5),.ref wxd)],rfl,(by show 1<=15;decide),(by exact sl2),fun l2 hl2=>?_⟩;have Vxd:a0r G1 (upd bxd xd (.dK (a0A [] [((.inr (nm 5):Key),V.ref wxd)]))):=(Txd.trans Uxd).put hxd;have cxd:(upd bxd xd (.dK (a0A [] [((.inr (nm 5):Key),V.ref wxd)]))) xd=some (.dK (kvC [(nm 5,V.ref wxd)])):=a0d;have rxd:ClR (upd bxd xd (.dK (a0A [] [((.inr (nm 5):Key),V.ref wxd)]))) [(nm 5,V.ref wxd)] [(nm 5,dW)]:=(tb1 (rW fxd) kW).bes gxd (nt gxd);generalize (upd bxd xd (.dK (a0A [] [((.inr (nm 5):Key),V.ref wxd)])))=G2 at *;clear xxd yxd Txd Uxd exd fxd gxd hwxd;generalize y2:upd G2 l2 _=G3;obtain⟨U3,f3⟩:=gz y2 hl2;have h2:c/2%2=0\/c/2%2=1:=by omega
   rcases h2 with h2 |h2
   ·refine⟨_,rfl,_,_,rfl,rfl,⟨by decide,by decide⟩,_,_,rfl,rfl,pos rfl,l2,_,_,.ref x0,rfl,rfl,SqL.of f3,by rw[h2];rfl,x0,rfl,C.same (U0.trans (Vxd.trans U3)),ks,[],?_⟩
    unfold dO8;rw[if_pos h0,if_pos h2];exact A.newO (U0.trans (Vxd.trans U3)) hx0 ((Vxd.trans U3) _ _ f0) .nil
   ·refine⟨_,rfl,_,_,rfl,rfl,⟨by decide,by decide⟩,_,_,rfl,rfl,pos rfl,l2,_,_,.ref xd,rfl,rfl,SqL.of f3,by rw[h2];rfl,xd,rfl,C.same (U0.trans (Vxd.trans U3)),ks,[(nm 5,.ref wxd)],?_⟩
    unfold dO8;rw[if_pos h0,if_neg (by omega)];exact A.newO (U0.trans (Vxd.trans U3)) (a1a U0 hxd) (U3 _ _ cxd) (rxd.same U3)
  rintro σ1 H9 ⟨od,rfl,C,ks,os,A⟩;refine⟨fun σ' H'=>∃od,σ'=[some (.ref nl),some (.int ft),some (.int c),some (.ref kd),some (.str (sN ft c)),some (.ref od),some (.ref sd),some (.ref mv)]/\CvA CC H' mv (nm 2) (nm 1)/\∃ks os,St4 H H' kd od sd be bd ks os [(nm 2,V.ref wbd)] [(nm 3,dW)] (dO nm ft c) [(nm 2,dW)] (nm 4) "many",?_,?_⟩
  ·refine⟨_,rfl,rfl,_,rfl,a0H (fun h0=>?_) (fun h0=>⟨od,rfl,C,_,_,by unfold dO;rw[if_neg h0];exact A⟩)⟩
   intro xd hxd;generalize y0:upd H9 xd _=G0;obtain⟨U0,f0⟩:=gz y0 hxd;refine⟨_,rfl,nl,_,2,_,rfl,rfl,SqL.of ((A.s.trans U0) _ _ hnl),a0Z nm (i:=2) (by decide),(by decide),fun a0 h0'=>⟨(by decide),fun w1 i1'=>⟨(by exact sl2),fun a1 h1'=>⟨(by decide),fun w2 i2'=>⟨(by exact sl2),fun a2 h2'=>⟨(by decide),fun w3 i3'=>⟨(by exact sl2),fun a3 h3'=>⟨(by exact sl4),fun l2 hl2=>?_⟩⟩⟩⟩⟩⟩⟩⟩;generalize z0:upd G0 a0 _=G1 at *;obtain⟨W0,p0⟩:=gz z0 h0';generalize z1:upd G1 w1 _=G2 at *;obtain⟨W1,p1⟩:=gz z1 i1';generalize z2:upd G2 a1 _=G3 at *;obtain⟨W2,p2⟩:=gz z2 h1';generalize z3:upd G3 w2 _=G4 at *;obtain⟨W3,p3⟩:=gz z3 i2';generalize z4:upd G4 a2 _=G5 at *;obtain⟨W4,p4⟩:=gz z4 h2';generalize z5:upd G5 w3 _=G6 at *;obtain⟨W5,p5⟩:=gz z5 i3';generalize z6:upd G6 a3 _=G7 at *;obtain⟨W6,p6⟩:=gz z6 h3';generalize z7:upd G7 l2 _=G8 at *;obtain⟨W7,p7⟩:=gz z7 hl2;have u6:=W6.trans W7;have u5:=W5.trans u6;have u4:=W4.trans u5;have u3:=W3.trans u4;have u2:=W2.trans u3;have u1:=W1.trans u2;have u0:=W0.trans u1;obtain⟨v,ev,rv⟩:=b5M c (u1 _ _ p0) (u3 _ _ p2) (u5 _ _ p4) (W7 _ _ p6) (u2 _ _ p1) (u4 _ _ p3) (u6 _ _ p5);have fx:=u0 _ _ f0;refine⟨_,rfl,_,_,rfl,rfl,⟨by decide,by decide⟩,_,_,rfl,rfl,pos rfl,l2,_,_,v,rfl,rfl,SqL.of p7,ev,fx,[(.inr (nm 2),v)],rfl,(by show 1<=15;decide),xd,rfl,?_⟩;have sx:a0r H9 (upd G8 xd (.dK (a0A [] [((.inr (nm 2):Key),v)]))):=(U0.trans u0).put hxd;refine⟨C.same sx,ks,[(nm 2,v)],?_⟩;unfold dO;rw[if_pos h0];exact A.newO sx hxd a0d ((tb1 rv (b5H c)).bes fx (nt fx))
  rintro σ1 H10 ⟨od,rfl,C,ks,os,A⟩;refine⟨fun σ' H'=>σ'=[some (.ref nl),some (.int ft),some (.int c),some (.ref kd),some (.str (sN ft c)),some (.ref od),some (.ref sd),some (.ref mv)]/\CvA CC H' mv (nm 2) (nm 1)/\∃ks os,St4 H H' kd od sd be bd ks os [(nm 2,V.ref wbd)] (b4G nm ft) (dO nm ft c) [(nm 2,dW)] (nm 4) "many",?_,?_⟩
  ·refine⟨_,rfl,rfl,_,rfl,a0H (fun h0=>?_) (fun h0=>⟨rfl,C,_,_,by unfold b4G;rw[if_neg h0];exact A⟩)⟩
   refine⟨(by decide),fun w1 hw1=>⟨(by exact sl2),fun w2 hw2=>?_⟩⟩;generalize y1:upd H10 w1 _=G1 at *;obtain⟨U1,f1⟩:=gz y1 hw1;generalize y2:upd G1 w2 _=G2 at *;obtain⟨U2,f2⟩:=gz y2 hw2
   replace A:=A.same (U1.trans U2)
   replace C:=C.same (U1.trans U2)
   have hn:nm 2∉ks.map (·.1):=by rw[A.rk.nm];simp[N.ne (i:=2) (j:=3)]
   refine⟨_,rfl,_,rfl,nl,_,2,_,rfl,rfl,SqL.of (A.s _ _ hnl),a0Z nm (i:=2) (by decide),kd,_,rfl,a8J.k (k:=.inr (nm 2)) A.ek (by have:=A.rk.len;unfold kvC;rw[lM0,this,sizeLine_eq];show 1<16777216;decide),?_⟩;rw[a3V hn];refine⟨rfl,C.bes A.ek,ks++[(nm 2,V.ref w2)],os,?_⟩;unfold b4G;rw[if_pos h0];exact A.putK (A.rk.snoc (a2h f2 (by decide +kernel) (rW (U2 _ _ f1))) (b3s (.inl rfl)))
  rintro σ1 H11 ⟨rfl,C,ks,os,A⟩;refine⟨fun σ' H'=>∃kd mv,σ'=[some (.ref nl),some (.int ft),some (.int c),some (.ref kd),some (.str (sN ft c)),some (.ref od),some (.ref sd),some (.ref mv)]/\CvA CC H' mv (nm 2) (mvS nm ft)/\∃ks os,St4 H H' kd od sd be bd ks os [(nm 2,V.ref wbd)] (dKn nm ft) (dO nm ft c) [(nm 2,dW)] (nm 4) "many",?_,?_⟩
  ·refine⟨_,rfl,rfl,_,rfl,a0H (fun h0=>?_) (fun h0=>⟨kd,mv,rfl,by unfold mvS;rw[if_neg h0];exact C,_,_,by unfold dKn;rw[if_neg h0];exact A⟩)⟩
   refine⟨_,rfl,nl,_,2,_,rfl,rfl,SqL.of (A.s _ _ hnl),a0Z nm (i:=2) (by decide),_,rfl,nl,_,0,_,rfl,rfl,SqL.of (A.s _ _ hnl),a0Z nm (i:=0) (by decide),fun mx dx n1 n2 ndx=>⟨mx,dx,nm 2,nm 0,rfl,a0d,fun H11' kp_ em=>⟨rfl,?_⟩⟩⟩;have s_:a0r H11 H11':=fun b o e=>by
    have b1:b≠mx:=fun z=>by rw[z,n1] at e;cases e
    have b2:b≠dx:=fun z=>by rw[z,n2] at e;cases e
    exact kp_ b o b1 ((a0g b1).trans ((a0g b2).trans e))
   replace A:=A.same s_
   clear n1 n2 ndx kp_ s_;have s11:=a0r.refl H11';generalize hG:H11'=H11 at *;intro kx hkx;generalize xkx:upd H11 kx _=akx;obtain⟨Tkx,ekx⟩:=gz xkx hkx;refine⟨_,rfl,nl,_,2,_,rfl,rfl,SqL.of (((A.s.trans s11).trans Tkx) _ _ hnl),a0Z nm (i:=2) (by decide),(by exact sl1),fun wkx hwkx=>?_⟩;generalize ykx:upd akx wkx _=bkx;obtain⟨Ukx,fkx⟩:=gz ykx hwkx;have gkx:=Ukx _ _ ekx;refine⟨gkx,[(.inr (nm 2),.ref wkx)],rfl,(by show 1<=15;decide),?_⟩;have Vkx:a0r H11 (upd bkx kx (.dK (a0A [] [((.inr (nm 2):Key),V.ref wkx)]))):=(Tkx.trans Ukx).put hkx;have ckx:(upd bkx kx (.dK (a0A [] [((.inr (nm 2):Key),V.ref wkx)]))) kx=some (.dK (kvC [(nm 2,V.ref wkx)])):=a0d;have rkx:ClR (upd bkx kx (.dK (a0A [] [((.inr (nm 2):Key),V.ref wkx)]))) [(nm 2,V.ref wkx)] [(nm 2,dW)]:=(tb1 (rW fkx) kW).bes gkx (nt gkx);generalize (upd bkx kx (.dK (a0A [] [((.inr (nm 2):Key),V.ref wkx)])))=H12 at *;clear xkx ykx Tkx Ukx ekx fkx gkx hwkx;refine⟨kx,mx,rfl,(by unfold mvS;rw[if_pos h0];exact⟨dx,Vkx _ _ em⟩),[(nm 2,V.ref wkx)],os,?_⟩;unfold dKn;rw[if_pos h0];exact A.newK Vkx hkx ckx rkx
  rintro σ1 H12 ⟨kd,mv,rfl,C,ks,os,A⟩;refine⟨fun σ' H'=>σ'=[some (.ref nl),some (.int ft),some (.int c),some (.ref kd),some (.str (sN ft c)),some (.ref od),some (.ref sd),some (.ref mv)]/\CvA CC H' mv (nm 2) (mvS nm ft)/\a0r H H'/\H' kd=some (.dK (kvC ks))/\ClR H' ks (dKn nm ft)/\ClR H' os (dO nm ft c)/\ClR H' [(nm 2,V.ref wbd)] [(nm 2,dW)]/\Sds H' sd (Rn (nm 4) "many" (nm 1) (sN ft c) [(nm 2,V.ref wbd)] os (!decide (ft=5))),?_,?_⟩
  ·refine⟨_,rfl,rfl,_,rfl,a4H (fun h0=>?_) (fun h0=>?_)⟩
   ·refine⟨_,rfl,_,rfl,(by exact sl2),fun t2 ht2=>?_⟩
    generalize y1:upd H12 t2 _=G1;obtain⟨U1,f1⟩:=gz y1 ht2
    replace A:=A.same U1
    replace C:=C.same U1
    refine⟨_,rfl,_,rfl,nl,_,1,_,rfl,rfl,SqL.of (A.s _ _ hnl),a0Z nm (i:=1) (by decide),sd,_,rfl,a8J.k (k:=.inr (nm 1)) A.es (by show 1<sizeLine;decide),?_⟩;rw[b1c (N.ne (i:=4) (j:=1))];obtain⟨a1,a2,a3,a4,a5,a6⟩:=A.sds1 (so:=sN ft c) (ok1 N 2 (by decide) dW) (b3V N ft c) (N.ne (i:=4) (j:=1)) f1;rw[dF0 h0];exact⟨rfl,C.bes A.es,a2,a3,a4,a5,a6,a1⟩
   ·rw[dT0 h0]
    exact⟨rfl,C,A.s,A.ek,A.rk,A.ro,A.rb,A.sds0 (ok1 N 2 (by decide) dW)⟩
  rintro σ1 H13 ⟨rfl,C,s13,ek,rk,ro,rb,S,es,eR,hS⟩;have lS:S.length=(Rn (nm 4) "many" (nm 1) (sN ft c) [(nm 2,V.ref wbd)] os (!decide (ft=5))).length:=by rw[<-eR,lM0]
  have l2:(Rn (nm 4) "many" (nm 1) (sN ft c) [(nm 2,V.ref wbd)] os (!decide (ft=5))).length<=2:=by
   unfold Rn
   split
   ·exact nR0 2
   ·exact Nat.le_succ 1
  have nS:(S.map (·.n)).Nodup:=by
   have:S.map (·.n)=(Rn (nm 4) "many" (nm 1) (sN ft c) [(nm 2,V.ref wbd)] os (!decide (ft=5))).map (·.name):=by rw[<-eR,mC0];rfl
   rw[this];unfold Rn
   split
   ·show[nm 4,nm 1].Nodup
    simp[N.ne (i:=4) (j:=1)]
   ·exact List.nodup_cons.mpr ⟨List.not_mem_nil,List.nodup_nil⟩
  refine⟨_,rfl,_,rfl,nl,_,0,_,rfl,rfl,SqL.of (s13 _ _ hnl),a0Z nm (i:=0) (by decide),_,rfl,_,rfl,5,nm 0,kd,sd,ks,S,rfl,a4W ek (rk.dsok (b1C N ft)),es,nS,by omega,hS,fun fm Us H14 s14 fo po ro'=>⟨(by exact sl3),fun l hl=>?_⟩⟩;generalize y6:upd H14 l _=H15;obtain⟨V6,g6⟩:=gz y6 hl;have s1315:=s14.trans V6;rw[eR] at po;exact q l mv fm wbd ks os H15 (s13.trans s1315) (a1a (s13.trans s14) hl) g6 (C.same s1315) (b1T (fo.same V6) po ro' (N.ok 0 (by decide)) (N.ok 4 (by decide)) (N.ok 1 (by decide)) N.ne N.ne N.ne (by decide +kernel) (b4Z ft c) (rk.same s1315) (b1C N ft) (rb.same s1315) (ok1 N 2 (by decide) dW) (ro.same s1315) (b3V N ft c)) (rk.same s1315) (ro.same s1315)
end
def tc (nm:Nat->Str)(c:Int):Str:=if c%2=0 then nm 2 else nm 3
def dC0 (nm:Nat->Str):List (Str×Dt):=[(nm 2,dW),(nm 3,dKy),(nm 5,dWd)]
def dC (nm:Nat->Str)(ft c:Int):List (Str×Dt):=if ft=12 then(dC0 nm).filter fun d=>decide (d.1≠tc nm c) else dC0 nm
def tC (nm:Nat->Str)(ft k c:Int):List Str:=if ft=k then[nm 2,nm 3,tc nm c] else[nm 2,nm 3]
def sC2 (nm:Nat->Str)(ft:Int):Str:=if ft=14 then nm 0 else nm 1
def sC3 (nm:Nat->Str)(ft:Int):Str:=if ft=15 then nm 4 else sC2 nm ft
def sC (nm:Nat->Str)(ft c:Int):Str:=if ft=16 then odd c else sC3 nm ft
theorem b1Y (nm:Nat->Str)(ft k c:Int):(tC nm ft k c).length<64:=by
 unfold tC
 split
 ·show 3<64;decide
 ·show 2<64;decide
theorem b2s (nm:Nat->Str)(c:Int):atI [V.str (nm 2),.str (nm 3)] (c%2)=some (.str (tc nm c)):=by
 have h:c%2=0\/c%2=1:=by omega
 unfold tc;rcases h with h |h<;>rw[h]<;>rfl
theorem a9D {nm:Nat->Str}(N:Nm6 nm):a3u (dC0 nm):=(ok2 N 3 5 (by decide) (by decide) (by decide) dKy dWd).cons (N.ok 2 (by decide)) (by simp[N.ne (i:=2) (j:=3),N.ne (i:=2) (j:=5)]) (by show 2<=11;decide)
theorem b5D {nm:Nat->Str}(N:Nm6 nm)(ft c:Int):a3u (dC nm ft c):=by
 have o:=a9D N;unfold dC
 split
 ·refine⟨o.nd.sublist (List.filter_sublist.map _),Nat.le_trans (List.length_filter_le _ _) o.le,fun d hd=>o.ok d (mF0.mp hd).1⟩
 ·exact o
def b5W (CV:Addr):Sp:=fun vs H Q _=>∃(nl:Addr) (nm:Nat->Str) (ft c:Int),vs=[.ref nl,.int ft,.int c]/\H nl=some (.lst (nmL nm))/\Nm6 nm/\∀l mv f t zs ks H',a0r H H'->H l=none->H' l=some (.lst [.ref mv,.ref f,.bl true])->zs.Perm (tC nm ft 13 c)->sortedS zs=true->CvC CV H' mv (sC nm ft c) t zs->FK H' f 5 ⟨nm 0,"head",ks⟩ [⟨nm 4,"many",[]⟩]->ClR H' ks (dC nm ft c)->Q (.ref l) H'
section
variable {P:Program}{w:World}{K:Fg0}{mg:Str->Option Value}{base:Heap}{CV:Addr}
theorem b5T {f fO fF fI:Addr}{fd fdO fdF fdI:FuncData}(F:Fun K "_law_cleave_old" "_law_cleave_old" (top 53) f fd)(B:Bl mg)(T:ClV K CV)(DO:Df K mg "_law_odd" (top 50) fO fdO)(DF:Df K mg "_law_form" (top 49) fF fdF)(MK:Mk K CV fI)(FI:Fun K "__init__" "Cleave.__init__" (a0w (top 41) 0) fI fdI)(mC:mg "Cleave"=some (.ref CV)):a0x P w K mg base CX0 3 f fd ["_law_names_here","_law_fault","_law_cell_here"] (b5W CV):=by
 have sc:a0o ["_law_names_here","_law_fault","_law_cell_here","_law_kinds","_law_told","_law_side"] ["_law_names_here","_law_fault","_law_cell_here"] (a0f (top 53)):=.k (by decide +kernel);have GO:a0x P w K mg base CX0 1 fO fdO ["_law_cell_here"] b2N:=b1Q DO.fn;have bO:=DO.fn.b1 "_law_cell_here" (by intros;rfl);have GF:a0x P w K mg base CX0 1 fF fdF ["_law_size","_law_head","_law_columns","_law_sides"] b0h:=a8a DF.fn B;have bF:=DF.fn.b4 "_law_size" "_law_head" "_law_columns" "_law_sides" (by intros;rfl);have GI:a0x P w K mg base CX0 1 fI fdI ["self","side","columns"] (a7j CV):=a7u FI B T;have bI:=FI.b3 "self" "side" "columns" (by intros;rfl);refine F.ok sc (fun vs H Q E h=>?_) (fun cdv A outer s H vs Q E hr h=>?_)
 ·obtain⟨nl,nm,ft,c,rfl,_⟩:=h
  rfl
 ·obtain⟨nl,nm,ft,c,rfl,hnl,N,q⟩:=h
  have hu:=a2s hr;have hr1:a1g 1 _:=hr.mono (by decide);refine⟨_,(a0c (a0p (i:=3) sc.nd rfl (Or.inl rfl) (a1t (a0R (a0s a0j (pv 0) a0e (fun _ _=>rfl)) (a0D (a0a a0v a0b)) (a0R (a0s a0j (pv 0) a0e (fun _ _=>rfl)) (a0D (a0a a0v a0b)) (a0R (a0s a0j (pv 0) a0e (fun _ _=>rfl)) (a0D (a0a a0v a0b)) a1s))) rfl rfl (by simp) (by decide)))
   (a0c (a0p (i:=4) sc.nd rfl (Or.inl rfl) (a1r (a0a (a0s a0j (pv 0) a0e (fun _ _=>rfl)) (a0a (a0s a0j (pv 0) a0e (fun _ _=>rfl)) a0b))))
   (a0c (a0p (i:=5) sc.nd rfl (Or.inl rfl) (a0s a0j (pv 0) a0e (fun _ _=>rfl)))
   (a0c (a0I (a0C (a0t a1k (pv 1) a0e (a0u _)) (a0h (a0F (a3l (pv 3) (a0s a0j (pv 4) (a1p a1A (pv 2) a0e) (fun _ _=>rfl)) ⟨rfl,rfl,rfl,rfl⟩))) a0l))
   (a0c (a0I (a0C (a0t a1k (pv 1) a0e (a0u _)) (a0h (a0F (a6Y PySem.F.plainAttrs_list PySem.F.slot_list_append PySem.F.type_list_append a6u (pv 4) (a0a (a0s a0j (pv 4) (a1p a1A (pv 2) a0e) (fun _ _=>rfl)) a0b)))) a0l))
   (a0c (a0I (a0C (a0t a1k (pv 1) a0e (a0u _)) (a0h (a0p (i:=5) sc.nd rfl (Or.inl rfl) (a0s a0j (pv 0) a0e (fun _ _=>rfl)))) a0l))
   (a0c (a0I (a0C (a0t a1k (pv 1) a0e (a0u _)) (a0h (a0p (i:=5) sc.nd rfl (Or.inl rfl) (a0s a0j (pv 0) a0e (fun _ _=>rfl)))) a0l))
   (a0c (a0I (a0C (a0t a1k (pv 1) a0e (a0u _)) (a0h (a0p (i:=5) sc.nd rfl (Or.inl rfl) (a0i GO hr1 (by rfl) DO.mg DO.fn.kp bO .nil a0q (a0a (pv 2) a0b)))) a0l))
   (a0h (a0z (a1r (a0a (a3v MK GI hr (by rfl) mC bI .nil a0q (a0a (pv 5) (a0a (pv 4) a0b))) (a0a (a0i GF hr1 (by rfl) DF.mg DF.fn.kp bF .nil a0q (a0a a0e (a0a (a0s a0j (pv 0) a0e (fun _ _=>rfl)) (a0a (pv 3) (a0a (a1t (a0R (a0s a0j (pv 0) a0e (fun _ _=>rfl)) (a0D (a0a a0v (a0a a7H a0b))) a1s) rfl rfl (by simp) (by decide)) a0b))))) (a0a a3Q a0b)))))))))))))),?_⟩
  intro kd hkd;generalize x1:upd H kd _=H1;obtain⟨T1,e1⟩:=gz x1 hkd;refine⟨_,rfl,nl,_,2,_,rfl,rfl,SqL.of (T1 _ _ hnl),a0Z nm (i:=2) (by decide),(by exact sl1),fun w1 hw1=>?_⟩;generalize x2:upd H1 w1 _=H2;obtain⟨T2,e2⟩:=gz x2 hw1;refine⟨_,rfl,nl,_,3,_,rfl,rfl,SqL.of ((T1.trans T2) _ _ hnl),a0Z nm (i:=3) (by decide),(by exact sl1),fun w2 hw2=>?_⟩;generalize x3:upd H2 w2 _=H3;obtain⟨T3,e3⟩:=gz x3 hw2;refine⟨_,rfl,nl,_,5,_,rfl,rfl,SqL.of ((T1.trans (T2.trans T3)) _ _ hnl),a0Z nm (i:=5) (by decide),(by exact sl1),fun w3 hw3=>?_⟩;generalize x4:upd H3 w3 _=H4;obtain⟨T4,e4⟩:=gz x4 hw3;have s14:=T2.trans (T3.trans T4);have p4:=s14 _ _ e1;refine⟨p4,[(.inr (nm 2),.ref w1),(.inr (nm 3),.ref w2),(.inr (nm 5),.ref w3)],rfl,(by show 3<=15;decide),?_⟩;rw[b4z N.ne N.ne N.ne];have r4:ClR H4 [(nm 2,.ref w1),(nm 3,.ref w2),(nm 5,.ref w3)] (dC0 nm):=.cons (rW ((T3.trans T4) _ _ e2)) kW (.cons (rKy (T4 _ _ e3)) kKy (.cons (rWd e4) kWd .nil));have S5:a0r H (upd H4 kd (.dK [((.inr (nm 2):Key),V.ref w1),(.inr (nm 3),.ref w2),(.inr (nm 5),.ref w3)])):=(T1.trans s14).put hkd;have e5:(upd H4 kd (.dK [((.inr (nm 2):Key),V.ref w1),(.inr (nm 3),.ref w2),(.inr (nm 5),.ref w3)])) kd=some (.dK (kvC [(nm 2,.ref w1),(nm 3,.ref w2),(nm 5,.ref w3)])):=a0d
  replace r4:ClR (upd H4 kd (.dK [((.inr (nm 2):Key),V.ref w1),(.inr (nm 3),.ref w2),(.inr (nm 5),.ref w3)])) [(nm 2,.ref w1),(nm 3,.ref w2),(nm 5,.ref w3)] (dC0 nm):=r4.bes p4 (nt p4)
  generalize upd H4 kd (.dK [((.inr (nm 2):Key),V.ref w1),(.inr (nm 3),.ref w2),(.inr (nm 5),.ref w3)])=H5 at *;clear x1 x2 x3 x4 T1 T2 T3 T4 e1 e2 e3 e4 s14 p4 hw1 hw2 hw3;refine⟨_,rfl,nl,_,2,_,rfl,rfl,SqL.of (S5 _ _ hnl),a0Z nm (i:=2) (by decide),_,rfl,nl,_,3,_,rfl,rfl,SqL.of (S5 _ _ hnl),a0Z nm (i:=3) (by decide),(by exact sl2),fun tl htl=>?_⟩;generalize x1:upd H5 tl _=H6;obtain⟨T6,et⟩:=gz x1 htl;have S6:=S5.trans T6;have e6:=T6 _ _ e5;have r6:=r4.same T6;have tl0:H tl=none:=a1a S5 htl;have ntk:tl≠kd:=fun e=>by rw[e,e5] at htl;cases htl
  clear x1 T6 S5 e5 r4 htl;refine⟨_,rfl,nl,_,1,_,rfl,rfl,SqL.of (S6 _ _ hnl),a0Z nm (i:=1) (by decide),?_⟩;refine⟨fun σ' H'=>σ'=[some (.ref nl),some (.int ft),some (.int c),some (.ref kd),some (.ref tl),some (.str (nm 1))]/\a0r H H'/\H' tl=some (.lst [V.str (nm 2),.str (nm 3)])/\∃ks,H' kd=some (.dK (kvC ks))/\ClR H' ks (dC nm ft c),?_,?_⟩
  ·refine⟨_,rfl,rfl,_,rfl,a0H (fun h0=>?_) (fun h0=>⟨rfl,S6,et,_,e6,by unfold dC;rw[if_neg h0];exact r6⟩)⟩
   have hm:tc nm c∈([(nm 2,V.ref w1),(nm 3,.ref w2),(nm 5,.ref w3)]:List (Str×V)).map (·.1):=by unfold tc;split<;>simp
   refine⟨_,rfl,kd,rfl,.inl ⟨_,.inl e6⟩,_,rfl,_,rfl,_,_,rfl,rfl,pos rfl,tl,_,_,_,rfl,rfl,SqL.of et,b2s nm c,_,.inr (tc nm c),_,e6,rfl,a2Y hm,?_⟩;rw[show a3P (kvC [(nm 2,V.ref w1),(nm 3,.ref w2),(nm 5,.ref w3)]) (.inr (tc nm c))=kvC (lo [(nm 2,V.ref w1),(nm 3,.ref w2),(nm 5,.ref w3)] (tc nm c)) from a3q _ _];refine⟨rfl,S6.put hkd,(a0g ntk).trans et,_,a0d,?_⟩;unfold dC;rw[if_pos h0];exact(r6.lo (tc nm c)).bes e6 (nt e6)
  rintro σ1 H7 ⟨rfl,S7,et7,ks,e7,r7⟩;refine⟨fun σ' H'=>σ'=[some (.ref nl),some (.int ft),some (.int c),some (.ref kd),some (.ref tl),some (.str (nm 1))]/\a0r H H'/\H' tl=some (.lst ((tC nm ft 13 c).map V.str))/\H' kd=some (.dK (kvC ks))/\ClR H' ks (dC nm ft c),?_,?_⟩
  ·refine⟨_,rfl,rfl,_,rfl,a0H (fun h0=>?_) (fun h0=>⟨rfl,S7,by unfold tC;rw[if_neg h0];exact et7,e7,r7⟩)⟩
   refine⟨_,rfl,.inl ⟨rfl,_,SqL.of et7⟩,_,rfl,_,rfl,_,_,rfl,rfl,pos rfl,tl,_,_,_,rfl,rfl,SqL.of et7,b2s nm c,tl,_,_,rfl,rfl,et7,(by show 2<sizeLine;decide),rfl,S7.put tl0,?_,(a0g ntk.symm).trans e7,r7.bes et7 (fun _ h=>by cases h)⟩;unfold tC;rw[if_pos h0];exact a0d
  rintro σ1 H8 ⟨rfl,S8,et8,e8,r8⟩;refine⟨fun σ' H'=>σ'=[some (.ref nl),some (.int ft),some (.int c),some (.ref kd),some (.ref tl),some (.str (sC2 nm ft))]/\H'=H8,?_,?_⟩
  ·refine⟨_,rfl,rfl,_,rfl,a0H (fun h0=>⟨_,rfl,nl,_,0,_,rfl,rfl,SqL.of (S8 _ _ hnl),a0Z nm (i:=0) (by decide),?_⟩) (fun h0=>?_)⟩<;>unfold sC2
   ·rw[if_pos h0];exact⟨rfl,rfl⟩
   ·rw[if_neg h0];exact⟨rfl,rfl⟩
  rintro σ1 H9 ⟨rfl,rfl⟩;refine⟨fun σ' H'=>σ'=[some (.ref nl),some (.int ft),some (.int c),some (.ref kd),some (.ref tl),some (.str (sC3 nm ft))]/\H'=H9,?_,?_⟩
  ·refine⟨_,rfl,rfl,_,rfl,a0H (fun h0=>⟨_,rfl,nl,_,4,_,rfl,rfl,SqL.of (S8 _ _ hnl),a0Z nm (i:=4) (by decide),?_⟩) (fun h0=>?_)⟩<;>unfold sC3
   ·rw[if_pos h0];exact⟨rfl,rfl⟩
   ·rw[if_neg h0];exact⟨rfl,rfl⟩
  rintro σ1 H9 ⟨rfl,rfl⟩;refine⟨fun σ' H'=>σ'=[some (.ref nl),some (.int ft),some (.int c),some (.ref kd),some (.ref tl),some (.str (sC nm ft c))]/\a0r H9 H',?_,?_⟩
  ·refine⟨_,rfl,rfl,_,rfl,a0H (fun h0=>⟨_,rfl,c,rfl,fun H' s'=>?_⟩) (fun h0=>?_)⟩<;>unfold sC
   ·rw[if_pos h0];exact⟨rfl,s'⟩
   ·rw[if_neg h0];exact⟨rfl,a0r.refl _⟩
  rintro σ1 H10 ⟨rfl,s10⟩;have S10:=S8.trans s10;have e10:=s10 _ _ e8;have r10:=r8.same s10;have et10:=s10 _ _ et8;have ltC:(tC nm ft 13 c).length<64:=b1Y _ _ _ _;refine⟨_,rfl,_,rfl,fun mv dx n1 n2 ndx=>?_⟩;have mtl:tl≠mv:=fun z=>by rw[z,n1] at et10;cases et10
  have dtl:tl≠dx:=fun z=>by rw[z,n2] at et10;cases et10
  refine⟨mv,dx,tl,sC nm ft c,tC nm ft 13 c,rfl,a0d,(a0g mtl).trans ((a0g dtl).trans et10),ltC,fun t zs H11 pz so kp11 em et=>⟨rfl,?_⟩⟩;have s11:a0r H10 H11:=fun b o e=>by
   have b1:b≠mv:=fun z=>by rw[z,n1] at e;cases e
   have b2:b≠dx:=fun z=>by rw[z,n2] at e;cases e
   exact kp11 b o b1 ((a0g b1).trans ((a0g b2).trans e))
  have S11:=S10.trans s11;refine⟨_,rfl,nl,_,0,_,rfl,rfl,SqL.of (S11 _ _ hnl),a0Z nm (i:=0) (by decide),_,rfl,?_⟩;intro sd hsd;generalize y1:upd H11 sd _=M1;obtain⟨V1,g1⟩:=gz y1 hsd;refine⟨_,rfl,nl,_,4,_,rfl,rfl,SqL.of ((S11.trans V1) _ _ hnl),a0Z nm (i:=4) (by decide),fun bd hbd=>⟨(by exact sl2),fun be hbe=>?_⟩⟩;generalize y2:upd M1 bd _=M2 at *;obtain⟨V2,g2⟩:=gz y2 hbd;generalize y5:upd M2 be _=M5;obtain⟨V5,g5⟩:=gz y5 hbe;have v15:=V2.trans V5;refine⟨v15 _ _ g1,[(.inr (nm 4),.ref be)],rfl,(by show 1<=15;decide),?_⟩;have nbs:bd≠sd:=fun e=>by rw[e,g1] at hbd;cases hbd
  have nes:be≠sd:=fun e=>by rw[e,V2 _ _ g1] at hbe;cases hbe
  have S12:a0r H11 (upd M5 sd (.dK (a0A [] [((.inr (nm 4):Key),V.ref be)]))):=(V1.trans v15).put hsd;have k12:∀b o,b≠sd->M5 b=some o->(upd M5 sd (.dK (a0A [] [((.inr (nm 4):Key),V.ref be)]))) b=some o:=fun b o nb e=>(a0g nb).trans e;have e12:(upd M5 sd (.dK (a0A [] [((.inr (nm 4):Key),V.ref be)]))) sd=some (.dK [((.inr (nm 4):Key),V.ref be)]):=a0d;generalize upd M5 sd (.dK (a0A [] [((.inr (nm 4):Key),V.ref be)]))=H12 at *;have hb12:H12 bd=some (.dK (kvC [])):=k12 _ _ nbs (V5 _ _ g2);have he12:=k12 _ _ nes g5;have okN:∀{G:Hp},a0G G []:=fun {G}=>⟨List.nodup_nil,by decide,fun x h=>nomatch h⟩;have okK:∀{G:Hp},a0r H10 G->a0G G ks:=fun s=>(r10.same s).dsok (b5D N ft c);refine⟨5,nm 0,kd,sd,ks,[⟨nm 4,"many",be,bd,[]⟩],rfl,a4W ((s11.trans S12) _ _ e10) (okK (s11.trans S12)),e12,List.nodup_cons.mpr ⟨List.not_mem_nil,List.nodup_nil⟩,(by show 1<=7;decide),(fun x hx=>by rw[mS0.mp hx];exact⟨he12,a4W hb12 okN⟩),fun fm Us H13 s13 fo po ro=>⟨(by exact sl3),fun l hl=>?_⟩⟩;generalize y6:upd H13 l _=H14;obtain⟨V6,g6⟩:=gz y6 hl;have s1114:=S12.trans (s13.trans V6);refine q l mv fm t zs ks H14 (S11.trans s1114) (a1a (S11.trans (S12.trans s13)) hl) g6 pz so ⟨⟨dx,s1114 _ _ em⟩,s1114 _ _ et⟩ (b2F (fo.same V6) po ro (by show 1<=7;decide) (by show[nm 0,nm 4].Nodup;simp[N.ne (i:=0) (j:=4)]) ⟨N.ok 0 (by decide),okK (s11.trans s1114)⟩ fun X hX=>?_) (r10.same (s11.trans s1114));rw[mS0.mp hX];exact⟨N.ok 4 (by decide),(by decide +kernel:("many":Str)∈a1S),okN⟩
end
def dP0 (nm:Nat->Str):List (Str×Dt):=[(nm 2,dW),(nm 3,dKy)]
def sV (ft c:Int):Str:=if ft=18 then a1m (soL c) else "twin"
def dP1 (nm:Nat->Str)(ft:Int):List (Str×Dt):=if ft=19 then[(nm 2,dW),(nm 3,dKy),(nm 5,dWd)] else dP0 nm
def dP (nm:Nat->Str)(ft c:Int):List (Str×Dt):=if ft=20 then(dP1 nm ft).filter fun d=>decide (d.1≠tc nm c) else dP1 nm ft
def dQ (nm:Nat->Str)(ft c:Int):List (Str×Dt):=if ft=21 then[(nm 5,dWd),(tc nm c,dW)] else[(nm 5,dWd)]
def mvC (nm:Nat->Str)(ft c:Int)(z:Str)(zs:List Str):Prop:=if ft=23 then z=nm 0/\zs=[nm 5] else z=nm 1/\zs.Perm (tC nm ft 22 c)
theorem a6O (nm:Nat->Str)(c:Int):tc nm c=nm 2\/tc nm c=nm 3:=by
 unfold tc
 split
 ·exact .inl rfl
 ·exact .inr rfl
def b5R (CV:Addr):Sp:=fun vs H Q _=>∃(nl:Addr) (nm:Nat->Str) (ft c:Int),vs=[.ref nl,.int ft,.int c]/\H nl=some (.lst (nmL nm))/\Nm6 nm/\∀l mv f t z zs c4 ks os H',a0r H H'->H l=none->H' l=some (.lst [.ref mv,.ref f,.bl false])->mvC nm ft c z zs->sortedS zs=true->CvC CV H' mv z t zs->FK H' f 5 ⟨nm 0,"head",ks⟩ (Rn (nm 4) "twin" (nm 1) (sV ft c) c4 os (!decide (ft=17)))->ClR H' ks (dQ nm ft c)->ClR H' os (dP nm ft c)->Q (.ref l) H'
section
variable {nm:Nat->Str}(N:Nm6 nm)(ft c:Int)
include N
theorem a7x:a3u (dP0 nm):=ok2 N 2 3 (by decide) (by decide) (by decide) _ _
theorem b3S:a3u (dP nm ft c):=by
 have o:a3u (dP1 nm ft):=by
  unfold dP1
  split
  ·exact a9D N
  ·exact a7x N
 unfold dP
 split
 ·exact⟨o.nd.sublist (List.filter_sublist.map _),Nat.le_trans (List.length_filter_le _ _) o.le,fun d hd=>o.ok d (mF0.mp hd).1⟩
 ·exact o
theorem b4u:a3u (dQ nm ft c):=by
 unfold dQ
 split
 ·rcases a6O nm c with e |e<;>rw[e]
  ·exact ok2 N 5 2 (by decide) (by decide) (by decide) _ _
  ·exact ok2 N 5 3 (by decide) (by decide) (by decide) _ _
 ·exact ok1 N 5 (by decide) _
end
theorem b6k (ft c:Int):sV ft c∈a1S:=by
 unfold sV
 split
 ·exact(a5p (a5e c).2.2).2.2
 ·decide +kernel
theorem CvC.bes {CV:Addr}{H:Hp}{a mv t:Addr}{z:Str}{zs:List Str}{kv:List (Key×V)}{u:HO}(h:CvC CV H mv z t zs)(e:H a=some (.dK kv)):CvC CV (upd H a u) mv z t zs:=⟨let ⟨dx,e'⟩:=h.ex;⟨dx,(a0g (fun q=>by rw[q,e] at e';cases e')).trans e'⟩,(a0g (fun q=>by have:=h.t;rw[q,e] at this;cases this)).trans h.t⟩
theorem lne {H:Hp}{a b:Addr}{xs:List V}{kv:List (Key×V)}{u:HO}(h:H a=some (.lst xs))(e:H b=some (.dK kv)):(upd H b u) a=some (.lst xs):=(a0g (fun q=>by rw[q,e] at h;cases h)).trans h
section
variable {P:Program}{w:World}{K:Fg0}{mg:Str->Option Value}{base:Heap}{CV:Addr}
theorem b6d {f fF fI:Addr}{fd fdF fdI:FuncData}(F:Fun K "_law_cleave_new" "_law_cleave_new" (top 54) f fd)(B:Bl mg)(T:ClV K CV)(DF:Df K mg "_law_form" (top 49) fF fdF)(MK:Mk K CV fI)(FI:Fun K "__init__" "Cleave.__init__" (a0w (top 41) 0) fI fdI)(mC:mg "Cleave"=some (.ref CV)):a0x P w K mg base CX0 3 f fd ["_law_names_here","_law_fault","_law_cell_here"] (b5R CV):=by
 have sc:a0o ["_law_names_here","_law_fault","_law_cell_here","_law_kinds","_law_own","_law_told","_law_sort","_law_sides","_law_move"] ["_law_names_here","_law_fault","_law_cell_here"] (a0f (top 54)):=.k (by decide +kernel);have GF:a0x P w K mg base CX0 1 fF fdF ["_law_size","_law_head","_law_columns","_law_sides"] b0h:=a8a DF.fn B;have bF:=DF.fn.b4 "_law_size" "_law_head" "_law_columns" "_law_sides" (by intros;rfl);have GI:a0x P w K mg base CX0 1 fI fdI ["self","side","columns"] (a7j CV):=a7u FI B T;have bI:=FI.b3 "self" "side" "columns" (by intros;rfl);refine F.ok sc (fun vs H Q E h=>?_) (fun cdv A outer s H vs Q E hr h=>?_)
 ·obtain⟨nl,nm,ft,c,rfl,_⟩:=h
  rfl
 ·obtain⟨nl,nm,ft,c,rfl,hnl,N,q⟩:=h
  have hu:=a2s hr;have hr1:a1g 1 _:=hr.mono (by decide);refine⟨_,(a0c (a0p (i:=3) sc.nd rfl (Or.inl rfl) (a1t (a0R (a0s a0j (pv 0) a0e (fun _ _=>rfl)) (a0D (a0a a0v a0b)) a1s) rfl rfl (by simp) (by decide)))
   (a0c (a0p (i:=4) sc.nd rfl (Or.inl rfl) (a1t (a0R (a0s a0j (pv 0) a0e (fun _ _=>rfl)) (a0D (a0a a0v a0b)) (a0R (a0s a0j (pv 0) a0e (fun _ _=>rfl)) (a0D (a0a a0v a0b)) a1s)) rfl rfl (by simp) (by decide)))
   (a0c (a0p (i:=5) sc.nd rfl (Or.inl rfl) (a1r (a0a (a0s a0j (pv 0) a0e (fun _ _=>rfl)) (a0a (a0s a0j (pv 0) a0e (fun _ _=>rfl)) a0b))))
   (a0c (a0p (i:=6) sc.nd rfl (Or.inl rfl) a0v)
   (a0c (a0p (i:=7) sc.nd rfl (Or.inl rfl) (a1t (a0R (a0s a0j (pv 0) a0e (fun _ _=>rfl)) (a0D (a0a a0v (a0a (a1t (a0R (a0s a0j (pv 0) a0e (fun _ _=>rfl)) (a0D (a0a a0v a0b)) (a0R (a0s a0j (pv 0) a0e (fun _ _=>rfl)) (a0D (a0a a0v a0b)) a1s)) rfl rfl (by simp) (by decide)) a0b))) a1s) rfl rfl (by simp) (by decide)))
   (a0c (a0I (a0C (a0t a1k (pv 1) a0e (a0u _)) (a0h (a0p (i:=6) sc.nd rfl (Or.inl rfl) (a0s a0j (a1r (a0a a0v (a0a a0v a0b))) (a1p a1A (pv 2) a0e) (fun _ _=>rfl)))) a0l))
   (a0c (a0I (a0C (a0t a1k (pv 1) a0e (a0u _)) (a0h (a2L hu (pv 4) (a0s a0j (pv 0) a0e (fun _ _=>rfl)) (a0D (a0a a0v a0b)) rfl)) a0l))
   (a0c (a0I (a0C (a0t a1k (pv 1) a0e (a0u _)) (a0h (a0F (a3l (pv 4) (a0s a0j (pv 5) (a1p a1A (pv 2) a0e) (fun _ _=>rfl)) ⟨rfl,rfl,rfl,rfl⟩))) a0l))
   (a0c (a0I (a0C (a0t a1k (pv 1) a0e (a0u _)) (a0h (a2L hu (pv 3) (a0s a0j (pv 5) (a1p a1A (pv 2) a0e) (fun _ _=>rfl)) (a0D (a0a a0v a0b)) rfl)) a0l))
   (a0c (a0I (a0C (a0t a1k (pv 1) a0e (a0u _)) (a0h (a0F (a6Y PySem.F.plainAttrs_list PySem.F.slot_list_append PySem.F.type_list_append a6u (pv 5) (a0a (a0s a0j (pv 5) (a1p a1A (pv 2) a0e) (fun _ _=>rfl)) a0b)))) a0l))
   (a0c (a0p (i:=8) sc.nd rfl (Or.inl rfl) (a3v MK GI hr (by rfl) mC bI .nil a0q (a0a (a0s a0j (pv 0) a0e (fun _ _=>rfl)) (a0a (pv 5) a0b))))
   (a0c (a0I (a0C (a0t a1k (pv 1) a0e (a0u _)) (a0h (a0p (i:=8) sc.nd rfl (Or.inl rfl) (a3v MK GI hr (by rfl) mC bI .nil a0q (a0a (a0s a0j (pv 0) a0e (fun _ _=>rfl)) (a0a (a1r (a0a (a0s a0j (pv 0) a0e (fun _ _=>rfl)) a0b)) a0b))))) a0l))
   (a0c (a0I (a0C (a0t a3O (pv 1) a0e (a0u _)) (a0h (a2L hu (pv 7) (a0s a0j (pv 0) a0e (fun _ _=>rfl)) (a0D (a0a (pv 6) (a0a (pv 4) a0b))) rfl)) a0l))
   (a0h (a0z (a1r (a0a (pv 8) (a0a (a0i GF hr1 (by rfl) DF.mg DF.fn.kp bF .nil a0q (a0a a0e (a0a (a0s a0j (pv 0) a0e (fun _ _=>rfl)) (a0a (pv 3) (a0a (pv 7) a0b))))) (a0a a3Q a0b))))))))))))))))))),?_⟩
  obtain⟨_,so2,so3⟩:=a5e c;intro kd hkd;generalize xkd:upd H kd _=akd;obtain⟨Tkd,ekd⟩:=gz xkd hkd;refine⟨_,rfl,nl,_,5,_,rfl,rfl,SqL.of (((a0r.refl H).trans Tkd) _ _ hnl),a0Z nm (i:=5) (by decide),(by exact sl1),fun wkd hwkd=>?_⟩;generalize ykd:upd akd wkd _=bkd;obtain⟨Ukd,fkd⟩:=gz ykd hwkd;have gkd:=Ukd _ _ ekd;refine⟨gkd,[(.inr (nm 5),.ref wkd)],rfl,(by show 1<=15;decide),?_⟩;have Vkd:a0r H (upd bkd kd (.dK (a0A [] [((.inr (nm 5):Key),V.ref wkd)]))):=(Tkd.trans Ukd).put hkd;have ckd:(upd bkd kd (.dK (a0A [] [((.inr (nm 5):Key),V.ref wkd)]))) kd=some (.dK (kvC [(nm 5,V.ref wkd)])):=a0d;have rkd:ClR (upd bkd kd (.dK (a0A [] [((.inr (nm 5):Key),V.ref wkd)]))) [(nm 5,V.ref wkd)] [(nm 5,dWd)]:=(tb1 (rWd fkd) kWd).bes gkd (nt gkd);generalize (upd bkd kd (.dK (a0A [] [((.inr (nm 5):Key),V.ref wkd)])))=H1 at *;clear xkd ykd Tkd Ukd ekd fkd gkd hwkd;intro od hod;generalize xod:upd H1 od _=aod;obtain⟨Tod,eod⟩:=gz xod hod;refine⟨_,rfl,nl,_,2,_,rfl,rfl,SqL.of ((Vkd.trans Tod) _ _ hnl),a0Z nm (i:=2) (by decide),(by exact sl1),fun wod hwod=>?_⟩;generalize yod:upd aod wod _=mod;obtain⟨Uod,fod⟩:=gz yod hwod;refine⟨_,rfl,nl,_,3,_,rfl,rfl,SqL.of ((Vkd.trans (Tod.trans Uod)) _ _ hnl),a0Z nm (i:=3) (by decide),(by exact sl1),fun vod hvod=>?_⟩;generalize zod:upd mod vod _=bod;obtain⟨Xod,jod⟩:=gz zod hvod;have god:=(Uod.trans Xod) _ _ eod;refine⟨god,[(.inr (nm 2),.ref wod),(.inr (nm 3),.ref vod)],rfl,(by show 2<=15;decide),?_⟩;rw[a7J N.ne];have Vod:a0r H1 (upd bod od (.dK [((.inr (nm 2):Key),V.ref wod),(.inr (nm 3),.ref vod)])):=(Tod.trans (Uod.trans Xod)).put hod;have cod:(upd bod od (.dK [((.inr (nm 2):Key),V.ref wod),(.inr (nm 3),.ref vod)])) od=some (.dK (kvC [(nm 2,V.ref wod),(nm 3,.ref vod)])):=a0d;have rod:ClR (upd bod od (.dK [((.inr (nm 2):Key),V.ref wod),(.inr (nm 3),.ref vod)])) [(nm 2,V.ref wod),(nm 3,.ref vod)] (dP0 nm):=(ClR.cons (rW (Xod _ _ fod)) kW (tb1 (rKy jod) kKy)).bes god (nt god);generalize (upd bod od (.dK [((.inr (nm 2):Key),V.ref wod),(.inr (nm 3),.ref vod)]))=H2 at *;clear xod yod zod Tod Uod Xod eod fod jod god hwod hvod;have S2:=Vkd.trans Vod;refine⟨_,rfl,nl,_,2,_,rfl,rfl,SqL.of (S2 _ _ hnl),a0Z nm (i:=2) (by decide),_,rfl,nl,_,3,_,rfl,rfl,SqL.of (S2 _ _ hnl),a0Z nm (i:=3) (by decide),(by exact sl2),fun tl htl=>?_⟩;generalize x2:upd H2 tl _=H3;obtain⟨T3,et⟩:=gz x2 htl;have S3:=S2.trans T3;intro sd hsd;generalize x3:upd H3 sd _=J0;obtain⟨Q0,e3⟩:=gz x3 hsd;refine⟨_,rfl,nl,_,4,_,rfl,rfl,SqL.of ((S3.trans Q0) _ _ hnl),a0Z nm (i:=4) (by decide),?_⟩;intro bd hbd;generalize xbd:upd J0 bd _=abd;obtain⟨Tbd,ebd⟩:=gz xbd hbd;refine⟨_,rfl,nl,_,2,_,rfl,rfl,SqL.of (((S3.trans Q0).trans Tbd) _ _ hnl),a0Z nm (i:=2) (by decide),(by exact sl1),fun wbd hwbd=>?_⟩;generalize ybd:upd abd wbd _=mbd;obtain⟨Ubd,fbd⟩:=gz ybd hwbd;refine⟨_,rfl,nl,_,3,_,rfl,rfl,SqL.of (((S3.trans Q0).trans (Tbd.trans Ubd)) _ _ hnl),a0Z nm (i:=3) (by decide),(by exact sl1),fun vbd hvbd=>?_⟩;generalize zbd:upd mbd vbd _=bbd;obtain⟨Xbd,jbd⟩:=gz zbd hvbd;have gbd:=(Ubd.trans Xbd) _ _ ebd;refine⟨gbd,[(.inr (nm 2),.ref wbd),(.inr (nm 3),.ref vbd)],rfl,(by show 2<=15;decide),(by exact sl2),fun be hbe=>?_⟩;rw[a7J N.ne] at hbe;rw[a7J N.ne];have Vbd:a0r J0 (upd bbd bd (.dK [((.inr (nm 2):Key),V.ref wbd),(.inr (nm 3),.ref vbd)])):=(Tbd.trans (Ubd.trans Xbd)).put hbd;have cbd:(upd bbd bd (.dK [((.inr (nm 2):Key),V.ref wbd),(.inr (nm 3),.ref vbd)])) bd=some (.dK (kvC [(nm 2,V.ref wbd),(nm 3,.ref vbd)])):=a0d;have rbd:ClR (upd bbd bd (.dK [((.inr (nm 2):Key),V.ref wbd),(.inr (nm 3),.ref vbd)])) [(nm 2,V.ref wbd),(nm 3,.ref vbd)] (dP0 nm):=(ClR.cons (rW (Xbd _ _ fbd)) kW (tb1 (rKy jbd) kKy)).bes gbd (nt gbd);generalize (upd bbd bd (.dK [((.inr (nm 2):Key),V.ref wbd),(.inr (nm 3),.ref vbd)]))=J1 at *;clear xbd ybd zbd Tbd Ubd Xbd ebd fbd jbd gbd hwbd hvbd;generalize x4:upd J1 be _=J2;obtain⟨Q2,e4⟩:=gz x4 hbe;refine⟨(Vbd.trans Q2) _ _ e3,[(.inr (nm 4),.ref be)],rfl,(by show 1<=15;decide),?_⟩;have sJ:=Q0.trans (Vbd.trans Q2);have s2J:=T3.trans sJ;have esd:=(Vbd.trans Q2) _ _ e3;have k5:∀b o,b≠sd->J2 b=some o->(upd J2 sd (.dK (a0A [] [((.inr (nm 4):Key),V.ref be)]))) b=some o:=fun b o nb e=>(a0g nb).trans e;have n_k:kd≠sd:=fun e=>by rw[<-e,(Vod.trans T3) _ _ ckd] at hsd;cases hsd
  have n_o:od≠sd:=fun e=>by rw[<-e,T3 _ _ cod] at hsd;cases hsd
  have n_b:sd≠bd:=fun e=>by rw[<-e,e3] at hbd;cases hbd
  have n_e:be≠sd:=fun e=>by rw[e,Vbd _ _ e3] at hbe;cases hbe
  have n_ko:kd≠od:=fun e=>by rw[<-e,ckd] at hod;cases hod
  have n_kb:kd≠bd:=fun e=>by rw[<-e,(Vod.trans (T3.trans Q0)) _ _ ckd] at hbd;cases hbd
  have n_ob:od≠bd:=fun e=>by rw[<-e,(T3.trans Q0) _ _ cod] at hbd;cases hbd
  have A:St4 H (upd J2 sd (.dK (a0A [] [((.inr (nm 4):Key),V.ref be)]))) kd od sd be bd [(nm 5,V.ref wkd)] [(nm 2,V.ref wod),(nm 3,.ref vod)] [(nm 2,V.ref wbd),(nm 3,.ref vbd)] [(nm 5,dWd)] (dP0 nm) (dP0 nm) (nm 4) "twin":=
   ⟨(S3.trans sJ).put (a1a S3 hsd),hkd,a1a Vkd hod,a1a S3 hsd,k5 _ _ n_k ((Vod.trans s2J) _ _ ckd),(rkd.same (Vod.trans s2J)).bes esd (nt esd),k5 _ _ n_o (s2J _ _ cod),(rod.same s2J).bes esd (nt esd),a0d,k5 _ _ n_e e4,k5 _ _ n_b.symm (Q2 _ _ cbd),(rbd.same Q2).bes esd (nt esd),n_ko,n_k,n_o,n_kb,n_ob,n_b⟩
  have L:(upd J2 sd (.dK (a0A [] [((.inr (nm 4):Key),V.ref be)]))) tl=some (.lst [V.str (nm 2),.str (nm 3)]):=lne (sJ _ _ et) esd;have tl0:H tl=none:=a1a S2 htl;generalize upd J2 sd (.dK (a0A [] [((.inr (nm 4):Key),V.ref be)]))=H5 at *;clear k5 n_k n_o n_b n_e n_ko n_kb n_ob sJ s2J esd e3 e4 x2 x3 x4 Q0 Q2 Vbd cbd rbd Vod cod rod Vkd ckd rkd S3 S2 T3 et hkd hod hsd hbd hbe htl;refine⟨fun σ' H'=>σ'=[some (.ref nl),some (.int ft),some (.int c),some (.ref kd),some (.ref od),some (.ref tl),some (.str (sV ft c)),some (.ref sd),none]/\a0r H5 H',?_,?_⟩
  ·refine⟨_,rfl,rfl,_,rfl,a0H (fun h0=>?_) (fun h0=>?_)⟩<;>unfold sV
   ·rw[if_pos h0]
    exact⟨(by exact sl2),fun l1 hl1=>⟨_,rfl,_,_,rfl,rfl,pos rfl,l1,_,_,_,rfl,rfl,SqL.of a0d,so2,rfl,a0r.upd hl1⟩⟩
   ·rw[if_neg h0];exact⟨rfl,a0r.refl _⟩
  rintro σ1 H6 ⟨rfl,s6⟩
  replace A:=A.same s6
  replace L:=s6 _ _ L
  refine⟨fun σ' H'=>σ'=[some (.ref nl),some (.int ft),some (.int c),some (.ref kd),some (.ref od),some (.ref tl),some (.str (sV ft c)),some (.ref sd),none]/\H' tl=some (.lst [V.str (nm 2),.str (nm 3)])/\∃ks os,St4 H H' kd od sd be bd ks os [(nm 2,V.ref wbd),(nm 3,.ref vbd)] [(nm 5,dWd)] (dP1 nm ft) (dP0 nm) (nm 4) "twin",?_,?_⟩
  ·refine⟨_,rfl,rfl,_,rfl,a0H (fun h0=>?_) (fun h0=>⟨rfl,L,_,_,by unfold dP1;rw[if_neg h0];exact A⟩)⟩
   refine⟨(by decide),fun w1 hw1=>?_⟩;generalize y1:upd H6 w1 _=G1;obtain⟨U1,f1⟩:=gz y1 hw1
   replace A:=A.same U1
   replace L:=U1 _ _ L
   refine⟨_,rfl,_,rfl,nl,_,5,_,rfl,rfl,SqL.of (A.s _ _ hnl),a0Z nm (i:=5) (by decide),od,_,rfl,a8J.k (k:=.inr (nm 5)) A.eo (by show 2<sizeLine;decide),?_⟩;rw[show a3s (kvC [(nm 2,V.ref wod),(nm 3,.ref vod)]) (.inr (nm 5)) (.ref w1)=kvC [(nm 2,V.ref wod),(nm 3,.ref vod),(nm 5,.ref w1)] from a3V (by simp[N.ne (i:=5) (j:=2),N.ne (i:=5) (j:=3)])];refine⟨rfl,lne L A.eo,[(nm 5,V.ref wkd)],[(nm 2,V.ref wod),(nm 3,.ref vod),(nm 5,.ref w1)],?_⟩;unfold dP1;rw[if_pos h0];exact A.putO (A.ro.snoc (rWd f1) kWd)
  rintro σ1 H7 ⟨rfl,L,ks,os,A⟩;have et:=b2s nm c;have d1m:tc nm c∈(dP1 nm ft).map (·.1):=by
   unfold dP1 dP0;rcases a6O nm c with e |e<;>rw[e]<;>split<;>simp
  refine⟨fun σ' H'=>σ'=[some (.ref nl),some (.int ft),some (.int c),some (.ref kd),some (.ref od),some (.ref tl),some (.str (sV ft c)),some (.ref sd),none]/\H' tl=some (.lst [V.str (nm 2),.str (nm 3)])/\∃ks os,St4 H H' kd od sd be bd ks os [(nm 2,V.ref wbd),(nm 3,.ref vbd)] [(nm 5,dWd)] (dP nm ft c) (dP0 nm) (nm 4) "twin",?_,?_⟩
  ·refine⟨_,rfl,rfl,_,rfl,a0H (fun h0=>?_) (fun h0=>⟨rfl,L,_,_,by unfold dP;rw[if_neg h0];exact A⟩)⟩
   refine⟨_,rfl,od,rfl,.inl ⟨_,.inl A.eo⟩,_,rfl,_,rfl,_,_,rfl,rfl,pos rfl,tl,_,_,_,rfl,rfl,SqL.of L,et,_,.inr (tc nm c),_,A.eo,rfl,a2Y (by rw[A.ro.nm];exact d1m),?_⟩;rw[show a3P (kvC os) (.inr (tc nm c))=kvC (lo os (tc nm c)) from a3q _ _];refine⟨rfl,lne L A.eo,ks,lo os (tc nm c),?_⟩;unfold dP;rw[if_pos h0];exact A.putO (A.ro.lo (tc nm c))
  rintro σ1 H8 ⟨rfl,L,ks,os,A⟩;refine⟨fun σ' H'=>σ'=[some (.ref nl),some (.int ft),some (.int c),some (.ref kd),some (.ref od),some (.ref tl),some (.str (sV ft c)),some (.ref sd),none]/\H' tl=some (.lst [V.str (nm 2),.str (nm 3)])/\∃ks os,St4 H H' kd od sd be bd ks os [(nm 2,V.ref wbd),(nm 3,.ref vbd)] (dQ nm ft c) (dP nm ft c) (dP0 nm) (nm 4) "twin",?_,?_⟩
  ·refine⟨_,rfl,rfl,_,rfl,a0H (fun h0=>?_) (fun h0=>⟨rfl,L,_,_,by unfold dQ;rw[if_neg h0];exact A⟩)⟩
   refine⟨(by decide),fun w1 hw1=>?_⟩;generalize y1:upd H8 w1 _=G1;obtain⟨U1,f1⟩:=gz y1 hw1
   replace A:=A.same U1
   replace L:=U1 _ _ L
   have hn:tc nm c∉ks.map (·.1):=by
    rw[A.rk.nm];rcases a6O nm c with e |e<;>rw[e]
    ·simp[N.ne (i:=2) (j:=5)]
    ·simp[N.ne (i:=3) (j:=5)]
   refine⟨_,rfl,_,rfl,_,rfl,_,_,rfl,rfl,pos rfl,tl,_,_,_,rfl,rfl,SqL.of L,et,kd,_,rfl,a8J.k (k:=.inr (tc nm c)) A.ek (by have:=A.rk.len;unfold kvC;rw[lM0,this,sizeLine_eq];show 1<16777216;decide),?_⟩;rw[a3V hn];refine⟨rfl,lne L A.ek,ks++[(tc nm c,V.ref w1)],os,?_⟩;unfold dQ;rw[if_pos h0];exact A.putK (A.rk.snoc (rW f1) kW)
  rintro σ1 H9 ⟨rfl,L,ks,os,A⟩;refine⟨fun σ' H'=>σ'=[some (.ref nl),some (.int ft),some (.int c),some (.ref kd),some (.ref od),some (.ref tl),some (.str (sV ft c)),some (.ref sd),none]/\H' tl=some (.lst ((tC nm ft 22 c).map V.str))/\St4 H H' kd od sd be bd ks os [(nm 2,V.ref wbd),(nm 3,.ref vbd)] (dQ nm ft c) (dP nm ft c) (dP0 nm) (nm 4) "twin",?_,?_⟩
  ·refine⟨_,rfl,rfl,_,rfl,a0H (fun h0=>?_) (fun h0=>⟨rfl,by unfold tC;rw[if_neg h0];exact L,A⟩)⟩
   have nL:∀{b:Addr} {kv:List (Key×V)},H9 b=some (.dK kv)->b≠tl:=fun {b kv} e q=>by rw[q,L] at e;cases e
   have k9:∀b o,b≠tl->H9 b=some o->(upd H9 tl (.lst ([V.str (nm 2),.str (nm 3)]++[.str (tc nm c)]))) b=some o:=fun b o nb e=>(a0g nb).trans e;refine⟨_,rfl,.inl ⟨rfl,_,SqL.of L⟩,_,rfl,_,rfl,_,_,rfl,rfl,pos rfl,tl,_,_,_,rfl,rfl,SqL.of L,et,tl,_,_,rfl,rfl,L,(by show 2<sizeLine;decide),rfl,?_,⟨A.s.put tl0,A.k0,A.o0,A.s0,k9 _ _ (nL A.ek) A.ek,A.rk.bes L (fun _ h=>by cases h),k9 _ _ (nL A.eo) A.eo,A.ro.bes L (fun _ h=>by cases h),k9 _ _ (nL A.es) A.es,k9 _ _ (fun q=>by have:=A.ee;rw[q,L] at this;cases this) A.ee,k9 _ _ (nL A.eb) A.eb,A.rb.bes L (fun _ h=>by cases h),A.ko,A.ks_,A.os_,A.kb,A.ob,A.sb⟩⟩;unfold tC;rw[if_pos h0];exact a0d
  rintro σ1 H10 ⟨rfl,L,A⟩;refine⟨_,rfl,nl,_,1,_,rfl,rfl,SqL.of (A.s _ _ hnl),a0Z nm (i:=1) (by decide),_,rfl,fun mv dx n1 n2 ndx=>?_⟩;have mtl:tl≠mv:=fun z=>by rw[z,n1] at L;cases L
  have dtl:tl≠dx:=fun z=>by rw[z,n2] at L;cases L
  refine⟨mv,dx,tl,nm 1,tC nm ft 22 c,rfl,a0d,(a0g mtl).trans ((a0g dtl).trans L),b1Y _ _ _ _,fun t zs H11 pz so kp11 em et=>⟨rfl,?_⟩⟩;have s11:a0r H10 H11:=fun b o e=>by
   have b1:b≠mv:=fun z=>by rw[z,n1] at e;cases e
   have b2:b≠dx:=fun z=>by rw[z,n2] at e;cases e
   exact kp11 b o b1 ((a0g b1).trans ((a0g b2).trans e))
  replace A:=A.same s11
  have C:CvC CV H11 mv (nm 1) t zs:=⟨⟨dx,em⟩,et⟩;clear n1 n2 ndx kp11 em et s11 mtl dtl L;refine⟨fun σ' H'=>∃mv t z zs,σ'=[some (.ref nl),some (.int ft),some (.int c),some (.ref kd),some (.ref od),some (.ref tl),some (.str (sV ft c)),some (.ref sd),some (.ref mv)]/\mvC nm ft c z zs/\sortedS zs=true/\CvC CV H' mv z t zs/\St4 H H' kd od sd be bd ks os [(nm 2,V.ref wbd),(nm 3,.ref vbd)] (dQ nm ft c) (dP nm ft c) (dP0 nm) (nm 4) "twin",?_,?_⟩
  ·refine⟨_,rfl,rfl,_,rfl,a0H (fun h0=>?_) (fun h0=>⟨mv,t,nm 1,zs,rfl,by unfold mvC;rw[if_neg h0];exact⟨rfl,pz⟩,so,C,A⟩)⟩
   refine⟨_,rfl,nl,_,0,_,rfl,rfl,SqL.of (A.s _ _ hnl),a0Z nm (i:=0) (by decide),_,rfl,nl,_,5,_,rfl,rfl,SqL.of (A.s _ _ hnl),a0Z nm (i:=5) (by decide),(by exact sl1),fun l1 hl1=>?_⟩;generalize y1:upd H11 l1 _=G1;obtain⟨U1,f1⟩:=gz y1 hl1
   replace A:=A.same U1
   intro mx dx n1 n2 ndx;have mtl:l1≠mx:=fun z=>by rw[z,n1] at f1;cases f1
   have dtl:l1≠dx:=fun z=>by rw[z,n2] at f1;cases f1
   refine⟨mx,dx,l1,nm 0,[nm 5],rfl,a0d,(a0g mtl).trans ((a0g dtl).trans f1),(by show 1<64;decide),fun t zs H11' pz so kp11 em et=>⟨rfl,?_⟩⟩;have s11:a0r G1 H11':=fun b o e=>by
    have b1:b≠mx:=fun z=>by rw[z,n1] at e;cases e
    have b2:b≠dx:=fun z=>by rw[z,n2] at e;cases e
    exact kp11 b o b1 ((a0g b1).trans ((a0g b2).trans e))
   exact⟨mx,t,nm 0,zs,rfl,by unfold mvC;rw[if_pos h0];exact⟨rfl,List.perm_singleton.mp pz⟩,so,⟨⟨dx,em⟩,et⟩,A.same s11⟩
  rintro σ1 H12 ⟨mv,t,z,zs,rfl,hm,so,C,A⟩;refine⟨fun σ' H'=>σ'=[some (.ref nl),some (.int ft),some (.int c),some (.ref kd),some (.ref od),some (.ref tl),some (.str (sV ft c)),some (.ref sd),some (.ref mv)]/\CvC CV H' mv z t zs/\a0r H H'/\H' kd=some (.dK (kvC ks))/\ClR H' ks (dQ nm ft c)/\ClR H' os (dP nm ft c)/\ClR H' [(nm 2,V.ref wbd),(nm 3,.ref vbd)] (dP0 nm)/\Sds H' sd (Rn (nm 4) "twin" (nm 1) (sV ft c) [(nm 2,V.ref wbd),(nm 3,.ref vbd)] os (!decide (ft=17))),?_,?_⟩
  ·refine⟨_,rfl,rfl,_,rfl,a4H (fun h0=>?_) (fun h0=>?_)⟩
   ·refine⟨_,rfl,_,rfl,(by exact sl2),fun t2 ht2=>?_⟩
    generalize y1:upd H12 t2 _=G1;obtain⟨U1,f1⟩:=gz y1 ht2
    replace A:=A.same U1
    replace C:=C.same U1
    refine⟨_,rfl,_,rfl,nl,_,1,_,rfl,rfl,SqL.of (A.s _ _ hnl),a0Z nm (i:=1) (by decide),sd,_,rfl,a8J.k (k:=.inr (nm 1)) A.es (by show 1<sizeLine;decide),?_⟩;rw[b1c (N.ne (i:=4) (j:=1))];obtain⟨a1,a2,a3,a4,a5,a6⟩:=A.sds1 (so:=sV ft c) (a7x N) (b3S N ft c) (N.ne (i:=4) (j:=1)) f1;rw[dF0 h0];exact⟨rfl,C.bes A.es,a2,a3,a4,a5,a6,a1⟩
   ·rw[dT0 h0]
    exact⟨rfl,C,A.s,A.ek,A.rk,A.ro,A.rb,A.sds0 (a7x N)⟩
  rintro σ1 H13 ⟨rfl,C,s13,ek,rk,ro,rb,S,es,eR,hS⟩;have lS:S.length=(Rn (nm 4) "twin" (nm 1) (sV ft c) [(nm 2,V.ref wbd),(nm 3,.ref vbd)] os (!decide (ft=17))).length:=by rw[<-eR,lM0]
  have l2:(Rn (nm 4) "twin" (nm 1) (sV ft c) [(nm 2,V.ref wbd),(nm 3,.ref vbd)] os (!decide (ft=17))).length<=2:=by
   unfold Rn
   split
   ·exact nR0 2
   ·exact Nat.le_succ 1
  have nS:(S.map (·.n)).Nodup:=by
   have:S.map (·.n)=(Rn (nm 4) "twin" (nm 1) (sV ft c) [(nm 2,V.ref wbd),(nm 3,.ref vbd)] os (!decide (ft=17))).map (·.name):=by rw[<-eR,mC0];rfl
   rw[this];unfold Rn
   split
   ·show[nm 4,nm 1].Nodup
    simp[N.ne (i:=4) (j:=1)]
   ·exact List.nodup_cons.mpr ⟨List.not_mem_nil,List.nodup_nil⟩
  refine⟨_,rfl,_,rfl,nl,_,0,_,rfl,rfl,SqL.of (s13 _ _ hnl),a0Z nm (i:=0) (by decide),_,rfl,_,rfl,5,nm 0,kd,sd,ks,S,rfl,a4W ek (rk.dsok (b4u N ft c)),es,nS,by omega,hS,fun fm Us H14 s14 fo po ro'=>⟨(by exact sl3),fun l hl=>?_⟩⟩;generalize y6:upd H14 l _=H15;obtain⟨V6,g6⟩:=gz y6 hl;have s1315:=s14.trans V6;rw[eR] at po;exact q l mv fm t z zs _ ks os H15 (s13.trans s1315) (a1a (s13.trans s14) hl) g6 hm so (C.same s1315) (b1T (fo.same V6) po ro' (N.ok 0 (by decide)) (N.ok 4 (by decide)) (N.ok 1 (by decide)) N.ne N.ne N.ne (by decide +kernel) (b6k ft c) (rk.same s1315) (b4u N ft c) (rb.same s1315) (a7x N) (ro.same s1315) (b3S N ft c)) (rk.same s1315) (ro.same s1315)
end
end My
namespace L2
open PySem PySem.Spec PyProof.Rows
theorem a7T {X:Cx}{e:Expr}{t1 t2:TE}(h1:PE X e t1)(h2:PE X e t2):PE X e (fun σ H Q=>t1 σ H Q\/t2 σ H Q):=fun pins s σ H Q I q=>q.elim (h1 pins s σ H Q I) (h2 pins s σ H Q I)
end L2
namespace My
open PySem L2 PyProof.Rows
seal L2.PE L2.PT L2.PW L2.PS L2.PSs L2.PA L2.PI L2.PG L2.PGs L2.OpR L2.UnR L2.a1u L2.IxR L2.SlR L2.MtR L2.PIf L2.PO L2.MtM L2.PC
theorem b3e {H:Hp}{so:Str}{ds:List Dt}{v:V}(h:Rep H (.tup (.str so::ds)) v):∃k xs,v=.ref k/\H k=some (.tup (.str so::xs)):=by
 simp only[Rep,a2e] at h;obtain⟨a,xs,rfl,ha,v1,vs,rfl,h1,_⟩:=h;rw[h1.1] at ha;exact⟨a,vs,rfl,ha⟩
theorem b5u (c:Int):∃so ds,d4 c=.tup (.str so::ds)/\so≠"list"/\so≠"some":=by
 unfold d4
 split
 ·exact⟨"whole",[],rfl,by decide +kernel,by decide +kernel⟩
 ·split
  ·exact⟨"word",[],rfl,by decide +kernel,by decide +kernel⟩
  ·split
   ·exact⟨"key",[],rfl,by decide +kernel,by decide +kernel⟩
   ·exact⟨"once",[dW],rfl,by decide +kernel,by decide +kernel⟩
theorem b5B (c:Int):a1E (d5 c)=false:=by
 unfold d5
 split
 ·decide +kernel
 ·split
  ·decide +kernel
  ·split<;>decide +kernel
theorem a3y {z:Str}(h:a0T z=true):z.length<=1000:=Nat.le_trans (a7S h) (by decide)
section
variable {H:Hp}{nm:Nat->Str}(N:Nm6 nm){ft c:Int}{ks os c4:List (Str×V)}{w:V}
include N
theorem b5m:(sR nm ft c).length<=1000:=by
 unfold sR sR3 sR2
 split
 ·exact(a5S c).2.2
 ·split
  ·exact a3y (N.ok 4 (by decide))
  ·split
   ·exact a3y (N.ok 0 (by decide))
   ·exact a3y (N.ok 1 (by decide))
theorem b5K:(sC nm ft c).length<=1000:=by
 unfold sC sC3 sC2
 split
 ·exact(a5S c).2.2
 ·split
  ·exact a3y (N.ok 4 (by decide))
  ·split
   ·exact a3y (N.ok 0 (by decide))
   ·exact a3y (N.ok 1 (by decide))
theorem b3Z (h0:0<=ft)(h5:ft<5)(rk:ClR H ks (dR2 nm ft c)):b5X H (nm 2) (sR nm ft c) ⟨nm 0,"head",ks⟩ [⟨nm 4,"twin",[(nm 5,w)]⟩]:=by
 have h:ft=0\/ft=1\/ft=2\/ft=3\/ft=4:=by omega
 rcases h with rfl |rfl |rfl |rfl |rfl
 ·refine .inr (.inl ?_)
  show nm 2∉ks.map (·.1);rw[rk.nm];show nm 2∉[nm 3];simp[N.ne (i:=2) (j:=3)]
 ·have hat:=rk.at (b1x N 1 c).1 (z:=nm 2) (d:=d4 c) (by show _∈[(nm 2,d4 c),(nm 3,dW)];exact List.mem_cons_self)
  obtain⟨so,ds,e,s1,s2⟩:=b5u c;rw[e] at hat;obtain⟨k,xs,e1,e2⟩:=b3e hat.2.1;exact .inr (.inr ⟨k,so,xs,hat.1,e1,e2,s1,s2⟩)
 ·exact .inl fun h=>h.2 (by show nm 0∈[nm 0,nm 4];exact List.mem_cons_self)
 ·exact .inl fun h=>h.2 (by show nm 4∈[nm 0,nm 4];simp)
 ·refine .inl fun h=>?_
  have h1:a0T (odd c)=true:=h.1;rw[(a5S c).2.1] at h1;cases h1
theorem b3B (h0:5<=ft)(h5:ft<12)(rk:ClR H ks (dKn nm ft))(ro:ClR H os (dO nm ft c)):b5C H (nm 2) (mvS nm ft) ⟨nm 0,"head",ks⟩ (Rn (nm 4) "many" (nm 1) (sN ft c) c4 os (!decide (ft=5))):=by
 have h:ft=5\/ft=6\/ft=7\/ft=8\/ft=9\/ft=10\/ft=11:=by omega
 have mm:a1m (soL c)="many"\/a1m (soL c)="some":=by
  rcases (a5e c).2.2 with e |e<;>rw[e]<;>decide +kernel
 have nr:=ro.nm;rcases h with rfl |rfl |rfl |rfl |rfl |rfl |rfl
 ·refine .inl ?_
  show nm 1∉[nm 0,nm 4];simp[N.ne (i:=1) (j:=0),N.ne (i:=1) (j:=4)]
 ·exact .inr ⟨⟨nm 1,"twin",os⟩,.tail _ (.tail _ (.head _)),rfl,.inl ⟨(by decide +kernel:("twin":Str)≠"many"),(by decide +kernel:("twin":Str)≠"some")⟩⟩
 ·refine .inr ⟨⟨nm 1,a1m (soL c),os⟩,.tail _ (.tail _ (.head _)),rfl,.inr ⟨mm,.inl ?_⟩⟩
  show os.map (·.1)≠[nm 2];rw[nr];exact fun e=>by have:=congrArg List.length e;cases this
 ·refine .inr ⟨⟨nm 1,a1m (soL c),os⟩,.tail _ (.tail _ (.head _)),rfl,.inr ⟨mm,.inl ?_⟩⟩
  show os.map (·.1)≠[nm 2];rw[nr]
  show((if c/2%2=0 then[] else[(nm 5,dW)]:List (Str×Dt)).map (·.1))≠[nm 2]
  split
  ·exact fun e=>by cases e
  ·exact fun e=>by injection e with e;exact N.ne (i:=5) (j:=2) (by decide) (by decide) (by decide) e
 ·refine .inr ⟨⟨nm 1,a1m (soL c),os⟩,.tail _ (.tail _ (.head _)),rfl,.inr ⟨mm,.inr ?_⟩⟩
  have ro':ClR H os [(nm 2,d5 c)]:=ro;cases ro' with
  |@cons _ v _ _ _ r k t=>
   cases t;exact⟨v,d5 c,rfl,r,.inl (b5B c)⟩
 ·refine .inr ⟨⟨nm 1,a1m (soL c),os⟩,.tail _ (.tail _ (.head _)),rfl,.inr ⟨mm,.inr ?_⟩⟩
  have ro':ClR H os [(nm 2,dW)]:=ro;cases ro' with
  |@cons _ v _ _ _ r k t=>
   cases t;refine⟨v,dW,rfl,r,.inr ⟨by decide +kernel,?_⟩⟩;show nm 2∈ks.map (·.1);rw[rk.nm];show nm 2∈[nm 3,nm 2];simp
 ·exact .inr ⟨⟨nm 0,"head",ks⟩,.head _,rfl,.inl ⟨(by decide +kernel:("head":Str)≠"many"),(by decide +kernel:("head":Str)≠"some")⟩⟩
theorem b4I {zs:List Str}(h0:12<=ft)(h5:ft<17)(pz:zs.Perm (tC nm ft 13 c))(rk:ClR H ks (dC nm ft c)):b5y (sC nm ft c) zs ⟨nm 0,"head",ks⟩ [⟨nm 4,"many",[]⟩]:=by
 have h:ft=12\/ft=13\/ft=14\/ft=15\/ft=16:=by omega
 rcases h with rfl |rfl |rfl |rfl |rfl
 ·refine .inr (.inr ⟨tc nm c,pz.mem_iff.mpr ?_,?_⟩)
  ·show tc nm c∈[nm 2,nm 3]
   rcases a6O nm c with e |e<;>rw[e]<;>simp
  ·show tc nm c∉ks.map (·.1)
   rw[rk.nm];intro h;obtain⟨d,hd,e⟩:=mM0.mp h;exact of_decide_eq_true (mF0.mp (show d∈(dC0 nm).filter fun d=>decide (d.1≠tc nm c) from hd)).2 e
 ·refine .inr (.inl fun nd=>?_)
  have:([nm 2,nm 3,tc nm c]:List Str).Nodup:=pz.nodup_iff.mp nd
  rcases a6O nm c with e |e<;>rw[e] at this<;>simp at this
 ·exact .inl fun h=>h.2 (by show nm 0∈[nm 0,nm 4];exact List.mem_cons_self)
 ·exact .inl fun h=>h.2 (by show nm 4∈[nm 0,nm 4];simp)
 ·refine .inl fun h=>?_
  have h1:a0T (odd c)=true:=h.1;rw[(a5S c).2.1] at h1;cases h1
theorem b3W {z:Str}{zs:List Str}(h0:17<=ft)(h5:ft<24)(hm:mvC nm ft c z zs)(rk:ClR H ks (dQ nm ft c))(ro:ClR H os (dP nm ft c)):b5j z zs ⟨nm 0,"head",ks⟩ (Rn (nm 4) "twin" (nm 1) (sV ft c) c4 os (!decide (ft=17))):=by
 have h:ft=17\/ft=18\/ft=19\/ft=20\/ft=21\/ft=22\/ft=23:=by omega
 have nr:=ro.nm;rcases h with rfl |rfl |rfl |rfl |rfl |rfl |rfl
 ·obtain⟨rfl,pz⟩:z=nm 1/\zs.Perm [nm 2,nm 3]:=hm
  refine .inl ?_;show nm 1∉[nm 0,nm 4];simp[N.ne (i:=1) (j:=0),N.ne (i:=1) (j:=4)]
 ·obtain⟨rfl,pz⟩:z=nm 1/\zs.Perm [nm 2,nm 3]:=hm
  refine .inr ⟨⟨nm 1,a1m (soL c),os⟩,.tail _ (.tail _ (.head _)),rfl,.inl ?_⟩;show a1m (soL c)≠"twin";rcases (a5e c).2.2 with e |e<;>rw[e]<;>decide +kernel
 ·obtain⟨rfl,pz⟩:z=nm 1/\zs.Perm [nm 2,nm 3]:=hm
  refine .inr ⟨⟨nm 1,"twin",os⟩,.tail _ (.tail _ (.head _)),rfl,.inr ⟨rfl,.inl fun p=>?_⟩⟩;have p':zs.Perm (os.map (·.1)):=p;rw[nr] at p'
  have:=(pz.symm.trans p').length_eq
  cases this
 ·obtain⟨rfl,pz⟩:z=nm 1/\zs.Perm [nm 2,nm 3]:=hm
  refine .inr ⟨⟨nm 1,"twin",os⟩,.tail _ (.tail _ (.head _)),rfl,.inr ⟨rfl,.inl fun p=>?_⟩⟩;have p':zs.Perm (os.map (·.1)):=p;rw[nr] at p';have h3:tc nm c∈zs:=pz.mem_iff.mpr (by rcases a6O nm c with e |e<;>rw[e]<;>simp);obtain⟨d,hd,e⟩:=mM0.mp (p'.mem_iff.mp h3);exact of_decide_eq_true (mF0.mp (show d∈(dP1 nm 20).filter fun d=>decide (d.1≠tc nm c) from hd)).2 e
 ·obtain⟨rfl,pz⟩:z=nm 1/\zs.Perm [nm 2,nm 3]:=hm
  refine .inr ⟨⟨nm 1,"twin",os⟩,.tail _ (.tail _ (.head _)),rfl,.inr ⟨rfl,.inr ⟨?_,tc nm c,pz.mem_iff.mpr ?_,?_⟩⟩⟩
  ·show zs.Perm (os.map (·.1))
   rw[nr];exact pz
  ·rcases a6O nm c with e |e<;>rw[e]<;>simp
  ·show tc nm c∈ks.map (·.1)
   rw[rk.nm];show tc nm c∈[nm 5,tc nm c];simp
 ·obtain⟨rfl,pz⟩:z=nm 1/\zs.Perm [nm 2,nm 3,tc nm c]:=hm
  refine .inr ⟨⟨nm 1,"twin",os⟩,.tail _ (.tail _ (.head _)),rfl,.inr ⟨rfl,.inl fun p=>?_⟩⟩;have p':zs.Perm (os.map (·.1)):=p;rw[nr] at p'
  have:=(pz.symm.trans p').length_eq
  cases this
 ·obtain⟨rfl,rfl⟩:z=nm 0/\zs=[nm 5]:=hm
  refine .inr ⟨⟨nm 0,"head",ks⟩,.head _,rfl,.inl ?_⟩
  show("head":Str)≠"twin"
  decide +kernel
end
def b4o (CC CV:Addr)(H:Hp)(l:Addr):Prop:=∃mv f b T0 R,H l=some (.lst [.ref mv,.ref f,.bl b])/\FK H f 5 T0 R/\((b=true/\∃c z,CvA CC H mv c z/\z.length<=1000/\b5X H c z T0 R)\/(b=false/\∃c z,CvA CC H mv c z/\b5C H c z T0 R)\/(b=true/\∃t z zs,CvC CV H mv z t zs/\z.length<=1000/\zs.length<=12/\b5y z zs T0 R)\/(b=false/\∃t z zs,CvC CV H mv z t zs/\zs.length<=12/\sortedS zs=true/\b5j z zs T0 R))
def b1w (CC CV:Addr):Sp:=fun vs H Q _=>∃(nl:Addr) (nm:Nat->Str) (ft c:Int),vs=[.ref nl,.int ft,.int c]/\H nl=some (.lst (nmL nm))/\Nm6 nm/\0<=ft/\ft<24/\∀l H',a0r H H'->H l=none->b4o CC CV H' l->Q (.ref l) H'
def b1H (CC CV:Addr):Sp:=fun vs H Q _=>∃l,vs=[.ref l]/\b4o CC CV H l/\∀H',a0r H H'->Q (.bl true) H'
theorem b3H (nm:Nat->Str)(ft k c:Int):(tC nm ft k c).length<=3:=by
 unfold tC
 split
 ·exact nR0 3
 ·exact Nat.le_succ 2
theorem b4N {nm:Nat->Str}{ft c:Int}{z:Str}{zs:List Str}(h:mvC nm ft c z zs):zs.length<=12:=by
 unfold mvC at h
 split at h
 ·rw[h.2];show 1<=12;decide
 ·rw[h.2.length_eq];exact Nat.le_trans (b3H _ _ _ _) (by decide)
section
variable {P:Program}{w:World}{K:Fg0}{mg:Str->Option Value}{base:Heap}{CC CV PF CN CT:Addr}
theorem b3b {f f1 f2 f3 f4:Addr}{fd fd1 fd2 fd3 fd4:FuncData}(F:Fun K "_law_case" "_law_case" (top 55) f fd)(D1:Df K mg "_law_rows_old" (top 51) f1 fd1)(G1:a0x P w K mg base CX0 3 f1 fd1 ["_law_names_here","_law_fault","_law_cell_here"] (b6s CC))(D2:Df K mg "_law_rows_new" (top 52) f2 fd2)(G2:a0x P w K mg base CX0 3 f2 fd2 ["_law_names_here","_law_fault","_law_cell_here"] (b6i CC))(D3:Df K mg "_law_cleave_old" (top 53) f3 fd3)(G3:a0x P w K mg base CX0 3 f3 fd3 ["_law_names_here","_law_fault","_law_cell_here"] (b5W CV))(D4:Df K mg "_law_cleave_new" (top 54) f4 fd4)(G4:a0x P w K mg base CX0 3 f4 fd4 ["_law_names_here","_law_fault","_law_cell_here"] (b5R CV)):a0x P w K mg base CX0 4 f fd ["_law_names_here","_law_fault","_law_cell_here"] (b1w CC CV):=by
 have sc:a0o ["_law_names_here","_law_fault","_law_cell_here"] ["_law_names_here","_law_fault","_law_cell_here"] (a0f (top 55)):=.k (by decide +kernel);have b1:=D1.fn.b3 "_law_names_here" "_law_fault" "_law_cell_here" (by intros;rfl);have b2:=D2.fn.b3 "_law_names_here" "_law_fault" "_law_cell_here" (by intros;rfl);have b3:=D3.fn.b3 "_law_names_here" "_law_fault" "_law_cell_here" (by intros;rfl);have b4:=D4.fn.b3 "_law_names_here" "_law_fault" "_law_cell_here" (by intros;rfl);refine F.ok sc (fun vs H Q E h=>?_) (fun cdv A outer s H vs Q E hr h=>?_)
 ·obtain⟨nl,nm,ft,c,rfl,_⟩:=h
  rfl
 ·obtain⟨nl,nm,ft,c,rfl,hnl,N,h0,h24,q⟩:=h
  refine⟨_,(a0c (a0C (a0t b0e (pv 1) a0e (a0u _)) (a0h (a0z (a0i G1 hr (by rfl) D1.mg D1.fn.kp b1 .nil a0q (a0a (pv 0) (a0a (pv 1) (a0a (pv 2) a0b)))))) a0l)
   (a0c (a0C (a0t b0e (pv 1) a0e (a0u _)) (a0h (a0z (a0i G2 hr (by rfl) D2.mg D2.fn.kp b2 .nil a0q (a0a (pv 0) (a0a (pv 1) (a0a (pv 2) a0b)))))) a0l)
   (a0c (a0C (a0t b0e (pv 1) a0e (a0u _)) (a0h (a0z (a0i G3 hr (by rfl) D3.mg D3.fn.kp b3 .nil a0q (a0a (pv 0) (a0a (pv 1) (a0a (pv 2) a0b)))))) a0l)
   (a0h (a0z (a0i G4 hr (by rfl) D4.mg D4.fn.kp b4 .nil a0q (a0a (pv 0) (a0a (pv 1) (a0a (pv 2) a0b))))))))),?_⟩
  refine⟨_,rfl,ft,5,rfl,rfl,_,rfl,a8I (fun h1=>?_) (fun h1=>?_)⟩
  ·refine⟨_,rfl,_,rfl,_,rfl,nl,nm,ft,c,rfl,hnl,N,fun l mv f wd ks H' s' hl el cv fk rk=>q l H' s' hl ⟨mv,f,true,_,_,el,fk,.inl ⟨rfl,nm 2,_,cv,b5m N,b3Z N h0 (of_decide_eq_true h1) rk⟩⟩⟩
  have h1':5<=ft:=by have:=of_decide_eq_false (Bool.eq_false_iff.mpr h1);omega
  refine⟨_,rfl,ft,12,rfl,rfl,_,rfl,a8I (fun h2=>?_) (fun h2=>?_)⟩
  ·refine⟨_,rfl,_,rfl,_,rfl,nl,nm,ft,c,rfl,hnl,N,fun l mv f w4 ks os H' s' hl el cv fk rk ro=>q l H' s' hl ⟨mv,f,false,_,_,el,fk,.inr (.inl ⟨rfl,nm 2,_,cv,b3B N h1' (of_decide_eq_true h2) rk ro⟩)⟩⟩
  have h2':12<=ft:=by have:=of_decide_eq_false (Bool.eq_false_iff.mpr h2);omega
  refine⟨_,rfl,ft,17,rfl,rfl,_,rfl,a8I (fun h3=>?_) (fun h3=>?_)⟩
  ·refine⟨_,rfl,_,rfl,_,rfl,nl,nm,ft,c,rfl,hnl,N,fun l mv f t zs ks H' s' hl el pz so cv fk rk=>q l H' s' hl ⟨mv,f,true,_,_,el,fk,.inr (.inr (.inl ⟨rfl,t,_,zs,cv,b5K N,by rw[pz.length_eq];exact Nat.le_trans (b3H _ _ _ _) (by decide),b4I N h2' (of_decide_eq_true h3) pz rk⟩))⟩⟩
  have h3':17<=ft:=by have:=of_decide_eq_false (Bool.eq_false_iff.mpr h3);omega
  exact⟨_,rfl,_,rfl,_,rfl,nl,nm,ft,c,rfl,hnl,N,fun l mv f t z zs c4 ks os H' s' hl el hm so cv fk rk ro=>q l H' s' hl ⟨mv,f,false,_,_,el,fk,.inr (.inr (.inr ⟨rfl,t,z,zs,cv,b4N hm,so,b3W N h3' h24 hm rk ro⟩))⟩⟩
end
theorem a9F {H:Hp}{ks ks':List (Str×V)}{ds ds':List (Str×Dt)}(h:ClR H ks ds)(h':ClR H ks' ds')(p:ds.Perm ds')(nd:(ds.map (·.1)).Nodup):CQ H ks ks':=by
 refine⟨by rw[h.nm,h'.nm];exact p.map _,fun z hz=>?_⟩;rw[h.nm] at hz;obtain⟨⟨z',d⟩,hd,rfl⟩:=mM0.mp hz;have a:=h.at nd hd;have b:=h'.at ((p.map _).nodup_iff.mp nd) (p.mem_iff.mp hd);exact⟨d,a.2.1,b.2.1,a.2.2⟩
theorem a7i {H:Hp}{T:Tb}(ok:a0G H T.cols):TQ H T T:=⟨rfl,rfl,.refl _,fun z hz=>by
 obtain⟨_,d,r,k,_⟩:=a2F ok hz;exact⟨d,r,r,k⟩⟩
theorem b4R {α:Type}{x y:α}{l:List α}(p:l.Perm [x,y]):l=[x,y]\/l=[y,x]:=by
 match l,p.length_eq with
 |[a,b],_=>
  have ha:a∈[x,y]:=p.mem_iff.mp (by simp);rcases mK0.mp ha with rfl |ha
  ·left
   have:[b].Perm [y]:=(List.perm_cons a).mp p
   rw[List.perm_singleton.mp this]
  ·right
   have e:a=y:=by simpa using ha
   subst e
   have:[b].Perm [x]:=(List.perm_cons a).mp (p.trans (.swap _ _ _))
   rw[List.perm_singleton.mp this]
theorem b3I {T0:Tb}{R:List Tb}(l:R.length<=7)(nd:((T0::R).map (·.name)).Nodup)(h0:a0T T0.name=true/\T0.sort="head")(h:∀T∈R,a0T T.name=true/\T.sort∈a1S):b0f T0 R:=⟨l,nd,fun T hT=>by
 rcases mK0.mp hT with rfl |hT
 ·exact h0.1
 ·exact(h T hT).1,h0.2,fun T hT=>(h T hT).2⟩
theorem b1O {H:Hp}{f:Addr}{n0:Str}{c0:List (Str×V)}{T1 T2:Tb}(fa:FAt H f 5 ⟨n0,"head",c0⟩ [T1,T2])(h0:a0T n0=true/\a0G H c0)(h1:a0T T1.name=true/\T1.sort∈a1S/\a0G H T1.cols)(h2:a0T T2.name=true/\T2.sort∈a1S/\a0G H T2.cols)(nd:[n0,T1.name,T2.name].Nodup):FK H f 5 ⟨n0,"head",c0⟩ [T1,T2]:=by
 refine⟨fa,b3I (by show 2<=7;decide) nd ⟨h0.1,rfl⟩ fun T hT=>?_,fun T hT=>?_,by decide⟩
 ·rcases mK0.mp hT with rfl |hT
  ·exact⟨h1.1,h1.2.1⟩
  ·rw[mS0.mp hT];exact⟨h2.1,h2.2.1⟩
 ·rcases mK0.mp hT with rfl |hT
  ·exact h0.2
  ·rcases mK0.mp hT with rfl |hT
   ·exact h1.2.2
   ·rw[mS0.mp hT];exact h2.2.2
theorem b2c {H:Hp}{f:Addr}{n0:Str}{c0:List (Str×V)}{T1:Tb}(fa:FAt H f 5 ⟨n0,"head",c0⟩ [T1])(h0:a0T n0=true/\a0G H c0)(h1:a0T T1.name=true/\T1.sort∈a1S/\a0G H T1.cols)(nd:[n0,T1.name].Nodup):FK H f 5 ⟨n0,"head",c0⟩ [T1]:=by
 refine⟨fa,b3I (by show 1<=7;decide) nd ⟨h0.1,rfl⟩ fun T hT=>?_,fun T hT=>?_,by decide⟩
 ·rw[mS0.mp hT];exact⟨h1.1,h1.2.1⟩
 ·rcases mK0.mp hT with rfl |hT
  ·exact h0.2
  ·rw[mS0.mp hT];exact h1.2.2
theorem b4V {n1 z s1 s2:Str}{c1 c2:List (Str×V)}(h1:n1≠z):([⟨n1,s1,c1⟩,⟨z,s2,c2⟩]:List Tb).filter (nz z)=[⟨n1,s1,c1⟩]:=by
 rw[List.filter_cons_of_pos (p:=nz z) (show nz z _=true from dT0 h1),List.filter_cons_of_neg (p:=nz z) (by unfold nz;simp),List.filter_nil]
theorem b1W {H:Hp}{f f':Addr}{T0 T0' T1:Tb}(h:FAt H f 5 T0 [T1])(h':FAt H f' 5 T0' [T1])(q0:TQ H T0 T0')(ok:a0G H T1.cols):Lq H 7 (.ref f) (.ref f'):=b2d h h' q0 (.refl _) (List.nodup_cons.mpr ⟨List.not_mem_nil,List.nodup_nil⟩) fun T hT T' hT' _=>by rw[mS0.mp hT,mS0.mp hT'];exact a7i ok
theorem b2j {H:Hp}{f f':Addr}{T0 T0' T1 T2 T2':Tb}(h:FAt H f 5 T0 [T1,T2])(h':FAt H f' 5 T0' [T1,T2'])(q0:TQ H T0 T0')(ok:a0G H T1.cols)(n:T1.name≠T2.name)(q2:TQ H T2 T2'):Lq H 7 (.ref f) (.ref f'):=by
 have e:=q2.1;refine b2d h h' q0 (by show[T1.name,T2.name].Perm [T1.name,T2'.name];rw[e]) (by show[T1.name,T2'.name].Nodup;rw[<-e];simp[n]) fun T hT T' hT' en=>?_;rcases mK0.mp hT with rfl |hT
 ·rcases mK0.mp hT' with rfl |hT'
  ·exact a7i ok
  ·rw[mS0.mp hT'] at en
   exact absurd (en.trans e.symm) n
 ·rw[mS0.mp hT] at en ⊢
  rcases mK0.mp hT' with rfl |hT'
  ·exact absurd en.symm n
  ·rw[mS0.mp hT'];exact q2
section
variable {H:Hp}{nm:Nat->Str}(N:Nm6 nm){CC CV PF mv f:Addr}{Q:VK}{E E':XK}{ks os c4:List (Str×V)}{c:Int}
include N
theorem b6n {wd:Addr}(cv:CvA CC H mv (nm 2) (nm 1))(fk:FK H f 5 ⟨nm 0,"head",ks⟩ [⟨nm 4,"twin",[(nm 5,.ref wd)]⟩])(rk:ClR H ks (dR0 nm c))(tab:a1O PF a2j foQ H)(q:∀f2 H2,Sb H H2->Lq H2 7 (.ref f2) (.ref f)->Q (.ref f2) H2):a3A CC PF [.ref mv,.ref f] H (fun v H1=>a2Q CC PF [.ref mv,v] H1 Q E) E':=by
 obtain⟨_,_,so3⟩:=a5e c;have rk0:=rk;unfold dR0 at rk;cases rk with
 |@cons _ v _ _ _ r1 k1 t1=>
 cases t1 with
 |@cons _ v3 _ _ _ r3 k3 t3=>
 cases t3;obtain⟨k,x,u,rfl,hk,hx,ru⟩:=b4F r1;have hx':x=.str (soL c):=by simp only[Rep] at hx;exact hx.1
 subst hx';have n23:=N.ne (i:=2) (j:=3);have n41:=N.ne (i:=4) (j:=1);have ok4:=(fk.co _ (.tail _ (.head _)));refine⟨mv,f,k,nm 2,nm 1,soL c,u,dW,5,_,_,rfl,cv,fk,tab,N.ok 1 (by decide),by show nm 1∉[nm 0,nm 4];simp[N.ne (i:=1) (j:=0),N.ne (i:=1) (j:=4)],by show 1<=5;decide,List.mem_cons_self,a0X (c:=[(nm 2,V.ref k),(nm 3,v3)]) (x:=(nm 2,V.ref k)) (by show[nm 2,nm 3].Nodup;simp[n23]) List.mem_cons_self,hk,so3,ru,by decide +kernel,by decide +kernel,fun f1 H1 sb1 _ tb1 fa1=>?_⟩;have el:lo [(nm 2,V.ref k),(nm 3,v3)] (nm 2)=[(nm 3,v3)]:=by unfold lo;rw[List.filter_cons_of_neg (by simp),List.filter_cons_of_pos (by simp[n23.symm]),List.filter_nil]
 have fa1':FAt H1 f1 5 ⟨nm 0,"head",[(nm 3,v3)]⟩ [⟨nm 4,"twin",[(nm 5,.ref wd)]⟩,⟨nm 1,a1m (soL c),[(nm 2,u)]⟩]:=by rw[<-el];exact fa1
 have fk1:=b1O fa1' ⟨N.ok 0 (by decide),a5m (N.ok 3 (by decide)) (Rep.sb sb1 r3) k3⟩ ⟨N.ok 4 (by decide),(by decide +kernel:("twin":Str)∈a1S),ok4.sb sb1⟩ ⟨N.ok 1 (by decide),(a5p so3).2.2,a5m (N.ok 2 (by decide)) (Rep.sb sb1 ru) kW⟩ (by show[nm 0,nm 4,nm 1].Nodup;simp[N.ne (i:=0) (j:=4),N.ne (i:=0) (j:=1),n41]);have hso2:a1m (soL c)="many"\/a1m (soL c)="some":=by rcases so3 with e |e<;>rw[e]<;>decide +kernel
 have tso:a2G (a1m (soL c))=soL c:=by rcases so3 with e |e<;>rw[e]<;>decide +kernel
 refine⟨mv,f1,nm 2,nm 1,u,dW,5,⟨nm 0,"head",[(nm 3,v3)]⟩,⟨nm 1,a1m (soL c),[(nm 2,u)]⟩,_,rfl,cv.sb sb1,fk1,tb1,.tail _ (.head _),rfl,hso2,rfl,Rep.sb sb1 ru,by decide +kernel,by decide +kernel,by show 1<=11;decide,by show nm 2∉[nm 3];simp[n23],fun f2 k2 H2 sb2 _ _ hk2 fa2=>?_⟩;have sb:=sb1.trans sb2;have hk2':H2 k2=some (.tup [.str (soL c),u]):=by rw[<-tso];exact hk2
 rw[b4V n41] at fa2;have r2:ClR H2 ([(nm 3,v3)]++[(nm 2,V.ref k2)]) [(nm 3,dW),(nm 2,dOn (soL c) dW)]:=.cons (Rep.sb sb r3) k3 (.cons (a2h hk2' (a8P so3) (Rep.sb sb ru)) k1 .nil);exact q f2 H2 sb (b1W fa2 (fk.sb sb).at_ ⟨rfl,rfl,a9F r2 (rk0.sb sb) (.swap _ _ _) (nd2 n23.symm)⟩ (ok4.sb sb))
theorem b6r {w4:Addr}{so:Str}(hso:so="many"\/so="some")(cv:CvA CC H mv (nm 2) (nm 1))(fk:FK H f 5 ⟨nm 0,"head",ks⟩ [⟨nm 4,"many",[(nm 2,.ref w4)]⟩,⟨nm 1,so,os⟩])(rk:ClR H ks [(nm 3,dW)])(ro:ClR H os [(nm 2,dW)])(tab:a1O PF a2j foQ H)(q:∀f2 H2,Sb H H2->Lq H2 7 (.ref f2) (.ref f)->Q (.ref f2) H2):a2Q CC PF [.ref mv,.ref f] H (fun v H1=>a3A CC PF [.ref mv,v] H1 Q E) E':=by
 have rk0:=rk;have ro0:=ro;cases rk with
 |@cons _ v3 _ _ _ r3 k3 t3=>
 cases t3;cases ro with
 |@cons _ u _ _ _ ru ku t1=>
 cases t1;have n23:=N.ne (i:=2) (j:=3);have n41:=N.ne (i:=4) (j:=1);have ok4:=(fk.co _ (.tail _ (.head _)));obtain⟨_,_,tu3⟩:=a7a hso;have tso:a1m (a2G so)=so:=by rcases hso with e |e<;>rw[e]<;>decide +kernel
 refine⟨mv,f,nm 2,nm 1,u,dW,5,_,⟨nm 1,so,[(nm 2,u)]⟩,_,rfl,cv,fk,tab,.tail _ (.head _),rfl,hso,rfl,ru,by decide +kernel,by decide +kernel,by show 1<=11;decide,by show nm 2∉[nm 3];simp[n23],fun f1 k H1 sb1 _ tb1 hk fa1=>?_⟩;rw[b4V n41] at fa1;have rh:ClR H1 [(nm 3,v3),(nm 2,V.ref k)] [(nm 3,dW),(nm 2,dOn (a2G so) dW)]:=.cons (Rep.sb sb1 r3) k3 (.cons (a2h hk (a8P tu3) (Rep.sb sb1 ru)) (b3s tu3) .nil);have fk1:FK H1 f1 5 ⟨nm 0,"head",[(nm 3,v3),(nm 2,V.ref k)]⟩ [⟨nm 4,"many",[(nm 2,.ref w4)]⟩]:=b2c fa1 ⟨N.ok 0 (by decide),rh.dsok (ok2 N 3 2 (by decide) (by decide) (by decide) _ _)⟩ ⟨N.ok 4 (by decide),(by decide +kernel:("many":Str)∈a1S),ok4.sb sb1⟩ (by show[nm 0,nm 4].Nodup;simp[N.ne (i:=0) (j:=4)]);have vk:vOf [(nm 3,v3),(nm 2,V.ref k)] (nm 2)=.ref k:=a0X (x:=(nm 2,V.ref k)) (by show[nm 3,nm 2].Nodup;simp[n23.symm]) (by simp);refine⟨mv,f1,k,nm 2,nm 1,a2G so,u,dW,5,_,_,rfl,cv.sb sb1,fk1,tb1,N.ok 1 (by decide),by show nm 1∉[nm 0,nm 4];simp[N.ne (i:=1) (j:=0),N.ne (i:=1) (j:=4)],by show 1<=5;decide,by show nm 2∈[nm 3,nm 2];simp,vk,hk,tu3,Rep.sb sb1 ru,by decide +kernel,by decide +kernel,fun f2 H2 sb2 _ _ fa2=>?_⟩;have sb:=sb1.trans sb2;have el:lo [(nm 3,v3),(nm 2,V.ref k)] (nm 2)=[(nm 3,v3)]:=by unfold lo;rw[List.filter_cons_of_pos (by simp[n23.symm]),List.filter_cons_of_neg (by simp),List.filter_nil]
 have fa2':FAt H2 f2 5 ⟨nm 0,"head",[(nm 3,v3)]⟩ [⟨nm 4,"many",[(nm 2,.ref w4)]⟩,⟨nm 1,so,[(nm 2,u)]⟩]:=by rw[<-el,<-tso];exact fa2
 have fkb:=fk.sb sb;exact q f2 H2 sb (b2j fa2' fkb.at_ ⟨rfl,rfl,a9F (rk0.sb sb) (rk0.sb sb) (.refl _) (ok1 N 3 (by decide) dW).nd⟩ (ok4.sb sb) n41 (a7i (fkb.co _ (.tail _ (.tail _ (.head _))))))
theorem b6f {t:Addr}{zs:List Str}(pz:zs.Perm [nm 2,nm 3])(soz:sortedS zs=true)(cv:CvC CV H mv (nm 1) t zs)(fk:FK H f 5 ⟨nm 0,"head",ks⟩ [⟨nm 4,"many",[]⟩])(rk:ClR H ks (dC0 nm))(tab:a1O PF a2j foQ H)(q:∀f2 H2,Sb H H2->Lq H2 7 (.ref f2) (.ref f)->Q (.ref f2) H2):a2R CV PF [.ref mv,.ref f] H (fun v H1=>a2r CV PF [.ref mv,v] H1 Q E) E':=by
 have rk0:=rk;have nm0:=rk.nm;unfold dC0 at rk;cases rk with
 |@cons _ a _ _ _ ra ka ta=>
 cases ta with
 |@cons _ b _ _ _ rb kb tb=>
 cases tb with
 |@cons _ e _ _ _ re ke te=>
 cases te;have n23:=N.ne (i:=2) (j:=3);have n25:=N.ne (i:=2) (j:=5);have n35:=N.ne (i:=3) (j:=5);have n41:=N.ne (i:=4) (j:=1);have ok4:=(fk.co _ (.tail _ (.head _)));have kn:([(nm 2,a),(nm 3,b),(nm 5,e)]:List (Str×V)).map (·.1)=[nm 2,nm 3,nm 5]:=rfl;have nd3:([nm 2,nm 3,nm 5]:List Str).Nodup:=by simp[n23,n25,n35]
 have va:vOf [(nm 2,a),(nm 3,b),(nm 5,e)] (nm 2)=a:=a0X (c:=[(nm 2,a),(nm 3,b),(nm 5,e)]) (x:=(nm 2,a)) nd3 (by simp);have vb:vOf [(nm 2,a),(nm 3,b),(nm 5,e)] (nm 3)=b:=a0X (c:=[(nm 2,a),(nm 3,b),(nm 5,e)]) (x:=(nm 3,b)) nd3 (by simp);have mz:∀y∈zs,y=nm 2\/y=nm 3:=fun y hy=>by simpa using pz.mem_iff.mp hy
 have z2:nm 2∈zs:=pz.mem_iff.mpr (by simp);have z3:nm 3∈zs:=pz.mem_iff.mpr (by simp);have z5:nm 5∉zs:=fun h=>by rcases mz _ h with h |h;exact n25 h.symm;exact n35 h.symm
 have zn:zs.Nodup:=pz.nodup_iff.mpr (by simp[n23]);have zl:zs.length=2:=pz.length_eq;refine⟨mv,f,t,nm 1,zs,5,_,_,rfl,cv,fk,tab,N.ok 1 (by decide),by show nm 1∉[nm 0,nm 4];simp[N.ne (i:=1) (j:=0),N.ne (i:=1) (j:=4)],by show 1<=5;decide,zn,by omega,fun y hy=>by rcases mz y hy with h |h<;>rw[h]<;>simp,fun f1 H1 sb1 _ tb1 fa1=>?_⟩;have el:lf [(nm 2,a),(nm 3,b),(nm 5,e)] zs=[(nm 5,e)]:=by unfold lf;rw[List.filter_cons_of_neg (by simp[z2]),List.filter_cons_of_neg (by simp[z3]),List.filter_cons_of_pos (by simp[z5]),List.filter_nil]
 obtain⟨ds,hds,rr⟩:∃ds,ds.Perm [(nm 2,dW),(nm 3,dKy)]/\∀{G:Hp},Sb H G->ClR G (rt [(nm 2,a),(nm 3,b),(nm 5,e)] zs) ds:=by
  rcases b4R pz with rfl |rfl
  ·exact⟨_,.refl _,fun {G} s=>.cons (by rw[va];exact Rep.sb s ra) ka (.cons (by rw[vb];exact Rep.sb s rb) kb .nil)⟩
  ·exact⟨[(nm 3,dKy),(nm 2,dW)],.swap _ _ _,fun {G} s=>.cons (by rw[vb];exact Rep.sb s rb) kb (.cons (by rw[va];exact Rep.sb s ra) ka .nil)⟩
 have okd:a3u ds:=⟨(hds.map _).nodup_iff.mpr (nd2 n23),by rw[hds.length_eq];show 2<=12;decide,fun d hd=>(ok2 N 2 3 (by decide) (by decide) (by decide) dW dKy).ok d (hds.mem_iff.mp hd)⟩;have fa1':FAt H1 f1 5 ⟨nm 0,"head",[(nm 5,e)]⟩ [⟨nm 4,"many",[]⟩,⟨nm 1,"twin",rt [(nm 2,a),(nm 3,b),(nm 5,e)] zs⟩]:=by
  have h:FAt H1 f1 5 ⟨nm 0,"head",lf [(nm 2,a),(nm 3,b),(nm 5,e)] zs⟩ [⟨nm 4,"many",[]⟩,⟨nm 1,"twin",rt [(nm 2,a),(nm 3,b),(nm 5,e)] zs⟩]:=fa1;rw[el] at h;exact h
 have fk1:=b1O fa1' ⟨N.ok 0 (by decide),a5m (N.ok 5 (by decide)) (Rep.sb sb1 re) ke⟩ ⟨N.ok 4 (by decide),(by decide +kernel:("many":Str)∈a1S),ok4.sb sb1⟩ ⟨N.ok 1 (by decide),(by decide +kernel:("twin":Str)∈a1S),(rr sb1).dsok okd⟩ (by show[nm 0,nm 4,nm 1].Nodup;simp[N.ne (i:=0) (j:=4),N.ne (i:=0) (j:=1),n41]);refine⟨mv,f1,t,nm 1,zs,5,⟨nm 0,"head",[(nm 5,e)]⟩,⟨nm 1,"twin",rt [(nm 2,a),(nm 3,b),(nm 5,e)] zs⟩,_,rfl,cv.sb sb1,fk1,tb1,.tail _ (.head _),rfl,rfl,by rw[a7n],soz,by show 1+zs.length<=12;omega,fun y hy h=>z5 ((show y=nm 5 by simpa using h)▸hy),fun f2 H2 sb2 _ _ fa2=>?_⟩;have sb:=sb1.trans sb2;rw[b4V n41] at fa2;have r2:ClR H2 ([(nm 5,e)]++rt [(nm 2,a),(nm 3,b),(nm 5,e)] zs) ((nm 5,dWd)::ds):=.cons (Rep.sb sb re) ke (rr sb);have pd:((nm 5,dWd)::ds).Perm (dC0 nm):=(List.Perm.cons _ hds).trans (List.perm_append_comm (l₁:=[(nm 5,dWd)]) (l₂:=[(nm 2,dW),(nm 3,dKy)]));exact q f2 H2 sb (b1W fa2 (fk.sb sb).at_ ⟨rfl,rfl,a9F r2 (rk0.sb sb) pd ((pd.map _).nodup_iff.mpr (a9D N).nd)⟩ (ok4.sb sb))
theorem b5b {t:Addr}{zs:List Str}(pz:zs.Perm [nm 2,nm 3])(soz:sortedS zs=true)(cv:CvC CV H mv (nm 1) t zs)(fk:FK H f 5 ⟨nm 0,"head",ks⟩ [⟨nm 4,"twin",c4⟩,⟨nm 1,"twin",os⟩])(rk:ClR H ks [(nm 5,dWd)])(ro:ClR H os (dP0 nm))(tab:a1O PF a2j foQ H)(q:∀f2 H2,Sb H H2->Lq H2 7 (.ref f2) (.ref f)->Q (.ref f2) H2):a2r CV PF [.ref mv,.ref f] H (fun v H1=>a2R CV PF [.ref mv,v] H1 Q E) E':=by
 have rk0:=rk;have ro0:=ro;have nmo:=ro.nm;cases rk with
 |@cons _ e _ _ _ re ke te=>
 cases te;unfold dP0 at ro;cases ro with
 |@cons _ a _ _ _ ra ka ta=>
 cases ta with
 |@cons _ b _ _ _ rb kb tb=>
 cases tb;have n23:=N.ne (i:=2) (j:=3);have n25:=N.ne (i:=2) (j:=5);have n35:=N.ne (i:=3) (j:=5);have n41:=N.ne (i:=4) (j:=1);have ok4:=(fk.co _ (.tail _ (.head _)));have nd3:([nm 5,nm 2,nm 3]:List Str).Nodup:=by simp[n23,n25.symm,n35.symm]
 have va:vOf [(nm 5,e),(nm 2,a),(nm 3,b)] (nm 2)=a:=a0X (c:=[(nm 5,e),(nm 2,a),(nm 3,b)]) (x:=(nm 2,a)) nd3 (by simp);have vb:vOf [(nm 5,e),(nm 2,a),(nm 3,b)] (nm 3)=b:=a0X (c:=[(nm 5,e),(nm 2,a),(nm 3,b)]) (x:=(nm 3,b)) nd3 (by simp);have mz:∀y∈zs,y=nm 2\/y=nm 3:=fun y hy=>by simpa using pz.mem_iff.mp hy
 have z2:nm 2∈zs:=pz.mem_iff.mpr (by simp);have z3:nm 3∈zs:=pz.mem_iff.mpr (by simp);have z5:nm 5∉zs:=fun h=>by rcases mz _ h with h |h;exact n25 h.symm;exact n35 h.symm
 have zn:zs.Nodup:=pz.nodup_iff.mpr (by simp[n23]);have zl:zs.length=2:=pz.length_eq;refine⟨mv,f,t,nm 1,zs,5,_,⟨nm 1,"twin",[(nm 2,a),(nm 3,b)]⟩,_,rfl,cv,fk,tab,.tail _ (.head _),rfl,rfl,pz,soz,by show 1+zs.length<=12;omega,fun y hy h=>z5 ((show y=nm 5 by simpa using h)▸hy),fun f1 H1 sb1 _ tb1 fa1=>?_⟩;rw[b4V n41] at fa1;have rh:∀{G:Hp},Sb H G->ClR G [(nm 5,e),(nm 2,a),(nm 3,b)] [(nm 5,dWd),(nm 2,dW),(nm 3,dKy)]:=fun {G} s=>.cons (Rep.sb s re) ke (.cons (Rep.sb s ra) ka (.cons (Rep.sb s rb) kb .nil));have okh:a3u [(nm 5,dWd),(nm 2,dW),(nm 3,dKy)]:=(ok2 N 2 3 (by decide) (by decide) (by decide) dW dKy).cons (N.ok 5 (by decide)) (by simp[n25.symm,n35.symm]) (by show 2<=11;decide);have fk1:FK H1 f1 5 ⟨nm 0,"head",[(nm 5,e),(nm 2,a),(nm 3,b)]⟩ [⟨nm 4,"twin",c4⟩]:=b2c fa1 ⟨N.ok 0 (by decide),(rh sb1).dsok okh⟩ ⟨N.ok 4 (by decide),(by decide +kernel:("twin":Str)∈a1S),ok4.sb sb1⟩ (by show[nm 0,nm 4].Nodup;simp[N.ne (i:=0) (j:=4)]);refine⟨mv,f1,t,nm 1,zs,5,_,_,rfl,cv.sb sb1,fk1,tb1,N.ok 1 (by decide),by show nm 1∉[nm 0,nm 4];simp[N.ne (i:=1) (j:=0),N.ne (i:=1) (j:=4)],by show 1<=5;decide,zn,by omega,fun y hy=>by rcases mz y hy with h |h<;>rw[h]<;>simp,fun f2 H2 sb2 _ _ fa2=>?_⟩;have sb:=sb1.trans sb2;have el:lf [(nm 5,e),(nm 2,a),(nm 3,b)] zs=[(nm 5,e)]:=by unfold lf;rw[List.filter_cons_of_pos (by simp[z5]),List.filter_cons_of_neg (by simp[z2]),List.filter_cons_of_neg (by simp[z3]),List.filter_nil]
 obtain⟨ds,hds,rr⟩:∃ds,ds.Perm [(nm 2,dW),(nm 3,dKy)]/\ClR H2 (rt [(nm 5,e),(nm 2,a),(nm 3,b)] zs) ds:=by
  rcases b4R pz with rfl |rfl
  ·exact⟨_,.refl _,.cons (by rw[va];exact Rep.sb sb ra) ka (.cons (by rw[vb];exact Rep.sb sb rb) kb .nil)⟩
  ·exact⟨[(nm 3,dKy),(nm 2,dW)],.swap _ _ _,.cons (by rw[vb];exact Rep.sb sb rb) kb (.cons (by rw[va];exact Rep.sb sb ra) ka .nil)⟩
 have fa2':FAt H2 f2 5 ⟨nm 0,"head",[(nm 5,e)]⟩ [⟨nm 4,"twin",c4⟩,⟨nm 1,"twin",rt [(nm 5,e),(nm 2,a),(nm 3,b)] zs⟩]:=by
  have h:FAt H2 f2 5 ⟨nm 0,"head",lf [(nm 5,e),(nm 2,a),(nm 3,b)] zs⟩ [⟨nm 4,"twin",c4⟩,⟨nm 1,"twin",rt [(nm 5,e),(nm 2,a),(nm 3,b)] zs⟩]:=fa2;rw[el] at h;exact h
 exact q f2 H2 sb (b2j fa2' (fk.sb sb).at_ ⟨rfl,rfl,a9F (rk0.sb sb) (rk0.sb sb) (.refl _) (ok1 N 5 (by decide) dWd).nd⟩ (ok4.sb sb) n41 ⟨rfl,rfl,a9F rr (ro0.sb sb) hds ((hds.map _).nodup_iff.mpr (nd2 n23))⟩)
end
def b4Y (K:Fg0)(PF:Addr):Sp:=fun vs H Q _=>∃(a:Addr) (ns:List Int),vs=[.ref a]/\SqL K H a (ns.map V.int)/\ns.length<=63/\H PF=some (.tbl #[])/\∀H',Q (.bl true) H'
def nLw:List Str:=["_law_script","_law_names_here","_law_fault","_law_case_here","_law_good","_law_between"]
theorem SqL.sb36 {K:Fg0}{H H':Hp}{a:Addr}{xs:List V}(h:SqL K H a xs)(s:Sb H H'):SqL K H' a xs:=by
 rcases h with (h |⟨o,h⟩) |h
 ·exact .inl (.inl (s _ _ rfl h))
 ·exact .inl (.inr ⟨o,s _ _ rfl h⟩)
 ·exact .inr h
theorem b5Y {zs:List Str}(z9:zs.length=6)(znd:zs.Nodup)(zok:∀z∈zs,a0T z=true):∃nm,Nm6 nm/\zs.map V.str=nmL nm:=by
 refine⟨fun i=>zs.getD i "",⟨fun i j hi hj e=>?_,fun i hi=>?_⟩,?_⟩
 ·have hi':i<zs.length:=by omega
  have hj':j<zs.length:=by omega
  have e:zs.getD i ""=zs.getD j "":=e;rw[List.getD_eq_getElem?_getD,List.getD_eq_getElem?_getD,gE0 hi',gE0 hj'] at e;exact(List.getElem_inj znd).mp e
 ·have hi':i<zs.length:=by omega
  show a0T (zs.getD i "")=true;rw[List.getD_eq_getElem?_getD,gE0 hi'];exact zok _ (List.getElem_mem hi')
 ·refine List.ext_getElem (by simp[z9]) fun i h1 h2=>?_
  have hi':i<zs.length:=by simpa using h1
  simp[gE0 hi']
section
variable {P:Program}{w:World}{K:Fg0}{mg:Str->Option Value}{base:Heap}{CC CV PF CN CT:Addr}
theorem b2Z {f fA fB fP fQ fL:Addr}{fd fdA fdB fdP fdQ fdL:FuncData}(F:Fun K "_law_refused" "_law_refused" (top 56) f fd)(TN:TxN K mg CN CT)(TC:ClC K CC)(TV:ClV K CV)(DL:Df K mg "_law_alike" (top 48) fL fdL)(GL:a0x P w K mg base CX0 8 fL fdL ["_law_found","_law_due"] (b3J 7))
  (xA:a6C K CC "after" fA) (gA:a0x P w K mg base (CX1 P w) 5 fA fdA ["self","form"] (a7W CC CN)) (bA:a1C K fdA ["self","form"] []) (xB:a6C K CC "before" fB) (gB:a0x P w K mg base (CX1 P w) 5 fB fdB ["self","form"] (a6o CC CN)) (bB:a1C K fdB ["self","form"] [])
  (xP:a6C K CV "after" fP) (gP:a0x P w K mg base (CX1 P w) 5 fP fdP ["self","form"] (a6r CV CN)) (bP:a1C K fdP ["self","form"] []) (xQ:a6C K CV "before" fQ) (gQ:a0x P w K mg base (CX1 P w) 5 fQ fdQ ["self","form"] (a4Q CV CN)) (bQ:a1C K fdQ ["self","form"] []):a0x P w K mg base CX0 9 f fd ["_law_case_here"] (b1H CC CV):=by
 have sc:a0o ["_law_case_here","_law_number","_law_found","e"] ["_law_case_here"] (a0f (top 56)):=.k (by decide +kernel);have bL:=DL.fn.b2 "_law_found" "_law_due" (by intros;rfl);refine F.ok sc (fun vs H Q E h=>?_) (fun cdv A outer s H vs Q E hr h=>?_)
 ·obtain⟨l,rfl,_⟩:=h
  rfl
 ·obtain⟨l,rfl,⟨mv,f,b,T0,R,el,fk,bad⟩,q⟩:=h
  have hr5:a1g 5 _:=hr.mono (by decide);refine⟨_,(a0c (a0p (i:=1) sc.nd rfl (Or.inl rfl) (b0a a5N a0e))
   (a0c (a0p (i:=2) sc.nd rfl (Or.inl rfl) a2X)
   (a0c (b4f (i:=3) rfl rfl sc.nd rfl rfl (by rfl) TN.mN TN.xN (fun D pn XE L=>a0h (a0C (a0K (a0s (r:=b0l K) a0j (pv 0) a0e (fun _ _=>rfl))) (a0h (a0p (i:=2) sc.nd rfl (Or.inl rfl) (a7T (a3T (a0s (r:=b0l K) a0j (pv 0) a0e (fun _ _=>rfl)) TC.cl xA gA hr5 bA .nil L (a0a (a0s (r:=b0l K) a0j (pv 0) a0e (fun _ _=>rfl)) a0b)) (a3T (a0s (r:=b0l K) a0j (pv 0) a0e (fun _ _=>rfl)) TV.cl xP gP hr5 bP .nil L (a0a (a0s (r:=b0l K) a0j (pv 0) a0e (fun _ _=>rfl)) a0b))))) (a0h (a0p (i:=2) sc.nd rfl (Or.inl rfl) (a7T (a3T (a0s (r:=b0l K) a0j (pv 0) a0e (fun _ _=>rfl)) TC.cl xB gB hr5 bB .nil L (a0a (a0s (r:=b0l K) a0j (pv 0) a0e (fun _ _=>rfl)) a0b)) (a3T (a0s (r:=b0l K) a0j (pv 0) a0e (fun _ _=>rfl)) TV.cl xQ gQ hr5 bQ .nil L (a0a (a0s (r:=b0l K) a0j (pv 0) a0e (fun _ _=>rfl)) a0b))))))) (fun x=>a0h (a0p (i:=1) sc.nd rfl (Or.inl rfl) (b2n (pv 3) rfl))))
   (a0h (a0z (a0i GL hr (by rfl) DL.mg DL.fn.kp bL .nil a0q (a0a (a0D (a0a (pv 2) (a0a (pv 1) a0b))) (a0a (a0D (a0a a2X (a0a a0e a0b))) a0b)))))))),?_⟩
  refine⟨_,rfl,_,rfl,l,_,2,_,rfl,rfl,SqL.of el,a0P (j:=2) rfl,b,rfl,?_⟩;have fin:∀(D:Hp->Prop),True:=fun _=>trivial;rcases bad with ⟨rfl,c,z,⟨dx,em⟩,z8,bd⟩ |⟨rfl,c,z,⟨dx,em⟩,bd⟩ |⟨rfl,t,z,zs,⟨⟨dx,em⟩,et⟩,z8,l12,bd⟩ |⟨rfl,t,z,zs,⟨⟨dx,em⟩,et⟩,l12,so,bd⟩
  case' inl=>refine a3C (.inl ⟨_,rfl,l,_,0,_,rfl,rfl,SqL.of el,a0P (j:=0) rfl,mv,dx,_,rfl,em,a3D _ _ (by decide +kernel) (by decide +kernel),_,rfl,l,_,1,_,rfl,rfl,SqL.of el,a0P (j:=1) rfl,mv,f,c,z,5,T0,R,rfl,⟨dx,em⟩,fk,z8,bd,fun dz H' td=>⟨rfl,fun x hx=>?_⟩⟩)
  case' inr.inl=>refine a1Z (.inl ⟨_,rfl,l,_,0,_,rfl,rfl,SqL.of el,a0P (j:=0) rfl,mv,dx,_,rfl,em,a3D _ _ (by decide +kernel) (by decide +kernel),_,rfl,l,_,1,_,rfl,rfl,SqL.of el,a0P (j:=1) rfl,mv,f,c,z,5,T0,R,rfl,⟨dx,em⟩,fk,bd,fun dz H' td=>⟨rfl,fun x hx=>?_⟩⟩)
  case' inr.inr.inl=>refine a3C (.inr ⟨_,rfl,l,_,0,_,rfl,rfl,SqL.of el,a0P (j:=0) rfl,mv,dx,_,rfl,em,a2K _ _ (by decide +kernel) (by decide +kernel),_,rfl,l,_,1,_,rfl,rfl,SqL.of el,a0P (j:=1) rfl,mv,f,t,z,zs,5,T0,R,rfl,⟨⟨dx,em⟩,et⟩,fk,z8,l12,bd,fun dz H' td=>⟨rfl,fun x hx=>?_⟩⟩)
  case' inr.inr.inr=>refine a1Z (.inr ⟨_,rfl,l,_,0,_,rfl,rfl,SqL.of el,a0P (j:=0) rfl,mv,dx,_,rfl,em,a2K _ _ (by decide +kernel) (by decide +kernel),_,rfl,l,_,1,_,rfl,rfl,SqL.of el,a0P (j:=1) rfl,mv,f,t,z,zs,5,T0,R,rfl,⟨⟨dx,em⟩,et⟩,fk,l12,so,bd,fun dz H' td=>⟨rfl,fun x hx=>?_⟩⟩)
  all_goals
   have nd:dz≠x:=fun e=>by rw[<-e,td.2.1] at hx;cases hx
   refine⟨_,rfl,x,CN,dz,_,_,rfl,a0d,(by rw[a0g nd];exact td.2.1),TN.xN,TN.nM,List.lookup_cons_self,?_⟩;refine⟨_,rfl,_,rfl,(by exact sl2),fun t1 ht1=>⟨(by exact sl2),fun t2 ht2=>⟨_,_,rfl,a4F (n:=6) (.inl ((a0r.upd ht2) _ _ a0d)) (.inl a0d) .non .int,fun H2 s2=>q H2 (((td.2.2.trans (a0r.upd hx)).trans ((a0r.upd ht1).trans (a0r.upd ht2))).trans s2)⟩⟩⟩
theorem b4H {f fC fN fL fS fR f1 f2 f3 f4 fA fZ fP fQ:Addr}{fd fdC fdN fdL fdS fdR fd1 fd2 fd3 fd4 fdA fdZ fdP fdQ:FuncData}(F:Fun K "law" "law" (top 57) f fd)(B:Bl mg)(TC:ClC K CC)(TV:ClV K CV)
  (DC:Df K mg "_law_cell" (top 46) fC fdC) (DN:Df K mg "_law_names" (top 47) fN fdN) (DL:Df K mg "_law_alike" (top 48) fL fdL) (GL:a0x P w K mg base CX0 8 fL fdL ["_law_found","_law_due"] (b3J 7)) (DS:Df K mg "_law_case" (top 55) fS fdS) (GS:a0x P w K mg base CX0 4 fS fdS ["_law_names_here","_law_fault","_law_cell_here"] (b1w CC CV)) (DR:Df K mg "_law_refused" (top 56) fR fdR) (GR:a0x P w K mg base CX0 9 fR fdR ["_law_case_here"] (b1H CC CV))
  (D1:Df K mg "_law_rows_old" (top 51) f1 fd1) (G1:a0x P w K mg base CX0 3 f1 fd1 ["_law_names_here","_law_fault","_law_cell_here"] (b6s CC)) (D2:Df K mg "_law_rows_new" (top 52) f2 fd2) (G2:a0x P w K mg base CX0 3 f2 fd2 ["_law_names_here","_law_fault","_law_cell_here"] (b6i CC)) (D3:Df K mg "_law_cleave_old" (top 53) f3 fd3) (G3:a0x P w K mg base CX0 3 f3 fd3 ["_law_names_here","_law_fault","_law_cell_here"] (b5W CV)) (D4:Df K mg "_law_cleave_new" (top 54) f4 fd4) (G4:a0x P w K mg base CX0 3 f4 fd4 ["_law_names_here","_law_fault","_law_cell_here"] (b5R CV))
  (mA:a6C K CC "after" fA) (gA:a0x P w K mg base CX0 8 fA fdA ["self","form"] (a3A CC PF)) (bA:a1C K fdA ["self","form"] []) (mZ:a6C K CC "before" fZ) (gZ:a0x P w K mg base CX0 8 fZ fdZ ["self","form"] (a2Q CC PF)) (bZ:a1C K fdZ ["self","form"] [])
  (nA:a6C K CV "after" fP) (hA:a0x P w K mg base CX0 8 fP fdP ["self","form"] (a2R CV PF)) (cA:a1C K fdP ["self","form"] []) (nZ:a6C K CV "before" fQ) (hZ:a0x P w K mg base CX0 8 fQ fdQ ["self","form"] (a2r CV PF)) (cZ:a1C K fdQ ["self","form"] []):a0x P w K mg base CX0 10 f fd ["_law_script"] (b4Y K PF):=by
 have sc:a0o nLw ["_law_script"] (a0f (top 57)):=.k (by decide +kernel);have GC:a0x P w K mg base CX0 1 fC fdC ["_law_script","_law_k"] (b6x K):=b2L DC.fn B;have bC:=DC.fn.b2 "_law_script" "_law_k" (by intros;rfl);have GN:a0x P w K mg base CX0 1 fN fdN ["_law_cell_here","_law_many"] a8M:=b0q DN.fn B;have bN:=DN.fn.b2 "_law_cell_here" "_law_many" (by intros;rfl);have bL:=DL.fn.b2 "_law_found" "_law_due" (by intros;rfl);have bS:=DS.fn.b3 "_law_names_here" "_law_fault" "_law_cell_here" (by intros;rfl);have bR:=DR.fn.b1 "_law_case_here" (by intros;rfl);have b1:=D1.fn.b3 "_law_names_here" "_law_fault" "_law_cell_here" (by intros;rfl);have b2:=D2.fn.b3 "_law_names_here" "_law_fault" "_law_cell_here" (by intros;rfl);have b3:=D3.fn.b3 "_law_names_here" "_law_fault" "_law_cell_here" (by intros;rfl);have b4:=D4.fn.b3 "_law_names_here" "_law_fault" "_law_cell_here" (by intros;rfl);refine F.ok sc (fun vs H Q E h=>?_) (fun cdv A outer s H vs Q E hr h=>?_)
 ·obtain⟨a,ns,rfl,_⟩:=h
  rfl
 ·obtain⟨a,ns,rfl,ha,h63,hPF,q⟩:=h
  refine⟨_,(a0c (a0p (i:=1) sc.nd rfl (Or.inl rfl) (a0i GN (hr.mono (by decide)) (by rfl) DN.mg DN.fn.kp bN .nil a0q (a0a (a0i GC (hr.mono (by decide)) (by rfl) DC.mg DC.fn.kp bC .nil a0q (a0a (pv 0) (a0a a0e a0b))) (a0a a0e a0b))))
   (a0c (a0p (i:=2) sc.nd rfl (Or.inl rfl) (a1p a1A (a0i GC (hr.mono (by decide)) (by rfl) DC.mg DC.fn.kp bC .nil a0q (a0a (pv 0) (a0a a0e a0b))) a0e))
   (a0c (a0p (i:=3) sc.nd rfl (Or.inl rfl) (a0i GS (hr.mono (by decide)) (by rfl) DS.mg DS.fn.kp bS .nil a0q (a0a (pv 1) (a0a (pv 2) (a0a (a0i GC (hr.mono (by decide)) (by rfl) DC.mg DC.fn.kp bC .nil a0q (a0a (pv 0) (a0a a0e a0b))) a0b)))))
   (a0c (a0C (a1P (a0K (a0i GR (hr.mono (by decide)) (by rfl) DR.mg DR.fn.kp bR .nil a0q (a0a (pv 3) a0b)))) a0m a0l)
   (a0c (a0p (i:=4) sc.nd rfl (Or.inl rfl) (a1r (a0a (a0i G1 (hr.mono (by decide)) (by rfl) D1.mg D1.fn.kp b1 .nil a0q (a0a (pv 1) (a0a (b0a a5N a0e) (a0a (pv 2) a0b)))) (a0a (a0i G2 (hr.mono (by decide)) (by rfl) D2.mg D2.fn.kp b2 .nil a0q (a0a (pv 1) (a0a (b0a a5N a0e) (a0a (pv 2) a0b)))) a0b))))
   (a0c (a0p (i:=4) sc.nd rfl (Or.inl rfl) (a1p a8L (pv 4) (a1r (a0a (a0i G3 (hr.mono (by decide)) (by rfl) D3.mg D3.fn.kp b3 .nil a0q (a0a (pv 1) (a0a (b0a a5N a0e) (a0a (pv 2) a0b)))) (a0a (a0i G4 (hr.mono (by decide)) (by rfl) D4.mg D4.fn.kp b4 .nil a0q (a0a (pv 1) (a0a (b0a a5N a0e) (a0a (pv 2) a0b)))) a0b)))))
   (a0c (a0p (i:=3) sc.nd rfl (Or.inl rfl) (a0s a0j (pv 4) (a1p a1A (pv 2) a0e) (fun _ _=>rfl)))
   (a0c (a0I (a0C (a0K (a0s a0j (pv 3) a0e (fun _ _=>rfl))) (a0h (a0p (i:=5) sc.nd rfl (Or.inl rfl) (a7T (a2O (a0s a0j (pv 3) a0e (fun _ _=>rfl)) TC.cl mZ gZ (hr.mono (by decide)) bZ .nil a0q (a0a (a2O (a0s a0j (pv 3) a0e (fun _ _=>rfl)) TC.cl mA gA (hr.mono (by decide)) bA .nil a0q (a0a (a0s a0j (pv 3) a0e (fun _ _=>rfl)) a0b)) a0b)) (a2O (a0s a0j (pv 3) a0e (fun _ _=>rfl)) TV.cl nZ hZ (hr.mono (by decide)) cZ .nil a0q (a0a (a2O (a0s a0j (pv 3) a0e (fun _ _=>rfl)) TV.cl nA hA (hr.mono (by decide)) cA .nil a0q (a0a (a0s a0j (pv 3) a0e (fun _ _=>rfl)) a0b)) a0b))))) (a0h (a0p (i:=5) sc.nd rfl (Or.inl rfl) (a7T (a2O (a0s a0j (pv 3) a0e (fun _ _=>rfl)) TC.cl mA gA (hr.mono (by decide)) bA .nil a0q (a0a (a2O (a0s a0j (pv 3) a0e (fun _ _=>rfl)) TC.cl mZ gZ (hr.mono (by decide)) bZ .nil a0q (a0a (a0s a0j (pv 3) a0e (fun _ _=>rfl)) a0b)) a0b)) (a2O (a0s a0j (pv 3) a0e (fun _ _=>rfl)) TV.cl nA hA (hr.mono (by decide)) cA .nil a0q (a0a (a2O (a0s a0j (pv 3) a0e (fun _ _=>rfl)) TV.cl nZ hZ (hr.mono (by decide)) cZ .nil a0q (a0a (a0s a0j (pv 3) a0e (fun _ _=>rfl)) a0b)) a0b)))))))
   (a0c (a0C (a1P (a0K (a0i GL (hr.mono (by decide)) (by rfl) DL.mg DL.fn.kp bL .nil a0q (a0a (pv 5) (a0a (a0s a0j (pv 3) a0e (fun _ _=>rfl)) a0b))))) a0m a0l)
   (a0h (a0z (a0i GR (hr.mono (by decide)) (by rfl) DR.mg DR.fn.kp bR .nil a0q (a0a (a0i GS (hr.mono (by decide)) (by rfl) DS.mg DS.fn.kp bS .nil a0q (a0a (pv 1) (a0a (pv 2) (a0a (a0i GC (hr.mono (by decide)) (by rfl) DC.mg DC.fn.kp bC .nil a0q (a0a (pv 0) (a0a a0e a0b))) a0b)))) a0b))))))))))))),?_⟩
  refine⟨_,rfl,a,ns,0,rfl,ha,by decide,by decide,h63,fun H1 s1=>⟨_,6,rfl,by decide,by decide,fun nl zn H2 s2 nl0 hnl zl znd zok=>?_⟩⟩;have S2:=s1.trans s2;obtain⟨nm,N,e0⟩:=b5Y (by omega) znd zok;rw[e0] at hnl;clear e0 zl znd zok nl0;refine⟨_,rfl,a,ns,1,rfl,S2.seq ha,by decide,by decide,h63,fun H3 s3=>⟨_,_,rfl,rfl,pos rfl,?_⟩⟩;have f0:=Int.emod_nonneg (cel ns 1) (show(24:Int)≠0 by decide);have f24:=Int.emod_lt_of_pos (cel ns 1) (show(0:Int)<24 by decide)
  dsimp only
  generalize cel ns 1%24=ft at *;have S3:=S2.trans s3;have hnl3:=s3 _ _ hnl;refine⟨_,rfl,_,rfl,_,rfl,a,ns,2,rfl,S3.seq ha,by decide,by decide,h63,fun H4 s4=>⟨nl,nm,ft,_,rfl,s4 _ _ hnl3,N,f0,f24,fun lb H5 s5 hlb bad=>?_⟩⟩;refine⟨_,rfl,lb,rfl,bad,fun H6 s6=>⟨_,rfl,a1Z ?_⟩⟩;have S6:=S3.trans (s4.trans (s5.trans s6));have hnl6:=(s4.trans (s5.trans s6)) _ _ hnl3;clear S2 S3 s1 s2 s3 s4 s5 s6 hnl hnl3 bad hlb;refine⟨_,rfl,_,rfl,_,rfl,nl,nm,-1,ft,rfl,hnl6,N,fun l1 mv1 fa1 wd1 ks1 H7 s7 hl1 el1 cv1 fk1 rk1=>?_⟩;refine⟨_,rfl,_,rfl,_,rfl,nl,nm,-1,ft,rfl,s7 _ _ hnl6,N,fun l2 mv2 fa2 w42 ks2 os2 H8 s8 hl2 el2 cv2 fk2 rk2 ro2=>⟨(by exact sl2),fun g1 hg1=>?_⟩⟩;generalize x1:upd H8 g1 _=H9;obtain⟨T9,eg1⟩:=gz x1 hg1;have s79:=s8.trans T9;refine⟨_,rfl,_,rfl,_,rfl,_,rfl,nl,nm,-1,ft,rfl,(s7.trans s79) _ _ hnl6,N,fun l3 mv3 fa3 t3 zs3 ks3 H10 s10 hl3 el3 pz3 so3 cv3 fk3 rk3=>?_⟩;refine⟨_,rfl,_,rfl,_,rfl,nl,nm,-1,ft,rfl,(s7.trans (s79.trans s10)) _ _ hnl6,N,fun l4 mv4 fa4 t4 z4 zs4 c44 ks4 os4 H11 s11 hl4 el4 hm4 so4 cv4 fk4 rk4 ro4=>⟨(by exact sl2),fun g2 hg2=>?_⟩⟩;generalize x2:upd H11 g2 _=H12;obtain⟨T12,eg2⟩:=gz x2 hg2;have s1112:=s11.trans T12;have s912:=s10.trans s1112;refine⟨g1,g2,_,_,rfl,rfl,s912 _ _ eg1,eg2,(by exact sl4),fun g3 hg3=>?_⟩;generalize x3:upd H12 g3 _=H13;obtain⟨T13,eg3⟩:=gz x3 hg3;have u4:=T12.trans T13;have u3:=s11.trans u4;have u2:=T9.trans (s10.trans u3);have u1:=s8.trans u2;have S13:=S6.trans (s7.trans u1);have tab:a1O PF a2j foQ H13:=.inl (S13 _ _ hPF);have hnl13:=(s7.trans u1) _ _ hnl6;have ha13:=S13.seq ha;have m0:=Int.emod_nonneg ft (show(4:Int)≠0 by decide);have m4:=Int.emod_lt_of_pos ft (show(0:Int)<4 by decide);have b4y:∃l mv fo b,atI [V.ref l1,.ref l2,.ref l3,.ref l4] (ft%4)=some (.ref l)/\H13 l=some (.lst [.ref mv,.ref fo,.bl b])/\((b=true/\(∃dx,H13 mv=some (.ins CC dx (b0m (nm 2) (nm 1))))/\∀(Q:VK) (E E':XK),(∀f2 H2,Sb H13 H2->Lq H2 7 (.ref f2) (.ref fo)->Q (.ref f2) H2)->a3A CC PF [.ref mv,.ref fo] H13 (fun v H1=>a2Q CC PF [.ref mv,v] H1 Q E) E')
    ∨ (b=false/\(∃dx,H13 mv=some (.ins CC dx (b0m (nm 2) (nm 1))))/\∀(Q:VK) (E E':XK),(∀f2 H2,Sb H13 H2->Lq H2 7 (.ref f2) (.ref fo)->Q (.ref f2) H2)->a2Q CC PF [.ref mv,.ref fo] H13 (fun v H1=>a3A CC PF [.ref mv,v] H1 Q E) E')
    ∨ (b=true/\(∃dx t,H13 mv=some (.ins CV dx (b0j (nm 1) t)))/\∀(Q:VK) (E E':XK),(∀f2 H2,Sb H13 H2->Lq H2 7 (.ref f2) (.ref fo)->Q (.ref f2) H2)->a2R CV PF [.ref mv,.ref fo] H13 (fun v H1=>a2r CV PF [.ref mv,v] H1 Q E) E')
    ∨ (b=false/\(∃dx t,H13 mv=some (.ins CV dx (b0j (nm 1) t)))/\∀(Q:VK) (E E':XK),(∀f2 H2,Sb H13 H2->Lq H2 7 (.ref f2) (.ref fo)->Q (.ref f2) H2)->a2r CV PF [.ref mv,.ref fo] H13 (fun v H1=>a2R CV PF [.ref mv,v] H1 Q E) E')):=by
   have h:ft%4=0\/ft%4=1\/ft%4=2\/ft%4=3:=by omega
   rcases h with h |h |h |h<;>rw[h]
   ·exact⟨l1,mv1,fa1,true,rfl,u1 _ _ el1,.inl ⟨rfl,cv1.same u1,fun Q E E' q=>b6n N (cv1.same u1) (fk1.sb u1.sb) (rk1.same u1) tab q⟩⟩
   ·refine⟨l2,mv2,fa2,false,rfl,u2 _ _ el2,.inr (.inl ⟨rfl,cv2.same u2,fun Q E E' q=>b6r N ?_ (cv2.same u2) (fk2.sb u2.sb) (rk2.same u2) (ro2.same u2) tab q⟩)⟩
    show a1m (soL ft)="many"\/a1m (soL ft)="some";rcases (a5e ft).2.2 with e |e<;>rw[e]<;>decide +kernel
   ·obtain⟨dx3,em3⟩:=cv3.ex
    exact⟨l3,mv3,fa3,true,rfl,u3 _ _ el3,.inr (.inr (.inl ⟨rfl,⟨dx3,t3,u3 _ _ em3⟩,fun Q E E' q=>b6f N pz3 so3 (cv3.same u3) (fk3.sb u3.sb) (rk3.same u3) tab q⟩))⟩
   ·obtain⟨rfl,pz4⟩:z4=nm 1/\zs4.Perm [nm 2,nm 3]:=hm4
    obtain⟨dx4,em4⟩:=cv4.ex;exact⟨l4,mv4,fa4,false,rfl,u4 _ _ el4,.inr (.inr (.inr ⟨rfl,⟨dx4,t4,u4 _ _ em4⟩,fun Q E E' q=>b5b N pz4 so4 (cv4.same u4) (fk4.sb u4.sb) (rk4.same u4) (ro4.same u4) tab q⟩))⟩
  obtain⟨l,mv,fo,b,eat,el,kind⟩:=b4y;clear cv1 cv2 cv3 cv4 fk1 fk2 fk3 fk4 rk1 rk2 rk3 rk4 ro2 ro4 el1 el2 el3 el4 u1 u2 u3 u4 hm4 pz3 so3 so4 eg1 eg2 tab S6 s7 s8 s10 s11 s79 s912 s1112 T9 T12 T13 hnl6;refine⟨_,rfl,_,rfl,_,_,rfl,rfl,pos rfl,g3,_,_,_,rfl,rfl,SqL.of eg3,eat,?_⟩;refine⟨fun σ' H'=>∃f2,σ'=[some (.ref a),some (.ref nl),some (.int ft),some (.ref l),some (.ref g3),some (.ref f2)]/\Sb H13 H'/\Lq H' 7 (.ref f2) (.ref fo),?_,?_⟩
  ·refine⟨_,rfl,l,_,2,_,rfl,rfl,SqL.of el,a0P (j:=2) rfl,b,rfl,?_⟩
   rcases kind with ⟨rfl,⟨dx,em⟩,go⟩ |⟨rfl,⟨dx,em⟩,go⟩ |⟨rfl,⟨dx,t,em⟩,go⟩ |⟨rfl,⟨dx,t,em⟩,go⟩
   ·exact a3C (.inl ⟨_,rfl,l,_,0,_,rfl,rfl,SqL.of el,a0P (j:=0) rfl,mv,dx,_,rfl,em,a3D _ _ (by decide +kernel) (by decide +kernel),_,rfl,l,_,0,_,rfl,rfl,SqL.of el,a0P (j:=0) rfl,mv,dx,_,rfl,em,a3D _ _ (by decide +kernel) (by decide +kernel),_,rfl,l,_,1,_,rfl,rfl,SqL.of el,a0P (j:=1) rfl,(by unfold b2Q;exact go _ _ _ fun f2 H2 sb lq=>⟨f2,rfl,sb,lq⟩)⟩)
   ·exact a1Z (.inl ⟨_,rfl,l,_,0,_,rfl,rfl,SqL.of el,a0P (j:=0) rfl,mv,dx,_,rfl,em,a3D _ _ (by decide +kernel) (by decide +kernel),_,rfl,l,_,0,_,rfl,rfl,SqL.of el,a0P (j:=0) rfl,mv,dx,_,rfl,em,a3D _ _ (by decide +kernel) (by decide +kernel),_,rfl,l,_,1,_,rfl,rfl,SqL.of el,a0P (j:=1) rfl,(by unfold b2Q;exact go _ _ _ fun f2 H2 sb lq=>⟨f2,rfl,sb,lq⟩)⟩)
   ·exact a3C (.inr ⟨_,rfl,l,_,0,_,rfl,rfl,SqL.of el,a0P (j:=0) rfl,mv,dx,_,rfl,em,a2K _ _ (by decide +kernel) (by decide +kernel),_,rfl,l,_,0,_,rfl,rfl,SqL.of el,a0P (j:=0) rfl,mv,dx,_,rfl,em,a2K _ _ (by decide +kernel) (by decide +kernel),_,rfl,l,_,1,_,rfl,rfl,SqL.of el,a0P (j:=1) rfl,(by unfold b2Q;exact go _ _ _ fun f2 H2 sb lq=>⟨f2,rfl,sb,lq⟩)⟩)
   ·exact a1Z (.inr ⟨_,rfl,l,_,0,_,rfl,rfl,SqL.of el,a0P (j:=0) rfl,mv,dx,_,rfl,em,a2K _ _ (by decide +kernel) (by decide +kernel),_,rfl,l,_,0,_,rfl,rfl,SqL.of el,a0P (j:=0) rfl,mv,dx,_,rfl,em,a2K _ _ (by decide +kernel) (by decide +kernel),_,rfl,l,_,1,_,rfl,rfl,SqL.of el,a0P (j:=1) rfl,(by unfold b2Q;exact go _ _ _ fun f2 H2 sb lq=>⟨f2,rfl,sb,lq⟩)⟩)
  rintro σ5 H14 ⟨f2,rfl,sb14,lq⟩;refine⟨_,rfl,_,rfl,l,_,1,_,rfl,rfl,SqL.of (sb14 _ _ rfl el),a0P (j:=1) rfl,_,_,rfl,lq,fun H15 s15=>⟨_,rfl,a1Z ?_⟩⟩;have sbE:=sb14.trans s15.sb;refine⟨_,rfl,_,rfl,_,rfl,a,ns,2,rfl,SqL.sb36 ha13 sbE,by decide,by decide,h63,fun H16 s16=>⟨nl,nm,ft,_,rfl,s16 _ _ (sbE _ _ rfl hnl13),N,f0,f24,fun lc H17 s17 hlc bad=>?_⟩⟩;exact⟨lc,rfl,bad,fun H18 _=>q H18⟩
end
end My
namespace L2
open PySem PySem.Spec PyProof.Rows
def a3F (K:Fg0)(C:Addr)(m qual:Str)(st:Stmt):Prop:=∃f fd,Fun K m qual st f fd/\a6C K C m f
theorem a2c {K:Fg0}{C f:Addr}{m qual:Str}{st:Stmt}{oc:Value}{od an:Option Addr}{osl:Array (Option Value)}{kV doc pm cdv ct:Value}(a:PySem.W.findIn K (.ref C) m=some (some (.ref f)))(i:PySem.W.isFn K (.ref f)=true)
  (l:K.lookup f=some ⟨oc,od,.func (PySem.W.fnOf m qual (a1d st) (a0U st) (a0f st) .none kV doc pm an cdv ct),osl⟩) (c:PySem.W.codeIn K cdv qual=true) (k:PySem.W.keepIn K (.ref f)=true):a3F K C m qual st:=
 ⟨f,_,a9N l c k,⟨a,i,k⟩⟩
def a3M (K:Fg0)(x:Str)(st:Stmt)(P:Addr):Prop:=∃(f c:Addr) (oc:Value) (od:Option Addr) (kV doc pm:Value) (an:Option Addr) (ct:Value) (osl:Array (Option Value)),
 PySem.W.nsIn K mainGlobals x=some (some (.ref f))/\K.lookup f=some ⟨oc,od,.func (PySem.W.fnOf x x (a1d st) (a0U st) (a0f st) .none kV doc pm an (.ref c) ct),osl⟩/\PySem.W.codeIn K (.ref c) x=true/\PySem.W.keepIn K (.ref f)=true/\PySem.W.codeHdIn K c P=true/\K.lookup P=none
theorem a9q {K:Fg0}{x:Str}{st:Stmt}{P f c:Addr}{oc:Value}{od an:Option Addr}{osl:Array (Option Value)}{kV doc pm ct:Value}(a:PySem.W.nsIn K mainGlobals x=some (some (.ref f)))
  (l:K.lookup f=some ⟨oc,od,.func (PySem.W.fnOf x x (a1d st) (a0U st) (a0f st) .none kV doc pm an (.ref c) ct),osl⟩) (cd:PySem.W.codeIn K (.ref c) x=true) (k:PySem.W.keepIn K (.ref f)=true) (t:PySem.W.codeHdIn K c P=true) (n:K.lookup P=none):a3M K x st P:=
 ⟨f,c,oc,od,kV,doc,pm,an,ct,osl,a,l,cd,k,t,n⟩
theorem a3M.get {K:Fg0}{h:Heap}{mg:Str->Option Value}{x:Str}{st:Stmt}{P:Addr}(d:a3M K x st P)(X:K.In h)(G:h.Ns mainGlobals mg):∃f fd c,b3z K x x st f fd c/\mg x=some (.ref f)/\PySem.W.codeHdIn K c P=true:=by
 obtain⟨f,c,oc,od,kV,doc,pm,an,ct,osl,a,l,cd,k,t,n⟩:=d;exact⟨f,_,c,⟨⟨oc,od,kV,doc,pm,an,ct,osl,rfl,l,cd⟩,k⟩,PySem.W.mg_of X G a,t⟩
theorem a3M.tab {K:Fg0}{x:Str}{st:Stmt}{P:Addr}(d:a3M K x st P):(∃c,PySem.W.codeHdIn K c P=true)/\K.lookup P=none:=by
 obtain⟨f,c,oc,od,kV,doc,pm,an,ct,osl,a,l,cd,k,t,n⟩:=d;exact⟨⟨c,t⟩,n⟩
end L2
namespace My
open PySem L2
theorem all_mk {l:PySem.W.OpenLaw}{w:World}{K:Fg0}{h:Heap}{mg:Str->Option Value}{fa CC CV CN CT sA PF aR aT fN:Addr}{tL tN tP tw tm ts tk:Tok}{od od_ an_:Option Addr}{nK:Nat}{sl osl_:Array (Option Value)}{oc_ dV kV_ doc_ pm_ cdv_ ct_:Value}(X:K.In h)(G:h.Ns mainGlobals mg)(hfa:mg "law"=some (.ref fa))
  (dF:a3M K "form_of" (top 19) PF)
  (gL:PySem.W.nsIn K mainGlobals "LETTERS"=some (some (.str "abcdefghijklmnopqrstuvwxyz" tL)))
  (gN:PySem.W.nsIn K mainGlobals "LONGEST_NAME"=some (some (.int 8 tN)))
  (gP:PySem.W.nsIn K mainGlobals "PERCENT"=some (some (.int 37 tP)))
  (gS:PySem.W.nsIn K mainGlobals "SIDE_SORTS"=some (some (.ref sA)))
  (lS:K.lookup sA=some ⟨.type "tuple",od,.seq #[.str "twin" tw,.str "many" tm,.str "some" ts] nK,sl⟩)
  (gR:PySem.W.nsIn K mainGlobals "SORT_OF_ROWS"=some (some (.ref aR)))
  (kR:b1s K aR (dts a9b))
  (gT:PySem.W.nsIn K mainGlobals "SORT_OF_TUPLES"=some (some (.ref aT)))
  (kT:b1s K aT (dts b0v))
  (aMr:PySem.W.nsIn K mainGlobals "Rows"=some (some (.ref CC)))
  (pgr:PySem.W.plainGet K CC Str.empty=true)
  (hdr:PySem.W.hasDictIn K CC=true)
  (por:PySem.W.plainOver K CC=true)
  (psar:PySem.W.findIn K (.ref CC) "__setattr__"=some (some (.builtin "object.__setattr__")))
  (mkr:PySem.W.makesIn K CC=true)
  (kcr:PySem.W.keepIn K (.ref CC)=true)
  (aMv:PySem.W.nsIn K mainGlobals "Cleave"=some (some (.ref CV)))
  (pgv:PySem.W.plainGet K CV Str.empty=true)
  (hdv:PySem.W.hasDictIn K CV=true)
  (pov:PySem.W.plainOver K CV=true)
  (psav:PySem.W.findIn K (.ref CV) "__setattr__"=some (some (.builtin "object.__setattr__")))
  (mkv:PySem.W.makesIn K CV=true)
  (kcv:PySem.W.keepIn K (.ref CV)=true)
  (n0:PySem.W.findIn K (.ref CC) "side"=some none)
  (n1:PySem.W.findIn K (.ref CC) "column"=some none)
  (n2:PySem.W.findIn K (.ref CV) "side"=some none)
  (n3:PySem.W.findIn K (.ref CV) "columns"=some none)
  (h0:a3F K CC "__init__" "Rows.__init__" (a0w (top 40) 0))
  (h1:a3F K CC "after" "Rows.after" (a0w (top 40) 1))
  (h2:a3F K CC "before" "Rows.before" (a0w (top 40) 2))
  (v0:a3F K CV "__init__" "Cleave.__init__" (a0w (top 41) 0))
  (v1:a3F K CV "after" "Cleave.after" (a0w (top 41) 1))
  (v2:a3F K CV "before" "Cleave.before" (a0w (top 41) 2))
  (v3:a3F K CV "tells_none_twice" "Cleave.tells_none_twice" (a0w (top 41) 3))
  (aN:PySem.W.nsIn K mainGlobals "NoMove"=some (some (.ref CN)))
  (aE:PySem.W.nsIn K mainGlobals "TableError"=some (some (.ref CT)))
  (nM:PySem.W.findIn K (.ref CN) "move"=some none)
  (xN:XCl K CN)
  (bs:PySem.W.specialIn K (.ref CT) "__getattribute__"=some (some (.builtin "type.__getattribute__")))
  (br:PySem.W.readsIn K CT (.type "type")=true)
  (bf:PySem.W.findCls K (.ref CT) (.type "type") "__init__"=some (.val (.builtin "ValueError.__init__")))
  (ni:PySem.W.findIn K (.ref CN) "__init__"=some (some (.ref fN)))
  (nf:PySem.W.isFn K (.ref fN)=true)
  (nl:K.lookup fN=some ⟨oc_,od_,.func (PySem.W.fnOf "__init__" "NoMove.__init__" (a1d (a0w (top 6) 0)) (a0U (a0w (top 6) 0)) (a0f (a0w (top 6) 0)) dV kV_ doc_ pm_ an_ cdv_ ct_),osl_⟩)
  (nc:PySem.W.codeIn K cdv_ "NoMove.__init__"=true)
  (nk:PySem.W.keepIn K (.ref fN)=true)
  (pk:∀(u:Value) (S:Setting),PySem.W.peek K S (bindArgs (PySem.W.fnOf "__init__" "NoMove.__init__" (a1d (a0w (top 6) 0)) (a0U (a0w (top 6) 0)) (a0f (a0w (top 6) 0)) dV kV_ doc_ pm_ an_ cdv_ ct_) ⟨[u],[]⟩)=some ([("self",u),("move",.int 0 tk)]:List (Str×Value)))
  (d11:a1j K "is_whole" (top 11))
  (d12:a1j K "is_name" (top 12))
  (d13:a1j K "is_sign" (top 13))
  (d14:a1j K "is_plain" (top 14))
  (d15:a1j K "is_plain_pair" (top 15))
  (d16:a1j K "is_kind" (top 16))
  (d20:a1j K "ask_sorts" (top 20))
  (d21:a1j K "ask_names" (top 21))
  (d22:a1j K "columns_made" (top 22))
  (d23:a1j K "tables_of" (top 23))
  (d24:a1j K "head_of" (top 24))
  (d25:a1j K "sort_of" (top 25))
  (d26:a1j K "columns_of" (top 26))
  (d27:a1j K "table_in" (top 27))
  (d28:a1j K "parts_of" (top 28))
  (d29:a1j K "with_columns" (top 29))
  (d30:a1j K "with_table" (top 30))
  (d31:a1j K "without_table" (top 31))
  (d34:a1j K "ask_fit" (top 34))
  (d35:a1j K "columns_in" (top 35))
  (d36:a1j K "without_column" (top 36))
  (d42:a1j K "ask_new_side" (top 42))
  (d43:a1j K "picked" (top 43))
  (d44:a1j K "without" (top 44))
  (d46:a1j K "_law_cell" (top 46))
  (d47:a1j K "_law_names" (top 47))
  (d48:a1j K "_law_alike" (top 48))
  (d49:a1j K "_law_form" (top 49))
  (d50:a1j K "_law_odd" (top 50))
  (d51:a1j K "_law_rows_old" (top 51))
  (d52:a1j K "_law_rows_new" (top 52))
  (d53:a1j K "_law_cleave_old" (top 53))
  (d54:a1j K "_law_cleave_new" (top 54))
  (d55:a1j K "_law_case" (top 55))
  (d56:a1j K "_law_refused" (top 56))
  (d57:a1j K "law" (top 57))
  (zb:BlK K) (zz:PySem.W.nsIn K mainGlobals "zip"=some none) :
  ∃fd:FuncData,(∀(s:Shared) (v:Value),BindsTo s fd ⟨[v],[]⟩ [("_law_script",v)])/\∀base:Heap,K.In base->base.Ns mainGlobals mg->L2.a5W base mg->a0x l.prog w K mg base CX0 10 fa fd ["_law_script"] (b4Y K PF):=by
 have B:Bl mg:=zb.bl X G;have hz:mg "zip"=none:=PySem.W.mg_none_of X G zz;have mL:=PySem.W.mg_of X G gL;have mN:=PySem.W.mg_of X G gN;have mP:=PySem.W.mg_of X G gP;have mS:=PySem.W.mg_of X G gS;have mR:=PySem.W.mg_of X G gR;have mT:=PySem.W.mg_of X G gT;have qS:∀H,SqT K H sA (a1S.map V.str):=fun H=>.inr ⟨_,_,_,lS,rfl,rfl,(by exact sl3),.cons ⟨tw,rfl⟩ (.cons ⟨tm,rfl⟩ (.cons ⟨ts,rfl⟩ .nil))⟩;have TC:ClC K CC:=⟨⟨pgr,hdr,por,psar⟩,n0,n1⟩;have TV:ClV K CV:=⟨⟨pgv,hdv,pov,psav⟩,n2,n3⟩;have TN:TxN K mg CN CT:=⟨PySem.W.mg_of X G aN,PySem.W.mg_of X G aE,xN,nM,⟨bs,br,bf⟩⟩;have FN:=b2K (st:=a0w (top 6) 0) nl nc nk;have bN:a1C K (PySem.W.fnOf "__init__" "NoMove.__init__" (a1d (a0w (top 6) 0)) (a0U (a0w (top 6) 0)) (a0f (a0w (top 6) 0)) dV kV_ doc_ pm_ an_ cdv_ ct_) ["self","move"] [.int 0 tk]:=fun s us kin hl=>by
  have h1:us.length=1:=by simpa using hl
  match us,h1 with
  |[u],_=>exact PySem.W.kp_binds kin (pk u)
 obtain⟨g0,gd0,F0,M0⟩:=h0;obtain⟨g1,gd1,F1,M1⟩:=h1;obtain⟨g2,gd2,F2,M2⟩:=h2;obtain⟨k0,kd0,J0,L0⟩:=v0;obtain⟨k1,kd1,J1,L1⟩:=v1;obtain⟨k2,kd2,J2,L2_⟩:=v2;obtain⟨k3,kd3,J3,L3⟩:=v3;have bA:=F1.b2 "self" "form" (by intros;rfl);have bZ:=F2.b2 "self" "form" (by intros;rfl);have cA:=J1.b2 "self" "form" (by intros;rfl);have cZ:=J2.b2 "self" "form" (by intros;rfl);have b3:=J3.b1 "self" (by intros;rfl);obtain⟨f11,fd11,D11⟩:=d11.df X G;obtain⟨f12,fd12,D12⟩:=d12.df X G;obtain⟨f13,fd13,D13⟩:=d13.df X G;obtain⟨f14,fd14,D14⟩:=d14.df X G;obtain⟨f15,fd15,D15⟩:=d15.df X G;obtain⟨f16,fd16,D16⟩:=d16.df X G;obtain⟨f20,fd20,D20⟩:=d20.df X G;obtain⟨f21,fd21,D21⟩:=d21.df X G;obtain⟨f22,fd22,D22⟩:=d22.df X G;obtain⟨f23,fd23,D23⟩:=d23.df X G;obtain⟨f24,fd24,D24⟩:=d24.df X G;obtain⟨f25,fd25,D25⟩:=d25.df X G;obtain⟨f26,fd26,D26⟩:=d26.df X G;obtain⟨f27,fd27,D27⟩:=d27.df X G;obtain⟨f28,fd28,D28⟩:=d28.df X G;obtain⟨f29,fd29,D29⟩:=d29.df X G;obtain⟨f30,fd30,D30⟩:=d30.df X G;obtain⟨f31,fd31,D31⟩:=d31.df X G;obtain⟨f34,fd34,D34⟩:=d34.df X G;obtain⟨f35,fd35,D35⟩:=d35.df X G;obtain⟨f36,fd36,D36⟩:=d36.df X G;obtain⟨f42,fd42,D42⟩:=d42.df X G;obtain⟨f43,fd43,D43⟩:=d43.df X G;obtain⟨f44,fd44,D44⟩:=d44.df X G;obtain⟨f46,fd46,D46⟩:=d46.df X G;obtain⟨f47,fd47,D47⟩:=d47.df X G;obtain⟨f48,fd48,D48⟩:=d48.df X G;obtain⟨f49,fd49,D49⟩:=d49.df X G;obtain⟨f50,fd50,D50⟩:=d50.df X G;obtain⟨f51,fd51,D51⟩:=d51.df X G;obtain⟨f52,fd52,D52⟩:=d52.df X G;obtain⟨f53,fd53,D53⟩:=d53.df X G;obtain⟨f54,fd54,D54⟩:=d54.df X G;obtain⟨f55,fd55,D55⟩:=d55.df X G;obtain⟨f56,fd56,D56⟩:=d56.df X G;obtain⟨f19,fd19,c19,F19,m19,t19⟩:=dF.get X G;have D19:Df K mg "form_of" (top 19) f19 fd19:=⟨F19.fn,m19⟩;obtain⟨f,oc,od,kV,doc,pm,an,cdv,ct,osl,a,lk,c,k⟩:=d57;have e:=hfa.symm.trans (PySem.W.mg_of X G a);cases e;refine⟨PySem.W.fnOf "law" "law" (a1d (top 57)) (a0U (top 57)) (a0f (top 57)) .none kV doc pm an cdv ct,fun s v=>.of_eq rfl,fun base _ _ hB=>?_⟩;have GN:=b3o (P:=l.prog) (w:=w) (base:=base) D12.fn B mL ⟨tL,rfl⟩ mN ⟨tN,rfl⟩;have GP:=b0x (P:=l.prog) (w:=w) (base:=base) D14.fn B D11 D13 D15 mP ⟨tP,rfl⟩;have GK:=b2D (P:=l.prog) (w:=w) (base:=base) D16.fn B D14 GP;have GF:=b2T (P:=l.prog) (w:=w) (base:=base) F19 B t19 hB D11 (a7Y D11.fn B) D20 (b2I D20.fn mS qS) D21 (b3x D21.fn D12 GN) D22 (b3w D22.fn B D12 GN D16 GK);have GPt:=b1g (P:=l.prog) (w:=w) (base:=base) D28.fn B;have G1:=a5k (mg:=mg) (P:=l.prog) (w:=w) (base:=base) D27.fn;have GWT:=b1e (P:=l.prog) (w:=w) (base:=base) D30.fn D19 GF D28 GPt;have GWC:=b0K (P:=l.prog) (w:=w) (base:=base) D29.fn D19 GF D28 GPt D27 G1;have GWO:=a8l (P:=l.prog) (w:=w) (base:=base) D31.fn D19 GF D28 GPt D27 G1;have GCo:=a3Y (P:=l.prog) (w:=w) (base:=base) D26.fn B D27;have GWs:=b4J (P:=l.prog) (w:=w) (base:=base) D44.fn B D36;have GSo:=a9w (P:=l.prog) (w:=w) (base:=base) D25.fn D27;have GNs:=a8q (P:=l.prog) (w:=w) (base:=base) D42.fn D34 D12 GN D23;have GCi:=a9G (P:=l.prog) (w:=w) (base:=base) D35.fn B D34 D23 D26 D27;have Mr:Fms l.prog w K mg base PF f42 f24 f26 f34 f29 f30 fd42 fd24 fd26 fd34 fd29 fd30:=⟨D42,GNs,D24,D26,GCo,D34,D29,GWC,D30,GWT⟩;have Mr':Fmb l.prog w K mg base PF f35 f25 f31 f14 fd35 fd25 fd31 fd14:=⟨D35,GCi,D25,GSo,D31,GWO,D14,GP⟩;have Mv:Fmv l.prog w K mg base PF f42 f24 f26 f34 f29 f44 f30 f43 fd42 fd24 fd26 fd34 fd29 fd44 fd30 fd43:=⟨D42,GNs,D24,D26,GCo,D34,D29,GWC,D44,GWs,D30,GWT,D43⟩;have Mv':Fmw l.prog w K mg base PF f35 f25 f31 fd35 fd25 fd31:=⟨D35,GCi,D25,GSo,D31,GWO⟩;have GAk:=b3R (P:=l.prog) (w:=w) (base:=base) D34.fn TN FN ⟨xN,ni,nf⟩ bN;have GNx:=b3i (P:=l.prog) (w:=w) (base:=base) D42.fn D34 GAk D12 GN D23;have GCx:=b0A (P:=l.prog) (w:=w) (base:=base) D35.fn B D34 GAk D23 D26 D27;have GT3:=b0Q (P:=l.prog) (w:=w) (base:=base) J3 B TV;have gA:=a8V (P:=l.prog) (w:=w) (base:=base) F1 TC D42 GNx D24 D26 GCo D34 GAk mR kR;have gB:=a8y (P:=l.prog) (w:=w) (base:=base) F2 B TC D35 GCx D25 GSo D14 GP D24 D26 GCo D34 GAk mT kT;have gP:=a8i (P:=l.prog) (w:=w) (base:=base) J1 B TV D42 GNx D24 D26 GCo D34 GAk L3 GT3 b3;have gQ:=a6Z (P:=l.prog) (w:=w) (base:=base) J2 B TV D35 GCx D25 GSo D24 D26 GCo D34 GAk;have GL:=a7C (P:=l.prog) (w:=w) (base:=base) D48 B hz 7;have MKr:Mk K CC g0:=⟨mkr,M0.at_,M0.fn,kcr⟩;have MKv:Mk K CV k0:=⟨mkv,L0.at_,L0.fn,kcv⟩;have Q1:=b5p (P:=l.prog) (w:=w) (base:=base) D51.fn B TC D50 D49 MKr F0 (PySem.W.mg_of X G aMr);have Q2:=b5x (P:=l.prog) (w:=w) (base:=base) D52.fn B TC D49 MKr F0 (PySem.W.mg_of X G aMr);have Q3:=b5T (P:=l.prog) (w:=w) (base:=base) D53.fn B TV D50 D49 MKv J0 (PySem.W.mg_of X G aMv);have Q4:=b6d (P:=l.prog) (w:=w) (base:=base) D54.fn B TV D49 MKv J0 (PySem.W.mg_of X G aMv);exact b4H (a9N lk c k) B TC TV D46 D47 D48 GL D55 (b3b D55.fn D51 Q1 D52 Q2 D53 Q3 D54 Q4) D56 (b2Z D56.fn TN TC TV D48 GL M1 gA bA M2 gB bZ L1 gP cA L2_ gQ cZ) D51 Q1 D52 Q2 D53 Q3 D54 Q4
  M1 (b0G F1 TC Mr mR kR) bA M2 (a9E F2 B TC Mr' D24 D26 GCo D34 D29 GWC mT kT) bZ L1 (b0g J1 B TV Mv L3 GT3 b3) cA L2_ (a8o J2 B TV Mv' D24 D26 GCo D34 D29 GWC) cZ
theorem b5l {l:PySem.W.OpenLaw}{q:Program}{loose:List Str}{XP:(Str->Option Value)->Heap->Prop}{d:DefRec}{K:Params->Fg0}{as:List Addr}{e:∀P,as=(K P).map (·.1)}{PF:Addr}(hk:a1g 10 callerA)(hn:l.most=some 63)(hdf:d.params.defaults=[])
  (DF:∀w:World,a3M (K w.params) "form_of" (top 19) PF)
  (F:∀(w:World) (mg:Str->Option Value) (fa:Addr) (h:Heap),(K w.params).In h->h.Ns mainGlobals mg->mg d.name=some (.ref fa)->a3M (K w.params) "form_of" (top 19) PF →
   ∃fd:FuncData,(∀(s:Shared) (u:Value),BindsTo s fd ⟨[u],[]⟩ [("_law_script",u)])/\∀base:Heap,(K w.params).In base->base.Ns mainGlobals mg->L2.a5W base mg->a0x l.prog w (K w.params) mg base CX0 10 fa fd ["_law_script"] (b4Y (K w.params) PF)) :
  PySem.W.WalkO q loose XP (PySem.W.kmHook K as e [PF]).says l.row.toRowW d [] (fun f vs=>PySem.call f vs):=by
 refine L2.b0Y (n:=63) (k:=10) (x:="_law_script") (CX:=fun _=>CX0) (sp:=fun w=>b4Y (K w.params) PF) (tx:=fun _=>[PF]) hn (by decide) hdf hk (fun w h Y=>PySem.W.km_in_of Y) (fun w h Y b hb=>?_) (fun w mg fa h X G m=>F w mg fa h X G m (DF w)) (fun w H a ns hl hO hS=>?_) fun _ _ _ _ _ z=>z
 ·have g:=PySem.W.km_tabs_of Y b hb
  have e:b=PF:=by simpa using hb
  subst e;obtain⟨⟨c,t⟩,n⟩:=(DF w).tab;exact L2.b3X (PySem.W.km_in_of Y) g t n
 ·exact⟨a,ns,rfl,hS,hl,hO.2 PF (by simp),fun _=>rfl⟩
end My
namespace PySem.W.Fast
def tw12477176888925192904:Unit:=()
def tw9210932692952971782:Unit:=()
def tw5679247527360915079:Unit:=()
def tw37820297854227115:Unit:=()
def tw15858788588135035771:Unit:=()
def tw211912983327610187:Unit:=()
def tw10400365818368757388:Unit:=()
def tw12899698952015434995:Unit:=()
def tw1541844259343549068:Unit:=()
def tw6133478991753227630:Unit:=()
def tw3082691926732302440:Unit:=()
def tw13047107634829731448:Unit:=()
def tw12376032368782389223:Unit:=()
def tw9238929292354709385:Unit:=()
def tw3375668134680380161:Unit:=()
def tw8421719962751869763:Unit:=()
def tw674391110371880217:Unit:=()
def tw1345210568372784766:Unit:=()
def tw4801963165521944984:Unit:=()
def tw11679628745069340701:Unit:=()
def tw4000293600209376852:Unit:=()
def tw8126913241753536082:Unit:=()
def tw13139973391186844715:Unit:=()
def tw11410593384582984321:Unit:=()
def tw9953120964289224348:Unit:=()
def tw3721302290747794843:Unit:=()
def tw5194504953430649181:Unit:=()
def tw7675747934472675475:Unit:=()
def tw7458033078966709472:Unit:=()
def tw11333332279511764661:Unit:=()
def tw15009604614939424758:Unit:=()
def tw15833730062716946996:Unit:=()
def tw4525384916512478846:Unit:=()
def tw3117244993602071928:Unit:=()
def tw7901312765275710120:Unit:=()
def tw14170989447026709457:Unit:=()
def tw14164026185667224859:Unit:=()
def tw9285542198911579252:Unit:=()
def tw18102307848041262645:Unit:=()
def tw8849774006498868779:Unit:=()
def tw4223623973668204014:Unit:=()
def tw10847443341484134586:Unit:=()
def tw15196637537697419266:Unit:=()
def tw2397490742215681096:Unit:=()
def tw9645918362831960057:Unit:=()
def tw14886012641932647998:Unit:=()
def tw11642897851325129046:Unit:=()
def tw9583776446579692099:Unit:=()
def tw16845837718201042155:Unit:=()
def tw16366845244029502463:Unit:=()
def tw9403885467337023939:Unit:=()
def tw12013532848519421157:Unit:=()
def tw42543768703902188:Unit:=()
def tw5731202916996483911:Unit:=()
def tw2352540933467067351:Unit:=()
def tw17177193806469686589:Unit:=()
def tw17338315013121136628:Unit:=()
def tw16541271804852623203:Unit:=()
def tw8163694477510015316:Unit:=()
def tw17329163177319225455:Unit:=()
def tw9347605107184665960:Unit:=()
def tw13398716767977218835:Unit:=()
def tw15154955100624353703:Unit:=()
def tw1671687300862491387:Unit:=()
def tw1085444545014063905:Unit:=()
def tw15494170396384964359:Unit:=()
def tw11999439728268233823:Unit:=()
def tw13325157048237256095:Unit:=()
def tw14336051945880232991:Unit:=()
def tw3007494327930524951:Unit:=()
def tw6847132918551777210:Unit:=()
def tw5666254355534080008:Unit:=()
def tw9537407194129791813:Unit:=()
def tw8029832120334862822:Unit:=()
def tw17248289723476880617:Unit:=()
def tw4404516923957311645:Unit:=()
def tw13609024927946720635:Unit:=()
def tw9595059879154443231:Unit:=()
def tw4356789937899277543:Unit:=()
def tw14069189645324706852:Unit:=()
end PySem.W.Fast
open PySem PySem.W PyProof.Rows
set_option maxRecDepth 100000 in
set_option maxHeartbeats 0 in
theorem PySem.Challenge.cw_halfmoved_k36_sides_refused_holds : PySem.Challenge.rw_halfmoved_k36_sides_refused.Holds := by
 w_on;o_law;k_head;(case hw=>w_witness2)
 k_fill
 refine' My.b5l (l:=PySem.Challenge.rw_halfmoved_k36_sides_refused) ⟨rfl,by decide,by decide⟩ rfl rfl ?DF ?F
 case DF=>
  intro w;refine' L2.a9q ?a ?l ?c ?k ?t ?n;(case a=>k_is);(case l=>k_is);(case c=>k_is);(case k=>k_is);(case t=>rfl);(case n=>rfl)
 case F=>
  intro w mg fa h KX G hmg dF;refine' My.all_mk KX G hmg dF ?gL ?gN ?gP ?gS ?lS ?gR ?kR ?gT ?kT ?aMr ?pgr ?hdr ?por ?psar ?mkr ?kcr ?aMv ?pgv ?hdv ?pov ?psav ?mkv ?kcv ?n0 ?n1 ?n2 ?n3 ?h0 ?h1 ?h2 ?v0 ?v1 ?v2 ?v3 ?aN ?aE ?nM ?xN ?bs ?br ?bf ?ni ?nf ?nl ?nc ?nk ?pk ?d11 ?d12 ?d13 ?d14 ?d15 ?d16 ?d20 ?d21 ?d22 ?d23 ?d24 ?d25 ?d26 ?d27 ?d28 ?d29 ?d30 ?d31 ?d34 ?d35 ?d36 ?d42 ?d43 ?d44 ?d46 ?d47 ?d48 ?d49 ?d50 ?d51 ?d52 ?d53 ?d54 ?d55 ?d56 ?d57 ?zb ?zz
  (case gL=>k_is)
  (case gN=>k_is)
  (case gP=>k_is)
  (case gS=>k_is)
  (case lS=>k_is)
  (case gR=>k_is)
  (case kR=>rfl)
  (case gT=>k_is)
  (case kT=>rfl)
  (case aMr=>k_is)
  (case pgr=>k_is)
  (case hdr=>k_is)
  (case por=>k_is)
  (case psar=>k_is)
  (case mkr=>k_is)
  (case kcr=>k_is)
  (case aMv=>k_is)
  (case pgv=>k_is)
  (case hdv=>k_is)
  (case pov=>k_is)
  (case psav=>k_is)
  (case mkv=>k_is)
  (case kcv=>k_is)
  (case n0=>k_is)
  (case n1=>k_is)
  (case n2=>k_is)
  (case n3=>k_is)
  (case h0=>refine' L2.a2c ?a ?i ?l ?c ?k;(case a=>k_is);(case i=>k_is);(case l=>k_is);(case c=>k_is);(case k=>k_is))
  (case h1=>refine' L2.a2c ?a ?i ?l ?c ?k;(case a=>k_is);(case i=>k_is);(case l=>k_is);(case c=>k_is);(case k=>k_is))
  (case h2=>refine' L2.a2c ?a ?i ?l ?c ?k;(case a=>k_is);(case i=>k_is);(case l=>k_is);(case c=>k_is);(case k=>k_is))
  (case v0=>refine' L2.a2c ?a ?i ?l ?c ?k;(case a=>k_is);(case i=>k_is);(case l=>k_is);(case c=>k_is);(case k=>k_is))
  (case v1=>refine' L2.a2c ?a ?i ?l ?c ?k;(case a=>k_is);(case i=>k_is);(case l=>k_is);(case c=>k_is);(case k=>k_is))
  (case v2=>refine' L2.a2c ?a ?i ?l ?c ?k;(case a=>k_is);(case i=>k_is);(case l=>k_is);(case c=>k_is);(case k=>k_is))
  (case v3=>refine' L2.a2c ?a ?i ?l ?c ?k;(case a=>k_is);(case i=>k_is);(case l=>k_is);(case c=>k_is);(case k=>k_is))
  (case aN=>k_is)
  (case aE=>k_is)
  (case nM=>k_is)
  (case xN=>refine' L2.b4B ?l ?t ?ga ?gx ?sa ?kp;(case l=>k_is);(case t=>decide +kernel);(case ga=>k_is);(case gx=>k_is);(case sa=>k_is);(case kp=>k_is))
  (case bs=>k_is)
  (case br=>k_is)
  (case bf=>k_is)
  (case ni=>k_is)
  (case nf=>k_is)
  (case nl=>k_is)
  (case nc=>k_is)
  (case nk=>k_is)
  (case pk=>intro u S;rfl)
  (case zb=>refine' My.BlK.mk ?b0 ?b1 ?b2 ?b3 ?b4 ?b5 ?b6 ?b7 ?b8 ?b9 ?b10 ?b11 ?b12 ?b13 ?b14 ?b15;(case b0=>k_is);(case b1=>k_is);(case b2=>k_is);(case b3=>k_is);(case b4=>k_is);(case b5=>k_is);(case b6=>k_is);(case b7=>k_is);(case b8=>k_is);(case b9=>k_is);(case b10=>k_is);(case b11=>k_is);(case b12=>k_is);(case b13=>k_is);(case b14=>k_is);(case b15=>k_is))
  (case zz=>k_is)
  all_goals (refine' L2.b0N ?a ?l ?c ?k;(case a=>k_is);(case l=>k_is);(case c=>k_is);(case k=>k_is))
#print axioms PySem.Challenge.cw_halfmoved_k36_sides_refused_holds
