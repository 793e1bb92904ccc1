import PyProof.Rows.All
import Wide.All
import OpenK.AllK
import Wide.FinOn
import Lean
import PyProof.EqAt
import PyProof.EqKinds
import PyProof.TupleCall
import PyProof.StrBlock
import PyProof.StrBlockL
import PyProof.Rows.StrJoin2
import KE.KIntText
import PyProof.StrCalls6
import PyProof.StationsW
import PyProof.RulesTry
import PyProof.InstStoreFacts
import PyProof.ExcBaseAll.ValueError
import PyProof.ExcAttrAll.ValueError
import PyProof.NsDelKeeps
import KE.KTabLook
import PyProof.MeetsStr
import PyProof.ZipIter
import PyProof.TupleIter
import PyProof.ListRange
import KE.KPar
import KE.KDictSum
import PyProof.EnumMake
import PyProof.EnumStmt
import KE.KSortTup
import PyProof.NeKinds
import PyProof.AttrMissSeq
import KE.KDictOf
import PyProof.FactsAll.set_2
import PyProof.Rows.SetFrom
import PyProof.CollectWalk
import KE.KRevIter
import PyProof.CollectIter
import PyProof.WalkInts
import PyProof.ListNew
import PyProof.FactsAll.enumerate_1
import PyProof.DictValues
import PyProof.FactsAll.dict_valueiterator_1
import PySem.Challenge.RW_halfmoved_k17_once
set_option Elab.async false
set_option linter.all false
set_option maxRecDepth 100000
set_option maxHeartbeats 4000000
namespace L0
open PySem PySem.Spec PyProof.Rows
theorem gE0:type_of% @List.getElem?_eq_getElem.{0}:=@List.getElem?_eq_getElem.{0}
theorem lM0:type_of% @List.length_map.{0,0}:=@List.length_map.{0,0}
theorem gM0:type_of% @List.getElem?_map.{0,0}:=@List.getElem?_map.{0,0}
theorem hP0:type_of% @PySem.Heap.get?_push_of_some:=@PySem.Heap.get?_push_of_some
theorem wB0:type_of% @wpAny_bind:=@wpAny_bind
theorem wP0:type_of% @wpAny_pure:=@wpAny_pure
theorem lA0:type_of% @List.length_append.{0}:=@List.length_append.{0}
theorem gI0:type_of% @List.mem_of_getElem?.{0}:=@List.mem_of_getElem?.{0}
theorem gS0:type_of% @List.getElem?_eq_some_iff.{0}:=@List.getElem?_eq_some_iff.{0}
theorem mM0:type_of% @List.mem_map.{0,0}:=@List.mem_map.{0,0}
theorem mC0:type_of% @List.map_map.{0,0,0}:=@List.map_map.{0,0,0}
theorem mA0:type_of% @List.map_append.{0,0}:=@List.map_append.{0,0}
theorem nR0:type_of% @Nat.le_refl:=@Nat.le_refl
theorem mS0:type_of% @List.mem_singleton.{0}:=@List.mem_singleton.{0}
theorem hL0:type_of% @PySem.Heap.lt_size:=@PySem.Heap.lt_size
theorem hS0:type_of% @PySem.Heap.get?_push_size:=@PySem.Heap.get?_push_size
theorem aL0:type_of% @Array.length_toList.{0}:=@Array.length_toList.{0}
theorem nL0:type_of% @Nat.ne_of_lt:=@Nat.ne_of_lt
theorem mN0:type_of% @List.map_cons.{0,0}:=@List.map_cons.{0,0}
theorem bF0:type_of% @Bool.false_ne_true:=@Bool.false_ne_true
theorem lT0:type_of% @List.length_take.{0}:=@List.length_take.{0}
theorem mB0:type_of% @List.mem_append.{0}:=@List.mem_append.{0}
theorem lI0:type_of% @List.length_mapIdx.{0,0}:=@List.length_mapIdx.{0,0}
theorem gX0:type_of% @List.getElem?_mapIdx.{0,0}:=@List.getElem?_mapIdx.{0,0}
theorem tS0:type_of% @List.take_succ.{0}:=@List.take_succ.{0}
theorem mK0:type_of% @List.mem_cons.{0}:=@List.mem_cons.{0}
theorem mL0:type_of% @List.mem_cons_of_mem.{0}:=@List.mem_cons_of_mem.{0}
theorem gL0:type_of% @List.getElem?_append_left.{0}:=@List.getElem?_append_left.{0}
theorem gR0:type_of% @List.getElem?_append_right.{0}:=@List.getElem?_append_right.{0}
theorem gQ0:type_of% @List.getElem_mem.{0}:=@List.getElem_mem.{0}
theorem mF0:type_of% @List.mem_filter.{0}:=@List.mem_filter.{0}
theorem lS0:type_of% @List.length_singleton.{0}:=@List.length_singleton.{0}
theorem dT0:type_of% @decide_eq_true:=@decide_eq_true
theorem dF0:type_of% @decide_eq_false:=@decide_eq_false
theorem zL0:type_of% @Nat.zero_le:=@Nat.zero_le
abbrev Vs0:=Value->Shared->Prop
abbrev Fg0:=PySem.W.Frag
end L0
open L0
namespace L2
theorem ln0 {α:Type}{l:List α}(h:l.length=0):l=[]:=List.eq_nil_of_length_eq_zero h
theorem ln1 {α:Type}{l:List α}(h:l.length=1):∃a,l=[a]:=List.length_eq_one_iff.mp h
theorem ln2 {α:Type}{l:List α}(h:l.length=2):∃a b,l=[a,b]:=by
 cases l with
 |nil=>cases h
 |cons a r=>obtain⟨b,rfl⟩:=ln1 (Nat.succ.inj h);exact⟨a,b,rfl⟩
theorem ln3 {α:Type}{l:List α}(h:l.length=3):∃a b c,l=[a,b,c]:=by
 cases l with
 |nil=>cases h
 |cons a r=>obtain⟨b,c,rfl⟩:=ln2 (Nat.succ.inj h);exact⟨a,b,c,rfl⟩
theorem ln4 {α:Type}{l:List α}(h:l.length=4):∃a b c d,l=[a,b,c,d]:=by
 cases l with
 |nil=>cases h
 |cons a r=>obtain⟨b,c,d,rfl⟩:=ln3 (Nat.succ.inj h);exact⟨a,b,c,d,rfl⟩
end L2
namespace L2
open PySem PySem.Spec PyProof.Rows
abbrev Key:=Sum Int Str
def a4A:Key->Value->Bool
 | .inl k,v=>Value.isInt k v
 | .inr x,v=>Value.isStrOf x v
def keyH (w:World):Key->Int
 | .inl k=>hashInt k
 | .inr x=>hashStr w x
theorem a0w:∀{k:Key} {v:Value},a4A k v=true->(∃i t,k=Sum.inl i/\v=Value.int i t)\/(∃x t,k=Sum.inr x/\v=Value.str x t)
 | .inl i,v,h=>by
  obtain⟨t,e⟩:=Value.isInt_shape (k:=i) (v:=v) h;exact .inl ⟨i,t,rfl,e⟩
 | .inr x,v,h=>by
  obtain⟨t,e⟩:=Value.isStrOf_shape (x:=x) (v:=v) h;exact .inr ⟨x,t,rfl,e⟩
theorem a1L (i:Int)(t:Tok):a4A (.inl i) (.int i t)=true:=by simp[a4A,Value.isInt]
theorem a8E (x:Str)(t:Tok):a4A (.inr x) (.str x t)=true:=by simp[a4A,Value.isStrOf]
theorem b5F (a b:Int):decide ((Sum.inl a:Key)=Sum.inl b)=(a==b):=by
 by_cases e:a=b
 ·subst e;simp
 ·have h:¬(Sum.inl a:Key)=Sum.inl b:=fun q=>e (Sum.inl.inj q)
  rw[dF0 h];exact(beq_eq_false_iff_ne.mpr e).symm
theorem b6x (a b:Str):decide ((Sum.inr a:Key)=Sum.inr b)=decide (a=b):=by
 by_cases e:a=b
 ·subst e;simp
 ·have h:¬(Sum.inr a:Key)=Sum.inr b:=fun q=>e (Sum.inr.inj q)
  rw[dF0 h,dF0 e]
theorem b6z (a:Int)(b:Str):decide ((Sum.inl a:Key)=Sum.inr b)=false:=dF0 (fun q=>nomatch q)
theorem b6o (a:Str)(b:Int):decide ((Sum.inr a:Key)=Sum.inl b)=false:=dF0 (fun q=>nomatch q)
def a0i (prog:Program)(w:World):PySem.KeyKind prog w Key where
 is:=a4A
 hash:=keyH w
 inj:=fun v a b ha hb=>by
  rcases a0w ha with ⟨i,t,rfl,rfl⟩ |⟨x,t,rfl,rfl⟩
  ·rcases a0w hb with ⟨j,u,rfl,e⟩ |⟨y,u,rfl,e⟩
   ·injection e with e1 _;rw[e1]
   ·exact nomatch e
  ·rcases a0w hb with ⟨j,u,rfl,e⟩ |⟨y,u,rfl,e⟩
   ·exact nomatch e
   ·injection e with e1 _;rw[e1]
 byValue:=fun k v h=>by
  rcases a0w h with ⟨i,t,rfl,rfl⟩ |⟨x,t,rfl,rfl⟩<;>rfl
 pyHash:=fun hv h=>by
  rcases a0w hv with ⟨i,t,rfl,rfl⟩ |⟨x,t,rfl,rfl⟩
  ·exact wpAny_pyHash_int h
  ·exact wpAny_pyHash_str h
 eqBool:=fun hu hv h=>by
  rcases a0w hu with ⟨i,t,rfl,rfl⟩ |⟨x,t,rfl,rfl⟩
  ·rcases a0w hv with ⟨j,u,rfl,rfl⟩ |⟨y,u,rfl,rfl⟩
   ·rw[b5F] at h;exact wpAny_eqBool_int h
   ·rw[b6z] at h;exact SeqAt.EqAt.int_str i t y u _ _ _ _ h
  ·rcases a0w hv with ⟨j,u,rfl,rfl⟩ |⟨y,u,rfl,rfl⟩
   ·rw[b6o] at h;exact SeqAt.EqAt.str_int x t j u _ _ _ _ h
   ·rw[b6x] at h;exact wpAny_eqBool_str h
 «strs»:=fun k x t v h=>by
  rcases a0w h with ⟨i,u,rfl,e⟩ |⟨y,u,rfl,e⟩
  ·exact nomatch e
  ·injection e with e1 _
   subst e1;cases v<;>rfl
theorem a6B (prog:Program)(w:World)(i:Int)(t:Tok):(a0i prog w).is (.inl i) (.int i t)=true:=a1L i t
theorem a6X (prog:Program)(w:World)(x:Str)(t:Tok):(a0i prog w).is (.inr x) (.str x t)=true:=a8E x t
inductive V where
 |non |bl (b:Bool) |int (i:Int) |str (x:Str) |byt (b:Array UInt8) |flt (b:UInt64) |ref (a:Addr) |ty (n:String)
 deriving DecidableEq
def a0Y:V->Value->Prop
 | .non,u=>u=Value.none
 | .bl b,u=>u=Value.bool b
 | .int i,u=>∃t,u=Value.int i t
 | .str x,u=>∃t,u=Value.str x t
 | .byt b,u=>∃t,u=Value.bytes b t
 | .flt b,u=>∃t,u=Value.float b t
 | .ref a,u=>u=Value.ref a
 | .ty n,u=>u=Value.type n
abbrev a1b:List V->List Value->Prop:=Paired a0Y
theorem a1b.length {xs:List V}{us:List Value}(r:a1b xs us):xs.length=us.length:=Paired.length r
theorem a1b.get:∀{xs:List V} {us:List Value} {i:Nat} {x:V},a1b xs us->xs[i]? =some x->∃u,us[i]? =some u/\a0Y x u
 |_,_,_,_,.nil,e=>by simp at e
 |_,_,0,_,.cons r _,e=>by simp at e;subst e;exact⟨_,rfl,r⟩
 |_,_,i+1,x,.cons _ t,e=>by
  obtain⟨u,h1,h2⟩:=a1b.get (i:=i) (x:=x) t (by simpa using e);exact⟨u,by simpa using h1,h2⟩
theorem a1b.append:∀{xs ys:List V} {us ws:List Value},a1b xs us->a1b ys ws->a1b (xs++ys) (us++ws)
 |_,_,_,_,.nil,s=>s
 |_,_,_,_,.cons r t,s=>.cons r (a1b.append t s)
theorem a1b.take:∀{xs:List V} {us:List Value} (n:Nat),a1b xs us->a1b (xs.take n) (us.take n)
 |_,_,0,_=>.nil
 |_,_,_+1,.nil=>.nil
 |_,_,n+1,.cons r t=>.cons r (a1b.take n t)
theorem a1b.drop:∀{xs:List V} {us:List Value} (n:Nat),a1b xs us->a1b (xs.drop n) (us.drop n)
 |_,_,0,r=>r
 |_,_,_+1,.nil=>.nil
 |_,_,n+1,.cons _ t=>a1b.drop n t
def a3g:Option V->Option Value->Prop
 |some v,some u=>a0Y v u
 |none,none=>True
 |_,_=>False
def KV {κ:Type}:List (κ×V)->List (κ×Value)->Prop:=Paired fun(p:κ×V) (q:κ×Value)=>p.1=q.1/\a0Y p.2 q.2
def kV:Key->V
 | .inl i=>.int i
 | .inr x=>.str x
inductive HO where
 |lst (xs:List V)
 |tup (xs:List V)
 |dK (kvs:List (Key×V)) |dT (kvs:List (List Key×V))
 |set (S:Int->Bool) (n:Nat)
 |ins (C dx:Addr) (fs:List (Str×V))
 |own (x:Addr)
 |xd (fs:List (Str×V))
 |met (f x:Addr)
 |rng (lo hi:Int)
 |frz (o:Obj) (u:HO)
 |tbl (ps:Array Value)
 |ext (φ:Heap->Prop)
abbrev Hp:=Addr->Option HO
def upd (H:Hp)(a:Addr)(o:HO):Hp:=fun b=>if b=a then some o else H b
theorem a0c {H:Hp}{a:Addr}{o:HO}:upd H a o a=some o:=by unfold upd;rw[if_pos rfl]
theorem a0d {H:Hp}{a b:Addr}{o:HO}(h:b≠a):upd H a o b=H b:=by unfold upd;rw[if_neg h]
theorem b7Z {H:Hp}{a b:Addr}{o u:HO}(h:H a=some o)(h':H b=some u)(d:o≠u):a≠b:=by
 intro e;subst e;rw[h] at h';exact d (Option.some.inj h')
theorem a0j {H:Hp}{a b:Addr}{o:HO}(h:H a=some o)(h':H b=none):a≠b:=by
 intro e;subst e;rw[h] at h';cases h'
section
variable (P:Program)(w:World)
def a1c (H:Hp)(h:Heap)(a:Addr):HO->Prop
 | .lst xs=>xs.length<=sizeLine/\∃(its:List Value) (n:Nat),a1b xs its/\h.get? a=some { cls:=.type "list",data:=.seq its.toArray n }
 | .tup xs=>xs.length<=sizeLine/\∃its:List Value,a1b xs its/\IsTup h a its.toArray
 | .dK kvs=>kvs.length<=sizeLine/\(a==sysModules)=false/\∃vs,KV kvs vs/\h.DictOf (a0i P w) a vs
 | .dT kvs=>kvs.length<=sizeLine/\(a==sysModules)=false/\∃xs:List (List Key×Addr×Value),
   Paired (fun(p:List Key×V) (q:List Key×Addr×Value)=>p.1=q.1/\H q.2.1=some (.tup (p.1.map kV))/\a0Y p.2 q.2.2) kvs xs ∧
   ∃o es ep,h.get? a=some o/\o.ExactDict/\o.data=.dict es ep/\es.toList=xs.map (entryOfKey (tupleKind (a0i P w)))/\(xs.map (·.1)).Nodup
 | .set S n=>h.SetOf (intKind P w) a S n
 | .ins C dx fs=>H dx=some (.own a)/\fs.length<=1000/\dx≠a/\h.get? a=some (PySem.W.instObj C dx) ∧
   ∃mA,h.Ns1 dx mA/\(∀f,a3g (fs.lookup f) (mA f))/\PySem.Within mA (fs.map (·.1))
 | .own _=>∃o,h.get? a=some o
 | .xd fs=>∃mA,h.Ns1 a mA/\∀f,a3g (fs.lookup f) (mA f)
 | .rng lo hi=>∃t u v,h.get? a=some { cls:=.type "range",data:=.fields #[.int lo t,.int hi u,.int 1 v] }
 | .frz o u=>h.get? a=some o/\a1c H h a u
 | .tbl ps=>h.get? a=some { cls:=.none,data:=.fields ps }
 | .met f x=>h.get? a=some (PySem.W.methodObj (.ref f) (.ref x))
 | .ext φ=>φ h/\(∃o,h.get? a=some o)/\∀h1 h2:Heap,φ h1->(∀o,h1.get? a=some o->h2.get? a=some o)->φ h2
def HOk (H:Hp)(h:Heap):Prop:=∀a o,H a=some o->a1c P w H h a o
end
section
variable {P:Program}{w:World}{H H':Hp}{h h':Heap}{a:Addr}{o:HO}
theorem a1c.lt (x:a1c P w H h a o):a<h.objs.size:=by
 cases o with
 |lst xs=>obtain⟨_,_,_,_,e⟩:=x;exact hL0 e
 |tup xs=>obtain⟨_,_,_,p⟩:=x;exact p.lt
 |dK kvs=>obtain⟨_,_,_,_,o,_,_,e,_⟩:=x;exact hL0 e
 |dT kvs=>obtain⟨_,_,_,_,o,_,_,e,_⟩:=x;exact hL0 e
 |set S n=>obtain⟨o,_,_,_,e,_⟩:=x;exact hL0 e
 |ins C dx fs=>obtain⟨_,_,_,e,_⟩:=x;exact hL0 e
 |own y=>obtain⟨_,e⟩:=x;exact hL0 e
 |xd fs=>obtain⟨_,⟨_,_,_,e,_⟩,_⟩:=x;exact hL0 e
 |rng lo hi=>obtain⟨_,_,_,e⟩:=x;exact hL0 e
 |frz ob u=>obtain⟨e,_⟩:=x;exact hL0 e
 |tbl ps=>exact hL0 (show h.get? a=some _ from x)
 |met f y=>exact hL0 (show h.get? a=some _ from x)
 |ext φ=>obtain⟨_,⟨_,e⟩,_⟩:=x;exact hL0 e
theorem Paired.mapP {α β:Type}{F G:α->β->Prop}:∀{l₁:List α} {l₂:List β},Paired F l₁ l₂->(∀a b,F a b->G a b)->Paired G l₁ l₂
 |_,_,.nil,_=>.nil
 |_,_,.cons r t,f=>.cons (f _ _ r) (Paired.mapP t f)
theorem a1c.stay (x:a1c P w H h a o)(k:∀b u,(b=a\/H b=some (.own a))->h.get? b=some u->h'.get? b=some u)
  (ho:∀b,H b=some (.own a)->H' b=some (.own a)) (ht:∀b xs,H b=some (.tup xs)->H' b=some (.tup xs)):a1c P w H' h' a o:=by
 induction o with
 |lst xs=>obtain⟨z,its,n,r,e⟩:=x;exact⟨z,its,n,r,k _ _ (.inl rfl) e⟩
 |tup xs=>obtain⟨z,its,r,ob,e,c⟩:=x;exact⟨z,its,r,ob,k _ _ (.inl rfl) e,c⟩
 |dK kvs=>obtain⟨z,y,vs,r,ob,es,ep,e,c⟩:=x;exact⟨z,y,vs,r,ob,es,ep,k _ _ (.inl rfl) e,c⟩
 |dT kvs=>
  obtain⟨z,y,xs,r,ob,es,ep,e,c⟩:=x;exact⟨z,y,xs,Paired.mapP r fun p q z=>⟨z.1,ht _ _ z.2.1,z.2.2⟩,ob,es,ep,k _ _ (.inl rfl) e,c⟩
 |set S n=>obtain⟨ob,es,ep,t,e,c⟩:=x;exact⟨ob,es,ep,t,k _ _ (.inl rfl) e,c⟩
 |ins C dx fs=>
  obtain⟨d,z,ne,e,mA,⟨od,es,ep,e2,c⟩,r⟩:=x;exact⟨ho _ d,z,ne,k _ _ (.inl rfl) e,mA,⟨od,es,ep,k _ _ (.inr d) e2,c⟩,r⟩
 |own y=>obtain⟨ob,e⟩:=x;exact⟨ob,k _ _ (.inl rfl) e⟩
 |xd fs=>obtain⟨mA,⟨od,es,ep,e,c⟩,r⟩:=x;exact⟨mA,⟨od,es,ep,k _ _ (.inl rfl) e,c⟩,r⟩
 |rng lo hi=>obtain⟨t,u,v,e⟩:=x;exact⟨t,u,v,k _ _ (.inl rfl) e⟩
 |frz ob u ih=>obtain⟨e,q⟩:=x;exact⟨k _ _ (.inl rfl) e,ih q⟩
 |tbl ps=>
  have e:h.get? a=some { cls:=.none,data:=.fields ps }:=x;show h'.get? a=some { cls:=.none,data:=.fields ps };exact k a _ (.inl rfl) e
 |met f y=>
  have e:h.get? a=some (PySem.W.methodObj (.ref f) (.ref y)):=x;show h'.get? a=some (PySem.W.methodObj (.ref f) (.ref y));exact k a _ (.inl rfl) e
 |ext φ=>obtain⟨p,⟨o,e⟩,st⟩:=x;exact⟨st _ _ p fun o q=>k _ _ (.inl rfl) q,⟨o,k _ _ (.inl rfl) e⟩,st⟩
theorem HOk.lt (x:HOk P w H h)(e:H a=some o):a<h.objs.size:=(x a o e).lt
theorem HOk.fresh (x:HOk P w H h)(e:h.objs.size<=a):H a=none:=by
 cases q:H a with
 |none=>rfl
 |some u=>exact absurd (Nat.lt_of_lt_of_le (x.lt q) e) (Nat.lt_irrefl _)
theorem HOk.kept (x:HOk P w H h)(k:∀b u,h.get? b=some u->h'.get? b=some u):HOk P w H h':=fun a o e=>
 (x a o e).stay (fun b u _ q=>k b u q) (fun _ q=>q) fun _ _ q=>q
theorem HOk.laid (x:HOk P w H h)(k:∀b u,h.get? b=some u->h'.get? b=some u)(hp:h.objs.size<=a)(new:a1c P w (upd H a o) h' a o):HOk P w (upd H a o) h':=fun b u e=>by
 have hn:=x.fresh hp
 by_cases hb:b=a
 ·subst hb;rw[a0c] at e;cases e;exact new
 ·rw[a0d hb] at e
  exact(x b u e).stay (fun c v _ q=>k c v q) (fun c q=>by rw[a0d (a0j q hn)];exact q) fun c xs q=>by rw[a0d (a0j q hn)];exact q
end
def Rd (H:Hp)(a:Addr)(u:HO):Prop:=H a=some u\/∃o,H a=some (.frz o u)
theorem Rd.ok {P:Program}{w:World}{H:Hp}{h:Heap}{a:Addr}{u:HO}(r:Rd H a u)(x:HOk P w H h):a1c P w H h a u:=by
 rcases r with r |⟨o,r⟩
 ·exact x a u r
 ·obtain⟨_,q⟩:=x a _ r
  exact q
def Mut:Option HO->Prop
 |some (.lst _)=>True
 |some (.dK _)=>True
 |some (.dT _)=>True
 |some (.set _ _)=>True
 |some (.ins _ _ _)=>True
 |some (.ext _)=>True
 |_=>False
section
variable {P:Program}{w:World}{H:Hp}{h h':Heap}{x e:Addr}{o':HO}
theorem HOk.write (ok:HOk P w H h)(mu:Mut (H x))(he:e=x\/H e=some (.own x))(k:∀b u,b≠e->h.get? b=some u->h'.get? b=some u)(heo:∃u,h'.get? e=some u)
  (new:a1c P w (upd H x o') h' x o'):HOk P w (upd H x o') h':=fun b u q=>by
 have nown:∀c y,H c=some (.own y)->c≠x:=fun c y r z=>by subst z;rw[r] at mu;exact mu
 have ntup:∀c xs,H c=some (.tup xs)->c≠x:=fun c xs r z=>by subst z;rw[r] at mu;exact mu
 by_cases hb:b=x
 ·subst hb;rw[a0c] at q;cases q;exact new
 ·rw[a0d hb] at q
  by_cases hbe:b=e
  ·have q':H b=some (.own x):=by
    rcases he with z |z
    ·exact absurd (hbe.trans z) hb
    ·rw[hbe];exact z
   rw[q] at q';cases q';obtain⟨v,hv⟩:=heo;exact⟨v,by rw[hbe];exact hv⟩
  ·refine(ok b u q).stay (fun c v hc r=>k c v ?_ r) (fun c r=>by rw[a0d (nown c b r)];exact r) fun c xs r=>by rw[a0d (ntup c xs r)];exact r
   rcases hc with rfl |hc
   ·exact hbe
   ·rintro rfl
    rcases he with z |z
    ·exact nown c b hc z
    ·rw[hc] at z;cases z;exact hb rfl
end
structure Un (fs ex:List Addr) (H H':Hp) (h h':Heap):Prop where
 keep:∀b o,h.get? b=some o->H b=none->b∉fs->b∉ex->h'.get? b=some o
 slot:∀b o,h.get? b=some o->H b=none->b∈fs->b∉ex->∃sl,h'.get? b=some { o with slots:=sl }
 free:∀b o,h.get? b=some o->H b=none->b∉ex->H' b=none
 there:∀b o,h.get? b=some o->b∉ex->∃o',h'.get? b=some o'
 tups:∀b xs,H b=some (.tup xs)->H' b=some (.tup xs)
 frzs:∀b o u,H b=some (.frz o u)->H' b=some (.frz o u)
 tbls:∀b ps,H b=some (.tbl ps)->∃more,H' b=some (.tbl (ps++more))
section
variable {fs fs' ex ex':List Addr}{H H1 H2:Hp}{h h1 h2 h':Heap}{a x e:Addr}{o:HO}
theorem Un.any (u:Un fs ex H H1 h h1){b:Addr}{ob:Obj}(q:h.get? b=some ob)(n:H b=none)(hx:b∉ex):∃sl,h1.get? b=some { ob with slots:=sl }:=by
 by_cases hb:b∈fs
 ·exact u.slot b ob q n hb hx
 ·exact⟨ob.slots,u.keep b ob q n hb hx⟩
theorem Un.kept (k:∀b u,h.get? b=some u->h'.get? b=some u):Un fs ex H H h h':=
 ⟨fun b ob q _ _ _=>k b ob q,fun b ob q _ _ _=>⟨ob.slots,k b ob q⟩,fun _ _ _ n _=>n,fun b ob q _=>⟨ob,k b ob q⟩,fun _ _ q=>q,fun _ _ _ q=>q,fun _ ps q=>⟨#[],by rw[q];simp⟩⟩
theorem Un.refl:Un fs ex H H h h:=Un.kept fun _ _ q=>q
theorem Un.laid (k:∀b u,h.get? b=some u->h'.get? b=some u)(hp:h.objs.size<=a)(hn:H a=none):Un fs ex H (upd H a o) h h' where
 keep:=fun b u q _ _ _=>k b u q
 slot:=fun b u q _ _ _=>⟨u.slots,k b u q⟩
 free:=fun b u q n _=>by rw[a0d (nL0 (Nat.lt_of_lt_of_le (hL0 q) hp))];exact n
 there:=fun b u q _=>⟨u,k b u q⟩
 tups:=fun b xs q=>by rw[a0d (a0j q hn)];exact q
 frzs:=fun b u xs q=>by rw[a0d (a0j q hn)];exact q
 tbls:=fun b ps q=>⟨#[],by rw[a0d (a0j q hn),q];simp⟩
theorem Un.write (mu:Mut (H x))(he:e=x\/H e=some (.own x))(k:∀b u,b≠e->h.get? b=some u->h'.get? b=some u)(heo:∃u,h'.get? e=some u):Un fs ex H (upd H x o) h h':=by
 have hx:∀b,H b=none->b≠x:=fun b n z=>by subst z;rw[n] at mu;exact mu
 have hb:∀b,H b=none->b≠e:=fun b n z=>by
  subst z;rcases he with r |r
  ·exact hx b n r
  ·rw[n] at r;cases r
 have hm:∀b u,H b=some u->¬Mut (some u)->b≠x:=fun b u q nm z=>by subst z;rw[q] at mu;exact nm mu
 refine⟨fun b u q n _ _=>k b u (hb b n) q,fun b u q n _ _=>⟨u.slots,k b u (hb b n) q⟩,fun b u q n _=>by rw[a0d (hx b n)];exact n,fun b u q _=>?_,
  fun b xs q=>by rw[a0d (hm b _ q fun z=>z)];exact q,fun b u xs q=>by rw[a0d (hm b _ q fun z=>z)];exact q,fun b ps q=>⟨#[],by rw[a0d (hm b _ q fun z=>z),q];simp⟩⟩
 by_cases hbe:b=e
 ·subst hbe;exact heo
 ·exact⟨u,k b u hbe q⟩
end
def trk (h:Heap)(H:Hp):List Addr:=(List.range h.objs.size).filter fun a=>(H a).isSome
def b1s (h:Heap)(H:Hp):Heap:=PySem.W.hideAll h (trk h H)
theorem a9z (h:Heap)(H:Hp):(b1s h H).objs.size=h.objs.size:=PySem.W.hideAll_size _ _
theorem b1I {h:Heap}{H:Hp}{b:Addr}{o:Obj}(e:h.get? b=some o)(n:H b=none):(b1s h H).get? b=some o:=
 PySem.W.hideAll_get _ e fun hm=>by
  have q:(H b).isSome=true:=(mF0.mp hm).2;rw[n] at q;simp at q
theorem b3P {h:Heap}{H:Hp}{b:Addr}{o:Obj}(e:(b1s h H).get? b=some o):h.get? b=some o/\H b=none:=by
 have e':h.get? b=some o:=PySem.W.of_hideAll (trk h H) e;refine⟨e',?_⟩;cases q:H b with
 |none=>rfl
 |some x=>
  have hm:b∈trk h H:=mF0.mpr ⟨List.mem_range.mpr (hL0 e'),by simp[q]⟩;have z:(b1s h H).get? b=none:=PySem.W.hideAll_none (trk h H) hm;rw[z] at e;cases e
structure Mod (K:Fg0) (mg:Str->Option Value) (base:Heap):Prop where
 kin:K.In base
 glob:base.Ns mainGlobals mg
 blt:∃mb,base.Ns builtinsNs mb/\∀x:Str,x≠"__name__"->mb x=bootBuiltins x
 nolimit:base.NoLimit
structure Cx where
 prog:Program
 w:World
 K:Fg0
 mg:Str->Option Value
 base:Heap
 A:Around
 N:List Str
 s₀:Shared
 H₀:Hp
 env:Env
 outer:List Env
 stack:List Env
 ex:List Addr
 fn:Str->Bool
 calm:Bool
 pn:List (Addr×Obj)
 xe:Vs0
def frs (l:List Env):List Addr:=l.filterMap (·.frame)
abbrev Cx.fs (X:Cx):List Addr:=frs X.outer
def Vis (sc:Scope)(x:Str):Prop:=sc.names.lookup x=some .local\/sc.names.lookup x=some .cell\/sc.names.lookup x=some .free
def Loc (sc:Scope)(x:Str):Prop:=sc.names.lookup x=some .local\/sc.names.lookup x=some .cell
def b8p (env:Env)(h:Heap)(m:Str->Option Value)(x:Str)(u:Value):Prop:=
 (env.kindOf x=some .local/\m x=some u)\/((env.kindOf x=some .cell\/env.kindOf x=some .free)/\∃c,env.cells.lookup x=some c/\h.IsCell c (some u))
structure Cx.Ok (X:Cx):Prop where
 mod:Mod X.K X.mg X.base
 kind:X.env.scope.kind=.function
 glob:X.env.globals=mainGlobals
 blt:X.env.builtins=builtinsNs
 above:X.s₀.heap.objs.size<=X.env.locals
 inj:∀x y c,X.env.cells.lookup x=some c->X.env.cells.lookup y=some c->x=y
 has:∀x,(X.env.kindOf x=some .cell\/X.env.kindOf x=some .free)->∃c,X.env.cells.lookup x=some c
 cab:∀x c,X.fn x=true->X.env.cells.lookup x=some c->X.s₀.heap.objs.size<=c
 hd:X.calm=true->X.A.handled=none
 frames:X.A.frames=some X.stack
 stk:X.stack=X.outer\/(X.stack=X.env::X.outer/\X.env.frame=some X.env.locals)
 exf:∀b∈X.ex,b≠X.env.locals/\∀x c,X.env.cells.lookup x=some c->c≠b
 bs:∀b o,X.base.get? b=some o->X.s₀.heap.get? b=some o/\X.H₀ b=none
 bsz:X.base.objs.size<=X.s₀.heap.objs.size
 noex:∀b o,X.base.get? b=some o->b∉X.ex
 exfs:∀b∈X.ex,b∉X.fs
 funs:X.s₀.heap.FunFrames X.base X.outer
 frf:∀b∈X.fs,X.H₀ b=none
structure Inv (X:Cx) (Z:List (Addr×Obj)) (σ:List (Option V)) (H:Hp) (s:Shared):Prop where
 ok:X.Ok
 os:s.os=X.s₀.os
 bare:AllBare s.gens
 base:Un X.fs X.ex X.H₀ H X.s₀.heap s.heap
 loc:∃m,s.heap.Ns X.env.locals m/\∀(i:Nat) (x:Str) (v:V),X.N[i]? =some x->σ[i]? =some (some v)->Vis X.env.scope x->∃u,a0Y v u/\b8p X.env s.heap m x u
 cell:∀x c,X.env.cells.lookup x=some c->∃v,s.heap.IsCell c v
 free:H X.env.locals=none
 freeC:∀x c,X.env.cells.lookup x=some c->H c=none
 pin:∀p∈X.pn++Z,s.heap.get? p.1=some p.2/\H p.1=none/\p.1≠X.env.locals/\p.1∉X.fs/\∀v,p.2.data≠.cell v
 hok:HOk X.prog X.w H s.heap
 len:σ.length=X.N.length
section
variable {X:Cx}{Z:List (Addr×Obj)}{σ:List (Option V)}{H H':Hp}{s:Shared}{h':Heap}
theorem Cx.Ok.nofr (ok:X.Ok){b:Addr}{o:Obj}(e:X.base.get? b=some o):b∉X.fs:=fun hb=>by
 have:=(ok.funs.mem hb).1
 rw[e] at this;cases this
theorem Inv.bs (I:Inv X Z σ H s):∀b o,X.base.get? b=some o->s.heap.get? b=some o/\H b=none:=fun b o e=>
 ⟨I.base.keep b o (I.ok.bs b o e).1 (I.ok.bs b o e).2 (I.ok.nofr e) (I.ok.noex b o e),I.base.free b o (I.ok.bs b o e).1 (I.ok.bs b o e).2 (I.ok.noex b o e)⟩
theorem Inv.bk (I:Inv X Z σ H s):∀b o,X.base.get? b=some o->s.heap.get? b=some o:=fun b o e=>(I.bs b o e).1
theorem Inv.mod (I:Inv X Z σ H s):Mod X.K X.mg X.base:=I.ok.mod
theorem Inv.kIn (I:Inv X Z σ H s):X.K.In s.heap:=I.ok.mod.kin.keeps I.bk
theorem Inv.lt (I:Inv X Z σ H s):X.env.locals<s.heap.objs.size:=let ⟨_,hn,_⟩:=I.loc;hn.lt
theorem Inv.sz (I:Inv X Z σ H s):X.s₀.heap.objs.size<=s.heap.objs.size:=Nat.le_trans I.ok.above (Nat.le_of_lt I.lt)
theorem Inv.nofs (I:Inv X Z σ H s){a:Addr}(h:s.heap.objs.size<=a):a∉X.fs:=fun hb=>by
 obtain⟨_,o,ho,_⟩:=I.ok.funs.mem hb;exact absurd (Nat.lt_of_lt_of_le (hL0 ho) (Nat.le_trans I.sz h)) (Nat.lt_irrefl _)
theorem Inv.cne (I:Inv X Z σ H s):∀x c,X.env.cells.lookup x=some c->c≠X.env.locals:=fun x c e z=>by
 obtain⟨v,o,ho,hd⟩:=I.cell x c e;obtain⟨m,⟨o',es,ep,ho',hd',_⟩,_⟩:=I.loc;rw[z,ho'] at ho;cases ho;rw[hd'] at hd;cases hd
theorem Inv.funs (I:Inv X Z σ H s):s.heap.FunFrames X.base X.outer:=by
 have all:∀(l:List Env),(∀b∈frs l,b∈X.fs)->X.s₀.heap.FunFrames X.base l->s.heap.FunFrames X.base l:=by
  intro l
  induction l with
  |nil=>intro _ _;trivial
  |cons env r ih=>
   intro hs hl;obtain⟨hk,⟨L,o,hf,hn,ho,hd⟩,hr⟩:=hl;have hL:L∈X.fs:=hs L (by unfold frs;rw[List.filterMap_cons,hf];exact List.mem_cons_self);obtain⟨sl,e⟩:=I.base.slot L o ho (I.ok.frf L hL) hL fun z=>I.ok.exfs L z hL;exact⟨hk,⟨L,_,hf,hn,e,hd⟩,ih (fun b hb=>hs b (by unfold frs;rw[List.filterMap_cons,hf];exact mL0 _ hb)) hr⟩
 exact all X.outer (fun _ hb=>hb) I.ok.funs
theorem Inv.stack (I:Inv X Z σ H s):s.heap.FunFrames X.base X.stack:=by
 rcases I.ok.stk with e |⟨e,hf⟩
 ·rw[e];exact I.funs
 ·rw[e]
  obtain⟨m,hn,_⟩:=I.loc;refine .cons (by rw[I.ok.kind];decide) hf hn ?_ I.funs;exact Heap.get?_none_of_le (Nat.le_trans I.ok.bsz I.ok.above)
theorem Inv.stkSub (I:Inv X Z σ H s):∀b∈frs X.stack,b∈X.env.locals::X.fs:=fun b hb=>by
 rcases I.ok.stk with e |⟨e,hf⟩
 ·rw[e] at hb;exact mL0 _ hb
 ·rw[e] at hb
  unfold frs at hb;rw[List.filterMap_cons,hf] at hb;exact hb
theorem Inv.stkFree (I:Inv X Z σ H s):∀b∈frs X.stack,H b=none:=fun b hb=>by
 rcases mK0.mp (I.stkSub b hb) with e |hb
 ·rw[e];exact I.free
 ·obtain⟨_,o,ho,_⟩:=I.ok.funs.mem hb
  exact I.base.free b o ho (I.ok.frf b hb) fun z=>I.ok.exfs b z hb
theorem Inv.step {g':Array GenState}{t':Nat}{d':Drawn}{ch:List Addr}(I:Inv X Z σ H s)
  (hch:∀b∈ch,(b∈X.ex\/X.s₀.heap.objs.size<=b)/\b≠X.env.locals/\(∀x c,X.env.cells.lookup x=some c->c≠b)/\∀p∈X.pn++Z,p.1≠b)
  (keep:∀b o,b≠X.env.locals->b∉X.fs->b∉ch->s.heap.get? b=some o->H b=none->h'.get? b=some o)
  (slot:∀b o,b≠X.env.locals->b∈X.fs->b∉ch->s.heap.get? b=some o->H b=none->∃sl,h'.get? b=some { o with slots:=sl }) (free:∀b o,b∉ch->s.heap.get? b=some o->H b=none->H' b=none)
  (there:∀b o,b∉ch->s.heap.get? b=some o->∃o',h'.get? b=some o')
  (tups:∀b xs,H b=some (.tup xs)->H' b=some (.tup xs)) (frzs:∀b o u,H b=some (.frz o u)->H' b=some (.frz o u)) (tbls:∀b ps,H b=some (.tbl ps)->∃more,H' b=some (.tbl (ps++more)))
  (ns:∀m,s.heap.Ns X.env.locals m->h'.Ns X.env.locals m) (hok:HOk X.prog X.w H' h') (hg:AllBare g') :
  Inv X Z σ H' { s with heap:=h',gens:=g',drawn:=d',toks:=t' }:=by
 have neL:∀b o,X.s₀.heap.get? b=some o->b≠X.env.locals:=fun b o e=>nL0 (Nat.lt_of_lt_of_le (hL0 e) I.ok.above);have neC:∀b o,X.s₀.heap.get? b=some o->b∉X.ex->b∉ch:=fun b o e hx hb=>by
  rcases (hch b hb).1 with z |z
  ·exact hx z
  ·exact absurd (Nat.lt_of_lt_of_le (hL0 e) z) (Nat.lt_irrefl _)
 have cellK:∀x c,X.env.cells.lookup x=some c->∀v,s.heap.IsCell c v->h'.IsCell c v:=fun x c e v ⟨o,ho,hd⟩=>by
  have nch:c∉ch:=fun z=>(hch c z).2.2.1 x c e rfl
  by_cases hc:c∈X.fs
  ·obtain⟨sl,q⟩:=slot c o (I.cne x c e) hc nch ho (I.freeC x c e)
   exact⟨_,q,hd⟩
  ·exact⟨o,keep c o (I.cne x c e) hc nch ho (I.freeC x c e),hd⟩
 refine⟨I.ok,I.os,hg,⟨fun b o e n hb hx=>?_,fun b o e n hb hx=>?_,fun b o e n hx=>?_,fun b o e hx=>?_,fun b xs e=>tups b xs (I.base.tups b xs e),fun b o xs e=>frzs b o xs (I.base.frzs b o xs e),fun b ps e=>?_⟩,?_,fun x c e=>?_,?_,fun x c e=>?_,fun p hp=>?_,hok,I.len⟩
 ·exact keep b o (neL b o e) hb (neC b o e hx) (I.base.keep b o e n hb hx) (I.base.free b o e n hx)
 ·obtain⟨sl,e1⟩:=I.base.slot b o e n hb hx
  obtain⟨sl',e2⟩:=slot b _ (neL b o e) hb (neC b o e hx) e1 (I.base.free b o e n hx);exact⟨sl',e2⟩
 ·obtain⟨o',e1⟩:=I.base.there b o e hx
  exact free b o' (neC b o e hx) e1 (I.base.free b o e n hx)
 ·obtain⟨o',e1⟩:=I.base.there b o e hx
  exact there b o' (neC b o e hx) e1
 ·obtain⟨m1,e1⟩:=I.base.tbls b ps e
  obtain⟨m2,e2⟩:=tbls b _ e1;exact⟨m1++m2,by rw[e2,Array.append_assoc]⟩
 ·obtain⟨m,hn,hl⟩:=I.loc
  refine⟨m,ns m hn,fun i x v e1 e2 e3=>?_⟩;obtain⟨u,r,l⟩:=hl i x v e1 e2 e3;refine⟨u,r,?_⟩;rcases l with l |⟨k,c,e,z⟩
  ·exact .inl l
  ·exact .inr ⟨k,c,e,cellK x c e _ z⟩
 ·obtain⟨v,z⟩:=I.cell x c e
  exact⟨v,cellK x c e v z⟩
 ·obtain⟨m,⟨o,_,_,ho,_⟩,_⟩:=I.loc
  exact free _ o (fun z=>(hch _ z).2.1 rfl) ho I.free
 ·obtain⟨v,o,ho,hd⟩:=I.cell x c e
  exact free c o (fun z=>(hch c z).2.2.1 x c e rfl) ho (I.freeC x c e)
 ·obtain⟨e,n,ne,nf,d⟩:=I.pin p hp
  have nch:p.1∉ch:=fun z=>(hch p.1 z).2.2.2 p hp rfl;exact⟨keep p.1 p.2 ne nf nch e n,free p.1 p.2 nch e n,ne,nf,d⟩
theorem Inv.un {t':Nat}(I:Inv X Z σ H s)(u:Un X.fs [] H H' s.heap h')(hok:HOk X.prog X.w H' h'):Inv X Z σ H' { s with heap:=h',toks:=t' }:=by
 obtain⟨m,⟨o,es,ep,ho,r⟩,_⟩:=id I.loc;obtain⟨sl,hL⟩:=u.any ho I.free (by simp);exact I.step (g':=s.gens) (d':=s.drawn) (ch:=[]) (fun _ z=>nomatch z) (fun b o _ hb _ e n=>u.keep b o e n hb (by simp)) (fun b o _ hb _ e n=>u.slot b o e n hb (by simp)) (fun b o _ e n=>u.free b o e n (by simp)) (fun b o _ e=>u.there b o e (by simp)) u.tups u.frzs u.tbls (fun m' hm=>by
  obtain⟨o',es',ep',ho',r'⟩:=hm;rw[ho] at ho';cases ho';exact⟨_,es',ep',hL,r'⟩) hok I.bare
theorem Inv.call {g':Array GenState}{t':Nat}{d':Drawn}{ch:List Addr}(I:Inv X Z σ H s)(u:Un (frs X.stack) ch H H' s.heap h')(hok:HOk X.prog X.w H' h')(hg:AllBare g')
  (hch:∀b∈ch,(b∈X.ex\/X.s₀.heap.objs.size<=b)/\b≠X.env.locals/\(∀x c,X.env.cells.lookup x=some c->c≠b)/\∀p∈X.pn++Z,p.1≠b) :
  Inv X Z σ H' { s with heap:=h',gens:=g',drawn:=d',toks:=t' }:=by
 obtain⟨m,⟨o,es,ep,ho,r⟩,_⟩:=id I.loc;obtain⟨sl,hL⟩:=u.any ho I.free fun z=>(hch _ z).2.1 rfl;exact I.step (ch:=ch) hch (fun b o hL hb hc e n=>u.keep b o e n (fun z=>(mK0.mp (I.stkSub b z)).elim hL hb) hc) (fun b o _ _ hc e n=>u.any e n hc) (fun b o hc e n=>u.free b o e n hc) (fun b o hc e=>u.there b o e hc) u.tups u.frzs u.tbls (fun m' hm=>by
  obtain⟨o',es',ep',ho',r'⟩:=hm;rw[ho] at ho';cases ho';exact⟨_,es',ep',hL,r'⟩) hok hg
theorem Inv.turned {t':Nat}{it:Addr}(I:Inv X Z σ H s)(k:∀b o,b≠it->s.heap.get? b=some o->h'.get? b=some o)(hn:H it=none)(hL:it≠X.env.locals)
  (h1:it∈X.ex\/X.s₀.heap.objs.size<=it) (h2:∀x c,X.env.cells.lookup x=some c->c≠it) (h3:∀p∈X.pn++Z,p.1≠it):Inv X Z σ H { s with heap:=h',toks:=t' }:=by
 have nit:∀b u,H b=some u->b≠it:=fun b u e z=>by rw[z,hn] at e;cases e
 refine I.step (g':=s.gens) (d':=s.drawn) (ch:=[it]) (fun b hb=>?_) (fun b o _ _ hc e _=>k b o (fun z=>hc (by simp[z])) e) (fun b o _ _ hc e _=>⟨o.slots,k b o (fun z=>hc (by simp[z])) e⟩) (fun _ _ _ _ n=>n)
  (fun b o hc e=>⟨o,k b o (fun z=>hc (by simp[z])) e⟩) (fun _ _ e=>e) (fun _ _ _ e=>e) (fun b ps e=>⟨#[],by rw[e];simp⟩) (fun m hm=>?_) (fun b u e=>?_) I.bare
 ·have e:b=it:=by simpa using hb
  subst e;exact⟨h1,hL,h2,h3⟩
 ·obtain⟨o,es,ep,ho,r⟩:=hm
  exact⟨o,es,ep,k _ o (Ne.symm hL) ho,r⟩
 ·refine(I.hok b u e).stay (fun c v hc q=>k c v ?_ q) (fun _ q=>q) fun _ _ q=>q
  rcases hc with z |z
  ·rw[z];exact nit b u e
  ·exact nit c _ z
theorem Inv.tok (I:Inv X Z σ H s)(t:Nat):Inv X Z σ H { s with toks:=t }:=I.un (h':=s.heap) (t':=t) Un.refl I.hok
theorem Inv.kept {t':Nat}(I:Inv X Z σ H s)(k:∀b u,s.heap.get? b=some u->h'.get? b=some u):Inv X Z σ H { s with heap:=h',toks:=t' }:=I.un (Un.kept k) (I.hok.kept k)
theorem Inv.laid {a:Addr}{o:HO}{t':Nat}(I:Inv X Z σ H s)(k:∀b u,s.heap.get? b=some u->h'.get? b=some u)(hp:s.heap.objs.size<=a)(new:a1c X.prog X.w (upd H a o) h' a o) :
  Inv X Z σ (upd H a o) { s with heap:=h',toks:=t' }:=I.un (Un.laid k hp (I.hok.fresh hp)) (I.hok.laid k hp new)
theorem Inv.write {x e:Addr}{o:HO}{t':Nat}(I:Inv X Z σ H s)(mu:Mut (H x))(he:e=x\/H e=some (.own x))(k:∀b u,b≠e->s.heap.get? b=some u->h'.get? b=some u)(heo:∃u,h'.get? e=some u)
  (new:a1c X.prog X.w (upd H x o) h' x o):Inv X Z σ (upd H x o) { s with heap:=h',toks:=t' }:=I.un (Un.write mu he k heo) (I.hok.write mu he k heo new)
theorem Inv.pins_of {pins':List (Addr×Obj)}(I:Inv X Z σ H s)(h:∀p∈pins',s.heap.get? p.1=some p.2/\H p.1=none/\p.1≠X.env.locals/\p.1∉X.fs/\∀v,p.2.data≠.cell v):Inv X pins' σ H s:=
 ⟨I.ok,I.os,I.bare,I.base,I.loc,I.cell,I.free,I.freeC,fun p hp=>(mB0.mp hp).elim (fun z=>I.pin p (List.mem_append_left _ z)) (h p),I.hok,I.len⟩
theorem a4H {N:List Str}(hN:N.Nodup){i j:Nat}{x:Str}(a:N[i]? =some x)(b:N[j]? =some x):i=j:=by
 obtain⟨h1,e1⟩:=gS0.mp a;obtain⟨h2,e2⟩:=gS0.mp b;exact(List.getElem_inj hN).mp (e1.trans e2.symm)
theorem a5Q {M:Model}{A:Around}{E:Vs0}{i:Nat}{x:Str}{v:V}{u:Value}{Q:Unit->Shared->Prop}(I:Inv X Z σ H s)(hN:X.N.Nodup)(hi:X.N[i]? =some x)(hx:Loc X.env.scope x)(r:a0Y v u)
  (h:∀s',Inv X Z (σ.set i (some v)) H s'->(∃a,Heap.SameBut a s.heap s'.heap/\(a=X.env.locals\/X.env.cells.lookup x=some a))->Q () s') (hf:X.fn x=true\/X.env.scope.names.lookup x=some .local:=by first |exact .inl rfl |exact .inr rfl |assumption):wpAny M A (storeName X.env x u) Q E s:=by
 obtain⟨m,hn,hl⟩:=id I.loc;have hcls:(X.env.scope.kind==.class || (X.env.scope.kind==.module&&X.env.locals != X.env.globals))=false:=by rw[I.ok.kind];rfl
 have hiσ:i<σ.length:=by rw[I.len];exact(gS0.mp hi).1
 have cne:=I.cne;have tracked:∀{a:Addr} {h':Heap},(∃o,s.heap.get? a=some o/\H a=none)->Heap.SameBut a s.heap h'->HOk X.prog X.w H h':=fun {a h'} ha hs b ob e=>by
  obtain⟨_,_,hfree⟩:=ha;refine(I.hok b ob e).stay (fun c w' hc q=>(hs.2 c ?_).trans q) (fun _ q=>q) fun _ _ q=>q;rintro rfl;rcases hc with rfl |hc
  ·rw[hfree] at e;cases e
  ·rw[hfree] at hc;cases hc
 rcases hx with hk |hk
 ·refine wpAny_storeName_local hk hn (fun h' hn' hs=>?_) hcls
  obtain⟨oL,_,_,hoL,_⟩:=id hn;refine h _ ⟨I.ok,I.os,I.bare,⟨fun b o e n hb hx=>?_,fun b o e n hb hx=>?_,I.base.free,fun b o e hx=>?_,I.base.tups,I.base.frzs,I.base.tbls⟩,⟨_,hn',fun j y v' e1 e2 e3=>?_⟩,fun y c e=>?_,I.free,I.freeC,fun p hp=>?_,tracked ⟨oL,hoL,I.free⟩ hs,by simpa using I.len⟩ ⟨_,hs,.inl rfl⟩
  ·exact(hs.2 b (nL0 (Nat.lt_of_lt_of_le (hL0 e) I.ok.above))).trans (I.base.keep b o e n hb hx)
  ·obtain⟨sl,e1⟩:=I.base.slot b o e n hb hx
   exact⟨sl,(hs.2 b (nL0 (Nat.lt_of_lt_of_le (hL0 e) I.ok.above))).trans e1⟩
  ·obtain⟨o',e1⟩:=I.base.there b o e hx
   exact⟨o',(hs.2 b (nL0 (Nat.lt_of_lt_of_le (hL0 e) I.ok.above))).trans e1⟩
  ·by_cases hj:j=i
   ·subst hj
    rw[hi] at e1;cases e1;rw[List.getElem?_set_self hiσ] at e2;cases e2;exact⟨u,r,.inl ⟨hk,by simp⟩⟩
   ·rw[List.getElem?_set_ne (Ne.symm hj)] at e2
    obtain⟨u',r',q⟩:=hl j y v' e1 e2 e3;refine⟨u',r',?_⟩;rcases q with ⟨k,e⟩ |⟨k,c,e,z⟩
    ·refine .inl ⟨k,?_⟩
     have:y≠x:=fun e=>hj (a4H hN e1 (e▸hi))
     simp[this,e]
    ·exact .inr ⟨k,c,e,z.sameBut hs (cne y c e)⟩
  ·obtain⟨w',z⟩:=I.cell y c e
   exact⟨w',z.sameBut hs (cne y c e)⟩
  ·obtain⟨e,n,ne,nf,d⟩:=I.pin p hp
   exact⟨(hs.2 p.1 ne).trans e,n,ne,nf,d⟩
 ·have hfn:X.fn x=true:=by
   rcases hf with z |z
   ·exact z
   ·rw[z] at hk;cases hk
  obtain⟨c,hc⟩:=I.ok.has x (.inl hk);obtain⟨w',z⟩:=I.cell x c hc;refine wpAny_storeName_cell I.ok.kind hk hc z (fun h' hc' hs=>?_);obtain⟨oc,hoc,hocd⟩:=id z;refine h { s with heap:=h' } ⟨I.ok,I.os,I.bare,⟨fun b o e n hb hx=>?_,fun b o e n hb hx=>?_,I.base.free,fun b o e hx=>?_,I.base.tups,I.base.frzs,I.base.tbls⟩,⟨m,hn.sameBut hs (Ne.symm (cne x c hc)),fun j y v' e1 e2 e3=>?_⟩,fun y c' e=>?_,I.free,I.freeC,fun p hp=>?_,tracked ⟨oc,hoc,I.freeC x c hc⟩ hs,by simpa using I.len⟩ ⟨c,hs,.inr hc⟩
  ·exact(hs.2 b (nL0 (Nat.lt_of_lt_of_le (hL0 e) (I.ok.cab x c hfn hc)))).trans (I.base.keep b o e n hb hx)
  ·obtain⟨sl,e1⟩:=I.base.slot b o e n hb hx
   exact⟨sl,(hs.2 b (nL0 (Nat.lt_of_lt_of_le (hL0 e) (I.ok.cab x c hfn hc)))).trans e1⟩
  ·obtain⟨o',e1⟩:=I.base.there b o e hx
   exact⟨o',(hs.2 b (nL0 (Nat.lt_of_lt_of_le (hL0 e) (I.ok.cab x c hfn hc)))).trans e1⟩
  ·by_cases hj:j=i
   ·subst hj
    rw[hi] at e1;cases e1;rw[List.getElem?_set_self hiσ] at e2;cases e2;exact⟨u,r,.inr ⟨.inl hk,c,hc,hc'⟩⟩
   ·rw[List.getElem?_set_ne (Ne.symm hj)] at e2
    obtain⟨u',r',q⟩:=hl j y v' e1 e2 e3;refine⟨u',r',?_⟩;rcases q with q |⟨k,c',e,z'⟩
    ·exact .inl q
    ·refine .inr ⟨k,c',e,z'.sameBut hs ?_⟩
     rintro rfl;exact hj (a4H hN e1 (I.ok.inj _ _ _ e hc▸hi))
  ·by_cases hcc:c'=c
   ·subst hcc;exact⟨_,hc'⟩
   ·obtain⟨w2,z2⟩:=I.cell y c' e
    exact⟨w2,z2.sameBut hs hcc⟩
  ·obtain⟨e,n,ne,nf,d⟩:=I.pin p hp
   refine⟨(hs.2 p.1 ?_).trans e,n,ne,nf,d⟩;intro q;rw[q,hoc] at e;have q':oc=p.2:=Option.some.inj e;exact d w' (by rw[<-q'];exact hocd)
theorem a4V {M:Model}{A:Around}{E:Vs0}{i:Nat}{x:Str}{v:V}{u:Value}{Q:Unit->Shared->Prop}(I:Inv X Z σ H s)(hN:X.N.Nodup)(hi:X.N[i]? =some x)(hx:Loc X.env.scope x)(r:a0Y v u)
  (h:∀s',Inv X Z (σ.set i (some v)) H s'->Q () s') (hf:X.fn x=true\/X.env.scope.names.lookup x=some .local:=by first |exact .inl rfl |exact .inr rfl |assumption):wpAny M A (storeName X.env x u) Q E s:=
 a5Q I hN hi hx r (fun s' I' _=>h s' I') hf
theorem Inv.call' {s':Shared}{ch:List Addr}(I:Inv X Z σ H s)(ho:s'.os=s.os)(u:Un (frs X.stack) ch H H' s.heap s'.heap)(hok:HOk X.prog X.w H' s'.heap)(hg:AllBare s'.gens)
  (hch:∀b∈ch,(b∈X.ex\/X.s₀.heap.objs.size<=b)/\b≠X.env.locals/\(∀x c,X.env.cells.lookup x=some c->c≠b)/\∀p∈X.pn++Z,p.1≠b):Inv X Z σ H' s':=by
 obtain⟨h',g',d',t',o'⟩:=s';have e:o'=s.os:=ho;subst e;exact I.call (g':=g') (t':=t') (d':=d') u hok hg hch
end
abbrev XK:=Value->Option Addr->Hp->Prop
abbrev St:=List (Option V)
abbrev VK:=V->Hp->Prop
abbrev TE:=St->Hp->VK->Prop
abbrev TT:=St->Hp->(Bool->Hp->Prop)->Prop
abbrev TA:=St->Hp->(List V->Hp->Prop)->Prop
structure a3y where
 nx:St->Hp->Prop
 rt:VK
 bk:St->Hp->Prop:=fun _ _=>False
 ct:St->Hp->Prop:=fun _ _=>False
abbrev TS:=a3y->St->Hp->Prop
def EP (X:Cx)(Z:List (Addr×Obj))(σ:St)(Q:VK)(u:Value)(s':Shared):Prop:=∃v H',Inv X Z σ H' s'/\a0Y v u/\Q v H'
def TP (X:Cx)(Z:List (Addr×Obj))(σ:St)(Q:Bool->Hp->Prop)(b:Bool)(s':Shared):Prop:=∃H',Inv X Z σ H' s'/\Q b H'
def AP (X:Cx)(Z:List (Addr×Obj))(σ:St)(Q:List V->Hp->Prop)(us:List Value)(s':Shared):Prop:=∃vs H',Inv X Z σ H' s'/\a1b vs us/\Q vs H'
def SP (X:Cx)(Z:List (Addr×Obj))(D:a3y)(f:Flow)(s':Shared):Prop:=
 match f with
 | .next=>∃σ' H',Inv X Z σ' H' s'/\D.nx σ' H'
 | .brk=>∃σ' H',Inv X Z σ' H' s'/\D.bk σ' H'
 | .cont=>∃σ' H',Inv X Z σ' H' s'/\D.ct σ' H'
 | .ret u=>∃v σ' H',Inv X Z σ' H' s'/\a0Y v u/\D.rt v H'
def PE (X:Cx)(e:Expr)(t:TE):Prop:=
 ∀(Z:List (Addr×Obj)) (s:Shared) (σ:St) (H:Hp) (Q:VK),Inv X Z σ H s->t σ H Q->wpAny (model X.prog X.w) X.A (eval e X.env) (EP X Z σ Q) X.xe s
def PT (X:Cx)(e:Expr)(t:TT):Prop:=
 ∀(Z:List (Addr×Obj)) (s:Shared) (σ:St) (H:Hp) (Q:Bool->Hp->Prop),Inv X Z σ H s->t σ H Q->wpAny (model X.prog X.w) X.A (isTrue e X.env (eval e X.env)) (TP X Z σ Q) X.xe s
def PW (X:Cx)(e:Expr)(t:TT):Prop:=
 ∀(whole:Sem Value) (Z:List (Addr×Obj)) (s:Shared) (σ:St) (H:Hp) (Q:Bool->Hp->Prop),Inv X Z σ H s->t σ H Q->wpAny (model X.prog X.w) X.A (isTrue e X.env whole) (TP X Z σ Q) X.xe s
theorem PW.pt {X:Cx}{e:Expr}{t:TT}(h:PW X e t):PT X e t:=h _
def PA (X:Cx)(es:List Expr)(t:TA):Prop:=
 ∀(pos:Pos) (Z:List (Addr×Obj)) (s:Shared) (σ:St) (H:Hp) (Q:List V->Hp->Prop),Inv X Z σ H s->t σ H Q->wpAny (model X.prog X.w) X.A (spliced (backTo pos (starEach es X.env))) (AP X Z σ Q) X.xe s
def PS (X:Cx)(st:Stmt)(t:TS):Prop:=
 ∀(Z:List (Addr×Obj)) (s:Shared) (σ:St) (H:Hp) (D:a3y),Inv X Z σ H s->t D σ H->wpAny (model X.prog X.w) X.A (exec st X.env) (SP X Z D) X.xe s
def PSs (X:Cx)(st:List Stmt)(t:TS):Prop:=
 ∀(Z:List (Addr×Obj)) (s:Shared) (σ:St) (H:Hp) (D:a3y),Inv X Z σ H s->t D σ H->wpAny (model X.prog X.w) X.A (execs st X.env) (SP X Z D) X.xe s
theorem thn {α:Type}{t:Sem α}{Q Q':α->Shared->Prop}{M:Model}{A:Around}{E:Vs0}{s:Shared}(h:wpAny M A t Q E s)(hQ:∀a s,Q a s->Q' a s):wpAny M A t Q' E s:=wpAny_mono h hQ fun _ _ x=>x
section
variable {X:Cx}
theorem bin {a b:Expr}{ta tb:TE}(ha:PE X a ta)(hb:PE X b tb){Z:List (Addr×Obj)}{s:Shared}{σ:St}{H:Hp}{R:V->V->Hp->Prop}(I:Inv X Z σ H s)(h:ta σ H fun x H1=>tb σ H1 fun y H2=>R x y H2)
  {α:Type} {Q:α->Shared->Prop} {f:Value->Value->Sem α}
  (hf:∀v u s2 x y H2,Inv X Z σ H2 s2->a0Y x v->a0Y y u->R x y H2->wpAny (model X.prog X.w) X.A (f v u) Q X.xe s2) :
  wpAny (model X.prog X.w) X.A (eval a X.env) (fun v s₁=>wpAny (model X.prog X.w) X.A (eval b X.env) (fun u s₂=>wpAny (model X.prog X.w) X.A (f v u) Q X.xe s₂) X.xe s₁) X.xe s:=by
 refine thn (ha Z s σ H _ I h) fun v s1 ⟨x,H1,I1,r1,q1⟩=>?_;refine thn (hb Z s1 σ H1 _ I1 q1) fun u s2 ⟨y,H2,I2,r2,q2⟩=>?_;exact hf v u s2 x y H2 I2 r1 r2 q2
def b8r (i:Nat):TE:=fun σ H Q=>∃v,σ[i]? =some (some v)/\Q v H
def tC (v:V):TE:=fun _ H Q=>Q v H
theorem b5u {i:Nat}{x:Str}{pos:Pos}(hN:X.N[i]? =some x)(hv:Vis X.env.scope x)(hd:(x==("__debug__":Str))=false:=by decide)(hcd:(x==("__classdict__":Str))=false:=by decide):PE X (.Name x pos) (b8r i):=by
 intro Z s σ H Q I h;obtain⟨v,e,h⟩:=h;obtain⟨m,hn,hl⟩:=I.loc;obtain⟨u,r,l⟩:=hl i x v hN e hv;have fin:EP X Z σ Q u s:=⟨v,H,I,r,h⟩;rcases l with ⟨hk,hm⟩ |⟨hk,c,hc,hcell⟩
 ·exact wpAny_Name (wpAny_loadName_local I.ok.kind hk hn hm fin) hd
 ·rcases hk with hk |hk
  ·exact wpAny_Name (wpAny_loadName_cell I.ok.kind hk hc hcell fin) hd
  ·exact wpAny_Name (wpAny_loadName_free I.ok.kind hk hc hcell fin hcd) hd
theorem a0f {i j pos}:PE X (.Constant (.int i) j pos) (tC (.int i)):=fun _ _ _ H _ I h=>wpAny_Constant_int ⟨.int i,H,I.tok _,⟨_,rfl⟩,h⟩
theorem b0u {b j pos}:PE X (.Constant (.bool b) j pos) (tC (.bl b)):=fun _ _ _ H _ I h=>Constant_bool ⟨.bl b,H,I,rfl,h⟩
theorem a4o {j pos}:PE X (.Constant .none j pos) (tC .non):=fun _ _ _ H _ I h=>Constant_none ⟨.non,H,I,rfl,h⟩
theorem a0x {x j pos}:PE X (.Constant (.str x) j pos) (tC (.str x)):=fun _ _ _ H _ I h=>Calls.Constant_str ⟨.str x,H,I.tok _,⟨_,rfl⟩,h⟩
def Gl (X:Cx)(x:Str):Prop:=X.env.kindOf x=some .globalImplicit
theorem a2e {E:Vs0}{Z:List (Addr×Obj)}{s:Shared}{σ:St}{H:Hp}{x:Str}{u:Value}{pos:Pos}{Q:Vs0}(I:Inv X Z σ H s)(hg:Gl X x)(hm:X.mg x=some u)(h:Q u s)
  (hd:(x==("__debug__":Str))=false:=by decide):wpAny (model X.prog X.w) X.A (eval (.Name x pos) X.env) Q E s:=
 Calls.Name_function_global I.ok.kind hg (Calls.loadGlobal_global (by rw[I.ok.glob];exact I.mod.glob.keeps I.bk) hm h) hd
theorem a3P {E:Vs0}{Z:List (Addr×Obj)}{s:Shared}{σ:St}{H:Hp}{x:Str}{u:Value}{pos:Pos}{Q:Vs0}(I:Inv X Z σ H s)(hg:Gl X x)(hm:X.mg x=none)(hv:bootBuiltins x=some u)(h:Q u s)
  (hn:x≠"__name__":=by decide) (hd:(x==("__debug__":Str))=false:=by decide):wpAny (model X.prog X.w) X.A (eval (.Name x pos) X.env) Q E s:=by
 obtain⟨mb,h1,h2⟩:=I.mod.blt;exact Calls.Name_function_global I.ok.kind hg (Calls.loadGlobal_builtin (by rw[I.ok.glob];exact I.mod.glob.keeps I.bk) hm (by rw[I.ok.blt];exact h1.keeps I.bk) ((h2 x hn).trans hv) h) hd
theorem b0d {x:Str}{v:V}{u:Value}{pos:Pos}(hg:Gl X x)(hm:X.mg x=some u)(r:a0Y v u)(hd:(x==("__debug__":Str))=false:=by decide):PE X (.Name x pos) (tC v):=
 fun _ _ _ H _ I h=>a2e I hg hm ⟨v,H,I,r,h⟩ hd
theorem a5c {x:Str}{v:V}{u:Value}{pos:Pos}(hg:Gl X x)(hm:X.mg x=none)(hv:bootBuiltins x=some u)(r:a0Y v u)(hn:x≠"__name__":=by decide)(hd:(x==("__debug__":Str))=false:=by decide):PE X (.Name x pos) (tC v):=
 fun _ _ _ H _ I h=>a3P I hg hm hv ⟨v,H,I,r,h⟩ hn hd
variable {a b:Expr}{ta tb:TE}{pos:Pos}
def PC (X:Cx)(op:CmpOp)(a b:Expr)(t:TE):Prop:=
 ∀(Z:List (Addr×Obj)) (s:Shared) (σ:St) (H:Hp) (Q:VK),Inv X Z σ H s->t σ H Q →
  wpAny (model X.prog X.w) X.A (eval a X.env) (fun v s₁=>wpAny (model X.prog X.w) X.A (eval b X.env) (fun u s₂=>wpAny (model X.prog X.w) X.A (compareOp op v u) (EP X Z σ Q) X.xe s₂) X.xe s₁) X.xe s
def tB (t:TE):TT:=fun σ H Q=>t σ H fun x H1=>∃c,x=.bl c/\Q c H1
theorem b6T {op:CmpOp}{t:TE}(h:PC X op a b t)(h1:behindInMarks op b=false:=by first |exact nobehind _ (by decide) (by decide) |rfl):PE X (.Compare a [op] [b] pos) t:=fun Z s σ H Q I hw=>wpAny_Compare1 (h Z s σ H Q I hw) h1
theorem a2z {op:CmpOp}{t:TE}(h:PC X op a b t)(h1:behindInMarks op b=false:=by first |exact nobehind _ (by decide) (by decide) |rfl):PT X (.Compare a [op] [b] pos) (tB t):=by
 intro Z s σ H Q I hw;refine wpAny_isTrue_Compare1 (thn (h Z s σ H _ I hw) fun v s1 h1=>thn h1 fun u s2 h2=>thn h2 fun c s3 ⟨x,H1,I1,r1,q1⟩=>?_) h1;obtain⟨d,rfl,q⟩:=q1;cases r1;exact wpAny_truthy_bool ⟨H1,I1,q⟩
theorem a2W {e:Expr}{t:TE}(h:PE X e t)(he:∀whole,isTrue e X.env whole=(do let v <-whole;standAt e.pos;holding [v] (truthy v)):=by intro _;rfl):PT X e (tB t):=by
 intro Z s σ H Q I hw;refine isTrue_plain (thn (h Z s σ H _ I hw) fun v s1 ⟨x,H1,I1,r1,q1⟩=>?_) (he _);obtain⟨d,rfl,q⟩:=q1;cases r1;exact wpAny_truthy_bool ⟨H1,I1,q⟩
variable {tA tB':TT}{rest:List Expr}
def tAnd (t u:TT):TT:=fun σ H Q=>t σ H fun c H1=>if c=true then u σ H1 Q else Q false H1
def tOr (t u:TT):TT:=fun σ H Q=>t σ H fun c H1=>if c=true then Q true H1 else u σ H1 Q
def tNot (t:TT):TT:=fun σ H Q=>t σ H fun c H1=>Q (!c) H1
theorem a2c (ha:PT X a tA):PW X (.BoolOp .And [a] pos) tA:=by
 intro wh Z s σ H Q I h;refine isTrue_and (thn (ha Z s σ H Q I h) fun c s1 e=>?_);cases c with
 |true=>exact isTrue_and_nil e
 |false=>exact e
theorem a5Z (ha:PT X a tA):PW X (.BoolOp .Or [a] pos) tA:=by
 intro wh Z s σ H Q I h;refine isTrue_or (thn (ha Z s σ H Q I h) fun c s1 e=>?_);cases c with
 |false=>exact isTrue_or_nil e
 |true=>exact e
theorem a2Y (ha:PT X a tA)(hb:PW X (.BoolOp .And (b::rest) pos) tB'):PW X (.BoolOp .And (a::b::rest) pos) (tAnd tA tB'):=by
 intro wh Z s σ H Q I h;refine isTrue_and (thn (ha Z s σ H _ I h) fun c s1 ⟨H1,I1,q1⟩=>?_);cases c with
 |true=>exact hb wh Z s1 σ H1 Q I1 q1
 |false=>exact⟨H1,I1,q1⟩
theorem a9N (ha:PT X a tA)(hb:PW X (.BoolOp .Or (b::rest) pos) tB'):PW X (.BoolOp .Or (a::b::rest) pos) (tOr tA tB'):=by
 intro wh Z s σ H Q I h;refine isTrue_or (thn (ha Z s σ H _ I h) fun c s1 ⟨H1,I1,q1⟩=>?_);cases c with
 |true=>exact⟨H1,I1,q1⟩
 |false=>exact hb wh Z s1 σ H1 Q I1 q1
theorem a3e (ha:PT X a tA):PT X (.UnaryOp .Not a pos) (tNot tA):=by
 intro Z s σ H Q I h;exact isTrue_not (ha Z s σ H (fun c H1=>Q (!c) H1) I h)
def b7F (ta tb:TE):TE:=fun σ H Q=>ta σ H fun x H1=>∃c,x=.bl c/\if c=true then tb σ H1 Q else Q (.bl false) H1
def tOrV (ta tb:TE):TE:=fun σ H Q=>ta σ H fun x H1=>∃c,x=.bl c/\if c=true then Q (.bl true) H1 else tb σ H1 Q
def b7N (ta:TE):TE:=fun σ H Q=>ta σ H fun x H1=>∃c,x=.bl c/\Q (.bl (!c)) H1
theorem a7a {op}{t:TE}(h:PE X a t):PE X (.BoolOp op [a] pos) t:=fun Z s σ H Q I hw=>BoolOp_one (h Z s σ H Q I hw)
theorem b3q (ha:PE X a ta)(hb:PE X (.BoolOp .And (b::rest) pos) tb):PE X (.BoolOp .And (a::b::rest) pos) (b7F ta tb):=by
 intro Z s σ H Q I h;refine BoolOp_and (thn (ha Z s σ H _ I h) fun v s1 ⟨x,H1,I1,r1,q1⟩=>?_);obtain⟨c,rfl,q1⟩:=q1;cases r1;refine wpAny_truthy_bool ?_;cases c with
 |true=>exact hb Z s1 σ H1 Q I1 q1
 |false=>exact⟨.bl false,H1,I1,rfl,q1⟩
theorem b6v (ha:PE X a ta)(hb:PE X (.BoolOp .Or (b::rest) pos) tb):PE X (.BoolOp .Or (a::b::rest) pos) (tOrV ta tb):=by
 intro Z s σ H Q I h;refine BoolOp_or (thn (ha Z s σ H _ I h) fun v s1 ⟨x,H1,I1,r1,q1⟩=>?_);obtain⟨c,rfl,q1⟩:=q1;cases r1;refine wpAny_truthy_bool ?_;cases c with
 |false=>exact hb Z s1 σ H1 Q I1 q1
 |true=>exact⟨.bl true,H1,I1,rfl,q1⟩
theorem b5l (ha:PE X a ta):PE X (.UnaryOp .Not a pos) (b7N ta):=by
 intro Z s σ H Q I h;refine UnaryOp_ (thn (ha Z s σ H _ I h) fun v s1 ⟨x,H1,I1,r1,q1⟩=>?_);obtain⟨c,rfl,q1⟩:=q1;cases r1;exact not_of (wpAny_truthy_bool ⟨.bl (!c),H1,I1,rfl,q1⟩)
end
def SqL (K:Fg0)(H:Hp)(a:Addr)(xs:List V):Prop:=
 Rd H a (.lst xs) ∨
  ∃(o:Obj) (its:Array Value) (n:Nat),K.lookup a=some o/\o.cls=.type "list"/\o.dict=none/\o.data=.seq its n/\its.size<=sizeLine/\a1b xs its.toList
def SqT (K:Fg0)(H:Hp)(a:Addr)(xs:List V):Prop:=
 Rd H a (.tup xs) ∨
  ∃(o:Obj) (its:Array Value) (n:Nat),K.lookup a=some o/\o.cls=.type "tuple"/\o.data=.seq its n/\its.size<=sizeLine/\a1b xs its.toList
def absV:Value->Option V
 | .none=>some .non
 | .bool b=>some (.bl b)
 | .int i _=>some (.int i)
 | .str x _=>some (.str x)
 | .bytes b _=>some (.byt b)
 | .float b _=>some (.flt b)
 | .ref a=>some (.ref a)
 | .type n=>some (.ty n)
 |_=>none
theorem a0Y.abs {x:V}{u:Value}(r:a0Y x u):absV u=some x:=by
 cases x with
 |non=>cases r;rfl
 |bl _=>cases r;rfl
 |int _=>obtain⟨t,rfl⟩:=r;rfl
 |str _=>obtain⟨t,rfl⟩:=r;rfl
 |byt _=>obtain⟨t,rfl⟩:=r;rfl
 |flt _=>obtain⟨t,rfl⟩:=r;rfl
 |ref _=>cases r;rfl
 |ty _=>cases r;rfl
theorem a0Y.inj {x y:V}{u:Value}(r:a0Y x u)(q:a0Y y u):x=y:=Option.some.inj (r.abs.symm.trans q.abs)
theorem a1b.inj:∀{xs ys:List V} {us:List Value},a1b xs us->a1b ys us->xs=ys
 |_,_,_,.nil,.nil=>rfl
 |_,_,_,.cons r t,.cons r' t'=>by rw[r.inj r',a1b.inj t t']
section
variable {X:Cx}{Z:List (Addr×Obj)}{σ:St}{H:Hp}{s:Shared}{a:Addr}{xs ys:List V}
theorem SqL.of {K:Fg0}(h:H a=some (.lst xs)):SqL K H a xs:=.inl (.inl h)
theorem SqT.of {K:Fg0}(h:H a=some (.tup xs)):SqT K H a xs:=.inl (.inl h)
theorem Inv.list (I:Inv X Z σ H s)(h:SqL X.K H a xs):∃its:List Value,a1b xs its/\PlainL s.heap a its.toArray/\xs.length<=sizeLine:=by
 rcases h with h |⟨o,its,n,hk,hc,hd,hs,hz,r⟩
 ·obtain⟨z,its,n,r,e⟩:=h.ok I.hok
  exact⟨its,r,⟨_,n,e,rfl,rfl,rfl⟩,z⟩
 ·refine⟨its.toList,r,⟨o,n,I.kIn a o hk,hc,hd,by simpa using hs⟩,?_⟩
  have e:=r.length;simp only[aL0] at e
  omega
theorem Inv.tuple (I:Inv X Z σ H s)(h:SqT X.K H a xs):∃its:List Value,a1b xs its/\IsTup s.heap a its.toArray/\xs.length<=sizeLine:=by
 rcases h with h |⟨o,its,n,hk,hc,hs,hz,r⟩
 ·obtain⟨z,its,r,p⟩:=h.ok I.hok
  exact⟨its,r,p,z⟩
 ·refine⟨its.toList,r,⟨o,I.kIn a o hk,hc,n,by simpa using hs⟩,?_⟩
  have e:=r.length;simp only[aL0] at e
  omega
theorem Inv.list_inj (I:Inv X Z σ H s)(h:SqL X.K H a xs)(h':SqL X.K H a ys):xs=ys:=by
 obtain⟨its,r,⟨o,n,e,_,_,d⟩,_⟩:=I.list h;obtain⟨its',r',⟨o',n',e',_,_,d'⟩,_⟩:=I.list h';rw[e] at e';cases e';rw[d] at d'
 injection d' with d1 _
 have:its=its':=by simpa using congrArg Array.toList d1
 subst this;exact r.inj r'
theorem Inv.tuple_inj (I:Inv X Z σ H s)(h:SqT X.K H a xs)(h':SqT X.K H a ys):xs=ys:=by
 obtain⟨its,r,⟨o,e,_,n,d⟩,_⟩:=I.tuple h;obtain⟨its',r',⟨o',e',_,n',d'⟩,_⟩:=I.tuple h';rw[e] at e';cases e';rw[d] at d'
 injection d' with d1 _
 have:its=its':=by simpa using congrArg Array.toList d1
 subst this;exact r.inj r'
end
abbrev Cx.wish (X:Cx)(E:Vs0):Cx:={ X with xe:=E }
abbrev Cx.nox (X:Cx):Cx:=X.wish fun _ _=>False
theorem Cx.Ok.wish {X:Cx}(ok:X.Ok)(E:Vs0):(X.wish E).Ok:=
 ⟨ok.mod,ok.kind,ok.glob,ok.blt,ok.above,ok.inj,ok.has,ok.cab,ok.hd,ok.frames,ok.stk,ok.exf,ok.bs,ok.bsz,ok.noex,ok.exfs,ok.funs,ok.frf⟩
theorem Cx.Ok.unwish {X:Cx}{E:Vs0}(ok:(X.wish E).Ok):X.Ok:=
 ⟨ok.mod,ok.kind,ok.glob,ok.blt,ok.above,ok.inj,ok.has,ok.cab,ok.hd,ok.frames,ok.stk,ok.exf,ok.bs,ok.bsz,ok.noex,ok.exfs,ok.funs,ok.frf⟩
section
variable {X:Cx}{Z:List (Addr×Obj)}{σ:St}{H:Hp}{s:Shared}{E:Vs0}
theorem Inv.wish (I:Inv X Z σ H s)(E:Vs0):Inv (X.wish E) Z σ H s:=⟨I.ok.wish E,I.os,I.bare,I.base,I.loc,I.cell,I.free,I.freeC,I.pin,I.hok,I.len⟩
theorem Inv.unwish (I:Inv (X.wish E) Z σ H s):Inv X Z σ H s:=⟨I.ok.unwish,I.os,I.bare,I.base,I.loc,I.cell,I.free,I.freeC,I.pin,I.hok,I.len⟩
theorem SP.unwish {D:a3y}{f:Flow}{s':Shared}(h:SP (X.wish E) Z D f s'):SP X Z D f s':=by
 cases f with
 |next=>obtain⟨σ',H',I,q⟩:=h;exact⟨σ',H',I.unwish,q⟩
 |brk=>obtain⟨σ',H',I,q⟩:=h;exact⟨σ',H',I.unwish,q⟩
 |cont=>obtain⟨σ',H',I,q⟩:=h;exact⟨σ',H',I.unwish,q⟩
 |ret u=>obtain⟨v,σ',H',I,r,q⟩:=h;exact⟨v,σ',H',I.unwish,r,q⟩
theorem PSs.nox {st:List Stmt}{t:TS}(h:PSs X.nox st t):PSs X st t:=fun Z s σ H D I hw=>
 wpAny_mono (h Z s σ H D (I.wish _) hw) (fun _ _ q=>q.unwish) fun _ _ z=>False.elim z
end
section
variable {X:Cx}{st:Stmt}{rest:List Stmt}{t u:TS}{e:Expr}{te:TE}{pos:Pos}
def b7r:TS:=fun D σ H=>D.nx σ H
def tSeq (t u:TS):TS:=fun D σ H=>t { D with nx:=u D } σ H
theorem a0s:PSs X [] b7r:=fun _ _ σ H _ I h=>wpAny_execs_nil ⟨σ,H,I,h⟩
theorem a0b (h1:PS X st t)(h2:PSs X rest u):PSs X (st::rest) (tSeq t u):=by
 intro Z s σ H D I h;refine wpAny_execs_cons (thn (h1 Z s σ H { D with nx:=u D } I h) fun f s1 q=>?_);cases f with
 |next=>
  obtain⟨σ',H',I',q⟩:=q;exact h2 Z s1 σ' H' D I' q
 |ret v=>exact q
 |brk=>exact q
 |cont=>exact q
theorem a0h (h1:PS X st t):PSs X [st] t:=by
 intro Z s σ H D I h;refine wpAny_execs_cons (thn (h1 Z s σ H D I h) fun f s1 q=>?_);cases f with
 |next=>exact wpAny_execs_nil q
 |ret v=>exact q
 |brk=>exact q
 |cont=>exact q
theorem Inv.quiet {Z:List (Addr×Obj)}{σ:St}{H:Hp}{s:Shared}(I:Inv X Z σ H s):interactive X.env=false:=by simp[interactive,I.ok.kind]
def b8g (te:TE):TS:=fun D σ H=>te σ H fun _ H1=>D.nx σ H1
theorem a0V (he:PE X e te)(hs:swapsWith e none pos.line X.env=pure false:=by rfl):PS X (.Expr e pos) (b8g te):=by
 intro Z s σ H D I h;exact wpAny_Expr_any (thn (he Z s σ H _ I h) fun v s1 ⟨x,H1,I1,r1,q1⟩=>⟨σ,H1,I1,q1⟩) I.quiet hs
def tRet (te:TE):TS:=fun D σ H=>te σ H D.rt
theorem a0F (he:PE X e te):PS X (.Return (some e) pos) (tRet te):=by
 intro Z s σ H D I h;exact wpAny_Return_some (thn (he Z s σ H _ I h) fun v s1 ⟨x,H1,I1,r1,q1⟩=>⟨x,σ,H1,I1,r1,q1⟩)
def b7q:TS:=fun D _ H=>D.rt .non H
theorem b4Y:PS X (.Return none pos) b7q:=fun _ _ σ H _ I h=>wpAny_Return_none ⟨.non,σ,H,I,rfl,h⟩
def tIfS (c:TT)(t u:TS):TS:=fun D σ H=>c σ H fun b H1=>if b=true then t D σ H1 else u D σ H1
theorem a0P {c:Expr}{a b:List Stmt}{tc:TT}(hc:PT X c tc)(ha:PSs X a t)(hb:PSs X b u):PS X (.If c a b pos) (tIfS tc t u):=by
 intro Z s σ H D I h;refine wpAny_If (thn (hc Z s σ H _ I h) fun d s1 ⟨H1,I1,q1⟩=>?_);cases d with
 |true=>exact ha Z s1 σ H1 D I1 q1
 |false=>exact hb Z s1 σ H1 D I1 q1
def b5E:TS:=fun _ _ _=>False
theorem a0u {sts:List Stmt}:PSs X sts b5E:=fun _ _ _ _ _ _ h=>h.elim
end
abbrev TG:=V->St->Hp->(St->Hp->Prop)->Prop
abbrev TGs:=List V->St->Hp->(St->Hp->Prop)->Prop
def PG (X:Cx)(target:Expr)(t:TG):Prop:=
 ∀(Z:List (Addr×Obj)) (s:Shared) (σ:St) (H:Hp) (v:V) (u:Value) (Q:St->Hp->Prop),Inv X Z σ H s->a0Y v u->t v σ H Q →
  wpAny (model X.prog X.w) X.A (assign target X.env u) (fun _ s'=>∃σ' H',Inv X Z σ' H' s'/\Q σ' H') X.xe s
def PGs (X:Cx)(ts:List Expr)(t:TGs):Prop:=
 ∀(Z:List (Addr×Obj)) (s:Shared) (σ:St) (H:Hp) (vs:List V) (us:List Value) (Q:St->Hp->Prop),Inv X Z σ H s->a1b vs us->t vs σ H Q →
  wpAny (model X.prog X.w) X.A (assignInOrder ((assignEach ts X.env).map (·.2)) us) (fun _ s'=>∃σ' H',Inv X Z σ' H' s'/\Q σ' H') X.xe s
section
variable {X:Cx}{pos:Pos}
def b6O (i:Nat):TG:=fun v σ H Q=>Q (σ.set i (some v)) H
theorem a0m {i:Nat}{x:Str}(hN:X.N.Nodup)(hi:X.N[i]? =some x)(hx:Loc X.env.scope x)(hf:X.fn x=true\/X.env.scope.names.lookup x=some .local:=by first |exact .inl rfl |exact .inr rfl |assumption):PG X (.Name x pos) (b6O i):=by
 intro Z s σ H v u Q I r h;exact wpAny_assign_Name (a4V I hN hi hx r (fun s' I'=>⟨_,H,I',h⟩) hf)
def gNil:TGs:=fun vs σ H Q=>vs=[]/\Q σ H
def b7M (t:TG)(u:TGs):TGs:=fun vs σ H Q=>∃v r,vs=v::r/\t v σ H fun σ' H'=>u r σ' H' Q
theorem a1D:PGs X [] gNil:=by
 intro Z s σ H vs us Q I r h;obtain⟨e,h⟩:=h;subst e;cases r;exact assignInOrder_nil ⟨σ,H,I,h⟩
theorem a0y {e:Expr}{es:List Expr}{t:TG}{u:TGs}(h1:PG X e t)(h2:PGs X es u)
  (hs:(assignEach (e::es) X.env).map (·.2)=assign e X.env::(assignEach es X.env).map (·.2):=by rfl):PGs X (e::es) (b7M t u):=by
 intro Z s σ H vs us Q I r h;obtain⟨v,vr,e1,h⟩:=h;subst e1;cases r with
 |cons r rr=>
  rw[hs];refine assignInOrder_cons (thn (h1 Z s σ H _ _ _ I r h) fun _ s1 ⟨σ1,H1,I1,q1⟩=>?_);exact h2 Z s1 σ1 H1 _ _ Q I1 rr q1
def b8l (K:Fg0)(n:Nat)(t:TGs):TG:=fun v σ H Q=>∃a xs,v=.ref a/\SqT K H a xs/\xs.length=n/\t xs σ H Q
theorem a2j {es:List Expr}{k:Nat}{t:TGs}{n:Nat}(hc:X.calm=true)(h:PGs X es t)
  (hn:(assignEach es X.env).length=n:=by rfl) (hst:(assignEach es X.env).findIdx? (·.1)=none:=by rfl):PG X (.Tuple es k pos) (b8l X.K n t):=by
 intro Z s σ H v u Q I r hw;obtain⟨a,xs,e1,hq,hl,hw⟩:=hw;subst e1;cases r;obtain⟨its,rv,ht,hz⟩:=I.tuple hq;refine assign_Tuple_tuple (I.ok.hd hc) ht (by simp[hn,<-hl,rv.length]) hst fun h' hx=>?_;have I1:Inv X Z σ H { s with heap:=h' }:=I.kept (t':=s.toks) fun b o e=>hx b o (nL0 (hL0 e)) e;exact h Z _ σ H xs _ Q I1 (by simpa using rv) hw
def tAsg (te:TE)(g:TG):TS:=fun D σ H=>te σ H fun x H1=>g x σ H1 D.nx
theorem a0n {i:Nat}{x:Str}{e:Expr}{te:TE}{pos':Pos}(hN:X.N.Nodup)(hi:X.N[i]? =some x)(hx:Loc X.env.scope x)(he:PE X e te)(hs:swapsWith e (some (.Name x pos')) pos.line X.env=pure false:=by rfl)(hf:X.fn x=true\/X.env.scope.names.lookup x=some .local:=by first |exact .inl rfl |exact .inr rfl |assumption) :
  PS X (.Assign [.Name x pos'] e pos) (tAsg te (b6O i)):=by
 intro Z s σ H D I h;refine wpAny_Assign_Name (thn (he Z s σ H _ I h) fun v s1 ⟨y,H1,I1,r1,q1⟩=>?_) hs;exact a4V I1 hN hi hx r1 (fun s2 I2=>⟨_,H1,I2,q1⟩) hf
def b2X (c:TT)(tb:TS):TS:=fun D σ H=>∃W:Nat->St->Hp->Prop,(∃m,W m σ H)/\∀m σ H,W m σ H →
 c σ H fun b H1=>if b=true then ∃N:St->Hp->Prop,(∀σ' H',N σ' H'->∃m',m'<m/\W m' σ' H')/\tb { D with nx:=N,ct:=N,bk:=D.nx } σ H1 else D.nx σ H1
theorem b2i {c:Expr}{body:List Stmt}{tc:TT}{tb:TS}(hp:PassesOwn (model X.prog X.w) X.A X.env X.xe)(hc:PT X c tc)(hb:PSs X body tb):PS X (.While c body [] pos) (b2X tc tb):=by
 intro Z s σ H D I h;obtain⟨W,⟨m0,w0⟩,turn⟩:=h;refine wpAny_While (codeAny_whileLoop (fun n s'=>∃σ' H',Inv X Z σ' H' s'/\W n σ' H') ?_ m0 ⟨σ,H,I,w0⟩);rintro n s1 ⟨σ1,H1,I1,w1⟩;refine wpAny_passesOwn hp (thn (hc Z s1 σ1 H1 _ I1 (turn n σ1 H1 w1)) fun b s2 ⟨H2,I2,q2⟩=>?_);cases b with
 |true=>
  obtain⟨N,hN,q2⟩:=q2;rw[if_pos rfl];refine wpAny_passesOwn hp (thn (hb Z s2 σ1 H2 _ I2 q2) fun f s3 q3=>?_);cases f with
  |next=>
   obtain⟨σ3,H3,I3,n3⟩:=q3;obtain⟨m',hm,w3⟩:=hN σ3 H3 n3;exact⟨m',hm,σ3,H3,I3,w3⟩
  |cont=>
   obtain⟨σ3,H3,I3,n3⟩:=q3;obtain⟨m',hm,w3⟩:=hN σ3 H3 n3;exact⟨m',hm,σ3,H3,I3,w3⟩
  |brk=>exact q3
  |ret v=>exact q3
 |false=>
  rw[if_neg bF0];exact wpAny_execs_nil ⟨σ1,H2,I2,q2⟩
end
structure It where
 go:Nat->Hp->Prop
 yld:Nat->Hp->V->Hp->Prop
 stop:Nat->Hp->Prop
def a8w (X:Cx)(Z:List (Addr×Obj))(H:Hp)(b:Addr):Prop:=
 H b=none/\b≠X.env.locals/\b∉X.fs/\(b∈X.ex\/X.s₀.heap.objs.size<=b)/\(∀x c,X.env.cells.lookup x=some c->c≠b)/\∀p∈X.pn++Z,p.1≠b
theorem Inv.fpOk {X:Cx}{Z:List (Addr×Obj)}{σ:St}{H H':Hp}{s:Shared}{b:Addr}(I:Inv X Z σ H s)(hb:s.heap.objs.size<=b)(hn:H' b=none):a8w X Z H' b:=by
 refine⟨hn,Nat.ne_of_gt (Nat.lt_of_lt_of_le I.lt hb),I.nofs hb,.inr (Nat.le_trans I.sz hb),fun x c e z=>?_,fun p hp z=>?_⟩
 ·obtain⟨v,q⟩:=I.cell x c e
  exact absurd (Nat.lt_of_lt_of_le q.lt (by rw[z];exact hb)) (Nat.lt_irrefl _)
 ·exact absurd (Nat.lt_of_lt_of_le (hL0 (I.pin p hp).1) (by rw[z];exact hb)) (Nat.lt_irrefl _)
structure b1S (P:Program) (w:World) (K:Fg0) (tg:Expr) (J:It) (fp:List Addr) (it:Addr) (tn:Nat->Heap->Prop):Prop where
 mem:it∈fp
 obj:∀i h,tn i h->∀b∈fp,∃o,h.get? b=some o/\∀v,o.data≠.cell v
 keep:∀i h h',tn i h->(∀b∈fp,∀o,h.get? b=some o->h'.get? b=some o)->tn i h'
 item:∀(X:Cx),X.prog=P->X.w=w->X.K=K->X.calm=true->∀(i:Nat) (Z:List (Addr×Obj)) (s:Shared) (σ:St) (H:Hp) (E:Vs0),Inv X Z σ H s->(∀b∈fp,a8w X Z H b)->tn i s.heap->J.go i H →
  wpAny (model P w) X.A (pyNext (.ref it)) (fun r s1=>∃u,r=some u ∧
   wpAny (model P w) X.A (letOwnedTupleGo tg (.ref it) u) (fun _ s2=>∃x H',Inv X Z σ H' s2/\a0Y x u/\J.yld i H x H'/\tn (i+1) s2.heap/\∀b∈fp,H' b=none) E s1) E s
 done:∀(X:Cx),X.prog=P->X.w=w->X.K=K->X.calm=true->∀(i:Nat) (Z:List (Addr×Obj)) (s:Shared) (σ:St) (H:Hp) (E:Vs0),Inv X Z σ H s->(∀b∈fp,a8w X Z H b)->tn i s.heap->J.stop i H →
  wpAny (model P w) X.A (pyNext (.ref it)) (fun r s1=>r=none/\Inv X Z σ H s1) E s
 self:∀(A:Around) (i:Nat) (s:Shared) (Q:Vs0) (E:Vs0),tn i s.heap->Q (.ref it) s->wpAny (model P w) A (pyIter (.ref it)) Q E s
abbrev TI:=St->Hp->(It->Hp->Prop)->Prop
def PIE (X:Cx)(Z:List (Addr×Obj))(σ:St)(tg:Expr)(R:It->Hp->Prop)(itv:Value)(s2:Shared):Prop:=
 ∃(it:Addr) (fp:List Addr) (tn:Nat->Heap->Prop) (J:It) (H':Hp),itv=.ref it/\Inv X Z σ H' s2/\b1S X.prog X.w X.K tg J fp it tn/\tn 0 s2.heap/\(∀b∈fp,a8w X Z H' b)/\R J H'
def PI (X:Cx)(tg iter:Expr)(wi:TI):Prop:=
 ∀(Z:List (Addr×Obj)) (s:Shared) (σ:St) (H:Hp) (R:It->Hp->Prop),Inv X Z σ H s->wi σ H R →
  wpAny (model X.prog X.w) X.A (eval iter X.env) (fun v s1=>wpAny (model X.prog X.w) X.A (pyIter v) (PIE X Z σ tg R) X.xe s1) X.xe s
theorem a9P {M:Model}{A:Around}{E:Vs0}{s:Shared}{tg:Expr}{it:Addr}{u:Value}{o:Obj}{n:String}{vs:Array Value}{Q:Unit->Shared->Prop}(ho:s.heap.get? it=some o)(hc:o.cls=.type n)(hd:o.data=.fields vs)
  (hn:["enumerate","zip","dict_itemiterator","dict_reverseitemiterator","odict_iterator","itertools.zip_longest","itertools.pairwise"].contains n=false) (hQ:Q () s):wpAny M A (letOwnedTupleGo tg (.ref it) u) Q E s:=by
 unfold letOwnedTupleGo;cases tg<;>first
  |exact wP0 hQ
  | (cases u<;>first
    |exact wP0 hQ
    | (refine wB0 (wpAny_load ho ?_)
       rw[hc,hd];show wpAny M A (if (["enumerate","zip","dict_itemiterator","dict_reverseitemiterator","odict_iterator","itertools.zip_longest","itertools.pairwise"].contains n&&vs[0]?==some (rawInt _))=true then _ else _) Q E s;rw[if_neg (by intro h;rw[hn,Bool.false_and] at h;cases h)];exact wP0 hQ))
def Itl (K:Fg0)(a:Addr):It:=
 ⟨fun i H=>∃xs x,SqL K H a xs/\xs[i]? =some x,fun i H x H'=>H'=H/\∀xs,SqL K H a xs->xs[i]? =some x,fun i H=>∃xs,SqL K H a xs/\xs.length<=i⟩
def Itt (K:Fg0)(a:Addr):It:=
 ⟨fun i H=>∃xs x,SqT K H a xs/\xs[i]? =some x,fun i H x H'=>H'=H/\∀xs,SqT K H a xs->xs[i]? =some x,fun i H=>∃xs,SqT K H a xs/\xs.length<=i⟩
def Itr (lo:Int)(n:Nat):It:=⟨fun i _=>i<n,fun i H x H'=>H'=H/\x=.int (lo+i),fun i _=>n<=i⟩
theorem a9O {P:Program}{w:World}{K:Fg0}{tg:Expr}(a it:Addr):b1S P w K tg (Itl K a) [it] it (fun i h=>h.IsListIter it a i) where
 mem:=by simp
 obj:=fun i h st b hb=>by
  have e:b=it:=by simpa using hb
  subst e;obtain⟨o,e,c,d⟩:=st;exact⟨o,e,fun v z=>by rw[d] at z;cases z⟩
 keep:=fun i h h' st k=>st.at fun o e=>k it (by simp) o e
 item:=by
  intro X hP hw hK hc i Z s σ H E I hf st hg;subst hP hw hK;obtain⟨xs,x,hq,hx⟩:=hg;obtain⟨its,rv,p,hz⟩:=I.list hq;obtain⟨u,hu,ru⟩:=rv.get hx;obtain⟨f0,f1,f2,f3,f4,f5⟩:=hf it (by simp);refine wpAny_pyNext_list_item st p.isList (x:=u) (by simpa using hu) fun h' st' sb=>?_;have I1:Inv X Z σ H { s with heap:=h' }:=I.turned (t':=s.toks) (fun b o hb e=>(sb.2 b hb).trans e) f0 f1 f3 f4 f5;obtain⟨o,e,c,d⟩:=id st';exact⟨u,rfl,a9P (s:={ s with heap:=h' }) e c d (by decide) ⟨x,H,I1,ru,⟨rfl,fun ys hy=>by rw[I.list_inj hy hq];exact hx⟩,st',fun b hb=>(hf b hb).1⟩⟩
 done:=by
  intro X hP hw hK hc i Z s σ H E I hf st hg;subst hP hw hK;obtain⟨xs,hq,hx⟩:=hg;obtain⟨its,rv,p,hz⟩:=I.list hq;obtain⟨f0,f1,f2,f3,f4,f5⟩:=hf it (by simp);have hl:=rv.length;exact wpAny_pyNext_list_end (I.ok.hd hc) st p.isList (by simp;omega) fun h' eb=>⟨rfl,I.turned (t':=s.toks) (fun b o hb e=>eb b o hb e) f0 f1 f3 f4 f5⟩
 self:=fun _ _ _ _ _ st h=>wpAny_pyIter_listiter st h
theorem a8l {P:Program}{w:World}{K:Fg0}{tg:Expr}(a it:Addr):b1S P w K tg (Itt K a) [it] it (fun i h=>h.IsTupleIter it a i) where
 mem:=by simp
 obj:=fun i h st b hb=>by
  have e:b=it:=by simpa using hb
  subst e;obtain⟨o,e,c,d⟩:=st;exact⟨o,e,fun v z=>by rw[d] at z;cases z⟩
 keep:=fun i h h' st k=>st.at fun o e=>k it (by simp) o e
 item:=by
  intro X hP hw hK hc i Z s σ H E I hf st hg;subst hP hw hK;obtain⟨xs,x,hq,hx⟩:=hg;obtain⟨its,rv,p,hz⟩:=I.tuple hq;obtain⟨u,hu,ru⟩:=rv.get hx;obtain⟨f0,f1,f2,f3,f4,f5⟩:=hf it (by simp);refine wpAny_pyNext_tuple_item st (show s.heap.IsTuple a its.toArray from p) (x:=u) (by simpa using hu) fun h' st' sb=>?_;have I1:Inv X Z σ H { s with heap:=h' }:=I.turned (t':=s.toks) (fun b o hb e=>(sb.2 b hb).trans e) f0 f1 f3 f4 f5;obtain⟨o,e,c,d⟩:=id st';exact⟨u,rfl,a9P (s:={ s with heap:=h' }) e c d (by decide) ⟨x,H,I1,ru,⟨rfl,fun ys hy=>by rw[I.tuple_inj hy hq];exact hx⟩,st',fun b hb=>(hf b hb).1⟩⟩
 done:=by
  intro X hP hw hK hc i Z s σ H E I hf st hg;subst hP hw hK;obtain⟨xs,hq,hx⟩:=hg;obtain⟨its,rv,p,hz⟩:=I.tuple hq;obtain⟨f0,f1,f2,f3,f4,f5⟩:=hf it (by simp);have hl:=rv.length;exact wpAny_pyNext_tuple_end (I.ok.hd hc) st (show s.heap.IsTuple a its.toArray from p) (by simp;omega) fun h' eb=>⟨rfl,I.turned (t':=s.toks) (fun b o hb e=>eb b o hb e) f0 f1 f3 f4 f5⟩
 self:=fun _ _ _ _ _ st h=>wpAny_pyIter_tupleiter st h
theorem a8j {P:Program}{w:World}{K:Fg0}{tg:Expr}(it:Addr)(lo:Int)(n:Nat):b1S P w K tg (Itr lo n) [it] it (fun i h=>IsRangeIter h it (lo+(i:Nat) * 1) ((n:Int)-(i:Nat)) 1) where
 mem:=by simp
 obj:=fun i h st b hb=>by
  have e:b=it:=by simpa using hb
  subst e;exact⟨_,st,fun v z=>by
   have z':Data.fields _=Data.cell v:=z;cases z'⟩
 keep:=fun i h h' st k=>k it (by simp) _ st
 item:=by
  intro X hP hw hK hc i Z s σ H E I hf st hg;subst hP hw hK;obtain⟨f0,f1,f2,f3,f4,f5⟩:=hf it (by simp);have W:=Walks.range (prog:=X.prog) (w:=X.w) (I.ok.hd hc) it lo 1 n;refine W.item i s _ _ hg st fun v h' tk hv st' kk=>?_;obtain⟨t,rfl⟩:=hv;have I1:Inv X Z σ H { s with heap:=h',toks:=tk }:=I.turned (fun b o hb e=>kk b o (by simpa using hb) e) f0 f1 f3 f4 f5;refine⟨_,rfl,a9P (s:={ s with heap:=h',toks:=tk }) (n:="range_iterator") st' rfl rfl (by decide) ⟨.int (lo+i),H,I1,⟨t,?_⟩,⟨rfl,rfl⟩,st',fun b hb=>(hf b hb).1⟩⟩;rw[Int.mul_one]
 done:=by
  intro X hP hw hK hc i Z s σ H E I hf st hg;subst hP hw hK;obtain⟨f0,f1,f2,f3,f4,f5⟩:=hf it (by simp);exact wpAny_pyNext_range_end (I.ok.hd hc) st (by have:n<=i:=hg;omega) fun h' eb=>⟨rfl,I.turned (t':=s.toks) (fun b o hb e=>eb b o hb e) f0 f1 f3 f4 f5⟩
 self:=fun _ _ _ _ _ st h=>wpAny_pyIter_rangeiter st h
section
variable {X:Cx}{tg:Expr}
def b7T (K:Fg0)(tl:TE):TI:=fun σ H R=>tl σ H fun x H1=>∃a,x=.ref a/\(∃xs,SqL K H1 a xs)/\R (Itl K a) H1
def iTup (K:Fg0)(tl:TE):TI:=fun σ H R=>tl σ H fun x H1=>∃a,x=.ref a/\(∃xs,SqT K H1 a xs)/\R (Itt K a) H1
theorem a0S {l:Expr}{tl:TE}(hl:PE X l tl):PI X tg l (b7T X.K tl):=by
 intro Z s σ H R I h;refine thn (hl Z s σ H _ I h) fun v s1 ⟨x,H1,I1,r1,q1⟩=>?_;obtain⟨a,e,⟨xs,hq⟩,q⟩:=q1;subst e;cases r1;obtain⟨its,rv,p,hz⟩:=I1.list hq;refine wpAny_pyIter_list p.isList ?_;refine⟨s1.heap.objs.size,[s1.heap.objs.size],_,_,H1,rfl,I1.kept (t':=s1.toks) fun b o e=>hP0 _ e,a9O a _,⟨_,hS0 _ rfl,rfl,rfl⟩,fun b hb=>?_,q⟩;have e:b=s1.heap.objs.size:=by simpa using hb
 subst e;exact I1.fpOk (nR0 _) (I1.hok.fresh (nR0 _))
theorem b2M {l:Expr}{tl:TE}(hl:PE X l tl):PI X tg l (iTup X.K tl):=by
 intro Z s σ H R I h;refine thn (hl Z s σ H _ I h) fun v s1 ⟨x,H1,I1,r1,q1⟩=>?_;obtain⟨a,e,⟨xs,hq⟩,q⟩:=q1;subst e;cases r1;obtain⟨its,rv,p,hz⟩:=I1.tuple hq;refine wpAny_pyIter_tuple (show s1.heap.IsTuple a its.toArray from p) ?_;refine⟨s1.heap.objs.size,[s1.heap.objs.size],_,_,H1,rfl,I1.kept (t':=s1.toks) fun b o e=>hP0 _ e,a8l a _,⟨_,hS0 _ rfl,rfl,rfl⟩,fun b hb=>?_,q⟩;have e:b=s1.heap.objs.size:=by simpa using hb
 subst e;exact I1.fpOk (nR0 _) (I1.hok.fresh (nR0 _))
theorem b1N {Z:List (Addr×Obj)}{σ:St}{H:Hp}{s:Shared}{R:It->Hp->Prop}{E:Vs0}{lo hi:Int}{t u v:Tok}{tk:Nat}(I:Inv X Z σ H s)(h1:-(2 ^ 62)<=lo)(h2:lo<2 ^ 62)(h3:-(2 ^ 62)<=hi)(h4:hi<2 ^ 62)
  (q:R (Itr lo (hi-lo).toNat) H):wpAny (model X.prog X.w) X.A (pyIter (.ref s.heap.objs.size)) (PIE X Z σ tg R) E { s with heap:=s.heap.push { cls:=.type "range",data:=.fields #[.int lo t,.int hi u,.int 1 v] },toks:=tk }:=by
 refine wpAny_pyIter_range (IsRange.new ..) (small_one h1 h2 h3 h4) ?_;have I1:Inv X Z σ H { s with heap:=s.heap.push { cls:=.type "range",data:=.fields #[.int lo t,.int hi u,.int 1 v] },toks:=tk }:=I.kept fun b o e=>hP0 _ e;refine⟨(s.heap.push { cls:=.type "range",data:=.fields #[.int lo t,.int hi u,.int 1 v] }).objs.size,[(s.heap.push { cls:=.type "range",data:=.fields #[.int lo t,.int hi u,.int 1 v] }).objs.size],_,_,H,rfl,
  I1.kept (t':=tk) fun b o e=>hP0 _ e,a8j _ lo (hi-lo).toNat,?_,fun b hb=>?_,q⟩
 ·have e1:lo+((0:Nat):Int) * 1=lo:=by simp
  have e2:(((hi-lo).toNat:Nat):Int)-((0:Nat):Int)=Builtin.Range.rangeSize lo hi 1:=by rw[rangeSize_one];split<;>omega
  show IsRangeIter _ _ (lo+((0:Nat):Int) * 1) ((((hi-lo).toNat:Nat):Int)-((0:Nat):Int)) 1;rw[e1,e2];exact hS0 _ rfl
 ·have e:b=(s.heap.push { cls:=.type "range",data:=.fields #[.int lo t,.int hi u,.int 1 v] }).objs.size:=by simpa using hb
  subst e;exact I1.fpOk (nR0 _) (I1.hok.fresh (nR0 _))
def b7z (ta:TA):TI:=fun σ H R=>ta σ H fun vs H1=>∃j:Int,vs=[.int j]/\-(2 ^ 62)<=j/\j<2 ^ 62/\R (Itr 0 j.toNat) H1
theorem a2a {a:Expr}{ta:TA}{p pos:Pos}(hg:Gl X "range")(hm:X.mg "range"=none)(ha:PA X [a] ta)(hs:starEach [a] X.env=[(false,eval a X.env)]:=by rfl):PI X tg (.Call (.Name "range" p) [a] [] pos) (b7z ta):=by
 intro Z s σ H R I h;refine Call_ (a3P I hg hm boot_range (PyProof.Rows.callWith_type1 (thn (ha pos Z s σ H _ I h) fun us s1 ⟨vs,H1,I1,r1,q1⟩=>?_) hs rfl));obtain⟨j,e,q1,q2,q⟩:=q1;subst e;cases r1 with
 |cons r rr=>
  cases rr;obtain⟨t,rfl⟩:=r;exact call_range_1 (b1N I1 (by omega) (by omega) q1 q2 (by simpa using q))
def tFor (wi:TI)(g:TG)(tb:TS):TS:=fun D σ H=>wi σ H fun J H1=>∃W:Nat->Nat->St->Hp->Prop,(∃m,W 0 m σ H1)/\∀i m σ H,W i m σ H →
 (J.stop i H/\D.nx σ H)\/(J.go i H/\∃N:St->Hp->Prop,(∀σ' H',N σ' H'->∃m',m'<m/\W (i+1) m' σ' H')/\∀x H',J.yld i H x H'->g x σ H' fun σ2 H2=>tb { D with nx:=N,ct:=N,bk:=D.nx } σ2 H2)
def a5T (fp:List Addr)(h:Heap):List (Addr×Obj):=fp.filterMap fun b=>(h.get? b).map fun o=>(b,o)
theorem a2p {fp:List Addr}{h:Heap}{b:Addr}{o:Obj}(hb:b∈fp)(e:h.get? b=some o):(b,o)∈a5T fp h:=List.mem_filterMap.mpr ⟨b,hb,by rw[e];rfl⟩
theorem a9L {fp:List Addr}{h:Heap}{p:Addr×Obj}(hp:p∈a5T fp h):p.1∈fp/\h.get? p.1=some p.2:=by
 obtain⟨b,hb,e⟩:=List.mem_filterMap.mp hp;cases q:h.get? b with
 |none=>rw[q] at e;cases e
 |some o=>
  rw[q] at e;have e':(b,o)=p:=Option.some.inj e;subst e';exact⟨hb,q⟩
theorem Inv.pinned {Z:List (Addr×Obj)}{σ:St}{H:Hp}{s:Shared}{fp:List Addr}(I:Inv X Z σ H s)(hf:∀b∈fp,a8w X Z H b)(ho:∀b∈fp,∃o,s.heap.get? b=some o/\∀v,o.data≠.cell v):Inv X (Z++a5T fp s.heap) σ H s:=
 I.pins_of fun p hp=>(mB0.mp hp).elim (fun z=>I.pin p (List.mem_append_right _ z)) fun z=>by
  obtain⟨hb,e⟩:=a9L z;obtain⟨f0,f1,f2,_⟩:=hf p.1 hb;obtain⟨o,e',d⟩:=ho p.1 hb;rw[e] at e';cases e';exact⟨e,f0,f1,f2,d⟩
theorem Inv.unpinned {Z pl:List (Addr×Obj)}{σ:St}{H:Hp}{s:Shared}(I:Inv X (Z++pl) σ H s):Inv X Z σ H s:=I.pins_of fun p hp=>I.pin p (List.mem_append_right _ (List.mem_append_left _ hp))
theorem a0X {iter:Expr}{body:List Stmt}{wi:TI}{g:TG}{tb:TS}{pos:Pos}(hp:PassesOwn (model X.prog X.w) X.A X.env X.xe)(hc:X.calm=true)(hi:PI X tg iter wi)(hg:PG X tg g)(hb:PSs X body tb)
  (hs:∀x,foldedSetIterable iter X.env x=pure x:=by intro _;rfl):PS X (.For tg iter body [] pos) (tFor wi g tb):=by
 intro Z s σ H D I h;refine wpAny_For (thn (hi Z s σ H _ I h) fun v s1 h1=>thn h1 fun itv s2 h2=>?_) hs;obtain⟨it,fp,tn,J,H2,e,I2,T,st2,f2,W,⟨m0,w0⟩,turn⟩:=h2;subst e;have stat:∀{H':Hp},(∀b∈fp,H' b=none)->∀b∈fp,a8w X Z H' b:=fun hn b hb=>⟨hn b hb,(f2 b hb).2⟩;refine codeAny_forLoop_any (fun n s'=>∃i σ' H',Inv X Z σ' H' s'/\tn i s'.heap/\(∀b∈fp,H' b=none)/\W i n σ' H') ?_ m0 ⟨0,σ,H2,I2,st2,fun b hb=>(f2 b hb).1,w0⟩;rintro n s3 ⟨i,σ3,H3,I3,st3,fr3,w3⟩;rcases turn i n σ3 H3 w3 with ⟨stop,qn⟩ |⟨go,N,hN,step⟩
 ·refine wpAny_passesOwn hp (thn (T.done X rfl rfl rfl hc i Z s3 σ3 H3 X.xe I3 (stat fr3) st3 stop) fun r s4 ⟨hr,I4⟩=>?_)
  subst hr;exact wpAny_execs_nil ⟨σ3,H3,I4,qn⟩
 ·refine wpAny_passesOwn hp (thn (T.item X rfl rfl rfl hc i Z s3 σ3 H3 X.xe I3 (stat fr3) st3 go) fun r s4 ⟨u,hr,h4⟩=>?_)
  subst hr;refine wpAny_passesOwn hp (thn h4 fun _ s5 ⟨x,H5,I5,r5,y5,st5,fr5⟩=>?_);have I5':=I5.pinned (stat fr5) (T.obj _ _ st5);refine wpAny_passesOwn hp (thn (hg _ s5 σ3 H5 x u _ I5' r5 (step x H5 y5)) fun _ s6 ⟨σ6,H6,I6,q6⟩=>?_);refine wpAny_passesOwn hp (thn (hb _ s6 σ6 H6 _ I6 q6) fun f s7 q7=>?_);have again:∀{σ7:St} {H7:Hp},Inv X (Z++a5T fp s5.heap) σ7 H7 s7->N σ7 H7->∃m,m<n/\∃i σ' H',Inv X Z σ' H' s7/\tn i s7.heap/\(∀b∈fp,H' b=none)/\W i m σ' H':=fun {σ7 H7} I7 n7=>by
   obtain⟨m',hm,w7⟩:=hN σ7 H7 n7;refine⟨m',hm,i+1,σ7,H7,I7.unpinned,T.keep _ _ _ st5 fun b hb o e=>(I7.pin (b,o) (List.mem_append_right _ (List.mem_append_right _ (a2p hb e)))).1,fun b hb=>?_,w7⟩;obtain⟨o,e,d⟩:=T.obj _ _ st5 b hb;exact(I7.pin (b,o) (List.mem_append_right _ (List.mem_append_right _ (a2p hb e)))).2.1
  cases f with
  |next=>obtain⟨σ7,H7,I7,n7⟩:=q7;exact again I7 n7
  |cont=>obtain⟨σ7,H7,I7,n7⟩:=q7;exact again I7 n7
  |brk=>obtain⟨σ7,H7,I7,q7⟩:=q7;exact⟨σ7,H7,I7.unpinned,q7⟩
  |ret v=>obtain⟨x7,σ7,H7,I7,r7,q7⟩:=q7;exact⟨x7,σ7,H7,I7.unpinned,r7,q7⟩
end
theorem a0W {K:Fg0}{a:Addr}{xs:List V}{g:TG}{tb:TS}{D:a3y}{σ:St}{H:Hp}(Pv:Nat->St->Hp->Prop)(h0:Pv 0 σ H)(hl:∀i σ H,i<=xs.length->Pv i σ H->SqL K H a xs)
  (hs:∀i x σ H,xs[i]? =some x->Pv i σ H->g x σ H fun σ2 H2=>tb { D with nx:=Pv (i+1),ct:=Pv (i+1),bk:=D.nx } σ2 H2) (hd:∀σ H,Pv xs.length σ H->D.nx σ H) :
  ∃W:Nat->Nat->St->Hp->Prop,(∃m,W 0 m σ H)/\∀i m σ H,W i m σ H →
   ((Itl K a).stop i H/\D.nx σ H)\/((Itl K a).go i H/\∃N:St->Hp->Prop,(∀σ' H',N σ' H'->∃m',m'<m/\W (i+1) m' σ' H')/\∀x H',(Itl K a).yld i H x H'->g x σ H' fun σ2 H2=>tb { D with nx:=N,ct:=N,bk:=D.nx } σ2 H2):=by
 refine⟨fun i m σ H=>m=xs.length-i/\i<=xs.length/\Pv i σ H,⟨xs.length,by simp,zL0 _,h0⟩,?_⟩;rintro i m σ H ⟨rfl,hi,p⟩;have q:=hl i σ H hi p
 by_cases hlt:i<xs.length
 ·refine .inr ⟨⟨xs,xs[i],q,by simp[hlt]⟩,Pv (i+1),fun σ' H' p'=>⟨xs.length-(i+1),by omega,rfl,hlt,p'⟩,fun x H' y=>?_⟩
  obtain⟨e,y⟩:=y;subst e;exact hs i x σ _ (y xs q) p
 ·have e:i=xs.length:=by omega
  subst e;exact .inl ⟨⟨xs,q,nR0 _⟩,hd σ H p⟩
theorem b3V {K:Fg0}{a:Addr}{xs:List V}{g:TG}{tb:TS}{D:a3y}{σ:St}{H:Hp}(Pv:Nat->St->Hp->Prop)(h0:Pv 0 σ H)(hl:∀i σ H,i<=xs.length->Pv i σ H->SqT K H a xs)
  (hs:∀i x σ H,xs[i]? =some x->Pv i σ H->g x σ H fun σ2 H2=>tb { D with nx:=Pv (i+1),ct:=Pv (i+1),bk:=D.nx } σ2 H2) (hd:∀σ H,Pv xs.length σ H->D.nx σ H) :
  ∃W:Nat->Nat->St->Hp->Prop,(∃m,W 0 m σ H)/\∀i m σ H,W i m σ H →
   ((Itt K a).stop i H/\D.nx σ H)\/((Itt K a).go i H/\∃N:St->Hp->Prop,(∀σ' H',N σ' H'->∃m',m'<m/\W (i+1) m' σ' H')/\∀x H',(Itt K a).yld i H x H'->g x σ H' fun σ2 H2=>tb { D with nx:=N,ct:=N,bk:=D.nx } σ2 H2):=by
 refine⟨fun i m σ H=>m=xs.length-i/\i<=xs.length/\Pv i σ H,⟨xs.length,by simp,zL0 _,h0⟩,?_⟩;rintro i m σ H ⟨rfl,hi,p⟩;have q:=hl i σ H hi p
 by_cases hlt:i<xs.length
 ·refine .inr ⟨⟨xs,xs[i],q,by simp[hlt]⟩,Pv (i+1),fun σ' H' p'=>⟨xs.length-(i+1),by omega,rfl,hlt,p'⟩,fun x H' y=>?_⟩
  obtain⟨e,y⟩:=y;subst e;exact hs i x σ _ (y xs q) p
 ·have e:i=xs.length:=by omega
  subst e;exact .inl ⟨⟨xs,q,nR0 _⟩,hd σ H p⟩
theorem a3X {lo:Int}{n:Nat}{g:TG}{tb:TS}{D:a3y}{σ:St}{H:Hp}(Pv:Nat->St->Hp->Prop)(h0:Pv 0 σ H)
  (hs:∀i σ H,i<n->Pv i σ H->g (.int (lo+i)) σ H fun σ2 H2=>tb { D with nx:=Pv (i+1),ct:=Pv (i+1),bk:=D.nx } σ2 H2) (hd:∀σ H,Pv n σ H->D.nx σ H) :
  ∃W:Nat->Nat->St->Hp->Prop,(∃m,W 0 m σ H)/\∀i m σ H,W i m σ H →
   ((Itr lo n).stop i H/\D.nx σ H)\/((Itr lo n).go i H/\∃N:St->Hp->Prop,(∀σ' H',N σ' H'->∃m',m'<m/\W (i+1) m' σ' H')/\∀x H',(Itr lo n).yld i H x H'->g x σ H' fun σ2 H2=>tb { D with nx:=N,ct:=N,bk:=D.nx } σ2 H2):=by
 refine⟨fun i m σ H=>m=n-i/\i<=n/\Pv i σ H,⟨n,by simp,zL0 _,h0⟩,?_⟩;rintro i m σ H ⟨rfl,hi,p⟩
 by_cases hlt:i<n
 ·refine .inr ⟨hlt,Pv (i+1),fun σ' H' p'=>⟨n-(i+1),by omega,rfl,hlt,p'⟩,fun x H' y=>?_⟩
  obtain⟨e,y⟩:=y;subst e y;exact hs i σ _ hlt p
 ·have e:i=n:=by omega
  subst e;exact .inl ⟨nR0 _,hd σ H p⟩
theorem b1F {c:TT}{tb:TS}{D:a3y}{σ:St}{H:Hp}(Pv:St->Hp->Prop)(μ:St->Hp->Nat)(h0:Pv σ H)
  (hs:∀σ H,Pv σ H->c σ H fun b H1=>if b=true then tb { D with nx:=fun σ' H'=>Pv σ' H'/\μ σ' H'<μ σ H,ct:=fun σ' H'=>Pv σ' H'/\μ σ' H'<μ σ H,bk:=D.nx } σ H1 else D.nx σ H1)
  (mono:∀σ H Q Q',(∀b H1,Q b H1->Q' b H1)->c σ H Q->c σ H Q'):b2X c tb D σ H:=by
 refine⟨fun m σ H=>m=μ σ H/\Pv σ H,⟨_,rfl,h0⟩,?_⟩;rintro m σ H ⟨rfl,p⟩;refine mono σ H _ _ (fun b H1 q=>?_) (hs σ H p);cases b with
 |true=>exact⟨_,fun σ' H' ⟨p',l⟩=>⟨_,l,rfl,p'⟩,q⟩
 |false=>exact q
abbrev R2:=V->V->Hp->VK->Prop
def OpR (X:Cx)(f:Value->Value->Sem Value)(r:R2):Prop:=
 ∀(Z:List (Addr×Obj)) (s:Shared) (σ:St) (H:Hp) (x y:V) (v u:Value) (Q:VK),Inv X Z σ H s->a0Y x v->a0Y y u->r x y H Q →
  wpAny (model X.prog X.w) X.A (f v u) (EP X Z σ Q) X.xe s
def UnR (X:Cx)(f:Value->Sem Value)(r:V->Hp->VK->Prop):Prop:=
 ∀(Z:List (Addr×Obj)) (s:Shared) (σ:St) (H:Hp) (x:V) (v:Value) (Q:VK),Inv X Z σ H s->a0Y x v->r x H Q →
  wpAny (model X.prog X.w) X.A (f v) (EP X Z σ Q) X.xe s
def a1r (X:Cx)(f:Value)(r:List V->Hp->VK->Prop):Prop:=
 ∀(Z:List (Addr×Obj)) (s:Shared) (σ:St) (H:Hp) (xs:List V) (us:List Value) (Q:VK),Inv X Z σ H s->a1b xs us->r xs H Q →
  wpAny (model X.prog X.w) X.A (call f us) (EP X Z σ Q) X.xe s
def tOp (r:R2)(ta tb:TE):TE:=fun σ H Q=>ta σ H fun x H1=>tb σ H1 fun y H2=>r x y H2 Q
def tUn (r:V->Hp->VK->Prop)(ta:TE):TE:=fun σ H Q=>ta σ H fun x H1=>r x H1 Q
def rI (C:Int->Int->Prop)(g:Int->Int->V):R2:=fun x y H Q=>∃i j,x=.int i/\y=.int j/\C i j/\Q (g i j) H
def rI0 (g:Int->Int->V):R2:=fun x y H Q=>∃i j,x=.int i/\y=.int j/\Q (g i j) H
def rU (g:Int->V):V->Hp->VK->Prop:=fun x H Q=>∃i,x=.int i/\Q (g i) H
section
variable {X:Cx}{a b c:Expr}{ta tb tc:TE}{pos:Pos}
theorem b7l (ha:PE X a ta)(hb:PE X b tb){Z:List (Addr×Obj)}{s:Shared}{σ:St}{H:Hp}{R:V->V->Hp->Prop}(I:Inv X Z σ H s)
  (h:ta σ H fun x H1=>tb σ H1 fun y H2=>R x y H2) {Q:Vs0} {f:Value->Value->Sem Value}
  (hf:∀v u s2 x y H2,Inv X Z σ H2 s2->a0Y x v->a0Y y u->R x y H2->wpAny (model X.prog X.w) X.A (f v u) Q X.xe s2) :
  wpAny (model X.prog X.w) X.A (eval a X.env) (fun v s₁=>wpAny (model X.prog X.w) X.A (eval b X.env) (fun u s₂=>wpAny (model X.prog X.w) X.A (f v u) Q X.xe s₂) X.xe s₁) X.xe s:=by
 refine thn (ha Z s σ H _ I h) fun v s1 ⟨x,H1,I1,r1,q1⟩=>?_;refine thn (hb Z s1 σ H1 _ I1 q1) fun u s2 ⟨y,H2,I2,r2,q2⟩=>?_;exact hf v u s2 x y H2 I2 r1 r2 q2
theorem a0B {op:Operator}{r:R2}(ho:OpR X (binaryOp op) r)(ha:PE X a ta)(hb:PE X b tb):PE X (.BinOp a op b pos) (tOp r ta tb):=by
 intro Z s σ H Q I h;exact wpAny_BinOp (b7l ha hb I h fun v u s2 x y H2 I2 rx ry q=>ho Z s2 σ H2 x y v u Q I2 rx ry q)
theorem b7Y {op:UnaryOp}{r:V->Hp->VK->Prop}(ho:UnR X (unaryOp op) r)(ha:PE X a ta):PE X (.UnaryOp op a pos) (tUn r ta):=by
 intro Z s σ H Q I h;exact UnaryOp_ (thn (ha Z s σ H _ I h) fun v s1 ⟨x,H1,I1,r1,q1⟩=>ho Z s1 σ H1 x v Q I1 r1 q1)
theorem opI {f:Value->Value->Sem Value}{C:Int->Int->Prop}{g:Int->Int->Int}
  (rule:∀(i j:Int) (t u:Tok) (s:Shared) (Q:Vs0) (E:Vs0),C i j->Q (.int (g i j) s.toks) { s with toks:=s.toks+1 }->wpAny (model X.prog X.w) X.A (f (.int i t) (.int j u)) Q E s) :
  OpR X f (rI C fun i j=>.int (g i j)):=by
 intro Z s σ H x y v u Q I rx ry h;obtain⟨i,j,rfl,rfl,hc,q⟩:=h;obtain⟨t,rfl⟩:=rx;obtain⟨t',rfl⟩:=ry;exact rule i j t t' s _ _ hc ⟨.int (g i j),H,I.tok _,⟨_,rfl⟩,q⟩
theorem b8s {f:Value->Value->Sem Value}{g:Int->Int->Int}
  (rule:∀(i j:Int) (t u:Tok) (s:Shared) (Q:Vs0) (E:Vs0),Q (.int (g i j) s.toks) { s with toks:=s.toks+1 }->wpAny (model X.prog X.w) X.A (f (.int i t) (.int j u)) Q E s) :
  OpR X f (rI0 fun i j=>.int (g i j)):=by
 intro Z s σ H x y v u Q I rx ry h;obtain⟨i,j,rfl,rfl,q⟩:=h;obtain⟨t,rfl⟩:=rx;obtain⟨t',rfl⟩:=ry;exact rule i j t t' s _ _ ⟨.int (g i j),H,I.tok _,⟨_,rfl⟩,q⟩
theorem b7Q {f:Value->Value->Sem Value}{g:Int->Int->Bool}
  (rule:∀(i j:Int) (t u:Tok) (s:Shared) (Q:Vs0) (E:Vs0),Q (.bool (g i j)) s->wpAny (model X.prog X.w) X.A (f (.int i t) (.int j u)) Q E s) :
  OpR X f (rI0 fun i j=>.bl (g i j)):=by
 intro Z s σ H x y v u Q I rx ry h;obtain⟨i,j,rfl,rfl,q⟩:=h;obtain⟨t,rfl⟩:=rx;obtain⟨t',rfl⟩:=ry;exact rule i j t t' s _ _ ⟨.bl (g i j),H,I,rfl,q⟩
def CDiv (i j:Int):Prop:=0<j/\j<1073741824
def CPow (i j:Int):Prop:=0<=j/\j<=1000000/\i.natAbs<2 ^ 64
def b7J (i j:Int):Prop:=(-(2 ^ 64)<i/\i<2 ^ 64)\/(-(2 ^ 64)<j/\j<2 ^ 64)
theorem b7J.ok {i j:Int}(h:b7J i j):IntMulOk i j:=by
 rcases h with ⟨h1,h2⟩ |⟨h1,h2⟩
 ·exact .of_left (intBits_le_64 h1 h2)
 ·exact .of_right (intBits_le_64 h1 h2)
theorem two_pow_nn (k:Nat):(0:Int)<=2 ^ k:=by
 rw[two_pow_cast];exact Int.natCast_nonneg _
theorem a1Q:OpR X (binaryOp .Add) (rI0 fun i j=>.int (i+j)):=b8s fun _ _ _ _ _ _ _ q=>add_int q
theorem a7k:OpR X (binaryOp .Sub) (rI0 fun i j=>.int (i-j)):=b8s fun _ _ _ _ _ _ _ q=>sub_int q
theorem b0H:OpR X (binaryOp .Mult) (rI b7J fun i j=>.int (i * j)):=opI fun _ _ _ _ _ _ _ hc q=>mul_int q hc.ok
theorem a1w:OpR X (binaryOp .FloorDiv) (rI CDiv fun i j=>.int (i/j)):=opI fun i j _ _ _ _ _ hc q=>by
 have h1:(0:Int)<j:=hc.1;have h2:j<1073741824:=hc.2;exact floordiv_int (by omega) (by rw[Int.fdiv_eq_ediv_of_nonneg i (by omega)];exact q) (.inl (PyProof.noPylong_small (by omega)))
theorem a1m:OpR X (binaryOp .Mod) (rI (fun _ j=>0<j) fun i j=>.int (i%j)):=opI fun i j _ _ _ _ _ hc q=>by
 have h1:(0:Int)<j:=hc;exact mod_int' (by omega) (by rw[Int.fmod_eq_emod_of_nonneg i (by omega)];exact q)
theorem a9S:OpR X (binaryOp .Pow) (rI CPow fun i j=>.int (i ^ j.toNat)):=opI fun _ _ _ _ _ _ _ hc q=>pow_int_small hc.1 hc.2.1 hc.2.2 q
theorem unI {f:Value->Sem Value}{g:Int->Int}
  (rule:∀(i:Int) (t:Tok) (s:Shared) (Q:Vs0) (E:Vs0),Q (.int (g i) s.toks) { s with toks:=s.toks+1 }->wpAny (model X.prog X.w) X.A (f (.int i t)) Q E s) :
  UnR X f (rU fun i=>.int (g i)):=by
 intro Z s σ H x v Q I rx h;obtain⟨i,rfl,q⟩:=h;obtain⟨t,rfl⟩:=rx;exact rule i t s _ _ ⟨.int (g i),H,I.tok _,⟨_,rfl⟩,q⟩
theorem b5n:UnR X (unaryOp .USub) (rU fun i=>.int (-i)):=unI fun _ _ _ _ _ q=>neg_int q
def b8o:V->V->Bool
 | .non,.non=>true | .non,.int _=>true | .int _,.non=>true | .non,.bl _=>true | .bl _,.non=>true | .non,.str _=>true | .str _,.non=>true
 | .int _,.int _=>true | .bl _,.bl _=>true | .str _,.str _=>true | .byt _,.byt _=>true
 | .int _,.str _=>true | .str _,.int _=>true | .bl _,.str _=>true | .str _,.bl _=>true
 |_,_=>false
def rEq:R2:=fun x y H Q=>b8o x y=true/\Q (.bl (decide (x=y))) H
def rNe:R2:=fun x y H Q=>b8o x y=true/\Q (.bl (!decide (x=y))) H
theorem a9g {i j:Int}:decide (V.int i=V.int j)=(i==j):=by
 rw[Bool.eq_iff_iff];simp
theorem b2I {i j:Bool}:decide (V.bl i=V.bl j)=(i==j):=by
 rw[Bool.eq_iff_iff];simp
theorem b0E {i j:Str}:decide (V.str i=V.str j)=(i==j):=by
 rw[Bool.eq_iff_iff];simp
theorem a8D {i j:Array UInt8}:decide (V.byt i=V.byt j)=(i.toList==j.toList):=by
 rw[Bool.eq_iff_iff];cases i;cases j;simp
theorem a0O {Z:List (Addr×Obj)}{σ:St}{H:Hp}{s:Shared}{Q:VK}{k k':Bool}(I:Inv X Z σ H s)(q:Q (.bl k) H)(e:k=k'):EP X Z σ Q (.bool k') s:=by
 subst e;exact⟨.bl k,H,I,rfl,q⟩
theorem a1V:OpR X (compareOp .Eq) rEq:=by
 intro Z s σ H x y v u Q I rx ry h;obtain⟨hs,q⟩:=h;cases x with
 |non=>
  cases rx;cases y with
  |non=>cases ry;exact PySem.EqNone.eq_none_none (a0O I q (by simp))
  |bl j=>cases ry;exact PySem.EqNone.eq_none_bool (a0O I q (by simp))
  |int j=>obtain⟨t',rfl⟩:=ry;exact PySem.EqNone.eq_none_int (a0O I q (by simp))
  |str j=>obtain⟨t',rfl⟩:=ry;exact PySem.EqNone.eq_none_str (a0O I q (by simp))
  |_=>exact absurd (show false=true from hs) bF0
 |bl i=>
  cases rx;cases y with
  |non=>cases ry;exact PySem.EqNone.eq_bool_none (a0O I q (by simp))
  |bl j=>cases ry;exact eq_bool (a0O I q b2I)
  |str j=>obtain⟨t',rfl⟩:=ry;exact PySem.EqMixed.eq_bool_str (a0O I q (by simp))
  |_=>exact absurd (show false=true from hs) bF0
 |int i=>
  obtain⟨t,rfl⟩:=rx;cases y with
  |non=>cases ry;exact PySem.EqNone.eq_int_none (a0O I q (by simp))
  |int j=>obtain⟨t',rfl⟩:=ry;exact eq_int (a0O I q a9g)
  |str j=>obtain⟨t',rfl⟩:=ry;exact PySem.EqMixed.eq_int_str (a0O I q (by simp))
  |_=>exact absurd (show false=true from hs) bF0
 |str i=>
  obtain⟨t,rfl⟩:=rx;cases y with
  |non=>cases ry;exact PySem.EqNone.eq_str_none (a0O I q (by simp))
  |bl j=>cases ry;exact PySem.EqMixed.eq_str_bool (a0O I q (by simp))
  |int j=>obtain⟨t',rfl⟩:=ry;exact PySem.EqMixed.eq_str_int (a0O I q (by simp))
  |str j=>obtain⟨t',rfl⟩:=ry;exact eq_str (a0O I q b0E)
  |_=>exact absurd (show false=true from hs) bF0
 |byt i=>
  obtain⟨t,rfl⟩:=rx;cases y with
  |byt j=>obtain⟨t',rfl⟩:=ry;exact PySem.W.eq_bytes (a0O I q a8D)
  |_=>exact absurd (show false=true from hs) bF0
 |_=>cases y<;>exact absurd (show false=true from hs) bF0
theorem b2d:OpR X (compareOp .NotEq) rNe:=by
 intro Z s σ H x y v u Q I rx ry h;obtain⟨hs,q⟩:=h;cases x with
 |non=>
  cases rx;cases y with
  |non=>cases ry;exact PySem.EqNone.ne_none_none (a0O I q (by simp))
  |bl j=>cases ry;exact PySem.EqNone.ne_none_bool (a0O I q (by simp))
  |int j=>obtain⟨t',rfl⟩:=ry;exact PySem.EqNone.ne_none_int (a0O I q (by simp))
  |str j=>obtain⟨t',rfl⟩:=ry;exact PySem.EqNone.ne_none_str (a0O I q (by simp))
  |_=>exact absurd (show false=true from hs) bF0
 |bl i=>
  cases rx;cases y with
  |non=>cases ry;exact PySem.EqNone.ne_bool_none (a0O I q (by simp))
  |bl j=>cases ry;exact ne_bool (a0O I q (congrArg not b2I))
  |str j=>obtain⟨t',rfl⟩:=ry;exact PySem.EqMixed.ne_bool_str (a0O I q (by simp))
  |_=>exact absurd (show false=true from hs) bF0
 |int i=>
  obtain⟨t,rfl⟩:=rx;cases y with
  |non=>cases ry;exact PySem.EqNone.ne_int_none (a0O I q (by simp))
  |int j=>obtain⟨t',rfl⟩:=ry;exact ne_int (a0O I q (congrArg not a9g))
  |str j=>obtain⟨t',rfl⟩:=ry;exact PySem.EqMixed.ne_int_str (a0O I q (by simp))
  |_=>exact absurd (show false=true from hs) bF0
 |str i=>
  obtain⟨t,rfl⟩:=rx;cases y with
  |non=>cases ry;exact PySem.EqNone.ne_str_none (a0O I q (by simp))
  |bl j=>cases ry;exact PySem.EqMixed.ne_str_bool (a0O I q (by simp))
  |int j=>obtain⟨t',rfl⟩:=ry;exact PySem.EqMixed.ne_str_int (a0O I q (by simp))
  |str j=>obtain⟨t',rfl⟩:=ry;exact ne_str (a0O I q (congrArg not b0E))
  |_=>exact absurd (show false=true from hs) bF0
 |byt i=>
  obtain⟨t,rfl⟩:=rx;cases y with
  |byt j=>obtain⟨t',rfl⟩:=ry;exact PySem.W.ne_bytes (a0O I q (congrArg not a8D))
  |_=>exact absurd (show false=true from hs) bF0
 |_=>cases y<;>exact absurd (show false=true from hs) bF0
theorem a9n:OpR X (compareOp .Lt) (rI0 fun i j=>.bl (decide (i<j))):=b7Q fun _ _ _ _ _ _ _ q=>lt_int q
theorem b7u:OpR X (compareOp .LtE) (rI0 fun i j=>.bl (decide (i<=j))):=b7Q fun _ _ _ _ _ _ _ q=>le_int q
theorem b5N:OpR X (compareOp .Gt) (rI0 fun i j=>.bl (decide (j<i))):=b7Q fun _ _ _ _ _ _ _ q=>gt_int q
theorem a6S:OpR X (compareOp .IsNot) (fun x y H Q=>y=.non/\Q (.bl (!decide (x=.non))) H):=by
 intro Z s σ H x y v u Q I rx ry h;obtain⟨rfl,q⟩:=h;cases ry;refine isnot_none_gen (a0O I q ?_);cases x<;>first
  | (cases rx;rfl)
  | (obtain⟨t,rfl⟩:=rx;rfl)
theorem a0G (b:Expr){op:CmpOp}(h:op≠.In:=by decide)(h2:op≠.NotIn:=by decide):behindInMarks op b=false:=by
 have e1:(op==CmpOp.In)=false:=by cases op<;>first |rfl |exact absurd rfl h
 have e2:(op==CmpOp.NotIn)=false:=by cases op<;>first |rfl |exact absurd rfl h2
 cases b<;>simp[behindInMarks,e1,e2]
theorem a6y {op:CmpOp}{r:R2}(ho:OpR X (compareOp op) r)(ha:PE X a ta)(hb:PE X b tb)(hm:behindInMarks op b=false):PE X (.Compare a [op] [b] pos) (tOp r ta tb):=by
 intro Z s σ H Q I h;exact wpAny_Compare1 (b7l ha hb I h fun v u s2 x y H2 I2 rx ry q=>ho Z s2 σ H2 x y v u Q I2 rx ry q) hm
def b6A (t:TE):TT:=fun σ H Q=>t σ H fun x H'=>∃k,x=.bl k/\Q k H'
theorem a0q {op:CmpOp}{r:R2}(ho:OpR X (compareOp op) r)(ha:PE X a ta)(hb:PE X b tb)(hm:behindInMarks op b=false):PT X (.Compare a [op] [b] pos) (b6A (tOp r ta tb)):=by
 intro Z s σ H Q I h;refine wpAny_isTrue_Compare1 (thn (ha Z s σ H _ I h) fun v s1 ⟨x,H1,I1,r1,q1⟩=>thn (hb Z s1 σ H1 _ I1 q1) fun u s2 ⟨y,H2,I2,r2,q2⟩=>
  thn (ho Z s2 σ H2 x y v u _ I2 r1 r2 q2) fun c s3 ⟨z,H3,I3,r3,k,e,q3⟩=>?_) hm
 subst e;cases r3;exact wpAny_truthy_bool ⟨H3,I3,q3⟩
def b5V (r r':R2)(ta tb tc:TE):TE:=fun σ H Q=>ta σ H fun x H1=>tb σ H1 fun y H2=>r x y H2 fun z H3=>∃k,z=.bl k ∧
 (if k=true then tc σ H3 fun w' H4=>r' y w' H4 Q else Q (.bl false) H3)
theorem b1c {op op':CmpOp}{r r':R2}(ho:OpR X (compareOp op) r)(ho':OpR X (compareOp op') r')(ha:PE X a ta)(hb:PE X b tb)(hc:PE X c tc)
  (hm:lastMarks [op,op'] [b,c]=false:=by with_unfolding_all rfl):PT X (.Compare a [op,op'] [b,c] pos) (b6A (b5V r r' ta tb tc)):=by
 intro Z s σ H Q I h;refine isTrue_chain (thn (ha Z s σ H _ I h) fun v s1 ⟨x,H1,I1,r1,q1⟩=>test_link (thn (hb Z s1 σ H1 _ I1 q1) fun u s2 ⟨y,H2,I2,r2,q2⟩=>
  thn (ho Z s2 σ H2 x y v u _ I2 r1 r2 q2) fun d s3 ⟨z,H3,I3,r3,k,e,q3⟩=>?_)) hm
 subst e;cases r3;refine wpAny_truthy_bool ?_;cases k with
 |false=>
  obtain⟨k',e',q'⟩:=q3;cases e';exact ite_ff ⟨H3,I3,q'⟩
 |true=>
  refine ite_tt (test_last (thn (hc Z s3 σ H3 _ I3 q3) fun w' s4 ⟨z',H4,I4,r4,q4⟩=>thn (ho' Z s4 σ H4 y z' u w' _ I4 r2 r4 q4) fun d' s5 ⟨z2,H5,I5,r5,k2,e2,q5⟩=>?_));subst e2;cases r5;exact wpAny_truthy_bool ⟨H5,I5,q5⟩
theorem a5A:(sizeLine:Nat)<2 ^ 63:=by rw[sizeLine_eq];decide
theorem a2o:OpR X (binaryOp .Add) (fun x y H Q=>∃i j,x=.str i/\y=.str j/\i.length+j.length<=sizeLine/\Q (.str (i++j)) H):=by
 intro Z s σ H x y v u Q I rx ry h;obtain⟨i,j,rfl,rfl,hz,q⟩:=h;obtain⟨t,rfl⟩:=rx;obtain⟨t',rfl⟩:=ry;exact add_str (fun t' tk=>⟨.str (i++j),H,I.tok _,⟨_,rfl⟩,q⟩) hz
theorem a1Z {x:V}{us:List Value}(r:a1b [x] us):∃u,us=[u]/\a0Y x u:=by
 cases r with
 |cons r1 r2=>cases r2;exact⟨_,rfl,r1⟩
theorem b7n {x y:V}{us:List Value}(r:a1b [x,y] us):∃u w',us=[u,w']/\a0Y x u/\a0Y y w':=by
 cases r with
 |cons r1 r2=>
  cases r2 with
  |cons r3 r4=>cases r4;exact⟨_,_,rfl,r1,r3⟩
theorem a9o:a1r X (.type "int") (fun xs H Q=>(∃i,xs=[.int i]/\Q (.int i) H)\/∃k,xs=[.bl k]/\Q (.int (if k then 1 else 0)) H):=by
 intro Z s σ H xs us Q I r h;rcases h with ⟨i,rfl,q⟩ |⟨k,rfl,q⟩
 ·obtain⟨u,rfl,t,rfl⟩:=a1Z r
  exact call_int_int ⟨.int i,H,I,⟨_,rfl⟩,q⟩
 ·obtain⟨u,rfl,r1⟩:=a1Z r
  cases r1;exact call_int_bool ⟨.int (if k then 1 else 0),H,I.tok _,⟨_,rfl⟩,q⟩
end
structure b4t (h:Heap) (x dx C:Addr) (mA:Str->Option Value):Prop where
 obj:h.get? x=some (PySem.W.instObj C dx)
 ns:h.Ns1 dx mA
 ne:dx≠x
theorem a5G {h:Heap}{dx:Addr}{mA:Str->Option Value}(n:h.Ns1 dx mA):∃od,h.get? dx=some od/\∀name,PySem.W.lookIn name od=some (mA name):=by
 obtain⟨o,es,ep,ho,hd,hk,_,hm⟩:=n;refine⟨o,ho,fun name=>?_⟩;have e:=hm name;unfold nsFind findBy at e;rw[<-Array.find?_toList] at e;unfold PySem.W.lookIn;rw[hd]
 dsimp only
 split
 ·rename_i y q
  rw[q] at e;exact congrArg some e
 ·rename_i q
  rw[q] at e;have a:es.toList.any (·.refKey)=false:=by
   rw[List.any_eq_false];intro y hy;obtain⟨z,t,hkey⟩:=hk y (Array.mem_toList_iff.mp hy);simp[DictEntry.refKey,hkey]
  have a':¬es.toList.any (·.refKey)=true:=by rw[a];exact bF0
  rw[if_neg a'];exact congrArg some e
theorem b4t.look {h:Heap}{x dx C:Addr}{mA:Str->Option Value}(I:b4t h x dx C mA):∃od,PySem.W.InstAt h x (PySem.W.instObj C dx) C (some od)/\∀name,PySem.W.lookIn name od=some (mA name):=
 let ⟨od,ho,hl⟩:=a5G I.ns
 ⟨od,⟨I.obj,rfl,rfl,ho⟩,hl⟩
section
variable {prog:Program}{w:World}{A:Around}{E:Vs0}{s:Shared}{K:Fg0}{x dx C f:Addr}{mA:Str->Option Value}{name:Str}{v:Value}
theorem b4D {expr:Bool}{Q:Vs0}(X:K.In s.heap)(I:b4t s.heap x dx C mA)(hg:PySem.W.plainGet K C name=true)(hh:PySem.W.hasDictIn K C=true)
  (ha:PySem.W.findIn K (.ref C) name=some none) (hv:mA name=some v) (hv':PySem.W.handedIn v=true) (h:Q v { s with toks:=s.toks+1 }) :
  wpAny (model prog w) A (getAttr (.ref x) name expr) Q E s:=by
 obtain⟨od,J,hl⟩:=I.look;exact PySem.W.get_value X J (PySem.W.plainGet_of hg).1 (PySem.W.findObj_own hh ha rfl (by rw[hl,hv])) hv' h
theorem b1z {pl:Sem Bool}{Q:Value×List Value->Shared->Prop}(X:K.In s.heap)(I:b4t s.heap x dx C mA)(hg:PySem.W.plainGet K C name=true)
  (hf:PySem.W.findIn K (.ref C) name=some (some (.ref f))) (ht:PySem.W.isFn K (.ref f)=true) (hv:mA name=none) (h:Q (.ref f,[.ref x]) s) :
  wpAny (model prog w) A (getMethod (.ref x) name pl) Q E s:=by
 obtain⟨od,J,hl⟩:=I.look;exact PySem.W.method_fn X J (PySem.W.plainGet_of hg).1 (PySem.W.plainGet_of hg).2 hf (beq_iff_eq.mp ht) (by show(PySem.W.lookIn name od).map (·.isSome)=some false;rw[hl,hv];rfl) h
theorem b3N {ns:List Str}{Q:Unit->Shared->Prop}(X:K.In s.heap)(I:b4t s.heap x dx C mA)
  (hs:PySem.W.findIn K (.ref C) "__setattr__"=some (some (.builtin "object.__setattr__"))) (hp:PySem.W.plainOver K C=true) (ht:PySem.W.takerIn K C name=some none) (hh:PySem.W.hasDictIn K C=true)
  (hw:PySem.Within mA ns) (hsz:ns.length<=sizeLine)
  (h:∀h',b4t h' x dx C (fun y=>if y=name then some v else mA y)->Heap.SameBut dx s.heap h'->Q () { s with heap:=h',toks:=s.toks+2 }) :
  wpAny (model prog w) A (setAttr (.ref x) name v) Q E s:=by
 obtain⟨od,J,hl⟩:=I.look;refine PySem.W.set_plain X J hs (PySem.W.osa_open (s:={ s with toks:=s.toks+1 }) (r:=none) X J hp ht fun b=>?_);obtain⟨cd,hc,hd'⟩:=PySem.W.any_some hh;have hx:s.heap.get? x=some ⟨.ref C,some dx,.plain,#[]⟩:=I.obj;refine wB0 (wP0 (wB0 (wB0 (wpAny_loadPart hx (wB0 (PySem.W.Looks.here (s:={ s with toks:=s.toks+1 }) (PySem.W.looks_clsIn X hc) ?_))))));rw[hd'];refine wP0 (a:=some dx) (wB0 (wP0 (wB0 ?_)));refine wpAny_nsSet1 (s:={ s with toks:=s.toks+1 }) I.ns fun h' hn2 hs2=>?_;obtain⟨oD,esD,epD,hoD,hdD,hcD⟩:=hn2.count (PySem.Within.cons name v hw);refine wB0 (wpAny_lookBehind hoD (by rw[hdD];exact pastItsLine_dict (Nat.le_trans hcD (by rw[List.length_cons];omega))) ?_);exact wP0 (h _ ⟨(hs2.2 _ (Ne.symm I.ne)).trans I.obj,hn2,I.ne⟩ hs2)
theorem a7f {R:Result->Shared->Prop}{vs:List Value}{kw:List (Str×Value)}(X:K.In s.heap)(hm:PySem.W.makesIn K C=true)
  (hi:PySem.W.findIn K (.ref C) "__init__"=some (some (.ref f))) (hf:PySem.W.typeIn K (.ref f)=some (.type "function"))
  (h:codeAny (model prog w) (A.under (.builtin "type.__call__" ⟨.ref C::vs,kw⟩)) (.call (.ref f) ⟨.ref (s.heap.objs.size+1)::vs,kw⟩) (PySem.W.InitBack (s.heap.objs.size+1) R)
   { s with heap:=(s.heap.push PySem.W.emptyDict).push (PySem.W.instObj C s.heap.objs.size) }) :
  codeAny (model prog w) A (.call (.ref C) ⟨vs,kw⟩) R s:=by
 obtain⟨hh,g,d,t,os⟩:=s;exact PySem.W.make_core (PySem.W.makes_of X hm) (PySem.W.looks_findIn X hi) (fun self=>PySem.W.bind_fn X self hf) (.inl rfl) h
end
def a2Z (f:Str)(v:V):List (Str×V)->List (Str×V)
 |[]=>[(f,v)]
 | (g,x)::r=>if g=f then(g,v)::r else(g,x)::a2Z f v r
theorem a0I (f g:Str)(v:V):∀fs:List (Str×V),(a2Z f v fs).lookup g=if g=f then some v else fs.lookup g
 |[]=>by
  show List.lookup g [(f,v)]=_
  by_cases h:g=f
  ·have hb:(g==f)=true:=beq_iff_eq.mpr h
   simp only[List.lookup,hb,if_pos h]
  ·have hb:(g==f)=false:=beq_eq_false_iff_ne.mpr h
   simp only[List.lookup,hb,if_neg h]
 | (k,x)::r=>by
  have ih:=a0I f g v r;rw[show a2Z f v ((k,x)::r)=(if k=f then(k,v)::r else(k,x)::a2Z f v r) from rfl]
  by_cases hk:k=f
  ·rw[if_pos hk]
   by_cases h:g=k
   ·have hb:(g==k)=true:=beq_iff_eq.mpr h
    simp only[List.lookup,hb,if_pos (h.trans hk)]
   ·have hb:(g==k)=false:=beq_eq_false_iff_ne.mpr h
    simp only[List.lookup,hb,if_neg (fun e:g=f=>h (e.trans hk.symm))]
  ·rw[if_neg hk]
   by_cases h:g=k
   ·have hb:(g==k)=true:=beq_iff_eq.mpr h
    simp only[List.lookup,hb,if_neg (fun e:g=f=>hk (h.symm.trans e))]
   ·have hb:(g==k)=false:=beq_eq_false_iff_ne.mpr h
    simp only[List.lookup,hb];exact ih
theorem a1X (f:Str)(v:V):∀fs:List (Str×V),f∈(a2Z f v fs).map (·.1)/\∀g,g∈fs.map (·.1)->g∈(a2Z f v fs).map (·.1)
 |[]=>⟨by simp[a2Z],fun g h=>by simp at h⟩
 | (k,x)::r=>by
  obtain⟨i1,i2⟩:=a1X f v r;rw[show a2Z f v ((k,x)::r)=(if k=f then(k,v)::r else(k,x)::a2Z f v r) from rfl]
  by_cases hk:k=f
  ·rw[if_pos hk]
   subst hk;exact⟨by simp,fun g h=>by simpa using h⟩
  ·rw[if_neg hk]
   refine⟨?_,fun g h=>?_⟩
   ·rw[mN0]
    exact mL0 _ i1
   ·rw[mN0] at h ⊢
    rcases mK0.mp h with e |e
    ·exact mK0.mpr (.inl e)
    ·exact mL0 _ (i2 g e)
theorem a1H (f:Str)(v:V):∀fs:List (Str×V),(a2Z f v fs).length<=fs.length+1
 |[]=>by simp[a2Z]
 | (k,x)::r=>by
  have ih:=a1H f v r;rw[show a2Z f v ((k,x)::r)=(if k=f then(k,v)::r else(k,x)::a2Z f v r) from rfl]
  by_cases hk:k=f
  ·rw[if_pos hk,List.length_cons,List.length_cons];omega
  ·rw[if_neg hk,List.length_cons,List.length_cons];omega
theorem a3g.some_of {v:V}{o:Option Value}(r:a3g (some v) o):∃u,o=some u/\a0Y v u:=by
 cases o with
 |none=>exact(show False from r).elim
 |some u=>exact⟨u,rfl,r⟩
theorem a3g.none_of {o:Option Value}(r:a3g none o):o=none:=by
 cases o with
 |none=>rfl
 |some u=>exact(show False from r).elim
theorem a5z {v:V}{u:Value}(r:a0Y v u):PySem.W.handedIn u=true:=by
 cases v with
 |non=>cases(show u=Value.none from r);rfl
 |bl b=>cases(show u=Value.bool b from r);rfl
 |int i=>obtain⟨t,e⟩:=(show ∃t,u=Value.int i t from r);cases e;rfl
 |str x=>obtain⟨t,e⟩:=(show ∃t,u=Value.str x t from r);cases e;rfl
 |byt b=>obtain⟨t,e⟩:=(show ∃t,u=Value.bytes b t from r);cases e;rfl
 |flt b=>obtain⟨t,e⟩:=(show ∃t,u=Value.float b t from r);cases e;rfl
 |ref a=>cases(show u=Value.ref a from r);rfl
 |ty n=>cases(show u=Value.type n from r);rfl
section
variable {P:Program}{w:World}{H H':Hp}{h h':Heap}{a C dx:Addr}{fs fs':List (Str×V)}
theorem a5h (hok:HOk P w H h)(e:H a=some (.ins C dx fs)):∃mA,b4t h a dx C mA/\(∀f,a3g (fs.lookup f) (mA f))/\PySem.Within mA (fs.map (·.1))/\fs.length<=1000/\H dx=some (.own a):=by
 obtain⟨d,z,ne,ob,mA,n,r,q⟩:=(show a1c P w H h a (.ins C dx fs) from hok a _ e);exact⟨mA,⟨ob,n,ne⟩,r,q,z,d⟩
end
structure Cls (K:Fg0) (C:Addr):Prop where
 pg:PySem.W.plainGet K C Str.empty=true
 hd:PySem.W.hasDictIn K C=true
 po:PySem.W.plainOver K C=true
 sa:PySem.W.findIn K (.ref C) "__setattr__"=some (some (.builtin "object.__setattr__"))
theorem Cls.get {K:Fg0}{C:Addr}(c:Cls K C)(f:Str):PySem.W.plainGet K C f=true:=c.pg
def a1d (K:Fg0)(C:Addr)(f:Str):Prop:=PySem.W.findIn K (.ref C) f=some none
theorem a1d.taker {K:Fg0}{C:Addr}{f:Str}(n:a1d K C f):PySem.W.takerIn K C f=some none:=by
 unfold PySem.W.takerIn;rw[show PySem.W.findIn K (.ref C) f=some none from n]
 rfl
structure a6U (K:Fg0) (C:Addr) (m:Str) (f:Addr):Prop where
 at_:PySem.W.findIn K (.ref C) m=some (some (.ref f))
 fn:PySem.W.isFn K (.ref f)=true
 kp:PySem.W.keepIn K (.ref f)=true
section
variable {X:Cx}{Z:List (Addr×Obj)}{σ:St}{H:Hp}{s:Shared}{a C dx:Addr}{fs:List (Str×V)}{f:Str}{v:V}{A:Around}{E:Vs0}
theorem a8h {b:Bool}{Q:Vs0}(I:Inv X Z σ H s)(e:H a=some (.ins C dx fs))(c:Cls X.K C)(n:a1d X.K C f)(l:fs.lookup f=some v)
  (h:∀u s',Inv X Z σ H s'->a0Y v u->Q u s'):wpAny (model X.prog X.w) A (getAttr (.ref a) f b) Q E s:=by
 obtain⟨mA,O,r,_,_,_⟩:=a5h I.hok e;obtain⟨u,hu,ru⟩:=a3g.some_of (v:=v) (o:=mA f) (by rw[<-l];exact r f);exact b4D I.kIn O (c.get f) c.hd n hu (a5z ru) (h u _ (I.tok _) ru)
theorem a2n {m:Str}{g:Addr}{pl:Sem Bool}{Q:Value×List Value->Shared->Prop}(I:Inv X Z σ H s)(e:H a=some (.ins C dx fs))(c:Cls X.K C)(k:a6U X.K C m g)(l:fs.lookup m=none)
  (h:Q (.ref g,[.ref a]) s):wpAny (model X.prog X.w) A (getMethod (.ref a) m pl) Q E s:=by
 obtain⟨mA,O,r,_,_,_⟩:=a5h I.hok e;have hn:mA m=none:=a3g.none_of (by rw[<-l];exact r m);exact b1z I.kIn O (c.get m) k.at_ k.fn hn h
theorem a7S {y:V}{u:Value}{Q:Unit->Shared->Prop}(I:Inv X Z σ H s)(e:H a=some (.ins C dx fs))(c:Cls X.K C)(n:a1d X.K C f)(hl:fs.length<1000)(ry:a0Y y u)
  (h:∀s',Inv X Z σ (upd H a (.ins C dx (a2Z f y fs))) s'->Q () s'):wpAny (model X.prog X.w) A (setAttr (.ref a) f u) Q E s:=by
 obtain⟨mA,O,r,wi,_,ho⟩:=a5h I.hok e;have hz:(fs.map (·.1)).length<=sizeLine:=by rw[lM0,sizeLine_eq];omega
 refine b3N I.kIn O c.sa c.po n.taker c.hd wi hz fun h' O' sb=>h _ ?_;have hd:∃o,h'.get? dx=some o:=let ⟨o,_,_,e',_⟩:=O'.ns;⟨o,e'⟩
 refine I.write (x:=a) (e:=dx) (by rw[e];exact True.intro) (.inr ho) (fun b q hb z=>(sb.2 b hb).trans z) hd ?_;refine⟨by rw[a0d O.ne];exact ho,?_,O.ne,O'.obj,_,O'.ns,fun g=>?_,fun g hg=>?_⟩
 ·have:=a1H f y fs;omega
 ·show a3g ((a2Z f y fs).lookup g) (if g=f then some u else mA g)
  rw[a0I]
  by_cases q:g=f
  ·rw[if_pos q,if_pos q];exact ry
  ·rw[if_neg q,if_neg q];exact r g
 ·by_cases q:g=f
  ·rw[q];exact(a1X f y fs).1
  ·refine(a1X f y fs).2 g (wi g fun z=>hg ?_)
   show(if g=f then some u else mA g)=none
   rw[if_neg q];exact z
theorem Inv.made (I:Inv X Z σ H s):Inv X Z σ (upd (upd H s.heap.objs.size (.own (s.heap.objs.size+1))) (s.heap.objs.size+1) (.ins C s.heap.objs.size []))
  { s with heap:=(s.heap.push PySem.W.emptyDict).push (PySem.W.instObj C s.heap.objs.size) }:=by
 have e1:(s.heap.push PySem.W.emptyDict).get? s.heap.objs.size=some PySem.W.emptyDict:=hS0 s.heap rfl;have e2:((s.heap.push PySem.W.emptyDict).push (PySem.W.instObj C s.heap.objs.size)).get? (s.heap.objs.size+1)=some (PySem.W.instObj C s.heap.objs.size):=by
  have:=hS0 (s.heap.push PySem.W.emptyDict) (o:=PySem.W.instObj C s.heap.objs.size) rfl
  rwa [Heap.size_push] at this
 have e3:(s.heap.push PySem.W.emptyDict).Ns s.heap.objs.size (fun _=>none):=⟨PySem.W.emptyDict,#[],_,e1,rfl,(fun e he=>absurd he (by simp)),fun _=>rfl⟩;have I1:=I.laid (a:=s.heap.objs.size) (o:=.own (s.heap.objs.size+1)) (h':=s.heap.push PySem.W.emptyDict) (t':=s.toks) (fun b u q=>hP0 _ q) (nR0 _) ⟨_,e1⟩;refine I1.laid (a:=s.heap.objs.size+1) (o:=.ins C s.heap.objs.size []) (t':=s.toks) (fun b u q=>hP0 _ q) (Nat.le_of_eq (Heap.size_push _ _)) ?_;have ne:s.heap.objs.size≠s.heap.objs.size+1:=nL0 (Nat.lt_succ_self _);refine⟨by rw[a0d ne,a0c],zL0 _,ne,e2,fun _=>none,(Heap.Ns1.of_empty e3).at fun o q=>hP0 _ q,fun _=>True.intro,fun y hy=>absurd rfl hy⟩
theorem b0C {prog:Program}{w:World}{env:Env}{e:Expr}{f:Str}{pos:Pos}{s:Shared}{Q:Vs0}(hb:attributeBase e f env (eval e env)=eval e env)
  (h:wpAny (model prog w) A (eval e env) (fun o s₁=>wpAny (model prog w) A (getAttr o f true) Q E s₁) E s):wpAny (model prog w) A (eval (.Attribute e f pos) env) Q E s:=
 Attribute_any_ h (by rw[arm_eval_Attribute,hb])
end
def tFld (K:Fg0)(ta:TE)(f:Str):TE:=fun σ H Q=>ta σ H fun x H1=>∃a C dx fs v,x=.ref a/\H1 a=some (.ins C dx fs)/\Cls K C/\a1d K C f/\fs.lookup f=some v/\Q v H1
def sFld (K:Fg0)(ta tv:TE)(f:Str):TS:=fun D σ H=>tv σ H fun y H1=>ta σ H1 fun x H2=>∃a C dx fs,x=.ref a/\H2 a=some (.ins C dx fs)/\Cls K C/\a1d K C f/\fs.length<1000 ∧
 D.nx σ (upd H2 a (.ins C dx (a2Z f y fs)))
section
variable {X:Cx}{o e value:Expr}{f:Str}{pos pos' tpos:Pos}{ta tv:TE}
theorem a2h (he:PE X e ta)(hb:attributeBase e f X.env (eval e X.env)=eval e X.env):PE X (.Attribute e f pos) (tFld X.K ta f):=by
 intro Z s σ H Q I h;refine b0C hb (thn (he Z s σ H _ I h) fun u s1 ⟨x,H1,I1,rx,a,C,dx,fs,v,ex,ea,c,n,l,q⟩=>?_);subst ex;obtain rfl:u=Value.ref a:=rx;exact a8h I1 ea c n l fun u' s2 I2 ru=>⟨v,H1,I2,ru,q⟩
theorem a9p (ha:PE X o ta)(hv:PE X value tv)(hs:swapsWith value (some (.Attribute o f pos')) pos.line X.env=pure false):PS X (.Assign [.Attribute o f pos'] value pos) (sFld X.K ta tv f):=by
 intro Z s σ H D I h;refine plainObj_wpAny_Assign_Attribute (thn (hv Z s σ H _ I h) fun u s1 ⟨y,H1,I1,ry,q⟩=>thn (ha Z s1 σ H1 _ I1 q) fun ov s2 ⟨x,H2,I2,rx,a,C,dx,fs,ex,ea,c,n,l,q2⟩=>?_) hs;subst ex;obtain rfl:ov=Value.ref a:=rx;exact a7S I2 ea c n l ry fun s3 I3=>⟨σ,_,I3,q2⟩
theorem b3I {pl:Sem Bool}{m:Str}{apos:Pos}{args:List Expr}{Z:List (Addr×Obj)}{s:Shared}{σ:St}{H:Hp}{Q:Vs0}{te:TE}(he:PE X e te)(I:Inv X Z σ H s)
  (h:te σ H fun x H1=>∃a C dx fs g,x=.ref a/\H1 a=some (.ins C dx fs)/\Cls X.K C/\a6U X.K C m g/\fs.lookup m=none ∧
   ∀s1,Inv X Z σ H1 s1->wpAny (model X.prog X.w) X.A (callWith pos (.ref g) [.ref a] (backTo pos (starEach args X.env)) (backToKw pos (keywordEach [] X.env))) Q X.xe s1)
  (ht:eval (.Call (.Attribute e m apos) args [] pos) X.env=(do
   let ov <-eval e X.env
   standAt apos.atName
   let (f,first) <-holding [ov] (getMethod ov m pl)
   callWith pos f first (backTo pos (starEach args X.env)) (backToKw pos (keywordEach [] X.env)))) :
  wpAny (model X.prog X.w) X.A (eval (.Call (.Attribute e m apos) args [] pos) X.env) Q X.xe s:=by
 refine PySem.W.methodCall_KW (pl:=pl) (thn (he Z s σ H _ I h) fun u s1 ⟨x,H1,I1,rx,a,C,dx,fs,g,ex,ea,c,k,l,q⟩=>?_) ht;subst ex;obtain rfl:u=Value.ref a:=rx;exact a2n I1 ea c k l (q s1 I1)
end
section
variable {X:Cx}{Z:List (Addr×Obj)}{σ:St}{H:Hp}{s:Shared}{A:Around}{E:Vs0}{Q:Vs0}{c:Value}{b:Bool}
inductive a7e (K:Fg0) (H:Hp):V->Value->Prop where
 |non:a7e K H .non (.type "NoneType")
 |bl (x:Bool):a7e K H (.bl x) (.type "bool")
 |int (i:Int):a7e K H (.int i) (.type "int")
 |str (x:Str):a7e K H (.str x) (.type "str")
 |flt (x:UInt64):a7e K H (.flt x) (.type "float")
 |lst {a:Addr} {xs:List V} (e:H a=some (.lst xs)):a7e K H (.ref a) (.type "list")
 |frz {a:Addr} {o:Obj} {xs:List V} (e:H a=some (.frz o (.lst xs))):a7e K H (.ref a) (.type "list")
 |tup {a:Addr} {xs:List V} (e:H a=some (.tup xs)):a7e K H (.ref a) (.type "tuple")
 |dK {a:Addr} {kvs:List (Key×V)} (e:H a=some (.dK kvs)):a7e K H (.ref a) (.type "dict")
 |dT {a:Addr} {kvs:List (List Key×V)} (e:H a=some (.dT kvs)):a7e K H (.ref a) (.type "dict")
 |ins {a C dx:Addr} {fs:List (Str×V)} (e:H a=some (.ins C dx fs)) (cl:Cls K C) (ha:PySem.W.findIn K (.ref C) "__class__"=some (some (.builtin "object.__class__")))
   (hn:PySem.W.specialIn K (.builtin "object.__class__") "__get__"=some (some (.builtin "getset_descriptor.__get__"))) (htk:PySem.W.takesIn K (.builtin "object.__class__")=some true)
   (hm:PySem.W.mroIn K C (.type "object")=some true):a7e K H (.ref a) (.ref C)
theorem a9Y {x:V}{u t:Value}(I:Inv X Z σ H s)(rx:a0Y x u)(ty:a7e X.K H x t)(e:PySem.W.kitOne X.K t c=some b)(h:∀tk,Q (.bool b) { s with toks:=tk }) :
  wpAny (model X.prog X.w) A (call (.builtin "isinstance") [u,c]) Q E s:=by
 cases ty with
 |non=>cases(show u=Value.none from rx);exact PySem.W.kia_one PySem.W.kitx_none I.kIn True.intro e (fun z=>nomatch z) h
 |bl y=>cases(show u=Value.bool y from rx);exact PySem.W.kia_one PySem.W.kitx_bool I.kIn True.intro e (fun z=>nomatch z) h
 |int i=>obtain⟨t,q⟩:=(show ∃t,u=Value.int i t from rx);cases q;exact PySem.W.kia_one PySem.W.kitx_int I.kIn True.intro e (fun z=>nomatch z) h
 |str y=>obtain⟨t,q⟩:=(show ∃t,u=Value.str y t from rx);cases q;exact PySem.W.kia_one PySem.W.kitx_str I.kIn True.intro e (fun z=>nomatch z) h
 |flt y=>obtain⟨t,q⟩:=(show ∃t,u=Value.float y t from rx);cases q;exact PySem.W.kia_one PySem.W.kitx_float I.kIn True.intro e (fun z=>nomatch z) h
 |@lst a xs ea=>
  cases(show u=Value.ref a from rx)
  obtain⟨_,_,n,_,h1⟩:=(show a1c X.prog X.w H s.heap a (.lst xs) from I.hok a _ ea);exact PySem.W.kia_one PySem.W.kitx_list I.kIn ⟨_,h1,rfl⟩ e (fun z=>nomatch z) h
 |@frz a ob xs ea=>
  cases(show u=Value.ref a from rx)
  obtain⟨_,_,_,n,_,h1⟩:=(show a1c X.prog X.w H s.heap a (.frz ob (.lst xs)) from I.hok a _ ea);exact PySem.W.kia_one PySem.W.kitx_list I.kIn ⟨_,h1,rfl⟩ e (fun z=>nomatch z) h
 |@tup a xs ea=>
  cases(show u=Value.ref a from rx)
  obtain⟨_,_,_,p⟩:=(show a1c X.prog X.w H s.heap a (.tup xs) from I.hok a _ ea);obtain⟨o,h1,h2,_⟩:=p;exact PySem.W.kia_one PySem.W.kitx_tuple I.kIn ⟨o,h1,h2⟩ e (fun z=>nomatch z) h
 |@dK a kvs ea=>
  cases(show u=Value.ref a from rx)
  obtain⟨_,_,vs,_,p⟩:=(show a1c X.prog X.w H s.heap a (.dK kvs) from I.hok a _ ea);obtain⟨o,es,ep,h1,h2,_⟩:=p;exact PySem.W.kia_one PySem.W.kitx_dict I.kIn ⟨o,h1,h2.1⟩ e (fun z=>nomatch z) h
 |@dT a kvs ea=>
  cases(show u=Value.ref a from rx)
  obtain⟨_,_,xs,_,o,es,ep,h1,h2,_⟩:=(show a1c X.prog X.w H s.heap a (.dT kvs) from I.hok a _ ea);exact PySem.W.kia_one PySem.W.kitx_dict I.kIn ⟨o,h1,h2.1⟩ e (fun z=>nomatch z) h
 |@ins a C dx fs ea cl ha hn htk hm=>
  cases(show u=Value.ref a from rx)
  obtain⟨mA,O,_⟩:=a5h I.hok ea;obtain⟨od,J,_⟩:=O.look;exact PySem.W.kia_one (PySem.W.kitx_own (cl.get _) cl.hd ha hn htk hm) I.kIn J e (fun z=>nomatch z) h
end
structure a1u (k:Nat) (A:Around):Prop where
 hd:A.handled=none
 dp:A.depth+3 * k+5<recursionLimit
 un:A.units+16 * k+200<cLine
theorem a1u.mono {j k:Nat}{A:Around}(r:a1u k A)(h:j<=k):a1u j A:=⟨r.hd,by have:=r.dp;omega,by have:=r.un;omega⟩
theorem a1u.deeper {k:Nat}{A:Around}(r:a1u (k+1) A)(env:Env):a1u k (A.deeper env):=
 ⟨r.hd,by have:=r.dp;show A.depth+1+3 * k+5<_;omega,by have:=r.un;show A.units+3+16 * k+200<_;omega⟩
theorem a8p {A:Around}{C:Addr}{us:List Value}{kw:List (Str×Value)}:(A.under (.builtin "type.__call__" ⟨.ref C::us,kw⟩)).depth=A.depth+1:=by
 first |rfl |simp[Around.under,Code.weight,Code.isCreation,Code.isGuard,Code.isCaller,Code.frames,Code.isFrame,guardIds]
theorem a8q {A:Around}{C:Addr}{us:List Value}{kw:List (Str×Value)}:(A.under (.builtin "type.__call__" ⟨.ref C::us,kw⟩)).units=A.units+1:=by
 first |rfl |simp[Around.under,Code.cUnits,Code.frames,Code.isFrame]
theorem a1u.make {k:Nat}{A:Around}(r:a1u (k+1) A)(C:Addr)(us:List Value)(kw:List (Str×Value)):a1u k (A.under (.builtin "type.__call__" ⟨.ref C::us,kw⟩)):=
 ⟨r.hd,by have:=r.dp;rw[a8p];omega,by have:=r.un;rw[a8q];omega⟩
theorem a1u.depth {k:Nat}{A:Around}(r:a1u k A):A.depth<recursionLimit:=by have:=r.dp;omega
theorem a1u.units {k:Nat}{A:Around}(r:a1u k A):A.units+64<cLine:=by have:=r.un;omega
def b8h:TA:=fun _ H Q=>Q [] H
def b7X (ta:TE)(tr:TA):TA:=fun σ H Q=>ta σ H fun x H1=>tr σ H1 fun xs H2=>Q (x::xs) H2
section
variable {X:Cx}{e:Expr}{es:List Expr}{te:TE}{t:TA}{pos:Pos}
theorem a0e:PA X [] b8h:=fun _ _ _ _ H Q I h=>Calls.spliced_nil ⟨[],H,I,.nil,h⟩
theorem a0a (ha:PE X e te)(hr:PA X es t)(hs:starEach (e::es) X.env=(false,eval e X.env)::starEach es X.env:=by rfl):PA X (e::es) (b7X te t):=by
 intro pos Z s σ H Q I h;rw[hs];show wpAny _ _ (spliced ((false,eval e X.env)::backTo pos (starEach es X.env))) _ _ s;refine Calls.spliced_cons (thn (ha Z s σ H _ I h) fun u s1 ⟨x,H1,I1,r1,q1⟩=>?_);exact thn (hr pos Z s1 σ H1 _ I1 q1) fun us s2 ⟨xs,H2,I2,r2,q2⟩=>⟨x::xs,H2,I2,.cons r1 r2,q2⟩
def tTup (t:TA):TE:=fun σ H Q=>t σ H fun xs H1=>xs.length<=sizeLine/\∀p,H1 p=none->Q (.ref p) (upd H1 p (.tup xs))
def tLst (t:TA):TE:=fun σ H Q=>t σ H fun xs H1=>xs.length<=sizeLine/\∀p,H1 p=none->Q (.ref p) (upd H1 p (.lst xs))
theorem a0H {x1}(h:PA X es t):PE X (.Tuple es x1 pos) (tTup t):=by
 intro Z s σ H Q I hq;refine wpAny_Tuple_spliced (thn (h pos Z s σ H _ I hq) fun us s1 ⟨xs,H1,I1,r,z,q⟩=>⟨by rw[<-r.length];exact z,?_⟩);have hf:H1 s1.heap.objs.size=none:=I1.hok.fresh (nR0 _);refine⟨.ref s1.heap.objs.size,upd H1 s1.heap.objs.size (.tup xs),I1.laid (t':=s1.toks) (fun b u e=>hP0 _ e) (nR0 _) ?_,rfl,q _ hf⟩;exact⟨z,us,r,⟨_,hS0 _ rfl,rfl,_,rfl⟩⟩
theorem a1f (h:PA X es t):PE X (.List es pos) (tLst t):=by
 intro Z s σ H Q I hq;refine wpAny_List_spliced (thn (h pos Z s σ H _ I hq) fun us s1 ⟨xs,H1,I1,r,z,q⟩=>⟨by rw[<-r.length];exact z,?_⟩);have hf:H1 s1.heap.objs.size=none:=I1.hok.fresh (nR0 _);refine⟨.ref s1.heap.objs.size,upd H1 s1.heap.objs.size (.lst xs),I1.laid (t':=s1.toks) (fun b u e=>hP0 _ e) (nR0 _) ?_,rfl,q _ hf⟩;exact⟨z,us,0,r,hS0 _ rfl⟩
end
abbrev Sp:=List V->Hp->VK->XK->Prop
abbrev CXT:=List Env->Hp->Shared->XK->Value->Shared->Prop
structure b3F (P:Program) (w:World) (K:Fg0) (mg:Str->Option Value) (base:Heap) (A:Around) (outer:List Env) (s:Shared) (H:Hp):Prop where
 frames:A.frames=some outer
 mod:Mod K mg base
 bs:∀b o,base.get? b=some o->s.heap.get? b=some o/\H b=none
 bsz:base.objs.size<=s.heap.objs.size
 funs:s.heap.FunFrames base outer
 frf:∀b∈frs outer,H b=none
 hok:HOk P w H s.heap
 bare:AllBare s.gens
def CE (outer:List Env)(P:Program)(w:World)(H:Hp)(s:Shared)(Q:VK)(u:Value)(s':Shared):Prop:=
 ∃v H',s'.os=s.os/\AllBare s'.gens/\Un (frs outer) [] H H' s.heap s'.heap/\HOk P w H' s'.heap/\a0Y v u/\Q v H'
def CR (CX:CXT)(outer:List Env)(P:Program)(w:World)(H:Hp)(s:Shared)(Q:VK)(E:XK)(r:Result)(s':Shared):Prop:=
 match r with
 | .ok (.ret u)=>CE outer P w H s Q u s'
 | .ok _=>False
 | .error e=>CX outer H s E e s'
structure a0A (P:Program) (w:World) (K:Fg0) (mg:Str->Option Value) (base:Heap) (CX:CXT) (k:Nat) (f:Addr) (fd:FuncData) (ps:List Str) (sp:Sp):Prop where
 len:∀vs H Q E,sp vs H Q E->vs.length=ps.length
 run:∀(A:Around) (outer:List Env) (s:Shared) (H:Hp) (args:Args) (us:List Value) (vs:List V) (Q:VK) (E:XK),a1u k A->b3F P w K mg base A outer s H->BindsTo s fd args (ps.zip us)->a1b vs us->sp vs H Q E →
  codeAny (model P w) A (.call (.ref f) args) (CR CX outer P w H s Q E) s
theorem b3F.make {P:Program}{w:World}{K:Fg0}{mg:Str->Option Value}{base:Heap}{A:Around}{outer:List Env}{s:Shared}{H:Hp}(e:b3F P w K mg base A outer s H)(C:Addr)(us:List Value)(kw:List (Str×Value)) :
  b3F P w K mg base (A.under (.builtin "type.__call__" ⟨.ref C::us,kw⟩)) outer s H:=⟨by first |exact e.frames | (simpa[Around.under,Code.envs,Code.isFrame,pushEnvs] using e.frames),e.mod,e.bs,e.bsz,e.funs,e.frf,e.hok,e.bare⟩
section
variable {X:Cx}{Z:List (Addr×Obj)}{σ:St}{H:Hp}{s s':Shared}
theorem Inv.env0 (I:Inv X Z σ H s):b3F X.prog X.w X.K X.mg X.base X.A X.stack s H:=
 ⟨I.ok.frames,I.ok.mod,I.bs,Nat.le_trans I.ok.bsz I.sz,I.stack,I.stkFree,I.hok,I.bare⟩
theorem Inv.after {Q:VK}{u:Value}(I:Inv X Z σ H s)(h:CE X.stack X.prog X.w H s Q u s'):EP X Z σ Q u s':=by
 obtain⟨v,H',os,bare,un,hok,r,q⟩:=h;obtain⟨hh,g,d,t,os'⟩:=s';obtain rfl:os'=s.os:=os;exact⟨v,H',I.call (h':=hh) (g':=g) (d':=d) (t':=t) (ch:=[]) un hok bare (fun b z=>absurd z (by simp)),r,q⟩
end
def b7C (sp:Sp)(dvs:List V)(E:XK)(t:TA):TE:=fun σ H Q=>t σ H fun vs H1=>sp (vs++dvs) H1 Q E
def b5L (C:Addr)(m:Str)(sp:Sp)(dvs:List V)(E:XK)(ta:TE)(t:TA):TE:=fun σ H Q=>ta σ H fun x H1=>∃a dx fs,x=.ref a/\H1 a=some (.ins C dx fs)/\fs.lookup m=none ∧
 t σ H1 fun vs H2=>sp (x::(vs++dvs)) H2 Q E
def b7S (C:Addr)(sp:Sp)(dvs:List V)(E:XK)(t:TA):TE:=fun σ H Q=>t σ H fun vs H1=>∀x dx,H1 x=none->H1 dx=none->dx≠x →
 sp (.ref x::(vs++dvs)) (upd (upd H1 dx (.own x)) x (.ins C dx [])) (fun v H2=>v=.non/\Q (.ref x) H2) E
def a1g (K:Fg0)(fd:FuncData)(ps:List Str)(ds:List Value):Prop:=
 ∀(s:Shared) (us:List Value),K.In s.heap->(us++ds).length=ps.length->BindsTo s fd ⟨us,[]⟩ (ps.zip (us++ds))
theorem a1g.all {K:Fg0}{fd:FuncData}{ps:List Str}(h:∀us:List Value,us.length=ps.length->bindArgs fd ⟨us,[]⟩=pure (ps.zip us)):a1g K fd ps []:=fun s us _ hl=>by
 rw[List.append_nil] at hl ⊢;exact .of_eq (h us hl)
def a3V (CX:CXT)(X:Cx)(E:XK):Prop:=∀(Z:List (Addr×Obj)) (σ:St) (H:Hp) (s:Shared) (e:Value) (s':Shared),Inv X Z σ H s->CX X.stack H s E e s'->X.xe e s'
section
variable {X:Cx}{CX:CXT}{k:Nat}{f C:Addr}{fd:FuncData}{ps:List Str}{sp:Sp}{dvs:List V}{ds:List Value}{E:XK}{x m:Str}{p pos apos:Pos}{e o:Expr}{es:List Expr}{ta:TE}{t:TA}
theorem a9U {Z:List (Addr×Obj)}{σ:St}{H:Hp}{s:Shared}{Q:VK}{us:List Value}{vs:List V}(F:a0A X.prog X.w X.K X.mg X.base CX k f fd ps sp)(hr:a1u k X.A)(hb:a1g X.K fd ps ds)(hd:a1b dvs ds)(hx:a3V CX X E)
  (I:Inv X Z σ H s) (r:a1b vs us) (h:sp (vs++dvs) H Q E):wpAny (model X.prog X.w) X.A (call (.ref f) us) (EP X Z σ Q) X.xe s:=by
 have r2:a1b (vs++dvs) (us++ds):=r.append hd;have hl:(us++ds).length=ps.length:=by rw[<-r2.length];exact F.len _ _ _ _ h
 refine wpAny_call (codeAny_mono (F.run X.A X.stack s H ⟨us,[]⟩ (us++ds) (vs++dvs) Q E hr I.env0 (hb s us I.kIn hl) r2 h) fun r s' hq=>?_);cases r with
 |error e=>exact hx Z σ H s e s' I hq
 |ok fl=>
  cases fl with
  |ret u=>exact I.after hq
  |next=>exact False.elim hq
  |brk=>exact False.elim hq
  |cont=>exact False.elim hq
theorem a0l (F:a0A X.prog X.w X.K X.mg X.base CX k f fd ps sp)(hr:a1u k X.A)(hg:Gl X x)(hm:X.mg x=some (.ref f))(hk:PySem.W.keepIn X.K (.ref f)=true)(hb:a1g X.K fd ps ds)(hd:a1b dvs ds)(hx:a3V CX X E)
  (ha:PA X (e::es) t) (hdb:(x==("__debug__":Str))=false:=by decide) (he:starEach (e::es) X.env=(false,eval e X.env)::starEach es X.env:=by rfl) (hpl:(backTo pos (starEach es X.env)).any (·.1)=false:=by rfl) :
  PE X (.Call (.Name x p) (e::es) [] pos) (b7C sp dvs E t):=by
 intro Z s σ H Q I h;refine wpAny_Call_Name_kw (a2e I hg hm ?_ hdb);refine PySem.W.callWith_K (h₀:=X.base) I.ok.mod.kin hk (thn (ha pos Z s σ H _ I h) fun us s1 ⟨vs,H1,I1,r,q⟩=>⟨I1.kIn,?_⟩) he hpl;exact a9U F hr hb hd hx I1 r q
theorem a6P {pl:Sem Bool}(he:PE X o ta)(c:Cls X.K C)(hm:a6U X.K C m f)(F:a0A X.prog X.w X.K X.mg X.base CX k f fd ps sp)(hr:a1u k X.A)(hb:a1g X.K fd ps ds)(hd:a1b dvs ds)(hx:a3V CX X E)(ha:PA X (e::es) t)
  (hst:starEach (e::es) X.env=(false,eval e X.env)::starEach es X.env:=by rfl) (hpl:(backTo pos (starEach es X.env)).any (·.1)=false:=by rfl)
  (ht:eval (.Call (.Attribute o m apos) (e::es) [] pos) X.env=(do
   let ov <-eval o X.env
   standAt apos.atName
   let (f,first) <-holding [ov] (getMethod ov m pl)
   callWith pos f first (backTo pos (starEach (e::es) X.env)) (backToKw pos (keywordEach [] X.env))):=by rfl) :
  PE X (.Call (.Attribute o m apos) (e::es) [] pos) (b5L C m sp dvs E ta t):=by
 intro Z s σ H Q I h;refine PySem.W.methodCall_KW (pl:=pl) (thn (he Z s σ H _ I h) fun u s1 ⟨x,H1,I1,rx,a,dx,fs,ex,ea,l,q⟩=>?_) ht;subst ex;obtain rfl:u=Value.ref a:=rx;refine a2n I1 ea c hm l ?_;refine PySem.W.callWith_K (first:=[.ref a]) (h₀:=X.base) I.ok.mod.kin hm.kp (thn (ha pos Z s1 σ H1 _ I1 q) fun us s2 ⟨vs,H2,I2,r,q2⟩=>⟨I2.kIn,?_⟩) hst hpl;exact a9U (us:=.ref a::us) (vs:=.ref a::vs) F hr hb hd hx I2 (.cons rfl r) q2
theorem a7g {pl:Sem Bool}(he:PE X o ta)(c:Cls X.K C)(hm:a6U X.K C m f)(F:a0A X.prog X.w X.K X.mg X.base CX k f fd ps sp)(hr:a1u k X.A)(hb:a1g X.K fd ps ds)(hd:a1b dvs ds)(hx:a3V CX X E)
  (ht:eval (.Call (.Attribute o m apos) [] [] pos) X.env=(do
   let ov <-eval o X.env
   standAt apos.atName
   let (f,first) <-holding [ov] (getMethod ov m pl)
   callWith pos f first (backTo pos (starEach [] X.env)) (backToKw pos (keywordEach [] X.env))):=by rfl) :
  PE X (.Call (.Attribute o m apos) [] [] pos) (b5L C m sp dvs E ta b8h):=by
 intro Z s σ H Q I h;refine PySem.W.methodCall_KW (pl:=pl) (thn (he Z s σ H _ I h) fun u s1 ⟨x,H1,I1,rx,a,dx,fs,ex,ea,l,q⟩=>?_) ht;subst ex;obtain rfl:u=Value.ref a:=rx;refine a2n I1 ea c hm l ?_;exact PySem.W.callWith_K0 (first:=[.ref a]) I1.kIn hm.kp (a9U (us:=[.ref a]) (vs:=[.ref a]) F hr hb hd hx I1 (.cons rfl .nil) q)
structure Mk (K:Fg0) (C f:Addr):Prop where
 makes:PySem.W.makesIn K C=true
 init:PySem.W.findIn K (.ref C) "__init__"=some (some (.ref f))
 fn:PySem.W.isFn K (.ref f)=true
 kp:PySem.W.keepIn K (.ref C)=true
theorem b1P {Z:List (Addr×Obj)}{σ:St}{H:Hp}{s:Shared}{Q:VK}{us:List Value}{vs:List V}(M:Mk X.K C f)(F:a0A X.prog X.w X.K X.mg X.base CX k f fd ps sp)(hr:a1u (k+1) X.A)(hb:a1g X.K fd ps ds)(hd:a1b dvs ds)
  (hx:a3V CX X E) (I:Inv X Z σ H s) (r:a1b vs us)
  (h:∀x dx,H x=none->H dx=none->dx≠x->sp (.ref x::(vs++dvs)) (upd (upd H dx (.own x)) x (.ins C dx [])) (fun v H2=>v=.non/\Q (.ref x) H2) E) :
  wpAny (model X.prog X.w) X.A (call (.ref C) us) (EP X Z σ Q) X.xe s:=by
 have hq:=h (s.heap.objs.size+1) s.heap.objs.size (I.hok.fresh (Nat.le_succ _)) (I.hok.fresh (nR0 _)) (nL0 (Nat.lt_succ_self _));have I2:=Inv.made (C:=C) I;have r2:a1b (V.ref (s.heap.objs.size+1)::(vs++dvs)) (Value.ref (s.heap.objs.size+1)::(us++ds)):=.cons rfl (r.append hd);have hl:(Value.ref (s.heap.objs.size+1)::us++ds).length=ps.length:=by
  have e:=r2.length;rw[F.len _ _ _ _ hq] at e;exact e.symm
 refine wpAny_call (a7f (f:=f) I.kIn M.makes M.init (beq_iff_eq.mp M.fn) (codeAny_mono (F.run _ X.stack _ _ ⟨Value.ref (s.heap.objs.size+1)::us,[]⟩ (Value.ref (s.heap.objs.size+1)::(us++ds)) _ _ E (hr.make C us [])
  (I2.env0.make C us []) (hb _ (Value.ref (s.heap.objs.size+1)::us) I2.kIn hl) r2 hq) fun r s' hq'=>?_))
 cases r with
 |error e=>exact hx Z σ _ _ e s' I2 hq'
 |ok fl=>
  cases fl with
  |ret u=>
   obtain⟨v,H',I3,rv,ev,q3⟩:=I2.after hq';subst ev;exact⟨rv,⟨V.ref (s.heap.objs.size+1),H',I3,rfl,q3⟩⟩
  |next=>exact False.elim hq'
  |brk=>exact False.elim hq'
  |cont=>exact False.elim hq'
theorem b4u (M:Mk X.K C f)(F:a0A X.prog X.w X.K X.mg X.base CX k f fd ps sp)(hr:a1u (k+1) X.A)(hg:Gl X x)(hm:X.mg x=some (.ref C))(hb:a1g X.K fd ps ds)(hd:a1b dvs ds)(hx:a3V CX X E)
  (ha:PA X (e::es) t) (hdb:(x==("__debug__":Str))=false:=by decide) (he:starEach (e::es) X.env=(false,eval e X.env)::starEach es X.env:=by rfl) (hpl:(backTo pos (starEach es X.env)).any (·.1)=false:=by rfl) :
  PE X (.Call (.Name x p) (e::es) [] pos) (b7S C sp dvs E t):=by
 intro Z s σ H Q I h;refine wpAny_Call_Name_kw (a2e I hg hm ?_ hdb);refine PySem.W.callWith_K (h₀:=X.base) I.ok.mod.kin M.kp (thn (ha pos Z s σ H _ I h) fun us s1 ⟨vs,H1,I1,r,q⟩=>⟨I1.kIn,?_⟩) he hpl;exact b1P M F hr hb hd hx I1 r q
end
structure a0o (N P:List Str) (sc:Scope):Prop where
 kind:sc.kind=.function
 co:sc.isCoroutine=false
 gen:sc.isGenerator=false
 nd:N.Nodup
 pre:N.take P.length=P
 par:∀x∈P,sc.names.lookup x=some .local\/sc.names.lookup x=some .cell
 nofree:∀y∈sc.names,y.2≠.free
theorem a5M {kindOf:Str->Option NameKind}{x:Str}:∀{binds:List (Str×Value)} {m:Str->Option Value},(∀v,(x,v)∉binds)->bindL kindOf binds m x=m x
 |[],_,_=>rfl
 | (n,v)::r,m,h=>by
  unfold bindL;rw[a5M fun w hw=>h w (mL0 _ hw)]
  split
  ·have:x≠n:=by rintro rfl;exact h v List.mem_cons_self
   simp[this]
  ·rfl
theorem a5H {kindOf:Str->Option NameKind}{x:Str}:∀{binds:List (Str×Value)} {m:Str->Option Value},(∀v,(x,v)∉binds)->bindC kindOf binds m x=m x
 |[],_,_=>rfl
 | (n,v)::r,m,h=>by
  unfold bindC;rw[a5H fun w hw=>h w (mL0 _ hw)]
  split
  ·rfl
  ·have:x≠n:=by rintro rfl;exact h v List.mem_cons_self
   simp[this]
theorem a5y {kindOf:Str->Option NameKind}{x:Str}{v:Value}:∀{P:List Str} {vs:List Value} {i:Nat} {m:Str->Option Value},P.Nodup->P[i]? =some x->vs[i]? =some v->kindOf x=some .local →
  bindL kindOf (P.zip vs) m x=some v
 |[],_,_,_,_,h,_,_=>by simp at h
 |_::_,[],_,_,_,_,h,_=>by simp at h
 |p::P,w::vs,0,m,nd,h1,h2,hk=>by
  simp at h1 h2;subst h1;subst h2;show bindL kindOf ((p,w)::P.zip vs) m p=_;unfold bindL;rw[a5M fun v hv=>(List.nodup_cons.mp nd).1 (List.of_mem_zip hv).1,if_pos hk];simp
 |p::P,w::vs,i+1,m,nd,h1,h2,hk=>by
  show bindL kindOf ((p,w)::P.zip vs) m x=_;unfold bindL;exact a5y (i:=i) (List.nodup_cons.mp nd).2 (by simpa using h1) (by simpa using h2) hk
theorem a6d {kindOf:Str->Option NameKind}{x:Str}{v:Value}:∀{P:List Str} {vs:List Value} {i:Nat} {m:Str->Option Value},P.Nodup->P[i]? =some x->vs[i]? =some v->kindOf x≠some .local →
  bindC kindOf (P.zip vs) m x=some v
 |[],_,_,_,_,h,_,_=>by simp at h
 |_::_,[],_,_,_,_,h,_=>by simp at h
 |p::P,w::vs,0,m,nd,h1,h2,hk=>by
  simp at h1 h2;subst h1;subst h2;show bindC kindOf ((p,w)::P.zip vs) m p=_;unfold bindC;rw[a5H fun v hv=>(List.nodup_cons.mp nd).1 (List.of_mem_zip hv).1,if_neg hk];simp
 |p::P,w::vs,i+1,m,nd,h1,h2,hk=>by
  show bindC kindOf ((p,w)::P.zip vs) m x=_;unfold bindC;exact a6d (i:=i) (List.nodup_cons.mp nd).2 (by simpa using h1) (by simpa using h2) hk
def a4e (N:List Str)(vs:List V):St:=vs.map some++List.replicate (N.length-vs.length) none
def b0W (CX:CXT)(P:Program)(w:World)(K:Fg0)(mg:Str->Option Value)(base:Heap)(N:List Str)(qual:Str)(scope:Scope)(f:Addr)(cd:Value)(A:Around)(outer:List Env)(s:Shared)(H:Hp)(E:XK):Cx where
 prog:=P
 w:=w
 K:=K
 mg:=mg
 base:=base
 A:=A.deeper (envOfC qual scope s.heap.objs.size f cd)
 N:=N
 s₀:=s
 H₀:=H
 env:=envOfC qual scope s.heap.objs.size f cd
 outer:=outer
 stack:=envOfC qual scope s.heap.objs.size f cd::outer
 ex:=[]
 calm:=true
 fn:=fun _=>true
 pn:=[]
 xe:=fun e s'=>wpAny (model P w) (A.deeper (envOfC qual scope s.heap.objs.size f cd)) (leaving (envOfC qual scope s.heap.objs.size f cd) e) (fun _ s''=>CX outer H s E e s'') (fun e' s''=>CX outer H s E e' s'') s'
theorem a7i {sc:Scope}{n:Nat}{x:Str}(h:sc.names.lookup x=some .cell):∃c,(cellsFrom n sc.names []).lookup x=some c:=by
 have q:=PySem.W.cellsFrom_some sc.names n [] (.inl h);exact Option.isSome_iff_exists.mp q
theorem b0J {CX:CXT}{P:Program}{w:World}{K:Fg0}{mg:Str->Option Value}{base:Heap}{N ps:List Str}{qual:Str}{scope:Scope}{f:Addr}{cd:Value}{A:Around}{outer:List Env}{s s1:Shared}{H:Hp}{E:XK}{us:List Value}{vs:List V}
  (S:a0o N ps scope) (hd:A.handled=none) (e0:b3F P w K mg base A outer s H) (hl:vs.length=ps.length) (r:a1b vs us)
  (x:InCallC s s.heap.objs.size (bindL (envOfC qual scope s.heap.objs.size f cd).kindOf (ps.zip us) fun _=>none) (cellsFrom (s.heap.objs.size+1) scope.names []) (bindC (envOfC qual scope s.heap.objs.size f cd).kindOf (ps.zip us) fun _=>none) s1) :
  Inv (b0W CX P w K mg base N qual scope f cd A outer s H E) [] (a4e N vs) H s1:=by
 have hpl:ps.length<=N.length:=by have:=congrArg List.length S.pre;rw[lT0] at this;omega
 obtain⟨h1,tk,rfl,hk⟩:=x.done;have noA:∀b:Addr,b∉(b0W CX P w K mg base N qual scope f cd A outer s H E).ex:=fun b z=>absurd (show b∈([]:List Addr) from z) (by simp);refine⟨⟨e0.mod,S.kind,rfl,rfl,nR0 _,fun y z c h1 h2=>?_,fun y hy=>?_,fun y c _ h=>?_,fun _=>hd,Around.frames_deeper e0.frames,.inr ⟨rfl,rfl⟩,fun b z=>absurd z (noA b),e0.bs,e0.bsz,fun b _ _=>noA b,fun b z=>absurd z (noA b),e0.funs,e0.frf⟩,
  rfl,e0.bare,Un.kept hk,⟨_,x.toInCall.ns,fun i y v h1 h2 h3=>?_⟩,fun y c h=>⟨_,x.cell y c h⟩,e0.hok.fresh (nR0 _),fun y c h=>?_,fun p hp=>absurd (show p∈([]:List (Addr×Obj)) from hp) (by simp),e0.hok.kept hk,?_⟩
 ·exact name_of_addr x.apart (PySem.mem_of_lookup h1) (PySem.mem_of_lookup h2)
 ·have hy:scope.names.lookup y=some .cell\/scope.names.lookup y=some .free:=hy
  rcases hy with hy |hy
  ·exact a7i hy
  ·exact absurd rfl (S.nofree _ (PySem.mem_of_lookup hy))
 ·exact Nat.le_of_lt (x.above y c (PySem.mem_of_lookup h))
 ·have hi:i<vs.length:=by
   unfold a4e at h2
   by_cases hi:i<vs.length
   ·exact hi
   ·rw[gR0 (by simpa using hi)] at h2
    rw[List.getElem?_replicate] at h2
    split at h2<;>cases h2
  have ha:vs[i]? =some v:=by
   unfold a4e at h2;rw[gL0 (by simpa using hi),gM0] at h2;cases e:vs[i]? with
   |none=>rw[e] at h2;cases h2
   |some a=>rw[e] at h2;cases h2;rfl
  obtain⟨u,hu,rv⟩:=r.get ha;have hp:ps[i]? =some y:=by
   rw[<-S.pre,List.getElem?_take_of_lt (by omega)];exact h1
  have ndP:ps.Nodup:=by rw[<-S.pre];exact S.nd.sublist (List.take_sublist _ _)
  refine⟨u,rv,?_⟩;rcases S.par y (gI0 hp) with k |k
  ·exact .inl ⟨k,a5y ndP hp hu k⟩
  ·obtain⟨c,e⟩:=a7i (n:=s.heap.objs.size+1) k
   refine .inr ⟨.inl k,c,e,?_⟩;have q:=x.cell y c e;rw[a6d ndP hp hu (by show scope.names.lookup y≠_;rw[k];decide)] at q;exact q
 ·exact e0.hok.fresh (Nat.le_of_lt (x.above y c (PySem.mem_of_lookup h)))
 ·unfold a4e
  show _=N.length;rw[lA0,lM0,List.length_replicate]
  omega
theorem b4g {CX:CXT}{P:Program}{w:World}{K:Fg0}{mg:Str->Option Value}{base:Heap}{k:Nat}{f:Addr}{name qual:Str}{params:Arguments}{body:List Stmt}{scope:Scope}{dV kV doc pm cdv ct oc:Value}{an od:Option Addr}
  {osl:Array (Option Value)} {N ps:List Str} {sp:Sp} (lk:K.lookup f=some ⟨oc,od,.func (PySem.W.fnOf name qual params body scope dV kV doc pm an cdv ct),osl⟩) (hcd:PySem.W.codeIn K cdv qual=true) (S:a0o N ps scope)
  (len:∀vs H Q E,sp vs H Q E->vs.length=ps.length)
  (hbody:∀(A:Around) (outer:List Env) (s:Shared) (H:Hp) (vs:List V) (Q:VK) (E:XK),a1u k (A.deeper (envOfC qual scope s.heap.objs.size f cdv))->sp vs H Q E →
   ∃t,PSs (b0W CX P w K mg base N qual scope f cdv A outer s H E) body t/\t { nx:=fun _ H'=>Q .non H',rt:=Q } (a4e N vs) H) :
  a0A P w K mg base CX (k+1) f (PySem.W.fnOf name qual params body scope dV kV doc pm an cdv ct) ps sp:=by
 refine⟨len,fun A outer s H args us vs Q E hr e0 hb r hsp=>?_⟩;have hl:=len _ _ _ _ hsp;have KX:K.In s.heap:=e0.mod.kin.keeps fun b o e=>(e0.bs b o e).1;have lim:s.heap.NoLimit:=e0.mod.nolimit.keeps fun b o e=>(e0.bs b o e).1;have hkind:∀y∈ps.zip us,scope.names.lookup y.1=some .local\/(scope.names.lookup y.1=some .cell/\((cellsFrom (s.heap.objs.size+1) scope.names []).lookup y.1).isSome=true):=fun⟨n,v⟩ hy=>by
  rcases S.par n (List.of_mem_zip hy).1 with q |q
  ·exact .inl q
  ·exact .inr ⟨q,PySem.W.cellsFrom_some _ _ _ (.inl q)⟩
 refine codeAny_call_function hr.depth (KX _ _ lk) rfl S.co S.gen rfl (PySem.W.codeRec_of KX hcd) (hb _ _ _ _ ?_);refine wpAny_newFunctionEnv_cells S.kind hkind fun env he s1 x=>?_;subst he;refine⟨lim.keeps x.toInCall.keep,codeAny_func ?_⟩;obtain⟨t,ht,hq⟩:=hbody A outer s H vs Q E (hr.deeper _) hsp;have I:Inv (b0W CX P w K mg base N qual scope f cdv A outer s H E) [] (a4e N vs) H s1:=b0J S hr.hd e0 hl r x;refine wpAny_mono (ht [] s1 (a4e N vs) H _ I hq) (fun fl s' hs=>?_) fun e s' hs=>hs;have fin:∀{σ':St} {H':Hp} {v:V} {u:Value},Inv (b0W CX P w K mg base N qual scope f cdv A outer s H E) [] σ' H' s'->a0Y v u->Q v H'->CE outer P w H s Q u s':=
  fun {σ' H' v u} J rv q=>⟨v,H',J.os,J.bare,J.base,J.hok,rv,q⟩
 cases fl with
 |ret u=>
  obtain⟨v,σ',H',J,rv,q⟩:=hs;exact fin J rv q
 |next=>
  obtain⟨σ',H',J,q⟩:=hs;exact fin (v:=V.non) (u:=Value.none) J rfl q
 |brk=>
  obtain⟨_,_,_,q⟩:=hs;exact False.elim q
 |cont=>
  obtain⟨_,_,_,q⟩:=hs;exact False.elim q
section
variable {X:Cx}{x:Str}{p pos:Pos}{e:Expr}{es:List Expr}{t:TA}{id T:String}{r:List V->Hp->VK->Prop}
def tCB (r:List V->Hp->VK->Prop)(t:TA):TE:=fun σ H Q=>t σ H fun vs H1=>r vs H1 Q
theorem a0D (hc:a1r X (.builtin id) r)(hg:Gl X x)(hm:X.mg x=none)(hv:bootBuiltins x=some (.builtin id))(ha:PA X (e::es) t)(hn:x≠"__name__":=by decide)(hdb:(x==("__debug__":Str))=false:=by decide)
  (he:starEach (e::es) X.env=(false,eval e X.env)::starEach es X.env:=by rfl) (hpl:(backTo pos (starEach es X.env)).any (·.1)=false:=by rfl):PE X (.Call (.Name x p) (e::es) [] pos) (tCB r t):=by
 intro Z s σ H Q I h;refine wpAny_Call_Name_kw (a3P I hg hm hv ?_ hn hdb);exact PyProof.Rows.callWith_builtin1 (thn (ha pos Z s σ H _ I h) fun us s1 ⟨vs,H1,I1,r1,q1⟩=>hc Z s1 σ H1 vs us Q I1 r1 q1) he hpl
theorem a0Z (hc:a1r X (.type T) r)(hg:Gl X x)(hm:X.mg x=none)(hv:bootBuiltins x=some (.type T))(ha:PA X (e::es) t)(hn:x≠"__name__":=by decide)(hdb:(x==("__debug__":Str))=false:=by decide)
  (he:starEach (e::es) X.env=(false,eval e X.env)::starEach es X.env:=by rfl) (hpl:(backTo pos (starEach es X.env)).any (·.1)=false:=by rfl):PE X (.Call (.Name x p) (e::es) [] pos) (tCB r t):=by
 intro Z s σ H Q I h;refine wpAny_Call_Name_kw (a3P I hg hm hv ?_ hn hdb);exact PyProof.Rows.callWith_type1 (thn (ha pos Z s σ H _ I h) fun us s1 ⟨vs,H1,I1,r1,q1⟩=>hc Z s1 σ H1 vs us Q I1 r1 q1) he hpl
end
end L2
namespace HT
open PySem PyProof.Rows
section
open PySem.SeqAt
open PySem.AutoSeq1 (wpAny_loadPart')
open PySem.MeetsSeq PySem.MeetsSeq2 PySem.MeetsSeq3
end
section
variable {prog:Program}{w:World}{A:Around}{E:Vs0}{s:Shared}
def sIx (n d:Nat):Option Int->Nat
 |none=>d
 |some v=>if v<0 then(v+(n:Int)).toNat else min v.toNat n
theorem a7H (n d:Nat):sIx n d none=d:=rfl
theorem b4A (n d k:Nat):sIx n d (some (k:Int))=min k n:=by
 show(if (k:Int)<0 then((k:Int)+(n:Int)).toNat else min (k:Int).toNat n)=min k n
 rw[if_neg (by omega),Int.toNat_natCast]
theorem b4b (v:Int)(n d:Nat):(if v<0 then max (v+(n:Int)) 0 else min v (n:Int))=((sIx n d (some v):Nat):Int):=by
 show(if v<0 then max (v+(n:Int)) 0 else min v (n:Int))=(((if v<0 then(v+(n:Int)).toNat else min v.toNat n):Nat):Int)
 by_cases hv:v<0
 ·simp only[if_pos hv];omega
 ·simp only[if_neg hv];omega
end
end HT
namespace L2
open PySem PySem.Spec PyProof.Rows
abbrev TO:=St->Hp->(Option Int->Hp->Prop)->Prop
def PO (X:Cx)(e:Option Expr)(t:TO):Prop:=
 ∀(Z:List (Addr×Obj)) (s:Shared) (σ:St) (H:Hp) (Q:Option Int->Hp->Prop),Inv X Z σ H s->t σ H Q →
  wpAny (model X.prog X.w) X.A (evalPart e X.env) (fun u s'=>∃o H',Inv X Z σ H' s'/\IsPart u o/\Q o H') X.xe s
def b4w:TO:=fun _ H Q=>Q none H
def b7B (t:TE):TO:=fun σ H Q=>t σ H fun x H1=>∃i,x=.int i/\Q (some i) H1
section
variable {X:Cx}{e:Expr}{te:TE}{lo hi:Option Expr}{tl th:TO}{pos p2:Pos}
theorem a4O:PO X none b4w:=by
 intro Z s σ H Q I h;rw[evalPart_none];exact wP0 ⟨none,H,I,.none,h⟩
theorem a4C (h:PE X e te):PO X (some e) (b7B te):=by
 intro Z s σ H Q I hw;rw[evalPart_some];refine thn (h Z s σ H _ I hw) fun u s1 ⟨x,H1,I1,r1,q1⟩=>?_;obtain⟨i,rfl,q⟩:=q1;obtain⟨t,rfl⟩:=r1;exact⟨some i,H1,I1,.int i t,q⟩
def SlR (X:Cx)(r:V->Option Int->Option Int->Hp->VK->Prop):Prop:=
 ∀(Z:List (Addr×Obj)) (s:Shared) (σ:St) (H:Hp) (x:V) (v vl vu:Value) (lo hi:Option Int) (sl:Addr) (Q:VK),Inv X Z σ H s->a0Y x v->s.heap.IsSliceOf sl vl vu .none->IsPart vl lo->IsPart vu hi->r x lo hi H Q →
  ∃T id,typeLookup (.type T) "__getitem__"=pure (some (.builtin id))/\s.TypeIs v T/\wpAny (model X.prog X.w) X.A (getItem v (.ref sl)) (EP X Z σ Q) X.xe s
def tSl (r:V->Option Int->Option Int->Hp->VK->Prop)(te:TE)(tl th:TO):TE:=fun σ H Q=>te σ H fun x H1=>tl σ H1 fun l H2=>th σ H2 fun u H3=>r x l u H3 Q
theorem a3p {r:V->Option Int->Option Int->Hp->VK->Prop}(hr:SlR X r)(he:PE X e te)(hl:PO X lo tl)(hu:PO X hi th):PE X (.Subscript e (.Slice lo hi none p2) pos) (tSl r te tl th):=by
 intro Z s σ H Q I h;refine Subscript_ (thn (he Z s σ H _ I h) fun v s1 ⟨x,H1,I1,r1,q1⟩=>?_);refine wpAny_Slice (thn (hl Z s1 σ H1 _ I1 q1) fun vl s2 ⟨l,H2,I2,pl,q2⟩=>thn (hu Z s2 σ H2 _ I2 q2) fun vu s3 ⟨u,H3,I3,pu,q3⟩=>?_);rw[evalPart_none];refine wP0 ?_;have I4:Inv X Z σ H3 { s3 with heap:=s3.heap.push { cls:=.type "slice",data:=.fields #[vl,vu,.none] } }:=I3.kept (t':=s3.toks) fun b ob q=>hP0 _ q;obtain⟨T,id,hT,ht,hg⟩:=hr Z { s3 with heap:=s3.heap.push { cls:=.type "slice",data:=.fields #[vl,vu,.none] } } σ H3 x v vl vu l u s3.heap.objs.size Q I4 r1 (Heap.IsSliceOf.new ..) pl pu q3;show wpAny (model X.prog X.w) X.A (subscriptTail e (.Slice lo hi none p2) v (.ref s3.heap.objs.size)) (EP X Z σ Q) X.xe { s3 with heap:=s3.heap.push { cls:=.type "slice",data:=.fields #[vl,vu,.none] } };exact tail_any (ops:=[.ref s3.heap.objs.size,v]) ht hT hg (by with_unfolding_all rfl)
def b2z (xs:List V)(lo hi:Option Int):List V:=(xs.drop (HT.sIx xs.length 0 lo)).take (HT.sIx xs.length xs.length hi-HT.sIx xs.length 0 lo)
theorem a6L (xs:List V)(lo hi:Option Int):(b2z xs lo hi).length<=xs.length:=by
 unfold b2z;rw[lT0,List.length_drop]
 omega
end
def ixN (n:Nat)(i:Int):Option Nat:=if 0<=i then(if i<n then some i.toNat else none) else if -(n:Int)<=i then some (i+n).toNat else none
def atI {α:Type}(xs:List α)(i:Int):Option α:=(ixN xs.length i).bind fun j=>xs[j]?
theorem b4y {n:Nat}{i:Int}{j:Nat}(h:ixN n i=some j):seqIndex? i n=some j/\j<n/\-(n:Int)<=i/\i<n:=by
 unfold ixN at h
 by_cases h0:0<=i
 ·rw[if_pos h0] at h
  by_cases h1:i<n
  ·rw[if_pos h1] at h
   have e:i.toNat=j:=Option.some.inj h;exact⟨by rw[seqIndex_of h0 h1,e],by omega,by omega,h1⟩
  ·rw[if_neg h1] at h;cases h
 ·rw[if_neg h0] at h
  by_cases h1:-(n:Int)<=i
  ·rw[if_pos h1] at h
   have e:(i+n).toNat=j:=Option.some.inj h;exact⟨by rw[seqIndex_neg (by omega) h1,e],by omega,h1,by omega⟩
  ·rw[if_neg h1] at h;cases h
theorem a6D {α:Type}{xs:List α}{i:Int}{v:α}(h:atI xs i=some v):∃j,seqIndex? i xs.length=some j/\xs[j]? =some v/\j<xs.length/\-(xs.length:Int)<=i/\i<xs.length:=by
 unfold atI at h;cases e:ixN xs.length i with
 |none=>rw[e] at h;cases h
 |some j=>
  rw[e] at h;obtain⟨h1,h2,h3,h4⟩:=b4y e;exact⟨j,h1,h,h2,h3,h4⟩
theorem a0M {α:Type}{xs:List α}{j:Nat}{v:α}(h:xs[j]? =some v):atI xs (j:Int)=some v:=by
 have hj:j<xs.length:=(gS0.mp h).1;have e:ixN xs.length (j:Int)=some j:=by
  unfold ixN;rw[if_pos (by omega),if_pos (by omega)];simp
 unfold atI;rw[e];exact h
def b3E (b:Expr):Prop:=∀o i,subscripted b false o i=operate [o,i] (getItem o i)
def IxR (X:Cx)(r:R2):Prop:=
 ∀(value slice:Expr) (Z:List (Addr×Obj)) (s:Shared) (σ:St) (H:Hp) (x y:V) (v u:Value) (Q:VK),Inv X Z σ H s->a0Y x v->a0Y y u->r x y H Q →
  subscripted slice false v u=operate [v,u] (getItem v u)->wpAny (model X.prog X.w) X.A (subscriptTail value slice v u) (EP X Z σ Q) X.xe s
def MtR (X:Cx)(id:String)(r:V->List V->Hp->VK->Prop):Prop:=
 ∀(Z:List (Addr×Obj)) (s:Shared) (σ:St) (H:Hp) (x:V) (xs:List V) (v:Value) (us:List Value) (Q:VK),Inv X Z σ H s->a0Y x v->a1b xs us->r x xs H Q →
  wpAny (model X.prog X.w) X.A (call (.builtin id) (v::us)) (EP X Z σ Q) X.xe s
section
variable {X:Cx}{a b:Expr}{ta tb:TE}{pos:Pos}
theorem a0t {r:R2}(hr:IxR X r)(ha:PE X a ta)(hb:PE X b tb)(hs:b3E b):PE X (.Subscript a b pos) (tOp r ta tb):=by
 intro Z s σ H Q I h;exact Subscript_ (b7l ha hb I h fun v u s2 x y H2 I2 rx ry q=>hr a b Z s2 σ H2 x y v u Q I2 rx ry q (hs _ _))
def b3H (K:Fg0):R2:=fun x y H Q=>∃p xs i v,x=.ref p/\y=.int i/\SqL K H p xs/\atI xs i=some v/\Q v H
def b7b (K:Fg0):R2:=fun x y H Q=>∃p xs i v,x=.ref p/\y=.int i/\SqT K H p xs/\atI xs i=some v/\Q v H
def rIxS:R2:=fun x y H Q=>∃z i c,x=.str z/\y=.int i/\z.length<=sizeLine/\atI z.cps.toList i=some c/\Q (.str ⟨#[c]⟩) H
theorem a0r:IxR X (b3H X.K):=by
 intro value slice Z s σ H x y v u Q I rx ry h hs;obtain⟨p,xs,i,z,rfl,rfl,hq,he,q⟩:=h;cases rx;obtain⟨t,rfl⟩:=ry;obtain⟨its,r,pl,hz⟩:=I.list hq;obtain⟨j,h1,h2,h3,h4,h5⟩:=a6D he;obtain⟨w,ew,rw'⟩:=r.get h2;have hl:=r.length;have hn:=a5A;have fin:EP X Z σ Q w s:=⟨z,H,I,rw',q⟩
 by_cases h0:0<=i
 ·have hj:i.toNat=j:=by
   rw[seqIndex_of h0 h5] at h1;exact Option.some.inj h1
  exact item_listR pl.isList h0 (by omega) (by rw[hj];simpa using ew) fin hs
 ·have hj:(i+(its.toArray.size:Int)).toNat=j:=by
   rw[seqIndex_neg (by omega) h4] at h1;rw[List.size_toArray,<-hl];exact Option.some.inj h1
  exact subscriptTail_builtinR (x:=w) pl.isList.typeIs slot_list_getitem.lookup
   (wpAny_getItem_list_neg (Q:=fun r s'=>r=w/\EP X Z σ Q r s') pl.isList (by omega) (by rw[List.size_toArray]<;>omega) (by omega) (by rw[hj];simpa using ew) ⟨rfl,fin⟩) hs
theorem a0N:IxR X (b7b X.K):=by
 intro value slice Z s σ H x y v u Q I rx ry h hs;obtain⟨p,xs,i,z,rfl,rfl,hq,he,q⟩:=h;cases rx;obtain⟨t,rfl⟩:=ry;obtain⟨its,r,pl,hz⟩:=I.tuple hq;obtain⟨j,h1,h2,h3,h4,h5⟩:=a6D he;obtain⟨w,ew,rw'⟩:=r.get h2;have hl:=r.length;have hn:=a5A;have fin:EP X Z σ Q w s:=⟨z,H,I,rw',q⟩;exact subscriptTail_builtinR (x:=w) pl.typeIs slot_tuple_getitem.lookup
  (getItem_tuple (j:=j) (Q:=fun r s'=>r=w/\EP X Z σ Q r s') pl (by omega) (by omega) (by rw[List.size_toArray,<-hl];exact h1) (by simpa using ew) ⟨rfl,fin⟩) hs
theorem b0F:IxR X rIxS:=by
 intro value slice Z s σ H x y v u Q I rx ry h hs;obtain⟨z,i,c,rfl,rfl,hz,he,q⟩:=h;obtain⟨t,rfl⟩:=rx;obtain⟨t',rfl⟩:=ry;obtain⟨j,h1,h2,h3,h4,h5⟩:=a6D he;have hl:z.cps.toList.length=z.length:=by simp[Str.length]
 rw[hl] at h1 h4 h5;have hn:=a5A;exact tail_any (typeIs_str s z t) slot_str_getitem.lookup (getItem_str (c:=c) (by
  have e1:decide (i < -(2 ^ 63:Int))=false:=dF0 (by omega);have e2:decide (i≥2 ^ 63)=false:=dF0 (by omega);rw[e1,e2,Bool.or_false]) (by rw[h1];simpa using h2) ⟨.str ⟨#[c]⟩,H,I.tok _,⟨_,rfl⟩,q⟩) hs
theorem a5q (lo hi:Option Int)(n:Nat):(sliceBounds lo hi none n).1=((HT.sIx n 0 lo:Nat):Int)/\(sliceBounds lo hi none n).2.1=((HT.sIx n n hi:Nat):Int)/\(sliceBounds lo hi none n).2.2=1:=by
 refine⟨?_,?_,rfl⟩
 ·cases lo with
  |none=>simp[sliceBounds,HT.sIx]
  |some i=>
   simp only[sliceBounds,HT.sIx,Option.getD_none,show(1:Int) > 0 by decide,if_true]
   by_cases h:i<0
   ·simp only[h,if_true]<;>omega
   ·simp only[h,if_false]<;>omega
 ·cases hi with
  |none=>simp[sliceBounds,HT.sIx]
  |some i=>
   simp only[sliceBounds,HT.sIx,Option.getD_none,show(1:Int) > 0 by decide,if_true]
   by_cases h:i<0
   ·simp only[h,if_true]<;>omega
   ·simp only[h,if_false]<;>omega
theorem a4F (its:List Value)(lo hi:Option Int):slicePick its.toArray lo hi none=((its.drop (HT.sIx its.length 0 lo)).take (HT.sIx its.length its.length hi-HT.sIx its.length 0 lo)).toArray:=by
 obtain⟨h1,h2,h3⟩:=a5q lo hi its.toArray.size;unfold slicePick;rw[h1,h2,h3];simp only[sliceRange_one,pick_run,List.size_toArray]<;>rfl
def rSlL (K:Fg0):V->Option Int->Option Int->Hp->VK->Prop:=fun x lo hi H Q=>∃a xs,x=.ref a/\SqL K H a xs/\∀p,H p=none->Q (.ref p) (upd H p (.lst (b2z xs lo hi)))
theorem a9V:SlR X (rSlL X.K):=by
 intro Z s σ H x v vl vu lo hi sl Q I rx hs pl pu h;obtain⟨a,xs,rfl,hx,q⟩:=h;cases rx;obtain⟨its,r,ht,hz⟩:=I.list hx;have hlen:=r.length;refine⟨"list",_,slot_list_getitem.lookup,ht.isList.typeIs,?_⟩;refine wpAny_getItem_list_slice ht.isList hs pl pu .none (by simp) ?_ (by rw[List.size_toArray]<;>omega);rw[a4F,<-hlen];refine⟨.ref s.heap.objs.size,_,I.laid (t':=s.toks) (o:=.lst (b2z xs lo hi)) (fun b ob q=>hP0 _ q) (nR0 _) ?_,rfl,q _ (I.hok.fresh (nR0 _))⟩;exact⟨Nat.le_trans (a6L xs lo hi) hz,_,0,(r.drop (HT.sIx xs.length 0 lo)).take (HT.sIx xs.length xs.length hi-HT.sIx xs.length 0 lo),hS0 _ rfl⟩
def a3E:V->Bool
 | .non=>true
 | .bl _=>true
 | .int _=>true
 | .str _=>true
 |_=>false
def eqV:V->V->Bool
 | .non,.non=>true
 | .bl a,.bl b=>a==b
 | .bl a,.int b=>(if a then 1 else 0)==b
 | .int a,.bl b=>a==(if b then 1 else 0)
 | .int a,.int b=>a==b
 | .str a,.str b=>a==b
 |_,_=>false
theorem b6M {A:Around}{s:Shared}{y x:V}{u v:Value}(ry:a0Y y u)(rx:a0Y x v)(fy:a3E y=true)(fx:a3E x=true):SeqAt.EqAt A s u v (eqV y x):=by
 cases y with
 |non=>
  cases ry;cases x with
  |non=>cases rx;exact SeqAt.EqAt.same _
  |bl b=>cases rx;exact SeqAt.EqAt.none_bool b
  |int b=>obtain⟨t,rfl⟩:=rx;exact SeqAt.EqAt.none_int b t
  |str b=>obtain⟨t,rfl⟩:=rx;exact SeqAt.EqAt.none_str b t
  |_=>exact absurd (show false=true from fx) bF0
 |bl a=>
  cases ry;cases x with
  |non=>cases rx;exact SeqAt.EqAt.bool_none a
  |bl b=>cases rx;exact SeqAt.EqAt.bool_bool a b
  |int b=>obtain⟨t,rfl⟩:=rx;exact SeqAt.EqAt.bool_int a b t
  |str b=>obtain⟨t,rfl⟩:=rx;exact SeqAt.EqAt.bool_str a b t
  |_=>exact absurd (show false=true from fx) bF0
 |int a=>
  obtain⟨t',rfl⟩:=ry;cases x with
  |non=>cases rx;exact SeqAt.EqAt.int_none a t'
  |bl b=>cases rx;exact SeqAt.EqAt.int_bool a t' b
  |int b=>obtain⟨t,rfl⟩:=rx;exact SeqAt.EqAt.int_int a t' b t
  |str b=>obtain⟨t,rfl⟩:=rx;exact SeqAt.EqAt.int_str a t' b t
  |_=>exact absurd (show false=true from fx) bF0
 |str a=>
  obtain⟨t',rfl⟩:=ry;cases x with
  |non=>cases rx;exact SeqAt.EqAt.str_none a t'
  |bl b=>cases rx;exact SeqAt.EqAt.str_bool a t' b
  |int b=>obtain⟨t,rfl⟩:=rx;exact SeqAt.EqAt.str_int a t' b t
  |str b=>obtain⟨t,rfl⟩:=rx;exact SeqAt.EqAt.str_str a t' b t
  |_=>exact absurd (show false=true from fx) bF0
 |_=>exact absurd (show false=true from fy) bF0
def eqU (x:V)(u:Value):Bool:=match u with
 | .none=>eqV .non x
 | .bool b=>eqV (.bl b) x
 | .int i _=>eqV (.int i) x
 | .str z _=>eqV (.str z) x
 |_=>false
theorem b3p {x y:V}{u:Value}(r:a0Y y u)(f:a3E y=true):eqU x u=eqV y x:=by
 cases y with
 |non=>cases r;rfl
 |bl b=>cases r;rfl
 |int i=>obtain⟨t,rfl⟩:=r;rfl
 |str z=>obtain⟨t,rfl⟩:=r;rfl
 |_=>exact absurd (show false=true from f) bF0
theorem a3s {x:V}:∀{xs:List V} {us:List Value},a1b xs us->xs.all a3E=true->us.any (eqU x)=xs.any fun y=>eqV y x
 |_,_,.nil,_=>rfl
 |y::xs,u::us,.cons r t,f=>by
  rw[List.all_cons,Bool.and_eq_true] at f;rw[List.any_cons,List.any_cons,b3p r f.1,a3s t f.2]
theorem a2G {A:Around}{s:Shared}{x:V}{v:Value}(rx:a0Y x v)(fx:a3E x=true):∀{xs:List V} {us:List Value},a1b xs us->xs.all a3E=true->∀u∈us,SeqAt.EqAt A s u v (eqU x u)
 |_,_,.nil,_=>fun u hu=>by cases hu
 |y::xs,u::us,.cons r t,f=>fun u' hu=>by
  rw[List.all_cons,Bool.and_eq_true] at f;rcases mK0.mp hu with rfl |hu
  ·rw[b3p r f.1];exact b6M r rx f.1 fx
  ·exact a2G rx fx t f.2 u' hu
def inV (x:V)(xs:List V):Bool:=xs.any fun y=>eqV y x
def rIn (K:Fg0)(neg:Bool):R2:=fun x y H Q=>∃p xs,y=.ref p/\(SqL K H p xs\/SqT K H p xs)/\a3E x=true/\xs.all a3E=true/\Q (.bl (if neg then !inV x xs else inV x xs)) H
theorem a1W:OpR X (compareOp .In) (rIn X.K false):=by
 intro Z s σ H x y v u Q I rx ry h;obtain⟨p,xs,rfl,hq,fx,fs,q⟩:=h;cases ry;rcases hq with hq |hq
 ·obtain⟨its,r,pl,hz⟩:=I.list hq
  refine SeqAt.in_listAt (eqU x) pl.isList (fun w hw=>a2G rx fx r fs w (by simpa using hw)) ⟨.bl _,H,I,rfl,?_⟩;rw[show its.toArray.any (eqU x)=its.any (eqU x) by simp,a3s r fs];exact q
 ·obtain⟨its,r,pl,hz⟩:=I.tuple hq
  refine SeqAt.in_tupleAt (eqU x) pl (fun w hw=>a2G rx fx r fs w (by simpa using hw)) ⟨.bl _,H,I,rfl,?_⟩;rw[show its.toArray.any (eqU x)=its.any (eqU x) by simp,a3s r fs];exact q
theorem a2g:OpR X (compareOp .NotIn) (rIn X.K true):=by
 intro Z s σ H x y v u Q I rx ry h;obtain⟨p,xs,rfl,hq,fx,fs,q⟩:=h;cases ry;rcases hq with hq |hq
 ·obtain⟨its,r,pl,hz⟩:=I.list hq
  refine SeqAt.notIn_listAt (eqU x) pl.isList (fun w hw=>a2G rx fx r fs w (by simpa using hw)) ⟨.bl _,H,I,rfl,?_⟩;rw[show its.toArray.any (eqU x)=its.any (eqU x) by simp,a3s r fs];exact q
 ·obtain⟨its,r,pl,hz⟩:=I.tuple hq
  refine SeqAt.notIn_tupleAt (eqU x) pl (fun w hw=>a2G rx fx r fs w (by simpa using hw)) ⟨.bl _,H,I,rfl,?_⟩;rw[show its.toArray.any (eqU x)=its.any (eqU x) by simp,a3s r fs];exact q
theorem a3d:a1r X (.builtin "len") (fun xs H Q=>∃p ys,xs=[.ref p]/\(SqL X.K H p ys\/SqT X.K H p ys)/\Q (.int ys.length) H):=by
 intro Z s σ H xs us Q I r h;obtain⟨p,ys,rfl,hq,q⟩:=h;obtain⟨u,rfl,rx⟩:=a1Z r;cases rx;have hn:=a5A;rcases hq with hq |hq
 ·obtain⟨its,r',pl,hz⟩:=I.list hq
  have hlen:=r'.length;exact Calls.call_len_list pl.isList (by simp only[List.size_toArray]<;>omega) ⟨.int ys.length,H,I.tok _,⟨s.toks+1,by rw[List.size_toArray,hlen]⟩,q⟩
 ·obtain⟨its,r',pl,hz⟩:=I.tuple hq
  have hlen:=r'.length;exact len_tuple pl (by simp only[List.size_toArray]<;>omega) ⟨.int ys.length,H,I.tok _,⟨s.toks+1,by rw[List.size_toArray,hlen]⟩,q⟩
theorem a6k:a1r X (.builtin "len") (fun xs H Q=>∃z,xs=[.str z]/\z.length<=sizeLine/\Q (.int z.length) H):=by
 intro Z s σ H xs us Q I r h;obtain⟨z,rfl,hz,q⟩:=h;obtain⟨u,rfl,t,rfl⟩:=a1Z r;have hn:=a5A;exact len_str (by omega) ⟨.int z.length,H,I.tok _,⟨_,rfl⟩,q⟩
def tyV (K:Fg0)(T:String)(x:V)(H:Hp):Prop:=match x with
 | .str _=>T="str"
 | .int _=>T="int"
 | .ref p=>(T="list"/\∃xs,SqL K H p xs)\/(T="tuple"/\∃o,K.lookup p=some o/\o.cls=.type "tuple"/\o.dict=none) ∨
   (T="dict"/\((∃kvs,H p=some (.dK kvs))\/∃kvs,H p=some (.dT kvs)))\/(T="set"/\∃S n,H p=some (.set S n))
 |_=>False
theorem b5O {Z:List (Addr×Obj)}{σ:St}{H:Hp}{s:Shared}{T:String}{x:V}{v:Value}(I:Inv X Z σ H s)(r:a0Y x v)(ty:tyV X.K T x H) :
  s.TypeIs v T/\∀a,v=.ref a->∃ob,s.heap.get? a=some ob/\ob.dict=none:=by
 cases x with
 |str z=>
  obtain⟨t,rfl⟩:=r
  cases(show T="str" from ty)
  exact⟨typeIs_str s z t,fun _ e=>nomatch e⟩
 |int i=>
  obtain⟨t,rfl⟩:=r
  cases(show T="int" from ty)
  exact⟨typeIs_int s i t,fun _ e=>nomatch e⟩
 |ref p=>
  cases r;rcases ty with ⟨rfl,xs,hq⟩ |⟨rfl,o,hk,hc,hd⟩ |⟨rfl,hk⟩ |⟨rfl,S,n,hk⟩
  ·obtain⟨its,_,pl,_⟩:=I.list hq
   refine⟨pl.isList.typeIs,fun a e=>?_⟩;cases e;obtain⟨o,n,e,c,hd,_⟩:=pl;exact⟨o,e,hd⟩
  ·refine⟨⟨o,I.kIn p o hk,hc⟩,fun a e=>?_⟩
   cases e;exact⟨o,I.kIn _ o hk,hd⟩
  ·have z:∃o,s.heap.get? p=some o/\o.ExactDict:=by
    rcases hk with ⟨kvs,hk⟩ |⟨kvs,hk⟩
    ·obtain⟨_,_,_,_,o,_,_,e,ex,_⟩:=I.hok p _ hk
     exact⟨o,e,ex⟩
    ·obtain⟨_,_,_,_,o,_,_,e,ex,_⟩:=I.hok p _ hk
     exact⟨o,e,ex⟩
   obtain⟨o,e,ex⟩:=z;refine⟨⟨o,e,ex.1⟩,fun a e2=>?_⟩;cases e2;exact⟨o,e,ex.2.1⟩
  ·obtain⟨o,_,_,_,e,ex,_⟩:=I.hok p _ hk
   refine⟨⟨o,e,ex.1⟩,fun a e2=>?_⟩;cases e2;exact⟨o,e,ex.2.1⟩
 |_=>exact False.elim ty
def tBM (K:Fg0)(T:String)(r:V->List V->Hp->VK->Prop)(to:TE)(t:TA):TE:=fun σ H Q=>to σ H fun x H1=>tyV K T x H1/\t σ H1 fun xs H2=>r x xs H2 Q
variable {o e:Expr}{es:List Expr}{to:TE}{t:TA}{name:Str}{apos cpos:Pos}{T id:String}{r:V->List V->Hp->VK->Prop}
theorem a3q (pa:PlainAttrs T)(slot:Slot T name id)(hty:typeOf (.builtin id)=pure (.type "method_descriptor"))(hm:MtR X id r)(ho:PE X o to)(ha:PA X (e::es) t)
  (hbase:attributeBase o name X.env (eval o X.env)=eval o X.env:=by rfl)
  (hfew:((backTo cpos (starEach (e::es) X.env)).all (fun x=>!x.1)&&(backToKw cpos (keywordEach [] X.env)).all (fun x=>x.1.isSome)
   && decide ((e::es).length+([]:List Keyword).length+(if ([]:List Keyword).isEmpty then 0 else 1)<30))=true:=by rfl)
  (hline:(apos.endLine==cpos.line)=true:=by rfl) (hs:starEach (e::es) X.env=(false,eval e X.env)::starEach es X.env:=by rfl) (hplain:(backTo cpos (starEach es X.env)).any (·.1)=false:=by rfl) :
  PE X (.Call (.Attribute o name apos) (e::es) [] cpos) (tBM X.K T r to t):=by
 intro Z s σ H Q I h;refine wpAny_Call_method_late hbase hfew hline rfl (thn (ho Z s σ H _ I h) fun v s1 ⟨x,H1,I1,r1,ty,q1⟩=>?_);obtain⟨h1,h2⟩:=b5O I1 r1 ty;refine⟨T,id,pa,slot,hty,h1,h2,?_⟩;have hA:=ha cpos Z s1 σ H1 _ I1 q1;rw[hs] at hA ⊢;refine Calls.callWith_builtin (by show(false || (backTo cpos (starEach es X.env)).any (·.1))=false;rw[hplain]<;>rfl) (Calls.evalArgs_plain ?_);exact thn hA fun us s2 ⟨vs,H2,I2,r2,q2⟩=>hm Z s2 σ H2 x vs v us Q I2 r1 r2 q2
end
def MtM (X:Cx)(id:String)(r:V->List V->Hp->VK->Prop):Prop:=
 ∀(Z:List (Addr×Obj)) (s:Shared) (σ:St) (H:Hp) (x:V) (xs:List V) (v:Value) (us:List Value) (Q:VK),Inv X Z σ H s->a0Y x v->a1b xs us->r x xs H Q →
  wpAny (model X.prog X.w) X.A (call (.builtin id) (v::us)) (EP X Z σ Q) X.xe s
theorem a1b.one:∀{x:V} {us:List Value},a1b [x] us->∃u,us=[u]/\a0Y x u
 |_,_,.cons r .nil=>⟨_,rfl,r⟩
section
variable {X:Cx}{Z:List (Addr×Obj)}{σ:St}{H:Hp}{s:Shared}{l b:Addr}{xs ys zs:List V}
theorem Inv.lset {its its':List Value}{n:Nat}{f:Array Value->Array Value}{t':Nat}(I:Inv X Z σ H s)(hH:H l=some (.lst xs))
  (e:s.heap.get? l=some { cls:=.type "list",data:=.seq its.toArray n }) (hf:f its.toArray=its'.toArray) (hv:a1b ys its') (hz:ys.length<=sizeLine) :
  Inv X Z σ (upd H l (.lst ys)) { s with heap:=s.heap.update l (Obj.mapSeq f),toks:=t' }:=by
 have q:=PySem.IsL.update e f;rw[hf] at q;refine I.write (x:=l) (e:=l) (by rw[hH];exact trivial) (.inl rfl) (fun b' u hb hu=>(Heap.get?_update_other s.heap (Obj.mapSeq f) (Ne.symm hb)).trans hu) ⟨_,q⟩ ?_;exact⟨hz,its',_,hv,q⟩
theorem Inv.lnew {its:List Value}{t':Nat}(I:Inv X Z σ H s)(hv:a1b ys its)(hz:ys.length<=sizeLine) :
  Inv X Z σ (upd H s.heap.objs.size (.lst ys)) { s with heap:=s.heap.push { cls:=.type "list",data:=.seq its.toArray },toks:=t' }:=
 I.laid (fun _ _ q=>hP0 _ q) (nR0 _) ⟨hz,its,0,hv,hS0 _ rfl⟩
theorem Inv.fresh (I:Inv X Z σ H s):H s.heap.objs.size=none:=I.hok.fresh (nR0 _)
theorem Inv.lstM (I:Inv X Z σ H s)(hH:H l=some (.lst xs)):xs.length<=sizeLine/\∃(its:List Value) (n:Nat),a1b xs its/\xs.length=its.length/\s.heap.get? l=some { cls:=.type "list",data:=.seq its.toArray n }:=by
 obtain⟨z,its,n,r,e⟩:=I.hok l _ hH;exact⟨z,its,n,r,r.length,e⟩
theorem b1y {n:Nat}(h:n<=sizeLine):Builtin.List.listTooLong n=false:=by
 unfold Builtin.List.listTooLong;exact dF0 (by omega)
end
section
variable {X:Cx}
def b0f:V->List V->Hp->VK->Prop:=fun x vs H Q=>∃l xs y,x=.ref l/\vs=[y]/\H l=some (.lst xs)/\xs.length<sizeLine/\Q .non (upd H l (.lst (xs++[y])))
theorem a5p:MtM X "list.append" b0f:=by
 intro Z s σ H x vs v us Q I rx rv h;obtain⟨l,xs,y,rfl,rfl,hH,hz,q⟩:=h;cases rx;obtain⟨u,rfl,ru⟩:=rv.one;obtain⟨z,its,n,r,hl,e⟩:=I.lstM hH;refine call_meets F.slot_list_append ⟨_,e,rfl⟩ F.entry_list_append (F.args_list_append_2 _ _) (PySem.list_append l its.toArray n u (by rw[List.size_toArray];omega)) ⟨e,?_⟩;refine⟨.non,_,I.lset (its':=its++[u]) hH e (by simp) (r.append (.cons ru .nil)) ?_,rfl,q⟩;rw[lA0,lS0]
 omega
def b3W:V->List V->Hp->VK->Prop:=fun x vs H Q=>∃l b xs zs,x=.ref l/\vs=[.ref b]/\H l=some (.lst xs)/\H b=some (.lst zs)/\xs.length+zs.length<=sizeLine/\Q .non (upd H l (.lst (xs++zs)))
theorem b5w:MtM X "list.extend" b3W:=by
 intro Z s σ H x vs v us Q I rx rv h;obtain⟨l,b,xs,zs,rfl,rfl,hH,hB,hz,q⟩:=h;cases rx;obtain⟨u,rfl,ru⟩:=rv.one;cases ru;obtain⟨z,its,n,r,hl,e⟩:=I.lstM hH;obtain⟨z2,its2,n2,r2,hl2,e2⟩:=I.lstM hB;have hsz:its.toArray.size+its2.toArray.size<=sizeLine:=by rw[List.size_toArray,List.size_toArray];omega
 have hlong:¬(!its.toArray.isEmpty&&Builtin.List.listTooLong (its.toArray.size+its2.toArray.size))=true:=by
  rw[b1y hsz,Bool.and_false];exact bF0
 refine call_meets F.slot_list_extend ⟨_,e,rfl⟩ F.entry_list_extend (F.args_list_extend_2 _ _)
  (AutoSeq1.list_extend_list_list_0 l its.toArray n b its2.toArray n2 hlong (by rw[List.size_toArray];omega) (by omega)) ⟨e,e2,?_⟩
 refine⟨.non,_,I.lset (its':=its++its2) hH e (by simp) (r.append r2) ?_,rfl,q⟩;rw[lA0]
 omega
def rCat:R2:=fun x y H Q=>∃l b xs zs,x=.ref l/\y=.ref b/\H l=some (.lst xs)/\H b=some (.lst zs)/\xs.length+zs.length<=sizeLine/\∀p,H p=none->Q (.ref p) (upd H p (.lst (xs++zs)))
theorem b5D:OpR X (binaryOp .Add) rCat:=by
 intro Z s σ H x y v u Q I rx ry h;obtain⟨l,b,xs,zs,rfl,rfl,hH,hB,hz,q⟩:=h;cases rx;cases ry;obtain⟨z,its,n,r,hl,e⟩:=I.lstM hH;obtain⟨z2,its2,n2,r2,hl2,e2⟩:=I.lstM hB;refine PySem.P.add_list e e2 ?_ (by rw[List.size_toArray,List.size_toArray];omega);have ea:its.toArray++its2.toArray=(its++its2).toArray:=by simp
 rw[ea];exact⟨.ref _,_,I.lnew (t':=s.toks) (r.append r2) (by rw[lA0];omega),rfl,q _ I.fresh⟩
end
section
variable {prog:Program}{w:World}{A:Around}{E:Vs0}{s:Shared}
set_option maxRecDepth 100000 in
end
section
variable {κ:Type}[DecidableEq κ]
def a1k (kvs:List (κ×V))(k:κ):Option V:=(kvs.find? fun kv=>decide (kv.1=k)).map (·.2)
def a2r (kvs:List (κ×V))(k:κ)(v:V):List (κ×V):=
 if (kvs.any fun kv=>decide (kv.1=k))=true then kvs.map (fun kv=>if kv.1=k then(kv.1,v) else kv) else kvs++[(k,v)]
def a1U (kvs:List (κ×V))(k:κ):List (κ×V):=kvs.filter fun kv=>decide (kv.1≠k)
theorem a1x {p:κ×V}{r:List (κ×V)}{k:κ}(e:p.1=k):a1k (p::r) k=some p.2:=by simp[a1k,List.find?_cons,e]
theorem a1s {p:κ×V}{r:List (κ×V)}{k:κ}(e:¬p.1=k):a1k (p::r) k=a1k r k:=by simp[a1k,List.find?_cons,e]
theorem a3j (k:κ):∀kvs:List (κ×V),(kvs.any fun kv=>decide (kv.1=k))=(a1k kvs k).isSome
 |[]=>rfl
 |p::r=>by
  rw[List.any_cons]
  by_cases e:p.1=k
  ·simp only[a1x e,dT0 e,Bool.true_or,Option.isSome_some]
  ·rw[a1s e,dF0 e,Bool.false_or];exact a3j k r
theorem a2s (kvs:List (κ×V))(k:κ)(v:V):(a2r kvs k v).length<=kvs.length+1:=by
 unfold a2r
 split
 ·rw[lM0];omega
 ·rw[lA0,List.length_cons,List.length_nil];omega
theorem a1j {kvs:List (κ×V)}{k:κ}(v:V)(h:a1k kvs k=none):a2r kvs k v=kvs++[(k,v)]:=by
 unfold a2r;rw[a3j,h];exact if_neg (by decide)
theorem a3g.isSome_eq {o:Option V}{u:Option Value}(r:a3g o u):o.isSome=u.isSome:=by
 cases o with
 |none=>cases u with
  |none=>rfl
  |some _=>exact(show False from r).elim
 |some _=>cases u with
  |none=>exact(show False from r).elim
  |some _=>rfl
theorem a3g.getD {o:Option V}{u:Option Value}{d:V}{d':Value}(r:a3g o u)(rd:a0Y d d'):a0Y (o.getD d) (u.getD d'):=by
 cases o with
 |none=>cases u with
  |none=>exact rd
  |some _=>exact(show False from r).elim
 |some _=>cases u with
  |none=>exact(show False from r).elim
  |some _=>exact r
theorem KV.val {kvs:List (κ×V)}{vs:List (κ×Value)}(r:KV kvs vs)(k:κ):a3g (a1k kvs k) (valueAt vs k):=by
 unfold KV at r
 induction r with
 |nil=>exact True.intro
 |@cons p q ps qs h t ih=>
  obtain⟨h1,h2⟩:=h
  by_cases e:p.1=k
  ·have e':q.1=k:=h1.symm.trans e
   have b:valueAt (q::qs) k=some q.2:=by simp[valueAt,List.find?_cons,e']
   rw[a1x e,b];exact h2
  ·have e':¬q.1=k:=fun z=>e (h1.trans z)
   have b:valueAt (q::qs) k=valueAt qs k:=by simp[valueAt,List.find?_cons,e']
   rw[a1s e,b];exact ih
theorem KV.any {kvs:List (κ×V)}{vs:List (κ×Value)}(r:KV kvs vs)(k:κ):(kvs.any fun kv=>decide (kv.1=k))=vs.any fun kv=>decide (kv.1=k):=by
 unfold KV at r
 induction r with
 |nil=>rfl
 |cons h t ih=>rw[List.any_cons,List.any_cons,ih,h.1]
theorem KV.repl {kvs:List (κ×V)}{vs:List (κ×Value)}(r:KV kvs vs)(k:κ){y:V}{u:Value}(ry:a0Y y u) :
  KV (kvs.map fun kv=>if kv.1=k then(kv.1,y) else kv) (vs.map fun kv=>if kv.1=k then(kv.1,u) else kv):=by
 unfold KV at r ⊢
 induction r with
 |nil=>exact .nil
 |@cons p q ps qs h t ih=>
  rw[mN0,mN0];refine .cons ?_ ih;obtain⟨h1,h2⟩:=h
  by_cases e:p.1=k
  ·rw[if_pos e,if_pos (h1.symm.trans e)];exact⟨h1,ry⟩
  ·rw[if_neg e,if_neg (fun z=>e (h1.trans z))];exact⟨h1,h2⟩
theorem KV.put {kvs:List (κ×V)}{vs:List (κ×Value)}(r:KV kvs vs)(k:κ){y:V}{u:Value}(ry:a0Y y u):KV (a2r kvs k y) (stored vs k u):=by
 unfold a2r stored;rw[r.any k]
 by_cases e:(vs.any fun kv=>decide (kv.1=k))=true
 ·rw[if_pos e,if_pos e];exact r.repl k ry
 ·rw[if_neg e,if_neg e];exact Paired.snoc r ⟨rfl,ry⟩
theorem KV.drop {kvs:List (κ×V)}{vs:List (κ×Value)}(r:KV kvs vs)(k:κ):KV (a1U kvs k) (without vs k):=by
 unfold KV at r ⊢;unfold a1U without
 induction r with
 |nil=>exact .nil
 |@cons p q ps qs h t ih=>
  obtain⟨h1,h2⟩:=h;rw[List.filter_cons,List.filter_cons]
  by_cases e:p.1=k
  ·have a:¬decide (p.1≠k)=true:=by simp[e]
   have b:¬decide (q.1≠k)=true:=by simp[h1.symm.trans e]
   rw[if_neg a,if_neg b];exact ih
  ·have e':¬q.1=k:=fun z=>e (h1.trans z)
   have a:decide (p.1≠k)=true:=by simp[e]
   have b:decide (q.1≠k)=true:=by simp[e']
   rw[if_pos a,if_pos b];exact .cons ⟨h1,h2⟩ ih
theorem KV.keys {kvs:List (κ×V)}{vs:List (κ×Value)}(r:KV kvs vs):kvs.map (·.1)=vs.map (·.1):=by
 unfold KV at r
 induction r with
 |nil=>rfl
 |cons h t ih=>rw[mN0,mN0,ih,h.1]
theorem KV.length {kvs:List (κ×V)}{vs:List (κ×Value)}(r:KV kvs vs):kvs.length=vs.length:=Paired.length r
theorem a7d (kvs:List (κ×V))(k:κ):(a1U kvs k).length<=kvs.length:=List.length_filter_le _ _
end
theorem a4d {P:Program}{w:World}{k:Key}{u:Value}(r:a0Y (kV k) u):(a0i P w).is k u=true:=by
 cases k with
 |inl i=>obtain⟨t,e⟩:=(show ∃t,u=Value.int i t from r);subst e;exact a6B P w i t
 |inr x=>obtain⟨t,e⟩:=(show ∃t,u=Value.str x t from r);subst e;exact a6X P w x t
theorem a5t {P:Program}{w:World}:∀{ks:List Key} {us:List Value},a1b (ks.map kV) us->ItemsAre (a0i P w) ks us
 |[],_,r=>by rw[List.map_nil] at r;cases r;exact .nil
 |k::ks,_,r=>by
  rw[mN0] at r;cases r with
  |cons h t=>exact .cons (a4d h) (a5t t)
abbrev KT (H:Hp):List (List Key×V)->List (List Key×Addr×Value)->Prop:=Paired fun p q=>p.1=q.1/\H q.2.1=some (.tup (p.1.map kV))/\a0Y p.2 q.2.2
theorem KT.val {H:Hp}{kvs:List (List Key×V)}{xs:List (List Key×Addr×Value)}(r:KT H kvs xs)(k:List Key):a3g (a1k kvs k) ((atKey xs k).map (·.2)):=by
 induction r with
 |nil=>exact True.intro
 |@cons p q ps qs h t ih=>
  obtain⟨h1,_,h2⟩:=h
  by_cases e:p.1=k
  ·have e':q.1=k:=h1.symm.trans e
   have b:atKey (q::qs) k=some q.2:=by simp[atKey,List.find?_cons,e']
   rw[a1x e,b];exact h2
  ·have e':¬q.1=k:=fun z=>e (h1.trans z)
   have b:atKey (q::qs) k=atKey qs k:=by simp[atKey,List.find?_cons,e']
   rw[a1s e,b];exact ih
theorem KT.repl {H:Hp}{kvs:List (List Key×V)}{xs:List (List Key×Addr×Value)}(r:KT H kvs xs)(k:List Key){y:V}{u:Value}(ry:a0Y y u) :
  KT H (kvs.map fun kv=>if kv.1=k then(kv.1,y) else kv) (xs.map (putAt k u)):=by
 induction r with
 |nil=>exact .nil
 |@cons p q ps qs h t ih=>
  rw[mN0,mN0];refine .cons ?_ ih;obtain⟨h1,h2,h3⟩:=h;unfold putAt
  by_cases e:p.1=k
  ·rw[if_pos e,if_pos (h1.symm.trans e)];exact⟨h1,h2,ry⟩
  ·rw[if_neg e,if_neg (fun z=>e (h1.trans z))];exact⟨h1,h2,h3⟩
theorem KT.put {H:Hp}{kvs:List (List Key×V)}{xs:List (List Key×Addr×Value)}(r:KT H kvs xs)(k:List Key){b:Addr}{y:V}{u:Value}(hb:H b=some (.tup (k.map kV)))(ry:a0Y y u) :
  KT H (a2r kvs k y) (storedH xs k b u):=by
 have e:(kvs.any fun kv=>decide (kv.1=k))=(atKey xs k).isSome:=by
  rw[a3j,(r.val k).isSome_eq,Option.isSome_map]
 unfold a2r storedH;rw[e]
 by_cases q:(atKey xs k).isSome=true
 ·rw[if_pos q,if_pos q];exact r.repl k ry
 ·rw[if_neg q,if_neg q];exact Paired.snoc r ⟨rfl,hb,ry⟩
theorem KT.keeps {H H':Hp}{kvs:List (List Key×V)}{xs:List (List Key×Addr×Value)}(r:KT H kvs xs)(ht:∀b ys,H b=some (.tup ys)->H' b=some (.tup ys)):KT H' kvs xs:=
 Paired.mapP r fun _ _ z=>⟨z.1,ht _ _ z.2.1,z.2.2⟩
section
variable {P:Program}{w:World}{H:Hp}{h:Heap}{a:Addr}
theorem b5t {u:HO}(ok:HOk P w H h)(e:Rd H a u):a1c P w H h a u:=e.ok ok
theorem a2R {kvs:List (Key×V)}(ok:HOk P w H h)(e:Rd H a (.dK kvs)):kvs.length<=sizeLine/\(a==sysModules)=false/\∃vs,KV kvs vs/\h.DictOf (a0i P w) a vs:=
 show a1c P w H h a (.dK kvs) from b5t ok e
theorem b1r {kvs:List (Key×V)}(ok:HOk P w H h)(e:H a=some (.dK kvs)):kvs.length<=sizeLine/\(a==sysModules)=false/\∃vs,KV kvs vs/\h.DictOf (a0i P w) a vs:=a2R ok (.inl e)
theorem a4x {ks:List Key}(ok:HOk P w H h)(e:H a=some (.tup (ks.map kV))):(tupleKind (a0i P w)).is h ks a:=by
 obtain⟨_,its,r,o,h1,h2,n,h3⟩:=(show a1c P w H h a (.tup (ks.map kV)) from ok a _ e);exact⟨o,its.toArray,n,h1,h2,h3,by simpa using a5t r⟩
theorem a6A {kvs:List (List Key×V)}(ok:HOk P w H h)(e:Rd H a (.dT kvs)):kvs.length<=sizeLine/\(a==sysModules)=false ∧
  ∃xs,KT H kvs xs/\h.DictOfH (tupleKind (a0i P w)) a xs:=by
 obtain⟨z,y,xs,r,o,es,ep,h1,h2,h3,h4,h5⟩:=(show a1c P w H h a (.dT kvs) from b5t ok e);refine⟨z,y,xs,r,o,es,ep,h1,h2,h3,h4,fun x hx=>?_,h5⟩;have all:∀{l:List (List Key×V)} {m:List (List Key×Addr×Value)},KT H l m->∀x∈m,(tupleKind (a0i P w)).is h x.1 x.2.1:=by
  intro l m q
  induction q with
  |nil=>intro x hx;exact nomatch hx
  |@cons p q ps qs hq t ih=>
   intro x hx;rcases mK0.mp hx with e |hx
   ·subst e
    exact a4x ok (by rw[<-hq.1];exact hq.2.1)
   ·exact ih x hx
 exact all r x hx
theorem b7p {kvs:List (List Key×V)}(ok:HOk P w H h)(e:H a=some (.dT kvs)):kvs.length<=sizeLine/\(a==sysModules)=false ∧
  ∃xs,KT H kvs xs/\h.DictOfH (tupleKind (a0i P w)) a xs:=a6A ok (.inl e)
end
def a2q (H:Hp)(a:Addr)(y:V)(r:Option V):Prop:=
 (∃kvs k,Rd H a (.dK kvs)/\y=kV k/\r=a1k kvs k)\/∃kvs k b,Rd H a (.dT kvs)/\y=.ref b/\H b=some (.tup (k.map kV))/\r=a1k kvs k
def a8X (H:Hp)(a:Addr)(y v:V)(H':Hp):Prop:=
 (∃kvs k,H a=some (.dK kvs)/\y=kV k/\kvs.length<sizeLine/\H'=upd H a (.dK (a2r kvs k v))) ∨
 ∃kvs k b,H a=some (.dT kvs)/\y=.ref b/\H b=some (.tup (k.map kV))/\kvs.length<sizeLine/\H'=upd H a (.dT (a2r kvs k v))
theorem a8X.k {H:Hp}{a:Addr}{kvs:List (Key×V)}{k:Key}{v:V}(e:H a=some (.dK kvs))(hl:kvs.length<sizeLine):a8X H a (kV k) v (upd H a (.dK (a2r kvs k v))):=.inl ⟨kvs,k,e,rfl,hl,rfl⟩
section
variable {X:Cx}{Z:List (Addr×Obj)}{σ:St}{H:Hp}{s:Shared}{a:Addr}{y v:V}{u r:Value}{o:Option V}{A:Around}{E:Vs0}
theorem Inv.big (I:Inv X Z σ H s):sysModules<s.heap.objs.size:=by
 have h:mainGlobals<s.heap.objs.size:=(I.mod.glob.keeps I.bk).lt;exact Nat.lt_trans (by decide) h
theorem a8R {Q:Vs0}(hu:A.units+1<cLine)(I:Inv X Z σ H s)(g:a2q H a y (some v))(ry:a0Y y u)(h:∀w' s',Inv X Z σ H s'->a0Y v w'->Q w' s') :
  wpAny (model X.prog X.w) A (getItem (.ref a) u) Q E s:=by
 rcases g with ⟨kvs,k,e,ey,l⟩ |⟨kvs,k,b,e,ey,eb,l⟩
 ·subst ey
  obtain⟨z,hd,vs,rel,dd⟩:=a2R I.hok e;obtain⟨w',hw,rw'⟩:=a3g.some_of (v:=v) (o:=valueAt vs k) (by rw[l];exact rel.val k);exact wpAny_getItem_of (a4d ry) dd.mapOf hw (h w' _ (I.tok _) rw')
 ·subst ey
  cases(show u=Value.ref b from ry)
  obtain⟨z,hd,xs,rel,dd⟩:=a6A I.hok e;obtain⟨w',hw,rw'⟩:=a3g.some_of (v:=v) (o:=(atKey xs k).map (·.2)) (by rw[l];exact rel.val k);obtain⟨p,hp,hp2⟩:=Option.map_eq_some_iff.mp hw;refine wpAny_getItem_heap (tupleKind_room_in1 hu) (a4x I.hok eb) dd hp ?_;rw[hp2];exact h w' _ (I.tok _) rw'
theorem d_in {Q:Vs0}(hu:A.units+1<cLine)(I:Inv X Z σ H s)(g:a2q H a y o)(ry:a0Y y u)(h:∀s',Inv X Z σ H s'->Q (.bool o.isSome) s') :
  wpAny (model X.prog X.w) A (compareOp .In u (.ref a)) Q E s:=by
 rcases g with ⟨kvs,k,e,ey,l⟩ |⟨kvs,k,b,e,ey,eb,l⟩
 ·subst ey
  obtain⟨z,hd,vs,rel,dd⟩:=a2R I.hok e;refine wpAny_in_of (a4d ry) hd dd.mapOf ?_;rw[<-(rel.val k).isSome_eq,<-l];exact h _ (I.tok _)
 ·subst ey
  cases(show u=Value.ref b from ry)
  obtain⟨z,hd,xs,rel,dd⟩:=a6A I.hok e;refine wpAny_in_heap (tupleKind_room_in1 hu) (a4x I.hok eb) hd dd ?_;have q:=(rel.val k).isSome_eq;rw[Option.isSome_map] at q;rw[<-q,<-l];exact h _ (I.tok _)
theorem b5b {Q:Vs0}(hu:A.units+1<cLine)(I:Inv X Z σ H s)(g:a2q H a y o)(ry:a0Y y u)(h:∀s',Inv X Z σ H s'->Q (.bool (!o.isSome)) s') :
  wpAny (model X.prog X.w) A (compareOp .NotIn u (.ref a)) Q E s:=by
 rcases g with ⟨kvs,k,e,ey,l⟩ |⟨kvs,k,b,e,ey,eb,l⟩
 ·subst ey
  obtain⟨z,hd,vs,rel,dd⟩:=a2R I.hok e;refine wpAny_notIn_of (a4d ry) hd dd.mapOf ?_;rw[<-(rel.val k).isSome_eq,<-l];exact h _ (I.tok _)
 ·subst ey
  cases(show u=Value.ref b from ry)
  obtain⟨z,hd,xs,rel,dd⟩:=a6A I.hok e;refine wpAny_notIn_heap (tupleKind_room_in1 hu) (a4x I.hok eb) hd dd ?_;have q:=(rel.val k).isSome_eq;rw[Option.isSome_map] at q;rw[<-q,<-l];exact h _ (I.tok _)
theorem a3x {h':Heap}{t':Nat}{ob:HO}(I:Inv X Z σ H s)(mu:Mut (H a))(hs:Heap.SameBut a s.heap h')(he:∃q,h'.get? a=some q)(new:a1c X.prog X.w (upd H a ob) h' a ob) :
  Inv X Z σ (upd H a ob) { s with heap:=h',toks:=t' }:=
 I.write (x:=a) (e:=a) mu (.inl rfl) (fun b q hb z=>(hs.2 b hb).trans z) he new
theorem a3z {P:Program}{w:World}{H':Hp}{h':Heap}{kvs:List (Key×V)}{vs:List (Key×Value)}(z:kvs.length<=sizeLine)(hd:(a==sysModules)=false)(rel:KV kvs vs)(dd:h'.DictOf (a0i P w) a vs) :
  a1c P w H' h' a (.dK kvs):=⟨z,hd,vs,rel,dd⟩
theorem b0q {H':Hp}{Q:Unit->Shared->Prop}(hu:A.units+1<cLine)(I:Inv X Z σ H s)(g:a8X H a y v H')(ry:a0Y y u)(rv:a0Y v r)(h:∀s',Inv X Z σ H' s'->Q () s') :
  wpAny (model X.prog X.w) A (setItem (.ref a) u r) Q E s:=by
 rcases g with ⟨kvs,k,e,ey,l,eH⟩ |⟨kvs,k,b,e,ey,eb,l,eH⟩
 ·subst ey eH
  obtain⟨z,hd,vs,rel,dd⟩:=b1r I.hok e;have hz:vs.length<=sizeLine:=by rw[<-rel.length];exact z
  have hl:(a2r kvs k v).length<=sizeLine:=by have:=a2s kvs k v;omega
  refine wpAny_setItem_pairs (hsz:=hz) (a4d ry) dd fun h' dd' hs=>h _ ?_;have he:∃q,h'.get? a=some q:=let ⟨q,_,_,hq,_⟩:=dd';⟨q,hq⟩
  exact a3x I (by rw[e];exact True.intro) hs he (a3z hl hd (rel.put k rv) dd')
 ·subst ey eH
  cases(show u=Value.ref b from ry)
  obtain⟨z,hd,xs,rel,dd⟩:=b7p I.hok e;have hz:xs.length<=sizeLine:=by rw[<-Paired.length rel];exact z
  have hl:(a2r kvs k v).length<=sizeLine:=by have:=a2s kvs k v;omega
  refine wpAny_setItem_heap (hsz:=hz) (tupleKind_room_in1 hu) (a4x I.hok eb) dd fun h' dd' hs=>h _ ?_;obtain⟨q,es,ep,hq,h2,h3,h4,_,h5⟩:=dd';refine a3x I (by rw[e];exact True.intro) hs ⟨q,hq⟩ ⟨hl,hd,_,(rel.put k eb rv).keeps fun c ys ec=>?_,q,es,ep,hq,h2,h3,h4,h5⟩;rw[a0d (b7Z ec e (fun z=>nomatch z))];exact ec
end
section
variable {X:Cx}{Z:List (Addr×Obj)}{σ:St}{H:Hp}{s:Shared}{a:Addr}{kvs:List (Key×V)}{k:Key}{u:Value}{A:Around}{E:Vs0}
theorem b6l {Q:Unit->Shared->Prop}(I:Inv X Z σ H s)(e:H a=some (.dK kvs))(ry:a0Y (kV k) u)(l:(a1k kvs k).isSome=true)(h:∀s',Inv X Z σ (upd H a (.dK (a1U kvs k))) s'->Q () s') :
  wpAny (model X.prog X.w) A (delItem (.ref a) u) Q E s:=by
 obtain⟨z,hd,vs,rel,dd⟩:=b1r I.hok e;refine wpAny_delItem_slot dd.typeIs (by decide) PySem.F.slot_dict_delitem
  (call_meetsIn PySem.F.slot_dict_delitem dd.typeIs PySem.F.entry_dict_delitem (PySem.F.args_dict_delitem_2 _ _) (meets_dict_delitem_pairs (a0i X.prog X.w) a (a4d ry)) ⟨vs,dd,by rw[<-rel.length];exact z,by rw[<-(rel.val k).isSome_eq];exact l,fun h' dd' hs=>h _ ?_⟩)
 have he:∃q,h'.get? a=some q:=let ⟨q,_,_,hq,_⟩:=dd';⟨q,hq⟩
 exact a3x I (by rw[e];exact True.intro) hs he (a3z (Nat.le_trans (a7d kvs k) z) hd (rel.drop k) dd')
theorem b8d {v:V}{more:List Value}{Q:Vs0}(I:Inv X Z σ H s)(e:H a=some (.dK kvs))(ry:a0Y (kV k) u)(l:a1k kvs k=some v)(hm:more=[]\/∃x,more=[x])
  (h:∀w' s',Inv X Z σ (upd H a (.dK (a1U kvs k))) s'->a0Y v w'->Q w' s'):wpAny (model X.prog X.w) A (call (.builtin "dict.pop") (.ref a::u::more)) Q E s:=by
 obtain⟨z,hd,vs,rel,dd⟩:=b1r I.hok e;obtain⟨w',hw,rw'⟩:=a3g.some_of (v:=v) (o:=valueAt vs k) (by rw[<-l];exact rel.val k);have hp:(keyPart u).isSome=true:=by
  cases k with
  |inl i=>obtain⟨t,q⟩:=(show ∃t,u=Value.int i t from ry);subst q;rfl
  |inr x=>obtain⟨t,q⟩:=(show ∃t,u=Value.str x t from ry);subst q;rfl
 have ha:argsOk "dict.pop" ⟨.ref a::u::more,[]⟩:=by
  rcases hm with q |⟨x,q⟩
  ·subst q;exact PySem.F.args_dict_pop_2 _ _
  ·subst q;exact PySem.F.args_dict_pop_3 _ _ _
 refine call_meetsIn PySem.F.slot_dict_pop dd.typeIs PySem.F.entry_dict_pop ha (meets_dict_pop_there (a0i X.prog X.w) a (a4d ry) more hm hp)
  ⟨vs,w',dd,by rw[<-rel.length];exact z,hw,fun h' dd' hs=>h w' _ ?_ rw'⟩
 have he:∃q,h'.get? a=some q:=let ⟨q,_,_,hq,_⟩:=dd';⟨q,hq⟩
 exact a3x I (by rw[e];exact True.intro) hs he (a3z (Nat.le_trans (a7d kvs k) z) hd (rel.drop k) dd')
theorem b7V {Q:Vs0}(I:Inv X Z σ H s)(e:Rd H a (.dK kvs))(h:∀t s',Inv X Z σ H s'->Q (.int kvs.length t) s'):wpAny (model X.prog X.w) A (call (.builtin "len") [.ref a]) Q E s:=by
 obtain⟨z,hd,vs,rel,dd⟩:=a2R I.hok e;refine call_len_dict hd dd (by rw[<-rel.length];rw[sizeLine_eq] at z;omega) ?_;rw[<-rel.length];exact h _ _ (I.tok _)
end
def b8t (i:Expr):Prop:=∀ov iv,subscripted i false ov iv=operate [ov,iv] (getItem ov iv)
theorem b5a {prog:Program}{w:World}{A:Around}{E:Vs0}{s:Shared}{env:Env}{value slice:Expr}{pos:Pos}{T id:String}{Q:Vs0}
  (hl:typeLookup (.type T) "__getitem__"=pure (some (.builtin id))) (hs:b8t slice)
  (h:wpAny (model prog w) A (eval value env) (fun o s₁=>wpAny (model prog w) A (eval slice env) (fun i s₂=>s₂.TypeIs o T/\wpAny (model prog w) A (getItem o i) Q E s₂) E s₁) E s) :
  wpAny (model prog w) A (eval (.Subscript value slice pos) env) Q E s:=by
 refine Subscript_ (wpAny_mono h (fun o s₁ h₁=>wpAny_mono h₁ (fun i s₂ h₂=>?_) fun _ _ x=>x) fun _ _ x=>x);obtain⟨hT,h₂⟩:=h₂;unfold subscriptTail;refine wB0 ?_;rw[getitemInPython_of_ne hT.not_modules];refine wB0 (wpAny_specialOf hT hl ?_);have fin:wpAny (model prog w) A (subscripted slice false o i) (fun r s₃=>wpAny (model prog w) A (letTemporaryGo value o r >>= fun _=>pure r) Q E s₃) E s₂:=by
  rw[hs o i];exact wpAny_operating (wpAny_mono h₂ (fun r s₃ h₃=>wB0 (wpAny_letTemporaryGo (wP0 h₃))) fun _ _ x=>x)
 first
  |exact wP0 (wB0 fin)
  |exact wB0 (wP0 (wB0 fin))
  |exact wB0 fin
theorem a6x {X:Cx}{Z:List (Addr×Obj)}{σ:St}{H:Hp}{s:Shared}{a:Addr}{y:V}{o:Option V}(I:Inv X Z σ H s)(g:a2q H a y o):s.TypeIs (.ref a) "dict":=by
 rcases g with ⟨kvs,k,e,_,_⟩ |⟨kvs,k,b,e,_,_,_⟩
 ·obtain⟨_,_,vs,_,dd⟩:=a2R I.hok e
  exact dd.typeIs
 ·obtain⟨_,_,xs,_,dd⟩:=a6A I.hok e
  exact dd.typeIs
def b7P (td ty:TE):TE:=fun σ H Q=>td σ H fun x H1=>ty σ H1 fun y H2=>∃a v,x=.ref a/\a2q H2 a y (some v)/\Q v H2
def tDIn (ty td:TE):TE:=fun σ H Q=>ty σ H fun y H1=>td σ H1 fun x H2=>∃a o,x=.ref a/\a2q H2 a y o/\Q (.bl o.isSome) H2
def b4n (ty td:TE):TE:=fun σ H Q=>ty σ H fun y H1=>td σ H1 fun x H2=>∃a o,x=.ref a/\a2q H2 a y o/\Q (.bl (!o.isSome)) H2
def b7f (td ty tv:TE):TS:=fun D σ H=>tv σ H fun v H1=>td σ H1 fun x H2=>ty σ H2 fun y H3=>∃a H4,x=.ref a/\a8X H3 a y v H4/\D.nx σ H4
section
variable {X:Cx}{o i e value:Expr}{pos pos' tpos:Pos}{td ty tv:TE}
theorem a0L (hu:X.A.units+1<cLine)(ho:PE X o td)(hi:PE X i ty)(hs:b8t i):PE X (.Subscript o i pos) (b7P td ty):=by
 intro Z s σ H Q I h;refine b5a PySem.F.slot_dict_getitem.lookup hs (thn (ho Z s σ H _ I h) fun u s1 ⟨x,H1,I1,rx,q1⟩=>thn (hi Z s1 σ H1 _ I1 q1) fun iv s2 ⟨y,H2,I2,ry,a,v,ex,g,q2⟩=>?_);subst ex;obtain rfl:u=Value.ref a:=rx;exact⟨a6x I2 g,a8R hu I2 g ry fun w' s3 I3 rw'=>⟨v,H2,I3,rw',q2⟩⟩
theorem a4n (hu:X.A.units+1<cLine)(hi:PE X i ty)(ho:PE X o td):PC X .In i o (tDIn ty td):=by
 intro Z s σ H Q I h;refine thn (hi Z s σ H _ I h) fun iv s1 ⟨y,H1,I1,ry,q1⟩=>thn (ho Z s1 σ H1 _ I1 q1) fun u s2 ⟨x,H2,I2,rx,a,ov,ex,g,q2⟩=>?_;subst ex;obtain rfl:u=Value.ref a:=rx;exact d_in hu I2 g ry fun s3 I3=>⟨.bl ov.isSome,H2,I3,rfl,q2⟩
theorem a2C (hu:X.A.units+1<cLine)(hi:PE X i ty)(ho:PE X o td):PC X .NotIn i o (b4n ty td):=by
 intro Z s σ H Q I h;refine thn (hi Z s σ H _ I h) fun iv s1 ⟨y,H1,I1,ry,q1⟩=>thn (ho Z s1 σ H1 _ I1 q1) fun u s2 ⟨x,H2,I2,rx,a,ov,ex,g,q2⟩=>?_;subst ex;obtain rfl:u=Value.ref a:=rx;exact b5b hu I2 g ry fun s3 I3=>⟨.bl (!ov.isSome),H2,I3,rfl,q2⟩
theorem a1h (hu:X.A.units+1<cLine)(ho:PE X o td)(hi:PE X i ty)(hv:PE X value tv)(hs:swapsWith value (some (.Subscript o i pos')) pos.line X.env=pure false) :
  PS X (.Assign [.Subscript o i pos'] value pos) (b7f td ty tv):=by
 intro Z s σ H D I h;refine wpAny_Assign_Subscript (thn (hv Z s σ H _ I h) fun r s1 ⟨v,H1,I1,rv,q1⟩=>thn (ho Z s1 σ H1 _ I1 q1) fun u s2 ⟨x,H2,I2,rx,q2⟩=>thn (hi Z s2 σ H2 _ I2 q2) fun iv s3 ⟨y,H3,I3,ry,a,H4,ex,g,q3⟩=>?_) hs;subst ex;obtain rfl:u=Value.ref a:=rx;exact b0q hu I3 g ry rv fun s4 I4=>⟨σ,H4,I4,q3⟩
end
theorem a7x {P:Program}{w:World}{H:Hp}(h:Heap)(hb:sysModules<h.objs.size):a1c P w H (h.push { cls:=.type "dict",data:=.dict #[] }) h.objs.size (.dK []):=
 ⟨zL0 _,beq_eq_false_iff_ne.mpr (Ne.symm (nL0 hb)),[],.nil,Heap.DictOf.new h⟩
def b6Y:TE:=fun _ H Q=>∀p,H p=none->Q (.ref p) (upd H p (.dK []))
section
variable {X:Cx}{pos:Pos}
theorem a1n:PE X (.Dict [] [] pos) b6Y:=fun Z s σ H Q I h=>
 wpAny_Dict_empty ⟨.ref s.heap.objs.size,_,I.laid (a:=s.heap.objs.size) (o:=.dK []) (t':=s.toks) (fun _ _ q=>hP0 _ q) (nR0 _) (a7x s.heap I.big),rfl,h _ (I.hok.fresh (nR0 _))⟩
end
def a9w:List (TE×TE)->St->Hp->(List (V×V)->Hp->Prop)->Prop
 |[],_,H,Q=>Q [] H
 | (tk,tv)::r,σ,H,Q=>tk σ H fun x H1=>tv σ H1 fun y H2=>a9w r σ H2 fun ps H3=>Q ((x,y)::ps) H3
abbrev VV:List (V×V)->List (Value×Value)->Prop:=Paired fun p q=>a0Y p.1 q.1/\a0Y p.2 q.2
def PPs (X:Cx)(pos:Pos)(keys:List (Option Expr))(values:List Expr)(trs:List (TE×TE)):Prop:=
 ∀(Z:List (Addr×Obj)) (s:Shared) (σ:St) (H:Hp) (Q:List (V×V)->Hp->Prop),Inv X Z σ H s->a9w trs σ H Q →
  wpAny (model X.prog X.w) X.A (evalPairs (pairTrees keys values X.env pos)) (fun vs s'=>∃ps H',Inv X Z σ H' s'/\VV ps vs/\Q ps H') X.xe s
theorem a6G {X:Cx}{pos:Pos}:PPs X pos [] [] []:=fun Z s σ H Q I h=>pairTrees_nil_walk ⟨[],H,I,.nil,h⟩
theorem a2m {X:Cx}{pos:Pos}{k v:Expr}{ks:List (Option Expr)}{vs:List Expr}{tk tv:TE}{trs:List (TE×TE)}(hk:PE X k tk)(hv:PE X v tv)(hr:PPs X pos ks vs trs) :
  PPs X pos (some k::ks) (v::vs) ((tk,tv)::trs):=fun Z s σ H Q I h=>
 pairTrees_cons_walk (thn (hk Z s σ H _ I h) fun u s1 ⟨x,H1,I1,rx,q1⟩=>thn (hv Z s1 σ H1 _ I1 q1) fun w2 s2 ⟨y,H2,I2,ry,q2⟩=>
  thn (hr Z s2 σ H2 _ I2 q2) fun ws s3 ⟨ps,H3,I3,rel,q3⟩=>⟨(x,y)::ps,H3,I3,.cons ⟨rx,ry⟩ rel,q3⟩)
def a4t (kvs more:List (Key×V)):List (Key×V):=more.foldl (fun acc kv=>a2r acc kv.1 kv.2) kvs
theorem KV.merge:∀{more:List (Key×V)} {rs:List (Key×Value)} {kvs:List (Key×V)} {vs:List (Key×Value)},KV more rs->KV kvs vs->KV (a4t kvs more) (merged vs rs):=by
 intro more rs kvs vs r;unfold KV at r
 induction r generalizing kvs vs with
 |nil=>intro q;exact q
 |@cons p q ps qs h t ih=>
  intro r0;have e:KV (a2r kvs p.1 p.2) (stored vs q.1 q.2):=by
   have:=r0.put p.1 h.2
   rw[<-h.1];exact this
  exact ih e
theorem a2D:∀(more kvs:List (Key×V)),(a4t kvs more).length<=kvs.length+more.length
 |[],kvs=>by show kvs.length<=kvs.length+0;omega
 |p::r,kvs=>by
  have h1:=a2D r (a2r kvs p.1 p.2);have h2:=a2s kvs p.1 p.2
  show(a4t (a2r kvs p.1 p.2) r).length<=_
  rw[List.length_cons];omega
theorem a4v {P:Program}{w:World}:∀{kvs:List (Key×V)} {ws:List (Value×Value)},VV (kvs.map fun kv=>(kV kv.1,kv.2)) ws->∃rs,Carries (a0i P w) ws rs/\KV kvs rs
 |[],_,r=>by rw[List.map_nil] at r;cases r;exact⟨[],True.intro,.nil⟩
 |p::kvs,_,r=>by
  rw[mN0] at r;cases r with
  |@cons a b as bs h t=>
   obtain⟨rs,c,q⟩:=a4v (P:=P) (w:=w) t;obtain⟨b1,b2⟩:=b;exact⟨(p.1,b2)::rs,⟨a4d h.1,rfl,c⟩,.cons ⟨rfl,h.2⟩ q⟩
def b7A (trs:List (TE×TE)):TE:=fun σ H Q=>∀p,H p=none->a9w trs σ (upd H p (.dK [])) fun ps H2=>H2 p=some (.dK [])/\∃kvs:List (Key×V),ps=kvs.map (fun kv=>(kV kv.1,kv.2))/\kvs.length<=15/\Q (.ref p) (upd H2 p (.dK (a4t [] kvs)))
theorem a6z {X:Cx}{pos:Pos}{keys:List (Option Expr)}{values:List Expr}{trs:List (TE×TE)}(h:PPs X pos keys values trs)(hall:keys.all (·.isSome)=true)(hl:keys.length=values.length)(h0:keys≠[])
  (h15:keys.length<=15):PE X (.Dict keys values pos) (b7A trs):=by
 intro Z s σ H Q I q;have hn:=I.hok.fresh (nR0 s.heap.objs.size);have I1:=I.laid (a:=s.heap.objs.size) (o:=.dK []) (h':=s.heap.push { cls:=.type "dict",data:=.dict #[] }) (t':=s.toks) (fun _ _ q=>hP0 _ q) (nR0 _) (a7x s.heap I.big);refine wpAny_Dict_walk (knd:=a0i X.prog X.w) hall hl h0 h15 (thn (h Z _ σ _ _ I1 (q _ hn)) fun ws s2 ⟨ps,H2,I2,rel,e,kvs,ep,lk,q2⟩=>?_);subst ep;obtain⟨rs,c,rk⟩:=a4v (P:=X.prog) (w:=X.w) rel;obtain⟨z,hd,vs0,r0,dd⟩:=b1r I2.hok e;cases r0;refine⟨rs,c,dd,fun h' dd' hs=>⟨.ref s.heap.objs.size,_,?_,rfl,q2⟩⟩;have hz:(a4t [] kvs).length<=sizeLine:=by
  have h1:=a2D kvs [];rw[List.length_nil] at h1;rw[sizeLine_eq];omega
 have he:∃q,h'.get? s.heap.objs.size=some q:=let ⟨q,_,_,hq,_⟩:=dd';⟨q,hq⟩
 exact a3x I2 (by rw[e];exact True.intro) hs he (a3z hz hd (rk.merge .nil) dd')
structure M1 (X:Cx) (o:Expr) (m:Str) (apos:Pos) (e:Expr) (cpos:Pos):Prop where
 base:attributeBase o m X.env (eval o X.env)=eval o X.env
 few:((backTo cpos (starEach [e] X.env)).all (fun x=>!x.1)&&(backToKw cpos (keywordEach [] X.env)).all (fun x=>x.1.isSome)
  && decide (([e]:List Expr).length+([]:List Keyword).length+(if ([]:List Keyword).isEmpty then 0 else 1)<30))=true
 line:(apos.endLine==cpos.line)=true
 trees:backTo cpos (starEach [e] X.env)=[(false,eval e X.env)]
structure M2 (X:Cx) (o:Expr) (m:Str) (apos:Pos) (e f:Expr) (cpos:Pos):Prop where
 base:attributeBase o m X.env (eval o X.env)=eval o X.env
 few:((backTo cpos (starEach [e,f] X.env)).all (fun x=>!x.1)&&(backToKw cpos (keywordEach [] X.env)).all (fun x=>x.1.isSome)
  && decide (([e,f]:List Expr).length+([]:List Keyword).length+(if ([]:List Keyword).isEmpty then 0 else 1)<30))=true
 line:(apos.endLine==cpos.line)=true
 trees:backTo cpos (starEach [e,f] X.env)=[(false,eval e X.env),(false,eval f X.env)]
def IsD (H:Hp)(a:Addr):Prop:=(∃kvs,Rd H a (.dK kvs))\/∃kvs,Rd H a (.dT kvs)
theorem b3i {X:Cx}{Z:List (Addr×Obj)}{σ:St}{H:Hp}{s:Shared}{a:Addr}(I:Inv X Z σ H s)(d:IsD H a) :
  s.TypeIs (.ref a) "dict"/\(∀b,Value.ref a=.ref b->∃ob,s.heap.get? b=some ob/\ob.dict=none)/\(a==sysModules)=false:=by
 rcases d with ⟨kvs,e⟩ |⟨kvs,e⟩
 ·obtain⟨_,hd,vs,_,dd⟩:=a2R I.hok e
  refine⟨dd.typeIs,fun b q=>?_,hd⟩;cases q;obtain⟨ob,_,_,h1,h2,_⟩:=dd;exact⟨ob,h1,h2.2.1⟩
 ·obtain⟨_,hd,xs,_,dd⟩:=a6A I.hok e
  refine⟨dd.typeIs,fun b q=>?_,hd⟩;cases q;obtain⟨ob,_,_,h1,h2,_⟩:=dd;exact⟨ob,h1,h2.2.1⟩
section
variable {X:Cx}{Z:List (Addr×Obj)}{σ:St}{H:Hp}{s:Shared}{a:Addr}{y d:V}{u r:Value}{o:Option V}{A:Around}{E:Vs0}
theorem b6u {Q:Vs0}(hu:A.units+1<cLine)(I:Inv X Z σ H s)(g:a2q H a y o)(ry:a0Y y u)(rd:a0Y d r)(h:∀w' s',Inv X Z σ H s'->a0Y (o.getD d) w'->Q w' s') :
  wpAny (model X.prog X.w) A (call (.builtin "dict.get") [.ref a,u,r]) Q E s:=by
 rcases g with ⟨kvs,k,e,ey,l⟩ |⟨kvs,k,b,e,ey,eb,l⟩
 ·subst ey
  obtain⟨z,hd,vs,rel,dd⟩:=a2R I.hok e;refine call_meetsIn PySem.F.slot_dict_get dd.typeIs PySem.F.entry_dict_get (PySem.F.args_dict_get_3 _ _ _) (meets_dict_get_default (a0i X.prog X.w) a (a4d ry) hd r) ⟨_,dd.mapOf,h _ _ (I.tok _) ?_⟩;rw[l];exact(rel.val k).getD rd
 ·subst ey
  cases(show u=Value.ref b from ry)
  obtain⟨z,hd,xs,rel,dd⟩:=a6A I.hok e;refine call_meetsIn PySem.F.slot_dict_get dd.typeIs PySem.F.entry_dict_get (PySem.F.args_dict_get_3 _ _ _) (meetsH_dict_get_default (tupleKind (a0i X.prog X.w)) a b hd r) ⟨tupleKind_room_in1 hu,k,xs,a4x I.hok eb,dd,h _ _ (I.tok _) ?_⟩;rw[l];exact(rel.val k).getD rd
end
def b6N (td ty tx:TE):TE:=fun σ H Q=>td σ H fun x H1=>∃a,x=.ref a/\IsD H1 a/\ty σ H1 fun y H2=>tx σ H2 fun z H3=>∃o,a2q H3 a y o/\Q (o.getD z) H3
def b5G (td ty:TE):TE:=fun σ H Q=>td σ H fun x H1=>∃a,x=.ref a/\IsD H1 a/\ty σ H1 fun y H2=>∃kvs k v,H2 a=some (.dK kvs)/\y=kV k/\a1k kvs k=some v/\Q v (upd H2 a (.dK (a1U kvs k)))
section
variable {X:Cx}{o e f:Expr}{apos cpos:Pos}{td ty tx:TE}
theorem a4T (hu:X.A.units+1<cLine)(ho:PE X o td)(he:PE X e ty)(hf:PE X f tx)(m:M2 X o "get" apos e f cpos):PE X (.Call (.Attribute o "get" apos) [e,f] [] cpos) (b6N td ty tx):=by
 intro Z s σ H Q I h;refine wpAny_Call_method m.base m.few m.line PySem.F.plainAttrs_dict PySem.F.slot_dict_get PySem.F.type_dict_get (thn (ho Z s σ H _ I h) fun u s1 ⟨x,H1,I1,rx,a,ex,d,q1⟩=>?_);subst ex;obtain rfl:u=Value.ref a:=rx;obtain⟨t1,t2,_⟩:=b3i I1 d;refine⟨t1,t2,?_⟩;rw[m.trees];refine Calls.callWith_builtin rfl (Calls.evalArgs_plain (Calls.spliced_cons (thn (he Z s1 σ H1 _ I1 q1) fun iv s2 ⟨y,H2,I2,ry,q2⟩=>
  Calls.spliced_cons (thn (hf Z s2 σ H2 _ I2 q2) fun fv s3 ⟨z,H3,I3,rz,ov,g,q3⟩=>Calls.spliced_nil ?_))))
 exact b6u hu I3 g ry rz fun w' s4 I4 rw'=>⟨_,H3,I4,rw',q3⟩
theorem a7F (ho:PE X o td)(he:PE X e ty)(m:M1 X o "pop" apos e cpos):PE X (.Call (.Attribute o "pop" apos) [e] [] cpos) (b5G td ty):=by
 intro Z s σ H Q I h;refine wpAny_Call_method m.base m.few m.line PySem.F.plainAttrs_dict PySem.F.slot_dict_pop PySem.F.type_dict_pop (thn (ho Z s σ H _ I h) fun u s1 ⟨x,H1,I1,rx,a,ex,d,q1⟩=>?_);subst ex;obtain rfl:u=Value.ref a:=rx;obtain⟨t1,t2,_⟩:=b3i I1 d;refine⟨t1,t2,?_⟩;rw[m.trees];refine Calls.callWith_builtin rfl (Calls.evalArgs_plain (Calls.spliced_cons (thn (he Z s1 σ H1 _ I1 q1) fun iv s2 ⟨y,H2,I2,ry,kvs,k,v,ea,ey,l,q2⟩=>Calls.spliced_nil ?_)));subst ey;exact b8d I2 ea ry l (.inl rfl) fun w' s3 I3 rw'=>⟨v,_,I3,rw',q2⟩
end
section
variable {X:Cx}{Z:List (Addr×Obj)}{σ:St}{H:Hp}{s:Shared}{a:Addr}{kvs:List (Key×V)}{A:Around}{E:Vs0}
theorem b2t {Q:Vs0}(I:Inv X Z σ H s)(e:Rd H a (.dK kvs))(h:∀p s',H p=none->Inv X Z σ (upd H p (.dK kvs)) s'->Q (.ref p) s'):wpAny (model X.prog X.w) A (call (.type "dict") [.ref a]) Q E s:=by
 obtain⟨z,hd,vs,rel,dd⟩:=a2R I.hok e;refine kt_call_dict hd dd (by rw[<-rel.length];exact z) fun h' dd' hs=>?_;refine h _ _ (I.hok.fresh (nR0 _)) (I.laid (a:=s.heap.objs.size) (o:=.dK kvs) (t':=s.toks) (fun b q hq=>?_) (nR0 _) (a3z z (beq_eq_false_iff_ne.mpr (Ne.symm (nL0 I.big))) rel dd'));exact(hs.2 b (nL0 (hL0 hq))).trans (hP0 _ hq)
end
end L2
namespace Att
open PySem PySem.W PySem.Calls PyProof.Rows
theorem a3A {P:Params}{h:Heap}:∀(ns:List Int) (vs:List Value),WellAll P h vs (ns.map WData.int)->IntsAre vs ns:=by
 intro ns
 induction ns with
 |nil=>
  intro vs w;rw[List.map_nil] at w;cases w;exact .nil
 |cons n ns ih=>
  intro vs w;rw[mN0] at w;cases w with
  |cons a b=>
   cases a;exact .cons _ _ (ih _ b)
theorem a9W {l:OpenLaw}{n:Nat}(hn:l.most=some n){P:Params}{h:Heap}{args:List WData}{vals:List Value}
  (hpre:l.row.toRowW.claim.pre args=true) (hwl:WellAll P h vals args) :
  ∃a vs ns,vals=[Value.ref a]/\args=[WData.list (ns.map WData.int)]/\h.get? a=some { cls:=.type "list",data:=.seq vs.toArray }/\IntsAre vs ns/\ns.length<=n:=by
 have hsh:WShape.hasAll [] args [.list .int]=true:=(pre_splitW hpre).1;have hc:l.pre.holds [] { args:=args }=true:=(pre_splitW hpre).2;obtain⟨d,r,rfl,h1,h2⟩:=hasAllW_cons hsh;obtain rfl:=hasAllW_nil h2;obtain⟨xs,rfl,h3⟩:=hasW_list h1;obtain⟨ns,rfl⟩:=items_int h3;have hlen:ns.length<=n:=by
  unfold OpenLaw.pre at hc;have h4:(WTm.not (.lt (.lit (.int (n:Int))) (.len (.arg 0)))).holds [] { args:=[.list (ns.map .int)] }=true:=by
   have h4:=(holds_andW hc).1;rw[hn] at h4;exact h4
  have h5:=condW_of h4 (w_not (w_lt w_lit (w_len_list (w_arg rfl))));rw[lM0] at h5;refine Nat.le_of_not_lt fun q=>?_;have q':(n:Int)<((ns.length:Nat):Int):=by omega
  first
   | (rw[dT0 q'] at h5;exact absurd h5 (by decide))
   | (simp at h5;omega)
 cases hwl with
 |cons w1 w2=>
  cases w2;cases w1 with
  |list ho hall=>exact⟨_,_,ns,rfl,rfl,ho,a3A ns _ hall,hlen⟩
theorem a8J (l:OpenLaw)(args:List WData):l.row.toRowW.claim.post args (.bool true) args=true:=
 postW_of (r:=l.row.toRowW) (X:=(true==true))
  (show WShape.has [] (.bool true) .bool=true by first |rfl |decide |simp[WShape.has,WShape.arms,WShape.armsAll])
  (show(WTm.eq .res (.lit (.bool true))).value [] { args:=args,res:=some (.bool true),after:=args }=some (.bool (true==true)) from w_eq_bool (w_res rfl) w_lit) rfl
theorem a6C {l:OpenLaw}{n:Nat}{q:Program}{loose:List Str}{XP:(Str->Option Value)->Heap->Prop}{YP:World->Heap->Prop}{d:DefRec}
  (hn:l.most=some n) (hdf:d.params.defaults=[])
  (call:∀(w:World) (s₀ s₁:Shared) (mg mb:Str->Option Value) (fa:Addr) (o:Obj) (pm cd doc:Value) (a:Addr) (vs:List Value) (ns:List Int),
   Ground q loose [] XP w s₀ mg mb s₁.heap->YP w s₁.heap →
   s₁.heap.get? fa=some o->o.data=.func (docDef d.name d.params d.body d.scope pm cd doc)->s₁.heap.CodeRec cd d.name->mg d.name=some (.ref fa) →
   s₁.heap.get? a=some { cls:=.type "list",data:=.seq vs.toArray }->IntsAre vs ns->ns.length<=n->s₁.gens=#[] →
   codeAny (model l.prog w) callerA (.call (.ref fa) ⟨[.ref a],[]⟩) (fun r s'=>r=.ok (.ret (.bool true))/\OldK s₁.heap s'.heap/\s'.os=s₁.os/\AllBare s'.gens) s₁) :
  WalkO q loose XP YP l.row.toRowW d [] (fun f vs=>PySem.call f vs):=by
 intro w s₀ s₁ mg mb G Y fa o pm cd doc dV kV ho hd hcd hD hmg hg args vals as hpre hlay hrd hwl hlo;obtain rfl:dV=.none:=Dflts.none hD hdf;obtain rfl:kV=.none:=Dflts.noKw hD;obtain⟨a,vs,ns,rfl,rfl,hobj,hints,hlen⟩:=a9W hn hpre hwl;refine enter_call (codeAny_mono (call w s₀ s₁ mg mb fa o pm cd doc a vs ns G Y ho (fd_plain hd) hcd hmg hobj hints hlen hg) fun r s' hq=>?_);obtain⟨rfl,h2,h3,h4⟩:=hq;exact⟨.inl ⟨.bool true,.bool true,[],rfl,fun _=>rfl,.bool true,a8J l _,fun _=>⟨List.Pairwise.nil,fun _ hm=>(nomatch hm)⟩⟩,h2,h3,h4⟩
end Att
namespace L2
open PySem PySem.Spec PyProof.Rows
theorem a5w:∀{vs:List Value} {ns:List Int},IntsAre vs ns->a1b (ns.map V.int) vs
 |_,_,.nil=>.nil
 |_,_,.cons n t h=>.cons ⟨t,rfl⟩ (a5w h)
def b7s (H:Hp):Prop:=∀b,H b=none\/∃o xs,H b=some (.frz o (.lst xs))
theorem b1U {P:Program}{w:World}{K:Fg0}{mg mb:Str->Option Value}{CX:CXT}{k:Nat}{fa a:Addr}{fd:FuncData}{x:Str}{sp:Sp}{s₁:Shared}{vs:List Value}{ns:List Int}
  (KX:K.In s₁.heap) (hns:s₁.heap.Ns mainGlobals mg) (hb:s₁.heap.Ns builtinsNs mb) (hbb:∀x:Str,x≠"__name__"->mb x=bootBuiltins x) (hlim:s₁.heap.NoLimit) (hg:s₁.gens=#[])
  (ha:s₁.heap.get? a=some { cls:=.type "list",data:=.seq vs.toArray }) (hi:IntsAre vs ns) (hl:ns.length<=sizeLine) (hr:a1u k callerA)
  (F:∀base:Heap,K.In base->base.Ns mainGlobals mg->a0A P w K mg base CX k fa fd [x] sp) (hbind:∀(s:Shared) (u:Value),BindsTo s fd ⟨[u],[]⟩ [(x,u)])
  (hsp:∀H:Hp,b7s H->SqL K H a (ns.map V.int)->sp [.ref a] H (fun v _=>v=.bl true) fun _ _ _=>False)
  (hCX:∀H e s',CX [] H s₁ (fun _ _ _=>False) e s'->False) :
  codeAny (model P w) callerA (.call (.ref fa) ⟨[.ref a],[]⟩) (fun r s'=>r=.ok (.ret (.bool true))/\OldK s₁.heap s'.heap/\s'.os=s₁.os/\AllBare s'.gens) s₁:=by
 have rv:=a5w hi;have lenV:=hi.length;have core:∀H:Hp,b7s H->SqL K H a (ns.map V.int)->HOk P w H s₁.heap->(∀b,H b≠none->b=a)->(H a≠none->K.lookup a=none) →
   codeAny (model P w) callerA (.call (.ref fa) ⟨[.ref a],[]⟩) (fun r s'=>r=.ok (.ret (.bool true))/\OldK s₁.heap s'.heap/\s'.os=s₁.os/\AllBare s'.gens) s₁:=by
  intro H hO hS hok hA hK;have base_of:∀{b:Addr} {o:Obj},s₁.heap.get? b=some o->H b=none->(b1s s₁.heap H).get? b=some o:=fun e n=>b1I e n;have noA:∀{b:Addr} {o:Obj} {es:Array DictEntry} {ep:Nat},s₁.heap.get? b=some o->o.data=.dict es ep->H b=none:=fun {b o es ep} e d=>by
   cases q:H b with
   |none=>rfl
   |some u=>
    have e':b=a:=hA b (by rw[q];simp);subst e';rw[ha] at e;cases e;have d':Data.seq vs.toArray _=Data.dict es ep:=d;cases d'
  have nsK:∀{b:Addr} {m:Str->Option Value},s₁.heap.Ns b m->(b1s s₁.heap H).Ns b m:=fun {b m} ⟨o,es,ep,e,d,r⟩=>⟨o,es,ep,base_of e (noA e d),d,r⟩;have hKb:K.In (b1s s₁.heap H):=fun b o e=>base_of (KX b o e) (by
   cases q:H b with
   |none=>rfl
   |some u=>
    have e':b=a:=hA b (by rw[q];simp);subst e';rw[hK (by rw[q];simp)] at e;cases e)
  have hM:Mod K mg (b1s s₁.heap H):=⟨hKb,nsK hns,⟨mb,nsK hb,hbb⟩,let ⟨mc,h1,h2⟩:=hlim;⟨mc,nsK h1,h2⟩⟩;have e0:b3F P w K mg (b1s s₁.heap H) callerA [] s₁ H:=⟨rfl,hM,fun b o e=>b3P e,Nat.le_of_eq (a9z _ _),trivial,fun b hb=>absurd (show b∈([]:List Addr) from hb) (by simp),hok,.of_eq hg⟩;refine codeAny_mono ((F _ hKb (nsK hns)).run callerA [] s₁ H ⟨[.ref a],[]⟩ [.ref a] [.ref a] _ _ hr e0 (hbind s₁ (.ref a)) (.cons rfl .nil) (hsp H hO hS)) fun r s' h=>?_;cases r with
  |error e=>exact(hCX H e s' h).elim
  |ok fl=>
   cases fl with
   |next=>exact False.elim h
   |brk=>exact False.elim h
   |cont=>exact False.elim h
   |ret u=>
    obtain⟨v,H',os,bare,un,hok',r',q⟩:=h;have q':v=.bl true:=q;subst q';obtain rfl:u=Value.bool true:=r';refine⟨rfl,OldK.of_keep fun b o e=>?_,os,bare⟩;cases q:H b with
    |none=>exact un.keep b o e q (by intro z;exact absurd (show b∈([]:List Addr) from z) (by simp)) (by simp)
    |some u=>
     rcases hO b with z |⟨ob,xs,z⟩
     ·rw[q] at z;cases z
     ·have z2:=un.frzs b ob _ z
      obtain⟨e1,_⟩:=hok b _ z;obtain⟨e2,_⟩:=hok' b _ z2;rw[e] at e1;cases e1;exact e2
 cases hk:K.lookup a with
 |some o=>
  have e:=KX a o hk;rw[ha] at e;cases e;refine core (fun _=>none) (fun _=>.inl rfl) (.inr ⟨_,vs.toArray,_,hk,rfl,rfl,rfl,by rw[List.size_toArray,lenV];exact hl,by simpa using rv⟩) (fun b u z=>by have z':(none:Option HO)=some u:=z;cases z') (fun b z=>absurd rfl z) fun z=>absurd rfl z
 |none=>
  refine core (fun b=>if b=a then some (.frz { cls:=.type "list",data:=.seq vs.toArray } (.lst (ns.map V.int))) else none) (fun b=>?_) (.inl (.inr ⟨{ cls:=.type "list",data:=.seq vs.toArray },if_pos rfl⟩)) (fun b u z=>?_) (fun b z=>?_) fun _=>hk
  ·by_cases hb:b=a
   ·exact .inr ⟨_,_,if_pos hb⟩
   ·exact .inl (if_neg hb)
  ·by_cases hb:b=a
   ·have z':=(if_pos hb).symm.trans z
    cases z';subst hb;exact⟨ha,by rw[lM0];exact hl,vs,_,rv,ha⟩
   ·have z':=(if_neg hb).symm.trans z
    cases z'
  ·by_cases hb:b=a
   ·exact hb
   ·exact absurd (if_neg hb) z
theorem b4a {l:PySem.W.OpenLaw}{n k:Nat}{q:Program}{loose:List Str}{XP:(Str->Option Value)->Heap->Prop}{YP:World->Heap->Prop}{d:DefRec}{K:Params->Fg0}{CX:World->CXT}{sp:World->Sp}{x:Str}
  (hn:l.most=some n) (hn2:n<=sizeLine) (hdf:d.params.defaults=[]) (hr:a1u k callerA)
  (hY:∀(w:World) (h:Heap),YP w h->(K w.params).In h)
  (F:∀(w:World) (mg:Str->Option Value) (fa:Addr) (h:Heap),(K w.params).In h->h.Ns mainGlobals mg->mg d.name=some (.ref fa) →
   ∃fd:FuncData,(∀(s:Shared) (u:Value),BindsTo s fd ⟨[u],[]⟩ [(x,u)]) ∧
    ∀base:Heap,(K w.params).In base->base.Ns mainGlobals mg->a0A l.prog w (K w.params) mg base (CX w) k fa fd [x] (sp w))
  (hsp:∀(w:World) (H:Hp) (a:Addr) (ns:List Int),ns.length<=n->b7s H->SqL (K w.params) H a (ns.map V.int)->sp w [.ref a] H (fun v _=>v=.bl true) fun _ _ _=>False)
  (hCX:∀(w:World) (H:Hp) (s:Shared) (e:Value) (s':Shared),CX w [] H s (fun _ _ _=>False) e s'->False) :
  PySem.W.WalkO q loose XP YP l.row.toRowW d [] (fun f vs=>PySem.call f vs):=by
 refine Att.a6C hn hdf fun w s₀ s₁ mg mb fa o pm cd doc a vs ns G Y ho hd hcd hmg hobj hints hlen hg=>?_;have KX:=hY w _ Y;obtain⟨fd,hb,hF⟩:=F w mg fa _ KX G.T.g hmg;exact b1U KX G.T.g G.T.b G.T.builtins G.T.nolimit hg hobj hints (Nat.le_trans hlen hn2) hr hF hb (fun H hO hS=>hsp w H a ns hlen hO hS) fun H e s'=>hCX w H s₁ e s'
def a0p (s:Stmt)(j:Nat):Stmt:=match s with
 | .ClassDef _ _ _ body _ _ _ _ _ _ _=>body.getD j (.Pass ⟨0,0,0,0⟩)
 |_=>.Pass ⟨0,0,0,0⟩
def a0Q (s:Stmt):Arguments:=match s with
 | .FunctionDef _ a _ _ _ _ _ _ _ _=>a
 |_=>{ posonlyargs:=[],args:=[],vararg:=none,kwonlyargs:=[],kw_defaults:=[],kwarg:=none,defaults:=[] }
def a0K (s:Stmt):List Stmt:=match s with
 | .FunctionDef _ _ b _ _ _ _ _ _ _=>b
 |_=>[]
def a0g (s:Stmt):Scope:=match s with
 | .FunctionDef _ _ _ _ _ _ sc _ _ _=>sc
 |_=>{ kind:=.function,names:=[],isGenerator:=false,isCoroutine:=false }
abbrev CX0:CXT:=fun _ _ _ _ _ _=>False
abbrev E0:XK:=fun _ _ _=>False
theorem a0E {X:Cx}:a3V CX0 X E0:=fun _ _ _ _ _ _ _ h=>h.elim
structure Fun (K:Fg0) (x qual:Str) (st:Stmt) (f:Addr) (fd:FuncData):Prop where
 ex:∃(oc:Value) (od:Option Addr) (kV doc pm:Value) (an:Option Addr) (cdv ct:Value) (osl:Array (Option Value)),
  fd=PySem.W.fnOf x qual (a0Q st) (a0K st) (a0g st) .none kV doc pm an cdv ct/\K.lookup f=some ⟨oc,od,.func fd,osl⟩/\PySem.W.codeIn K cdv qual=true
 kp:PySem.W.keepIn K (.ref f)=true
section
variable {P:Program}{w:World}{K:Fg0}{mg:Str->Option Value}{base:Heap}
theorem Fun.ok {x qual:Str}{st:Stmt}{f:Addr}{fd:FuncData}{N ps:List Str}{k:Nat}{sp:Sp}(F:Fun K x qual st f fd)(S:a0o N ps (a0g st))(len:∀vs H Q E,sp vs H Q E->vs.length=ps.length)
  (hbody:∀(cdv:Value) (A:Around) (outer:List Env) (s:Shared) (H:Hp) (vs:List V) (Q:VK) (E:XK),a1u k (A.deeper (envOfC qual (a0g st) s.heap.objs.size f cdv))->sp vs H Q E →
   ∃t,PSs (b0W CX0 P w K mg base N qual (a0g st) f cdv A outer s H E).nox (a0K st) t/\t { nx:=fun _ H'=>Q .non H',rt:=Q } (a4e N vs) H):a0A P w K mg base CX0 (k+1) f fd ps sp:=by
 obtain⟨oc,od,kV,doc,pm,an,cdv,ct,osl,rfl,lk,hcd⟩:=F.ex;refine b4g lk hcd S len fun A outer s H vs Q E hr hsp=>?_;obtain⟨t,h,q⟩:=hbody cdv A outer s H vs Q E hr hsp;exact⟨t,h.nox,q⟩
theorem Fun.binds {x qual:Str}{st:Stmt}{f:Addr}{fd:FuncData}{ps:List Str}(F:Fun K x qual st f fd)
  (h:∀(kV doc pm:Value) (an:Option Addr) (cdv ct:Value) (us:List Value),us.length=ps.length->bindArgs (PySem.W.fnOf x qual (a0Q st) (a0K st) (a0g st) .none kV doc pm an cdv ct) ⟨us,[]⟩=pure (ps.zip us)):a1g K fd ps []:=by
 obtain⟨oc,od,kV,doc,pm,an,cdv,ct,osl,rfl,lk,hcd⟩:=F.ex;exact .all (h kV doc pm an cdv ct)
theorem a6Z {x qual:Str}{st:Stmt}{f:Addr}{oc:Value}{od an:Option Addr}{osl:Array (Option Value)}{kV doc pm cdv ct:Value}(l:K.lookup f=some ⟨oc,od,.func (PySem.W.fnOf x qual (a0Q st) (a0K st) (a0g st) .none kV doc pm an cdv ct),osl⟩)
  (c:PySem.W.codeIn K cdv qual=true) (k:PySem.W.keepIn K (.ref f)=true):Fun K x qual st f (PySem.W.fnOf x qual (a0Q st) (a0K st) (a0g st) .none kV doc pm an cdv ct):=⟨⟨oc,od,kV,doc,pm,an,cdv,ct,osl,rfl,l,c⟩,k⟩
end
theorem a1T {A:Around}{k:Nat}(hr:a1u k A):A.units+1<cLine:=Nat.lt_of_le_of_lt (Nat.add_le_add_left (by decide:1<=64) _) hr.units
section
variable {X:Cx}
theorem pv (i:Nat){x:Str}{pos:Pos}(hN:X.N[i]? =some x:=by rfl)(hv:Vis X.env.scope x:=by first |exact Or.inl rfl |exact Or.inr (Or.inl rfl) |exact Or.inr (Or.inr rfl))(hd:(x==("__debug__":Str))=false:=by decide)
  (hcd:(x==("__classdict__":Str))=false:=by decide):PE X (.Name x pos) (b8r i):=b5u hN hv hd hcd
theorem a1R {A B:Prop}(h:B):if false=true then A else B:=by
 rw[if_neg bF0];exact h
theorem a6m {A B:Prop}(h:A):if true=true then A else B:=by
 rw[if_pos rfl];exact h
theorem a9t {c A B:Prop}[Decidable c](h1:c->A)(h2:¬c->B):if c then A else B:=by
 by_cases h:c
 ·rw[if_pos h]
  exact h1 h
 ·rw[if_neg h]
  exact h2 h
def a0k (H H':Hp):Prop:=∀b o,H b=some o->H' b=some o
theorem a0k.refl (H:Hp):a0k H H:=fun _ _ h=>h
theorem a0k.trans {H H1 H2:Hp}(a:a0k H H1)(b:a0k H1 H2):a0k H H2:=fun c o h=>b c o (a c o h)
theorem a0k.seq {K:Fg0}{H H':Hp}{a:Addr}{xs:List V}(e:a0k H H')(h:SqL K H a xs):SqL K H' a xs:=by
 rcases h with (h |⟨o,h⟩) |h
 ·exact .inl (.inl (e _ _ h))
 ·exact .inl (.inr ⟨o,e _ _ h⟩)
 ·exact .inr h
theorem a5K:a1r X (.builtin "len") (fun xs H Q=>∃a kvs,xs=[V.ref a]/\H a=some (.dK kvs)/\Q (.int kvs.length) H):=by
 intro Z s σ H xs us Q I r h;obtain⟨a,kvs,rfl,ha,q⟩:=h;obtain⟨u,rfl,ru⟩:=a1Z r;cases ru;exact b7V I (.inl ha) fun t s' I'=>⟨.int kvs.length,H,I',⟨t,rfl⟩,q⟩
end
section
variable {κ:Type}[DecidableEq κ]
theorem b4S {kvs:List (κ×V)}{k:κ}{v:V}(h:a1k kvs k=some v):k∈kvs.map (·.1):=by
 have q:(kvs.any fun kv=>decide (kv.1=k))=true:=by
  rw[a3j,h]
  all_goals rfl
 obtain⟨p,hp,e⟩:=List.any_eq_true.mp q;exact mM0.mpr ⟨p,hp,of_decide_eq_true e⟩
end
theorem Fun.b1 {K:Fg0}{x q:Str}{st:Stmt}{f:Addr}{fd:FuncData}(F:Fun K x q st f fd)(p0:Str)(h:∀(kV doc pm:Value) (an:Option Addr) (cdv ct u0:Value),bindArgs (PySem.W.fnOf x q (a0Q st) (a0K st) (a0g st) .none kV doc pm an cdv ct) ⟨[u0],[]⟩=pure [(p0,u0)]):a1g K fd [p0] []:=F.binds fun kV doc pm an cdv ct us hl=>by
 match us,hl with
 |[u0],_=>exact h kV doc pm an cdv ct u0
theorem Fun.b2 {K:Fg0}{x q:Str}{st:Stmt}{f:Addr}{fd:FuncData}(F:Fun K x q st f fd)(p0 p1:Str)(h:∀(kV doc pm:Value) (an:Option Addr) (cdv ct u0 u1:Value),bindArgs (PySem.W.fnOf x q (a0Q st) (a0K st) (a0g st) .none kV doc pm an cdv ct) ⟨[u0,u1],[]⟩=pure [(p0,u0),(p1,u1)]):a1g K fd [p0,p1] []:=F.binds fun kV doc pm an cdv ct us hl=>by
 match us,hl with
 |[u0,u1],_=>exact h kV doc pm an cdv ct u0 u1
theorem Fun.b3 {K:Fg0}{x q:Str}{st:Stmt}{f:Addr}{fd:FuncData}(F:Fun K x q st f fd)(p0 p1 p2:Str)(h:∀(kV doc pm:Value) (an:Option Addr) (cdv ct u0 u1 u2:Value),bindArgs (PySem.W.fnOf x q (a0Q st) (a0K st) (a0g st) .none kV doc pm an cdv ct) ⟨[u0,u1,u2],[]⟩=pure [(p0,u0),(p1,u1),(p2,u2)]):a1g K fd [p0,p1,p2] []:=F.binds fun kV doc pm an cdv ct us hl=>by
 match us,hl with
 |[u0,u1,u2],_=>exact h kV doc pm an cdv ct u0 u1 u2
theorem Fun.b4 {K:Fg0}{x q:Str}{st:Stmt}{f:Addr}{fd:FuncData}(F:Fun K x q st f fd)(p0 p1 p2 p3:Str)(h:∀(kV doc pm:Value) (an:Option Addr) (cdv ct u0 u1 u2 u3:Value),bindArgs (PySem.W.fnOf x q (a0Q st) (a0K st) (a0g st) .none kV doc pm an cdv ct) ⟨[u0,u1,u2,u3],[]⟩=pure [(p0,u0),(p1,u1),(p2,u2),(p3,u3)]):a1g K fd [p0,p1,p2,p3] []:=F.binds fun kV doc pm an cdv ct us hl=>by
 match us,hl with
 |[u0,u1,u2,u3],_=>exact h kV doc pm an cdv ct u0 u1 u2 u3
theorem Fun.b5 {K:Fg0}{x q:Str}{st:Stmt}{f:Addr}{fd:FuncData}(F:Fun K x q st f fd)(p0 p1 p2 p3 p4:Str)(h:∀(kV doc pm:Value) (an:Option Addr) (cdv ct u0 u1 u2 u3 u4:Value),bindArgs (PySem.W.fnOf x q (a0Q st) (a0K st) (a0g st) .none kV doc pm an cdv ct) ⟨[u0,u1,u2,u3,u4],[]⟩=pure [(p0,u0),(p1,u1),(p2,u2),(p3,u3),(p4,u4)]):a1g K fd [p0,p1,p2,p3,p4] []:=F.binds fun kV doc pm an cdv ct us hl=>by
 match us,hl with
 |[u0,u1,u2,u3,u4],_=>exact h kV doc pm an cdv ct u0 u1 u2 u3 u4
theorem Fun.b8 {K:Fg0}{x q:Str}{st:Stmt}{f:Addr}{fd:FuncData}(F:Fun K x q st f fd)(p0 p1 p2 p3 p4 p5 p6 p7:Str)(h:∀(kV doc pm:Value) (an:Option Addr) (cdv ct u0 u1 u2 u3 u4 u5 u6 u7:Value),bindArgs (PySem.W.fnOf x q (a0Q st) (a0K st) (a0g st) .none kV doc pm an cdv ct) ⟨[u0,u1,u2,u3,u4,u5,u6,u7],[]⟩=pure [(p0,u0),(p1,u1),(p2,u2),(p3,u3),(p4,u4),(p5,u5),(p6,u6),(p7,u7)]):a1g K fd [p0,p1,p2,p3,p4,p5,p6,p7] []:=F.binds fun kV doc pm an cdv ct us hl=>by
 match us,hl with
 |[u0,u1,u2,u3,u4,u5,u6,u7],_=>exact h kV doc pm an cdv ct u0 u1 u2 u3 u4 u5 u6 u7
theorem a0o.k {N P:List Str}{sc:Scope}(h:sc.kind=.function/\sc.isCoroutine=false/\sc.isGenerator=false/\N.Nodup/\N.take P.length=P/\(∀x∈P,sc.names.lookup x=some .local\/sc.names.lookup x=some .cell)/\∀y∈sc.names,y.2≠.free):a0o N P sc:=let ⟨a,b,c,d,e,f,g⟩:=h;⟨a,b,c,d,e,f,g⟩
def a3Y (env:Env)(cs:List (Str×Addr))(y:Str×NameKind):List (Str×Addr):=
 if (y.2==NameKind.free)=true then(y.1,(env.cells.lookup y.1).getD 0)::cs else cs
def a6O (env:Env)(names:List (Str×NameKind)):List (Str×Addr):=names.foldl (a3Y env) []
theorem a3U {env:Env}:∀(names:List (Str×NameKind)) (cs:List (Str×Addr)),(∀y∈names,y.2=.free->∃c,env.cells.lookup y.1=some c) →
  (forIn names cs fun y r=>(if (y.2==NameKind.free)=true then do let a <-cellOf env y.1;pure (ForInStep.yield ((y.1,a)::r)) else pure (ForInStep.yield r):Sem (ForInStep (List (Str×Addr)))))=pure (names.foldl (a3Y env) cs)
 |[],cs,_=>rfl
 |y::r,cs,h=>by
  rw[List.forIn_cons,List.foldl_cons]
  by_cases hy:(y.2==NameKind.free)=true
  ·obtain⟨c,hc⟩:=h y List.mem_cons_self (eq_of_beq hy)
   have e:cellOf env y.1=pure c:=by unfold cellOf;rw[hc]
   rw[if_pos hy,e,pure_bind,pure_bind];have e2:a3Y env cs y=(y.1,c)::cs:=by unfold a3Y;rw[if_pos hy,hc];rfl
   rw[e2];exact a3U r _ fun z hz=>h z (mL0 _ hz)
  ·rw[if_neg hy,pure_bind]
   have e2:a3Y env cs y=cs:=by unfold a3Y;rw[if_neg hy]
   rw[e2];exact a3U r _ fun z hz=>h z (mL0 _ hz)
theorem b0t {env:Env}{scope:Scope}(h:∀y∈scope.names,y.2=.free->∃c,env.cells.lookup y.1=some c):closureFor scope env=pure (a6O env scope.names):=by
 have e:=a3U (env:=env) scope.names [] h;unfold a6O;rw[<-e];simp only[closureFor,bind_pure_comp,map_pure,bind_pure]
theorem a7u {env:Env}:∀(names:List (Str×NameKind)) (cs:List (Str×Addr)),(∀y∈names,y.2=.free->∃c,env.cells.lookup y.1=some c)->(∀x c,cs.lookup x=some c->env.cells.lookup x=some c) →
  ∀x c,(names.foldl (a3Y env) cs).lookup x=some c->env.cells.lookup x=some c
 |[],cs,_,hc,x,c,e=>hc x c e
 |y::r,cs,h,hc,x,c,e=>by
  rw[List.foldl_cons] at e;refine a7u r _ (fun z hz=>h z (mL0 _ hz)) (fun z d q=>?_) x c e;unfold a3Y at q
  by_cases hy:(y.2==NameKind.free)=true
  ·obtain⟨c',hc'⟩:=h y List.mem_cons_self (eq_of_beq hy)
   rw[if_pos hy,List.lookup_cons,hc'] at q;cases hz:z==y.1 with
   |true=>
    rw[hz] at q;have q':c'=d:=Option.some.inj q;rw[eq_of_beq hz,hc',q']
   |false=>
    rw[hz] at q;exact hc z d q
  ·rw[if_neg hy] at q
   exact hc z d q
theorem a4R {env:Env}:∀(names:List (Str×NameKind)) (cs:List (Str×Addr)) (x:Str),((x,NameKind.free)∈names\/∃c,cs.lookup x=some c)->∃c,(names.foldl (a3Y env) cs).lookup x=some c
 |[],cs,x,h=>by
  rcases h with h |h
  ·cases h
  ·exact h
 |y::r,cs,x,h=>by
  rw[List.foldl_cons];refine a4R r _ x ?_;rcases h with h |⟨c,h⟩
  ·rcases mK0.mp h with e |e
   ·subst e
    refine .inr ⟨(env.cells.lookup x).getD 0,?_⟩;unfold a3Y;rw[if_pos (show((x,NameKind.free).2==NameKind.free)=true from rfl),List.lookup_cons,beq_self_eq_true]
   ·exact .inl e
  ·refine .inr ?_
   unfold a3Y
   by_cases hy:(y.2==NameKind.free)=true
   ·rw[if_pos hy,List.lookup_cons]
    cases hz:x==y.1 with
    |true=>exact⟨_,rfl⟩
    |false=>exact⟨c,h⟩
   ·rw[if_neg hy]
    exact⟨c,h⟩
abbrev a1v (X:Cx)(scope:Scope)(N:List Str)(s:Shared)(H:Hp)(fp:List Addr):Cx where
 prog:=X.prog
 w:=X.w
 K:=X.K
 mg:=X.mg
 base:=X.base
 A:=X.A
 N:=N
 s₀:=s
 H₀:=H
 env:=compEnvC scope (a6O X.env scope.names) s.heap.objs.size X.env
 outer:=X.stack
 stack:=X.stack
 ex:=fp
 fn:=fun _=>false
 calm:=X.calm
 pn:=[]
 xe:=fun _ _=>False
structure a5L (osc scope:Scope) (N0:List Str) (xs:List Str) (fr:List Nat):Prop where
 kind:scope.kind=.function
 nocell:∀y∈scope.names,y.2≠.cell
 names:∀y∈scope.names,y.2=.local->scope.names.lookup y.1=some .local
 free:∀y∈scope.names,y.2=.free->osc.names.lookup y.1=some .cell\/osc.names.lookup y.1=some .free
 fro:∀j∈fr,∃x,N0[j]? =some x/\scope.names.lookup x=some .free
 nd:(xs++fr.map fun j=>N0.getD j "").Nodup
def a1J (N0:List Str)(xs:List Str)(fr:List Nat):List Str:=xs++fr.map fun j=>N0.getD j ""
def a2V (xs:List Str)(fr:List Nat)(σ:St):St:=xs.map (fun _=>none)++fr.map fun j=>(σ[j]?).join
theorem a1a {κ:Type}:∀{l:List (Str×κ)} {x:Str} {k:κ},l.lookup x=some k->(x,k)∈l
 |[],_,_,h=>by cases h
 | (n,k')::r,x,k,h=>by
  rw[List.lookup_cons] at h;cases hx:x==n with
  |true=>
   rw[hx] at h;have h':k'=k:=Option.some.inj h;rw[eq_of_beq hx,h'];exact List.mem_cons_self
  |false=>
   rw[hx] at h;exact mL0 _ (a1a h)
theorem a2f {env:Env}:∀{names:List (Str×NameKind)} {x:Str} {k:NameKind},
  (names.map fun(n,k)=>if (k==NameKind.free&&env.scope.kind==.function&&env.kindOf n==some .cell) then(n,NameKind.cell) else(n,k)).lookup x=some k →
  names.lookup x=some k\/(k=.cell/\names.lookup x=some .free)
 |[],_,_,h=>by cases h
 | (n,k')::r,x,k,h=>by
  have ih:=@a2f env r x k;rw[mN0] at h;rw[List.lookup_cons]
  by_cases hc:(k'==NameKind.free&&env.scope.kind==.function&&env.kindOf n==some .cell)=true
  ·have h':List.lookup x ((n,NameKind.cell)::(r.map fun(n,k)=>if (k==NameKind.free&&env.scope.kind==.function&&env.kindOf n==some .cell) then(n,NameKind.cell) else(n,k)))=some k:=by
    rw[<-h];simp only[hc,if_true]
   rw[List.lookup_cons] at h';cases hx:x==n with
   |true=>
    rw[hx] at h';have h2:NameKind.cell=k:=Option.some.inj h';rw[Bool.and_eq_true,Bool.and_eq_true] at hc;exact .inr ⟨h2.symm,congrArg some (eq_of_beq hc.1.1)⟩
   |false=>
    rw[hx] at h';exact ih h'
  ·have h':List.lookup x ((n,k')::(r.map fun(n,k)=>if (k==NameKind.free&&env.scope.kind==.function&&env.kindOf n==some .cell) then(n,NameKind.cell) else(n,k)))=some k:=by
    rw[<-h];simp only[hc];rfl
   rw[List.lookup_cons] at h';cases hx:x==n with
   |true=>
    rw[hx] at h';exact .inl h'
   |false=>
    rw[hx] at h';exact ih h'
theorem a3a {env:Env}:∀{names:List (Str×NameKind)} {x:Str},names.lookup x=some .free →
  (names.map fun(n,k)=>if (k==NameKind.free&&env.scope.kind==.function&&env.kindOf n==some .cell) then(n,NameKind.cell) else(n,k)).lookup x=some .cell ∨
  (names.map fun(n,k)=>if (k==NameKind.free&&env.scope.kind==.function&&env.kindOf n==some .cell) then(n,NameKind.cell) else(n,k)).lookup x=some .free
 |[],_,h=>by cases h
 | (n,k')::r,x,h=>by
  have ih:=@a3a env r x;rw[List.lookup_cons] at h;rw[mN0]
  by_cases hc:(k'==NameKind.free&&env.scope.kind==.function&&env.kindOf n==some .cell)=true
  ·have e:(match (n,k') with | (n,k)=>if (k==NameKind.free&&env.scope.kind==.function&&env.kindOf n==some .cell) then(n,NameKind.cell) else(n,k))=(n,NameKind.cell):=by
    simp only[hc,if_true]
   rw[e,List.lookup_cons];cases hx:x==n with
   |true=>exact .inl rfl
   |false=>rw[hx] at h;exact ih h
  ·have e:(match (n,k') with | (n,k)=>if (k==NameKind.free&&env.scope.kind==.function&&env.kindOf n==some .cell) then(n,NameKind.cell) else(n,k))=(n,k'):=by
    simp only[hc];rfl
   rw[e,List.lookup_cons];cases hx:x==n with
   |true=>
    rw[hx] at h;exact .inr h
   |false=>rw[hx] at h;exact ih h
section
variable {X:Cx}
theorem a3I {osc scope:Scope}{N0 xs:List Str}{fr:List Nat}{Z:List (Addr×Obj)}{σ:St}{H:Hp}{s:Shared}(C:a5L osc scope N0 xs fr)(ho:X.env.scope=osc)(I:Inv X Z σ H s) :
  ∀y∈scope.names,y.2=.free->∃c,X.env.cells.lookup y.1=some c:=fun y hy e=>by
 refine I.ok.has y.1 ?_;rw[<-ho] at C;exact C.free y hy e
theorem a7V {osc scope:Scope}{N0 xs:List Str}{fr:List Nat}{Z:List (Addr×Obj)}{σ:St}{H:Hp}{s:Shared}{fp:List Addr}{h₁:Heap}{tk:Nat}(C:a5L osc scope N0 xs fr)(ho:X.env.scope=osc)(hN0:X.N=N0)(I:Inv X Z σ H s)
  (hf:∀b∈fp,a8w X Z H b) (hlt:∀b∈fp,b<s.heap.objs.size) (hn:h₁.Ns s.heap.objs.size fun _=>none) (hk:∀b o,s.heap.get? b=some o->h₁.get? b=some o) :
  Inv (a1v X scope (a1J N0 xs fr) s H fp) [] (a2V xs fr σ) H { s with heap:=h₁,toks:=tk }:=by
 subst hN0;have hfree:=a3I C ho I;have sub:=a7u (env:=X.env) scope.names [] hfree (fun x c e=>by cases e);have nC:∀x c,X.env.cells.lookup x=some c->c≠s.heap.objs.size:=fun x c e z=>by
  obtain⟨v,q⟩:=I.cell x c e;exact absurd q.lt (by rw[z];exact Nat.lt_irrefl _)
 refine⟨⟨I.ok.mod,C.kind,I.ok.glob,I.ok.blt,nR0 _,fun x y c h1 h2=>I.ok.inj x y c (sub x c h1) (sub y c h2),fun x hx=>?_,fun x c h _=>(bF0 h).elim,I.ok.hd,I.ok.frames,.inl rfl,fun b hb=>?_,I.bs,Nat.le_trans I.ok.bsz I.sz,fun b o e hb=>?_,fun b hb hz=>?_,I.stack,I.stkFree⟩,
  rfl,I.bare,Un.kept hk,⟨_,hn,fun i x v h1 h2 h3=>?_⟩,fun x c h=>?_,I.hok.fresh (nR0 _),fun x c h=>I.freeC x c (sub x c h),fun p hp=>absurd (show p∈([]:List (Addr×Obj)) from hp) (by simp),I.hok.kept hk,?_⟩
 ·have hx':(relabel scope X.env).names.lookup x=some .cell\/(relabel scope X.env).names.lookup x=some .free:=hx
  refine a4R (env:=X.env) scope.names [] x (.inl ?_);rcases hx' with q |q
  ·rcases a2f q with z |⟨_,z⟩
   ·exact absurd rfl (C.nocell _ (a1a z))
   ·exact a1a z
  ·rcases a2f q with z |⟨z,_⟩
   ·exact a1a z
   ·cases z
 ·exact⟨nL0 (hlt b hb),fun x c h=>(hf b hb).2.2.2.2.1 x c (sub x c h)⟩
 ·rcases (hf b hb).2.2.2.1 with z |z
  ·exact I.ok.noex b o e z
  ·exact absurd (Nat.lt_of_lt_of_le (hL0 e) (Nat.le_trans I.ok.bsz z)) (Nat.lt_irrefl _)
 ·rcases mK0.mp (I.stkSub b hz) with z |z
  ·exact(hf b hb).2.1 z
  ·exact(hf b hb).2.2.1 z
 ·
  have hi:¬i<xs.length:=fun hi=>by
   unfold a2V at h2;rw[gL0 (by rw[lM0];exact hi),gM0] at h2;cases q:xs[i]? with
   |none=>rw[q] at h2;cases h2
   |some y=>rw[q] at h2;cases h2
  have hi':xs.length<=i:=Nat.le_of_not_lt hi;have e2:(fr.map fun j=>(σ[j]?).join)[i-xs.length]? =some (some v):=by
   have:=h2
   unfold a2V at this;rw[gR0 (by rw[lM0];exact hi'),lM0] at this;exact this
  rw[gM0] at e2;cases q:fr[i-xs.length]? with
  |none=>rw[q] at e2;cases e2
  |some j=>
   rw[q] at e2;have e3:(σ[j]?).join=some v:=Option.some.inj e2;have e4:σ[j]? =some (some v):=by
    cases z:σ[j]? with
    |none=>rw[z] at e3;cases e3
    |some u=>rw[z] at e3;rw[show u=some v from e3]
   obtain⟨y,hy,hyf⟩:=C.fro j (gI0 q);have ex:x=y:=by
    have h1':(a1J X.N xs fr)[i]? =some x:=h1;unfold a1J at h1';rw[gR0 hi',gM0,q] at h1';have h5:X.N.getD j ""=x:=Option.some.inj h1';rw[<-h5,List.getD_eq_getElem?_getD,hy]
    rfl
   subst ex;obtain⟨m,_,hl⟩:=I.loc;have kf:=C.free _ (a1a hyf) rfl;rw[<-ho] at kf;have vis:Vis X.env.scope x:=by
    rcases kf with z |z
    ·exact .inr (.inl z)
    ·exact .inr (.inr z)
   obtain⟨u,r,l⟩:=hl j x v hy e4 vis;refine⟨u,r,.inr ⟨a3a hyf,?_⟩⟩;rcases l with ⟨z,_⟩ |⟨_,c,hc,hcell⟩
   ·have z':X.env.scope.names.lookup x=some .local:=z
    rcases kf with w |w
    ·rw[z'] at w;cases w
    ·rw[z'] at w;cases w
   ·obtain⟨c',hc'⟩:=a4R (env:=X.env) scope.names [] x (.inl (a1a hyf))
    have e5:=sub x c' hc';rw[hc] at e5;cases e5;refine⟨c,hc',?_⟩;obtain⟨o,ho',hd⟩:=hcell;exact⟨o,hk _ _ ho',hd⟩
 ·obtain⟨v,o,ho',hd⟩:=I.cell x c (sub x c h)
  exact⟨v,o,hk _ _ ho',hd⟩
 ·show(a2V xs fr σ).length=(a1J X.N xs fr).length
  unfold a2V a1J;simp
def PIf (X:Cx)(ifs:List Expr)(t:TT):Prop:=
 ∀(Z:List (Addr×Obj)) (s:Shared) (σ:St) (H:Hp) (Q:Bool->Hp->Prop),Inv X Z σ H s->t σ H Q →
  wpAny (model X.prog X.w) X.A (forIn ifs true fun c r=>if r=true then do let ok <-isTrue c X.env (eval c X.env);pure (ForInStep.yield ok) else pure (ForInStep.yield r)) (TP X Z σ Q) X.xe s
def b7W:TT:=fun _ H Q=>Q true H
theorem a1I {X:Cx}:PIf X [] b7W:=fun _ _ σ H Q I h=>wpAny_tests_nil ⟨H,I,h⟩
def a9s (J:It)(g:TG)(tt:TT)(te:TE)(R:Addr->Hp->Prop)(D:Addr)(σ0:St)(H0:Hp):Prop:=
 ∃W:Nat->Nat->St->Hp->Prop,(∃m,W 0 m σ0 H0)/\∀i m σ H,W i m σ H →
  (J.stop i H/\R D H) ∨
  (J.go i H/\∃(N:St->V->Hp->Prop) (M:St->Hp->Prop),(∀σ2 y H4,N σ2 y H4->∃ys,H4 D=some (.lst ys)/\ys.length<sizeLine/\∃m',m'<m/\W (i+1) m' σ2 (upd H4 D (.lst (ys++[y])))) ∧
   (∀σ2 H3,M σ2 H3->∃m',m'<m/\W (i+1) m' σ2 H3) ∧
   ∀x H',J.yld i H x H'->g x σ H' fun σ2 H2=>tt σ2 H2 fun b H3=>if b=true then te σ2 H3 (N σ2) else M σ2 H3)
def b8b (xs:List Str)(fr:List Nat)(wi:TI)(g:TG)(tt:TT)(te:TE):TE:=fun σ H Q=>wi σ H fun J H1=>∀D,H1 D=none->a9s J g tt te (fun D H2=>Q (.ref D) H2) D (a2V xs fr σ) (upd H1 D (.lst []))
def b7m (i:Nat)(xs:List Str)(fr:List Nat)(wi:TI)(g:TG)(tt:TT)(te:TE):TS:=fun E σ H=>wi σ H fun J H1=>∀D,H1 D=none->a9s J g tt te (fun D H2=>E.nx (σ.set i (some (.ref D))) H2) D (a2V xs fr σ) (upd H1 D (.lst []))
theorem a4u {osc scope:Scope}{N0 xs:List Str}{fr:List Nat}{Z:List (Addr×Obj)}{σ:St}{H2:Hp}{s2:Shared}{fp:List Addr}{it:Addr}{tn:Nat->Heap->Prop}{J:It}{elt tg iter:Expr}{ifs:List Expr}{pos:Pos}
  {g:TG} {tt:TT} {te:TE} {E:Vs0} {R:Addr->Hp->Prop} {RR:Value->Addr->Result->Shared->Prop} (C:a5L osc scope N0 xs fr) (ho:X.env.scope=osc) (hN0:X.N=N0) (hc:X.calm=true)
  (hg:∀s H fp,PG (a1v X scope (a1J N0 xs fr) s H fp) tg g) (ht:∀s H fp,PIf (a1v X scope (a1J N0 xs fr) s H fp) ifs tt) (he:∀s H fp,PE (a1v X scope (a1J N0 xs fr) s H fp) elt te)
  (I2:Inv X Z σ H2 s2) (T:b1S X.prog X.w X.K tg J fp it tn) (st2:tn 0 s2.heap) (f2:∀b∈fp,a8w X Z H2 b)
  (hR:∀D,H2 D=none->a9s J g tt te R D (a2V xs fr σ) (upd H2 D (.lst [])))
  (hRR:∀(D C:Addr) (s':Shared) (H':Hp) (m:Str->Option Value),Inv X Z σ H' s'->s'.heap.Ns C m->a8w X Z H' C->R D H'->RR (.ref D) C (.ok .next) s') :
  wpAny (model X.prog X.w) X.A (newList []) (fun acc s₃=>wpAny (model X.prog X.w) X.A (newFunctionEnv scope X.env.globals (a6O X.env scope.names) [] X.env.qual none .none (some X.env)) (fun cenv s₄=>
   codeAny (model X.prog X.w) X.A (.compStart (.ListComp elt [⟨tg,iter,ifs,0⟩] scope pos) 0 (.ref it) acc { cenv with scope:=relabel scope X.env }) (RR acc cenv.locals) s₄) E s₃) E s2:=by
 refine wpAny_newObj_type (wpAny_newFunctionEnv C.nocell (by intro y hy;simp at hy) (fun h₁ hns₁ hsb₁=>?_) C.kind)
 dsimp only at hns₁ hsb₁ ⊢
 have I3:Inv X Z σ (upd H2 s2.heap.objs.size (.lst [])) { s2 with heap:=s2.heap.push { cls:=.type "list",data:=.seq ([]:List Value).toArray } }:=I2.lnew (its:=[]) (t':=s2.toks) .nil (by simp);have flt:∀b∈fp,b<s2.heap.objs.size:=fun b hb=>by
  obtain⟨o,e,_⟩:=T.obj 0 _ st2 b hb;exact hL0 e
 have f3:∀b∈fp,a8w X Z (upd H2 s2.heap.objs.size (.lst [])) b:=fun b hb=>⟨by rw[a0d (nL0 (flt b hb))];exact(f2 b hb).1,(f2 b hb).2⟩;have flt3:∀b∈fp,b<(s2.heap.push { cls:=.type "list",data:=.seq ([]:List Value).toArray }).objs.size:=fun b hb=>by
  rw[Heap.size_push];exact Nat.lt_succ_of_lt (flt b hb)
 obtain⟨W,⟨m0,w0⟩,turn⟩:=hR s2.heap.objs.size I2.fresh;generalize hD:s2.heap.objs.size=D at *;generalize hs3:s2.heap.push { cls:=.type "list",data:=.seq ([]:List Value).toArray }=h3 at *;have up2:∀b o,s2.heap.get? b=some o->h3.get? b=some o:=fun b o e=>by rw[<-hs3];exact hP0 _ e
 have old:∀b o,h3.get? b=some o->h₁.get? b=some o:=fun b o e=>hsb₁.extBut b o (nL0 (hL0 e)) (hP0 _ e);have Ic:=a7V (tk:=s2.toks+([]:List (Str×Value)).length) C ho hN0 I3 f3 flt3 hns₁ old;have st4:tn 0 h₁:=T.keep 0 _ _ st2 fun b hb o e=>old b o (up2 b o e);have stat:∀{H':Hp},(∀b∈fp,H' b=none)->∀b∈fp,a8w (a1v X scope (a1J N0 xs fr) { s2 with heap:=h3 } (upd H2 D (.lst [])) fp) [] H' b:=fun hn b hb=>
  ⟨hn b hb,nL0 (flt3 b hb),fun z=>by
   rcases mK0.mp (I3.stkSub b z) with q |q
   ·exact(f3 b hb).2.1 q
   ·exact(f3 b hb).2.2.1 q,.inl hb,fun x c h=>(Ic.ok.exf b hb).2 x c h,fun p hp=>absurd (show p∈([]:List (Addr×Obj)) from hp) (by simp)⟩
 have fin:∀{σ':St} {H':Hp} {s':Shared},Inv (a1v X scope (a1J N0 xs fr) { s2 with heap:=h3 } (upd H2 D (.lst [])) fp) [] σ' H' s'->R D H'->RR (.ref D) h3.objs.size (.ok .next) s':=fun {σ' H' s'} I' q=>by
  obtain⟨m,hm,_⟩:=I'.loc;refine hRR D h3.objs.size s' H' m (I3.call' I'.os I'.base I'.hok I'.bare fun b hb=>?_) hm (I3.fpOk (nR0 _) I'.free) q;exact⟨(f3 b hb).2.2.2.1,(f3 b hb).2.1,(f3 b hb).2.2.2.2.1,(f3 b hb).2.2.2.2.2⟩
 have loop:codeAny (model X.prog X.w) X.A (.compLoop (.ListComp elt [⟨tg,iter,ifs,0⟩] scope pos) 0 (.ref it) (.ref D) (compEnvC scope (a6O X.env scope.names) h3.objs.size X.env)) (RR (.ref D) h3.objs.size) { s2 with heap:=h₁,toks:=s2.toks+([]:List (Str×Value)).length }:=by
  refine codeAny_loop rfl (fun n s'=>∃i σ' H',Inv (a1v X scope (a1J N0 xs fr) { s2 with heap:=h3 } (upd H2 D (.lst [])) fp) [] σ' H' s'/\tn i s'.heap/\(∀b∈fp,H' b=none)/\W i n σ' H') (fun n s' hI=>?_) m0 ⟨0,_,_,Ic,st4,fun b hb=>(f3 b hb).1,w0⟩;show wpAny _ X.A ((compTurn (.ListComp elt [⟨tg,iter,ifs,0⟩] scope pos) 0 (.ref it) (.ref D) (compEnvC scope (a6O X.env scope.names) h3.objs.size X.env)).onRaise (fun x=>do noteFrame x (compEnvC scope (a6O X.env scope.names) h3.objs.size X.env);theTreesLotGoes x)) _ _ s';refine wpAny_noted ?_;rw[compTurn_list];obtain⟨i,σ',H',I',st',fr',w'⟩:=hI;refine wB0 (wpAny_standAt (wB0 ?_));rcases turn i n σ' H' w' with ⟨stop,q⟩ |⟨go,N,M,hN,hM,step⟩
  ·refine thn (T.done (a1v X scope (a1J N0 xs fr) { s2 with heap:=h3 } (upd H2 D (.lst [])) fp) rfl rfl rfl hc i [] s' σ' H' _ I' (stat fr') st' stop) fun r s4 ⟨hr,I4⟩=>?_
   subst hr;exact wP0 (fin I4 q)
  ·refine thn (T.item (a1v X scope (a1J N0 xs fr) { s2 with heap:=h3 } (upd H2 D (.lst [])) fp) rfl rfl rfl hc i [] s' σ' H' _ I' (stat fr') st' go) fun r s4 ⟨u,hr,h4⟩=>?_
   subst hr;refine wB0 (thn h4 fun _ s5 ⟨x,H5,I5,r5,y5,st5,fr5⟩=>?_);have I5':=I5.pinned (stat fr5) (T.obj _ _ st5);have again:∀{σ7:St} {H7:Hp} {s7:Shared},Inv (a1v X scope (a1J N0 xs fr) { s2 with heap:=h3 } (upd H2 D (.lst [])) fp) ([]++a5T fp s5.heap) σ7 H7 s7->(∃m',m'<n/\W (i+1) m' σ7 H7) →
     ∃m,m<n/\∃i σ' H',Inv (a1v X scope (a1J N0 xs fr) { s2 with heap:=h3 } (upd H2 D (.lst [])) fp) [] σ' H' s7/\tn i s7.heap/\(∀b∈fp,H' b=none)/\W i m σ' H':=fun {σ7 H7 s7} I7 n7=>by
    obtain⟨m',hm,w7⟩:=n7;refine⟨m',hm,i+1,σ7,H7,I7.unpinned,T.keep _ _ _ st5 fun b hb o e=>(I7.pin (b,o) (List.mem_append_right _ (List.mem_append_right _ (a2p hb e)))).1,fun b hb=>?_,w7⟩;obtain⟨o,e,d⟩:=T.obj _ _ st5 b hb;exact(I7.pin (b,o) (List.mem_append_right _ (List.mem_append_right _ (a2p hb e)))).2.1
   refine wB0 (wpAny_mono (hg _ _ _ _ s5 σ' H5 x u _ I5' r5 (step x H5 y5)) (fun _ s6 ⟨σ6,H6,I6,q6⟩=>?_) fun _ _ z=>False.elim z);refine wB0 (wpAny_mono (ht _ _ _ _ s6 σ6 H6 _ I6 q6) (fun ok s7 ⟨H7,I7,q7⟩=>?_) fun _ _ z=>False.elim z);cases ok with
   |false=>
    rw[if_neg bF0] at q7;exact wP0 ⟨rfl,again I7 (hM _ _ q7)⟩
   |true=>
    rw[if_pos rfl] at q7;refine wB0 (wB0 (wpAny_mono (he _ _ _ _ s7 σ6 H7 _ I7 q7) (fun y s8 ⟨v,H8,I8,r8,q8⟩=>?_) fun _ _ z=>False.elim z));obtain⟨ys,eD,hz,q8⟩:=hN _ _ _ q8;refine wB0 (wpAny_mono (a5p (X:=a1v X scope (a1J N0 xs fr) { s2 with heap:=h3 } (upd H2 D (.lst [])) fp) _ s8 σ6 H8 (.ref D) [v] (.ref D) [y] (fun _ H9=>∃m',m'<n/\W (i+1) m' σ6 H9) I8 rfl (.cons r8 .nil) ⟨D,ys,v,rfl,rfl,eD,hz,q8⟩) (fun _ s9 ⟨_,H9,I9,_,q9⟩=>?_) fun _ _ z=>False.elim z);exact wP0 (wP0 ⟨rfl,again I9 q9⟩)
 exact codeAny_compStart_list loop (T.self X.A 0 _ _ _ st4 loop)
variable {osc scope:Scope}{N0 xs:List Str}{fr:List Nat}{elt tg iter:Expr}{ifs:List Expr}{pos:Pos}{wi:TI}{g:TG}{tt:TT}{te:TE}
theorem a1K (C:a5L osc scope N0 xs fr)(ho:X.env.scope=osc)(hN0:X.N=N0)(hc:X.calm=true)(hi:PI X tg iter wi)
  (hg:∀s H fp,PG (a1v X scope (a1J N0 xs fr) s H fp) tg g) (ht:∀s H fp,PIf (a1v X scope (a1J N0 xs fr) s H fp) ifs tt) (he:∀s H fp,PE (a1v X scope (a1J N0 xs fr) s H fp) elt te)
  (hs:∀x,foldedSetIterable iter X.env x=pure x:=by intro _;rfl):PE X (.ListComp elt [⟨tg,iter,ifs,0⟩] scope pos) (b8b xs fr wi g tt te):=by
 intro Z s σ H Q I h;rw[eval_ListComp];refine wpAny_comprehension_free (use:=none) rfl hs (b0t (a3I C ho I)) C.kind C.names (thn (hi Z s σ H _ I h) fun v s1 h1=>thn h1 fun itv s2 h2=>?_);obtain⟨it,fp,tn,J,H2,e,I2,T,st2,f2,hR⟩:=h2;subst e;refine a4u C ho hN0 hc hg ht he I2 T st2 f2 hR fun D C s' H' m I' hm fC q=>?_;refine⟨m,hm,fun h' sb=>⟨.ref D,H',?_,rfl,q⟩⟩;exact I'.turned (t':=s'.toks) (fun b o hb e=>(sb.2 b hb).trans e) fC.1 fC.2.1 fC.2.2.2.1 fC.2.2.2.2.1 fC.2.2.2.2.2
theorem b4J {i:Nat}{y:Str}{py spos:Pos}(C:a5L osc scope N0 xs fr)(ho:X.env.scope=osc)(hN0:X.N=N0)(hc:X.calm=true)(hi:PI X tg iter wi)
  (hg:∀s H fp,PG (a1v X scope (a1J N0 xs fr) s H fp) tg g) (ht:∀s H fp,PIf (a1v X scope (a1J N0 xs fr) s H fp) ifs tt) (he:∀s H fp,PE (a1v X scope (a1J N0 xs fr) s H fp) elt te)
  (hN:X.N.Nodup) (hy:X.N[i]? =some y) (hx:Loc X.env.scope y)
  (hsw:swapsWith (.ListComp elt [⟨tg,iter,ifs,0⟩] scope pos) (some (.Name y py)) spos.line X.env=pure true:=by rfl)
  (hf:X.fn y=true\/X.env.scope.names.lookup y=some .local:=by first |exact .inl rfl |exact .inr rfl |assumption)
  (hs:∀x,foldedSetIterable iter X.env x=pure x:=by intro _;rfl):PS X (.Assign [.Name y py] (.ListComp elt [⟨tg,iter,ifs,0⟩] scope pos) spos) (b7m i xs fr wi g tt te):=by
 intro Z s σ H D I h;rw[exec_Assign_Name_used _ _ _ _ hsw];refine wB0 (wpAny_standAt (wB0 ?_));show wpAny _ X.A (do let _ <-comprehension (.ListComp elt [⟨tg,iter,ifs,0⟩] scope pos) scope X.env _ (newList []) false (eval iter X.env) (some (assign (.Name y py) X.env))) _ _ s;refine wB0 (wpAny_mono (wpAny_comprehension_free (use:=some (assign (.Name y py) X.env)) (Q:=fun _ s'=>SP X Z D .next s') rfl hs (b0t (a3I C ho I)) C.kind C.names
  (thn (hi Z s σ H _ I h) fun v s1 h1=>thn h1 fun itv s2 h2=>?_)) (fun _ s' hq=>wP0 (wP0 hq)) fun _ _ e=>e)
 obtain⟨it,fp,tn,J,H2,e,I2,T,st2,f2,hR⟩:=h2;subst e;refine a4u C ho hN0 hc hg ht he I2 T st2 f2 hR fun Dl C s' H' m I' hm fC q=>?_;refine wpAny_assign_Name (a5Q I' hN hy hx (show a0Y (.ref Dl) (.ref Dl) from rfl) (fun s3 I3 hsb=>?_) hf);obtain⟨a,sb,ha⟩:=hsb;have hCa:C≠a:=by
  rcases ha with z |z
  ·rw[z];exact fC.2.1
  ·exact fun w=>fC.2.2.2.2.1 y a z w.symm
 refine⟨m,hm.sameBut sb hCa,fun h' sb'=>⟨_,H',?_,q⟩⟩;exact I3.turned (t':=s3.toks) (fun b o hb e=>(sb'.2 b hb).trans e) fC.1 fC.2.1 fC.2.2.2.1 fC.2.2.2.2.1 fC.2.2.2.2.2
end
section
variable {X:Cx}{tg:Expr}
theorem a4P:∀{bs:List Bool} {us:List Value},a1b (bs.map V.bl) us->LSm.BoolsAre us bs
 |[],_,r=>by rw[List.map_nil] at r;cases r;exact .nil
 |b::bs,_,r=>by
  rw[mN0] at r;cases r with
  |cons h t=>
   cases h;exact .cons b (a4P t)
theorem b0T (hc:X.calm=true):a1r X (.builtin "all") (fun xs H Q=>∃(p:Addr) (bs:List Bool),xs=[.ref p]/\SqL X.K H p (bs.map V.bl)/\Q (.bl (bs.all id)) H):=by
 intro Z s σ H xs us Q I r h;obtain⟨l,bs,rfl,hq,q⟩:=h;obtain⟨u,rfl,rx⟩:=a1Z r;cases rx;obtain⟨vs,r',pl,hz⟩:=I.list hq;have hb:LSm.BoolsAre vs bs:=a4P r';have hl:=pl.isList;have hlt:l<s.heap.objs.size:=by obtain⟨_,e,_⟩:=hl;exact hL0 e
 refine call_all_walk (wpAny_pyIter_list hl ?_);refine⟨s.heap.objs.size,[s.heap.objs.size,l],[s.heap.objs.size],vs.toArray.size,_,_,fun i=>(bs[i]?).getD true,rfl,Walks.list (A:=X.A.in1) (I.ok.hd hc) _ l (nL0 hlt) vs.toArray,
  ⟨⟨_,hS0 _ rfl,rfl,rfl⟩,hl.push _⟩,fun i v s' Q' E' hP hQ=>?_,fun h' tk hk=>?_⟩
 ·obtain⟨b,e,rfl⟩:=hb.get i v (by simpa using hP)
  simp only[e,Option.getD_some] at hQ;exact wpAny_truthy_bool hQ
 ·have e:((List.range vs.toArray.size).all fun i=>(bs[i]?).getD true)=bs.all id:=by
   rw[List.size_toArray,hb.length];exact LSm.range_all bs
  rw[e];exact⟨.bl (bs.all id),H,I.kept (LSm.kept_iter hk),rfl,q⟩
theorem b2D (hc:X.calm=true):a1r X (.builtin "any") (fun xs H Q=>∃(p:Addr) (bs:List Bool),xs=[.ref p]/\SqL X.K H p (bs.map V.bl)/\Q (.bl (bs.any id)) H):=by
 intro Z s σ H xs us Q I r h;obtain⟨l,bs,rfl,hq,q⟩:=h;obtain⟨u,rfl,rx⟩:=a1Z r;cases rx;obtain⟨vs,r',pl,hz⟩:=I.list hq;have hb:LSm.BoolsAre vs bs:=a4P r';have hl:=pl.isList;have hlt:l<s.heap.objs.size:=by obtain⟨_,e,_⟩:=hl;exact hL0 e
 refine call_any_walk (wpAny_pyIter_list hl ?_);refine⟨s.heap.objs.size,[s.heap.objs.size,l],[s.heap.objs.size],vs.toArray.size,_,_,fun i=>(bs[i]?).getD false,rfl,Walks.list (A:=X.A.in1) (I.ok.hd hc) _ l (nL0 hlt) vs.toArray,
  ⟨⟨_,hS0 _ rfl,rfl,rfl⟩,hl.push _⟩,fun i v s' Q' E' hP hQ=>?_,fun h' tk hk=>?_⟩
 ·obtain⟨b,e,rfl⟩:=hb.get i v (by simpa using hP)
  simp only[e,Option.getD_some] at hQ;exact wpAny_truthy_bool hQ
 ·have e:((List.range vs.toArray.size).any fun i=>(bs[i]?).getD false)=bs.any id:=by
   rw[List.size_toArray,hb.length];exact LSm.range_any bs
  rw[e];exact⟨.bl (bs.any id),H,I.kept (LSm.kept_iter hk),rfl,q⟩
theorem a3o:a1r X (.builtin "isinstance") (fun xs H Q=>∃x n t b,xs=[x,.ty n]/\a7e X.K H x t/\PySem.W.kitOne X.K t (.type n)=some b/\Q (.bl b) H):=by
 intro Z s σ H xs us Q I r h;obtain⟨x,n,t,b,rfl,ty,e,q⟩:=h;obtain⟨u,w',rfl,rx,rc⟩:=b7n r
 cases(show w'=Value.type n from rc)
 exact a9Y I rx ty e fun tk=>⟨.bl b,H,I.tok tk,rfl,q⟩
end
section
variable {X:Cx}
theorem b3z:SlR X (fun x lo hi H Q=>∃z,x=.str z/\z.length<=sizeLine/\Q (.str (Txt.slice z lo hi)) H):=by
 intro Z s σ H x v vl vu lo hi sl Q I rx hs pl pu h;obtain⟨z,rfl,hz,q⟩:=h;obtain⟨t,rfl⟩:=rx;refine⟨"str",_,F.slot_str_getitem.lookup,typeIs_str _ _ _,?_⟩;obtain⟨o,e1,e2,e3⟩:=hs;have fin:∀(l u:Option (Int×Tok)),vl=partValue l->vu=partValue u->l.map (·.1)=lo->u.map (·.1)=hi->wpAny (model X.prog X.w) X.A (getItem (.str z t) (.ref sl)) (EP X Z σ Q) X.xe s:=by
  intro l u h1 h2 h3 h4;subst h1 h2 h3 h4;refine wpAny_getItem_str_slice (l:=l) (u:=u) (st:=none) ⟨o,e1,e2,e3⟩ rfl (post_val_or_str ⟨Nat.le_trans (Txt.slice_le z (l.map (·.1)) (u.map (·.1))) hz,fun t' k=>?_⟩);exact⟨.str (Txt.slice z (l.map (·.1)) (u.map (·.1))),H,I.tok k,⟨t',rfl⟩,q⟩
 cases pl with
 |none=>
  cases pu with
  |none=>exact fin none none rfl rfl rfl rfl
  |int j tj=>exact fin none (some (j,tj)) rfl rfl rfl rfl
 |int i ti=>
  cases pu with
  |none=>exact fin (some (i,ti)) none rfl rfl rfl rfl
  |int j tj=>exact fin (some (i,ti)) (some (j,tj)) rfl rfl rfl rfl
end
theorem b2g (x:Str){k:Int}(h0:0<=k)(h1:k<=x.length):(Txt.slice x none (some k)).cps.toList=x.cps.toList.take k.toNat:=by
 have e:Txt.slice x none (some k)=StrLaws.sliceText x none (some k):=rfl;rw[e,StrLaws.sliceText_to ⟨h0,by simpa[Str.length] using h1⟩];simp
theorem a8m (x:Str){k:Int}(h0:0<=k)(h1:k<=x.length):(Txt.slice x (some k) none).cps.toList=x.cps.toList.drop k.toNat:=by
 have e:Txt.slice x (some k) none=StrLaws.sliceText x (some k) none:=rfl;rw[e,StrLaws.sliceText_from ⟨h0,by simpa[Str.length] using h1⟩]
 show(((x.cps.toList.drop k.toNat).take ((x.cps.toList.length:Int)-k).toNat).toArray).toList=_
 rw[List.toList_toArray];refine List.take_of_length_le ?_;rw[List.length_drop]
 omega
theorem a3H {J:It}{g:TG}{te:TE}{R:Addr->Hp->Prop}{D:Addr}{σ0:St}{H0:Hp}(n:Nat)(ev:Nat->V)(Pv:Nat->St->Hp->Prop)(hn:n<=sizeLine)(h0:Pv 0 σ0 H0)(hD0:H0 D=some (.lst []))
  (hs:∀i σ H,i<n->Pv i σ H->H D=some (.lst ((List.range i).map ev))->J.go i H/\∀x H',J.yld i H x H'->g x σ H' fun σ2 H2=>te σ2 H2 fun y H4=>y=ev i/\H4 D=some (.lst ((List.range i).map ev))/\Pv (i+1) σ2 (upd H4 D (.lst ((List.range (i+1)).map ev))))
  (hd:∀σ H,Pv n σ H->H D=some (.lst ((List.range n).map ev))->J.stop n H/\R D H):a9s J g b7W te R D σ0 H0:=by
 refine⟨fun i m σ H=>m=n-i/\i<=n/\Pv i σ H/\H D=some (.lst ((List.range i).map ev)),⟨n,by omega,zL0 _,h0,hD0⟩,?_⟩;rintro i m σ H ⟨rfl,hi,p,hD⟩
 by_cases hlt:i<n
 ·obtain⟨go,st⟩:=hs i σ H hlt p hD
  refine .inr ⟨go,fun σ2 y H4=>y=ev i/\H4 D=some (.lst ((List.range i).map ev))/\Pv (i+1) σ2 (upd H4 D (.lst ((List.range (i+1)).map ev))),fun _ _=>False,?_,fun _ _ z=>z.elim,st⟩;rintro σ2 y H4 ⟨rfl,e,p'⟩;refine⟨_,e,by simp;omega,n-(i+1),by omega,rfl,hlt,?_,?_⟩
  ·rw[List.range_succ,mA0] at p'
   exact p'
  ·rw[a0c,List.range_succ,mA0]
   rfl
 ·have e:i=n:=by omega
  subst e;exact .inl (hd σ H p hD)
theorem a4f {α β:Type}(l:List α)(d:α)(f:α->β):((List.range l.length).map fun i=>f (l.getD i d))=l.map f:=by
 apply List.ext_getElem?;intro i;rw[gM0,gM0]
 by_cases h:i<l.length
 ·rw[List.getElem?_range h,gE0 h]
  simp[List.getD_eq_getElem?_getD,gE0 h]
 ·rw[List.getElem?_eq_none (by simpa using h),List.getElem?_eq_none (by simpa using h)]
  rfl
theorem a0k.upd {H:Hp}{D:Addr}{o:HO}(h:H D=none):a0k H (L2.upd H D o):=fun b u e=>by
 rw[a0d (a0j e h)];exact e
theorem a6j {env:Env}:∀(a b:List Stmt),execs (a++b) env=execs a env >>= fun f=>match f with | .next=>execs b env |f=>pure f
 |[],b=>by
  show execs b env=(pure Flow.next:Sem Flow) >>= _;rw[pure_bind]
 |st::r,b=>by
  rw[List.cons_append,execs_cons,execs_cons,bind_assoc]
  congr
  funext f
  cases f with
  |next=>exact a6j r b
  |ret v=>rw[pure_bind]
  |brk=>rw[pure_bind]
  |cont=>rw[pure_bind]
theorem b0G {X:Cx}{l:List Stmt}(k:Nat){D:a3y}{Pre:St->Hp->Prop}(Mid:St->Hp->Prop)(h1:∃t,PSs X (l.take k) t/\∀σ H,Pre σ H->t { D with nx:=Mid } σ H)(h2:∃t,PSs X (l.drop k) t/\∀σ H,Mid σ H->t D σ H) :
  ∃t,PSs X l t/\∀σ H,Pre σ H->t D σ H:=by
 obtain⟨t1,p1,q1⟩:=h1;obtain⟨t2,p2,q2⟩:=h2;refine⟨fun D' σ H=>D'=D/\Pre σ H,?_,fun σ H p=>⟨rfl,p⟩⟩;rintro Z s σ H D' I ⟨rfl,p⟩;have e:execs l X.env=execs (l.take k) X.env >>= fun f=>match f with | .next=>execs (l.drop k) X.env |f=>pure f:=by
  rw[<-a6j,List.take_append_drop]
 rw[e];refine wB0 (thn (p1 Z s σ H _ I (q1 σ H p)) fun f s1 z=>?_);cases f with
 |next=>
  obtain⟨σ',H',I',m⟩:=z;exact p2 Z s1 σ' H' _ I' (q2 σ' H' m)
 |ret v=>exact wP0 z
 |brk=>exact wP0 z
 |cont=>exact wP0 z
theorem b1T {X:Cx}{l:List Stmt}(k:Nat){D:a3y}{σ0:St}{H0:Hp}(Mid:St->Hp->Prop)(h1:∃t,PSs X (l.take k) t/\t { D with nx:=Mid } σ0 H0)(h2:∃t,PSs X (l.drop k) t/\∀σ H,Mid σ H->t D σ H) :
  ∃t,PSs X l t/\t D σ0 H0:=by
 obtain⟨t1,p1,q1⟩:=h1;obtain⟨t,p,q⟩:=b0G k (Pre:=fun σ H=>σ=σ0/\H=H0) Mid ⟨t1,p1,fun σ H e=>by rw[e.1,e.2];exact q1⟩ h2;exact⟨t,p,q σ0 H0 ⟨rfl,rfl⟩⟩
def a8C (a b:String):Option Bool:=if (Value.type a==Value.type b)=true then some true else if PySem.W.kitMeta b=true then(fastBuiltinMro a).map (·.contains (.type b)) else none
theorem a5E {K:Fg0}{a b:String}:PySem.W.kitOne K (.type a) (.type b)=a8C a b:=rfl
def a3r:List String:=["NoneType","bool","int","str","list","tuple","dict"]
theorem b4M:∀n∈a3r,a8C n "int"=some (n=="int" || n=="bool"):=by decide +kernel
theorem a7s:∀n∈a3r,a8C n "bool"=some (n=="bool"):=by decide +kernel
theorem b4C:∀n∈a3r,a8C n "str"=some (n=="str"):=by decide +kernel
theorem b1Y:∀n∈a3r,a8C n "dict"=some (n=="dict"):=by decide +kernel
def Is (K:Fg0)(H:Hp)(v:V)(n:String):Prop:=a7e K H v (.type n)/\n∈a3r
theorem Is.int {K:Fg0}{H:Hp}{i:Int}:Is K H (.int i) "int":=⟨.int i,by decide⟩
theorem Is.str {K:Fg0}{H:Hp}{x:Str}:Is K H (.str x) "str":=⟨.str x,by decide⟩
def a1e (K:Fg0)(x:Str)(st:Stmt):Prop:=∃(f:Addr) (oc:Value) (od:Option Addr) (kV doc pm:Value) (an:Option Addr) (cdv ct:Value) (osl:Array (Option Value)),
 PySem.W.nsIn K mainGlobals x=some (some (.ref f))/\K.lookup f=some ⟨oc,od,.func (PySem.W.fnOf x x (a0Q st) (a0K st) (a0g st) .none kV doc pm an cdv ct),osl⟩/\PySem.W.codeIn K cdv x=true/\PySem.W.keepIn K (.ref f)=true
theorem b1C {K:Fg0}{x:Str}{st:Stmt}{f:Addr}{oc:Value}{od an:Option Addr}{osl:Array (Option Value)}{kV doc pm cdv ct:Value}(a:PySem.W.nsIn K mainGlobals x=some (some (.ref f)))
  (l:K.lookup f=some ⟨oc,od,.func (PySem.W.fnOf x x (a0Q st) (a0K st) (a0g st) .none kV doc pm an cdv ct),osl⟩) (c:PySem.W.codeIn K cdv x=true) (k:PySem.W.keepIn K (.ref f)=true):a1e K x st:=
 ⟨f,oc,od,kV,doc,pm,an,cdv,ct,osl,a,l,c,k⟩
structure Df (K:Fg0) (mg:Str->Option Value) (x:Str) (st:Stmt) (f:Addr) (fd:FuncData):Prop where
 fn:Fun K x x st f fd
 mg:mg x=some (.ref f)
theorem a1e.df {K:Fg0}{h:Heap}{mg:Str->Option Value}{x:Str}{st:Stmt}(d:a1e K x st)(X:K.In h)(G:h.Ns mainGlobals mg):∃f fd,Df K mg x st f fd:=by
 obtain⟨f,oc,od,kV,doc,pm,an,cdv,ct,osl,a,l,c,k⟩:=d;exact⟨f,_,a6Z l c k,PySem.W.mg_of X G a⟩
end L2
namespace PySem.SeqAt
open MeetsSeq
open AutoSeq1 (wpAny_loadPart')
end PySem.SeqAt
namespace L2
open PySem PySem.Spec PyProof.Rows
end L2
namespace My
open PySem L2 PyProof.Rows
theorem pos {j:Int}(h:decide ((0:Int)<j)=true):0<j:=of_decide_eq_true h
def a5a (K:Fg0):Sp:=fun vs H Q _=>∃(v:V) (n:String),vs=[v]/\Is K H v n/\Q (.bl (n=="int")) H
theorem boot_isi:bootBuiltins "isinstance"=some (.builtin "isinstance"):=by decide +kernel
theorem boot_int:bootBuiltins "int"=some (.type "int"):=by decide +kernel
theorem boot_bool:bootBuiltins "bool"=some (.type "bool"):=by decide +kernel
theorem boot_str:bootBuiltins "str"=some (.type "str"):=by decide +kernel
theorem boot_dict:bootBuiltins "dict"=some (.type "dict"):=by decide +kernel
structure Bl (mg:Str->Option Value):Prop where
 len:mg "len"=none
 isi:mg "isinstance"=none
 int:mg "int"=none
 bool:mg "bool"=none
 str:mg "str"=none
 all:mg "all"=none
 range:mg "range"=none
 abs:mg "abs"=none
 ord:mg "ord"=none
 list:mg "list"=none
 tuple:mg "tuple"=none
 dict:mg "dict"=none
 any:mg "any"=none
 sorted:mg "sorted"=none
 set:mg "set"=none
 enum:mg "enumerate"=none
structure BlK (K:Fg0):Prop where
 len:PySem.W.nsIn K mainGlobals "len"=some none
 isi:PySem.W.nsIn K mainGlobals "isinstance"=some none
 int:PySem.W.nsIn K mainGlobals "int"=some none
 bool:PySem.W.nsIn K mainGlobals "bool"=some none
 str:PySem.W.nsIn K mainGlobals "str"=some none
 all:PySem.W.nsIn K mainGlobals "all"=some none
 range:PySem.W.nsIn K mainGlobals "range"=some none
 abs:PySem.W.nsIn K mainGlobals "abs"=some none
 ord:PySem.W.nsIn K mainGlobals "ord"=some none
 list:PySem.W.nsIn K mainGlobals "list"=some none
 tuple:PySem.W.nsIn K mainGlobals "tuple"=some none
 dict:PySem.W.nsIn K mainGlobals "dict"=some none
 any:PySem.W.nsIn K mainGlobals "any"=some none
 sorted:PySem.W.nsIn K mainGlobals "sorted"=some none
 set:PySem.W.nsIn K mainGlobals "set"=some none
 enum:PySem.W.nsIn K mainGlobals "enumerate"=some none
theorem BlK.bl {K:Fg0}{h:Heap}{mg:Str->Option Value}(b:BlK K)(X:K.In h)(G:h.Ns mainGlobals mg):Bl mg:=
 ⟨PySem.W.mg_none_of X G b.len,PySem.W.mg_none_of X G b.isi,PySem.W.mg_none_of X G b.int,PySem.W.mg_none_of X G b.bool,PySem.W.mg_none_of X G b.str,PySem.W.mg_none_of X G b.all,PySem.W.mg_none_of X G b.range,PySem.W.mg_none_of X G b.abs,PySem.W.mg_none_of X G b.ord,PySem.W.mg_none_of X G b.list,PySem.W.mg_none_of X G b.tuple,PySem.W.mg_none_of X G b.dict,PySem.W.mg_none_of X G b.any,PySem.W.mg_none_of X G b.sorted,PySem.W.mg_none_of X G b.set,PySem.W.mg_none_of X G b.enum⟩
theorem a6n {b:Bool}{A B:Prop}(h:b=true)(a:A):if b=true then A else B:=by rw[if_pos h];exact a
theorem a2H {b:Bool}{A B:Prop}(h:b=false)(a:B):if b=true then A else B:=by rw[h,if_neg bF0];exact a
def b2w (K:Fg0):Sp:=fun vs H Q _=>∃(a:Addr) (ns:List Int),vs=[.ref a]/\SqL K H a (ns.map V.int)/\ns.length<=63/\∀H',Q (.bl true) H'
theorem walk (k:Nat){l:PySem.W.OpenLaw}{q:Program}{loose:List Str}{XP:(Str->Option Value)->Heap->Prop}{YP:World->Heap->Prop}{d:DefRec}{K:Params->Fg0}(hk:a1u k callerA)(hn:l.most=some 63)(hdf:d.params.defaults=[])
  (hY:∀(w:World) (h:Heap),YP w h->(K w.params).In h)
  (F:∀(w:World) (mg:Str->Option Value) (fa:Addr) (h:Heap),(K w.params).In h->h.Ns mainGlobals mg->mg d.name=some (.ref fa) →
   ∃fd:FuncData,(∀(s:Shared) (u:Value),BindsTo s fd ⟨[u],[]⟩ [("_law_script",u)])/\∀base:Heap,(K w.params).In base->base.Ns mainGlobals mg->a0A l.prog w (K w.params) mg base CX0 k fa fd ["_law_script"] (b2w (K w.params))) :
  PySem.W.WalkO q loose XP YP l.row.toRowW d [] (fun f vs=>PySem.call f vs):=
 L2.b4a (n:=63) (k:=k) (x:="_law_script") (CX:=fun _=>CX0) (sp:=fun w=>b2w (K w.params)) hn (by decide) hdf hk hY F (fun _ _ a ns hl _ hS=>⟨a,ns,rfl,hS,hl,fun _=>rfl⟩) fun _ _ _ _ _ z=>z
end My
namespace L2
open PySem PySem.Spec PyProof.Rows
section
variable {X:Cx}
theorem b1H:OpR X (binaryOp .Mult) (fun x y H Q=>∃(z:Str) (n:Nat),x=.str z/\y=.int n/\1<n/\n<1000/\0<z.length/\z.length<=10000/\Q (.str ⟨(List.replicate n z.cps).foldl (·++·) #[]⟩) H):=by
 intro Z s σ H x y v u Q I rx ry h;obtain⟨z,n,rfl,rfl,h1,h2,h3,h4,q⟩:=h;obtain⟨t,rfl⟩:=rx;obtain⟨t',rfl⟩:=ry;have e1:¬((n:Int)<1):=by omega
 have e2:((n:Int)==1 || z.length==0)=false:=by
  rw[Bool.or_eq_false_iff,beq_eq_false_iff_ne,beq_eq_false_iff_ne];exact⟨by omega,by omega⟩
 have hT:Builtin.Str.tooLong (z.length * (n:Int).toNat)=false:=by
  have hm:z.length * (n:Int).toNat<=10000 * 1000:=Nat.mul_le_mul h4 (by omega);have hs:sizeLine=16777216:=sizeLine_eq;unfold PySem.Builtin.Str.tooLong;exact dF0 (by omega)
 refine P.mul_str (by rw[dF0 (by omega),dF0 (by omega)];rfl) (fun _ _=>?_) (fun _ _=>?_) ?_
 ·have:(1000:Int)<=(2 ^ 63-1)/(n:Int)/10:=by
   rw[Int.ediv_ediv_of_nonneg (by omega)];apply Int.le_ediv_of_mul_le (by omega)
   omega
  omega
 ·exact hT
 ·rw[if_neg e1,if_neg (by rw[e2];decide)]
  refine⟨fits_reps ?_,.str _,H,I.tok _,⟨_,rfl⟩,q⟩;exact hT
end
end L2
namespace Nm
open PySem PySem.NumText PySem.W PyProof.Rows
end Nm
namespace L2
open PySem PySem.Spec PyProof.Rows
end L2
namespace L2
open PySem
def Tb (h:Heap)(P:Addr->Prop)(x:Addr)(fl v:Value):Prop:=
 (v=.none/\fl=.none)\/∃T oT ts,v=.ref T/\P T/\T≠x/\h.get? T=some oT/\oT.data=.fields ts/\ts[3]? =some fl
def XAt (h:Heap)(P:Addr->Prop)(x:Addr)(C:Value)(od:Option Addr)(fl:Value):Prop:=
 ∃vs sl v1,h.get? x=some ⟨C,od,.fields vs,sl⟩/\vs[1]? =some v1/\Tb h P x fl v1
structure Nt (P:Addr->Prop) (fr:List Addr) (x:Addr) (h h':Heap):Prop where
 chg:∃ch:List Addr,(∀b∈ch,b=x\/P b/\∃o vs,h.get? b=some o/\o.data=.fields vs)/\∀b o,h.get? b=some o->b∉fr->b∉ch->h'.get? b=some o
 frm:∀b o,h.get? b=some o->b∈fr->∃sl,h'.get? b=some { o with slots:=sl }
 thr:∀b o,h.get? b=some o->∃o',h'.get? b=some o'
theorem Nt.refl {P:Addr->Prop}{fr:List Addr}{x:Addr}{h:Heap}:Nt P fr x h h:=⟨⟨[],(fun _ z=>absurd z (by simp)),fun _ _ e _ _=>e⟩,fun _ o e _=>⟨o.slots,e⟩,fun _ o e=>⟨o,e⟩⟩
section
variable {M:Model}{A:Around}{E:Vs0}{s:Shared}{base:Heap}{env:Env}{outer:List Env}{L x:Addr}{P:Addr->Prop}{C:Value}{od:Option Addr}
theorem a7A {vs:Array Value}{sl:Array (Option Value)}{head:Value}{had:Bool}{Q:Unit->Shared->Prop}(hfr:A.frames=some (env::outer))(hl:s.heap.FunFrames base (env::outer))(hf:env.frame=some L)
  (hx:s.heap.get? x=some ⟨C,od,.fields vs,sl⟩) (hsz:1<vs.size) (hP:∀T,s.heap.objs.size<=T->P T)
  (h:∀h',Nt P ((env::outer).filterMap (·.frame)) x s.heap h'->XAt h' P x C od (rawInt L)->Q () { s with heap:=h' }) :
  wpAny M A (do let a <-frameOf env;let pl <-entryPlaceOf L had;let b <-EntryCells.newEntry head a .none (rawInt L) .none pl;setField (.ref x) 1 b) Q E s:=by
 have nx:x∉(env::outer).filterMap (·.frame):=fun hm=>by
  obtain⟨_,o,ho,hnf⟩:=hl.mem hm;rw[hx] at ho;cases ho;exact hnf vs rfl
 refine wB0 (wpAny_frameOf_fun hfr hl hf fun h1 k1=>?_);refine wB0 (wpAny_entryPlaceOf fun pl hpl=>?_);unfold EntryCells.newEntry newFields;refine wB0 (wpAny_newObj_type ?_ (hpl.sizeOk5 _ _ _ _ _));generalize ho:(⟨.type "traceback",none,.fields ([head,.ref L,.none,rawInt L,.none]++(if pl.isEmpty then List.replicate 6 Value.none else pl)).toArray,#[]⟩:Obj)=ob;have x1:h1.get? x=some ⟨C,od,.fields vs,sl⟩:=(k1.2.1 x nx).trans hx;have x2:(h1.push ob).get? x=some ⟨C,od,.fields vs,sl⟩:=hP0 _ x1;have sz:h1.objs.size=s.heap.objs.size:=k1.1;refine wpAny_setField x2 rfl hsz (h _ ?_ ?_)
 ·have other:∀b o,b≠x->h1.get? b=some o->((h1.push ob).update x (Obj.mapFields (·.setIfInBounds 1 (.ref h1.objs.size)))).get? b=some o:=fun b o hb e=>by
   rw[Heap.get?_update_other _ _ (Ne.symm hb)];exact hP0 _ e
  refine⟨⟨[x],fun b hb=>.inl (mS0.mp hb),fun b o e hb hc=>?_⟩,fun b o e hb=>?_,fun b o e=>?_⟩
  ·exact other b o (fun z=>hc (by rw[z];exact mS0.mpr rfl)) ((k1.2.1 b hb).trans e)
  ·obtain⟨sl',e1⟩:=k1.2.2 b o e
   exact⟨sl',other b _ (fun z=>nx (z▸hb)) e1⟩
  ·by_cases hb:b=x
   ·subst hb
    exact⟨_,Heap.get?_update_self _ x2 rfl⟩
   ·obtain⟨sl',e1⟩:=k1.2.2 b o e
    exact⟨_,other b _ hb e1⟩
 ·have ne:h1.objs.size≠x:=Nat.ne_of_gt (hL0 x1)
  refine⟨_,_,.ref h1.objs.size,Heap.get?_update_self _ x2 rfl,(by show(vs.setIfInBounds 1 _)[1]? =_;simp[hsz]),.inr ⟨h1.objs.size,ob,_,rfl,hP _ (by rw[sz];exact nR0 _),ne,?_,(by rw[<-ho]),?_⟩⟩
  ·rw[Heap.get?_update_other _ _ (Ne.symm ne)]
   exact hS0 h1 (by rw[<-ho];rfl)
  ·first | (simp;done) | (rcases hpl with rfl |⟨_,_,_,_,_,_,_,rfl⟩<;>simp)
theorem Nt.trans {fr:List Addr}{h h1 h2:Heap}(n1:Nt P fr x h h1)(n2:Nt P fr x h1 h2)(fresh:∀b o,h.get? b=some o->b∈fr->∀vs,o.data≠.fields vs):Nt P fr x h h2:=by
 obtain⟨c1,p1,k1⟩:=n1.chg;obtain⟨c2,p2,k2⟩:=n2.chg;refine⟨⟨c1++c2.filter (fun b=>(h.get? b).isSome),fun b hb=>?_,fun b o e hb hc=>?_⟩,fun b o e hb=>?_,fun b o e=>?_⟩
 ·rcases mB0.mp hb with z |z
  ·exact p1 b z
  ·obtain⟨z1,z2⟩:=mF0.mp z
   by_cases hb1:b∈c1
   ·exact p1 b hb1
   rcases p2 b z1 with q |⟨q,o1,vs,e1,d1⟩
   ·exact .inl q
   ·refine .inr ⟨q,?_⟩
    cases g:h.get? b with
    |none=>rw[g] at z2;cases z2
    |some o=>
     by_cases hfr:b∈fr
     ·obtain⟨sl,e2⟩:=n1.frm b o g hfr
      rw[e1] at e2;cases e2;exact absurd d1 (fresh b o g hfr vs)
     ·have e2:=k1 b o g hfr hb1
      rw[e1] at e2;cases e2;exact⟨_,vs,rfl,d1⟩
 ·have m1:b∉c1:=fun z=>hc (List.mem_append_left _ z)
  have m2:b∉c2:=fun z=>hc (List.mem_append_right _ (mF0.mpr ⟨z,by rw[e];rfl⟩));exact k2 b o (k1 b o e hb m1) hb m2
 ·obtain⟨sl,e1⟩:=n1.frm b o e hb
  obtain⟨sl2,e2⟩:=n2.frm _ _ e1 hb;exact⟨sl2,e2⟩
 ·obtain⟨o1,e1⟩:=n1.thr b o e
  exact n2.thr _ _ e1
theorem b0y {Q:Unit->Shared->Prop}(hfr:A.frames=some (env::outer))(hl:s.heap.FunFrames base (env::outer))(hf:env.frame=some L)
  (hx:XAt s.heap P x C od .none) (hP:∀T,s.heap.objs.size<=T->P T)
  (h:∀h',Nt P ((env::outer).filterMap (·.frame)) x s.heap h'->XAt h' P x C od (rawInt L)->Q () { s with heap:=h' }):wpAny M A (noteFrame (.ref x) env) Q E s:=by
 obtain⟨vs,sl,v1,ex,e1,tb⟩:=hx;have hsz:1<vs.size:=(Array.getElem?_eq_some_iff.mp e1).1;unfold noteFrame;simp only[hf];refine wB0 (wpAny_field ex rfl e1 ?_);rcases tb with ⟨rfl,_⟩ |⟨T,oT,ts,rfl,pT,nT,eT,dT,fT⟩
 ·rw[if_neg (by decide)]
  exact a7A hfr hl hf ex hsz hP h
 ·rw[if_pos (show(Value.ref T != Value.none)=true from by simp)]
  refine wB0 (wpAny_field eT dT fT ?_);rw[if_neg (show ¬((Value.none==rawInt L)=true) from by simp[rawInt])];refine wB0 (wpAny_setField eT dT (Array.getElem?_eq_some_iff.mp fT).1 ?_);have oth:∀b,b≠T->(s.heap.update T (Obj.mapFields (·.setIfInBounds 3 Value.none))).get? b=s.heap.get? b:=fun b hb=>Heap.get?_update_other _ _ (Ne.symm hb);have nrec:∀b o,s.heap.get? b=some o->(∀vs,o.data≠.fields vs)->b≠T:=fun b o hb hn q=>by
   rw[q,eT] at hb;cases hb;exact hn ts dT
  have hl':=hl.of_keeps (h':=s.heap.update T (Obj.mapFields (·.setIfInBounds 3 Value.none))) fun b o hb hn=>⟨o,(oth b (nrec b o hb hn)).trans hb,rfl⟩;have frn:∀b o,s.heap.get? b=some o->b∈(env::outer).filterMap (·.frame)->∀vs,o.data≠.fields vs:=fun b o e hb=>by
   obtain⟨_,o',ho',hn⟩:=hl.mem hb;rw[e] at ho';cases ho';exact hn
  have N1:Nt P ((env::outer).filterMap (·.frame)) x s.heap (s.heap.update T (Obj.mapFields (·.setIfInBounds 3 Value.none))):=by
   refine⟨⟨[T],fun b hb=>.inr ?_,fun b o e _ hc=>?_⟩,fun b o e hb=>⟨o.slots,?_⟩,fun b o e=>?_⟩
   ·rw[mS0.mp hb]
    exact⟨pT,oT,ts,eT,dT⟩
   ·exact(oth b fun z=>hc (by rw[z];exact mS0.mpr rfl)).trans e
   ·exact(oth b (nrec b o e (frn b o e hb))).trans e
   ·by_cases hb:b=T
    ·rw[hb]
     exact⟨_,Heap.get?_update_self _ eT (Obj.isFreed_of_fields (Obj.data_mapFields dT _))⟩
    ·exact⟨o,(oth b hb).trans e⟩
  refine a7A (s:={ s with heap:=s.heap.update T (Obj.mapFields (·.setIfInBounds 3 Value.none)) }) hfr hl' hf ((oth x (Ne.symm nT)).trans ex) hsz (fun T' hT'=>hP T' (by rw[<-Heap.size_after_update s.heap T];exact hT')) fun h' n' x'=>h h' (N1.trans n' frn) x'
theorem a6K {fl:Value}{fr:List Addr}{Q:Unit->Shared->Prop}(hx:XAt s.heap P x C od fl)(frn:∀b o,s.heap.get? b=some o->b∈fr->∀vs,o.data≠.fields vs)
  (h:∀h',Nt P fr x s.heap h'->XAt h' P x C od .none->Q () { s with heap:=h' }):wpAny M A (setFlight (.ref x) none) Q E s:=by
 obtain⟨vs,sl,v1,ex,e1,tb⟩:=hx;unfold setFlight;refine wB0 (wpAny_field ex rfl e1 ?_);rcases tb with ⟨rfl,_⟩ |⟨T,oT,ts,rfl,pT,nT,eT,dT,fT⟩
 ·rw[if_neg (by decide)]
  exact wP0 (h s.heap .refl ⟨vs,sl,_,ex,e1,.inl ⟨rfl,rfl⟩⟩)
 ·rw[if_pos (show(Value.ref T != Value.none)=true from by simp)]
  refine wpAny_setField eT dT (Array.getElem?_eq_some_iff.mp fT).1 (h _ ?_ ?_)
  ·refine⟨⟨[T],fun b hb=>.inr ?_,fun b o e _ hc=>?_⟩,fun b o e hb=>⟨o.slots,?_⟩,fun b o e=>?_⟩
   ·rw[mS0.mp hb]
    exact⟨pT,oT,ts,eT,dT⟩
   ·rw[Heap.get?_update_other _ _ fun z=>hc (by rw[z];exact mS0.mpr rfl)]
    exact e
   ·rw[Heap.get?_update_other _ _ fun z=>?_]
    ·exact e
    ·subst z
     rw[eT] at e;cases e;exact frn T oT eT hb ts dT
   ·by_cases hb:b=T
    ·rw[hb]
     exact⟨_,Heap.get?_update_self _ eT (Obj.isFreed_of_fields (Obj.data_mapFields dT _))⟩
    ·exact⟨o,by rw[Heap.get?_update_other _ _ (Ne.symm hb)];exact e⟩
  ·refine⟨vs,sl,.ref T,by rw[Heap.get?_update_other _ _ nT];exact ex,e1,.inr ⟨T,_,_,rfl,pT,nT,Heap.get?_update_self _ eT (Obj.isFreed_of_fields (Obj.data_mapFields dT _)),Obj.data_mapFields dT _,?_⟩⟩
   have:=(Array.getElem?_eq_some_iff.mp fT).1
   simp[this]
theorem b1t {Q:Unit->Shared->Prop}(hfr:A.frames=some (env::outer))(hl:s.heap.FunFrames base (env::outer))(hf:env.frame=some L)
  (hx:XAt s.heap P x C od .none) (hP:∀T,s.heap.objs.size<=T->P T)
  (h:∀h',Nt P ((env::outer).filterMap (·.frame)) x s.heap h'->XAt h' P x C od .none->Q () { s with heap:=h' }):wpAny M A (leaving env (.ref x)) Q E s:=by
 have frn:∀b o,s.heap.get? b=some o->b∈(env::outer).filterMap (·.frame)->∀vs,o.data≠.fields vs:=fun b o e hb=>by
  obtain⟨_,o',ho',hn⟩:=hl.mem hb;rw[e] at ho';cases ho';exact hn
 unfold leaving;refine wB0 (b0y hfr hl hf hx hP fun h1 n1 x1=>?_);refine a6K (s:={ s with heap:=h1 }) (fr:=(env::outer).filterMap (·.frame)) x1 (fun b o e hb=>?_) fun h2 n2 x2=>h h2 (n1.trans n2 frn) x2;obtain⟨_,o',ho',hn⟩:=hl.mem hb;obtain⟨sl,e1⟩:=n1.frm b o' ho' hb;have e':h1.get? b=some o:=e;rw[e1] at e';cases e';exact hn
end
end L2
namespace L2
open PySem PySem.Spec PyProof.Rows
theorem Tb.imp {h:Heap}{P P':Addr->Prop}{x:Addr}{fl v:Value}(t:Tb h P x fl v)(k:∀b,P b->P' b):Tb h P' x fl v:=by
 rcases t with z |⟨T,oT,ts,a,b,c⟩
 ·exact .inl z
 ·exact .inr ⟨T,oT,ts,a,k T b,c⟩
theorem XAt.imp {h:Heap}{P P':Addr->Prop}{x:Addr}{C:Value}{od:Option Addr}{fl:Value}(t:XAt h P x C od fl)(k:∀b,P b->P' b):XAt h P' x C od fl:=by
 obtain⟨vs,sl,v1,a,b,c⟩:=t;exact⟨vs,sl,v1,a,b,c.imp k⟩
structure Our (X:Cx) (Z:List (Addr×Obj)) (H:Hp) (b:Addr):Prop where
 new:X.s₀.heap.objs.size<=b
 loc:b≠X.env.locals
 cel:∀y c,X.env.cells.lookup y=some c->c≠b
 pin:∀p∈X.pn++Z,p.1≠b
 unt:H b=none
section
variable {X:Cx}{Z:List (Addr×Obj)}{σ:St}{H H':Hp}{s s':Shared}{x b:Addr}{C:Value}{od:Option Addr}
theorem Inv.our' (I:Inv X Z σ H s)(h:s.heap.objs.size<=b)(hn:H' b=none):Our X Z H' b:=by
 have lt:∀c o,s.heap.get? c=some o->c≠b:=fun c o e z=>by
  subst z;exact absurd (Nat.lt_of_lt_of_le (hL0 e) h) (Nat.lt_irrefl _)
 refine⟨Nat.le_trans I.sz h,fun z=>?_,fun y c e=>?_,fun p hp=>?_,hn⟩
 ·obtain⟨m,⟨o,_,_,ho,_⟩,_⟩:=I.loc
  exact lt _ o ho z.symm
 ·obtain⟨v,o,ho,_⟩:=I.cell y c e
  exact lt c o ho
 ·exact lt p.1 _ (I.pin p hp).1
theorem Inv.our (I:Inv X Z σ H s)(h:s.heap.objs.size<=b):Our X Z H b:=I.our' h (I.hok.fresh h)
theorem Inv.noted {h':Heap}(I:Inv X Z σ H s)(hx:Our X Z H x)(n:Nt (Our X Z H) (frs X.stack) x s.heap h'):Inv X Z σ H { s with heap:=h' }:=by
 obtain⟨ch,pc,kc⟩:=n.chg;have oc:∀b∈ch,Our X Z H b:=fun b hb=>by
  rcases pc b hb with z |z
  ·rw[z];exact hx
  ·exact z.1
 have nfs:∀b,b≠X.env.locals->b∉X.fs->b∉frs X.stack:=fun b h1 h2 z=>by
  rcases mK0.mp (I.stkSub b z) with q |q
  ·exact h1 q
  ·exact h2 q
 refine I.step (g':=s.gens) (d':=s.drawn) (t':=s.toks) (ch:=ch) (fun b hb=>⟨.inr (oc b hb).new,(oc b hb).loc,(oc b hb).cel,(oc b hb).pin⟩) (fun b o h1 h2 h3 e _=>kc b o e (nfs b h1 h2) h3) (fun b o _ _ h3 e _=>?_) (fun _ _ _ _ z=>z)
  (fun b o _ e=>n.thr b o e) (fun _ _ e=>e) (fun _ _ _ e=>e) (fun b ps e=>⟨#[],by rw[e];simp⟩) (fun m hm=>?_) (fun a o e=>?_) I.bare
 ·by_cases hf:b∈frs X.stack
  ·exact n.frm b o e hf
  ·exact⟨o.slots,kc b o e hf h3⟩
 ·obtain⟨o,es,ep,ho,hd,r⟩:=hm
  by_cases hf:X.env.locals∈frs X.stack
  ·obtain⟨sl,e⟩:=n.frm _ o ho hf
   exact⟨_,es,ep,e,hd,r⟩
  ·exact⟨o,es,ep,kc _ o ho hf (fun z=>(oc _ z).loc rfl),hd,r⟩
 ·refine(I.hok a o e).stay (fun c u hc q=>kc c u q ?_ ?_) (fun _ q=>q) fun _ _ q=>q
  ·intro z
   have:=I.stkFree c z
   rcases hc with rfl |hc
   ·rw[this] at e;cases e
   ·rw[this] at hc;cases hc
  ·intro z
   have:=(oc c z).unt
   rcases hc with rfl |hc
   ·rw[this] at e;cases e
   ·rw[this] at hc;cases hc
theorem Inv.leave {M:Model}{E:Vs0}{Q:Unit->Shared->Prop}(I:Inv X Z σ H s)(hst:X.stack=X.env::X.outer)(hf:X.env.frame=some X.env.locals)(hx:Our X Z H x)(xa:XAt s.heap (Our X Z H) x C od .none)
  (h:∀s',Inv X Z σ H s'->XAt s'.heap (Our X Z H) x C od .none->Q () s'):wpAny M X.A (leaving X.env (.ref x)) Q E s:=
 b1t (base:=X.base) (by rw[I.ok.frames,hst]) (by rw[<-hst];exact I.stack) hf xa (fun T hT=>I.our hT) fun h' n xa'=>h _ (I.noted hx (by rw[hst];exact n)) xa'
end
def CX1 (P:Program)(w:World):CXT:=fun outer H s E e s'=>∃x C od H',e=.ref x/\s'.os=s.os/\AllBare s'.gens/\Un (frs outer) [] H H' s.heap s'.heap/\HOk P w H' s'.heap/\s.heap.objs.size<=x/\H' x=none ∧
 XAt s'.heap (fun T=>s.heap.objs.size<=T/\H' T=none) x C od .none/\E C od H'
abbrev XS:=Value->Option Addr->St->Hp->Prop
def a4c (X:Cx)(E:XS):Prop:=∀(Z:List (Addr×Obj)) (σ:St) (H:Hp) (s:Shared) (x:Addr) (C:Value) (od:Option Addr),Inv X Z σ H s->Our X Z H x->XAt s.heap (Our X Z H) x C od .none->E C od σ H->X.xe (.ref x) s
theorem a3n {P:Program}{w:World}{K:Fg0}{mg:Str->Option Value}{base:Heap}{N:List Str}{qual:Str}{scope:Scope}{f:Addr}{cd:Value}{A:Around}{outer:List Env}{s₀:Shared}{H₀:Hp}{E:XK} :
  a4c (b0W (CX1 P w) P w K mg base N qual scope f cd A outer s₀ H₀ E) (fun C od _ H=>E C od H):=by
 intro Z σ H s x C od I hx xa q;exact I.leave (Q:=fun _ s''=>CX1 P w outer H₀ s₀ E (.ref x) s'') rfl rfl hx xa fun s' I' xa'=>⟨x,C,od,H,rfl,I'.os,I'.bare,I'.base,I'.hok,hx.new,hx.unt,xa'.imp fun T o=>⟨o.new,o.unt⟩,q⟩
theorem a4c.pass {X:Cx}{E:XS}(L:a4c X E){Z:List (Addr×Obj)}{σ:St}{H:Hp}{s s':Shared}{e:Value}(I:Inv X Z σ H s)(h:CX1 X.prog X.w X.stack H s (fun C od H'=>E C od σ H') e s'):X.xe e s':=by
 obtain⟨x,C,od,H',rfl,os,bare,un,hok,nx,hx,xa,q⟩:=h;have I':Inv X Z σ H' s':=I.call' os un hok bare (fun b z=>absurd z (by simp));exact L Z σ H' s' x C od I' (I.our' nx hx) (xa.imp fun T z=>I.our' z.1 z.2) q
section
variable {X:Cx}{k:Nat}{f C:Addr}{fd:FuncData}{ps:List Str}{sp:Sp}{dvs:List V}{ds:List Value}{E:XS}{x m:Str}{p pos apos:Pos}{e o:Expr}{es:List Expr}{ta:TE}{t:TA}
theorem a9x {Z:List (Addr×Obj)}{σ:St}{H:Hp}{s:Shared}{Q:VK}{us:List Value}{vs:List V}(F:a0A X.prog X.w X.K X.mg X.base (CX1 X.prog X.w) k f fd ps sp)(hr:a1u k X.A)(hb:a1g X.K fd ps ds)(hd:a1b dvs ds)(L:a4c X E)
  (I:Inv X Z σ H s) (r:a1b vs us) (h:sp (vs++dvs) H Q (fun C od H'=>E C od σ H')):wpAny (model X.prog X.w) X.A (call (.ref f) us) (EP X Z σ Q) X.xe s:=by
 have r2:a1b (vs++dvs) (us++ds):=r.append hd;have hl:(us++ds).length=ps.length:=by rw[<-r2.length];exact F.len _ _ _ _ h
 refine wpAny_call (codeAny_mono (F.run X.A X.stack s H ⟨us,[]⟩ (us++ds) (vs++dvs) Q _ hr I.env0 (hb s us I.kIn hl) r2 h) fun r s' hq=>?_);cases r with
 |error e=>exact L.pass I hq
 |ok fl=>
  cases fl with
  |ret u=>exact I.after hq
  |next=>exact False.elim hq
  |brk=>exact False.elim hq
  |cont=>exact False.elim hq
def b5K (sp:Sp)(dvs:List V)(E:XS)(t:TA):TE:=fun σ H Q=>t σ H fun vs H1=>sp (vs++dvs) H1 Q (fun C od H'=>E C od σ H')
def b6H (C:Addr)(m:Str)(sp:Sp)(dvs:List V)(E:XS)(ta:TE)(t:TA):TE:=fun σ H Q=>ta σ H fun x H1=>∃a dx fs,x=.ref a/\H1 a=some (.ins C dx fs)/\fs.lookup m=none ∧
 t σ H1 fun vs H2=>sp (x::(vs++dvs)) H2 Q (fun C od H'=>E C od σ H')
theorem a5f (F:a0A X.prog X.w X.K X.mg X.base (CX1 X.prog X.w) k f fd ps sp)(hr:a1u k X.A)(hg:Gl X x)(hm:X.mg x=some (.ref f))(hk:PySem.W.keepIn X.K (.ref f)=true)(hb:a1g X.K fd ps ds)(hd:a1b dvs ds)(L:a4c X E)
  (ha:PA X (e::es) t) (hdb:(x==("__debug__":Str))=false:=by decide) (he:starEach (e::es) X.env=(false,eval e X.env)::starEach es X.env:=by rfl) (hpl:(backTo pos (starEach es X.env)).any (·.1)=false:=by rfl) :
  PE X (.Call (.Name x p) (e::es) [] pos) (b5K sp dvs E t):=by
 intro Z s σ H Q I h;refine wpAny_Call_Name_kw (a2e I hg hm ?_ hdb);refine PySem.W.callWith_K (h₀:=X.base) I.ok.mod.kin hk (thn (ha pos Z s σ H _ I h) fun us s1 ⟨vs,H1,I1,r,q⟩=>⟨I1.kIn,?_⟩) he hpl;exact a9x F hr hb hd L I1 r q
theorem b1J {pl:Sem Bool}(he:PE X o ta)(c:Cls X.K C)(hm:a6U X.K C m f)(F:a0A X.prog X.w X.K X.mg X.base (CX1 X.prog X.w) k f fd ps sp)(hr:a1u k X.A)(hb:a1g X.K fd ps ds)(hd:a1b dvs ds)(L:a4c X E)(ha:PA X (e::es) t)
  (hst:starEach (e::es) X.env=(false,eval e X.env)::starEach es X.env:=by rfl) (hpl:(backTo pos (starEach es X.env)).any (·.1)=false:=by rfl)
  (ht:eval (.Call (.Attribute o m apos) (e::es) [] pos) X.env=(do
   let ov <-eval o X.env
   standAt apos.atName
   let (f,first) <-holding [ov] (getMethod ov m pl)
   callWith pos f first (backTo pos (starEach (e::es) X.env)) (backToKw pos (keywordEach [] X.env))):=by rfl) :
  PE X (.Call (.Attribute o m apos) (e::es) [] pos) (b6H C m sp dvs E ta t):=by
 intro Z s σ H Q I h;refine PySem.W.methodCall_KW (pl:=pl) (thn (he Z s σ H _ I h) fun u s1 ⟨x,H1,I1,rx,a,dx,fs,ex,ea,l,q⟩=>?_) ht;subst ex;obtain rfl:u=Value.ref a:=rx;refine a2n I1 ea c hm l ?_;refine PySem.W.callWith_K (first:=[.ref a]) (h₀:=X.base) I.ok.mod.kin hm.kp (thn (ha pos Z s1 σ H1 _ I1 q) fun us s2 ⟨vs,H2,I2,r,q2⟩=>⟨I2.kIn,?_⟩) hst hpl;exact a9x (us:=.ref a::us) (vs:=.ref a::vs) F hr hb hd L I2 (.cons rfl r) q2
end
end L2
namespace L2
open PySem PySem.Spec PyProof.Rows Builtin Builtin.ObjectAttr
abbrev bmV:List Value:=[.type "ValueError",.type "Exception",.type "BaseException",.type "object"]
def a1S:List Value->Bool
 |[]=>false
 |v::r=>(v::r)==bmV || match v with | .ref _=>a1S r |_=>false
theorem a1l {X:String}{b:Bool}(hb:bmV.contains (.type X)=b):∀{l:List Value},a1S l=true->l.contains (.type X)=b
 |[],e=>by cases e
 |v::r,e=>by
  unfold a1S at e;rcases Bool.or_eq_true_iff.mp e with q |q
  ·rw[beq_iff_eq.mp q];exact hb
  ·cases v with
   |ref a=>
    have q':a1S r=true:=q;rw[List.contains_cons,a1l hb q']
    rfl
   |_=>exact Bool.noConfusion q
theorem a4s (self:Value):∀{l:List Value},a1S l=true->refuseLoop self "__setattr__" l=pure ()
 |[],e=>by cases e
 |v::r,e=>by
  unfold a1S at e;rcases Bool.or_eq_true_iff.mp e with q |q
  ·rw[beq_iff_eq.mp q];exact PySem.F.store_ValueError.passes self
  ·cases v with
   |ref a=>
    rw[refuseLoop_ref];exact a4s self (l:=r) q
   |_=>exact Bool.noConfusion q
structure XCl (K:Fg0) (C:Addr):Prop where
 at_:∃(nm q:Str) (N:Addr) (bs bm:List Value) (sn:List Str) (sub:List Value) (ab:Bool) (col:Option Bool) (dd:Option Addr) (k0 k1 k2 k3 k5:Option Value),K.lookup C=some (excClassObj nm q C N bs bm true sn sub ab col dd k0 k1 k2 k3 k5 "ValueError.__new__")/\a1S bm=true
 ga:PySem.W.findIn K (.ref C) "__getattribute__"=some (some (.builtin "BaseException.__getattribute__"))
 gx:PySem.W.findIn K (.ref C) "__getattr__"=some none
 sa:PySem.W.findIn K (.ref C) "__setattr__"=some (some (.builtin "object.__setattr__"))
 kp:PySem.W.keepIn K (.ref C)=true
theorem b3B {K:Fg0}{C N:Addr}{nm q:Str}{bs bm:List Value}{sn:List Str}{sub:List Value}{ab:Bool}{col:Option Bool}{dd:Option Addr}{k0 k1 k2 k3 k5:Option Value}
  (l:K.lookup C=some (excClassObj nm q C N bs bm true sn sub ab col dd k0 k1 k2 k3 k5 "ValueError.__new__")) (t:a1S bm=true) (ga:PySem.W.findIn K (.ref C) "__getattribute__"=some (some (.builtin "BaseException.__getattribute__")))
  (gx:PySem.W.findIn K (.ref C) "__getattr__"=some none) (sa:PySem.W.findIn K (.ref C) "__setattr__"=some (some (.builtin "object.__setattr__"))) (kp:PySem.W.keepIn K (.ref C)=true):XCl K C:=
 ⟨⟨nm,q,N,bs,bm,sn,sub,ab,col,dd,k0,k1,k2,k3,k5,l,t⟩,ga,gx,sa,kp⟩
section
variable {prog:Program}{w:World}{A:Around}{E:Vs0}{h:Heap}{g:Array GenState}{d:Drawn}{t:Nat}{os:OsState}
variable {nm q:Str}{C N:Addr}{bs bm:List Value}{sn:List Str}{sub:List Value}{ab:Bool}{col:Option Bool}{dd:Option Addr}{k0 k1 k2 k3 k5:Option Value}
theorem b4V {M:Model}{rest:List Value}{Q:Unit->Shared->Prop}(tv:a1S bm=true)(hC:h.get? C=some (excClassObj nm q C N bs bm true sn sub ab col dd k0 k1 k2 k3 k5 "ValueError.__new__"))
  (hq:Q () ⟨h,g,d,t,os⟩):wpAny M A (checkBuiltinCall "ValueError.__new__" ⟨.ref C::rest,[]⟩) Q E ⟨h,g,d,t,os⟩:=by
 have F:=PySem.F.excBase_ValueError;have hc:(Value.ref C::bm).contains (.type "ValueError")=true:=by rw[List.contains_cons,a1l (X:="ValueError") rfl tv];rfl
 have ns:=F.noStar;simp only[checkBuiltinCall,F.newKind,F.newSplit,F.newRow]
 repeat (first |refine wpAny_loadPart_at hC ?_ | (refine wpAny_isSubtype_exc hC ?_;rw[hc]) |refine wpAny_staticBase_exc hC ?_ |refine wpAny_madeBy_exc hC ?_ |simp only[bne_self_eq_false,Bool.false_eq_true,if_false] |wp_step)
 exact hq
abbrev b0O (rest:List Value):Obj:={ cls:=.type "tuple",data:=.seq rest.toArray }
abbrev a3i (C:Addr)(od:Option Addr)(t:Addr):Obj:=⟨.ref C,od,.fields #[.ref t,.none,.none,.none,.bool false,.none],#[]⟩
theorem xnew {R:Result->Shared->Prop}{rest:List Value}(tv:a1S bm=true)(hC:h.get? C=some (excClassObj nm q C N bs bm true sn sub ab col dd k0 k1 k2 k3 k5 "ValueError.__new__"))
  (hq:R (.ok (.ret (.ref (h.objs.size+1)))) ⟨(h.push (b0O rest)).push (a3i C none h.objs.size),g,d,t,os⟩) (hrest:rest.length<=sizeLine) :
  codeAny (model prog w) A (.builtin "ValueError.__new__" ⟨.ref C::rest,[]⟩) R ⟨h,g,d,t,os⟩:=by
 have F:=PySem.F.excBase_ValueError;have fe:=F.ends;have c1:(Value.ref C::bm).contains (.type "ValueError")=true:=by rw[List.contains_cons,a1l (X:="ValueError") rfl tv];rfl
 have c2:(Value.ref C::bm).contains (.type "AttributeError")=false:=by rw[List.contains_cons,a1l (X:="AttributeError") rfl tv];rfl
 have c3:(Value.ref C::bm).contains (.type "NameError")=false:=by rw[List.contains_cons,a1l (X:="NameError") rfl tv];rfl
 refine codeAny_builtinAt F.entry ?_;unfold Builtin.«BaseException.__new__»;refine PySem.wpAt_bind ?_;show PySem.wpAt _ _ _ (stack >>= _) _ _ _;refine PySem.wpAt_bind (PySem.wpAt_stack fun p below=>PySem.wpAt_of_wpAny ?_)
 wp_walk
 refine PySem.wpAt_of_wpAny ?_;rw[F.owner]
 repeat (first |with_reducible refine wpAny_madeHere_exc F.canon hC ?_ |with_reducible refine wpAny_loadPart_at hC ?_ | (with_reducible refine wpAny_isSubtype_exc hC ?_;first |rw[c1] |rw[c2] |rw[c3]) |wp_step)
 show R _ _;rw[Heap.size_push];exact hq
theorem a8o {rest:List Value}{fI:Addr}{oI:Obj}{Q:Fin->Shared->Prop}(tv:a1S bm=true)(hC:h.get? C=some (excClassObj nm q C N bs bm true sn sub ab col dd k0 k1 k2 k3 k5 "ValueError.__new__"))
  (hi:PySem.W.Looks (model prog w) h (typeLookup (.ref C) "__init__") (some (.ref fI))) (hf:h.get? fI=some oI) (hfc:oI.cls=.type "function") (hrest:rest.length<=sizeLine)
  (hq:wpAny (model prog w) A (call (.ref fI) (.ref (h.objs.size+1)::rest)) (fun r s'=>r=.none/\Q (.done (.ret (.ref (h.objs.size+1)))) s') E ⟨(h.push (b0O rest)).push (a3i C none h.objs.size),g,d,t,os⟩) :
  wpAny (model prog w) A (Builtin.«type.__call__» ⟨.ref C::rest,[]⟩) Q E ⟨h,g,d,t,os⟩:=by
 have F:=PySem.F.excBase_ValueError
 repeat (first |with_reducible refine wpAny_loadPart_at hC ?_ |with_reducible refine wpAny_madeBy_exc hC ?_ |wp_step)
 refine codeAny_call_builtin_code (Code.quiet_builtin _ F.quiet) (b4V tv hC ?_);refine xnew tv hC ?_ hrest;show wpAny _ _ _ _ _ _;have kp:∀b o,h.get? b=some o->((h.push (b0O rest)).push (a3i C none h.objs.size)).get? b=some o:=fun b o e=>hP0 _ (hP0 _ e);have hg2:((h.push (b0O rest)).push (a3i C none h.objs.size)).get? (h.objs.size+1)=some (a3i C none h.objs.size):=by
  have:=hS0 (h.push (b0O rest)) (o:=a3i C none h.objs.size) rfl
  rwa [Heap.size_push] at this
 have hcC:(Value.ref C::bm).contains (.ref C)=true:=by simp
 unfold isInstance
 repeat (first |with_reducible refine wpAny_loadPart_at hg2 ?_ | (with_reducible refine wpAny_isSubtype_exc (kp _ _ hC) ?_;rw[hcC]) |wp_step)
 show wpAny _ _ (typeLookup (.ref C) _) _ _ _;refine hi _ _ _ _ kp ?_;refine wpAny_holding (wB0 ?_);unfold bindSpecial;refine wB0 (wpAny_typeOf (T:="function") ⟨_,kp _ _ hf,hfc⟩ ?_);rw[if_pos (by decide)];refine wP0 (wB0 (wpAny_mono hq (fun r s' hr=>?_) fun _ _ x=>x));obtain⟨rfl,hQ⟩:=hr
 wp_walk
 exact hQ
theorem b7v {rest:List Value}{fI:Addr}{oI:Obj}{Q:Vs0}(tv:a1S bm=true)(hC:h.get? C=some (excClassObj nm q C N bs bm true sn sub ab col dd k0 k1 k2 k3 k5 "ValueError.__new__"))
  (hi:PySem.W.Looks (model prog w) h (typeLookup (.ref C) "__init__") (some (.ref fI))) (hf:h.get? fI=some oI) (hfc:oI.cls=.type "function") (hrest:rest.length<=sizeLine)
  (hq:wpAny (model prog w) (A.under (.builtin "type.__call__" ⟨.ref C::rest,[]⟩)) (call (.ref fI) (.ref (h.objs.size+1)::rest)) (fun r s'=>r=.none/\Q (.ref (h.objs.size+1)) s') E ⟨(h.push (b0O rest)).push (a3i C none h.objs.size),g,d,t,os⟩) :
  wpAny (model prog w) A (call (.ref C) rest) Q E ⟨h,g,d,t,os⟩:=by
 have f1:=tc_lookup;have f2:=tc_bind (.ref C);have hT:(⟨h,g,d,t,os⟩:Shared).TypeIs (.ref C) "type":=⟨_,hC,rfl⟩;refine wpAny_call (codeAny_of_tree ?_);show wpAny _ _ (callAny (.ref C) _) _ _ _
 repeat (any_goals (first |assumption |with_reducible refine wpAny_loadPart_at hC ?_ |wp_step))
 refine⟨rfl,?_⟩;exact codeAny_call_builtin_at (Code.quiet_builtin _ (by decide +kernel)) entry_typeCall (wpAny_check_type_call_sub hC (a8o tv hC hi hf hfc hrest hq))
theorem b2V {M:Model}{s:Shared}{env:Env}{x:Sem Value}{Q:Flow->Shared->Prop}(hh:A.handled=none)
  (hx:wpAny M A x (fun v s₁=>∃e C nm q N bs bm sn sub ab col dd k0 k1 k2 k3 k5 od t0,v=.ref e/\s₁.heap.get? C=some (excClassObj nm q C N bs bm true sn sub ab col dd k0 k1 k2 k3 k5 "ValueError.__new__")/\a1S bm=true/\s₁.heap.get? e=some (a3i C od t0)/\E (.ref e) s₁) E s) :
  wpAny M A (raiseStmt env (some x) none) Q E s:=by
 unfold raiseStmt;refine wB0 (wpAny_mono hx (fun v s₁ h₁=>?_) fun _ _ z=>z);obtain⟨e,C,nm,q,N,bs,bm,sn,sub,ab,col,dd,k0,k1,k2,k3,k5,od,t0,rfl,hC,tv,he,hE⟩:=h₁;obtain⟨hp,g,d,tk,os⟩:=s₁;have hb:(Value.ref C::bm).contains (.type "BaseException")=true:=by rw[List.contains_cons,a1l (X:="BaseException") rfl tv];rfl
 repeat (first |with_reducible refine wpAny_loadPart_at he ?_ |with_reducible refine wpAny_loadPart_at hC ?_ | (with_reducible refine wpAny_isSubtype_exc hC ?_;rw[hb]) |wp_step)
 exact wpAny_raiseNew_none hh hE
end
section
variable {prog:Program}{w:World}{A:Around}{E:Vs0}{s:Shared}{K:Fg0}{x C dx t0:Addr}{name:Str}{v:Value}
theorem XCl.cls (c:XCl K C):∃cd bm,PySem.W.clsIn K C=some cd/\cd.mro=.ref C::bm/\a1S bm=true/\cd.hasDict=true:=by
 obtain⟨nm,q,N,bs,bm,sn,sub,ab,col,dd,k0,k1,k2,k3,k5,l,tv⟩:=c.at_;have e:PySem.W.clsIn K C=some ⟨nm,bs,.ref C::bm,N,q,true,sn,sub,ab,col,false⟩:=by
  unfold PySem.W.clsIn;rw[l]
 exact⟨_,bm,e,rfl,tv,rfl⟩
theorem b8k {ox:Obj}{od:Option Obj}{tk:Tok}{R:Result->Shared->Prop}(Xk:K.In s.heap)(I:PySem.W.InstAt s.heap x ox C od)(c:XCl K C)(n:PySem.W.findIn K (.ref C) name=some none)
  (h:wpAny (model prog w) A.in1 (storeInOwnDict (.ref x) (.ref C) (.str name tk) name v false)
   (fun fin s'=>match fin with | .done f=>R (.ok f) s' | .again c'=>c'.quiet=true/\codeAny (model prog w) A c' R s') (fun e s'=>R (.error e) s') s) :
  codeAny (model prog w) A (.call (.builtin "object.__setattr__") ⟨[.ref x,.str name tk,v],[]⟩) R s:=by
 have SF:=PySem.F.store_ValueError;obtain⟨cd,bm,hc,hm,tv,_⟩:=c.cls;have sub:PySem.W.Looks (model prog w) s.heap (isInstance (.ref x) (.type "object")) true:=I.type.andThen (PySem.W.looks_mroIn Xk (by
  unfold PySem.W.mroIn;rw[hc,Option.bind_some,hm];show some (List.contains _ _)=_;rw[List.contains_cons,a1l (X:="object") rfl tv]
  rfl))
 refine codeAny_call_builtin SF.slot.plain SF.entry (@PySem.W.check_slot (model prog w) _ _ s "object.__setattr__" "object" "__setattr__" (.ref x) [.str name tk,v] [] _ SF.kind SF.split sub (SF.args (.ref x) (.str name tk) v) ?_);have lm:PySem.W.Looks (model prog w) s.heap (mroOf (.ref C)) cd.mro:=(PySem.W.looks_clsIn Xk hc).andThen .now;rw[PySem.W.osa_eq,refuse_eq];refine wB0 (wB0 (I.type.here (wB0 (lm.here ?_))));rw[hm,refuseLoop_ref,a4s _ tv];refine wP0 (wB0 (I.type.here (wB0 ((PySem.W.looks_findIn Xk n).here (wB0 (PySem.W.Looks.here (r:=none) .now ?_))))));exact h
theorem b2A {Q:Unit->Shared->Prop}(Xk:K.In s.heap)(c:XCl K C)(n:PySem.W.findIn K (.ref C) name=some none)(hx:s.heap.get? x=some (a3i C none t0))
  (hq:∀h' tk',h'.get? x=some (a3i C (some s.heap.objs.size) t0)->h'.Ns1 s.heap.objs.size (fun y=>if y=name then some v else none)->(∀b o,b≠x->s.heap.get? b=some o->h'.get? b=some o)->Q () { s with heap:=h',toks:=tk' }) :
  wpAny (model prog w) A (setAttr (.ref x) name v) Q E s:=by
 obtain⟨h,g,d,t,os⟩:=s;obtain⟨cd,bm,hc,hm,tv,hd⟩:=c.cls;have J:PySem.W.InstAt h x (a3i C none t0) C none:=⟨hx,rfl,rfl,trivial⟩;refine PySem.W.set_plain (s:=⟨h,g,d,t,os⟩) Xk J c.sa (b8k (s:=⟨h,g,d,t+1,os⟩) Xk J c n ?_);refine wB0 (wP0 (wB0 (wB0 (wpAny_loadPart_at hx (wB0 (PySem.W.Looks.here (s:=⟨h,g,d,t+1,os⟩) (PySem.W.looks_clsIn Xk hc) ?_))))));rw[hd];have hx1:(h.push { cls:=.type "dict",data:=.dict #[] }).get? x=some (a3i C none t0):=hP0 _ hx;have hxs:x≠h.objs.size:=nL0 (hL0 hx);refine wB0 (wpAny_alloc' ?_);refine wB0 (wpAny_update' hx1 ?_);refine wP0 ?_;have g1:((h.push { cls:=.type "dict",data:=.dict #[] }).update x fun o=>{ o with dict:=some h.objs.size }).get? h.objs.size=some { cls:=.type "dict",data:=.dict #[] }:=
  (Heap.get?_update_ne _ _ _ _ hxs.symm).trans (Heap.get?_push_at rfl rfl)
 have g2:((h.push { cls:=.type "dict",data:=.dict #[] }).update x fun o=>{ o with dict:=some h.objs.size }).get? x=some (a3i C (some h.objs.size) t0):=Heap.get?_update_self _ hx1 rfl;have gn:((h.push { cls:=.type "dict",data:=.dict #[] }).update x fun o=>{ o with dict:=some h.objs.size }).Ns h.objs.size (fun _=>none):=⟨_,#[],_,g1,rfl,fun e he=>absurd he (by simp),fun _=>rfl⟩;show wpAny _ _ (storeInDict h.objs.size (.str name t) name v) _ _ _;unfold storeInDict newKeyGuard;refine wB0 (wP0 (wB0 (wpAny_nsSet1 (Heap.Ns1.of_empty gn) fun h' n' sb=>?_)));obtain⟨oD,esD,epD,hoD,hdD,hcD⟩:=n'.count (Within.cons name v Within.nil);refine wB0 (wpAny_lookBehind hoD (by rw[hdD];exact pastItsLine_dict (Nat.le_trans hcD (by rw[List.length_cons,List.length_nil,sizeLine_eq];omega))) ?_);refine wP0 (hq h' _ ((sb.2 x hxs).trans g2) n' fun b o hb e=>?_);exact(sb.2 b (nL0 (hL0 e))).trans ((Heap.get?_update_ne _ _ _ _ hb).trans (hP0 _ e))
theorem b1A {Q:Unit->Shared->Prop}{mA:Str->Option Value}{ns:List Str}(Xk:K.In s.heap)(c:XCl K C)(n:PySem.W.findIn K (.ref C) name=some none)(hx:s.heap.get? x=some (a3i C (some dx) t0))(hn:s.heap.Ns1 dx mA)(ne:dx≠x)
  (hw:Within mA ns) (hz:ns.length<=sizeLine)
  (hq:∀h' tk',h'.Ns1 dx (fun y=>if y=name then some v else mA y)->Heap.SameBut dx s.heap h'->Q () { s with heap:=h',toks:=tk' }):wpAny (model prog w) A (setAttr (.ref x) name v) Q E s:=by
 obtain⟨h,g,d,t,os⟩:=s;obtain⟨cd,bm,hc,hm,tv,hd⟩:=c.cls;obtain⟨od,es,ep,eo,_⟩:=id hn;have J:PySem.W.InstAt h x (a3i C (some dx) t0) C (some od):=⟨hx,rfl,rfl,eo⟩;refine PySem.W.set_plain (s:=⟨h,g,d,t,os⟩) Xk J c.sa (b8k (s:=⟨h,g,d,t+1,os⟩) Xk J c n ?_);refine wB0 (wP0 (wB0 (wB0 (wpAny_loadPart_at hx (wB0 (PySem.W.Looks.here (s:=⟨h,g,d,t+1,os⟩) (PySem.W.looks_clsIn Xk hc) ?_))))));rw[hd];refine wP0 (a:=some dx) ?_;show wpAny _ _ (storeInDict dx (.str name t) name v) _ _ _;unfold storeInDict newKeyGuard;refine wB0 (wP0 (wB0 (wpAny_nsSet1 hn fun h' n' sb=>?_)));obtain⟨oD,esD,epD,hoD,hdD,hcD⟩:=n'.count (Within.cons name v hw);refine wB0 (wpAny_lookBehind hoD (by rw[hdD];exact pastItsLine_dict (Nat.le_trans hcD (by rw[List.length_cons];omega))) ?_);exact wP0 (hq h' _ n' sb)
theorem xget {expr:Bool}{vs:Array Value}{sl:Array (Option Value)}{mA:Str->Option Value}{Q:Vs0}(Xk:K.In s.heap)(c:XCl K C)(n:PySem.W.findIn K (.ref C) name=some none)(hx:s.heap.get? x=some ⟨.ref C,some dx,.fields vs,sl⟩)(hn:s.heap.Ns1 dx mA)
  (hv:mA name=some v) (hh:PySem.W.handedIn v=true) (hq:Q v { s with toks:=s.toks+1 }):wpAny (model prog w) A (getAttr (.ref x) name expr) Q E s:=by
 obtain⟨h,g,d,t,os⟩:=s;obtain⟨cd,bm,hc,hm,tv,hd⟩:=c.cls;obtain⟨od,ho,hl⟩:=a5G hn;have J:PySem.W.InstAt h x ⟨.ref C,some dx,.fields vs,sl⟩ C (some od):=⟨hx,rfl,rfl,ho⟩;have hf:PySem.W.findObj K C (some od) name=some (.value v):=by
  unfold PySem.W.findObj;rw[hc,Option.bind_some,n,Option.bind_some]
  show(Option.bind (some none) fun get=>_)=_
  rw[Option.bind_some]
  show(Option.bind (some false) fun data=>_)=_
  rw[Option.bind_some]
  show(Option.bind (PySem.W.ownOf cd (some od) name) fun own=>_)=_
  have e:PySem.W.ownOf cd (some od) name=some (some v):=by
   unfold PySem.W.ownOf;rw[hd,if_pos rfl];show PySem.W.lookIn name od=_;rw[hl,hv]
  rw[e]
  rfl
 have FX:=PySem.F.attr_ValueError;have L0:=J.type (M:=model prog w);have L1:=PySem.W.looks_find (M:=model prog w) Xk J hf;have sub:PySem.W.Looks (model prog w) h (isInstance (.ref x) (.type "BaseException")) true:=L0.andThen (PySem.W.looks_mroIn Xk (by
  unfold PySem.W.mroIn;rw[hc,Option.bind_some,hm];show some (List.contains _ _)=_;rw[List.contains_cons,a1l (X:="BaseException") rfl tv]
  rfl))
 have nq:(onTheHeap (Value.ref C)&&Value.builtin "BaseException.__getattribute__"==Value.builtin "object.__getattribute__")=false:=by
  rw[show(Value.builtin "BaseException.__getattribute__"==Value.builtin "object.__getattribute__")=false from by decide +kernel,Bool.and_false]
 unfold getAttr getAttrBy;refine wB0 (wpAny_mkText (wpAny_holding (wB0 (L0.at (wB0 ((PySem.W.looks_findIn (M:=model prog w) Xk c.ga).at ?_))))));show wpAny _ _ (if _=true then _ else _) _ _ _;rw[nq,if_neg (by decide)];unfold getAttrByItsOwn hookBefore;refine wB0 (PySem.W.Looks.at (t:=if onTheHeap (Value.ref C)=true then typeLookup (.ref C) "__getattr__" else pure none) (r:=none) (PySem.W.looks_findIn (M:=model prog w) Xk c.gx) (wB0 (wpAny_attempt (wpAny_holding ?_))));unfold callGetattribute;rw[show(expr&&onTheHeap (Value.builtin "BaseException.__getattribute__"))=false from Bool.and_false _,if_neg (by decide)];unfold boundAndCalled;rw[FX.ga.bind];refine wB0 (wP0 ?_);show wpAny _ _ (call (.builtin "BaseException.__getattribute__") [.ref x,.str name t]) _ _ _;refine wpAny_call ?_;refine codeAny_call_builtin FX.ga.plain PySem.F.entry_bexc_ga ?_;refine @PySem.W.check_slot (model prog w) _ _ ⟨h,g,d,t+1,os⟩ "BaseException.__getattribute__" "BaseException" "__getattribute__" (.ref x) [.str name t] [] _ (by decide +kernel) (by decide +kernel) sub (PySem.F.args_bexc_ga (.ref x) (.str name t)) ?_;unfold Builtin.«object.__getattribute__»;refine wB0 (wP0 (wB0 (wP0 (wB0 (L0.at (wB0 (L1.at ?_)))))));refine wP0 ?_;show wpAny _ _ (handedOut v) _ _ _;rw[PySem.W.handedOut_of hh];exact wP0 hq
end
def a8u (x C:Addr)(od:Option Addr)(h:Heap):Prop:=∃t,h.get? x=some (a3i C od t)
def b7a (x C:Addr)(od:Option Addr)(h:Heap):Prop:=∃vs sl,h.get? x=some ⟨.ref C,od,.fields vs,sl⟩
def b4m (dx:Addr)(fs:List (Str×V))(h:Heap):Prop:=∃mA,h.Ns1 dx mA/\(∀f,a3g (fs.lookup f) (mA f))/\Within mA (fs.map (·.1))
section
variable {P:Program}{w:World}{H:Hp}{h:Heap}{x C dx t:Addr}{od:Option Addr}
theorem a6M (e:h.get? x=some (a3i C od t)):a1c P w H h x (.ext (a8u x C od)):=⟨⟨t,e⟩,⟨_,e⟩,fun _ _ ⟨t,e⟩ k=>⟨t,k _ e⟩⟩
theorem b4O {vs:Array Value}{sl:Array (Option Value)}(e:h.get? x=some ⟨.ref C,od,.fields vs,sl⟩):a1c P w H h x (.ext (b7a x C od)):=⟨⟨vs,sl,e⟩,⟨_,e⟩,fun _ _ ⟨vs,sl,e⟩ k=>⟨vs,sl,k _ e⟩⟩
theorem a9q {fs:List (Str×V)}{mA:Str->Option Value}(n:h.Ns1 dx mA)(r:∀f,a3g (fs.lookup f) (mA f))(wi:Within mA (fs.map (·.1))):a1c P w H h dx (.ext (b4m dx fs)):=
 ⟨⟨mA,n,r,wi⟩,(let ⟨o,_,_,e,_⟩:=n;⟨o,e⟩),fun _ _ ⟨mA,⟨o,es,ep,e,c⟩,r,wi⟩ k=>⟨mA,⟨o,es,ep,k _ e,c⟩,r,wi⟩⟩
end
def a8f (H:Hp)(x:Addr):Hp:=fun b=>if b=x then none else H b
theorem a1G {H:Hp}{x b:Addr}(h:b≠x):a8f H x b=H b:=if_neg h
theorem a2Q {H:Hp}{x:Addr}:a8f H x x=none:=if_pos rfl
section
variable {X:Cx}{Z:List (Addr×Obj)}{σ:St}{H:Hp}{s:Shared}{x dx C:Addr}{φ:Heap->Prop}{od:Option Addr}
theorem Inv.drop (I:Inv X Z σ H s)(e:H x=some (.ext φ)):Inv X Z σ (a8f H x) s:=by
 have ne:∀b u,H b=some u->(∀ψ,u≠.ext ψ)->b≠x:=fun b u q hu z=>by
  rw[z,e] at q;cases q;exact hu φ rfl
 have nn:∀b,H b=none->a8f H x b=none:=fun b q=>by
  by_cases z:b=x
  ·rw[z,a2Q]
  ·rw[a1G z,q]
 refine⟨I.ok,I.os,I.bare,⟨I.base.keep,I.base.slot,fun b o q n hx=>nn b (I.base.free b o q n hx),I.base.there,fun b xs q=>?_,fun b o u q=>?_,fun b ps q=>?_⟩,I.loc,I.cell,nn _ I.free,fun y c q=>nn c (I.freeC y c q),fun p hp=>?_,fun a o q=>?_,I.len⟩
 ·have z:=I.base.tups b xs q
  rw[a1G (ne b _ z fun ψ q=>by cases q)];exact z
 ·have z:=I.base.frzs b o u q
  rw[a1G (ne b _ z fun ψ q=>by cases q)];exact z
 ·obtain⟨m,z⟩:=I.base.tbls b ps q
  exact⟨m,by rw[a1G (ne b _ z fun ψ q=>by cases q)];exact z⟩
 ·obtain⟨a,b,c⟩:=I.pin p hp
  exact⟨a,nn _ b,c⟩
 ·have na:a≠x:=fun z=>by rw[z,a2Q] at q;cases q
  rw[a1G na] at q;exact(I.hok a o q).stay (fun _ _ _ r=>r) (fun c r=>by rw[a1G (ne c _ r fun ψ q=>by cases q)];exact r) fun c xs r=>by rw[a1G (ne c _ r fun ψ q=>by cases q)];exact r
theorem Inv.track {o:HO}(I:Inv X Z σ H s)(hx:Our X Z H x)(new:a1c X.prog X.w (upd H x o) s.heap x o):Inv X Z σ (upd H x o) s:=by
 have ne:∀b u,H b=some u->b≠x:=fun b u q z=>by rw[z,hx.unt] at q;cases q
 refine I.step (h':=s.heap) (g':=s.gens) (d':=s.drawn) (t':=s.toks) (ch:=[x]) (fun b hb=>?_) (fun b o _ _ _ e _=>e) (fun b o _ _ _ e _=>⟨o.slots,e⟩) (fun b o hc e n=>?_) (fun b o _ e=>⟨o,e⟩) (fun b xs e=>?_) (fun b u xs e=>?_) (fun b ps e=>⟨#[],?_⟩) (fun m hm=>hm) (fun b u q=>?_) I.bare
 ·rw[mS0.mp hb]
  exact⟨.inr hx.new,hx.loc,hx.cel,hx.pin⟩
 ·rw[a0d fun z=>hc (by rw[z];exact mS0.mpr rfl)]
  exact n
 ·rw[a0d (ne b _ e)];exact e
 ·rw[a0d (ne b _ e)];exact e
 ·rw[a0d (ne b _ e),e];simp
 ·by_cases hb:b=x
  ·subst hb
   rw[a0c] at q;cases q;exact new
  ·rw[a0d hb] at q
   exact(I.hok b u q).stay (fun _ _ _ r=>r) (fun c r=>by rw[a0d (ne c _ r)];exact r) fun c xs r=>by rw[a0d (ne c _ r)];exact r
theorem Inv.xput {ψ χ:Heap->Prop}{h':Heap}{t':Nat}(I:Inv X Z σ H s)(e:H x=some (.ext φ))(nd:s.heap.objs.size<=dx)(k:∀b o,b≠x->s.heap.get? b=some o->h'.get? b=some o)
  (n1:∀H',a1c X.prog X.w H' h' dx (.ext χ)) (n2:∀H',a1c X.prog X.w H' h' x (.ext ψ)):Inv X Z σ (upd (upd H dx (.ext χ)) x (.ext ψ)) { s with heap:=h',toks:=t' }:=by
 have hd:H dx=none:=I.hok.fresh nd;have xd:x≠dx:=fun z=>by rw[z,hd] at e;cases e
 have ne:∀b u,H b=some u->(∀ψ,u≠.ext ψ)->b≠x/\b≠dx:=fun b u q hu=>⟨fun z=>by
  rw[z,e] at q;cases q;exact hu φ rfl,fun z=>by rw[z,hd] at q;cases q⟩
 have same:∀b u,H b=some u->(∀ψ,u≠.ext ψ)->upd (upd H dx (.ext χ)) x (.ext ψ) b=some u:=fun b u q hu=>by
  rw[a0d (ne b u q hu).1,a0d (ne b u q hu).2];exact q
 obtain⟨o2,e2⟩:∃o,h'.get? x=some o:=(n2 H).2.1;refine I.un (t':=t') ⟨fun b o q n _ _=>k b o (fun z=>by rw[z,e] at n;cases n) q,fun b o q n _ _=>⟨o.slots,k b o (fun z=>by rw[z,e] at n;cases n) q⟩,fun b o q n _=>?_,fun b o q _=>?_,fun b xs q=>same b _ q (fun ψ q=>by cases q),fun b o u q=>same b _ q (fun ψ q=>by cases q),fun b ps q=>⟨#[],by rw[same b _ q (fun ψ q=>by cases q)];simp⟩⟩ (fun b u q=>?_)
 ·rw[a0d (fun z=>by rw[z,e] at n;cases n),a0d (nL0 (Nat.lt_of_lt_of_le (hL0 q) nd))]
  exact n
 ·by_cases hb:b=x
  ·rw[hb];exact⟨o2,e2⟩
  ·exact⟨o,k b o hb q⟩
 ·by_cases hb:b=x
  ·subst hb
   rw[a0c] at q;cases q;exact n2 _
  ·rw[a0d hb] at q
   by_cases hb2:b=dx
   ·subst hb2
    rw[a0c] at q;cases q;exact n1 _
   ·rw[a0d hb2] at q
    refine(I.hok b u q).stay (fun c v hc r=>k c v ?_ r) (fun c r=>same c _ r (fun ψ q=>by cases q)) fun c xs r=>same c _ r (fun ψ q=>by cases q);rcases hc with rfl |hc
    ·exact hb
    ·exact(ne c _ hc fun ψ q=>by cases q).1
end
structure XMk (K:Fg0) (C f:Addr):Prop where
 cl:XCl K C
 init:PySem.W.findIn K (.ref C) "__init__"=some (some (.ref f))
 fn:PySem.W.isFn K (.ref f)=true
def b3b (n:Nat)(C:Addr)(sp:Sp)(dvs:List V)(t:TA):TE:=fun σ H Q=>t σ H fun vs H1=>vs.length<=sizeLine/\∀x,n<=x->H1 x=none->sp (.ref x::(vs++dvs)) (upd H1 x (.ext (a8u x C none))) (fun v H2=>v=.non/\Q (.ref x) H2) E0
def b2S (n:Nat)(K:Fg0)(E:XS)(te:TE):TS:=fun _ σ H=>te σ H fun v H1=>∃x C od,v=.ref x/\H1 x=some (.ext (a8u x C od))/\n<=x/\XCl K C/\E (.ref C) od σ (a8f H1 x)
section
variable {X:Cx}{k:Nat}{f C:Addr}{fd:FuncData}{ps:List Str}{sp:Sp}{dvs:List V}{ds:List Value}{E:XS}{x m:Str}{p pos apos:Pos}{e o:Expr}{es:List Expr}{ta te:TE}{t:TA}
theorem a8V {Z:List (Addr×Obj)}{σ:St}{H:Hp}{s:Shared}{Q:VK}{us:List Value}{vs:List V}(M:XMk X.K C f)(F:a0A X.prog X.w X.K X.mg X.base CX0 k f fd ps sp)(hr:a1u (k+1) X.A)(hb:a1g X.K fd ps ds)(hd:a1b dvs ds)
  (I:Inv X Z σ H s) (r:a1b vs us) (hz:vs.length<=sizeLine) (h:∀x,X.s₀.heap.objs.size<=x->H x=none->sp (.ref x::(vs++dvs)) (upd H x (.ext (a8u x C none))) (fun v H2=>v=.non/\Q (.ref x) H2) E0) :
  wpAny (model X.prog X.w) X.A (call (.ref C) us) (EP X Z σ Q) X.xe s:=by
 obtain⟨nm,q,N,bs,bm,sn,sub,ab,col,dd,k0,k1,k2,k3,k5,lk,tv⟩:=M.cl.at_;have ht:PySem.W.typeIn X.K (.ref f)=some (.type "function"):=beq_iff_eq.mp M.fn;obtain⟨oI,hl,hc⟩:=Option.map_eq_some_iff.mp ht;have hq:=h (s.heap.objs.size+1) (Nat.le_succ_of_le I.sz) (I.hok.fresh (Nat.le_succ _));have I1:Inv X Z σ H { s with heap:=s.heap.push (b0O us) }:=I.kept (t':=s.toks) fun b u q=>hP0 _ q;have e2:((s.heap.push (b0O us)).push (a3i C none s.heap.objs.size)).get? (s.heap.objs.size+1)=some (a3i C none s.heap.objs.size):=by
  have:=hS0 (s.heap.push (b0O us)) (o:=a3i C none s.heap.objs.size) rfl
  rwa [Heap.size_push] at this
 have I2:Inv X Z σ (upd H (s.heap.objs.size+1) (.ext (a8u (s.heap.objs.size+1) C none))) { s with heap:=(s.heap.push (b0O us)).push (a3i C none s.heap.objs.size) }:=
  I1.laid (a:=s.heap.objs.size+1) (t':=s.toks) (fun b u q=>hP0 _ q) (Nat.le_of_eq (Heap.size_push _ _)) (a6M e2)
 have r2:a1b (V.ref (s.heap.objs.size+1)::(vs++dvs)) (Value.ref (s.heap.objs.size+1)::(us++ds)):=.cons rfl (r.append hd);have hlen:(Value.ref (s.heap.objs.size+1)::us++ds).length=ps.length:=by
  have e:=r2.length;rw[F.len _ _ _ _ hq] at e;exact e.symm
 have go:=F.run (X.A.under (.builtin "type.__call__" ⟨.ref C::us,[]⟩)) X.stack _ _ ⟨Value.ref (s.heap.objs.size+1)::us,[]⟩ (Value.ref (s.heap.objs.size+1)::(us++ds)) _ _ E0 (hr.make C us []) (I2.env0.make C us []) (hb _ (Value.ref (s.heap.objs.size+1)::us) I2.kIn hlen) r2 hq;obtain⟨hh,g,d,tk,os⟩:=s;refine b7v tv (I.kIn _ _ lk) (PySem.W.looks_findIn I.kIn M.init) (I.kIn _ _ hl) hc (by rw[<-r.length];exact hz) (wpAny_call (codeAny_mono go fun r s' hq'=>?_));cases r with
 |error e=>exact False.elim hq'
 |ok fl=>
  cases fl with
  |ret u=>
   obtain⟨v,H',I3,rv,ev,q3⟩:=I2.after hq';subst ev;exact⟨rv,⟨V.ref (hh.objs.size+1),H',I3,rfl,q3⟩⟩
  |next=>exact False.elim hq'
  |brk=>exact False.elim hq'
  |cont=>exact False.elim hq'
theorem b2x (M:XMk X.K C f)(F:a0A X.prog X.w X.K X.mg X.base CX0 k f fd ps sp)(hr:a1u (k+1) X.A)(hg:Gl X x)(hm:X.mg x=some (.ref C))(hb:a1g X.K fd ps ds)(hd:a1b dvs ds)
  (ha:PA X (e::es) t) (hdb:(x==("__debug__":Str))=false:=by decide) (he:starEach (e::es) X.env=(false,eval e X.env)::starEach es X.env:=by rfl) (hpl:(backTo pos (starEach es X.env)).any (·.1)=false:=by rfl) :
  PE X (.Call (.Name x p) (e::es) [] pos) (b3b X.s₀.heap.objs.size C sp dvs t):=by
 intro Z s σ H Q I h;refine wpAny_Call_Name_kw (a2e I hg hm ?_ hdb);refine PySem.W.callWith_K (h₀:=X.base) I.ok.mod.kin M.cl.kp (thn (ha pos Z s σ H _ I h) fun us s1 ⟨vs,H1,I1,r,q⟩=>⟨I1.kIn,?_⟩) he hpl;exact a8V M F hr hb hd I1 r q.1 q.2
theorem b1L (hc:X.calm=true)(he:PE X e te)(L:a4c X E):PS X (.Raise (some e) none pos) (b2S X.s₀.heap.objs.size X.K E te):=by
 intro Z s σ H D I h;rw[arm_exec_Raise];have go:wpAny (model X.prog X.w) X.A (eval e X.env) (fun v s₁=>∃x C nm q N bs bm sn sub ab col dd k0 k1 k2 k3 k5 od t0,v=.ref x/\s₁.heap.get? C=some (excClassObj nm q C N bs bm true sn sub ab col dd k0 k1 k2 k3 k5 "ValueError.__new__")/\a1S bm=true/\s₁.heap.get? x=some (a3i C od t0)/\X.xe (.ref x) s₁) X.xe s:=by
  refine thn (he Z s σ H _ I h) fun v s1 ⟨y,H1,I1,rv,x,C,od,ey,hx,nx,c,q⟩=>?_;subst ey;obtain rfl:v=Value.ref x:=rv;obtain⟨nm,qn,N,bs,bm,sn,sub,ab,col,dd,k0,k1,k2,k3,k5,lk,tv⟩:=c.at_;obtain⟨⟨t0,ex⟩,_⟩:=I1.hok x _ hx;have I2:=I1.drop hx;have our:Our X Z (a8f H1 x) x:=⟨nx,(fun z=>by rw[z,I1.free] at hx;cases hx),(fun y c e z=>by rw[<-z,I1.freeC y c e] at hx;cases hx),(fun p hp z=>by rw[<-z,(I1.pin p hp).2.1] at hx;cases hx),a2Q⟩;exact⟨x,C,nm,qn,N,bs,bm,sn,sub,ab,col,dd,k0,k1,k2,k3,k5,od,t0,rfl,I1.kIn _ _ lk,tv,ex,L Z σ _ s1 x _ od I2 our ⟨_,_,.none,ex,rfl,.inl ⟨rfl,rfl⟩⟩ q⟩
 first
  |exact wB0 (wpAny_standAt (b2V (I.ok.hd hc) (wB0 (wpAny_mono go (fun v s₃ h₃=>wB0 (wpAny_standAt (wP0 h₃))) fun _ _ z=>z))))
  | (simp only[evalOpt,Option.map];exact wB0 (wpAny_standAt (b2V (I.ok.hd hc) (wB0 (wpAny_mono go (fun v s₃ h₃=>wB0 (wpAny_standAt (wP0 h₃))) fun _ _ z=>z)))))
end
def sX1 (K:Fg0)(ta tv:TE)(f:Str):TS:=fun D σ H=>tv σ H fun y H1=>ta σ H1 fun x H2=>∃a C,x=.ref a/\H2 a=some (.ext (a8u a C none))/\XCl K C/\a1d K C f ∧
 ∀dx,H2 dx=none->dx≠a->D.nx σ (upd (upd H2 dx (.ext (b4m dx [(f,y)]))) a (.ext (a8u a C (some dx))))
def sX2 (K:Fg0)(ta tv:TE)(f:Str):TS:=fun D σ H=>tv σ H fun y H1=>ta σ H1 fun x H2=>∃a C dx fs,x=.ref a/\H2 a=some (.ext (a8u a C (some dx)))/\H2 dx=some (.ext (b4m dx fs))/\dx≠a/\XCl K C/\a1d K C f/\fs.length<1000 ∧
 D.nx σ (upd H2 dx (.ext (b4m dx (a2Z f y fs))))
def b7g (K:Fg0)(ta:TE)(f:Str):TE:=fun σ H Q=>ta σ H fun x H1=>∃a C dx fs v,x=.ref a/\H1 a=some (.ext (b7a a C (some dx)))/\H1 dx=some (.ext (b4m dx fs))/\XCl K C/\a1d K C f/\fs.lookup f=some v/\Q v H1
section
variable {X:Cx}{o e value:Expr}{f:Str}{pos pos' tpos:Pos}{ta tv:TE}
theorem b2o (ha:PE X o ta)(hv:PE X value tv)(hs:swapsWith value (some (.Attribute o f pos')) pos.line X.env=pure false):PS X (.Assign [.Attribute o f pos'] value pos) (sX1 X.K ta tv f):=by
 intro Z s σ H D I h;refine plainObj_wpAny_Assign_Attribute (thn (hv Z s σ H _ I h) fun u s1 ⟨y,H1,I1,ry,q⟩=>thn (ha Z s1 σ H1 _ I1 q) fun ov s2 ⟨x,H2,I2,rx,a,C,ex,ea,c,n,q2⟩=>?_) hs;subst ex;obtain rfl:ov=Value.ref a:=rx;obtain⟨⟨t0,eo⟩,_⟩:=I2.hok a _ ea;refine b2A I2.kIn c n eo fun h' tk' g1 g2 kk=>?_;have hd:H2 s2.heap.objs.size=none:=I2.hok.fresh (nR0 _);have na:s2.heap.objs.size≠a:=fun z=>by rw[<-z,hd] at ea;cases ea
 refine⟨σ,_,I2.xput (t':=tk') ea (nR0 _) kk (fun H'=>a9q (fs:=[(f,y)]) g2 (fun g=>?_) (fun g hg=>?_)) (fun H'=>a6M g1),q2 _ hd na⟩
 ·by_cases z:g=f
  ·subst z
   rw[List.lookup_cons_self];show a3g (some y) (if g=g then some u else none);rw[if_pos rfl];exact ry
  ·have zb:(g==f)=false:=beq_eq_false_iff_ne.mpr z
   simp only[List.lookup,zb];show a3g none (if g=f then some u else none);rw[if_neg z];exact True.intro
 ·by_cases z:g=f
  ·subst z
   simp
  ·exact absurd (if_neg z) hg
theorem a7J (ha:PE X o ta)(hv:PE X value tv)(hs:swapsWith value (some (.Attribute o f pos')) pos.line X.env=pure false):PS X (.Assign [.Attribute o f pos'] value pos) (sX2 X.K ta tv f):=by
 intro Z s σ H D I h;refine plainObj_wpAny_Assign_Attribute (thn (hv Z s σ H _ I h) fun u s1 ⟨y,H1,I1,ry,q⟩=>thn (ha Z s1 σ H1 _ I1 q) fun ov s2 ⟨x,H2,I2,rx,a,C,dx,fs,ex,ea,ed,ne,c,n,hl,q2⟩=>?_) hs;subst ex;obtain rfl:ov=Value.ref a:=rx;obtain⟨⟨t0,eo⟩,_⟩:=I2.hok a _ ea;obtain⟨⟨mA,hn,hr,wi⟩,_⟩:=I2.hok dx _ ed;have hz:(fs.map (·.1)).length<=sizeLine:=by rw[lM0,sizeLine_eq];omega
 refine b1A I2.kIn c n eo hn ne wi hz fun h' tk' g2 sb=>?_;have hd:∃o,h'.get? dx=some o:=let ⟨o,_,_,e',_⟩:=g2;⟨o,e'⟩
 refine⟨σ,_,I2.write (t':=tk') (x:=dx) (e:=dx) (by rw[ed];exact True.intro) (.inl rfl) (fun b q hb z=>(sb.2 b hb).trans z) hd (a9q g2 (fun g=>?_) (fun g hg=>?_)),q2⟩
 ·show a3g ((a2Z f y fs).lookup g) (if g=f then some u else mA g)
  rw[a0I]
  by_cases q:g=f
  ·rw[if_pos q,if_pos q];exact ry
  ·rw[if_neg q,if_neg q];exact hr g
 ·by_cases q:g=f
  ·rw[q];exact(a1X f y fs).1
  ·refine(a1X f y fs).2 g (wi g fun z=>hg ?_)
   show(if g=f then some u else mA g)=none
   rw[if_neg q];exact z
theorem a2P (he:PE X e ta)(hb:attributeBase e f X.env (eval e X.env)=eval e X.env):PE X (.Attribute e f pos) (b7g X.K ta f):=by
 intro Z s σ H Q I h;refine b0C hb (thn (he Z s σ H _ I h) fun u s1 ⟨x,H1,I1,rx,a,C,dx,fs,v,ex,ea,ed,c,n,l,q⟩=>?_);subst ex;obtain rfl:u=Value.ref a:=rx;obtain⟨⟨vs,sl,eo⟩,_⟩:=I1.hok a _ ea;obtain⟨⟨mA,hn,hr,wi⟩,_⟩:=I1.hok dx _ ed;obtain⟨u,hu,ru⟩:=a3g.some_of (v:=v) (o:=mA f) (by rw[<-l];exact hr f);exact xget I1.kIn c n eo hn hu (a5z ru) ⟨v,H1,I1.tok _,ru,q⟩
end
structure BIn (K:Fg0) (B:Addr):Prop where
 sp:PySem.W.specialIn K (.ref B) "__getattribute__"=some (some (.builtin "type.__getattribute__"))
 rd:PySem.W.readsIn K B (.type "type")=true
 fc:PySem.W.findCls K (.ref B) (.type "type") "__init__"=some (.val (.builtin "ValueError.__init__"))
section
variable {prog:Program}{w:World}{A:Around}{E:Vs0}{h:Heap}{g:Array GenState}{d:Drawn}{t:Nat}{os:OsState}
variable {nm q:Str}{C N x t0:Addr}{bs bm:List Value}{sn:List Str}{sub:List Value}{ab:Bool}{col:Option Bool}{dd:Option Addr}{k0 k1 k2 k3 k5:Option Value}
theorem b1W {M:Model}{oe:Obj}{rest:List Value}{Q:Unit->Shared->Prop}(tv:a1S bm=true)(hC:h.get? C=some (excClassObj nm q C N bs bm true sn sub ab col dd k0 k1 k2 k3 k5 "ValueError.__new__"))(hx:h.get? x=some oe)(hc:oe.cls=.ref C)
  (hq:Q () ⟨h,g,d,t,os⟩):wpAny M A (checkBuiltinCall "ValueError.__init__" ⟨.ref x::rest,[]⟩) Q E ⟨h,g,d,t,os⟩:=by
 have F:=PySem.F.excBase_ValueError;have c1:(Value.ref C::bm).contains (.type "ValueError")=true:=by rw[List.contains_cons,a1l (X:="ValueError") rfl tv];rfl
 have ns:=F.noStar;simp only[checkBuiltinCall,F.initKind,F.initSplit,F.initRow]
 repeat (first | (with_reducible refine wpAny_loadPart_at hx ?_;rw[hc]) |with_reducible refine wpAny_loadPart_at hC ?_ | (with_reducible refine wpAny_isSubtype_exc hC ?_;rw[c1]) |wp_step)
 refine wpAny_onRaise ?_;rw[show ∀(a b:String) (n:Nat),Bind.check ⟨.positional,"*","ValueError",.self,[⟨"args",.varPos,false⟩]⟩ a b n (List.map (fun y=>y.fst) ({ pos:=Value.ref x::rest }:Args).kw)=pure () from fun a b n=>check_star_args _ _ _ _ _ _];exact wP0 hq
theorem b7h {rest:List Value}{od:Option Addr}{Q:Vs0}(tv:a1S bm=true)(hC:h.get? C=some (excClassObj nm q C N bs bm true sn sub ab col dd k0 k1 k2 k3 k5 "ValueError.__new__"))(hx:h.get? x=some (a3i C od t0))(hz:rest.length<=sizeLine)
  (hq:∀h' t1 tk',h'.get? x=some (a3i C od t1)->(∀b o,b≠x->h.get? b=some o->h'.get? b=some o)->Q .none ⟨h',g,d,tk',os⟩) :
  wpAny (model prog w) A (call (.builtin "ValueError.__init__") (.ref x::rest)) Q E ⟨h,g,d,t,os⟩:=by
 have F:=PySem.F.excBase_ValueError;refine wpAny_call (codeAny_call_builtin F.init.plain F.initEntry (b1W tv hC hx rfl ?_))
 wp_walk
 refine hq _ h.objs.size _ ?_ fun b o hb e=>?_
 ·rw[Heap.get?_update_self _ (hP0 _ hx) rfl]
  rfl
 ·rw[Heap.get?_update_other _ _ (Ne.symm hb)]
  exact hP0 _ e
end
def tBIn (K:Fg0)(t:TA):TE:=fun σ H Q=>t σ H fun vs H1=>∃x C od rest,vs=.ref x::rest/\H1 x=some (.ext (a8u x C od))/\XCl K C/\rest.length<=sizeLine/\Q .non H1
theorem b5M {H:Hp}{a:Addr}{o:HO}(h:H a=some o):upd H a o=H:=by
 funext b
 by_cases z:b=a
 ·rw[z,a0c,h]
 ·exact a0d z
section
variable {X:Cx}{B:Addr}{y:Str}{p pos apos:Pos}{e:Expr}{es:List Expr}{t:TA}
theorem b1h {pl:Sem Bool}(hg:Gl X y)(hm:X.mg y=some (.ref B))(b:BIn X.K B)(ha:PA X (e::es) t)(hdb:(y==("__debug__":Str))=false:=by decide)
  (hst:starEach (e::es) X.env=(false,eval e X.env)::starEach es X.env:=by rfl) (hpl:(backTo pos (starEach es X.env)).any (·.1)=false:=by rfl)
  (ht:eval (.Call (.Attribute (.Name y p) "__init__" apos) (e::es) [] pos) X.env=(do
   let ov <-eval (.Name y p) X.env
   standAt apos.atName
   let (f,first) <-holding [ov] (getMethod ov "__init__" pl)
   callWith pos f first (backTo pos (starEach (e::es) X.env)) (backToKw pos (keywordEach [] X.env))):=by rfl) :
  PE X (.Call (.Attribute (.Name y p) "__init__" apos) (e::es) [] pos) (tBIn X.K t):=by
 intro Z s σ H Q I h;refine PySem.W.methodCall_KW (pl:=pl) (a2e I hg hm ?_ hdb) ht;refine PySem.W.method_cls I.kIn b.sp (PySem.W.cls_value I.kIn b.rd b.fc rfl ?_);refine PyProof.Rows.callWith_builtin1 (thn (ha pos Z _ σ H _ (I.tok _) h) fun us s1 ⟨vs,H1,I1,r,x,C,od,rest,ev,hx,c,hz,q⟩=>?_) hst hpl;subst ev;cases r with
 |cons rx rr=>
  rename_i u us' hap
  obtain rfl:u=Value.ref x:=rx;obtain⟨nm,qn,N,bs,bm,sn,sub,ab,col,dd,k0,k1,k2,k3,k5,lk,tv⟩:=c.at_;obtain⟨⟨t0,ex⟩,_⟩:=I1.hok x _ hx;obtain⟨hh,g,d,tk,os⟩:=s1;refine b7h tv (I1.kIn _ _ lk) ex (by rw[<-rr.length];exact hz) fun h' t1 tk' e1 kk=>?_;have I2:Inv X Z σ (upd H1 x (.ext (a8u x C od))) ⟨h',g,d,tk',os⟩:=I1.write (t':=tk') (x:=x) (e:=x) (by rw[hx];exact True.intro) (.inl rfl) (fun b o hb z=>kk b o hb z) ⟨_,e1⟩ (a6M e1);rw[b5M hx] at I2;exact⟨.non,H1,I2,rfl,q⟩
end
abbrev Cx.caught (X:Cx)(x:Addr):Cx:={ X with A:=X.A.mark (some (.ref x)),calm:=false,xe:=fun _ _=>False }
abbrev Cx.within (X:Cx)(pn:List (Addr×Obj))(E:Vs0):Cx:={ X with pn:=pn,xe:=E }
section
variable {X:Cx}{Z:List (Addr×Obj)}{σ:St}{H:Hp}{s:Shared}{x:Addr}{E:Vs0}
theorem Inv.caught (I:Inv X Z σ H s):Inv (X.caught x) Z σ H s:=
 ⟨⟨I.ok.mod,I.ok.kind,I.ok.glob,I.ok.blt,I.ok.above,I.ok.inj,I.ok.has,I.ok.cab,fun h=>Bool.noConfusion h,I.ok.frames,I.ok.stk,I.ok.exf,I.ok.bs,I.ok.bsz,I.ok.noex,I.ok.exfs,I.ok.funs,I.ok.frf⟩,I.os,I.bare,I.base,I.loc,I.cell,I.free,I.freeC,I.pin,I.hok,I.len⟩
theorem Inv.uncaught (ok:X.Ok)(I:Inv (X.caught x) Z σ H s):Inv X Z σ H s:=⟨ok,I.os,I.bare,I.base,I.loc,I.cell,I.free,I.freeC,I.pin,I.hok,I.len⟩
theorem Inv.within (I:Inv X Z σ H s):Inv (X.within (X.pn++Z) E) [] σ H s:=
 ⟨⟨I.ok.mod,I.ok.kind,I.ok.glob,I.ok.blt,I.ok.above,I.ok.inj,I.ok.has,I.ok.cab,I.ok.hd,I.ok.frames,I.ok.stk,I.ok.exf,I.ok.bs,I.ok.bsz,I.ok.noex,I.ok.exfs,I.ok.funs,I.ok.frf⟩,I.os,I.bare,I.base,I.loc,I.cell,I.free,I.freeC,(by intro p hp;exact I.pin p (by simpa using hp)),I.hok,I.len⟩
theorem Inv.out {pins':List (Addr×Obj)}(ok:X.Ok)(I:Inv (X.within (X.pn++Z) E) pins' σ H s):Inv X Z σ H s:=⟨ok,I.os,I.bare,I.base,I.loc,I.cell,I.free,I.freeC,fun p hp=>I.pin p (List.mem_append_left _ hp),I.hok,I.len⟩
theorem SP.out {D:a3y}{f:Flow}{pins':List (Addr×Obj)}(ok:X.Ok)(h:SP (X.within (X.pn++Z) E) pins' D f s):SP X Z D f s:=by
 cases f with
 |next=>obtain⟨σ',H',I,q⟩:=h;exact⟨σ',H',I.out ok,q⟩
 |brk=>obtain⟨σ',H',I,q⟩:=h;exact⟨σ',H',I.out ok,q⟩
 |cont=>obtain⟨σ',H',I,q⟩:=h;exact⟨σ',H',I.out ok,q⟩
 |ret u=>obtain⟨v,σ',H',I,r,q⟩:=h;exact⟨v,σ',H',I.out ok,r,q⟩
theorem Our.out {pins':List (Addr×Obj)}{b:Addr}(o:Our (X.within (X.pn++Z) E) pins' H b):Our X Z H b:=⟨o.new,o.loc,o.cel,fun p hp=>o.pin p (List.mem_append_left _ hp),o.unt⟩
theorem Inv.unname {i:Nat}{n:Str}{h':Heap}{v:Option Value}{m:Str->Option Value}{t':Nat}(I:Inv X Z σ H s)(hN:X.N.Nodup)(hi:X.N[i]? =some n)(hn:h'.Ns X.env.locals (fun y=>if y=n then v else m y))
  (hm:∀(i:Nat) (x:Str) (v:V),X.N[i]? =some x->σ[i]? =some (some v)->Vis X.env.scope x->∃u,a0Y v u/\b8p X.env s.heap m x u) (sb:Heap.SameBut X.env.locals s.heap h') :
  Inv X Z (σ.set i none) H { s with heap:=h',toks:=t' }:=by
 have cne:=I.cne;have neL:∀b o,X.s₀.heap.get? b=some o->b≠X.env.locals:=fun b o e=>nL0 (Nat.lt_of_lt_of_le (hL0 e) I.ok.above);refine⟨I.ok,I.os,I.bare,⟨fun b o e n' hb hx=>(sb.2 b (neL b o e)).trans (I.base.keep b o e n' hb hx),fun b o e n' hb hx=>?_,I.base.free,fun b o e hx=>?_,I.base.tups,I.base.frzs,I.base.tbls⟩,⟨_,hn,fun j y w e1 e2 e3=>?_⟩,fun y c e=>?_,I.free,I.freeC,fun p hp=>?_,fun b ob e=>?_,by simpa using I.len⟩
 ·obtain⟨sl,e1⟩:=I.base.slot b o e n' hb hx
  exact⟨sl,(sb.2 b (neL b o e)).trans e1⟩
 ·obtain⟨o',e1⟩:=I.base.there b o e hx
  exact⟨o',(sb.2 b (neL b o e)).trans e1⟩
 ·by_cases hj:j=i
  ·subst hj
   have:(σ.set j none)[j]? =some (some w):=e2
   rw[List.getElem?_set] at this;simp at this
  ·rw[List.getElem?_set_ne (Ne.symm hj)] at e2
   obtain⟨u,r,q⟩:=hm j y w e1 e2 e3;refine⟨u,r,?_⟩;rcases q with ⟨k,e⟩ |⟨k,c,e,z⟩
   ·refine .inl ⟨k,?_⟩
    have:y≠n:=fun e=>hj (a4H hN e1 (e▸hi))
    show(if y=n then v else m y)=some u
    rw[if_neg this];exact e
   ·exact .inr ⟨k,c,e,z.sameBut sb (cne y c e)⟩
 ·obtain⟨w',z⟩:=I.cell y c e
  exact⟨w',z.sameBut sb (cne y c e)⟩
 ·obtain⟨e,n',ne,nf,d⟩:=I.pin p hp
  exact⟨(sb.2 p.1 ne).trans e,n',ne,nf,d⟩
 ·refine(I.hok b ob e).stay (fun c w' hc q=>(sb.2 c ?_).trans q) (fun _ q=>q) fun _ _ q=>q
  rintro rfl;rcases hc with rfl |hc
  ·rw[I.free] at e;cases e
  ·rw[I.free] at hc;cases hc
end
def b0v (i:Nat)(D:a3y):a3y:={ nx:=fun σ' H'=>D.nx (σ'.set i none) H',rt:=D.rt,bk:=fun σ' H'=>D.bk (σ'.set i none) H',ct:=fun σ' H'=>D.ct (σ'.set i none) H' }
section
variable {M:Model}{A:Around}{E:Vs0}{h:Heap}{g:Array GenState}{d:Drawn}{t:Nat}{os:OsState}
variable {nm q:Str}{C N:Addr}{bs bm:List Value}{sn:List Str}{sub:List Value}{ab:Bool}{col:Option Bool}{dd:Option Addr}{k0 k1 k2 k3 k5:Option Value}
variable {nm' q':Str}{D N':Addr}{bs' bm':List Value}{sn':List Str}{sub':List Value}{ab':Bool}{col':Option Bool}{dd':Option Addr}{j0 j1 j2 j3 j5:Option Value}
theorem b6D {e:Addr}{oe:Obj}{b:Bool}{Q:Bool->Shared->Prop}(hC:h.get? C=some (excClassObj nm q C N bs bm true sn sub ab col dd k0 k1 k2 k3 k5 "ValueError.__new__"))
  (hD:h.get? D=some (excClassObj nm' q' D N' bs' bm' true sn' sub' ab' col' dd' j0 j1 j2 j3 j5 "ValueError.__new__")) (tD:a1S bm'=true) (he:h.get? e=some oe) (hcls:oe.cls=.ref C)
  (hb:(Value.ref C::bm).contains (.ref D)=b) (hq:Q b ⟨h,g,d,t,os⟩):wpAny M A (excMatches (.ref e) (.ref D)) Q E ⟨h,g,d,t,os⟩:=by
 have hcB:(Value.ref D::bm').contains (.type "BaseException")=true:=by rw[List.contains_cons,a1l (X:="BaseException") rfl tD];rfl
 have f:=tc_notTuple;unfold excMatches
 repeat (first | (with_reducible refine wpAny_loadPart_at he ?_;rw[hcls]) |with_reducible refine wpAny_loadPart_at hD ?_ | (with_reducible refine wpAny_isSubtype_exc hD ?_;rw[hcB]) | (with_reducible refine wpAny_isSubtype_exc hC ?_;rw[hb]) |wp_step)
 cases b<;>(wp_walk;exact hq)
end
def b2k (K:Fg0)(C D:Addr):Prop:=XCl K C/\PySem.W.mroIn K C (.ref D)=some true
theorem b2k.has {K:Fg0}{C D:Addr}(u:b2k K C D){nm q:Str}{N:Addr}{bs bm:List Value}{sn:List Str}{sub:List Value}{ab:Bool}{col:Option Bool}{dd:Option Addr}{k0 k1 k2 k3 k5:Option Value}
  (lk:K.lookup C=some (excClassObj nm q C N bs bm true sn sub ab col dd k0 k1 k2 k3 k5 "ValueError.__new__")):(Value.ref C::bm).contains (.ref D)=true:=by
 have e:PySem.W.clsIn K C=some ⟨nm,bs,.ref C::bm,N,q,true,sn,sub,ab,col,false⟩:=by
  unfold PySem.W.clsIn;rw[lk]
 have h:=u.2;unfold PySem.W.mroIn at h;rw[e,Option.bind_some] at h;exact Option.some.inj h
def EXu (K:Fg0)(CN:Addr)(i:Nat)(ts:Addr->Addr->TS)(D:a3y):XS:=fun C od σ H=>∃Cx,C=.ref Cx/\b2k K Cx CN/\∀x,H x=none->ts x Cx (b0v i D) (σ.set i (some (.ref x))) (upd H x (.ext (b7a x Cx od)))
end L2
namespace L2
open PySem PySem.Spec PyProof.Rows
end L2
namespace L2
open PySem
end L2
namespace L2
open PySem PySem.Spec PyProof.Rows
section
variable {X:Cx}{Z:List (Addr×Obj)}{σ:St}{H:Hp}{s:Shared}{h':Heap}
theorem Inv.turnedL {t':Nat}{ch:List Addr}(I:Inv X Z σ H s)(k:∀b o,b∉ch->s.heap.get? b=some o->h'.get? b=some o)(f:∀b∈ch,a8w X Z H b):Inv X Z σ H { s with heap:=h',toks:=t' }:=by
 have nit:∀b u,H b=some u->b∉ch:=fun b u e z=>by rw[(f b z).1] at e;cases e
 refine I.step (g':=s.gens) (d':=s.drawn) (ch:=ch) (fun b hb=>?_) (fun b o _ _ hc e _=>k b o hc e) (fun b o _ _ hc e _=>⟨o.slots,k b o hc e⟩) (fun _ _ _ _ n=>n) (fun b o hc e=>⟨o,k b o hc e⟩) (fun _ _ e=>e) (fun _ _ _ e=>e) (fun b ps e=>⟨#[],by rw[e];simp⟩) (fun m hm=>?_) (fun b u e=>?_) I.bare
 ·obtain⟨f0,f1,f2,f3,f4,f5⟩:=f b hb
  exact⟨f3,f1,f4,f5⟩
 ·obtain⟨o,es,ep,ho,r⟩:=hm
  refine⟨o,es,ep,k _ o (fun z=>?_) ho,r⟩;obtain⟨f0,f1,_⟩:=f _ z;exact f1 rfl
 ·refine(I.hok b u e).stay (fun c v hc q=>k c v ?_ q) (fun _ q=>q) fun _ _ q=>q
  rcases hc with z |z
  ·rw[z];exact nit b u e
  ·exact nit c _ z
end
structure b1m (K:Fg0) (x qual:Str) (st:Stmt) (f:Addr) (fd:FuncData):Prop where
 ex:∃(oc:Value) (od:Option Addr) (dV kV doc pm:Value) (an:Option Addr) (cdv ct:Value) (osl:Array (Option Value)),
  fd=PySem.W.fnOf x qual (a0Q st) (a0K st) (a0g st) dV kV doc pm an cdv ct/\K.lookup f=some ⟨oc,od,.func fd,osl⟩/\PySem.W.codeIn K cdv qual=true
 kp:PySem.W.keepIn K (.ref f)=true
theorem b4T {K:Fg0}{x qual:Str}{st:Stmt}{f:Addr}{oc:Value}{od an:Option Addr}{osl:Array (Option Value)}{dV kV doc pm cdv ct:Value}(l:K.lookup f=some ⟨oc,od,.func (PySem.W.fnOf x qual (a0Q st) (a0K st) (a0g st) dV kV doc pm an cdv ct),osl⟩)
  (c:PySem.W.codeIn K cdv qual=true) (k:PySem.W.keepIn K (.ref f)=true):b1m K x qual st f (PySem.W.fnOf x qual (a0Q st) (a0K st) (a0g st) dV kV doc pm an cdv ct):=⟨⟨oc,od,dV,kV,doc,pm,an,cdv,ct,osl,rfl,l,c⟩,k⟩
section
variable {P:Program}{w:World}{K:Fg0}{mg:Str->Option Value}{base:Heap}
theorem b1m.ok {x qual:Str}{st:Stmt}{f:Addr}{fd:FuncData}{N ps:List Str}{k:Nat}{sp:Sp}(F:b1m K x qual st f fd)(S:a0o N ps (a0g st))(len:∀vs H Q E,sp vs H Q E->vs.length=ps.length)
  (hbody:∀(cdv:Value) (A:Around) (outer:List Env) (s:Shared) (H:Hp) (vs:List V) (Q:VK) (E:XK),a1u k (A.deeper (envOfC qual (a0g st) s.heap.objs.size f cdv))->sp vs H Q E →
   ∃t,PSs (b0W CX0 P w K mg base N qual (a0g st) f cdv A outer s H E).nox (a0K st) t/\t { nx:=fun _ H'=>Q .non H',rt:=Q } (a4e N vs) H):a0A P w K mg base CX0 (k+1) f fd ps sp:=by
 obtain⟨oc,od,dV,kV,doc,pm,an,cdv,ct,osl,rfl,lk,hcd⟩:=F.ex;refine b4g lk hcd S len fun A outer s H vs Q E hr hsp=>?_;obtain⟨t,h,q⟩:=hbody cdv A outer s H vs Q E hr hsp;exact⟨t,h.nox,q⟩
theorem b1m.okX {x qual:Str}{st:Stmt}{f:Addr}{fd:FuncData}{N ps:List Str}{k:Nat}{sp:Sp}(F:b1m K x qual st f fd)(S:a0o N ps (a0g st))(len:∀vs H Q E,sp vs H Q E->vs.length=ps.length)
  (hbody:∀(cdv:Value) (A:Around) (outer:List Env) (s:Shared) (H:Hp) (vs:List V) (Q:VK) (E:XK),a1u k (A.deeper (envOfC qual (a0g st) s.heap.objs.size f cdv))->sp vs H Q E →
   ∃t,PSs (b0W (CX1 P w) P w K mg base N qual (a0g st) f cdv A outer s H E) (a0K st) t/\t { nx:=fun _ H'=>Q .non H',rt:=Q } (a4e N vs) H):a0A P w K mg base (CX1 P w) (k+1) f fd ps sp:=by
 obtain⟨oc,od,dV,kV,doc,pm,an,cdv,ct,osl,rfl,lk,hcd⟩:=F.ex;exact b4g lk hcd S len fun A outer s H vs Q E hr hsp=>hbody cdv A outer s H vs Q E hr hsp
theorem Fun.x {x qual:Str}{st:Stmt}{f:Addr}{fd:FuncData}(F:Fun K x qual st f fd):b1m K x qual st f fd:=by
 obtain⟨oc,od,kV,doc,pm,an,cdv,ct,osl,e,lk,hcd⟩:=F.ex;exact⟨⟨oc,od,.none,kV,doc,pm,an,cdv,ct,osl,e,lk,hcd⟩,F.kp⟩
end
section
variable {X:Cx}{Z:List (Addr×Obj)}{σ:St}{H:Hp}{s:Shared}{a:Addr}{kvs:List (Key×V)}{o:Obj}
theorem Inv.freeze (I:Inv X Z σ H s)(e:H a=some (.dK kvs))(ho:s.heap.get? a=some o):Inv X Z σ (upd H a (.frz o (.dK kvs))) s:=by
 have ne:∀b u,H b=some u->u≠.dK kvs->b≠a:=fun b u q n z=>by
  subst z;rw[e] at q;exact n (Option.some.inj q).symm
 have nn:∀b,H b=none->b≠a:=fun b q z=>by subst z;rw[e] at q;cases q
 refine⟨I.ok,I.os,I.bare,⟨I.base.keep,I.base.slot,fun b ob q n hx=>?_,I.base.there,fun b xs q=>?_,fun b ob u q=>?_,fun b ps q=>?_⟩,I.loc,I.cell,?_,fun x c q=>?_,fun p hp=>?_,fun b u q=>?_,I.len⟩
 ·have h:=I.base.free b ob q n hx
  rw[a0d (nn b h)];exact h
 ·have h:=I.base.tups b xs q
  rw[a0d (ne b _ h (by simp))];exact h
 ·have h:=I.base.frzs b ob u q
  rw[a0d (ne b _ h (by simp))];exact h
 ·obtain⟨m,h⟩:=I.base.tbls b ps q
  exact⟨m,by rw[a0d (ne b _ h (by simp))];exact h⟩
 ·rw[a0d (nn _ I.free)]
  exact I.free
 ·rw[a0d (nn _ (I.freeC x c q))]
  exact I.freeC x c q
 ·obtain⟨h1,h2,h3⟩:=I.pin p hp
  exact⟨h1,by rw[a0d (nn _ h2)];exact h2,h3⟩
 ·by_cases hb:b=a
  ·subst hb
   rw[a0c] at q;cases q;exact⟨ho,I.hok b _ e⟩
  ·rw[a0d hb] at q
   exact(I.hok b u q).stay (fun c v _ r=>r) (fun c r=>by rw[a0d (ne c _ r (by simp))];exact r) fun c xs r=>by rw[a0d (ne c _ r (by simp))];exact r
theorem Inv.thaw (I:Inv X Z σ H s)(n0:∀ob u,X.H₀ a≠some (.frz ob u))(e:H a=some (.frz o (.dK kvs))):Inv X Z σ (upd H a (.dK kvs)) s:=by
 have ne:∀b u,H b=some u->u≠.frz o (.dK kvs)->b≠a:=fun b u q n z=>by
  subst z;rw[e] at q;exact n (Option.some.inj q).symm
 have nn:∀b,H b=none->b≠a:=fun b q z=>by subst z;rw[e] at q;cases q
 refine⟨I.ok,I.os,I.bare,⟨I.base.keep,I.base.slot,fun b ob q n hx=>?_,I.base.there,fun b xs q=>?_,fun b ob u q=>?_,fun b ps q=>?_⟩,I.loc,I.cell,?_,fun x c q=>?_,fun p hp=>?_,fun b u q=>?_,I.len⟩
 ·have h:=I.base.free b ob q n hx
  rw[a0d (nn b h)];exact h
 ·have h:=I.base.tups b xs q
  rw[a0d (ne b _ h (by simp))];exact h
 ·have h:=I.base.frzs b ob u q
  rw[a0d (fun z=>by subst z;exact n0 _ _ q)];exact h
 ·obtain⟨m,h⟩:=I.base.tbls b ps q
  exact⟨m,by rw[a0d (ne b _ h (by simp))];exact h⟩
 ·rw[a0d (nn _ I.free)]
  exact I.free
 ·rw[a0d (nn _ (I.freeC x c q))]
  exact I.freeC x c q
 ·obtain⟨h1,h2,h3⟩:=I.pin p hp
  exact⟨h1,by rw[a0d (nn _ h2)];exact h2,h3⟩
 ·by_cases hb:b=a
  ·subst hb
   rw[a0c] at q;cases q;exact(I.hok b _ e).2
  ·rw[a0d hb] at q
   exact(I.hok b u q).stay (fun c v _ r=>r) (fun c r=>by rw[a0d (ne c _ r (by simp))];exact r) fun c xs r=>by rw[a0d (ne c _ r (by simp))];exact r
theorem Inv.dk_obj (I:Inv X Z σ H s)(e:H a=some (.dK kvs)):∃o,s.heap.get? a=some o:=by
 obtain⟨_,_,_,_,o,_,_,g,_⟩:=I.hok a _ e;exact⟨o,g⟩
theorem Inv.not_frz (I:Inv X Z σ H s)(e:H a=some (.dK kvs)):∀ob u,X.H₀ a≠some (.frz ob u):=fun ob u q=>by
 have:=I.base.frzs a ob u q
 rw[e] at this;cases this
def frzE (a:Addr)(o:Obj)(kvs:List (Key×V))(D:a3y):a3y where
 nx:=fun σ' H'=>H' a=some (.frz o (.dK kvs))/\D.nx σ' (upd H' a (.dK kvs))
 rt:=fun v H'=>H' a=some (.frz o (.dK kvs))/\D.rt v (upd H' a (.dK kvs))
 bk:=fun σ' H'=>H' a=some (.frz o (.dK kvs))/\D.bk σ' (upd H' a (.dK kvs))
 ct:=fun σ' H'=>H' a=some (.frz o (.dK kvs))/\D.ct σ' (upd H' a (.dK kvs))
def sFrz (t:TS):TS:=fun D σ H=>∃a kvs,H a=some (.dK kvs)/\∀o,t (frzE a o kvs D) σ (upd H a (.frz o (.dK kvs)))
theorem a4i {st:Stmt}{t:TS}(h:PS X st t):PS X st (sFrz t):=by
 intro Z s σ H D I hq;obtain⟨a,kvs,e,q⟩:=hq;obtain⟨o,ho⟩:=I.dk_obj e;have n0:=I.not_frz e;refine thn (h Z s σ _ _ (I.freeze e ho) (q o)) fun f s' hs=>?_;cases f with
 |next=>obtain⟨σ',H',I',e',z⟩:=hs;exact⟨σ',_,I'.thaw n0 e',z⟩
 |brk=>obtain⟨σ',H',I',e',z⟩:=hs;exact⟨σ',_,I'.thaw n0 e',z⟩
 |cont=>obtain⟨σ',H',I',e',z⟩:=hs;exact⟨σ',_,I'.thaw n0 e',z⟩
 |ret u=>obtain⟨v,σ',H',I',r,e',z⟩:=hs;exact⟨v,σ',_,I'.thaw n0 e',r,z⟩
end
def b1o (o:Obj):Nat:=match o.data with
 | .dict _ ep=>ep
 |_=>0
theorem b1u {P:Program}{w:World}:∀{k:Key} {u:Value},(a0i P w).is k u=true->a0Y (kV k) u:=by
 intro k u h;rcases a0w (k:=k) (v:=u) h with ⟨i,t,rfl,rfl⟩ |⟨x,t,rfl,rfl⟩
 ·exact⟨t,rfl⟩
 ·exact⟨t,rfl⟩
def Itd (a:Addr)(o:Obj)(kvs:List (Key×V)):It:=
 ⟨fun i H=>i<kvs.length/\H a=some (.frz o (.dK kvs)),fun i H x H'=>H'=H/\∃k v,kvs[i]? =some (k,v)/\x=kV k,fun i H=>kvs.length<=i/\H a=some (.frz o (.dK kvs))⟩
section
variable {X:Cx}
theorem a6f:∀{kvs:List (Key×V)} {vs:List (Key×Value)} {i:Nat} {p:Key×V},KV kvs vs->kvs[i]? =some p->∃u,vs[i]? =some (p.1,u)/\a0Y p.2 u
 |_,_,_,_,.nil,e=>by simp at e
 |_,_,0,_,.cons (b:=q) r _,e=>by
  simp at e;subst e;obtain⟨q1,q2⟩:=q;obtain⟨r1,r2⟩:=r;exact⟨q2,by rw[List.getElem?_cons_zero];exact congrArg (fun z=>some (z,q2)) r1.symm,r2⟩
 |_,_,i+1,p,.cons _ t,e=>by
  obtain⟨u,h1,h2⟩:=a6f (i:=i) (p:=p) t (by simpa using e);exact⟨u,by simpa using h1,h2⟩
theorem Inv.dictAt {Z:List (Addr×Obj)}{σ:St}{H:Hp}{s:Shared}{a:Addr}{o:Obj}{kvs:List (Key×V)}(I:Inv X Z σ H s)(e:H a=some (.frz o (.dK kvs))) :
  ∃vs,KV kvs vs/\s.heap.DictAt (a0i X.prog X.w) a vs (b1o o)/\(a==sysModules)=false:=by
 obtain⟨g,_,hs,vs,kv,o',es,ep,g',ex,hd,hk,hp,hn⟩:=I.hok a _ e;rw[g] at g';cases g';have he:b1o o=ep:=by unfold b1o;rw[hd]
 exact⟨vs,kv,⟨o,es,g,ex,by rw[he];exact hd,hk,hp,hn⟩,hs⟩
theorem KV.len {kvs:List (Key×V)}{vs:List (Key×Value)}(r:KV kvs vs):kvs.length=vs.length:=Paired.length r
theorem b0r {P:Program}{w:World}{K:Fg0}{tg:Expr}(a it:Addr)(o:Obj)(kvs:List (Key×V)):b1S P w K tg (Itd a o kvs) [it] it (fun i h=>h.IsKeyIter it a i kvs.length (b1o o)) where
 mem:=by simp
 obj:=fun i h st b hb=>by
  have e:b=it:=by simpa using hb
  subst e;obtain⟨o,e,c,d⟩:=st;exact⟨o,e,fun v z=>by rw[d] at z;cases z⟩
 keep:=fun i h h' st k=>st.at fun o e=>k it (by simp) o e
 item:=by
  intro X hP hw hK hc i Z s σ H E I hf st hg;subst hP hw hK;obtain⟨hi,hq⟩:=hg;obtain⟨vs,kv,da,_⟩:=I.dictAt hq;have hl:=kv.len;obtain⟨u,hu,ru⟩:=a6f kv (show kvs[i]? =some (kvs[i].1,kvs[i].2) by simp[hi]);obtain⟨f0,f1,f2,f3,f4,f5⟩:=hf it (by simp);rw[hl] at st;refine wpAny_pyNext_dict_item st da hu fun key h' hkey st' sb=>?_;rw[<-hl] at st';have I1:Inv X Z σ H { s with heap:=h' }:=I.turned (t':=s.toks) (fun b o hb e=>(sb.2 b hb).trans e) f0 f1 f3 f4 f5;obtain⟨oi,e,c,d⟩:=id st';exact⟨key,rfl,a9P (s:={ s with heap:=h' }) e c d (by decide) ⟨kV kvs[i].1,H,I1,b1u hkey,⟨rfl,kvs[i].1,kvs[i].2,by simp[hi],rfl⟩,st',fun b hb=>(hf b hb).1⟩⟩
 done:=by
  intro X hP hw hK hc i Z s σ H E I hf st hg;subst hP hw hK;obtain⟨hi,hq⟩:=hg;obtain⟨vs,kv,da,_⟩:=I.dictAt hq;have hl:=kv.len;obtain⟨f0,f1,f2,f3,f4,f5⟩:=hf it (by simp);rw[hl] at st;exact wpAny_pyNext_dict_end (I.ok.hd hc) st da (by simp;omega) fun h' eb=>⟨rfl,I.turned (t':=s.toks) (fun b o hb e=>eb b o hb e) f0 f1 f3 f4 f5⟩
 self:=fun _ _ _ _ _ st h=>wpAny_pyIter_keyiter st h
def b8f (tl:TE):TI:=fun σ H R=>tl σ H fun x H1=>∃a o kvs,x=.ref a/\H1 a=some (.frz o (.dK kvs))/\R (Itd a o kvs) H1
theorem b4x {tg l:Expr}{tl:TE}(hl:PE X l tl):PI X tg l (b8f tl):=by
 intro Z s σ H R I h;refine thn (hl Z s σ H _ I h) fun v s1 ⟨x,H1,I1,r1,q1⟩=>?_;obtain⟨a,o,kvs,e,hq,q⟩:=q1;subst e;cases r1;obtain⟨vs,kv,da,hs⟩:=I1.dictAt hq;refine wpAny_pyIter_dict hs da ?_;refine⟨s1.heap.objs.size,[s1.heap.objs.size],_,_,H1,rfl,I1.kept (t':=s1.toks) fun b o e=>hP0 _ e,b0r a _ o kvs,⟨_,hS0 _ rfl,rfl,by rw[kv.len];rfl⟩,fun b hb=>?_,q⟩;have e:b=s1.heap.objs.size:=by simpa using hb
 subst e;exact I1.fpOk (nR0 _) (I1.hok.fresh (nR0 _))
theorem b2j {a:Addr}{o:Obj}{kvs:List (Key×V)}{g:TG}{tb:TS}{D:a3y}{σ:St}{H:Hp}(Pv:Nat->St->Hp->Prop)(h0:Pv 0 σ H)(hl:∀i σ H,i<=kvs.length->Pv i σ H->H a=some (.frz o (.dK kvs)))
  (hs:∀i k v σ H,kvs[i]? =some (k,v)->Pv i σ H->g (kV k) σ H fun σ2 H2=>tb { D with nx:=Pv (i+1),ct:=Pv (i+1),bk:=D.nx } σ2 H2) (hd:∀σ H,Pv kvs.length σ H->D.nx σ H) :
  ∃W:Nat->Nat->St->Hp->Prop,(∃m,W 0 m σ H)/\∀i m σ H,W i m σ H →
   ((Itd a o kvs).stop i H/\D.nx σ H)\/((Itd a o kvs).go i H/\∃N:St->Hp->Prop,(∀σ' H',N σ' H'->∃m',m'<m/\W (i+1) m' σ' H')/\∀x H',(Itd a o kvs).yld i H x H'->g x σ H' fun σ2 H2=>tb { D with nx:=N,ct:=N,bk:=D.nx } σ2 H2):=by
 refine⟨fun i m σ H=>m=kvs.length-i/\i<=kvs.length/\Pv i σ H,⟨kvs.length,by simp,zL0 _,h0⟩,?_⟩;rintro i m σ H ⟨rfl,hi,p⟩;have q:=hl i σ H hi p
 by_cases hlt:i<kvs.length
 ·refine .inr ⟨⟨hlt,q⟩,Pv (i+1),fun σ' H' p'=>⟨kvs.length-(i+1),by omega,rfl,hlt,p'⟩,fun x H' y=>?_⟩
  obtain⟨e,k,v,hk,ex⟩:=y;subst e ex;exact hs i k v σ _ hk p
 ·have e:i=kvs.length:=by omega
  subst e;exact .inl ⟨⟨nR0 _,q⟩,hd σ H p⟩
theorem a5u:∀{us:List Value} {zs:List Str},StrsAre us zs->a1b (zs.map V.str) us
 |_,_,.nil=>.nil
 |_,_,.cons _ k t=>.cons ⟨_,rfl⟩ (a5u t)
theorem a2t:entryFor table "dict_itemiterator.__iter__"=some Builtin.«dict_keyiterator.__iter__»:=
 entryFor_alias (id':="dict_keyiterator.__iter__") (by kernel_rfl) rfl (by decide +kernel) (by kernel_rfl)
theorem a4N {prog:Program}{w:World}{A:Around}{E:Vs0}{s:Shared}{it d:Addr}{i n ep:Nat}{ok ov:Value}{Q:Vs0}(hit:IsItemIter s.heap it d i n ep ok ov)(h:Q (.ref it) s):wpAny (model prog w) A (pyIter (.ref it)) Q E s:=by
 have hT:s.TypeIs (.ref it) "dict_itemiterator":=⟨_,hit,rfl⟩;refine wpAny_pyIter_slot hT F.slot_dict_itemiterator_iter (wpAny_call_entry F.slot_dict_itemiterator_iter hT a2t ?_ (F.args_dict_itemiterator_iter_1 _));show wpAny _ _ (ret (.ref it)) _ _ s;exact wP0 ⟨_,rfl,"dict_itemiterator",_,hT,F.slot_dict_itemiterator_next.lookup,h⟩
def Itm (a:Addr)(o:Obj)(kvs:List (Key×V)):It:=
 ⟨fun i H=>i<kvs.length/\H a=some (.frz o (.dK kvs)),fun i H x H'=>∃k v p,kvs[i]? =some (k,v)/\x=.ref p/\H p=none/\H'=upd H p (.tup [kV k,v]),fun i H=>kvs.length<=i/\H a=some (.frz o (.dK kvs))⟩
theorem a7W {P:Program}{w:World}{K:Fg0}{es:List Expr}{x1:Nat}{tp:Pos}(a it:Addr)(o:Obj)(kvs:List (Key×V)):b1S P w K (.Tuple es x1 tp) (Itm a o kvs) [it] it (fun i h=>∃ok ov,IsItemIter h it a i kvs.length (b1o o) ok ov) where
 mem:=by simp
 obj:=fun i h st b hb=>by
  have e:b=it:=by simpa using hb
  subst e;obtain⟨ok,ov,st⟩:=st;exact⟨_,st,fun v z=>by cases z⟩
 keep:=fun i h h' st k=>by
  obtain⟨ok,ov,st⟩:=st;exact⟨ok,ov,k it (by simp) _ st⟩
 item:=by
  intro X hP hw hK hc i Z s σ H E I hf st hg;subst hP hw hK;obtain⟨hi,hq⟩:=hg;obtain⟨ok,ov,st⟩:=st;obtain⟨vs,kv,da,_⟩:=I.dictAt hq;have hl:=kv.len;obtain⟨u,hu,ru⟩:=a6f kv (show kvs[i]? =some (kvs[i].1,kvs[i].2) by simp[hi]);obtain⟨f0,f1,f2,f3,f4,f5⟩:=hf it (by simp);have hit:it<s.heap.objs.size:=hL0 st;rw[hl] at st;refine wpAny_pyNext_items_item st da hu fun key h' hkey st' ht hsz kp=>?_;refine⟨_,rfl,?_⟩;refine wpAny_letOwnedTupleGo_items (s:={ s with heap:=h' }) st' fun h'' st'' sb=>?_;rw[<-hl] at st'';have I0:Inv X Z σ H { s with heap:=s.heap.update it fun _=>{ cls:=.type "dict_itemiterator",dict:=none,data:=.fields #[.none,.bool false,.ref a,.int (i+1:Nat) 0,.int kvs.length 0,.int (b1o o) 0,key,u],slots:=#[] } }:=
   I.turned (t':=s.toks) (fun b ob hb e=>by rw[Heap.get?_update_ne _ _ _ _ hb];exact e) f0 f1 f3 f4 f5
  have hp:H s.heap.objs.size=none:=I.hok.fresh (nR0 _);refine⟨.ref s.heap.objs.size,upd H s.heap.objs.size (.tup [kV kvs[i].1,kvs[i].2]),I0.laid (t':=s.toks) (h':=h'') (fun b ob e=>?_) (by rw[Heap.size_update];exact nR0 _) ?_,rfl,⟨_,_,_,by simp[hi],rfl,hp,rfl⟩,⟨key,u,st''⟩,fun b hb=>?_⟩
  ·by_cases hb:b=it
   ·subst hb
    rw[Heap.get?_update_self _ st rfl] at e;rw[<-e];exact st''
   ·rw[Heap.get?_update_ne _ _ _ _ hb] at e
    exact(sb.2 b hb).trans (kp b ob hb e)
  ·refine⟨(show 2<=sizeLine by decide),[key,u],.cons (b1u hkey) (.cons ru .nil),⟨_,(sb.2 _ (Nat.ne_of_gt hit)).trans ht,rfl,_,rfl⟩⟩
  ·have e:b=it:=by simpa using hb
   subst e;rw[a0d (nL0 hit)];exact f0
 done:=by
  intro X hP hw hK hc i Z s σ H E I hf st hg;subst hP hw hK;obtain⟨hi,hq⟩:=hg;obtain⟨ok,ov,st⟩:=st;obtain⟨vs,kv,da,_⟩:=I.dictAt hq;have hl:=kv.len;obtain⟨f0,f1,f2,f3,f4,f5⟩:=hf it (by simp);rw[hl] at st;exact wpAny_pyNext_items_end (I.ok.hd hc) st da (by simp;omega) fun h' eb=>⟨rfl,I.turned (t':=s.toks) (fun b o hb e=>eb b o hb e) f0 f1 f3 f4 f5⟩
 self:=fun A i s Q E st h=>by
  obtain⟨ok,ov,st⟩:=st;exact a4N st h
def b6j (tl:TE):TI:=fun σ H R=>tl σ H fun x H1=>∃a o kvs,x=.ref a/\H1 a=some (.frz o (.dK kvs))/\R (Itm a o kvs) H1
theorem a3k {es:List Expr}{x1:Nat}{tp:Pos}{l:Expr}{tl:TE}{apos cpos:Pos}(hl:PE X l tl)(hbase:attributeBase l "items" X.env (eval l X.env)=eval l X.env:=by rfl)(hline:(apos.endLine==cpos.line)=true:=by rfl) :
  PI X (.Tuple es x1 tp) (.Call (.Attribute l "items" apos) [] [] cpos) (b6j tl):=by
 intro Z s σ H R I h;refine wpAny_Call_method0_late hbase hline (thn (hl Z s σ H _ I h) fun v s1 ⟨x,H1,I1,r1,q1⟩=>?_);obtain⟨a,o,kvs,e,hq,q⟩:=q1;subst e;cases r1;obtain⟨vs,kv,da,hs⟩:=I1.dictAt hq;obtain⟨g,_⟩:=I1.hok a _ hq;have ex:o.ExactDict:=by
  obtain⟨o',es',g',x',_⟩:=id da;rw[g] at g';cases g';exact x'
 refine⟨"dict","dict.items",F.plainAttrs_dict,F.slot_dict_items,F.type_dict_items,da.dictOf.typeIs,(fun b e=>by cases e;exact⟨o,g,ex.2.1⟩),Calls.callWith_builtin rfl (PySem.evalArgs_none ?_)⟩;refine call_meetsIn F.slot_dict_items da.dictOf.typeIs F.entry_dict_items (F.args_dict_items_1 _) (meets_dict_items (a0i X.prog X.w) a hs) ⟨⟨vs,da.dictOf⟩,?_⟩;have I2:Inv X Z σ H1 { s1 with heap:=s1.heap.push { cls:=.type "dict_items",data:=.fields #[.ref a] } }:=I1.kept (t':=s1.toks) fun b o e=>hP0 _ e;refine wpAny_pyIter_items (s:={ s1 with heap:=s1.heap.push { cls:=.type "dict_items",data:=.fields #[.ref a] } }) (knd:=a0i X.prog X.w) (kvs:=vs) (ep:=b1o o) ⟨_,hS0 _ rfl,rfl,rfl⟩ (da.push _) ?_;refine⟨_,[_],_,_,H1,rfl,I2.kept (t':=s1.toks) fun b o e=>hP0 _ e,a7W a _ o kvs,⟨.none,.none,by rw[kv.len];exact hS0 _ rfl⟩,fun b hb=>?_,q⟩;have e:=mS0.mp hb;subst e;exact I2.fpOk (nR0 _) (I2.hok.fresh (nR0 _))
theorem a3v {a:Addr}{o:Obj}{kvs:List (Key×V)}{g:TG}{tb:TS}{D:a3y}{σ:St}{H:Hp}(Pv:Nat->St->Hp->Prop)(h0:Pv 0 σ H)(hl:∀i σ H,i<=kvs.length->Pv i σ H->H a=some (.frz o (.dK kvs)))
  (hs:∀i k v p σ H,kvs[i]? =some (k,v)->Pv i σ H->H p=none->g (.ref p) σ (upd H p (.tup [kV k,v])) fun σ2 H2=>tb { D with nx:=Pv (i+1),ct:=Pv (i+1),bk:=D.nx } σ2 H2) (hd:∀σ H,Pv kvs.length σ H->D.nx σ H) :
  ∃W:Nat->Nat->St->Hp->Prop,(∃m,W 0 m σ H)/\∀i m σ H,W i m σ H →
   ((Itm a o kvs).stop i H/\D.nx σ H)\/((Itm a o kvs).go i H/\∃N:St->Hp->Prop,(∀σ' H',N σ' H'->∃m',m'<m/\W (i+1) m' σ' H')/\∀x H',(Itm a o kvs).yld i H x H'->g x σ H' fun σ2 H2=>tb { D with nx:=N,ct:=N,bk:=D.nx } σ2 H2):=by
 refine⟨fun i m σ H=>m=kvs.length-i/\i<=kvs.length/\Pv i σ H,⟨kvs.length,by simp,zL0 _,h0⟩,?_⟩;rintro i m σ H ⟨rfl,hi,p⟩;have q:=hl i σ H hi p
 by_cases hlt:i<kvs.length
 ·refine .inr ⟨⟨hlt,q⟩,Pv (i+1),fun σ' H' p'=>⟨kvs.length-(i+1),by omega,rfl,hlt,p'⟩,fun x H' y=>?_⟩
  obtain⟨k,v,pa,hk,ex,hn,e⟩:=y;subst e ex;exact hs i k v pa σ H hk p hn
 ·have e:i=kvs.length:=by omega
  subst e;exact .inl ⟨⟨nR0 _,q⟩,hd σ H p⟩
theorem a1C:a1r X (.type "dict") (fun xs H Q=>∃a kvs,xs=[.ref a]/\Rd H a (.dK kvs)/\∀p,H p=none->Q (.ref p) (upd H p (.dK kvs))):=by
 intro Z s σ H xs us Q I r h;obtain⟨a,kvs,rfl,e,q⟩:=h;obtain⟨u,rfl,rx⟩:=a1Z r;cases rx;exact b2t I e fun p s' hp I'=>⟨.ref p,_,I',rfl,q p hp⟩
end
theorem a1c.there {P:Program}{w:World}{H:Hp}{h:Heap}{a:Addr}{o:HO}(x:a1c P w H h a o):∃ob,h.get? a=some ob:=by
 cases o with
 |lst xs=>obtain⟨_,_,_,_,e⟩:=x;exact⟨_,e⟩
 |tup xs=>obtain⟨_,_,_,o,e,_⟩:=x;exact⟨_,e⟩
 |dK kvs=>obtain⟨_,_,_,_,o,_,_,e,_⟩:=x;exact⟨_,e⟩
 |dT kvs=>obtain⟨_,_,_,_,o,_,_,e,_⟩:=x;exact⟨_,e⟩
 |set S n=>obtain⟨o,_,_,_,e,_⟩:=x;exact⟨_,e⟩
 |ins C dx fs=>obtain⟨_,_,_,e,_⟩:=x;exact⟨_,e⟩
 |own y=>exact x
 |xd fs=>obtain⟨_,⟨_,_,_,e,_⟩,_⟩:=x;exact⟨_,e⟩
 |met f y=>exact⟨_,x⟩
 |rng lo hi=>obtain⟨_,_,_,e⟩:=x;exact⟨_,e⟩
 |frz ob u=>exact⟨_,x.1⟩
 |tbl ps=>exact⟨_,x⟩
 |ext φ=>exact x.2.1
section
variable {X:Cx}{Z:List (Addr×Obj)}{σ:St}{H:Hp}{s:Shared}{h':Heap}{a:Addr}{o:HO}
theorem Inv.none_at (I:Inv X Z σ H s)(hn:s.heap.get? a=none):H a=none:=by
 cases e:H a with
 |none=>rfl
 |some u=>
  obtain⟨ob,q⟩:=(I.hok a u e).there;rw[hn] at q;cases q
theorem Inv.laidAt {t':Nat}(I:Inv X Z σ H s)(k:∀b u,s.heap.get? b=some u->h'.get? b=some u)(hn:s.heap.get? a=none)(new:a1c X.prog X.w (upd H a o) h' a o):Inv X Z σ (upd H a o) { s with heap:=h',toks:=t' }:=by
 have hH:=I.none_at hn;have ne:∀b u,s.heap.get? b=some u->b≠a:=fun b u q z=>by subst z;rw[hn] at q;cases q
 refine I.un ⟨fun b u q _ _ _=>k b u q,fun b u q _ _ _=>⟨u.slots,k b u q⟩,fun b u q n _=>by rw[a0d (ne b u q)];exact n,fun b u q _=>⟨u,k b u q⟩,
  fun b xs q=>by rw[a0d (a0j q hH)];exact q,fun b u xs q=>by rw[a0d (a0j q hH)];exact q,fun b ps q=>⟨#[],by rw[a0d (a0j q hH),q];simp⟩⟩ fun b u q=>?_
 by_cases hb:b=a
 ·subst hb
  rw[a0c] at q;cases q;exact new
 ·rw[a0d hb] at q
  exact(I.hok b u q).stay (fun c v _ r=>k c v r) (fun c r=>by rw[a0d (a0j r hH)];exact r) fun c xs r=>by rw[a0d (a0j r hH)];exact r
end
theorem b0b:∀(us:List Value) (zs:List Str),us.length=zs.length->(∀(j:Nat) (v:Value) (z:Str),us[j]? =some v->zs[j]? =some z->∃t,v=Value.str z t)->StrsAre us zs
 |[],[],_,_=>.nil
 |[],_::_,h,_=>by simp at h
 |_::_,[],h,_=>by simp at h
 |u::us,z::zs,h,f=>by
  obtain⟨t,rfl⟩:=f 0 u z rfl rfl;exact .cons _ _ (b0b us zs (by simpa using h) fun j v y h1 h2=>f (j+1) v y (by simpa using h1) (by simpa using h2))
theorem a8P:∀{kvs:List (Key×V)} {vs:List (Key×Value)} {i:Nat} {q:Key×Value},KV kvs vs->vs[i]? =some q->(kvs.map (·.1))[i]? =some q.1
 |_,_,_,_,.nil,e=>by simp at e
 |_,_,0,_,.cons r _,e=>by
  simp at e;subst e;simp[r.1]
 |_,_,i+1,q,.cons _ t,e=>by
  have h:=a8P (i:=i) (q:=q) t (by simpa using e);simpa using h
section
variable {X:Cx}
theorem a5m (hc:X.calm=true):a1r X (.builtin "sorted") (fun xs H Q=>∃p kvs zs,xs=[.ref p]/\Rd H p (.dK kvs)/\kvs.map (·.1)=zs.map Sum.inr/\zs.length<64/\∀l ys,H l=none->ys.Perm zs->sortedS ys=true->Q (.ref l) (upd H l (.lst (ys.map V.str)))):=by
 intro Z s σ H xs us Q I r h;obtain⟨p,kvs,zs,rfl,hq,hz,h64,q⟩:=h;obtain⟨u,rfl,rx⟩:=a1Z r;cases rx;obtain⟨hlen,lo,vs,kv,dd⟩:=hq.ok I.hok;obtain⟨ep,da⟩:=dd.dictAt;have hl:=kv.len;have hl2:kvs.length=zs.length:=by simpa using congrArg List.length hz
 refine Calls.call_function_entry kind_sorted plain_sorted entry_sorted (args_sorted1 _) ?_;unfold Builtin.«sorted»;refine wB0 (m:=checkCount "sorted" 1 1 _) (wP0 ?_);refine wB0 (PySem.W.kdu_collect (PySem.W.kdl_dict (knd:=a0i X.prog X.w) (kvs:=vs) (ep:=ep) lo) (I.ok.hd hc) da (by rw[<-hl];exact hlen) fun h' tk acc hk hacc=>?_);have hS:StrsAre acc.toList zs:=by
  refine b0b _ _ (by rw[aL0,hacc.1,<-hl,hl2]) fun j v z h1 h2=>?_;obtain⟨k,x,hx,hkv⟩:=hacc.2 j v (by rw[<-Array.getElem?_toList];exact h1);have hk':=a8P kv hx;rw[hz,gM0,h2] at hk';have e:Sum.inr z=k:=by simpa using hk'
  subst e;exact b1u hkv
 have hal:acc.toList.length=zs.length:=by
  rw[aL0,hacc.1,<-hl,hl2]
 refine wB0 (wpAny_newList ?_ (by rw[hal,<-hl2];exact hlen));have hoL:(h'.push (seqObj "list" acc.toList.toArray 0)).get? h'.objs.size=some (seqObj "list" acc.toList.toArray 0):=hS0 _ rfl;refine wB0 (wpAny_holding (wpAny_call_entry slot_list_sort ⟨_,hoL,rfl⟩ entry_list_sort (list_sort_treeK (s:={ s with heap:=h'.push (seqObj "list" acc.toList.toArray 0),toks:=tk }) strKind_oneLt hoL hS.keysOf (fun v₁ v₂ rest e=>keyKind_strs (by rw[<-e];exact hS)) (by rw[hal];exact h64) fun st' hp hs=>⟨_,rfl,?_⟩) (args_list_sort _)));obtain⟨ss',h1,h2,h3⟩:=sorted_out_str hS hp hs;obtain⟨e,he⟩:=sortedHeap_at (out:=(arrOf st').map (·.2)) hoL;have hn:s.heap.get? h'.objs.size=none:=by
  cases q:s.heap.get? h'.objs.size with
  |none=>rfl
  |some ob=>exact absurd (hL0 (hk _ _ q)) (Nat.lt_irrefl _)
 refine wP0 ⟨_,rfl,.ref h'.objs.size,_,I.laidAt (t':=tk) (o:=.lst (ss'.map V.str)) (fun b ob q=>?_) hn ?_,rfl,q _ ss' (I.none_at hn) h2 h3⟩
 ·have q':=hk b ob q
  have hlt:=hL0 q';rw[sortedHeap_old (nL0 hlt) (by rw[size_push'];exact Nat.lt_succ_of_lt hlt)];exact hP0 _ q'
 ·exact⟨by rw[lM0,h2.length_eq,<-hl2];exact hlen,_,e,a5u h1,he⟩
def Ite (K:Fg0)(a:Addr):It:=
 ⟨fun i H=>∃xs x,SqL K H a xs/\xs[i]? =some x,fun i H x H'=>∃y p,(∀xs,SqL K H a xs->xs[i]? =some y)/\x=.ref p/\H p=none/\H'=upd H p (.tup [.int i,y]),fun i H=>∃xs,SqL K H a xs/\xs.length<=i⟩
theorem a9h {P:Program}{w:World}{K:Fg0}{es:List Expr}{x1:Nat}{tp:Pos}(a e it:Addr)(ne:e≠it):b1S P w K (.Tuple es x1 tp) (Ite K a) [e,it] e (fun i h=>(∃old,IsEnum h e it i old)/\h.IsListIter it a i) where
 mem:=by simp
 obj:=fun i h st b hb=>by
  obtain⟨⟨old,s1⟩,s2⟩:=st;rcases mK0.mp hb with z |z
  ·subst z
   exact⟨_,s1,fun v z=>by cases z⟩
  ·have z:=mS0.mp z
   subst z;obtain⟨o,e,c,d⟩:=s2;exact⟨o,e,fun v z=>by rw[d] at z;cases z⟩
 keep:=fun i h h' st k=>by
  obtain⟨⟨old,s1⟩,s2⟩:=st;exact⟨⟨old,k e (by simp) _ s1⟩,s2.at fun o e=>k it (by simp) o e⟩
 item:=by
  intro X hP hw hK hc i Z s σ H E I hf st hg;subst hP hw hK;obtain⟨⟨old,s1⟩,s2⟩:=st;obtain⟨xs,x,hq,hx⟩:=hg;obtain⟨its,rv,p,hz⟩:=I.list hq;obtain⟨u,hu,ru⟩:=rv.get hx;obtain⟨f0,f1,f2,f3,f4,f5⟩:=hf e (by simp);obtain⟨g0,g1,g2,g3,g4,g5⟩:=hf it (by simp);have le:e<s.heap.objs.size:=hL0 s1;have li:it<s.heap.objs.size:=by obtain⟨o,e,_⟩:=s2;exact hL0 e
  refine wpAny_pyNext_enum_item s1 s2 p.isList (x:=u) (by simpa using hu) ne fun h' st' si' ht hsz kp=>?_;refine⟨_,rfl,?_⟩;refine wpAny_letOwnedTupleGo_enum (s:={ s with heap:=h',toks:=s.toks+1 }) st' fun h'' st'' sb=>?_;have si'':h''.IsListIter it a (i+1):=si'.at fun o q=>(sb.2 it (Ne.symm ne)).trans q;obtain⟨oi,ei,ci,di⟩:=id si'';obtain⟨oi0,ei0,_⟩:=id s2;have I0:Inv X Z σ H { s with heap:=s.heap.update e fun _=>{ cls:=.type "enumerate",dict:=none,data:=.fields #[.none,.bool false,.ref it,rawInt ((i:Int)+1),.none,u],slots:=#[] } }:=
   I.turned (t':=s.toks) (fun b ob hb q=>by rw[Heap.get?_update_ne _ _ _ _ hb];exact q) f0 f1 f3 f4 f5
  have I1:Inv X Z σ H { s with heap:=(s.heap.update e fun _=>{ cls:=.type "enumerate",dict:=none,data:=.fields #[.none,.bool false,.ref it,rawInt ((i:Int)+1),.none,u],slots:=#[] }).update it fun _=>oi }:=
   I0.turned (t':=s.toks) (fun b ob hb q=>by rw[Heap.get?_update_ne _ _ _ _ hb];exact q) g0 g1 g3 g4 g5
  have hp:H s.heap.objs.size=none:=I.hok.fresh (nR0 _);have foi:oi.isFreed=false:=(Heap.get?_some_iff.mp ei).2;refine⟨.ref s.heap.objs.size,upd H s.heap.objs.size (.tup [.int i,x]),I1.laid (t':=s.toks+1) (h':=h'') (fun b ob q=>?_) (by rw[Heap.size_update,Heap.size_update];exact nR0 _) ?_,rfl,⟨x,_,fun ys hy=>by rw[I.list_inj hy hq];exact hx,rfl,hp,rfl⟩,⟨⟨u,?_⟩,si''⟩,fun b hb=>?_⟩
  ·by_cases hb:b=it
   ·subst hb
    rw[Heap.get?_update_self _ (show(s.heap.update e _).get? b=some oi0 by rw[Heap.get?_update_ne _ _ _ _ (Ne.symm ne)];exact ei0) foi] at q;rw[<-q];exact ei
   ·rw[Heap.get?_update_ne _ _ _ _ hb] at q
    by_cases hb2:b=e
    ·subst hb2
     rw[Heap.get?_update_self _ s1 rfl] at q;rw[<-q];exact st''
    ·rw[Heap.get?_update_ne _ _ _ _ hb2] at q
     exact(sb.2 b hb2).trans (kp b ob hb2 hb q)
  ·exact⟨(show 2<=sizeLine by decide),[.int i s.toks,u],.cons ⟨_,rfl⟩ (.cons ru .nil),⟨_,(sb.2 _ (Nat.ne_of_gt le)).trans ht,rfl,_,rfl⟩⟩
  ·exact st''
  ·rcases mK0.mp hb with z |z
   ·subst z
    rw[a0d (nL0 le)];exact f0
   ·have z:=mS0.mp z
    subst z;rw[a0d (nL0 li)];exact g0
 done:=by
  intro X hP hw hK hc i Z s σ H E I hf st hg;subst hP hw hK;obtain⟨⟨old,s1⟩,s2⟩:=st;obtain⟨xs,hq,hx⟩:=hg;obtain⟨its,rv,p,hz⟩:=I.list hq;obtain⟨g0,g1,g2,g3,g4,g5⟩:=hf it (by simp);have hl:=rv.length;exact wpAny_pyNext_enum_end (I.ok.hd hc) s1 s2 p.isList (by simp;omega) fun h' eb=>⟨rfl,I.turned (t':=s.toks) (fun b o hb e=>eb b o hb e) g0 g1 g3 g4 g5⟩
 self:=fun A i s Q E st h=>by
  obtain⟨⟨old,s1⟩,_⟩:=st;exact wpAny_pyIter_enum s1 h
theorem boot_enum:bootBuiltins "enumerate"=some (.type "enumerate"):=by decide +kernel
def b7K (K:Fg0)(ta:TA):TI:=fun σ H R=>ta σ H fun vs H1=>∃a,vs=[.ref a]/\(∃xs,SqL K H1 a xs)/\R (Ite K a) H1
theorem a6V {es:List Expr}{x1:Nat}{tp:Pos}{l:Expr}{ta:TA}{p pos:Pos}(hg:Gl X "enumerate")(hm:X.mg "enumerate"=none)(ha:PA X [l] ta)(hs:starEach [l] X.env=[(false,eval l X.env)]:=by rfl) :
  PI X (.Tuple es x1 tp) (.Call (.Name "enumerate" p) [l] [] pos) (b7K X.K ta):=by
 intro Z s σ H R I h;refine Call_ (a3P I hg hm boot_enum (PyProof.Rows.callWith_type1 (thn (ha pos Z s σ H _ I h) fun us s1 ⟨vs,H1,I1,r1,q1⟩=>?_) hs rfl));obtain⟨a,e,⟨xs,hq⟩,q⟩:=q1;subst e;obtain⟨u,rfl,rx⟩:=a1Z r1;cases rx;obtain⟨its,rv,pl,hz⟩:=I1.list hq;refine call_enumerate_list pl.isList fun h' he hi hsz hk=>?_;have I2:Inv X Z σ H1 { s1 with heap:=h' }:=I1.kept (t':=s1.toks) hk;refine wpAny_pyIter_enum (s:={ s1 with heap:=h' }) he ?_;refine⟨s1.heap.objs.size+1,[s1.heap.objs.size+1,s1.heap.objs.size],_,_,H1,rfl,I2,a9h a _ _ (Nat.succ_ne_self _),⟨⟨_,he⟩,hi⟩,fun b hb=>?_,q⟩;have nb:s1.heap.objs.size<=b:=by
  rcases mK0.mp hb with z |z
  ·rw[z];exact Nat.le_succ _
  ·rw[mS0.mp z];exact nR0 _
 exact I1.fpOk nb (I1.hok.fresh nb)
theorem a4U {K:Fg0}{a:Addr}{xs:List V}{g:TG}{tb:TS}{D:a3y}{σ:St}{H:Hp}(Pv:Nat->St->Hp->Prop)(h0:Pv 0 σ H)(hl:∀i σ H,i<=xs.length->Pv i σ H->SqL K H a xs)
  (hs:∀i x p σ H,xs[i]? =some x->Pv i σ H->H p=none->g (.ref p) σ (upd H p (.tup [.int i,x])) fun σ2 H2=>tb { D with nx:=Pv (i+1),ct:=Pv (i+1),bk:=D.nx } σ2 H2) (hd:∀σ H,Pv xs.length σ H->D.nx σ H) :
  ∃W:Nat->Nat->St->Hp->Prop,(∃m,W 0 m σ H)/\∀i m σ H,W i m σ H →
   ((Ite K a).stop i H/\D.nx σ H)\/((Ite K a).go i H/\∃N:St->Hp->Prop,(∀σ' H',N σ' H'->∃m',m'<m/\W (i+1) m' σ' H')/\∀x H',(Ite K a).yld i H x H'->g x σ H' fun σ2 H2=>tb { D with nx:=N,ct:=N,bk:=D.nx } σ2 H2):=by
 refine⟨fun i m σ H=>m=xs.length-i/\i<=xs.length/\Pv i σ H,⟨xs.length,by simp,zL0 _,h0⟩,?_⟩;rintro i m σ H ⟨rfl,hi,p⟩;have q:=hl i σ H hi p
 by_cases hlt:i<xs.length
 ·refine .inr ⟨⟨xs,xs[i],q,by simp[hlt]⟩,Pv (i+1),fun σ' H' p'=>⟨xs.length-(i+1),by omega,rfl,hlt,p'⟩,fun x H' y=>?_⟩
  obtain⟨z,pa,hk,ex,hn,e⟩:=y;subst e ex;exact hs i z pa σ H (hk xs q) p hn
 ·have e:i=xs.length:=by omega
  subst e;exact .inl ⟨⟨xs,q,nR0 _⟩,hd σ H p⟩
end
end L2
namespace Srt
open PySem PySem.W PyProof.Rows
end Srt
namespace L2
open PySem PySem.Spec PyProof.Rows
def b6i (zs:List Str):Prop:=zs.Pairwise fun a b=>¬b.cps.toList<a.cps.toList
end L2
namespace L2
open PySem PySem.Spec PyProof.Rows PySem.Builtin PySem.Builtin.Dict
theorem a5n (a b:Value):Builtin.«dict.__eq__» ⟨[a,b],[]⟩=(do
  let (self,other) <-dictSlotArgs "__eq__" ⟨[a,b],[]⟩
  if !(<-isInstance other (.type "dict")) then rule s!"dict.{("__eq__" : String)}.not-a-dict";return <-ret .notImplemented
  ret (.bool ((<-Dict.samePairs s!"dict.{("__eq__" : String)}" (<-addrOf self) (<-addrOf other))==true))):=rfl
theorem a4G:isSubtype (.type "dict") (.type "dict")=pure true:=by rw[isSubtype_type];kernel_rfl
section
variable {prog:Program}{w:World}{A:Around}{E:Vs0}{s:Shared}{a b:Addr}{oa ob:Obj}{es fs:Array DictEntry}{ep fp:Nat}
theorem a8a {id:String}{Q:Bool->Shared->Prop}(ha:s.heap.get? a=some oa)(da:oa.data=.dict es ep)(hb:s.heap.get? b=some ob)(db:ob.data=.dict fs fp)(na:(a==sysModules)=false)(nb:(b==sysModules)=false)(hsz:es.size=fs.size)
  (hf:∀(i:Nat) (e:DictEntry),es[i]? =some e->∃(j:Nat) (f:DictEntry),fs[j]? =some f/\(∀(R:Option Nat->Shared->Prop),R (some j) s->wpAny (model prog w) A (dictFind b e.key e.hash) R E s)/\∀(R:Bool->Shared->Prop),R true s->wpAny (model prog w) A (eqBool e.val f.val) R E s)
  (hq:Q true s):wpAny (model prog w) A (Dict.samePairs id a b) Q E s:=by
 unfold Dict.samePairs Dict.showsAll;simp only[na,nb,Bool.false_eq_true,if_false];refine wB0 (wP0 (wB0 (wP0 ?_)));refine wB0 (wpAny_dictEntries ha da ?_);refine wB0 (wpAny_dictEntries hb db ?_);rw[if_neg (by rw[hsz];simp)];refine wB0 (wpAny_dictEpoch ha da ?_);rw[Std.Legacy.Range.forIn_eq_forIn_range'];refine wB0 (wpAny_forIn_list _ (fun rest b s'=>b=(none,())/\s'=s/\∀x∈rest,x<es.size) _ (fun i rest b s' hI=>?_) (fun b s' hI=>?_) _ _ ⟨rfl,rfl,fun x hx=>?_⟩)
 ·obtain⟨rfl,rfl,hl⟩:=hI
  have hi:=hl i List.mem_cons_self;obtain⟨j,f,hj,h1,h2⟩:=hf i es[i] (by simp[hi]);refine wB0 (wpAny_dictEntries ha da ?_);have ei:es[i]? =some es[i]:=by simp[hi]
  rw[ei]
  dsimp only
  refine wB0 (wpAny_holding (wB0 (h1 _ ?_)))
  dsimp only
  refine wB0 (wpAny_dictEntries hb db ?_);rw[hj]
  dsimp only
  refine wpAny_holding (h2 _ ?_);rw[if_neg (by decide)];refine wB0 (wpAny_dictEpoch ha da ?_);rw[if_neg (by simp)];exact wP0 ⟨rfl,rfl,fun x hx=>hl x (mL0 _ hx)⟩
 ·obtain⟨rfl,rfl,_⟩:=hI
  exact wP0 hq
 ·have:=List.mem_range'.mp hx
  obtain⟨k,hk,rfl⟩:=this;simp[Std.Legacy.Range.size] at hk ⊢
  omega
end
theorem a3Q {P:Program}{w:World}:∀{es:List DictEntry} {kvs:List (Key×Value)},Pairs (a0i P w) es kvs->es.length=kvs.length
 |_,_,.nil=>rfl
 |_,_,.cons _ _ r=>by simp[a3Q r]
theorem b0Z {prog:Program}{w:World}{A:Around}{E:Vs0}{s:Shared}{d:Addr}{o:Obj}{es:Array DictEntry}{ep j:Nat}{x:Str}{t:Tok}{hs:Int}{Q:Option Nat->Shared->Prop}(ho:s.heap.get? d=some o)(hd:o.data=.dict es ep)
  (hall:∀e∈es,∃z t,e.key=Value.str z t) (hj:es.findIdx? (fun e=>e.key.isStr x)=some j) (h:Q (some j) s):wpAny (model prog w) A (dictFind d (.str x t) hs) Q E s:=by
 obtain⟨hjs,hjt,_⟩:=Array.findIdx?_eq_some_iff_getElem.mp hj;have ha:(es.all fun e=>isExactStrKey e.key)=true:=by
  rw[Array.all_eq_true'];intro e he;obtain⟨z,t,q⟩:=hall e he;rw[q]
  rfl
 obtain⟨z,tz,ez⟩:=hall es[j] (Array.getElem_mem hjs);have zx:z=x:=by
  rw[ez] at hjt;exact eq_of_beq hjt
 subst zx;unfold dictFind;refine wpAny_holding ?_;refine wB0 (wpAny_dictEntries ho hd ?_)
 dsimp only
 rw[if_pos ha];unfold foundByValue;rw[hj]
 dsimp only
 rw[Array.getElem?_eq_getElem hjs]
 dsimp only
 rw[ez];refine wB0 (wpAny_dictEpoch ho hd (wB0 (wpAny_eqBool_str (wB0 (wpAny_dictEpoch ho hd ?_)))));rw[if_neg (by simp),if_pos (by simp)];exact wB0 (wpAny_rule (wP0 h))
section
variable {A:Around}{s:Shared}{P:Program}{w:World}
theorem a7Q {a b:Addr}{kvs kws:List (Key×Value)}(da:s.heap.DictOf (a0i P w) a kvs)(db:s.heap.DictOf (a0i P w) b kws)(na:(a==sysModules)=false)(nb:(b==sysModules)=false)(hl:kvs.length=kws.length)(tx:∀(k:Key) (v:Value),(k,v)∈kws->∃x,k=.inr x)
  (he:∀(k:Key) (v:Value),(k,v)∈kvs->∃v',(k,v')∈kws/\SeqAt.EqAt A.in1 s v v' true) (hu:A.units<cLine):SeqAt.EqAt A s (.ref a) (.ref b) true:=by
 by_cases hab:a=b
 ·rw[hab]
  exact SeqAt.EqAt.same _
 refine SeqAt.EqAt.of_refs hab fun prog w' E Q hq=>?_;obtain⟨oa,es,ep,ha,xa,dda,ka,pa,nda⟩:=da;obtain⟨ob,fs,fp,hb,xb,ddb,kb,pb,ndb⟩:=db;have Ta:s.TypeIs (.ref a) "dict":=⟨oa,ha,xa.1⟩;have Tb:s.TypeIs (.ref b) "dict":=⟨ob,hb,xb.1⟩;have la:es.size=kvs.length:=by have:=a3Q pa;simpa using this
 have lb:fs.size=kws.length:=by have:=a3Q pb;simpa using this
 have kb':∀e∈fs,∃z t,e.key=Value.str z t:=fun e he'=>by
  obtain⟨m,hm,rfl⟩:=Array.mem_iff_getElem.mp he';obtain⟨⟨k,v⟩,hk⟩:∃kv,kws[m]? =some kv:=⟨_,gE0 (by omega)⟩;obtain⟨g1,_⟩:=pb.get? (i:=m) (e:=fs[m]) (by simp[hm]) hk;obtain⟨x,rfl⟩:=tx k v (gI0 hk);rcases a0w (k:=.inr x) (v:=fs[m].key) g1 with ⟨i,t,q,_⟩ |⟨z,t,q,q2⟩
  ·cases q
  ·exact⟨z,t,q2⟩
 refine wpAny_richCompare_same_room Ta Tb F.slot_dict_eq (wpAny_call_entry F.slot_dict_eq Ta F.entry_dict_eq ?_ (F.args_dict_eq_2 _ _)) hu;rw[a5n];refine wB0 ?_;show wpAny _ _ (pure (Value.ref a,Value.ref b)) _ _ _;refine wP0 ?_
 dsimp only
 refine wB0 (wpAny_isInstance (T:="dict") (b:=true) Tb a4G ?_);simp only[Bool.not_true,Bool.false_eq_true,if_false];refine wB0 (wP0 (wB0 (wP0 (wB0 (a8a ha dda hb ddb na nb (by omega) (fun i e ei=>?_) ?_)))))
 ·have hi:i<es.size:=(Array.getElem?_eq_some_iff.mp ei).1
  obtain⟨⟨k,v⟩,hk⟩:∃kv,kvs[i]? =some kv:=⟨_,gE0 (by omega)⟩;obtain⟨g1,g2⟩:=pa.get? (i:=i) (e:=e) (by simpa using ei) hk;obtain⟨k2,g3,g4⟩:=ka e (Array.mem_of_getElem? ei);have ek:k2=k:=(a0i P w).inj _ _ _ g3 g1;subst ek;obtain⟨v',hv',eq⟩:=he k2 v (gI0 hk);obtain⟨x,rfl⟩:=tx k2 v' hv';obtain⟨t0,ek0⟩:∃t,e.key=Value.str x t:=by
   rcases a0w (k:=.inr x) (v:=e.key) g1 with ⟨i,t,q,_⟩ |⟨z,t,q,q2⟩
   ·cases q
   ·cases q
    exact⟨t,q2⟩
  obtain⟨m,hm⟩:=List.getElem?_of_mem hv';have hm':m<fs.size:=by have:=(gS0.mp hm).1;omega
  have em:fs.toList[m]? =some fs[m]:=by simp[hm']
  obtain⟨q1,q2⟩:=pb.get? em hm;obtain⟨j,hj⟩:∃j,fs.findIdx? (fun e=>e.key.isStr x)=some j:=by
   cases z:fs.findIdx? (fun e=>e.key.isStr x) with
   |some j=>exact⟨j,rfl⟩
   |none=>
    have:=Array.findIdx?_eq_none_iff.mp z fs[m] (Array.getElem_mem hm')
    have q1':fs[m].key.isStr x=true:=by
     rcases a0w (k:=.inr x) (v:=fs[m].key) q1 with ⟨i,t,q,_⟩ |⟨z,t,q,q2⟩
     ·cases q
     ·cases q
      rw[q2];exact beq_self_eq_true x
    rw[q1'] at this;cases this
  obtain⟨hjs,hjt,_⟩:=Array.findIdx?_eq_some_iff_getElem.mp hj;obtain⟨⟨k3,v3⟩,hk3⟩:∃kv,kws[j]? =some kv:=⟨_,gE0 (by omega)⟩;obtain⟨r1,r2⟩:=pb.get? (i:=j) (e:=fs[j]) (by simp[hjs]) hk3;have hjk:(a0i P w).is (.inr x) fs[j].key=true:=by
   obtain⟨z,t,q⟩:=kb' fs[j] (Array.getElem_mem hjs);rw[q] at hjt ⊢;have zx:z=x:=eq_of_beq hjt;rw[zx];rw[(a0i P w).strs (.inr x) x t0 _ (by rw[<-ek0];exact g1)];exact beq_self_eq_true x
  have e3:k3=.inr x:=(a0i P w).inj _ _ _ r1 hjk;subst e3;have jm:j=m:=by
   have hj1:(kws.map (·.1))[j]? =some (Sum.inr x):=by rw[gM0,hk3];rfl
   have hm1:(kws.map (·.1))[m]? =some (Sum.inr x):=by rw[gM0,hm];rfl
   obtain⟨x1,y1⟩:=gS0.mp hj1;obtain⟨x2,y2⟩:=gS0.mp hm1;rcases Nat.lt_trichotomy j m with z |z |z
   ·exact absurd (y1.trans y2.symm) (List.pairwise_iff_getElem.mp ndb j m x1 x2 z)
   ·exact z
   ·exact absurd (y2.trans y1.symm) (List.pairwise_iff_getElem.mp ndb m j x2 x1 z)
  subst jm;rw[hm] at hk3;cases hk3;refine⟨j,fs[j],by simp[hjs],fun R hR=>?_,fun R hR=>?_⟩
  ·rw[ek0]
   exact b0Z hb ddb kb' hj hR
  ·rw[g2,r2]
   exact eq prog w' E R hR
 ·exact wP0 ⟨_,rfl,(fun z=>nomatch z),hq⟩
end
end L2
namespace L2
open PySem PySem.Spec PyProof.Rows
inductive Dq (H:Hp):Nat->V->V->Prop
 |non {n:Nat}:Dq H n .non .non
 |bl {n:Nat} {b:Bool}:Dq H n (.bl b) (.bl b)
 |int {n:Nat} {i:Int}:Dq H n (.int i) (.int i)
 |str {n:Nat} {z:Str}:Dq H n (.str z) (.str z)
 |ref {n:Nat} {a:Addr}:Dq H n (.ref a) (.ref a)
 |tup {n:Nat} {a b:Addr} {xs ys:List V} (ha:H a=some (.tup xs)) (hb:H b=some (.tup ys)) (hl:xs.length=ys.length) (h:∀(i:Nat) (x y:V),xs[i]? =some x->ys[i]? =some y->Dq H n x y):Dq H (n+1) (.ref a) (.ref b)
 |lst {n:Nat} {a b:Addr} {xs ys:List V} (ha:H a=some (.lst xs)) (hb:H b=some (.lst ys)) (hl:xs.length=ys.length) (h:∀(i:Nat) (x y:V),xs[i]? =some x->ys[i]? =some y->Dq H n x y):Dq H (n+1) (.ref a) (.ref b)
 |dct {n:Nat} {a b:Addr} {kvs kws:List (Key×V)} (f:Key->V) (ha:Rd H a (.dK kvs)) (hb:Rd H b (.dK kws)) (hl:kvs.length=kws.length) (tx:∀(k:Key) (v:V),(k,v)∈kws->∃x,k=.inr x)
   (hf:∀(k:Key) (v:V),(k,v)∈kvs->(k,f k)∈kws) (h:∀(k:Key) (v:V),(k,v)∈kvs->Dq H n v (f k)):Dq H (n+1) (.ref a) (.ref b)
theorem a6H:∀{kvs:List (Key×V)} {vs:List (Key×Value)} {k:Key} {u:Value} {i:Nat},KV kvs vs->vs[i]? =some (k,u)->∃v,kvs[i]? =some (k,v)/\a0Y v u
 |_,_,_,_,_,.nil,e=>by simp at e
 |_,_,k,u,0,.cons (a:=p) r _,e=>by
  simp at e;subst e;obtain⟨p1,p2⟩:=p;obtain⟨r1,r2⟩:=r;simp only at r1;subst r1;exact⟨p2,rfl,r2⟩
 |_,_,k,u,i+1,.cons _ t,e=>by
  obtain⟨v,h1,h2⟩:=a6H (i:=i) t (by simpa using e);exact⟨v,by simpa using h1,h2⟩
section
variable {X:Cx}{Z:List (Addr×Obj)}{σ:St}{H:Hp}{s:Shared}
theorem a8A (I:Inv X Z σ H s){n:Nat}{x y:V}(d:Dq H n x y):∀{u u':Value} {A:Around},a0Y x u->a0Y y u'->A.units+n<cLine->SeqAt.EqAt A s u u' true:=by
 induction d with
 |non=>intro u u' A r r' _;cases r;cases r';exact SeqAt.EqAt.same _
 |bl=>intro u u' A r r' _;cases r;cases r';exact SeqAt.EqAt.same _
 |@int n i=>
  intro u u' A r r' _;obtain⟨t,rfl⟩:=r;obtain⟨t',rfl⟩:=r';have h:=SeqAt.EqAt.int_int (A:=A) (s:=s) i t i t'
  rwa [beq_self_eq_true] at h
 |@str n z=>
  intro u u' A r r' _;obtain⟨t,rfl⟩:=r;obtain⟨t',rfl⟩:=r';have h:=SeqAt.EqAt.str_str (A:=A) (s:=s) z t z t'
  rwa [beq_self_eq_true] at h
 |ref=>intro u u' A r r' _;cases r;cases r';exact SeqAt.EqAt.same _
 |@tup n a b xs ys ha hb hl h ih=>
  intro u u' A r r' hu;cases r;cases r'
  by_cases hab:a=b
  ·rw[hab];exact SeqAt.EqAt.same _
  obtain⟨its,r1,pl,_⟩:=I.tuple (SqT.of (K:=X.K) ha);obtain⟨jts,r2,ql,_⟩:=I.tuple (SqT.of (K:=X.K) hb);have l1:=r1.length;have l2:=r2.length;have h0:=SeqAt.RcAt.tuples (A:=A) (e:=fun _=>true) pl ql (by omega) (fun j g1 g2=>?_)
  ·have e:((List.range (min its.toArray.size jts.toArray.size)).all (fun _=>true)&&its.toArray.size==jts.toArray.size)=true:=by
    simp
    omega
   rw[e] at h0;exact SeqAt.EqAt.of_refs hab h0
  ·have g1':j<its.length:=by simpa using g1
   have g2':j<jts.length:=by simpa using g2
   obtain⟨u1,e1,k1⟩:=r1.get (i:=j) (x:=xs[j]'(by omega)) (by simp);obtain⟨u2,e2,k2⟩:=r2.get (i:=j) (x:=ys[j]'(by omega)) (by simp);have w1:its.toArray[j]=u1:=by have:=(gS0.mp e1).2;simpa using this
   have w2:jts.toArray[j]=u2:=by have:=(gS0.mp e2).2;simpa using this
   rw[w1,w2];exact ih j _ _ (by simp) (by simp) k1 k2 (by show A.units+1+n<cLine;omega)
 |@lst n a b xs ys ha hb hl h ih=>
  intro u u' A r r' hu;cases r;cases r'
  by_cases hab:a=b
  ·rw[hab];exact SeqAt.EqAt.same _
  obtain⟨its,r1,pl,_⟩:=I.list (xs:=xs) (.inl (.inl ha));obtain⟨jts,r2,ql,_⟩:=I.list (xs:=ys) (.inl (.inl hb));have l1:=r1.length;have l2:=r2.length;have h0:=SeqAt.RcAt.lists (A:=A) (e:=fun _=>true) pl.isList ql.isList (by simp;omega) (by omega) (fun j g1 g2=>?_)
  ·have e:((List.range its.toArray.size).all (fun _=>true))=true:=by simp
   rw[e] at h0;exact SeqAt.EqAt.of_refs hab h0
  ·have g1':j<its.length:=by simpa using g1
   have g2':j<jts.length:=by simpa using g2
   obtain⟨u1,e1,k1⟩:=r1.get (i:=j) (x:=xs[j]'(by omega)) (by simp);obtain⟨u2,e2,k2⟩:=r2.get (i:=j) (x:=ys[j]'(by omega)) (by simp);have w1:its.toArray[j]=u1:=by have:=(gS0.mp e1).2;simpa using this
   have w2:jts.toArray[j]=u2:=by have:=(gS0.mp e2).2;simpa using this
   rw[w1,w2];exact ih j _ _ (by simp) (by simp) k1 k2 (by show A.units+1+n<cLine;omega)
 |@dct n a b kvs kws f ha hb hl tx hf h ih=>
  intro u u' A r r' hu;cases r;cases r';obtain⟨_,na,vs,kv,da⟩:=a2R I.hok ha;obtain⟨_,nb,ws,kw,db⟩:=a2R I.hok hb;have l1:=kv.length;have l2:=kw.length;refine a7Q da db na nb (by omega) (fun k v hk=>?_) (fun k v hk=>?_) (by omega)
  ·obtain⟨i,hi⟩:=List.getElem?_of_mem hk
   obtain⟨v0,e0,_⟩:=a6H kw hi;exact tx k v0 (gI0 e0)
  ·obtain⟨i,hi⟩:=List.getElem?_of_mem hk
   obtain⟨v0,e0,rv⟩:=a6H kv hi;have m0:=gI0 e0;obtain⟨m,hm⟩:=List.getElem?_of_mem (hf k v0 m0);obtain⟨u',e1,rv'⟩:=a6f kw hm;exact⟨u',gI0 e1,ih k v0 m0 rv rv' (by show A.units+1+n<cLine;omega)⟩
theorem b1K {A:Around}(I:Inv X Z σ H s){n:Nat}{a b:Addr}{xs ys:List V}(ha:SqL X.K H a xs)(hb:SqL X.K H b ys)(hl:xs.length=ys.length)(h:∀(i:Nat) (x y:V),xs[i]? =some x->ys[i]? =some y->Dq H n x y)(hu:A.units+n+1<cLine) :
  SeqAt.RcAt A s (.ref a) (.ref b) true/\SeqAt.RcNeAt A s (.ref a) (.ref b) false:=by
 obtain⟨its,r1,pl,_⟩:=I.list ha;obtain⟨jts,r2,ql,_⟩:=I.list hb;have l1:=r1.length;have l2:=r2.length;have el:∀j (g1:j<its.toArray.size) (g2:j<jts.toArray.size),SeqAt.EqAt A.in1 s its.toArray[j] jts.toArray[j] true:=fun j g1 g2=>by
  have g1':j<its.length:=by simpa using g1
  have g2':j<jts.length:=by simpa using g2
  obtain⟨u1,e1,k1⟩:=r1.get (i:=j) (x:=xs[j]'(by omega)) (by simp);obtain⟨u2,e2,k2⟩:=r2.get (i:=j) (x:=ys[j]'(by omega)) (by simp);have w1:its.toArray[j]=u1:=by have:=(gS0.mp e1).2;simpa using this
  have w2:jts.toArray[j]=u2:=by have:=(gS0.mp e2).2;simpa using this
  rw[w1,w2];exact a8A I (h j _ _ (by simp) (by simp)) k1 k2 (by show A.units+1+n<cLine;omega)
 have e:((List.range its.toArray.size).all (fun _=>true))=true:=by simp
 have h1:=SeqAt.RcAt.lists (A:=A) (e:=fun _=>true) pl.isList ql.isList (by simp;omega) (by omega) el;have h2:=SeqAt.RcNeAt.lists (A:=A) (e:=fun _=>true) pl.isList ql.isList (by simp;omega) (by omega) el;rw[e] at h1 h2;exact⟨h1,h2⟩
theorem a7h:OpR X (compareOp .NotEq) (fun x y H Q=>∃(n:Nat) (a b:Addr) (xs ys:List V),x=.ref a/\y=.ref b/\SqL X.K H a xs/\SqL X.K H b ys/\xs.length=ys.length/\(∀(i:Nat) (x y:V),xs[i]? =some x->ys[i]? =some y->Dq H n x y)/\X.A.units+n+1<cLine/\Q (.bl false) H):=by
 intro Z s σ H x y v u Q I rx ry h;obtain⟨n,a,b,xs,ys,rfl,rfl,ha,hb,hl,hd,hu,q⟩:=h;cases rx;cases ry;exact(b1K I ha hb hl hd hu).2 X.prog X.w X.xe _ ⟨.bl false,H,I,rfl,q⟩
end
end L2
namespace L2
open PySem PySem.Spec PyProof.Rows PySem.Builtin PySem.Builtin.Dict
theorem a6Q:typeLookup (.type "tuple") "keys"=pure none:=am_miss_of_fast (by decide +kernel)
theorem a8K {prog:Program}{w:World}{A:Around}{E:Vs0}{s:Shared}{a:Addr}{o:Obj}{xs:Array Value}{k:Nat}{Q:Option Value->Shared->Prop}
  (hx:s.heap.get? a=some o) (hc:o.cls=.type "tuple") (hdat:o.data=.seq xs k) (hd:o.dict=none) (hA:A.handled=none)
  (h:∀h' tk,(∀b ob,s.heap.get? b=some ob->h'.get? b=some ob)->Q none { s with heap:=h',toks:=tk }):wpAny (model prog w) A (getAttr? (.ref a) "keys") Q E s:=by
 obtain⟨c,dct,dat,sl⟩:=o;simp only at hc hdat hd;subst hc hdat hd;obtain⟨hp,g,d,tk,os⟩:=s;have hT:∀tk',(⟨hp,g,d,tk',os⟩:Shared).TypeIs (.ref a) "tuple":=fun _=>⟨_,hx,rfl⟩;have f1:=sub_AttributeError;have f3:=F.slot_tuple_getattribute.lookup;have f4:=F.slot_tuple_getattribute.bind (.ref a);have f5:=am_tuple_getattr_none;unfold getAttr? getAttrBy? getAttrBy
 repeat (any_goals (first |assumption |exact hT _ | ((with_reducible show wpAny _ _ (call (Value.builtin "tuple.__getattribute__") _ _) _ _ _);refine call_meets F.slot_tuple_getattribute (hT _) am_entry_tuple_getattribute (F.args_tuple_getattribute_2 _ _) (meets_getattribute_miss_tuple a xs k sl "keys" _ a6Q (by decide +kernel) (by size_fits)) ⟨hx,hA,fun h' tk' e hx'=>?_⟩) |wp_step))
 obtain⟨t',u',he⟩:=hx'.there;show wpAny _ _ (getattributeRaised _ _ _ _ _ _ _) _ _ _;unfold getattributeRaised
 repeat (any_goals (first |assumption |wp_step))
 exact h _ _ hx'.keeps
theorem a1z:entryFor table "dict.update.loop"=some Builtin.«dict.update.loop»:=entryFor_of_tree (by kernel_rfl)
section
variable {prog:Program}{w:World}{A:Around}{R:Result->Shared->Prop}
theorem a7r {h0:Heap}{d it t:Addr}{items:Array Value}{ps:List (Key×Value)}(hh:A.handled=none)(ht:h0.IsTuple t items)(tne:t≠it/\t≠d)(idne:it≠d)(hl:ps.length=items.size)(hz:items.size<=1000)
  (hp:∀(j:Nat) (k:Key) (v:Value),ps[j]? =some (k,v)->∃a o key n,items[j]? =some (.ref a)/\h0.get? a=some o/\o.cls=.type "tuple"/\o.data=.seq #[key,v] n/\(a0i prog w).is k key=true/\a≠it/\a≠d)
  (nd:(ps.map (·.1)).Nodup):∀(m i:Nat) (tk:Tok) (s:Shared),i+m=items.size->s.heap.IsTupleIter it t i->s.heap.DictOf (a0i prog w) d (ps.take i)->(∀b o,b≠it->b≠d->h0.get? b=some o->s.heap.get? b=some o) →
  (∀(h':Heap) (k:Nat),h'.DictOf (a0i prog w) d ps->(∀b o,b≠it->b≠d->h0.get? b=some o->h'.get? b=some o)->R (.ok (.ret .none)) { s with heap:=h',toks:=k }) →
  codeAny (model prog w) A (.builtin "dict.update.loop" ⟨[.ref d,.ref it,.int i tk,.none],[]⟩) R s
 |0,i,tk,s,hi,hit,hd,kp,hq=>by
  refine codeAny_builtin a1z ?_;unfold Builtin.«dict.update.loop»
  dsimp only
  obtain⟨o,ho,hc,n,hdt⟩:=id ht;refine wB0 (wpAny_pyNext_tuple_end (items:=items) hh hit ⟨o,kp t o tne.1 tne.2 ho,hc,n,hdt⟩ (by rw[Array.getElem?_eq_none (by omega)]) fun h' ex=>?_)
  dsimp only
  refine wB0 (wP0 (wP0 ?_));have e:ps.take i=ps:=List.take_of_length_le (by omega);rw[e] at hd;exact hq h' s.toks (hd.extBut ex idne.symm) fun b o hb1 hb2 q=>ex b o hb1 (kp b o hb1 hb2 q)
 |m+1,i,tk,s,hi,hit,hd,kp,hq=>by
  refine codeAny_builtin a1z ?_;unfold Builtin.«dict.update.loop»
  dsimp only
  obtain⟨o,ho,hc,n,hdt⟩:=id ht;obtain⟨⟨k,v⟩,hk⟩:∃kv,ps[i]? =some kv:=⟨_,gE0 (by omega)⟩;obtain⟨a,oa,key,na,e1,e2,e3,e4,e5,e6,e7⟩:=hp i k v hk;refine wB0 (wpAny_pyNext_tuple_item (items:=items) hit ⟨o,kp t o tne.1 tne.2 ho,hc,n,hdt⟩ e1 fun h1 it1 sb=>?_)
  dsimp only
  have ha1:h1.get? a=some oa:=(sb.2 a e6).trans (kp a oa e6 e7 e2);have hd1:h1.DictOf (a0i prog w) d (ps.take i):=by
   obtain⟨od,es,ep,g,r⟩:=hd;exact⟨od,es,ep,(sb.2 d idne.symm).trans g,r⟩
  refine wB0 (wpAny_holding (wB0 (wpAny_tryCatch ?_)));unfold Dict.pairItems;refine wB0 (wpAny_typeOf (T:="tuple") ⟨oa,ha1,e3⟩ ?_);rw[if_pos (by decide)];refine wB0 (wpAny_seqItems ha1 e4 (wP0 ?_));show wpAny _ _ (holding [key,v] (dictSet d key v)) _ _ _;refine wpAny_holding (wpAny_dictSet_pairs (knd:=a0i prog w) (k:=k) e5 hd1 (fun h2 hd2 sb2=>?_) (by rw[lT0,sizeLine_eq];omega));refine wP0 ⟨Code.quiet_builtin _ (by decide +kernel),?_⟩;have es:stored (ps.take i) k v=ps.take (i+1):=by
   have no:((ps.take i).any fun kv=>decide (kv.1=k))=false:=by
    rw[List.any_eq_false];intro kv hkv;rw[decide_eq_true_iff];intro ek;obtain⟨j,hj,ej⟩:=List.mem_take_iff_getElem.mp hkv;have hj2:j<ps.length:=by omega
    have hij:j<i:=by omega
    have hi2:i<ps.length:=by omega
    have ei:ps[i]=(k,v):=(gS0.mp hk).2;refine List.pairwise_iff_getElem.mp nd j i (by simpa using hj2) (by simpa using hi2) hij ?_;rw[List.getElem_map,List.getElem_map,ej,ei,ek]
   unfold stored;rw[if_neg (by rw[no];decide),List.take_add_one,hk]
   rfl
  rw[es] at hd2;exact a7r hh ht tne idne hl hz hp nd m (i+1) _ _ (by omega) (by
   obtain⟨oi,g1,g2⟩:=it1;exact⟨oi,(sb2.2 it idne).trans g1,g2⟩) hd2 (fun b o hb1 hb2 q=>(sb2.2 b hb2).trans ((sb.2 b hb1).trans (kp b o hb1 hb2 q))) fun h' k' x y=>hq h' k' x y
end
theorem b4j {α β:Type}:∀(l:List α) (P:Nat->α->β->Prop),(∀(j:Nat) (x:α),l[j]? =some x->∃u,P j x u)->∃us:List β,us.length=l.length/\∀(j:Nat) (x:α),l[j]? =some x->∃u,us[j]? =some u/\P j x u
 |[],_,_=>⟨[],rfl,fun j x e=>by simp at e⟩
 |y::l,P,h=>by
  obtain⟨u,hu⟩:=h 0 y rfl;obtain⟨us,hl,hs⟩:=b4j l (fun j=>P (j+1)) fun j x e=>h (j+1) x (by simpa using e);refine⟨u::us,by simp[hl],fun j x e=>?_⟩;cases j with
  |zero=>
   simp at e;subst e;exact⟨u,rfl,hu⟩
  |succ j=>
   obtain⟨v,h1,h2⟩:=hs j x (by simpa using e);exact⟨v,by simpa using h1,h2⟩
theorem b4P:∀{kvs:List (Key×V)} {ps:List (Key×Value)},ps.length=kvs.length->(∀(j:Nat) (k:Key) (v:V),kvs[j]? =some (k,v)->∃u,ps[j]? =some (k,u)/\a0Y v u)->KV kvs ps
 |[],[],_,_=>.nil
 |[],_::_,h,_=>by simp at h
 |_::_,[],h,_=>by simp at h
 | (k,v)::kvs,(k',u')::ps,h,f=>by
  obtain⟨u,e,r⟩:=f 0 k v rfl;simp at e;obtain⟨rfl,rfl⟩:=e;exact .cons ⟨rfl,r⟩ (b4P (by simpa using h) fun j k v e=>f (j+1) k v (by simpa using e))
section
variable {X:Cx}
theorem a7U (hc:X.calm=true):a1r X (.type "dict") (fun xs H Q=>∃(t:Addr) (o:Obj) (ys:List V) (kvs:List (Key×V)),xs=[.ref t]/\H t=some (.frz o (.tup ys))/\o.dict=none/\ys.length<=1000/\kvs.length=ys.length ∧
  (∀(j:Nat) (k:Key) (v:V),kvs[j]? =some (k,v)->∃a,ys[j]? =some (.ref a)/\SqT X.K H a [kV k,v])/\(kvs.map (·.1)).Nodup/\∀p,H p=none->Q (.ref p) (upd H p (.dK kvs))):=by
 intro Z s σ H xs us Q I r h;obtain⟨t,o,ys,kvs,rfl,ht,hod,hys,hkl,hp,nd,q⟩:=h;obtain⟨u,rfl,rx⟩:=a1Z r;cases rx;obtain⟨g,hz,its,r',tp⟩:=I.hok t _ ht;obtain⟨o',g',hcl,n,hdat⟩:=tp;rw[g] at g';cases g';have hlen:=r'.length;have hh:=I.ok.hd hc;have hpk:∃ps:List (Key×Value),ps.length=kvs.length/\∀(j:Nat) (kv:Key×V),kvs[j]? =some kv->∃u,ps[j]? =some u/\(u.1=kv.1/\a0Y kv.2 u.2/\∃a oa key na,its[j]? =some (.ref a)/\s.heap.get? a=some oa/\oa.cls=.type "tuple"/\oa.data=.seq #[key,u.2] na/\(a0i X.prog X.w).is kv.1 key=true):=by
  refine b4j kvs (fun(j:Nat) (kv:Key×V) (u:Key×Value)=>u.1=kv.1/\a0Y kv.2 u.2/\∃a oa key na,its[j]? =some (.ref a)/\s.heap.get? a=some oa/\oa.cls=.type "tuple"/\oa.data=.seq #[key,u.2] na/\(a0i X.prog X.w).is kv.1 key=true) fun j kv hj=>?_;obtain⟨k,v⟩:=kv;obtain⟨a,ea,sq⟩:=hp j k v hj;obtain⟨jts,rj,pj,_⟩:=I.tuple sq;cases rj with
  |@cons _ j1 _ jr rk rr=>cases rr with
   |@cons _ j2 _ jr2 rv rr2=>
    cases rr2;obtain⟨oa,ga,ca,na,da⟩:=pj;refine⟨(k,j2),rfl,rv,a,oa,j1,na,?_,ga,ca,da,a4d rk⟩;obtain⟨w,ew,rw1⟩:=a1b.get r' ea;cases rw1;exact ew
 obtain⟨ps,hpl,hps⟩:=hpk;have gt:s.heap.get? t=some o:=g;have tlt:t<s.heap.objs.size:=hL0 gt;refine callType_codes (Q₁:=fun obj s₁=>obj=.ref s.heap.objs.size/\s₁={ s with heap:=s.heap.push { cls:=.type "dict",data:=.dict #[] } }) F.kt_called_dict (F.kt_typeCall_dict_1 _) F.entry_dict_init (kt_code_dict_new _ ⟨rfl,rfl⟩) ?_;rintro obj s₁ ⟨rfl,rfl⟩;have hnew:(s.heap.push { cls:=.type "dict",data:=.dict #[] }).DictOf (a0i X.prog X.w) s.heap.objs.size []:=Heap.DictOf.new s.heap;have gt1:(s.heap.push { cls:=.type "dict",data:=.dict #[] }).get? t=some o:=hP0 _ gt;refine⟨hnew.typeIs,F.args_dict_init_2 _ _,?_⟩;unfold Builtin.«dict.__init__»;refine wB0 ?_;unfold Builtin.Dict.selfAndRest;refine wB0 (wpAny_notOrdered_dict hnew.typeIs ?_);show wpAny _ _ (pure (s.heap.objs.size,[Value.ref t])) _ _ _;refine wP0 ?_;show wpAny _ _ (Builtin.Dict.updateFrom "dict.__init__" s.heap.objs.size (.ref t) [] .none) _ _ _;unfold Builtin.Dict.updateFrom;refine wB0 (wpAny_typeOf (T:="tuple") ⟨o,gt1,hcl⟩ ?_);rw[if_pos (by decide)];refine wB0 (a8K (o:=o) (xs:=its.toArray) (k:=n) gt1 hcl hdat hod hh fun h1 tk1 kp1=>?_);rw[if_pos (show(none:Option Value).isNone=true from rfl)];have kp:∀b ob,s.heap.get? b=some ob->h1.get? b=some ob:=fun b ob e=>kp1 b ob (hP0 _ e);have gt2:=kp t o gt;have gd2:h1.get? s.heap.objs.size=some { cls:=.type "dict",data:=.dict #[] }:=kp1 _ _ (hS0 _ rfl);have dlt:s.heap.objs.size<h1.objs.size:=hL0 gd2;have dd1:h1.DictOf (a0i X.prog X.w) s.heap.objs.size []:=by
  obtain⟨od,es,ep,gg,rr⟩:=hnew;exact⟨od,es,ep,kp1 _ _ gg,rr⟩
 refine wB0 (wpAny_rule ?_);refine wB0 (wpAny_pyIter_tuple (items:=its.toArray) ⟨o,gt2,hcl,n,hdat⟩ ?_);refine wP0 ⟨Code.quiet_builtin _ (by decide +kernel),?_⟩;have epl:ps.length=its.toArray.size:=by simp;omega
 have fsts:ps.map (·.1)=kvs.map (·.1):=by
  refine List.ext_getElem (by simp[hpl]) fun j h1 h2=>?_;rw[List.getElem_map,List.getElem_map];rw[lM0] at h1 h2;obtain⟨u,eu,e1,_⟩:=hps j kvs[j] (gE0 h2);rw[gE0 h1] at eu;cases eu;exact e1
 refine a7r (A:=X.A.in1) (ps:=ps) (items:=its.toArray) (h0:=h1.push { cls:=.type "tuple_iterator",data:=.fields #[.ref t,.int 0 0] }) (t:=t) (d:=s.heap.objs.size) (it:=h1.objs.size) (show X.A.in1.handled=none from hh) ⟨o,hP0 _ gt2,hcl,n,hdat⟩ ⟨nL0 (Nat.lt_trans tlt dlt),nL0 tlt⟩ (Nat.ne_of_gt dlt) epl (by rw[<-epl,hpl,hkl];exact hys) (fun j k v hj=>?_) (by rw[fsts];exact nd) its.toArray.size 0 _ { s with heap:=h1.push { cls:=.type "tuple_iterator",data:=.fields #[.ref t,.int 0 0] },toks:=tk1 } (by omega) ⟨_,hS0 _ rfl,rfl,rfl⟩ (dd1.push _) (fun b o _ _ e=>e) (fun h2 k2 dd2 kp2=>?_)
 ·have hjl:j<kvs.length:=by
   have:=(gS0.mp hj).1
   omega
  obtain⟨u,eu,e1,e2,a,oa,key,na,e3,e4,e5,e6,e7⟩:=hps j kvs[j] (gE0 hjl);rw[hj] at eu;cases eu;have alt:=hL0 e4;refine⟨a,oa,key,na,by simpa using e3,hP0 _ (kp a oa e4),e5,e6,?_,nL0 (Nat.lt_trans alt dlt),nL0 alt⟩;rw[show k=kvs[j].1 from e1];exact e7
 ·refine⟨rfl,.ref s.heap.objs.size,_,?_,rfl,q s.heap.objs.size (I.hok.fresh (nR0 _))⟩
  have rel:KV kvs ps:=b4P hpl fun j k v e=>by
   obtain⟨u,eu,e1,e2,_⟩:=hps j (k,v) e;obtain⟨u1,u2⟩:=u
   cases(show u1=k from e1)
   exact⟨u2,eu,e2⟩
  refine I.laid (a:=s.heap.objs.size) (o:=.dK kvs) (fun b qo hb=>?_) (nR0 _) (a3z (by rw[sizeLine_eq];omega) (beq_eq_false_iff_ne.mpr (Ne.symm (nL0 I.big))) rel dd2);have blt:=hL0 hb;exact kp2 b qo (nL0 (Nat.lt_trans blt dlt)) (nL0 blt) (hP0 _ (kp b qo hb))
end
end L2
namespace L2
open PySem PySem.Spec PyProof.Rows
theorem a1M {n:Nat}(h:n<=4096):SetTable.sizeAbove n<=sizeLine:=by
 have go:∀(f z:Nat),z<=8192->SetTable.sizeAbove.go n f z<=8192:=by
  intro f
  induction f with
  |zero=>intro z hz;exact hz
  |succ f ih=>
   intro z hz;unfold SetTable.sizeAbove.go
   by_cases e:z<=n
   ·rw[if_pos e];exact ih (z * 2) (by omega)
   ·rw[if_neg e];exact hz
 refine Nat.le_trans (go 64 8 (by decide)) ?_;rw[sizeLine_eq]
 decide
theorem b2B {m:Nat}:SetTable.layClean m #[]=some (Array.replicate (m+1) none):=by
 unfold SetTable.layClean
 rfl
theorem a3F (m f mv:Nat)(a b:Bool):SetTable.laid m f mv a b #[]=some ({ mask:=m,place:=#[],dummies:=#[],finger:=f,led:=a,moves:=mv,plain:=b },#[]):=by
 unfold SetTable.laid;rw[b2B];have e:List.filterMap (fun j=>Option.map (fun x=>(j,x)) ((Array.replicate (m+1) (none:Option Nat)).getD j none)) (List.range (m+1))=[]:=by
  rw[List.filterMap_eq_nil_iff];intro j hj
  have:(Array.replicate (m+1) (none:Option Nat)).getD j none=none:=by
   simp[Array.getD]
  rw[this]
  rfl
 show some (_,_)=some (_,_);simp only[e]
 rfl
section
variable {P:Program}{w:World}{A:Around}{E:Vs0}{s:Shared}{a:Addr}
theorem b2r {led:Bool}{more:Nat}{Q:Unit->Shared->Prop}{ob:Obj}(ho:s.heap.get? a=some ob)(hx:ob.ExactSet)(hd:ob.data=.set #[] 0 (.fresh 0 0 led))(hm:more<=2000)
  (h:∀h',Heap.SameBut a s.heap h'->h'.SetOf (a0i P w) a (fun _=>false) 0->Q () { s with heap:=h' }):wpAny (model P w) A (setRoomFor a more) Q E s:=by
 unfold setRoomFor;refine wB0 (wpAny_setState_of ho hd rfl ?_);have hS:s.heap.SetOf (a0i P w) a (fun _=>false) 0:=⟨ob,#[],0,_,ho,hx,hd,fun e he=>by simp at he,fun k=>by simp,by decide,rfl,rfl⟩;cases e:(SetTable.fresh 0 0 led).roomFor more with
 |none=>
  exact wP0 (h s.heap (Heap.SameBut.refl a s.heap) hS)
 |some wanted=>
  have hw:wanted<=4096:=by
   unfold SetTable.roomFor at e
   split at e
   ·injection e with e
    rw[<-e]
    show(0+more) * 2<=4096
    omega
   ·cases e
  show wpAny _ _ (setRelay a wanted) _ _ _;unfold setRelay;refine wB0 (wpAny_setState_of ho hd rfl ?_);show wpAny _ _ (if SetTable.sizeAbove wanted > sizeLine then _ else _) _ _ _;rw[if_neg (Nat.not_lt.mpr (a1M hw))];have er:(SetTable.fresh 0 0 led).relaid (Array.map (fun x:Int×Value=>x.1) #[]) wanted=some ({ mask:=SetTable.sizeAbove wanted-1,place:=#[],dummies:=#[],finger:=0,led:=led,moves:=(SetTable.fresh 0 0 led).movedTo (SetTable.sizeAbove wanted-1),plain:=true },#[]):=by
   unfold SetTable.relaid;rw[show Array.map (fun x:Int×Value=>x.1) #[]=#[] from by simp];exact a3F _ _ _ _ _
  rw[er];generalize eT:({ mask:=SetTable.sizeAbove wanted-1,place:=#[],dummies:=#[],finger:=0,led:=led,moves:=(SetTable.fresh 0 0 led).movedTo (SetTable.sizeAbove wanted-1),plain:=true }:SetTable)=T;have hT:T.fits 0=true:=by rw[<-eT];rfl
  refine wB0 (show wpAny _ _ (pure ((#[]:Array (Int×Value)),T)) _ _ _ from wP0 ?_);refine wpAny_storeSet_of ho hd ?_ (zL0 _);obtain⟨_,hS2⟩:=SetOf_store (knd:=a0i P w) ho hx hd (es':=#[]) (t':=T) (S':=fun _=>false) (fun e he=>by simp at he) (fun k=>by simp) (by decide) hT;exact h _ (Heap.SameBut.update _ a _) hS2
theorem a7m {M:Model}{A:Around}{E:Vs0}{Q:PUnit->Shared->Prop}{body:Nat->PUnit->Sem (ForInStep PUnit)}(I:Nat->Shared->Prop)(N:Nat)
  (step:∀i s,i<N->I i s->wpAny M A (body i PUnit.unit) (fun r s'=>r=.yield PUnit.unit/\I (i+1) s') E s) (fin:∀s,I N s->Q PUnit.unit s) :
  ∀(n i:Nat) (s:Shared),n=N-i->i<=N->I i s->wpAny M A (forIn (List.range' i n) PUnit.unit body) Q E s:=by
 intro n
 induction n with
 |zero=>
  intro i s hn hi hI
  have:i=N:=by omega
  subst this;exact wP0 (fin s hI)
 |succ n ih=>
  intro i s hn hi hI;rw[List.range'_succ,List.forIn_cons];refine wB0 (wpAny_mono (step i s (by omega) hI) (fun r s' hr=>?_) fun _ _ z=>z);obtain⟨rfl,hI'⟩:=hr;exact ih (i+1) s' (by omega) (by omega) hI'
theorem b4L {h:Heap}{ks:List Key}{i:Nat}{e:Value}{hh:Int}{Q:Bool->Shared->Prop}(hlt:i<ks.length)(e1:(a0i P w).is ks[i] e=true)(e2:hh=(a0i P w).hash ks[i])(e3:e.scannable=true)(nd:ks.Nodup)(hb:ks.length+1<scanBound)
  (hS:s.heap.SetOf (a0i P w) a (fun k=>(ks.take i).any fun x=>decide (x=k)) i)
  (q:∀b h',Heap.SameBut a s.heap h'->h'.SetOf (a0i P w) a (fun k=>(ks.take (i+1)).any fun x=>decide (x=k)) (i+1)->Q b { s with heap:=h' }):wpAny (model P w) A (setAddHashed a e hh) Q E s:=by
 rw[e2];have hni:((ks.take i).any fun x=>decide (x=ks[i]))=false:=by
  rw[List.any_eq_false];intro x hx;rw[decide_eq_true_iff];intro q;obtain⟨j,hj,ej⟩:=List.mem_take_iff_getElem.mp hx
  have:j=i:=(List.getElem_inj nd).mp (ej.trans q)
  omega
 refine wpAny_setAddHashed_of (knd:=a0i P w) e1 e3 hS (by omega) fun h' sb hS'=>?_;rw[hni,if_neg bF0] at hS';have ef:(fun k'=>((ks.take i).any fun x=>decide (x=k')) || decide (k'=ks[i]))=fun k'=>(ks.take (i+1)).any fun x=>decide (x=k'):=by
  funext k'
  rw[List.take_add_one,gE0 hlt];simp only[Option.toList_some,List.any_append,List.any_cons,List.any_nil,Bool.or_false]
  congr 1
  rw[Bool.eq_iff_iff,decide_eq_true_iff,decide_eq_true_iff];exact⟨Eq.symm,Eq.symm⟩
 rw[ef] at hS';exact q _ h' sb hS'
theorem a4h {d:Addr}{kvs:List (Key×Value)}{h:Heap}(hd:h.DictOf (a0i P w) d kvs):∃od es ep,h.get? d=some od/\od.cls=.type "dict"/\od.data=.dict es ep/\es.size=kvs.length/\(kvs.map (·.1)).Nodup/\∀(i:Nat) (k:Key),(kvs.map (·.1))[i]? =some k->∃e:DictEntry,es[i]? =some e/\(a0i P w).is k e.key=true/\e.hash=(a0i P w).hash k/\e.key.scannable=true:=by
 obtain⟨od,es,ep,h1,h2,h3,h4,h5,h6⟩:=hd;have hl:=h5.length;rw[aL0] at hl;refine⟨od,es,ep,h1,h2.1,h3,hl,h6,fun i k hi=>?_⟩;rw[gM0] at hi;obtain⟨⟨k',v⟩,hkv,rfl⟩:=Option.map_eq_some_iff.mp hi;have hie:i<es.size:=by have:=(gS0.mp hkv).1;omega
 have he:es[i]? =some es[i]:=Array.getElem?_eq_getElem hie;have hp:=h5.get? (i:=i) (e:=es[i]) (by rw[Array.getElem?_toList];exact he) hkv;obtain⟨k2,e1,e2⟩:=h4 es[i] (Array.getElem_mem hie);have ek:k2=k':=(a0i P w).inj _ _ _ e1 hp.1;subst ek;refine⟨es[i],he,hp.1,e2,?_⟩;rcases a0w hp.1 with ⟨j,t,_,e⟩ |⟨x,t,_,e⟩<;>rw[e]<;>rfl
theorem a6s {d:Addr}{kvs:List (Key×Value)}{Q:Vs0}(hd:s.heap.DictOf (a0i P w) d kvs)(hb:kvs.length<=1000)(hm:(d==sysModules)=false)
  (h:∀(h':Heap) (tk:Nat),h'.SetOf (a0i P w) s.heap.objs.size (fun k=>(kvs.map (·.1)).any fun x=>decide (x=k)) kvs.length->(∀b o,s.heap.get? b=some o->h'.get? b=some o)->Q (.ref s.heap.objs.size) { s with heap:=h',toks:=tk }) :
  wpAny (model P w) A (call (.type "set") [.ref d]) Q E s:=by
 obtain⟨c,tl,hmro⟩:=F.called_set.mro;have hmade:=F.called_set.made;have hsub:=F.called_set.sub;have q1:=F.called_set.notType;have q2:=F.called_set.canCreate;have q3:=F.typeCall_set_1 (.ref d);refine wpAny_call (codeAny_of_tree ?_);show wpAny _ _ (callAny (.type "set") ⟨[.ref d],[]⟩) _ _ s;refine wP0 ⟨Code.quiet_builtin _ (by decide +kernel),codeAny_builtin F.entry_type_call ?_⟩;rw[Around.under_plain (weight_type_call_type "set" [.ref d] []) rfl]
 repeat (any_goals (first |assumption |wp_step))
 refine codeAny_mono (code_set_new_1 (.ref d) (E:=E) (Q₁:=fun v s1=>∃led:Bool,v=.ref s.heap.objs.size/\s1={ s with heap:=s.heap.push { cls:=.type "set",dict:=none,data:=.set #[] 0 (.fresh 0 0 led) } }) fun led=>⟨led,rfl,rfl⟩) fun r s1 hr=>?_
 match r,hr with
 | .error e,hr=>exact hr
 | .ok (.next),hr=>exact hr.elim
 | .ok (.brk),hr=>exact hr.elim
 | .ok (.cont),hr=>exact hr.elim
 | .ok (.ret v),hr=>
  obtain⟨led,rfl,rfl⟩:=hr;have hS:(s.heap.push { cls:=.type "set",dict:=none,data:=.set #[] 0 (.fresh 0 0 led) }).get? s.heap.objs.size=some { cls:=.type "set",dict:=none,data:=.set #[] 0 (.fresh 0 0 led) }:=hS0 _ rfl;generalize eh:s.heap.push { cls:=.type "set",dict:=none,data:=.set #[] 0 (.fresh 0 0 led) }=h1 at hS ⊢;have k1:∀b o,s.heap.get? b=some o->h1.get? b=some o:=fun b o e=>by rw[<-eh];exact hP0 _ e
  have hT:Shared.TypeIs { s with heap:=h1 } (.ref s.heap.objs.size) "set":=⟨_,hS,rfl⟩;have i1:=F.called_set.init.lookup;have i2:=F.called_set.init.bind (.ref s.heap.objs.size)
  repeat (any_goals (first |assumption |wp_step))
  refine codeAny_mono (codeAny_call_builtin (R:=wants (fun r s2=>r=.none/\∃h' tk,s2={ s with heap:=h',toks:=tk }/\h'.SetOf (a0i P w) s.heap.objs.size (fun k=>(kvs.map (·.1)).any fun x=>decide (x=k)) kvs.length/\∀b o,s.heap.get? b=some o->h'.get? b=some o) E) F.called_set.init.plain F.entry_set_init (check_set_init_1 hT ?_)) fun r2 s2 hr2=>?_
  ·obtain⟨od,es,ep,o1,o2,o3,o4,o5,o6⟩:=a4h hd
   have o1':=k1 _ _ o1;have hda:d≠s.heap.objs.size:=nL0 (hL0 o1);obtain⟨ocls,odict,odata,oslots⟩:=od;simp only at o2 o3;subst o2 o3;have t1:isSubtype (.type "dict") (.type "set")=pure false:=by rw[isSubtype_type];kernel_rfl
   have t2:isSubtype (.type "dict") (.type "frozenset")=pure false:=by rw[isSubtype_type];kernel_rfl
   unfold Builtin.«set.__init__» noKeywords Builtin.Frozenset.updateFrom;generalize eR:setRoomFor=RF
   wp_walk
   subst eR;have sz:es.size<=1000:=by omega
   refine b2r hS ⟨rfl,rfl,rfl⟩ rfl (by omega) fun h2 sb2 hS2=>?_;have o1'':=(sb2.2 d hda).trans o1';refine wB0 (wpAny_dictEntries (s:={ s with heap:=h2 }) o1'' rfl ?_);rw[Std.Legacy.Range.forIn_eq_forIn_range'];refine wB0 (a7m (fun i s'=>∃h',s'={ s with heap:=h' }/\Heap.SameBut s.heap.objs.size h1 h'/\h'.SetOf (a0i P w) s.heap.objs.size (fun k=>((kvs.map (·.1)).take i).any fun x=>decide (x=k)) i) es.size ?_ ?_ _ 0 _ (by simp[Std.Legacy.Range.size]) (zL0 _) ⟨h2,rfl,sb2,hS2⟩)
   ·rintro i s' hi ⟨h',rfl,sb,hSi⟩
    have hlt:i<(kvs.map (·.1)).length:=by rw[lM0];omega
    obtain⟨e,he,e1,e2,e3⟩:=o6 i (kvs.map (·.1))[i] (gE0 hlt);have od':=(sb.2 d hda).trans o1';refine wB0 (wpAny_dictEntries (s:={ s with heap:=h' }) od' rfl ?_);rw[he];refine wB0 (wpAny_holding (b4L (s:={ s with heap:=h' }) (h:=h') hlt e1 e2 e3 o5 (by rw[lM0];unfold scanBound;omega) hSi fun b h'' sb' hS''=>?_));refine wB0 (wpAny_dictEpoch (s:={ s with heap:=h'' }) ((sb'.2 d hda).trans od') rfl ?_);rw[if_neg (by simp)];exact wP0 ⟨rfl,h'',rfl,sb.trans sb',hS''⟩
   ·rintro s' ⟨h',rfl,sb,hSn⟩
    have et:(kvs.map (·.1)).take es.size=kvs.map (·.1):=List.take_of_length_le (by rw[lM0];omega);rw[et,o4] at hSn;exact wP0 (wP0 ⟨rfl,h',_,rfl,hSn,fun b o e=>(sb.2 b (nL0 (hL0 e))).trans (k1 b o e)⟩)
  ·match r2,hr2 with
   | .error e,hr2=>exact hr2
   | .ok (.next),hr2=>exact hr2.elim
   | .ok (.brk),hr2=>exact hr2.elim
   | .ok (.cont),hr2=>exact hr2.elim
   | .ok (.ret v),hr2=>
    obtain⟨rfl,h',tk,rfl,hSn,kp⟩:=hr2
    repeat (any_goals (first |assumption |wp_step))
    exact h h' tk hSn kp
end
def a8z (P:Program)(w:World)(p:Addr)(ks:List Key)(h:Heap):Prop:=h.SetOf (a0i P w) p (fun k=>ks.any fun x=>decide (x=k)) ks.length
theorem b4X {P:Program}{w:World}{H:Hp}{h:Heap}{p:Addr}{ks:List Key}(e:a8z P w p ks h):a1c P w H h p (.ext (a8z P w p ks)):=by
 refine⟨e,?_,fun h1 h2 x k=>?_⟩
 ·obtain⟨o,es,ep,t,ho,_⟩:=e
  exact⟨o,ho⟩
 ·obtain⟨o,es,ep,t,ho,rest⟩:=x
  exact⟨o,es,ep,t,k o ho,rest⟩
section
variable {X:Cx}
theorem a5J:a1r X (.type "set") (fun xs H Q=>∃a kvs,xs=[.ref a]/\Rd H a (.dK kvs)/\kvs.length<=1000/\∀p,H p=none->Q (.ref p) (upd H p (.ext (a8z X.prog X.w p (kvs.map (·.1)))))):=by
 intro Z s σ H xs us Q I r h;obtain⟨a,kvs,rfl,e,hl,q⟩:=h;obtain⟨u,rfl,rx⟩:=a1Z r;cases rx;obtain⟨_,hsys,vs,kv,hd⟩:=a2R I.hok e;refine a6s hd (by rw[<-kv.length];exact hl) hsys fun h' tk hS kp=>?_;have hS':a8z X.prog X.w s.heap.objs.size (kvs.map (·.1)) h':=by
  unfold a8z;rw[kv.keys,lM0];exact hS
 exact⟨.ref s.heap.objs.size,_,I.laid (a:=s.heap.objs.size) (t':=tk) kp (nR0 _) (b4X hS'),rfl,q _ (I.hok.fresh (nR0 _))⟩
end
section
variable {A:Around}{s:Shared}{P:Program}{w:World}{E:Vs0}
theorem a5i:entryFor table "set.__ne__"=some Builtin.«frozenset.__ne__»:=
 PySem.entryFor_alias (id':="frozenset.__ne__") (by kernel_rfl) rfl (by decide +kernel) (by kernel_rfl)
def a4a (ks ls:List Key):Bool:=decide (ks.length=ls.length)&&ks.all fun k=>ls.any fun x=>decide (x=k)
theorem b0x {id:String}{a b:Addr}{oa ob:Obj}{es fs:Array (Int×Value)}{ep fp:Nat}{t u:SetTable}{ks ls:List Key}{Q:Bool->Shared->Prop}(o1:s.heap.get? a=some oa)(o3:oa.data=.set es ep t)(o4:ElemsOf (a0i P w) es.toList)(o5:∀k:Key,(ks.any fun x=>decide (x=k))=true↔∃e∈es.toList,(a0i P w).is k e.2=true)(o7:t.fits es.size=true)
  (p1:s.heap.get? b=some ob) (p3:ob.data=.set fs fp u) (p4:ElemsOf (a0i P w) fs.toList) (p7:u.fits fs.size=true) (hS:a8z P w b ls s.heap) (hz:es.size<=fs.size)
  (hq:Q (ks.all fun k=>ls.any fun x=>decide (x=k)) s):wpAny (model P w) A (Builtin.Frozenset.subsetOf id a b) Q E s:=by
 unfold Builtin.Frozenset.subsetOf Builtin.Frozenset.sizeOf;refine wB0 (wB0 (wpAny_setEntries_of o1 o3 o7 (wP0 ?_)));refine wB0 (wB0 (wpAny_setEntries_of p1 p3 p7 (wP0 ?_)));rw[if_neg (Nat.not_lt.mpr hz)];refine wB0 (wpAny_setEpoch_of o1 o3 o7 ?_);have hw:∀R:List (Int×Value)->Shared->Prop,R es.toList s->wpAny (model P w) A (Builtin.Frozenset.walkUnseen a b) R E s:=fun R hR=>by
  unfold Builtin.Frozenset.walkUnseen;refine wB0 (wpAny_setEntries_of o1 o3 o7 ?_);refine wB0 (wpAny_setEntries_of p1 p3 p7 ?_);have hs:∀e∈es.toList++fs.toList,e.2.scannable=true:=fun e he=>by
   rcases mB0.mp he with h |h
   ·exact(o4 e h).2
   ·exact(p4 e h).2
  refine wB0 (wpAny_forIn_list _ (fun rest b s'=>b=(none,())/\s'=s/\∀e∈rest,e.2.scannable=true) _ ?_ ?_ _ _ ⟨rfl,rfl,hs⟩)
  ·rintro⟨n,x⟩ rest b s' ⟨rfl,rfl,hr⟩
   have hx:=hr _ List.mem_cons_self;have hr':=fun e he=>hr e (mL0 _ he);cases x<;>first | (cases hx;done) |exact wB0 (wP0 (wP0 ⟨rfl,rfl,hr'⟩))
  ·rintro b s' ⟨rfl,rfl,_⟩
   exact wP0 hR
 refine wB0 (hw _ ?_);refine wB0 (wpAny_forIn_list _ (fun rest b s'=>b=(none,())/\s'=s/\(∀e∈rest,e∈es.toList)/\∀e∈es.toList,e∈rest\/∃k,(a0i P w).is k e.2=true/\(ls.any fun x=>decide (x=k))=true) _ ?_ ?_ _ _ ⟨rfl,rfl,fun e he=>he,fun e he=>.inl he⟩)
 ·rintro⟨n,x⟩ rest b' s' ⟨rfl,rfl,hr,hd⟩
  obtain⟨⟨k,k1,k2⟩,k3⟩:=o4 _ (hr _ List.mem_cons_self);have k2':n=(a0i P w).hash k:=k2;subst k2';refine wB0 (wpAny_holding (wpAny_setFind_of (knd:=a0i P w) k1 k3 hS fun r hr2=>?_));cases r with
  |none=>
   have hn:(ls.any fun x=>decide (x=k))=false:=hr2.symm;refine wP0 (wP0 ?_);have hk:(ks.any fun x=>decide (x=k))=true:=(o5 k).mpr ⟨_,hr _ List.mem_cons_self,k1⟩
   have:(ks.all fun k=>ls.any fun x=>decide (x=k))=false:=by
    rw[List.all_eq_false];obtain⟨y,hy,e⟩:=List.any_eq_true.mp hk;rw[of_decide_eq_true e] at hy;exact⟨k,hy,by rw[hn];decide⟩
   rw[this] at hq;exact hq
  |some j=>
   have hn:(ls.any fun x=>decide (x=k))=true:=hr2.symm;refine wB0 ?_;unfold Builtin.Frozenset.unchanged;refine wB0 (wpAny_setEpoch_of o1 o3 o7 ?_);rw[if_neg (by simp)];refine wP0 (wP0 ⟨rfl,rfl,fun e he=>hr e (mL0 _ he),fun e he=>?_⟩);rcases hd e he with h |h
   ·rcases mK0.mp h with h |h
    ·subst h
     exact .inr ⟨k,k1,hn⟩
    ·exact .inl h
   ·exact .inr h
 ·rintro b' s' ⟨rfl,rfl,_,hd⟩
  have:(ks.all fun k=>ls.any fun x=>decide (x=k))=true:=by
   rw[List.all_eq_true];intro k hk;obtain⟨e,he,e1⟩:=(o5 k).mp (List.any_eq_true.mpr ⟨k,hk,dT0 rfl⟩);rcases hd e he with h |⟨k',h1,h2⟩
   ·cases h
   ·rw[(a0i P w).inj _ _ _ e1 h1]
    exact h2
  rw[this] at hq;exact wP0 hq
theorem b4K {a b:Addr}{ks ls:List Key}{Q:Vs0}(ha:a8z P w a ks s.heap)(hb:a8z P w b ls s.heap)(hu:A.units<cLine)
  (hq:∀tk,Q (.bool (!a4a ks ls)) { s with toks:=tk }):wpAny (model P w) A (compareOp .NotEq (.ref a) (.ref b)) Q E s:=by
 obtain⟨oa,es,ep,t,o1,o2,o3,o4,o5,o6,o7,o8⟩:=ha;obtain⟨ob,fs,fp,u,p1,p2,p3,p4,p5,p6,p7,p8⟩:=hb;have Ta:s.TypeIs (.ref a) "set":=⟨oa,o1,o2.1⟩;have Tb:s.TypeIs (.ref b) "set":=⟨ob,p1,p2.1⟩;show wpAny _ _ (richCompare .NotEq (.ref a) (.ref b)) _ _ _;refine wpAny_richCompare_same_room Ta Tb F.slot_set_ne (wpAny_call_entry F.slot_set_ne Ta a5i ?_ (F.args_set_ne_2 _ _)) hu;have t0:isSubtype (.type "set") (.type "set")=pure true:=by rw[isSubtype_type];kernel_rfl
 have t1:isSubtype (.type "set") (.type "frozenset")=pure false:=by rw[isSubtype_type];kernel_rfl
 obtain⟨oc,od,oD,os⟩:=oa;obtain⟨pc,pd,pD,ps⟩:=ob;simp only[Obj.ExactSet] at o2 o3 p2 p3;obtain⟨rfl,rfl,rfl⟩:=o2;obtain⟨rfl,rfl,rfl⟩:=p2;subst o3 p3;refine wB0 ?_;generalize eS:Builtin.Frozenset.sizeOf=SO;generalize eB:Builtin.Frozenset.subsetOf=SB
 wp_walk
 subst eS;unfold Builtin.Frozenset.sizeOf;refine wB0 (wpAny_setEntries_of o1 rfl o7 (wP0 ?_));refine wB0 (wB0 (wpAny_setEntries_of p1 rfl p7 (wP0 ?_)));refine wB0 ?_
 by_cases e:es.size=fs.size
 ·rw[if_neg (by simpa using e)]
  refine wB0 (wB0 (wpAny_isInstance (T:="set") (b:=false) Ta t1 ?_));refine wP0 ?_;subst eB;refine b0x o1 rfl o4 o5 o7 p1 rfl p4 p7 ⟨_,fs,fp,u,p1,⟨rfl,rfl,rfl⟩,rfl,p4,p5,p6,p7,p8⟩ (Nat.le_of_eq e) ?_;refine wP0 ⟨_,rfl,(fun z=>nomatch z),?_⟩
  have:a4a ks ls=(ks.all fun k=>ls.any fun x=>decide (x=k)):=by unfold a4a;rw[dT0 (by omega),Bool.true_and]
  rw[<-this];exact hq s.toks
 ·rw[if_pos (by simpa using e)]
  refine wP0 (wP0 ⟨_,rfl,(fun z=>nomatch z),?_⟩)
  have:a4a ks ls=false:=by unfold a4a;rw[dF0 (by omega),Bool.false_and]
  have q:=hq s.toks;rw[this] at q;exact q
end
section
variable {X:Cx}
theorem b5x (hu:X.A.units<cLine):OpR X (compareOp .NotEq) (fun x y H Q=>∃(a b:Addr) (ks ls:List Key),x=.ref a/\y=.ref b/\H a=some (.ext (a8z X.prog X.w a ks))/\H b=some (.ext (a8z X.prog X.w b ls))/\Q (.bl (!a4a ks ls)) H):=by
 intro Z s σ H x y v u Q I rx ry h;obtain⟨a,b,ks,ls,rfl,rfl,ha,hb,q⟩:=h;cases rx;cases ry;obtain⟨ha',_⟩:=I.hok a _ ha;obtain⟨hb',_⟩:=I.hok b _ hb;exact b4K ha' hb' hu fun tk=>⟨.bl (!a4a ks ls),H,I.tok tk,rfl,q⟩
end
section
variable {X:Cx}{Z:List (Addr×Obj)}{σ:St}{H:Hp}{s:Shared}
theorem b4B {A:Around}(I:Inv X Z σ H s){n:Nat}{a b:Addr}{xs ys:List V}(ha:SqT X.K H a xs)(hb:SqT X.K H b ys)(hl:xs.length=ys.length)(h:∀(i:Nat) (x y:V),xs[i]? =some x->ys[i]? =some y->Dq H n x y)(hu:A.units+n+1<cLine) :
  SeqAt.RcAt A s (.ref a) (.ref b) true/\SeqAt.RcNeAt A s (.ref a) (.ref b) false:=by
 obtain⟨its,r1,pl,_⟩:=I.tuple ha;obtain⟨jts,r2,ql,_⟩:=I.tuple hb;have l1:=r1.length;have l2:=r2.length;have el:∀j (g1:j<its.toArray.size) (g2:j<jts.toArray.size),SeqAt.EqAt A.in1 s its.toArray[j] jts.toArray[j] true:=fun j g1 g2=>by
  have g1':j<its.length:=by simpa using g1
  have g2':j<jts.length:=by simpa using g2
  obtain⟨u1,e1,k1⟩:=r1.get (i:=j) (x:=xs[j]'(by omega)) (by simp);obtain⟨u2,e2,k2⟩:=r2.get (i:=j) (x:=ys[j]'(by omega)) (by simp);have w1:its.toArray[j]=u1:=by have:=(gS0.mp e1).2;simpa using this
  have w2:jts.toArray[j]=u2:=by have:=(gS0.mp e2).2;simpa using this
  rw[w1,w2];exact a8A I (h j _ _ (by simp) (by simp)) k1 k2 (by show A.units+1+n<cLine;omega)
 have h1:=SeqAt.RcAt.tuples (A:=A) (e:=fun _=>true) pl ql (by omega) el;have h2:=SeqAt.RcNeAt.tuples (A:=A) (e:=fun _=>true) pl ql (by omega) el;have hz:its.toArray.size=jts.toArray.size:=by simp;omega
 have ea:∀k:Nat,(List.range k).all (fun _=>true)=true:=fun k=>List.all_eq_true.mpr fun _ _=>rfl;rw[ea,hz,beq_self_eq_true] at h1 h2;exact⟨h1,h2⟩
theorem a8H:OpR X (compareOp .NotEq) (fun x y H Q=>∃(n:Nat) (a b:Addr) (xs ys:List V),x=.ref a/\y=.ref b/\SqT X.K H a xs/\SqT X.K H b ys/\xs.length=ys.length/\(∀(i:Nat) (x y:V),xs[i]? =some x->ys[i]? =some y->Dq H n x y)/\X.A.units+n+1<cLine/\Q (.bl false) H):=by
 intro Z s σ H x y v u Q I rx ry h;obtain⟨n,a,b,xs,ys,rfl,rfl,ha,hb,hl,hd,hu,q⟩:=h;cases rx;cases ry;exact(b4B I ha hb hl hd hu).2 X.prog X.w X.xe _ ⟨.bl false,H,I,rfl,q⟩
def b8e (t:TA):TE:=fun σ H Q=>t σ H fun xs H1=>xs.length<=sizeLine/\∀p o,H1 p=none->o.dict=none->Q (.ref p) (upd H1 p (.frz o (.tup xs)))
theorem b0A {es:List Expr}{x1:Nat}{pos:Pos}{t:TA}(h:PA X es t):PE X (.Tuple es x1 pos) (b8e t):=by
 intro Z s σ H Q I hq;refine wpAny_Tuple_spliced (thn (h pos Z s σ H _ I hq) fun us s1 ⟨xs,H1,I1,r,z,q⟩=>⟨by rw[<-r.length];exact z,?_⟩);have hf:H1 s1.heap.objs.size=none:=I1.hok.fresh (nR0 _);refine⟨.ref s1.heap.objs.size,upd H1 s1.heap.objs.size (.frz { cls:=.type "tuple",data:=.seq us.toArray } (.tup xs)),I1.laid (t':=s1.toks) (fun b u e=>hP0 _ e) (nR0 _) ?_,rfl,q _ _ hf rfl⟩;exact⟨hS0 _ rfl,z,us,r,⟨_,hS0 _ rfl,rfl,_,rfl⟩⟩
end
theorem a9M:∀(us:List Value) (ns:List Int),us.length=ns.length->(∀(j:Nat) (v:Value) (z:Int),us[j]? =some v->ns[j]? =some z->∃t,v=Value.int z t)->IntsAre us ns
 |[],[],_,_=>.nil
 |u::us,n::ns,hl,h=>by
  obtain⟨t,rfl⟩:=h 0 u n rfl rfl;exact .cons n t (a9M us ns (by simpa using hl) fun j v z h1 h2=>h (j+1) v z (by simpa using h1) (by simpa using h2))
theorem a2O:∀{us:List Value} {ns:List Int},IntsAre us ns->a1b (ns.map V.int) us
 |_,_,.nil=>.nil
 |_,_,.cons n t h=>.cons ⟨t,rfl⟩ (a2O h)
section
variable {X:Cx}
theorem a0J (hc:X.calm=true):a1r X (.builtin "sorted") (fun xs H Q=>∃(p:Addr) (kvs:List (Key×V)) (ns:List Int),xs=[.ref p]/\Rd H p (.dK kvs)/\kvs.map (·.1)=ns.map Sum.inl/\ns.length<64/\∀(l:Addr) (ms:List Int),H l=none->ms.Perm ns->ms.Pairwise (·<=·)->Q (.ref l) (upd H l (.lst (ms.map V.int)))):=by
 intro Z s σ H xs us Q I r h;obtain⟨p,kvs,zs,rfl,hq,hz,h64,q⟩:=h;obtain⟨u,rfl,rx⟩:=a1Z r;cases rx;obtain⟨hlen,lo,vs,kv,dd⟩:=hq.ok I.hok;obtain⟨ep,da⟩:=dd.dictAt;have hl:=kv.len;have hl2:kvs.length=zs.length:=by simpa using congrArg List.length hz
 refine Calls.call_function_entry kind_sorted plain_sorted entry_sorted (args_sorted1 _) ?_;unfold Builtin.«sorted»;refine wB0 (m:=checkCount "sorted" 1 1 _) (wP0 ?_);refine wB0 (PySem.W.kdu_collect (PySem.W.kdl_dict (knd:=a0i X.prog X.w) (kvs:=vs) (ep:=ep) lo) (I.ok.hd hc) da (by rw[<-hl];exact hlen) fun h' tk acc hk hacc=>?_);have hS:IntsAre acc.toList zs:=by
  refine a9M _ _ (by rw[aL0,hacc.1,<-hl,hl2]) fun j v z h1 h2=>?_;obtain⟨k,x,hx,hkv⟩:=hacc.2 j v (by rw[<-Array.getElem?_toList];exact h1);have hk':=a8P kv hx;rw[hz,gM0,h2] at hk';have e:Sum.inl z=k:=by simpa using hk'
  subst e;exact b1u hkv
 have hal:acc.toList.length=zs.length:=by
  rw[aL0,hacc.1,<-hl,hl2]
 refine wB0 (wpAny_newList ?_ (by rw[hal,<-hl2];exact hlen));have hoL:(h'.push (seqObj "list" acc.toList.toArray 0)).get? h'.objs.size=some (seqObj "list" acc.toList.toArray 0):=hS0 _ rfl;refine wB0 (wpAny_holding (wpAny_call_entry slot_list_sort ⟨_,hoL,rfl⟩ entry_list_sort (list_sort_tree (s:={ s with heap:=h'.push (seqObj "list" acc.toList.toArray 0),toks:=tk }) hoL hS (by rw[hal];exact h64) fun out ss' h1 h2 h3=>⟨_,rfl,?_⟩) (args_list_sort _)));obtain⟨e,he⟩:=sortedHeap_at (out:=out) hoL;have hn:s.heap.get? h'.objs.size=none:=by
  cases q:s.heap.get? h'.objs.size with
  |none=>rfl
  |some ob=>exact absurd (hL0 (hk _ _ q)) (Nat.lt_irrefl _)
 refine wP0 ⟨_,rfl,.ref h'.objs.size,_,I.laidAt (t':=tk) (o:=.lst (ss'.map V.int)) (fun b ob q=>?_) hn ?_,rfl,q _ ss' (I.none_at hn) h2 h3⟩
 ·have q':=hk b ob q
  have hlt:=hL0 q';rw[sortedHeap_old (nL0 hlt) (by rw[size_push'];exact Nat.lt_succ_of_lt hlt)];exact hP0 _ q'
 ·exact⟨by rw[lM0,h2.length_eq,<-hl2];exact hlen,_,e,a2O h1,he⟩
end
theorem a1A {J:It}{g:TG}{te:TE}{R:Addr->Hp->Prop}{D:Addr}{σ0:St}{H0:Hp}(n:Nat)(Pv:Nat->List V->St->Hp->Prop)(hn:n<=sizeLine)(h0:Pv 0 [] σ0 H0)(hD0:H0 D=some (.lst []))
  (hs:∀i σ H ys,i<n->Pv i ys σ H->ys.length=i->H D=some (.lst ys)->J.go i H/\∀x H',J.yld i H x H'->g x σ H' fun σ2 H2=>te σ2 H2 fun y H4=>H4 D=some (.lst ys)/\Pv (i+1) (ys++[y]) σ2 (upd H4 D (.lst (ys++[y]))))
  (hd:∀σ H ys,Pv n ys σ H->H D=some (.lst ys)->ys.length=n->J.stop n H/\R D H):a9s J g b7W te R D σ0 H0:=by
 refine⟨fun i m σ H=>m=n-i/\i<=n/\∃ys,Pv i ys σ H/\H D=some (.lst ys)/\ys.length=i,⟨n,by omega,zL0 _,[],h0,hD0,rfl⟩,?_⟩;rintro i m σ H ⟨rfl,hi,ys,p,hD,hl⟩
 by_cases hlt:i<n
 ·obtain⟨go,st⟩:=hs i σ H ys hlt p hl hD
  refine .inr ⟨go,fun σ2 y H4=>H4 D=some (.lst ys)/\Pv (i+1) (ys++[y]) σ2 (upd H4 D (.lst (ys++[y]))),fun _ _=>False,?_,fun _ _ z=>z.elim,st⟩;rintro σ2 y H4 ⟨e,p'⟩;exact⟨_,e,by rw[hl];omega,n-(i+1),by omega,rfl,hlt,_,p',a0c,by simp[hl]⟩
 ·have e:i=n:=by omega
  subst e;exact .inl (hd σ H ys p hD hl)
theorem a2y {H H1:Hp}{a:Addr}{o:Obj}{kvs:List (Key×V)}(hc:H a=some (.dK kvs))(e:a0k (L2.upd H a (.frz o (.dK kvs))) H1):a0k H (L2.upd H1 a (.dK kvs)):=fun b u hb=>by
 by_cases eb:b=a
 ·subst eb
  rw[hc] at hb;rw[<-hb];exact a0c
 ·rw[a0d eb]
  exact e b u (by rw[a0d eb];exact hb)
def flt:V->Bool
 | .non=>true
 | .bl _=>true
 | .int _=>true
 | .str _=>true
 |_=>false
inductive Dp where
 |fl (v:V)
 |tup (ds:List Dp)
 |lst (ds:List Dp)
 |dic (kds:List (Str×Dp))
inductive Dv (H:Hp):Nat->Dp->V->Prop
 |fl {n:Nat} {v:V} (h:flt v=true):Dv H n (.fl v) v
 |tup {n:Nat} {a:Addr} {vs:List V} {ds:List Dp} (ha:H a=some (.tup vs)) (hl:vs.length=ds.length) (h:∀(i:Nat) (v:V) (d:Dp),vs[i]? =some v->ds[i]? =some d->Dv H n d v):Dv H (n+1) (.tup ds) (.ref a)
 |lst {n:Nat} {a:Addr} {vs:List V} {ds:List Dp} (ha:H a=some (.lst vs)) (hl:vs.length=ds.length) (h:∀(i:Nat) (v:V) (d:Dp),vs[i]? =some v->ds[i]? =some d->Dv H n d v):Dv H (n+1) (.lst ds) (.ref a)
 |dic {n:Nat} {a:Addr} {vs:List V} {kds:List (Str×Dp)} (ha:H a=some (.dK ((kds.map (·.1)).zipWith (fun z v=>((Sum.inr z:Key),v)) vs))) (nd:(kds.map (·.1)).Nodup) (hl:vs.length=kds.length) (h:∀(i:Nat) (v:V) (k:Str×Dp),vs[i]? =some v->kds[i]? =some k->Dv H n k.2 v):Dv H (n+1) (.dic kds) (.ref a)
theorem a7G {zs:List Str}{vs:List V}{i:Nat}:(zs.zipWith (fun z v=>((Sum.inr z:Key),v)) vs)[i]? =match zs[i]?,vs[i]? with |some z,some v=>some (.inr z,v) |_,_=>none:=by
 rw[List.getElem?_zipWith];cases zs[i]?<;>cases vs[i]?<;>rfl
theorem b0K {zs:List Str}{vs:List V}(h:vs.length=zs.length):(zs.zipWith (fun z v=>((Sum.inr z:Key),v)) vs).length=zs.length:=by
 rw[List.length_zipWith];omega
theorem a6Y {zs:List Str}{vs:List V}{k:Key}{v:V}(h:(k,v)∈zs.zipWith (fun z v=>((Sum.inr z:Key),v)) vs):∃(i:Nat) (z:Str),zs[i]? =some z/\vs[i]? =some v/\k=.inr z:=by
 obtain⟨i,hi⟩:=List.getElem?_of_mem h;rw[a7G] at hi;cases h1:zs[i]? with
 |none=>rw[h1] at hi;cases hi
 |some z=>
  cases h2:vs[i]? with
  |none=>rw[h1,h2] at hi;cases hi
  |some u=>
   rw[h1,h2] at hi
   injection hi with hi
   injection hi with e1 e2
   exact⟨i,z,h1,by rw[h2,e2],e1.symm⟩
theorem b3w {zs:List Str}{vs:List V}(nd:zs.Nodup){i:Nat}{z:Str}{v:V}(h1:zs[i]? =some z)(h2:vs[i]? =some v):a1k (zs.zipWith (fun z v=>((Sum.inr z:Key),v)) vs) (.inr z)=some v:=by
 induction zs generalizing vs i with
 |nil=>cases h1
 |cons y r ih=>
  cases vs with
  |nil=>cases h2
  |cons u us=>
   rw[List.zipWith_cons_cons];rw[List.nodup_cons] at nd;cases i with
   |zero=>
    cases h1;cases h2;exact a1x rfl
   |succ i=>
    rw[List.getElem?_cons_succ] at h1 h2;have hne:¬(Sum.inr y:Key)=.inr z:=fun e=>by
     injection e with e
     exact nd.1 (by rw[e];exact gI0 h1)
    rw[a1s (p:=((Sum.inr y:Key),u)) hne];exact ih nd.2 h1 h2
theorem Dv.dq {H:Hp}:∀{n:Nat} {d:Dp} {v v':V},Dv H n d v->Dv H n d v'->Dq H n v v':=fun {n d v v'} h=>by
 induction h generalizing v' with
 |@fl n v h=>
  intro h';cases h';cases v with
  |non=>exact .non
  |bl b=>exact .bl
  |int i=>exact .int
  |str z=>exact .str
  |_=>cases h
 |@tup n a vs ds ha hl hh ih=>
  intro h';cases h' with
  |tup hb hl' hh'=>exact .tup ha hb (by omega) fun i x y e1 e2=>ih i x _ e1 (gE0 (by have:=(gS0.mp e1).1;omega)) (hh' i y _ e2 (gE0 _))
 |@lst n a vs ds ha hl hh ih=>
  intro h';cases h' with
  |lst hb hl' hh'=>exact .lst ha hb (by omega) fun i x y e1 e2=>ih i x _ e1 (gE0 (by have:=(gS0.mp e1).1;omega)) (hh' i y _ e2 (gE0 _))
 |@dic n a vs kds ha nd hl hh ih=>
  intro h';cases h' with
  |@dic _ b us _ hb nd' hl' hh'=>
   have ez:(kds.map (·.1)).length=kds.length:=lM0 ..;refine .dct (fun k=>(a1k ((kds.map (·.1)).zipWith (fun z v=>((Sum.inr z:Key),v)) us) k).getD .non) (.inl ha) (.inl hb) ?_ (fun k v h=>?_) (fun k v h=>?_) (fun k v h=>?_)
   ·rw[b0K (by omega),b0K (by omega)]
   ·obtain⟨i,z,_,_,e⟩:=a6Y h;exact⟨z,e⟩
   all_goals
    obtain⟨i,z,h1,h2,rfl⟩:=a6Y h;have hi:i<kds.length:=by have:=(gS0.mp h2).1;omega
    have hu:us[i]? =some us[i]:=gE0 (by omega);have hv:=b3w nd h1 hu;rw[hv]
   ·refine gI0 (i:=i) ?_
    rw[a7G,h1,hu]
    rfl
   ·exact ih i v _ h2 (gE0 hi) (hh' i _ _ hu (gE0 hi))
end L2
namespace My
open PySem L2 PyProof.Rows
def top (i:Nat):Stmt:=PySem.Challenge.pw_halfmoved_k17_once.main.body.getD i (.Pass ⟨0,0,0,0⟩)
end My
namespace L2
open PySem PySem.Spec PyProof.Rows
def cut (H0 H:Hp):Hp:=fun b=>match H0 b with |none=>H b |some _=>none
theorem a0z {H0 H:Hp}:a0k (cut H0 H) H:=fun b o e=>by
 unfold cut at e
 split at e
 ·exact e
 ·cases e
theorem a1t {H0 H:Hp}{b:Addr}{o:HO}(e:cut H0 H b=some o):H0 b=none:=by
 unfold cut at e
 split at e
 ·assumption
 ·cases e
theorem a0T {H0 H:Hp}{b:Addr}{o:HO}(h0:H0 b=none)(e:H b=some o):cut H0 H b=some o:=by
 unfold cut;rw[h0];exact e
theorem b3d {H0 H H':Hp}(s:a0k H H'):a0k (cut H0 H) (cut H0 H'):=fun b o e=>a0T (a1t e) (s _ _ (a0z _ _ e))
theorem a0v {H0 H1:Hp}{b:Addr}(s:a0k H0 H1)(h:H1 b=none):H0 b=none:=by
 cases e:H0 b with
 |none=>rfl
 |some o=>rw[s _ _ e] at h;cases h
theorem a0k.put {H H':Hp}{d:Addr}{o:HO}(s:a0k H H')(h:H d=none):a0k H (L2.upd H' d o):=fun b u e=>by
 rw[a0d (a0j e h)];exact s _ _ e
end L2
namespace My
open PySem L2 PyProof.Rows
theorem gz {H H':Hp}{a:Addr}{o:HO}(h:upd H a o=H')(n:H a=none):a0k H H'/\H' a=some o:=by
 subst h;exact⟨a0k.upd n,a0c⟩
seal L2.PE L2.PT L2.PW L2.PS L2.PSs L2.PA L2.PI L2.PG L2.PGs L2.OpR L2.UnR L2.a1r L2.IxR L2.SlR L2.MtR L2.PIf L2.PO L2.MtM L2.PC
structure Tb where
 name:Str
 sort:Str
 cols:List (Str×Addr)
def a4l (H:Hp)(ct:Addr)(cols:List (Str×Addr)):Prop:=∃(o:Obj) (ps:List Addr),o.dict=none/\H ct=some (.frz o (.tup (ps.map V.ref)))/\ps.length=cols.length/\∀(j:Nat) (p:Addr) (c:Str×Addr),ps[j]? =some p->cols[j]? =some c->H p=some (.tup [.str c.1,.ref c.2])
def a8Z (H:Hp)(e:Addr)(T:Tb):Prop:=∃ct,H e=some (.tup [.str T.name,.str T.sort,.ref ct])/\a4l H ct T.cols
def a2d (H:Hp)(f:Addr)(sz:Int)(Ts:List Tb):Prop:=∃(tt:Addr) (es:List Addr),H f=some (.tup [.int sz,.ref tt])/\H tt=some (.tup (es.map V.ref))/\es.length=Ts.length/\∀(j:Nat) (e:Addr) (T:Tb),es[j]? =some e->Ts[j]? =some T->a8Z H e T
theorem a4l.same {H H':Hp}{e:Addr}{T:List (Str×Addr)}(h:a4l H e T)(s:a0k H H'):a4l H' e T:=by
 obtain⟨o,ps,h0,h1,h2,h3⟩:=h;exact⟨o,ps,h0,s _ _ h1,h2,fun j p c a b=>s _ _ (h3 j p c a b)⟩
theorem a8Z.same {H H':Hp}{e:Addr}{T:Tb}(h:a8Z H e T)(s:a0k H H'):a8Z H' e T:=by
 obtain⟨ct,h1,h2⟩:=h;exact⟨ct,s _ _ h1,h2.same s⟩
theorem a2d.same {H H':Hp}{f:Addr}{sz:Int}{Ts:List Tb}(h:a2d H f sz Ts)(s:a0k H H'):a2d H' f sz Ts:=by
 obtain⟨tt,es,h1,h2,h3,h4⟩:=h;exact⟨tt,es,s _ _ h1,s _ _ h2,h3,fun j e T a b=>(h4 j e T a b).same s⟩
def kvC (cols:List (Str×Addr)):List (Key×V):=cols.map fun p=>(.inr p.1,.ref p.2)
def a3M:Sp:=fun vs H Q _=>∃(f:Addr) (sz:Int) (Ts:List Tb),vs=[.ref f]/\a2d H f sz Ts/\Ts.length<=8/\∀p H',H p=none->a0k H H'->H' p=some (.lst ((Ts.map (·.name)).map V.str))->Q (.ref p) H'
def a6F:Sp:=fun vs H Q _=>∃(f:Addr) (sz:Int) (Ts:List Tb) (T:Tb),vs=[.ref f,.str T.name]/\a2d H f sz Ts/\(Ts.map (·.name)).Nodup/\T∈Ts/\∀e,a8Z H e T->Q (.ref e) H
def a4W:Sp:=fun vs H Q _=>∃(f:Addr) (sz:Int) (Ts:List Tb) (T:Tb),vs=[.ref f,.str T.name]/\a2d H f sz Ts/\(Ts.map (·.name)).Nodup/\T∈Ts/\(T.cols.map (·.1)).Nodup/\T.cols.length<=12 ∧
 ∀(p:Addr) (H':Hp),H p=none->a0k H H'->H' p=some (.dK (kvC T.cols))->Q (.ref p) H'
section
variable {P:Program}{w:World}{K:Fg0}{mg:Str->Option Value}{base:Heap}
theorem a2M {f:Addr}{fd:FuncData}(F:Fun K "tables_of" "tables_of" (top 18) f fd):a0A P w K mg base CX0 1 f fd ["form"] a3M:=by
 have sc:a0o ["form"] ["form"] (a0g (top 18)):=.k (by decide +kernel);refine F.ok sc (fun vs H Q E h=>?_) (fun cdv A outer s H vs Q E hr h=>?_)
 ·obtain⟨f,sz,Ts,rfl,_⟩:=h
  rfl
 ·obtain⟨f,sz,Ts,rfl,⟨tt,es,h1,h2,h3,h4⟩,h8,q⟩:=h
  refine⟨_,a0h (a0F (a1K (osc:=a0g (top 18)) (N0:=["form"]) (xs:=["entry"]) (fr:=[]) ⟨rfl,by decide +kernel,by decide +kernel,by decide +kernel,by decide,by decide +kernel⟩ rfl rfl rfl (b2M (a0t a0N (pv 0) a0f (fun _ _=>rfl)))
    (fun s H fp=>a0m (i:=0) (show(["entry"]:List Str).Nodup by decide +kernel) rfl (Or.inl rfl)) (fun s H fp=>a1I) (fun s H fp=>a0t (r:=b7b K) a0N (pv 0) a0f (fun _ _=>rfl)))),?_⟩
  refine⟨_,rfl,_,_,1,_,rfl,rfl,SqT.of h1,rfl,tt,rfl,⟨_,SqT.of h2⟩,fun D hD=>?_⟩;refine a3H Ts.length (fun i=>.str ((Ts.map (·.name)).getD i "")) (fun i σ' Hc=>(∃t,σ'=[t])/\a0k H Hc) (by rw[sizeLine_eq];omega) ⟨⟨none,rfl⟩,a0k.upd hD⟩ a0c ?_ ?_
  ·rintro i σ' Hc hi ⟨⟨t,rfl⟩,sm⟩ hD'
   have hie:i<es.length:=by omega
   refine⟨⟨_,V.ref es[i],SqT.of (sm _ _ h2),by rw[gM0,gE0 hie];rfl⟩,?_⟩;rintro x H' ⟨rfl,hx'⟩;have ex:=hx' _ (SqT.of (sm _ _ h2));rw[gM0,gE0 hie] at ex;cases ex;obtain⟨ct,g1,_⟩:=h4 i es[i] Ts[i] (gE0 hie) (gE0 hi);refine⟨_,rfl,_,_,0,_,rfl,rfl,SqT.of (sm _ _ g1),rfl,?_,hD',⟨_,rfl⟩,sm.put hD⟩;rw[List.getD_eq_getElem?_getD,gM0,gE0 hi]
   rfl
  ·rintro σ' Hc ⟨_,sm⟩ hDn
   refine⟨⟨_,SqT.of (sm _ _ h2),by rw[lM0];omega⟩,q D Hc hD sm ?_⟩
   have:=a4f (Ts.map (·.name)) ("":Str) (fun z=>V.str z)
   rw[lM0] at this;rw[hDn,this]
theorem a7B {f:Addr}{fd:FuncData}(F:Fun K "table_in" "table_in" (top 22) f fd):a0A P w K mg base CX0 1 f fd ["form","table"] a6F:=by
 have sc:a0o ["form","table","entry"] ["form","table"] (a0g (top 22)):=.k (by decide +kernel);refine F.ok sc (fun vs H Q E h=>?_) (fun cdv A outer s H vs Q E hr h=>?_)
 ·obtain⟨f,sz,Ts,T,rfl,_⟩:=h
  rfl
 ·obtain⟨f,sz,Ts,T,rfl,⟨tt,es,h1,h2,h3,h4⟩,nd,hT,q⟩:=h
  refine⟨_,a0b (a0X PassesOwn.never rfl (b2M (a0t a0N (pv 0) a0f (fun _ _=>rfl))) (a0m (i:=2) sc.nd rfl (Or.inl rfl))
    (a0h (a0P (a0q a1V (a0t a0N (pv 2) a0f (fun _ _=>rfl)) (pv 1) (a0G _)) (a0h (a0F (pv 2))) a0s))) a0u,?_⟩
  refine⟨_,rfl,_,_,1,_,rfl,rfl,SqT.of h1,rfl,tt,rfl,⟨_,SqT.of h2⟩,b3V (K:=K) (a:=tt) (xs:=es.map V.ref) (fun i σ H'=>H'=H/\(∃u,σ=[some (.ref f),some (.str T.name),u])/\∀j T',j<i->Ts[j]? =some T'->T'.name≠T.name) ⟨rfl,⟨_,rfl⟩,fun j _ hj=>absurd hj (Nat.not_lt_zero _)⟩ (fun i σ H' _ p=>by rw[p.1];exact SqT.of h2) ?_ ?_⟩
  ·rintro i x σ H' hx ⟨rfl,⟨u,rfl⟩,hn⟩
   have hie:i<es.length:=by
    have:=(gS0.mp hx).1
    rwa [lM0] at this
   have hit:i<Ts.length:=by omega
   rw[gM0,gE0 hie] at hx;cases hx;have ent:=h4 i es[i] Ts[i] (gE0 hie) (gE0 hit);obtain⟨ct,g1,g2⟩:=id ent;refine⟨_,rfl,_,_,0,_,rfl,rfl,SqT.of g1,rfl,_,rfl,rfl,_,rfl,?_⟩;refine a9t (fun hc=>?_) (fun hc=>?_)
   ·have en:Ts[i].name=T.name:=by
     have:=of_decide_eq_true hc
     injection this
    have eT:Ts[i]=T:=by
     obtain⟨k,hk,ek⟩:=List.mem_iff_getElem.mp hT
     have:i=k:=by
      refine(List.getElem_inj (h₀:=by rw[lM0];exact hit) (h₁:=by rw[lM0];exact hk) nd).mp ?_;rw[List.getElem_map,List.getElem_map,ek,en]
     subst this;exact ek
    rw[eT] at ent;exact⟨_,rfl,q _ ent⟩
   ·refine⟨rfl,⟨_,rfl⟩,fun j T' hj hT'=>?_⟩
    by_cases hji:j<i
    ·exact hn j T' hji hT'
    ·have:j=i:=by omega
     subst this;rw[gE0 hit] at hT';cases hT';exact fun e=>hc (by rw[e];exact dT0 rfl)
  ·rintro σ H' ⟨rfl,⟨u,rfl⟩,hn⟩
   obtain⟨k,hk,ek⟩:=List.mem_iff_getElem.mp hT;exact absurd rfl (hn k T (by rw[lM0];omega) (by rw[gE0 hk,ek]))
theorem a5X {f fT:Addr}{fd fdT:FuncData}(F:Fun K "columns_of" "columns_of" (top 21) f fd)(B:Bl mg)(DT:Df K mg "table_in" (top 22) fT fdT):a0A P w K mg base CX0 2 f fd ["form","table"] a4W:=by
 have sc:a0o ["form","table"] ["form","table"] (a0g (top 21)):=.k (by decide +kernel);have GT:a0A P w K mg base CX0 1 fT fdT ["form","table"] a6F:=a7B DT.fn;have bT:=DT.fn.b2 "form" "table" (by intros;rfl);refine F.ok sc (fun vs H Q E h=>?_) (fun cdv A outer s H vs Q E hr h=>?_)
 ·obtain⟨f,sz,Ts,T,rfl,_⟩:=h
  rfl
 ·obtain⟨f,sz,Ts,T,rfl,hf,nd,hT,ndc,c12,q⟩:=h
  refine⟨_,a0h (a0F (a0Z (a7U rfl) (by rfl) B.dict boot_dict (a0a (a0t a0N (a0l GT hr (by rfl) DT.mg DT.fn.kp bT .nil a0E (a0a (pv 0) (a0a (pv 1) a0e))) a0f (fun _ _=>rfl)) a0e))),?_⟩;refine⟨_,rfl,_,rfl,f,sz,Ts,T,rfl,hf,nd,hT,fun e he=>?_⟩;obtain⟨ct,g1,o,ps,ho,hct,hpl,hpz⟩:=he;refine⟨_,_,2,_,rfl,rfl,SqT.of g1,rfl,ct,o,_,kvC T.cols,rfl,hct,ho,(by rw[lM0];omega),(by unfold kvC;rw[lM0,lM0];omega),(fun j k v hj=>?_),?_,fun p hp=>q p _ hp (a0k.upd hp) a0c⟩
  ·unfold kvC at hj
   have hjz:j<T.cols.length:=by
    have:=(gS0.mp hj).1
    rwa [lM0] at this
   have hjp:j<ps.length:=by omega
   rw[gM0,gE0 hjz] at hj;cases hj;exact⟨ps[j],by rw[gM0,gE0 hjp];rfl,SqT.of (hpz j ps[j] T.cols[j] (gE0 hjp) (gE0 hjz))⟩
  ·have e:(kvC T.cols).map (·.1)=(T.cols.map (·.1)).map fun z=>(Sum.inr z:Key):=by
    unfold kvC;rw[mC0,mC0]
    rfl
   rw[e];exact List.Pairwise.map _ (fun a b hab h=>hab (by injection h)) ndc
end
structure Tx (K:Fg0) (mg:Str->Option Value) (CT CO CM:Addr):Prop where
 mT:mg "TableError"=some (.ref CT)
 bT:BIn K CT
 mO:mg "NoTable"=some (.ref CO)
 xO:XCl K CO
 n1:a1d K CO "table"
 n2:a1d K CO "key"
 n3:a1d K CO "place"
 mM:mg "Twice"=some (.ref CM)
 xM:XCl K CM
 m1:a1d K CM "table"
 m2:a1d K CM "key"
 m3:a1d K CM "place"
def stp (z:Str)(k p:V):List (Str×V):=a2Z "place" p (a2Z "key" k [(("table":Str),V.str z)])
theorem b5r {z:Str}{k p:V}:(stp z k p).lookup ("table":Str)=some (.str z):=by
 unfold stp;rw[a0I,if_neg (by decide +kernel),a0I,if_neg (by decide +kernel)]
 rfl
theorem b6F {z:Str}{k p:V}:(stp z k p).lookup ("key":Str)=some k:=by
 unfold stp;rw[a0I,if_neg (by decide +kernel),a0I,if_pos rfl]
theorem b6k {z:Str}{k p:V}:(stp z k p).lookup ("place":Str)=some p:=by
 unfold stp;rw[a0I,if_pos rfl]
def a6w (CO CM:Addr):Sp:=fun vs H Q _=>∃(x C:Addr) (z:Str) (k p:V),vs=[.ref x,.str z,k,p]/\(C=CO\/C=CM)/\H x=some (.ext (a8u x C none)) ∧
 ∀dx H',H dx=none->dx≠x->H' x=some (.ext (a8u x C (some dx)))->H' dx=some (.ext (b4m dx (stp z k p)))->(∀b,b≠x->b≠dx->H' b=H b)->Q .non H'
def b6L (E:XK)(H:Hp)(C:Addr)(z:Str)(k p:V):Prop:=∀dx H',H' dx=some (.ext (b4m dx (stp z k p)))->a0k H H'->E (.ref C) (some dx) H'
section
variable {P:Program}{w:World}{K:Fg0}{mg:Str->Option Value}{base:Heap}{CT CO CM:Addr}
theorem b0S {f:Addr}{fd:FuncData}(F:b1m K "__init__" "StepError.__init__" (a0p (top 2) 0) f fd)(T:Tx K mg CT CO CM):a0A P w K mg base CX0 1 f fd ["self","table","key","place"] (a6w CO CM):=by
 have sc:a0o ["self","table","key","place"] ["self","table","key","place"] (a0g (a0p (top 2) 0)):=.k (by decide +kernel);refine F.ok sc (fun vs H Q E h=>?_) (fun cdv A outer s H vs Q E hr h=>?_)
 ·obtain⟨x,C,z,k,p,rfl,_⟩:=h
  rfl
 ·obtain⟨x,C,z,k,p,rfl,hC,hx,q⟩:=h
  have xC:XCl K C:=by rcases hC with rfl |rfl;exact T.xO;exact T.xM
  have c1:a1d K C "table":=by rcases hC with rfl |rfl;exact T.n1;exact T.m1
  have c2:a1d K C "key":=by rcases hC with rfl |rfl;exact T.n2;exact T.m2
  have c3:a1d K C "place":=by rcases hC with rfl |rfl;exact T.n3;exact T.m3
  refine⟨_,a0b (a0V (b1h (by rfl) T.mT T.bT (a0a (pv 0) (a0a (pv 1) (a0a (pv 2) (a0a (pv 3) a0e))))))
   (a0b (b2o (pv 0) (pv 1) rfl) (a0b (a7J (pv 0) (pv 2) rfl) (a0h (a7J (pv 0) (pv 3) rfl)))),?_⟩
  refine⟨_,rfl,_,rfl,_,rfl,_,rfl,x,C,none,_,rfl,hx,xC,(by show 3<=sizeLine;decide),?_⟩;refine⟨_,rfl,_,rfl,x,C,rfl,hx,xC,c1,fun dx hd ne=>?_⟩;refine⟨_,rfl,_,rfl,x,C,dx,_,rfl,a0c,(by rw[a0d ne];exact a0c),ne,xC,c2,(by show 1<1000;decide),?_⟩;refine⟨_,rfl,_,rfl,x,C,dx,_,rfl,(by rw[a0d (Ne.symm ne)];exact a0c),a0c,ne,xC,c3,?_,?_⟩
  ·have:=a1H "key" k [(("table":Str),V.str z)]
   simp only[List.length_cons,List.length_nil] at this
   omega
  ·exact q dx _ hd ne (by rw[a0d (Ne.symm ne),a0d (Ne.symm ne)];exact a0c) a0c fun b n1 n2=>by rw[a0d n2,a0d n2,a0d n1,a0d n2]
theorem b5H {n:Nat}{E:XS}{σ:L2.St}{D:a3y}{H:Hp}{C:Addr}{z:Str}{k p:V}{t:TA}{E':XK}(T:Tx K mg CT CO CM)(hC:C=CO\/C=CM)(hE:∀c od H',E' c od H'->E c od σ H')(h:∀R,R [.str z,k,p] H->t σ H R)(r:b6L E' H C z k p) :
  b2S n K E (b3b n C (a6w CO CM) [] t) D σ H:=by
 refine h _ ⟨(by show 3<=sizeLine;decide),fun x nx hx=>⟨x,C,z,k,p,rfl,hC,a0c,fun dx H2 hd ne h2x h2d fr=>⟨rfl,x,C,some dx,rfl,h2x,nx,(by rcases hC with rfl |rfl;exact T.xO;exact T.xM),hE _ _ _ ?_⟩⟩⟩;rw[a0d ne] at hd;refine r dx _ (by rw[a1G ne];exact h2d) fun b o e=>?_;have nb:b≠x:=a0j e hx;rw[a1G nb,fr b nb (a0j e hd),a0d nb];exact e
end
end My
namespace L2
open PySem PySem.Spec PyProof.Rows
theorem a9j {H H1:Hp}{r:Addr}{o:HO}(h:H r=none):cut H (upd H1 r o)=upd (cut H H1) r o:=by
 funext b
 by_cases e:b=r
 ·subst e
  rw[a0c,cut];rw[h];exact a0c
 ·rw[a0d e]
  unfold cut
  split
  ·rw[a0d e]
  ·rfl
theorem a3B {H H2:Hp}{a:Addr}{o o':HO}(h:H a=some o'):a0k (cut H H2) (cut H (upd H2 a o)):=fun b u e=>by
 have nb:b≠a:=fun e2=>by rw[e2,cut] at e;rw[h] at e;cases e
 exact a0T (a1t e) (by rw[a0d nb];exact a0z _ _ e)
end L2
namespace My
open PySem L2 PyProof.Rows
seal L2.PE L2.PT L2.PW L2.PS L2.PSs L2.PA L2.PI L2.PG L2.PGs L2.OpR L2.UnR L2.a1r L2.IxR L2.SlR L2.MtR L2.PIf L2.PO L2.MtM L2.PC
abbrev Rw:=List (Str×V)
abbrev Pc:=List (Str×List Rw)
def rK (row:Rw):List (Key×V):=row.map fun c=>(.inr c.1,c.2)
def rD (row:Rw):Dp:=.dic (row.map fun c=>(c.1,.fl c.2))
def a6l (row:Rw):Prop:=(row.map (·.1)).Nodup/\∀c∈row,flt c.2=true
def a4j (H:Hp)(l:Addr)(rows:List Rw):Prop:=∃rs:List Addr,H l=some (.lst (rs.map V.ref))/\rs.length=rows.length/\∀(j:Nat) (r:Addr) (row:Rw),rs[j]? =some r->rows[j]? =some row->H r=some (.dK (rK row))
def zK (zs:List Str)(ls:List Addr):List (Key×V):=zs.zipWith (fun z v=>((Sum.inr z:Key),v)) (ls.map V.ref)
def a2S (H:Hp)(p:Addr)(pc:Pc):Prop:=∃ls:List Addr,H p=some (.dK (zK (pc.map (·.1)) ls))/\ls.length=pc.length/\∀(j:Nat) (l:Addr) (t:Str×List Rw),ls[j]? =some l->pc[j]? =some t->a4j H l t.2
structure b1Z (pc:Pc):Prop where
 nd:(pc.map (·.1)).Nodup
 le:pc.length<=8
 rl:∀t∈pc,t.2.length<=1000
 rw_:∀t∈pc,∀row∈t.2,a6l row
theorem a4j.same {H H':Hp}{l:Addr}{rows:List Rw}(h:a4j H l rows)(s:a0k H H'):a4j H' l rows:=let ⟨rs,a,b,c⟩:=h;⟨rs,s _ _ a,b,fun j r row x y=>s _ _ (c j r row x y)⟩
theorem a2S.same {H H':Hp}{p:Addr}{pc:Pc}(h:a2S H p pc)(s:a0k H H'):a2S H' p pc:=let ⟨ls,a,b,c⟩:=h;⟨ls,s _ _ a,b,fun j l t x y=>(c j l t x y).same s⟩
theorem a6N {row:Rw}(ok:a6l row){k:Key}{a:Addr}:(k,V.ref a)∉rK row:=fun h=>by
 obtain⟨c,hc,e⟩:=mM0.mp h
 injection e with _ e2
 have:=ok.2 c hc
 rw[e2] at this;cases this
theorem b3l {zs:List Str}{ls:List Addr}{j:Nat}{z:Str}{l:Addr}(h1:zs[j]? =some z)(h2:ls[j]? =some l):((.inr z:Key),V.ref l)∈zK zs ls:=by
 refine gI0 (i:=j) ?_;unfold zK;rw[a7G,h1,gM0,h2]
 rfl
theorem b5P {zs:List Str}{ls:List Addr}{j:Nat}{k:Key}{v:V}(h:(zK zs ls)[j]? =some (k,v)):∃z l,zs[j]? =some z/\ls[j]? =some l/\k=.inr z/\v=.ref l:=by
 unfold zK at h;rw[a7G,gM0] at h;cases h1:zs[j]? with
 |none=>rw[h1] at h;cases h
 |some z=>
  cases h2:ls[j]? with
  |none=>rw[h1,h2] at h;cases h
  |some l=>
   rw[h1,h2] at h;cases h;exact⟨z,l,rfl,rfl,rfl,rfl⟩
theorem a9T {zs:List Str}{ls:List Addr}(h:ls.length=zs.length):(zK zs ls).length=zs.length:=by
 unfold zK;exact b0K (by rw[lM0];exact h)
theorem a9R {zs:List Str}{ls:List Addr}{z:Str}{l:Addr}(h:ls.length=zs.length):zK (zs++[z]) (ls++[l])=zK zs ls++[(.inr z,.ref l)]:=by
 unfold zK;rw[mA0,List.zipWith_append (by rw[lM0];exact h.symm)]
 rfl
theorem b3g {zs:List Str}{ls:List Addr}{z:Str}(h:z∉zs):a1k (zK zs ls) (.inr z)=none:=by
 unfold a1k;rw[List.find?_eq_none.mpr fun x hx=>?_]
 ·rfl
 ·obtain⟨k,v⟩:=x
  obtain⟨i,y,h1,h2,e⟩:=a6Y hx;intro hd;have e2:=of_decide_eq_true hd;rw[e] at e2
  injection e2 with e2
  exact h (by rw[<-e2];exact gI0 h1)
theorem a2S.apart {H:Hp}{p:Addr}{pc:Pc}(ok:b1Z pc){ls:List Addr}(hp:H p=some (.dK (zK (pc.map (·.1)) ls)))(hl:ls.length=pc.length){j:Nat}{l:Addr}{t:Str×List Rw}(h1:ls[j]? =some l)(h2:pc[j]? =some t)(hr:a4j H l t.2) :
  l≠p/\∀(r:Addr) (row:Rw),row∈t.2->H r=some (.dK (rK row))->r≠p:=by
 obtain⟨rs,a1,_⟩:=hr;refine⟨(fun e=>by rw[e,hp] at a1;cases a1),fun r row hrow hrr e=>?_⟩;rw[e,hp] at hrr
 injection hrr with e1
 injection e1 with e2
 have hm:((.inr t.1:Key),V.ref l)∈zK (pc.map (·.1)) ls:=b3l (j:=j) (by rw[gM0,h2];rfl) h1;rw[e2] at hm;exact a6N (ok.rw_ t (gI0 h2) row hrow) hm
def a7o:Sp:=fun vs H Q _=>∃(p:Addr) (pc:Pc),vs=[.ref p]/\a2S H p pc/\b1Z pc/\∀p' H',a0k H H'->a2S (cut H H') p' pc->Q (.ref p') H'
section
variable {P:Program}{w:World}{K:Fg0}{mg:Str->Option Value}{base:Heap}
theorem b0z {f:Addr}{fd:FuncData}(F:Fun K "copied" "copied" (top 24) f fd)(B:Bl mg):a0A P w K mg base CX0 1 f fd ["piece"] a7o:=by
 have sc:a0o ["piece","fresh","table","rows"] ["piece"] (a0g (top 24)):=.k (by decide +kernel);refine F.ok sc (fun vs H Q E h=>?_) (fun cdv A outer s H vs Q E hr h=>?_)
 ·obtain⟨p,pc,rfl,_⟩:=h
  rfl
 ·obtain⟨p,pc,rfl,hpc,ok,q⟩:=h
  have hu:=a1T hr;refine⟨_,a0b (a0n (i:=1) sc.nd rfl (Or.inl rfl) a1n) (a0b (a4i (a0X PassesOwn.never rfl (a3k (pv 0)) (a2j rfl (a0y (a0m (i:=2) sc.nd rfl (Or.inl rfl)) (a0y (a0m (i:=3) sc.nd rfl (Or.inl rfl)) a1D)))
    (a0h (a1h hu (pv 1) (pv 2) (a1K (osc:=a0g (top 24)) (N0:=["piece","fresh","table","rows"]) (xs:=["row"]) (fr:=[]) ⟨rfl,by decide +kernel,by decide +kernel,by decide +kernel,by decide,by decide +kernel⟩ rfl rfl rfl (a0S (pv 3))
     (fun s H fp=>a0m (i:=0) (show(["row"]:List Str).Nodup by decide +kernel) rfl (Or.inl rfl)) (fun s H fp=>a1I) (fun s H fp=>a0Z a1C (by rfl) B.dict boot_dict (a0a (pv 0) a0e))) rfl)))) (a0h (a0F (pv 1)))),?_⟩
  obtain⟨ls,hp,hll,hls⟩:=hpc;refine fun fr hfr=>⟨p,_,(a0k.upd hfr) _ _ hp,fun o=>?_⟩;have np:p≠fr:=fun e=>by rw[<-e,hp] at hfr;cases hfr
  generalize hX:upd H fr _=H1;obtain⟨S0,d0⟩:=gz hX hfr;have hfa:(upd H1 p (.frz o (.dK (zK (pc.map (·.1)) ls)))) p=some (.frz o (.dK (zK (pc.map (·.1)) ls))):=a0c;have hb0:a0k H (upd (upd H1 p (.frz o (.dK (zK (pc.map (·.1)) ls)))) p (.dK (zK (pc.map (·.1)) ls))):=S0.trans (a2y (S0 _ _ hp) (a0k.refl _));have d1:(upd H1 p (.frz o (.dK (zK (pc.map (·.1)) ls)))) fr=some (.dK []):=by rw[a0d np.symm];exact d0
  generalize upd H1 p (.frz o (.dK (zK (pc.map (·.1)) ls)))=H2 at *;have kl:(zK (pc.map (·.1)) ls).length=pc.length:=by rw[a9T (by rw[lM0];exact hll),lM0]
  refine⟨_,rfl,p,o,_,rfl,hfa,a3v (a:=p) (o:=o) (kvs:=zK (pc.map (·.1)) ls) (fun i σ H3=>H3 p=some (.frz o (.dK (zK (pc.map (·.1)) ls)))/\a0k H (upd H3 p (.dK (zK (pc.map (·.1)) ls)))/\∃u2 u3,σ=[some (.ref p),some (.ref fr),u2,u3]/\a2S (cut H H3) fr (pc.take i))
   ⟨hfa,hb0,_,_,rfl,[],a0T hfr d1,rfl,fun j l t h=>nomatch h⟩ (fun i σ H3 _ p=>p.1) ?_ ?_⟩
  ·rintro i k v p1 σ H3 hk ⟨h3p,sm,u2,u3,rfl,ls',f1,f2,f3⟩ hp1
   have hi:i<pc.length:=by
    have:=(gS0.mp hk).1
    omega
   obtain⟨z,l,hz,hl,rfl,rfl⟩:=b5P hk;have hil:i<ls.length:=by omega
   rw[gM0,gE0 hi] at hz;cases hz;rw[gE0 hil] at hl;cases hl;have hR:=hls i ls[i] pc[i] (gE0 hil) (gE0 hi);obtain⟨nl,nr⟩:=a2S.apart ok hp hll (gE0 hil) (gE0 hi) hR;obtain⟨rs,a1,a2,a3⟩:=id hR;have okt:=ok.rl pc[i] (gQ0 hi);have T1:=a0k.upd (o:=.tup [kV (.inr pc[i].1),.ref ls[i]]) hp1;refine⟨p1,_,rfl,SqT.of a0c,rfl,_,_,rfl,_,_,rfl,rfl,?_⟩;generalize upd H3 p1 (.tup [kV (.inr pc[i].1),.ref ls[i]])=H4 at T1;have back:∀{b:Addr} {ob:HO},b≠p->H b=some ob->H4 b=some ob:=fun {b ob} nb e=>by
    have:=sm b ob e
    rw[a0d nb] at this;exact T1 _ _ this
   have l4:=back nl a1;refine⟨_,rfl,ls[i],rfl,⟨_,SqL.of l4⟩,fun D hD=>?_⟩;have nH:∀{b:Addr},H4 b=none->H b=none:=fun {b} e=>by
    by_cases nb:b=p
    ·rw[nb,T1 _ _ h3p] at e;cases e
    ·cases e2:H b with
     |none=>rfl
     |some ob=>rw[back nb e2] at e;cases e
   refine a1A rs.length (fun i' ys σ' Hc=>(∃t,σ'=[t])/\a0k H4 Hc/\∃qs:List Addr,ys=qs.map V.ref/\∀(j:Nat) (r:Addr) (row:Rw),qs[j]? =some r->pc[i].2[j]? =some row->H r=none/\r≠D/\r≠fr/\Hc r=some (.dK (rK row))) (by rw[sizeLine_eq];omega) ⟨⟨none,rfl⟩,a0k.upd hD,[],rfl,fun j r row h=>nomatch h⟩ a0c ?_ ?_
   ·rintro i' σ' Hc ys hi' ⟨⟨u,rfl⟩,sc',qs,rfl,hqs⟩ hyl hD'
    rw[lM0] at hyl;have hrow:i'<pc[i].2.length:=by omega
    refine⟨⟨_,V.ref rs[i'],SqL.of (sc' _ _ l4),by rw[gM0,gE0 hi'];rfl⟩,?_⟩;rintro x H' ⟨rfl,hx'⟩;have ex:=hx' _ (SqL.of (sc' _ _ l4));rw[gM0,gE0 hi'] at ex;cases ex;have r0:=a3 i' rs[i'] pc[i].2[i'] (gE0 hi') (gE0 hrow);have r4:=back (nr _ _ (gQ0 hrow) r0) r0;refine⟨_,rfl,rs[i'],_,rfl,.inl (sc' _ _ r4),fun r' hr'=>?_⟩;have T2:=a0k.upd (o:=.dK (rK pc[i].2[i'])) hr';have rD:r'≠D:=fun e=>by rw[e,hD'] at hr';cases hr'
    refine⟨T2 _ _ hD',⟨_,rfl⟩,(sc'.trans T2).put hD,qs++[r'],by rw[mA0];rfl,fun j r row h1 h2=>?_⟩
    by_cases hj:j<qs.length
    ·rw[gL0 hj] at h1
     obtain⟨e1,e2,e4,e3⟩:=hqs j r row h1 h2;exact⟨e1,e2,e4,by rw[a0d e2];exact T2 _ _ e3⟩
    ·have hj':j=qs.length:=by
      have:=(gS0.mp h1).1
      rw[lA0] at this;simp at this
      omega
     subst hj';rw[gR0 (nR0 _),Nat.sub_self] at h1;cases h1;rw[hyl,gE0 hrow] at h2;cases h2;exact⟨nH (a0v sc' hr'),rD,(fun e=>by rw[e,(T1.trans sc') _ _ (a0z _ _ f1)] at hr';cases hr'),by rw[a0d rD];exact a0c⟩
   ·rintro σ' Hc ys ⟨_,sc',qs,rfl,hqs⟩ hDn hyl
    rw[lM0] at hyl;have f1c:=(T1.trans sc') _ _ (a0z _ _ f1);have lt':ls'.length=i:=by rw[f2,lT0];omega
    refine⟨⟨_,SqL.of (sc' _ _ l4),by rw[lM0];exact nR0 _⟩,_,rfl,_,rfl,fr,_,rfl,.inl ⟨_,.inr pc[i].1,f1c,rfl,(by rw[a9T (by rw[lM0];exact f2),lM0,lT0,sizeLine_eq];have:=ok.le;omega),rfl⟩,?_⟩;have hnew:pc[i].1∉(pc.take i).map (·.1):=fun hm=>by
     have nd:=ok.nd;have e:pc.map (·.1)=(pc.take i).map (·.1)++(pc.drop i).map (·.1):=by rw[<-mA0,List.take_append_drop]
     rw[e,List.nodup_append] at nd;refine nd.2.2 _ hm pc[i].1 ?_ rfl;rw[List.drop_eq_getElem_cons hi,mN0];exact List.mem_cons_self
    rw[a1j _ (b3g hnew),<-a9R (by rw[lM0];exact f2)];have nDf:D≠fr:=fun e=>by rw[e,T1 _ _ (a0z _ _ f1)] at hD;cases hD
    refine⟨by rw[a0d np];exact(T1.trans sc') _ _ h3p,fun b ob hb=>?_,_,_,rfl,ls'++[D],a0T hfr ?_,?_,fun j l t h1 h2=>?_⟩
    ·by_cases e:b=p
     ·subst e
      rw[a0c];rw[hp] at hb;exact hb
     ·rw[a0d e,a0d (a0j hb hfr)]
      exact sc' _ _ (back e hb)
    ·rw[a0c,tS0,gE0 hi,mA0]
     rfl
    ·rw[lA0,lt',lT0]
     show i+1=_
     omega
    ·by_cases hj:j<i
     ·rw[gL0 (by omega)] at h1
      have h2':(pc.take i)[j]? =some t:=by
       rw[List.getElem?_take] at h2 ⊢;rw[if_pos (by omega)] at h2 ⊢;exact h2
      obtain⟨qs',b1,b2,b3⟩:=f3 j l t h1 h2';have g:=b3d (H0:=H) (T1.trans sc');have nlf:l≠fr:=fun e=>by rw[e,f1] at b1;cases b1
      refine⟨qs',?_,b2,fun j' r row c1 c2=>?_⟩
      ·rw[a9j hfr,a0d nlf]
       exact g _ _ b1
      ·have b4:=b3 j' r row c1 c2
       have htp:t∈pc:=by
        rw[List.getElem?_take,if_pos hj] at h2';exact gI0 h2'
       have nrf:r≠fr:=fun e=>by
        rw[e,f1] at b4
        injection b4 with e1
        injection e1 with e2
        have hm:((.inr t.1:Key),V.ref l)∈zK ((pc.take i).map (·.1)) ls':=b3l (j:=j) (by rw[gM0,h2'];rfl) h1;rw[e2] at hm;exact a6N (ok.rw_ t htp row (gI0 c2)) hm
       rw[a9j hfr,a0d nrf];exact g _ _ b4
     ·have hj':j=i:=by
       have:=(gS0.mp h1).1
       rw[lA0,lt'] at this;simp at this
       omega
      subst hj';rw[gR0 (by omega),lt',Nat.sub_self] at h1;cases h1;rw[List.getElem?_take,if_pos (by omega),gE0 hi] at h2;cases h2;refine⟨qs,a0T (nH hD) (by rw[a0d nDf];exact hDn),by omega,fun j' r row c1 c2=>?_⟩;obtain⟨e1,e2,nrf,e3⟩:=hqs j' r row c1 c2;exact a0T e1 (by rw[a0d nrf];exact e3)
  ·rintro σ H3 ⟨h3p,sm,u2,u3,rfl,hfin⟩
   rw[kl,List.take_length] at hfin;exact⟨h3p,_,rfl,q fr _ sm (hfin.same (a3B hp))⟩
end
end My
namespace L2
open PySem PySem.Spec PyProof.Rows
theorem a8N {α β:Type}(f:α->β){l1 l2:List β}(h:l1.Perm l2):∀ts:List α,l2=ts.map f->∃us:List α,us.Perm ts/\us.map f=l1:=by
 induction h with
 |nil=>
  intro ts e;cases ts with
  |nil=>exact⟨[],.nil,rfl⟩
  |cons a b=>cases e
 |cons x _ ih=>
  intro ts e;cases ts with
  |nil=>cases e
  |cons a b=>
   rw[mN0] at e
   injection e with e1 e2
   obtain⟨us,h1,h2⟩:=ih b e2;exact⟨a::us,.cons a h1,by rw[mN0,h2,e1]⟩
 |swap x y l=>
  intro ts e
  match ts,e with
  |a::b::r,e=>
   rw[mN0,mN0] at e
   injection e with e1 e2
   injection e2 with e2 e3
   exact⟨b::a::r,.swap a b r,by rw[mN0,mN0,<-e1,<-e2,<-e3]⟩
 |trans _ _ ih1 ih2=>
  intro ts e;obtain⟨us,h1,h2⟩:=ih2 ts e;obtain⟨ws,h3,h4⟩:=ih1 us h2.symm;exact⟨ws,h3.trans h1,h4⟩
def srt {α:Type}(es:List (Int×α)):List (Int×α):=es.mergeSort fun a b=>decide (a.1<=b.1)
theorem a0C {α:Type}(es:List (Int×α)):(srt es).Perm es:=List.mergeSort_perm _ _
theorem b3s {α:Type}(es:List (Int×α)):((srt es).map (·.1)).Pairwise (·<=·):=by
 rw[List.pairwise_map];refine(List.pairwise_mergeSort (le:=fun a b:Int×α=>decide (a.1<=b.1)) (fun a b c h1 h2=>?_) (fun a b=>?_) es).imp (fun h=>of_decide_eq_true h)
 ·exact dT0 (Int.le_trans (of_decide_eq_true h1) (of_decide_eq_true h2))
 ·rcases Int.le_total a.1 b.1 with h |h
  ·rw[dT0 h];rfl
  ·rw[dT0 h,Bool.or_true]
theorem a1y {α:Type}{es:List (Int×α)}{ms:List Int}(h:ms.Perm (es.map (·.1)))(hs:ms.Pairwise (·<=·)):ms=(srt es).map (·.1):=
 List.Perm.eq_of_pairwise (le:=fun a b:Int=>a<=b) (fun a b _ _ h1 h2=>Int.le_antisymm h1 h2) hs (b3s es) (h.trans ((a0C es).map _).symm)
theorem a2l {X:Cx}:MtR X "list.append" b0f:=a5p
end L2
namespace My
open PySem L2 PyProof.Rows
seal L2.PE L2.PT L2.PW L2.PS L2.PSs L2.PA L2.PI L2.PG L2.PGs L2.OpR L2.UnR L2.a1r L2.IxR L2.SlR L2.MtR L2.PIf L2.PO L2.MtM L2.PC
structure En where
 k:Int
 p:Addr
 pc:Pc
def kc (e:En):Int×Pc:=(e.k,e.pc)
def kvT (es:List En):List (Key×V):=es.map fun e=>(.inl e.k,.ref e.p)
structure a1F (H:Hp) (a:Addr) (es:List En):Prop where
 at_:H a=some (.dK (kvT es))
 nd:(es.map (·.k)).Nodup
 le:es.length<=63
 th:∀e∈es,a2S H e.p e.pc
 ok:∀e∈es,b1Z e.pc
theorem a1F.same {H H':Hp}{a:Addr}{es:List En}(h:a1F H a es)(s:a0k H H'):a1F H' a es:=⟨s _ _ h.at_,h.nd,h.le,fun e he=>(h.th e he).same s,h.ok⟩
theorem a0U {α:Type}{f:α->Int}{g:α->V}{l:List α}(nd:(l.map f).Nodup){t:α}(h:t∈l):a1k (l.map fun t=>((Sum.inl (f t):Key),g t)) (.inl (f t))=some (g t):=by
 induction l with
 |nil=>cases h
 |cons a r ih=>
  rw[mN0,List.nodup_cons] at nd
  by_cases e:f a=f t
  ·have:t=a:=by
    rcases mK0.mp h with h |h
    ·exact h
    ·exact absurd (mM0.mpr ⟨t,h,e.symm⟩) nd.1
   subst this;exact a1x rfl
  ·rcases mK0.mp h with h |h
   ·rw[h] at e;exact absurd rfl e
   ·rw[mN0,a1s (p:=((Sum.inl (f a):Key),g a)) (fun e2=>e (by injection e2))]
    exact ih nd.2 h
theorem a1o {α:Type}{f:α->Int}{g:α->V}{l:List α}{k:Int}(h:k∉l.map f):a1k (l.map fun t=>((Sum.inl (f t):Key),g t)) (.inl k)=none:=by
 unfold a1k;rw[List.find?_eq_none.mpr fun x hx=>?_]
 ·rfl
 ·obtain⟨t,ht,rfl⟩:=mM0.mp hx
  intro hd;have e:=of_decide_eq_true hd
  injection e with e
  exact h (mM0.mpr ⟨t,ht,e⟩)
theorem a1F.get {H:Hp}{a:Addr}{es:List En}(h:a1F H a es){e:En}(he:e∈es):a2q H a (.int e.k) (some (.ref e.p)):=.inl ⟨_,.inl e.k,.inl h.at_,rfl,(a0U (f:=En.k) (g:=fun t:En=>V.ref t.p) h.nd he).symm⟩
theorem a1F.non {H:Hp}{a:Addr}{es:List En}(h:a1F H a es){k:Int}(hk:k∉es.map (·.k)):a2q H a (.int k) none:=.inl ⟨_,.inl k,.inl h.at_,rfl,(a1o (f:=En.k) (g:=fun t:En=>V.ref t.p) hk).symm⟩
def tab (pc:Pc)(T:Str):List Rw:=((pc.find? fun t=>decide (t.1=T)).map (·.2)).getD []
theorem b6m {pc:Pc}{T:Str}(h:T∈pc.map (·.1)):∃(i:Nat) (t:Str×List Rw),pc[i]? =some t/\t.1=T/\t.2=tab pc T:=by
 induction pc with
 |nil=>cases h
 |cons a r ih=>
  by_cases e:a.1=T
  ·refine⟨0,a,rfl,e,?_⟩
   unfold tab;rw[List.find?_cons_of_pos (by simpa using e)]
   rfl
  ·rw[mN0] at h
   rcases mK0.mp h with h |h
   ·exact absurd h.symm e
   ·obtain⟨i,t,h1,h2,h3⟩:=ih h
    refine⟨i+1,t,by rw[List.getElem?_cons_succ];exact h1,h2,?_⟩;rw[h3];unfold tab;rw[List.find?_cons_of_neg (by simpa using e)]
theorem a2S.get {H:Hp}{p:Addr}{pc:Pc}(ok:b1Z pc)(h:a2S H p pc){T:Str}(hT:T∈pc.map (·.1)):∃l,a2q H p (.str T) (some (.ref l))/\a4j H l (tab pc T)/\(tab pc T).length<=1000/\∀row∈tab pc T,a6l row:=by
 obtain⟨i,t,h1,rfl,h3⟩:=b6m hT;obtain⟨ls,a1,a2,a3⟩:=h;have hi:i<ls.length:=by have:=(gS0.mp h1).1;omega
 refine⟨ls[i],.inl ⟨_,.inr t.1,.inl a1,rfl,?_⟩,?_,?_,?_⟩
 ·unfold zK
  rw[b3w (i:=i) (z:=t.1) (v:=.ref ls[i]) ok.nd (by rw[gM0,h1];rfl) (by rw[gM0,gE0 hi];rfl)]
 ·rw[<-h3];exact a3 i _ t (gE0 hi) h1
 ·rw[<-h3];exact ok.rl t (gI0 h1)
 ·rw[<-h3];exact ok.rw_ t (gI0 h1)
theorem a7y (es:List En):(kvT es).map (·.1)=((es.map kc).map (·.1)).map Sum.inl:=by
 unfold kvT;rw[mC0,mC0,mC0]
 rfl
def a1E (T:Str)(es:List (Int×Pc)):List (Int×Nat×Rw):=es.flatMap fun e=>(tab e.2 T).mapIdx fun i row=>(e.1,i,row)
def RIn (HO H:Hp)(l:Addr)(cs:List (Int×Nat×Rw)):Prop:=∃xs rs:List Addr,H l=some (.lst (xs.map V.ref))/\xs.length=cs.length/\rs.length=cs.length/\∀(j:Nat) (x r:Addr) (c:Int×Nat×Rw),xs[j]? =some x->rs[j]? =some r->cs[j]? =some c->H x=some (.tup [.int c.1,.int (c.2.1:Nat),.ref r])/\HO r=some (.dK (rK c.2.2))
theorem RIn.same {HO H H':Hp}{l:Addr}{cs:List (Int×Nat×Rw)}(h:RIn HO H l cs)(s:a0k H H'):RIn HO H' l cs:=let ⟨xs,rs,a,b,c,d⟩:=h;⟨xs,rs,s _ _ a,b,c,fun j x r k e1 e2 e3=>⟨s _ _ (d j x r k e1 e2 e3).1,(d j x r k e1 e2 e3).2⟩⟩
theorem RIn.snoc {HO H H':Hp}{l x r:Addr}{cs:List (Int×Nat×Rw)}{c:Int×Nat×Rw}{xs rs:List Addr}(a1:H' l=some (.lst ((xs++[x]).map V.ref)))(a2:xs.length=cs.length)(a3:rs.length=cs.length)
  (a4:∀(j:Nat) (x r:Addr) (c:Int×Nat×Rw),xs[j]? =some x->rs[j]? =some r->cs[j]? =some c->H x=some (.tup [.int c.1,.int (c.2.1:Nat),.ref r])/\HO r=some (.dK (rK c.2.2))) (s:∀b o,b≠l->H b=some o->H' b=some o) (nl:∀ys,H l=some (.lst ys)\/True) (hl:∃ys,H l=some (.lst ys))
  (hx:H' x=some (.tup [.int c.1,.int (c.2.1:Nat),.ref r])) (hr:HO r=some (.dK (rK c.2.2))):RIn HO H' l (cs++[c]):=by
 refine⟨xs++[x],rs++[r],a1,by rw[lA0,lA0,a2];rfl,by rw[lA0,lA0,a3];rfl,fun j y q k e1 e2 e3=>?_⟩
 by_cases hj:j<cs.length
 ·rw[gL0 (by omega)] at e1 e2 e3
  obtain⟨g1,g2⟩:=a4 j y q k e1 e2 e3;obtain⟨ys,hl⟩:=hl;exact⟨s _ _ (fun e=>by rw[e,hl] at g1;cases g1) g1,g2⟩
 ·have hj':j=cs.length:=by
   have:=(gS0.mp e3).1
   rw[lA0] at this;simp at this
   omega
  subst hj';rw[gR0 (by omega)] at e1 e2 e3;rw[a2,Nat.sub_self] at e1;rw[a3,Nat.sub_self] at e2;rw[Nat.sub_self] at e3;cases e1;cases e2;cases e3;exact⟨hx,hr⟩
def a5g:Sp:=fun vs H Q _=>∃(a:Addr) (T:Str) (es:List En),vs=[.ref a,.str T]/\a1F H a es/\(∀e∈es,T∈e.pc.map (·.1))/\(a1E T (srt (es.map kc))).length<=100000/\∀l H',a0k H H'->RIn H (cut H H') l (a1E T (srt (es.map kc)))->Q (.ref l) H'
section
variable {P:Program}{w:World}{K:Fg0}{mg:Str->Option Value}{base:Heap}
theorem a6g {f:Addr}{fd:FuncData}(F:Fun K "rows_in" "rows_in" (top 37) f fd)(B:Bl mg):a0A P w K mg base CX0 1 f fd ["things","table"] a5g:=by
 have sc:a0o ["things","table","found","key","place","row"] ["things","table"] (a0g (top 37)):=.k (by decide +kernel);refine F.ok sc (fun vs H Q E h=>?_) (fun cdv A outer s H vs Q E hr h=>?_)
 ·obtain⟨a,T,es,rfl,_⟩:=h
  rfl
 ·obtain⟨a,T,es,rfl,hts,hT,hbig,q⟩:=h
  have hu:=a1T hr;refine⟨_,a0b (a0n (i:=2) sc.nd rfl (Or.inl rfl) (a1f a0e)) (a0b (a0X PassesOwn.never rfl (a0S (a0D (a0J rfl) (by rfl) B.sorted boot_sorted (a0a (pv 0) a0e))) (a0m (i:=3) sc.nd rfl (Or.inl rfl))
    (a0h (a0X PassesOwn.never rfl (a6V (by rfl) B.enum (a0a (a0L hu (a0L hu (pv 0) (pv 3) (fun _ _=>rfl)) (pv 1) (fun _ _=>rfl)) a0e)) (a2j rfl (a0y (a0m (i:=4) sc.nd rfl (Or.inl rfl)) (a0y (a0m (i:=5) sc.nd rfl (Or.inl rfl)) a1D)))
     (a0h (a0V (a3q PySem.F.plainAttrs_list PySem.F.slot_list_append PySem.F.type_list_append a2l (pv 2) (a0a (a0H (a0a (pv 3) (a0a (pv 4) (a0a (pv 5) a0e)))) a0e)))))))
   (a0h (a0F (pv 2)))),?_⟩
  refine⟨zL0 _,fun fo hfo=>?_⟩;generalize hX:upd H fo _=H0;obtain⟨S0,f0⟩:=gz hX hfo;refine⟨_,rfl,a,_,(es.map kc).map (·.1),rfl,.inl (S0 _ _ hts.at_),a7y es,(by rw[lM0,lM0];have:=hts.le;omega),fun l ms hl hp hs=>?_⟩;obtain rfl:=a1y hp hs;obtain⟨us,hus,huk⟩:=a8N kc (a0C (es.map kc)) es rfl;rw[<-huk] at hbig q;have S1:=a0k.upd (o:=.lst (((srt (es.map kc)).map (·.1)).map V.int)) hl;have l1:(upd H0 l (.lst (((srt (es.map kc)).map (·.1)).map V.int))) l=some (.lst (us.map fun u=>V.int u.k)):=by
   rw[a0c,<-huk,mC0,mC0]
   rfl
  generalize upd H0 l (.lst (((srt (es.map kc)).map (·.1)).map V.int))=H1 at *;have S01:=S0.trans S1;have nlf:l≠fo:=fun e=>by rw[e,f0] at hl;cases hl
  refine⟨l,rfl,⟨_,SqL.of l1⟩,a0W (K:=K) (a:=l) (xs:=us.map fun u=>V.int u.k) (fun i σ H2=>a0k H H2/\H2 l=some (.lst (us.map fun u=>V.int u.k))/\∃(u3 u4 u5:Option V),σ=[some (.ref a),some (.str T),some (.ref fo),u3,u4,u5]/\RIn H (cut H H2) fo (a1E T ((us.map kc).take i))) ⟨S01,l1,_,_,_,rfl,[],[],a0T hfo (S1 _ _ f0),rfl,rfl,fun j x r c h=>nomatch h⟩ (fun i σ H2 _ p=>SqL.of p.2.1) ?_ ?_⟩
  ·rintro i x σ H2 hx ⟨sm,hl2,u3,u4,u5,rfl,hR⟩
   have hi:i<us.length:=by
    have:=(gS0.mp hx).1
    rwa [lM0] at this
   rw[gM0,gE0 hi] at hx;cases hx;have hum:us[i]∈es:=hus.mem_iff.mp (gQ0 hi);obtain⟨lr,g1,g2,g3,g4⟩:=a2S.get (hts.ok _ hum) (hts.th _ hum) (hT _ hum);have g1':∀{H5:Hp},a0k H H5->a2q H5 us[i].p (.str T) (some (.ref lr)):=fun {H5} s5=>by
    rcases g1 with ⟨kvs,k,e1,e2,e3⟩ |⟨_,_,b,_,e2,_⟩
    ·rcases e1 with e1 |⟨ob,e1⟩
     ·exact .inl ⟨kvs,k,.inl (s5 _ _ e1),e2,e3⟩
     ·exact .inl ⟨kvs,k,.inr ⟨ob,s5 _ _ e1⟩,e2,e3⟩
    ·cases e2
   obtain⟨rs,b1,b2,b3⟩:=g2;refine⟨_,rfl,_,rfl,a,_,rfl,(hts.same sm).get hum,_,rfl,_,_,rfl,g1' sm,_,rfl,⟨_,SqL.of (sm _ _ b1)⟩,?_⟩;have tk1:∀j,j<=(tab us[i].pc T).length->(a1E T ((us.map kc).take i)++((tab us[i].pc T).take j).mapIdx fun n row=>(us[i].k,n,row)).length<=100000:=fun j hj=>by
    have e:(a1E T (us.map kc))=a1E T ((us.map kc).take i)++((tab us[i].pc T).mapIdx (fun n row=>(us[i].k,n,row))++a1E T ((us.map kc).drop (i+1))):=by
     have:us.map kc=(us.map kc).take i++(kc us[i]::(us.map kc).drop (i+1)):=by
      rw[<-List.map_take,<-List.map_drop];rw[<-mN0 (f:=kc),<-mA0];rw[<-List.drop_eq_getElem_cons hi,List.take_append_drop]
     conv=>lhs;rw[this]
     unfold a1E;rw[List.flatMap_append,List.flatMap_cons]
     rfl
    have hb:=hbig;rw[e,lA0,lA0,lI0] at hb;rw[lA0,lI0,lT0]
    omega
   refine a4U (K:=K) (a:=lr) (xs:=rs.map V.ref) (fun j σ H3=>a0k H H3/\H3 l=some (.lst (us.map fun u=>V.int u.k))/\∃(u4 u5:Option V),σ=[some (.ref a),some (.str T),some (.ref fo),some (.int us[i].k),u4,u5]/\RIn H (cut H H3) fo (a1E T ((us.map kc).take i)++((tab us[i].pc T).take j).mapIdx fun n row=>(us[i].k,n,row))) ⟨sm,hl2,_,_,rfl,by rw[List.take_zero];simpa using hR⟩ (fun j σ H3 _ p=>SqL.of (p.1 _ _ b1)) ?_ ?_
   ·rintro j x p σ H3 hx ⟨sm3,hl3,u4,u5,rfl,xs3,rs3,q1,q2,q3,q4⟩ hp
    have hj:j<rs.length:=by
     have:=(gS0.mp hx).1
     rwa [lM0] at this
    have hjt:j<(tab us[i].pc T).length:=by omega
    rw[gM0,gE0 hj] at hx;cases hx;have T1:=a0k.upd (o:=.tup [.int (j:Nat),.ref rs[j]]) hp;refine⟨p,_,rfl,SqT.of a0c,rfl,_,_,rfl,_,_,rfl,rfl,?_⟩;generalize upd H3 p (.tup [.int (j:Nat),.ref rs[j]])=H4 at T1;have fo4:=T1 _ _ (a0z _ _ q1);refine⟨_,rfl,.inl ⟨rfl,_,SqL.of fo4⟩,_,rfl,_,rfl,_,rfl,(by show 3<=sizeLine;decide),fun t ht=>?_⟩;have T2:=a0k.upd (o:=.tup [.int us[i].k,.int (j:Nat),.ref rs[j]]) ht;have t2:(upd H4 t (.tup [.int us[i].k,.int (j:Nat),.ref rs[j]])) t=some (.tup [.int us[i].k,.int (j:Nat),.ref rs[j]]):=a0c;generalize upd H4 t (.tup [.int us[i].k,.int (j:Nat),.ref rs[j]])=H5 at T2 t2;have T12:=T1.trans T2;have tf:t≠fo:=fun e=>by rw[e,fo4] at ht;cases ht
    have hle:=tk1 j (by omega);refine⟨fo,_,_,rfl,rfl,T2 _ _ fo4,(by rw[lM0,q2,sizeLine_eq];omega),?_⟩;refine⟨(sm3.trans T12).put hfo,by rw[a0d nlf];exact T12 _ _ hl3,_,_,rfl,?_⟩;have e2:(tab us[i].pc T).take (j+1)=(tab us[i].pc T).take j++[(tab us[i].pc T)[j]]:=by rw[tS0,gE0 hjt];rfl
    rw[e2,List.mapIdx_concat,<-List.append_assoc];refine RIn.snoc (H:=cut H H3) (x:=t) (r:=rs[j]) (xs:=xs3) (rs:=rs3) (a0T hfo (by rw[a0c,mA0];rfl)) q2 q3 q4 (fun b ob nb e=>a0T (a1t e) (by rw[a0d nb];exact T12 _ _ (a0z _ _ e))) (fun _=>.inr trivial) ⟨_,q1⟩ (a0T (a0v (sm3.trans T1) ht) ?_) (b3 j _ _ (gE0 hj) (gE0 hjt));rw[a0d tf,t2,lT0];rw[Nat.min_eq_left (by omega)]
   ·rintro σ H3 ⟨sm3,hl3,u4,u5,rfl,rr⟩
    rw[lM0,b2,List.take_length] at rr;refine⟨sm3,hl3,_,_,_,rfl,?_⟩;have e:a1E T ((us.map kc).take (i+1))=a1E T ((us.map kc).take i)++(tab us[i].pc T).mapIdx fun n row=>(us[i].k,n,row):=by
     rw[tS0,gM0,gE0 hi];unfold a1E;rw[List.flatMap_append];show _++List.flatMap _ [kc us[i]]=_;rw[List.flatMap_singleton]
     rfl
    rw[e];exact rr
  ·rintro σ H2 ⟨sm,hl2,u3,u4,u5,rfl,rr⟩
   rw[lM0,<-lM0 (f:=kc),List.take_length] at rr;exact⟨_,rfl,q fo H2 sm rr⟩
structure a7j (H:Hp) (f:Addr) (sz:Int) (Ts:List Tb):Prop where
 at_:a2d H f sz Ts
 nd:(Ts.map (·.name)).Nodup
 le:Ts.length<=8
 cn:∀T∈Ts,(T.cols.map (·.1)).Nodup/\T.cols.length<=12
theorem a7j.same {H H':Hp}{f:Addr}{sz:Int}{Ts:List Tb}(h:a7j H f sz Ts)(s:a0k H H'):a7j H' f sz Ts:=⟨h.at_.same s,h.nd,h.le,h.cn⟩
abbrev Kyf:=Str->Str->Bool
def kz (b:Bool):Str:=if b then "once" else "whole"
def b3j (H:Hp)(Ts:List Tb)(ky:Kyf):Prop:=∀T∈Ts,∀c∈T.cols,∃vs,H c.2=some (.tup (.str (kz (ky T.name c.1))::vs))
theorem b3j.same {H H':Hp}{Ts:List Tb}{ky:Kyf}(h:b3j H Ts ky)(s:a0k H H'):b3j H' Ts ky:=fun T hT c hc=>let ⟨vs,e⟩:=h T hT c hc;⟨vs,s _ _ e⟩
theorem valC {cols:List (Str×Addr)}(nd:(cols.map (·.1)).Nodup){c:Str×Addr}(h:c∈cols):a1k (kvC cols) (.inr c.1)=some (.ref c.2):=by
 induction cols with
 |nil=>cases h
 |cons a r ih=>
  rw[mN0,List.nodup_cons] at nd;unfold kvC at ih ⊢;rw[mN0]
  by_cases e:a.1=c.1
  ·have:c=a:=by
    rcases mK0.mp h with h |h
    ·exact h
    ·exact absurd (mM0.mpr ⟨c,h,e.symm⟩) nd.1
   subst this;exact a1x rfl
  ·rcases mK0.mp h with h |h
   ·rw[h] at e;exact absurd rfl e
   ·rw[a1s (p:=((Sum.inr a.1:Key),V.ref a.2)) (fun e2=>e (by injection e2))]
    exact ih nd.2 h
def a4z (H:Hp)(p:Addr)(zs:List (Str×Str)):Prop:=∃ts:List Addr,H p=some (.lst (ts.map V.ref))/\ts.length=zs.length/\∀(j:Nat) (t:Addr) (z:Str×Str),ts[j]? =some t->zs[j]? =some z->H t=some (.tup [.str z.1,.str z.2])
theorem a4z.same {H H':Hp}{p:Addr}{zs:List (Str×Str)}(h:a4z H p zs)(s:a0k H H'):a4z H' p zs:=let ⟨ts,a,b,c⟩:=h;⟨ts,s _ _ a,b,fun j t z x y=>s _ _ (c j t z x y)⟩
theorem a4z.snoc {H:Hp}{p t:Addr}{zs:List (Str×Str)}{z:Str×Str}{ts:List Addr}(a:H p=some (.lst (ts.map V.ref)))(b:ts.length=zs.length)(c:∀(j:Nat) (t:Addr) (z:Str×Str),ts[j]? =some t->zs[j]? =some z->H t=some (.tup [.str z.1,.str z.2]))(ht:H t=some (.tup [.str z.1,.str z.2])):a4z (upd H p (.lst (ts.map V.ref++[V.ref t]))) p (zs++[z]):=by
 have k:∀{x:Addr} {vs:List V},H x=some (.tup vs)->(upd H p (.lst (ts.map V.ref++[V.ref t]))) x=some (.tup vs):=fun {x vs} e=>(a0d (fun z=>by rw[z,a] at e;cases e)).trans e;refine⟨ts++[t],by rw[a0c,mA0];rfl,by rw[lA0,lA0,b];rfl,fun j t' z' h1 h2=>?_⟩
 by_cases hj:j<ts.length
 ·rw[gL0 hj] at h1
  rw[gL0 (by omega)] at h2;exact k (c j t' z' h1 h2)
 ·have hj':=(gS0.mp h1).1
  rw[lA0,lS0] at hj';obtain rfl:j=ts.length:=by omega
  rw[gR0 (nR0 _),Nat.sub_self] at h1;rw[b,gR0 (nR0 _),Nat.sub_self] at h2;cases h1;cases h2;exact k ht
def b2L (hit:Kyf)(T:Tb)(ys:List Str):List (Str×Str):=(ys.filter (hit T.name)).map fun c=>(T.name,c)
def b3U (hit:Kyf)(Ts:List Tb)(zs:List (Str×Str)):Prop:=∃yss:List (List Str),yss.length=Ts.length/\(∀(j:Nat) (T:Tb) (ys:List Str),Ts[j]? =some T->yss[j]? =some ys->ys.Perm (T.cols.map (·.1))/\PyProof.Rows.sortedS ys=true)/\zs=(List.zipWith (b2L hit) Ts yss).flatten
def b5T:Sp:=fun vs H Q _=>∃(f:Addr) (sz:Int) (Ts:List Tb) (z:Str) (ky hit:Kyf),vs=[.ref f,.str z]/\a7j H f sz Ts/\b3j H Ts ky/\((z="key"/\hit=fun _ _=>false)\/(z="once"/\hit=ky))/\∀p zs H',a0k H H'->b3U hit Ts zs->a4z H' p zs->Q (.ref p) H'
theorem b5m {f fT fC fI:Addr}{fd fdT fdC fdI:FuncData}(F:Fun K "columns_by_sort" "columns_by_sort" (top 34) f fd)(B:Bl mg)(DT:Df K mg "tables_of" (top 18) fT fdT)(DC:Df K mg "columns_of" (top 21) fC fdC)(DI:Df K mg "table_in" (top 22) fI fdI):a0A P w K mg base CX0 3 f fd ["form","sort"] b5T:=by
 have sc:a0o ["form","sort","found","table","columns","column"] ["form","sort"] (a0g (top 34)):=.k (by decide +kernel);have GT:a0A P w K mg base CX0 1 fT fdT ["form"] a3M:=a2M DT.fn;have bT:=DT.fn.b1 "form" (by intros;rfl);have GC:a0A P w K mg base CX0 2 fC fdC ["form","table"] a4W:=a5X DC.fn B DI;have bC:=DC.fn.b2 "form" "table" (by intros;rfl);refine F.ok sc (fun vs H Q E h=>?_) (fun cdv A outer s H vs Q E hr h=>?_)
 ·obtain⟨f,sz,Ts,z,ky,hit,rfl,_⟩:=h
  rfl
 ·obtain⟨f,sz,Ts,z,ky,hit,rfl,hf,hky,nz,q⟩:=h
  have hr1:a1u 1 _:=hr.mono (by decide);have hu:=a1T hr;refine⟨_,a0b (a0n (i:=2) sc.nd rfl (Or.inl rfl) (a1f a0e)) (a0b (a0X PassesOwn.never rfl (a0S (a0l GT hr1 (by rfl) DT.mg DT.fn.kp bT .nil a0E (a0a (pv 0) a0e))) (a0m (i:=3) sc.nd rfl (Or.inl rfl))
    (a0b (a0n (i:=4) sc.nd rfl (Or.inl rfl) (a0l GC hr (by rfl) DC.mg DC.fn.kp bC .nil a0E (a0a (pv 0) (a0a (pv 3) a0e))))
     (a0h (a0X PassesOwn.never rfl (a0S (a0D (a5m rfl) (by rfl) B.sorted boot_sorted (a0a (pv 4) a0e))) (a0m (i:=5) sc.nd rfl (Or.inl rfl))
      (a0h (a0P (a0q a1V (a0t a0N (a0L hu (pv 4) (pv 5) (fun _ _=>rfl)) a0f (fun _ _=>rfl)) (pv 1) (a0G _)) (a0h (a0V (a3q PySem.F.plainAttrs_list PySem.F.slot_list_append PySem.F.type_list_append a2l (pv 2) (a0a (a0H (a0a (pv 3) (a0a (pv 5) a0e))) a0e)))) a0s)))))) (a0h (a0F (pv 2)))),?_⟩
  refine⟨zL0 _,fun fo hfo0=>?_⟩;generalize hX:upd H fo _=H0;obtain⟨S0,f0⟩:=gz hX hfo0;refine⟨_,rfl,f,sz,_,rfl,hf.at_.same S0,hf.le,fun p H1 hp s1 p1=>?_⟩;have S1:=S0.trans s1;have pfo:p≠fo:=fun e=>by rw[e,f0] at hp;cases hp
  have tn:∀i,(h:i<Ts.length)->((Ts.map (·.name)).map V.str)[i]? =some (V.str Ts[i].name):=fun i h=>by rw[gM0,gM0,gE0 h];rfl
  refine⟨p,rfl,⟨_,SqL.of p1⟩,a0W (K:=K) (a:=p) (xs:=(Ts.map (·.name)).map V.str) (fun i σ H2=>a0k H H2/\H2 p=some (.lst ((Ts.map (·.name)).map V.str))/\(∃u3 u4 u5,σ=[some (.ref f),some (.str z),some (.ref fo),u3,u4,u5])/\∃zs,b3U hit (Ts.take i) zs/\a4z H2 fo zs/\zs.length<=12 * i) ⟨S1,p1,⟨_,_,_,rfl⟩,[],⟨[],rfl,(fun j T ys h=>nomatch h),rfl⟩,⟨[],s1 _ _ f0,rfl,(fun j t z h=>nomatch h)⟩,nR0 _⟩ (fun i σ H2 _ p=>SqL.of p.2.1) ?_ ?_⟩
  ·rintro i x σ H2 hx ⟨s2,p2,⟨u3,u4,u5,rfl⟩,zs,hcb,hpr,zl⟩
   have hi:i<Ts.length:=by have:=(gS0.mp hx).1;simpa using this
   rw[tn i hi] at hx;cases hx;have hT:Ts[i]∈Ts:=gQ0 hi;obtain⟨cnd,cle⟩:=hf.cn _ hT;have i8:=hf.le;refine⟨_,rfl,_,rfl,f,sz,Ts,Ts[i],rfl,hf.at_.same s2,hf.nd,hT,cnd,cle,fun c H3 hc s3 c3=>?_⟩;refine⟨_,rfl,c,_,Ts[i].cols.map (·.1),rfl,.inl c3,(by unfold kvC;rw[mC0,mC0];rfl),(by rw[lM0];omega),fun l ys hl hp' hs=>?_⟩;generalize hX:upd H3 l _=H4;obtain⟨T4,l4⟩:=gz hX hl;have hfo3:∃vs,H3 fo=some (.lst vs):=let ⟨ts,a,_⟩:=hpr;⟨_,s3 _ _ a⟩
   have nlf:l≠fo:=fun e=>by obtain⟨vs,h⟩:=hfo3;rw[<-e,hl] at h;cases h
   have npf:p≠fo:=pfo;have S4:=s2.trans (s3.trans T4);have yl:ys.length<=12:=by have:=hp'.length_eq;rw[lM0] at this;omega
   refine⟨l,rfl,⟨_,SqL.of l4⟩,a0W (K:=K) (a:=l) (xs:=ys.map V.str) (fun j σ H5=>a0k H H5/\(∀b o,b≠fo->H4 b=some o->H5 b=some o)/\(∃u5,σ=[some (.ref f),some (.str z),some (.ref fo),some (.str Ts[i].name),some (.ref c),u5])/\a4z H5 fo (zs++b2L hit Ts[i] (ys.take j))/\(b2L hit Ts[i] (ys.take j)).length<=j) ⟨S4,fun b o _ e=>e,⟨_,rfl⟩,by rw[show b2L hit Ts[i] (ys.take 0)=[] from rfl,List.append_nil];exact hpr.same (s3.trans T4),nR0 _⟩ (fun i σ H2 _ p=>SqL.of (p.2.1 _ _ nlf l4)) ?_ ?_⟩
   ·rintro j x σ H5 hx ⟨s5,k5,⟨u5,rfl⟩,pr5,cl5⟩
    have hj:j<ys.length:=by have:=(gS0.mp hx).1;rwa [lM0] at this
    rw[gM0,gE0 hj] at hx;cases hx;obtain⟨cc,hcc,ecc⟩:=mM0.mp (hp'.mem_iff.mp (gQ0 hj));obtain⟨kvs0,k00⟩:=hky _ hT cc hcc;have k1:=s5 _ _ k00;have ncf:c≠fo:=fun e=>by
     obtain⟨ts,a,_⟩:=hpr
     have:=s3 _ _ a
     rw[<-e,c3] at this;cases this
    have c5:=k5 _ _ ncf (T4 _ _ c3);have et:b2L hit Ts[i] (ys.take (j+1))=b2L hit Ts[i] (ys.take j)++(if hit Ts[i].name ys[j]=true then[(Ts[i].name,ys[j])] else[]):=by
     unfold b2L;rw[tS0,gE0 hj,List.filter_append,mA0]
     congr 1
     show((List.filter (hit Ts[i].name) [ys[j]]).map _)=_
     by_cases hh:hit Ts[i].name ys[j]=true
     ·rw[List.filter_cons_of_pos hh,if_pos hh];rfl
     ·rw[List.filter_cons_of_neg hh,if_neg hh];rfl
    refine⟨_,rfl,_,rfl,c,_,rfl,.inl ⟨_,.inr ys[j],.inl c5,rfl,(by rw[<-ecc];exact(valC cnd hcc).symm)⟩,_,_,0,.str (kz (ky Ts[i].name cc.1)),rfl,rfl,SqT.of k1,a0M (j:=0) rfl,_,rfl,rfl,_,rfl,?_⟩;have eq:(decide (V.str (kz (ky Ts[i].name cc.1))=V.str z))=hit Ts[i].name ys[j]:=by
     rw[<-ecc];rcases nz with ⟨rfl,rfl⟩ |⟨rfl,rfl⟩
     ·refine dF0 fun e=>?_
      injection e with e
      unfold kz at e
      split at e<;>exact absurd e (by decide +kernel)
     ·cases hk:hit Ts[i].name cc.1 with
      |true=>exact dT0 rfl
      |false=>
       refine dF0 fun e=>?_
       injection e with e
       exact absurd e (by decide +kernel)
    cases hh:hit Ts[i].name ys[j] with
    |false=>
     rw[hh] at eq;rw[if_neg (by rw[hh];decide),List.append_nil] at et;exact a2H eq ⟨s5,k5,⟨_,rfl⟩,by rw[et];exact pr5,by rw[et];omega⟩
    |true=>
     rw[hh] at eq;rw[if_pos hh] at et;refine a6n eq ?_;obtain⟨ts,a1,a2,a3⟩:=pr5;refine⟨_,rfl,.inl ⟨rfl,_,SqL.of a1⟩,_,rfl,_,rfl,(by show 2<=sizeLine;decide),fun t ht=>?_⟩;have T6:=a0k.upd (o:=.tup [V.str Ts[i].name,.str ys[j]]) ht;have ln:=a2;rw[lA0] at ln;refine⟨fo,_,_,rfl,rfl,T6 _ _ a1,(by rw[lM0,sizeLine_eq];omega),?_⟩;refine⟨(s5.trans T6).put hfo0,fun b o nb e=>(a0d nb).trans (T6 _ _ (k5 b o nb e)),⟨_,rfl⟩,?_,by rw[et,lA0,lS0];omega⟩;rw[et,<-List.append_assoc];exact a4z.snoc (z:=(Ts[i].name,ys[j])) (T6 _ _ a1) a2 (fun j t z h1 h2=>T6 _ _ (a3 j t z h1 h2)) a0c
   ·rintro σ H5 ⟨s5,k5,⟨u5,rfl⟩,pr5,cl5⟩
    rw[lM0] at cl5 pr5;rw[List.take_length] at cl5 pr5;refine⟨s5,k5 _ _ npf (T4 _ _ (s3 _ _ p2)),⟨_,_,_,rfl⟩,_,?_,pr5,by rw[lA0];omega⟩;obtain⟨yss,b1,b2,b3⟩:=hcb;have tl:(Ts.take i).length=i:=by rw[lT0];omega
    refine⟨yss++[ys],by rw[lA0,b1,lT0,lT0];show _+1=_;omega,fun j T ys' h1 h2=>?_,?_⟩
    ·by_cases hj:j<i
     ·rw[gL0 (by omega)] at h2
      refine b2 j T ys' ?_ h2;rw[List.getElem?_take_of_lt (by omega)] at h1;rw[List.getElem?_take_of_lt hj];exact h1
     ·have hj':=(gS0.mp h2).1
      rw[lA0,lS0] at hj';obtain rfl:j=i:=by omega
      rw[gR0 (by omega),show j-yss.length=0 by omega] at h2;cases h2;rw[List.getElem?_take_of_lt (by omega),gE0 hi] at h1;cases h1;exact⟨hp',hs⟩
    ·rw[tS0,gE0 hi,List.zipWith_append (by omega),List.flatten_append,<-b3]
     show _=zs++(b2L hit Ts[i] ys++[]);rw[List.append_nil]
  ·rintro σ H2 ⟨s2,p2,⟨u3,u4,u5,rfl⟩,zs,hcb,hpr,zl⟩
   rw[lM0,lM0,List.take_length] at hcb;exact⟨_,rfl,q fo zs H2 s2 hcb hpr⟩
end
def b3c (row:Rw)(c:Str):V:=(a1k (rK row) (.inr c)).getD .non
def b5W:V->Key
 | .int g=>.inl g
 | .str z=>.inr z
 |_=>.inr ""
theorem a6T (k:Key):b5W (kV k)=k:=by cases k<;>rfl
def KyR (c:Str)(x:Int×Nat×Rw):Key:=b5W (b3c x.2.2 c)
def tw {α β:Type}[DecidableEq β](g:α->β):List β->List α->Option α
 |_,[]=>none
 |s,x::r=>if g x∈s then some x else tw g (s++[g x]) r
theorem tw_ix {α β:Type}[DecidableEq β]{g:α->β}:∀{l:List α} {s:List β} {i:Nat} {x:α},l[i]? =some x->g x∈s++(l.take i).map g->(∀(j:Nat) (y:α),j<i->l[j]? =some y->g y∉s++(l.take j).map g)->tw g s l=some x
 |[],s,i,x,hi,_,_=>by simp at hi
 |a::r,s,0,x,hi,hx,_=>by
  cases hi;unfold tw;rw[if_pos (by simpa using hx)]
 |a::r,s,i+1,x,hi,hx,hp=>by
  have h0:g a∉s:=by simpa using hp 0 a (by omega) rfl
  unfold tw;rw[if_neg h0];refine tw_ix (i:=i) hi ?_ fun j y hj hy=>?_
  ·rw[List.append_assoc]
   exact hx
  ·have:=hp (j+1) y (by omega) hy
   rw[List.append_assoc];exact this
theorem tw_non {α β:Type}[DecidableEq β]{g:α->β}:∀{l:List α} {s:List β},(∀(j:Nat) (y:α),l[j]? =some y->g y∉s++(l.take j).map g)->tw g s l=none
 |[],s,_=>rfl
 |a::r,s,hp=>by
  have h0:g a∉s:=by simpa using hp 0 a rfl
  unfold tw;rw[if_neg h0];refine tw_non fun j y hy=>?_
  have:=hp (j+1) y hy
  rw[List.append_assoc];exact this
theorem b1V {α:Type}{g:α->Key}{h:α->V}{l:List α}{y:α}(hy:y∈l):(a1k (l.map fun x=>(g x,h x)) (g y)).isSome=true:=by
 induction l with
 |nil=>cases hy
 |cons a r ih=>
  rw[mN0]
  by_cases e:g a=g y
  ·rw[a1x (p:=(g a,h a)) e]
   rfl
  ·rw[a1s (p:=(g a,h a)) e]
   rcases mK0.mp hy with rfl |hy
   ·exact absurd rfl e
   ·exact ih hy
theorem a8L {α:Type}{g:α->Key}{h:α->V}{l:List α}{k:Key}(hk:k∉l.map g):a1k (l.map fun x=>(g x,h x)) k=none:=by
 induction l with
 |nil=>rfl
 |cons a r ih=>
  rw[mN0,mK0,not_or] at hk;rw[mN0,a1s (p:=(g a,h a)) (fun e=>hk.1 e.symm)];exact ih hk.2
def OnV (v:V):Prop:=∃k:Key,v=kV k
def a8y (es:List (Int×Pc))(z:Str×Str):Option (Str×Int×Nat):=(tw (KyR z.2) [] (a1E z.1 (srt es))).map fun x=>(z.1,x.1,x.2.1)
def a7O (es:List (Int×Pc))(zs:List (Str×Str)):Option (Str×Int×Nat):=zs.findSome? (a8y es)
def a8F (CM:Addr):Sp:=fun vs H Q E=>∃(a:Addr) (T c:Str) (es:List En),vs=[.ref a,.str T,.str c]/\a1F H a es/\(∀e∈es,T∈e.pc.map (·.1))/\(a1E T (srt (es.map kc))).length<=100000/\(∀x∈a1E T (srt (es.map kc)),∃v,a1k (rK x.2.2) (.inr c)=some v/\OnV v) ∧
 (a8y (es.map kc) (T,c)=none->∀H',a0k H H'->Q .non H')/\∀b,a8y (es.map kc) (T,c)=some b->b6L E H CM b.1 (.int b.2.1) (.int (b.2.2:Nat))
structure WhAt (H:Hp) (f a:Addr) (sz:Int) (Ts:List Tb) (ky:Kyf) (es:List En):Prop where
 fm:a7j H f sz Ts
 kk:b3j H Ts ky
 th:a1F H a es
 tb:∀e∈es,∀T∈Ts.map (·.name),T∈e.pc.map (·.1)
 fl:∀T,(a1E T (srt (es.map kc))).length<=100000
 pt:∀T∈Ts,∀c∈T.cols,ky T.name c.1=true->∀x∈a1E T.name (srt (es.map kc)),∃v,a1k (rK x.2.2) (.inr c.1)=some v/\OnV v
def b0i (CM:Addr):Sp:=fun vs H Q E=>∃(f a:Addr) (sz:Int) (Ts:List Tb) (ky:Kyf) (es:List En),vs=[.ref f,.ref a]/\WhAt H f a sz Ts ky es/\∀zs,b3U ky Ts zs->(a7O (es.map kc) zs=none->∀H',a0k H H'->Q .non H')/\∀b,a7O (es.map kc) zs=some b->b6L E H CM b.1 (.int b.2.1) (.int (b.2.2:Nat))
theorem b7k {α β:Type}{l:List α}{g:α->Option β}{i:Nat}{o:α}{b:β}(hi:l[i]? =some o)(ho:g o=some b)(hp:∀(j:Nat) (y:α),j<i->l[j]? =some y->g y=none):l.findSome? g=some b:=by
 induction l generalizing i with
 |nil=>simp at hi
 |cons y ys ih=>
  match i,hi with
  |0,hi=>
   cases hi;rw[List.findSome?_cons,ho]
  |i+1,hi=>
   rw[List.findSome?_cons,hp 0 y (by omega) rfl];exact ih hi fun j z hj hz=>hp (j+1) z (by omega) hz
theorem b6p {α β:Type}{l:List α}{g:α->Option β}(hp:∀(j:Nat) (y:α),l[j]? =some y->g y=none):l.findSome? g=none:=by
 rw[List.findSome?_eq_none_iff];intro y hy;obtain⟨j,hj⟩:=List.getElem?_of_mem hy;exact hp j y hj
theorem b0c {ky:Kyf}{Ts:List Tb}{zs:List (Str×Str)}(h:b3U ky Ts zs){z:Str×Str}(hz:z∈zs):∃T∈Ts,T.name=z.1/\ky T.name z.2=true/\∃c∈T.cols,c.1=z.2:=by
 obtain⟨yss,h1,h2,rfl⟩:=h;obtain⟨l,hl,hz⟩:=List.mem_flatten.mp hz;obtain⟨j,hj⟩:=List.getElem?_of_mem hl;rw[List.getElem?_zipWith] at hj;cases e1:Ts[j]? with
 |none=>rw[e1] at hj;cases hj
 |some T=>
  cases e2:yss[j]? with
  |none=>rw[e1,e2] at hj;cases hj
  |some ys=>
   rw[e1,e2] at hj;cases hj;obtain⟨c,hc,rfl⟩:=mM0.mp hz;obtain⟨c1,c2⟩:=mF0.mp hc;obtain⟨cc,h3,h4⟩:=mM0.mp ((h2 j T ys e1 e2).1.mem_iff.mp c1);exact⟨T,gI0 e1,rfl,c2,cc,h3,h4⟩
section
variable {P:Program}{w:World}{K:Fg0}{mg:Str->Option Value}{base:Heap}{CT CO CM:Addr}
theorem b1g {f fR fN:Addr}{fd fdR fdN:FuncData}(F:Fun K "ask_once" "ask_once" (top 35) f fd)(B:Bl mg)(DR:Df K mg "rows_in" (top 37) fR fdR)(X:Tx K mg CT CO CM)(FI:b1m K "__init__" "StepError.__init__" (a0p (top 2) 0) fN fdN)(MM:XMk K CM fN)(bI:a1g K fdN ["self","table","key","place"] []):a0A P w K mg base (CX1 P w) 3 f fd ["things","table","column"] (a8F CM):=by
 have sc:a0o ["things","table","column","seen","key","place","row"] ["things","table","column"] (a0g (top 35)):=.k (by decide +kernel);have GR:a0A P w K mg base CX0 1 fR fdR ["things","table"] a5g:=a6g DR.fn B;have bR:=DR.fn.b2 "things" "table" (by intros;rfl);have GI:a0A P w K mg base CX0 1 fN fdN ["self","table","key","place"] (a6w CO CM):=b0S FI X;refine F.x.okX sc (fun vs H Q E h=>?_) (fun cdv A outer s H vs Q E hr h=>?_)
 ·obtain⟨a,T,c,es,rfl,_⟩:=h
  rfl
 ·obtain⟨a,T,c,es,rfl,hts,hT,hfl,hpt,q1,q2⟩:=h
  have hr1:a1u 1 _:=hr.mono (by decide);have hr2:a1u 2 _:=hr.mono (by decide);have hu:=a1T hr;refine⟨_,a0b (a0n (i:=3) sc.nd rfl (Or.inl rfl) a1n) (a0h (a0X PassesOwn.leaving rfl (a0S (a0l GR hr1 (by rfl) DR.mg DR.fn.kp bR .nil a0E (a0a (pv 0) (a0a (pv 1) a0e)))) (a2j rfl (a0y (a0m (i:=4) sc.nd rfl (Or.inl rfl)) (a0y (a0m (i:=5) sc.nd rfl (Or.inl rfl)) (a0y (a0m (i:=6) sc.nd rfl (Or.inl rfl)) a1D))))
   (a0b (a0P (a2z (a4n hu (a0L hu (pv 6) (pv 2) (fun _ _=>rfl)) (pv 3))) (a0h (b1L rfl (b2x MM GI hr2 (by rfl) X.mM bI .nil (a0a (pv 1) (a0a (pv 4) (a0a (pv 5) a0e)))) a3n)) a0s)
   (a0h (a1h hu (pv 3) (a0L hu (pv 6) (pv 2) (fun _ _=>rfl)) b0u rfl))))),?_⟩
  refine fun sn hsn=>?_;generalize hX:upd H sn _=H0;obtain⟨T0,e0⟩:=gz hX hsn;refine⟨_,rfl,_,rfl,a,T,es,rfl,hts.same T0,hT,hfl,fun l H1 s1 hR=>?_⟩;unfold a8y at q1 q2;generalize a1E T (srt (es.map kc))=cs at *;obtain⟨xs,rs,r1,r2,r2',r3⟩:=hR;have l1:=a0z _ _ r1;have sn1:=s1 _ _ e0;have nl:l≠sn:=fun z=>by have:=a1t r1;rw[z,e0] at this;cases this
  refine⟨l,rfl,⟨_,SqL.of l1⟩,a0W (K:=K) (a:=l) (xs:=xs.map V.ref) (fun i σ H2=>(∀b o,b≠sn->H1 b=some o->H2 b=some o)/\H2 sn=some (.dK ((cs.take i).map fun x=>(KyR c x,.bl true)))/\(∃u4 u5 u6,σ=[some (.ref a),some (.str T),some (.str c),some (.ref sn),u4,u5,u6])/\∀(j:Nat) (y:Int×Nat×Rw),j<i->cs[j]? =some y->KyR c y∉[]++(cs.take j).map (KyR c)) ⟨fun b o _ e=>e,sn1,⟨_,_,_,rfl⟩,(fun j y h=>absurd h (Nat.not_lt_zero j))⟩ (fun i σ H2 _ p=>SqL.of (p.1 _ _ nl l1)) ?_ ?_⟩
  ·rintro i x σ H2 hx ⟨k2,sn2,⟨u4,u5,u6,rfl⟩,hb⟩
   have hix:i<xs.length:=by have:=(gS0.mp hx).1;rwa [lM0] at this
   rw[gM0,gE0 hix] at hx;cases hx;have hic:i<cs.length:=by omega
   have hir:i<rs.length:=by omega
   obtain⟨hx3,hr3⟩:=r3 i xs[i] rs[i] cs[i] (gE0 hix) (gE0 hir) (gE0 hic);have hx2:=k2 _ _ (fun z=>by have:=a1t hx3;rw[z,e0] at this;cases this) (a0z _ _ hx3);refine⟨xs[i],_,rfl,SqT.of hx2,rfl,_,_,rfl,_,_,rfl,_,_,rfl,rfl,?_⟩;obtain⟨v,hv,k,rfl⟩:=hpt _ (gQ0 hic);have ek:KyR c cs[i]=k:=by
    unfold KyR b3c;rw[hv];exact a6T k
   have rsn:rs[i]≠sn:=fun z=>by
    have h1:=hr3;rw[z,e0] at h1;cases hrow:cs[i].2.2 with
    |nil=>rw[hrow] at hv;cases hv
    |cons a r=>rw[hrow] at h1;cases h1
   have gR:a2q H2 rs[i] (.str c) (some (kV k)):=.inl ⟨_,.inr c,.inl (k2 _ _ rsn (s1 _ _ hr3)),rfl,hv.symm⟩
   by_cases hm:KyR c cs[i]∈(cs.take i).map (KyR c)
   ·obtain⟨y,hy,ey⟩:=mM0.mp hm
    have hs:(a1k ((cs.take i).map fun x=>(KyR c x,V.bl true)) k).isSome=true:=by
     rw[<-ek,<-ey];exact b1V hy
    obtain⟨u,hu'⟩:=Option.isSome_iff_exists.mp hs;refine⟨_,rfl,_,rfl,rs[i],_,rfl,gR,_,rfl,sn,_,rfl,.inl ⟨_,k,.inl sn2,rfl,hu'.symm⟩,_,rfl,a6m ?_⟩;have hfd:=tw_ix (g:=KyR c) (s:=[]) (gE0 hic) hm hb;refine b5H X (.inr rfl) (fun _ _ _ h=>h) (fun R h=>⟨_,rfl,_,rfl,_,rfl,h⟩) ?_
    have:=q2 _ (by rw[hfd];rfl)
    refine fun dx H' h1 h2=>this dx H' h1 fun b o e=>h2 _ _ (k2 b o (a0j e hsn) (s1 _ _ (T0 _ _ e)))
   ·have hn:a1k ((cs.take i).map fun x=>(KyR c x,V.bl true)) k=none:=by
     rw[<-ek];exact a8L hm
    refine⟨_,rfl,_,rfl,rs[i],_,rfl,gR,_,rfl,sn,_,rfl,.inl ⟨_,k,.inl sn2,rfl,hn.symm⟩,_,rfl,a1R ?_⟩;refine⟨_,rfl,_,rfl,_,rfl,rs[i],_,rfl,gR,sn,_,rfl,a8X.k sn2 (by rw[lM0,lT0,sizeLine_eq];omega),?_⟩;rw[a1j _ hn];refine⟨fun b o nb e=>(a0d nb).trans (k2 b o nb e),?_,⟨_,_,_,rfl⟩,fun j y hj hy=>?_⟩
    ·rw[a0c,tS0,gE0 hic,mA0,<-ek]
     rfl
    ·by_cases hj':j<i
     ·exact hb j y hj' hy
     ·obtain rfl:j=i:=by omega
      rw[gE0 hic] at hy;cases hy;exact hm
  ·rintro σ H2 ⟨k2,sn2,⟨u4,u5,u6,rfl⟩,hb⟩
   refine q1 ?_ _ fun b o e=>k2 b o (a0j e hsn) (s1 _ _ (T0 _ _ e));rw[tw_non (g:=KyR c) (s:=[]) fun j y hy=>hb j y (by have:=(gS0.mp hy).1;rw[lM0];omega) hy]
   rfl
theorem b4Q {f fB fT fC fI fP fR fN:Addr}{fd fdB fdT fdC fdI fdP fdR fdN:FuncData}(F:Fun K "ask_whole_table" "ask_whole_table" (top 33) f fd)(B:Bl mg)(DB:Df K mg "columns_by_sort" (top 34) fB fdB)(DT:Df K mg "tables_of" (top 18) fT fdT)(DC:Df K mg "columns_of" (top 21) fC fdC)(DI:Df K mg "table_in" (top 22) fI fdI)(DP:Df K mg "ask_once" (top 35) fP fdP)(GP:a0A P w K mg base (CX1 P w) 3 fP fdP ["things","table","column"] (a8F CM)):a0A P w K mg base (CX1 P w) 4 f fd ["form","things"] (b0i CM):=by
 have sc:a0o ["form","things","table","column"] ["form","things"] (a0g (top 33)):=.k (by decide +kernel);have GB:a0A P w K mg base CX0 3 fB fdB ["form","sort"] b5T:=b5m DB.fn B DT DC DI;have bB:=DB.fn.b2 "form" "sort" (by intros;rfl);have bP:=DP.fn.b3 "things" "table" "column" (by intros;rfl);refine F.x.okX sc (fun vs H Q E h=>?_) (fun cdv A outer s H vs Q E hr h=>?_)
 ·obtain⟨f,a,sz,Ts,ky,es,rfl,_⟩:=h
  rfl
 ·obtain⟨f,a,sz,Ts,ky,es,rfl,wh,q⟩:=h
  refine⟨_,a0b (a0X PassesOwn.leaving rfl (a0S (a0l GB hr (by rfl) DB.mg DB.fn.kp bB .nil a0E (a0a (pv 0) (a0a a0x a0e)))) (a2j rfl (a0y (a0m (i:=2) sc.nd rfl (Or.inl rfl)) (a0y (a0m (i:=3) sc.nd rfl (Or.inl rfl)) a1D))) (a0h (a0V (a5f GP hr (by rfl) DP.mg DP.fn.kp bP .nil a3n (a0a (pv 1) (a0a (pv 2) (a0a (pv 3) a0e)))))))
   (a0h (a0X PassesOwn.leaving rfl (a0S (a0l GB hr (by rfl) DB.mg DB.fn.kp bB .nil a0E (a0a (pv 0) (a0a a0x a0e)))) (a2j rfl (a0y (a0m (i:=2) sc.nd rfl (Or.inl rfl)) (a0y (a0m (i:=3) sc.nd rfl (Or.inl rfl)) a1D))) a0u)),?_⟩
  refine⟨_,rfl,f,sz,Ts,_,ky,ky,rfl,wh.fm,wh.kk,.inr ⟨rfl,rfl⟩,fun p' zs H3 s3 hcb hp=>?_⟩;have S3:=s3;obtain⟨q1,q2⟩:=q zs hcb;obtain⟨ts,p3,tl,hts⟩:=hp;refine⟨p',rfl,⟨_,SqL.of p3⟩,a0W (K:=K) (a:=p') (xs:=ts.map V.ref) (fun i σ H4=>a0k H3 H4/\(∃u2 u3,σ=[some (.ref f),some (.ref a),u2,u3])/\∀(j:Nat) (y:Str×Str),j<i->zs[j]? =some y->a8y (es.map kc) y=none) ⟨a0k.refl _,⟨_,_,rfl⟩,(fun j y h=>absurd h (Nat.not_lt_zero j))⟩ (fun i σ H4 _ p=>SqL.of (p.1 _ _ p3)) ?_ ?_⟩
  ·rintro i x σ H4 hx ⟨s4,⟨u2,u3,rfl⟩,hb⟩
   have hit:i<ts.length:=by have:=(gS0.mp hx).1;rwa [lM0] at this
   rw[gM0,gE0 hit] at hx;cases hx;have hiz:i<zs.length:=by omega
   have ht:=s4 _ _ (hts i ts[i] zs[i] (gE0 hit) (gE0 hiz));obtain⟨T,hT,eT,hk,cc,hcc,ecc⟩:=b0c hcb (gQ0 hiz);have S4:=S3.trans s4;have zT:zs[i].1∈Ts.map (·.name):=mM0.mpr ⟨T,hT,eT⟩;refine⟨ts[i],_,rfl,SqT.of ht,rfl,_,_,rfl,_,_,rfl,rfl,?_⟩;refine⟨_,rfl,_,rfl,_,rfl,a,zs[i].1,zs[i].2,es,rfl,wh.th.same S4,(fun e he=>wh.tb e he _ zT),wh.fl _,(fun x hx=>?_),(fun hn H5 s5=>⟨s4.trans s5,⟨_,_,rfl⟩,fun j y hj hy=>?_⟩),fun b hb'=>?_⟩
   ·have:=wh.pt T hT cc hcc (by rw[ecc];exact hk) x (by rw[eT];exact hx)
    rw[ecc] at this;exact this
   ·by_cases hj':j<i
    ·exact hb j y hj' hy
    ·obtain rfl:j=i:=by omega
     rw[gE0 hiz] at hy;cases hy;exact hn
   ·have hf:a7O (es.map kc) zs=some b:=b7k (gE0 hiz) hb' hb
    have:=q2 b hf
    exact fun dx H' h1 h2=>this dx H' h1 (S4.trans h2)
  ·rintro σ H4 ⟨s4,⟨u2,u3,rfl⟩,hb⟩
   have S4:=S3.trans s4;have hno:=b6p fun j y hy=>hb j y (by have:=(gS0.mp hy).1;rw[lM0];omega) hy;refine⟨_,rfl,f,sz,Ts,_,ky,_,rfl,wh.fm.same S4,wh.kk.same S4,.inl ⟨rfl,rfl⟩,fun p zs0 H1 s1 hcb0 hp0=>?_⟩;have z0:zs0=[]:=by
    refine List.eq_nil_iff_forall_not_mem.mpr fun z hz=>?_;obtain⟨T,_,_,h,_⟩:=b0c hcb0 hz;cases h
   subst z0;obtain⟨ts0,p1,tl0,_⟩:=hp0;have tn:ts0=[]:=List.length_eq_zero_iff.mp tl0;subst tn;refine⟨p,rfl,⟨_,SqL.of p1⟩,a0W (K:=K) (a:=p) (xs:=[]) (fun i σ H2=>H2=H1) rfl (fun i σ H2 _ p=>by rw[p];exact SqL.of p1) (fun i x σ H2 hx=>nomatch hx) ?_⟩;rintro σ H2 rfl;exact q1 hno _ (S4.trans s1)
end
end My
namespace L2
open PySem PySem.Spec PyProof.Rows Builtin Builtin.ObjectAttr
section
variable {X:Cx}{k:Nat}{f C:Addr}{fd:FuncData}{ps:List Str}{sp:Sp}{dvs:List V}{ds:List Value}{E:XS}{x m:Str}{p pos apos:Pos}{e o:Expr}{es:List Expr}{ta:TE}{t:TA}
theorem b0D {Z:List (Addr×Obj)}{σ:St}{H:Hp}{s:Shared}{Q:VK}{us:List Value}{vs:List V}(M:Mk X.K C f)(F:a0A X.prog X.w X.K X.mg X.base (CX1 X.prog X.w) k f fd ps sp)(hr:a1u (k+1) X.A)(hb:a1g X.K fd ps ds)(hd:a1b dvs ds)
  (L:a4c X E) (I:Inv X Z σ H s) (r:a1b vs us)
  (h:∀x dx,H x=none->H dx=none->dx≠x->sp (.ref x::(vs++dvs)) (upd (upd H dx (.own x)) x (.ins C dx [])) (fun v H2=>v=.non/\Q (.ref x) H2) (fun C od H'=>E C od σ H')) :
  wpAny (model X.prog X.w) X.A (call (.ref C) us) (EP X Z σ Q) X.xe s:=by
 have hq:=h (s.heap.objs.size+1) s.heap.objs.size (I.hok.fresh (Nat.le_succ _)) (I.hok.fresh (nR0 _)) (nL0 (Nat.lt_succ_self _));have I2:=Inv.made (C:=C) I;have r2:a1b (V.ref (s.heap.objs.size+1)::(vs++dvs)) (Value.ref (s.heap.objs.size+1)::(us++ds)):=.cons rfl (r.append hd);have hl:(Value.ref (s.heap.objs.size+1)::us++ds).length=ps.length:=by
  have e:=r2.length;rw[F.len _ _ _ _ hq] at e;exact e.symm
 refine wpAny_call (a7f (f:=f) I.kIn M.makes M.init (beq_iff_eq.mp M.fn) (codeAny_mono (F.run _ X.stack _ _ ⟨Value.ref (s.heap.objs.size+1)::us,[]⟩ (Value.ref (s.heap.objs.size+1)::(us++ds)) _ _ _ (hr.make C us [])
  (I2.env0.make C us []) (hb _ (Value.ref (s.heap.objs.size+1)::us) I2.kIn hl) r2 hq) fun r s' hq'=>?_))
 cases r with
 |error e=>exact L.pass I2 hq'
 |ok fl=>
  cases fl with
  |ret u=>
   obtain⟨v,H',I3,rv,ev,q3⟩:=I2.after hq';subst ev;exact⟨rv,⟨V.ref (s.heap.objs.size+1),H',I3,rfl,q3⟩⟩
  |next=>exact False.elim hq'
  |brk=>exact False.elim hq'
  |cont=>exact False.elim hq'
def b6B (C:Addr)(sp:Sp)(dvs:List V)(E:XS)(t:TA):TE:=fun σ H Q=>t σ H fun vs H1=>∀x dx,H1 x=none->H1 dx=none->dx≠x->sp (.ref x::(vs++dvs)) (upd (upd H1 dx (.own x)) x (.ins C dx [])) (fun v H2=>v=.non/\Q (.ref x) H2) (fun C od H'=>E C od σ H')
theorem b2y (M:Mk X.K C f)(F:a0A X.prog X.w X.K X.mg X.base (CX1 X.prog X.w) k f fd ps sp)(hr:a1u (k+1) X.A)(hg:Gl X x)(hm:X.mg x=some (.ref C))(hb:a1g X.K fd ps ds)(hd:a1b dvs ds)(L:a4c X E)
  (ha:PA X (e::es) t) (hdb:(x==("__debug__":Str))=false:=by decide) (he:starEach (e::es) X.env=(false,eval e X.env)::starEach es X.env:=by rfl) (hpl:(backTo pos (starEach es X.env)).any (·.1)=false:=by rfl) :
  PE X (.Call (.Name x p) (e::es) [] pos) (b6B C sp dvs E t):=by
 intro Z s σ H Q I h;refine wpAny_Call_Name_kw (a2e I hg hm ?_ hdb);refine PySem.W.callWith_K (h₀:=X.base) I.ok.mod.kin M.kp (thn (ha pos Z s σ H _ I h) fun us s1 ⟨vs,H1,I1,r,q⟩=>⟨I1.kIn,?_⟩) he hpl;exact b0D M F hr hb hd L I1 r q
end
def b7j (tb:a3y->TS)(te:TS):TS:=fun D σ H=>tb D { D with nx:=te D } σ H
section
variable {X:Cx}{body orelse:List Stmt}{cx n:Str}{b₀:Stmt}{suite:List Stmt}{np hp pos:Pos}{CN:Addr}{i:Nat}{tb:a3y->TS}{tc:Addr->Addr->TS}{te:TS}
theorem a7q (hst:X.stack=X.env::X.outer)(hfr:X.env.frame=some X.env.locals)(hN:X.N.Nodup)(hi:X.N[i]? =some n)(hk:X.env.scope.names.lookup n=some .local)(hg:Gl X cx)(hm:X.mg cx=some (.ref CN))(c:XCl X.K CN)
  (hb:∀D pn XE,a4c (X.within pn XE) (EXu X.K CN i tc D)->PSs (X.within pn XE) body (tb D)) (hs:∀x C,PSs (X.caught x) (b₀::suite) (tc x C)) (he:PSs X orelse te) (hdb:(cx==("__debug__":Str))=false:=by decide) :
  PS X (.Try body [.ExceptHandler (some (.Name cx np)) (some n) (b₀::suite) hp] orelse [] pos) (b7j tb te):=by
 intro Z s σ H D I h;refine wpAny_Try_except ?_;refine wpAny_mono (hb D (X.pn++Z) (fun e s₁=>wpAny (model X.prog X.w) X.A (noteFrame e X.env) (fun _ s₂=>wpAny (model X.prog X.w) X.A (setFlight e none) (fun _ s₃=>wpAny (model X.prog X.w) X.A (handleBy e X.env [.ExceptHandler (some (.Name cx np)) (some n) (b₀::suite) hp]) (SP X Z D) X.xe s₃) X.xe s₂) X.xe s₁) ?_ [] s σ H { D with nx:=te D } I.within h) (fun f s₁ hf=>?_) fun e s₁ z=>z
 ·intro pins' σ1 H1 s1 x C od I1' hx' xa' q
  have I1:Inv X Z σ1 H1 s1:=I1'.out I.ok;have hx:Our X Z H1 x:=hx'.out;have xa:XAt s1.heap (Our X Z H1) x C od .none:=xa'.imp fun _ o=>o.out;obtain⟨Cx,rfl,un,q⟩:=q;have hfl:X.A.frames=some (X.env::X.outer):=by rw[I.ok.frames,hst]
  have frn:∀{s':Shared} {σ':St} {H':Hp},Inv X Z σ' H' s'->∀b o,s'.heap.get? b=some o->b∈frs X.stack->∀vs,o.data≠.fields vs:=fun {s' σ' H'} J b o e hb=>by
   obtain⟨_,o',ho',hn⟩:=J.stack.mem hb;rw[e] at ho';cases ho';exact hn
  refine b0y (base:=X.base) hfl (by rw[<-hst];exact I1.stack) hfr xa (fun T hT=>I1.our hT) fun h1 n1 xa1=>?_;have I2:=I1.noted hx (by rw[hst];exact n1);refine a6K (s:={ s1 with heap:=h1 }) (fr:=frs X.stack) xa1 (frn I2) fun h2 n2 xa2=>?_;have I3:=I2.noted hx n2;obtain⟨nm,qn,N,bs,bm,sn,sub,ab,col,dd,k0,k1,k2,k3,k5,lk,tv⟩:=c.at_;obtain⟨nm',qn',N',bs',bm',sn',sub',ab',col',dd',j0,j1,j2,j3,j5,lk',tv'⟩:=un.1.at_;refine wpAny_handleBy_cons (codeAny_handlers_test ?_) (by intro q;cases q);refine a2e (X:=X.caught x) I3.caught hg hm ?_ hdb;obtain⟨vs,sl,v1,ex,ev1,tb2⟩:=id xa2;refine b6D (g:=s1.gens) (d:=s1.drawn) (t:=s1.toks) (os:=s1.os) (I3.kIn _ _ lk') (I3.kIn _ _ lk) tv ex rfl (un.has lk') ?_;refine codeAny_handlers_suite_as ?_;refine a6K (s:={ s1 with heap:=h2 }) (fr:=frs X.stack) xa2 (frn I3) fun h3 n3 xa3=>?_;have I4:=I3.noted hx n3;obtain⟨vs3,sl3,v3,ex3,_,_⟩:=id xa3;have I5:Inv X Z σ1 (upd H1 x (.ext (b7a x Cx od))) { s1 with heap:=h3 }:=I4.track hx (b4O ex3);refine a4V (X:=X.caught x) I5.caught hN hi (.inl hk) (show a0Y (.ref x) (.ref x) from rfl) (fun s6 I6=>?_) (.inr hk);refine wpAny_mono (hs x Cx Z s6 _ _ (b0v i D) I6 (q x hx.unt)) (fun f s7 hf=>?_) fun _ _ z=>False.elim z;have fin:∀{σ':St} {H':Hp} {Q:Unit->Shared->Prop},Inv (X.caught x) Z σ' H' s7->(∀s',Inv X Z (σ'.set i none) H' s'->Q () s')->wpAny (model X.prog X.w) X.A (do bindName X.env n .none;unbindBehindTheSuite X.env n hp) Q X.xe s7:=fun {σ' H' Q} J kq=>by
   have J':Inv X Z σ' H' s7:=J.uncaught I.ok;obtain⟨m,hmn,hml⟩:=id J'.loc;exact wpAny_nameGoes_keeps hk hmn (by rw[I.ok.kind];rfl) fun h' v hn' sb=>kq _ (J'.unname hN hi hn' hml sb)
  cases f with
  |next=>obtain⟨σ',H',J,z⟩:=hf;exact fin J fun s' J'=>⟨_,H',J',z⟩
  |brk=>obtain⟨σ',H',J,z⟩:=hf;exact fin J fun s' J'=>⟨_,H',J',z⟩
  |cont=>obtain⟨σ',H',J,z⟩:=hf;exact fin J fun s' J'=>⟨_,H',J',z⟩
  |ret u=>obtain⟨v,σ',H',J,r,z⟩:=hf;exact fin J fun s' J'=>⟨v,_,H',J',r,z⟩
 ·have hf':=hf.out I.ok
  cases f with
  |next=>obtain⟨σ',H',J,z⟩:=hf';exact he Z s₁ σ' H' D J z
  |brk=>exact hf'
  |cont=>exact hf'
  |ret u=>exact hf'
end
end L2
namespace L2
open PySem PySem.Spec PyProof.Rows My
def b6S (t:TS):TS:=fun D σ H=>∃R:St->Hp->Prop,t { D with nx:=R } σ H/\∀σ' H',R σ' H'->D.nx σ' H'
theorem a3l {X:Cx}{st:Stmt}{t:TS}(h:PS X st t):PS X st (b6S t):=by
 intro Z s σ H D I hq;obtain⟨R,h1,h2⟩:=hq;refine thn (h Z s σ H _ I h1) fun f s' hs=>?_;cases f with
 |next=>obtain⟨σ',H',I',z⟩:=hs;exact⟨σ',H',I',h2 _ _ z⟩
 |brk=>exact hs
 |cont=>exact hs
 |ret u=>exact hs
end L2
namespace My
open PySem L2 PyProof.Rows
seal L2.PE L2.PT L2.PW L2.PS L2.PSs L2.PA L2.PI L2.PG L2.PGs L2.OpR L2.UnR L2.a1r L2.IxR L2.SlR L2.MtR L2.PIf L2.PO L2.MtM L2.PC
def a5r (fo td:Addr):List (Str×V):=a2Z "things" (.ref td) (a2Z "form" (.ref fo) [])
theorem a2i {fo td:Addr}:(a5r fo td).lookup ("form":Str)=some (.ref fo):=by
 unfold a5r;rw[a0I,if_neg (by decide +kernel),a0I,if_pos rfl]
theorem a1p {fo td:Addr}:(a5r fo td).lookup ("things":Str)=some (.ref td):=by
 unfold a5r;rw[a0I,if_pos rfl]
theorem a2J {fo td:Addr}{m:Str}(h1:¬m="things")(h2:¬m="form"):(a5r fo td).lookup m=none:=by
 unfold a5r;rw[a0I,if_neg h1,a0I,if_neg h2]
 rfl
structure ClP (K:Fg0) (CP:Addr):Prop where
 cl:Cls K CP
 nF:a1d K CP "form"
 nT:a1d K CP "things"
structure a5v (CP:Addr) (H:Hp) (a:Addr) (sz:Int) (Ts:List Tb) (es:List En):Prop where
 ex:∃dx fo td,H a=some (.ins CP dx (a5r fo td))/\a7j H fo sz Ts/\a1F H td es
 tb:∀e∈es,∀T∈Ts.map (·.name),T∈e.pc.map (·.1)
theorem a5v.same {CP:Addr}{H H':Hp}{a:Addr}{sz:Int}{Ts:List Tb}{es:List En}(h:a5v CP H a sz Ts es)(s:a0k H H'):a5v CP H' a sz Ts es:=let ⟨dx,fo,td,h1,h2,h3⟩:=h.ex;⟨⟨dx,fo,td,s _ _ h1,h2.same s,h3.same s⟩,h.tb⟩
def TxO (o:HO):Prop:=∀kvs,o=.dK kvs->∀k v,(k,v)∈kvs->∃z,k=.inr z
theorem a2S.move {H H2:Hp}{p:Addr}{pc:Pc}(h:a2S H p pc)(m:∀b o,H b=some o->TxO o->H2 b=some o):a2S H2 p pc:=by
 obtain⟨ls,a1,a2,a3⟩:=h;refine⟨ls,m _ _ a1 (fun kvs e k v hm=>?_),a2,fun j l t e1 e2=>?_⟩
 ·cases e
  obtain⟨i,z,_,_,e⟩:=a6Y hm;exact⟨z,e⟩
 ·obtain⟨rs,b1,b2,b3⟩:=a3 j l t e1 e2
  refine⟨rs,m _ _ b1 (fun kvs e=>nomatch e),b2,fun j' r row c1 c2=>m _ _ (b3 j' r row c1 c2) (fun kvs e k v hm=>?_)⟩;cases e;obtain⟨c,_,e⟩:=mM0.mp hm
  injection e with e1 _
  exact⟨_,e1.symm⟩
theorem a6q {es:List En}{e:En}(he:e∈es):¬TxO (.dK (kvT es)):=fun h=>by
 obtain⟨z,hz⟩:=h _ rfl (.inl e.k) (.ref e.p) (mM0.mpr ⟨e,he,rfl⟩);cases hz
def a3C (CP CM:Addr):Sp:=fun vs H Q E=>∃(x dx fo:Addr) (av:V) (sz:Int) (Ts:List Tb) (ky:Kyf) (es:List En),vs=[.ref x,.ref fo,av]/\H x=some (.ins CP dx [])/\a7j H fo sz Ts/\b3j H Ts ky/\((av=.non/\es=[])\/∃a,av=.ref a/\a1F H a es) ∧
 (∀e∈es,∀T∈Ts.map (·.name),T∈e.pc.map (·.1))/\(∀T,(a1E T (srt (es.map kc))).length<=100000)/\(∀T∈Ts,∀c∈T.cols,ky T.name c.1=true->∀x∈a1E T.name (srt (es.map kc)),∃v,a1k (rK x.2.2) (.inr c.1)=some v/\OnV v) ∧
 ∀zs,b3U ky Ts zs->(a7O (es.map kc) zs=none->∀td us H',H' x=some (.ins CP dx (a5r fo td))->(∀b o,b≠x->H b=some o->H' b=some o)->us.map kc=es.map kc->a1F (cut H H') td us->Q .non H')/\∀b,a7O (es.map kc) zs=some b->b6L E H CM b.1 (.int b.2.1) (.int (b.2.2:Nat))
section
variable {P:Program}{w:World}{K:Fg0}{mg:Str->Option Value}{base:Heap}{CP CM:Addr}
theorem b2b {f fK fW:Addr}{fd fdK fdW:FuncData}(F:b1m K "__init__" "Plain.__init__" (a0p (top 26) 0) f fd)(B:Bl mg)(L:ClP K CP)(DK:Df K mg "copied" (top 24) fK fdK)(DW:Df K mg "ask_whole_table" (top 33) fW fdW)(GW:a0A P w K mg base (CX1 P w) 4 fW fdW ["form","things"] (b0i CM)) :
  a0A P w K mg base (CX1 P w) 5 f fd ["self","form","things"] (a3C CP CM):=by
 have sc:a0o ["self","form","things","taken","key","piece"] ["self","form","things"] (a0g (a0p (top 26) 0)):=.k (by decide +kernel);have GK:a0A P w K mg base CX0 1 fK fdK ["piece"] a7o:=b0z DK.fn B;have bK:=DK.fn.b1 "piece" (by intros;rfl);have bW:=DW.fn.b2 "form" "things" (by intros;rfl);refine F.okX sc (fun vs H Q E h=>?_) (fun cdv A outer s H vs Q E hr h=>?_)
 ·obtain⟨x,dx,fo,av,sz,Ts,ky,es,rfl,_⟩:=h
  rfl
 ·obtain⟨x,dx,fo,av,sz,Ts,ky,es,rfl,hx,hf,hky,hav,htb,hfl,hpt,q⟩:=h
  have hr1:a1u 1 _:=hr.mono (by decide);have hu:=a1T hr;refine⟨_,a0b (a0n (i:=3) sc.nd rfl (Or.inl rfl) a1n) (a0b (a3l (a0P (a0q a6S (pv 2) a4o (a0G _)) (a0h (a4i (a0X PassesOwn.leaving rfl (a3k (pv 2)) (a2j rfl (a0y (a0m (i:=4) sc.nd rfl (Or.inl rfl)) (a0y (a0m (i:=5) sc.nd rfl (Or.inl rfl)) a1D)))
    (a0h (a1h hu (pv 3) (pv 4) (a0l GK hr1 (by rfl) DK.mg DK.fn.kp bK .nil a0E (a0a (pv 5) a0e)) rfl))))) a0s))
   (a0b (a0V (a5f GW hr (by rfl) DW.mg DW.fn.kp bW .nil a3n (a0a (pv 1) (a0a (pv 3) a0e)))) (a0b (a9p (pv 0) (pv 1) rfl) (a0h (a9p (pv 0) (pv 3) rfl))))),?_⟩
  refine fun td htd=>?_;generalize hX:upd H td _=H0;obtain⟨S0,d0⟩:=gz hX htd;refine⟨fun σ' H'=>∃(us:List En) (u4 u5:Option V),σ'=[some (.ref x),some (.ref fo),some av,some (.ref td),u4,u5]/\a0k H H'/\us.map kc=es.map kc/\a1F (cut H H') td us,?_,?_⟩
  rotate_left
  ·rintro σ' H3 ⟨us,u4,u5,rfl,sm,huk,hus'⟩
   have uk:us.map (·.k)=es.map (·.k):=by
    have:=congrArg (List.map Prod.fst) huk
    rw[mC0,mC0] at this;exact this
   have htb':∀e∈us,∀T∈Ts.map (·.name),T∈e.pc.map (·.1):=fun e he T hT=>by
    have hm:kc e∈es.map kc:=huk▸mM0.mpr ⟨e,he,rfl⟩;obtain⟨e0,h0,e1⟩:=mM0.mp hm;have e2:e0.pc=e.pc:=congrArg Prod.snd e1;rw[<-e2];exact htb e0 h0 T hT
   rw[<-huk] at hfl hpt q;refine⟨_,rfl,_,rfl,fo,td,sz,Ts,ky,us,rfl,⟨hf.same sm,hky.same sm,hus'.same a0z,htb',hfl,hpt⟩,fun zs hzs=>⟨fun hn H4 s4=>?_,fun b hb=>?_⟩⟩
   ·have S4:=sm.trans s4
    refine⟨_,rfl,_,rfl,x,CP,dx,[],rfl,S4 _ _ hx,L.cl,L.nF,(by show 0<1000;decide),?_⟩;refine⟨_,rfl,_,rfl,x,CP,dx,_,rfl,a0c,L.cl,L.nT,(by show 1<1000;decide),?_⟩;have hU:=(hus'.same (b3d s4)).same ((a3B (o:=.ins CP dx (a2Z "form" (.ref fo) [])) hx));exact(q zs hzs).1 hn td us _ a0c (fun b ob nb hb=>by rw[a0d nb,a0d nb];exact S4 _ _ hb) rfl (hU.same (a3B hx))
   ·have:=(q zs hzs).2 b hb
    exact fun dx H' h1 h2=>this dx H' h1 (sm.trans h2)
  rcases hav with ⟨rfl,rfl⟩ |⟨a,rfl,hts⟩
  ·exact⟨_,rfl,rfl,_,rfl,a2H rfl ⟨[],_,_,rfl,S0,rfl,a0T htd d0,List.nodup_nil,zL0 _,(fun t h=>nomatch h),(fun t h=>nomatch h)⟩⟩
  have nat:td≠a:=fun e=>by rw[e,hts.at_] at htd;cases htd
  refine⟨_,rfl,rfl,_,rfl,a6m ⟨a,_,S0 _ _ hts.at_,fun o=>?_⟩⟩;have hfa:(upd H0 a (.frz o (.dK (kvT es)))) a=some (.frz o (.dK (kvT es))):=a0c;have hb0:a0k H (upd (upd H0 a (.frz o (.dK (kvT es)))) a (.dK (kvT es))):=S0.trans (a2y (S0 _ _ hts.at_) (a0k.refl _));have d1:(upd H0 a (.frz o (.dK (kvT es)))) td=some (.dK []):=by rw[a0d nat];exact d0
  generalize upd H0 a (.frz o (.dK (kvT es)))=H1 at *;refine⟨_,rfl,a,o,_,rfl,hfa,a3v (a:=a) (o:=o) (kvs:=kvT es) (fun i σ H2=>H2 a=some (.frz o (.dK (kvT es)))/\a0k H (upd H2 a (.dK (kvT es)))/\∃(us:List En) (u4 u5:Option V),σ=[some (.ref x),some (.ref fo),some (.ref a),some (.ref td),u4,u5]/\us.map kc=(es.take i).map kc/\a1F (cut H H2) td us)
   ⟨hfa,hb0,[],_,_,rfl,rfl,a0T htd d1,List.nodup_nil,zL0 _,(fun t h=>nomatch h),(fun t h=>nomatch h)⟩ (fun i σ H2 _ p=>p.1) ?_ ?_⟩
  ·rintro i k v p1 σ H2 hk ⟨h2a,sm,us,u4,u5,rfl,huk,hus⟩ hp
   have hi:i<es.length:=by
    have:=(gS0.mp hk).1
    unfold kvT at this
    rwa [lM0] at this
   unfold kvT at hk;rw[gM0,gE0 hi] at hk;cases hk;have tin:es[i]∈es:=gQ0 hi;have ht2:a2S H2 es[i].p es[i].pc:=(hts.th _ tin).move fun b ob hb tx=>by
    have nb:b≠a:=fun e=>by
     rw[e,hts.at_] at hb;cases hb;exact a6q tin tx
    have:=sm b ob hb
    rwa [a0d nb] at this
   have T1:=a0k.upd (o:=.tup [kV (.inl es[i].k),.ref es[i].p]) hp;refine⟨p1,_,rfl,SqT.of a0c,rfl,_,_,rfl,_,_,rfl,rfl,?_⟩;generalize upd H2 p1 (.tup [kV (.inl es[i].k),.ref es[i].p])=H3 at T1;refine⟨_,rfl,es[i].p,es[i].pc,rfl,ht2.same T1,hts.ok _ tin,fun pn H4 s4 hu4=>?_⟩;have hul:us.length=i:=by
    have:=congrArg List.length huk
    rw[lM0,lM0,lT0] at this
    omega
   have hk0:(us.map (·.k))=(es.take i).map (·.k):=by
    have:=congrArg (List.map Prod.fst) huk
    rw[mC0,mC0] at this;exact this
   have hnd:((us++[(⟨es[i].k,pn,es[i].pc⟩:En)]).map (·.k)).Nodup:=by
    have e:(us++[(⟨es[i].k,pn,es[i].pc⟩:En)]).map (·.k)=(es.take (i+1)).map (·.k):=by
     rw[mA0,hk0,tS0,gE0 hi,mA0]
     rfl
    rw[e];exact hts.nd.sublist ((List.take_sublist _ _).map _)
   have hnew:a1k (kvT us) (.inl es[i].k)=none:=by
    refine a1o (f:=En.k) (g:=fun t:En=>V.ref t.p) fun hm=>?_;rw[mA0,List.nodup_append] at hnd;exact hnd.2.2 _ hm _ (mS0.mpr rfl) rfl
   have hd4:=(T1.trans s4) _ _ (a0z _ _ hus.at_);refine⟨_,rfl,_,rfl,td,_,rfl,.inl ⟨kvT us,.inl es[i].k,hd4,rfl,(by unfold kvT;rw[lM0,sizeLine_eq];have:=hts.le;omega),rfl⟩,?_⟩;rw[a1j _ hnew];have nH:∀{b:Addr},H3 b=none->H b=none:=fun {b} e=>by
    have e2:=a0v T1 e;have nb:b≠a:=fun e3=>by rw[e3,h2a] at e2;cases e2
    exact a0v sm (by rw[a0d nb];exact e2)
   refine⟨?_,fun b ob hb=>?_,us++[(⟨es[i].k,pn,es[i].pc⟩:En)],_,_,rfl,?_,?_⟩
   ·rw[a0d nat.symm]
    exact(T1.trans s4) _ _ h2a
   ·by_cases e:b=a
    ·subst e
     rw[a0c];rw[hts.at_] at hb;exact hb
    ·rw[a0d e,a0d (a0j hb htd)]
     have:=sm b ob hb
     rw[a0d e] at this;exact(T1.trans s4) _ _ this
   ·rw[mA0,huk,tS0,gE0 hi,mA0]
    rfl
   ·refine⟨a0T htd ?_,hnd,?_,fun e he=>?_,fun e he=>?_⟩
    ·rw[a0c]
     unfold kvT;rw[mA0]
     rfl
    ·rw[lA0,hul]
     show i+1<=63
     have:=hts.le
     omega
    ·rcases mB0.mp he with he |he
     ·refine(hus.th e he).move fun b ob hb tx=>?_
      have nb:b≠td:=fun e2=>by
       rw[e2,hus.at_] at hb;cases hb;exact a6q he tx
      exact a0T (a1t hb) (by rw[a0d nb];exact(T1.trans s4) _ _ (a0z _ _ hb))
     ·rw[mS0.mp he]
      refine hu4.move fun b ob hb _=>?_;have nb:b≠td:=fun e2=>by
       have:=a1t hb
       rw[e2,T1 _ _ (a0z _ _ hus.at_)] at this;cases this
      exact a0T (nH (a1t hb)) (by rw[a0d nb];exact a0z _ _ hb)
    ·rcases mB0.mp he with he |he
     ·exact hus.ok e he
     ·rw[mS0.mp he]
      exact hts.ok es[i] tin
  ·rintro σ H2 ⟨h2a,sm,us,u4,u5,rfl,huk,hus⟩
   have el:(kvT es).length=es.length:=by unfold kvT;rw[lM0]
   rw[el,List.take_length] at huk;refine⟨h2a,?_⟩;have hus':=hus.same (a3B (o:=.dK (kvT es)) hts.at_);generalize upd H2 a (.dK (kvT es))=H3 at sm hus';exact⟨us,_,_,rfl,sm,huk,hus'⟩
end
end My
namespace L2
open PySem PySem.Spec PyProof.Rows
theorem a8O {X:Cx}{K:Fg0}{es:List Expr}{k:Nat}{pos:Pos}{t:TGs}{n:Nat}(hK:X.K=K)(hc:X.calm=true)(h:PGs X es t)
  (hn:(assignEach es X.env).length=n:=by rfl) (hst:(assignEach es X.env).findIdx? (·.1)=none:=by rfl):PG X (.Tuple es k pos) (b8l K n t):=by
 subst hK;exact a2j hc h hn hst
theorem a3L (z:Str)(l:List Str):inV (.str z) (l.map V.str)=decide (z∈l):=by
 unfold inV;rw[Bool.eq_iff_iff,List.any_eq_true,decide_eq_true_iff]
 constructor
 ·rintro⟨y,hy,e⟩
  obtain⟨x,hx,rfl⟩:=mM0.mp hy
  have:x=z:=by simpa[eqV] using e
  rw[<-this];exact hx
 ·intro h
  exact⟨_,mM0.mpr ⟨z,h,rfl⟩,by simp[eqV]⟩
theorem a3K (l:List Str):(l.map V.str).all a3E=true:=by
 rw[List.all_map];exact List.all_eq_true.mpr fun _ _=>rfl
end L2
namespace My
open PySem L2 PyProof.Rows
seal L2.PE L2.PT L2.PW L2.PS L2.PSs L2.PA L2.PI L2.PG L2.PGs L2.OpR L2.UnR L2.a1r L2.IxR L2.SlR L2.MtR L2.PIf L2.PO L2.MtM L2.PC
def a7n (CP:Addr):Sp:=fun vs H Q _=>∃(a:Addr) (sz:Int) (Ts:List Tb) (es:List En),vs=[.ref a]/\a5v CP H a sz Ts es/\∀l H',a0k H H'->cut H H' l=some (.lst (((srt (es.map kc)).map (·.1)).map V.int))->Q (.ref l) H'
section
variable {P:Program}{w:World}{K:Fg0}{mg:Str->Option Value}{base:Heap}{CP CT CO CM:Addr}
theorem b3G {f:Addr}{fd:FuncData}(F:Fun K "held" "Plain.held" (a0p (top 26) 7) f fd)(B:Bl mg)(L:ClP K CP):a0A P w K mg base CX0 1 f fd ["self"] (a7n CP):=by
 have sc:a0o ["self"] ["self"] (a0g (a0p (top 26) 7)):=.k (by decide +kernel);refine F.ok sc (fun vs H Q E h=>?_) (fun cdv A outer s H vs Q E hr h=>?_)
 ·obtain⟨a,sz,Ts,es,rfl,_⟩:=h
  rfl
 ·obtain⟨a,sz,Ts,es,rfl,⟨⟨dx,fo,td,ha,hf,hts⟩,htb⟩,q⟩:=h
  refine⟨_,a0h (a0F (a0D (a0J rfl) (by rfl) B.sorted boot_sorted (a0a (a2h (pv 0) rfl) a0e))),?_⟩;refine⟨_,rfl,a,CP,dx,_,_,rfl,ha,L.cl,L.nT,a1p,td,_,(es.map kc).map (·.1),rfl,.inl hts.at_,a7y es,(by rw[lM0,lM0];have:=hts.le;omega),fun l ms hl hp hs=>?_⟩;obtain rfl:=a1y hp hs;exact q l _ (a0k.upd hl) (a0T hl a0c)
end
end My
namespace L2
open PySem PySem.Spec PyProof.Rows
theorem b3R (t:SetTable)(es:Array (Int×Value))(h:Int)(x:Value):(layNew t es h x).2.1.led=t.led:=by
 unfold layNew
 split
 ·unfold SetTable.orStandIn
  dsimp only
  split<;>rfl
 ·rfl
theorem b2l {m f mv:Nat}{a b:Bool}{hs:Array Int}{t:SetTable}{o:Array Nat}(h:SetTable.laid m f mv a b hs=some (t,o)):t.led=a/\t.plain=b:=by
 unfold SetTable.laid at h;cases e:SetTable.layClean m hs with
 |none=>rw[e] at h;cases h
 |some ow=>
  rw[e] at h
  injection h with h
  injection h with h1 h2
  rw[<-h1];exact⟨rfl,rfl⟩
theorem a9u (t:SetTable)(es:Array (Int×Value))(n:Nat):(relayAll t es n).2.1.led=t.led/\(t.plain=false->(relayAll t es n).2.1.plain=false):=by
 unfold relayAll
 split
 ·rename_i t' order e
  obtain⟨e1,e2⟩:=b2l e
  dsimp only
  split
  ·exact⟨e1,fun q=>e2.trans q⟩
  ·exact⟨rfl,fun _=>rfl⟩
 ·exact⟨rfl,fun _=>rfl⟩
section
variable {prog:Program}{w:World}{A:Around}{E:Vs0}{s:Shared}
theorem a3c (a:Value){Q₁:Vs0}
  (h:Q₁ (.ref s.heap.objs.size) { s with heap:=s.heap.push { cls:=.type "set",dict:=none,data:=.set #[] 0 (.fresh 0 0 (!w.params.followText "set-order")) } }) :
  codeAny (model prog w) A (.call (.builtin "set.__new__") ⟨[.type "set",a],[]⟩) (wants Q₁ E) s:=by
 refine codeAny_of_tree ?_;show wpAny _ A.in1 (do checkBuiltinCall "set.__new__" ⟨[.type "set",a],[]⟩;again (.builtin "set.__new__" ⟨[.type "set",a],[]⟩)) _ _ s;refine wB0 (wpAny_of_eq (F.newCall_set_1 a) (wP0 ⟨plainId_quiet F.plain_set_new _,codeAny_builtin F.entry_set_new ?_⟩));rw[Around.under_plainId F.plain_set_new _];unfold Builtin.«set.__new__» Builtin.Frozenset.newClass;have hsub:=sub_set_self;obtain⟨hp,g,d,tk,os⟩:=s
 dsimp only
 wp_walk
 refine wpAny_askSetting (wP0 ?_)
 dsimp only
 simp only[newObj];refine wB0 (wpAny_alloc (wP0 ?_));exact wP0 h
end
theorem a5o:entryFor table "set.__iter__"=some Builtin.«frozenset.__iter__»:=
 entryFor_alias (id':="frozenset.__iter__") (by kernel_rfl) rfl (by decide +kernel) (by kernel_rfl)
theorem a1q:Slot "set_iterator" "__next__" "set_iterator.__next__":=
 .of (owner:="set_iterator") (n:="__next__") (by rw[typeLookup_type,builtinLookup_eq_fast];kernel_rfl) (by decide +kernel) (by decide +kernel) (by decide +kernel)
  (by first |exact .inl (by decide +kernel) |exact .inr (by decide +kernel)) (by rw[isSubtype_type];kernel_rfl)
theorem a2A:entryFor table "set_iterator.__next__"=some Builtin.«set_iterator.__next__»:=entryFor_of_tree (by kernel_rfl)
theorem a7E:Manifest.owners.lookup (String.ofList ['r','o','t','a','r','e','t','i','_','t','e','s'].reverse)=some Manifest.sig_set_iterator:=by kernel_rfl
theorem a2U (a:Value):argsOk "set_iterator.__next__" ⟨[a],[]⟩:=by
 unfold argsOk;rw[signature?_of (id:="set_iterator.__next__") (n:=['_','_','t','x','e','n','_','_']) (o:=['r','o','t','a','r','e','t','i','_','t','e','s']) (by kernel_rfl) a7E];kernel_rfl
theorem a2L {α:Type}:∀(l:List α) (i:Nat) (h:i<l.length),(l[i]::l.eraseIdx i).Perm l
 |x::l,0,_=>by simp
 |x::l,i+1,h=>by
  have h':i<l.length:=by simpa using h
  have:=a2L l i h'
  simp only[List.getElem_cons_succ,List.eraseIdx_cons_succ];exact(List.Perm.swap _ _ _).trans (List.Perm.cons _ this)
theorem b4e {α:Type}(next:Nat->Nat):∀(n k:Nat) (left:List α) (out:Array α),left.length=n->(pickOrder.go next n k left out).toList.Perm (out.toList++left):=by
 intro n
 induction n with
 |zero=>
  intro k left out h;rw[List.length_eq_zero_iff] at h;subst h;unfold pickOrder.go;simp
 |succ n ih=>
  intro k left out h;have hl:next k%left.length<left.length:=Nat.mod_lt _ (by omega);unfold pickOrder.go;rw[gE0 hl];refine(ih _ _ _ (by rw[List.length_eraseIdx_of_lt hl];omega)).trans ?_;rw[Array.toList_push,List.append_assoc];exact List.Perm.append_left _ (a2L _ _ hl)
theorem a5l {α:Type}(next:Nat->Nat)(xs:Array α):(pickOrder next xs).toList.Perm xs.toList:=by
 unfold pickOrder;refine(b4e next _ _ _ _ (by simp)).trans ?_;simp
section
variable {M:Model}{A:Around}{E:Vs0}
theorem b0s {src:Source}{n:Nat}{Q:Nat->Shared->Prop}{s:Shared}(hn:n≠0)(h:∀i d,i<n->Q i { s with drawn:=d }):wpAny M A (choose src n) Q E s:=fun Γ p hΓ=>by
 unfold choose;rw[Sem.wp_choose];exact⟨hn,h _ _ (Nat.mod_lt _ (Nat.pos_of_ne_zero hn))⟩
theorem a9i {α:Type}:∀(n:Nat) (xs:List α) (s:Shared) (Q:List α->Shared->Prop),xs.length=n->(∀ys d,ys.Perm xs->Q ys { s with drawn:=d })->wpAny M A (drawOrder n xs) Q E s:=by
 intro n
 induction n with
 |zero=>
  intro xs s Q hl h;rw[List.length_eq_zero_iff] at hl;subst hl;unfold drawOrder;exact wP0 (h [] s.drawn .nil)
 |succ n ih=>
  intro xs s Q hl h;cases xs with
  |nil=>cases hl
  |cons x xs=>
   unfold drawOrder;refine wB0 (b0s (by simp) fun i d hi=>?_);rw[gE0 hi];refine wB0 (ih _ _ _ (by rw[List.length_eraseIdx_of_lt hi];simp only[List.length_cons] at hl ⊢;omega) fun ys d' hp=>?_);exact wP0 (h _ d' ((List.Perm.cons _ hp).trans (a2L _ _ hi)))
end
def b6t (h:Heap)(I:Addr)(f:Value)(i:Nat)(p:Addr)(n ep:Nat):Prop:=∃o,h.get? I=some o/\o.cls=.type "set_iterator"/\o.data=.fields #[f,.int i 0,.ref p,.int n 0,.int ep 0]
section
variable {P:Program}{w:World}{A:Around}{E:Vs0}{s:Shared}
theorem a4g {p:Addr}{o:Obj}{es:Array (Int×Value)}{ep:Nat}{t:SetTable}{slot i:Nat}{Q:Option (Value×Nat)->Shared->Prop}(ho:s.heap.get? p=some o)(hd:o.data=.set es ep t)(hf:t.fits es.size=true)(hw:w.params.followText "set-order"=true)
  (h:Q (((pickOrder (w.params.setOrder p ep) es)[i]?).map fun e=>(e.2,slot)) s):wpAny (model P w) A (setNext p slot i ep) Q E s:=by
 unfold setNext;refine wB0 (wpAny_setState_of ho hd hf ?_)
 dsimp only
 unfold setsByText;refine wB0 (wB0 (wpAny_askSetting (wP0 ?_)));refine wpAny_ite_split (fun _=>?_) (fun q=>absurd hw q);rw[if_neg (by simp)];refine wB0 ?_;unfold setWalk;refine wB0 (wpAny_setState_of ho hd hf ?_)
 dsimp only
 unfold setsByText;refine wB0 (wB0 (wpAny_askSetting (wP0 ?_)));refine wpAny_ite_split (fun _=>?_) (fun q=>absurd hw q);refine wB0 (wpAny_askSetting (wP0 ?_));exact wP0 h
theorem two_set {I p:Addr}{oi:Obj}{f x:Value}{i n ep:Nat}{v:Value}{R:Fin->Shared->Prop}(h1:s.heap.get? I=some oi)(h2:oi.cls=.type "set_iterator")(h3:oi.data=.fields #[f,.int i 0,.ref p,.int n 0,.int ep 0])
  (h:∀h',b6t h' I x (i+1) p n ep->Heap.SameBut I s.heap h'->R (.done (.ret v)) { s with heap:=h' }) :
  wpAny (model P w) A (do setField (.ref I) 0 x;setField (.ref I) 1 (rawInt ((i:Int)+1));ret v) R E s:=by
 refine wB0 (wpAny_setField h1 h3 (by simp) ?_);have g1:=Heap.get?_update_self (Obj.mapFields (·.setIfInBounds 0 x)) h1 (Obj.isFreed_of_fields (Obj.data_mapFields h3 _));have d1:=Obj.data_mapFields h3 (·.setIfInBounds 0 x);refine wB0 (wpAny_setField (s:={ s with heap:=s.heap.update I (Obj.mapFields (·.setIfInBounds 0 x)) }) g1 d1 (by simp) ?_);have g2:=Heap.get?_update_self (Obj.mapFields (·.setIfInBounds 1 (rawInt ((i:Int)+1)))) g1 (Obj.isFreed_of_fields (Obj.data_mapFields d1 _));refine wP0 (h _ ⟨_,g2,?_,?_⟩ ((Heap.SameBut.update ..).trans (Heap.SameBut.update ..)))
 ·rw[Obj.cls_mapFields,Obj.cls_mapFields];exact h2
 ·rw[Obj.data_mapFields d1];simp[rawInt]
theorem a3b:Slot "set_iterator" "__iter__" "set_iterator.__iter__":=
 .of (owner:="set_iterator") (n:="__iter__") (by rw[typeLookup_type,builtinLookup_eq_fast];kernel_rfl) (by decide +kernel) (by decide +kernel) (by decide +kernel)
  (by first |exact .inl (by decide +kernel) |exact .inr (by decide +kernel)) (by rw[isSubtype_type];kernel_rfl)
theorem a4J:entryFor table "set_iterator.__iter__"=some Builtin.«dict_keyiterator.__iter__»:=
 entryFor_alias (id':="dict_keyiterator.__iter__") (by kernel_rfl) rfl (by decide +kernel) (by kernel_rfl)
theorem a5x (a:Value):argsOk "set_iterator.__iter__" ⟨[a],[]⟩:=by
 unfold argsOk;rw[signature?_of (id:="set_iterator.__iter__") (n:=['_','_','r','e','t','i','_','_']) (o:=['r','o','t','a','r','e','t','i','_','t','e','s']) (by kernel_rfl) a7E];kernel_rfl
theorem a3J {A₀:Around}{h₀:Heap}{I:Addr}{Q:Option Value->Shared->Prop}(hh:A.handled=none)(hx:Heap.ExtBut I h₀ s.heap)(hQ:∀h',Heap.ExtBut I h₀ h'->Q none { s with heap:=h' }) :
  wpAny (model P w) A (newExc (.type "StopIteration") [] >>= fun e=>(raiseNew e:Sem Fin)) (fun fin s'=>∃v,fin=Fin.done (Flow.ret v)/\wpAny (model P w) A₀ (pure (some v)) Q E s')
   (fun e s'=>wpAny (model P w) A₀ (do let b <-isInstance e (.type "StopIteration");if b=true then pure none else throw e) Q E s') s:=by
 refine wB0 ?_;simp only[newExc,newTuple];refine wB0 (wpAny_newObj_type ?_ (by size_fits));refine wB0 (m:=firstArgMember _ _) (wpAny_of_eq (a:=Value.none) (by first |rfl | (simp only[firstArgMember];rfl)) ?_);refine wpAny_newObj_type ?_ (by size_fits);simp only[raiseNew];refine wB0 (wpAny_handled ?_);rw[hh];refine wB0 (wP0 (wpAny_throw ?_));refine wB0 (wpAny_isInstance (T:="StopIteration") (b:=true) ⟨_,hS0 _ rfl,rfl⟩ isSubtype_stop ?_);exact wP0 (hQ _ ((hx.push _).push _))
def StS (p I:Addr)(o:Obj)(es:Array (Int×Value))(ep:Nat)(T:Option (Addr×List Nat))(f:Nat->Value)(i:Nat)(h:Heap):Prop:=
 b6t h I (f i) i p es.size ep/\h.get? p=some o/\∀a ns,T=some (a,ns)->∃ot,h.get? a=some ot/\ot.data=.seq (ns.map fun j=>rawInt (j:Nat)).toArray 0
theorem b1n {p:Addr}{Q:Bool->Shared->Prop}(hT:s.TypeIs (.ref p) "set")(h:Q false s):wpAny (model P w) A (Builtin.List.listLengthHint (.ref p)) Q E s:=by
 unfold Builtin.List.listLengthHint;refine wB0 (wpAny_specialOf hT PySem.F.slot_set_len.lookup ?_);generalize hid:("set.__len__":String)=id0
 wp_delta
 rw[show splitId id0=some ("set","__len__") from by subst hid;decide +kernel];subst hid;refine wB0 (wpAny_isInstance (T:="set") (b:=true) hT (by rw[isSubtype_type];kernel_rfl) ?_);refine wpAny_ite_split (fun hab=>absurd hab (by decide)) (fun _=>?_);refine wpAny_ite_split (fun _=>?_) (fun hab=>absurd (by decide +kernel) hab);refine wB0 (wpAny_typeOf hT ?_);exact wP0 h
end
theorem Inv.draw {X:Cx}{Z:List (Addr×Obj)}{σ:St}{H:Hp}{s:Shared}{d:Drawn}(I:Inv X Z σ H s):Inv X Z σ H { s with drawn:=d }:=⟨I.ok,I.os,I.bare,I.base,I.loc,I.cell,I.free,I.freeC,I.pin,I.hok,I.len⟩
abbrev Up (xs:Array Nat):Prop:=xs.toList.Pairwise (·<·)
theorem Up.get {xs:Array Nat}(h:Up xs){a b:Nat}(hb:b<xs.size)(hab:a<b):xs[a]'(by omega)<xs[b]:=by
 have:=List.pairwise_iff_getElem.mp h a b (by rw[aL0];omega) (by rw[aL0];exact hb) hab
 simpa using this
theorem b2c {xs:Array Nat}{j:Nat}(hp:Up xs):∀(fuel lo hi:Nat),hi-lo<=fuel->lo<=hi->hi<=xs.size->(∀i (h:i<xs.size),i<lo->xs[i]<j)->(∀i (h:i<xs.size),hi<=i->j<=xs[i]) →
  SetTable.below.go xs j fuel lo hi<=hi/\(∀i (h:i<xs.size),i<SetTable.below.go xs j fuel lo hi->xs[i]<j)/\(∀i (h:i<xs.size),SetTable.below.go xs j fuel lo hi<=i->j<=xs[i]):=by
 intro fuel
 induction fuel with
 |zero=>
  intro lo hi hf hl hs h1 h2;unfold SetTable.below.go;exact⟨hl,h1,fun i h hi'=>h2 i h (by omega)⟩
 |succ fuel ih=>
  intro lo hi hf hl hs h1 h2;unfold SetTable.below.go
  by_cases c:lo<hi
  ·rw[if_pos c]
   dsimp only
   have hm:(lo+hi)/2<hi:=by omega
   have hms:(lo+hi)/2<xs.size:=by omega
   have eg:xs.getD ((lo+hi)/2) j=xs[(lo+hi)/2]:=by simp[Array.getD,hms]
   rw[eg]
   by_cases c2:xs[(lo+hi)/2]<j
   ·rw[if_pos c2]
    refine ih _ _ (by omega) (by omega) hs (fun i h hi'=>?_) h2
    by_cases e:i=(lo+hi)/2
    ·subst e;exact c2
    ·exact Nat.lt_trans (hp.get hms (by omega)) c2
   ·rw[if_neg c2]
    have hh:∀i (h:i<xs.size),(lo+hi)/2<=i->j<=xs[i]:=fun i h hi'=>by
     by_cases e:i=(lo+hi)/2
     ·subst e;omega
     ·have:=hp.get h (show(lo+hi)/2<i by omega)
      omega
    obtain⟨a,b,d⟩:=ih lo ((lo+hi)/2) (by omega) (by omega) (by omega) h1 hh;exact⟨by omega,b,d⟩
  ·rw[if_neg c]
   exact⟨hl,h1,fun i h hi'=>h2 i h (by omega)⟩
theorem a2N {xs:Array Nat}(hp:Up xs)(j:Nat):SetTable.below xs j<=xs.size/\(∀i (h:i<xs.size),i<SetTable.below xs j->xs[i]<j)/\(∀i (h:i<xs.size),SetTable.below xs j<=i->j<=xs[i]):=by
 unfold SetTable.below;exact b2c hp _ _ _ (by omega) (zL0 _) (nR0 _) (fun i h hi=>absurd hi (Nat.not_lt_zero _)) (fun i h hi=>absurd h (Nat.not_lt.mpr hi))
theorem a7Y {xs:Array Nat}(hp:Up xs){i:Nat}(h:i<xs.size):SetTable.below xs (xs[i]+1)=i+1:=by
 obtain⟨a,b,c⟩:=a2N hp (xs[i]+1);rcases Nat.lt_trichotomy (SetTable.below xs (xs[i]+1)) (i+1) with q |q |q
 ·have:=c i h (by omega)
  omega
 ·exact q
 ·have h1:=b (i+1) (by omega) q
  have h2:=hp.get (show i+1<xs.size by omega) (Nat.lt_succ_self i)
  omega
theorem a7X {xs:Array Nat}(hp:Up xs):SetTable.below xs 0=0:=by
 obtain⟨a,b,c⟩:=a2N hp 0;rcases Nat.eq_zero_or_pos (SetTable.below xs 0) with q |q
 ·exact q
 ·have:=b 0 (by omega) q
  omega
theorem a6I {α:Type}(xs:Array α)(p:Nat)(x:α):(SetTable.insertAt xs p x).toList=xs.toList.take p++x::xs.toList.drop p:=by
 unfold SetTable.insertAt;simp[List.drop_take,List.take_of_length_le]
theorem b0B {xs:Array Nat}(hp:Up xs){j:Nat}(hn:¬xs[SetTable.below xs j]? =some j):Up (SetTable.insertAt xs (SetTable.below xs j) j):=by
 obtain⟨a,b,c⟩:=a2N hp j;unfold Up;rw[a6I,List.pairwise_append];refine⟨hp.sublist (List.take_sublist _ _),List.pairwise_cons.mpr ⟨fun y hy=>?_,hp.sublist (List.drop_sublist _ _)⟩,fun x hx y hy=>?_⟩
 ·obtain⟨i,hi,rfl⟩:=List.mem_drop_iff_getElem.mp hy
  rw[aL0,Nat.add_comm] at hi;have h1:=c (SetTable.below xs j+i) hi (Nat.le_add_right _ _);show _<xs.toList[_];simp only[Array.getElem_toList,Nat.add_comm i];refine Nat.lt_of_le_of_ne h1 fun q=>?_
  by_cases z:i=0
  ·subst z
   exact hn (by rw[Array.getElem?_eq_getElem (show SetTable.below xs j<xs.size by omega)];exact congrArg some q.symm)
  ·have h2:=c (SetTable.below xs j) (by omega) (nR0 _)
   have h3:=hp.get hi (show SetTable.below xs j<SetTable.below xs j+i by omega)
   omega
 ·obtain⟨i,hi,rfl⟩:=List.mem_take_iff_getElem.mp hx
  rw[aL0] at hi;have h1:=b i (by omega) (by omega);have e:xs.toList[i]'(by rw[aL0];omega)=xs[i]'(by omega):=by simp
  rw[e];rcases mK0.mp hy with rfl |hy
  ·exact h1
  ·obtain⟨k,hk,rfl⟩:=List.mem_drop_iff_getElem.mp hy
   rw[aL0,Nat.add_comm] at hk;have h2:=c (SetTable.below xs j+k) hk (Nat.le_add_right _ _);simp only[Array.getElem_toList,Nat.add_comm k]
   omega
theorem b2v {t:SetTable}{hf:Nat->Int}{h:Int}:∀(fuel:Nat) (p:SetTable.Probe) (j:Nat) (d:Option Nat),(∀x,p.dummy=some x->¬t.place[SetTable.below t.place x]? =some x)->SetTable.probe.go t hf h fuel p=some (.empty j d)->¬t.place[SetTable.below t.place j]? =some j/\∀x,d=some x->¬t.place[SetTable.below t.place x]? =some x:=by
 intro fuel
 induction fuel with
 |zero=>intro p j d _ e;unfold SetTable.probe.go at e;cases e
 |succ fuel ih=>
  intro p j d hd e;unfold SetTable.probe.go at e;have adv:∀q:SetTable.Probe,(t.advance q).dummy=q.dummy:=fun q=>by
   unfold SetTable.advance
   split<;>rfl
  have live:∀x,¬(∃i,t.slot x=.live i)->¬t.place[SetTable.below t.place x]? =some x:=fun x hx q=>by
   refine hx ⟨SetTable.below t.place x,?_⟩;unfold SetTable.slot
   dsimp only
   rw[if_pos (by rw[q];simp)]
  split at e
  ·rename_i q
   injection e with e
   injection e with e1 e2
   subst e1 e2;exact⟨live _ (fun⟨i,z⟩=>by rw[q] at z;cases z),hd⟩
  ·rename_i q
   refine ih _ j d (fun x hx=>?_) e;rw[adv] at hx
   injection hx with hx
   subst hx;exact live _ fun⟨i,z⟩=>by rw[q] at z;cases z
  ·split at e
   ·cases e
   ·exact ih _ j d (fun x hx=>hd x (by rw[adv] at hx;exact hx)) e
theorem a3m (n:Nat):Up (Array.range n):=by
 unfold Up;rw[Array.toList_range];exact List.pairwise_lt_range
theorem b6y {t:SetTable}{es:Array (Int×Value)}{h:Int}{x:Value}(hp:Up t.place):Up (layNew t es h x).2.1.place:=by
 unfold layNew
 split
 ·rename_i slot wd e
  dsimp only
  have hn:¬t.place[SetTable.below t.place slot]? =some slot:=by
   unfold SetTable.freeSlot at e
   split at e
   ·rename_i j d e2
    injection e with e
    injection e with e3 e4
    unfold SetTable.probe at e2;obtain⟨h1,h2⟩:=b2v _ _ _ _ (fun x hx=>by unfold SetTable.probeStart at hx;cases hx) e2;cases d with
    |none=>rw[<-e3];exact h1
    |some y=>rw[<-e3];exact h2 y rfl
   ·cases e
  unfold SetTable.orStandIn
  split
  ·exact b0B hp hn
  ·exact a3m _
 ·exact a3m _
theorem b3L {β:Type}(f:Nat->Option β):∀l:List Nat,l.Pairwise (·<·)->((l.filterMap fun j=>(f j).map fun b=>(j,b)).map (·.1)).Pairwise (·<·):=by
 intro l hl;have sub:((l.filterMap fun j=>(f j).map fun b=>(j,b)).map (·.1)).Sublist l:=by
  clear hl
  induction l with
  |nil=>exact List.Sublist.refl _
  |cons a r ih=>
   rw[List.filterMap_cons];cases f a with
   |none=>exact ih.cons _
   |some b=>exact ih.cons₂ _
 exact hl.sublist sub
theorem b0g {m f mv:Nat}{a b:Bool}{hs:Array Int}{t:SetTable}{o:Array Nat}(h:SetTable.laid m f mv a b hs=some (t,o)):Up t.place:=by
 unfold SetTable.laid at h;cases e:SetTable.layClean m hs with
 |none=>rw[e] at h;cases h
 |some ow=>
  rw[e] at h
  injection h with h
  injection h with h1 h2
  rw[<-h1];unfold Up;exact b3L _ _ List.pairwise_lt_range
theorem b2e (t:SetTable)(es:Array (Int×Value))(n:Nat):Up (relayAll t es n).2.1.place:=by
 unfold relayAll
 split
 ·rename_i t' order e
  dsimp only
  split
  ·exact b0g e
  ·exact a3m _
 ·exact a3m _
def inE:Int×Value->Int
 | (_,.int z _)=>z
 |_=>0
structure a3T (P:Program) (w:World) (es:Array (Int×Value)) (t:SetTable) (zs:List Int):Prop where
 el:ElemsOf (a0i P w) es.toList
 tx:∀e∈es.toList,∃z k,e.2=.int z k
 pm:(es.toList.map inE).Perm zs
 nd:zs.Nodup
 bd:es.size<scanBound
 ft:t.fits es.size=true
 ld:w.params.followText "set-order"=false->t.led=true
 rs:Up t.place
def a1B (P:Program)(w:World)(p:Addr)(zs:List Int)(h:Heap):Prop:=∃o es ep t,h.get? p=some o/\o.ExactSet/\o.data=.set es ep t/\a3T P w es t zs
section
variable {P:Program}{w:World}{es:Array (Int×Value)}{t:SetTable}{zs:List Int}
theorem a3T.size (h:a3T P w es t zs):es.size=zs.length:=by
 rw[<-h.pm.length_eq,lM0,aL0]
theorem a3T.mem (h:a3T P w es t zs){z:Int}:z∈zs↔∃e∈es.toList,(a0i P w).is (.inl z) e.2=true:=by
 rw[<-h.pm.mem_iff,mM0]
 constructor
 ·rintro⟨e,he,rfl⟩
  obtain⟨z,k,q⟩:=h.tx e he;refine⟨e,he,?_⟩;obtain⟨i,v⟩:=e;simp only at q;subst q;exact a1L z k
 ·rintro⟨e,he,hk⟩
  refine⟨e,he,?_⟩;obtain⟨i,v⟩:=e;have hk':a4A (.inl z) v=true:=hk;rcases a0w hk' with ⟨x,k,q,e2⟩ |⟨_,_,q,_⟩
  ·subst e2
   injection q with q
   exact q.symm
  ·cases q
theorem a3T.of (h:a3T P w es t zs):∀k:Key,((zs.map Sum.inl).any fun x=>decide (x=k))=true↔∃e∈es.toList,(a0i P w).is k e.2=true:=by
 intro k;rw[List.any_eq_true]
 constructor
 ·rintro⟨x,hx,e⟩
  rw[decide_eq_true_iff] at e;subst e;obtain⟨z,hz,rfl⟩:=mM0.mp hx;exact h.mem.mp hz
 ·rintro⟨e,he,hk⟩
  have hk':a4A k e.2=true:=hk;rcases a0w hk' with ⟨x,t,rfl,q⟩ |⟨i,t,rfl,q⟩
  ·exact⟨.inl x,List.mem_map_of_mem (h.mem.mpr ⟨e,he,hk⟩),dT0 rfl⟩
  ·obtain⟨z,k,q'⟩:=h.tx e he
   rw[q'] at q;cases q
end
theorem a1B.keep {P:Program}{w:World}{p:Addr}{zs:List Int}{h h':Heap}(x:a1B P w p zs h)(k:∀o,h.get? p=some o->h'.get? p=some o):a1B P w p zs h':=by
 obtain⟨o,es,ep,t,h1,r⟩:=x;exact⟨o,es,ep,t,k _ h1,r⟩
theorem a6R {P:Program}{w:World}{H:Hp}{h:Heap}{p:Addr}{zs:List Int}(e:a1B P w p zs h):a1c P w H h p (.ext (a1B P w p zs)):=by
 refine⟨e,?_,fun h1 h2 x k=>x.keep k⟩;obtain⟨o,es,ep,t,ho,_⟩:=e;exact⟨o,ho⟩
def a2I (zs:List Int)(z:Int):List Int:=if z∈zs then zs else zs++[z]
section
variable {P:Program}{w:World}{A:Around}{E:Vs0}{s:Shared}{a:Addr}
theorem a5B {g:Bool->Sem Unit}(hg:∀(b:Bool) (s₁:Shared) (Q':Unit->Shared->Prop),Q' () s₁->wpAny (model P w) A (g b) Q' E s₁)
  {o:Obj} {es:Array (Int×Value)} {ep:Nat} {t:SetTable} (ho:s.heap.get? a=some o) (hex:o.ExactSet) (hd:o.data=.set es ep t)
  {es1:Array (Int×Value)} {t2:SetTable} {zs:List Int} (T:a3T P w es1 t2 zs) {wasDummy:Bool} {R:Option Bool->Shared->Prop}
  (h:∀h',Heap.SameBut a s.heap h'->a1B P w a zs h'->R (some true) { s with heap:=h' }) :
  wpAny (model P w) A (do
    storeSet a es1 t2
    if (!wasDummy&&t2.tooFull)=true then do
      g (relayAll t2 es1 (SetTable.grown es1.size)).2.2
      storeSet a (relayAll t2 es1 (SetTable.grown es1.size)).1 (relayAll t2 es1 (SetTable.grown es1.size)).2.1
      pure (some true)
     else pure (some true)) R E s:=by
 refine wB0 (wpAny_storeSet_of ho hd ?_ (fits_of_scanBound T.bd));obtain⟨ho1,_⟩:=SetOf_store (knd:=a0i P w) ho hex hd T.el T.of T.bd T.ft;have hsb1:=Heap.SameBut.update s.heap a (Obj.putSet es1 t2)
 split
 ·have hp:=relayAll_perm t2 es1 (SetTable.grown es1.size)
  have hfr:=relayAll_fits t2 es1 (SetTable.grown es1.size);have hle:=a9u t2 es1 (SetTable.grown es1.size);have hup:=b2e t2 es1 (SetTable.grown es1.size);generalize hRl:relayAll t2 es1 (SetTable.grown es1.size)=Rl at hp hfr hle hup ⊢;obtain⟨es2,t3,gave2⟩:=Rl
  dsimp only at hp hfr hle hup ⊢
  have hsz:es2.size=es1.size:=by rw[<-aL0,hp.length_eq,aL0]
  have T2:a3T P w es2 t3 zs:=⟨T.el.perm hp,fun e he=>T.tx e (hp.mem_iff.mp he),(hp.map _).trans T.pm,T.nd,by rw[hsz];exact T.bd,hfr,fun q=>hle.1.trans (T.ld q),hup⟩;refine wB0 (hg _ _ _ ?_);refine wB0 (wpAny_storeSet_of ho1 rfl ?_ (fits_of_scanBound T2.bd));obtain⟨ho2,_⟩:=SetOf_store (knd:=a0i P w) ho1 hex rfl T2.el T2.of T2.bd T2.ft;exact wP0 (h _ (hsb1.trans (Heap.SameBut.update _ a _)) ⟨_,_,_,_,ho2,hex,rfl,T2⟩)
 ·exact wP0 (h _ hsb1 ⟨_,_,_,_,ho1,hex,rfl,T⟩)
theorem add_int {z:Int}{tk:Tok}{zs:List Int}{Q:Bool->Shared->Prop}(hS:a1B P w a zs s.heap)(hroom:zs.length+1<scanBound)
  (h:∀b h',Heap.SameBut a s.heap h'->a1B P w a (a2I zs z) h'->Q b { s with heap:=h' }) :
  wpAny (model P w) A (setAddHashed a (.int z tk) ((a0i P w).hash (.inl z))) Q E s:=by
 obtain⟨o,es,ep,t,ho,hex,hd,T⟩:=hS;have hkey:(a0i P w).is (.inl z) (.int z tk)=true:=a1L z tk;have hb1:es.size+1<scanBound:=by rw[T.size];exact hroom
 unfold setAddHashed setAddHashedIn;refine wpAny_holding (wB0 (wpAny_setState_of ho hd T.ft ?_))
 dsimp only
 rw[byScan_of rfl T.bd T.el];simp only[↓reduceIte];unfold setAddByScan;refine wB0 ?_;refine wB0 (wpAny_rule ?_);refine wB0 (wpAny_setScan_of hkey ho hd T.ft T.el ?_);cases hr:List.findIdx? (fun e=>(a0i P w).is (.inl z) e.2) es.toList with
 |some j=>
  dsimp only
  obtain⟨hj,hpj,_⟩:=List.findIdx?_eq_some_iff_getElem.mp hr;have hz:z∈zs:=T.mem.mpr ⟨es.toList[j],gQ0 hj,hpj⟩;refine wP0 (wP0 ?_);have e:s={ s with heap:=s.heap }:=by cases s;rfl
  rw[e];refine h _ s.heap (Heap.SameBut.refl a s.heap) ?_;unfold a2I;rw[if_pos hz];exact⟨o,es,ep,t,ho,hex,hd,T⟩
 |none=>
  dsimp only
  have hz:z∉zs:=fun q=>by
   obtain⟨e,he,hp⟩:=T.mem.mp q
   have:=List.findIdx?_eq_none_iff.mp hr e he
   rw[hp] at this;exact Bool.noConfusion this
  have hgw:∀(b:Bool) {s₁:Shared} {Q':Unit->Shared->Prop},Q' () s₁->wpAny (model P w) A (match b with |true=>rule "set.scan.the-table-gave-way" |false=>pure ()) Q' E s₁:=
   fun b s₁ Q' hq=>by cases b<;>first |exact wP0 hq |exact wpAny_rule hq
  have hperm:=layNew_perm t es ((a0i P w).hash (.inl z)) (.int z tk);have hfits:=layNew_fits t es ((a0i P w).hash (.inl z)) (.int z tk);have hled:=b3R t es ((a0i P w).hash (.inl z)) (.int z tk);have hup:=b6y (es:=es) (h:=(a0i P w).hash (.inl z)) (x:=.int z tk) T.rs;generalize hL:layNew t es ((a0i P w).hash (.inl z)) (.int z tk)=L at hperm hfits hled hup ⊢;obtain⟨es1,t1,wasDummy,gave⟩:=L
  dsimp only at hperm hfits hled hup ⊢
  rw[Array.toList_push] at hperm;have hb1':es1.size<scanBound:=by rw[<-aL0,hperm.length_eq,lA0,aL0];simpa using hb1
  have ea:a2I zs z=zs++[z]:=if_neg hz;have T1:a3T P w es1 t1 (a2I zs z):=by
   refine⟨(T.el.push hkey rfl).perm hperm,fun e he=>?_,?_,?_,hb1',hfits,fun q=>hled.trans (T.ld q),hup⟩
   ·rcases mB0.mp (hperm.mem_iff.mp he) with he |he
    ·exact T.tx e he
    ·rw[mS0] at he;subst he;exact⟨z,tk,rfl⟩
   ·rw[ea]
    refine(hperm.map _).trans ?_;rw[mA0];exact T.pm.append_right _
   ·rw[ea,List.nodup_append]
    exact⟨T.nd,by simp,fun x hx y hy=>by rw[mS0] at hy;subst hy;exact fun q=>hz (q▸hx)⟩
  refine wB0 (hgw _ ?_)
  split
  ·refine wB0 (wpAny_of_eq (a:=true) (by unfold hashByValue;rfl) ?_)
   simp only[↓reduceIte];refine a5B ?_ ho hex hd T1 ?_
   ·intro b s₁ Q' hq;cases b<;>first |exact wP0 hq |exact wpAny_rule hq
   ·intro h' hsb hS';dsimp only;exact wP0 (h _ h' hsb hS')
  ·refine wB0 (wP0 ?_)
   simp only[↓reduceIte];refine a5B ?_ ho hex hd T1 ?_
   ·intro b s₁ Q' hq;cases b<;>first |exact wP0 hq |exact wpAny_rule hq
   ·intro h' hsb hS';dsimp only;exact wP0 (h _ h' hsb hS')
end
def a7I (t:SetTable):Nat->Nat
 |0=>0
 |i+1=>t.place.getD i 0+1
theorem a8U {t:SetTable}(hu:Up t.place){i:Nat}(h:i<=t.place.size):SetTable.below t.place (a7I t i)=i:=by
 cases i with
 |zero=>exact a7X hu
 |succ i=>
  show SetTable.below t.place (t.place.getD i 0+1)=i+1;have hi:i<t.place.size:=by omega
  have e:t.place.getD i 0=t.place[i]:=by simp[Array.getD,hi]
  rw[e];exact a7Y hu hi
inductive b0Q (w:World) (p:Addr) (es:Array (Int×Value)) (ep:Nat) (t:SetTable):Option (Addr×List Nat)->(Nat->Value)->List Value->Prop
 |world:w.params.followText "set-order"=true->b0Q w p es ep t none (fun _=>.int 0 0) ((pickOrder (w.params.setOrder p ep) es).toList.map (·.2))
 |drawn (T:Addr) (ns:List Nat):ns.Perm (List.range es.size)->b0Q w p es ep t (some (T,ns)) (fun _=>.ref T) (ns.map fun j=>(es.getD j (0,.none)).2)
 |slots:w.params.followText "set-order"=false->t.led=true->(!t.plain&&decide (es.size > 1))=false->Up t.place->t.place.size=es.size->b0Q w p es ep t none (fun i=>.int (a7I t i:Nat) 0) (es.toList.map (·.2))
theorem b0Q.perm {w:World}{p:Addr}{es:Array (Int×Value)}{ep:Nat}{t:SetTable}{T:Option (Addr×List Nat)}{f:Nat->Value}{ord:List Value}(h:b0Q w p es ep t T f ord):ord.Perm (es.toList.map (·.2)):=by
 cases h with
 |world _=>exact(a5l _ _).map _
 |drawn T ns hp=>
  refine(hp.map _).trans (List.Perm.of_eq ?_);refine List.ext_getElem (by simp) fun i h1 h2=>?_
  have:i<es.size:=by simpa using h1
  simp[Array.getD,this]
 |slots _ _ _ _ _=>exact .refl _
section
variable {P:Program}{w:World}{A:Around}{E:Vs0}{s:Shared}
theorem a4k {p:Addr}{o:Obj}{es:Array (Int×Value)}{ep:Nat}{t:SetTable}{slot i:Nat}{Q:Option (Value×Nat)->Shared->Prop}(ho:s.heap.get? p=some o)(hd:o.data=.set es ep t)(hf:t.fits es.size=true)(hw:w.params.followText "set-order"=false)(hl:t.led=true)(hz:(!t.plain&&decide (es.size > 1))=false)
  (h:Q (match es[SetTable.below t.place slot]?,t.place[SetTable.below t.place slot]? with |some (_,x),some j=>some (x,j+1) |_,_=>none) s):wpAny (model P w) A (setNext p slot i ep) Q E s:=by
 unfold setNext;refine wB0 (wpAny_setState_of ho hd hf ?_)
 dsimp only
 unfold setsByText;refine wB0 (wB0 (wpAny_askSetting (wP0 ?_)));refine wpAny_ite_split (fun q=>absurd (hw.symm.trans q) bF0) fun _=>?_;refine wpAny_ite_split (fun q=>?_) fun _=>?_
 ·exfalso
  have q':(!t.plain&&decide (es.size > 1))=true:=q;rw[hz] at q';cases q'
 ·refine wB0 ?_
  refine wpAny_ite_split (fun q=>?_) fun _=>?_
  ·rw[hl] at q
   simp at q
  ·exact wP0 (wP0 h)
theorem b2u {I p:Addr}{o:Obj}{es:Array (Int×Value)}{ep:Nat}{t:SetTable}{T:Option (Addr×List Nat)}{f:Nat->Value}{ord:List Value}{i:Nat}{v:Value}{Q:Option Value->Shared->Prop}(hit:b6t s.heap I (f i) i p es.size ep)(ho:s.heap.get? p=some o)(hd:o.data=.set es ep t)(hf:t.fits es.size=true)(W:b0Q w p es ep t T f ord)(hT:∀a ns,T=some (a,ns)->∃ot,s.heap.get? a=some ot/\ot.data=.seq (ns.map fun j=>rawInt (j:Nat)).toArray 0)(hv:ord[i]? =some v)
  (hQ:∀h',b6t h' I (f (i+1)) (i+1) p es.size ep->Heap.SameBut I s.heap h'->Q (some v) { s with heap:=h' }):wpAny (model P w) A (pyNext (.ref I)) Q E s:=by
 obtain⟨oi,h1,h2,h3⟩:=hit;have hTy:s.TypeIs (.ref I) "set_iterator":=⟨oi,h1,h2⟩;unfold pyNext;refine wB0 (wpAny_attempt (wpAny_callSpecial?_slot (name:=Str.ofString "__next__") hTy a1q (wpAny_call_entry a1q hTy a2A ?_ (a2U _))));unfold Builtin.«set_iterator.__next__»;refine wB0 (wP0 ?_);refine wB0 (wpAny_fieldsOf h1 h3 ?_)
 dsimp only
 refine wB0 (wpAny_setEntries_of ho hd hf ?_);rw[if_neg (by simp)];cases W with
 |world hw=>
  dsimp only
  simp only[Int.toNat_natCast,Int.toNat_zero];refine wB0 (a4g ho hd hf hw ?_);rw[gM0] at hv;obtain⟨e,he,rfl⟩:=Option.map_eq_some_iff.mp hv;rw[Array.getElem?_toList] at he;rw[he]
  dsimp only[Option.map]
  exact two_set h1 h2 h3 fun h' a b=>⟨_,rfl,wP0 (hQ h' a b)⟩
 |drawn T ns hp=>
  dsimp only
  obtain⟨ot,t1,t2⟩:=hT T ns rfl;refine wB0 (wpAny_seqItems t1 t2 ?_);rw[gM0] at hv;obtain⟨j,hj,rfl⟩:=Option.map_eq_some_iff.mp hv;simp only[Int.toNat_natCast];have e1:(ns.map fun j=>rawInt (j:Nat)).toArray[i]? =some (rawInt (j:Nat)):=by simp[hj]
  rw[e1];have hjs:j<es.size:=by
   have:=hp.mem_iff.mp (gI0 hj)
   simpa using this
  dsimp only[rawInt]
  refine wB0 ?_;unfold setNextDrawn;refine wB0 (wpAny_setState_of ho hd hf ?_)
  dsimp only
  rw[if_neg (by simp),Int.toNat_natCast,Array.getElem?_eq_getElem hjs]
  dsimp only
  refine wP0 (wB0 (wpAny_setField h1 h3 (by simp) (wP0 ⟨_,rfl,wP0 ?_⟩)));have ev:(es.getD j (0,Value.none)).2=es[j].2:=by simp[Array.getD,hjs]
  rw[<-ev];exact hQ _ ⟨_,Heap.get?_update_self _ h1 (Obj.isFreed_of_fields (Obj.data_mapFields h3 _)),(Obj.cls_mapFields ..).trans h2,by rw[Obj.data_mapFields h3];simp[rawInt]⟩ (Heap.SameBut.update ..)
 |slots a b c d sz=>
  dsimp only
  have hi:i<es.size:=by
   have:=(gS0.mp hv).1
   simpa using this
  simp only[Int.toNat_natCast];refine wB0 (a4k ho hd hf a b c ?_);rw[a8U d (by omega)];have e1:es[i]? =some es[i]:=Array.getElem?_eq_getElem hi;have e2:t.place[i]? =some (t.place[i]'(by omega)):=Array.getElem?_eq_getElem _;rw[e1,e2];have ev:es[i].2=v:=by
   rw[gM0,Array.getElem?_toList,e1] at hv
   injection hv
  have es1:t.place[i]'(by omega)+1=a7I t (i+1):=by
   show _=t.place.getD i 0+1;simp[Array.getD,show i<t.place.size by omega]
  obtain⟨hh,x⟩:∃q,es[i]=q:=⟨_,rfl⟩
  dsimp only
  rw[ev,es1];exact two_set h1 h2 h3 fun h' a b=>⟨_,rfl,wP0 (hQ h' a b)⟩
theorem b4d {I p:Addr}{o:Obj}{es:Array (Int×Value)}{ep:Nat}{t:SetTable}{T:Option (Addr×List Nat)}{f:Nat->Value}{ord:List Value}{i:Nat}{Q:Option Value->Shared->Prop}(hh:A.handled=none)(hit:b6t s.heap I (f i) i p es.size ep)(ho:s.heap.get? p=some o)(hd:o.data=.set es ep t)(hf:t.fits es.size=true)(W:b0Q w p es ep t T f ord)(hT:∀a ns,T=some (a,ns)->∃ot,s.heap.get? a=some ot/\ot.data=.seq (ns.map fun j=>rawInt (j:Nat)).toArray 0)(hv:i=ord.length)
  (hQ:∀h',Heap.ExtBut I s.heap h'->Q none { s with heap:=h' }):wpAny (model P w) A (pyNext (.ref I)) Q E s:=by
 obtain⟨oi,h1,h2,h3⟩:=hit;have hTy:s.TypeIs (.ref I) "set_iterator":=⟨oi,h1,h2⟩;have hh':A.in1.handled=none:=hh;unfold pyNext;refine wB0 (wpAny_attempt (wpAny_callSpecial?_slot (name:=Str.ofString "__next__") hTy a1q (wpAny_call_entry a1q hTy a2A ?_ (a2U _))));unfold Builtin.«set_iterator.__next__»;refine wB0 (wP0 ?_);refine wB0 (wpAny_fieldsOf h1 h3 ?_)
 dsimp only
 refine wB0 (wpAny_setEntries_of ho hd hf ?_);rw[if_neg (by simp)];cases W with
 |world hw=>
  dsimp only
  simp only[Int.toNat_natCast,Int.toNat_zero];refine wB0 (a4g ho hd hf hw ?_);have e0:(pickOrder (w.params.setOrder p ep) es)[i]? =none:=by
   rw[hv,lM0,aL0];simp
  rw[e0]
  dsimp only[Option.map]
  exact wB0 (wpAny_setField h1 h3 (by simp) (a3J hh' (Heap.SameBut.update ..).extBut hQ))
 |drawn T ns hp=>
  dsimp only
  obtain⟨ot,t1,t2⟩:=hT T ns rfl;refine wB0 (wpAny_seqItems t1 t2 ?_);simp only[Int.toNat_natCast];have e1:(ns.map fun j=>rawInt (j:Nat)).toArray[i]? =none:=by rw[hv];simp
  rw[e1]
  dsimp only
  refine wB0 (wpAny_setField h1 h3 (by simp) ?_);have g1:=Heap.get?_update_self (Obj.mapFields (·.setIfInBounds 0 (rawInt 0))) h1 (Obj.isFreed_of_fields (Obj.data_mapFields h3 _));have d1:=Obj.data_mapFields h3 (·.setIfInBounds 0 (rawInt 0));exact wB0 (wpAny_setField (s:={ s with heap:=s.heap.update I (Obj.mapFields (·.setIfInBounds 0 (rawInt 0))) }) g1 d1 (by simp) (a3J hh' ((Heap.SameBut.update ..).trans (Heap.SameBut.update ..)).extBut hQ))
 |slots a b c d sz=>
  dsimp only
  simp only[Int.toNat_natCast];refine wB0 (a4k ho hd hf a b c ?_);have hi:i=es.size:=by rw[hv];simp
  rw[a8U d (by omega),hi];have e0:es[es.size]? =none:=by simp
  rw[e0]
  dsimp only
  exact wB0 (wpAny_setField h1 h3 (by simp) (a3J hh' (Heap.SameBut.update ..).extBut hQ))
theorem a8i {I p:Addr}{o:Obj}{es:Array (Int×Value)}{ep:Nat}{t:SetTable}{T:Option (Addr×List Nat)}{f:Nat->Value}{ord:List Value}{ts:List Addr}(hh:A.handled=none)(hd:o.data=.set es ep t)(hf:t.fits es.size=true)(W:b0Q w p es ep t T f ord)(hpI:p≠I)(ht:∀a ns,T=some (a,ns)->a∈ts/\a≠I) :
  Walks P w A I (I::p::ts) [I] ord.length (fun i v=>ord[i]? =some v) (StS p I o es ep T f) where
 sub:=fun b hb=>by simp at hb;simp[hb]
 frame:=fun i h h' st hk=>by
  obtain⟨⟨oi,h1,h2⟩,h3,h4⟩:=st;refine⟨⟨oi,hk I (by simp) _ h1,h2⟩,hk p (by simp) _ h3,fun a ns e=>?_⟩;obtain⟨ot,t1,t2⟩:=h4 a ns e;exact⟨ot,hk a (mL0 _ (mL0 _ (ht a ns e).1)) _ t1,t2⟩
 item:=fun i s Q E hi st hQ=>by
  obtain⟨h1,h2,h3⟩:=st;refine b2u h1 h2 hd hf W h3 (gE0 hi) fun h' a b=>?_;refine hQ _ h' s.toks (gE0 hi) ⟨a,(b.2 p hpI).trans h2,fun c ns e=>?_⟩ fun c oc hc e=>(b.2 c (fun q=>hc (by simp[q]))).trans e;obtain⟨ot,t1,t2⟩:=h3 c ns e;exact⟨ot,(b.2 c (ht c ns e).2).trans t1,t2⟩
 done:=fun s Q E st hQ=>by
  obtain⟨h1,h2,h3⟩:=st;exact b4d hh h1 h2 hd hf W h3 rfl fun h' he=>hQ h' s.toks fun b o hb e=>he b o (fun q=>hb (by simp[q])) e
 self:=fun i s Q E st hQ=>by
  obtain⟨⟨oi,h1,h2,_⟩,_⟩:=st;have hT:s.TypeIs (.ref I) "set_iterator":=⟨_,h1,h2⟩;refine wpAny_pyIter_slot hT a3b (wpAny_call_entry a3b hT a4J ?_ (a5x _));show wpAny _ _ (ret (.ref I)) _ _ s;exact wP0 ⟨_,rfl,"set_iterator",_,hT,a1q.lookup,hQ⟩
theorem b0L {p:Addr}{o:Obj}{es:Array (Int×Value)}{ep:Nat}{t:SetTable}{zs:List Int}{Q:Vs0}(ho:s.heap.get? p=some o)(hx:o.ExactSet)(hd:o.data=.set es ep t)(S:a3T P w es t zs)
  (hQ:∀(I:Addr) (h':Heap) (d:Drawn) (T:Option (Addr×List Nat)) (f:Nat->Value) (ord:List Value) (ts:List Addr),b0Q w p es ep t T f ord->(∀b ob,s.heap.get? b=some ob->h'.get? b=some ob)->s.heap.objs.size<=I->(∀a∈ts,s.heap.objs.size<=a)->(∀a ns,T=some (a,ns)->a∈ts/\a≠I)->StS p I o es ep T f 0 h'->Q (.ref I) { s with heap:=h',drawn:=d }) :
  wpAny (model P w) A (pyIter (.ref p)) Q E s:=by
 have hT:s.TypeIs (.ref p) "set":=⟨o,ho,hx.1⟩;refine wpAny_pyIter_slot hT F.slot_set_iter (wpAny_call_entry F.slot_set_iter hT a5o ?_ (F.args_set_iter_1 _));unfold Builtin.«frozenset.__iter__» Builtin.Frozenset.slot0 Builtin.Frozenset.sizeOf;refine wB0 (wB0 (wP0 ?_));refine wP0 ?_;refine wB0 (wB0 (wpAny_setEntries_of ho hd S.ft (wP0 ?_)));unfold setDrawn;refine wB0 (wB0 (wpAny_setState_of ho hd S.ft ?_))
 dsimp only
 unfold setsByText;refine wB0 (wB0 (wpAny_askSetting (wP0 ?_)));refine wP0 ?_;have enter:∀(fv:Value) (T:Option (Addr×List Nat)) (f:Nat->Value) (ord:List Value) (ts:List Addr) (h1:Heap) (d1:Drawn),fv=f 0->b0Q w p es ep t T f ord->(∀b ob,s.heap.get? b=some ob->h1.get? b=some ob)->s.heap.objs.size<=h1.objs.size->(∀a∈ts,s.heap.objs.size<=a)->(∀a ns,T=some (a,ns)->a∈ts/\∃ot,h1.get? a=some ot/\ot.data=.seq (ns.map fun j=>rawInt (j:Nat)).toArray 0) →
   wpAny (model P w) A.in1 (do let e <-setEpoch p;let v <-newFields "set_iterator" [fv,rawInt 0,.ref p,rawInt es.size,rawInt e];ret v) (fun fin s'=>∃v,fin=Fin.done (Flow.ret v)/\∃T' r,s'.TypeIs v T'/\typeLookup (.type T') "__next__"=pure (some r)/\Q v s') E { s with heap:=h1,drawn:=d1 }:=by
  intro fv T f ord ts h1 d1 e W k le hts hTT;subst e;refine wB0 (wpAny_setEpoch_of (s:={ s with heap:=h1,drawn:=d1 }) (k _ _ ho) hd S.ft ?_);refine wB0 (wpAny_newObj_type ?_);refine wP0 ⟨_,rfl,"set_iterator",_,⟨_,hS0 _ rfl,rfl⟩,a1q.lookup,?_⟩;refine hQ h1.objs.size _ d1 T f ord ts W (fun b ob q=>hP0 _ (k b ob q)) le hts (fun a ns q=>?_) ⟨⟨_,hS0 _ rfl,rfl,rfl⟩,hP0 _ (k _ _ ho),fun a ns q=>?_⟩
  ·obtain⟨m,ot,t1,_⟩:=hTT a ns q
   exact⟨m,nL0 (hL0 t1)⟩
  ·obtain⟨m,ot,t1,t2⟩:=hTT a ns q
   exact⟨ot,hP0 _ t1,t2⟩
 refine wpAny_ite_split (fun q=>?_) fun q=>?_
 ·have q':(!w.params.followText "set-order"&&(!t.plain&&decide (es.size > 1)))=true:=q
  rw[Bool.and_eq_true,Bool.not_eq_true'] at q';refine wB0 (a9i es.size _ _ _ (by simp) fun ys d hp=>?_);have hys:ys.length=es.size:=by rw[hp.length_eq,List.length_range]
  unfold newTuple;refine wB0 (wpAny_newObj_type (data:=.seq (ys.map fun(i:Nat)=>rawInt i).toArray) ?_ (by show(ys.map fun(i:Nat)=>rawInt i).toArray.size<=sizeLine;rw[List.size_toArray,lM0,hys];exact fits_of_scanBound S.bd));refine enter (.ref s.heap.objs.size) (some (s.heap.objs.size,ys)) (fun _=>.ref s.heap.objs.size) _ [s.heap.objs.size] _ d rfl (.drawn _ ys hp) (fun b ob q=>hP0 _ q) (by rw[Heap.size_push];exact Nat.le_succ _) (fun a ha=>by rw[mS0.mp ha];exact nR0 _) fun a ns e=>?_
  injection e with e
  injection e with e1 e2
  subst e1 e2;exact⟨mS0.mpr rfl,_,hS0 _ rfl,rfl⟩
 ·have q':¬(!w.params.followText "set-order"&&(!t.plain&&decide (es.size > 1)))=true:=q
  refine wB0 (wP0 ?_);have e0:s={ s with heap:=s.heap,drawn:=s.drawn }:=by cases s;rfl
  cases hw:w.params.followText "set-order" with
  |true=>exact enter _ none (fun _=>.int 0 0) _ [] s.heap s.drawn rfl (.world hw) (fun _ _ q=>q) (nR0 _) (fun a ha=>by cases ha) (fun a ns e=>by cases e)
  |false=>
   have q2:(!t.plain&&decide (es.size > 1))=false:=by
    rw[hw] at q';simpa using q'
   have sz:t.place.size=es.size:=by
    have:=S.ft
    unfold SetTable.fits at this;rw[Bool.and_eq_true,beq_iff_eq] at this;exact this.1
   exact enter _ none (fun i=>.int (a7I t i:Nat) 0) _ [] s.heap s.drawn rfl (.slots hw (S.ld hw) q2 S.rs sz) (fun _ _ q=>q) (nR0 _) (fun a ha=>by cases ha) (fun a ns e=>by cases e)
theorem a7c:∀{ord:List Value},(∀v∈ord,∃z k,v=.int z k)->IntsAre ord (ord.map fun v=>inE (0,v))
 |[],_=>.nil
 |v::r,all=>by
  obtain⟨z,k,rfl⟩:=all v List.mem_cons_self;exact .cons _ _ (a7c fun x hx=>all x (mL0 _ hx))
theorem a6c {p:Addr}{zs:List Int}{R:List Value->Shared->Prop}(hh:A.handled=none)(hS:a1B P w p zs s.heap)(hl:zs.length<=1000)
  (h:∀(h':Heap) (d:Drawn) (tk:Nat) (us:List Value) (ys:List Int),(∀b o,s.heap.get? b=some o->h'.get? b=some o)->IntsAre us ys->ys.Perm zs->R us { s with heap:=h',drawn:=d,toks:=tk }) :
  wpAny (model P w) A (collect (.ref p)) R E s:=by
 obtain⟨o,es,ep,t,ho,hx,hd,S⟩:=hS;have hlt:=hL0 ho;unfold collect;refine wB0 (wpAny_runValue (codeAny_builtin entry_proto_collect' ?_));rw[Around.under_plainId PySem.F.plain_proto_collect _];show wpAny _ A.in1 (newList [] >>= fun l=>again (.builtin "list.__iadd__" ⟨[l,.ref p],[]⟩)) _ _ s;refine wB0 (wpAny_newObj_type ?_);refine wP0 ⟨plainId_quiet PySem.F.plain_list_iadd _,codeAny_builtin entry_list_iadd' ?_⟩;rw[Around.under_plainId PySem.F.plain_list_iadd _];have hS₁:(s.heap.push { cls:=.type "list",data:=.seq ([]:List Value).toArray }).get? s.heap.objs.size=some { cls:=.type "list",data:=.seq #[] }:=hS0 _ rfl;show wpAny _ A.in1 (Builtin.List.listExtendWith (.ref s.heap.objs.size) (.ref p) (.ref s.heap.objs.size)) _ _ _;generalize eh:s.heap.push { cls:=.type "list",data:=.seq ([]:List Value).toArray }=h1 at hS₁ ⊢;have k1:∀b o,s.heap.get? b=some o->h1.get? b=some o:=fun b o e=>by rw[<-eh];exact hP0 _ e
 have z1:h1.objs.size=s.heap.objs.size+1:=by rw[<-eh,Heap.size_push]
 have hT1:Shared.TypeIs { s with heap:=h1 } (.ref p) "set":=⟨o,k1 _ _ ho,hx.1⟩;unfold Builtin.List.listExtendWith;refine wB0 (wpAny_typeOf (T:="set") hT1 ?_);have e1:Builtin.List.listSameRef (.ref s.heap.objs.size) (.ref p)=false:=by simp[Builtin.List.listSameRef,Nat.ne_of_gt hlt]
 have e2:(Value.type "set"==Value.type "list")=false:=by decide
 have e3:(Value.type "set"==Value.type "tuple")=false:=by decide
 simp only[e1,e2,e3,Bool.or_false,Bool.false_eq_true,if_false];refine wB0 (b0L (s:={ s with heap:=h1 }) (k1 _ _ ho) hx hd S fun I h2 d T f ord ts W k2 iI its iT st=>?_);have i1:s.heap.objs.size<I:=by have:h1.objs.size<=I:=iI;omega
 have iS:s.heap.objs.size∉I::p::ts:=by
  simp only[mK0,not_or];refine⟨nL0 i1,Nat.ne_of_gt hlt,fun q=>?_⟩
  have:h1.objs.size<=s.heap.objs.size:=its _ q
  omega
 have hpI:p≠I:=nL0 (Nat.lt_trans hlt i1);have hT2:Shared.TypeIs { s with heap:=h2,drawn:=d } (.ref p) "set":=⟨o,k2 _ _ (k1 _ _ ho),hx.1⟩;refine wB0 (wpAny_holding (b1n (s:={ s with heap:=h2,drawn:=d }) hT2 ?_));have Wk:=a8i (P:=P) (A:=A.in1) (I:=I) (p:=p) (o:=o) hh hd S.ft W hpI iT;have on:ord.length=es.size:=by rw[W.perm.length_eq,lM0,aL0]
 have key:∀(h3:Heap) (c₁ tk:Nat),StS p I o es ep T f 0 h3->(∀b ob,s.heap.get? b=some ob->h3.get? b=some ob)->h3.get? s.heap.objs.size=some { cls:=.type "list",data:=.seq #[] c₁ } →
   codeAny (model P w) A (.builtin "list.extend.loop" ⟨[.ref s.heap.objs.size,.ref I,.ref s.heap.objs.size],[]⟩) (fun q s'=>∃(h':Heap) (tk:Nat) (acc':Array Value) (c':Nat),q=.ok (.ret (.ref s.heap.objs.size))/\s'={ s with heap:=h',drawn:=d,toks:=tk }/\(∀b ob,s.heap.get? b=some ob->h'.get? b=some ob)/\h'.get? s.heap.objs.size=some { cls:=.type "list",dict:=none,data:=.seq acc' c',slots:=#[] }/\ItemsOf (fun i v=>ord[i]? =some v) acc' ord.length) { s with heap:=h3,drawn:=d,toks:=tk }:=by
  intro h3 c₁ tk hst hk hS₁;refine codeAny_extend_loopS Wk.toS (by rw[on,S.size,sizeLine_eq];omega) s.heap.objs.size iS _ ord.length 0 _ #[] c₁ rfl (zL0 _) hst hS₁ (ItemsOf.nil _) fun s' acc' c' hm hS' hacc=>?_;obtain⟨h',g',d',tk',os'⟩:=s';have q1:g'=s.gens:=hm.gens;have q2:d'=d:=hm.drawn;have q3:os'=s.os:=hm.os;subst q1 q2 q3;refine⟨h',tk',acc',c',rfl,rfl,fun b ob e=>hm.heap b ob (fun hmem=>?_) (hk b ob e),hS',hacc⟩;have lb:=hL0 e;rcases mK0.mp hmem with e' |hmem
  ·exact absurd lb (by rw[e'];exact Nat.lt_irrefl _)
  ·exact absurd (Nat.lt_trans i1 (by rw[<-mS0.mp hmem];exact lb)) (Nat.lt_irrefl _)
 have post:∀(h3:Heap) (c₁ tk:Nat),StS p I o es ep T f 0 h3->(∀b ob,s.heap.get? b=some ob->h3.get? b=some ob)->h3.get? s.heap.objs.size=some { cls:=.type "list",data:=.seq #[] c₁ } →
   codeAny (model P w) A (.builtin "list.extend.loop" ⟨[.ref s.heap.objs.size,.ref I,.ref s.heap.objs.size],[]⟩) (fun r s'=>match r with
    |Except.ok (Flow.ret v)=>wpAny (model P w) A (match v with
      |Value.ref a=>do
       let __do_lift <-load a
       match __do_lift.data with
        |Data.seq xs epoch=>pure xs.toList
        |x=>unsupported "internal:collect"
      |x=>unsupported "internal:collect") R E s'
    |Except.ok a=>False
    |Except.error e=>E e s') { s with heap:=h3,drawn:=d,toks:=tk }:=by
  intro h3 c₁ tk a b c;refine codeAny_mono (key h3 c₁ tk a b c) fun q s₂ y=>?_;obtain⟨h',tk',acc',c',rfl,rfl,hk,hS',hacc⟩:=y
  dsimp only
  refine wB0 (wpAny_load hS' ?_);refine wP0 ?_;have hwl:acc'.toList=ord:=by
   refine List.ext_getElem (by rw[aL0];exact hacc.1) fun i q1 q2=>?_
   have:ord[i]? =some acc'.toList[i]:=hacc.2 i acc'.toList[i] (by rw[<-Array.getElem?_toList];exact gE0 q1)
   rw[gE0 q2] at this
   injection this with this
   exact this.symm
  rw[hwl];have hst:IntsAre ord (ord.map fun v=>inE (0,v)):=a7c fun v hv=>by
   obtain⟨e,he,rfl⟩:=mM0.mp (W.perm.mem_iff.mp hv);exact S.tx e he
  refine h h' d tk' ord _ hk hst ?_;refine(W.perm.map _).trans ?_;rw[mC0];refine(List.Perm.of_eq (List.map_congr_left fun e he=>?_)).trans S.pm;obtain⟨z,k,q⟩:=S.tx e he;obtain⟨i,v⟩:=e;simp only at q;subst q
  rfl
 have hS₂:=k2 _ _ hS₁;refine wpAny_ite_split (fun _=>?_) (fun _=>wP0 ⟨plainId_quiet PySem.F.plain_extend_loop _,post h2 0 s.toks st (fun b ob e=>k2 _ _ (k1 _ _ e)) hS₂⟩);refine wB0 (wpAny_rule ?_);refine wB0 ?_;show wpAny _ _ (updateSeq s.heap.objs.size (·.push .none) >>= fun _=>updateSeq s.heap.objs.size (·.pop)) _ _ _;refine wB0 (wpAny_updateSeq hS₂ rfl ?_);have hS₃:=Heap.get?_update_self (Obj.mapSeq (·.push Value.none)) hS₂ rfl;refine wpAny_updateSeq (hz:=by seq_fits) hS₃ rfl ?_;have hS₄:=Heap.get?_update_self (Obj.mapSeq (·.pop)) hS₃ rfl;refine wP0 ⟨plainId_quiet PySem.F.plain_extend_loop _,post _ _ _ ?_ (fun b ob e=>?_) hS₄⟩
 ·refine Wk.frame 0 _ _ st fun b hb o e=>?_
  have hbS:b≠s.heap.objs.size:=fun h=>iS (h▸hb);exact(Heap.get?_update_other _ _ (Ne.symm hbS)).trans ((Heap.get?_update_other _ _ (Ne.symm hbS)).trans e)
 ·have hbS:b≠s.heap.objs.size:=nL0 (hL0 e)
  exact(Heap.get?_update_other _ _ (Ne.symm hbS)).trans ((Heap.get?_update_other _ _ (Ne.symm hbS)).trans (k2 _ _ (k1 _ _ e)))
end
section
variable {X:Cx}
theorem a3f (hc:X.calm=true):a1r X (.builtin "sorted") (fun xs H Q=>∃p zs,xs=[.ref p]/\H p=some (.ext (a1B X.prog X.w p zs))/\zs.length<64/\∀(l:Addr) (ms:List Int),H l=none->ms.Perm zs->ms.Pairwise (·<=·)->Q (.ref l) (upd H l (.lst (ms.map V.int)))):=by
 intro Z s σ H xs us Q I r h;obtain⟨p,zs,rfl,hq,h64,q⟩:=h;obtain⟨u,rfl,rx⟩:=a1Z r;cases rx;have hS:a1B X.prog X.w p zs s.heap:=(I.hok p _ hq).1;refine Calls.call_function_entry kind_sorted plain_sorted entry_sorted (args_sorted1 _) ?_;unfold Builtin.«sorted»;refine wB0 (m:=checkCount "sorted" 1 1 _) (wP0 ?_);refine wB0 (a6c (I.ok.hd hc) hS (by omega) fun h' d tk us ys hk hST hpm=>?_);have hal:us.length=zs.length:=by
  rw[<-hpm.length_eq];exact hST.length
 refine wB0 (wpAny_newList ?_ (by rw[hal,sizeLine_eq];omega));have hoL:(h'.push (seqObj "list" us.toArray 0)).get? h'.objs.size=some (seqObj "list" us.toArray 0):=hS0 _ rfl;refine wB0 (wpAny_holding (wpAny_call_entry slot_list_sort ⟨_,hoL,rfl⟩ entry_list_sort (list_sort_tree (s:={ s with heap:=h'.push (seqObj "list" us.toArray 0),drawn:=d,toks:=tk }) hoL hST (by rw[hal];exact h64) fun out ss' h1 h2 h3=>⟨_,rfl,?_⟩) (args_list_sort _)));obtain⟨e,he⟩:=sortedHeap_at (out:=out) hoL;have hn:s.heap.get? h'.objs.size=none:=by
  cases q:s.heap.get? h'.objs.size with
  |none=>rfl
  |some ob=>exact absurd (hL0 (hk _ _ q)) (Nat.lt_irrefl _)
 refine wP0 ⟨_,rfl,.ref h'.objs.size,_,(I.draw (d:=d)).laidAt (t':=tk) (o:=.lst (ss'.map V.int)) (fun b ob q=>?_) hn ?_,rfl,q _ ss' (I.none_at hn) (h2.trans hpm) h3⟩
 ·have q':=hk b ob q
  have hlt:=hL0 q';rw[sortedHeap_old (nL0 hlt) (by rw[size_push'];exact Nat.lt_succ_of_lt hlt)];exact hP0 _ q'
 ·exact⟨by rw[lM0,h2.length_eq,hpm.length_eq,sizeLine_eq];omega,_,e,a2O h1,he⟩
end
def ddI (zs:List Int):List Int:=zs.foldl a2I []
theorem b2s (zs:List Int)(z:Int):(a2I zs z).length<=zs.length+1:=by
 unfold a2I
 split
 ·exact Nat.le_succ _
 ·simp
theorem a3G (ys:List Int):∀zs:List Int,(ys.foldl a2I zs).length<=zs.length+ys.length:=by
 induction ys with
 |nil=>intro zs;exact nR0 _
 |cons y ys ih=>
  intro zs;have h1:=ih (a2I zs y);have h2:=b2s zs y;rw[List.foldl_cons,List.length_cons]
  omega
section
variable {P:Program}{w:World}{A:Around}{R:Result->Shared->Prop}{I:Addr}{fp wr:List Addr}{G:Array GenState->Array GenState->Prop}{n:Nat}{PV:Nat->Value->Prop}{St:Nat->Shared->Prop}
theorem b1v (W:WalksS P w A.in1 I fp wr G n PV St)(a:Addr)(haf:a∉fp)(ks:List Int)(hn:ks.length=n)(hv:∀i v,PV i v->∀k,ks[i]? =some k->∃t,v=.int k t)(hb:ks.length+1<scanBound) :
  ∀(m i:Nat) (s:Shared),m=n-i->i<=n->St i s->a1B P w a ((ks.take i).foldl a2I []) s.heap →
   (∀s',Moved (a::wr) G s s'->a1B P w a (ddI ks) s'.heap->R (.ok (.ret .none)) s')->codeAny (model P w) A (.builtin "set.update.loop" ⟨[.ref a,.ref I],[]⟩) R s:=by
 have haw:a∉wr:=fun h=>haf (W.sub _ h);have sub:∀b∈wr,b∈a::wr:=fun b hb=>mL0 _ hb;have keep:∀{s s':Shared} {zs:List Int},Moved wr G s s'->a1B P w a zs s.heap->a1B P w a zs s'.heap:=fun hm hS=>hS.keep fun o ho=>hm.heap a _ haw ho;intro m
 induction m with
 |zero=>
  intro i s hm hi st hS hR;have ei:i=n:=by omega
  subst ei;refine codeAny_builtin F.entry_set_update_loop ?_;rw[Around.under_plainId F.plain_set_update_loop _];refine wB0 (W.done s _ _ st fun s' mv=>?_);refine wP0 (hR s' (mv.mono sub) ?_)
  have:=keep mv hS
  rw[List.take_of_length_le (by omega)] at this;exact this
 |succ m ih=>
  intro i s hm hi st hS hR;have hlt:i<n:=by omega
  have hlk:i<ks.length:=by omega
  refine codeAny_builtin F.entry_set_update_loop ?_;rw[Around.under_plainId F.plain_set_update_loop _];refine wB0 (W.item i s _ _ hlt st fun v s' hp st' mv=>?_);obtain⟨tz,rfl⟩:=hv i v hp ks[i] (gE0 hlk);refine wB0 (wpAny_holding ?_);unfold setAdd;refine wpAny_holding (wB0 ((a0i P w).pyHash (k:=.inl ks[i]) (show(a0i P w).is (.inl ks[i]) (.int ks[i] tz)=true from a1L ks[i] tz) ?_));have hS1:=keep mv hS;have hln:=a3G (ks.take i) [];have hlt2:(ks.take i).length<=i:=by rw[lT0];exact Nat.min_le_left _ _
  refine add_int (s:={ s' with toks:=s'.toks+1 }) hS1 (by simp only[List.length_nil] at hln;omega) fun b h' sb hS'=>?_;have eS:a2I ((ks.take i).foldl a2I []) ks[i]=(ks.take (i+1)).foldl a2I []:=by
   rw[List.take_add_one,gE0 hlk,List.foldl_append]
   rfl
  rw[eS] at hS';refine wP0 ⟨plainId_quiet F.plain_set_update_loop _,ih (i+1) _ (by omega) hlt (W.frame _ s' _ _ st' (Nat.le_succ _) fun b hb o e=>?_) hS' fun s'' mv2 hS2=>?_⟩
  ·rw[sb.2 b (fun q:b=a=>haf (by rw[<-q];exact hb))]
   exact e
  ·refine hR s'' (Moved.trans W.gtrans ((mv.mono sub).then_heap (Nat.le_succ _) fun b o hb e=>?_) mv2) hS2
   rw[sb.2 b (fun q:b=a=>hb (by rw[q];exact List.mem_cons_self))];exact e
end
section
variable {P:Program}{w:World}{A:Around}{s:Shared}{E:Vs0}
theorem a5V {l:Addr}{items:Array Value}{ks:List Int}{Q:Vs0}(hh:A.handled=none)(hl:s.heap.IsList l items)(hn:ks.length=items.size)(hk:∀(i:Nat) (v:Value) (k:Int),items[i]? =some v->ks[i]? =some k->∃t,v=.int k t)(hb:ks.length<=1000)
  (h:∀(h':Heap) (tk:Nat),a1B P w s.heap.objs.size (ddI ks) h'->(∀b o,s.heap.get? b=some o->h'.get? b=some o)->Q (.ref s.heap.objs.size) { s with heap:=h',toks:=tk }) :
  wpAny (model P w) A (call (.type "set") [.ref l]) Q E s:=by
 obtain⟨c,tl,hmro⟩:=F.called_set.mro;have hmade:=F.called_set.made;have hsub:=F.called_set.sub;have q1:=F.called_set.notType;have q2:=F.called_set.canCreate;have q3:=F.typeCall_set_1 (.ref l);refine wpAny_call (codeAny_of_tree ?_);show wpAny _ _ (callAny (.type "set") ⟨[.ref l],[]⟩) _ _ s;refine wP0 ⟨Code.quiet_builtin _ (by decide +kernel),codeAny_builtin F.entry_type_call ?_⟩;rw[Around.under_plain (weight_type_call_type "set" [.ref l] []) rfl]
 repeat (any_goals (first |assumption |wp_step))
 refine codeAny_mono (a3c (.ref l) (E:=E) (Q₁:=fun v s1=>v=.ref s.heap.objs.size/\s1={ s with heap:=s.heap.push { cls:=.type "set",dict:=none,data:=.set #[] 0 (.fresh 0 0 (!w.params.followText "set-order")) } }) ⟨rfl,rfl⟩) fun r s1 hr=>?_
 match r,hr with
 | .error e,hr=>exact hr
 | .ok (.next),hr=>exact hr.elim
 | .ok (.brk),hr=>exact hr.elim
 | .ok (.cont),hr=>exact hr.elim
 | .ok (.ret v),hr=>
  obtain⟨rfl,rfl⟩:=hr;generalize el:(!w.params.followText "set-order")=led;have hS:(s.heap.push { cls:=.type "set",dict:=none,data:=.set #[] 0 (.fresh 0 0 led) }).get? s.heap.objs.size=some { cls:=.type "set",dict:=none,data:=.set #[] 0 (.fresh 0 0 led) }:=hS0 _ rfl;generalize eh:s.heap.push { cls:=.type "set",dict:=none,data:=.set #[] 0 (.fresh 0 0 led) }=h1 at hS ⊢;have k1:∀b o,s.heap.get? b=some o->h1.get? b=some o:=fun b o e=>by rw[<-eh];exact hP0 _ e
  have z1:s.heap.objs.size<h1.objs.size:=by rw[<-eh,Heap.size_push];exact Nat.lt_succ_self _
  have hT:Shared.TypeIs { s with heap:=h1 } (.ref s.heap.objs.size) "set":=⟨_,hS,rfl⟩;have i1:=F.called_set.init.lookup;have i2:=F.called_set.init.bind (.ref s.heap.objs.size)
  repeat (any_goals (first |assumption |wp_step))
  refine codeAny_mono (codeAny_call_builtin (R:=wants (fun r s2=>r=.none/\∃h' tk,s2={ s with heap:=h',toks:=tk }/\a1B P w s.heap.objs.size (ddI ks) h'/\∀b o,s.heap.get? b=some o->h'.get? b=some o) E) F.called_set.init.plain F.entry_set_init (check_set_init_1 hT ?_)) fun r2 s2 hr2=>?_
  ·have hl0:=hl
   obtain⟨ol,o1,o2,nl,o3⟩:=hl;have o1':=k1 _ _ o1;have hlS:l<s.heap.objs.size:=hL0 o1;obtain⟨ocls,odict,odata,oslots⟩:=ol;simp only at o2 o3;subst o2 o3;have t1:=F.sub_list_set;have t2:=F.sub_list_frozenset;have t3:(Value.type "list"==Value.type "dict")=false:=by decide
   have hl1:h1.IsList l items:=⟨_,o1',rfl,nl,rfl⟩;unfold Builtin.«set.__init__» noKeywords Builtin.Frozenset.updateFrom;generalize eI:pyIter=IT
   wp_walk
   subst eI;refine wpAny_pyIter_list hl1 (wB0 (wpAny_runValue ?_));have hIl:l≠h1.objs.size:=nL0 (Nat.lt_trans hlS z1);refine b1v ((Walks.list (by simp[hh]) _ l hIl items).toS) s.heap.objs.size ?_ ks hn (fun i v hp k hik=>hk i v k hp hik) (by unfold scanBound;omega) (items.size-0) 0 _ rfl (zL0 _) ⟨⟨_,hS0 _ rfl,rfl,rfl⟩,hl1.push _⟩ ?_ fun s' mv hS'=>?_
   ·simp only[mK0,List.not_mem_nil,or_false,not_or]
    exact⟨nL0 z1,Nat.ne_of_gt hlS⟩
   ·exact⟨_,#[],0,_,hP0 _ hS,⟨rfl,rfl,rfl⟩,rfl,fun e he=>by simp at he,fun e he=>by simp at he,by simp,List.nodup_nil,by decide,rfl,fun q=>by show led=true;rw[<-el,q];rfl,List.Pairwise.nil⟩
   ·obtain⟨h',g',d',tk',os'⟩:=s'
    have e1:g'=s.gens:=mv.gens;have e2:d'=s.drawn:=mv.drawn;have e3:os'=s.os:=mv.os;subst e1 e2 e3;refine wP0 (wP0 ⟨rfl,h',tk',rfl,hS',fun b o e=>mv.heap b o ?_ (hP0 _ (k1 b o e))⟩);have lb:=hL0 e;simp only[mK0,List.not_mem_nil,or_false,not_or];exact⟨nL0 lb,nL0 (Nat.lt_trans lb z1)⟩
  ·match r2,hr2 with
   | .error e,hr2=>exact hr2
   | .ok (.next),hr2=>exact hr2.elim
   | .ok (.brk),hr2=>exact hr2.elim
   | .ok (.cont),hr2=>exact hr2.elim
   | .ok (.ret v),hr2=>
    obtain⟨rfl,h',tk,rfl,hSn,kp⟩:=hr2
    repeat (any_goals (first |assumption |wp_step))
    exact h h' tk hSn kp
end
section
variable {X:Cx}
theorem a8g (hc:X.calm=true):a1r X (.type "set") (fun xs H Q=>∃(a:Addr) (zs:List Int),xs=[.ref a]/\SqL X.K H a (zs.map V.int)/\zs.length<=1000/\∀p,H p=none->Q (.ref p) (upd H p (.ext (a1B X.prog X.w p (ddI zs))))):=by
 intro Z s σ H xs us Q I r h;obtain⟨a,zs,rfl,hq,hl,q⟩:=h;obtain⟨u,rfl,rx⟩:=a1Z r;cases rx;obtain⟨its,rv,pl,hz⟩:=I.list hq;have hlen:its.length=zs.length:=by
  have:=rv.length
  rw[lM0] at this;exact this.symm
 refine a5V (ks:=zs) (I.ok.hd hc) pl.isList (by rw[List.size_toArray];exact hlen.symm) (fun i v k hv hk=>?_) hl fun h' tk hS kp=>?_
 ·obtain⟨u,hu,ru⟩:=rv.get (show(zs.map V.int)[i]? =some (V.int k) by rw[gM0,hk];rfl)
  have hv':its[i]? =some v:=by simpa using hv
  rw[hv'] at hu;cases hu;exact ru
 ·exact⟨.ref s.heap.objs.size,_,I.laid (a:=s.heap.objs.size) (t':=tk) kp (nR0 _) (a6R hS),rfl,q _ (I.hok.fresh (nR0 _))⟩
end
section
variable {P:Program}{w:World}{A:Around}{E:Vs0}{s:Shared}{a:Addr}
theorem a8B {led:Bool}{more:Nat}{Q:Unit->Shared->Prop}{ob:Obj}(ho:s.heap.get? a=some ob)(hx:ob.ExactSet)(hd:ob.data=.set #[] 0 (.fresh 0 0 led))(hm:more<=2000)(hled:w.params.followText "set-order"=false->led=true)
  (h:∀h',Heap.SameBut a s.heap h'->a1B P w a [] h'->Q () { s with heap:=h' }):wpAny (model P w) A (setRoomFor a more) Q E s:=by
 unfold setRoomFor;refine wB0 (wpAny_setState_of ho hd rfl ?_);have mk:∀t:SetTable,t.fits 0=true->t.led=led->Up t.place->a3T P w #[] t []:=fun t f l u=>⟨fun e he=>by simp at he,fun e he=>by simp at he,by simp,List.nodup_nil,by decide,f,fun q=>l.trans (hled q),u⟩;have hS:a1B P w a [] s.heap:=⟨ob,#[],0,_,ho,hx,hd,mk _ rfl rfl List.Pairwise.nil⟩;cases e:(SetTable.fresh 0 0 led).roomFor more with
 |none=>
  exact wP0 (h s.heap (Heap.SameBut.refl a s.heap) hS)
 |some wanted=>
  have hw:wanted<=4096:=by
   unfold SetTable.roomFor at e
   split at e
   ·injection e with e
    rw[<-e]
    show(0+more) * 2<=4096
    omega
   ·cases e
  show wpAny _ _ (setRelay a wanted) _ _ _;unfold setRelay;refine wB0 (wpAny_setState_of ho hd rfl ?_);show wpAny _ _ (if SetTable.sizeAbove wanted > sizeLine then _ else _) _ _ _;rw[if_neg (Nat.not_lt.mpr (a1M hw))];have er:(SetTable.fresh 0 0 led).relaid (Array.map (fun x:Int×Value=>x.1) #[]) wanted=some ({ mask:=SetTable.sizeAbove wanted-1,place:=#[],dummies:=#[],finger:=0,led:=led,moves:=(SetTable.fresh 0 0 led).movedTo (SetTable.sizeAbove wanted-1),plain:=true },#[]):=by
   unfold SetTable.relaid;rw[show Array.map (fun x:Int×Value=>x.1) #[]=#[] from by simp];exact a3F _ _ _ _ _
  rw[er];generalize eT:({ mask:=SetTable.sizeAbove wanted-1,place:=#[],dummies:=#[],finger:=0,led:=led,moves:=(SetTable.fresh 0 0 led).movedTo (SetTable.sizeAbove wanted-1),plain:=true }:SetTable)=T;have hT:T.fits 0=true:=by rw[<-eT];rfl
  refine wB0 (show wpAny _ _ (pure ((#[]:Array (Int×Value)),T)) _ _ _ from wP0 ?_);refine wpAny_storeSet_of ho hd ?_ (zL0 _);have TT:=mk T hT (by rw[<-eT]) (by rw[<-eT];exact List.Pairwise.nil);obtain⟨ho2,_⟩:=SetOf_store (knd:=a0i P w) ho hx hd TT.el TT.of TT.bd TT.ft;exact h _ (Heap.SameBut.update _ a _) ⟨_,_,_,_,ho2,hx,rfl,TT⟩
theorem a5D {d:Addr}{kvs:List (Key×Value)}{Q:Vs0}(hd:s.heap.DictOf (a0i P w) d kvs)(hb:kvs.length<=1000)(hm:(d==sysModules)=false){ns:List Int}(hns:kvs.map (·.1)=ns.map Sum.inl)
  (h:∀(h':Heap) (tk:Nat),a1B P w s.heap.objs.size ns h'->(∀b o,s.heap.get? b=some o->h'.get? b=some o)->Q (.ref s.heap.objs.size) { s with heap:=h',toks:=tk }) :
  wpAny (model P w) A (call (.type "set") [.ref d]) Q E s:=by
 obtain⟨c,tl,hmro⟩:=F.called_set.mro;have hmade:=F.called_set.made;have hsub:=F.called_set.sub;have q1:=F.called_set.notType;have q2:=F.called_set.canCreate;have q3:=F.typeCall_set_1 (.ref d);refine wpAny_call (codeAny_of_tree ?_);show wpAny _ _ (callAny (.type "set") ⟨[.ref d],[]⟩) _ _ s;refine wP0 ⟨Code.quiet_builtin _ (by decide +kernel),codeAny_builtin F.entry_type_call ?_⟩;rw[Around.under_plain (weight_type_call_type "set" [.ref d] []) rfl]
 repeat (any_goals (first |assumption |wp_step))
 refine codeAny_mono (a3c (.ref d) (E:=E) (Q₁:=fun v s1=>v=.ref s.heap.objs.size/\s1={ s with heap:=s.heap.push { cls:=.type "set",dict:=none,data:=.set #[] 0 (.fresh 0 0 (!w.params.followText "set-order")) } }) ⟨rfl,rfl⟩) fun r s1 hr=>?_
 match r,hr with
 | .error e,hr=>exact hr
 | .ok (.next),hr=>exact hr.elim
 | .ok (.brk),hr=>exact hr.elim
 | .ok (.cont),hr=>exact hr.elim
 | .ok (.ret v),hr=>
  obtain⟨rfl,rfl⟩:=hr;generalize el:(!w.params.followText "set-order")=led;have hS:(s.heap.push { cls:=.type "set",dict:=none,data:=.set #[] 0 (.fresh 0 0 led) }).get? s.heap.objs.size=some { cls:=.type "set",dict:=none,data:=.set #[] 0 (.fresh 0 0 led) }:=hS0 _ rfl;generalize eh:s.heap.push { cls:=.type "set",dict:=none,data:=.set #[] 0 (.fresh 0 0 led) }=h1 at hS ⊢;have k1:∀b o,s.heap.get? b=some o->h1.get? b=some o:=fun b o e=>by rw[<-eh];exact hP0 _ e
  have hT:Shared.TypeIs { s with heap:=h1 } (.ref s.heap.objs.size) "set":=⟨_,hS,rfl⟩;have i1:=F.called_set.init.lookup;have i2:=F.called_set.init.bind (.ref s.heap.objs.size)
  repeat (any_goals (first |assumption |wp_step))
  refine codeAny_mono (codeAny_call_builtin (R:=wants (fun r s2=>r=.none/\∃h' tk,s2={ s with heap:=h',toks:=tk }/\a1B P w s.heap.objs.size ns h'/\∀b o,s.heap.get? b=some o->h'.get? b=some o) E) F.called_set.init.plain F.entry_set_init (check_set_init_1 hT ?_)) fun r2 s2 hr2=>?_
  ·obtain⟨od,es,ep,o1,o2,o3,o4,o5,o6⟩:=a4h hd
   have o1':=k1 _ _ o1;have hda:d≠s.heap.objs.size:=nL0 (hL0 o1);obtain⟨ocls,odict,odata,oslots⟩:=od;simp only at o2 o3;subst o2 o3;have t1:isSubtype (.type "dict") (.type "set")=pure false:=by rw[isSubtype_type];kernel_rfl
   have t2:isSubtype (.type "dict") (.type "frozenset")=pure false:=by rw[isSubtype_type];kernel_rfl
   unfold Builtin.«set.__init__» noKeywords Builtin.Frozenset.updateFrom;generalize eR:setRoomFor=RF
   wp_walk
   subst eR;have sz:es.size<=1000:=by omega
   refine a8B hS ⟨rfl,rfl,rfl⟩ rfl (by omega) (fun q=>by rw[<-el,q];rfl) fun h2 sb2 hS2=>?_;have o1'':=(sb2.2 d hda).trans o1';refine wB0 (wpAny_dictEntries (s:={ s with heap:=h2 }) o1'' rfl ?_);rw[Std.Legacy.Range.forIn_eq_forIn_range'];refine wB0 (a7m (fun i s'=>∃h',s'={ s with heap:=h' }/\Heap.SameBut s.heap.objs.size h1 h'/\a1B P w s.heap.objs.size (ns.take i) h') es.size ?_ ?_ _ 0 _ (by simp[Std.Legacy.Range.size]) (zL0 _) ⟨h2,rfl,sb2,hS2⟩)
   ·rintro i s' hi ⟨h',rfl,sb,hSi⟩
    have hln:ns.length=kvs.length:=by
     have:=congrArg List.length hns
     rw[lM0,lM0] at this;exact this.symm
    have hlt:i<ns.length:=by omega
    have hki:(kvs.map (·.1))[i]? =some (Sum.inl ns[i]):=by rw[hns,gM0,gE0 hlt];rfl
    obtain⟨e,he,e1,e2,e3⟩:=o6 i _ hki;have od':=(sb.2 d hda).trans o1';obtain⟨tz,ez⟩:∃t,e.key=.int ns[i] t:=by
     rcases a0w (show a4A (.inl ns[i]) e.key=true from e1) with ⟨x,t,q,e⟩ |⟨x,t,q,e⟩
     ·injection q with q;subst q;exact⟨t,e⟩
     ·cases q
    have nn:ns.Nodup:=by
     rw[hns] at o5;have key:∀l:List Int,(l.map (Sum.inl:Int->Key)).Nodup->l.Nodup:=fun l h=>by
      unfold List.Nodup at h ⊢;rw[List.pairwise_map] at h;exact h.imp fun n q=>n (by rw[q])
     exact key ns o5
    have hnm:ns[i]∉ns.take i:=fun hm=>by
     obtain⟨j,hj,ej⟩:=List.mem_take_iff_getElem.mp hm
     have:j=i:=(List.getElem_inj nn).mp ej
     omega
    have ea:a2I (ns.take i) ns[i]=ns.take (i+1):=by
     unfold a2I;rw[if_neg hnm,List.take_add_one,gE0 hlt]
     rfl
    refine wB0 (wpAny_dictEntries (s:={ s with heap:=h' }) od' rfl ?_);rw[he];refine wB0 (wpAny_holding ?_);rw[ez,e2];refine add_int (s:={ s with heap:=h' }) hSi (by rw[lT0];unfold scanBound;omega) fun b h'' sb' hS''=>?_;rw[ea] at hS'';refine wB0 (wpAny_dictEpoch (s:={ s with heap:=h'' }) ((sb'.2 d hda).trans od') rfl ?_);rw[if_neg (by simp)];exact wP0 ⟨rfl,h'',rfl,sb.trans sb',hS''⟩
   ·rintro s' ⟨h',rfl,sb,hSn⟩
    have et:ns.take es.size=ns:=List.take_of_length_le (by
     have:=congrArg List.length hns
     rw[lM0,lM0] at this
     omega)
    rw[et] at hSn;exact wP0 (wP0 ⟨rfl,h',_,rfl,hSn,fun b o e=>(sb.2 b (nL0 (hL0 e))).trans (k1 b o e)⟩)
  ·match r2,hr2 with
   | .error e,hr2=>exact hr2
   | .ok (.next),hr2=>exact hr2.elim
   | .ok (.brk),hr2=>exact hr2.elim
   | .ok (.cont),hr2=>exact hr2.elim
   | .ok (.ret v),hr2=>
    obtain⟨rfl,h',tk,rfl,hSn,kp⟩:=hr2
    repeat (any_goals (first |assumption |wp_step))
    exact h h' tk hSn kp
end
section
variable {X:Cx}
theorem a4y:a1r X (.type "set") (fun xs H Q=>∃(a:Addr) (kvs:List (Key×V)) (ns:List Int),xs=[.ref a]/\Rd H a (.dK kvs)/\kvs.map (·.1)=ns.map Sum.inl/\kvs.length<=1000/\∀p,H p=none->Q (.ref p) (upd H p (.ext (a1B X.prog X.w p ns)))):=by
 intro Z s σ H xs us Q I r h;obtain⟨a,kvs,ns,rfl,e,hk,hl,q⟩:=h;obtain⟨u,rfl,rx⟩:=a1Z r;cases rx;obtain⟨_,hsys,vs,kv,hd⟩:=a2R I.hok e;refine a5D hd (by rw[<-kv.length];exact hl) hsys (by rw[<-kv.keys];exact hk) fun h' tk hS kp=>?_;exact⟨.ref s.heap.objs.size,_,I.laid (a:=s.heap.objs.size) (t':=tk) kp (nR0 _) (a6R hS),rfl,q _ (I.hok.fresh (nR0 _))⟩
end
def itr (m:Nat):Nat->Nat->Nat
 |0,x=>x
 |n+1,x=>itr m n ((5 * x+1)%m)
theorem b2f (m:Nat):∀n x,itr m (n+1) x=(5 * itr m n x+1)%m
 |0,x=>rfl
 |n+1,x=>b2f m n _
theorem a4S (m:Nat):∀a b x,itr m (a+b) x=itr m b (itr m a x)
 |0,b,x=>by rw[Nat.zero_add];rfl
 |a+1,b,x=>by
  rw[show a+1+b=(a+b)+1 by omega];exact a4S m a b _
def its (m:Nat):Nat->Nat->List Nat
 |0,_=>[]
 |n+1,x=>x::its m n ((5 * x+1)%m)
theorem a9F (m:Nat):∀n x k,k<n->(its m n x)[k]? =some (itr m k x)
 |0,x,k,h=>by omega
 |n+1,x,0,h=>rfl
 |n+1,x,k+1,h=>a9F m n _ k (by omega)
theorem b4p {m n x y:Nat}(h:y∈its m n x):∃k,k<n/\itr m k x=y:=by
 obtain⟨k,hk⟩:=List.getElem?_of_mem h;have hl:k<(its m n x).length:=(gS0.mp hk).1;have len:∀n x,(its m n x).length=n:=fun n=>by
  induction n with
  |zero=>intro x;rfl
  |succ n ih=>intro x;show(its m n _).length+1=_;rw[ih]
 rw[len] at hl;rw[a9F m n x k hl] at hk;exact⟨k,hl,by injection hk⟩
def Pw (m:Nat):Prop:=m=8\/m=16\/m=32\/m=64\/m=128
theorem b1f {m:Nat}(h:Pw m):itr m m 0=0/\∀y,y<m->∃k,k<m/\itr m k 0=y:=by
 have key:∀m,(itr m m 0==0&&(List.range m).all fun y=>(its m m 0).contains y)=true->itr m m 0=0/\∀y,y<m->∃k,k<m/\itr m k 0=y:=fun m h=>by
  rw[Bool.and_eq_true,beq_iff_eq,List.all_eq_true] at h;exact⟨h.1,fun y hy=>b4p (by simpa using h.2 y (List.mem_range.mpr hy))⟩
 rcases h with rfl |rfl |rfl |rfl |rfl
 all_goals exact key _ (by decide +kernel)
theorem a9A {m:Nat}(h:Pw m){x y:Nat}(hx:x<m)(hy:y<m):∃k,k<m/\itr m k x=y:=by
 obtain⟨h0,hc⟩:=b1f h;obtain⟨a,ha,rfl⟩:=hc x hx;obtain⟨b,hb,rfl⟩:=hc y hy
 by_cases c:a<=b
 ·exact⟨b-a,by omega,by rw[<-a4S];congr 1;omega⟩
 ·refine⟨b+m-a,by omega,?_⟩
  rw[<-a4S,show a+(b+m-a)=m+b by omega,a4S,h0]
theorem Pw.pos {m:Nat}(h:Pw m):8<=m:=by rcases h with rfl |rfl |rfl |rfl |rfl<;>decide
def lp (mask:Nat):Nat->Nat->Nat->Nat×Nat
 |0,i,p=>(i,p)
 |n+1,i,p=>lp mask n ((i * 5+1+p/32)%(mask+1)) (p/32)
theorem b3f (mask:Nat):∀a b i p,lp mask (a+b) i p=lp mask b (lp mask a i p).1 (lp mask a i p).2
 |0,b,i,p=>by rw[Nat.zero_add];rfl
 |a+1,b,i,p=>by
  rw[show a+1+b=(a+b)+1 by omega];exact b3f mask a b _ _
theorem b8m (mask:Nat):∀n i p,(lp mask n i p).2=p/32 ^ n
 |0,i,p=>by simp[lp]
 |n+1,i,p=>by
  show(lp mask n _ (p/32)).2=_
  rw[b8m mask n,Nat.div_div_eq_div_mul,Nat.pow_succ,Nat.mul_comm]
theorem b0n (mask:Nat):∀n i,(lp mask n i 0).1=itr (mask+1) n i/\(lp mask n i 0).2=0
 |0,i=>⟨rfl,rfl⟩
 |n+1,i=>by
  have:=b0n mask n ((5 * i+1)%(mask+1))
  have e1:(i * 5+1+0/32)%(mask+1)=(5 * i+1)%(mask+1):=by congr 1;omega
  show(lp mask n ((i * 5+1+0/32)%(mask+1)) 0).1=itr (mask+1) n ((5 * i+1)%(mask+1))/\(lp mask n ((i * 5+1+0/32)%(mask+1)) 0).2=0
  rw[e1];exact this
theorem b5I {mask:Nat}:∀n i p,i<mask+1->(lp mask n i p).1<mask+1
 |0,i,p,h=>h
 |n+1,i,p,h=>b5I n _ _ (Nat.mod_lt _ (Nat.succ_pos _))
theorem a8M {mask:Nat}{ow:Array (Option Nat)}:∀(fuel i p:Nat),SetTable.layClean.free mask ow fuel i p=none->∀n,n<fuel->¬(ow.getD (lp mask n i p).1 (some 0)).isNone=true:=by
 intro fuel
 induction fuel with
 |zero=>intro i p _ n h;omega
 |succ fuel ih=>
  intro i p e n hn;unfold SetTable.layClean.free at e
  split at e
  ·cases e
  ·rename_i q
   cases n with
   |zero=>
    have hre:i<=SetTable.runEnd mask i:=by
     unfold SetTable.runEnd
     split<;>omega
    have:=List.find?_eq_none.mp q 0 (List.mem_range.mpr (by omega))
    simpa[lp] using this
   |succ n=>exact ih _ _ e n (by omega)
theorem a9v {mask:Nat}{ow:Array (Option Nat)}:∀(fuel i p j:Nat),SetTable.layClean.free mask ow fuel i p=some j->(ow.getD j (some 0)).isNone=true:=by
 intro fuel
 induction fuel with
 |zero=>intro i p j e;unfold SetTable.layClean.free at e;cases e
 |succ fuel ih=>
  intro i p j e;unfold SetTable.layClean.free at e
  split at e
  ·rename_i k q
   injection e with e
   subst e
   have:=List.find?_some q
   simpa using this
  ·exact ih _ _ _ e
theorem b5c {mask:Nat}(hm:Pw (mask+1)){ow:Array (Option Nat)}(hs:ow.size=mask+1)(hn:∃j,j<mask+1/\ow[j]? =some none){b:Nat}(hb:b<2 ^ 64):∃j,SetTable.layClean.free mask ow (SetTable.turns mask) (b%(mask+1)) b=some j/\j<mask+1/\ow[j]? =some none:=by
 cases e:SetTable.layClean.free mask ow (SetTable.turns mask) (b%(mask+1)) b with
 |some j=>
  have h1:=a9v _ _ _ _ e;refine⟨j,rfl,?_⟩
  by_cases hj:j<ow.size
  ·have e2:ow.getD j (some 0)=ow[j]:=by simp[Array.getD,hj]
   rw[e2] at h1;refine⟨by omega,?_⟩;rw[Array.getElem?_eq_getElem hj];rw[Option.isNone_iff_eq_none] at h1;rw[h1]
  ·have e2:ow.getD j (some 0)=some 0:=by simp[Array.getD,hj]
   rw[e2] at h1;cases h1
 |none=>
  exfalso
  obtain⟨j,hj,ej⟩:=hn;have hall:=a8M _ _ _ e;have hi:b%(mask+1)<mask+1:=Nat.mod_lt _ (Nat.succ_pos _);have hp:(lp mask 13 (b%(mask+1)) b).2=0:=by
   rw[b8m];exact Nat.div_eq_of_lt (Nat.lt_of_lt_of_le hb (by decide))
  have hx:=b5I 13 (b%(mask+1)) b hi;obtain⟨k,hk,hk2⟩:=a9A hm hx hj;have h2:=hall (13+k) (by unfold SetTable.turns;omega);rw[b3f,hp,(b0n mask k _).1,hk2] at h2;have hjs:j<ow.size:=by omega
  have e2:ow.getD j (some 0)=ow[j]:=by simp[Array.getD,hjs]
  rw[Array.getElem?_eq_getElem hjs] at ej
  injection ej with ej
  rw[e2,ej] at h2;exact h2 rfl
structure Own (mask k:Nat) (ow:Array (Option Nat)):Prop where
 sz:ow.size=mask+1
 pm:(ow.toList.filterMap id).Perm (List.range k)
theorem Own.room {mask k:Nat}{ow:Array (Option Nat)}(h:Own mask k ow)(hk:k<mask+1):∃j,j<mask+1/\ow[j]? =some none:=by
 apply Classical.byContradiction;intro hc;have all:∀x∈ow.toList,x.isSome=true:=fun x hx=>by
  obtain⟨j,hj⟩:=List.getElem?_of_mem hx;have hjl:j<ow.size:=by have:=(gS0.mp hj).1;simpa using this
  cases x with
  |none=>exact absurd ⟨j,by have:=h.sz;omega,by rw[<-Array.getElem?_toList];exact hj⟩ hc
  |some y=>rfl
 have len:∀l:List (Option Nat),(∀x∈l,x.isSome=true)->(l.filterMap id).length=l.length:=fun l=>by
  induction l with
  |nil=>intro _;rfl
  |cons a r ih=>
   intro ha;cases a with
   |none=>exact absurd (ha none List.mem_cons_self) (by decide)
   |some y=>
    rw[List.filterMap_cons]
    show(List.filterMap id r).length+1=_
    rw[ih fun x hx=>ha x (mL0 _ hx)]
    rfl
 have h1:=len _ all;rw[h.pm.length_eq,List.length_range,aL0,h.sz] at h1
 omega
theorem Own.put {mask k j:Nat}{ow:Array (Option Nat)}(h:Own mask k ow)(hj:ow[j]? =some none):Own mask (k+1) (ow.setIfInBounds j (some k)):=by
 refine⟨by rw[Array.size_setIfInBounds];exact h.sz,?_⟩;have hjl:j<ow.toList.length:=by
  rw[<-Array.getElem?_toList] at hj;exact(gS0.mp hj).1
 have ej:ow.toList[j]=none:=by
  rw[<-Array.getElem?_toList] at hj;exact(gS0.mp hj).2
 have e1:ow.toList=ow.toList.take j++none::ow.toList.drop (j+1):=by rw[<-ej,<-List.drop_eq_getElem_cons hjl,List.take_append_drop]
 have e2:(ow.setIfInBounds j (some k)).toList=ow.toList.take j++some k::ow.toList.drop (j+1):=by
  rw[Array.toList_setIfInBounds];exact List.set_eq_take_append_cons_drop .. |>.trans (by rw[if_pos hjl])
 rw[e2,List.filterMap_append,List.filterMap_cons];have pm:=h.pm;rw[e1,List.filterMap_append,List.filterMap_cons] at pm;have p2:(List.filterMap id (ow.toList.take j)++k::List.filterMap id (ow.toList.drop (j+1))).Perm (k::(List.filterMap id (ow.toList.take j)++List.filterMap id (ow.toList.drop (j+1)))):=List.perm_middle;refine p2.trans ((List.Perm.cons k pm).trans ?_);rw[List.range_succ];exact(List.perm_append_singleton k _).symm
theorem b5Y {mask:Nat}(hm:Pw (mask+1)){hs:Array Int}(hn:hs.size<mask+1):∃ow,SetTable.layClean mask hs=some ow/\Own mask hs.size ow:=by
 have go:∀(l:List Int) (k:Nat) (ow:Array (Option Nat)),Own mask k ow->k+l.length<mask+1->∃ow',l.foldl (fun acc h=>do
   let (owner,k) <-acc
   let j <-SetTable.layClean.free mask owner (SetTable.turns mask) (SetTable.bits h%(mask+1)) (SetTable.bits h)
   pure (owner.setIfInBounds j (some k),k+1)) (some (ow,k))=some (ow',k+l.length)/\Own mask (k+l.length) ow':=by
  intro l
  induction l with
  |nil=>intro k ow h _;exact⟨ow,rfl,h⟩
  |cons x r ih=>
   intro k ow h hk;rw[List.length_cons] at hk;have hb:SetTable.bits x<2 ^ 64:=by
    unfold SetTable.bits;have h1:=Int.emod_nonneg x (show(2 ^ 64:Int)≠0 by decide);have h2:=Int.emod_lt_of_pos x (show(0:Int)<2 ^ 64 by decide)
    omega
   obtain⟨j,e,hj,ej⟩:=b5c hm h.sz (h.room (by omega)) hb;rw[List.foldl_cons];have es:(do
     let (owner,k) <-(some (ow,k):Option (Array (Option Nat)×Nat))
     let j <-SetTable.layClean.free mask owner (SetTable.turns mask) (SetTable.bits x%(mask+1)) (SetTable.bits x)
     pure (owner.setIfInBounds j (some k),k+1))=some (ow.setIfInBounds j (some k),k+1):=by
    show(SetTable.layClean.free mask ow (SetTable.turns mask) (SetTable.bits x%(mask+1)) (SetTable.bits x)).bind _=_
    rw[e]
    rfl
   rw[es];obtain⟨ow',h1,h2⟩:=ih (k+1) _ (h.put ej) (by omega);refine⟨ow',?_,?_⟩
   ·rw[h1,List.length_cons]
    congr 2
    omega
   ·rw[List.length_cons,show k+(r.length+1)=k+1+r.length by omega]
    exact h2
 obtain⟨ow,h1,h2⟩:=go hs.toList 0 (Array.replicate (mask+1) none) ⟨by simp,by
  rw[Array.toList_replicate]
  have:List.filterMap id (List.replicate (mask+1) (none:Option Nat))=[]:=by
   rw[List.filterMap_eq_nil_iff];intro x hx;rw[List.eq_of_mem_replicate hx]
   rfl
  rw[this];exact .nil⟩ (by rw[aL0];omega)
 refine⟨ow,?_,?_⟩
 ·unfold SetTable.layClean
  rw[<-Array.foldl_toList];rw[h1]
  rfl
 ·rw[aL0,Nat.zero_add] at h2
  exact h2
theorem b1b (ow:Array (Option Nat)):((List.range ow.size).filterMap fun j=>(ow.getD j none).map fun k=>(j,k)).map (·.2)=ow.toList.filterMap id:=by
 have e:ow.toList=(List.range ow.size).map fun j=>ow.getD j none:=by
  apply List.ext_getElem?;intro i;rw[gM0]
  by_cases h:i<ow.size
  ·rw[List.getElem?_range h,gE0 (by rw[aL0];exact h)]
   simp[Array.getD,h]
  ·rw[List.getElem?_eq_none (by rw[aL0];omega),List.getElem?_eq_none (by rw[List.length_range];omega)]
   rfl
 rw[e,List.map_filterMap,List.filterMap_map]
 congr 1
 funext j
 simp only[Function.comp,id];cases ow.getD j none<;>rfl
theorem b4o {mask:Nat}(hm:Pw (mask+1)){hs:Array Int}(hn:hs.size<mask+1)(f mv:Nat)(a b:Bool):∃t o,SetTable.laid mask f mv a b hs=some (t,o)/\o.toList.Perm (List.range hs.size)/\t.fits hs.size=true/\Up t.place/\t.led=a:=by
 obtain⟨ow,e,h⟩:=b5Y hm hn;have el:SetTable.laid mask f mv a b hs=some ({ mask,place:=(((List.range (mask+1)).filterMap fun j=>(ow.getD j none).map fun k=>(j,k)).map (·.1)).toArray,dummies:=#[],finger:=f,led:=a,moves:=mv,plain:=b },(((List.range (mask+1)).filterMap fun j=>(ow.getD j none).map fun k=>(j,k)).map (·.2)).toArray):=by
  unfold SetTable.laid;rw[e]
  rfl
 have es:((List.range (mask+1)).filterMap fun j=>(ow.getD j none).map fun k=>(j,k)).map (·.2)=ow.toList.filterMap id:=by
  rw[<-h.sz];exact b1b ow
 have hl:((List.range (mask+1)).filterMap fun j=>(ow.getD j none).map fun k=>(j,k)).length=hs.size:=by
  have:=congrArg List.length es
  rw[lM0,h.pm.length_eq,List.length_range] at this;exact this
 refine⟨_,_,el,?_,?_,b0g el,rfl⟩
 ·rw[es]
  exact h.pm
 ·unfold SetTable.fits SetTable.fill
  simp only[List.size_toArray,lM0,hl];rw[Bool.and_eq_true];refine⟨by simp,?_⟩;simp
  omega
instance (m:Nat):Decidable (Pw m):=by unfold Pw;infer_instance
theorem a7l {n:Nat}(h:n<128):Pw (SetTable.sizeAbove n)/\n<SetTable.sizeAbove n:=by
 have key:((List.range 128).all fun n=>decide (Pw (SetTable.sizeAbove n)/\n<SetTable.sizeAbove n))=true:=by decide +kernel
 exact of_decide_eq_true (List.all_eq_true.mp key n (List.mem_range.mpr h))
theorem b0X {α:Type}{l:List α}{o:List Nat}(h:o.Perm (List.range l.length)):(o.filterMap fun i=>l[i]?).Perm l:=by
 refine(h.filterMap _).trans (List.Perm.of_eq ?_);have e:(List.range l.length).map (fun i=>l[i]?)=l.map some:=by
  apply List.ext_getElem?;intro i;rw[gM0,gM0]
  by_cases hi:i<l.length
  ·rw[List.getElem?_range hi,gE0 hi]
   show some l[i]? =some (some l[i]);rw[gE0 hi]
  ·rw[List.getElem?_eq_none (by rw[List.length_range];omega),List.getElem?_eq_none (by omega)]
   rfl
 have e2:(List.range l.length).filterMap (fun i=>l[i]?)=((List.range l.length).map fun i=>l[i]?).filterMap id:=by rw[List.filterMap_map];rfl
 rw[e2,e,List.filterMap_map];show l.filterMap some=l;exact List.filterMap_some
section
variable {P:Program}{w:World}{es:Array (Int×Value)}{t:SetTable}{zs:List Int}
theorem a3T.moved (h:a3T P w es t zs){es':Array (Int×Value)}{t':SetTable}(p:es'.toList.Perm es.toList)(f:t'.fits es'.size=true)(u:Up t'.place)(l:w.params.followText "set-order"=false->t'.led=true):a3T P w es' t' zs:=by
 have hsz:es'.size=es.size:=by rw[<-aL0,p.length_eq,aL0]
 exact⟨h.el.perm p,fun e he=>h.tx e (p.mem_iff.mp he),(p.map _).trans h.pm,h.nd,by rw[hsz];exact h.bd,f,l,u⟩
theorem a3S (h:t.fits es.size=true):t.place.size=es.size:=by
 unfold SetTable.fits at h;rw[Bool.and_eq_true,beq_iff_eq] at h;exact h.1
theorem a3T.laid (h:a3T P w es t zs){mask f mv:Nat}{a b:Bool}(hm:Pw (mask+1))(hn:es.size<mask+1)(l:w.params.followText "set-order"=false->a=true) :
  ∃t' o,SetTable.laid mask f mv a b (es.map (·.1))=some (t',o)/\(o.filterMap (es[·]?)).size=es.size/\a3T P w (o.filterMap (es[·]?)) t' zs:=by
 obtain⟨t',o,e,hp,hf,hu,hl⟩:=b4o (hs:=es.map (·.1)) hm (by rw[Array.size_map];exact hn) f mv a b;rw[Array.size_map] at hp hf;have e1:(o.filterMap (es[·]?)).toList=o.toList.filterMap fun i=>es.toList[i]?:=by
  rw[Array.toList_filterMap]
  congr 1
  funext i
  rw[Array.getElem?_toList]
 have hp2:(o.filterMap (es[·]?)).toList.Perm es.toList:=by
  rw[e1];exact b0X (by rw[aL0];exact hp)
 have hsz:(o.filterMap (es[·]?)).size=es.size:=by rw[<-aL0,hp2.length_eq,aL0]
 exact⟨t',o,e,hsz,h.moved hp2 (by rw[hsz];exact hf) hu fun q=>hl.trans (l q)⟩
end
section
variable {P:Program}{w:World}{A:Around}{E:Vs0}{s:Shared}{a:Addr}
theorem b6X {zs:List Int}{wanted:Nat}{Q:Unit->Shared->Prop}(hS:a1B P w a zs s.heap)(hw:wanted<128)(hz:2 * zs.length<=wanted)(h:∀h',Heap.SameBut a s.heap h'->a1B P w a zs h'->Q () { s with heap:=h' }):wpAny (model P w) A (setRelay a wanted) Q E s:=by
 obtain⟨o,es,ep,t,ho,hex,hd,T⟩:=hS;obtain⟨p1,p2⟩:=a7l hw;have hsz:=T.size;unfold setRelay;refine wB0 (wpAny_setState_of ho hd T.ft ?_);show wpAny _ _ (if SetTable.sizeAbove wanted > sizeLine then _ else _) _ _ _;rw[if_neg (Nat.not_lt.mpr (a1M (by omega)))];have e1:SetTable.sizeAbove wanted-1+1=SetTable.sizeAbove wanted:=by have:=p1.pos;omega
 obtain⟨t',o',el,es1,T'⟩:=T.laid (mask:=SetTable.sizeAbove wanted-1) (f:=t.finger) (mv:=t.movedTo (SetTable.sizeAbove wanted-1)) (a:=t.led) (b:=t.plain) (by rw[e1];exact p1) (by omega) T.ld;have er:t.relaid (es.map (·.1)) wanted=some (t',o'):=el;rw[er];refine wB0 (show wpAny _ _ (if (o'.filterMap (es[·]?)).size != es.size then _ else pure (o'.filterMap (es[·]?),t')) _ _ _ from ?_);rw[if_neg (by rw[es1];simp)];refine wP0 ?_;refine wpAny_storeSet_of ho hd ?_ (fits_of_scanBound T'.bd);obtain⟨ho2,_⟩:=SetOf_store (knd:=a0i P w) ho hex hd T'.el T'.of T'.bd T'.ft;exact h _ (Heap.SameBut.update _ a _) ⟨_,_,_,_,ho2,hex,rfl,T'⟩
theorem b8c {zs:List Int}{more:Nat}{Q:Unit->Shared->Prop}(hS:a1B P w a zs s.heap)(hm:zs.length+more<=60)(h:∀h',Heap.SameBut a s.heap h'->a1B P w a zs h'->Q () { s with heap:=h' }):wpAny (model P w) A (setRoomFor a more) Q E s:=by
 obtain⟨o,es,ep,t,ho,hex,hd,T⟩:=id hS;have hsz:=T.size;have hps:=a3S T.ft;unfold setRoomFor;refine wB0 (wpAny_setState_of ho hd T.ft ?_);cases e:t.roomFor more with
 |none=>exact wP0 (h s.heap (Heap.SameBut.refl a s.heap) hS)
 |some wanted=>
  have hw:wanted=(t.place.size+more) * 2:=by
   unfold SetTable.roomFor at e
   split at e
   ·injection e with e
    exact e.symm
   ·cases e
  exact b6X hS (by omega) (by omega) h
end
section
variable {P:Program}{w:World}{A:Around}{E:Vs0}{s:Shared}{a o:Addr}
structure b3r (w:World) (n:Nat) (T:SetTable):Prop where
 pl:T.place=#[]
 du:T.dummies=#[]
 pw:Pw (T.mask+1)
 lt:n<T.mask+1
 ld:w.params.followText "set-order"=false->T.led=true
def a5R (w:World)(a:Addr)(n:Nat)(h:Heap):Prop:=∃ob ep T,h.get? a=some ob/\ob.ExactSet/\ob.data=.set #[] ep T/\b3r w n T
theorem a8k {more:Nat}{Q:Unit->Shared->Prop}(hS:a5R w a 4 s.heap)(hm:more<=60)
  (h:∀h',Heap.SameBut a s.heap h'->a5R w a more h'->Q () { s with heap:=h' }):wpAny (model P w) A (setRoomFor a more) Q E s:=by
 obtain⟨ob,ep,T,ho,hx,hd,F⟩:=hS;have hf:T.fits (#[]:Array (Int×Value)).size=true:=by unfold SetTable.fits SetTable.fill;rw[F.pl,F.du];simp
 unfold setRoomFor;refine wB0 (wpAny_setState_of ho hd hf ?_);cases e:T.roomFor more with
 |none=>
  refine wP0 (h s.heap (Heap.SameBut.refl a s.heap) ⟨ob,ep,T,ho,hx,hd,F.pl,F.du,F.pw,?_,F.ld⟩);unfold SetTable.roomFor SetTable.fill at e;rw[F.pl,F.du] at e
  split at e
  ·cases e
  ·rename_i q
   simp at q
   have:=F.pw.pos
   omega
 |some wanted=>
  have hw:wanted=more * 2:=by
   unfold SetTable.roomFor at e;rw[F.pl] at e
   split at e
   ·injection e with e
    rw[<-e];simp
   ·cases e
  obtain⟨p1,p2⟩:=a7l (show wanted<128 by omega);show wpAny _ _ (setRelay a wanted) _ _ _;unfold setRelay;refine wB0 (wpAny_setState_of ho hd hf ?_);show wpAny _ _ (if SetTable.sizeAbove wanted > sizeLine then _ else _) _ _ _;rw[if_neg (Nat.not_lt.mpr (a1M (by omega)))];have er:T.relaid (Array.map (fun x:Int×Value=>x.1) #[]) wanted=some ({ mask:=SetTable.sizeAbove wanted-1,place:=#[],dummies:=#[],finger:=T.finger,led:=T.led,moves:=T.movedTo (SetTable.sizeAbove wanted-1),plain:=T.plain },#[]):=by
   unfold SetTable.relaid;rw[show Array.map (fun x:Int×Value=>x.1) #[]=#[] from by simp];exact a3F _ _ _ _ _
  rw[er];have e1:SetTable.sizeAbove wanted-1+1=SetTable.sizeAbove wanted:=by have:=p1.pos;omega
  have F':b3r w more { mask:=SetTable.sizeAbove wanted-1,place:=#[],dummies:=#[],finger:=T.finger,led:=T.led,moves:=T.movedTo (SetTable.sizeAbove wanted-1),plain:=T.plain }:=⟨rfl,rfl,by show Pw (_-1+1);rw[e1];exact p1,by show more<_-1+1;omega,F.ld⟩;generalize ({ mask:=SetTable.sizeAbove wanted-1,place:=#[],dummies:=#[],finger:=T.finger,led:=T.led,moves:=T.movedTo (SetTable.sizeAbove wanted-1),plain:=T.plain }:SetTable)=T' at F' ⊢;have hT:T'.fits 0=true:=by unfold SetTable.fits SetTable.fill;rw[F'.pl,F'.du];simp
  refine wB0 (show wpAny _ _ (pure ((#[]:Array (Int×Value)),T')) _ _ _ from wP0 ?_);refine wpAny_storeSet_of ho hd ?_ (zL0 _);obtain⟨ho2,_⟩:=SetOf_store (knd:=a0i P w) ho hx hd (es':=#[]) (t':=T') (S':=fun _=>false) (fun e he=>by simp at he) (fun k=>by simp) (by decide) hT;exact h _ (Heap.SameBut.update _ a _) ⟨_,_,_,ho2,hx,rfl,F'⟩
theorem a3R {zs:List Int}{each:Sem Unit}{Q:Unit->Shared->Prop}(hne:a≠o)(hS:a5R w a 4 s.heap)(hO:a1B P w o zs s.heap)(hz:zs.length<=60)
  (h0:zs=[]->Q () s) (h:∀h',zs≠[]->Heap.SameBut a s.heap h'->a1B P w a zs h'->Q () { s with heap:=h' }):wpAny (model P w) A (setMerge a o each) Q E s:=by
 obtain⟨oo,eo,epo,to,ho,hexo,hdo,TO⟩:=id hO;have hsz:=TO.size;unfold setMerge;rw[if_neg (by simpa using hne)];refine wB0 (wpAny_setState_of ho hdo TO.ft ?_)
 dsimp only
 by_cases hemp:eo.isEmpty=true
 ·rw[if_pos hemp]
  refine wP0 (h0 ?_)
  have:eo.size=0:=by simpa using hemp
  exact List.eq_nil_of_length_eq_zero (by omega)
 rw[if_neg hemp];have hzn:zs≠[]:=fun q=>by
  subst q;exact hemp (by simpa using hsz)
 refine wB0 (a8k hS (by omega) fun h1 sb1 hS1=>?_);obtain⟨ob,ep,T,ho1,hx1,hd1,F⟩:=hS1;have hf:T.fits (#[]:Array (Int×Value)).size=true:=by unfold SetTable.fits SetTable.fill;rw[F.pl,F.du];simp
 refine wB0 (wpAny_setState_of (s:={ s with heap:=h1 }) ho1 hd1 hf ?_)
 dsimp only
 have hfill:(T.fill != 0)=false:=by unfold SetTable.fill;rw[F.pl,F.du];rfl
 have hps:=a3S TO.ft;cases er:T.road to with
 |oneByOne=>
  exfalso
  unfold SetTable.road at er;rw[hfill] at er;simp only[Bool.false_eq_true,if_false] at er
  split at er<;>cases er
 |slotForSlot=>
  dsimp only
  have T':a3T P w eo { to with finger:=T.finger,led:=T.led&&to.led,moves:=T.moves,plain:=T.plain&&to.plain } zs:=⟨TO.el,TO.tx,TO.pm,TO.nd,TO.bd,TO.ft,fun q=>by show(T.led&&to.led)=true;rw[F.ld q,TO.ld q];rfl,TO.rs⟩;refine wpAny_storeSet_of (s:={ s with heap:=h1 }) ho1 hd1 ?_ (fits_of_scanBound T'.bd);obtain⟨ho2,_⟩:=SetOf_store (knd:=a0i P w) ho1 hx1 hd1 T'.el T'.of T'.bd T'.ft;exact h _ hzn (sb1.trans (Heap.SameBut.update _ a _)) ⟨_,_,_,_,ho2,hx1,rfl,T'⟩
 |clean=>
  dsimp only
  obtain⟨t',o',el,es1,T'⟩:=TO.laid (mask:=T.mask) (f:=T.finger) (mv:=T.moves) (a:=T.led&&to.led) (b:=T.plain&&to.plain) F.pw (by have:=F.lt;omega) (fun q=>by rw[F.ld q,TO.ld q];rfl);rw[el];refine wB0 (show wpAny _ _ (if (o'.filterMap (eo[·]?)).size != eo.size then _ else pure (o'.filterMap (eo[·]?),t')) _ _ _ from ?_);rw[if_neg (by rw[es1];simp)];refine wP0 ?_;refine wpAny_storeSet_of (s:={ s with heap:=h1 }) ho1 hd1 ?_ (fits_of_scanBound T'.bd);obtain⟨ho2,_⟩:=SetOf_store (knd:=a0i P w) ho1 hx1 hd1 T'.el T'.of T'.bd T'.ft;exact h _ hzn (sb1.trans (Heap.SameBut.update _ a _)) ⟨_,_,_,_,ho2,hx1,rfl,T'⟩
theorem a3Z {α β:Type}{b:β}{f:α->β->Sem (ForInStep β)}:∀l:List α,(∀x∈l,f x b=pure (.yield b))->forIn l b f=(pure b:Sem β)
 |[],_=>rfl
 |x::r,h=>by
  rw[List.forIn_cons,h x List.mem_cons_self,pure_bind];exact a3Z r fun y hy=>h y (mL0 _ hy)
theorem b1l {ob:Obj}{es:Array (Int×Value)}{ep:Nat}{t:SetTable}{zs:List Int}{Q:Array (Int×Value)->Shared->Prop}(ho:s.heap.get? o=some ob)(hd:ob.data=.set es ep t)(T:a3T P w es t zs)
  (h:∀es' d,es'.toList.Perm es.toList->Q es' { s with drawn:=d }):wpAny (model P w) A (setWalk o) Q E s:=by
 have e0:s={ s with drawn:=s.drawn }:=by cases s;rfl
 unfold setWalk;refine wB0 (wpAny_setState_of ho hd T.ft ?_)
 dsimp only
 unfold setsByText;refine wB0 (wB0 (wpAny_askSetting (wP0 ?_)));refine wpAny_ite_split (fun q=>?_) fun q=>?_
 ·refine wB0 (wpAny_askSetting (wP0 ?_))
  rw[e0];exact h _ _ (a5l _ _)
 ·have hw:w.params.followText "set-order"=false:=by
   cases hq:w.params.followText "set-order" with
   |false=>rfl
   |true=>exact absurd hq q
  refine wpAny_ite_split (fun _=>?_) fun _=>?_
  ·refine wB0 (a9i es.size _ _ _ (by simp) fun ys d hp=>?_)
   exact wP0 (h _ d (by simpa using hp))
  ·refine wB0 ?_
   refine wpAny_ite_split (fun q2=>?_) fun _=>?_
   ·rw[T.ld hw] at q2
    simp at q2
   ·refine wP0 (wP0 ?_)
    rw[e0];exact h _ _ (.refl _)
theorem a7N {ob:Obj}{es:Array (Int×Value)}{ep:Nat}{t:SetTable}{zs ks:List Int}{Q:Array (Int×Value)->Shared->Prop}(hne:a≠o)(ho:s.heap.get? o=some ob)(hex:ob.ExactSet)(hd:ob.data=.set es ep t)(T:a3T P w es t zs)(hA:a1B P w a ks s.heap)
  (h:∀es' d h',es'.toList.Perm es.toList->Heap.SameBut a s.heap h'->a1B P w a ks h'->Q es' { s with heap:=h',drawn:=d }):wpAny (model P w) A (setWalkUnseen o [a] (some a)) Q E s:=by
 have e0:s={ s with heap:=s.heap }:=by cases s;rfl
 unfold setWalkUnseen;refine wB0 (wpAny_setState_of ho hd T.ft ?_)
 dsimp only
 unfold setsByText;refine wB0 (wB0 (wpAny_askSetting (wP0 ?_)));refine wpAny_ite_split (fun _=>?_) fun q=>?_
 ·exact b1l ho hd T fun es' d hp=>h es' d s.heap hp (Heap.SameBut.refl a s.heap) hA
 ·unfold setsQuiet
  refine wB0 ?_;have quiet:∀{es:Array (Int×Value)} {f:Int×Value->Option Bool×Unit->Sem (ForInStep (Option Bool×Unit))},(∀e∈es.toList,f e (none,())=pure (.yield (none,())))->forIn es (none,()) f=(pure (none,()):Sem (Option Bool×Unit)):=fun {es f} h=>by
   rw[<-Array.forIn_toList];exact a3Z _ h
  have still:∀{es:Array (Int×Value)} {t:SetTable} {zs:List Int},a3T P w es t zs->∀e∈es.toList,∃h z k,e=(h,Value.int z k):=fun {es t zs} T e he=>by
   obtain⟨z,k,q⟩:=T.tx e he;obtain⟨h,v⟩:=e;exact⟨h,z,k,by rw[show v=_ from q]⟩
  obtain⟨oa,ea,epa,ta,hoa,hexa,hda,TA⟩:=id hA;rw[List.forIn_cons];refine wB0 (wB0 (wB0 (wpAny_setEntries_of ho hd T.ft ?_)));rw[quiet fun e he=>by obtain⟨h,z,k,rfl⟩:=still T e he;rfl];refine wB0 (wP0 ?_);refine wP0 ?_
  dsimp only
  rw[List.forIn_cons];refine wB0 (wB0 (wpAny_setEntries_of hoa hda TA.ft ?_));rw[quiet fun e he=>by obtain⟨h,z,k,rfl⟩:=still TA e he;rfl];refine wB0 (wP0 ?_);refine wP0 ?_
  dsimp only
  rw[List.forIn_nil];refine wP0 ?_;refine wP0 ?_;rw[if_neg (by decide)];refine wB0 (wpAny_rule ?_);refine wB0 (wpAny_setState_of hoa hda TA.ft ?_)
  dsimp only
  have e1:s={ s with heap:=s.heap,drawn:=s.drawn }:=by cases s;rfl
  refine wpAny_ite_split (fun _=>?_) fun _=>?_
  ·have T':a3T P w ea { ta with led:=ta.led&&t.led,plain:=ta.plain&&t.plain } ks:=⟨TA.el,TA.tx,TA.pm,TA.nd,TA.bd,TA.ft,fun q=>by show(ta.led&&t.led)=true;rw[TA.ld q,T.ld q];rfl,TA.rs⟩
   refine wB0 (wpAny_storeSet_of hoa hda ?_ (fits_of_scanBound T'.bd));obtain⟨ho2,_⟩:=SetOf_store (knd:=a0i P w) hoa hexa hda T'.el T'.of T'.bd T'.ft;exact wP0 (h es s.drawn _ (.refl _) (Heap.SameBut.update _ a _) ⟨_,_,_,_,ho2,hexa,rfl,T'⟩)
  ·refine wP0 ?_
   rw[e1];exact h es s.drawn s.heap (.refl _) (Heap.SameBut.refl a s.heap) hA
theorem b4k {α:Type}{M:Model}{A:Around}{E:Vs0}{Q:PUnit->Shared->Prop}{body:α->PUnit->Sem (ForInStep PUnit)}(I:Nat->Shared->Prop)(l:List α)
  (step:∀i x s,l[i]? =some x->I i s->wpAny M A (body x PUnit.unit) (fun r s'=>r=.yield PUnit.unit/\I (i+1) s') E s) (fin:∀s,I l.length s->Q PUnit.unit s) :
  ∀(n i:Nat) (s:Shared),n=l.length-i->i<=l.length->I i s->wpAny M A (forIn (l.drop i) PUnit.unit body) Q E s:=by
 intro n
 induction n with
 |zero=>
  intro i s hn hi hI
  have:i=l.length:=by omega
  subst this;rw[List.drop_length];exact wP0 (fin s hI)
 |succ n ih=>
  intro i s hn hi hI;have hlt:i<l.length:=by omega
  rw[List.drop_eq_getElem_cons hlt,List.forIn_cons];refine wB0 (wpAny_mono (step i _ s (gE0 hlt) hI) (fun r s' hr=>?_) fun _ _ z=>z);obtain⟨rfl,hI'⟩:=hr;exact ih (i+1) s' (by omega) (by omega) hI'
theorem b1M {zs:List Int}{z x:Int}:x∈a2I zs z↔x∈zs\/x=z:=by
 unfold a2I
 split
 ·exact⟨.inl,fun h=>h.elim id fun e=>e▸‹_›⟩
 ·rw[mB0,mS0]
theorem a6e:∀(ys zs:List Int) {x:Int},x∈ys.foldl a2I zs↔x∈zs\/x∈ys
 |[],zs,x=>by simp
 |y::r,zs,x=>by
  rw[List.foldl_cons,a6e r,b1M,mK0]
  constructor
  ·rintro((h |h) |h)
   ·exact .inl h
   ·exact .inr (.inl h)
   ·exact .inr (.inr h)
  ·rintro(h |h |h)
   ·exact .inl (.inl h)
   ·exact .inl (.inr h)
   ·exact .inr h
theorem a8n {ks zs:List Int}{each:Sem Unit}{Q:Unit->Shared->Prop}(hne:a≠o)(hA:a1B P w a ks s.heap)(hO:a1B P w o zs s.heap)(hz:ks.length+zs.length<=60)(hk:ks≠[])
  (hE:∀(s':Shared) (Q':Unit->Shared->Prop),s'.heap.get? o=s.heap.get? o->Q' () s'->wpAny (model P w) A each Q' E s')
  (h:∀h' d ms,Heap.SameBut a s.heap h'->a1B P w a ms h'->(∀x,x∈ms↔x∈ks\/x∈zs)->Q () { s with heap:=h',drawn:=d }):wpAny (model P w) A (setMerge a o each) Q E s:=by
 obtain⟨oo,eo,epo,to,ho,hexo,hdo,TO⟩:=id hO;have hsz:=TO.size;have e0:s={ s with heap:=s.heap,drawn:=s.drawn }:=by cases s;rfl
 unfold setMerge;rw[if_neg (by simpa using hne)];refine wB0 (wpAny_setState_of ho hdo TO.ft ?_)
 dsimp only
 by_cases hemp:eo.isEmpty=true
 ·rw[if_pos hemp]
  have hez:eo.size=0:=by simpa using hemp
  have hz0:zs=[]:=List.eq_nil_of_length_eq_zero (by omega);refine wP0 ?_;rw[e0];refine h s.heap s.drawn ks (Heap.SameBut.refl a s.heap) hA fun x=>?_;rw[hz0];simp
 rw[if_neg hemp];refine wB0 (b8c hA (by omega) fun h1 sb1 hA1=>?_);obtain⟨oa,ea,epa,ta,hoa,hexa,hda,TA⟩:=id hA1;refine wB0 (wpAny_setState_of (s:={ s with heap:=h1 }) hoa hda TA.ft ?_)
 dsimp only
 have hps:=a3S TA.ft;have hsa:=TA.size;have hroad:ta.road to=.oneByOne:=by
  unfold SetTable.road;rw[if_pos]
  have:0<ks.length:=List.length_pos_iff.mpr hk
  have hf:ta.fill≠0:=by unfold SetTable.fill;omega
  simpa using hf
 rw[hroad]
 dsimp only
 have ho1:=(sb1.2 o hne.symm).trans ho;refine wB0 (a7N (s:={ s with heap:=h1 }) hne ho1 hexo hdo TO hA1 fun es' d h2 hp sb2 hA2=>?_);have ho2:=(sb2.2 o hne.symm).trans ho1;rw[<-Array.forIn_toList];refine wB0 (b4k (fun i s'=>∃h',s'={ s with heap:=h',drawn:=d }/\Heap.SameBut a s.heap h'/\a1B P w a (((es'.toList.take i).map inE).foldl a2I ks) h') es'.toList ?_ ?_ _ 0 _ rfl (zL0 _) ⟨h2,rfl,sb1.trans sb2,hA2⟩)
 ·rintro i ⟨hh,x⟩ s' hx ⟨h',rfl,sb,hS⟩
  have hil:i<es'.toList.length:=(gS0.mp hx).1;have hem:=hp.mem_iff.mp (gI0 hx);obtain⟨z,tk,ez⟩:=TO.tx _ hem;obtain⟨⟨k,k1,k2⟩,_⟩:=TO.el _ hem;have ez':x=.int z tk:=ez;subst ez';have ek:k=.inl z:=(a0i P w).inj _ _ _ k1 (show(a0i P w).is (.inl z) (.int z tk)=true from a1L z tk);subst ek;have k2':hh=(a0i P w).hash (.inl z):=k2;subst k2';have hle:(((es'.toList.take i).map inE).foldl a2I ks).length+1<scanBound:=by
   have:=a3G ((es'.toList.take i).map inE) ks
   rw[lM0,lT0] at this;have h3:es'.toList.length=eo.size:=by rw[hp.length_eq,aL0]
   unfold scanBound
   omega
  dsimp only
  refine wB0 (wpAny_holding (add_int (s:={ s with heap:=h',drawn:=d }) hS hle fun b h'' sb' hS'=>?_));have oo':h''.get? o=s.heap.get? o:=(sb'.2 o hne.symm).trans (sb.2 o hne.symm);refine wB0 (hE _ _ oo' ?_);refine wB0 (wpAny_setState_of (s:={ s with heap:=h'',drawn:=d }) (oo'.trans ho) hdo TO.ft ?_);rw[if_neg (by simp)];refine wP0 ⟨rfl,h'',rfl,sb.trans sb',?_⟩;have et:((es'.toList.take (i+1)).map inE).foldl a2I ks=a2I (((es'.toList.take i).map inE).foldl a2I ks) z:=by
   rw[tS0,hx,mA0,List.foldl_append]
   rfl
  rw[et];exact hS'
 ·rintro s' ⟨h',rfl,sb,hS⟩
  rw[List.take_length] at hS;refine wP0 (h h' d _ sb hS fun x=>?_);rw[a6e,(hp.map inE).mem_iff,TO.pm.mem_iff]
theorem a4L:entryFor table "set.__or__"=some Builtin.«frozenset.__or__»:=
 entryFor_alias (id':="frozenset.__or__") (by kernel_rfl) rfl (by decide +kernel) (by kernel_rfl)
theorem b4v {a b:Addr}{ks zs:List Int}{Q:Vs0}(hne:a≠b)(hA:a1B P w a ks s.heap)(hB:a1B P w b zs s.heap)(hz:ks.length+zs.length<=60)
  (hq:∀h' d ms,(∀c ob,s.heap.get? c=some ob->h'.get? c=some ob)->a1B P w s.heap.objs.size ms h'->(∀x,x∈ms↔x∈ks\/x∈zs)->Q (.ref s.heap.objs.size) { s with heap:=h',drawn:=d }):wpAny (model P w) A (binaryOp .BitOr (.ref a) (.ref b)) Q E s:=by
 obtain⟨oa,ea,epa,ta,o1,o2,o3,TA⟩:=id hA;obtain⟨ob,eb,epb,tb,p1,p2,p3,TB⟩:=id hB;have Ta:s.TypeIs (.ref a) "set":=⟨oa,o1,o2.1⟩;have Tb:s.TypeIs (.ref b) "set":=⟨ob,p1,p2.1⟩;refine wpAny_binaryOp_same Ta Tb F.fills_set_or F.slot_set_or (wpAny_call_entry F.slot_set_or Ta a4L ?_ (F.args_set_or_2 _ _));have t0:isSubtype (.type "set") (.type "set")=pure true:=by rw[isSubtype_type];kernel_rfl
 have t1:isSubtype (.type "set") (.type "frozenset")=pure false:=by rw[isSubtype_type];kernel_rfl
 obtain⟨oc,od,oD,os⟩:=oa;obtain⟨pc,pd,pD,ps⟩:=ob;simp only[Obj.ExactSet] at o2 o3 p2 p3;obtain⟨rfl,rfl,rfl⟩:=o2;obtain⟨rfl,rfl,rfl⟩:=p2;subst o3 p3;refine wB0 ?_;generalize eC:Builtin.Frozenset.copyOf=CO;generalize eU:Builtin.Frozenset.updateFrom=UF
 wp_walk
 refine wpAny_askSetting (wP0 ?_);show wpAny _ _ (newObj (.type "set") (.set #[] 0 (.fresh 0 0 (!w.params.followText "set-order")))) _ _ _;refine wpAny_newObj_type ?_;refine wB0 (wP0 ?_);have hn0:(s.heap.push { cls:=.type "set",dict:=none,data:=.set #[] 0 (.fresh 0 0 (!w.params.followText "set-order")) }).get? s.heap.objs.size=some { cls:=.type "set",dict:=none,data:=.set #[] 0 (.fresh 0 0 (!w.params.followText "set-order")) }:=hS0 _ rfl;have hF:a5R w s.heap.objs.size 4 (s.heap.push { cls:=.type "set",dict:=none,data:=.set #[] 0 (.fresh 0 0 (!w.params.followText "set-order")) }):=⟨_,_,_,hn0,⟨rfl,rfl,rfl⟩,rfl,rfl,rfl,.inl rfl,(show 4<8 by decide),fun q=>by show(!w.params.followText "set-order")=true;rw[q];rfl⟩;have k1:∀c ob,s.heap.get? c=some ob->(s.heap.push { cls:=.type "set",dict:=none,data:=.set #[] 0 (.fresh 0 0 (!w.params.followText "set-order")) }).get? c=some ob:=fun c ob e=>hP0 _ e;generalize s.heap.push { cls:=.type "set",dict:=none,data:=.set #[] 0 (.fresh 0 0 (!w.params.followText "set-order")) }=h1 at hn0 hF k1 ⊢;have na:s.heap.objs.size≠a:=Nat.ne_of_gt (hL0 o1);have nb:s.heap.objs.size≠b:=Nat.ne_of_gt (hL0 p1);have hA1:a1B P w a ks h1:=hA.keep fun ob e=>k1 _ _ e;have hB1:a1B P w b zs h1:=hB.keep fun ob e=>k1 _ _ e;have second:∀h2:Heap,(∀c ob,s.heap.get? c=some ob->h2.get? c=some ob)->((ks=[]/\a5R w s.heap.objs.size 4 h2)\/(ks≠[]/\a1B P w s.heap.objs.size ks h2))->wpAny (model P w) A.in1 (pure (Value.ref s.heap.objs.size)) (fun a_4 s'=>
         wpAny (model P w) A.in1
          (have __do_jp:=fun __r=>pure a_4;
          if
            ((if false=true then(Value.ref b,Value.ref a) else(Value.ref a,Value.ref b)).snd !=
              Value.ref a) =
             true then
           do
           let __do_lift <-Builtin.Frozenset.addrOf a_4
           let __r <-
            holding [a_4]
              (Builtin.Frozenset.updateFrom (toString "frozenset."++toString "__or__") __do_lift
               (if false=true then(Value.ref b,Value.ref a) else(Value.ref a,Value.ref b)).snd)
           __do_jp __r
          else __do_jp ())
          (fun a s'=>
           wpAny (model P w) A.in1 (ret a)
            (fun fin s'=>∃v,fin=Fin.done (Flow.ret v)/\v≠Value.notImplemented/\Q v s') E s')
          E s') E { s with heap:=h2 }:=by
  intro h2 k2 hc;have q1:=k2 _ _ p1;have hB2:a1B P w b zs h2:=hB.keep fun ob e=>k2 _ _ e;have Tb2:Shared.TypeIs { s with heap:=h2 } (.ref b) "set":=⟨_,q1,rfl⟩;have e0:({ s with heap:=h2 }:Shared)={ s with heap:=h2,drawn:=s.drawn }:=rfl;refine wP0 ?_
  dsimp only
  rw[if_pos (by simpa using Ne.symm hne)];refine wB0 (wP0 ?_);refine wB0 (wpAny_holding ?_);simp only[Bool.false_eq_true,if_false];unfold Builtin.Frozenset.updateFrom Builtin.Frozenset.isAnySet;refine wB0 (wB0 (wpAny_isInstance (T:="set") (b:=true) Tb2 t0 ?_));refine wP0 ?_;rw[if_pos rfl];refine wB0 (wP0 ?_);unfold Builtin.Frozenset.merge;refine wB0 (wpAny_setEpoch_of (s:={ s with heap:=h2 }) q1 rfl TB.ft ?_);have fin:∀h' d ms,Heap.SameBut s.heap.objs.size h2 h'->a1B P w s.heap.objs.size ms h'->(∀x,x∈ms↔x∈ks\/x∈zs)->wpAny (model P w) A.in1 (pure (Value.ref s.heap.objs.size)) (fun a s'=>wpAny (model P w) A.in1 (ret a) (fun fin s'=>∃v,fin=Fin.done (Flow.ret v)/\v≠Value.notImplemented/\Q v s') E s') E { s with heap:=h',drawn:=d }:=fun h' d ms sb hS hm=>by
   refine wP0 (wP0 ⟨_,rfl,(fun z=>nomatch z),hq h' d ms (fun c ob e=>?_) hS hm⟩);exact(sb.2 c (nL0 (hL0 e))).trans (k2 c ob e)
  rcases hc with ⟨rfl,hF2⟩ |⟨hk,hS2⟩
  ·refine a3R (s:={ s with heap:=h2 }) nb hF2 hB2 (by simpa using hz) (fun hz0=>?_) fun h' _ sb hS=>fin h' s.drawn zs sb hS fun x=>by simp
   subst hz0;obtain⟨ob,ep,T,g1,g2,g3,F⟩:=hF2;have hf:T.fits (#[]:Array (Int×Value)).size=true:=by unfold SetTable.fits SetTable.fill;rw[F.pl,F.du];simp
   exact fin h2 s.drawn [] (Heap.SameBut.refl _ _) ⟨ob,#[],ep,T,g1,g2,g3,fun e he=>by simp at he,fun e he=>by simp at he,by simp,List.nodup_nil,by decide,hf,F.ld,by rw[F.pl];exact List.Pairwise.nil⟩ fun x=>by simp
  ·refine a8n (s:={ s with heap:=h2 }) nb hS2 hB2 hz hk (fun s' Q' e hq'=>?_) fun h' d ms sb hS hm=>fin h' d ms sb hS hm
   unfold Builtin.Frozenset.unchanged;refine wB0 (wpAny_setEpoch_of (e.trans q1) rfl TB.ft ?_);rw[if_neg (by simp)];exact wP0 hq'
 refine wB0 (a3R (s:={ s with heap:=h1 }) na hF hA1 (by omega) (fun hk0=>?_) fun h' hk sb hS=>?_)
 ·exact second h1 k1 (.inl ⟨hk0,hF⟩)
 ·exact second h' (fun c ob e=>(sb.2 c (nL0 (hL0 e))).trans (k1 c ob e)) (.inr ⟨hk,hS⟩)
end
section
variable {X:Cx}
theorem b6d:OpR X (binaryOp .BitOr) (fun x y H Q=>∃(a b:Addr) (ks zs:List Int),x=.ref a/\y=.ref b/\a≠b/\H a=some (.ext (a1B X.prog X.w a ks))/\H b=some (.ext (a1B X.prog X.w b zs))/\ks.length+zs.length<=60/\∀p ms,H p=none->ms.Nodup->(∀x,x∈ms↔x∈ks\/x∈zs)->Q (.ref p) (upd H p (.ext (a1B X.prog X.w p ms)))):=by
 intro Z s σ H x y v u Q I rx ry h;obtain⟨a,b,ks,zs,rfl,rfl,hne,ha,hb,hz,q⟩:=h;cases rx;cases ry;obtain⟨ha',_⟩:=I.hok a _ ha;obtain⟨hb',_⟩:=I.hok b _ hb;refine b4v hne ha' hb' hz fun h' d ms k hS hm=>?_;obtain⟨_,_,_,_,_,_,_,T⟩:=id hS;exact⟨.ref s.heap.objs.size,_,(I.draw (d:=d)).laid (a:=s.heap.objs.size) (t':=s.toks) k (nR0 _) (a6R hS),rfl,q _ ms (I.hok.fresh (nR0 _)) T.nd hm⟩
end
end L2
namespace L2
open PySem PySem.Spec PyProof.Rows PySem.Builtin PySem.Builtin.Dict
theorem b1e {M:Model}{A:Around}{E:Vs0}{s:Shared}{a:Addr}{Q:Option Obj->Shared->Prop}(h:Q (s.heap.get? a) s):wpAny M A (loadIfAlive a) Q E s:=fun Γ p _=>by
 unfold loadIfAlive;rw[Sem.wp_loadIfAlive];exact h
theorem a5O:typeLookup (.type "enumerate") "keys"=pure none:=am_miss_of_fast (by decide +kernel)
theorem a2K:typeLookup (.type "enumerate") "__getattr__"=pure none:=by rw[typeLookup_type,builtinLookup_eq_fast];kernel_rfl
theorem a1O:entryFor table "enumerate.__getattribute__"=some Builtin.«object.__getattribute__»:=
 entryFor_alias (id':="object.__getattribute__") (by kernel_rfl) (by decide +kernel) (by decide +kernel) (by kernel_rfl)
theorem a3N (a:Addr)(vs:Array Value)(name:Str)(u:Tok)(hmiss:typeLookup (.type "enumerate") name=pure none)(hname:(["__module__","__name__","__qualname__","__doc__","__annotations__"]:List Str).contains name=false)(hsz:name.length+100<=sizeLine:=by size_fits) :
  Meets (Builtin.«object.__getattribute__» ⟨[.ref a,.str name u],[]⟩) (fun A R s=>s.heap.get? a=some { cls:=.type "enumerate",dict:=none,data:=.fields vs,slots:=#[] }/\raisesAttr (.ref a) name A R s):=
 Meets.of_wp fun prog w A R s hs=>by
  obtain⟨hp,g,d,tk,os⟩:=s;obtain⟨hx,hs⟩:=hs;have hT:(⟨hp,g,d,tk,os⟩:Shared).TypeIs (.ref a) "enumerate":=⟨_,hx,rfl⟩;unfold Builtin.«object.__getattribute__»
  repeat (any_goals (first |assumption |wp_step))
  simp only[hname,Bool.false_eq_true,if_false]
  repeat (any_goals (first |assumption |wp_step))
  exact wpAny_raiseAttrError hs.1 hs.2 (attrMsg_fits (by decide +kernel) hsz)
theorem a7R {prog:Program}{w:World}{A:Around}{E:Vs0}{s:Shared}{a:Addr}{vs:Array Value}{Q:Option Value->Shared->Prop}
  (hx:s.heap.get? a=some { cls:=.type "enumerate",dict:=none,data:=.fields vs,slots:=#[] }) (hA:A.handled=none)
  (h:∀h' tk,(∀b ob,s.heap.get? b=some ob->h'.get? b=some ob)->Q none { s with heap:=h',toks:=tk }):wpAny (model prog w) A (getAttr? (.ref a) "keys") Q E s:=by
 obtain⟨hp,g,d,tk,os⟩:=s;have hT:∀tk',(⟨hp,g,d,tk',os⟩:Shared).TypeIs (.ref a) "enumerate":=fun _=>⟨_,hx,rfl⟩;have f1:=sub_AttributeError;have f3:=F.slot_enumerate_getattribute.lookup;have f4:=F.slot_enumerate_getattribute.bind (.ref a);have f5:=a2K;unfold getAttr? getAttrBy? getAttrBy
 repeat (any_goals (first |assumption |exact hT _ | ((with_reducible show wpAny _ _ (call (Value.builtin "enumerate.__getattribute__") _ _) _ _ _);refine call_meets F.slot_enumerate_getattribute (hT _) a1O (F.args_enumerate_getattribute_2 _ _) (a3N a vs "keys" _ a5O (by decide +kernel) (by size_fits)) ⟨hx,hA,fun h' tk' e hx'=>?_⟩) |wp_step))
 obtain⟨t',u',he⟩:=hx'.there;show wpAny _ _ (getattributeRaised _ _ _ _ _ _ _) _ _ _;unfold getattributeRaised
 repeat (any_goals (first |assumption |wp_step))
 exact h _ _ hx'.keeps
def a8b (h:Heap)(e it:Addr)(i:Int):Prop:=∃(f0 f1 item:Value),h.get? e=some { cls:=.type "enumerate",dict:=none,data:=.fields #[f0,f1,.ref it,rawInt i,.none,item],slots:=#[] }/\((f0=.none/\f1=.bool false)\/∃(a:Nat) (o:Obj) (b:Bool),f0=rawInt a/\f1=.bool b/\a≠e/\a≠it/\h.get? a=some o)
section
variable {prog:Program}{w:World}{A:Around}{E:Vs0}{s:Shared}
theorem a4D {e it l:Addr}{i:Nat}{items:Array Value}{x:Value}{Q:Option Value->Shared->Prop}
  (he:a8b s.heap e it i) (hit:s.heap.IsListIter it l i) (hl:s.heap.IsList l items) (hx:items[i]? =some x) (hne:e≠it)
  (hQ:∀h',a8b h' e it ((i:Int)+1)->h'.IsListIter it l (i+1) →
   h'.get? s.heap.objs.size=some { cls:=.type "tuple",data:=.seq #[.int i s.toks,x] }->h'.objs.size=s.heap.objs.size+1 →
   (∀b o,b≠e->b≠it->s.heap.get? b=some o->h'.get? b=some o)->Q (some (.ref s.heap.objs.size)) { s with heap:=h',toks:=s.toks+1 }) :
  wpAny (model prog w) A (pyNext (.ref e)) Q E s:=by
 obtain⟨f0,f1,old,he,hf⟩:=he;rcases hf with ⟨rfl,rfl⟩ |⟨a,oa,b,rfl,rfl,ae,ai,ha⟩
 ·have hel:e<s.heap.objs.size:=hL0 he
  have hil:it<s.heap.objs.size:=by obtain⟨o,ho,_⟩:=id hit;exact hL0 ho
  exact wpAny_pyNext_enum_item he hit hl hx hne fun h' a b c d k=>hQ h' ⟨_,_,_,a,.inr ⟨_,_,_,rfl,rfl,Nat.ne_of_gt hel,Nat.ne_of_gt hil,c⟩⟩ b c d k
 ·have hT:s.TypeIs (.ref e) "enumerate":=⟨_,he,rfl⟩
  unfold pyNext;refine wB0 (wpAny_attempt (wpAny_callSpecial?_slot (name:=Str.ofString "__next__") hT F.slot_enumerate_next (wpAny_call_entry F.slot_enumerate_next hT F.entry_enumerate_next ?_ (F.args_enumerate_next_1 _))));obtain⟨hp,g,d,tk,os⟩:=s;show wpAny _ _ (field (.ref e) 2 >>= _) _ _ _;refine wB0 (wpAny_field he rfl (x:=.ref it) rfl ?_);refine wB0 (wpAny_nextOf_list_item hit hl hx fun h₁ hit₁ hs₁=>?_)
  replace hs₁:Heap.SameBut it hp h₁:=hs₁
  have he₁:=(hs₁.2 e hne).trans he;show wpAny _ _ (field (.ref e) 3 >>= _) _ _ ⟨h₁,g,d,tk,os⟩;refine wB0 (wpAny_field he₁ rfl (x:=rawInt i) rfl ?_);show wpAny _ _ (field (.ref e) 4 >>= _) _ _ ⟨h₁,g,d,tk,os⟩;refine wB0 (wpAny_field he₁ rfl (x:=.none) rfl ?_);show wpAny _ _ (mkInt i >>= _) _ _ ⟨h₁,g,d,tk,os⟩;refine wB0 (wpAny_mkInt ?_);show wpAny _ _ (setField (.ref e) 3 (rawInt ((i:Int)+1)) >>= _) _ _ ⟨h₁,g,d,tk+1,os⟩;refine wB0 (wpAny_setField_rec he₁ (by simp) fun h₂ he₂ hs₂=>?_)
  replace hs₂:Heap.SameBut e h₁ h₂:=hs₂
  show wpAny _ _ (setField (.ref e) 4 .none >>= _) _ _ ⟨h₂,g,d,tk+1,os⟩;refine wB0 (wpAny_setField_rec he₂ (by simp) fun h₃ he₃ hs₃=>?_)
  replace hs₃:Heap.SameBut e h₂ h₃:=hs₃
  replace he₃:h₃.get? e=some { cls:=.type "enumerate",dict:=none,data:=.fields #[rawInt a,.bool b,.ref it,rawInt ((i:Int)+1),.none,old],slots:=#[] }:=he₃
  show wpAny _ _ (newTuple [.int i tk,x] >>= _) _ _ ⟨h₃,g,d,tk+1,os⟩;refine wB0 (wpAny_newTuple ?_);have he₄:=hP0 { cls:=.type "tuple",data:=.seq #[.int i tk,x] } he₃;generalize hh₄:h₃.push { cls:=.type "tuple",data:=.seq #[.int i tk,x] }=h₄ at he₄;have hsz:h₃.objs.size=hp.objs.size:=by rw[hs₃.1,hs₂.1,hs₁.1]
  have hel:e<hp.objs.size:=hL0 he;have ht₄:h₄.get? hp.objs.size=some { cls:=.type "tuple",data:=.seq #[.int i tk,x] }:=by rw[<-hh₄,<-hsz];exact hS0 _ rfl
  have hz₄:h₄.objs.size=hp.objs.size+1:=by rw[<-hh₄,Heap.size_push,hsz]
  have hk₄:∀b o,b≠e->b≠it->hp.get? b=some o->h₄.get? b=some o:=fun b o hbe hbi hb=>by
   rw[<-hh₄];exact hP0 _ (hs₃.extBut b o hbe (hs₂.extBut b o hbe (hs₁.extBut b o hbi hb)))
  have hit₄:h₄.IsListIter it l (i+1):=by
   rw[<-hh₄];obtain⟨o,ho,r⟩:=(hit₁.extBut hs₂.extBut (Ne.symm hne)).extBut hs₃.extBut (Ne.symm hne);exact⟨o,hP0 _ ho,r⟩
  have ha₄:=hk₄ a oa ae ai ha;show wpAny _ _ (Builtin.SmallTypes.ownedTupleIsFree (.ref e) >>= _) _ _ ⟨h₄,g,d,tk+1,os⟩;rw[hsz];clear hh₄ he₃ hs₃ he₂ hs₂ he₁ hs₁ hit₁ hsz h₃ h₂ h₁;refine wB0 ?_;unfold Builtin.SmallTypes.ownedTupleIsFree;refine wB0 (wpAny_field he₄ rfl (x:=rawInt a) rfl ?_);show wpAny _ _ (loadIfAlive (Int.toNat a) >>= _) _ _ _;rw[Int.toNat_natCast];refine wB0 (b1e ?_);rw[show(Shared.heap ⟨h₄,g,d,tk+1,os⟩).get? a=some oa from ha₄];show wpAny _ _ (field (.ref e) 1 >>= _) _ _ _;refine wB0 (wpAny_field he₄ rfl (x:=.bool b) rfl ?_);cases b with
  |true=>
   rw[if_neg (by decide)];refine wP0 ?_;simp only[Bool.false_eq_true,if_false];exact wP0 ⟨_,rfl,wP0 (hQ h₄ ⟨_,_,_,he₄,.inr ⟨a,oa,true,rfl,rfl,ae,ai,ha₄⟩⟩ hit₄ ht₄ hz₄ hk₄)⟩
  |false=>
   rw[if_pos (by decide)];refine wB0 (wpAny_setField_rec he₄ (by simp) fun h₅ he₅ hs₅=>?_)
   replace hs₅:Heap.SameBut e h₄ h₅:=hs₅
   refine wP0 ?_;simp only[Bool.false_eq_true,if_false];refine wP0 ⟨_,rfl,wP0 (hQ h₅ ⟨_,_,_,he₅,.inr ⟨a,oa,true,rfl,rfl,ae,ai,(hs₅.2 a ae).trans ha₄⟩⟩ (hit₄.extBut hs₅.extBut (Ne.symm hne)) ?_ ?_ ?_)⟩
   ·exact hs₅.extBut _ _ (Nat.ne_of_gt hel) ht₄
   ·rw[hs₅.1,hz₄]
   ·exact fun b o hbe hbi hb=>hs₅.extBut b o hbe (hk₄ b o hbe hbi hb)
theorem a5P {e it l:Addr}{i:Nat}{items:Array Value}{Q:Option Value->Shared->Prop}(hh:A.handled=none)
  (he:a8b s.heap e it i) (hit:s.heap.IsListIter it l i) (hl:s.heap.IsList l items) (hx:items[i]? =none)
  (hQ:∀h',Heap.ExtBut it s.heap h'->Q none { s with heap:=h' }):wpAny (model prog w) A (pyNext (.ref e)) Q E s:=by
 obtain⟨f0,f1,old,he,_⟩:=he;have hT:s.TypeIs (.ref e) "enumerate":=⟨_,he,rfl⟩;unfold pyNext;refine wB0 (wpAny_attempt (wpAny_callSpecial?_slot (name:=Str.ofString "__next__") hT F.slot_enumerate_next
  (wpAny_call_entry F.slot_enumerate_next hT F.entry_enumerate_next ?_ (F.args_enumerate_next_1 _))))
 show wpAny _ _ (field (.ref e) 2 >>= _) _ _ _;refine wB0 (wpAny_field he rfl (x:=.ref it) rfl ?_);refine wB0 (wpAny_nextOf_list_end hh hit hl hx fun h' x he' hx'=>?_);obtain⟨o,ho,hc⟩:=hx';refine wB0 (wpAny_isInstance (T:="StopIteration") (b:=true) ⟨o,ho,hc⟩ isSubtype_stop ?_);exact wP0 (hQ _ he')
end
def enK (xs:List Value):List (Key×Value):=xs.mapIdx fun i v=>(.inl (i:Nat),v)
theorem a4Q (xs:List Value):(enK xs).length=xs.length:=lI0 ..
theorem a6r {xs:List Value}{i:Nat}{v:Value}(h:xs[i]? =some v):(enK xs)[i]? =some (.inl (i:Nat),v):=by
 unfold enK;rw[gX0,h]
 rfl
theorem b3S {xs:List Value}{j:Nat}(h:j<(enK xs).length):(enK xs)[j].1=.inl (j:Nat):=by
 have hj:j<xs.length:=by rw[a4Q] at h;exact h
 have:=a6r (gE0 hj)
 rw[gE0 h] at this
 injection this with this
 rw[this]
section
variable {prog:Program}{w:World}{A:Around}{R:Result->Shared->Prop}
theorem a6i {h0:Heap}{d e it l:Addr}{items:Array Value}(hh:A.handled=none)(ht:h0.IsList l items)(lne:l≠it/\l≠d/\l≠e)(idne:it≠d)(ene:e≠it)(edne:e≠d)(hz:items.size<=1000) :
  ∀(m i:Nat) (tk:Tok) (s:Shared),i+m=items.size->a8b s.heap e it i->s.heap.IsListIter it l i->d<s.heap.objs.size->s.heap.DictOf (a0i prog w) d ((enK items.toList).take i)->(∀b o,b≠it->b≠d->b≠e->h0.get? b=some o->s.heap.get? b=some o) →
  (∀(h':Heap) (k:Nat),h'.DictOf (a0i prog w) d (enK items.toList)->(∀b o,b≠it->b≠d->b≠e->h0.get? b=some o->h'.get? b=some o)->R (.ok (.ret .none)) { s with heap:=h',toks:=k }) →
  codeAny (model prog w) A (.builtin "dict.update.loop" ⟨[.ref d,.ref e,.int i tk,.none],[]⟩) R s
 |0,i,tk,s,hi,hen,hit,hdl,hd,kp,hq=>by
  refine codeAny_builtin a1z ?_;unfold Builtin.«dict.update.loop»
  dsimp only
  obtain⟨o,ho,hc,n,hdt⟩:=id ht;refine wB0 (a5P (items:=items) hh hen hit ⟨o,kp l o lne.1 lne.2.1 lne.2.2 ho,hc,n,hdt⟩ (by rw[Array.getElem?_eq_none (by omega)]) fun h' ex=>?_)
  dsimp only
  refine wB0 (wP0 (wP0 ?_));have e:(enK items.toList).take i=enK items.toList:=List.take_of_length_le (by rw[a4Q,aL0];omega);rw[e] at hd;exact hq h' s.toks (hd.extBut ex idne.symm) fun b o hb1 hb2 hb3 q=>ex b o hb1 (kp b o hb1 hb2 hb3 q)
 |m+1,i,tk,s,hi,hen,hit,hdl,hd,kp,hq=>by
  refine codeAny_builtin a1z ?_;unfold Builtin.«dict.update.loop»
  dsimp only
  obtain⟨o,ho,hc,n,hdt⟩:=id ht;have hil:i<items.size:=by omega
  have ex:items[i]? =some items[i]:=Array.getElem?_eq_getElem hil;refine wB0 (a4D (items:=items) hen hit ⟨o,kp l o lne.1 lne.2.1 lne.2.2 ho,hc,n,hdt⟩ ex ene fun h1 en1 it1 ht1 hsz1 kp1=>?_)
  dsimp only
  have hd1:h1.DictOf (a0i prog w) d ((enK items.toList).take i):=by
   obtain⟨od,es,ep,g,r⟩:=hd;exact⟨od,es,ep,kp1 d od edne.symm idne.symm g,r⟩
  refine wB0 (wpAny_holding (wB0 (wpAny_tryCatch ?_)));unfold Dict.pairItems;refine wB0 (wpAny_typeOf (T:="tuple") ⟨_,ht1,rfl⟩ ?_);rw[if_pos (by decide)];refine wB0 (wpAny_seqItems ht1 rfl (wP0 ?_));show wpAny _ _ (holding [.int i s.toks,items[i]] (dictSet d (.int i s.toks) items[i])) _ _ _;refine wpAny_holding (wpAny_dictSet_pairs (knd:=a0i prog w) (k:=.inl (i:Nat)) (show(a0i prog w).is (.inl ((i:Nat):Int)) (.int i s.toks)=true from a1L i s.toks) hd1 (fun h2 hd2 sb2=>?_) (by rw[lT0,a4Q,aL0,sizeLine_eq];omega));refine wP0 ⟨Code.quiet_builtin _ (by decide +kernel),?_⟩;have es:stored ((enK items.toList).take i) (.inl (i:Nat)) items[i]=(enK items.toList).take (i+1):=by
   have no:(((enK items.toList).take i).any fun kv=>decide (kv.1=.inl (i:Nat)))=false:=by
    rw[List.any_eq_false];intro kv hkv;rw[decide_eq_true_iff];intro ek;obtain⟨j,hj,ej⟩:=List.mem_take_iff_getElem.mp hkv;have hj2:j<(enK items.toList).length:=by omega
    have:=b3S hj2
    rw[ej,ek] at this
    injection this with this
    omega
   unfold stored;rw[if_neg (by rw[no];decide),List.take_add_one,a6r (show items.toList[i]? =some items[i] by rw[Array.getElem?_toList];exact ex)]
   rfl
  rw[es] at hd2;have en2:a8b h2 e it ((i:Int)+1):=by
   obtain⟨f0,f1,item,g,al⟩:=en1;refine⟨f0,f1,item,(sb2.2 e edne).trans g,?_⟩;rcases al with al |⟨a,oa,b,q1,q2,q3,q4,q5⟩
   ·exact .inl al
   ·by_cases had:a=d
    ·subst had
     obtain⟨od,es',ep,g',_⟩:=id hd2;exact .inr ⟨a,od,b,q1,q2,q3,q4,g'⟩
    ·exact .inr ⟨a,oa,b,q1,q2,q3,q4,(sb2.2 a had).trans q5⟩
  have en3:a8b h2 e it ((i+1:Nat):Int):=by
   rw[show((i+1:Nat):Int)=(i:Int)+1 by omega];exact en2
  have it2:h2.IsListIter it l (i+1):=by
   obtain⟨oi,g1,g2⟩:=it1;exact⟨oi,(sb2.2 it idne).trans g1,g2⟩
  have hdl2:d<h2.objs.size:=by
   rw[sb2.1];show d<h1.objs.size;rw[hsz1];exact Nat.lt_succ_of_lt hdl
  exact a6i hh ht lne idne ene edne hz m (i+1) _ _ (by omega) en3 it2 hdl2 hd2 (fun b o hb1 hb2 hb3 q=>(sb2.2 b hb2).trans (kp1 b o hb3 hb1 (kp b o hb1 hb2 hb3 q))) fun h' k' x y=>hq h' k' x y
end
def enV (xs:List V):List (Key×V):=xs.mapIdx fun i v=>(.inl (i:Nat),v)
def b6E (K:Fg0)(tl:TE):TE:=fun σ H Q=>tl σ H fun x H1=>∃a xs,[x]=[V.ref a]/\SqL K H1 a xs/\xs.length<=1000/\∀p,H1 p=none->Q (.ref p) (upd H1 p (.dK (enV xs)))
section
variable {X:Cx}
theorem a6J {l:Expr}{tl:TE}{p1 p2 pos1 pos2:Pos}(hc:X.calm=true)(hgL:Gl X "dict")(hmL:X.mg "dict"=none)(hgR:Gl X "enumerate")(hmR:X.mg "enumerate"=none)(hl:PE X l tl)
  (hs:starEach [l] X.env=[(false,eval l X.env)]:=by rfl) (hs2:starEach [Expr.Call (.Name "enumerate" p2) [l] [] pos2] X.env=[(false,eval (.Call (.Name "enumerate" p2) [l] [] pos2) X.env)]:=by rfl) :
  PE X (.Call (.Name "dict" p1) [.Call (.Name "enumerate" p2) [l] [] pos2] [] pos1) (b6E X.K tl):=by
 intro Z s σ H Q I h;refine wpAny_Call_Name_kw (a3P I hgL hmL boot_dict ?_);refine PyProof.Rows.callWith_type1 ?_ hs2 rfl;rw[hs2];show wpAny _ _ (spliced ((false,eval (.Call (.Name "enumerate" p2) [l] [] pos2) X.env)::backTo pos1 [])) _ _ s;refine Calls.spliced_cons ?_;refine Call_ (a3P I hgR hmR boot_enum (PyProof.Rows.callWith_type1 (thn ((a0a hl a0e hs) pos2 Z s σ H (fun vs H1=>∃a xs,vs=[V.ref a]/\SqL X.K H1 a xs/\xs.length<=1000/\∀p,H1 p=none->Q (.ref p) (upd H1 p (.dK (enV xs)))) I h) fun us s1 ⟨vs,H1,I1,r1,q1⟩=>?_) hs rfl));obtain⟨a,xs,e,hq,hx1000,q⟩:=q1;subst e;obtain⟨u,rfl,rx⟩:=a1Z r1;cases rx;obtain⟨its,rv,pl,hz⟩:=I1.list hq;have hl':=rv.length;have hlt:a<s1.heap.objs.size:=by obtain⟨_,e,_⟩:=pl.isList;exact hL0 e
 refine call_enumerate_list pl.isList fun h1 he hi hsz hk=>Calls.spliced_nil ?_;have hh:=I.ok.hd hc;have I2:Inv X Z σ H1 { s1 with heap:=h1 }:=I1.kept (t':=s1.toks) hk;have hl1:h1.IsList a its.toArray:=pl.isList.at fun o e=>hk a o e;have ene:s1.heap.objs.size+1≠s1.heap.objs.size:=Nat.succ_ne_self _;generalize hD:h1.objs.size=d at *;refine callType_codes (Q₁:=fun obj s₁=>obj=.ref h1.objs.size/\s₁={ s1 with heap:=h1.push { cls:=.type "dict",data:=.dict #[] } }) F.kt_called_dict (F.kt_typeCall_dict_1 _) F.entry_dict_init (kt_code_dict_new _ ⟨rfl,rfl⟩) ?_;rintro obj s₁ ⟨rfl,rfl⟩;rw[hD];have hnew:(h1.push { cls:=.type "dict",data:=.dict #[] }).DictOf (a0i X.prog X.w) h1.objs.size []:=Heap.DictOf.new h1;rw[hD] at hnew;have k2:∀b o,h1.get? b=some o->(h1.push { cls:=.type "dict",data:=.dict #[] }).get? b=some o:=fun b o e=>hP0 _ e;generalize h1.push { cls:=.type "dict",data:=.dict #[] }=h2 at *;refine⟨hnew.typeIs,F.args_dict_init_2 _ _,?_⟩;unfold Builtin.«dict.__init__»;refine wB0 ?_;unfold Builtin.Dict.selfAndRest;refine wB0 (wpAny_notOrdered_dict hnew.typeIs ?_);show wpAny _ _ (pure (d,[Value.ref (s1.heap.objs.size+1)])) _ _ _;refine wP0 ?_;show wpAny _ _ (Builtin.Dict.updateFrom "dict.__init__" d (.ref (s1.heap.objs.size+1)) [] .none) _ _ _;unfold Builtin.Dict.updateFrom;have he2:=k2 _ _ he;refine wB0 (wpAny_typeOf (T:="enumerate") ⟨_,he2,rfl⟩ ?_);rw[if_pos (by decide)];refine wB0 (a7R he2 hh fun h3 tk3 kp3=>?_);rw[if_pos (show(none:Option Value).isNone=true from rfl)];have kp:∀b ob,h1.get? b=some ob->h3.get? b=some ob:=fun b ob e=>kp3 b ob (k2 b ob e);have dd3:h3.DictOf (a0i X.prog X.w) d []:=by
  obtain⟨od,es,ep,gg,rr⟩:=hnew;exact⟨od,es,ep,kp3 _ _ gg,rr⟩
 have hdlt:d<h3.objs.size:=by
  obtain⟨od,es,ep,gg,rr⟩:=dd3;exact hL0 gg
 have he3:=kp _ _ he;refine wB0 (wpAny_rule ?_);refine wB0 (wpAny_pyIter_enum he3 ?_);refine wP0 ⟨Code.quiet_builtin _ (by decide +kernel),?_⟩;have hsd:s1.heap.objs.size<d:=by omega
 have ed:s1.heap.objs.size+1≠d:=by omega
 have id_:s1.heap.objs.size≠d:=by omega
 refine a6i (A:=X.A.in1) (items:=its.toArray) (h0:=h3) (l:=a) (d:=d) (e:=s1.heap.objs.size+1) (it:=s1.heap.objs.size) hh (hl1.at fun o e=>kp a o e) ⟨nL0 hlt,nL0 (Nat.lt_trans hlt hsd),nL0 (Nat.lt_succ_of_lt hlt)⟩ id_ ene ed (by rw[List.size_toArray];omega) its.toArray.size 0 _ { s1 with heap:=h3,toks:=tk3 } (by omega) ⟨_,_,_,he3,.inl ⟨rfl,rfl⟩⟩ (hi.at fun o e=>kp _ o e) hdlt dd3 (fun b o _ _ _ e=>e) fun h4 tk4 dd4 kp4=>?_;refine⟨rfl,?_⟩;have nl:∀b,s1.heap.objs.size<=b->H1 b=none:=fun b hb=>I1.hok.fresh hb;have I3:Inv X Z σ H1 { s1 with heap:=h4,toks:=tk4 }:=Inv.turnedL (s:={ s1 with heap:=h1 }) (t':=tk4) (h':=h4) (ch:=[s1.heap.objs.size+1,s1.heap.objs.size]) I2 (fun b o hb e=>by
  simp only[mK0,List.not_mem_nil,or_false,not_or] at hb;exact kp4 b o hb.2 (fun z=>absurd (hL0 e) (by rw[z];show ¬d<h1.objs.size;rw[hD];exact Nat.lt_irrefl _)) hb.1 (kp b o e)) (fun b hb=>by
  have nb:s1.heap.objs.size<=b:=by
   rcases mK0.mp hb with z |z
   ·rw[z];exact Nat.le_succ _
   ·rw[mS0.mp z];exact nR0 _
  exact I1.fpOk nb (I1.hok.fresh nb))
 have rel:KV (enV xs) (enK its):=b4P (by unfold enV;rw[a4Q,lI0];omega) fun j k v e=>by
  unfold enV at e;rw[gX0] at e;cases hj:xs[j]? with
  |none=>rw[hj] at e;cases e
  |some y=>
   rw[hj] at e;cases e;obtain⟨u,hu,ru⟩:=rv.get hj;exact⟨u,a6r hu,ru⟩
 have dd5:h4.DictOf (a0i X.prog X.w) d (enK its):=by simpa using dd4
 refine⟨.ref d,_,I3.track (o:=.dK (enV xs)) (I2.our (by show h1.objs.size<=d;omega)) (a3z (by unfold enV;rw[lI0,sizeLine_eq];omega) (beq_eq_false_iff_ne.mpr (Ne.symm (nL0 (Nat.lt_trans I1.big hsd)))) rel dd5),rfl,q d (nl d (by omega))⟩
end
end L2
namespace L2
open PySem PySem.Spec PyProof.Rows
theorem a2F:entryFor table "dict_valueiterator.__iter__"=some Builtin.«dict_keyiterator.__iter__»:=
 entryFor_alias (id':="dict_keyiterator.__iter__") (by kernel_rfl) rfl (by decide +kernel) (by kernel_rfl)
theorem a5U {prog:Program}{w:World}{A:Around}{E:Vs0}{s:Shared}{it d:Addr}{i n ep:Nat}{Q:Vs0}(hit:s.heap.IsValIter it d i n ep)(h:Q (.ref it) s):wpAny (model prog w) A (pyIter (.ref it)) Q E s:=by
 have hT:=hit.typeIs;refine wpAny_pyIter_slot hT F.slot_dict_valueiterator_iter (wpAny_call_entry F.slot_dict_valueiterator_iter hT a2F ?_ (F.args_dict_valueiterator_iter_1 _));show wpAny _ _ (ret (.ref it)) _ _ s;exact wP0 ⟨_,rfl,"dict_valueiterator",_,hT,F.slot_dict_valueiterator_next.lookup,h⟩
theorem Heap.IsValIter.at' {h h':Heap}{it d:Addr}{i n ep:Nat}(x:h.IsValIter it d i n ep)(e:∀o,h.get? it=some o->h'.get? it=some o):h'.IsValIter it d i n ep:=let ⟨o,ho,r⟩:=x;⟨o,e _ ho,r⟩
def Itw (a:Addr)(o:Obj)(kvs:List (Key×V)):It:=
 ⟨fun i H=>i<kvs.length/\H a=some (.frz o (.dK kvs)),fun i H x H'=>H'=H/\∃k,kvs[i]? =some (k,x),fun i H=>kvs.length<=i/\H a=some (.frz o (.dK kvs))⟩
section
variable {X:Cx}
theorem a6E {P:Program}{w:World}{K:Fg0}{tg:Expr}(a it:Addr)(o:Obj)(kvs:List (Key×V)):b1S P w K tg (Itw a o kvs) [it] it (fun i h=>h.IsValIter it a i kvs.length (b1o o)) where
 mem:=by simp
 obj:=fun i h st b hb=>by
  have e:b=it:=by simpa using hb
  subst e;obtain⟨o,e,c,d⟩:=st;exact⟨o,e,fun v z=>by rw[d] at z;cases z⟩
 keep:=fun i h h' st k=>Heap.IsValIter.at' st fun o e=>k it (by simp) o e
 item:=by
  intro X hP hw hK hc i Z s σ H E I hf st hg;subst hP hw hK;obtain⟨hi,hq⟩:=hg;obtain⟨vs,kv,da,_⟩:=I.dictAt hq;have hl:=kv.len;obtain⟨u,hu,ru⟩:=a6f kv (show kvs[i]? =some (kvs[i].1,kvs[i].2) by simp[hi]);obtain⟨f0,f1,f2,f3,f4,f5⟩:=hf it (by simp);rw[hl] at st;refine wpAny_pyNext_values_item st da hu fun h' st' sb=>?_;rw[<-hl] at st';have I1:Inv X Z σ H { s with heap:=h' }:=I.turned (t':=s.toks) (fun b o hb e=>(sb.2 b hb).trans e) f0 f1 f3 f4 f5;obtain⟨oi,e,c,d⟩:=id st';exact⟨u,rfl,a9P (s:={ s with heap:=h' }) e c d (by decide) ⟨kvs[i].2,H,I1,ru,⟨rfl,kvs[i].1,by simp[hi]⟩,st',fun b hb=>(hf b hb).1⟩⟩
 done:=by
  intro X hP hw hK hc i Z s σ H E I hf st hg;subst hP hw hK;obtain⟨hi,hq⟩:=hg;obtain⟨vs,kv,da,_⟩:=I.dictAt hq;have hl:=kv.len;obtain⟨f0,f1,f2,f3,f4,f5⟩:=hf it (by simp);rw[hl] at st;exact wpAny_pyNext_values_end (I.ok.hd hc) st da (by simp;omega) fun h' eb=>⟨rfl,I.turned (t':=s.toks) (fun b o hb e=>eb b o hb e) f0 f1 f3 f4 f5⟩
 self:=fun _ _ _ _ _ st h=>a5U st h
def b5f (tl:TE):TI:=fun σ H R=>tl σ H fun x H1=>∃a o kvs,x=.ref a/\H1 a=some (.frz o (.dK kvs))/\R (Itw a o kvs) H1
theorem a9f {tg l:Expr}{tl:TE}{apos cpos:Pos}(hl:PE X l tl)(hbase:attributeBase l "values" X.env (eval l X.env)=eval l X.env:=by rfl)(hline:(apos.endLine==cpos.line)=true:=by rfl) :
  PI X tg (.Call (.Attribute l "values" apos) [] [] cpos) (b5f tl):=by
 intro Z s σ H R I h;refine wpAny_Call_method0_late hbase hline (thn (hl Z s σ H _ I h) fun v s1 ⟨x,H1,I1,r1,q1⟩=>?_);obtain⟨a,o,kvs,e,hq,q⟩:=q1;subst e;cases r1;obtain⟨vs,kv,da,hs⟩:=I1.dictAt hq;obtain⟨g,_⟩:=I1.hok a _ hq;have ex:o.ExactDict:=by
  obtain⟨o',es',g',x',_⟩:=id da;rw[g] at g';cases g';exact x'
 refine⟨"dict","dict.values",F.plainAttrs_dict,F.slot_dict_values,F.type_dict_values,da.dictOf.typeIs,(fun b e=>by cases e;exact⟨o,g,ex.2.1⟩),Calls.callWith_builtin rfl (PySem.evalArgs_none ?_)⟩;refine call_meetsIn F.slot_dict_values da.dictOf.typeIs F.entry_dict_values (F.args_dict_values_1 _) (meets_dict_values (a0i X.prog X.w) a hs) ⟨⟨vs,da.dictOf⟩,?_⟩;have I2:Inv X Z σ H1 { s1 with heap:=s1.heap.push { cls:=.type "dict_values",data:=.fields #[.ref a] } }:=I1.kept (t':=s1.toks) fun b o e=>hP0 _ e;refine wpAny_pyIter_values (s:={ s1 with heap:=s1.heap.push { cls:=.type "dict_values",data:=.fields #[.ref a] } }) (knd:=a0i X.prog X.w) (kvs:=vs) (ep:=b1o o) ⟨_,hS0 _ rfl,rfl,rfl⟩ (da.push _) ?_;refine⟨_,[_],_,_,H1,rfl,I2.kept (t':=s1.toks) fun b o e=>hP0 _ e,a6E a _ o kvs,⟨_,hS0 _ rfl,rfl,by rw[kv.len];rfl⟩,fun b hb=>?_,q⟩;have e:=mS0.mp hb;subst e;exact I2.fpOk (nR0 _) (I2.hok.fresh (nR0 _))
end
theorem b3h {X:Cx}{e:Expr}:PE X e (fun _ _ _=>False):=fun _ _ _ _ _ _ h=>h.elim
end L2
namespace My
open PySem L2 PyProof.Rows
seal L2.PE L2.PT L2.PW L2.PS L2.PSs L2.PA L2.PI L2.PG L2.PGs L2.OpR L2.UnR L2.a1r L2.IxR L2.SlR L2.MtR L2.PIf L2.PO L2.MtM L2.PC
def PlV (H:Hp)(a:Addr)(v:V):Prop:=(H a=some (.tup [.str "whole"])/\∃i:Int,v=.int i)\/(H a=some (.tup [.str "word"])/\∃z:Str,v=.str z)
theorem PlV.same {H H':Hp}{a:Addr}{v:V}(h:PlV H a v)(s:a0k H H'):PlV H' a v:=h.elim (fun⟨a,b⟩=>.inl ⟨s _ _ a,b⟩) fun⟨a,b⟩=>.inr ⟨s _ _ a,b⟩
def b5j (H:Hp)(a:Addr)(v:V):Prop:=(H a=some (.tup [.str "whole"])/\∃i:Int,v=.int i)\/∃w,H a=some (.tup [.str "once",.ref w])/\PlV H w v
theorem b5j.same {H H':Hp}{a:Addr}{v:V}(h:b5j H a v)(s:a0k H H'):b5j H' a v:=h.elim (fun⟨a,b⟩=>.inl ⟨s _ _ a,b⟩) fun⟨w,a,b⟩=>.inr ⟨w,s _ _ a,b.same s⟩
def b8j:Sp:=fun vs H Q _=>∃(a:Addr) (x:V),vs=[.ref a,x]/\PlV H a x/\∀H',a0k H H'->Q (.bl true) H'
def b6I:Sp:=fun vs H Q _=>∃(a:Addr) (x:V) (sz:Int),vs=[.ref a,x,.int sz]/\b5j H a x/\∀H',a0k H H'->Q (.bl true) H'
section
variable {P:Program}{w:World}{K:Fg0}{mg:Str->Option Value}{base:Heap}
theorem a4X {f:Addr}{fd:FuncData}(F:Fun K "is_whole" "is_whole" (top 12) f fd)(B:Bl mg):a0A P w K mg base CX0 1 f fd ["thing"] (a5a K):=by
 have sc:a0o ["thing"] ["thing"] (a0g (top 12)):=.k (by decide +kernel);refine F.ok sc (fun vs H Q E h=>?_) (fun cdv A outer s H vs Q E hr h=>?_)
 ·obtain⟨x,n,rfl,_⟩:=h
  rfl
 ·obtain⟨x,n,rfl,hx,q⟩:=h
  refine⟨_,a0h (a0F (b3q (a0D a3o (by rfl) B.isi boot_isi (a0a (pv 0) (a0a (a5c (v:=.ty "int") (by rfl) B.int boot_int rfl) a0e)))
   (a7a (b5l (a0D a3o (by rfl) B.isi boot_isi (a0a (pv 0) (a0a (a5c (v:=.ty "bool") (by rfl) B.bool boot_bool rfl) a0e))))))),?_⟩
  refine⟨_,rfl,_,_,_,_,rfl,hx.1,a5E.trans (b4M _ hx.2),_,rfl,?_⟩
  by_cases h1:n="int"
  ·subst h1
   exact a6m ⟨_,rfl,_,_,_,_,rfl,hx.1,a5E.trans (a7s _ hx.2),_,rfl,q⟩
  ·have e1:(n=="int")=false:=beq_eq_false_iff_ne.mpr h1
   rw[e1] at q
   by_cases h2:n="bool"
   ·subst h2
    exact a6m ⟨_,rfl,_,_,_,_,rfl,hx.1,a5E.trans (a7s _ hx.2),_,rfl,q⟩
   ·have e2:(n=="int" || n=="bool")=false:=by rw[e1,beq_eq_false_iff_ne.mpr h2];rfl
    rw[e2];exact a1R q
theorem b7E {f fW:Addr}{fd fdW:FuncData}(F:Fun K "fits_plain" "fits_plain" (top 15) f fd)(B:Bl mg)(DW:Df K mg "is_whole" (top 12) fW fdW):a0A P w K mg base CX0 2 f fd ["kind","value"] b8j:=by
 have sc:a0o ["kind","value"] ["kind","value"] (a0g (top 15)):=.k (by decide +kernel);have GW:a0A P w K mg base CX0 1 fW fdW ["thing"] (a5a K):=a4X DW.fn B;have bW:=DW.fn.b1 "thing" (by intros;rfl);refine F.ok sc (fun vs H Q E h=>?_) (fun cdv A outer s H vs Q E hr h=>?_)
 ·obtain⟨a,x,rfl,_⟩:=h
  rfl
 ·obtain⟨a,x,rfl,hx,q⟩:=h
  refine⟨_,a0b (a0P (a0q a1W (a0t a0N (pv 0) a0f (fun _ _=>rfl)) (a0H (a0a a0x (a0a a0x a0e))) (by with_unfolding_all rfl)) (a0h (a0F (b3q (a0D a3o (by rfl) B.isi boot_isi (a0a (pv 1) (a0a (a5c (v:=.ty "str") (by rfl) B.str boot_str rfl) a0e))) (a7a (b6v (a6y a1V (a0t a0N (pv 0) a0f (fun _ _=>rfl)) a0x (a0G _)) (a7a b3h)))))) a0s)
   (a0b (a0P (a3e (a2W (a0l GW hr (by rfl) DW.mg DW.fn.kp bW .nil a0E (a0a (pv 1) a0e)))) a0u a0s)
   (a0b (a0P (a0q a1V (a0t a0N (pv 0) a0f (fun _ _=>rfl)) a0x (a0G _)) a0u a0s)
   (a0h (a0F (b6v (a6y a1V (a0t a0N (pv 0) a0f (fun _ _=>rfl)) a0x (a0G _)) (a7a b3h)))))),?_⟩
  rcases hx with ⟨ha,i,rfl⟩ |⟨ha,z,rfl⟩
  ·refine⟨_,rfl,a,_,0,_,rfl,rfl,SqT.of ha,rfl,(by show 2<=sizeLine;decide),fun p hp=>?_⟩
   generalize hX:upd H p _=H1;obtain⟨sm,ep⟩:=gz hX hp;have ha1:=sm _ _ ha;refine⟨p,_,rfl,.inr (SqT.of ep),rfl,rfl,_,rfl,a2H (by decide +kernel) ?_⟩;refine⟨_,rfl,.int i,"int",rfl,Is.int,_,rfl,a1R ?_⟩;refine⟨_,rfl,a,_,0,_,rfl,rfl,SqT.of ha1,rfl,rfl,_,rfl,a2H (by decide +kernel) ?_⟩;exact⟨_,rfl,a,_,0,_,rfl,rfl,SqT.of ha1,rfl,rfl,_,rfl,a6n (by decide +kernel) (q H1 sm)⟩
  ·refine⟨_,rfl,a,_,0,_,rfl,rfl,SqT.of ha,rfl,(by show 2<=sizeLine;decide),fun p hp=>?_⟩
   generalize hX:upd H p _=H1;obtain⟨sm,ep⟩:=gz hX hp;have ha1:=sm _ _ ha;refine⟨p,_,rfl,.inr (SqT.of ep),rfl,rfl,_,rfl,a6n (by decide +kernel) ?_⟩;refine⟨_,rfl,_,_,_,_,rfl,Is.str.1,a5E.trans (b4C _ (Is.str (K:=K) (H:=H1) (x:=z)).2),_,rfl,a6m ?_⟩;exact⟨_,rfl,a,_,0,_,rfl,rfl,SqT.of ha1,rfl,rfl,_,rfl,a6n (by decide +kernel) (q H1 sm)⟩
theorem b3X {f fP fW:Addr}{fd fdP fdW:FuncData}(F:Fun K "fits" "fits" (top 13) f fd)(B:Bl mg)(DW:Df K mg "is_whole" (top 12) fW fdW)(DP:Df K mg "fits_plain" (top 15) fP fdP):a0A P w K mg base CX0 3 f fd ["kind","value","size"] b6I:=by
 have sc:a0o ["kind","value","size","sort"] ["kind","value","size"] (a0g (top 13)):=.k (by decide +kernel);have GP:a0A P w K mg base CX0 2 fP fdP ["kind","value"] b8j:=b7E DP.fn B DW;have bP:=DP.fn.b2 "kind" "value" (by intros;rfl);have GW:a0A P w K mg base CX0 1 fW fdW ["thing"] (a5a K):=a4X DW.fn B;have bW:=DW.fn.b1 "thing" (by intros;rfl);refine F.ok sc (fun vs H Q E h=>?_) (fun cdv A outer s H vs Q E hr h=>?_)
 ·obtain⟨a,x,sz,rfl,_⟩:=h
  rfl
 ·obtain⟨a,x,sz,rfl,hx,q⟩:=h
  have hr1:a1u 1 _:=hr.mono (by decide);refine⟨_,a0b (a0n (i:=3) sc.nd rfl (Or.inl rfl) (a0t a0N (pv 0) a0f (fun _ _=>rfl)))
   (a0b (a0P (a0q a1V (pv 3) a0x (a0G _)) a0u a0s)
   (a0b (a0P (a0q a1V (pv 3) a0x (a0G _)) (a0h (a0F (a0l GP hr (by rfl) DP.mg DP.fn.kp bP .nil a0E (a0a (a0t a0N (pv 0) a0f (fun _ _=>rfl)) (a0a (pv 1) a0e))))) a0s)
   (a0b (a0P (a0q a1W (pv 3) (a0H (a0a a0x (a0a a0x a0e))) (by with_unfolding_all rfl)) a0u a0s)
   (a0h (a0F (a0l GP hr (by rfl) DP.mg DP.fn.kp bP .nil a0E (a0a (pv 0) (a0a (pv 1) a0e)))))))),?_⟩
  rcases hx with ⟨ha,i,rfl⟩ |⟨w',ha,hp⟩
  ·refine⟨_,rfl,a,_,0,_,rfl,rfl,SqT.of ha,rfl,?_⟩
   refine⟨_,rfl,rfl,_,rfl,a2H (by decide +kernel) ?_⟩;refine⟨_,rfl,rfl,_,rfl,a2H (by decide +kernel) ?_⟩;refine⟨_,rfl,(by show 2<=sizeLine;decide),fun p hp=>?_⟩;generalize hX:upd H p _=H1;obtain⟨sm,ep⟩:=gz hX hp;refine⟨p,_,rfl,.inr (SqT.of ep),rfl,rfl,_,rfl,a2H (by decide +kernel) ?_⟩;exact⟨_,rfl,_,rfl,a,.int i,rfl,.inl ⟨sm _ _ ha,i,rfl⟩,fun H' s'=>q H' (sm.trans s')⟩
  ·refine⟨_,rfl,a,_,0,_,rfl,rfl,SqT.of ha,rfl,?_⟩
   refine⟨_,rfl,rfl,_,rfl,a2H (by decide +kernel) ?_⟩;refine⟨_,rfl,rfl,_,rfl,a6n (by decide +kernel) ?_⟩;exact⟨_,rfl,a,_,1,_,rfl,rfl,SqT.of ha,rfl,_,rfl,w',x,rfl,hp,fun H' s'=>q H' s'⟩
def a4K:Sp:=fun vs H Q _=>∃(f:Addr) (sz:Int) (Ts:List Tb) (T:Tb),vs=[.ref f,.str T.name]/\a2d H f sz Ts/\(Ts.map (·.name)).Nodup/\T∈Ts/\Q (.str T.sort) H
def b5i (H:Hp)(sz:Int)(T:Tb)(r:Addr):Prop:=∃kvs:List (Key×V),H r=some (.dK kvs)/\kvs.length<=1000/\a4a (kvs.map (·.1)) ((kvC T.cols).map (·.1))=true/\∀c∈T.cols,∃v,a1k kvs (.inr c.1)=some v/\b5j H c.2 v
theorem b5i.same {H H':Hp}{sz:Int}{T:Tb}{r:Addr}(h:b5i H sz T r)(s:a0k H H'):b5i H' sz T r:=by
 obtain⟨kvs,h1,h2,h3,h4⟩:=h;refine⟨kvs,s _ _ h1,h2,h3,fun c hc=>?_⟩;obtain⟨v,a,b⟩:=h4 c hc;exact⟨v,a,b.same s⟩
def a9E:Sp:=fun vs H Q _=>∃(f:Addr) (sz:Int) (Ts:List Tb) (T:Tb) (r:Addr),vs=[.ref f,.str T.name,.ref r]/\a2d H f sz Ts/\(Ts.map (·.name)).Nodup/\T∈Ts/\(T.cols.map (·.1)).Nodup/\T.cols.length<=12/\Ts.length<=8/\b5i H sz T r/\∀H',a0k H H'->Q (.bl true) H'
theorem a6b {f fT:Addr}{fd fdT:FuncData}(F:Fun K "sort_of" "sort_of" (top 20) f fd)(DT:Df K mg "table_in" (top 22) fT fdT):a0A P w K mg base CX0 2 f fd ["form","table"] a4K:=by
 have sc:a0o ["form","table"] ["form","table"] (a0g (top 20)):=.k (by decide +kernel);have GT:a0A P w K mg base CX0 1 fT fdT ["form","table"] a6F:=a7B DT.fn;have bT:=DT.fn.b2 "form" "table" (by intros;rfl);refine F.ok sc (fun vs H Q E h=>?_) (fun cdv A outer s H vs Q E hr h=>?_)
 ·obtain⟨f,sz,Ts,T,rfl,_⟩:=h
  rfl
 ·obtain⟨f,sz,Ts,T,rfl,hf,nd,hT,q⟩:=h
  refine⟨_,a0h (a0F (a0t a0N (a0l GT hr (by rfl) DT.mg DT.fn.kp bT .nil a0E (a0a (pv 0) (a0a (pv 1) a0e))) a0f (fun _ _=>rfl))),?_⟩;refine⟨_,rfl,_,rfl,f,sz,Ts,T,rfl,hf,nd,hT,fun e he=>?_⟩;obtain⟨ct,g1,_⟩:=he;exact⟨_,_,1,_,rfl,rfl,SqT.of g1,rfl,q⟩
theorem b1k {f fT fC fI fF fP fW:Addr}{fd fdT fdC fdI fdF fdP fdW:FuncData}(F:Fun K "is_row" "is_row" (top 23) f fd)(B:Bl mg)(DT:Df K mg "tables_of" (top 18) fT fdT)(DC:Df K mg "columns_of" (top 21) fC fdC)(DI:Df K mg "table_in" (top 22) fI fdI)(DW:Df K mg "is_whole" (top 12) fW fdW)(DP:Df K mg "fits_plain" (top 15) fP fdP)(DF:Df K mg "fits" (top 13) fF fdF) :
  a0A P w K mg base CX0 4 f fd ["form","table","row"] a9E:=by
 have sc:a0o ["form","table","row","columns"] ["form","table","row"] (a0g (top 23)):=.k (by decide +kernel);have GT:a0A P w K mg base CX0 1 fT fdT ["form"] a3M:=a2M DT.fn;have bT:=DT.fn.b1 "form" (by intros;rfl);have GC:a0A P w K mg base CX0 2 fC fdC ["form","table"] a4W:=a5X DC.fn B DI;have bC:=DC.fn.b2 "form" "table" (by intros;rfl);have GF:a0A P w K mg base CX0 3 fF fdF ["kind","value","size"] b6I:=b3X DF.fn B DW DP;have bF:=DF.fn.b3 "kind" "value" "size" (by intros;rfl);refine F.ok sc (fun vs H Q E h=>?_) (fun cdv A outer s H vs Q E hr h=>?_)
 ·obtain⟨f,sz,Ts,T,r,rfl,_⟩:=h
  rfl
 ·obtain⟨fo,sz,Ts,T,r,rfl,hf,nd,hT,ndc,c12,t8,⟨kvs,hr0,hlen,hs,hfz⟩,q⟩:=h
  have hr1:a1u 1 _:=hr.mono (by decide);have hr2:a1u 2 _:=hr.mono (by decide);have hu:=a1T hr;have hu0:(A.deeper (envOfC "is_row" (a0g (top 23)) s.heap.objs.size f cdv)).units<cLine:=by omega
  have ndA:(["column","kind","row","form"]:List Str).Nodup:=by decide +kernel
  refine⟨_,a0b (a0P (PW.pt (a9N (a0q a2g (pv 1) (a0l GT hr1 (by rfl) DT.mg DT.fn.kp bT .nil a0E (a0a (pv 0) a0e)) (by with_unfolding_all rfl)) (a5Z (a3e (a2W (a0D a3o (by rfl) B.isi boot_isi (a0a (pv 2) (a0a (a5c (v:=.ty "dict") (by rfl) B.dict boot_dict rfl) a0e)))))))) (a0h (a0F b0u)) a0s)
   (a0b (a0n (i:=3) sc.nd rfl (Or.inl rfl) (a0l GC hr2 (by rfl) DC.mg DC.fn.kp bC .nil a0E (a0a (pv 0) (a0a (pv 1) a0e))))
   (a0b (a0P (a0q (b5x hu0) (a0Z a5J (by rfl) B.set boot_set (a0a (pv 2) a0e)) (a0Z a5J (by rfl) B.set boot_set (a0a (pv 3) a0e)) (a0G _)) (a0h (a0F b0u)) a0s)
   (a0h (a4i (a0F (a0D (b0T rfl) (by rfl) B.all boot_all (a0a (a1K (osc:=a0g (top 23)) (N0:=["form","table","row","columns"]) (xs:=["column","kind"]) (fr:=[2,0]) ⟨rfl,by decide +kernel,by decide +kernel,by decide +kernel,(fun j hj=>by
       have e:j=2\/j=0:=by simpa using hj
       rcases e with rfl |rfl
       ·exact⟨_,rfl,by decide +kernel⟩
       ·exact⟨_,rfl,by decide +kernel⟩),by decide +kernel⟩ rfl rfl rfl (a3k (pv 3))
     (fun s H fp=>a8O (n:=2) (K:=K) rfl rfl (a0y (a0m (i:=0) ndA rfl (Or.inl rfl)) (a0y (a0m (i:=1) ndA rfl (Or.inl rfl)) a1D))) (fun s H fp=>a1I)
     (fun s H fp=>a0l GF hr (by rfl) DF.mg DF.fn.kp bF .nil a0E (a0a (pv 1) (a0a (a0L hu (pv 2) (pv 0) (fun _ _=>rfl)) (a0a (a0t (r:=b7b K) a0N (pv 3) a0f (fun _ _=>rfl)) a0e))))) a0e))))))),?_⟩
  have hTn:T.name∈Ts.map (·.name):=mM0.mpr ⟨T,hT,rfl⟩;refine⟨_,rfl,_,rfl,fo,sz,Ts,rfl,hf,t8,fun p H1 hp s1 p1=>?_⟩;refine⟨p,_,rfl,.inl (SqL.of p1),rfl,a3K _,_,rfl,?_⟩;refine a2H (by show(!inV _ _)=false;rw[a3L,dT0 hTn];rfl) ?_;refine⟨_,rfl,_,_,_,_,rfl,.dK (s1 _ _ hr0),a5E.trans (b1Y _ (by decide)),_,rfl,a1R ?_⟩;refine⟨_,rfl,_,rfl,fo,sz,Ts,T,rfl,hf.same s1,nd,hT,ndc,c12,fun cd H2 hcd s2 c2=>?_⟩;have S2:=s1.trans s2;refine⟨_,rfl,r,kvs,rfl,.inl (S2 _ _ hr0),hlen,fun q1 hq1=>?_⟩;generalize hX3:upd H2 q1 _=H3;have T3:a0k H2 H3:=hX3▸a0k.upd hq1;have e3:H3 q1=some (.ext (a8z P w q1 (kvs.map (·.1)))):=by rw[<-hX3];exact a0c
  have kl:(kvC T.cols).length=T.cols.length:=by unfold kvC;rw[lM0]
  refine⟨_,rfl,cd,_,rfl,.inl (T3 _ _ c2),(by omega),fun q2 hq2=>?_⟩;generalize hX4:upd H3 q2 _=H4;have T4:a0k H3 H4:=hX4▸a0k.upd hq2;have e4:H4 q2=some (.ext (a8z P w q2 ((kvC T.cols).map (·.1)))):=by rw[<-hX4];exact a0c
  have S4:=S2.trans (T3.trans T4);refine⟨q1,q2,_,_,rfl,rfl,T4 _ _ e3,e4,_,rfl,?_⟩;rw[hs];refine a1R ?_;have hcd0:H cd=none:=a0v s1 hcd;have c4:=(T3.trans T4) _ _ c2;refine⟨cd,_,c4,fun o=>?_⟩;have cf:(upd H4 cd (.frz o (.dK (kvC T.cols)))) cd=some (.frz o (.dK (kvC T.cols))):=a0c;have SF:a0k H (upd H4 cd (.frz o (.dK (kvC T.cols)))):=S4.put hcd0;generalize upd H4 cd (.frz o (.dK (kvC T.cols)))=HF at *;obtain⟨tt,es,f1,_⟩:=id hf;refine⟨_,rfl,cd,o,_,rfl,cf,fun D hD=>?_⟩;refine a1A T.cols.length (fun i ys σ' Hc=>(∃t0 t1,σ'=[t0,t1,some (.ref r),some (.ref fo)])/\a0k HF Hc/\ys=(T.cols.take i).map fun c=>V.bl true) (by rw[sizeLine_eq];omega) ⟨⟨none,none,rfl⟩,a0k.upd hD,rfl⟩ a0c ?_ ?_
  ·rintro i σ' Hc ys hi ⟨⟨t0,t1,rfl⟩,sm,rfl⟩ hyl hD'
   refine⟨⟨by omega,sm _ _ cf⟩,?_⟩;rintro x H' ⟨k,v,p,hk,rfl,hp',rfl⟩;unfold kvC at hk;rw[gM0,gE0 hi] at hk;cases hk;have T5:=a0k.upd (o:=.tup [kV (.inr T.cols[i].1),.ref T.cols[i].2]) hp';refine⟨p,_,rfl,SqT.of a0c,rfl,_,_,rfl,_,_,rfl,rfl,?_⟩;generalize upd Hc p (.tup [kV (.inr T.cols[i].1),.ref T.cols[i].2])=H5 at T5;have S5:=SF.trans (sm.trans T5);obtain⟨v,hv,hfit⟩:=hfz _ (gQ0 hi);refine⟨_,rfl,_,rfl,_,rfl,r,_,rfl,.inl ⟨kvs,.inr T.cols[i].1,.inl (S5 _ _ hr0),rfl,hv.symm⟩,_,rfl,fo,_,0,_,rfl,rfl,SqT.of (S5 _ _ f1),rfl,T.cols[i].2,v,sz,rfl,hfit.same S5,fun H6 s6=>?_⟩;have T6:=T5.trans s6;refine⟨T6 _ _ hD',⟨_,_,rfl⟩,(sm.trans T6).put hD,?_⟩;rw[tS0,gE0 hi,mA0]
   rfl
  ·rintro σ' Hc ys ⟨_,sm,rfl⟩ hDn hyl
   refine⟨⟨by omega,sm _ _ cf⟩,?_⟩;rw[List.take_length] at hDn;refine⟨D,T.cols.map fun _=>true,rfl,SqL.of (by rw[hDn,mC0];rfl),sm _ _ cf,?_⟩;have eb:(T.cols.map fun _=>true).all id=true:=by rw[List.all_map];exact List.all_eq_true.mpr fun _ _=>rfl
   rw[eb];exact q _ ((SF.trans sm).put hcd0)
def b2T:List Str:=["head","twin"]
structure Ln (K:Fg0) (mg:Str->Option Value) (sA:Addr):Prop where
 mS:mg "LONE_SORTS"=some (.ref sA)
 qS:∀H,SqT K H sA (b2T.map V.str)
structure b7D (Ts:List Tb):Prop where
 nd:(Ts.map (·.name)).Nodup
 le:Ts.length<=8
 cn:∀T∈Ts,(T.cols.map (·.1)).Nodup
 cl:∀T∈Ts,T.cols.length<=12
def a5S:Sp:=fun vs H Q _=>∃(f st:Addr) (sz:Int) (Ts:List Tb) (T:Tb) (vb:Str) (k p:Int) (rest:List V),vs=[.ref f,.ref st]/\a2d H f sz Ts/\b7D Ts/\H st=some (.tup (.str vb::.str T.name::.int k::.int p::rest))/\T∈Ts/\(0<=k/\k<sz/\0<=p)/\(p=0\/T.sort∉b2T) ∧
 (vb="cut"\/(vb≠"cut"/\∃r,rest=[.ref r]/\b5i H sz T r))/\∀H',a0k H H'->Q .non H'
theorem a7P {f fT fC fI fF fP fW fR fS sA:Addr}{fd fdT fdC fdI fdF fdP fdW fdR fdS:FuncData}(F:Fun K "ask_step" "ask_step" (top 27) f fd)(B:Bl mg)(LN:Ln K mg sA)(DT:Df K mg "tables_of" (top 18) fT fdT)(DC:Df K mg "columns_of" (top 21) fC fdC)(DI:Df K mg "table_in" (top 22) fI fdI)(DW:Df K mg "is_whole" (top 12) fW fdW)(DP:Df K mg "fits_plain" (top 15) fP fdP)(DF:Df K mg "fits" (top 13) fF fdF)
  (DR:Df K mg "is_row" (top 23) fR fdR) (DS:Df K mg "sort_of" (top 20) fS fdS):a0A P w K mg base CX0 5 f fd ["form","step"] a5S:=by
 have sc:a0o ["form","step","table","key","place"] ["form","step"] (a0g (top 27)):=.k (by decide +kernel);have GT:a0A P w K mg base CX0 1 fT fdT ["form"] a3M:=a2M DT.fn;have bT:=DT.fn.b1 "form" (by intros;rfl);have GW:a0A P w K mg base CX0 1 fW fdW ["thing"] (a5a K):=a4X DW.fn B;have bW:=DW.fn.b1 "thing" (by intros;rfl);have GS:a0A P w K mg base CX0 2 fS fdS ["form","table"] a4K:=a6b DS.fn DI;have bS:=DS.fn.b2 "form" "table" (by intros;rfl);have GR:a0A P w K mg base CX0 4 fR fdR ["form","table","row"] a9E:=b1k DR.fn B DT DC DI DW DP DF;have bR:=DR.fn.b3 "form" "table" "row" (by intros;rfl);refine F.ok sc (fun vs H Q E h=>?_) (fun cdv A outer s H vs Q E hr h=>?_)
 ·obtain⟨f,st,sz,Ts,T,vb,k,p,rest,rfl,_⟩:=h
  rfl
 ·obtain⟨fo,st,sz,Ts,T,vb,k,pl,rest,rfl,hf,hok,hst,hT,⟨k0,k1,p0⟩,hpl,hrow,q⟩:=h
  have hr1:a1u 1 _:=hr.mono (by decide);have hr2:a1u 2 _:=hr.mono (by decide);refine⟨_,a0b (a0n (i:=2) sc.nd rfl (Or.inl rfl) (a0t a0N (pv 1) a0f (fun _ _=>rfl)))
   (a0b (a0n (i:=3) sc.nd rfl (Or.inl rfl) (a0t a0N (pv 1) a0f (fun _ _=>rfl)))
   (a0b (a0n (i:=4) sc.nd rfl (Or.inl rfl) (a0t a0N (pv 1) a0f (fun _ _=>rfl)))
   (a0b (a0P (a0q a2g (pv 2) (a0l GT hr1 (by rfl) DT.mg DT.fn.kp bT .nil a0E (a0a (pv 0) a0e)) (by with_unfolding_all rfl)) a0u a0s)
   (a0b (a0P (PW.pt (a9N (a3e (a2W (a0l GW hr1 (by rfl) DW.mg DW.fn.kp bW .nil a0E (a0a (pv 3) a0e)))) (a5Z (a3e (b1c b7u a9n a0f (pv 3) (a0t a0N (pv 0) a0f (fun _ _=>rfl))))))) a0u a0s)
   (a0b (a0P (PW.pt (a9N (a3e (a2W (a0l GW hr1 (by rfl) DW.mg DW.fn.kp bW .nil a0E (a0a (pv 4) a0e)))) (a5Z (a0q a9n (pv 4) a0f (a0G _))))) a0u a0s)
   (a0b (a3l (a0P (PW.pt (a2Y (a0q b2d (pv 4) a0f (a0G _)) (a2c (a0q a1W (a0l GS hr2 (by rfl) DS.mg DS.fn.kp bS .nil a0E (a0a (pv 0) (a0a (pv 2) a0e))) (b0d (v:=.ref sA) (by rfl) LN.mS rfl) (by with_unfolding_all rfl))))) a0u a0s))
   (a0h (a0P (PW.pt (a2Y (a0q b2d (a0t a0N (pv 1) a0f (fun _ _=>rfl)) a0x (a0G _)) (a2c (a3e (a2W (a0l GR hr (by rfl) DR.mg DR.fn.kp bR .nil a0E (a0a (pv 0) (a0a (pv 2) (a0a (a0t a0N (pv 1) a0f (fun _ _=>rfl)) a0e))))))))) a0u a0s)))))))),?_⟩
  refine⟨_,rfl,st,_,1,_,rfl,rfl,SqT.of hst,a0M (j:=1) rfl,?_⟩;refine⟨_,rfl,st,_,2,_,rfl,rfl,SqT.of hst,a0M (j:=2) rfl,?_⟩;refine⟨_,rfl,st,_,3,_,rfl,rfl,SqT.of hst,a0M (j:=3) rfl,?_⟩;refine⟨_,rfl,_,rfl,fo,sz,Ts,rfl,hf,hok.le,fun p H1 hp s1 p1=>?_⟩;refine⟨p,_,rfl,.inl (SqL.of p1),rfl,a3K _,_,rfl,?_⟩;refine a2H (by show(!inV (.str T.name) _)=false;rw[a3L,dT0 (mM0.mpr ⟨T,hT,rfl⟩)];rfl) ?_;obtain⟨tt,es,f1,_⟩:=id hf;refine⟨_,rfl,.int k,"int",rfl,Is.int,_,rfl,a1R ⟨_,rfl,_,_,rfl,rfl,_,rfl,?_⟩⟩;refine a9t (fun _=>?_) (fun c=>absurd (dT0 k0) c);refine⟨_,rfl,_,_,0,_,rfl,rfl,SqT.of (s1 _ _ f1),rfl,_,_,rfl,rfl,_,rfl,?_⟩;refine a2H (by rw[dT0 k1];rfl) ?_;refine⟨_,rfl,.int pl,"int",rfl,Is.int,_,rfl,a1R ⟨_,rfl,_,_,rfl,rfl,_,rfl,?_⟩⟩;refine a2H (dF0 (by omega)) ?_;refine⟨fun σ' H'=>H'=H1/\σ'=[some (.ref fo),some (.ref st),some (.str T.name),some (.int k),some (.int pl)],?_,?_⟩
  ·refine⟨_,rfl,rfl,_,rfl,?_⟩
   by_cases hp0:pl=0
   ·exact a2H (by rw[hp0];decide +kernel) (a1R ⟨rfl,rfl⟩)
   ·refine a6n (by rw[dF0 (fun e=>hp0 (by injection e))];rfl) ?_
    refine⟨_,rfl,_,rfl,fo,sz,Ts,T,rfl,hf.same s1,hok.nd,hT,?_⟩;refine⟨sA,_,rfl,.inr (LN.qS _),rfl,(by decide),_,rfl,?_⟩;refine a2H (by show inV (.str T.sort) _=false;rw[a3L];exact dF0 (hpl.resolve_left hp0)) ⟨rfl,rfl⟩
  rintro σ' H' ⟨rfl,rfl⟩;refine⟨_,rfl,st,_,0,.str vb,rfl,rfl,SqT.of (s1 _ _ hst),a0M (j:=0) rfl,rfl,_,rfl,?_⟩;rcases hrow with rfl |⟨nv,r,rfl,hx⟩
  ·exact a2H (by decide +kernel) (a1R (q _ s1))
  refine a6n (by rw[dF0 (fun e=>nv (by injection e))];rfl) ?_;exact⟨_,rfl,_,rfl,_,rfl,st,_,4,_,rfl,rfl,SqT.of (s1 _ _ hst),a0M (j:=4) rfl,fo,sz,Ts,T,r,rfl,hf.same s1,hok.nd,hT,hok.cn T hT,hok.cl T hT,hok.le,hx.same s1,fun H2 s2=>⟨_,rfl,a1R (q H2 (s1.trans s2))⟩⟩
structure Rr where
 pl:Int
 q:Addr
 row:Rw
structure Tt where
 z:Str
 r:Addr
 rs:List Rr
def pK (rs:List Rr):List (Key×V):=rs.map fun r=>(.inl r.pl,.ref r.q)
def tK (ts:List Tt):List (Key×V):=ts.map fun t=>(.inr t.z,.ref t.r)
def cR (r:Rr):Int×Rw:=(r.pl,r.row)
def cT (t:Tt):Str×List (Int×Rw):=(t.z,t.rs.map cR)
def nxt (vb:Str)(n:Rr)(rs:List Rr):List Rr:=if vb="cut" then rs.filter fun r=>decide (r.pl≠n.pl) else if vb="add" then rs++[n] else rs.map fun r=>if r.pl=n.pl then n else r
def a5N (vb:Str)(n:Int×Rw)(rs:List (Int×Rw)):List (Int×Rw):=if vb="cut" then rs.filter fun r=>decide (r.1≠n.1) else if vb="add" then rs++[n] else rs.map fun r=>if r.1=n.1 then n else r
theorem b7y (vb:Str)(n:Rr)(rs:List Rr):(nxt vb n rs).map cR=a5N vb (cR n) (rs.map cR):=by
 unfold nxt a5N
 split
 ·rw[List.filter_map]
  rfl
 split
 ·rw[mA0]
  rfl
 ·rw[mC0,mC0]
  refine List.map_congr_left fun r _=>?_;show cR (if r.pl=n.pl then n else r)=if r.pl=n.pl then cR n else cR r
  split<;>rfl
theorem b3T {vb:Str}{n:Rr}{rs:List Rr}{r:Rr}(h:r∈nxt vb n rs):r∈rs\/(vb≠"cut"/\r=n):=by
 unfold nxt at h
 split at h
 ·exact .inl (mF0.mp h).1
 rename_i nc
 split at h
 ·rcases mB0.mp h with h |h
  ·exact .inl h
  ·exact .inr ⟨nc,mS0.mp h⟩
 ·obtain⟨x,hx,rfl⟩:=mM0.mp h
  split
  ·exact .inr ⟨nc,rfl⟩
  ·exact .inl hx
theorem b6Q {vb:Str}{n:Rr}{rs:List Rr}(nd:(rs.map (·.pl)).Nodup)(ha:vb="add"->n.pl∉rs.map (·.pl)):((nxt vb n rs).map (·.pl)).Nodup:=by
 unfold nxt
 split
 ·exact nd.sublist ((List.filter_sublist).map _)
 split
 ·rename_i e
  rw[mA0,List.nodup_append];refine⟨nd,List.nodup_cons.mpr ⟨(fun h=>nomatch h),List.nodup_nil⟩,fun a h1 b h2 e2=>?_⟩;rw[mS0.mp h2] at e2;rw[e2] at h1;exact ha e h1
 ·have e:(rs.map fun r=>if r.pl=n.pl then n else r).map (·.pl)=rs.map (·.pl):=by
   rw[mC0];refine List.map_congr_left fun r _=>?_
   show(if r.pl=n.pl then n else r).pl=r.pl
   split
   ·rename_i e;exact e.symm
   ·rfl
  rw[e];exact nd
theorem b4s {vb:Str}{n:Rr}{rs:List Rr}:(nxt vb n rs).length<=rs.length+1:=by
 unfold nxt
 split
 ·exact Nat.le_succ_of_le (List.length_filter_le _ _)
 split
 ·rw[lA0];exact nR0 _
 ·rw[lM0];exact Nat.le_succ _
theorem a6a {rs:List Rr}(nd:(rs.map (·.pl)).Nodup){r:Rr}(h:r∈rs):a1k (pK rs) (.inl r.pl)=some (.ref r.q):=a0U (f:=Rr.pl) (g:=fun r:Rr=>V.ref r.q) nd h
theorem a9b {rs:List Rr}{p:Int}(h:p∉rs.map (·.pl)):a1k (pK rs) (.inl p)=none:=a1o (f:=Rr.pl) (g:=fun r:Rr=>V.ref r.q) h
theorem b6f (rs:List Rr)(n:Rr):a1U (pK rs) (.inl n.pl)=pK (nxt "cut" n rs):=by
 unfold a1U pK nxt;rw[if_pos rfl,List.filter_map]
 congr 1
 refine List.filter_congr fun r _=>?_;show decide ((Sum.inl r.pl:Key)≠Sum.inl n.pl)=decide (r.pl≠n.pl);rw[Bool.eq_iff_iff,decide_eq_true_iff,decide_eq_true_iff];exact⟨fun h e=>h (by rw[e]),fun h e=>h (by injection e)⟩
theorem b2W {vb:Str}{rs:List Rr}{n:Rr}(h:(vb="add"/\n.pl∉rs.map (·.pl))\/(vb="set"/\n.pl∈rs.map (·.pl))):a2r (pK rs) (.inl n.pl) (.ref n.q)=pK (nxt vb n rs):=by
 rcases h with ⟨rfl,h⟩ |⟨rfl,h⟩
 ·rw[a1j _ (a9b h)]
  unfold nxt;rw[if_neg (by decide +kernel),if_pos rfl];unfold pK;rw[mA0]
  rfl
 ·unfold a2r nxt
  rw[if_pos ?_,if_neg (by decide +kernel),if_neg (by decide +kernel)]
  ·unfold pK
   rw[mC0,mC0];refine List.map_congr_left fun r _=>?_
   show(if (Sum.inl r.pl:Key)=Sum.inl n.pl then((Sum.inl r.pl:Key),V.ref n.q) else(Sum.inl r.pl,V.ref r.q))=(Sum.inl (if r.pl=n.pl then n else r).pl,V.ref (if r.pl=n.pl then n else r).q)
   by_cases e:r.pl=n.pl
   ·rw[if_pos e,if_pos (by rw[e]),e]
   ·rw[if_neg e,if_neg (fun h=>e (by injection h))]
  ·obtain⟨r,hr,e⟩:=mM0.mp h
   exact List.any_eq_true.mpr ⟨_,mM0.mpr ⟨r,hr,rfl⟩,dT0 (by rw[e])⟩
def Can (vb:Str)(p:Int)(ps:List Int):Prop:=(vb="add"/\p∉ps)\/(vb="set"/\p∈ps)\/(vb="cut"/\p∈ps)
def b8n:Sp:=fun vs H Q _=>∃(r st:Addr) (vb z:Str) (kx:V) (p:Int) (row:Rw) (rest:List V) (rs:List Rr),vs=[.ref r,.ref st]/\H r=some (.dK (pK rs))/\(rs.map (·.pl)).Nodup/\rs.length<1000/\H st=some (.tup (.str vb::.str z::kx::.int p::rest))/\Can vb p (rs.map (·.pl)) ∧
 (vb≠"cut"->∃x,rest=[.ref x]/\H x=some (.dK (rK row)))/\∀(n:Rr) H',n.pl=p->n.row=row->(vb≠"cut"->H n.q=none/\H' n.q=some (.dK (rK row)))->H' r=some (.dK (pK (nxt vb n rs)))->(∀b o,b≠r->H b=some o->H' b=some o)->Q .non H'
theorem b7L {f:Addr}{fd:FuncData}(F:Fun K "do_step" "do_step" (top 28) f fd)(B:Bl mg):a0A P w K mg base CX0 1 f fd ["placed","step"] b8n:=by
 have sc:a0o ["placed","step","place"] ["placed","step"] (a0g (top 28)):=.k (by decide +kernel);refine F.ok sc (fun vs H Q E h=>?_) (fun cdv A outer s H vs Q E hr h=>?_)
 ·obtain⟨r,st,vb,z,kx,p,row,rest,rs,rfl,_⟩:=h
  rfl
 ·obtain⟨r,st,vb,z,kx,p,row,rest,rs,rfl,h1,nd,h60,hst,can,hx,q⟩:=h
  have hu:=a1T hr;refine⟨_,a0b (a0n (i:=2) sc.nd rfl (Or.inl rfl) (a0t a0N (pv 1) a0f (fun _ _=>rfl)))
   (a0b (a0P (PW.pt (a2Y (a0q a1V (a0t a0N (pv 1) a0f (fun _ _=>rfl)) a0x (a0G _)) (a2c (a2z (a4n hu (pv 2) (pv 0)))))) a0u a0s)
   (a0b (a0P (PW.pt (a2Y (a0q b2d (a0t a0N (pv 1) a0f (fun _ _=>rfl)) a0x (a0G _)) (a2c (a2z (a2C hu (pv 2) (pv 0)))))) a0u a0s)
   (a0h (a0P (a0q a1V (a0t a0N (pv 1) a0f (fun _ _=>rfl)) a0x (a0G _)) (a0h (a0V (a7F (pv 0) (pv 2) ⟨rfl,rfl,rfl,rfl⟩))) (a0h (a1h hu (pv 0) (pv 2) (a0Z a1C (by rfl) B.dict boot_dict (a0a (a0t a0N (pv 1) a0f (fun _ _=>rfl)) a0e)) rfl)))))),?_⟩
  refine⟨_,rfl,st,_,3,_,rfl,rfl,SqT.of hst,a0M (j:=3) rfl,?_⟩;refine⟨_,rfl,st,_,0,.str vb,rfl,rfl,SqT.of hst,a0M (j:=0) rfl,rfl,_,rfl,?_⟩;rcases can with ⟨rfl,hp⟩ |⟨rfl,hp⟩ |⟨rfl,hp⟩
  ·refine a6m ⟨_,rfl,_,rfl,r,_,rfl,.inl ⟨_,.inl p,.inl h1,rfl,(a9b hp).symm⟩,_,rfl,a1R ?_⟩
   refine⟨_,rfl,st,_,0,.str "add",rfl,rfl,SqT.of hst,a0M (j:=0) rfl,rfl,_,rfl,a1R (a1R ?_)⟩;refine⟨_,rfl,st,_,0,.str "add",rfl,rfl,SqT.of hst,a0M (j:=0) rfl,rfl,_,rfl,a2H (by decide +kernel) ?_⟩;obtain⟨x,rfl,hxx⟩:=hx (by decide +kernel);refine⟨_,rfl,st,_,4,_,rfl,rfl,SqT.of hst,a0M (j:=4) rfl,x,_,rfl,.inl hxx,fun qn hqn=>?_⟩;refine⟨_,rfl,_,rfl,r,_,rfl,.inl ⟨pK rs,.inl p,(a0k.upd hqn) _ _ h1,rfl,(by unfold pK;rw[lM0,sizeLine_eq];omega),rfl⟩,?_⟩;rw[b2W (n:=⟨p,qn,row⟩) (.inl ⟨rfl,hp⟩)];have nqr:qn≠r:=fun e=>by rw[e,h1] at hqn;cases hqn
   exact q ⟨p,qn,row⟩ _ rfl rfl (fun _=>⟨hqn,by rw[a0d nqr];exact a0c⟩) a0c fun b o nb hb=>by rw[a0d nb];exact(a0k.upd hqn) _ _ hb
  ·obtain⟨r0,hr0,rfl⟩:=mM0.mp hp
   refine a2H (by decide +kernel) (a1R ?_);refine⟨_,rfl,st,_,0,.str "set",rfl,rfl,SqT.of hst,a0M (j:=0) rfl,rfl,_,rfl,a6n (by decide +kernel) ?_⟩;refine⟨_,rfl,_,rfl,r,_,rfl,.inl ⟨_,.inl r0.pl,.inl h1,rfl,(a6a nd hr0).symm⟩,_,rfl,a1R ?_⟩;refine⟨_,rfl,st,_,0,.str "set",rfl,rfl,SqT.of hst,a0M (j:=0) rfl,rfl,_,rfl,a2H (by decide +kernel) ?_⟩;obtain⟨x,rfl,hxx⟩:=hx (by decide +kernel);refine⟨_,rfl,st,_,4,_,rfl,rfl,SqT.of hst,a0M (j:=4) rfl,x,_,rfl,.inl hxx,fun qn hqn=>?_⟩;refine⟨_,rfl,_,rfl,r,_,rfl,.inl ⟨pK rs,.inl r0.pl,(a0k.upd hqn) _ _ h1,rfl,(by unfold pK;rw[lM0,sizeLine_eq];omega),rfl⟩,?_⟩;rw[b2W (n:=⟨r0.pl,qn,row⟩) (.inr ⟨rfl,hp⟩)];have nqr:qn≠r:=fun e=>by rw[e,h1] at hqn;cases hqn
   exact q ⟨r0.pl,qn,row⟩ _ rfl rfl (fun _=>⟨hqn,by rw[a0d nqr];exact a0c⟩) a0c fun b o nb hb=>by rw[a0d nb];exact(a0k.upd hqn) _ _ hb
  ·obtain⟨r0,hr0,rfl⟩:=mM0.mp hp
   refine a2H (by decide +kernel) (a1R ?_);refine⟨_,rfl,st,_,0,.str "cut",rfl,rfl,SqT.of hst,a0M (j:=0) rfl,rfl,_,rfl,a6n (by decide +kernel) ?_⟩;refine⟨_,rfl,_,rfl,r,_,rfl,.inl ⟨_,.inl r0.pl,.inl h1,rfl,(a6a nd hr0).symm⟩,_,rfl,a1R ?_⟩;refine⟨_,rfl,st,_,0,.str "cut",rfl,rfl,SqT.of hst,a0M (j:=0) rfl,rfl,_,rfl,a6n (by decide +kernel) ?_⟩;refine⟨_,rfl,r,rfl,.inl ⟨_,.inl h1⟩,_,rfl,_,.inl r0.pl,_,h1,rfl,a6a nd hr0,?_⟩;rw[b6f rs ⟨r0.pl,r,row⟩];exact q ⟨r0.pl,r,row⟩ _ rfl rfl (fun h=>absurd rfl h) a0c fun b o nb hb=>by rw[a0d nb];exact hb
structure b0P (H:Hp) (p:Addr) (ts:List Tt):Prop where
 at_:H p=some (.dK (tK ts))
 rt:∀t∈ts,H t.r=some (.dK (pK t.rs))
 rw_:∀t∈ts,∀r∈t.rs,H r.q=some (.dK (rK r.row))
structure b2G (ts:List Tt):Prop where
 nd:(ts.map (·.z)).Nodup
 le:ts.length<=8
 pn:∀t∈ts,(t.rs.map (·.pl)).Nodup
 pl:∀t∈ts,t.rs.length<64
 ok:∀t∈ts,∀r∈t.rs,a6l r.row
theorem b0P.same {H H':Hp}{p:Addr}{ts:List Tt}(h:b0P H p ts)(s:a0k H H'):b0P H' p ts:=⟨s _ _ h.at_,fun t ht=>s _ _ (h.rt t ht),fun t ht r hr=>s _ _ (h.rw_ t ht r hr)⟩
theorem a9B {ts:List Tt}{t:Tt}(h:t∈ts):((.inr t.z:Key),V.ref t.r)∈tK ts:=mM0.mpr ⟨t,h,rfl⟩
theorem b0P.apart {H:Hp}{p:Addr}{ts:List Tt}(h:b0P H p ts)(ok:b2G ts){t:Tt}(ht:t∈ts):t.r≠p/\∀r∈t.rs,r.q≠p:=by
 refine⟨fun e=>?_,fun r hr e=>?_⟩
 ·have h1:=h.rt t ht
  rw[e,h.at_] at h1
  injection h1 with h1
  injection h1 with h1
  have:=a9B ht
  rw[h1] at this;obtain⟨x,_,e2⟩:=mM0.mp this
  injection e2 with e2
  cases e2
 ·have h1:=h.rw_ t ht r hr
  rw[e,h.at_] at h1
  injection h1 with h1
  injection h1 with h1
  have:=a9B ht
  rw[h1] at this;exact a6N (ok.ok t ht r hr) this
def pcT (t:Tt):Str×List Rw:=(t.z,(srt (t.rs.map cR)).map (·.2))
def b4F:Sp:=fun vs H Q _=>∃(p:Addr) (ts:List Tt),vs=[.ref p]/\b0P H p ts/\b2G ts/\∀H',a0k H H'->Q (.bl (ts.any fun t=>decide (0<t.rs.length))) H'
def jn (G N:Hp):Hp:=fun b=>match N b with |none=>G b |some o=>some o
theorem b2E {G N:Hp}{b:Addr}{o:HO}(h:N b=some o):jn G N b=some o:=by unfold jn;rw[h]
theorem b6w {G H H':Hp}{b:Addr}{o:HO}(s:a0k G H)(h:G b=some o):jn G (cut H H') b=some o:=by
 unfold jn
 have:cut H H' b=none:=by unfold cut;rw[s _ _ h]
 rw[this];exact h
theorem b5v {G H H':Hp}(s:a0k G H'):a0k (jn G (cut H H')) H':=fun b o e=>by
 unfold jn at e;cases e2:cut H H' b with
 |none=>rw[e2] at e;exact s _ _ e
 |some u=>rw[e2] at e;rw[<-e];exact a0z _ _ e2
def a6h:Sp:=fun vs H Q _=>∃(p:Addr) (ts:List Tt) (G:Hp),vs=[.ref p]/\a0k G H/\b0P G p ts/\b2G ts/\∀p' H',a0k H H'->a2S (jn G (cut H H')) p' (ts.map pcT)->Q (.ref p') H'
theorem b2F {f:Addr}{fd:FuncData}(F:Fun K "has_rows" "has_rows" (top 29) f fd)(B:Bl mg):a0A P w K mg base CX0 1 f fd ["placed"] b4F:=by
 have sc:a0o ["placed"] ["placed"] (a0g (top 29)):=.k (by decide +kernel);refine F.ok sc (fun vs H Q E h=>?_) (fun cdv A outer s H vs Q E hr h=>?_)
 ·obtain⟨p,ts,rfl,_⟩:=h
  rfl
 ·obtain⟨p,ts,rfl,hp,ok,q⟩:=h
  refine⟨_,a0h (a4i (a0F (a0D (b2D rfl) (by rfl) B.any boot_any (a0a (a1K (osc:=a0g (top 29)) (N0:=["placed"]) (xs:=["rows"]) (fr:=[]) ⟨rfl,by decide +kernel,by decide +kernel,by decide +kernel,by decide,by decide +kernel⟩ rfl rfl rfl (a9f (pv 0))
    (fun s H fp=>a0m (i:=0) (show(["rows"]:List Str).Nodup by decide +kernel) rfl (Or.inl rfl)) (fun s H fp=>a1I) (fun s H fp=>a6y b5N (a0D a5K (by rfl) B.len PySem.boot_len (a0a (pv 0) a0e)) a0f (a0G _))) a0e)))),?_⟩
  refine⟨p,_,hp.at_,fun o=>?_⟩;have cf:(upd H p (.frz o (.dK (tK ts)))) p=some (.frz o (.dK (tK ts))):=a0c;have bk:∀{H':Hp},a0k (upd H p (.frz o (.dK (tK ts)))) H'->a0k H (upd H' p (.dK (tK ts))):=fun e=>a2y hp.at_ e;have rt:∀t∈ts,(upd H p (.frz o (.dK (tK ts)))) t.r=some (.dK (pK t.rs)):=fun t ht=>by rw[a0d (hp.apart ok ht).1];exact hp.rt t ht
  generalize upd H p (.frz o (.dK (tK ts)))=HF at *;have tl:(tK ts).length=ts.length:=by unfold tK;rw[lM0]
  refine⟨_,rfl,p,o,_,rfl,cf,fun D hD=>?_⟩;refine a1A ts.length (fun i ys σ' Hc=>(∃t0,σ'=[t0])/\a0k HF Hc/\ys=(ts.take i).map fun t=>V.bl (decide (0<t.rs.length))) (by have:=ok.le;rw[sizeLine_eq];omega) ⟨⟨none,rfl⟩,a0k.upd hD,rfl⟩ a0c ?_ ?_
  ·rintro i σ' Hc ys hi ⟨⟨t0,rfl⟩,sm,rfl⟩ hyl hD'
   refine⟨⟨by omega,sm _ _ cf⟩,?_⟩;rintro x H' ⟨rfl,k,hk⟩;unfold tK at hk;rw[gM0,gE0 hi] at hk;cases hk;refine⟨_,rfl,_,_,rfl,sm _ _ (rt _ (gQ0 hi)),_,_,rfl,rfl,hD',⟨_,rfl⟩,sm.put hD,?_⟩;rw[tS0,gE0 hi,mA0]
   congr 2
   unfold pK;rw[lM0];show V.bl (decide ((0:Int)<(ts[i].rs.length:Nat)))=V.bl (decide (0<ts[i].rs.length))
   congr 1
   rw[Bool.eq_iff_iff,decide_eq_true_iff,decide_eq_true_iff]
   omega
  ·rintro σ' Hc ys ⟨_,sm,rfl⟩ hDn hyl
   refine⟨⟨by omega,sm _ _ cf⟩,?_⟩;rw[List.take_length] at hDn;refine⟨D,ts.map fun t=>decide (0<t.rs.length),rfl,SqL.of (by rw[hDn,mC0];rfl),sm _ _ cf,?_⟩;have eb:(ts.map fun t=>decide (0<t.rs.length)).any id=ts.any fun t=>decide (0<t.rs.length):=by rw[List.any_map];rfl
   rw[eb];exact q _ (bk sm)
theorem a8c {f:Addr}{fd:FuncData}(F:Fun K "piece_of" "piece_of" (top 30) f fd)(B:Bl mg):a0A P w K mg base CX0 1 f fd ["placed"] a6h:=by
 have sc:a0o ["placed","piece","table","rows"] ["placed"] (a0g (top 30)):=.k (by decide +kernel);refine F.ok sc (fun vs H Q E h=>?_) (fun cdv A outer s H vs Q E hr h=>?_)
 ·obtain⟨p,ts,G,rfl,_⟩:=h
  rfl
 ·obtain⟨p,ts,G,rfl,sG,hG,ok,q⟩:=h
  have hp:=hG.same sG;have hu:=a1T hr;refine⟨_,a0b (a0n (i:=1) sc.nd rfl (Or.inl rfl) a1n) (a0b (a4i (a0X PassesOwn.never rfl (a3k (pv 0)) (a2j rfl (a0y (a0m (i:=2) sc.nd rfl (Or.inl rfl)) (a0y (a0m (i:=3) sc.nd rfl (Or.inr rfl)) a1D)))
    (a0h (a1h hu (pv 1) (pv 2) (a1K (osc:=a0g (top 30)) (N0:=["placed","piece","table","rows"]) (xs:=["place"]) (fr:=[3]) ⟨rfl,by decide +kernel,by decide +kernel,by decide +kernel,(fun j hj=>by
       have e:j=3:=by simpa using hj
       rcases e with rfl;exact⟨_,rfl,by decide +kernel⟩),by decide +kernel⟩ rfl rfl rfl (a0S (a0D (a0J rfl) (by rfl) B.sorted boot_sorted (a0a (pv 3) a0e)))
     (fun s H fp=>a0m (i:=0) (show(["place","rows"]:List Str).Nodup by decide +kernel) rfl (Or.inl rfl)) (fun s H fp=>a1I) (fun s H fp=>a0L hu (pv 1) (pv 0) (fun _ _=>rfl))) rfl)))) (a0h (a0F (pv 1)))),?_⟩
  refine fun d hd=>⟨p,_,(a0k.upd hd) _ _ hp.at_,fun o=>?_⟩;have np:p≠d:=fun e=>by have:=hp.at_;rw[e,hd] at this;cases this
  generalize hX:upd H d _=H1;obtain⟨S0,d0⟩:=gz hX hd;have hfa:(upd H1 p (.frz o (.dK (tK ts)))) p=some (.frz o (.dK (tK ts))):=a0c;have hb0:a0k H (upd (upd H1 p (.frz o (.dK (tK ts)))) p (.dK (tK ts))):=S0.trans (a2y (S0 _ _ hp.at_) (a0k.refl _));have d1:(upd H1 p (.frz o (.dK (tK ts)))) d=some (.dK []):=by rw[a0d np.symm];exact d0
  generalize upd H1 p (.frz o (.dK (tK ts)))=H2 at *;have tl:(tK ts).length=ts.length:=by unfold tK;rw[lM0]
  refine⟨_,rfl,p,o,_,rfl,hfa,a3v (a:=p) (o:=o) (kvs:=tK ts) (fun i σ H3=>H3 p=some (.frz o (.dK (tK ts)))/\a0k H (upd H3 p (.dK (tK ts)))/\∃u2 u3,σ=[some (.ref p),some (.ref d),u2,u3]/\∃ls:List Addr,H3 d=some (.dK (zK ((ts.take i).map (·.z)) ls))/\ls.length=i/\∀(j:Nat) (l:Addr) (t:Tt),ls[j]? =some l->ts[j]? =some t->∃rs:List Addr,H l=none/\H3 l=some (.lst (rs.map V.ref))/\rs.length=(srt (t.rs.map cR)).length/\∀(j':Nat) (r:Addr) (c:Int×Rw),rs[j']? =some r->(srt (t.rs.map cR))[j']? =some c->G r=some (.dK (rK c.2)))
   ⟨hfa,hb0,_,_,rfl,[],d1,rfl,fun j l t h=>nomatch h⟩ (fun i σ H3 _ p=>p.1) ?_ ?_⟩
  ·rintro i k v p1 σ H3 hk ⟨h3p,sm,u2,u3,rfl,ls,f1,f2,f3⟩ hp1
   have hi:i<ts.length:=by
    have:=(gS0.mp hk).1
    omega
   unfold tK at hk;rw[gM0,gE0 hi] at hk;cases hk;have htm:ts[i]∈ts:=gQ0 hi;obtain⟨nr,nq⟩:=hp.apart ok htm;have T1:=a0k.upd (o:=.tup [kV (.inr ts[i].z),.ref ts[i].r]) hp1;refine⟨p1,_,rfl,SqT.of a0c,rfl,_,_,rfl,_,_,rfl,rfl,?_⟩;generalize upd H3 p1 (.tup [kV (.inr ts[i].z),.ref ts[i].r])=H4 at T1;have back:∀{b:Addr} {ob:HO},b≠p->H b=some ob->H4 b=some ob:=fun {b ob} nb e=>by
    have:=sm b ob e
    rw[a0d nb] at this;exact T1 _ _ this
   have nH:∀{b:Addr},H4 b=none->H b=none:=fun {b} e=>by
    by_cases nb:b=p
    ·rw[nb,T1 _ _ h3p] at e;cases e
    ·cases e2:H b with
     |none=>rfl
     |some ob=>rw[back nb e2] at e;cases e
   have r4:=back nr (hp.rt _ htm);refine⟨_,rfl,ts[i].r,_,ts[i].rs.map (·.pl),rfl,.inl r4,(by unfold pK;rw[mC0,mC0];rfl),(by rw[lM0];exact ok.pl _ htm),fun l ms hl hpm hsm=>?_⟩;have em:ms=(srt (ts[i].rs.map cR)).map (·.1):=a1y (by rw[mC0];exact hpm) hsm;subst em;generalize hX:upd H4 l _=H5;obtain⟨T2,l5⟩:=gz hX hl;have sl:(srt (ts[i].rs.map cR)).length=ts[i].rs.length:=by rw[(a0C _).length_eq,lM0]
   have hsm64:=ok.pl _ htm;refine⟨l,rfl,⟨_,SqL.of l5⟩,fun D hD=>?_⟩;refine a1A (srt (ts[i].rs.map cR)).length (fun i' ys σ' Hc=>(∃t,σ'=[t,some (.ref ts[i].r)])/\a0k H5 Hc/\∃qs:List Addr,ys=qs.map V.ref/\∀(j':Nat) (r:Addr) (c:Int×Rw),qs[j']? =some r->(srt (ts[i].rs.map cR))[j']? =some c->G r=some (.dK (rK c.2))) (by rw[sizeLine_eq];omega) ⟨⟨none,rfl⟩,a0k.upd hD,[],rfl,fun j r row h=>nomatch h⟩ a0c ?_ ?_
   ·rintro i' σ' Hc ys hi' ⟨⟨u,rfl⟩,sc',qs,rfl,hqs⟩ hyl hD'
    rw[lM0] at hyl;have eI:(((srt (ts[i].rs.map cR)).map (·.1)).map V.int)[i']? =some (.int (srt (ts[i].rs.map cR))[i'].1):=by rw[gM0,gM0,gE0 hi'];rfl
    refine⟨⟨_,_,SqL.of (sc' _ _ l5),eI⟩,?_⟩;rintro x H' ⟨rfl,hx'⟩;have ex:=hx' _ (SqL.of (sc' _ _ l5));rw[eI] at ex;cases ex;have hcm:(srt (ts[i].rs.map cR))[i']∈ts[i].rs.map cR:=(a0C _).mem_iff.mp (gQ0 hi');obtain⟨r0,hr0,e0⟩:=mM0.mp hcm;refine⟨_,rfl,_,rfl,ts[i].r,.ref r0.q,rfl,.inl ⟨_,.inl r0.pl,.inl ((T2.trans sc') _ _ r4),(by rw[<-e0];rfl),(a6a (ok.pn _ htm) hr0).symm⟩,hD',⟨_,rfl⟩,sc'.put hD,qs++[r0.q],by rw[mA0];rfl,fun j r c h1 h2=>?_⟩
    by_cases hj:j<qs.length
    ·rw[gL0 hj] at h1
     exact hqs j r c h1 h2
    ·have hj':j=qs.length:=by
      have:=(gS0.mp h1).1
      rw[lA0] at this;simp at this
      omega
     subst hj';rw[gR0 (nR0 _),Nat.sub_self] at h1;cases h1;rw[hyl,gE0 hi'] at h2;cases h2;rw[<-e0];exact hG.rw_ _ htm r0 hr0
   ·rintro σ' Hc ys ⟨_,sc',qs,rfl,hqs⟩ hDn hyl
    rw[lM0] at hyl;have T12:=T1.trans (T2.trans sc');refine⟨⟨_,SqL.of (sc' _ _ l5),by rw[lM0,lM0];exact nR0 _⟩,_,rfl,_,rfl,d,_,rfl,.inl ⟨_,.inr ts[i].z,T12 _ _ f1,rfl,(by rw[a9T (by rw[lM0,lT0];omega),lM0,lT0,sizeLine_eq];have:=ok.le;omega),rfl⟩,?_⟩;have hnew:ts[i].z∉(ts.take i).map (·.z):=fun hm=>by
     have nd:=ok.nd;have e:ts.map (·.z)=(ts.take i).map (·.z)++(ts.drop i).map (·.z):=by rw[<-mA0,List.take_append_drop]
     rw[e,List.nodup_append] at nd;refine nd.2.2 _ hm ts[i].z ?_ rfl;rw[List.drop_eq_getElem_cons hi,mN0];exact List.mem_cons_self
    rw[a1j _ (b3g hnew),<-a9R (by rw[lM0,lT0];omega)];have nDd:D≠d:=fun e=>by rw[e,(T1.trans T2) _ _ f1] at hD;cases hD
    refine⟨by rw[a0d np];exact T12 _ _ h3p,fun b ob hb=>?_,_,_,rfl,ls++[D],?_,?_,fun j l' t h1 h2=>?_⟩
    ·by_cases e:b=p
     ·subst e
      rw[a0c];rw[hp.at_] at hb;exact hb
     ·rw[a0d e,a0d (a0j hb hd)]
      exact(T2.trans sc') _ _ (back e hb)
    ·rw[a0c,tS0,gE0 hi,mA0]
     rfl
    ·rw[lA0,f2]
     rfl
    ·by_cases hj:j<i
     ·rw[gL0 (by omega)] at h1
      obtain⟨rs,b0,b1,b2,b3⟩:=f3 j l' t h1 h2;have nlf:l'≠d:=fun e=>by rw[e,f1] at b1;cases b1
      exact⟨rs,b0,by rw[a0d nlf];exact T12 _ _ b1,b2,b3⟩
     ·have hj':j=i:=by
       have:=(gS0.mp h1).1
       rw[lA0,f2] at this;simp at this
       omega
      subst hj';rw[gR0 (by omega),f2,Nat.sub_self] at h1;cases h1;rw[gE0 hi] at h2;cases h2;exact⟨qs,nH (a0v T2 hD),by rw[a0d nDd];exact hDn,by omega,hqs⟩
  ·rintro σ H3 ⟨h3p,sm,u2,u3,rfl,ls,f1,f2,f3⟩
   rw[tl,List.take_length] at f1;rw[tl] at f2;refine⟨h3p,_,rfl,q d _ sm ⟨ls,?_,by rw[f2,lM0],fun j l t h1 h2=>?_⟩⟩
   ·refine b2E (a0T hd ?_)
    rw[a0d np.symm,f1,mC0]
    rfl
   ·rw[gM0] at h2
    cases e:ts[j]? with
    |none=>rw[e] at h2;cases h2
    |some t0=>
     rw[e] at h2;cases h2;obtain⟨rs,b0,b1,b2,b3⟩:=f3 j l t0 h1 e;have nlp:l≠p:=fun e=>by rw[e,h3p] at b1;cases b1
     refine⟨rs,b2E (a0T b0 (by rw[a0d nlp];exact b1)),by rw[b2];show _=((srt (t0.rs.map cR)).map (·.2)).length;rw[lM0],fun j' r row c1 c2=>?_⟩;change ((srt (t0.rs.map cR)).map (·.2))[j']? =some row at c2;rw[gM0] at c2;cases e2:(srt (t0.rs.map cR))[j']? with
     |none=>rw[e2] at c2;cases c2
     |some c=>
      rw[e2] at c2;cases c2;exact b6w sG (b3 j' r c c1 e2)
theorem cutP {G T:Prop}(h:T->G)(t:T):G:=h t
def b7c (sort:Str)(ps:List Int):Prop:=(∀i:Nat,(i:Int)∈ps↔i<ps.length)/\(sort∈b2T\/sort="some"->0<ps.length)
def b3a:Sp:=fun vs H Q _=>∃(z sort:Str) (k:V) (r:Addr) (rs:List Rr),vs=[.str z,.str sort,k,.ref r]/\H r=some (.dK (pK rs))/\(rs.map (·.pl)).Nodup/\rs.length<1000/\b7c sort (rs.map (·.pl))/\Q .non H
def b3v:Sp:=fun vs H Q _=>∃(f p:Addr) (sz:Int) (Ts:List Tb) (k:V) (ts:List Tt),vs=[.ref f,k,.ref p]/\a2d H f sz Ts/\b7D Ts/\b0P H p ts/\b2G ts/\ts.map (·.z)=Ts.map (·.name)/\((ts.any fun t=>decide (0<t.rs.length))=true->∀T∈Ts,∀t∈ts,t.z=T.name->b7c T.sort (t.rs.map (·.pl)))/\∀H',a0k H H'->Q .non H'
theorem b4Z {f sA:Addr}{fd:FuncData}(F:Fun K "ask_places" "ask_places" (top 32) f fd)(B:Bl mg)(LN:Ln K mg sA):a0A P w K mg base CX0 1 f fd ["table","sort","key","rows"] b3a:=by
 have sc:a0o ["table","sort","key","rows","place"] ["table","sort","key","rows"] (a0g (top 32)):=.k (by decide +kernel);refine F.ok sc (fun vs H Q E h=>?_) (fun cdv A outer s H vs Q E hr h=>?_)
 ·obtain⟨z,sort,k,r,rs,rfl,_⟩:=h
  rfl
 ·obtain⟨z,sort,k,r,rs,rfl,h1,nd,h60,⟨pl,p0⟩,q⟩:=h
  have hu:=a1T hr;refine⟨_,a0b (a0n (i:=4) sc.nd rfl (Or.inl rfl) a0f)
   (a0b (b2i PassesOwn.never (a2z (a4n hu (pv 4) (pv 3))) (a0h (a0n (i:=4) sc.nd rfl (Or.inl rfl) (a0B a1Q (pv 4) a0f))))
   (a0b (a0P (PW.pt (a2Y (a0q a1W (pv 1) (b0d (v:=.ref sA) (by rfl) LN.mS rfl) (by with_unfolding_all rfl)) (a2c (a0q a1V (pv 4) a0f (a0G _))))) a0u a0s)
   (a0h (a0P (PW.pt (a9N (a0q a9n (pv 4) (a0D a5K (by rfl) B.len PySem.boot_len (a0a (pv 3) a0e)) (a0G _)) (a5Z (PW.pt (a2Y (a0q a1V (pv 1) a0x (a0G _)) (a2c (a0q a1V (pv 4) a0f (a0G _)))))))) a0u a0s)))),?_⟩
  rw[lM0] at pl p0;refine b1F (fun σ H'=>H'=H/\∃i:Nat,i<=rs.length/\σ=[some (.str z),some (.str sort),some k,some (.ref r),some (.int (i:Nat))])
   (fun σ _=>match σ with |[_,_,_,_,some (.int i)]=>rs.length-i.toNat |_=>0) ⟨rfl,0,zL0 _,rfl⟩ ?_ ?_
  ·rintro σ H' ⟨rfl,i,hi,rfl⟩
   by_cases hin:i<rs.length
   ·obtain⟨r0,hr0,e0⟩:=mM0.mp ((pl i).mpr hin)
    have ev:a1k (pK rs) (.inl ((i:Nat):Int))=some (.ref r0.q):=by rw[<-e0];exact a6a nd hr0
    refine⟨_,rfl,_,rfl,r,some (.ref r0.q),rfl,.inl ⟨_,.inl ((i:Nat):Int),.inl h1,rfl,ev.symm⟩,_,rfl,a6m ?_⟩;refine⟨_,rfl,_,_,rfl,rfl,⟨rfl,i+1,hin,?_⟩,?_⟩
    ·rfl
    ·show rs.length-((i:Int)+1).toNat<rs.length-(i:Int).toNat
     omega
   ·refine⟨_,rfl,_,rfl,r,_,rfl,.inl ⟨_,.inl (i:Nat),.inl h1,rfl,(a9b fun h=>hin ((pl i).mp h)).symm⟩,_,rfl,a1R ?_⟩
    have ei:i=rs.length:=by omega
    subst ei;refine⟨_,rfl,sA,_,rfl,.inr (LN.qS _),rfl,(by decide),_,rfl,?_⟩;show if (inV (.str sort) _)=true then _ else _
    rw[a3L];have lenE:(pK rs).length=rs.length:=by unfold pK;rw[lM0]
    apply cutP
    ·intro fin
     by_cases hl:sort∈b2T
     ·rw[dT0 hl]
      have:=p0 (.inl hl)
      refine a6m ⟨_,rfl,rfl,_,rfl,a2H (dF0 fun e=>?_) fin⟩
      injection e with e
      omega
     ·rw[dF0 hl]
      exact a1R (a1R fin)
    refine⟨_,rfl,_,rfl,r,_,rfl,h1,_,_,rfl,rfl,_,rfl,a2H (dF0 (by rw[lenE];omega)) ?_⟩;refine⟨_,rfl,rfl,_,rfl,?_⟩
    by_cases hs:sort="some"
    ·have:=p0 (.inr hs)
     refine a6n (by rw[hs];decide +kernel) ⟨_,rfl,rfl,_,rfl,a2H (dF0 fun e=>?_) q⟩
     injection e with e
     omega
    ·refine a2H (dF0 fun e=>hs (by injection e)) (a1R q)
  ·rintro σ H Q Q' hq ⟨x,hx,y,hy,a,o,e1,e2,c,e3,e4⟩
   exact⟨x,hx,y,hy,a,o,e1,e2,c,e3,hq _ _ e4⟩
theorem b3u {ts:List Tt}(nd:(ts.map (·.z)).Nodup){t:Tt}(h:t∈ts):a1k (tK ts) (.inr t.z)=some (.ref t.r):=by
 induction ts with
 |nil=>cases h
 |cons a r ih=>
  rw[mN0,List.nodup_cons] at nd;unfold tK;rw[mN0];rcases mK0.mp h with rfl |h
  ·exact a1x rfl
  ·rw[a1s (fun e=>?_)]
   ·exact ih nd.2 h
   ·have e2:a.z=t.z:=by injection e
    exact nd.1 (e2▸mM0.mpr ⟨t,h,rfl⟩)
theorem b3D {f fH fT fI fS fP sA:Addr}{fd fdH fdT fdI fdS fdP:FuncData}(F:Fun K "ask_thing" "ask_thing" (top 31) f fd)(B:Bl mg)(LN:Ln K mg sA)(DH:Df K mg "has_rows" (top 29) fH fdH)(DT:Df K mg "tables_of" (top 18) fT fdT)(DI:Df K mg "table_in" (top 22) fI fdI)(DS:Df K mg "sort_of" (top 20) fS fdS)(DP:Df K mg "ask_places" (top 32) fP fdP) :
  a0A P w K mg base CX0 3 f fd ["form","key","placed"] b3v:=by
 have sc:a0o ["form","key","placed","table"] ["form","key","placed"] (a0g (top 31)):=.k (by decide +kernel);have GT:a0A P w K mg base CX0 1 fT fdT ["form"] a3M:=a2M DT.fn;have bT:=DT.fn.b1 "form" (by intros;rfl);have GH:a0A P w K mg base CX0 1 fH fdH ["placed"] b4F:=b2F DH.fn B;have bH:=DH.fn.b1 "placed" (by intros;rfl);have GS:a0A P w K mg base CX0 2 fS fdS ["form","table"] a4K:=a6b DS.fn DI;have bS:=DS.fn.b2 "form" "table" (by intros;rfl);have GP:a0A P w K mg base CX0 1 fP fdP ["table","sort","key","rows"] b3a:=b4Z DP.fn B LN;have bP:=DP.fn.b4 "table" "sort" "key" "rows" (by intros;rfl);refine F.ok sc (fun vs H Q E h=>?_) (fun cdv A outer s H vs Q E hr h=>?_)
 ·obtain⟨f,p,sz,Ts,k,ts,rfl,_⟩:=h
  rfl
 ·obtain⟨f,p,sz,Ts,k,ts,rfl,hf,tok,hp,ok,hz,hpl,q⟩:=h
  have hr1:a1u 1 _:=hr.mono (by decide);have hu:=a1T hr;refine⟨_,a0b (a0P (a3e (a2W (a0l GH hr1 (by rfl) DH.mg DH.fn.kp bH .nil a0E (a0a (pv 2) a0e)))) (a0h b4Y) a0s)
   (a0h (a0X PassesOwn.never rfl (a0S (a0l GT hr1 (by rfl) DT.mg DT.fn.kp bT .nil a0E (a0a (pv 0) a0e))) (a0m (i:=3) sc.nd rfl (Or.inl rfl))
    (a0h (a0V (a0l GP hr1 (by rfl) DP.mg DP.fn.kp bP .nil a0E (a0a (pv 3) (a0a (a0l GS hr (by rfl) DS.mg DS.fn.kp bS .nil a0E (a0a (pv 0) (a0a (pv 3) a0e))) (a0a (pv 1) (a0a (a0L hu (pv 2) (pv 3) (fun _ _=>rfl)) a0e))))))))),?_⟩
  refine⟨_,rfl,p,ts,rfl,hp,ok,fun H1 s1=>⟨_,rfl,?_⟩⟩;cases hany:ts.any fun t=>decide (0<t.rs.length) with
  |false=>exact a6m (q H1 s1)
  |true=>
   refine a1R ⟨_,rfl,f,sz,Ts,rfl,hf.same s1,tok.le,fun l H2 hl s2 l2=>⟨l,rfl,⟨_,SqL.of l2⟩,a0W (K:=K) (a:=l) (xs:=(Ts.map (·.name)).map V.str) (fun i σ H3=>H3=H2/\∃u,σ=[some (.ref f),some k,some (.ref p),u]) ⟨rfl,_,rfl⟩ (fun i σ H3 _ p=>by rw[p.1];exact SqL.of l2) ?_ ?_⟩⟩
   ·rintro i x σ H3 hx ⟨rfl,u,rfl⟩
    obtain⟨z,hzm,rfl⟩:=mM0.mp (gI0 hx);obtain⟨t,ht,e1⟩:=mM0.mp (hz▸hzm);obtain⟨T,hT,e2⟩:=mM0.mp hzm;have S:=s1.trans s2;change t.z=z at e1;change T.name=z at e2;subst e2;refine⟨_,rfl,_,rfl,_,rfl,f,sz,Ts,T,rfl,hf.same S,tok.nd,hT,_,rfl,_,rfl,_,rfl,p,.ref t.r,rfl,.inl ⟨_,.inr t.z,.inl (S _ _ hp.at_),(by rw[e1];rfl),(b3u ok.nd ht).symm⟩,T.name,T.sort,k,t.r,t.rs,rfl,S _ _ (hp.rt t ht),ok.pn t ht,(by have:=ok.pl t ht;omega),hpl hany T hT t ht e1,?_⟩;exact⟨rfl,_,rfl⟩
   ·rintro σ H3 ⟨rfl,_⟩
    exact q _ (s1.trans s2)
end
def a4M (rows:List Rw):List (Int×Rw):=rows.mapIdx fun i row=>((i:Int),row)
def plc (es:List (Int×Pc))(k:Int)(z:Str):List (Int×Rw):=match es.find? fun e=>decide (e.1=k) with
 |some e=>a4M (tab e.2 z)
 |none=>[]
def a6o (names:List Str)(es:List (Int×Pc))(k:Int):List (Str×List (Int×Rw)):=names.map fun z=>(z,plc es k z)
def rrs (rows:List Rw)(qs:List Addr):List Rr:=qs.mapIdx fun i q=>⟨(i:Int),q,rows.getD i []⟩
theorem a2u {α β γ:Type}(l:List α)(f:Nat->α->β)(g:β->γ):(l.mapIdx f).map g=l.mapIdx fun i x=>g (f i x):=by
 apply List.ext_getElem?;intro i;rw[gM0,gX0,gX0];cases l[i]?<;>rfl
theorem b5g {α β γ:Type}(l:List α)(h:α->β)(f:Nat->β->γ):(l.map h).mapIdx f=l.mapIdx fun i x=>f i (h x):=by
 apply List.ext_getElem?;intro i;rw[gX0,gX0,gM0];cases l[i]?<;>rfl
theorem b5A (rows:List Rw)(qs:List Addr):pK (rrs rows qs)=enV (qs.map V.ref):=by
 unfold pK rrs enV;rw[a2u,b5g]
theorem b7O {rows:List Rw}{qs:List Addr}(h:qs.length=rows.length):(rrs rows qs).map cR=a4M rows:=by
 unfold rrs a4M;rw[a2u];apply List.ext_getElem?;intro i;rw[gX0,gX0]
 by_cases hi:i<rows.length
 ·have hq:i<qs.length:=by omega
  rw[gE0 hi,gE0 hq];show some (cR ⟨(i:Int),qs[i],rows.getD i []⟩)=some ((i:Int),rows[i]);unfold cR;rw[List.getD_eq_getElem?_getD,gE0 hi]
  rfl
 ·rw[List.getElem?_eq_none (by omega),List.getElem?_eq_none (by omega)]
  rfl
theorem b4U {rows:List Rw}{qs:List Addr}{r:Rr}(hl:qs.length=rows.length)(h:r∈rrs rows qs):∃i:Nat,qs[i]? =some r.q/\rows[i]? =some r.row:=by
 obtain⟨i,hi,e⟩:=List.mem_iff_getElem.mp h;unfold rrs at hi e;rw[lI0] at hi;rw[List.getElem_mapIdx] at e;subst e;refine⟨i,gE0 hi,?_⟩;show rows[i]? =some (rows.getD i []);rw[List.getD_eq_getElem?_getD,gE0 (by omega)]
 rfl
theorem b6P (rows:List Rw)(qs:List Addr):((rrs rows qs).map (·.pl)).Nodup:=by
 unfold rrs;rw[a2u];rw[List.Nodup,List.pairwise_iff_getElem];intro i j hi hj hij;rw[List.getElem_mapIdx,List.getElem_mapIdx]
 show(i:Int)≠(j:Int)
 omega
theorem a2q.up {H H':Hp}{a:Addr}{y:V}{r:Option V}(h:a2q H a y r)(s:a0k H H'):a2q H' a y r:=by
 have up:∀{o:HO},Rd H a o->Rd H' a o:=fun h=>by
  rcases h with h |⟨ob,h⟩
  ·exact .inl (s _ _ h)
  ·exact .inr ⟨ob,s _ _ h⟩
 rcases h with ⟨kvs,k,h1,h2⟩ |⟨kvs,k,b,h1,h2,h3,h4⟩
 ·exact .inl ⟨kvs,k,up h1,h2⟩
 ·exact .inr ⟨kvs,k,b,up h1,h2,s _ _ h3,h4⟩
theorem b3k {es:List En}(nd:(es.map (·.k)).Nodup){e:En}(he:e∈es)(z:Str):plc (es.map kc) e.k z=a4M (tab e.pc z):=by
 unfold plc
 have:(es.map kc).find? (fun x=>decide (x.1=e.k))=some (kc e):=by
  induction es with
  |nil=>cases he
  |cons a r ih=>
   rw[mN0,List.nodup_cons] at nd;rw[mN0,List.find?_cons];rcases mK0.mp he with rfl |he
   ·rw[show decide ((kc e).1=e.k)=true from dT0 rfl]
   ·have:decide ((kc a).1=e.k)=false:=dF0 fun h=>nd.1 (by
     show a.k∈_;rw[show a.k=e.k from h];exact mM0.mpr ⟨e,he,rfl⟩)
    rw[this];exact ih nd.2 he
 rw[this]
 rfl
theorem b0o {es:List En}{k:Int}(h:k∉es.map (·.k))(z:Str):plc (es.map kc) k z=[]:=by
 unfold plc;rw[List.find?_eq_none.mpr fun x hx=>?_];obtain⟨e,he,rfl⟩:=mM0.mp hx;intro hd;exact h (mM0.mpr ⟨e,he,of_decide_eq_true hd⟩)
theorem a8S {kvs:List (Key×V)}{k:Key}{v u:V}(h:k∉kvs.map (·.1)):a2r (kvs++[(k,u)]) k v=kvs++[(k,v)]:=by
 unfold a2r;rw[if_pos (by rw[List.any_append];simp)];rw[mA0]
 congr 1
 ·conv=>rhs;rw[<-List.map_id kvs]
  refine List.map_congr_left fun x hx=>?_;rw[if_neg (fun e=>h (mM0.mpr ⟨x,hx,e⟩))]
  rfl
 ·simp
structure b2K (G H H':Hp) (p:Addr) (ts:List Tt):Prop where
 at_:H' p=some (.dK (tK ts))
 nw:∀t∈ts,H t.r=none
 rt:∀t∈ts,H' t.r=some (.dK (pK t.rs))
 rw_:∀t∈ts,∀r∈t.rs,G r.q=some (.dK (rK r.row))/\a6l r.row
 nr:(ts.map (·.r)).Nodup
 pn:∀t∈ts,(t.rs.map (·.pl)).Nodup
 pl:∀t∈ts,t.rs.length<64
def b2O (CP:Addr):Sp:=fun vs H Q _=>∃(a:Addr) (sz:Int) (Ts:List Tb) (es:List En) (k:Int) (G:Hp),vs=[.ref a,.int k]/\a0k G H/\a5v CP G a sz Ts es/\(∀e∈es,∀z,(tab e.pc z).length<64)/\∀p ts H',a0k H H'->H p=none->b2K G H H' p ts->ts.map cT=a6o (Ts.map (·.name)) (es.map kc) k->Q (.ref p) H'
theorem b2K.snoc {G H H' H'':Hp}{p:Addr}{ts:List Tt}(h:b2K G H H' p ts)(hp:H p=none)(t:Tt)(ap:t.r≠p)(n1:H' t.r=none)(n0:H t.r=none)(fr:∀b o,b≠p->H' b=some o->H'' b=some o)(e1:H'' p=some (.dK (tK ts++[(.inr t.z,.ref t.r)])))(e2:H'' t.r=some (.dK (pK t.rs)))
  (e3:∀r∈t.rs,G r.q=some (.dK (rK r.row))/\a6l r.row) (e4:(t.rs.map (·.pl)).Nodup) (e5:t.rs.length<64) (np:∀t'∈ts,t'.r≠p):b2K G H H'' p (ts++[t]):=by
 have key:∀{Pp:Tt->Prop},(∀t'∈ts,Pp t')->Pp t->∀t'∈ts++[t],Pp t':=fun h1 h2 t' ht=>by
  rcases mB0.mp ht with ht |ht
  ·exact h1 t' ht
  ·rw[mS0.mp ht];exact h2
 refine⟨?_,key h.nw n0,key (fun t' ht=>fr _ _ (np t' ht) (h.rt t' ht)) e2,key h.rw_ e3,?_,key h.pn e4,key h.pl e5⟩
 ·rw[e1]
  unfold tK;rw[mA0]
  rfl
 ·rw[mA0,List.nodup_append]
  refine⟨h.nr,List.nodup_cons.mpr ⟨(fun h=>nomatch h),List.nodup_nil⟩,fun x h1 y h2 e=>?_⟩;obtain⟨t',ht,e'⟩:=mM0.mp h1;have e'':=mS0.mp h2;have hh:=h.rt t' ht;change t'.r=x at e';change y=t.r at e'';rw[e',e,e'',n1] at hh;cases hh
theorem b2K.np {G H H':Hp}{p:Addr}{ts:List Tt}(h:b2K G H H' p ts):∀t∈ts,t.r≠p:=fun t ht e=>by
 have h1:=h.rt t ht;rw[e,h.at_] at h1
 injection h1 with h1
 injection h1 with h1
 have:=a9B ht
 rw[h1] at this;obtain⟨x,_,e2⟩:=mM0.mp this
 injection e2 with e2
 cases e2
section
variable {P:Program}{w:World}{K:Fg0}{mg:Str->Option Value}{base:Heap}{CP:Addr}
theorem b4r {f fT:Addr}{fd fdT:FuncData}(F:Fun K "by_place" "Plain.by_place" (a0p (top 26) 2) f fd)(B:Bl mg)(L:ClP K CP)(DT:Df K mg "tables_of" (top 18) fT fdT):a0A P w K mg base CX0 2 f fd ["self","key"] (b2O CP):=by
 have sc:a0o ["self","key","placed","table"] ["self","key"] (a0g (a0p (top 26) 2)):=.k (by decide +kernel);have GT:a0A P w K mg base CX0 1 fT fdT ["form"] a3M:=a2M DT.fn;have bT:=DT.fn.b1 "form" (by intros;rfl);refine F.ok sc (fun vs H Q E h=>?_) (fun cdv A outer s H vs Q E hr h=>?_)
 ·obtain⟨a,sz,Ts,es,k,G,rfl,_⟩:=h
  rfl
 ·obtain⟨a,sz,Ts,es,k,G,rfl,sG,⟨⟨dx,fo,td,ha0,hf0,htsG⟩,htb⟩,h64,q⟩:=h
  have ha:=sG _ _ ha0;have hf:=hf0.same sG;have hts:=htsG.same sG;have hu:=a1T hr;refine⟨_,a0b (a0n (i:=2) sc.nd rfl (Or.inl rfl) a1n)
   (a0b (a0X PassesOwn.never rfl (a0S (a0l GT hr (by rfl) DT.mg DT.fn.kp bT .nil a0E (a0a (a2h (pv 0) rfl) a0e))) (a0m (i:=3) sc.nd rfl (Or.inl rfl))
    (a0b (a1h hu (pv 2) (pv 3) a1n rfl) (a0h (a0P (a2z (a4n hu (pv 1) (a2h (pv 0) rfl)))
     (a0h (a1h hu (pv 2) (pv 3) (a6J rfl (by rfl) B.dict (by rfl) B.enum (a0L hu (a0L hu (a2h (pv 0) rfl) (pv 1) (fun _ _=>rfl)) (pv 3) (fun _ _=>rfl))) rfl)) a0s)))) (a0h (a0F (pv 2)))),?_⟩
  refine fun p hp=>?_;generalize hX:upd H p _=H1;obtain⟨S0,d0⟩:=gz hX hp;refine⟨_,rfl,a,CP,dx,_,_,rfl,S0 _ _ ha,L.cl,L.nF,a2i,fo,sz,Ts,rfl,hf.at_.same S0,hf.le,fun l H2 hl s2 l2=>?_⟩;have hlp:l≠p:=fun e=>by rw[e,d0] at hl;cases hl
  have hl0:H l=none:=a0v S0 hl;have S2:=S0.trans s2;refine⟨l,rfl,⟨_,SqL.of l2⟩,a0W (K:=K) (a:=l) (xs:=(Ts.map (·.name)).map V.str) (fun i σ H3=>a0k H H3/\H3 l=some (.lst ((Ts.map (·.name)).map V.str))/\(∃u,σ=[some (.ref a),some (.int k),some (.ref p),u])/\∃ts,b2K G H H3 p ts/\ts.map cT=a6o ((Ts.map (·.name)).take i) (es.map kc) k) ⟨S2,l2,⟨_,rfl⟩,[],⟨s2 _ _ d0,(fun t h=>nomatch h),(fun t h=>nomatch h),(fun t h=>nomatch h),List.nodup_nil,(fun t h=>nomatch h),(fun t h=>nomatch h)⟩,rfl⟩ (fun i σ H3 _ p=>SqL.of p.2.1) ?_ ?_⟩
  ·rintro i x σ H3 hx ⟨sm,l3,⟨u,rfl⟩,ts,hB,hc⟩
   have hi:i<(Ts.map (·.name)).length:=by
    have:=(gS0.mp hx).1
    rwa [lM0] at this
   rw[gM0,gE0 hi] at hx;cases hx;generalize hz:(Ts.map (·.name))[i]=z;have zin:z∈Ts.map (·.name):=hz▸gQ0 hi;have tz:ts.map (·.z)=(Ts.map (·.name)).take i:=by
    have:=congrArg (List.map Prod.fst) hc
    unfold a6o at this;rw[mC0,mC0] at this;rw[show(ts.map (·.z))=ts.map (Prod.fst∘cT) from rfl,this];show List.map (fun z=>z) _=_;rw[List.map_id']
   have hnew:(.inr z:Key)∉(tK ts).map (·.1):=fun hm=>by
    unfold tK at hm;rw[mC0] at hm;obtain⟨t,ht,e⟩:=mM0.mp hm;have e2:t.z=z:=by injection e
    have h1:z∈(Ts.map (·.name)).take i:=by rw[<-tz];exact mM0.mpr ⟨t,ht,e2⟩
    have nd:=hf.nd;rw[<-List.take_append_drop i (Ts.map (·.name)),List.nodup_append] at nd;refine nd.2.2 z h1 z ?_ rfl;rw[List.drop_eq_getElem_cons hi,hz];exact List.mem_cons_self
   have hval:a1k (tK ts) (.inr z)=none:=by
    cases e:a1k (tK ts) (.inr z) with
    |none=>rfl
    |some v=>exact absurd (b4S e) hnew
   have tl:(tK ts).length<=8:=by
    unfold tK;rw[lM0,<-lM0 (f:=(·.z)) (as:=ts),tz,lT0,lM0]
    have:=hf.le
    omega
   have htk:∀c,(ts.map cT)++[(z,c)]=a6o ((Ts.map (·.name)).take (i+1)) (es.map kc) k↔c=plc (es.map kc) k z:=fun c=>by
    rw[hc,tS0,gE0 hi,hz];unfold a6o;rw[mA0];show _++[(z,c)]=_++[(z,plc (es.map kc) k z)]↔_;rw[List.append_cancel_left_eq]
    constructor
    ·intro h;injection h with h _;injection h
    ·intro h;rw[h]
   refine fun e0 he0=>⟨_,rfl,_,rfl,p,_,rfl,.inl ⟨tK ts,.inr z,(a0k.upd he0) _ _ hB.at_,rfl,(by rw[sizeLine_eq];omega),rfl⟩,?_⟩;have nep:e0≠p:=fun e=>by rw[e,hB.at_] at he0;cases he0
   have he00:H e0=none:=a0v sm he0;rw[a1j _ hval];have S4:a0k H (upd (upd H3 e0 (.dK [])) p (.dK (tK ts++[(.inr z,.ref e0)]))):=(sm.put he00).put hp;have fr4:∀b o,b≠p->H3 b=some o->(upd (upd H3 e0 (.dK [])) p (.dK (tK ts++[(.inr z,.ref e0)]))) b=some o:=fun b o nb hb=>by rw[a0d nb];exact(a0k.upd he0) _ _ hb
   have p4:(upd (upd H3 e0 (.dK [])) p (.dK (tK ts++[(.inr z,.ref e0)]))) p=some (.dK (tK ts++[(.inr z,.ref e0)])):=a0c;have e4:(upd (upd H3 e0 (.dK [])) p (.dK (tK ts++[(.inr z,.ref e0)]))) e0=some (.dK []):=by rw[a0d nep];exact a0c
   generalize upd (upd H3 e0 (.dK [])) p (.dK (tK ts++[(.inr z,.ref e0)]))=H4 at *;have hts4:=hts.same S4
   by_cases hk:k∈es.map (·.k)
   ·obtain⟨e,he,rfl⟩:=mM0.mp hk
    obtain⟨lr,g1,⟨rs,b1,b2,b3⟩,g3,g4⟩:=a2S.get (htsG.ok _ he) (htsG.th _ he) (htb e he z zin);have h64':=h64 e he z;refine⟨_,rfl,_,rfl,a,CP,dx,_,_,rfl,S4 _ _ ha,L.cl,L.nT,a1p,td,_,rfl,hts4.get he,_,rfl,a6m ?_⟩;refine⟨_,rfl,a,CP,dx,_,_,rfl,S4 _ _ ha,L.cl,L.nT,a1p,_,rfl,td,_,rfl,hts4.get he,_,rfl,_,_,rfl,(a2q.up g1 (sG.trans S4)),lr,_,rfl,SqL.of ((sG.trans S4) _ _ b1),(by rw[lM0];omega),fun p2 hp2=>?_⟩;have n2:p2≠p:=fun e=>by rw[e,p4] at hp2;cases hp2
    have hp20:H p2=none:=a0v S4 hp2;refine⟨_,rfl,_,rfl,p,_,rfl,.inl ⟨_,.inr z,(a0k.upd hp2) _ _ p4,rfl,(by rw[lA0,sizeLine_eq];show _+1<_;omega),rfl⟩,?_⟩;rw[a8S hnew];have l4:H4 l=some (.lst ((Ts.map (·.name)).map V.str)):=fr4 _ _ hlp l3;refine⟨(S4.put hp20).put hp,?_,⟨_,rfl⟩,ts++[⟨z,p2,rrs (tab e.pc z) rs⟩],?_,?_⟩
    ·rw[a0d hlp]
     exact(a0k.upd hp2) _ _ l4
    ·refine hB.snoc hp ⟨z,p2,rrs (tab e.pc z) rs⟩ n2 ?_ hp20 (fun b o nb hb=>?_) a0c ?_ (fun r hr'=>?_) (b6P _ _) ?_ hB.np
     ·cases e3:H3 p2 with
      |none=>rfl
      |some o=>rw[fr4 _ _ n2 e3] at hp2;cases hp2
     ·rw[a0d nb]
      exact(a0k.upd hp2) _ _ (fr4 _ _ nb hb)
     ·show _=some (HO.dK (pK (rrs (tab e.pc z) rs)))
      rw[b5A,a0d n2];exact a0c
     ·obtain⟨j,j1,j2⟩:=b4U b2 hr'
      exact⟨b3 j _ _ j1 j2,g4 _ (gI0 j2)⟩
     ·show(rrs (tab e.pc z) rs).length<64
      unfold rrs;rw[lI0]
      omega
    ·rw[mA0]
     show _++[(z,(rrs (tab e.pc z) rs).map cR)]=_;rw[htk,b7O b2,b3k hts.nd he]
   ·refine⟨_,rfl,_,rfl,a,CP,dx,_,_,rfl,S4 _ _ ha,L.cl,L.nT,a1p,td,_,rfl,hts4.non hk,_,rfl,a1R ?_⟩
    refine⟨S4,fr4 _ _ hlp l3,⟨_,rfl⟩,ts++[⟨z,e0,[]⟩],hB.snoc hp ⟨z,e0,[]⟩ nep he0 he00 fr4 p4 e4 (fun r h=>nomatch h) List.nodup_nil (by show 0<64;decide) hB.np,?_⟩;rw[mA0];show _++[(z,([]:List Rr).map cR)]=_;rw[htk,b0o hk]
    rfl
  ·rintro σ H3 ⟨sm,l3,⟨u,rfl⟩,ts,hB,hc⟩
   rw[lM0,List.take_length] at hc;exact⟨_,rfl,q p ts H3 sm hp hB hc⟩
end
end My
namespace L2
open PySem PySem.Spec PyProof.Rows
def del (d:Addr)(H:Hp):Hp:=fun b=>if b=d then none else H b
theorem a4I {d:Addr}{H:Hp}:a0k (del d H) H:=fun b o e=>by
 unfold del at e
 split at e
 ·cases e
 ·exact e
theorem b3C {d b:Addr}{H:Hp}{o:HO}(e:del d H b=some o):b≠d:=fun h=>by
 unfold del at e;rw[if_pos h] at e;cases e
theorem a9J {d b:Addr}{H:Hp}{o:HO}(n:b≠d)(e:H b=some o):del d H b=some o:=by
 unfold del;rw[if_neg n];exact e
theorem b3e {d:Addr}{H H':Hp}(s:a0k H H'):a0k (del d H) (del d H'):=fun b o e=>a9J (b3C e) (s _ _ (a4I _ _ e))
theorem b4H {d:Addr}{H:Hp}{o:HO}:del d (upd H d o)=del d H:=by
 funext b
 unfold del
 by_cases e:b=d
 ·rw[if_pos e,if_pos e]
 ·rw[if_neg e,if_neg e,a0d e]
theorem a9k {d:Addr}{H H':Hp}(s:a0k H H')(h:H d=none):a0k H (del d H'):=fun b o e=>a9J (a0j e h) (s _ _ e)
end L2
namespace My
open PySem L2 PyProof.Rows
seal L2.PE L2.PT L2.PW L2.PS L2.PSs L2.PA L2.PI L2.PG L2.PGs L2.OpR L2.UnR L2.a1r L2.IxR L2.SlR L2.MtR L2.PIf L2.PO L2.MtM L2.PC
structure Nn where
 k:Int
 p:Addr
 ts:List Tt
abbrev Pt:=List (Str×List (Int×Rw))
def nK (st:List Nn):List (Key×V):=st.map fun n=>(.inl n.k,.ref n.p)
def cN (n:Nn):Int×Pt:=(n.k,n.ts.map cT)
def pcC (c:Str×List (Int×Rw)):Str×List Rw:=(c.1,(srt c.2).map (·.2))
def a9A (c:Pt):Bool:=c.any fun t=>decide (0<t.2.length)
def bhd (es:List (Int×Pc))(st:List (Int×Pt))(k:Int):Option (Int×Pc):=match st.find? fun c=>decide (c.1=k) with
 |some c=>if a9A c.2=true then some (k,c.2.map pcC) else none
 |none=>es.find? fun e=>decide (e.1=k)
theorem a9Q {α β:Type}{l:List α}{g:α->Int×β}(nd:(l.map fun x=>(g x).1).Nodup){x:α}(h:x∈l):(l.map g).find? (fun c=>decide (c.1=(g x).1))=some (g x):=by
 induction l with
 |nil=>cases h
 |cons a r ih=>
  rw[mN0,List.nodup_cons] at nd;rw[mN0,List.find?_cons];rcases mK0.mp h with rfl |h
  ·rw[dT0 rfl]
  ·rw[dF0 fun e=>nd.1 (by rw[e];exact mM0.mpr ⟨x,h,rfl⟩)]
   exact ih nd.2 h
theorem b1X {α β:Type}{l:List α}{g:α->Int×β}{k:Int}(h:k∉l.map fun x=>(g x).1):(l.map g).find? (fun c=>decide (c.1=k))=none:=
 List.find?_eq_none.mpr fun c hc hd=>by
  obtain⟨x,hx,rfl⟩:=mM0.mp hc;exact h (mM0.mpr ⟨x,hx,of_decide_eq_true hd⟩)
theorem a6u {es:List (Int×Pc)}{st:List (Int×Pt)}{k:Int}{c:Int×Pc}(h:bhd es st k=some c):c.1=k:=by
 unfold bhd at h
 split at h
 ·split at h
  ·injection h with h
   rw[<-h]
  ·cases h
 ·exact of_decide_eq_true (List.find?_some (p:=fun e:Int×Pc=>decide (e.1=k)) h)
theorem a3t (es:List (Int×Pc))(st:List (Int×Pt))(ms:List Int):((ms.filterMap (bhd es st)).map (·.1)).Sublist ms:=by
 induction ms with
 |nil=>exact List.Sublist.slnil
 |cons m r ih=>
  rw[List.filterMap_cons];cases e:bhd es st m with
  |none=>exact ih.cons _
  |some c=>
   show((c::_).map (·.1)).Sublist _
   rw[mN0,a6u e];exact ih.cons₂ _
theorem b0k (ts:List Tt):a9A (ts.map cT)=ts.any fun t=>decide (0<t.rs.length):=by
 unfold a9A;rw[List.any_map]
 congr 1
 funext t
 show decide (0<(t.rs.map cR).length)=_;rw[lM0]
theorem b7R (ts:List Tt):(ts.map cT).map pcC=ts.map pcT:=by
 rw[mC0]
 rfl
theorem b4f {ts:List Tt}(ok:b2G ts):b1Z (ts.map pcT):=by
 refine⟨?_,?_,fun t ht=>?_,fun t ht row hrow=>?_⟩
 ·rw[mC0]
  exact ok.nd
 ·rw[lM0]
  exact ok.le
 ·obtain⟨t,ht',rfl⟩:=mM0.mp ht
  show((srt (t.rs.map cR)).map (·.2)).length<=1000
  rw[lM0,(a0C _).length_eq,lM0]
  have:=ok.pl t ht'
  omega
 ·obtain⟨t,ht',rfl⟩:=mM0.mp ht
  have hrow':row∈(srt (t.rs.map cR)).map (·.2):=hrow;obtain⟨c,hc,rfl⟩:=mM0.mp hrow';obtain⟨r,hr,rfl⟩:=mM0.mp ((a0C _).mem_iff.mp hc);exact ok.ok t ht' r hr
theorem a9I {α:Type}[DecidableEq α]{l r:List α}(nd:l.Nodup)(h:∀x∈l,x∈r):l.length<=r.length:=by
 induction l generalizing r with
 |nil=>exact zL0 _
 |cons a l ih=>
  rw[List.nodup_cons] at nd;have ha:=h a List.mem_cons_self
  have:=ih nd.2 (r:=r.erase a) (fun x hx=>by
   refine(List.mem_erase_of_ne (fun e=>nd.1 (by rw[<-e];exact hx))).mpr (h x (mL0 _ hx)))
  rw[List.length_erase_of_mem ha] at this
  have:=List.length_pos_of_mem ha
  rw[List.length_cons]
  omega
def a7b (CP:Addr):Sp:=fun vs H Q _=>∃(a N:Addr) (sz:Int) (Ts:List Tb) (es:List En) (st:List Nn),vs=[.ref a,.ref N]/\a5v CP H a sz Ts es/\H N=some (.dK (nK st))/\(st.map (·.k)).Nodup/\(∀n∈st,b0P H n.p n.ts/\b2G n.ts)/\es.length+st.length<=60 ∧
 ∀(td:Addr) (us:List En) (ms:List Int) (H':Hp),a0k H H'->a1F H' td us->ms.Nodup->ms.Pairwise (·<=·)->(∀x,x∈ms↔x∈es.map (·.k)\/x∈st.map (·.k))->us.map kc=ms.filterMap (bhd (es.map kc) (st.map cN))->Q (.ref td) H'
section
variable {P:Program}{w:World}{K:Fg0}{mg:Str->Option Value}{base:Heap}{CP:Addr}
theorem a9e {f fH fP:Addr}{fd fdH fdP:FuncData}(F:Fun K "things_behind" "Plain.things_behind" (a0p (top 26) 3) f fd)(B:Bl mg)(L:ClP K CP)(DH:Df K mg "has_rows" (top 29) fH fdH)(DP:Df K mg "piece_of" (top 30) fP fdP):a0A P w K mg base CX0 2 f fd ["self","named"] (a7b CP):=by
 have sc:a0o ["self","named","kept","key"] ["self","named"] (a0g (a0p (top 26) 3)):=.k (by decide +kernel);have GH:a0A P w K mg base CX0 1 fH fdH ["placed"] b4F:=b2F DH.fn B;have bH:=DH.fn.b1 "placed" (by intros;rfl);have GP:a0A P w K mg base CX0 1 fP fdP ["placed"] a6h:=a8c DP.fn B;have bP:=DP.fn.b1 "placed" (by intros;rfl);refine F.ok sc (fun vs H Q E h=>?_) (fun cdv A outer s H vs Q E hr h=>?_)
 ·obtain⟨a,N,sz,Ts,es,st,rfl,_⟩:=h
  rfl
 ·obtain⟨a,N,sz,Ts,es,st,rfl,⟨⟨dx,fo,td,ha,hf,hts⟩,htb⟩,hN,snd,hst,h60,q⟩:=h
  have hu:=a1T hr;refine⟨_,a0b (a0n (i:=2) sc.nd rfl (Or.inl rfl) a1n)
   (a0b (a0X PassesOwn.never rfl (a0S (a0D (a3f rfl) (by rfl) B.sorted boot_sorted (a0a (a0B b6d (a0Z a4y (by rfl) B.set boot_set (a0a (a2h (pv 0) rfl) a0e)) (a0Z a4y (by rfl) B.set boot_set (a0a (pv 1) a0e))) a0e))) (a0m (i:=3) sc.nd rfl (Or.inl rfl))
    (a0h (a0P (a2z (a2C hu (pv 3) (pv 1))) (a0h (a1h hu (pv 2) (pv 3) (a0L hu (a2h (pv 0) rfl) (pv 3) (fun _ _=>rfl)) rfl))
     (a0h (a0P (a2W (a0l GH hr (by rfl) DH.mg DH.fn.kp bH .nil a0E (a0a (a0L hu (pv 1) (pv 3) (fun _ _=>rfl)) a0e))) (a0h (a1h hu (pv 2) (pv 3) (a0l GP hr (by rfl) DP.mg DP.fn.kp bP .nil a0E (a0a (a0L hu (pv 1) (pv 3) (fun _ _=>rfl)) a0e)) rfl)) a0s))))) (a0h (a0F (pv 2)))),?_⟩
  refine fun d hd=>?_;generalize hX:upd H d _=H1;obtain⟨S0,d0⟩:=gz hX hd;have ek:(nK st).map (·.1)=(st.map (·.k)).map Sum.inl:=by unfold nK;rw[mC0,mC0];rfl
  have el:(kvT es).length=es.length:=by unfold kvT;rw[lM0]
  have sl:(nK st).length=st.length:=by unfold nK;rw[lM0]
  refine⟨_,rfl,a,CP,dx,_,_,rfl,S0 _ _ ha,L.cl,L.nT,a1p,td,_,es.map (·.k),rfl,.inl (S0 _ _ hts.at_),(by unfold kvT;rw[mC0,mC0];rfl),(by omega),fun q1 hq1=>?_⟩;generalize hX2:upd H1 q1 _=H2;have T2:a0k H1 H2:=hX2▸a0k.upd hq1;have e2:H2 q1=some (.ext (a1B P w q1 (es.map (·.k)))):=by rw[<-hX2];exact a0c
  refine⟨_,rfl,N,_,st.map (·.k),rfl,.inl ((S0.trans T2) _ _ hN),ek,(by omega),fun q2 hq2=>?_⟩;generalize hX3:upd H2 q2 _=H3;have T3:a0k H2 H3:=hX3▸a0k.upd hq2;have e3:H3 q2=some (.ext (a1B P w q2 (st.map (·.k)))):=by rw[<-hX3];exact a0c
  refine⟨q1,q2,_,_,rfl,rfl,(fun e=>by rw[<-e,e2] at hq2;cases hq2),T3 _ _ e2,e3,(by rw[lM0,lM0];exact h60),fun q3 ms hq3 msn msm=>?_⟩;generalize hX4:upd H3 q3 _=H4;have T4:a0k H3 H4:=hX4▸a0k.upd hq3;have e4:H4 q3=some (.ext (a1B P w q3 ms)):=by rw[<-hX4];exact a0c
  have m60:ms.length<=60:=by
   have:=a9I (r:=es.map (·.k)++st.map (·.k)) msn fun x hx=>mB0.mpr ((msm x).mp hx)
   rw[lA0,lM0,lM0] at this
   omega
  refine⟨q3,ms,rfl,e4,(by omega),fun l ns hl hpn hsn=>?_⟩;generalize hX:upd H4 l _=H5;obtain⟨T5,e5⟩:=gz hX hl;have ndn:ns.Nodup:=hpn.symm.nodup msn;have nsm:∀x,x∈ns↔x∈es.map (·.k)\/x∈st.map (·.k):=fun x=>by rw[hpn.mem_iff];exact msm x
  have n60:ns.length<=60:=by rw[hpn.length_eq];exact m60
  have S5:=S0.trans (T2.trans (T3.trans (T4.trans T5)));refine⟨l,rfl,⟨_,SqL.of e5⟩,a0W (K:=K) (a:=l) (xs:=ns.map V.int) (fun i σ H6=>a0k H H6/\H6 l=some (.lst (ns.map V.int))/\(∃u,σ=[some (.ref a),some (.ref N),some (.ref d),u])/\∃us:List En,H6 d=some (.dK (kvT us))/\us.map kc=(ns.take i).filterMap (bhd (es.map kc) (st.map cN))/\∀e∈us,a2S (del d H6) e.p e.pc/\b1Z e.pc)
   ⟨S5,e5,⟨_,rfl⟩,[],(T2.trans (T3.trans (T4.trans T5))) _ _ d0,rfl,fun e h=>nomatch h⟩ (fun i σ H6 _ p=>SqL.of p.2.1) ?_ ?_⟩
  ·rintro i x σ H6 hx ⟨sm,l6,⟨u,rfl⟩,us,d6,hus,hpc⟩
   have hi:i<ns.length:=by
    have:=(gS0.mp hx).1
    rwa [lM0] at this
   rw[gM0,gE0 hi] at hx;cases hx;generalize hk:ns[i]=k;have kin:k∈ns:=hk▸gQ0 hi;have knew:k∉ns.take i:=fun hm=>by
    have nd:=ndn;rw[<-List.take_append_drop i ns,List.nodup_append] at nd;refine nd.2.2 k hm k ?_ rfl;rw[List.drop_eq_getElem_cons hi,hk];exact List.mem_cons_self
   have hsub:(us.map (·.k)).Sublist (ns.take i):=by
    have:=a3t (es.map kc) (st.map cN) (ns.take i)
    rw[<-hus,mC0] at this;exact this
   have hval:a1k (kvT us) (.inl k)=none:=a1o (f:=En.k) (g:=fun t:En=>V.ref t.p) fun hm=>knew (hsub.subset hm);have ul:(kvT us).length<=60:=by
    have:=hsub.length_le
    rw[lM0,lT0] at this;unfold kvT;rw[lM0]
    omega
   have hstep:∀o,bhd (es.map kc) (st.map cN) k=o->(ns.take (i+1)).filterMap (bhd (es.map kc) (st.map cN))=us.map kc++o.toList:=fun o ho=>by
    rw[tS0,gE0 hi,hk,List.filterMap_append,<-hus];show _++List.filterMap _ [k]=_;rw[List.filterMap_cons,ho];cases o<;>rfl
   have fin:∀{H7:Hp} (e:En),a0k H6 H7->e.k=k->a2S (del d H7) e.p e.pc->b1Z e.pc->bhd (es.map kc) (st.map cN) k=some (kc e)->(a0k H (upd H7 d (.dK (kvT us++[(.inl k,.ref e.p)])))/\(upd H7 d (.dK (kvT us++[(.inl k,.ref e.p)]))) l=some (.lst (ns.map V.int))/\(∃u,[some (V.ref a),some (.ref N),some (.ref d),some (.int k)]=[some (.ref a),some (.ref N),some (.ref d),u])/\∃us':List En,(upd H7 d (.dK (kvT us++[(.inl k,.ref e.p)]))) d=some (.dK (kvT us'))/\us'.map kc=(ns.take (i+1)).filterMap (bhd (es.map kc) (st.map cN))/\∀e'∈us',a2S (del d (upd H7 d (.dK (kvT us++[(.inl k,.ref e.p)])))) e'.p e'.pc/\b1Z e'.pc):=by
    intro H7 e s7 ek' pe oke hb;have nld:l≠d:=fun e=>by rw[e,d6] at l6;cases l6
    refine⟨(sm.trans s7).put hd,by rw[a0d nld];exact s7 _ _ l6,⟨_,rfl⟩,us++[e],?_,?_,fun e' he'=>?_⟩
    ·rw[a0c]
     unfold kvT;rw[mA0,<-ek']
     rfl
    ·rw[hstep _ hb,mA0]
     rfl
    ·rw[b4H]
     rcases mB0.mp he' with he' |he'
     ·exact⟨(hpc e' he').1.same (b3e s7),(hpc e' he').2⟩
     ·rw[mS0.mp he']
      exact⟨pe,oke⟩
   have hts6:=hts.same sm
   by_cases hks:k∈st.map (·.k)
   ·obtain⟨n,hn,rfl⟩:=mM0.mp hks
    have gN:a2q H6 N (.int n.k) (some (.ref n.p)):=.inl ⟨_,.inl n.k,.inl (sm _ _ hN),rfl,(a0U (f:=Nn.k) (g:=fun t:Nn=>V.ref t.p) snd hn).symm⟩;have hb:bhd (es.map kc) (st.map cN) n.k=if a9A (n.ts.map cT)=true then some (n.k,(n.ts.map cT).map pcC) else none:=by
     unfold bhd;rw[show n.k=(cN n).1 from rfl,a9Q (g:=cN) snd hn]
     rfl
    rw[b0k,b7R] at hb;refine⟨_,rfl,_,rfl,N,_,rfl,gN,_,rfl,a1R ?_⟩;obtain⟨hpd,okd⟩:=hst n hn;refine⟨_,rfl,_,rfl,N,_,rfl,gN,n.p,n.ts,rfl,hpd.same sm,okd,fun H7 s7=>⟨_,rfl,?_⟩⟩;cases hany:n.ts.any fun t=>decide (0<t.rs.length) with
    |false=>
     rw[hany] at hb;refine a1R ⟨sm.trans s7,s7 _ _ l6,⟨_,rfl⟩,us,s7 _ _ d6,?_,fun e he=>⟨(hpc e he).1.same (b3e s7),(hpc e he).2⟩⟩;rw[hstep none hb];exact(List.append_nil _).symm
    |true=>
     rw[hany] at hb;have sG:a0k H (del d H7):=a9k (sm.trans s7) hd;have gN7:a2q H7 N (.int n.k) (some (.ref n.p)):=a2q.up gN s7;refine a6m ⟨_,rfl,_,rfl,N,_,rfl,gN7,n.p,n.ts,del d H7,rfl,a4I,hpd.same sG,okd,fun p' H8 s8 hp'=>?_⟩;refine⟨_,rfl,_,rfl,d,_,rfl,.inl ⟨kvT us,.inl n.k,(s7.trans s8) _ _ d6,rfl,(by rw[sizeLine_eq];omega),rfl⟩,?_⟩;rw[a1j _ hval];have sj:a0k (jn (del d H7) (cut H7 H8)) (del d H8):=fun b o e=>by
      have e1:=b5v (a4I.trans s8) _ _ e;refine a9J (fun eb=>?_) e1;subst eb;unfold jn at e;have c0:cut H7 H8 b=none:=by unfold cut;rw[s7 _ _ d6]
      rw[c0] at e;exact b3C e rfl
     exact fin ⟨n.k,p',n.ts.map pcT⟩ (s7.trans s8) rfl (hp'.same sj) (b4f okd) hb
   ·have hke:k∈es.map (·.k):=((nsm k).mp kin).resolve_right hks
    obtain⟨e,he,rfl⟩:=mM0.mp hke;have gN:a2q H6 N (.int e.k) none:=.inl ⟨_,.inl e.k,.inl (sm _ _ hN),rfl,(a1o (f:=Nn.k) (g:=fun t:Nn=>V.ref t.p) hks).symm⟩;refine⟨_,rfl,_,rfl,N,_,rfl,gN,_,rfl,a6m ?_⟩;refine⟨_,rfl,a,CP,dx,_,_,rfl,sm _ _ ha,L.cl,L.nT,a1p,_,rfl,td,_,rfl,hts6.get he,?_⟩;refine⟨_,rfl,_,rfl,d,_,rfl,.inl ⟨kvT us,.inl e.k,d6,rfl,(by rw[sizeLine_eq];omega),rfl⟩,?_⟩;rw[a1j _ hval];refine fin e (a0k.refl _) rfl ((hts.th e he).same (a9k sm hd)) (hts.ok e he) ?_;unfold bhd;rw[b1X (g:=cN) hks,show e.k=(kc e).1 from rfl];exact a9Q (g:=kc) hts.nd he
  ·rintro σ H6 ⟨sm,l6,⟨u,rfl⟩,us,d6,hus,hpc⟩
   rw[lM0,List.take_length] at hus;have hsub:(us.map (·.k)).Sublist ns:=by
    have:=a3t (es.map kc) (st.map cN) ns
    rw[<-hus,mC0] at this;exact this
   refine⟨_,rfl,q d us ns H6 sm ⟨d6,hsub.nodup ndn,?_,fun e he=>(hpc e he).1.same a4I,fun e he=>(hpc e he).2⟩ ndn hsn nsm hus⟩
   have:=hsub.length_le
   rw[lM0] at this
   omega
end
structure Stp where
 vb:Str
 z:Str
 k:Int
 p:Int
 row:Rw
def b0R (s:Stp)(n:Int×Pt):Int×Pt:=if n.1=s.k then(n.1,n.2.map fun t=>if t.1=s.z then(t.1,a5N s.vb (s.p,s.row) t.2) else t) else n
def a8v (names:List Str)(es:List (Int×Pc))(k:Int)(c:List (Int×Pt)):List (Int×Pt):=if k∈c.map (·.1) then c else c++[(k,a6o names es k)]
def a8r (names:List Str)(es:List (Int×Pc))(c:List (Int×Pt))(s:Stp):List (Int×Pt):=(a8v names es s.k c).map (b0R s)
def b7e (names:List Str)(es:List (Int×Pc))(c:List (Int×Pt))(s:Stp):Prop:=∀n∈a8v names es s.k c,n.1=s.k->∀t∈n.2,t.1=s.z->Can s.vb s.p (t.2.map (·.1))
abbrev Rho:=Addr->Option (Option (Int×Str))
def hid (ρ:Rho)(H:Hp):Hp:=fun b=>match ρ b with |none=>H b |some _=>none
theorem a1P {ρ:Rho}{H:Hp}:a0k (hid ρ H) H:=fun b o e=>by
 unfold hid at e
 split at e
 ·exact e
 ·cases e
theorem a4r {ρ:Rho}{H:Hp}{b:Addr}{o:HO}(h:ρ b=none)(e:H b=some o):hid ρ H b=some o:=by
 unfold hid;rw[h];exact e
theorem a9H {ρ:Rho}{H:Hp}{b:Addr}{o:HO}(e:hid ρ H b=some o):ρ b=none:=by
 unfold hid at e
 split at e
 ·assumption
 ·cases e
theorem b0h {ρ:Rho}{H H':Hp}(s:a0k H H'):a0k (hid ρ H) (hid ρ H'):=fun b o e=>a4r (a9H e) (s _ _ (a1P _ _ e))
structure a6p (H0:Hp) (ρ:Rho) (H:Hp) (N:Addr) (names:List Str) (b:Nat) (st:List Nn):Prop where
 bs:a0k H0 (hid ρ H)
 al:∀x,ρ x≠none->H x≠none
 rN:ρ N=some none
 at_:H N=some (.dK (nK st))
 pd:∀n∈st,hid ρ H n.p=some (.dK (tK n.ts))
 rr:∀n∈st,∀t∈n.ts,ρ t.r=some (some (n.k,t.z))/\H t.r=some (.dK (pK t.rs))
 qq:∀n∈st,∀t∈n.ts,∀r∈t.rs,hid ρ H r.q=some (.dK (rK r.row))/\a6l r.row
 nd:(st.map (·.k)).Nodup
 pn:∀n∈st,∀t∈n.ts,(t.rs.map (·.pl)).Nodup/\t.rs.length<=b
 zs:∀n∈st,n.ts.map (·.z)=names
theorem a6p.up {H0 H H':Hp}{ρ:Rho}{N:Addr}{names:List Str}{b:Nat}{st:List Nn}(h:a6p H0 ρ H N names b st)(s:a0k H H'):a6p H0 ρ H' N names b st:=
 ⟨h.bs.trans (b0h s),fun x hx e=>h.al x hx (a0v s e),h.rN,s _ _ h.at_,fun n hn=>b0h s _ _ (h.pd n hn),fun n hn t ht=>⟨(h.rr n hn t ht).1,s _ _ (h.rr n hn t ht).2⟩,fun n hn t ht r hr=>⟨b0h s _ _ (h.qq n hn t ht r hr).1,(h.qq n hn t ht r hr).2⟩,h.nd,h.pn,h.zs⟩
theorem a6p.get {H0 H:Hp}{ρ:Rho}{N:Addr}{names:List Str}{b:Nat}{st:List Nn}(h:a6p H0 ρ H N names b st){n:Nn}(hn:n∈st):b0P H n.p n.ts:=
 ⟨a1P _ _ (h.pd n hn),fun t ht=>(h.rr n hn t ht).2,fun t ht r hr=>a1P _ _ (h.qq n hn t ht r hr).1⟩
theorem a6p.ok {H0 H:Hp}{ρ:Rho}{N:Addr}{names:List Str}{b:Nat}{st:List Nn}(h:a6p H0 ρ H N names b st)(nn:names.Nodup)(n8:names.length<=8)(b64:b<64){n:Nn}(hn:n∈st):b2G n.ts:=
 ⟨by rw[h.zs n hn];exact nn,by rw[<-lM0 (f:=(·.z)),h.zs n hn];exact n8,fun t ht=>(h.pn n hn t ht).1,fun t ht=>Nat.lt_of_le_of_lt (h.pn n hn t ht).2 b64,fun t ht r hr=>(h.qq n hn t ht r hr).2⟩
theorem b0N {α β:Type}{f:α->β}{l:List α}(nd:(l.map f).Nodup){a b:α}(ha:a∈l)(hb:b∈l)(e:f a=f b):a=b:=by
 induction l with
 |nil=>cases ha
 |cons x r ih=>
  rw[mN0,List.nodup_cons] at nd;rcases mK0.mp ha with ha1 |ha1
  ·rcases mK0.mp hb with hb1 |hb1
   ·rw[ha1,hb1]
   ·refine absurd ?_ nd.1
    rw[<-ha1,e];exact mM0.mpr ⟨b,hb1,rfl⟩
  ·rcases mK0.mp hb with hb1 |hb1
   ·refine absurd ?_ nd.1
    rw[<-hb1,<-e];exact mM0.mpr ⟨a,ha1,rfl⟩
   ·exact ih nd.2 ha1 hb1
def a8s (ρ:Rho)(k:Int)(ts:List Tt):Rho:=fun b=>match ts.find? fun t=>decide (t.r=b) with |some t=>some (some (k,t.z)) |none=>ρ b
theorem a6p.add {H0 H H':Hp}{ρ:Rho}{N:Addr}{names:List Str}{b:Nat}{st:List Nn}(h:a6p H0 ρ H N names b st){k:Int}{p:Addr}{ts:List Tt}(s:a0k H H')(hp:H p=none)(hb:b2K H0 H H' p ts)(hk:k∉st.map (·.k))(hz:ts.map (·.z)=names)(hl:∀t∈ts,t.rs.length<=b) :
  a6p H0 (a8s ρ k ts) (upd H' N (.dK (nK (st++[⟨k,p,ts⟩])))) N names b (st++[⟨k,p,ts⟩]):=by
 have f0:∀{x:Addr},(∀t∈ts,t.r≠x)->a8s ρ k ts x=ρ x:=fun hx=>by
  unfold a8s;rw[List.find?_eq_none.mpr fun t ht hd=>hx t ht (of_decide_eq_true hd)]
 have f1:∀{x:Addr} {o:HO},H x=some o->a8s ρ k ts x=ρ x:=fun hx=>f0 fun t ht e=>by
  have:=hb.nw t ht
  rw[e,hx] at this;cases this
 have f2:∀t∈ts,a8s ρ k ts t.r=some (some (k,t.z)):=fun t ht=>by
  unfold a8s;cases e:ts.find? fun t'=>decide (t'.r=t.r) with
  |none=>exact absurd (dT0 rfl) (List.find?_eq_none.mp e t ht)
  |some t'=>
   have:=b0N hb.nr (List.mem_of_find?_eq_some e) ht (of_decide_eq_true (List.find?_some (p:=fun t':Tt=>decide (t'.r=t.r)) e))
   rw[this]
 have f3:a8s ρ k ts p=none:=by
  rw[f0 hb.np];cases e:ρ p with
  |none=>rfl
  |some u=>exact absurd hp (h.al p (by rw[e];exact fun h=>nomatch h))
 have hN:a8s ρ k ts N=some none:=by rw[f1 h.at_];exact h.rN
 have nN:∀{x:Addr},a8s ρ k ts x=none->x≠N:=fun hx e=>by rw[e,hN] at hx;cases hx
 have mv:∀{x:Addr} {o:HO},hid ρ H x=some o->hid (a8s ρ k ts) (upd H' N (.dK (nK (st++[⟨k,p,ts⟩])))) x=some o:=fun {x o} hx=>by
  have hr:=a9H hx;have hh:=a1P _ _ hx;rw[<-f1 hh] at hr;refine a4r hr ?_;rw[a0d (nN hr)];exact s _ _ hh
 have key:∀{Pp:Nn->Prop},(∀n∈st,Pp n)->Pp ⟨k,p,ts⟩->∀n∈st++[(⟨k,p,ts⟩:Nn)],Pp n:=fun h1 h2 n hn=>by
  rcases mB0.mp hn with hn |hn
  ·exact h1 n hn
  ·rw[mS0.mp hn];exact h2
 refine⟨fun x o e=>mv (h.bs _ _ e),fun x hx=>?_,hN,a0c,key (fun n hn=>mv (h.pd n hn)) ?_,key (fun n hn t ht=>?_) (fun t ht=>⟨f2 t ht,?_⟩),key (fun n hn t ht r hr=>⟨mv (h.qq n hn t ht r hr).1,(h.qq n hn t ht r hr).2⟩) (fun t ht r hr=>⟨mv (h.bs _ _ (hb.rw_ t ht r hr).1),(hb.rw_ t ht r hr).2⟩),?_,key h.pn (fun t ht=>⟨hb.pn t ht,hl t ht⟩),key h.zs hz⟩
 ·by_cases e:x=N
  ·rw[e,a0c];exact fun h=>nomatch h
  ·rw[a0d e]
   cases e2:ts.find? fun t=>decide (t.r=x) with
   |some t=>
    have e3:t.r=x:=of_decide_eq_true (List.find?_some (p:=fun t:Tt=>decide (t.r=x)) e2);rw[<-e3,hb.rt t (List.mem_of_find?_eq_some e2)];exact fun h=>nomatch h
   |none=>
    unfold a8s at hx;rw[e2] at hx;exact fun e4=>h.al x hx (a0v s e4)
 ·refine a4r f3 ?_
  rw[a0d (nN f3)];exact hb.at_
 ·obtain⟨a1,a2⟩:=h.rr n hn t ht
  have a3:a8s ρ k ts t.r=some (some (n.k,t.z)):=by rw[f1 a2];exact a1
  refine⟨a3,?_⟩;rw[a0d (fun e=>by rw[e,hN] at a3;cases a3)];exact s _ _ a2
 ·rw[a0d (fun e=>by have:=f2 t ht;rw[e,hN] at this;cases this)]
  exact hb.rt t ht
 ·rw[mA0,List.nodup_append]
  refine⟨h.nd,List.nodup_cons.mpr ⟨(fun h=>nomatch h),List.nodup_nil⟩,fun x h1 y h2 e=>?_⟩;have e2:y=k:=mS0.mp h2;rw[e,e2] at h1;exact hk h1
def a8x (z vb:Str)(m:Rr)(t:Tt):Tt:=if t.z=z then⟨t.z,t.r,nxt vb m t.rs⟩ else t
def a8e (k:Int)(z vb:Str)(m:Rr)(n:Nn):Nn:=if n.k=k then⟨n.k,n.p,n.ts.map (a8x z vb m)⟩ else n
theorem a6W (z vb:Str)(m:Rr)(t:Tt):(a8x z vb m t).z=t.z/\(a8x z vb m t).r=t.r:=by unfold a8x;split<;>exact⟨rfl,rfl⟩
theorem a3w (k:Int)(z vb:Str)(m:Rr)(n:Nn):(a8e k z vb m n).k=n.k/\(a8e k z vb m n).p=n.p:=by unfold a8e;split<;>exact⟨rfl,rfl⟩
theorem b6U (s:Stp)(m:Rr)(h1:m.pl=s.p)(h2:m.row=s.row)(n:Nn):cN (a8e s.k s.z s.vb m n)=b0R s (cN n):=by
 unfold a8e b0R;show cN (if n.k=s.k then _ else n)=if n.k=s.k then _ else _
 split
 ·show(n.k,(n.ts.map (a8x s.z s.vb m)).map cT)=(n.k,(n.ts.map cT).map _)
  congr 1
  rw[mC0,mC0];refine List.map_congr_left fun t _=>?_;show cT (a8x s.z s.vb m t)=if t.z=s.z then _ else _
  unfold a8x
  split
  ·show(t.z,(nxt s.vb m t.rs).map cR)=(t.z,a5N s.vb (s.p,s.row) (t.rs.map cR))
   rw[b7y];unfold cR;rw[h1,h2]
  ·rfl
 ·rfl
theorem a6p.mod {H0 H H':Hp}{ρ:Rho}{N:Addr}{names:List Str}{b:Nat}{st:List Nn}(h:a6p H0 ρ H N names b st)(nn:names.Nodup){n:Nn}{t:Tt}(hn:n∈st)(ht:t∈n.ts){vb:Str}{m:Rr}(fr:∀x o,x≠t.r->H x=some o->H' x=some o)(e:H' t.r=some (.dK (pK (nxt vb m t.rs))))
  (hm:vb≠"cut"->H m.q=none/\H' m.q=some (.dK (rK m.row))/\a6l m.row) (ha:vb="add"->m.pl∉t.rs.map (·.pl)):a6p H0 ρ H' N names (b+1) (st.map (a8e n.k t.z vb m)):=by
 obtain⟨a1,a2⟩:=h.rr n hn t ht;have mv:∀{x:Addr} {o:HO},hid ρ H x=some o->hid ρ H' x=some o:=fun {x o} hx=>by
  have hr:=a9H hx;exact a4r hr (fr x o (fun e=>by rw[e,a1] at hr;cases hr) (a1P _ _ hx))
 have uq:∀n'∈st,n'.k=n.k->n'=n:=fun n' hn' e=>b0N h.nd hn' hn e;have uz:∀t'∈n.ts,t'.z=t.z->t'=t:=fun t' ht' e=>b0N (by rw[h.zs n hn];exact nn) ht' ht e;have cs:∀n'∈st,∀t'∈(a8e n.k t.z vb m n').ts,(∃t0∈n'.ts,t'=t0/\(n'.k≠n.k\/t0.z≠t.z))\/(n'=n/\t'=⟨t.z,t.r,nxt vb m t.rs⟩):=fun n' hn' t' ht'=>by
  unfold a8e at ht'
  split at ht'
  ·rename_i ek
   obtain⟨t0,ht0,rfl⟩:=mM0.mp ht';unfold a8x
   split
   ·rename_i ez
    have e1:=uq n' hn' ek;subst e1;have e2:=uz t0 ht0 ez;subst e2;exact .inr ⟨rfl,rfl⟩
   ·rename_i ez
    exact .inl ⟨t0,ht0,rfl,.inr ez⟩
  ·rename_i ek
   exact .inl ⟨t',ht',rfl,.inl ek⟩
 have mk:(st.map (a8e n.k t.z vb m)).map (·.k)=st.map (·.k):=by rw[mC0];exact List.map_congr_left fun n' _=>(a3w _ _ _ _ n').1
 refine⟨fun x o hx=>mv (h.bs _ _ hx),fun x hx=>?_,h.rN,?_,fun n' hn'=>?_,fun n' hn' t' ht'=>?_,fun n' hn' t' ht' r hr=>?_,by rw[mk];exact h.nd,fun n' hn' t' ht'=>?_,fun n' hn'=>?_⟩
 ·by_cases ex:x=t.r
  ·rw[ex,e];exact fun h=>nomatch h
  ·cases e2:H x with
   |none=>exact absurd e2 (h.al x hx)
   |some o=>rw[fr x o ex e2];exact fun h=>nomatch h
 ·have nN:N≠t.r:=fun e=>by have:=h.rN;rw[e,a1] at this;cases this
  rw[fr N _ nN h.at_];unfold nK;rw[mC0]
  congr 2
  exact(List.map_congr_left fun n' _=>by show((.inl (a8e n.k t.z vb m n').k:Key),V.ref (a8e n.k t.z vb m n').p)=_;rw[(a3w _ _ _ _ n').1,(a3w _ _ _ _ n').2]).symm
 ·obtain⟨n0,hn0,rfl⟩:=mM0.mp hn'
  rw[(a3w _ _ _ _ n0).2]
  have:=mv (h.pd n0 hn0)
  rw[this]
  congr 2
  unfold a8e
  split
  ·unfold tK
   show _=(n0.ts.map (a8x t.z vb m)).map _;rw[mC0];exact List.map_congr_left fun t' _=>by show _=((.inr (a8x t.z vb m t').z:Key),V.ref (a8x t.z vb m t').r);rw[(a6W _ _ _ t').1,(a6W _ _ _ t').2]
  ·rfl
 ·obtain⟨n0,hn0,rfl⟩:=mM0.mp hn'
  rw[(a3w _ _ _ _ n0).1];rcases cs n0 hn0 t' ht' with ⟨t0,ht0,rfl,hne⟩ |⟨rfl,rfl⟩
  ·obtain⟨b1,b2⟩:=h.rr n0 hn0 t' ht0
   refine⟨b1,fr _ _ (fun ee=>?_) b2⟩;rw[ee,a1] at b1
   injection b1 with b1
   injection b1 with b1
   injection b1 with c1 c2
   rcases hne with hne |hne
   ·exact hne c1.symm
   ·exact hne c2.symm
  ·exact⟨a1,e⟩
 ·obtain⟨n0,hn0,rfl⟩:=mM0.mp hn'
  rcases cs n0 hn0 t' ht' with ⟨t0,ht0,rfl,hne⟩ |⟨rfl,rfl⟩
  ·exact⟨mv (h.qq n0 hn0 t' ht0 r hr).1,(h.qq n0 hn0 t' ht0 r hr).2⟩
  ·rcases b3T hr with hr |⟨nc,rfl⟩
   ·exact⟨mv (h.qq n0 hn0 t ht r hr).1,(h.qq n0 hn0 t ht r hr).2⟩
   ·obtain⟨c1,c2,c3⟩:=hm nc
    refine⟨a4r ?_ c2,c3⟩;cases e2:ρ r.q with
    |none=>rfl
    |some u=>exact absurd c1 (h.al _ (by rw[e2];exact fun h=>nomatch h))
 ·obtain⟨n0,hn0,rfl⟩:=mM0.mp hn'
  rcases cs n0 hn0 t' ht' with ⟨t0,ht0,rfl,hne⟩ |⟨rfl,rfl⟩
  ·exact⟨(h.pn n0 hn0 t' ht0).1,Nat.le_succ_of_le (h.pn n0 hn0 t' ht0).2⟩
  ·exact⟨b6Q (h.pn n0 hn0 t ht).1 ha,Nat.le_trans b4s (Nat.succ_le_succ (h.pn n0 hn0 t ht).2)⟩
 ·obtain⟨n0,hn0,rfl⟩:=mM0.mp hn'
  rw[<-h.zs n0 hn0];unfold a8e
  split
  ·show(n0.ts.map (a8x t.z vb m)).map (·.z)=_
   rw[mC0];exact List.map_congr_left fun t' _=>(a6W _ _ _ t').1
  ·rfl
def NoI (o:HO):Prop:=∀c d f,o≠.ins c d f
theorem a2S.mv {H H2:Hp}{p:Addr}{pc:Pc}(h:a2S H p pc)(m:∀b o,H b=some o->NoI o->H2 b=some o):a2S H2 p pc:=by
 obtain⟨ls,a1,a2,a3⟩:=h;refine⟨ls,m _ _ a1 (fun _ _ _ e=>nomatch e),a2,fun j l t e1 e2=>?_⟩;obtain⟨rs,b1,b2,b3⟩:=a3 j l t e1 e2;exact⟨rs,m _ _ b1 (fun _ _ _ e=>nomatch e),b2,fun j' r row c1 c2=>m _ _ (b3 j' r row c1 c2) (fun _ _ _ e=>nomatch e)⟩
theorem a1F.mv {H H2:Hp}{a:Addr}{es:List En}(h:a1F H a es)(m:∀b o,H b=some o->NoI o->H2 b=some o):a1F H2 a es:=⟨m _ _ h.at_ (fun _ _ _ e=>nomatch e),h.nd,h.le,fun e he=>(h.th e he).mv m,h.ok⟩
theorem a7j.mv {H H2:Hp}{f:Addr}{sz:Int}{Ts:List Tb}(h:a7j H f sz Ts)(m:∀b o,H b=some o->NoI o->H2 b=some o):a7j H2 f sz Ts:=by
 refine⟨?_,h.nd,h.le,h.cn⟩;obtain⟨tt,es,h1,h2,h3,h4⟩:=h.at_;refine⟨tt,es,m _ _ h1 (fun _ _ _ e=>nomatch e),m _ _ h2 (fun _ _ _ e=>nomatch e),h3,fun j e T a b=>?_⟩;obtain⟨ct,g1,o,ps,g2,g3,g4,g5⟩:=h4 j e T a b;exact⟨ct,m _ _ g1 (fun _ _ _ e=>nomatch e),o,ps,g2,m _ _ g3 (fun _ _ _ e=>nomatch e),g4,fun j p c a b=>m _ _ (g5 j p c a b) (fun _ _ _ e=>nomatch e)⟩
theorem b1G {fo td td':Addr}:a2Z "things" (.ref td') (a5r fo td)=a5r fo td':=by
 unfold a5r a2Z
 rfl
def b2Z (H:Hp)(sz:Int)(Ts:List Tb)(x:Addr)(s:Stp):Prop:=∃(T:Tb) (rest:List V),T∈Ts/\T.name=s.z/\H x=some (.tup (.str s.vb::.str s.z::.int s.k::.int s.p::rest))/\0<=s.k/\s.k<sz/\0<=s.p/\(s.p=0\/T.sort∉b2T) ∧
 (s.vb="cut"\/(s.vb≠"cut"/\∃r,rest=[.ref r]/\H r=some (.dK (rK s.row))/\a6l s.row/\b5i H sz T r))
def a7t (names:List Str)(es:List (Int×Pc))(ss:List Stp):List (Int×Pt):=ss.foldl (a8r names es) []
structure b8a (es:List (Int×Pc)) (st:List (Int×Pt)) (ms:List Int):Prop where
 nd:ms.Nodup
 le:ms.Pairwise (·<=·)
 mem:∀x,x∈ms↔x∈es.map (·.1)\/x∈st.map (·.1)
def a4Y (CP CM:Addr):Sp:=fun vs H Q E=>∃(a L:Addr) (sz:Int) (Ts:List Tb) (ky:Kyf) (es:List En) (xs:List Addr) (ss:List Stp) (R:Nat),vs=[.ref a,.ref L]/\a5v CP H a sz Ts es/\b3j H Ts ky/\H L=some (.lst (xs.map V.ref)) ∧
 (∀(j:Nat) (x:Addr) (s:Stp),xs[j]? =some x->ss[j]? =some s->b2Z H sz Ts x s)/\(∀(j:Nat) (s:Stp),ss[j]? =some s->b7e (Ts.map (·.name)) (es.map kc) (a7t (Ts.map (·.name)) (es.map kc) (ss.take j)) s) ∧
 (∀e∈es,∀z,(tab e.pc z).length<=R)/\R+ss.length<64/\es.length+ss.length<=60 ∧
  ss.length=xs.length/\(∀n∈a7t (Ts.map (·.name)) (es.map kc) ss,a9A n.2=true->∀T∈Ts,∀t∈n.2,t.1=T.name->b7c T.sort (t.2.map (·.1))) ∧
  ∀ms:List Int,b8a (es.map kc) (a7t (Ts.map (·.name)) (es.map kc) ss) ms->∀c,c=ms.filterMap (bhd (es.map kc) (a7t (Ts.map (·.name)) (es.map kc) ss)) →
   (∀T,(a1E T (srt c)).length<=100000)/\(∀T∈Ts,∀cc∈T.cols,ky T.name cc.1=true->∀x∈a1E T.name (srt c),∃v,a1k (rK x.2.2) (.inr cc.1)=some v/\OnV v) ∧
   ∀zs,b3U ky Ts zs->(a7O c zs=none->∀(l:Addr) (us:List En) (H':Hp),(∀b o,b≠a->H b=some o->H' b=some o)->H l=none->H' l=some (.lst (((srt (a7t (Ts.map (·.name)) (es.map kc) ss)).map (·.1)).map V.int))->a5v CP H' a sz Ts us->us.map kc=c->Q (.ref l) H')/\∀b,a7O c zs=some b->b6L E H CM b.1 (.int b.2.1) (.int (b.2.2:Nat))
theorem cutW {G:Prop}{T:Hp->Prop}(R:Hp->Prop)(h:(∀H8,R H8->T H8)->G)(fin:∀H8,R H8->T H8):G:=h fin
structure Wr (P:Program) (w:World) (K:Fg0) (mg:Str->Option Value) (base:Heap) (CP CM fA fD fT fW fB fE:Addr) (fdA fdD fdT fdW fdB fdE:FuncData):Prop where
 gA:a0A P w K mg base CX0 5 fA fdA ["form","step"] a5S
 gD:a0A P w K mg base CX0 1 fD fdD ["placed","step"] b8n
 gT:a0A P w K mg base CX0 3 fT fdT ["form","key","placed"] b3v
 gW:a0A P w K mg base (CX1 P w) 4 fW fdW ["form","things"] (b0i CM)
 gB:a0A P w K mg base CX0 2 fB fdB ["self","key"] (b2O CP)
 gE:a0A P w K mg base CX0 2 fE fdE ["self","named"] (a7b CP)
 mB:a6U K CP "by_place" fB
 mE:a6U K CP "things_behind" fE
section
variable {P:Program}{w:World}{K:Fg0}{mg:Str->Option Value}{base:Heap}{CP CM:Addr}
theorem b2q {f fA fD fT fW fB fE:Addr}{fd fdA fdD fdT fdW fdB fdE:FuncData}(F:Fun K "write" "Plain.write" (a0p (top 26) 1) f fd)(B:Bl mg)(L:ClP K CP)(W:Wr P w K mg base CP CM fA fD fT fW fB fE fdA fdD fdT fdW fdB fdE)
  (DA:Df K mg "ask_step" (top 27) fA fdA) (DD:Df K mg "do_step" (top 28) fD fdD) (DT:Df K mg "ask_thing" (top 31) fT fdT) (DW:Df K mg "ask_whole_table" (top 33) fW fdW) (FB:Fun K "by_place" "Plain.by_place" (a0p (top 26) 2) fB fdB) (FE:Fun K "things_behind" "Plain.things_behind" (a0p (top 26) 3) fE fdE) :
  a0A P w K mg base (CX1 P w) 6 f fd ["self","steps"] (a4Y CP CM):=by
 have sc:a0o ["self","steps","named","step","key","things"] ["self","steps"] (a0g (a0p (top 26) 1)):=.k (by decide +kernel);have bA:=DA.fn.b2 "form" "step" (by intros;rfl);have bD:=DD.fn.b2 "placed" "step" (by intros;rfl);have bT:=DT.fn.b3 "form" "key" "placed" (by intros;rfl);have bW:=DW.fn.b2 "form" "things" (by intros;rfl);have bB:=FB.b2 "self" "key" (by intros;rfl);have bE:=FE.b2 "self" "named" (by intros;rfl);refine F.x.okX sc (fun vs H Q E h=>?_) (fun cdv A outer s H vs Q E hr h=>?_)
 ·obtain⟨a,L,sz,Ts,ky,es,xs,ss,R,rfl,_⟩:=h
  rfl
 ·obtain⟨a,Lq,sz,Ts,ky,es,xs,ss,R,rfl,hpl,hky,hL,hgood,hcan,hR,hR64,h60,hl,hgd,q⟩:=h
  obtain⟨⟨dx,fo,td,ha,hf,hts⟩,htb⟩:=id hpl;have hr1:a1u 1 _:=hr.mono (by decide);have hr2:a1u 2 _:=hr.mono (by decide);have hr3:a1u 3 _:=hr.mono (by decide);have hr4:a1u 4 _:=hr.mono (by decide);have hu:=a1T hr;have tok:b7D Ts:=⟨hf.nd,hf.le,fun T hT=>(hf.cn T hT).1,fun T hT=>(hf.cn T hT).2⟩;refine⟨_,a0b (a0n (i:=2) sc.nd rfl (Or.inl rfl) a1n)
   (a0b (a0X PassesOwn.leaving rfl (a0S (pv 1)) (a0m (i:=3) sc.nd rfl (Or.inl rfl))
    (a0b (a0V (a0l W.gA hr (by rfl) DA.mg DA.fn.kp bA .nil a0E (a0a (a2h (pv 0) rfl) (a0a (pv 3) a0e))))
    (a0b (a0n (i:=4) sc.nd rfl (Or.inl rfl) (a0t a0N (pv 3) a0f (fun _ _=>rfl)))
    (a0b (a0P (a2z (a2C hu (pv 4) (pv 2))) (a0h (a1h hu (pv 2) (pv 4) (a6P (pv 0) L.cl W.mB W.gB hr2 bB .nil a0E (a0a (pv 4) a0e)) rfl)) a0s)
    (a0h (a0V (a0l W.gD hr1 (by rfl) DD.mg DD.fn.kp bD .nil a0E (a0a (a0L hu (a0L hu (pv 2) (pv 4) (fun _ _=>rfl)) (a0t a0N (pv 3) a0f (fun _ _=>rfl)) (fun _ _=>rfl)) (a0a (pv 3) a0e)))))))))
   (a0b (a0X PassesOwn.leaving rfl (a0S (a0D (a0J rfl) (by rfl) B.sorted boot_sorted (a0a (pv 2) a0e))) (a0m (i:=4) sc.nd rfl (Or.inl rfl))
    (a0h (a0V (a0l W.gT hr3 (by rfl) DT.mg DT.fn.kp bT .nil a0E (a0a (a2h (pv 0) rfl) (a0a (pv 4) (a0a (a0L hu (pv 2) (pv 4) (fun _ _=>rfl)) a0e)))))))
   (a0b (a0n (i:=5) sc.nd rfl (Or.inl rfl) (a6P (pv 0) L.cl W.mE W.gE hr2 bE .nil a0E (a0a (pv 2) a0e)))
   (a0b (a0V (a5f W.gW hr4 (by rfl) DW.mg DW.fn.kp bW .nil a3n (a0a (a2h (pv 0) rfl) (a0a (pv 5) a0e))))
   (a0b (a9p (pv 0) (pv 5) rfl)
   (a0h (a0F (a0D (a0J rfl) (by rfl) B.sorted boot_sorted (a0a (pv 2) a0e))))))))),?_⟩
  refine fun N hN=>?_;generalize hX:upd H N _=H1;obtain⟨S0,d0⟩:=gz hX hN;have base0:a6p H (fun b=>if b=N then some none else none) H1 N (Ts.map (·.name)) (R+0) []:=by
   refine⟨fun b o e=>a4r (if_neg (a0j e hN)) (S0 _ _ e),fun x hx=>?_,if_pos rfl,d0,(fun n h=>nomatch h),(fun n h=>nomatch h),(fun n h=>nomatch h),List.nodup_nil,(fun n h=>nomatch h),(fun n h=>nomatch h)⟩
   by_cases e:x=N
   ·rw[e,d0];exact fun h=>nomatch h
   ·exact absurd (if_neg e) hx
  refine⟨_,rfl,Lq,rfl,⟨_,SqL.of (S0 _ _ hL)⟩,a0W (K:=K) (a:=Lq) (xs:=xs.map V.ref) (fun i σ H2=>i<=ss.length/\(∃u3 u4,σ=[some (.ref a),some (.ref Lq),some (.ref N),u3,u4,none])/\∃ρ st,a6p H ρ H2 N (Ts.map (·.name)) (R+i) st/\st.length<=i/\st.map cN=a7t (Ts.map (·.name)) (es.map kc) (ss.take i))
   ⟨zL0 _,⟨_,_,rfl⟩,_,[],base0,nR0 _,rfl⟩ (fun i σ H2 _ p=>let ⟨_,_,_,_,h,_⟩:=p;SqL.of (a1P _ _ (h.bs _ _ hL))) ?_ ?_⟩
  ·rintro i x σ H2 hx ⟨hi,⟨u3,u4,rfl⟩,ρ,st,hnm,hsl,hst⟩
   have hix:i<xs.length:=by
    have:=(gS0.mp hx).1
    rwa [lM0] at this
   rw[gM0,gE0 hix] at hx;cases hx;have S2:a0k H H2:=hnm.bs.trans a1P
   by_cases his:i<ss.length
   ·obtain⟨T,rest,hT,eT,hx,k0,k1,p0,p1,hrow⟩:=hgood i xs[i] ss[i] (gE0 hix) (gE0 his)
    have hcan1:=hcan i ss[i] (gE0 his);have zin:ss[i].z∈Ts.map (·.name):=eT▸mM0.mpr ⟨T,hT,rfl⟩;have erun:a7t (Ts.map (·.name)) (es.map kc) (ss.take (i+1))=a8r (Ts.map (·.name)) (es.map kc) (a7t (Ts.map (·.name)) (es.map kc) (ss.take i)) ss[i]:=by
     unfold a7t;rw[tS0,gE0 his,List.foldl_append]
     rfl
    generalize ss[i]=stp at *;generalize xs[i]=x at *;refine⟨_,rfl,a,CP,dx,_,_,rfl,S2 _ _ ha,L.cl,L.nF,a2i,_,rfl,fo,x,sz,Ts,T,stp.vb,stp.k,stp.p,rest,rfl,(hf.same S2).at_,tok,(by rw[eT];exact S2 _ _ hx),hT,⟨k0,k1,p0⟩,p1,?_,(fun H3 s3=>?_)⟩
    ·rcases hrow with h |⟨h,r,e,g1,g2,g3⟩
     ·exact .inl h
     ·exact .inr ⟨h,r,e,g3.same S2⟩
    have hnm3:=hnm.up s3;have S3:=S2.trans s3;refine⟨_,rfl,x,_,2,_,rfl,rfl,SqT.of (S3 _ _ hx),a0M (j:=2) rfl,?_⟩;apply cutW (R:=fun H4=>∃ρ' st',a6p H ρ' H4 N (Ts.map (·.name)) (R+i) st'/\st'.length<=i+1/\st'.map cN=a8v (Ts.map (·.name)) (es.map kc) stp.k (a7t (Ts.map (·.name)) (es.map kc) (ss.take i)))
    ·intro fin
     by_cases hk:stp.k∈st.map (·.k)
     ·obtain⟨n,hn,en⟩:=mM0.mp hk
      have gN:a2q H3 N (.int stp.k) (some (.ref n.p)):=.inl ⟨_,.inl stp.k,.inl hnm3.at_,rfl,(by rw[<-en];exact(a0U (f:=Nn.k) (g:=fun t:Nn=>V.ref t.p) hnm3.nd hn).symm)⟩;refine⟨_,rfl,_,rfl,N,_,rfl,gN,_,rfl,a1R (fin H3 ⟨ρ,st,hnm3,by omega,?_⟩)⟩;unfold a8v;rw[<-hst,if_pos (show stp.k∈(st.map cN).map (·.1) by rw[mC0];exact hk)]
     ·have gN:a2q H3 N (.int stp.k) none:=.inl ⟨_,.inl stp.k,.inl hnm3.at_,rfl,(a1o (f:=Nn.k) (g:=fun t:Nn=>V.ref t.p) hk).symm⟩
      refine⟨_,rfl,_,rfl,N,_,rfl,gN,_,rfl,a6m ?_⟩;refine⟨_,rfl,a,dx,_,rfl,S3 _ _ ha,a2J (by decide +kernel) (by decide +kernel),_,rfl,a,sz,Ts,es,stp.k,H,rfl,S3,hpl,(fun e he z=>by have:=hR e he z;omega),fun p ts H4 s4 hp hB hc=>?_⟩;refine⟨_,rfl,_,rfl,N,_,rfl,.inl ⟨nK st,.inl stp.k,s4 _ _ hnm3.at_,rfl,(by unfold nK;rw[lM0,sizeLine_eq];omega),rfl⟩,?_⟩;rw[a1j (kvs:=nK st) _ (a1o (f:=Nn.k) (g:=fun t:Nn=>V.ref t.p) hk)];have tz:ts.map (·.z)=Ts.map (·.name):=by
       have:=congrArg (List.map Prod.fst) hc
       unfold a6o at this;rw[mC0,mC0] at this;rw[show(ts.map (·.z))=ts.map (Prod.fst∘cT) from rfl,this];show List.map (fun z=>z) _=_;rw[List.map_id']
      have tl:∀t∈ts,t.rs.length<=R+i:=fun t ht=>by
       have hm:cT t∈a6o (Ts.map (·.name)) (es.map kc) stp.k:=hc▸mM0.mpr ⟨t,ht,rfl⟩;unfold a6o at hm;obtain⟨z,hz,e⟩:=mM0.mp hm
       injection e with e1 e2
       rw[<-lM0 (f:=cR),<-e2]
       by_cases hke:stp.k∈es.map (·.k)
       ·obtain⟨e,he,ee⟩:=mM0.mp hke
        rw[<-ee,b3k hts.nd he];unfold a4M;rw[lI0]
        have:=hR e he z
        omega
       ·rw[b0o hke]
        exact zL0 _
      have e2:(nK st++[((.inl stp.k:Key),V.ref p)])=nK (st++[⟨stp.k,p,ts⟩]):=by unfold nK;rw[mA0];rfl
      rw[e2];refine fin _ ⟨_,_,hnm3.add s4 hp hB hk tz tl,by rw[lA0];show st.length+1<=_;omega,?_⟩;unfold a8v;rw[<-hst,if_neg (show stp.k∉(st.map cN).map (·.1) by rw[mC0];exact hk),mA0];show _++[(stp.k,ts.map cT)]=_;rw[hc]
    rintro H4 ⟨ρ',st',hn4,hl4,hc4⟩;unfold b7e at hcan1;rw[<-hc4] at hcan1;have hkin:stp.k∈st'.map (·.k):=by
     have e:st'.map (·.k)=(st'.map cN).map (·.1):=by rw[mC0];rfl
     rw[e,hc4];unfold a8v
     split
     ·assumption
     ·rw[mA0]
      exact List.mem_append_right _ (mS0.mpr rfl)
    obtain⟨n,hn,en⟩:=mM0.mp hkin;obtain⟨t,ht,et⟩:∃t∈n.ts,t.z=stp.z:=by
     have:=zin
     rw[<-hn4.zs n hn] at this;obtain⟨t,ht,e⟩:=mM0.mp this;exact⟨t,ht,e⟩
    have can1:Can stp.vb stp.p (t.rs.map (·.pl)):=by
     have:=hcan1 (cN n) (mM0.mpr ⟨n,hn,rfl⟩) en (cT t) (mM0.mpr ⟨t,ht,rfl⟩) et
     have e:((cT t).2).map (·.1)=t.rs.map (·.pl):=by show(t.rs.map cR).map (·.1)=_;rw[mC0];rfl
     rwa [e] at this
    have S4:a0k H H4:=hn4.bs.trans a1P;have gN:a2q H4 N (.int stp.k) (some (.ref n.p)):=.inl ⟨_,.inl stp.k,.inl hn4.at_,rfl,(by rw[<-en];exact(a0U (f:=Nn.k) (g:=fun t:Nn=>V.ref t.p) hn4.nd hn).symm)⟩;have gP:a2q H4 n.p (.str stp.z) (some (.ref t.r)):=.inl ⟨_,.inr stp.z,.inl (hn4.get hn).at_,rfl,(by rw[<-et];exact(b3u (by rw[hn4.zs n hn];exact hf.nd) ht).symm)⟩;have hpn:=hn4.pn n hn t ht;refine⟨_,rfl,_,rfl,N,_,rfl,gN,_,rfl,x,_,1,_,rfl,rfl,SqT.of (S4 _ _ hx),a0M (j:=1) rfl,n.p,_,rfl,gP,_,rfl,t.r,x,stp.vb,stp.z,.int stp.k,stp.p,stp.row,rest,t.rs,rfl,(hn4.rr n hn t ht).2,hpn.1,(by omega),S4 _ _ hx,can1,(fun nc=>?_),fun m H5 m1 m2 m3 m4 m5=>?_⟩
    ·rcases hrow with h |⟨h,r,rfl,g1,g2,g3⟩
     ·exact absurd h nc
     ·exact⟨r,rfl,S4 _ _ g1⟩
    have hrok:stp.vb≠"cut"->a6l stp.row:=fun nc=>by
     rcases hrow with h |⟨h,r,_,g1,g2,g3⟩
     ·exact absurd h nc
     ·exact g2
    have hadd:stp.vb="add"->m.pl∉t.rs.map (·.pl):=fun e=>by
     rw[m1];rcases can1 with ⟨_,h⟩ |⟨h,_⟩ |⟨h,_⟩
     ·exact h
     ·rw[e] at h;exact absurd h (by decide +kernel)
     ·rw[e] at h;exact absurd h (by decide +kernel)
    have hfin:=hn4.mod hf.nd hn ht m5 m4 (fun nc=>⟨(m3 nc).1,by rw[m2];exact(m3 nc).2,by rw[m2];exact hrok nc⟩) hadd;refine⟨by omega,⟨_,_,rfl⟩,ρ',_,hfin,by rw[lM0];exact hl4,?_⟩;rw[erun];unfold a8r;rw[<-hc4,mC0,mC0,en,et];exact List.map_congr_left fun n' _=>b6U stp m m1 m2 n'
   ·omega
  ·rintro σ H2 ⟨hi,⟨u3,u4,rfl⟩,ρ,st,hnm,hsl,hst⟩
   rw[lM0] at hi hsl hst hnm;rw[<-hl,List.take_length] at hst;rw[<-hl] at hsl hnm;rw[<-hst] at hgd q;have S2:a0k H H2:=hnm.bs.trans a1P;have n8:(Ts.map (·.name)).length<=8:=by rw[lM0];exact hf.le
   have ek:(nK st).map (·.1)=(st.map (·.k)).map Sum.inl:=by unfold nK;rw[mC0,mC0];rfl
   have hok:∀n∈st,b2G n.ts:=fun n hn=>hnm.ok hf.nd n8 (by omega) hn;have cK:(st.map cN).map (·.1)=st.map (·.k):=by rw[mC0];rfl
   refine⟨_,rfl,N,_,st.map (·.k),rfl,.inl hnm.at_,ek,(by rw[lM0];omega),fun l1 ns hl1 hpn hsn=>?_⟩;generalize hX:upd H2 l1 _=H3;obtain⟨T3,e3⟩:=gz hX hl1;refine⟨l1,rfl,⟨_,SqL.of e3⟩,a0W (K:=K) (a:=l1) (xs:=ns.map V.int) (fun i σ H4=>a0k H3 H4/\∃u3 u4,σ=[some (.ref a),some (.ref Lq),some (.ref N),u3,u4,none]) ⟨a0k.refl _,_,_,rfl⟩ (fun i σ H4 _ p=>SqL.of (p.1 _ _ e3)) ?_ ?_⟩
   ·rintro i x σ H4 hx ⟨s4,u3,u4,rfl⟩
    obtain⟨k,hk,rfl⟩:=mM0.mp (gI0 hx);obtain⟨n,hn,rfl⟩:=mM0.mp (hpn.mem_iff.mp hk);have S4:=(S2.trans T3).trans s4;have hn4:=hnm.up (T3.trans s4);have gN:a2q H4 N (.int n.k) (some (.ref n.p)):=.inl ⟨_,.inl n.k,.inl hn4.at_,rfl,(a0U (f:=Nn.k) (g:=fun t:Nn=>V.ref t.p) hn4.nd hn).symm⟩;refine⟨_,rfl,a,CP,dx,_,_,rfl,S4 _ _ ha,L.cl,L.nF,a2i,_,rfl,_,rfl,_,rfl,N,_,rfl,gN,fo,n.p,sz,Ts,.int n.k,n.ts,rfl,(hf.same S4).at_,tok,hn4.get hn,hok n hn,hn4.zs n hn,(fun hany T hT t ht e=>?_),fun H5 s5=>⟨s4.trans s5,_,_,rfl⟩⟩
    have:=hgd (cN n) (mM0.mpr ⟨n,hn,rfl⟩) (by show a9A (n.ts.map cT)=true;rw[b0k];exact hany) T hT (cT t) (mM0.mpr ⟨t,ht,rfl⟩) e
    have e:((cT t).2).map (·.1)=t.rs.map (·.pl):=by show(t.rs.map cR).map (·.1)=_;rw[mC0];rfl
    rwa [e] at this
   ·rintro σ H4 ⟨s4,u3,u4,rfl⟩
    have S4:=(S2.trans T3).trans s4;have hn4:=hnm.up (T3.trans s4);refine⟨_,rfl,a,dx,_,rfl,S4 _ _ ha,a2J (by decide +kernel) (by decide +kernel),_,rfl,a,N,sz,Ts,es,st,rfl,hpl.same S4,hn4.at_,hn4.nd,(fun n hn=>⟨hn4.get hn,hok n hn⟩),(by omega),fun td' us ms H5 s5 hus ms1 ms2 ms3 ms4=>?_⟩;have S5:=S4.trans s5;have hmo:b8a (es.map kc) (st.map cN) ms:=⟨ms1,ms2,fun x=>by rw[cK,ms3 x,mC0];exact Iff.rfl⟩;obtain⟨q1,q2,q3⟩:=q ms hmo _ rfl;rw[<-ms4] at q1 q2 q3;have hutb:∀e∈us,∀T∈Ts.map (·.name),T∈e.pc.map (·.1):=fun e he T hT=>by
     have hm:kc e∈ms.filterMap (bhd (es.map kc) (st.map cN)):=ms4▸mM0.mpr ⟨e,he,rfl⟩;obtain⟨k,hk,hb⟩:=List.mem_filterMap.mp hm;unfold bhd at hb
     split at hb
     ·rename_i c hc
      split at hb
      ·injection hb with hb
       injection hb with _ hb
       obtain⟨n,hn,rfl⟩:=mM0.mp (List.mem_of_find?_eq_some hc);rw[<-hb,mC0];show T∈(n.ts.map cT).map (·.1);rw[mC0];rw[<-hnm.zs n hn] at hT;exact hT
      ·cases hb
     ·obtain⟨e0,he0,ee⟩:=mM0.mp (List.mem_of_find?_eq_some hb)
      have:e0.pc=e.pc:=by injection ee
      rw[<-this];exact htb e0 he0 T hT
    refine⟨_,rfl,a,CP,dx,_,_,rfl,S5 _ _ ha,L.cl,L.nF,a2i,_,rfl,fo,td',sz,Ts,ky,us,rfl,⟨hf.same S5,hky.same S5,hus,hutb,q1,q2⟩,fun zs hzs=>⟨fun hn H6 s6=>?_,fun b hb=>?_⟩⟩
    rotate_left
    ·have:=(q3 zs hzs).2 b hb
     exact fun dx H' h1 h2=>this dx H' h1 (S5.trans h2)
    have S6:=S5.trans s6;refine⟨_,rfl,_,rfl,a,CP,dx,_,rfl,S6 _ _ ha,L.cl,L.nT,(by show _<1000;unfold a5r;have:=a1H "things" (V.ref td) (a2Z "form" (.ref fo) []);have:=a1H "form" (V.ref fo) [];simp only[List.length_nil] at *;omega),?_⟩;rw[b1G];have hn6:=hn4.up (s5.trans s6);have nNa:N≠a:=fun e=>by have:=hn6.at_;rw[e,S6 _ _ ha] at this;cases this
    have fr7:∀b o,b≠a->H6 b=some o->(upd H6 a (.ins CP dx (a5r fo td'))) b=some o:=fun b o nb hb=>by rw[a0d nb];exact hb
    have mv7:∀b o,H6 b=some o->NoI o->(upd H6 a (.ins CP dx (a5r fo td'))) b=some o:=fun b o hb no=>fr7 b o (fun e=>by rw[e,S6 _ _ ha] at hb;injection hb with hb;exact no _ _ _ hb.symm) hb;have a7:(upd H6 a (.ins CP dx (a5r fo td'))) a=some (.ins CP dx (a5r fo td')):=a0c;generalize upd H6 a (.ins CP dx (a5r fo td'))=H7 at *;refine⟨_,rfl,N,_,st.map (·.k),rfl,.inl (fr7 _ _ nNa hn6.at_),ek,(by rw[lM0];omega),fun l ns' hl' hpn' hsn'=>?_⟩;have em:ns'=(srt (st.map cN)).map (·.1):=a1y (by rw[cK];exact hpn') hsn';subst em;have T8:=a0k.upd (o:=.lst (((srt (st.map cN)).map (·.1)).map V.int)) hl';have l60:H6 l=none:=by
     cases e:H6 l with
     |none=>rfl
     |some o=>
      by_cases ea:l=a
      ·rw[ea,a7] at hl';cases hl'
      ·rw[fr7 _ _ ea e] at hl';cases hl'
    exact(q3 zs hzs).1 hn l us _ (fun b o nb hb=>T8 _ _ (fr7 _ _ nb (S6 _ _ hb))) (a0v S6 l60) a0c ⟨⟨dx,fo,td',T8 _ _ a7,((hf.same S6).mv mv7).same T8,((hus.same s6).mv mv7).same T8⟩,hutb⟩ rfl
end
end My
namespace L2
open PySem PySem.Spec PyProof.Rows
theorem a7L:∀(l:List (Array Nat)) (a:Array Nat),(l.foldl (·++·) a).toList=a.toList++(l.map (·.toList)).flatten
 |[],a=>by simp
 |x::r,a=>by
  rw[List.foldl_cons,a7L r (a++x),Array.toList_append,mN0,List.flatten_cons,List.append_assoc]
section
variable {X:Cx}
theorem b1a:OpR X (binaryOp .Mult) (fun x y H Q=>∃(z:Str) (n:Nat),x=.str z/\y=.int n/\n<1000/\0<z.length/\z.length<=10000/\∀r:Str,r.cps.toList=(List.replicate n z.cps.toList).flatten->Q (.str r) H):=by
 intro Z s σ H x y v u Q I rx ry h;obtain⟨z,n,rfl,rfl,h2,h3,h4,q⟩:=h
 by_cases e0:n=0
 ·subst e0
  obtain⟨t,rfl⟩:=rx;obtain⟨t',rfl⟩:=ry;exact P.mul_str_none (by decide) (by decide) ⟨.str Str.empty,H,I.tok _,⟨_,rfl⟩,q _ rfl⟩
 by_cases e1:n=1
 ·subst e1
  obtain⟨t,rfl⟩:=rx;obtain⟨t',rfl⟩:=ry;refine P.mul_str (by decide) (fun _ h=>?_) (fun _ h=>?_) ?_
  ·rw[Bool.or_eq_false_iff] at h;exact absurd h.1 (by decide)
  ·rw[Bool.or_eq_false_iff] at h;exact absurd h.1 (by decide)
  ·rw[if_neg (by decide),if_pos (by rw[Bool.or_eq_true];exact .inl (by decide))]
   exact⟨.str z,H,I,⟨t,rfl⟩,q _ (by simp)⟩
 ·refine b1H Z s σ H _ _ v u Q I rx ry ⟨z,n,rfl,rfl,by omega,h2,h3,h4,q _ ?_⟩
  show((List.replicate n z.cps).foldl (·++·) #[]).toList=_
  rw[a7L,List.map_replicate]
  rfl
end
end L2
namespace My
open PySem L2 PyProof.Rows
seal L2.PE L2.PT L2.PW L2.PS L2.PSs L2.PA L2.PI L2.PG L2.PGs L2.OpR L2.UnR L2.a1r L2.IxR L2.SlR L2.MtR L2.PIf L2.PO L2.MtM L2.PC
def abc:Str:="abcdefghijklmnopqrstuvwxyz"
theorem a9C:∀n<26,abc.cps.toList[n]? =some (97+n):=by decide +kernel
theorem a7D (x:Int):∃n:Nat,x%26=(n:Int)/\n<26:=by
 have n0:=Int.emod_nonneg x (show(26:Int)≠0 by decide);have n1:=Int.emod_lt_of_pos x (show(0:Int)<26 by decide);obtain⟨n,hn⟩:=Int.eq_ofNat_of_zero_le n0;exact⟨n,hn,by omega⟩
def nmA (w:Str)(c:Nat)(i:Nat):Str:=w++⟨(List.replicate i c).toArray⟩
theorem a9X {w:Str}{c i:Nat}:(nmA w c i).length=w.length+i:=by
 unfold nmA;rw[Str.length_append];show _+(List.replicate i c).toArray.size=_;simp
theorem b4q {a b:Str}(h:a.cps.toList=b.cps.toList):a=b:=by
 cases a;cases b
 congr 1
 exact Array.toList_inj.mp h
theorem b5z {w:Str}{c:Nat}(m:Nat):((List.range m).map (nmA w c)).Nodup:=by
 refine List.Pairwise.map _ (fun a b h e=>?_) List.nodup_range
 have:=congrArg Str.length e
 rw[a9X,a9X] at this
 omega
def nmB (w:Str)(at_:Int)(s st:Int)(i:Nat):Str:=Txt.slice w none (some at_)++⟨#[97+(s+st * (i:Nat)).toNat]⟩++Txt.slice w (some (at_+1)) none
theorem a5b {w:Str}{at_ s st:Int}{i:Nat}(h0:0<=at_)(h1:at_<w.length):(nmB w at_ s st i).cps.toList=w.cps.toList.take at_.toNat++[97+(s+st * (i:Nat)).toNat]++w.cps.toList.drop (at_+1).toNat:=by
 unfold nmB;rw[Str.cps_append,Array.toList_append,Str.cps_append,Array.toList_append,b2g w h0 (by omega),a8m w (by omega) (by omega)]
theorem b6c {w:Str}{at_ s st:Int}(h0:0<=at_)(h1:at_<w.length)(s0:0<=s)(t0:0<st)(m:Nat):((List.range m).map (nmB w at_ s st)).Nodup:=by
 refine List.Pairwise.map _ (fun a b h e=>?_) List.nodup_range
 have:=congrArg (fun z:Str=>z.cps.toList) e
 simp only[a5b h0 h1] at this;rw[List.append_assoc,List.append_assoc] at this;have h2:=List.append_cancel_left this
 injection h2 with h3
 have ha:0<=st * (a:Int):=Int.mul_nonneg (by omega) (by omega);have hb:0<=st * (b:Int):=Int.mul_nonneg (by omega) (by omega);have h4:st * (a:Int)=st * (b:Int):=by omega
 have:=Int.eq_of_mul_eq_mul_left (by omega) h4
 omega
theorem b6e (l r:List Nat):¬l++r<l:=by
 induction l with
 |nil=>exact List.not_lt_nil _
 |cons a l ih=>
  rw[List.cons_append];intro h;rcases List.cons_lt_cons_iff.mp h with h |⟨_,h⟩
  ·exact Nat.lt_irrefl _ h
  ·exact ih h
theorem b5C (p q:List Nat){x y:Nat}(h:x<y):¬p++[y]++q<p++[x]++q:=by
 induction p with
 |nil=>
  intro h2;rcases List.cons_lt_cons_iff.mp h2 with h2 |⟨e,_⟩
  ·exact Nat.lt_asymm h h2
  ·omega
 |cons a l ih=>
  intro h2;rcases List.cons_lt_cons_iff.mp h2 with h2 |⟨_,h2⟩
  ·exact Nat.lt_irrefl _ h2
  ·exact ih h2
theorem a8Q {f:Nat->Str}(m:Nat)(h:∀i j,i<j->¬(f j).cps.toList<(f i).cps.toList):b6i ((List.range m).map f):=by
 unfold b6i;rw[List.pairwise_map];exact(List.pairwise_lt_range (n:=m)).imp fun {a b} hab=>h a b hab
theorem b1O {w:Str}{c:Nat}(m:Nat):b6i ((List.range m).map (nmA w c)):=a8Q m fun i j hij=>by
 have e:∀n,(nmA w c n).cps.toList=w.cps.toList++List.replicate n c:=fun n=>by
  unfold nmA
  show(w.cps++(List.replicate n c).toArray).toList=_
  simp
 rw[e,e,show j=i+(j-i) by omega,<-List.replicate_append_replicate,<-List.append_assoc];exact b6e _ _
theorem b0V {w:Str}{at_ s st:Int}(h0:0<=at_)(h1:at_<w.length)(s0:0<=s)(t0:0<st)(m:Nat):b6i ((List.range m).map (nmB w at_ s st)):=a8Q m fun i j hij=>by
 rw[a5b h0 h1,a5b h0 h1];refine b5C _ _ ?_
 have:st * (i:Int)<st * (j:Int):=Int.mul_lt_mul_of_pos_left (by omega) t0
 have:0<=st * (i:Int):=Int.mul_nonneg (by omega) (by omega)
 omega
def b5s (K:Fg0):Sp:=fun vs H Q _=>∃(a:Addr) (ns:List Int) (k:Int),vs=[.ref a,.int k]/\SqL K H a (ns.map V.int)/\0<=k/\∀i:Int,Q (.int i) H
def b0p:Sp:=fun vs H Q _=>∃c m:Int,vs=[.int c,.int m]/\0<=m/\m<=4/\∀(l:Addr) (zs:List Str) (H':Hp),a0k H H'->cut H H' l=some (.lst (zs.map V.str))->(zs.length:Int)=m->zs.Nodup->b6i zs->Q (.ref l) H'
def nmN:List Str:=["_law_cell_here","_law_many","_law_letters","_law_word","_law_k","_law_at","_law_start","_law_step"]
section
variable {P:Program}{w:World}{K:Fg0}{mg:Str->Option Value}{base:Heap}
theorem b6C {f:Addr}{fd:FuncData}(F:Fun K "_law_cell" "_law_cell" (top 39) f fd)(B:Bl mg):a0A P w K mg base CX0 1 f fd ["_law_script","_law_k"] (b5s K):=by
 have sc:a0o ["_law_script","_law_k"] ["_law_script","_law_k"] (a0g (top 39)):=.k (by decide +kernel);refine F.ok sc (fun vs H Q E h=>?_) (fun cdv A outer s H vs Q E hr h=>?_)
 ·obtain⟨a,ns,k,rfl,_⟩:=h
  rfl
 ·obtain⟨a,ns,k,rfl,ha,k0,q⟩:=h
  refine⟨_,a0b (a0P (a0q a9n (pv 1) (a0D a3d (by rfl) B.len PySem.boot_len (a0a (pv 0) a0e)) (a0G _)) (a0h (a0F (a0t a0r (pv 0) (pv 1) (fun _ _=>rfl)))) a0s) (a0h (a0F a0f)),?_⟩;refine⟨_,rfl,_,rfl,_,_,rfl,.inl ha,_,_,rfl,rfl,_,rfl,?_⟩;refine a9t (fun c=>?_) (fun _=>q _);have c':k<(((ns.map V.int).length:Nat):Int):=of_decide_eq_true c;obtain⟨j,rfl⟩:=Int.eq_ofNat_of_zero_le k0;have hj:j<ns.length:=by rw[lM0] at c';omega
  exact⟨_,rfl,_,rfl,_,_,_,_,rfl,rfl,ha,a0M (by rw[gM0,gE0 hj];rfl),q _⟩
theorem b1R {f:Addr}{fd:FuncData}(F:Fun K "_law_names" "_law_names" (top 40) f fd)(B:Bl mg):a0A P w K mg base CX0 1 f fd ["_law_cell_here","_law_many"] b0p:=by
 have sc:a0o nmN ["_law_cell_here","_law_many"] (a0g (top 40)):=.k (by decide +kernel);refine F.ok sc (fun vs H Q E h=>?_) (fun cdv A outer s H vs Q E hr h=>?_)
 ·obtain⟨c,m,rfl,_⟩:=h
  rfl
 ·obtain⟨c,m,rfl,m0,m4,q⟩:=h
  have ndA:(["_law_k","_law_word","_law_letters","_law_cell_here"]:List Str).Nodup:=by decide +kernel
  have ndB:(["_law_k","_law_word","_law_at","_law_letters","_law_start","_law_step"]:List Str).Nodup:=by decide +kernel
  refine⟨_,a0b (a0n (i:=2) sc.nd rfl (Or.inr rfl) a0x) (a0b (a0n (i:=3) sc.nd rfl (Or.inr rfl) a0x)
   (a0b (a0X PassesOwn.never rfl (a2a rfl B.range (a0a (a0B a1Q a0f (a0B a1m (pv 0) a0f)) a0e)) (a0m (i:=4) sc.nd rfl (Or.inl rfl))
    (a0h (a0n (i:=3) sc.nd rfl (Or.inr rfl) (a0B a2o (pv 3) (a0t b0F (pv 2) (a0B a1m (a0B a1Q (a0B a1w (pv 0) a0f) (a0B b0H a0f (pv 4))) a0f) (fun _ _=>rfl))))))
   (a0b (a0P (a0q a1V (a0B a1m (a0B a1w (pv 0) a0f) a0f) a0f (a0G _)) (a0h (a0F (a1K (osc:=a0g (top 40)) (N0:=nmN) (xs:=["_law_k"]) (fr:=[3,2,0]) ⟨rfl,by decide +kernel,by decide +kernel,by decide +kernel,(fun j hj=>by
       have e:j=3\/j=2\/j=0:=by simpa using hj
       rcases e with rfl |rfl |rfl
       ·exact⟨_,rfl,by decide +kernel⟩
       ·exact⟨_,rfl,by decide +kernel⟩
       ·exact⟨_,rfl,by decide +kernel⟩),by decide +kernel⟩ rfl rfl rfl (a2a rfl B.range (a0a (pv 1) a0e))
      (fun s H fp=>a0m (i:=0) ndA rfl (Or.inl rfl)) (fun s H fp=>a1I)
      (fun s H fp=>a0B a2o (pv 1) (a0B b1a (a0t b0F (pv 2) (a0B a1m (a0B a1w (pv 3) a0f) a0f) (fun _ _=>rfl)) (pv 0)))))) a0s)
   (a0b (a0n (i:=5) sc.nd rfl (Or.inr rfl) (a0B a1m (a0B a1w (pv 0) a0f) (a0D a6k (by rfl) B.len PySem.boot_len (a0a (pv 3) a0e))))
   (a0b (a0n (i:=6) sc.nd rfl (Or.inr rfl) (a0B a1m (a0B a1w (pv 0) a0f) a0f))
   (a0b (a0n (i:=7) sc.nd rfl (Or.inr rfl) (a0B a1Q a0f (a0B a1m (a0B a1w (pv 0) a0f) a0f)))
   (a0h (a0F (a1K (osc:=a0g (top 40)) (N0:=nmN) (xs:=["_law_k"]) (fr:=[3,5,2,6,7]) ⟨rfl,by decide +kernel,by decide +kernel,by decide +kernel,(fun j hj=>by
       have e:j=3\/j=5\/j=2\/j=6\/j=7:=by simpa using hj
       rcases e with rfl |rfl |rfl |rfl |rfl
       ·exact⟨_,rfl,by decide +kernel⟩
       ·exact⟨_,rfl,by decide +kernel⟩
       ·exact⟨_,rfl,by decide +kernel⟩
       ·exact⟨_,rfl,by decide +kernel⟩
       ·exact⟨_,rfl,by decide +kernel⟩),by decide +kernel⟩ rfl rfl rfl (a2a rfl B.range (a0a (pv 1) a0e))
      (fun s H fp=>a0m (i:=0) ndB rfl (Or.inl rfl)) (fun s H fp=>a1I)
      (fun s H fp=>a0B a2o (a0B a2o (a3p b3z (pv 1) a4O (a4C (pv 2))) (a0t b0F (pv 3) (a0B a1Q (pv 4) (a0B b0H (pv 5) (pv 0))) (fun _ _=>rfl))) (a3p b3z (pv 1) (a4C (a0B a1Q (pv 2) a0f)) a4O))))))))))),?_⟩
  have a0:=Int.emod_nonneg c (show(4:Int)≠0 by decide);have a4:=Int.emod_lt_of_pos c (show(0:Int)<4 by decide);have abl:abc.length<=sizeLine:=by decide +kernel
  refine⟨_,rfl,_,_,rfl,rfl,(pos rfl),_,_,rfl,rfl,_,rfl,(by omega),(by omega),a3X (fun i σ H'=>H'=H/\∃(z:Str) (u4:Option V),σ=[some (.int c),some (.int m),some (.str abc),some (.str z),u4,none,none,none]/\z.length=i) ⟨rfl,"",_,rfl,by decide⟩ ?_ ?_⟩
  ·rintro i σ H' hi ⟨rfl,z,u4,rfl,hz⟩
   obtain⟨n,hn,n26⟩:=a7D (c/4+7 * (0+(i:Int)));refine⟨_,rfl,_,rfl,_,rfl,_,_,rfl,rfl,⟨by decide,by decide⟩,_,rfl,_,_,rfl,rfl,.inl ⟨by decide,by decide⟩,_,_,rfl,rfl,_,_,rfl,rfl,(pos rfl),_,_,_,rfl,rfl,abl,(by rw[hn];exact a0M (a9C n n26)),_,_,rfl,rfl,(by rw[sizeLine_eq];show z.length+1<=_;omega),rfl,_,_,rfl,?_⟩;rw[Str.length_append,hz]
   rfl
  rintro σ H' ⟨rfl,z,u4,rfl,hz⟩;have zl:z.length<=sizeLine:=by rw[sizeLine_eq];omega
  refine⟨_,rfl,_,_,rfl,rfl,⟨by decide,by decide⟩,_,_,rfl,rfl,(pos rfl),rfl,_,rfl,?_⟩;refine a9t (fun _=>?_) (fun _=>?_)
  ·obtain⟨n,hn,n26⟩:=a7D (c/16)
   refine⟨_,rfl,_,rfl,(by omega),(by omega),fun D hD=>?_⟩;refine a3H m.toNat (fun i=>.str (nmA z (97+n) i)) (fun i σ' Hc=>(∃t,σ'=[t,some (.str z),some (.str abc),some (.int c)])/\a0k H' Hc) (by rw[sizeLine_eq];omega) ⟨⟨none,rfl⟩,a0k.upd hD⟩ a0c ?_ ?_
   ·rintro i σ' Hc hi ⟨⟨t,rfl⟩,sm⟩ hD'
    refine⟨hi,?_⟩;rintro y H'' ⟨rfl,rfl⟩;refine⟨_,rfl,_,rfl,_,rfl,_,_,rfl,rfl,⟨by decide,by decide⟩,_,_,rfl,rfl,(pos rfl),_,_,_,rfl,rfl,abl,(by rw[hn];exact a0M (a9C n n26)),_,rfl,?_⟩;refine⟨⟨#[97+n]⟩,i,rfl,(by rw[Int.zero_add]),(by omega),(by show 0<1;decide),(by show 1<=10000;decide),fun r hr'=>?_⟩;have er:r=⟨(List.replicate i (97+n)).toArray⟩:=b4q (by rw[hr'];simp);subst er;refine⟨_,_,rfl,rfl,?_,rfl,hD',⟨_,rfl⟩,sm.put hD⟩;have e2:Str.length ⟨(List.replicate i (97+n)).toArray⟩=i:=by show(List.replicate i (97+n)).toArray.size=i;simp
    rw[sizeLine_eq,e2]
    omega
   ·rintro σ' Hc ⟨_,sm⟩ hDn
    refine⟨nR0 _,?_⟩;have e1:(List.range m.toNat).map (fun i=>V.str (nmA z (97+n) i))=((List.range m.toNat).map (nmA z (97+n))).map V.str:=by rw[mC0];rfl
    rw[e1] at hDn;exact q D _ Hc sm (a0T hD hDn) (by rw[lM0,List.length_range];omega) (b5z _) (b1O _)
  ·have lz:(0:Int)<(z.length:Nat):=by omega
   refine⟨_,rfl,_,_,rfl,rfl,⟨by decide,by decide⟩,_,rfl,_,rfl,zl,_,_,rfl,rfl,lz,?_⟩;have t0:=Int.emod_nonneg (c/16) (show((z.length:Nat):Int)≠0 by omega);have t1:=Int.emod_lt_of_pos (c/16) lz;refine⟨_,rfl,_,_,rfl,rfl,⟨by decide,by decide⟩,_,_,rfl,rfl,(pos rfl),?_⟩;have s0:=Int.emod_nonneg (c/64) (show(6:Int)≠0 by decide);have s1:=Int.emod_lt_of_pos (c/64) (show(0:Int)<6 by decide);refine⟨_,rfl,_,_,rfl,rfl,⟨by decide,by decide⟩,_,_,rfl,rfl,(pos rfl),_,_,rfl,rfl,?_⟩;have p0:=Int.emod_nonneg (c/512) (show(4:Int)≠0 by decide);have p1:=Int.emod_lt_of_pos (c/512) (show(0:Int)<4 by decide)
   dsimp only
   generalize c/16%((z.length:Nat):Int)=at_ at *;generalize c/64%6=st at *;generalize hsp:1+c/512%4=sp at *;have sp0:0<sp:=by omega
   have sp5:sp<5:=by omega
   refine⟨_,rfl,_,rfl,(by omega),(by omega),fun D hD=>?_⟩;refine a3H m.toNat (fun i=>.str (nmB z at_ st sp i)) (fun i σ' Hc=>(∃t,σ'=[t,some (.str z),some (.int at_),some (.str abc),some (.int st),some (.int sp)])/\a0k H' Hc) (by rw[sizeLine_eq];omega) ⟨⟨none,rfl⟩,a0k.upd hD⟩ a0c ?_ ?_
   ·rintro i σ' Hc hi ⟨⟨t,rfl⟩,sm⟩ hD'
    have hi4:i<4:=by omega
    refine⟨hi,?_⟩;rintro y H'' ⟨rfl,rfl⟩;have hb:0<=sp * (i:Int):=Int.mul_nonneg (by omega) (by omega);have hb2:sp * (i:Int)<=4 * 3:=Int.mul_le_mul (by omega) (by omega) (by omega) (by decide);obtain⟨n,hn⟩:=Int.eq_ofNat_of_zero_le (show 0<=st+sp * (i:Int) by omega);have n26:n<26:=by omega
    have hn':st+sp * (0+(i:Int))=(n:Int):=by rw[Int.zero_add];exact hn
    refine⟨_,rfl,_,rfl,_,rfl,z,rfl,zl,_,rfl,_,rfl,_,rfl,_,rfl,_,_,rfl,rfl,.inl ⟨by omega,by omega⟩,_,_,rfl,rfl,_,_,_,rfl,rfl,abl,(by rw[hn'];exact a0M (a9C n n26)),_,_,rfl,rfl,?_,_,rfl,_,rfl,_,_,rfl,rfl,_,rfl,z,rfl,zl,_,_,rfl,rfl,?_,?_,hD',⟨_,rfl⟩,sm.put hD⟩
    ·have:=Txt.slice_le z none (some at_)
     rw[sizeLine_eq];show _+1<=_
     omega
    ·have h1:=Txt.slice_le z none (some at_)
     have h2:=Txt.slice_le z (some (at_+1)) none;rw[sizeLine_eq,Str.length_append];show _+1+_<=_
     omega
    ·show V.str _=V.str (nmB z at_ st sp i)
     unfold nmB;rw[hn]
     rfl
   ·rintro σ' Hc ⟨_,sm⟩ hDn
    refine⟨nR0 _,?_⟩;have e1:(List.range m.toNat).map (fun i=>V.str (nmB z at_ st sp i))=((List.range m.toNat).map (nmB z at_ st sp)).map V.str:=by rw[mC0];rfl
    rw[e1] at hDn;exact q D _ Hc sm (a0T hD hDn) (by rw[lM0,List.length_range];omega) (b6c t0 (by omega) s0 sp0 _) (b0V t0 (by omega) s0 sp0 _)
structure Vl where
 a:Int
 z:Str
 b:Int
structure Gl where
 h:Vl
 gs:List Vl
structure D8 where
 T0:Str
 T1:Str
 c0:Str
 c1:Str
 c2:Str
 kb:Bool
def D8.v0 (d:D8)(h:Vl):V:=if d.kb then .str h.z else .int h.a
def D8.v1 (d:D8)(h:Vl):V:=if d.kb then .int h.a else .str h.z
def r0 (d:D8)(h:Vl):Rw:=[(d.c0,d.v0 h),(d.c1,d.v1 h)]
def r1 (d:D8)(v:Vl)(_:Nat):Rw:=[(d.c0,.int v.a),(d.c2,.int v.b)]
def pcG (d:D8)(g:Gl):Pc:=[(d.T0,[r0 d g.h]),(d.T1,g.gs.mapIdx fun i x=>r1 d x i)]
abbrev As:=List (Int×Gl)
def cA (d:D8)(A:As):List (Int×Pc):=A.map fun e=>(e.1,pcG d e.2)
def fnd {α:Type}(l:List (Int×α))(k:Int):Option α:=(l.find? fun e=>decide (e.1=k)).map (·.2)
theorem a4E {α:Type}(k:Int):fnd ([]:List (Int×α)) k=none:=rfl
theorem a1i {α:Type}(e:Int×α)(l:List (Int×α))(k:Int):fnd (e::l) k=if e.1=k then some e.2 else fnd l k:=by
 unfold fnd
 by_cases h:e.1=k
 ·rw[List.find?_cons_of_pos (by simp[h]),if_pos h]
  rfl
 ·rw[List.find?_cons_of_neg (by simp[h]),if_neg h]
theorem a1N {α:Type}{l:List (Int×α)}{k:Int}:fnd l k=none↔k∉l.map (·.1):=by
 induction l with
 |nil=>simp[a4E]
 |cons e l ih=>
  rw[a1i,mN0,mK0]
  by_cases h:e.1=k
  ·simp[h]
  ·rw[if_neg h,ih]
   constructor
   ·rintro h1 (h2 |h2)
    ·exact h h2.symm
    ·exact h1 h2
   ·exact fun h1 h2=>h1 (.inr h2)
theorem a3O {α:Type}{l:List (Int×α)}{k:Int}{a:α}(h:fnd l k=some a):(k,a)∈l:=by
 induction l with
 |nil=>cases h
 |cons e l ih=>
  rw[a1i] at h
  by_cases hk:e.1=k
  ·rw[if_pos hk] at h
   cases h;rw[<-hk];exact List.mem_cons_self
  ·rw[if_neg hk] at h
   exact mL0 _ (ih h)
theorem a2k {α:Type}{l:List (Int×α)}(nd:(l.map (·.1)).Nodup){k:Int}{a:α}(h:(k,a)∈l):fnd l k=some a:=by
 induction l with
 |nil=>cases h
 |cons e l ih=>
  rw[mN0,List.nodup_cons] at nd;rw[a1i];rcases mK0.mp h with rfl |h
  ·rw[if_pos rfl]
  ·rw[if_neg (fun z=>nd.1 (by rw[z];exact mM0.mpr ⟨_,h,rfl⟩))]
   exact ih nd.2 h
theorem a9a {α β:Type}(f:α->β)(l:List (Int×α))(k:Int):fnd (l.map fun e=>(e.1,f e.2)) k=(fnd l k).map f:=by
 induction l with
 |nil=>rfl
 |cons e l ih=>
  rw[mN0,a1i,a1i,ih]
  by_cases h:e.1=k
  ·rw[if_pos h,if_pos h];rfl
  ·rw[if_neg h,if_neg h]
theorem b5B {α:Type}{l:List (Int×α)}(nd:(l.map (·.1)).Nodup):l.Nodup:=by
 induction l with
 |nil=>exact List.nodup_nil
 |cons e l ih=>
  rw[mN0,List.nodup_cons] at nd;exact List.nodup_cons.mpr ⟨fun h=>nd.1 (mM0.mpr ⟨e,h,rfl⟩),ih nd.2⟩
theorem a7C {α:Type}(l:List (Int×α)):(srt l).Pairwise fun a b=>a.1<=b.1:=by
 have:=b3s l
 rwa [List.pairwise_map] at this
theorem a8T {α:Type}{c d:List (Int×α)}(nc:(c.map (·.1)).Nodup)(p:c.Perm d)(hd:d.Pairwise fun a b=>a.1<=b.1):srt c=d:=by
 refine List.Perm.eq_of_pairwise (fun a b ha hb h1 h2=>?_) (a7C c) hd ((a0C c).trans p);have e:a.1=b.1:=by omega
 have ha':=(a0C c).mem_iff.mp ha;have hb':=p.mem_iff.mpr hb;have f1:=a2k nc (k:=a.1) (a:=a.2) ha';have f2:=a2k nc (k:=b.1) (a:=b.2) hb';rw[e,f2] at f1;exact Prod.ext e (Option.some.inj f1).symm
theorem a9Z {α:Type}{c d:List (Int×α)}(nc:(c.map (·.1)).Nodup)(nd:(d.map (·.1)).Nodup)(h:∀k,fnd c k=fnd d k):srt c=srt d:=by
 have p:c.Perm d:=(List.perm_ext_iff_of_nodup (b5B nc) (b5B nd)).mpr fun e=>⟨fun he=>by
  have:=a2k nc (k:=e.1) (a:=e.2) he
  rw[h] at this;exact a3O this,fun he=>by
  have:=a2k nd (k:=e.1) (a:=e.2) he
  rw[<-h] at this;exact a3O this⟩
 exact a8T nc (p.trans (a0C d).symm) (a7C d)
theorem b5d {α β:Type}(f:α->β){l:List (Int×α)}(nd:(l.map (·.1)).Nodup):srt (l.map fun e=>(e.1,f e.2))=(srt l).map fun e=>(e.1,f e.2):=by
 refine a8T (by rw[mC0];exact nd) ((a0C l).symm.map _) ?_;rw[List.pairwise_map];exact a7C l
abbrev XY:=List (Int×Rw)×List (Int×Rw)
def tbs (d:D8):Option Gl->XY
 |none=>([],[])
 |some g=>([(0,r0 d g.h)],g.gs.mapIdx fun i x=>((i:Int),r1 d x i))
def P2 (d:D8)(x:XY):Pt:=[(d.T0,x.1),(d.T1,x.2)]
def pT (d:D8)(x:XY):Pc:=[(d.T0,x.1.map (·.2)),(d.T1,x.2.map (·.2))]
theorem a5s (d:D8)(o:Option Gl):o.map (pcG d)=if (tbs d o).1=[] then none else some (pT d (tbs d o)):=by
 cases o with
 |none=>rfl
 |some g=>
  rw[if_neg (by intro h;cases h)];show some (pcG d g)=some [(d.T0,[r0 d g.h]),(d.T1,(g.gs.mapIdx fun i x=>((i:Int),r1 d x i)).map (·.2))];rw[a2u]
  rfl
abbrev Fn:=Int->XY
def nms (d:D8):List Str:=[d.T0,d.T1]
def stF (d:D8)(F:Fn)(s:Stp):Fn:=fun k=>if k=s.k then(if s.z=d.T0 then(a5N s.vb (s.p,s.row) (F k).1,(F k).2) else((F k).1,a5N s.vb (s.p,s.row) (F k).2)) else F k
structure Sim (d:D8) (st:List (Int×Pt)) (F F0:Fn):Prop where
 at_:∀n∈st,n.2=P2 d (F n.1)
 out:∀k,k∉st.map (·.1)->F k=F0 k
theorem b3y {d:D8}{C:List (Int×Pc)}{F0 F:Fn}(hC:∀k,a6o (nms d) C k=P2 d (F0 k)){st:List (Int×Pt)}(h:Sim d st F F0)(k:Int):∀n∈a8v (nms d) C k st,n.2=P2 d (F n.1):=by
 intro n hn;unfold a8v at hn
 by_cases hk:k∈st.map (·.1)
 ·rw[if_pos hk] at hn
  exact h.at_ n hn
 ·rw[if_neg hk] at hn
  rcases mB0.mp hn with hn |hn
  ·exact h.at_ n hn
  ·rw[mS0.mp hn]
   show a6o (nms d) C k=_;rw[hC,h.out k hk]
theorem b2h {d:D8}(ne:d.T0≠d.T1){C:List (Int×Pc)}{F0 F:Fn}(hC:∀k,a6o (nms d) C k=P2 d (F0 k)){st:List (Int×Pt)}(h:Sim d st F F0){s:Stp}(hz:s.z=d.T0\/s.z=d.T1):Sim d (a8r (nms d) C st s) (stF d F s) F0:=by
 have hk1:∀n:Int×Pt,(b0R s n).1=n.1:=fun n=>by unfold b0R;split<;>rfl
 constructor
 ·intro n hn
  unfold a8r at hn;obtain⟨n0,hn0,rfl⟩:=mM0.mp hn;have e0:=b3y hC h s.k n0 hn0;rw[hk1];unfold b0R stF
  by_cases hk:n0.1=s.k
  ·rw[if_pos hk,if_pos hk]
   show n0.2.map _=_;rw[e0];unfold P2;rcases hz with hz |hz
   ·rw[if_pos hz]
    simp[hz,ne.symm]
   ·rw[if_neg (by rw[hz];exact ne.symm)]
    simp[hz,ne]
  ·rw[if_neg hk,if_neg hk]
   exact e0
 ·intro k hk
  have hkeys:(a8r (nms d) C st s).map (·.1)=(a8v (nms d) C s.k st).map (·.1):=by
   unfold a8r;rw[mC0];exact List.map_congr_left fun n _=>hk1 n
  rw[hkeys] at hk;have h1:k≠s.k:=fun e=>hk (by
   unfold a8v
   split
   ·rw[e];assumption
   ·rw[mA0]
    exact List.mem_append_right _ (by rw[e];exact mS0.mpr rfl))
  have h2:k∉st.map (·.1):=fun e=>hk (by
   unfold a8v
   split
   ·exact e
   ·rw[mA0]
    exact List.mem_append_left _ e)
  unfold stF;rw[if_neg h1];exact h.out k h2
def a8t (d:D8):Fn->List Stp->Fn->Prop
 |F,[],F'=>F=F'
 |F,s::r,F'=>(s.z=d.T0\/s.z=d.T1)/\Can s.vb s.p ((if s.z=d.T0 then(F s.k).1 else(F s.k).2).map (·.1))/\a8t d (stF d F s) r F'
theorem a8t.app {d:D8}:∀{l r:List Stp} {F G H:Fn},a8t d F l G->a8t d G r H->a8t d F (l++r) H
 |[],_,_,_,_,h,h'=>by cases h;exact h'
 |_::l,_,_,_,_,⟨a,b,c⟩,h'=>⟨a,b,a8t.app c h'⟩
theorem b5p {d:D8}(ne:d.T0≠d.T1){C:List (Int×Pc)}{F0 F:Fn}(hC:∀k,a6o (nms d) C k=P2 d (F0 k)){st:List (Int×Pt)}(h:Sim d st F F0){s:Stp}(hz:s.z=d.T0\/s.z=d.T1)(hc:Can s.vb s.p ((if s.z=d.T0 then(F s.k).1 else(F s.k).2).map (·.1))):b7e (nms d) C st s:=by
 intro n hn hk t ht et;rw[b3y hC h s.k n hn,hk] at ht;rcases (show t=_\/t=_ by simpa[P2] using ht) with rfl |rfl
 ·rw[if_pos et.symm] at hc
  exact hc
 ·rw[if_neg (by rw[<-et];exact ne.symm)] at hc
  exact hc
theorem b0l {d:D8}(ne:d.T0≠d.T1){C:List (Int×Pc)}{F0:Fn}(hC:∀k,a6o (nms d) C k=P2 d (F0 k)):∀{ss:List Stp} {F F':Fn} {st:List (Int×Pt)},Sim d st F F0->a8t d F ss F' →
  Sim d (ss.foldl (a8r (nms d) C) st) F' F0/\∀(j:Nat) (s:Stp),ss[j]? =some s->b7e (nms d) C ((ss.take j).foldl (a8r (nms d) C) st) s
 |[],F,F',st,h,hr=>by
  cases hr;exact⟨h,fun j s hs=>nomatch hs⟩
 |s::r,F,F',st,h,⟨hz,hc,hr⟩=>by
  obtain⟨h1,h2⟩:=b0l ne hC (b2h ne hC h hz) hr;refine⟨h1,fun j s' hs=>?_⟩
  match j,hs with
  |0,hs=>
   cases hs;exact b5p ne hC h hz hc
  |j+1,hs=>exact h2 j s' hs
def fA (d:D8)(A:As):Fn:=fun k=>tbs d (fnd A k)
theorem b7x {d:D8}(ne:d.T0≠d.T1){C:List (Int×Pc)}{A:As}(h:∀k,fnd C k=(fnd A k).map (pcG d))(k:Int):a6o (nms d) C k=P2 d (fA d A k):=by
 have key:∀z,plc C k z=match fnd C k with |some pc=>a4M (tab pc z) |none=>[]:=fun z=>by
  unfold plc fnd;cases C.find? (fun e=>decide (e.1=k))<;>rfl
 unfold a6o nms P2 fA;rw[mN0,mN0,List.map_nil,key,key,h];cases fnd A k with
 |none=>rfl
 |some g=>
  have t0:tab (pcG d g) d.T0=[r0 d g.h]:=by
   unfold tab pcG;rw[List.find?_cons_of_pos (by simp)]
   rfl
  have t1:tab (pcG d g) d.T1=g.gs.mapIdx fun i x=>r1 d x i:=by
   unfold tab pcG;rw[List.find?_cons_of_neg (by simp[ne]),List.find?_cons_of_pos (by simp)]
   rfl
  show[(d.T0,a4M (tab (pcG d g) d.T0)),(d.T1,a4M (tab (pcG d g) d.T1))]=_
  rw[t0,t1];unfold a4M;rw[List.mapIdx_mapIdx]
  rfl
theorem b3m {α:Type}{l:List (Int×α)}(nd:(l.map (·.1)).Nodup)(h:l.Pairwise fun a b=>a.1<=b.1):srt l=l:=a8T nd (.refl _) h
theorem b7G (d:D8)(o:Option Gl):(((tbs d o).1.map (·.1)).Nodup/\(tbs d o).1.Pairwise fun a b=>a.1<=b.1)/\((tbs d o).2.map (·.1)).Nodup/\(tbs d o).2.Pairwise fun a b=>a.1<=b.1:=by
 cases o with
 |none=>exact⟨⟨List.nodup_nil,.nil⟩,List.nodup_nil,.nil⟩
 |some g=>
  refine⟨⟨by show[(0:Int)].Nodup;simp,List.pairwise_singleton _ _⟩,?_⟩;have e:((tbs d (some g)).2.map (·.1))=(List.range g.gs.length).map fun i:Nat=>(i:Int):=by
   show(g.gs.mapIdx fun i x=>((i:Int),r1 d x i)).map (·.1)=_
   rw[a2u];apply List.ext_getElem?;intro i;rw[gX0,gM0]
   by_cases hi:i<g.gs.length
   ·rw[gE0 hi,gE0 (by rw[List.length_range];exact hi)]
    simp
   ·rw[List.getElem?_eq_none (by omega),List.getElem?_eq_none (by rw[List.length_range];omega)]
    rfl
  constructor
  ·rw[e]
   exact List.Pairwise.map _ (fun a b hab h=>hab (by omega)) List.nodup_range
  ·have:((tbs d (some g)).2.map (·.1)).Pairwise (·<=·):=by
    rw[e,List.pairwise_map];exact(List.pairwise_lt_range (n:=g.gs.length)).imp fun {a b} h=>by omega
   rwa [List.pairwise_map] at this
theorem b6G {d:D8}{C:List (Int×Pc)}{A A':As}{st:List (Int×Pt)}(h:∀k,fnd C k=(fnd A k).map (pcG d))(hs:Sim d st (fA d A') (fA d A))(k:Int):(bhd C st k).map (·.2)=(fnd A' k).map (pcG d):=by
 unfold bhd;cases hf:st.find? (fun c=>decide (c.1=k)) with
 |some c=>
  have hc:c.1=k:=by simpa using List.find?_some hf
  have e:=hs.at_ c (List.mem_of_find?_eq_some hf);rw[hc] at e
  dsimp only
  rw[e,a5s]
  show(if a9A (P2 d (tbs d (fnd A' k)))=true then some (k,(P2 d (tbs d (fnd A' k))).map pcC) else none).map (·.2)=_
  obtain⟨⟨n1,s1⟩,n2,s2⟩:=b7G d (fnd A' k);cases hA:fnd A' k with
  |none=>rfl
  |some g=>
   rw[hA] at n1 s1 n2 s2;rw[if_pos (show a9A (P2 d (tbs d (some g)))=true from rfl),if_neg (by intro h;cases h)];show some [((d.T0,(srt (tbs d (some g)).1).map (·.2)):Str×List Rw),(d.T1,(srt (tbs d (some g)).2).map (·.2))]=_;rw[b3m n1 s1,b3m n2 s2]
   rfl
 |none=>
  have ho:k∉st.map (·.1):=fun hm=>by
   obtain⟨c,hc,rfl⟩:=mM0.mp hm
   have:=List.find?_eq_none.mp hf c hc
   simp at this
  have e:=hs.out k ho
  dsimp only
  show fnd C k=_;rw[h,a5s,a5s];rw[show tbs d (fnd A' k)=tbs d (fnd A k) from e]
theorem b4R {d:D8}{C:List (Int×Pc)}{A A':As}{st:List (Int×Pt)}(h:∀k,fnd C k=(fnd A k).map (pcG d))(hs:Sim d st (fA d A') (fA d A)){ms:List Int}(hm:b8a C st ms)(k:Int):fnd (ms.filterMap (bhd C st)) k=(fnd A' k).map (pcG d):=by
 have nd:((ms.filterMap (bhd C st)).map (·.1)).Nodup:=hm.nd.sublist (a3t C st ms)
 by_cases hk:k∈ms
 ·rw[<-b6G h hs k]
  cases hb:bhd C st k with
  |some c=>
   have e:=a6u hb
   have:(k,c.2)∈ms.filterMap (bhd C st):=List.mem_filterMap.mpr ⟨k,hk,by rw[hb,<-e]⟩
   rw[a2k nd this]
   rfl
  |none=>
   refine a1N.mpr fun hmem=>?_;obtain⟨c,hc,e⟩:=mM0.mp hmem;obtain⟨k',hk',hb'⟩:=List.mem_filterMap.mp hc;have e2:=a6u hb'
   have:k'=k:=e2.symm.trans e
   rw[this,hb] at hb';cases hb'
 ·have n1:fnd (ms.filterMap (bhd C st)) k=none:=a1N.mpr fun hmem=>hk ((a3t C st ms).subset hmem)
  have n2:k∉C.map (·.1)/\k∉st.map (·.1):=⟨fun h1=>hk ((hm.mem k).mpr (.inl h1)),fun h1=>hk ((hm.mem k).mpr (.inr h1))⟩;have e:=hs.out k n2.2;have hC0:=a1N.mpr n2.1;rw[h,a5s] at hC0;rw[n1,a5s,show tbs d (fnd A' k)=tbs d (fnd A k) from e,hC0]
def a4b (A:As)(k:Int)(v:Vl):As:=if k∈A.map (·.1) then A.map fun e=>if e.1=k then(e.1,⟨v,e.2.gs⟩) else e else A++[(k,⟨v,[]⟩)]
def b5h (A:As)(k:Int):As:=A.filter fun e=>decide (e.1≠k)
def b2C (A:As)(k:Int)(v:Vl):As:=A.map fun e=>if e.1=k then(e.1,⟨e.2.h,e.2.gs++[v]⟩) else e
def a5d (A:As)(k:Int):As:=A.map fun e=>if e.1=k then(e.1,⟨e.2.h,e.2.gs.dropLast⟩) else e
def a5Y (d:D8)(A:As)(k:Int)(v:Vl):List Stp:=[⟨if k∈A.map (·.1) then "set" else "add",d.T0,k,0,r0 d v⟩]
def cutS (d:D8)(k:Int):List Stp:=[⟨"cut",d.T0,k,0,[]⟩]
def addS (d:D8)(k:Int)(n:Nat)(v:Vl):List Stp:=[⟨"add",d.T1,k,(n:Int),r1 d v n⟩]
def b7i (d:D8)(k:Int)(n:Nat):List Stp:=[⟨"cut",d.T1,k,(n:Int),[]⟩]
theorem a5j {α:Type}(f:α->α)(l:List (Int×α))(k j:Int):fnd (l.map fun e=>if e.1=k then(e.1,f e.2) else e) j=if j=k then(fnd l j).map f else fnd l j:=by
 induction l with
 |nil=>rw[List.map_nil,a4E];split<;>rfl
 |cons e l ih=>
  rw[mN0,a1i,a1i,ih]
  by_cases h1:e.1=k
  ·rw[if_pos h1]
   by_cases h2:e.1=j
   ·rw[if_pos h2,if_pos h2,if_pos (h2.symm.trans h1)];rfl
   ·rw[if_neg h2,if_neg h2]
  ·rw[if_neg h1]
   by_cases h2:e.1=j
   ·rw[if_pos h2,if_pos h2,if_neg (fun z=>h1 (h2.trans z))]
   ·rw[if_neg h2,if_neg h2]
theorem a7p {α:Type}(l:List (Int×α))(e:Int×α)(j:Int):fnd (l++[e]) j=match fnd l j with |some a=>some a |none=>if e.1=j then some e.2 else none:=by
 induction l with
 |nil=>rw[List.nil_append,a1i,a4E]
 |cons x l ih=>
  rw[List.cons_append,a1i,a1i,ih]
  by_cases h:x.1=j
  ·rw[if_pos h,if_pos h]
  ·rw[if_neg h,if_neg h]
theorem b4i {α:Type}(l:List (Int×α))(k j:Int):fnd (l.filter fun e=>decide (e.1≠k)) j=if j=k then none else fnd l j:=by
 induction l with
 |nil=>rw[List.filter_nil,a4E];split<;>rfl
 |cons x l ih=>
  by_cases h:x.1=k
  ·rw[List.filter_cons_of_neg (by simp[h]),ih,a1i]
   by_cases h2:j=k
   ·rw[if_pos h2,if_pos h2]
   ·rw[if_neg h2,if_neg h2,if_neg (fun z=>h2 (z.symm.trans h))]
  ·rw[List.filter_cons_of_pos (by simp[h]),a1i,a1i,ih]
   by_cases h2:x.1=j
   ·rw[if_pos h2,if_pos h2,if_neg (fun z=>h (h2.trans z))]
   ·rw[if_neg h2,if_neg h2]
theorem a4B {f:Int×Gl->Gl}(A:As)(k:Int):(A.map fun e=>if e.1=k then(e.1,f e) else e).map (·.1)=A.map (·.1):=by
 rw[mC0];exact List.map_congr_left fun e _=>by
  show(if e.1=k then(e.1,f e) else e).1=e.1
  split<;>rfl
theorem b1E {A:As}(nd:(A.map (·.1)).Nodup)(k:Int)(v:Vl):((a4b A k v).map (·.1)).Nodup:=by
 unfold a4b
 by_cases hk:k∈A.map (·.1)
 ·rw[if_pos hk,a4B]
  exact nd
 ·rw[if_neg hk,mA0,List.nodup_append]
  refine⟨nd,by simp,fun x hx y hy=>?_⟩;rw[mS0.mp hy];exact fun z=>hk (by rw[show x=k from z] at hx;exact hx)
theorem b4c {A:As}(nd:(A.map (·.1)).Nodup)(k:Int):((b5h A k).map (·.1)).Nodup:=nd.sublist (List.filter_sublist.map _)
theorem b3J {A:As}(nd:(A.map (·.1)).Nodup)(k:Int)(v:Vl):((b2C A k v).map (·.1)).Nodup:=by
 unfold b2C;rw[a4B];exact nd
theorem b2p {A:As}(nd:(A.map (·.1)).Nodup)(k:Int):((a5d A k).map (·.1)).Nodup:=by
 unfold a5d;rw[a4B];exact nd
theorem b6J {A:As}{k:Int}(h:k∈A.map (·.1)):∃g,fnd A k=some g:=by
 cases e:fnd A k with
 |some g=>exact⟨g,rfl⟩
 |none=>exact absurd h (a1N.mp e)
theorem b5Q (p:Int)(row:Rw)(A:List (Int×Rw)):a5N "set" (p,row) A=A.map fun r=>if r.1=p then(p,row) else r:=by
 unfold a5N;rw[if_neg (by decide +kernel),if_neg (by decide +kernel)]
theorem b2R (p:Int)(row:Rw)(A:List (Int×Rw)):a5N "add" (p,row) A=A++[(p,row)]:=by
 unfold a5N;rw[if_neg (by decide +kernel),if_pos rfl]
theorem b2Q (p:Int)(row:Rw)(A:List (Int×Rw)):a5N "cut" (p,row) A=A.filter fun r=>decide (r.1≠p):=by
 unfold a5N;rw[if_pos rfl]
theorem a3W {d:D8}(A:As)(k:Int)(v:Vl):a8t d (fA d A) (a5Y d A k v) (fA d (a4b A k v)):=by
 unfold a5Y a4b
 by_cases hk:k∈A.map (·.1)
 ·rw[if_pos hk,if_pos hk]
  obtain⟨g,hg⟩:=b6J hk;refine⟨.inl rfl,?_,?_⟩
  ·rw[if_pos rfl]
   show Can "set" 0 ((tbs d (fnd A k)).1.map (·.1));rw[hg];exact .inr (.inl ⟨rfl,by show(0:Int)∈[(0:Int)];simp⟩)
  ·funext j
   unfold stF fA;rw[a5j (fun g:Gl=>⟨v,g.gs⟩)]
   by_cases hj:j=k
   ·rw[if_pos hj,if_pos hj,if_pos rfl,hj,hg]
    show(a5N "set" (0,r0 d v) [(0,r0 d g.h)],_)=_
    rw[b5Q]
    rfl
   ·rw[if_neg hj,if_neg hj]
 ·rw[if_neg hk,if_neg hk]
  have hg:=a1N.mpr hk;refine⟨.inl rfl,?_,?_⟩
  ·rw[if_pos rfl]
   show Can "add" 0 ((tbs d (fnd A k)).1.map (·.1));rw[hg];exact .inl ⟨rfl,by show(0:Int)∉[];simp⟩
  ·funext j
   unfold stF fA;rw[a7p]
   by_cases hj:j=k
   ·rw[if_pos hj,if_pos rfl,hj,hg]
    show(a5N "add" (0,r0 d v) [],[])=tbs d (if k=k then some ⟨v,[]⟩ else none)
    rw[b2R,if_pos rfl]
    rfl
   ·rw[if_neg hj]
    cases fnd A j with
    |some g'=>rfl
    |none=>
     show tbs d none=tbs d (if k=j then some ⟨v,[]⟩ else none);rw[if_neg (fun z=>hj z.symm)]
theorem b5R {d:D8}{g:Gl}{r:Int×Rw}(h:r∈(tbs d (some g)).2):∃i:Nat,i<g.gs.length/\r.1=(i:Int):=by
 obtain⟨i,hi⟩:=List.getElem?_of_mem h;rw[show(tbs d (some g)).2=g.gs.mapIdx fun i x=>((i:Int),r1 d x i) from rfl,gX0] at hi;cases h3:g.gs[i]? with
 |none=>rw[h3] at hi;cases hi
 |some y=>
  rw[h3] at hi;cases hi;exact⟨i,(gS0.mp h3).1,rfl⟩
theorem b1j {d:D8}(ne:d.T0≠d.T1){A:As}{k:Int}{g:Gl}(hg:fnd A k=some g)(x:Vl):a8t d (fA d A) (addS d k g.gs.length x) (fA d (b2C A k x)):=by
 refine⟨.inr rfl,?_,?_⟩
 ·rw[if_neg ne.symm]
  show Can "add" (g.gs.length:Int) ((tbs d (fnd A k)).2.map (·.1));rw[hg];refine .inl ⟨rfl,fun h=>?_⟩;obtain⟨r,hr,e⟩:=mM0.mp h;obtain⟨i,h1,h2⟩:=b5R hr;have h3:r.1=(g.gs.length:Int):=e
  omega
 ·funext j
  unfold stF fA b2C;rw[a5j (fun g:Gl=>⟨g.h,g.gs++[x]⟩)]
  by_cases hj:j=k
  ·rw[if_pos hj,if_pos hj,if_neg ne.symm,hj,hg]
   show(_,a5N "add" ((g.gs.length:Int),r1 d x g.gs.length) (g.gs.mapIdx fun i x=>((i:Int),r1 d x i)))=([(0,r0 d g.h)],(g.gs++[x]).mapIdx fun i x=>((i:Int),r1 d x i))
   rw[b2R,List.mapIdx_append];simp
   rfl
  ·rw[if_neg hj,if_neg hj]
theorem a9c {d:D8}(ne:d.T0≠d.T1){A:As}{k:Int}{g:Gl}(hg:fnd A k=some g){n:Nat}(hn:g.gs.length=n+1):a8t d (fA d A) (b7i d k n) (fA d (a5d A k)):=by
 obtain⟨l,x,hl⟩:∃l x,g.gs=l++[x]:=⟨g.gs.dropLast,g.gs.getLast (by intro z;rw[z] at hn;cases hn),(List.dropLast_concat_getLast _).symm⟩;have ln:l.length=n:=by rw[hl,lA0,lS0] at hn;omega
 have e2:(tbs d (some g)).2=(l.mapIdx fun i x=>((i:Int),r1 d x i))++[((n:Int),r1 d x n)]:=by
  show(g.gs.mapIdx fun i x=>((i:Int),r1 d x i))=_
  rw[hl,List.mapIdx_append,ln];simp
 refine⟨.inr rfl,?_,?_⟩
 ·rw[if_neg ne.symm]
  show Can "cut" (n:Int) ((tbs d (fnd A k)).2.map (·.1));rw[hg,e2];exact .inr (.inr ⟨rfl,by rw[mA0];exact List.mem_append_right _ List.mem_cons_self⟩)
 ·funext j
  unfold stF fA a5d;rw[a5j (fun g:Gl=>⟨g.h,g.gs.dropLast⟩)]
  by_cases hj:j=k
  ·rw[if_pos hj,if_pos hj,if_neg ne.symm,hj,hg]
   show((tbs d (some g)).1,a5N "cut" ((n:Int),[]) (tbs d (some g)).2)=([(0,r0 d g.h)],g.gs.dropLast.mapIdx fun i x=>((i:Int),r1 d x i))
   rw[e2,b2Q,List.filter_append,hl,List.dropLast_concat,List.filter_eq_self.mpr,List.filter_cons_of_neg (by simp),List.filter_nil,List.append_nil]
   ·rfl
   ·intro r hr
    obtain⟨i,h1,h2⟩:=b5R (d:=d) (g:=⟨g.h,l⟩) hr
    have:r.1≠(n:Int):=by
     have h1':i<l.length:=h1
     omega
    exact dT0 this
  ·rw[if_neg hj,if_neg hj]
theorem b1D {d:D8}{A:As}{k:Int}{g:Gl}(hg:fnd A k=some g)(h0:g.gs=[]):a8t d (fA d A) (cutS d k) (fA d (b5h A k)):=by
 refine⟨.inl rfl,?_,?_⟩
 ·rw[if_pos rfl]
  show Can "cut" 0 ((tbs d (fnd A k)).1.map (·.1));rw[hg];exact .inr (.inr ⟨rfl,by show(0:Int)∈[(0:Int)];simp⟩)
 ·funext j
  unfold stF fA b5h;rw[b4i]
  by_cases hj:j=k
  ·rw[if_pos hj,if_pos hj,if_pos rfl,hj,hg]
   show(a5N "cut" (0,[]) [(0,r0 d g.h)],g.gs.mapIdx fun i x=>((i:Int),r1 d x i))=([],[])
   rw[b2Q,h0]
   rfl
  ·rw[if_neg hj,if_neg hj]
def vL (v:Vl):HO:=.lst [.int v.a,.str v.z,.int v.b]
def wds:List Str:=["","a","A","ab"," "]
def b2U:Sp:=fun vs H Q _=>∃n b:Int,vs=[.int n,.int b]/\∀l v H',a0k H H'->cut H H' l=some (vL v)->Q (.ref l) H'
structure D8.Ok (d:D8):Prop where
 T:d.T0≠d.T1
 c01:d.c0≠d.c1
 c02:d.c0≠d.c2
def kdL (d:D8):HO:=.lst [.int (if d.kb then 1 else 0),.int (if d.kb then 0 else 1)]
structure NmC (G:Hp) (lc kl:Addr) (d:D8):Prop where
 c:G lc=some (.lst [.str d.c0,.str d.c1,.str d.c2])
 k:G kl=some (kdL d)
theorem NmC.same {G G':Hp}{lc kl:Addr}{d:D8}(h:NmC G lc kl d)(s:a0k G G'):NmC G' lc kl d:=⟨s _ _ h.c,s _ _ h.k⟩
def a3u (d:D8):Sp:=fun vs H Q _=>∃(lc kl vl:Addr) (v:Vl),vs=[.ref lc,.ref kl,.ref vl]/\NmC H lc kl d/\H vl=some (vL v)/\d.Ok/\∀r H',a0k H H'->cut H H' r=some (.dK (rK (r0 d v)))->Q (.ref r) H'
theorem b4h {f:Addr}{fd:FuncData}(F:Fun K "_law_values" "_law_values" (top 41) f fd):a0A P w K mg base CX0 1 f fd ["_law_number","_law_base"] b2U:=by
 have sc:a0o ["_law_number","_law_base"] ["_law_number","_law_base"] (a0g (top 41)):=.k (by decide +kernel);refine F.ok sc (fun vs H Q E h=>?_) (fun cdv A outer s H vs Q E hr h=>?_)
 ·obtain⟨n,b,rfl,_⟩:=h
  rfl
 ·obtain⟨n,b,rfl,q⟩:=h
  refine⟨_,a0h (a0F (a1f (a0a (a0B a1Q (pv 1) (a0B a1m (pv 0) a0f)) (a0a (a0t a0r (a1f (a0a a0x (a0a a0x (a0a a0x (a0a a0x (a0a a0x a0e)))))) (a0B a1m (a0B a1w (pv 0) a0f) a0f) (fun _ _=>rfl)) (a0a (a0B a1m (a0B a1w (pv 0) a0f) a0f) a0e))))),?_⟩;refine⟨_,rfl,_,rfl,_,_,rfl,rfl,(pos rfl),_,_,rfl,rfl,(by show 5<=sizeLine;decide),fun p hp=>?_⟩;generalize hX:upd H p _=H1;obtain⟨T1,e1_⟩:=gz hX hp;have e1:H1 p=some (.lst (wds.map V.str)):=e1_;have n0:=Int.emod_nonneg (n/5) (show(5:Int)≠0 by decide);have n1:=Int.emod_lt_of_pos (n/5) (show(0:Int)<5 by decide);obtain⟨i,hi⟩:=Int.eq_ofNat_of_zero_le n0;have i5:i<wds.length:=by show i<5;omega
  have ea:atI (wds.map V.str) (n/5%5)=some (.str wds[i]):=by
   rw[hi];exact a0M (by rw[gM0,gE0 i5];rfl)
  refine⟨_,rfl,_,_,rfl,rfl,⟨by decide,by decide⟩,_,_,rfl,rfl,(pos rfl),p,_,_,_,rfl,rfl,SqL.of e1,ea,?_⟩;refine⟨_,rfl,_,_,rfl,rfl,⟨by decide,by decide⟩,_,_,rfl,rfl,(pos rfl),(by show 3<=sizeLine;decide),fun l hl=>?_⟩;exact q l ⟨_,wds[i],_⟩ _ (T1.trans (a0k.upd hl)) (a0T (a0v T1 hl) a0c)
theorem a4q {f:Addr}{fd:FuncData}{d:D8}(F:Fun K "_law_head_row" "_law_head_row" (top 42) f fd)(B:Bl mg):a0A P w K mg base CX0 1 f fd ["_law_columns","_law_kinds","_law_values_here"] (a3u d):=by
 have sc:a0o ["_law_columns","_law_kinds","_law_values_here","_law_row","_law_k"] ["_law_columns","_law_kinds","_law_values_here"] (a0g (top 42)):=.k (by decide +kernel);refine F.ok sc (fun vs H Q E h=>?_) (fun cdv A outer s H vs Q E hr h=>?_)
 ·obtain⟨lc,kl,vl,v,rfl,_⟩:=h
  rfl
 ·obtain⟨lc,kl,vl,v,rfl,hn,hv,ok,q⟩:=h
  have hu:=a1T hr;refine⟨_,a0b (a0n (i:=3) sc.nd rfl (Or.inl rfl) a1n)
   (a0b (a0X PassesOwn.never rfl (a2a rfl B.range (a0a a0f a0e)) (a0m (i:=4) sc.nd rfl (Or.inl rfl))
    (a0h (a1h hu (pv 3) (a0t a0r (pv 0) (pv 4) (fun _ _=>rfl)) (a0t a0r (pv 2) (a0t a0r (pv 1) (pv 4) (fun _ _=>rfl)) (fun _ _=>rfl)) rfl)))
   (a0h (a0F (pv 3)))),?_⟩
  refine fun r hr0=>?_;generalize hX:upd H r _=H0;obtain⟨T0,e0⟩:=gz hX hr0;have cells:∀i:Nat,i<2->∃(c:Str) (j:Int) (x:V),atI [V.str d.c0,.str d.c1,.str d.c2] (0+(i:Int))=some (.str c)/\atI [V.int (if d.kb then 1 else 0),.int (if d.kb then 0 else 1)] (0+(i:Int))=some (.int j)/\atI [V.int v.a,.str v.z,.int v.b] j=some x/\(r0 d v)[i]? =some (c,x):=fun i hi=>by
   rcases (show i=0\/i=1 by omega) with rfl |rfl
   ·refine⟨d.c0,_,d.v0 v,rfl,rfl,?_,rfl⟩
    unfold D8.v0;cases d.kb<;>rfl
   ·refine⟨d.c1,_,d.v1 v,rfl,rfl,?_,rfl⟩
    unfold D8.v1;cases d.kb<;>rfl
  refine⟨_,rfl,(by decide),(by decide),a3X (fun i σ H1=>(∀b o,b≠r->H0 b=some o->H1 b=some o)/\H1 r=some (.dK (rK ((r0 d v).take i)))/\∃u4,σ=[some (.ref lc),some (.ref kl),some (.ref vl),some (.ref r),u4]) ⟨fun b o _ e=>e,e0,_,rfl⟩ ?_ ?_⟩
  ·rintro i σ H1 hi ⟨k1,r1',u4,rfl⟩
   have hi2:i<2:=hi;have ar:∀{b:Addr} {o:HO},H b=some o->H1 b=some o:=fun {b o} e=>k1 _ _ (a0j e hr0) (T0 _ _ e);obtain⟨c,j,x,h1,h2,h3,h4⟩:=cells i hi2;refine⟨_,rfl,_,rfl,_,rfl,kl,_,_,_,rfl,rfl,SqL.of (ar hn.k),h2,vl,_,_,_,rfl,rfl,SqL.of (ar hv),h3,_,rfl,_,rfl,_,rfl,lc,_,_,_,rfl,rfl,SqL.of (ar hn.c),h1,r,_,rfl,a8X.k (k:=.inr c) r1' (by unfold rK;rw[lM0,lT0,sizeLine_eq];omega),?_⟩;have hnew:a1k (rK ((r0 d v).take i)) (.inr c)=none:=by
    rcases (show i=0\/i=1 by omega) with rfl |rfl
    ·rfl
    ·cases h4
     show a1k [((.inr d.c0:Key),d.v0 v)] (.inr d.c1)=none;rw[a1s (p:=((.inr d.c0:Key),d.v0 v)) (fun e=>ok.c01 (by injection e))]
     rfl
   rw[a1j _ hnew];refine⟨fun b o nb e=>(a0d nb).trans (k1 b o nb e),?_,_,rfl⟩;rw[a0c,tS0,h4];unfold rK;rw[mA0]
   rfl
  ·rintro σ H1 ⟨k1,r1',u4,rfl⟩
   refine⟨_,rfl,?_⟩;exact q r H1 (fun b o e=>k1 b o (a0j e hr0) (T0 _ _ e)) (a0T hr0 r1')
def ex2 (a b:Addr)(H:Hp):Hp:=fun x=>if x=a\/x=b then none else H x
theorem a0R {a b:Addr}{H:Hp}:a0k (ex2 a b H) H:=fun x o e=>by
 unfold ex2 at e
 split at e
 ·cases e
 ·exact e
theorem a1Y {a b x:Addr}{H:Hp}{o:HO}(e:ex2 a b H x=some o):x≠a/\x≠b:=by
 unfold ex2 at e
 split at e
 ·cases e
 ·rename_i h
  exact⟨fun z=>h (.inl z),fun z=>h (.inr z)⟩
theorem a2B {a b x:Addr}{H:Hp}{o:HO}(h1:x≠a)(h2:x≠b)(e:H x=some o):ex2 a b H x=some o:=by
 unfold ex2;rw[if_neg (fun z=>z.elim h1 h2)];exact e
theorem a2E {a b:Addr}{H H':Hp}(s:a0k H H'):a0k (ex2 a b H) (ex2 a b H'):=fun x o e=>a2B (a1Y e).1 (a1Y e).2 (s _ _ (a0R _ _ e))
theorem a7T {a b:Addr}{H:Hp}{o:HO}:a0k (ex2 a b H) (ex2 a b (upd H a o)):=fun x u e=>a2B (a1Y e).1 (a1Y e).2 ((a0d (a1Y e).1).trans (a0R _ _ e))
theorem b4N {a b:Addr}{H:Hp}{o:HO}:a0k (ex2 a b H) (ex2 a b (upd H b o)):=fun x u e=>a2B (a1Y e).1 (a1Y e).2 ((a0d (a1Y e).2).trans (a0R _ _ e))
structure E7 where
 k:Int
 h:Addr
 v:Vl
structure M7 where
 k:Int
 s:Addr
 ps:List Addr
 vs:List Vl
def kh (L:List E7):List (Key×V):=L.map fun e=>(.inl e.k,.ref e.h)
def km (M:List M7):List (Key×V):=M.map fun e=>(.inl e.k,.ref e.s)
def mgt (M:List M7)(k:Int):List Vl:=((fnd (M.map fun m=>(m.k,m.vs)) k)).getD []
def aL (L:List E7)(M:List M7):As:=L.map fun e=>(e.k,⟨e.v,mgt M e.k⟩)
structure LsA (G:Hp) (L:List E7) (M:List M7):Prop where
 h:∀e∈L,G e.h=some (vL e.v)
 s:∀m∈M,G m.s=some (.lst (m.ps.map V.ref))/\m.ps.length=m.vs.length
 v:∀m∈M,∀(j:Nat) (p:Addr) (v:Vl),m.ps[j]? =some p->m.vs[j]? =some v->G p=some (vL v)
theorem LsA.same {G G':Hp}{L:List E7}{M:List M7}(h:LsA G L M)(s:a0k G G'):LsA G' L M:=⟨fun e he=>s _ _ (h.h e he),fun m hm=>⟨s _ _ (h.s m hm).1,(h.s m hm).2⟩,fun m hm j p v a b=>s _ _ (h.v m hm j p v a b)⟩
structure StB (H:Hp) (hd sm:Addr) (kk:List Int) (L:List E7) (M:List M7):Prop where
 ne:hd≠sm
 nd:(L.map (·.k)).Nodup
 nm:(M.map (·.k)).Nodup
 kl:∀e∈L,e.k∈kk
 kq:∀m∈M,m.k∈kk
 em:∀m∈M,m.k∉L.map (·.k)->m.vs=[]
 h:H hd=some (.dK (kh L))
 s:H sm=some (.dK (km M))
 ls:LsA (ex2 hd sm H) L M
def StA (H:Hp)(hd sm:Addr)(kk:List Int)(A:As):Prop:=∃L M,aL L M=A/\StB H hd sm kk L M
theorem b2N (L:List E7)(M:List M7):(aL L M).map (·.1)=L.map (·.k):=by unfold aL;rw[mC0];rfl
theorem StB.mv {H H':Hp}{hd sm:Addr}{kk:List Int}{L:List E7}{M:List M7}(h:StB H hd sm kk L M)(m:∀b o,H b=some o->NoI o->H' b=some o):StB H' hd sm kk L M:=by
 have up:∀{x:Addr} {l:List V},ex2 hd sm H x=some (.lst l)->ex2 hd sm H' x=some (.lst l):=fun {x l} e=>a2B (a1Y e).1 (a1Y e).2 (m _ _ (a0R _ _ e) (fun _ _ _ z=>nomatch z));exact⟨h.ne,h.nd,h.nm,h.kl,h.kq,h.em,m _ _ h.h (fun _ _ _ z=>nomatch z),m _ _ h.s (fun _ _ _ z=>nomatch z),fun e he=>up (h.ls.h e he),fun e he=>⟨up (h.ls.s e he).1,(h.ls.s e he).2⟩,fun e he j p v a b=>up (h.ls.v e he j p v a b)⟩
theorem StB.same {H H':Hp}{hd sm:Addr}{kk:List Int}{L:List E7}{M:List M7}(h:StB H hd sm kk L M)(s:a0k H H'):StB H' hd sm kk L M:=h.mv fun b o e _=>s _ _ e
theorem StA.mv {H H':Hp}{hd sm:Addr}{kk:List Int}{A:As}(h:StA H hd sm kk A)(m:∀b o,H b=some o->NoI o->H' b=some o):StA H' hd sm kk A:=by
 obtain⟨L,M,a,b⟩:=h;exact⟨L,M,a,b.mv m⟩
theorem StB.ll {H:Hp}{hd sm:Addr}{kk:List Int}{L:List E7}{M:List M7}(h:StB H hd sm kk L M):L.length<=kk.length/\M.length<=kk.length:=by
 constructor
 ·have:=a9I h.nd (r:=kk) fun x hx=>by obtain⟨e,he,rfl⟩:=mM0.mp hx;exact h.kl e he
  rwa [lM0] at this
 ·have:=a9I h.nm (r:=kk) fun x hx=>by obtain⟨e,he,rfl⟩:=mM0.mp hx;exact h.kq e he
  rwa [lM0] at this
theorem a9K {α:Type}{q:α->Int}{f:α->V}{L:List α}{k:Int}{v:V}(h:k∈L.map q):a2r (L.map fun e=>((.inl (q e):Key),f e)) (.inl k) v=L.map fun e=>((.inl (q e):Key),if q e=k then v else f e):=by
 unfold a2r;rw[if_pos,mC0]
 ·refine List.map_congr_left fun e _=>?_
  show(if (Sum.inl (q e):Key)=.inl k then((.inl (q e):Key),v) else(.inl (q e),f e))=_
  by_cases hk:q e=k
  ·rw[if_pos (by rw[hk]),if_pos hk]
  ·rw[if_neg (fun z=>hk (by injection z)),if_neg hk]
 ·obtain⟨e,he,rfl⟩:=mM0.mp h
  exact List.any_eq_true.mpr ⟨_,mM0.mpr ⟨e,he,rfl⟩,dT0 rfl⟩
theorem b1B {f:E7->V}{L:List E7}{k:Int}:a1U (L.map fun e=>((.inl e.k:Key),f e)) (.inl k)=(L.filter fun e=>decide (e.k≠k)).map fun e=>((.inl e.k:Key),f e):=by
 unfold a1U;rw[List.filter_map]
 congr 1
 refine List.filter_congr fun e _=>?_;show decide ((Sum.inl e.k:Key)≠.inl k)=decide (e.k≠k);rw[Bool.eq_iff_iff,decide_eq_true_iff,decide_eq_true_iff];exact⟨fun h z=>h (by rw[z]),fun h z=>h (by injection z)⟩
def a2x (L:List E7)(n:E7):List E7:=if n.k∈L.map (·.k) then L.map fun e=>if e.k=n.k then n else e else L++[n]
def a4m (M:List M7)(n:M7):List M7:=if n.k∈M.map (·.k) then M.map fun e=>if e.k=n.k then n else e else M++[n]
theorem a9d (L:List E7)(n:E7):a2r (kh L) (.inl n.k) (.ref n.h)=kh (a2x L n):=by
 unfold kh a2x
 by_cases h:n.k∈L.map (·.k)
 ·rw[if_pos h,a9K (q:=E7.k) h,mC0]
  refine List.map_congr_left fun e _=>?_;show _=((Sum.inl (if e.k=n.k then n else e).k:Key),V.ref (if e.k=n.k then n else e).h)
  split
  ·rename_i h;rw[h]
  ·rfl
 ·rw[if_neg h,a1j _ (a1o (f:=E7.k) (g:=fun e:E7=>V.ref e.h) h),mA0]
  rfl
theorem b3x (M:List M7)(n:M7):a2r (km M) (.inl n.k) (.ref n.s)=km (a4m M n):=by
 unfold km a4m
 by_cases h:n.k∈M.map (·.k)
 ·rw[if_pos h,a9K (q:=M7.k) h,mC0]
  refine List.map_congr_left fun e _=>?_;show _=((Sum.inl (if e.k=n.k then n else e).k:Key),V.ref (if e.k=n.k then n else e).s)
  split
  ·rename_i h;rw[h]
  ·rfl
 ·rw[if_neg h,a1j _ (a1o (f:=M7.k) (g:=fun e:M7=>V.ref e.s) h),mA0]
  rfl
theorem a7K {L:List E7}{n e:E7}(h:e∈a2x L n):e=n\/e∈L:=by
 unfold a2x at h
 split at h
 ·obtain⟨x,hx,rfl⟩:=mM0.mp h
  split
  ·exact .inl rfl
  ·exact .inr hx
 ·rcases mB0.mp h with h |h
  ·exact .inr h
  ·exact .inl (mS0.mp h)
theorem a3h {M:List M7}{n e:M7}(h:e∈a4m M n):e=n\/(e∈M):=by
 unfold a4m at h
 split at h
 ·obtain⟨x,hx,rfl⟩:=mM0.mp h
  split
  ·exact .inl rfl
  ·exact .inr hx
 ·rcases mB0.mp h with h |h
  ·exact .inr h
  ·exact .inl (mS0.mp h)
theorem b0w (L:List E7)(n:E7):(a2x L n).map (·.k)=if n.k∈L.map (·.k) then L.map (·.k) else L.map (·.k)++[n.k]:=by
 unfold a2x
 split
 ·rw[mC0]
  refine List.map_congr_left fun e _=>?_
  show(if e.k=n.k then n else e).k=e.k
  split
  ·rename_i h;exact h.symm
  ·rfl
 ·rw[mA0];rfl
theorem b6h (L:List M7)(n:M7):(a4m L n).map (·.k)=if n.k∈L.map (·.k) then L.map (·.k) else L.map (·.k)++[n.k]:=by
 unfold a4m
 split
 ·rw[mC0]
  refine List.map_congr_left fun e _=>?_
  show(if e.k=n.k then n else e).k=e.k
  split
  ·rename_i h;exact h.symm
  ·rfl
 ·rw[mA0];rfl
theorem a9D {l:List Int}{k:Int}(nd:l.Nodup)(h:k∉l):(l++[k]).Nodup:=by
 rw[List.nodup_append];exact⟨nd,by simp,fun a ha b hb e=>h (by rw[mS0.mp hb] at e;exact e▸ha)⟩
theorem b3Z {L:List E7}(nd:(L.map (·.k)).Nodup)(n:E7):((a2x L n).map (·.k)).Nodup:=by
 rw[b0w]
 split
 ·exact nd
 ·rename_i h;exact a9D nd h
theorem b3O {L:List M7}(nd:(L.map (·.k)).Nodup)(n:M7):((a4m L n).map (·.k)).Nodup:=by
 rw[b6h]
 split
 ·exact nd
 ·rename_i h;exact a9D nd h
theorem b0Y {L:List E7}{n:E7}{k:Int}(h:k∈L.map (·.k)):k∈(a2x L n).map (·.k):=by
 rw[b0w]
 split
 ·exact h
 ·exact List.mem_append_left _ h
theorem StB.head {H:Hp}{hd sm:Addr}{kk:List Int}{L:List E7}{M:List M7}(b:StB H hd sm kk L M){n:E7}(hk:n.k∈kk)(hv:ex2 hd sm H n.h=some (vL n.v)):StB (upd H hd (.dK (kh (a2x L n)))) hd sm kk (a2x L n) M:=by
 have E:=a7T (a:=hd) (b:=sm) (H:=H) (o:=.dK (kh (a2x L n)));refine⟨b.ne,b3Z b.nd n,b.nm,fun e he=>?_,b.kq,fun m hm hn=>b.em m hm fun z=>hn (b0Y z),a0c,(a0d b.ne.symm).trans b.s,fun e he=>?_,fun m hm=>⟨E _ _ (b.ls.s m hm).1,(b.ls.s m hm).2⟩,fun m hm j p v h1 h2=>E _ _ (b.ls.v m hm j p v h1 h2)⟩
 ·rcases a7K he with rfl |he
  ·exact hk
  ·exact b.kl e he
 ·rcases a7K he with rfl |he
  ·exact E _ _ hv
  ·exact E _ _ (b.ls.h e he)
theorem StB.many {H:Hp}{hd sm:Addr}{kk:List Int}{L:List E7}{M:List M7}(b:StB H hd sm kk L M){n:M7}(hk:n.k∈L.map (·.k))(hs:ex2 hd sm H n.s=some (.lst (n.ps.map V.ref)))(hl:n.ps.length=n.vs.length)(hv:∀(j:Nat) (p:Addr) (v:Vl),n.ps[j]? =some p->n.vs[j]? =some v->ex2 hd sm H p=some (vL v)):StB (upd H sm (.dK (km (a4m M n)))) hd sm kk L (a4m M n):=by
 have E:=b4N (a:=hd) (b:=sm) (H:=H) (o:=.dK (km (a4m M n)));refine⟨b.ne,b.nd,b3O b.nm n,b.kl,fun m hm=>?_,fun m hm hn=>?_,(a0d b.ne).trans b.h,a0c,fun e he=>E _ _ (b.ls.h e he),fun m hm=>?_,fun m hm j p v h1 h2=>?_⟩
 ·rcases a3h hm with rfl |hm
  ·obtain⟨e,he,e2⟩:=mM0.mp hk
   rw[<-e2];exact b.kl e he
  ·exact b.kq m hm
 ·rcases a3h hm with rfl |hm
  ·exact absurd hk hn
  ·exact b.em m hm hn
 ·rcases a3h hm with rfl |hm
  ·exact⟨E _ _ hs,hl⟩
  ·exact⟨E _ _ (b.ls.s m hm).1,(b.ls.s m hm).2⟩
 ·rcases a3h hm with rfl |hm
  ·exact E _ _ (hv j p v h1 h2)
  ·exact E _ _ (b.ls.v m hm j p v h1 h2)
theorem a2v {M:List M7}(nm:(M.map (·.k)).Nodup){m:M7}(hm:m∈M):mgt M m.k=m.vs:=by
 have:=a2k (l:=M.map fun m=>(m.k,m.vs)) (by rw[mC0];exact nm) (mM0.mpr ⟨m,hm,rfl⟩)
 unfold mgt;rw[this]
 rfl
theorem a5e {M:List M7}{k:Int}(h:k∉M.map (·.k)):mgt M k=[]:=by
 unfold mgt;rw[a1N.mpr (by rw[mC0];exact h)]
 rfl
theorem StB.gt0 {H:Hp}{hd sm:Addr}{kk:List Int}{L:List E7}{M:List M7}(b:StB H hd sm kk L M){k:Int}(h:k∉L.map (·.k)):mgt M k=[]:=by
 by_cases hm:k∈M.map (·.k)
 ·obtain⟨m,hm',rfl⟩:=mM0.mp hm
  rw[a2v b.nm hm'];exact b.em m hm' h
 ·exact a5e hm
theorem StB.pop {H:Hp}{hd sm:Addr}{kk:List Int}{L:List E7}{M:List M7}(b:StB H hd sm kk L M){k:Int}(hk:mgt M k=[]):StB (upd H hd (.dK (a1U (kh L) (.inl k)))) hd sm kk (L.filter fun e=>decide (e.k≠k)) M:=by
 have ed:a1U (kh L) (.inl k)=kh (L.filter fun e=>decide (e.k≠k)):=by unfold kh;exact b1B
 rw[ed];have E:=a7T (a:=hd) (b:=sm) (H:=H) (o:=.dK (kh (L.filter fun e=>decide (e.k≠k))));refine⟨b.ne,b.nd.sublist (List.filter_sublist.map _),b.nm,fun e he=>b.kl e (mF0.mp he).1,b.kq,fun m hm hn=>?_,a0c,(a0d b.ne.symm).trans b.s,fun e he=>E _ _ (b.ls.h e (mF0.mp he).1),fun m hm=>⟨E _ _ (b.ls.s m hm).1,(b.ls.s m hm).2⟩,fun m hm j p v h1 h2=>E _ _ (b.ls.v m hm j p v h1 h2)⟩
 by_cases e:m.k=k
 ·rw[<-a2v b.nm hm,e];exact hk
 ·refine b.em m hm fun z=>hn ?_
  obtain⟨x,hx,ex⟩:=mM0.mp z;exact mM0.mpr ⟨x,mF0.mpr ⟨hx,by simpa[ex] using e⟩,ex⟩
theorem b4z (M:List M7)(n:M7)(j:Int):mgt (a4m M n) j=if j=n.k then n.vs else mgt M j:=by
 unfold mgt a4m
 by_cases h:n.k∈M.map (·.k)
 ·rw[if_pos h,mC0]
  have e:(M.map ((fun m:M7=>(m.k,m.vs))∘fun e=>if e.k=n.k then n else e))=(M.map fun m=>(m.k,m.vs)).map fun e=>if e.1=n.k then(e.1,(fun _=>n.vs) e.2) else e:=by
   rw[mC0];refine List.map_congr_left fun m _=>?_
   show((if m.k=n.k then n else m).k,(if m.k=n.k then n else m).vs)=if m.k=n.k then(m.k,n.vs) else(m.k,m.vs)
   split
   ·rename_i h;rw[h]
   ·rfl
  rw[e,a5j (fun _=>n.vs)]
  split
  ·rename_i hj
   obtain⟨m,hm,e2⟩:=mM0.mp h;cases hf:fnd (M.map fun m=>(m.k,m.vs)) j with
   |none=>exact absurd (by rw[mC0,hj];exact h) (a1N.mp hf)
   |some a=>rfl
  ·rfl
 ·rw[if_neg h,mA0,show([n].map fun m:M7=>(m.k,m.vs))=[(n.k,n.vs)] from rfl,a7p]
  cases hf:fnd (M.map fun m=>(m.k,m.vs)) j with
  |none=>
   show(if n.k=j then some n.vs else none).getD []=_
   by_cases hj:j=n.k
   ·rw[if_pos hj.symm,if_pos hj];rfl
   ·rw[if_neg (fun z=>hj z.symm),if_neg hj]
  |some a=>
   refine(if_neg ?_).symm;intro hj
   have:=a3O hf
   obtain⟨m,hm,e⟩:=mM0.mp this;exact h (mM0.mpr ⟨m,hm,by rw[<-hj];exact congrArg (·.1) e⟩)
theorem a6t {L:List E7}{M:List M7}{n:E7}(h:n.k∉L.map (·.k)->mgt M n.k=[]):aL (a2x L n) M=a4b (aL L M) n.k n.v:=by
 unfold a4b;rw[b2N];unfold aL a2x
 by_cases hk:n.k∈L.map (·.k)
 ·rw[if_pos hk,if_pos hk,mC0,mC0]
  refine List.map_congr_left fun e _=>?_
  show((if e.k=n.k then n else e).k,(⟨(if e.k=n.k then n else e).v,mgt M (if e.k=n.k then n else e).k⟩:Gl))=if e.k=n.k then(e.k,⟨n.v,mgt M e.k⟩) else(e.k,⟨e.v,mgt M e.k⟩)
  split
  ·rename_i h;rw[h]
  ·rfl
 ·rw[if_neg hk,if_neg hk,mA0]
  show _++[(n.k,(⟨n.v,mgt M n.k⟩:Gl))]=_;rw[h hk]
theorem b6V (L:List E7)(M:List M7)(k:Int):aL (L.filter fun e=>decide (e.k≠k)) M=b5h (aL L M) k:=by
 unfold aL b5h;rw[List.filter_map]
 rfl
theorem b0I (L:List E7)(M:List M7)(n:M7):aL L (a4m M n)=(aL L M).map fun e=>if e.1=n.k then(e.1,⟨e.2.h,n.vs⟩) else e:=by
 unfold aL;rw[mC0];refine List.map_congr_left fun e _=>?_
 show(e.k,(⟨e.v,mgt (a4m M n) e.k⟩:Gl))=if e.k=n.k then(e.k,(⟨e.v,n.vs⟩:Gl)) else(e.k,⟨e.v,mgt M e.k⟩)
 rw[b4z]
 split<;>rfl
theorem b5X {L:List E7}{M:List M7}{n:M7}{x:Vl}(h:n.vs=mgt M n.k++[x]):aL L (a4m M n)=b2C (aL L M) n.k x:=by
 rw[b0I];unfold b2C aL;rw[mC0,mC0];refine List.map_congr_left fun e _=>?_
 show(if e.k=n.k then(e.k,(⟨e.v,n.vs⟩:Gl)) else(e.k,⟨e.v,mgt M e.k⟩))=if e.k=n.k then(e.k,⟨e.v,mgt M e.k++[x]⟩) else(e.k,⟨e.v,mgt M e.k⟩)
 split
 ·rename_i hk;rw[h,hk]
 ·rfl
theorem b3Y {L:List E7}{M:List M7}{n:M7}(h:n.vs=(mgt M n.k).dropLast):aL L (a4m M n)=a5d (aL L M) n.k:=by
 rw[b0I];unfold a5d aL;rw[mC0,mC0];refine List.map_congr_left fun e _=>?_
 show(if e.k=n.k then(e.k,(⟨e.v,n.vs⟩:Gl)) else(e.k,⟨e.v,mgt M e.k⟩))=if e.k=n.k then(e.k,⟨e.v,(mgt M e.k).dropLast⟩) else(e.k,⟨e.v,mgt M e.k⟩)
 split
 ·rename_i hk;rw[h,hk]
 ·rfl
theorem b5y {L:List E7}{M:List M7}(nd:(L.map (·.k)).Nodup){e:E7}(he:e∈L):fnd (aL L M) e.k=some ⟨e.v,mgt M e.k⟩:=a2k (by rw[b2N];exact nd) (mM0.mpr ⟨e,he,rfl⟩)
def MvAt (G:Hp)(s:Addr)(vs:List Vl):Prop:=∃ps:List Addr,G s=some (.lst (ps.map V.ref))/\ps.length=vs.length/\∀(j:Nat) (p:Addr) (v:Vl),ps[j]? =some p->vs[j]? =some v->G p=some (vL v)
theorem StB.get {H:Hp}{hd sm:Addr}{kk:List Int}{L:List E7}{M:List M7}(b:StB H hd sm kk L M){G:Hp}(s:a0k (ex2 hd sm H) G){z:Addr}(hz:G z=some (.lst []))(k:Int):∃q,(a1k (km M) (.inl k)).getD (.ref z)=.ref q/\MvAt G q (mgt M k):=by
 by_cases hm:k∈M.map (·.k)
 ·obtain⟨m,hq,rfl⟩:=mM0.mp hm
  refine⟨m.s,?_,m.ps,s _ _ (b.ls.s m hq).1,?_,fun j p v h1 h2=>s _ _ (b.ls.v m hq j p v h1 ?_)⟩
  ·unfold km
   rw[a0U (f:=M7.k) (g:=fun t:M7=>V.ref t.s) b.nm hq]
   rfl
  ·rw[a2v b.nm hq];exact(b.ls.s m hq).2
  ·rwa [a2v b.nm hq] at h2
 ·refine⟨z,?_,[],hz,?_,fun j p v h=>nomatch h⟩
  ·unfold km
   rw[a1o (f:=M7.k) (g:=fun t:M7=>V.ref t.s) hm]
   rfl
  ·rw[a5e hm];rfl
abbrev R3:=Int×Nat×Key
theorem b2P (a b:Key):eqV (kV a) (kV b)=decide (a=b):=by
 rw[Bool.eq_iff_iff,decide_eq_true_iff];cases a<;>cases b<;>simp[kV,eqV]
theorem b6r (k:Key)(l:List Key):inV (kV k) (l.map kV)=true↔k∈l:=by
 unfold inV;rw[List.any_eq_true]
 constructor
 ·rintro⟨y,hy,e⟩
  obtain⟨x,hx,rfl⟩:=mM0.mp hy;rw[b2P,decide_eq_true_iff] at e;rw[<-e];exact hx
 ·intro h
  exact⟨kV k,mM0.mpr ⟨k,h,rfl⟩,by rw[b2P];exact dT0 rfl⟩
theorem a9y (k:Key):a3E (kV k)=true:=by cases k<;>rfl
theorem b1w (l:List Key):(l.map kV).all a3E=true:=by
 rw[List.all_map];exact List.all_eq_true.mpr fun k _=>a9y k
def RwT (H:Hp)(l:Addr)(rs:List R3):Prop:=∃xs:List Addr,H l=some (.lst (xs.map V.ref))/\xs.length=rs.length/\∀(j:Nat) (x:Addr) (r:R3),xs[j]? =some x->rs[j]? =some r->H x=some (.tup [.int r.1,.int (r.2.1:Nat),kV r.2.2])
def FstV (H:Hp)(o:Option R3)(v:V):Prop:=match o with
 |none=>v=.non
 |some x=>∃t,v=.ref t/\H t=some (.tup [.int x.1,.int (x.2.1:Nat)])
def R3.ky (x:R3):Key:=x.2.2
def a9r:Sp:=fun vs H Q _=>∃(lr:Addr) (rs:List R3),vs=[.ref lr]/\RwT H lr rs/\rs.length<=10000/\∀v H',a0k H H'->FstV H' (tw R3.ky [] rs) v->Q v H'
theorem b2a {f:Addr}{fd:FuncData}(F:Fun K "_law_first_twice" "_law_first_twice" (top 45) f fd):a0A P w K mg base CX0 1 f fd ["_law_rows"] a9r:=by
 have sc:a0o ["_law_rows","_law_seen","_law_key","_law_place","_law_value"] ["_law_rows"] (a0g (top 45)):=.k (by decide +kernel);refine F.ok sc (fun vs H Q E h=>?_) (fun cdv A outer s H vs Q E hr h=>?_)
 ·obtain⟨lr,rs,rfl,_⟩:=h
  rfl
 ·obtain⟨lr,rs,rfl,⟨xs,x1,x2,x3⟩,hl,q⟩:=h
  refine⟨_,a0b (a0n (i:=1) sc.nd rfl (Or.inl rfl) (a1f a0e))
   (a0b (a0X PassesOwn.never rfl (a0S (pv 0)) (a2j rfl (a0y (a0m (i:=2) sc.nd rfl (Or.inl rfl)) (a0y (a0m (i:=3) sc.nd rfl (Or.inl rfl)) (a0y (a0m (i:=4) sc.nd rfl (Or.inl rfl)) a1D))))
    (a0b (a0P (a0q a1W (pv 4) (pv 1) (by with_unfolding_all rfl)) (a0h (a0F (a0H (a0a (pv 2) (a0a (pv 3) a0e))))) a0s)
    (a0h (a0V (a3q PySem.F.plainAttrs_list PySem.F.slot_list_append PySem.F.type_list_append a2l (pv 1) (a0a (pv 4) a0e))))))
   (a0h (a0F a4o))),?_⟩
  refine⟨(by show 0<=sizeLine;decide),fun sn hsn=>?_⟩;generalize hX:upd H sn _=H0;obtain⟨T0,e0⟩:=gz hX hsn;have nl:lr≠sn:=a0j x1 hsn;refine⟨_,rfl,lr,rfl,⟨_,SqL.of (T0 _ _ x1)⟩,a0W (K:=K) (a:=lr) (xs:=xs.map V.ref) (fun i σ H1=>(∀b o,b≠sn->H0 b=some o->H1 b=some o)/\H1 sn=some (.lst (((rs.take i).map R3.ky).map kV))/\(∃u2 u3 u4,σ=[some (.ref lr),some (.ref sn),u2,u3,u4])/\∀(j:Nat) (y:R3),j<i->rs[j]? =some y->y.ky∉[]++(rs.take j).map R3.ky) ⟨fun b o _ e=>e,e0,⟨_,_,_,rfl⟩,(fun j y h=>absurd h (Nat.not_lt_zero j))⟩ (fun i σ H1 _ p=>SqL.of (p.1 _ _ nl (T0 _ _ x1))) ?_ ?_⟩
  ·rintro i x σ H1 hx ⟨k1,s1,⟨u2,u3,u4,rfl⟩,hb⟩
   have hix:i<xs.length:=by have:=(gS0.mp hx).1;rwa [lM0] at this
   rw[gM0,gE0 hix] at hx;cases hx;have hir:i<rs.length:=by omega
   have hx3:=x3 i xs[i] rs[i] (gE0 hix) (gE0 hir);have hx1:=k1 _ _ (a0j hx3 hsn) (T0 _ _ hx3);refine⟨xs[i],_,rfl,SqT.of hx1,rfl,_,_,rfl,_,_,rfl,_,_,rfl,rfl,?_⟩;refine⟨_,rfl,_,rfl,sn,_,rfl,.inl (SqL.of s1),a9y _,b1w _,_,rfl,?_⟩;have ei:inV (kV rs[i].2.2) (((rs.take i).map R3.ky).map kV)=true↔rs[i].ky∈(rs.take i).map R3.ky:=b6r _ _
   by_cases hm:rs[i].ky∈(rs.take i).map R3.ky
   ·refine a6n (ei.mpr hm) ?_
    refine⟨_,rfl,_,rfl,(by show 2<=sizeLine;decide),fun t ht=>?_⟩;refine q _ _ (fun b o e=>(a0k.upd ht) _ _ (k1 b o (a0j e hsn) (T0 _ _ e))) ?_;rw[tw_ix (g:=R3.ky) (s:=[]) (gE0 hir) hm hb];exact⟨t,rfl,a0c⟩
   ·refine a2H (Bool.eq_false_iff.mpr fun z=>hm (ei.mp z)) ?_
    refine⟨_,rfl,.inl ⟨rfl,_,SqL.of s1⟩,_,rfl,sn,_,_,rfl,rfl,s1,(by rw[lM0,lM0,lT0,sizeLine_eq];omega),?_⟩;refine⟨fun b o nb e=>(a0d nb).trans (k1 b o nb e),?_,⟨_,_,_,rfl⟩,fun j y hj hy=>?_⟩
    ·rw[a0c,tS0,gE0 hir,mA0,mA0]
     rfl
    ·by_cases hj':j<i
     ·exact hb j y hj' hy
     ·obtain rfl:j=i:=by omega
      rw[gE0 hir] at hy;cases hy;exact hm
  ·rintro σ H1 ⟨k1,s1,⟨u2,u3,u4,rfl⟩,hb⟩
   refine q _ _ (fun b o e=>k1 b o (a0j e hsn) (T0 _ _ e)) ?_;rw[tw_non (g:=R3.ky) (s:=[]) fun j y hy=>hb j y (by have:=(gS0.mp hy).1;rw[lM0];omega) hy]
   rfl
end
end My
namespace L2
open PySem PySem.Spec PyProof.Rows
theorem b0U (xs:List V)(v:V):b2z (xs++[v]) none (some (-1))=xs:=by
 have e:=HT.b4b (-1) (xs++[v]).length (xs++[v]).length;have hl:(xs++[v]).length=xs.length+1:=by simp
 have e1:HT.sIx (xs++[v]).length (xs++[v]).length (some (-1))=xs.length:=by
  rw[if_pos (by decide),hl] at e;rw[hl]
  omega
 unfold b2z;rw[e1,HT.a7H,List.drop_zero,Nat.sub_zero];simp
theorem a0k.updB {G H:Hp}{a:Addr}{o:HO}(s:a0k G H):a0k (L2.upd G a o) (L2.upd H a o):=fun b u e=>by
 by_cases h:b=a
 ·rw[h,a0c] at e
  rw[h,a0c];exact e
 ·rw[a0d h] at e
  rw[a0d h];exact s _ _ e
end L2
namespace My
open PySem L2 PyProof.Rows
seal L2.PE L2.PT L2.PW L2.PS L2.PSs L2.PA L2.PI L2.PG L2.PGs L2.OpR L2.UnR L2.a1r L2.IxR L2.SlR L2.MtR L2.PIf L2.PO L2.MtM L2.PC
structure Iv (kk:List Int) (n:Nat) (A:As):Prop where
 nd:(A.map (·.1)).Nodup
 k:∀e∈A,e.1∈kk
 le:∀e∈A,e.2.gs.length<=n
theorem Iv.len {kk:List Int}{n:Nat}{A:As}(h:Iv kk n A):A.length<=kk.length:=by
 have:=a9I h.nd fun x hx=>by
  obtain⟨e,he,rfl⟩:=mM0.mp hx;exact h.k e he
 rwa [lM0] at this
theorem Iv.up {kk:List Int}{n m:Nat}{A:As}(h:Iv kk n A)(hm:n<=m):Iv kk m A:=⟨h.nd,h.k,fun e he=>Nat.le_trans (h.le e he) hm⟩
theorem Iv.head {kk:List Int}{n:Nat}{A:As}(h:Iv kk n A){k:Int}(hk:k∈kk)(v:Vl):Iv kk n (a4b A k v):=by
 refine⟨b1E h.nd k v,?_,?_⟩ <;>
 ·intro e he
  unfold a4b at he
  split at he
  ·obtain⟨e0,h0,rfl⟩:=mM0.mp he
   have h1:=h.k e0 h0;have h2:=h.le e0 h0
   split
   ·first |exact h1 |exact h2
   ·first |exact h1 |exact h2
  ·rcases mB0.mp he with he |he
   ·first |exact h.k e he |exact h.le e he
   ·rw[mS0.mp he]
    first |exact hk |exact zL0 _
theorem Iv.cut {kk:List Int}{n:Nat}{A:As}(h:Iv kk n A)(k:Int):Iv kk n (b5h A k):=⟨b4c h.nd k,fun e he=>h.k e (mF0.mp he).1,fun e he=>h.le e (mF0.mp he).1⟩
theorem Iv.add {kk:List Int}{n:Nat}{A:As}(h:Iv kk n A)(k:Int)(x:Vl):Iv kk (n+1) (b2C A k x):=by
 refine⟨b3J h.nd k x,?_,?_⟩ <;>
 ·intro e he
  unfold b2C at he;obtain⟨e0,h0,rfl⟩:=mM0.mp he;have h1:=h.k e0 h0;have h2:=h.le e0 h0
  split
  ·first |exact h1 | (show(e0.2.gs++[x]).length<=n+1;rw[lA0,lS0];omega)
  ·first |exact h1 |omega
theorem Iv.drop {kk:List Int}{n:Nat}{A:As}(h:Iv kk n A)(k:Int):Iv kk n (a5d A k):=by
 refine⟨b2p h.nd k,?_,?_⟩ <;>
 ·intro e he
  unfold a5d at he;obtain⟨e0,h0,rfl⟩:=mM0.mp he;have h1:=h.k e0 h0;have h2:=h.le e0 h0
  split
  ·first |exact h1 | (show(e0.2.gs.dropLast).length<=n;rw[List.length_dropLast];omega)
  ·first |exact h1 |omega
def b6n (d:D8)(kk:List Int)(s:Stp):Prop:=s.k∈kk/\0<=s.p/\((s.z=d.T0/\s.p=0/\(s.vb="cut"\/(s.vb≠"cut"/\∃h,s.row=r0 d h)))\/(s.z=d.T1/\(s.vb="cut"\/(s.vb≠"cut"/\∃v i,s.row=r1 d v i))))
structure Op (d:D8) (kk:List Int) (n:Nat) (A:As) (ss:List Stp) (A':As):Prop where
 runs:a8t d (fA d A) ss (fA d A')
 iv:Iv kk (n+1) A'
 ok:∀s∈ss,b6n d kk s
 len:ss.length<=2
def a5W (G:Hp)(x:Addr)(s:Stp):Prop:=(s.vb="cut"/\G x=some (.tup [.str s.vb,.str s.z,.int s.k,.int s.p]))\/(s.vb≠"cut"/\∃r,G x=some (.tup [.str s.vb,.str s.z,.int s.k,.int s.p,.ref r])/\G r=some (.dK (rK s.row)))
theorem a5W.same {G G':Hp}{x:Addr}{s:Stp}(h:a5W G x s)(e:a0k G G'):a5W G' x s:=by
 rcases h with ⟨a,b⟩ |⟨a,r,b,c⟩
 ·exact .inl ⟨a,e _ _ b⟩
 ·exact .inr ⟨a,r,e _ _ b,e _ _ c⟩
def a2X (G:Hp)(l:Addr)(ss:List Stp):Prop:=∃xs:List Addr,G l=some (.lst (xs.map V.ref))/\xs.length=ss.length/\∀(j:Nat) (x:Addr) (s:Stp),xs[j]? =some x->ss[j]? =some s->a5W G x s
theorem a2X.same {G G':Hp}{l:Addr}{ss:List Stp}(h:a2X G l ss)(e:a0k G G'):a2X G' l ss:=let ⟨xs,a,b,c⟩:=h;⟨xs,e _ _ a,b,fun j x s h1 h2=>(c j x s h1 h2).same e⟩
theorem b7U {G:Hp}{l t:Addr}{s:Stp}(hl:G l=some (.lst [V.ref t]))(h:a5W G t s):a2X G l [s]:=⟨[t],hl,rfl,fun j x s h1 h2=>match j,h1,h2 with
 |0,h1,h2=>by cases h1;cases h2;exact h
 |j+1,h1,_=>by cases h1⟩
theorem b7H {G:Hp}{l t u:Addr}{s r:Stp}(hl:G l=some (.lst [V.ref t,.ref u]))(h:a5W G t s)(h':a5W G u r):a2X G l [s,r]:=⟨[t,u],hl,rfl,fun j x s h1 h2=>match j,h1,h2 with
 |0,h1,h2=>by cases h1;cases h2;exact h
 |1,h1,h2=>by cases h1;cases h2;exact h'
 |j+2,h1,_=>by cases h1⟩
theorem a5F:("set":Str)≠"cut":=by decide +kernel
theorem b0a:("add":Str)≠"cut":=by decide +kernel
theorem mg2 {a b:Str}{v u:V}(h:a≠b):a4t [] [((.inr a:Key),v),(.inr b,u)]=[(.inr a,v),(.inr b,u)]:=by
 show a2r [((.inr a:Key),v)] (.inr b) u=_;unfold a2r;rw[if_neg (by simp[h])]
 rfl
theorem StB.fr {H H':Hp}{hd sm x:Addr}{kk:List Int}{L:List E7}{M:List M7}{o:HO}(b:StB H hd sm kk L M)(n:H x=none)(e:H' x=some o):ex2 hd sm H' x=some o:=a2B (a0j b.h n).symm (a0j b.s n).symm e
theorem b5J {A B U:Prop}{b c:Bool}(hu:(if c=true then A else B)->U)(h1:b=true\/c=true->A)(h2:b=false->c=false->B):if b=true then(if true=true then A else B) else U:=by
 cases b with
 |true=>exact a6m (a6m (h1 (.inl rfl)))
 |false=>
  refine a1R (hu ?_);cases c with
  |true=>exact a6m (h1 (.inr rfl))
  |false=>exact a1R (h2 rfl rfl)
theorem b7d {Q:V->Hp->Prop}{H G H6:Hp}{hd sm l t:Addr}{kk:List Int}{L:List E7}{M:List M7}{d:D8}{n:Nat}{A A':As}{ws:List V}(s:Stp)(q:∀l ss A' H',a0k (ex2 hd sm H) (ex2 hd sm H')->StA H' hd sm kk A'->a2X (ex2 hd sm H') l ss->Op d kk n A ss A'->Q (.ref l) H')(E:a0k (ex2 hd sm H) (ex2 hd sm G))(b:StB G hd sm kk L M)(gl:G l=none)(lh:l≠hd)(ls:l≠sm)(S:a0k G H6)(l6:H6 l=some (.lst []))(ht:H6 t=none)(eA:aL L M=A')
  (hw:(s.vb="cut"/\ws=[.str s.vb,.str s.z,.int s.k,.int s.p])\/(s.vb≠"cut"/\∃r,ws=[.str s.vb,.str s.z,.int s.k,.int s.p,.ref r]/\H6 r=some (.dK (rK s.row))/\G r=none)) (o:Op d kk n A [s] A'):Q (.ref l) (upd (upd H6 t (.tup ws)) l (.lst ([]++[V.ref t]))):=by
 generalize hX:upd H6 t _=H7;obtain⟨T7,t7⟩:=gz hX ht;have S8:a0k G (upd H7 l (.lst ([]++[V.ref t]))):=(S.trans T7).put gl;have ntl:t≠l:=fun z=>by rw[z,l6] at ht;cases ht
 refine q l [s] A' _ (E.trans (a2E S8)) ⟨L,M,eA,b.same S8⟩ (b7U (a2B lh ls a0c) ?_) o;rcases hw with ⟨hc,rfl⟩ |⟨hc,r,rfl,hr,gr⟩
 ·exact .inl ⟨hc,b.fr (a0v S ht) ((a0d ntl).trans t7)⟩
 ·have nrl:r≠l:=fun z=>by rw[z,l6] at hr;cases hr
  exact .inr ⟨hc,r,b.fr (a0v S ht) ((a0d ntl).trans t7),b.fr gr ((a0d nrl).trans (T7 _ _ hr))⟩
def b0e (d:D8):Sp:=fun vs H Q _=>∃(ln lc kl ksl hd sm:Addr) (cell base:Int) (kk:List Int) (A:As) (n:Nat),vs=[.ref ln,.ref lc,.ref kl,.ref ksl,.ref hd,.ref sm,.int cell,.int base]/\ex2 hd sm H ln=some (.lst [.str d.T0,.str d.T1])/\NmC (ex2 hd sm H) lc kl d/\ex2 hd sm H ksl=some (.lst (kk.map V.int))/\kk.length=4/\StA H hd sm kk A/\Iv kk n A/\n<=60/\d.Ok ∧
 ∀l ss A' H',a0k (ex2 hd sm H) (ex2 hd sm H')->StA H' hd sm kk A'->a2X (ex2 hd sm H') l ss->Op d kk n A ss A'->Q (.ref l) H'
section
variable {P:Program}{w:World}{K:Fg0}{mg:Str->Option Value}{base:Heap}
theorem b1i {f fH fV:Addr}{fd fdH fdV:FuncData}{d:D8}(F:Fun K "_law_steps" "_law_steps" (top 44) f fd)(B:Bl mg)(DH:Df K mg "_law_head_row" (top 42) fH fdH)(DV:Df K mg "_law_values" (top 41) fV fdV):a0A P w K mg base CX0 2 f fd ["_law_names_here","_law_columns","_law_kinds","_law_keys","_law_heads","_law_many","_law_cell_here","_law_base"] (b0e d):=by
 have sc:a0o ["_law_names_here","_law_columns","_law_kinds","_law_keys","_law_heads","_law_many","_law_cell_here","_law_base","_law_key","_law_other","_law_values_here","_law_there","_law_steps_here","_law_verb","_law_mine"] ["_law_names_here","_law_columns","_law_kinds","_law_keys","_law_heads","_law_many","_law_cell_here","_law_base"] (a0g (top 44)):=.k (by decide +kernel);have GH:a0A P w K mg base CX0 1 fH fdH ["_law_columns","_law_kinds","_law_values_here"] (a3u d):=a4q DH.fn B;have GV:a0A P w K mg base CX0 1 fV fdV ["_law_number","_law_base"] b2U:=b4h DV.fn;have bH:=DH.fn.b3 "_law_columns" "_law_kinds" "_law_values_here" (by intros;rfl);have bV:=DV.fn.b2 "_law_number" "_law_base" (by intros;rfl);refine F.ok sc (fun vs H Q E h=>?_) (fun cdv A outer s H vs Q E hr h=>?_)
 ·obtain⟨ln,lc,kl,ksl,hd,sm,cell,bs,kk,A,n,rfl,_⟩:=h
  rfl
 ·obtain⟨ln,lc,kl,ksl,hd,sm,cell,bs,kk,A,n,rfl,hln,hnm,hks,k4,⟨L,M,rfl,b0⟩,iv,n60,ok,q⟩:=h
  have hu:=a1T hr;refine⟨_,(a0b (a0n (i:=8) sc.nd rfl (Or.inl rfl) (a0t a0r (pv 3) (a0B a1m (a0B a1w (pv 6) a0f) a0f) (fun _ _=>rfl)))
   (a0b (a0n (i:=9) sc.nd rfl (Or.inl rfl) (a0t a0r (pv 3) (a0B a1m (a0B a1w (pv 6) a0f) a0f) (fun _ _=>rfl)))
   (a0b (a0n (i:=10) sc.nd rfl (Or.inl rfl) (a0l GV hr (by rfl) DV.mg DV.fn.kp bV .nil a0E (a0a (a0B a1w (pv 6) a0f) (a0a (pv 7) a0e))))
   (a0b (a0n (i:=11) sc.nd rfl (Or.inl rfl) (a0D a3d (by rfl) B.len PySem.boot_len (a0a (a4T hu (pv 5) (pv 8) (a1f a0e) ⟨rfl,rfl,rfl,rfl⟩) a0e)))
   (a0b (a0n (i:=12) sc.nd rfl (Or.inl rfl) (a1f a0e))
   (a0b (a0P (PW.pt (a9N (a2z (a2C hu (pv 8) (pv 4))) (a5Z (a0q a1V (a0B a1m (pv 6) a0f) a0f (a0G _))))) (a0b (a0n (i:=13) sc.nd rfl (Or.inl rfl) (a0t a0r (a1f (a0a a0x (a0a a0x a0e))) (a0Z a9o (by rfl) B.int boot_int (a0a (b6T (a4n hu (pv 8) (pv 4))) a0e)) (fun _ _=>rfl)))
   (a0b (a1h hu (pv 4) (pv 8) (pv 10) rfl)
   (a0h (a0V (a3q PySem.F.plainAttrs_list PySem.F.slot_list_append PySem.F.type_list_append a2l (pv 12) (a0a (a0H (a0a (pv 13) (a0a (a0t a0r (pv 0) a0f (fun _ _=>rfl)) (a0a (pv 8) (a0a a0f (a0a (a0l GH hr (by rfl) DH.mg DH.fn.kp bH .nil a0E (a0a (pv 1) (a0a (pv 2) (a0a (pv 10) a0e)))) a0e)))))) a0e)))))) (a0h (a0P (a0q a9n (a0B a1m (pv 6) a0f) a0f (a0G _)) (a0b (a1h hu (pv 5) (pv 8) (a0B b5D (a4T hu (pv 5) (pv 8) (a1f a0e) ⟨rfl,rfl,rfl,rfl⟩) (a1f (a0a (pv 10) a0e))) rfl)
   (a0h (a0V (a3q PySem.F.plainAttrs_list PySem.F.slot_list_append PySem.F.type_list_append a2l (pv 12) (a0a (a0H (a0a a0x (a0a (a0t a0r (pv 0) a0f (fun _ _=>rfl)) (a0a (pv 8) (a0a (pv 11) (a0a (a6z (a2m (a0t a0r (pv 1) a0f (fun _ _=>rfl)) (a0t a0r (pv 10) a0f (fun _ _=>rfl)) (a2m (a0t a0r (pv 1) a0f (fun _ _=>rfl)) (a0t a0r (pv 10) a0f (fun _ _=>rfl)) a6G)) rfl rfl (by simp) (by decide)) a0e)))))) a0e))))) (a0h (a0P (PW.pt (a2Y (a0q a1V (a0B a1m (pv 6) a0f) a0f (a0G _)) (a2c (a0q b5N (pv 11) a0f (a0G _))))) (a0b (a1h hu (pv 5) (pv 8) (a3p a9V (a0L hu (pv 5) (pv 8) (fun _ _=>rfl)) a4O (a4C (b7Y b5n a0f))) rfl)
   (a0h (a0V (a3q PySem.F.plainAttrs_list PySem.F.slot_list_append PySem.F.type_list_append a2l (pv 12) (a0a (a0H (a0a a0x (a0a (a0t a0r (pv 0) a0f (fun _ _=>rfl)) (a0a (pv 8) (a0a (a0B a7k (pv 11) a0f) a0e))))) a0e))))) (a0h (a0P (a0q a1V (a0B a1m (pv 6) a0f) a0f (a0G _)) (a0b (a0V (a7F (pv 4) (pv 8) ⟨rfl,rfl,rfl,rfl⟩))
   (a0h (a0V (a3q PySem.F.plainAttrs_list PySem.F.slot_list_append PySem.F.type_list_append a2l (pv 12) (a0a (a0H (a0a a0x (a0a (a0t a0r (pv 0) a0f (fun _ _=>rfl)) (a0a (pv 8) (a0a a0f a0e))))) a0e))))) (a0h (a0P (PW.pt (a2Y (a2z (a4n hu (pv 9) (pv 4))) (a2c (a0q b2d (pv 9) (pv 8) (a0G _))))) (a0b (a0n (i:=14) sc.nd rfl (Or.inl rfl) (a0L hu (pv 4) (pv 8) (fun _ _=>rfl)))
   (a0b (a1h hu (pv 4) (pv 8) (a0L hu (pv 4) (pv 9) (fun _ _=>rfl)) rfl)
   (a0b (a1h hu (pv 4) (pv 9) (pv 14) rfl)
   (a0b (a0V (a3q PySem.F.plainAttrs_list PySem.F.slot_list_append PySem.F.type_list_append a2l (pv 12) (a0a (a0H (a0a a0x (a0a (a0t a0r (pv 0) a0f (fun _ _=>rfl)) (a0a (pv 8) (a0a a0f (a0a (a0l GH hr (by rfl) DH.mg DH.fn.kp bH .nil a0E (a0a (pv 1) (a0a (pv 2) (a0a (a0L hu (pv 4) (pv 8) (fun _ _=>rfl)) a0e)))) a0e)))))) a0e)))
   (a0h (a0V (a3q PySem.F.plainAttrs_list PySem.F.slot_list_append PySem.F.type_list_append a2l (pv 12) (a0a (a0H (a0a a0x (a0a (a0t a0r (pv 0) a0f (fun _ _=>rfl)) (a0a (pv 9) (a0a a0f (a0a (a0l GH hr (by rfl) DH.mg DH.fn.kp bH .nil a0E (a0a (pv 1) (a0a (pv 2) (a0a (a0L hu (pv 4) (pv 9) (fun _ _=>rfl)) a0e)))) a0e)))))) a0e)))))))) a0s)))))))))
   (a0h (a0F (pv 12))))))))),?_⟩
  have b4j:∀m:Int,∃x∈kk,atI (kk.map V.int) (m%4)=some (.int x):=fun m=>by
   have n0:=Int.emod_nonneg m (show(4:Int)≠0 by decide);have n1:=Int.emod_lt_of_pos m (show(0:Int)<4 by decide);obtain⟨i,hi⟩:=Int.eq_ofNat_of_zero_le n0;have i5:i<kk.length:=by omega
   rw[hi];exact⟨kk[i],gQ0 i5,a0M (by rw[gM0,gE0 i5];rfl)⟩
  obtain⟨key,hkey,ekey⟩:=b4j (cell/5);obtain⟨other,hoth,eoth⟩:=b4j (cell/20);have hk':=a0R _ _ hks;refine⟨_,rfl,_,rfl,_,_,rfl,rfl,⟨by decide,by decide⟩,_,_,rfl,rfl,(pos rfl),ksl,_,_,_,rfl,rfl,SqL.of hk',ekey,?_⟩;refine⟨_,rfl,_,rfl,_,_,rfl,rfl,⟨by decide,by decide⟩,_,_,rfl,rfl,(pos rfl),ksl,_,_,_,rfl,rfl,SqL.of hk',eoth,?_⟩;refine⟨_,rfl,_,_,rfl,rfl,⟨by decide,by decide⟩,_,rfl,_,_,rfl,fun vl v H1 s1 hvl=>?_⟩;have b1:=b0.same s1;have vl1:=b0.fr (a1t hvl) (a0z _ _ hvl);have E1:=a2E (a:=hd) (b:=sm) s1;clear hvl;refine⟨_,rfl,sm,rfl,.inl ⟨_,.inl b1.s⟩,_,rfl,(by show 0<=sizeLine;decide),fun z hz=>?_⟩;have T2:=a0k.upd (o:=.lst []) hz;have E2:=a2E (a:=hd) (b:=sm) T2;have z2:ex2 hd sm (upd H1 z (.lst [])) z=some (.lst []):=b1.fr hz a0c;have b2:=b1.same T2;generalize upd H1 z (.lst [])=H2 at *;refine⟨_,.inl ⟨_,.inl key,.inl b2.s,rfl,rfl⟩,?_⟩;obtain⟨s0,eq0,ps,p1,p2,p3⟩:=b2.get (a0k.refl _) z2 key;rw[eq0];refine⟨s0,_,rfl,.inl (SqL.of (a0R _ _ p1)),?_⟩;refine⟨(by show 0<=sizeLine;decide),fun l hl=>?_⟩;generalize hX:upd H2 l _=H3;obtain⟨S3,l3⟩:=gz hX hl;have E02:=E1.trans E2;have vl2:=E2 _ _ vl1;have lh:l≠hd:=(a0j b2.h hl).symm;have ls:l≠sm:=(a0j b2.s hl).symm;have pl:(ps.map V.ref).length=(mgt M key).length:=by rw[lM0];exact p2
  clear p1 p2 p3 z2 eq0 E1 E2 T2 b1 vl1 s1;rw[pl];clear pl ps;have hln2:=E02 _ _ hln;have hnm2:=hnm.same E02;clear hln hnm hks hk';have hlen:=b2.ll;have klen:∀{L':List E7},L'.length<=1000->(kh L').length<sizeLine:=fun {L'} h=>by unfold kh;rw[lM0,sizeLine_eq];omega
  have mlen:(km M).length<sizeLine:=by unfold km;rw[lM0,sizeLine_eq];omega
  have gK:a2q H3 hd (.int key) (a1k (kh L) (.inl key)):=.inl ⟨_,.inl key,.inl (S3 _ _ b2.h),rfl,rfl⟩;have isS:∀k,(a1k (kh L) (.inl k)).isSome=decide (k∈L.map (·.k)):=fun k=>by
   by_cases hk:k∈L.map (·.k)
   ·obtain⟨e,he,rfl⟩:=mM0.mp hk
    unfold kh;rw[a0U (f:=E7.k) (g:=fun t:E7=>V.ref t.h) b2.nd he,dT0 hk]
    rfl
   ·unfold kh
    rw[a1o (f:=E7.k) (g:=fun t:E7=>V.ref t.h) hk,dF0 hk]
    rfl
  refine⟨_,rfl,_,rfl,hd,_,rfl,gK,_,rfl,b5J (fun h=>⟨_,rfl,_,_,rfl,rfl,(pos rfl),rfl,_,rfl,h⟩) (fun hc=>?_) (fun hb hc=>?_)⟩
  ·
   refine⟨(by show 2<=sizeLine;decide),fun y hy=>?_⟩;generalize hX:upd H3 y _=H4;obtain⟨T4,y4⟩:=gz hX hy;have S4:=S3.trans T4;have l4:=T4 _ _ l3;have gK4:a2q H4 hd (.int key) (a1k (kh L) (.inl key)):=.inl ⟨_,.inl key,.inl (S4 _ _ b2.h),rfl,rfl⟩;have hvb:atI [V.str "add",.str "set"] (if (a1k (kh L) (.inl key)).isSome=true then 1 else 0)=some (.str (if key∈(aL L M).map (·.1) then "set" else "add")):=by
    rw[isS,b2N]
    by_cases hk:key∈L.map (·.k)
    ·rw[if_pos (dT0 hk),if_pos hk];rfl
    ·rw[if_neg (by rw[dF0 hk];exact bF0),if_neg hk];rfl
   refine⟨_,rfl,_,rfl,hd,_,rfl,gK4,.inr ⟨_,rfl,y,_,_,_,rfl,rfl,SqL.of y4,hvb,?_⟩⟩;refine⟨_,rfl,_,rfl,_,rfl,hd,_,rfl,a8X.k (k:=.inl key) (S4 _ _ b2.h) (klen (by omega)),?_⟩;rw[show a2r (kh L) (.inl key) (.ref vl)=_ from a9d L ⟨key,vl,v⟩];have b5:=b2.head (n:=⟨key,vl,v⟩) hkey vl2;have E5:=a7T (a:=hd) (b:=sm) (H:=H2) (o:=.dK (kh (a2x L ⟨key,vl,v⟩)));have S5:=S4.updB (a:=hd) (o:=.dK (kh (a2x L ⟨key,vl,v⟩)));have n5:upd H2 hd (.dK (kh (a2x L ⟨key,vl,v⟩))) l=none:=(a0d lh).trans hl;have l5:upd H4 hd (.dK (kh (a2x L ⟨key,vl,v⟩))) l=_:=(a0d lh).trans l4;generalize upd H2 hd (.dK (kh (a2x L ⟨key,vl,v⟩)))=G5 at *;generalize upd H4 hd (.dK (kh (a2x L ⟨key,vl,v⟩)))=H5 at *;have F5:=(E5.trans a0R).trans S5;refine⟨_,rfl,.inl ⟨rfl,_,SqL.of l5⟩,_,rfl,_,rfl,ln,_,0,_,rfl,rfl,SqL.of (F5 _ _ hln2),rfl,_,rfl,_,rfl,_,rfl,_,rfl,lc,kl,vl,v,rfl,hnm2.same F5,F5 _ _ vl2,ok,fun r H6 s6 hr6=>?_⟩;refine⟨(by show 5<=sizeLine;decide),fun t ht=>?_⟩;generalize hvv:(if key∈(aL L M).map (·.1) then("set":Str) else "add")=vb at *;have vbn:vb≠"cut":=by
    rw[<-hvv]
    split
    ·exact a5F
    ·exact b0a
   have hS:a5Y d (aL L M) key v=[⟨vb,d.T0,key,0,r0 d v⟩]:=by unfold a5Y;rw[hvv]
   exact⟨l,_,_,rfl,rfl,(a0k.upd ht) _ _ (s6 _ _ l5),(by show 0+1<=sizeLine;decide),_,rfl,b7d ⟨vb,d.T0,key,0,r0 d v⟩ q (E02.trans E5) b5 n5 lh ls (S5.trans s6) (s6 _ _ l5) ht (a6t (n:=⟨key,vl,v⟩) b2.gt0) (.inr ⟨vbn,r,rfl,a0z _ _ hr6,a0v S5 (a1t hr6)⟩) ⟨hS▸a3W _ _ _,(iv.head hkey v).up (by omega),fun s hs=>by rw[mS0.mp hs];exact⟨hkey,Int.le_refl _,.inl ⟨rfl,rfl,.inr ⟨vbn,v,rfl⟩⟩⟩,(by show 1<=2;decide)⟩⟩
  have hk:key∈L.map (·.k):=by
   rw[isS] at hb
   by_cases h:key∈L.map (·.k)
   ·exact h
   ·rw[dF0 h] at hb
    cases hb
  obtain⟨e,he,ek⟩:=mM0.mp hk;have fk:fnd (aL L M) key=some ⟨e.v,mgt M key⟩:=by rw[<-ek];exact b5y b2.nd he
  have vK:a1k (kh L) (.inl key)=some (.ref e.h):=by rw[<-ek];exact a0U (f:=E7.k) (g:=fun t:E7=>V.ref t.h) b2.nd he
  have g60:(mgt M key).length<=60:=by
   have:=iv.le _ (a3O fk)
   exact Nat.le_trans this n60
  refine⟨_,rfl,_,_,rfl,rfl,(pos rfl),_,_,rfl,rfl,_,rfl,a9t (fun _=>?_) (fun _=>?_)⟩
  ·
   refine⟨_,rfl,sm,rfl,.inl ⟨_,.inl (S3 _ _ b2.s)⟩,_,rfl,(by show 0<=sizeLine;decide),fun z hz=>?_⟩;have hz2:=a0v S3 hz;have nzl:l≠z:=a0j l3 hz;have S4:=S3.updB (a:=z) (o:=.lst []);have b4:=b2.same (a0k.upd (o:=.lst []) hz2);have E4:=a2E (a:=hd) (b:=sm) (a0k.upd (o:=.lst []) hz2);have z4:ex2 hd sm (upd H2 z (.lst [])) z=some (.lst []):=b2.fr hz2 a0c;have n4:upd H2 z (.lst []) l=none:=(a0d nzl).trans hl;have l4:upd H3 z (.lst []) l=_:=(a0d nzl).trans l3;generalize upd H2 z (.lst [])=G4 at *;generalize upd H3 z (.lst [])=H4 at *;refine⟨_,.inl ⟨_,.inl key,.inl (S4 _ _ b4.s),rfl,rfl⟩,?_⟩;obtain⟨s1,eq1,ps,o1,o2,o3⟩:=b4.get (a0k.refl _) z4 key;rw[eq1];refine⟨_,rfl,(by show 1<=sizeLine;decide),fun y hy=>?_⟩;generalize hX:upd H4 y _=H5;obtain⟨T5,y5⟩:=gz hX hy;have S5:=S4.trans T5;have l5:=T5 _ _ l4;refine⟨s1,y,_,_,rfl,rfl,S5 _ _ (a0R _ _ o1),y5,(by rw[lM0,o2];show _+1<=sizeLine;rw[sizeLine_eq];omega),fun p hp=>?_⟩;have hp4:=a0v S5 hp;have npl:l≠p:=a0j l5 hp;have S6:=S5.updB (a:=p) (o:=.lst (ps.map V.ref++[V.ref vl]));have b6:=b4.same (a0k.upd (o:=.lst (ps.map V.ref++[V.ref vl])) hp4);have E6:=E4.trans (a2E (a:=hd) (b:=sm) (a0k.upd (o:=.lst (ps.map V.ref++[V.ref vl])) hp4));have E46:=a2E (a:=hd) (b:=sm) (a0k.upd (o:=.lst (ps.map V.ref++[V.ref vl])) hp4);have p6:ex2 hd sm (upd G4 p (.lst (ps.map V.ref++[V.ref vl]))) p=some (.lst (ps.map V.ref++[V.ref vl])):=b4.fr hp4 a0c;have n6:upd G4 p (.lst (ps.map V.ref++[V.ref vl])) l=none:=(a0d npl).trans n4;have l6:upd H5 p (.lst (ps.map V.ref++[V.ref vl])) l=_:=(a0d npl).trans l5;generalize upd G4 p (.lst (ps.map V.ref++[V.ref vl]))=G6 at *;generalize upd H5 p (.lst (ps.map V.ref++[V.ref vl]))=H6 at *;refine⟨_,rfl,_,rfl,sm,_,rfl,a8X.k (k:=.inl key) (S6 _ _ b6.s) mlen,?_⟩;rw[show a2r (km M) (.inl key) (.ref p)=_ from b3x M ⟨key,p,ps++[vl],mgt M key++[v]⟩];have b7:=b6.many (n:=⟨key,p,ps++[vl],mgt M key++[v]⟩) hk (by show _=some (HO.lst ((ps++[vl]).map V.ref));rw[mA0];exact p6) (by show(ps++[vl]).length=(mgt M key++[v]).length;rw[lA0,lA0,o2];rfl) (fun j a w h1 h2=>by
    change (ps++[vl])[j]? =some a at h1;change (mgt M key++[v])[j]? =some w at h2
    by_cases hj:j<ps.length
    ·rw[gL0 hj] at h1
     rw[gL0 (by omega)] at h2;exact E46 _ _ (o3 j a w h1 h2)
    ·have hj':=(gS0.mp h1).1
     rw[lA0,lS0] at hj';rw[gR0 (by omega),show j-ps.length=0 by omega] at h1;rw[gR0 (by omega),show j-(mgt M key).length=0 by omega] at h2;cases h1;cases h2;exact E6 _ _ vl2)
   have eA:aL L (a4m M ⟨key,p,ps++[vl],mgt M key++[v]⟩)=b2C (aL L M) key v:=b5X (n:=⟨key,p,ps++[vl],mgt M key++[v]⟩) rfl;generalize a4m M ⟨key,p,ps++[vl],mgt M key++[v]⟩=M' at *;have E7':=E6.trans (b4N (a:=hd) (b:=sm) (H:=G6) (o:=.dK (km M')));have S7:=S6.updB (a:=sm) (o:=.dK (km M'));have n7:upd G6 sm (.dK (km M')) l=none:=(a0d ls).trans n6;have l7:upd H6 sm (.dK (km M')) l=_:=(a0d ls).trans l6;generalize upd G6 sm (.dK (km M'))=G7 at *;generalize upd H6 sm (.dK (km M'))=H7 at *;have F7:=(E7'.trans a0R).trans S7;refine⟨_,rfl,.inl ⟨rfl,_,SqL.of l7⟩,_,rfl,ln,_,1,_,rfl,rfl,SqL.of (F7 _ _ hln2),rfl,_,rfl,_,rfl,fun r hr'=>?_⟩;have T8:=a0k.upd (o:=.dK []) hr';refine⟨_,rfl,lc,_,0,_,rfl,rfl,SqL.of (T8 _ _ (F7 _ _ hnm2.c)),rfl,_,rfl,vl,_,0,_,rfl,rfl,SqL.of (T8 _ _ (F7 _ _ vl2)),rfl,_,rfl,lc,_,2,_,rfl,rfl,SqL.of (T8 _ _ (F7 _ _ hnm2.c)),rfl,_,rfl,vl,_,2,_,rfl,rfl,SqL.of (T8 _ _ (F7 _ _ vl2)),rfl,a0c,[(.inr d.c0,.int v.a),(.inr d.c2,.int v.b)],rfl,(by show 2<=15;decide),?_⟩;rw[mg2 ok.c02];have S9:a0k H7 (upd (upd H7 r (.dK [])) r (.dK [(.inr d.c0,.int v.a),(.inr d.c2,.int v.b)])):=T8.put hr';have r9:upd (upd H7 r (.dK [])) r (.dK [(.inr d.c0,.int v.a),(.inr d.c2,.int v.b)]) r=some (.dK (rK (r1 d v (mgt M key).length))):=a0c;generalize upd (upd H7 r (.dK [])) r (.dK [(.inr d.c0,.int v.a),(.inr d.c2,.int v.b)])=H9 at *;refine⟨(by show 5<=sizeLine;decide),fun t ht=>?_⟩;exact⟨l,_,_,rfl,rfl,(a0k.upd ht) _ _ (S9 _ _ l7),(by show 0+1<=sizeLine;decide),_,rfl,b7d ⟨"add",d.T1,key,(mgt M key).length,r1 d v (mgt M key).length⟩ q (E02.trans E7') b7 n7 lh ls (S7.trans S9) (S9 _ _ l7) ht eA (.inr ⟨b0a,r,rfl,r9,a0v S7 hr'⟩) ⟨b1j ok.T fk v,iv.add key v,fun s hs=>by rw[mS0.mp hs];exact⟨hkey,Int.natCast_nonneg _,.inr ⟨rfl,.inr ⟨b0a,v,(mgt M key).length,rfl⟩⟩⟩,(by show 1<=2;decide)⟩⟩
  refine⟨_,rfl,_,_,rfl,rfl,(pos rfl),rfl,_,rfl,a9t (fun h3=>⟨_,rfl,_,_,rfl,rfl,_,rfl,a9t (fun h4=>?_) (fun h4=>?_)⟩) (fun h3=>a1R ?_)⟩
  ·
   have hgt:0<(mgt M key).length:=by have:=of_decide_eq_true h4;omega
   have hmk:key∈M.map (·.k):=by
    by_cases h:key∈M.map (·.k)
    ·exact h
    ·rw[a5e h] at hgt
     exact absurd hgt (Nat.lt_irrefl 0)
   obtain⟨m,hm,mk⟩:=mM0.mp hmk;have em:mgt M key=m.vs:=by rw[<-mk];exact a2v b2.nm hm
   have vM:a1k (km M) (.inl key)=some (.ref m.s):=by rw[<-mk];exact a0U (f:=M7.k) (g:=fun t:M7=>V.ref t.s) b2.nm hm
   obtain⟨a1,a2⟩:=b2.ls.s m hm;have a3:=b2.ls.v m hm;obtain⟨pp,p0,epp⟩:∃pp p0,m.ps=pp++[p0]:=by
    rcases List.eq_nil_or_concat m.ps with h |⟨pp,p0,h⟩
    ·rw[h] at a2
     rw[em,<-a2] at hgt;exact absurd hgt (Nat.lt_irrefl 0)
    ·exact⟨pp,p0,by rw[h,List.concat_eq_append]⟩
   obtain⟨vv,v0,evv⟩:∃vv v0,m.vs=vv++[v0]:=by
    rcases List.eq_nil_or_concat m.vs with h |⟨pp,p0,h⟩
    ·rw[em,h] at hgt
     exact absurd hgt (Nat.lt_irrefl 0)
    ·exact⟨pp,p0,by rw[h,List.concat_eq_append]⟩
   rw[epp,mA0] at a1;refine⟨_,rfl,_,rfl,sm,_,rfl,.inl ⟨_,.inl key,.inl (S3 _ _ b2.s),rfl,vM.symm⟩,_,rfl,_,rfl,m.s,_,rfl,SqL.of (S3 _ _ (a0R _ _ a1)),fun p hp=>?_⟩;rw[show(List.map V.ref [p0])=[V.ref p0] from rfl,b0U];have hp2:=a0v S3 hp;have npl:l≠p:=a0j l3 hp;have S4:=S3.updB (a:=p) (o:=.lst (pp.map V.ref));have b4:=b2.same (a0k.upd (o:=.lst (pp.map V.ref)) hp2);have E4:=a2E (a:=hd) (b:=sm) (a0k.upd (o:=.lst (pp.map V.ref)) hp2);have p4:ex2 hd sm (upd H2 p (.lst (pp.map V.ref))) p=some (.lst (pp.map V.ref)):=b2.fr hp2 a0c;have n4:upd H2 p (.lst (pp.map V.ref)) l=none:=(a0d npl).trans hl;have l4:upd H3 p (.lst (pp.map V.ref)) l=_:=(a0d npl).trans l3;generalize upd H2 p (.lst (pp.map V.ref))=G4 at *;generalize upd H3 p (.lst (pp.map V.ref))=H4 at *;have lpv:pp.length=vv.length:=by
    rw[epp,evv,lA0,lA0] at a2;simp only[lS0] at a2
    omega
   refine⟨_,rfl,_,rfl,sm,_,rfl,a8X.k (k:=.inl key) (S4 _ _ b4.s) mlen,?_⟩;rw[show a2r (km M) (.inl key) (.ref p)=_ from b3x M ⟨key,p,pp,vv⟩];have b5:=b4.many (n:=⟨key,p,pp,vv⟩) hk p4 lpv (fun j a w h1 h2=>by
    change pp[j]? =some a at h1;change vv[j]? =some w at h2;have c1:=(gS0.mp h1).1;exact E4 _ _ (a3 j a w (by rw[epp,gL0 c1];exact h1) (by rw[evv,gL0 (by omega)];exact h2)))
   have eA:aL L (a4m M ⟨key,p,pp,vv⟩)=a5d (aL L M) key:=b3Y (n:=⟨key,p,pp,vv⟩) (by show vv=(mgt M key).dropLast;rw[em,evv,List.dropLast_concat]);have eln:(mgt M key).length=vv.length+1:=by rw[em,evv,lA0];rfl
   generalize a4m M ⟨key,p,pp,vv⟩=M' at *;have E5:=E4.trans (b4N (a:=hd) (b:=sm) (H:=G4) (o:=.dK (km M')));have S5:=S4.updB (a:=sm) (o:=.dK (km M'));have n5:upd G4 sm (.dK (km M')) l=none:=(a0d ls).trans n4;have l5:upd H4 sm (.dK (km M')) l=_:=(a0d ls).trans l4;generalize upd G4 sm (.dK (km M'))=G5 at *;generalize upd H4 sm (.dK (km M'))=H5 at *;have F5:=(E5.trans a0R).trans S5;refine⟨_,rfl,.inl ⟨rfl,_,SqL.of l5⟩,_,rfl,ln,_,1,_,rfl,rfl,SqL.of (F5 _ _ hln2),rfl,_,rfl,_,rfl,_,_,rfl,rfl,(by show 4<=sizeLine;decide),fun t ht=>?_⟩;have hp:(((mgt M key).length:Nat):Int)-1=(vv.length:Int):=by rw[eln];omega
   exact⟨l,_,_,rfl,rfl,(a0k.upd ht) _ _ l5,(by show 0+1<=sizeLine;decide),_,rfl,b7d ⟨"cut",d.T1,key,vv.length,[]⟩ q (E02.trans E5) b5 n5 lh ls S5 l5 ht eA (.inl ⟨rfl,by show[V.str "cut",.str d.T1,.int key,.int ((mgt M key).length-1)]=_;rw[hp]⟩) ⟨a9c ok.T fk eln,(iv.drop key).up (by omega),fun s hs=>by rw[mS0.mp hs];exact⟨hkey,Int.natCast_nonneg _,.inr ⟨rfl,.inl rfl⟩⟩,(by show 1<=2;decide)⟩⟩
  ·
   have hg0:mgt M key=[]:=by
    have:¬(0:Int)<(mgt M key).length:=fun z=>h4 (dT0 z)
    exact List.length_eq_zero_iff.mp (by omega)
   refine⟨_,rfl,_,_,rfl,rfl,(pos rfl),rfl,_,rfl,a6n h3 ?_⟩;refine⟨_,rfl,hd,rfl,.inl ⟨_,.inl (S3 _ _ b2.h)⟩,_,rfl,_,.inl key,.ref e.h,S3 _ _ b2.h,rfl,vK,?_⟩;have b5:=b2.pop (k:=key) hg0;have E5:=a7T (a:=hd) (b:=sm) (H:=H2) (o:=.dK (a1U (kh L) (.inl key)));have S5:=S3.updB (a:=hd) (o:=.dK (a1U (kh L) (.inl key)));have n5:upd H2 hd (.dK (a1U (kh L) (.inl key))) l=none:=(a0d lh).trans hl;have l5:upd H3 hd (.dK (a1U (kh L) (.inl key))) l=_:=(a0d lh).trans l3;generalize upd H2 hd (.dK (a1U (kh L) (.inl key)))=G5 at *;generalize upd H3 hd (.dK (a1U (kh L) (.inl key)))=H5 at *;have F5:=(E5.trans a0R).trans S5;refine⟨_,rfl,.inl ⟨rfl,_,SqL.of l5⟩,_,rfl,ln,_,0,_,rfl,rfl,SqL.of (F5 _ _ hln2),rfl,_,rfl,(by show 4<=sizeLine;decide),fun t ht=>?_⟩;exact⟨l,_,_,rfl,rfl,(a0k.upd ht) _ _ l5,(by show 0+1<=sizeLine;decide),_,rfl,b7d ⟨"cut",d.T0,key,0,[]⟩ q (E02.trans E5) b5 n5 lh ls S5 l5 ht (b6V L M key) (.inl ⟨rfl,rfl⟩) ⟨b1D fk hg0,(iv.cut key).up (by omega),fun s hs=>by rw[mS0.mp hs];exact⟨hkey,Int.le_refl _,.inl ⟨rfl,rfl,.inl rfl⟩⟩,(by show 1<=2;decide)⟩⟩
  refine⟨_,rfl,_,_,rfl,rfl,(pos rfl),rfl,_,rfl,a9t (fun h=>absurd h h3) (fun _=>?_)⟩;have non:∀{H':Hp},H'=H3->Q (.ref l) H':=fun {H'} e=>by
   rw[e];exact q l [] _ _ (E02.trans (a2E S3)) ⟨L,M,rfl,b2.same S3⟩ ⟨[],a2B lh ls l3,rfl,fun j x s h=>nomatch h⟩ ⟨rfl,iv.up (by omega),fun s hs=>(nomatch hs),zL0 _⟩
  refine⟨_,rfl,_,rfl,hd,_,rfl,.inl ⟨_,.inl other,.inl (S3 _ _ b2.h),rfl,rfl⟩,_,rfl,a9t (fun h5=>⟨_,rfl,_,rfl,rfl,_,rfl,a9t (fun h6=>?_) (fun h6=>⟨_,rfl,non rfl⟩)⟩) (fun h5=>a1R ⟨_,rfl,non rfl⟩)⟩;clear non;have ho:other∈L.map (·.k):=by rw[isS] at h5;exact of_decide_eq_true h5
  have hne:other≠key:=fun z=>by rw[z] at h6;simp[eqV] at h6
  obtain⟨eo,heo,eok⟩:=mM0.mp ho;have vO:a1k (kh L) (.inl other)=some (.ref eo.h):=by rw[<-eok];exact a0U (f:=E7.k) (g:=fun t:E7=>V.ref t.h) b2.nd heo
  refine⟨_,rfl,_,rfl,hd,_,rfl,.inl ⟨_,.inl key,.inl (S3 _ _ b2.h),rfl,vK.symm⟩,?_⟩;refine⟨_,rfl,_,rfl,hd,_,rfl,.inl ⟨_,.inl other,.inl (S3 _ _ b2.h),rfl,vO.symm⟩,_,rfl,_,rfl,hd,_,rfl,a8X.k (k:=.inl key) (S3 _ _ b2.h) (klen (by omega)),?_⟩;rw[show a2r (kh L) (.inl key) (.ref eo.h)=_ from a9d L ⟨key,eo.h,eo.v⟩];have b4:=b2.head (n:=⟨key,eo.h,eo.v⟩) hkey (b2.ls.h eo heo);have A4:aL (a2x L ⟨key,eo.h,eo.v⟩) M=a4b (aL L M) key eo.v:=a6t (n:=⟨key,eo.h,eo.v⟩) b2.gt0;have L4l:(a2x L ⟨key,eo.h,eo.v⟩).map (·.k)=L.map (·.k):=by rw[b0w,if_pos hk]
  have m1:(⟨key,eo.h,eo.v⟩:E7)∈a2x L ⟨key,eo.h,eo.v⟩:=by
   unfold a2x;rw[if_pos hk];exact mM0.mpr ⟨e,he,by rw[if_pos ek]⟩
  generalize hL1:a2x L ⟨key,eo.h,eo.v⟩=L1 at *;have E4:=a7T (a:=hd) (b:=sm) (H:=H2) (o:=.dK (kh L1));have S4:=S3.updB (a:=hd) (o:=.dK (kh L1));have n4:upd H2 hd (.dK (kh L1)) l=none:=(a0d lh).trans hl;have l4:upd H3 hd (.dK (kh L1)) l=_:=(a0d lh).trans l3;generalize upd H2 hd (.dK (kh L1))=G4 at *;generalize upd H3 hd (.dK (kh L1))=H4 at *;have l4l:=b4.ll;refine⟨_,rfl,_,rfl,_,rfl,hd,_,rfl,a8X.k (k:=.inl other) (S4 _ _ b4.h) (klen (by omega)),?_⟩;rw[show a2r (kh L1) (.inl other) (.ref e.h)=_ from a9d L1 ⟨other,e.h,e.v⟩];have eh4:ex2 hd sm G4 e.h=some (vL e.v):=E4 _ _ (b2.ls.h e he);have b5:=b4.head (n:=⟨other,e.h,e.v⟩) hoth eh4;have ho1:other∈L1.map (·.k):=by rw[L4l];exact ho
  have A5:aL (a2x L1 ⟨other,e.h,e.v⟩) M=a4b (aL L1 M) other e.v:=a6t (n:=⟨other,e.h,e.v⟩) b4.gt0;have m2:(⟨key,eo.h,eo.v⟩:E7)∈a2x L1 ⟨other,e.h,e.v⟩:=by
   unfold a2x;rw[if_pos ho1];exact mM0.mpr ⟨_,m1,if_neg (fun z=>hne z.symm)⟩
  have m3:(⟨other,e.h,e.v⟩:E7)∈a2x L1 ⟨other,e.h,e.v⟩:=by
   obtain⟨x,hx,xk⟩:=mM0.mp ho1;unfold a2x;rw[if_pos ho1];exact mM0.mpr ⟨x,hx,by rw[if_pos xk]⟩
  generalize hL2:a2x L1 ⟨other,e.h,e.v⟩=L2' at *;have E5:=E4.trans (a7T (a:=hd) (b:=sm) (H:=G4) (o:=.dK (kh L2')));have S5:=S4.updB (a:=hd) (o:=.dK (kh L2'));have n5:upd G4 hd (.dK (kh L2')) l=none:=(a0d lh).trans n4;have l5:upd H4 hd (.dK (kh L2')) l=_:=(a0d lh).trans l4;generalize upd G4 hd (.dK (kh L2'))=G5 at *;generalize upd H4 hd (.dK (kh L2'))=H5 at *;have F5:=(E5.trans a0R).trans S5;have v2:a1k (kh L2') (.inl key)=some (.ref eo.h):=a0U (f:=E7.k) (g:=fun t:E7=>V.ref t.h) b5.nd m2;have v3:a1k (kh L2') (.inl other)=some (.ref e.h):=a0U (f:=E7.k) (g:=fun t:E7=>V.ref t.h) b5.nd m3;have x2:=a0R _ _ (b5.ls.h _ m2);have x3:=a0R _ _ (b5.ls.h _ m3);refine⟨_,rfl,.inl ⟨rfl,_,SqL.of l5⟩,_,rfl,ln,_,0,_,rfl,rfl,SqL.of (F5 _ _ hln2),rfl,_,rfl,_,rfl,_,rfl,_,rfl,_,rfl,hd,_,rfl,.inl ⟨_,.inl key,.inl (S5 _ _ b5.h),rfl,v2.symm⟩,lc,kl,eo.h,eo.v,rfl,hnm2.same F5,S5 _ _ x2,ok,fun r H6 s6 hr6=>?_⟩;refine⟨(by show 5<=sizeLine;decide),fun t ht=>?_⟩;generalize hX:upd H6 t _=H7;obtain⟨T7,t7⟩:=gz hX ht;have S7:=S5.trans (s6.trans T7);have l7:=T7 _ _ (s6 _ _ l5);have r7:=T7 _ _ (a0z _ _ hr6);have r5:=a0v S5 (a1t hr6);have t5:=a0v (S5.trans s6) ht;refine⟨l,_,_,rfl,rfl,l7,(by show 0+1<=sizeLine;decide),?_⟩;have S8:a0k G5 (upd H7 l (.lst ([]++[V.ref t]))):=S7.put n5;have nrl:r≠l:=fun z=>by rw[z,l7] at r7;cases r7
  have ntl:t≠l:=fun z=>by rw[z,l7] at t7;cases t7
  have r8:upd H7 l (.lst ([]++[V.ref t])) r=_:=(a0d nrl).trans r7;have t8:upd H7 l (.lst ([]++[V.ref t])) t=_:=(a0d ntl).trans t7;have l8:upd H7 l (.lst ([]++[V.ref t])) l=some (.lst [V.ref t]):=a0c;have F8:=(E5.trans a0R).trans S8;generalize upd H7 l (.lst ([]++[V.ref t]))=H8 at *;refine⟨_,rfl,.inl ⟨rfl,_,SqL.of l8⟩,_,rfl,ln,_,0,_,rfl,rfl,SqL.of (F8 _ _ hln2),rfl,_,rfl,_,rfl,_,rfl,_,rfl,_,rfl,hd,_,rfl,.inl ⟨_,.inl other,.inl (S8 _ _ b5.h),rfl,v3.symm⟩,lc,kl,e.h,e.v,rfl,hnm2.same F8,S8 _ _ x3,ok,fun r' H9 s9 hr9=>?_⟩;refine⟨(by show 5<=sizeLine;decide),fun t' ht'=>?_⟩;generalize hX:upd H9 t' _=H10;obtain⟨T10,u10⟩:=gz hX ht';have S10:=S8.trans (s9.trans T10);have l10:=T10 _ _ (s9 _ _ l8);have q10:=T10 _ _ (a0z _ _ hr9);have q5:=a0v S8 (a1t hr9);have u5:=a0v (S8.trans s9) ht';have r10:=T10 _ _ (s9 _ _ r8);have t10:=T10 _ _ (s9 _ _ t8);refine⟨l,_,_,rfl,rfl,l10,(by show 1+1<=sizeLine;decide),?_⟩;have S11:a0k G5 (upd H10 l (.lst [V.ref t,.ref t'])):=S10.put n5;have nql:r'≠l:=fun z=>by rw[z,l10] at q10;cases q10
  have nul:t'≠l:=fun z=>by rw[z,l10] at u10;cases u10
  have x5:∀{x:Addr} {o:HO},G5 x=none->x≠l->H10 x=some o->ex2 hd sm (upd H10 l (.lst [V.ref t,.ref t'])) x=some o:=fun {x o} n nl e=>b5.fr n ((a0d nl).trans e);have k1:key∈(aL L M).map (·.1):=by rw[b2N];exact hk
  have k2:other∈(aL L1 M).map (·.1):=by rw[b2N];exact ho1
  have hS1:a5Y d (aL L M) key eo.v=[⟨"set",d.T0,key,0,r0 d eo.v⟩]:=by unfold a5Y;rw[if_pos k1]
  have hS2:a5Y d (aL L1 M) other e.v=[⟨"set",d.T0,other,0,r0 d e.v⟩]:=by unfold a5Y;rw[if_pos k2]
  have R1:=a3W (d:=d) (aL L M) key eo.v;have R2:=a3W (d:=d) (aL L1 M) other e.v;rw[hS1,<-A4] at R1;rw[hS2,<-A5] at R2;refine⟨_,rfl,q l [⟨"set",d.T0,key,0,r0 d eo.v⟩,⟨"set",d.T0,other,0,r0 d e.v⟩] (aL L2' M) _ ((E02.trans E5).trans (a2E S11)) ⟨_,_,rfl,b5.same S11⟩ ?_ ⟨R1.app R2,?_,fun s hs=>?_,(by show 2<=2;decide)⟩⟩
  ·exact b7H (a2B lh ls a0c) (.inr ⟨a5F,r,x5 t5 ntl t10,x5 r5 nrl r10⟩) (.inr ⟨a5F,r',x5 u5 nul u10,x5 q5 nql q10⟩)
  ·rw[A5,A4]
   exact((iv.head hkey eo.v).head hoth e.v).up (by omega)
  ·rcases (show s=_\/s=_ by simpa using hs) with rfl |rfl
   ·exact⟨hkey,Int.le_refl _,.inl ⟨rfl,rfl,.inr ⟨a5F,_,rfl⟩⟩⟩
   ·exact⟨hoth,Int.le_refl _,.inl ⟨rfl,rfl,.inr ⟨a5F,_,rfl⟩⟩⟩
theorem b8q (d:D8)(A:As):(cA d A).map (·.1)=A.map (·.1):=by unfold cA;rw[mC0];rfl
def a7M (d:D8):Sp:=fun vs H Q _=>∃(lc kl hd sm ln:Addr) (kk:List Int) (A:As),vs=[.ref lc,.ref kl,.ref hd,.ref sm,.ref ln]/\H ln=some (.lst [.str d.T0,.str d.T1])/\NmC H lc kl d/\StA H hd sm kk A/\kk.length=4/\(∀e∈A,e.2.gs.length<=100)/\d.Ok/\∀th us H',a0k H H'->a1F (cut H H') th us->us.map kc=cA d A->Q (.ref th) H'
def thN:List Str:=["_law_columns","_law_kinds","_law_heads","_law_many","_law_names_here","_law_things_here","_law_key","_law_rows"]
theorem b2m {a b:Str}(h:a≠b){v u:V}(hv:flt v=true)(hu:flt u=true):a6l [(a,v),(b,u)]:=⟨by show[a,b].Nodup;simp[h],fun c hc=>by
 rcases (show c=_\/c=_ by simpa using hc) with rfl |rfl
 ·exact hv
 ·exact hu⟩
theorem b3A (d:D8)(h:Vl):flt (d.v0 h)=true:=by unfold D8.v0;cases d.kb<;>rfl
theorem b2H (d:D8)(h:Vl):flt (d.v1 h)=true:=by unfold D8.v1;cases d.kb<;>rfl
theorem b5U {d:D8}(ok:d.Ok){g:Gl}(h:g.gs.length<=1000):b1Z (pcG d g):=by
 refine⟨by show[d.T0,d.T1].Nodup;simp[ok.T],(by show 2<=8;decide),fun t ht=>?_,fun t ht row hr=>?_⟩
 ·rcases (show t=_\/t=_ by simpa[pcG] using ht) with rfl |rfl
  ·show 1<=1000;decide
  ·rw[lI0];exact h
 ·rcases (show t=_\/t=_ by simpa[pcG] using ht) with rfl |rfl
  ·rw[mS0.mp hr]
   exact b2m ok.c01 (b3A _ _) (b2H _ _)
  ·obtain⟨i,hi⟩:=List.getElem?_of_mem hr
   rw[gX0] at hi;cases h3:g.gs[i]? with
   |none=>rw[h3] at hi;cases hi
   |some y=>
    rw[h3] at hi;cases hi;exact b2m ok.c02 rfl rfl
theorem a8Y {f fH:Addr}{fd fdH:FuncData}{d:D8}(F:Fun K "_law_things" "_law_things" (top 43) f fd)(B:Bl mg)(DH:Df K mg "_law_head_row" (top 42) fH fdH):a0A P w K mg base CX0 2 f fd ["_law_columns","_law_kinds","_law_heads","_law_many","_law_names_here"] (a7M d):=by
 have sc:a0o thN ["_law_columns","_law_kinds","_law_heads","_law_many","_law_names_here"] (a0g (top 43)):=.k (by decide +kernel);have GH:a0A P w K mg base CX0 1 fH fdH ["_law_columns","_law_kinds","_law_values_here"] (a3u d):=a4q DH.fn B;have bH:=DH.fn.b3 "_law_columns" "_law_kinds" "_law_values_here" (by intros;rfl);have nd2:(["_law_value","_law_columns"]:List Str).Nodup:=by decide +kernel
 refine F.ok sc (fun vs H Q E h=>?_) (fun cdv A outer s H vs Q E hr h=>?_)
 ·obtain⟨lc,kl,hd,sm,ln,kk,A,rfl,_⟩:=h
  rfl
 ·obtain⟨lc,kl,hd,sm,ln,kk,A,rfl,hn,hc,⟨L,M,rfl,b⟩,k4,hG,ok,q⟩:=h
  have hu:=a1T hr;refine⟨_,a0b (a0n (i:=5) sc.nd rfl (Or.inl rfl) a1n)
   (a0b (a4i (a0X PassesOwn.never rfl (b4x (pv 2)) (a0m (i:=6) sc.nd rfl (Or.inl rfl))
    (a0b (b4J (i:=7) (osc:=a0g (top 43)) (N0:=thN) (xs:=["_law_value"]) (fr:=[0]) ⟨rfl,by decide +kernel,by decide +kernel,by decide +kernel,(fun j hj=>by
       have e:j=0:=by simpa using hj
       subst e;exact⟨_,rfl,by decide +kernel⟩),by decide +kernel⟩ rfl rfl rfl (a0S (a4T hu (pv 3) (pv 6) (a1f a0e) ⟨rfl,rfl,rfl,rfl⟩))
      (fun s H fp=>a0m (i:=0) nd2 rfl (Or.inl rfl)) (fun s H fp=>a1I)
      (fun s H fp=>(a6z (a2m (a0t (r:=b3H K) a0r (pv 1) a0f (fun _ _=>rfl)) (a0t (r:=b3H K) a0r (pv 0) a0f (fun _ _=>rfl)) (a2m (a0t (r:=b3H K) a0r (pv 1) a0f (fun _ _=>rfl)) (a0t (r:=b3H K) a0r (pv 0) a0f (fun _ _=>rfl)) a6G)) rfl rfl (by simp) (by decide))) sc.nd rfl (Or.inl rfl))
    (a0h (a1h hu (pv 5) (pv 6) (a6z (a2m (a0t a0r (pv 4) a0f (fun _ _=>rfl)) (a1f (a0a (a0l GH hr (by rfl) DH.mg DH.fn.kp bH .nil a0E (a0a (pv 0) (a0a (pv 1) (a0a (a0L hu (pv 2) (pv 6) (fun _ _=>rfl)) a0e)))) a0e)) (a2m (a0t a0r (pv 4) a0f (fun _ _=>rfl)) (pv 7) a6G)) rfl rfl (by simp) (by decide)) rfl)))))
   (a0h (a0F (pv 5)))),?_⟩
  have hhd:=b.h;have hsm:=b.s;have ll:=b.ll;refine fun td htd=>⟨hd,_,(a0k.upd htd) _ _ hhd,fun o=>?_⟩;have nhd:hd≠td:=a0j hhd htd;generalize hX:upd H td _=H1;obtain⟨S0,d0⟩:=gz hX htd;have hfa:(upd H1 hd (.frz o (.dK (kh L)))) hd=some (.frz o (.dK (kh L))):=a0c;have b0:∀b ob,b≠hd->H b=some ob->(upd H1 hd (.frz o (.dK (kh L)))) b=some ob:=fun b ob nb e=>(a0d nb).trans (S0 _ _ e);have d1:(upd H1 hd (.frz o (.dK (kh L)))) td=some (.dK []):=(a0d nhd.symm).trans d0;generalize upd H1 hd (.frz o (.dK (kh L)))=H2 at *;have kl':(kh L).length=L.length:=by unfold kh;rw[lM0]
  refine⟨_,rfl,hd,o,_,rfl,hfa,b2j (a:=hd) (o:=o) (kvs:=kh L) (fun i σ H3=>H3 hd=some (.frz o (.dK (kh L)))/\(∀b ob,b≠hd->H b=some ob->H3 b=some ob)/\(∃u6 u7,σ=[some (.ref lc),some (.ref kl),some (.ref hd),some (.ref sm),some (.ref ln),some (.ref td),u6,u7])/\∃us:List En,a1F (cut H H3) td us/\us.map kc=cA d (aL (L.take i) M))
   ⟨hfa,b0,⟨_,_,rfl⟩,[],⟨a0T htd d1,List.nodup_nil,zL0 _,(fun t h=>nomatch h),(fun t h=>nomatch h)⟩,rfl⟩ (fun i σ H3 _ p=>p.1) ?_ ?_⟩
  ·rintro i k v σ H3 hk ⟨h3p,bk,⟨u6,u7,rfl⟩,us,hus,huk⟩
   have hi:i<L.length:=by have:=(gS0.mp hk).1;omega
   unfold kh at hk;rw[gM0,gE0 hi] at hk;cases hk;have hx:L[i]∈L:=gQ0 hi;generalize hex:L[i]=x at *;have vH:a1k (kh L) (.inl x.k)=some (.ref x.h):=a0U (f:=E7.k) (g:=fun t:E7=>V.ref t.h) b.nd hx;have nH:∀{b:Addr},H3 b=none->H b=none:=fun {b} e=>by
    by_cases nb:b=hd
    ·rw[nb,h3p] at e;cases e
    ·cases e2:H b with
     |none=>rfl
     |some ob=>rw[bk b ob nb e2] at e;cases e
   have bn:a0k (ex2 hd sm H) H3:=fun b ob e=>bk b ob (a1Y e).1 (a0R _ _ e);have hxh:=bn _ _ (b.ls.h x hx);have hsm3:=bk _ _ b.ne.symm hsm;have hn3:=bk ln _ (fun z=>by rw[z,hhd] at hn;cases hn) hn;have hc3:NmC H3 lc kl d:=⟨bk lc _ (fun z=>by have:=hc.c;rw[z,hhd] at this;cases this) hc.c,bk kl _ (fun z=>by have:=hc.k;rw[z,hhd] at this;cases this) hc.k⟩;have gle:(mgt M x.k).length<=100:=hG (x.k,⟨x.v,mgt M x.k⟩) (mM0.mpr ⟨x,hx,rfl⟩);have td3:=a0z _ _ hus.at_;refine⟨_,rfl,sm,rfl,.inl ⟨_,.inl hsm3⟩,_,rfl,(by show 0<=sizeLine;decide),fun z hz=>?_⟩;generalize hX:upd H3 z _=H4;obtain⟨Tz,z4⟩:=gz hX hz;refine⟨_,.inl ⟨_,.inl x.k,.inl (Tz _ _ hsm3),rfl,rfl⟩,?_⟩;obtain⟨s0,eq0,ps,p1,p2,p3⟩:=b.get (bn.trans Tz) z4 x.k;rw[eq0];refine⟨s0,rfl,⟨_,SqL.of p1⟩,fun D hD=>?_⟩;have hD3:H3 D=none:=a0v Tz hD;generalize hvv:mgt M x.k=vv at *;refine a1A vv.length (fun i' ys σ' Hc=>(∃t0,σ'=[t0,some (.ref lc)])/\a0k H4 Hc/\∃qs:List Addr,ys=qs.map V.ref/\∀(j:Nat) (r:Addr) (g:Vl),qs[j]? =some r->vv[j]? =some g->H4 r=none/\r≠D/\Hc r=some (.dK (rK (r1 d g j)))) (by rw[sizeLine_eq];omega) ⟨⟨none,rfl⟩,a0k.upd hD,[],rfl,(fun j r g h=>nomatch h)⟩ a0c ?_ ?_
   ·rintro i' σ' Hc ys hi' ⟨⟨t0,rfl⟩,sc',qs,rfl,hqs⟩ hyl hD'
    rw[lM0] at hyl;have hip:i'<ps.length:=by omega
    refine⟨⟨_,V.ref ps[i'],SqL.of (sc' _ _ p1),by rw[gM0,gE0 hip];rfl⟩,?_⟩;rintro y H' ⟨rfl,hx'⟩;have ey:=hx' _ (SqL.of (sc' _ _ p1));rw[gM0,gE0 hip] at ey;cases ey;have hpi:=sc' _ _ (p3 i' ps[i'] vv[i'] (gE0 hip) (gE0 hi'));refine fun r hr'=>?_;have T1:=a0k.upd (o:=.dK []) hr';have cc:=T1 _ _ (sc' _ _ (Tz _ _ hc3.c));refine⟨_,rfl,lc,_,0,_,rfl,rfl,SqL.of cc,rfl,_,rfl,ps[i'],_,0,_,rfl,rfl,SqL.of (T1 _ _ hpi),rfl,_,rfl,lc,_,2,_,rfl,rfl,SqL.of cc,rfl,_,rfl,ps[i'],_,2,_,rfl,rfl,SqL.of (T1 _ _ hpi),rfl,a0c,[(.inr d.c0,.int vv[i'].a),(.inr d.c2,.int vv[i'].b)],rfl,(by show 2<=15;decide),?_⟩;rw[mg2 ok.c02];have S2:=T1.put (o:=.dK [(.inr d.c0,.int vv[i'].a),(.inr d.c2,.int vv[i'].b)]) hr';have e2:upd (upd H' r (.dK [])) r (.dK [(.inr d.c0,.int vv[i'].a),(.inr d.c2,.int vv[i'].b)]) r=some (.dK (rK (r1 d vv[i'] i'))):=a0c;generalize upd (upd H' r (.dK [])) r (.dK [(.inr d.c0,.int vv[i'].a),(.inr d.c2,.int vv[i'].b)])=H6 at *;have r3:H4 r=none:=a0v sc' hr';have rD:r≠D:=fun z=>by rw[z,hD'] at hr';cases hr'
    refine⟨S2 _ _ hD',⟨_,rfl⟩,(sc'.trans S2).put hD,qs++[r],by rw[mA0];rfl,fun j r' g h1 h2=>?_⟩
    by_cases hj:j<qs.length
    ·rw[gL0 hj] at h1
     obtain⟨a1,a2,a3⟩:=hqs j r' g h1 h2;exact⟨a1,a2,(a0d a2).trans (S2 _ _ a3)⟩
    ·have hj':=(gS0.mp h1).1
     rw[lA0,lS0] at hj';obtain rfl:j=qs.length:=by omega
     rw[gR0 (nR0 _),Nat.sub_self] at h1;cases h1;rw[hyl,gE0 hi'] at h2;cases h2;refine⟨r3,rD,?_⟩;rw[a0d rD,hyl];exact e2
   ·rintro σ' Hc ys ⟨_,sc0,qs,rfl,hqs⟩ hDn hyl
    rw[lM0] at hyl;refine⟨⟨_,SqL.of (sc0 _ _ p1),by rw[lM0];omega⟩,?_⟩;have sc':=Tz.trans sc0;have hD0:H D=none:=nH hD3;have Dtd:D≠td:=fun z=>by rw[z,td3] at hD3;cases hD3
    intro p hp;have T1:=a0k.upd (o:=.dK []) hp;have S1:=sc'.trans T1;have gH:a2q (upd Hc p (.dK [])) hd (.int x.k) (some (.ref x.h)):=.inl ⟨_,.inl x.k,.inr ⟨o,S1 _ _ h3p⟩,rfl,vH.symm⟩;refine⟨_,rfl,ln,_,0,_,rfl,rfl,SqL.of (S1 _ _ hn3),rfl,_,rfl,_,rfl,_,rfl,_,rfl,hd,_,rfl,gH,lc,kl,x.h,x.v,rfl,hc3.same S1,S1 _ _ hxh,ok,fun r H5 s5 hr5=>?_⟩;have rn:=a1t hr5;have r3n:H3 r=none:=a0v S1 rn;have p3n:H3 p=none:=a0v sc' hp;have ep:H5 p=some (.dK []):=s5 _ _ a0c;have nrp:r≠p:=fun z=>by rw[z,a0c] at rn;cases rn
    have er:=a0z _ _ hr5;have S5:=S1.trans s5;have S3':=T1.trans s5;refine⟨(by show 1<=sizeLine;decide),fun g0 hg0=>?_⟩;have T6:=a0k.upd (o:=.lst [V.ref r]) hg0;have g3n:H3 g0=none:=a0v S5 hg0;have S6:=S5.trans T6;refine⟨_,rfl,ln,_,1,_,rfl,rfl,SqL.of (S6 _ _ hn3),rfl,_,rfl,T6 _ _ ep,[(.inr d.T0,.ref g0),(.inr d.T1,.ref D)],rfl,(by show 2<=15;decide),?_⟩;rw[mg2 ok.T];have pg:g0≠p:=fun z=>by rw[z,ep] at hg0;cases hg0
    have pD:D≠p:=fun z=>by rw[<-z,hDn] at hp;cases hp
    have S7:a0k H3 (upd (upd H5 g0 (.lst [V.ref r])) p (.dK [(.inr d.T0,.ref g0),(.inr d.T1,.ref D)])):=S6.put p3n;have e7p:(upd (upd H5 g0 (.lst [V.ref r])) p (.dK [(.inr d.T0,.ref g0),(.inr d.T1,.ref D)])) p=some (.dK (zK ((pcG d ⟨x.v,vv⟩).map (·.1)) [g0,D])):=a0c;have e7g:(upd (upd H5 g0 (.lst [V.ref r])) p (.dK [(.inr d.T0,.ref g0),(.inr d.T1,.ref D)])) g0=some (.lst [V.ref r]):=(a0d pg).trans a0c;have e7r:(upd (upd H5 g0 (.lst [V.ref r])) p (.dK [(.inr d.T0,.ref g0),(.inr d.T1,.ref D)])) r=some (.dK (rK (r0 d x.v))):=(a0d nrp).trans (T6 _ _ er);have Sc7:∀b ob,b≠p->Hc b=some ob->(upd (upd H5 g0 (.lst [V.ref r])) p (.dK [(.inr d.T0,.ref g0),(.inr d.T1,.ref D)])) b=some ob:=fun b ob nb e=>(a0d nb).trans (T6 _ _ (S3' _ _ e));generalize upd (upd H5 g0 (.lst [V.ref r])) p (.dK [(.inr d.T0,.ref g0),(.inr d.T1,.ref D)])=H7 at *;have hpc:∀G:Hp,(∀b ob,H3 b=none->H7 b=some ob->G b=some ob)->a2S G p (pcG d ⟨x.v,vv⟩):=fun G hG'=>by
     refine⟨[g0,D],hG' _ _ p3n e7p,rfl,fun j l t h1 h2=>?_⟩
     match j,h1,h2 with
     |0,h1,h2=>
      cases h1;cases h2;refine⟨[r],hG' _ _ g3n e7g,rfl,fun j' r' row c1 c2=>?_⟩
      match j',c1,c2 with
      |0,c1,c2=>cases c1;cases c2;exact hG' _ _ r3n e7r
      |j'+1,c1,c2=>cases c1
     |1,h1,h2=>
      cases h1;cases h2;refine⟨qs,hG' _ _ hD3 (Sc7 _ _ pD hDn),by rw[lI0];omega,fun j' r' row c1 c2=>?_⟩;have hj':j'<vv.length:=by have:=(gS0.mp c1).1;omega
      rw[gX0,gE0 hj'] at c2;cases c2;obtain⟨a1,a2,a3⟩:=hqs j' r' _ c1 (gE0 hj');exact hG' _ _ (a0v Tz a1) (Sc7 _ _ (fun z=>by rw[z,hp] at a3;cases a3) a3)
     |j+2,h1,h2=>cases h1
    have huk0:us.map (·.k)=(L.take i).map (·.k):=by
     have:=congrArg (List.map Prod.fst) huk
     rw[mC0,b8q,b2N] at this;exact this
    have hul:us.length=i:=by
     have:=congrArg List.length huk0
     rw[lM0,lM0,lT0] at this
     omega
    have hkeys:(us++[(⟨x.k,p,pcG d ⟨x.v,vv⟩⟩:En)]).map (·.k)=(L.take (i+1)).map (·.k):=by
     rw[mA0,huk0,tS0,gE0 hi,mA0,hex]
     rfl
    have hnd:((us++[(⟨x.k,p,pcG d ⟨x.v,vv⟩⟩:En)]).map (·.k)).Nodup:=by
     rw[hkeys];exact b.nd.sublist ((List.take_sublist _ _).map _)
    have hnew:a1k (kvT us) (.inl x.k)=none:=by
     refine a1o (f:=En.k) (g:=fun t:En=>V.ref t.p) fun hm=>?_;rw[mA0,List.nodup_append] at hnd;exact hnd.2.2 _ hm _ (mS0.mpr rfl) rfl
    have td7:=S7 _ _ td3;refine⟨_,rfl,_,rfl,td,_,rfl,.inl ⟨kvT us,.inl x.k,td7,rfl,(by unfold kvT;rw[lM0,sizeLine_eq];omega),rfl⟩,?_⟩;rw[a1j _ hnew];refine⟨(a0d nhd).trans (S7 _ _ h3p),fun b ob nb e=>(a0d (a0j e htd)).trans (S7 _ _ (bk b ob nb e)),⟨_,_,rfl⟩,us++[⟨x.k,p,pcG d ⟨x.v,vv⟩⟩],⟨a0T htd ?_,hnd,?_,fun e he=>?_,fun e he=>?_⟩,?_⟩
    ·rw[a0c]
     unfold kvT;rw[mA0]
     rfl
    ·rw[lA0,hul]
     show i+1<=63
     omega
    ·rcases mB0.mp he with he |he
     ·refine(hus.th e he).move fun b ob hb tx=>?_
      have nb:b≠td:=fun e2=>by
       rw[e2,hus.at_] at hb;cases hb;exact a6q he tx
      exact a0T (a1t hb) ((a0d nb).trans (S7 _ _ (a0z _ _ hb)))
     ·rw[mS0.mp he]
      refine hpc _ fun b ob n3 e7=>a0T (nH n3) ((a0d (fun z=>?_)).trans e7);rw[z,td3] at n3;cases n3
    ·rcases mB0.mp he with he |he
     ·exact hus.ok e he
     ·rw[mS0.mp he]
      exact b5U ok (by show vv.length<=1000;omega)
    ·rw[mA0,huk,tS0,gE0 hi,hex]
     unfold aL cA;rw[mA0,mA0];show _++[(x.k,pcG d ⟨x.v,vv⟩)]=_++[(x.k,pcG d ⟨x.v,mgt M x.k⟩)];rw[hvv]
  ·rintro σ H3 ⟨h3p,bk,⟨u6,u7,rfl⟩,us,hus,huk⟩
   refine⟨h3p,_,rfl,?_⟩;rw[kl',List.take_length] at huk;refine q td us _ (fun b ob e=>?_) (hus.same (a3B (o:=.dK (kh L)) hhd)) huk
   by_cases nb:b=hd
   ·rw[nb,a0c]
    rw[nb,hhd] at e;exact e
   ·rw[a0d nb]
    exact bk b ob nb e
def D8.k0 (d:D8)(h:Vl):Key:=if d.kb then .inr h.z else .inl h.a
def D8.k1 (d:D8)(h:Vl):Key:=if d.kb then .inl h.a else .inr h.z
theorem b6g (d:D8)(h:Vl):d.v0 h=kV (d.k0 h):=by unfold D8.v0 D8.k0;cases d.kb<;>rfl
theorem b6R (d:D8)(h:Vl):d.v1 h=kV (d.k1 h):=by unfold D8.v1 D8.k1;cases d.kb<;>rfl
def rw0 (d:D8)(A:As):List R3:=(srt A).map fun e=>(e.1,0,d.k0 e.2.h)
def rw1 (d:D8)(A:As):List R3:=(srt A).map fun e=>(e.1,0,d.k1 e.2.h)
def gR (e:Int×List Vl):List R3:=e.2.mapIdx fun i g=>(e.1,i,.inl g.a)
def rw2 (A:As):List R3:=(srt A).flatMap fun e=>gR (e.1,e.2.gs)
def mM (M:List M7):List (Int×List Vl):=M.map fun m=>(m.k,m.vs)
def rwM (M:List M7):List R3:=(srt (mM M)).flatMap gR
theorem a2w {α β:Type}(f:α->List β)(p:α->Bool):∀l:List α,(∀x∈l,p x=false->f x=[])->l.flatMap f=(l.filter p).flatMap f
 |[],_=>rfl
 |x::l,h=>by
  have ih:=a2w f p l fun y hy=>h y (mL0 _ hy);rw[List.flatMap_cons,ih];cases hp:p x with
  |true=>rw[List.filter_cons_of_pos hp,List.flatMap_cons]
  |false=>rw[List.filter_cons_of_neg (by rw[hp];exact bF0),h x List.mem_cons_self hp,List.nil_append]
theorem a4Z {α β:Type}{f g:α->List β}:∀{l:List α},(∀x∈l,f x=g x)->l.flatMap f=l.flatMap g
 |[],_=>rfl
 |x::l,h=>by rw[List.flatMap_cons,List.flatMap_cons,h x List.mem_cons_self,a4Z fun y hy=>h y (mL0 _ hy)]
theorem b6s {H:Hp}{hd sm:Addr}{kk:List Int}{L:List E7}{M:List M7}(b:StB H hd sm kk L M):rwM M=rw2 (aL L M):=by
 have ndM:((mM M).map (·.1)).Nodup:=by unfold mM;rw[mC0];exact b.nm
 have ndA:((aL L M).map (·.1)).Nodup:=by rw[b2N];exact b.nd
 have e1:rwM M=((srt (mM M)).map (·.1)).flatMap fun k=>gR (k,mgt M k):=by
  unfold rwM;rw[List.flatMap_map];refine a4Z fun e he=>?_;obtain⟨m,hm,rfl⟩:=mM0.mp ((a0C (mM M)).mem_iff.mp he);show gR (m.k,m.vs)=gR (m.k,mgt M m.k);rw[a2v b.nm hm]
 have e2:rw2 (aL L M)=((srt (aL L M)).map (·.1)).flatMap fun k=>gR (k,mgt M k):=by
  unfold rw2;rw[List.flatMap_map];refine a4Z fun e he=>?_;obtain⟨x,hx,rfl⟩:=mM0.mp ((a0C (aL L M)).mem_iff.mp he)
  rfl
 have k1:∀k,k∈(srt (mM M)).map (·.1)↔k∈M.map (·.k):=fun k=>by
  rw[((a0C (mM M)).map Prod.fst).mem_iff];unfold mM;rw[mC0]
  rfl
 have k2:∀k,k∈(srt (aL L M)).map (·.1)↔k∈L.map (·.k):=fun k=>by
  rw[((a0C (aL L M)).map Prod.fst).mem_iff,b2N]
 rw[e1,e2,a2w _ (fun k=>decide (k∈L.map (·.k))) ((srt (mM M)).map (·.1)) (fun k _ hk=>by rw[b.gt0 (of_decide_eq_false hk)];rfl),a2w _ (fun k=>decide (k∈M.map (·.k))) ((srt (aL L M)).map (·.1)) (fun k _ hk=>by rw[a5e (of_decide_eq_false hk)];rfl)]
 congr 1
 have pw:∀{α:Type} (l:List (Int×α)),((srt l).map (·.1)).Pairwise (·<=·):=fun l=>List.pairwise_map.mpr (a7C l);refine List.Perm.eq_of_pairwise (fun a b _ _ h1 h2=>Int.le_antisymm h1 h2) ((pw _).sublist List.filter_sublist) ((pw _).sublist List.filter_sublist) ?_;refine(List.perm_ext_iff_of_nodup (List.Nodup.sublist List.filter_sublist (((a0C (mM M)).map Prod.fst).nodup_iff.mpr ndM)) (List.Nodup.sublist List.filter_sublist (((a0C (aL L M)).map Prod.fst).nodup_iff.mpr ndA))).mpr fun k=>?_;rw[mF0,mF0,k1,k2,decide_eq_true_iff,decide_eq_true_iff];exact⟨fun h=>⟨h.2,h.1⟩,fun h=>⟨h.2,h.1⟩⟩
def a5k (d:D8)(A:As):Option (Str×Int×Nat):=
 match tw R3.ky [] (rw0 d A) with
 |some x=>some (d.T0,x.1,x.2.1)
 |none=>match tw R3.ky [] (rw1 d A) with
  |some x=>some (d.T0,x.1,x.2.1)
  |none=>match tw R3.ky [] (rw2 A) with
   |some x=>some (d.T1,x.1,x.2.1)
   |none=>none
def a7w (H:Hp)(t:Addr)(o:Option (Str×Int×Nat)):Prop:=match o with
 |none=>∃e,H t=some (.tup [.str "done",.ref e])/\H e=some (.lst [])
 |some b=>H t=some (.tup [.str "Twice",.str b.1,.int b.2.1,.int (b.2.2:Nat)])
theorem a7w.same {H H':Hp}{t:Addr}{o:Option (Str×Int×Nat)}(h:a7w H t o)(s:a0k H H'):a7w H' t o:=by
 cases o with
 |none=>obtain⟨e,a,b⟩:=h;exact⟨e,s _ _ a,s _ _ b⟩
 |some b=>exact s _ _ h
def b3o (d:D8):Sp:=fun vs H Q _=>∃(ln kl hd sm:Addr) (kk:List Int) (A:As),vs=[.ref ln,.ref kl,.ref hd,.ref sm]/\H ln=some (.lst [.str d.T0,.str d.T1])/\H kl=some (kdL d)/\StA H hd sm kk A/\kk.length=4/\(∀e∈A,e.2.gs.length<=100)/\∀t H',a0k H H'->a7w H' t (a5k d A)->Q (.ref t) H'
def b8i:List Str:=["_law_names_here","_law_kinds","_law_heads","_law_many","_law_k","_law_found","_law_rows","_law_key","_law_place","_law_value"]
theorem a2T {α β:Type}(f:α->List β)(l:List α)(i:Nat)(h:i<l.length):(l.take (i+1)).flatMap f=(l.take i).flatMap f++f l[i]:=by
 rw[tS0,gE0 h,List.flatMap_append];simp
theorem b5k {f fF:Addr}{fd fdF:FuncData}{d:D8}(F:Fun K "_law_due" "_law_due" (top 46) f fd)(B:Bl mg)(DF:Df K mg "_law_first_twice" (top 45) fF fdF):a0A P w K mg base CX0 2 f fd ["_law_names_here","_law_kinds","_law_heads","_law_many"] (b3o d):=by
 have sc:a0o b8i ["_law_names_here","_law_kinds","_law_heads","_law_many"] (a0g (top 46)):=.k (by decide +kernel);have GF:a0A P w K mg base CX0 1 fF fdF ["_law_rows"] a9r:=b2a DF.fn;have bF:=DF.fn.b1 "_law_rows" (by intros;rfl);have nd4:(["_law_key","_law_kinds","_law_heads","_law_k"]:List Str).Nodup:=by decide +kernel
 refine F.ok sc (fun vs H Q E h=>?_) (fun cdv A outer s H vs Q E hr h=>?_)
 ·obtain⟨ln,kl,hd,sm,kk,A,rfl,_⟩:=h
  rfl
 ·obtain⟨ln,kl,hd,sm,kk,A,rfl,hln,hkl,⟨L,M,rfl,b⟩,k4,hG,q⟩:=h
  have hu:=a1T hr;refine⟨_,a0b (a0X PassesOwn.never rfl (a2a rfl B.range (a0a a0f a0e)) (a0m (i:=4) sc.nd rfl (Or.inr rfl))
    (a0b (a0n (i:=5) sc.nd rfl (Or.inl rfl) (a0l GF hr (by rfl) DF.mg DF.fn.kp bF .nil a0E (a0a (a1K (osc:=a0g (top 46)) (N0:=b8i) (xs:=["_law_key"]) (fr:=[1,2,4]) ⟨rfl,by decide +kernel,by decide +kernel,by decide +kernel,(fun j hj=>by
       have e:j=1\/j=2\/j=4:=by simpa using hj
       rcases e with rfl |rfl |rfl
       ·exact⟨_,rfl,by decide +kernel⟩
       ·exact⟨_,rfl,by decide +kernel⟩
       ·exact⟨_,rfl,by decide +kernel⟩),by decide +kernel⟩ rfl rfl rfl (a0S (a0D (a0J rfl) (by rfl) B.sorted boot_sorted (a0a (pv 2) a0e)))
      (fun s H fp=>a0m (i:=0) nd4 rfl (Or.inl rfl)) (fun s H fp=>a1I)
      (fun s H fp=>(a0H (a0a (pv 0) (a0a a0f (a0a (a0t (r:=b3H K) a0r (a0L hu (pv 2) (pv 0) (fun _ _=>rfl)) (a0t (r:=b3H K) a0r (pv 1) (pv 3) (fun _ _=>rfl)) (fun _ _=>rfl)) a0e)))))) a0e)))
    (a0h (a0P (a0q a6S (pv 5) a4o (a0G _)) (a0h (a0F (a0H (a0a a0x (a0a (a0t a0r (pv 0) a0f (fun _ _=>rfl)) (a0a (a0t a0N (pv 5) a0f (fun _ _=>rfl)) (a0a (a0t a0N (pv 5) a0f (fun _ _=>rfl)) a0e))))))) a0s))))
   (a0b (a0n (i:=6) sc.nd rfl (Or.inl rfl) (a1f a0e))
   (a0b (a0X PassesOwn.never rfl (a0S (a0D (a0J rfl) (by rfl) B.sorted boot_sorted (a0a (pv 3) a0e))) (a0m (i:=7) sc.nd rfl (Or.inl rfl))
    (a0h (a0X PassesOwn.never rfl (a6V (by rfl) B.enum (a0a (a0L hu (pv 3) (pv 7) (fun _ _=>rfl)) a0e)) (a2j rfl (a0y (a0m (i:=8) sc.nd rfl (Or.inl rfl)) (a0y (a0m (i:=9) sc.nd rfl (Or.inl rfl)) a1D)))
     (a0h (a0V (a3q PySem.F.plainAttrs_list PySem.F.slot_list_append PySem.F.type_list_append a2l (pv 6) (a0a (a0H (a0a (pv 7) (a0a (pv 8) (a0a (a0t a0r (pv 9) a0f (fun _ _=>rfl)) a0e)))) a0e)))))))
   (a0b (a0n (i:=5) sc.nd rfl (Or.inl rfl) (a0l GF hr (by rfl) DF.mg DF.fn.kp bF .nil a0E (a0a (pv 6) a0e)))
   (a0b (a0P (a0q a6S (pv 5) a4o (a0G _)) (a0h (a0F (a0H (a0a a0x (a0a (a0t a0r (pv 0) a0f (fun _ _=>rfl)) (a0a (a0t a0N (pv 5) a0f (fun _ _=>rfl)) (a0a (a0t a0N (pv 5) a0f (fun _ _=>rfl)) a0e))))))) a0s)
   (a0h (a0F (a0H (a0a a0x (a0a (a1f a0e) a0e))))))))),?_⟩
  have hhd:=b.h;have hsm:=b.s;have ll:=b.ll;have ekh:(kh L).map (·.1)=((aL L M).map (·.1)).map Sum.inl:=by unfold kh aL;rw[mC0,mC0,mC0];rfl
  have ekm:(km M).map (·.1)=((mM M).map (·.1)).map Sum.inl:=by unfold km mM;rw[mC0,mC0,mC0];rfl
  have eA:(aL L M).length=L.length:=by unfold aL;rw[lM0]
  have eM:(mM M).length=M.length:=by unfold mM;rw[lM0]
  have ent:∀e∈srt (aL L M),∃x∈L,x.k=e.1/\x.v=e.2.h:=fun e he=>by
   obtain⟨x,hx,rfl⟩:=mM0.mp ((a0C (aL L M)).mem_iff.mp he);exact⟨x,hx,rfl,rfl⟩
  have enm:∀e∈srt (mM M),∃x∈M,x.k=e.1/\x.vs=e.2:=fun e he=>by
   obtain⟨x,hx,rfl⟩:=mM0.mp ((a0C (mM M)).mem_iff.mp he);exact⟨x,hx,rfl,rfl⟩
  have sl4:(srt (aL L M)).length<=4:=by rw[(a0C (aL L M)).length_eq,eA];omega
  have sm4:(srt (mM M)).length<=4:=by rw[(a0C (mM M)).length_eq,eM];omega
  have mle:∀x∈M,x.vs.length<=100:=fun x hx=>by
   by_cases hk:x.k∈L.map (·.k)
   ·obtain⟨e,he,ek⟩:=mM0.mp hk
    have:=hG (e.k,⟨e.v,mgt M e.k⟩) (mM0.mpr ⟨e,he,rfl⟩)
    rw[ek,a2v b.nm hx] at this;exact this
   ·rw[b.em x hx hk];exact zL0 _
  have uA:a5k d (aL L M)=a5k d (aL L M):=rfl
  conv at uA=>rhs;unfold a5k
  let rwk:Nat->List R3:=fun i=>if i=0 then rw0 d (aL L M) else rw1 d (aL L M)
  have rl:∀i,(rwk i).length=(srt (aL L M)).length:=fun i=>by
   show(if i=0 then rw0 d (aL L M) else rw1 d (aL L M)).length=_
   split
   ·unfold rw0;rw[lM0]
   ·unfold rw1;rw[lM0]
  refine⟨_,rfl,(by decide),(by decide),a3X (fun i σ H'=>a0k H H'/\(∃u4 u5,σ=[some (.ref ln),some (.ref kl),some (.ref hd),some (.ref sm),u4,u5,none,none,none,none])/\∀j,j<i->tw R3.ky [] (rwk j)=none) ⟨a0k.refl _,⟨_,_,rfl⟩,(fun j h=>absurd h (Nat.not_lt_zero j))⟩ ?_ ?_⟩
  ·rintro i σ H1 hi ⟨s1,⟨u4,u5,rfl⟩,hb⟩
   have hi2:i<2:=hi;refine⟨_,rfl,hd,_,(aL L M).map (·.1),rfl,.inl (s1 _ _ hhd),ekh,(by rw[lM0];omega),fun l ms hl hp hs=>?_⟩;obtain rfl:=a1y hp hs;generalize hX:upd H1 l _=H2;obtain⟨T2,l2⟩:=gz hX hl;have S2:=s1.trans T2;refine⟨l,rfl,⟨_,SqL.of l2⟩,fun D hD=>?_⟩;refine a1A (srt (aL L M)).length (fun i' ys σ' Hc=>(∃t,σ'=[t,some (.ref kl),some (.ref hd),some (.int (0+(i:Int)))])/\a0k H2 Hc/\∃ps:List Addr,ys=ps.map V.ref/\∀(j:Nat) (p:Addr) (r:R3),ps[j]? =some p->(rwk i)[j]? =some r->Hc p=some (.tup [.int r.1,.int (r.2.1:Nat),kV r.2.2])) (by rw[sizeLine_eq];omega) ⟨⟨none,rfl⟩,a0k.upd hD,[],rfl,(fun j p o h=>nomatch h)⟩ a0c ?_ ?_
   ·rintro i' σ' Hc ys hi' ⟨⟨t,rfl⟩,sm',ps,rfl,hps⟩ hyl hD'
    rw[lM0] at hyl;refine⟨⟨_,V.int (srt (aL L M))[i'].1,SqL.of (sm' _ _ l2),by rw[gM0,gM0,gE0 hi'];rfl⟩,?_⟩;rintro x H' ⟨rfl,hx'⟩;have ex:=hx' _ (SqL.of (sm' _ _ l2));rw[gM0,gM0,gE0 hi'] at ex;cases ex;obtain⟨x,hx,xk,xg⟩:=ent _ (gQ0 hi');have Sc:=S2.trans sm';have vH:a1k (kh L) (.inl (srt (aL L M))[i'].1)=some (.ref x.h):=by rw[<-xk];exact a0U (f:=E7.k) (g:=fun t:E7=>V.ref t.h) b.nd hx
    have hl3:=Sc _ _ (a0R _ _ (b.ls.h x hx));have b4j:∃(o:Key) (jj:Int),atI [V.int (if d.kb then 1 else 0),.int (if d.kb then 0 else 1)] (0+(i:Int))=some (.int jj)/\atI [V.int x.v.a,.str x.v.z,.int x.v.b] jj=some (kV o)/\(rwk i)[i']? =some ((srt (aL L M))[i'].1,0,o):=by
     rcases (show i=0\/i=1 by omega) with rfl |rfl
     ·refine⟨d.k0 x.v,_,rfl,?_,?_⟩
      ·unfold D8.k0;cases d.kb<;>rfl
      ·show(rw0 d (aL L M))[i']? =_
       unfold rw0;rw[gM0,gE0 hi',xg]
       rfl
     ·refine⟨d.k1 x.v,_,rfl,?_,?_⟩
      ·unfold D8.k1;cases d.kb<;>rfl
      ·show(rw1 d (aL L M))[i']? =_
       unfold rw1;rw[gM0,gE0 hi',xg]
       rfl
    obtain⟨o,jj,pj,po,ro⟩:=b4j;refine⟨_,rfl,_,rfl,_,rfl,hd,_,rfl,.inl ⟨_,.inl _,.inl (Sc _ _ hhd),rfl,vH.symm⟩,_,rfl,_,rfl,kl,_,_,_,rfl,rfl,SqL.of (Sc _ _ hkl),pj,x.h,_,_,_,rfl,rfl,SqL.of hl3,po,(by show 3<=sizeLine;decide),fun p hp'=>?_⟩;generalize hX:upd H' p _=H4;obtain⟨T3,e3⟩:=gz hX hp';have np:p≠D:=fun z=>by rw[z,hD'] at hp';cases hp'
    refine⟨T3 _ _ hD',⟨_,rfl⟩,(sm'.trans T3).put hD,ps++[p],by rw[mA0];rfl,fun j p' r h1 h2=>?_⟩;have kt:∀{x:Addr} {vs:List V} {ys:List V},H4 x=some (.tup vs)->(upd H4 D (.lst ys)) x=some (.tup vs):=fun {x vs ys} e=>(a0d (fun z=>by rw[z,T3 _ _ hD'] at e;cases e)).trans e
    by_cases hj:j<ps.length
    ·rw[gL0 hj] at h1
     exact kt (T3 _ _ (hps j p' r h1 h2))
    ·have hj':=(gS0.mp h1).1
     rw[lA0,lS0] at hj';obtain rfl:j=ps.length:=by omega
     rw[gR0 (nR0 _),Nat.sub_self] at h1;cases h1;rw[hyl,ro] at h2;cases h2;exact kt e3
   ·rintro σ' Hc ys ⟨_,sm',ps,rfl,hps⟩ hDn hyl
    rw[lM0] at hyl;refine⟨⟨_,SqL.of (sm' _ _ l2),by rw[lM0,lM0];exact nR0 _⟩,?_⟩;have Sc:=S2.trans sm';have rli:=rl i;refine⟨D,rwk i,rfl,⟨ps,hDn,by omega,hps⟩,(by omega),fun v H4 s4 hv=>?_⟩;have S4:=Sc.trans s4;refine⟨_,rfl,rfl,_,rfl,?_⟩;cases hf:tw R3.ky [] (rwk i) with
    |none=>
     rw[hf] at hv;obtain rfl:v=.non:=hv;refine a2H rfl ⟨S4,⟨_,_,rfl⟩,fun j hj=>?_⟩
     by_cases hj':j<i
     ·exact hb j hj'
     ·obtain rfl:j=i:=by omega
      exact hf
    |some x=>
     rw[hf] at hv;obtain⟨t,rfl,ht⟩:=hv;refine a6n rfl ?_;refine⟨_,rfl,ln,_,0,_,rfl,rfl,SqL.of (S4 _ _ hln),rfl,_,rfl,t,_,0,_,rfl,rfl,SqT.of ht,rfl,_,rfl,t,_,1,_,rfl,rfl,SqT.of ht,rfl,(by show 4<=sizeLine;decide),fun t2 ht2=>?_⟩;refine q t2 _ (S4.trans (a0k.upd ht2)) ?_;have ed:a5k d (aL L M)=some (d.T0,x.1,x.2.1):=by
      rw[uA];rcases (show i=0\/i=1 by omega) with rfl |rfl
      ·rw[show tw R3.ky [] (rw0 d (aL L M))=_ from hf]
      ·rw[show tw R3.ky [] (rw0 d (aL L M))=_ from hb 0 (by omega),show tw R3.ky [] (rw1 d (aL L M))=_ from hf]
     rw[ed];exact a0c
  ·rintro σ H1 ⟨s1,⟨u4,u5,rfl⟩,hb⟩
   have f0:=hb 0 (by decide);have f1:=hb 1 (by decide);refine⟨zL0 _,fun lr hlr=>?_⟩;generalize hX:upd H1 lr _=H2;obtain⟨T2,e2⟩:=gz hX hlr;have hlr0:H lr=none:=a0v s1 hlr;have S2:=s1.trans T2;refine⟨_,rfl,sm,_,(mM M).map (·.1),rfl,.inl (S2 _ _ hsm),ekm,(by rw[lM0];omega),fun l ms hl hp hs=>?_⟩;obtain rfl:=a1y hp hs;generalize hX:upd H2 l _=H3;obtain⟨T3,l3⟩:=gz hX hl;have nll:l≠lr:=fun z=>by rw[z,e2] at hl;cases hl
   have S3:=S2.trans T3;have e3:=T3 _ _ e2;refine⟨l,rfl,⟨_,SqL.of l3⟩,a0W (K:=K) (a:=l) (xs:=((srt (mM M)).map (·.1)).map V.int) (fun i σ H'=>a0k H H'/\H' l=some (.lst (((srt (mM M)).map (·.1)).map V.int))/\(∃u4 u5 u7 u8 u9,σ=[some (.ref ln),some (.ref kl),some (.ref hd),some (.ref sm),u4,u5,some (.ref lr),u7,u8,u9])/\RwT H' lr (((srt (mM M)).take i).flatMap gR)/\(((srt (mM M)).take i).flatMap gR).length<=100 * i) ⟨S3,l3,⟨_,_,_,_,_,rfl⟩,⟨[],e3,rfl,(fun j x r h=>nomatch h)⟩,nR0 _⟩ (fun i σ H' _ p=>SqL.of p.2.1) ?_ ?_⟩
   ·rintro i x σ H4 hx ⟨s4,l4,⟨w4,w5,w7,w8,w9,rfl⟩,hrw,hlen⟩
    have hi:i<(srt (mM M)).length:=by have:=(gS0.mp hx).1;simpa using this
    rw[gM0,gM0,gE0 hi] at hx;cases hx;obtain⟨x,hx,xk,xg⟩:=enm _ (gQ0 hi);have vS:a1k (km M) (.inl (srt (mM M))[i].1)=some (.ref x.s):=by rw[<-xk];exact a0U (f:=M7.k) (g:=fun t:M7=>V.ref t.s) b.nm hx
    obtain⟨c1,c2⟩:=b.ls.s x hx;have hxs:=a0R _ _ c1;have nxs:x.s≠lr:=a0j hxs hlr0;have gle:=mle x hx;refine⟨_,rfl,_,rfl,sm,_,rfl,.inl ⟨_,.inl _,.inl (s4 _ _ hsm),rfl,vS.symm⟩,x.s,rfl,⟨_,SqL.of (s4 _ _ hxs)⟩,a4U (K:=K) (a:=x.s) (xs:=x.ps.map V.ref) (fun j σ H'=>a0k H H'/\H' l=some (.lst (((srt (mM M)).map (·.1)).map V.int))/\(∃u4 u5 u8 u9,σ=[some (.ref ln),some (.ref kl),some (.ref hd),some (.ref sm),u4,u5,some (.ref lr),some (.int (srt (mM M))[i].1),u8,u9])/\RwT H' lr (((srt (mM M)).take i).flatMap gR++(gR (srt (mM M))[i]).take j)) ⟨s4,l4,⟨_,_,_,_,rfl⟩,by rw[List.take_zero,List.append_nil];exact hrw⟩ (fun j σ H' _ p=>SqL.of (p.1 _ _ hxs)) ?_ ?_⟩
    ·rintro j y tp σ H5 hy ⟨s5,l5,⟨v4,v5,v8,v9,rfl⟩,xs,y1,y2,y3⟩ htp
     have hj:j<x.ps.length:=by have:=(gS0.mp hy).1;rwa [lM0] at this
     have hjv:j<x.vs.length:=by omega
     rw[gM0,gE0 hj] at hy;cases hy;have hpj:=a0R _ _ (b.ls.v x hx j x.ps[j] x.vs[j] (gE0 hj) (gE0 hjv));have T6:=a0k.upd (o:=.tup [.int j,V.ref x.ps[j]]) htp;refine⟨tp,_,rfl,SqT.of a0c,rfl,_,_,rfl,_,_,rfl,rfl,?_⟩;generalize upd H5 tp (.tup [.int j,V.ref x.ps[j]])=H6 at *;refine⟨_,rfl,.inl ⟨rfl,_,SqL.of (T6 _ _ y1)⟩,_,rfl,_,rfl,_,rfl,x.ps[j],_,0,_,rfl,rfl,SqL.of (T6 _ _ (s5 _ _ hpj)),rfl,(by show 3<=sizeLine;decide),fun t ht=>?_⟩;generalize hX:upd H6 t _=H7;obtain⟨T7,t7⟩:=gz hX ht;have g6:(gR (srt (mM M))[i])[j]? =some ((srt (mM M))[i].1,j,.inl x.vs[j].a):=by
      show((srt (mM M))[i].2.mapIdx _)[j]? =_
      rw[gX0,<-xg,gE0 hjv]
      rfl
     have gl:(gR (srt (mM M))[i]).length=x.vs.length:=by
      show((srt (mM M))[i].2.mapIdx _).length=_
      rw[lI0,xg]
     rw[lA0,lT0] at y2;have l7:=(T6.trans T7) _ _ y1;refine⟨lr,_,_,rfl,rfl,l7,(by rw[lM0,sizeLine_eq];omega),?_⟩;have kt:∀{z:Addr} {vs:List V},H7 z=some (.tup vs)->(upd H7 lr (.lst (xs.map V.ref++[V.ref t]))) z=some (.tup vs):=fun {z vs} e=>(a0d (fun q=>by rw[q,l7] at e;cases e)).trans e;refine⟨((s5.trans T6).trans T7).put hlr0,(a0d nll).trans ((T6.trans T7) _ _ l5),⟨_,_,_,_,rfl⟩,xs++[t],by rw[a0c,mA0];rfl,by rw[lA0,lA0,lT0,lS0];omega,fun m z r h1 h2=>?_⟩;rw[tS0,g6,<-List.append_assoc] at h2
     by_cases hm:m<xs.length
     ·rw[gL0 hm] at h1
      rw[gL0 (by rw[lA0,lT0];omega)] at h2;exact kt ((T6.trans T7) _ _ (y3 m z r h1 h2))
     ·have hm':=(gS0.mp h1).1
      rw[lA0,lS0] at hm';rw[gR0 (by omega),show m-xs.length=0 by omega] at h1;rw[gR0 (by rw[lA0,lT0];omega),show m-(((srt (mM M)).take i).flatMap gR++(gR (srt (mM M))[i]).take j).length=0 by rw[lA0,lT0];omega] at h2;cases h1;cases h2;exact kt t7
    ·rintro σ H5 ⟨s5,l5,⟨v4,v5,v8,v9,rfl⟩,hrw5⟩
     have gl:(gR (srt (mM M))[i]).length=x.ps.length:=by
      show((srt (mM M))[i].2.mapIdx _).length=_
      rw[lI0,<-xg,c2]
     rw[lM0,<-gl,List.take_length] at hrw5;refine⟨s5,l5,⟨_,_,_,_,_,rfl⟩,by rw[a2T gR _ i hi];exact hrw5,?_⟩;rw[a2T gR _ i hi,lA0]
     omega
   ·rintro σ H4 ⟨s4,l4,⟨w4,w5,w7,w8,w9,rfl⟩,hrw,hlen⟩
    rw[lM0,lM0,List.take_length] at hrw hlen;change RwT H4 lr (rwM M) at hrw;change (rwM M).length<=_ at hlen;rw[b6s b] at hrw hlen;refine⟨_,rfl,lr,rw2 (aL L M),rfl,hrw,(by omega),fun v H5 s5 hv=>?_⟩;have S5:=s4.trans s5;have ed:a5k d (aL L M)=match tw R3.ky [] (rw2 (aL L M)) with |some x=>some (d.T1,x.1,x.2.1) |none=>none:=by
     rw[uA,show tw R3.ky [] (rw0 d (aL L M))=_ from f0,show tw R3.ky [] (rw1 d (aL L M))=_ from f1]
    refine⟨_,rfl,rfl,_,rfl,?_⟩;cases hf:tw R3.ky [] (rw2 (aL L M)) with
    |none=>
     rw[hf] at hv ed;obtain rfl:v=.non:=hv;refine a2H rfl ⟨zL0 _,fun e he=>⟨(by show 2<=sizeLine;decide),fun t ht=>?_⟩⟩;have T6:=a0k.upd (o:=.lst ([]:List V)) he;have T7:=a0k.upd (o:=.tup [V.str "done",.ref e]) ht;refine q t _ (S5.trans (T6.trans T7)) ?_;rw[ed];exact⟨e,a0c,T7 _ _ a0c⟩
    |some x=>
     rw[hf] at hv ed;obtain⟨t,rfl,ht⟩:=hv;refine a6n rfl ?_;refine⟨_,rfl,ln,_,1,_,rfl,rfl,SqL.of (S5 _ _ hln),rfl,_,rfl,t,_,0,_,rfl,rfl,SqT.of ht,rfl,_,rfl,t,_,1,_,rfl,rfl,SqT.of ht,rfl,(by show 4<=sizeLine;decide),fun t2 ht2=>?_⟩;refine q t2 _ (S5.trans (a0k.upd ht2)) ?_;rw[ed];exact a0c
end
def leS (a b:Str):Bool:=!decide (b.cps.toList<a.cps.toList)
theorem a3D {a b:Str}:leS a b=true↔a.cps.toList<=b.cps.toList:=by
 unfold leS;rw[Bool.not_eq_true',decide_eq_false_iff_not];exact Iff.rfl
theorem a9G (a b c:Str)(h:leS a b=true)(h':leS b c=true):leS a c=true:=a3D.mpr (List.le_trans (a3D.mp h) (a3D.mp h'))
theorem b0j {a b:Str}(h:a.cps.toList=b.cps.toList):a=b:=Str.ext' (Array.toList_inj.mp h)
theorem b1q {a b:Str}(h:leS a b=true)(h':leS b a=true):a=b:=b0j (List.le_antisymm (a3D.mp h) (a3D.mp h'))
theorem a5C:∀{l:List Str} {p:Str},PyProof.Rows.risingS p l=true->(p::l).Pairwise fun a b=>leS a b=true
 |[],p,_=>List.pairwise_singleton _ _
 |x::r,p,h=>by
  unfold PyProof.Rows.risingS at h;rw[Bool.and_eq_true] at h;have hx:leS p x=true:=by
   unfold leS;rw[PyProof.Rows.le_meets];exact h.1
  have ih:=a5C (l:=r) (p:=x) h.2;refine List.Pairwise.cons (fun y hy=>?_) ih;rcases mK0.mp hy with rfl |hy
  ·exact hx
  ·exact a9G p x y hx ((List.pairwise_cons.mp ih).1 y hy)
theorem a8d:∀{l:List Str},PyProof.Rows.sortedS l=true->l.Pairwise fun a b=>leS a b=true
 |[],_=>List.Pairwise.nil
 |x::r,h=>a5C h
theorem tab0 (d:D8)(g:Gl):tab (pcG d g) d.T0=[r0 d g.h]:=by
 unfold tab pcG;rw[List.find?_cons_of_pos (by simp)]
 rfl
theorem tab1 {d:D8}(ne:d.T0≠d.T1)(g:Gl):tab (pcG d g) d.T1=g.gs.mapIdx fun i x=>r1 d x i:=by
 unfold tab pcG;rw[List.find?_cons_of_neg (by simp[ne]),List.find?_cons_of_pos (by simp)]
 rfl
theorem tabX {d:D8}{T:Str}(h0:T≠d.T0)(h1:T≠d.T1)(g:Gl):tab (pcG d g) T=[]:=by
 unfold tab pcG;rw[List.find?_cons_of_neg (by simp[h0.symm]),List.find?_cons_of_neg (by simp[h1.symm])]
 rfl
theorem b0m (d:D8){A:As}(nd:(A.map (·.1)).Nodup):srt (cA d A)=(srt A).map fun e=>(e.1,pcG d e.2):=b5d (pcG d) nd
theorem b1x (d:D8){A:As}(nd:(A.map (·.1)).Nodup):a1E d.T0 (srt (cA d A))=(srt A).map fun e=>(e.1,0,r0 d e.2.h):=by
 rw[b0m d nd];unfold a1E;generalize srt A=l
 induction l with
 |nil=>rfl
 |cons e l ih=>
  rw[mN0,List.flatMap_cons,ih,mN0,tab0]
  rfl
def rwV (A:As):List (Int×Nat×Vl):=(srt A).flatMap fun e=>e.2.gs.mapIdx fun i v=>(e.1,i,v)
theorem b7t (A:As):rw2 A=(rwV A).map fun x=>(x.1,x.2.1,.inl x.2.2.a):=by
 unfold rw2 rwV;generalize srt A=l
 induction l with
 |nil=>rfl
 |cons e l ih=>
  rw[List.flatMap_cons,List.flatMap_cons,mA0,ih]
  congr 1
  unfold gR;rw[a2u]
theorem b3K {d:D8}(ne:d.T0≠d.T1){A:As}(nd:(A.map (·.1)).Nodup):a1E d.T1 (srt (cA d A))=(rwV A).map fun x=>(x.1,x.2.1,r1 d x.2.2 x.2.1):=by
 rw[b0m d nd];unfold a1E rwV;generalize srt A=l
 induction l with
 |nil=>rfl
 |cons e l ih=>
  rw[mN0,List.flatMap_cons,List.flatMap_cons,mA0,ih,tab1 ne,List.mapIdx_mapIdx,a2u]
  rfl
theorem b7I {d:D8}{T:Str}(h0:T≠d.T0)(h1:T≠d.T1){A:As}(nd:(A.map (·.1)).Nodup):a1E T (srt (cA d A))=[]:=by
 rw[b0m d nd];unfold a1E;generalize srt A=l
 induction l with
 |nil=>rfl
 |cons e l ih=>
  rw[mN0,List.flatMap_cons,ih,tabX h0 h1]
  rfl
theorem v_2 {a b:Str}(h:a≠b)(v u:V):a1k (rK [(a,v),(b,u)]) (.inr a)=some v/\a1k (rK [(a,v),(b,u)]) (.inr b)=some u:=by
 refine⟨a1x rfl,?_⟩;show a1k [((.inr a:Key),v),(.inr b,u)] (.inr b)=_;rw[a1s (fun e=>h (by injection e))];exact a1x rfl
theorem tw_map {α γ β:Type}[DecidableEq β](g:γ->β)(f:α->γ):∀(l:List α) (s:List β),tw g s (l.map f)=(tw (fun x=>g (f x)) s l).map f
 |[],s=>rfl
 |x::r,s=>by
  rw[mN0];unfold tw
  by_cases h:g (f x)∈s
  ·rw[if_pos h,if_pos h];rfl
  ·rw[if_neg h,if_neg h];exact tw_map g f r _
def zs7 (d:D8):List (Str×Str):=[(d.T0,d.c0),(d.T0,d.c1),(d.T1,d.c0)]
theorem a8W {d:D8}(ok:d.Ok){A:As}(nd:(A.map (·.1)).Nodup):a7O (cA d A) (zs7 d)=a5k d A:=by
 have e0:a8y (cA d A) (d.T0,d.c0)=(tw R3.ky [] (rw0 d A)).map fun x=>(d.T0,x.1,x.2.1):=by
  unfold a8y rw0;rw[b1x d nd,tw_map,tw_map,Option.map_map,Option.map_map]
  have:(fun e:Int×Gl=>KyR d.c0 (e.1,0,r0 d e.2.h))=fun e=>R3.ky (e.1,0,d.k0 e.2.h):=funext fun e=>by
   show b5W (b3c (r0 d e.2.h) d.c0)=d.k0 e.2.h;unfold b3c;rw[show a1k (rK (r0 d e.2.h)) (.inr d.c0)=_ from(v_2 ok.c01 _ _).1,b6g];exact a6T _
  rw[show tw (fun x:Int×Gl=>KyR (d.T0,d.c0).2 (x.1,0,r0 d x.2.h)) [] (srt A)=_ from congrArg (fun g=>tw g [] (srt A)) this]
  rfl
 have e1:a8y (cA d A) (d.T0,d.c1)=(tw R3.ky [] (rw1 d A)).map fun x=>(d.T0,x.1,x.2.1):=by
  unfold a8y rw1;rw[b1x d nd,tw_map,tw_map,Option.map_map,Option.map_map]
  have:(fun e:Int×Gl=>KyR d.c1 (e.1,0,r0 d e.2.h))=fun e=>R3.ky (e.1,0,d.k1 e.2.h):=funext fun e=>by
   show b5W (b3c (r0 d e.2.h) d.c1)=d.k1 e.2.h;unfold b3c;rw[show a1k (rK (r0 d e.2.h)) (.inr d.c1)=_ from(v_2 ok.c01 _ _).2,b6R];exact a6T _
  rw[show tw (fun x:Int×Gl=>KyR (d.T0,d.c1).2 (x.1,0,r0 d x.2.h)) [] (srt A)=_ from congrArg (fun g=>tw g [] (srt A)) this]
  rfl
 have e2:a8y (cA d A) (d.T1,d.c0)=(tw R3.ky [] (rw2 A)).map fun x=>(d.T1,x.1,x.2.1):=by
  unfold a8y;rw[b3K ok.T nd,b7t,tw_map,tw_map,Option.map_map,Option.map_map]
  have:(fun x:Int×Nat×Vl=>KyR d.c0 (x.1,x.2.1,r1 d x.2.2 x.2.1))=fun x=>R3.ky (x.1,x.2.1,.inl x.2.2.a):=funext fun x=>by
   show b5W (b3c (r1 d x.2.2 x.2.1) d.c0)=.inl x.2.2.a;unfold b3c;rw[show a1k (rK (r1 d x.2.2 x.2.1)) (.inr d.c0)=_ from(v_2 ok.c02 _ _).1]
   rfl
  rw[show tw (fun x:Int×Nat×Vl=>KyR (d.T1,d.c0).2 (x.1,x.2.1,r1 d x.2.2 x.2.1)) [] (rwV A)=_ from congrArg (fun g=>tw g [] (rwV A)) this]
  rfl
 unfold a7O zs7 a5k;rw[List.findSome?_cons,e0,List.findSome?_cons,e1,List.findSome?_cons,e2,List.findSome?_nil];cases tw R3.ky [] (rw0 d A) with
 |some x=>rfl
 |none=>
  cases tw R3.ky [] (rw1 d A) with
  |some x=>rfl
  |none=>
   cases tw R3.ky [] (rw2 A) with
   |some x=>rfl
   |none=>rfl
theorem b2n {c c':List (Int×Pc)}(h:srt c=srt c')(zs:List (Str×Str)):a7O c zs=a7O c' zs:=by
 unfold a7O
 congr 1
 funext z
 unfold a8y;rw[h]
def tb0 (d:D8)(k0 k1:Addr):Tb:=⟨d.T0,"head",[(d.c0,k0),(d.c1,k1)]⟩
def tb1 (d:D8)(k2 k3:Addr):Tb:=⟨d.T1,"many",[(d.c0,k2),(d.c2,k3)]⟩
abbrev T7 (d:D8)(k0 k1 k2 k3:Addr):List Tb:=[tb0 d k0 k1,tb1 d k2 k3]
def ky7 (d:D8):Kyf:=fun T c=>if T=d.T0 then true else decide (c=d.c0)
def OnK (G:Hp)(a:Addr)(z:Str):Prop:=∃w,G a=some (.tup [.str "once",.ref w])/\G w=some (.tup [.str z])
structure a7v (G:Hp) (d:D8) (k0 k1 k2 k3:Addr):Prop where
 k0:OnK G k0 (if d.kb then "word" else "whole")
 k1:OnK G k1 (if d.kb then "whole" else "word")
 k2:OnK G k2 "whole"
 k3:G k3=some (.tup [.str "whole"])
theorem OnK.same {G G':Hp}{a:Addr}{z:Str}(h:OnK G a z)(s:a0k G G'):OnK G' a z:=let ⟨w,x,y⟩:=h;⟨w,s _ _ x,s _ _ y⟩
theorem OnK.mv {G G':Hp}{a:Addr}{z:Str}(h:OnK G a z)(s:∀b o,G b=some o->NoI o->G' b=some o):OnK G' a z:=let ⟨w,x,y⟩:=h;⟨w,s _ _ x (fun _ _ _ z=>nomatch z),s _ _ y (fun _ _ _ z=>nomatch z)⟩
theorem a7v.same {G G':Hp}{d:D8}{k0 k1 k2 k3:Addr}(h:a7v G d k0 k1 k2 k3)(s:a0k G G'):a7v G' d k0 k1 k2 k3:=⟨h.k0.same s,h.k1.same s,h.k2.same s,s _ _ h.k3⟩
theorem a7v.mv {G G':Hp}{d:D8}{k0 k1 k2 k3:Addr}(h:a7v G d k0 k1 k2 k3)(s:∀b o,G b=some o->NoI o->G' b=some o):a7v G' d k0 k1 k2 k3:=⟨h.k0.mv s,h.k1.mv s,h.k2.mv s,s _ _ h.k3 (fun _ _ _ z=>nomatch z)⟩
theorem a7v.ky {G:Hp}{d:D8}(ok:d.Ok){k0 k1 k2 k3:Addr}(h:a7v G d k0 k1 k2 k3):b3j G (T7 d k0 k1 k2 k3) (ky7 d):=by
 intro T hT c hc;rcases (show T=_\/T=_ by simpa using hT) with rfl |rfl
 ·rw[show ky7 d (tb0 d k0 k1).name c.1=true by unfold ky7;rw[if_pos (show(tb0 d k0 k1).name=d.T0 from rfl)]]
  rcases (show c=(d.c0,k0)\/c=(d.c1,k1) by simpa[tb0] using hc) with rfl |rfl
  ·obtain⟨w,x,_⟩:=h.k0;exact⟨_,x⟩
  ·obtain⟨w,x,_⟩:=h.k1;exact⟨_,x⟩
 ·rcases (show c=(d.c0,k2)\/c=(d.c2,k3) by simpa[tb1] using hc) with rfl |rfl
  ·rw[show ky7 d (tb1 d k2 k3).name d.c0=true by unfold ky7;rw[if_neg (show ¬(tb1 d k2 k3).name=d.T0 from ok.T.symm)];exact dT0 rfl]
   obtain⟨w,x,_⟩:=h.k2;exact⟨_,x⟩
  ·rw[show ky7 d (tb1 d k2 k3).name d.c2=false by unfold ky7;rw[if_neg (show ¬(tb1 d k2 k3).name=d.T0 from ok.T.symm)];exact dF0 ok.c02.symm]
   exact⟨_,h.k3⟩
structure D8.Rs (d:D8):Prop where
 ok:d.Ok
 r:leS d.c0 d.c1=true
theorem b3M {d:D8}(h:d.Rs){k0 k1 k2 k3:Addr}{zs:List (Str×Str)}(hz:b3U (ky7 d) (T7 d k0 k1 k2 k3) zs):zs=zs7 d:=by
 obtain⟨yss,l,hy,rfl⟩:=hz
 match yss,l with
 |[y0,y1],_=>
  obtain⟨p0,s0⟩:=hy 0 _ y0 rfl rfl;obtain⟨p1,_⟩:=hy 1 _ y1 rfl rfl;have e0:y0=[d.c0,d.c1]:=List.Perm.eq_of_pairwise (fun a b _ _ h1 h2=>b1q h1 h2) (a8d s0) (List.pairwise_cons.mpr ⟨fun y hy=>by rw[mS0.mp hy];exact h.r,List.pairwise_singleton _ _⟩) p0;have f0:y0.filter (ky7 d d.T0)=y0:=List.filter_eq_self.mpr fun a _=>by unfold ky7;rw[if_pos rfl]
  have f1:y1.filter (ky7 d d.T1)=[d.c0]:=by
   refine List.perm_singleton.mp ((p1.filter _).trans ?_)
   show(List.filter (ky7 d d.T1) [d.c0,d.c2]).Perm _
   have k2:ky7 d d.T1 d.c0=true:=by unfold ky7;rw[if_neg h.ok.T.symm];exact dT0 rfl
   have k3:¬ky7 d d.T1 d.c2=true:=by unfold ky7;rw[if_neg h.ok.T.symm];simp[h.ok.c02.symm]
   rw[List.filter_cons_of_pos k2,List.filter_cons_of_neg k3,List.filter_nil]
  show(y0.filter (ky7 d d.T0)).map (fun c=>(d.T0,c))++((y1.filter (ky7 d d.T1)).map (fun c=>(d.T1,c))++[])=_
  rw[f0,f1,e0]
  rfl
theorem a6v {d:D8}(ok:d.Ok){kk:List Int}(k5:kk.length=4){n:Nat}(hn:n<=100){A:As}(iv:Iv kk n A)(T:Str):(a1E T (srt (cA d A))).length<=1000:=by
 have la:(srt A).length<=4:=by rw[(a0C A).length_eq];have:=iv.len;omega
 by_cases h0:T=d.T0
 ·rw[h0,b1x d iv.nd,lM0]
  omega
 ·by_cases h1:T=d.T1
  ·rw[h1,b3K ok.T iv.nd,lM0]
   unfold rwV;have key:∀l:As,(∀e∈l,e.2.gs.length<=100)->(l.flatMap fun e=>e.2.gs.mapIdx fun i g=>((e.1,i,g):Int×Nat×Vl)).length<=100 * l.length:=fun l=>by
    induction l with
    |nil=>intro _;exact nR0 _
    |cons e l ih=>
     intro h;have h2:=ih fun e he=>h e (mL0 _ he);have h3:=h e List.mem_cons_self;rw[List.flatMap_cons,lA0,lI0,List.length_cons]
     omega
   have:=key (srt A) fun e he=>by have:=iv.le e ((a0C A).mem_iff.mp he);omega
   omega
  ·rw[b7I h0 h1 iv.nd]
   exact zL0 _
theorem b6W {d:D8}(ok:d.Ok){A:As}(nd:(A.map (·.1)).Nodup){k0 k1 k2 k3:Addr}:∀T∈T7 d k0 k1 k2 k3,∀c∈T.cols,ky7 d T.name c.1=true->∀x∈a1E T.name (srt (cA d A)),∃v,a1k (rK x.2.2) (.inr c.1)=some v/\OnV v:=by
 intro T hT c hc hk x hx;rcases (show T=_\/T=_ by simpa using hT) with rfl |rfl
 ·rw[show(tb0 d k0 k1).name=d.T0 from rfl,b1x d nd] at hx
  obtain⟨e,_,rfl⟩:=mM0.mp hx;rcases (show c=(d.c0,k0)\/c=(d.c1,k1) by simpa[tb0] using hc) with rfl |rfl
  ·exact⟨_,(v_2 ok.c01 _ _).1,_,b6g _ _⟩
  ·exact⟨_,(v_2 ok.c01 _ _).2,_,b6R _ _⟩
 ·rw[show(tb1 d k2 k3).name=d.T1 from rfl,b3K ok.T nd] at hx
  obtain⟨e,_,rfl⟩:=mM0.mp hx;rcases (show c=(d.c0,k2)\/c=(d.c2,k3) by simpa[tb1] using hc) with rfl |rfl
  ·exact⟨_,(v_2 ok.c02 _ _).1,.inl e.2.2.a,rfl⟩
  ·exact⟨_,(v_2 ok.c02 _ _).2,.inl e.2.2.b,rfl⟩
theorem a7z {ks ls:List Key}(p:ks=ls):a4a ks ls=true:=by
 subst p;unfold a4a;rw[dT0 rfl,Bool.true_and,List.all_eq_true];intro k hk;rw[List.any_eq_true];exact⟨k,hk,dT0 rfl⟩
theorem b7o {G:Hp}{a:Addr}{z:Str}(h:OnK G a z){v:V}(hv:(z="whole"/\∃i:Int,v=.int i)\/(z="word"/\∃x:Str,v=.str x)):b5j G a v:=by
 obtain⟨w,h1,h2⟩:=h;refine .inr ⟨w,h1,?_⟩;rcases hv with ⟨rfl,hv⟩ |⟨rfl,hv⟩
 ·exact .inl ⟨h2,hv⟩
 ·exact .inr ⟨h2,hv⟩
theorem b4I {d:D8}(ok:d.Ok){G:Hp}{sz:Int}{kk:List Int}(hk:∀x∈kk,0<=x/\x<sz){k0 k1 k2 k3:Addr}(hky:a7v G d k0 k1 k2 k3){x:Addr}{s:Stp}(h:a5W G x s)(so:b6n d kk s):b2Z G sz (T7 d k0 k1 k2 k3) x s:=by
 obtain⟨sk,sp,hz⟩:=so;obtain⟨h1,h2⟩:=hk _ sk;rcases hz with ⟨hz,hp,hv⟩ |⟨hz,hv⟩
 ·rcases h with ⟨hc,hx⟩ |⟨hc,r,hx,hr⟩
  ·exact⟨tb0 d k0 k1,[],by simp,hz.symm,hx,h1,h2,sp,.inl hp,.inl hc⟩
  ·obtain⟨_,a,er⟩:=hv.resolve_left hc
   refine⟨tb0 d k0 k1,[.ref r],by simp,hz.symm,hx,h1,h2,sp,.inl hp,.inr ⟨hc,r,rfl,hr,?_,?_⟩⟩
   ·rw[er];exact b2m ok.c01 (b3A _ _) (b2H _ _)
   ·rw[er] at hr
    refine⟨_,hr,(by show 2<=1000;decide),a7z rfl,fun c hcc=>?_⟩;rcases (show c=(d.c0,k0)\/c=(d.c1,k1) by simpa[tb0] using hcc) with rfl |rfl
    ·refine⟨_,(v_2 ok.c01 _ _).1,b7o hky.k0 ?_⟩
     unfold D8.v0;cases d.kb
     ·exact .inl ⟨rfl,_,rfl⟩
     ·exact .inr ⟨rfl,_,rfl⟩
    ·refine⟨_,(v_2 ok.c01 _ _).2,b7o hky.k1 ?_⟩
     unfold D8.v1;cases d.kb
     ·exact .inr ⟨rfl,_,rfl⟩
     ·exact .inl ⟨rfl,_,rfl⟩
 ·rcases h with ⟨hc,hx⟩ |⟨hc,r,hx,hr⟩
  ·exact⟨tb1 d k2 k3,[],by simp,hz.symm,hx,h1,h2,sp,.inr (by show("many":Str)∉b2T;decide +kernel),.inl hc⟩
  ·obtain⟨_,g,i,er⟩:=hv.resolve_left hc
   refine⟨tb1 d k2 k3,[.ref r],by simp,hz.symm,hx,h1,h2,sp,.inr (by show("many":Str)∉b2T;decide +kernel),.inr ⟨hc,r,rfl,hr,?_,?_⟩⟩
   ·rw[er];exact b2m ok.c02 rfl rfl
   ·rw[er] at hr
    refine⟨_,hr,(by show 2<=1000;decide),a7z rfl,fun c hcc=>?_⟩;rcases (show c=(d.c0,k2)\/c=(d.c2,k3) by simpa[tb1] using hcc) with rfl |rfl
    ·exact⟨_,(v_2 ok.c02 _ _).1,b7o hky.k2 (.inl ⟨rfl,_,rfl⟩)⟩
    ·exact⟨_,(v_2 ok.c02 _ _).2,.inl ⟨hky.k3,_,rfl⟩⟩
theorem b7w {d:D8}(ne:d.T0≠d.T1){A':As}{k0 k1 k2 k3:Addr}{st:List (Int×Pt)}{F0:Fn}(hs:Sim d st (fA d A') F0):∀n∈st,a9A n.2=true->∀T∈[tb0 d k0 k1,tb1 d k2 k3],∀t∈n.2,t.1=T.name->b7c T.sort (t.2.map (·.1)):=by
 intro n hn' hf T hT t ht et;rw[hs.at_ n hn'] at ht hf;unfold fA at ht hf;cases hA:fnd A' n.1 with
 |none=>
  rw[hA] at hf;cases hf
 |some g=>
  rw[hA] at ht;rcases (show t=_\/t=_ by simpa[P2] using ht) with rfl |rfl
  ·rcases (show T=_\/T=_ by simpa using hT) with rfl |rfl
   ·refine⟨fun i=>?_,fun _=>by show 0<1;decide⟩
    show(i:Int)∈[(0:Int)]↔i<1
    rw[mS0]
    omega
   ·exact absurd et ne
  ·rcases (show T=_\/T=_ by simpa using hT) with rfl |rfl
   ·exact absurd et.symm ne
   ·have e:((tbs d (some g)).2.map (·.1)).length=g.gs.length:=by
     rw[lM0]
     show(g.gs.mapIdx _).length=_
     rw[lI0]
    refine⟨fun i=>?_,fun hz=>?_⟩
    ·rw[e]
     constructor
     ·intro h
      obtain⟨x,hx,h2⟩:=mM0.mp h;obtain⟨j,hj⟩:=List.getElem?_of_mem hx;rw[show(tbs d (some g)).2=g.gs.mapIdx fun i x=>((i:Int),r1 d x i) from rfl,gX0] at hj;cases h3:g.gs[j]? with
      |none=>rw[h3] at hj;cases hj
      |some y=>
       rw[h3] at hj;cases hj
       have:=(gS0.mp h3).1
       have h4:(j:Int)=i:=h2
       omega
     ·intro h
      refine mM0.mpr ⟨((i:Int),r1 d g.gs[i] i),gI0 (i:=i) ?_,rfl⟩;rw[show(tbs d (some g)).2=g.gs.mapIdx fun i x=>((i:Int),r1 d x i) from rfl,gX0,gE0 h]
      rfl
    ·rcases hz with hz |hz
     ·exact absurd hz (by show("many":Str)∉b2T;decide +kernel)
     ·exact absurd hz (by show("many":Str)≠"some";decide +kernel)
end My
namespace L2
open PySem PySem.Spec PyProof.Rows
end L2
namespace My
open PySem L2 PyProof.Rows
seal L2.PE L2.PT L2.PW L2.PS L2.PSs L2.PA L2.PI L2.PG L2.PGs L2.OpR L2.UnR L2.a1r L2.IxR L2.SlR L2.MtR L2.PIf L2.PO L2.MtM L2.PC
theorem b6K:∀row:Rw,rK row=(row.map (·.1)).zipWith (fun z v=>((Sum.inr z:Key),v)) (row.map (·.2))
 |[]=>rfl
 |c::r=>by
  unfold rK;rw[mN0,mN0,mN0,List.zipWith_cons_cons];exact congrArg _ (b6K r)
theorem b2J {H:Hp}{r:Addr}{row:Rw}(ok:a6l row)(h:H r=some (.dK (rK row))):Dv H 1 (rD row) (.ref r):=by
 have e0:(row.map fun c=>(c.1,Dp.fl c.2)).map (·.1)=row.map (·.1):=by rw[mC0];rfl
 refine Dv.dic (vs:=row.map (·.2)) ?_ ?_ ?_ fun i v k h1 h2=>?_
 ·rw[h,b6K,e0]
 ·rw[e0]
  exact ok.1
 ·rw[lM0,lM0]
 ·rw[gM0] at h1 h2
  cases hc:row[i]? with
  |none=>rw[hc] at h1;cases h1
  |some c=>
   rw[hc] at h1 h2;cases h1;cases h2;exact .fl (ok.2 c (gI0 hc))
theorem b6q (names:List Str)(es:List (Int×Pc))(c:List (Int×Pt))(s:Stp):(a8r names es c s).map (·.1)=a2I (c.map (·.1)) s.k:=by
 have e:(Prod.fst∘b0R s)=(Prod.fst:Int×Pt->Int):=funext fun n=>by
  show(b0R s n).1=n.1
  unfold b0R
  split<;>rfl
 unfold a8r a8v a2I;rw[mC0,e]
 by_cases h:s.k∈c.map (·.1)
 ·rw[if_pos h,if_pos h]
 ·rw[if_neg h,if_neg h,mA0]
  rfl
theorem b5o (names:List Str)(es:List (Int×Pc)):∀(ss:List Stp) (c:List (Int×Pt)),(ss.foldl (a8r names es) c).map (·.1)=(ss.map (·.k)).foldl a2I (c.map (·.1))
 |[],c=>rfl
 |s::r,c=>by
  rw[List.foldl_cons,mN0,List.foldl_cons,<-b6q names es c s];exact b5o names es r _
theorem b5Z (names:List Str)(es:List (Int×Pc))(ss:List Stp):(a7t names es ss).map (·.1)=ddI (ss.map (·.k)):=b5o names es ss []
def Hds (d:D8)(es:List En)(A:As):Prop:=∀k,fnd (es.map kc) k=(fnd A k).map (pcG d)
theorem Hds.pc {d:D8}{es:List En}{A:As}(h:Hds d es A)(nd:(es.map (·.k)).Nodup){e:En}(he:e∈es):∃g,(e.k,g)∈A/\e.pc=pcG d g:=by
 have h1:fnd (es.map kc) e.k=some e.pc:=a2k (by rw[mC0];exact nd) (mM0.mpr ⟨e,he,rfl⟩);rw[h] at h1;cases hA:fnd A e.k with
 |none=>rw[hA] at h1;cases h1
 |some g=>rw[hA] at h1;exact⟨g,a3O hA,(Option.some.inj h1).symm⟩
theorem b5S (d:D8)(g:Gl){n:Nat}(h1:1<=n)(hg:g.gs.length<=n)(z:Str):(tab (pcG d g) z).length<=n:=by
 unfold tab pcG
 by_cases h0:d.T0=z
 ·rw[List.find?_cons_of_pos (by simpa using h0)]
  exact h1
 ·rw[List.find?_cons_of_neg (by simpa using h0)]
  by_cases h2:d.T1=z
  ·rw[List.find?_cons_of_pos (by simpa using h2)]
   show(g.gs.mapIdx _).length<=n
   rw[lI0];exact hg
  ·rw[List.find?_cons_of_neg (by simpa using h2)]
   exact zL0 _
structure Xf (K:Fg0) (mg:Str->Option Value) (CM:Addr):Prop where
 mM:mg "Twice"=some (.ref CM)
 xM:XCl K CM
 m1:a1d K CM "table"
 m2:a1d K CM "key"
 m3:a1d K CM "place"
 u:b2k K CM CM
def a5I (CP:Addr)(d:D8):Sp:=fun vs H Q _=>∃(a L:Addr) (sz:Int) (k0 k1 k2 k3:Addr) (es:List En) (ss:List Stp) (kk:List Int) (n:Nat) (A A':As),
 vs=[.ref a,.ref L]/\a5v CP H a sz (T7 d k0 k1 k2 k3) es/\a7v H d k0 k1 k2 k3/\a2X H L ss/\d.Rs/\kk.length=4/\(∀x∈kk,0<=x/\x<sz)/\Iv kk n A/\1<=n/\n<=26/\Op d kk n A ss A'/\Hds d es A ∧
 (a5k d A'=none->∀t us H',(∀b o,b≠a->H b=some o->H' b=some o)->a7w H' t none->a5v CP H' a sz (T7 d k0 k1 k2 k3) us->Hds d us A'->Q (.ref t) H') ∧
 ∀b,a5k d A'=some b->∀t H',a0k H H'->a7w H' t (some b)->Q (.ref t) H'
theorem b6a {d:D8}{us:List En}{A:As}(h:us.map kc=cA d A){e:En}(he:e∈us):∃g,(e.k,g)∈A/\e.pc=pcG d g:=by
 have:kc e∈cA d A:=by rw[<-h];exact mM0.mpr ⟨e,he,rfl⟩
 obtain⟨x,hx,e2⟩:=mM0.mp this;have e3:x.1=e.k:=congrArg (·.1) e2;have e4:pcG d x.2=e.pc:=congrArg (·.2) e2;exact⟨x.2,by rw[<-e3];exact hx,e4.symm⟩
theorem a9l {H:Hp}{n:Nat}{ns:List Int}(j:Nat)(y y':V)(c1:(ns.map V.int)[j]? =some y)(c2:(ns.map V.int)[j]? =some y'):Dq H n y y':=by
 have c3:y=y':=Option.some.inj (c1.symm.trans c2);subst c3;rw[gM0] at c1;cases hz:ns[j]? with
 |none=>rw[hz] at c1;cases c1
 |some z=>rw[hz] at c1;cases c1;exact .int
theorem b5e (us:List En):(kvT us).map (·.1)=((us.map kc).map (·.1)).map Sum.inl:=by
 unfold kvT;rw[mC0,mC0,mC0]
 rfl
def b3n (d:D8):Sp:=fun vs H Q _=>∃(fo th:Addr) (sz:Int) (k0 k1 k2 k3:Addr) (us:List En) (kk:List Int) (n:Nat) (A:As),
 vs=[.ref fo,.ref th]/\a7j H fo sz (T7 d k0 k1 k2 k3)/\a7v H d k0 k1 k2 k3/\a1F H th us/\us.map kc=cA d A/\d.Rs/\kk.length=4/\Iv kk n A/\n<=100/\∀t H',a0k H H'->a7w H' t (a5k d A)->Q (.ref t) H'
section
variable {P:Program}{w:World}{K:Fg0}{mg:Str->Option Value}{base:Heap}{CP CM:Addr}
theorem a7Z {f fW:Addr}{fd fdW:FuncData}{d:D8}(F:Fun K "_law_written" "_law_written" (top 47) f fd)(B:Bl mg)(R:Xf K mg CM)(L:ClP K CP)(mW:a6U K CP "write" fW)(gW:a0A P w K mg base (CX1 P w) 6 fW fdW ["self","steps"] (a4Y CP CM))(bW:a1g K fdW ["self","steps"] []) :
  a0A P w K mg base CX0 7 f fd ["_law_plain","_law_steps_here"] (a5I CP d):=by
 have sc:a0o ["_law_plain","_law_steps_here","_law_found","_law_keys","e"] ["_law_plain","_law_steps_here"] (a0g (top 47)):=.k (by decide +kernel);refine F.ok sc (fun vs H Q E h=>?_) (fun cdv A_ outer s H vs Q E hr h=>?_)
 ·obtain⟨a,Lq,sz,k0,k1,k2,k3,es,ss,kk,n,A,A',rfl,_⟩:=h
  rfl
 ·obtain⟨a,Lq,sz,k0,k1,k2,k3,es,ss,kk,n,A,A',rfl,hPl,hky,⟨xs,x1,x2,x3⟩,rs,k5,hkk,iv,n1,n26,op,hds,q1,q2⟩:=h
  have hu0:(A_.deeper (envOfC "_law_written" (a0g (top 47)) s.heap.objs.size f cdv)).units+0+1<cLine:=by have:=hr.un;omega
  refine⟨_,a0b (a0n (i:=2) sc.nd rfl (Or.inl rfl) a4o)
   (a0b (a7q (i:=4) rfl rfl sc.nd rfl rfl (by rfl) R.mM R.xM
    (fun D pn XE LL=>a0h (a0n (i:=3) sc.nd rfl (Or.inl rfl) (b1J (pv 0) L.cl mW gW hr bW .nil LL (a0a (pv 1) a0e))))
    (fun x C=>a0h (a0n (i:=2) sc.nd rfl (Or.inl rfl) (a0H (a0a a0x (a0a (a2P (pv 4) rfl) (a0a (a2P (pv 4) rfl) (a0a (a2P (pv 4) rfl) a0e)))))))
    (a0b (a0n (i:=2) sc.nd rfl (Or.inl rfl) (a0H (a0a a0x (a0a (a1f a0e) a0e))))
     (a0h (a0P (a0q a7h (pv 3) (a0D (a3f rfl) (by rfl) B.sorted boot_sorted (a0a (a0Z (a8g rfl) (by rfl) B.set boot_set (a0a (a1K (osc:=a0g (top 47)) (N0:=["_law_plain","_law_steps_here","_law_found","_law_keys","e"]) (xs:=["_law_step"]) (fr:=[]) ⟨rfl,by decide +kernel,by decide +kernel,by decide +kernel,by decide,by decide +kernel⟩ rfl rfl rfl (a0S (pv 1))
       (fun s H fp=>a0m (i:=0) (show(["_law_step"]:List Str).Nodup by decide +kernel) rfl (Or.inl rfl)) (fun s H fp=>a1I) (fun s H fp=>a0t (r:=b7b K) a0N (pv 0) a0f (fun _ _=>rfl))) a0e)) a0e)) (a0G _)) a0u a0s))))
   (a0h (a0F (pv 2)))),?_⟩
  obtain⟨dx0,fo,td,ha,hfm,hth⟩:=id hPl.ex;have ok:=rs.ok;have hC:=b7x ok.T hds;have S0:Sim d [] (fA d A) (fA d A):=⟨fun n h=>(nomatch h),fun k _=>rfl⟩;obtain⟨hsim,hcan⟩:=b0l ok.T hC S0 op.runs;have esl:es.length<=4:=by
   have:=a9I hth.nd (r:=kk) fun x hx=>by
    obtain⟨e,he,rfl⟩:=mM0.mp hx;obtain⟨g,hg,_⟩:=hds.pc hth.nd he;exact iv.k _ hg
   rw[lM0] at this
   omega
  have opl:=op.len;refine⟨_,rfl,a,dx0,_,rfl,ha,a2J (by decide +kernel) (by decide +kernel),_,rfl,a,Lq,sz,T7 d k0 k1 k2 k3,ky7 d,es,xs,ss,n,rfl,hPl,hky.ky ok,x1,(fun j x s e1 e2=>b4I ok hkk hky (x3 j x s e1 e2) (op.ok s (gI0 e2))),hcan,(fun e he z=>?_),(by omega),(by omega),x2.symm,b7w ok.T hsim,fun ms hms c hc=>?_⟩
  ·obtain⟨g,hg,e1⟩:=hds.pc hth.nd he
   rw[e1];exact b5S d g n1 (iv.le _ hg) z
  have hnew:=b4R hds hsim hms;change ∀k,fnd (ms.filterMap (bhd (es.map kc) (a7t (nms d) (es.map kc) ss))) k=(fnd A' k).map (pcG d) at hnew;have ndc:(c.map (·.1)).Nodup:=by rw[hc];exact hms.nd.sublist (a3t _ _ ms)
  have hnew':∀k,fnd c k=(fnd A' k).map (pcG d):=by rw[hc];exact hnew
  have hsrt:srt c=srt (cA d A'):=a9Z ndc (by rw[b8q];exact op.iv.nd) fun k=>(hnew' k).trans (a9a (pcG d) A' k).symm;refine⟨fun T=>?_,?_,fun zs hz=>?_⟩
  ·rw[hsrt];exact Nat.le_trans (a6v ok k5 (by omega) op.iv T) (by decide)
  ·rw[hsrt];exact b6W ok op.iv.nd
  obtain rfl:=b3M rs hz;rw[b2n hsrt,a8W ok op.iv.nd];refine⟨fun hno l us H1 hk1 hl0 hl1 hPl1 hus=>?_,fun b hb dx H8 hd s8=>?_⟩
  ·refine⟨(by show 0<=sizeLine;decide),fun e0 he0=>?_⟩
   generalize hX:upd H1 e0 _=H2;obtain⟨T2,e2⟩:=gz hX he0;refine⟨(by show 2<=sizeLine;decide),fun t ht=>?_⟩;generalize hX:upd H2 t _=H3;obtain⟨T3,e3⟩:=gz hX ht;have S13:=T2.trans T3;have na:∀{b:Addr} {o:HO},H b=some o->NoI o->b≠a:=fun {b o} e no z=>by
    rw[z,ha] at e;cases e;exact no _ _ _ rfl
   have L3:H3 Lq=some (.lst (xs.map V.ref)):=S13 _ _ (hk1 _ _ (na x1 (fun _ _ _ e=>nomatch e)) x1);have st3:∀(j:Nat) (x:Addr) (s:Stp),xs[j]? =some x->ss[j]? =some s->∃vs,H3 x=some (.tup vs)/\atI vs 2=some (.int s.k):=fun j x s c1 c2=>by
    rcases x3 j x s c1 c2 with ⟨_,h⟩ |⟨_,r,h,_⟩
    ·exact⟨_,S13 _ _ (hk1 _ _ (na h (fun _ _ _ e=>nomatch e)) h),a0M (j:=2) rfl⟩
    ·exact⟨_,S13 _ _ (hk1 _ _ (na h (fun _ _ _ e=>nomatch e)) h),a0M (j:=2) rfl⟩
   have sl:=x2;refine⟨_,rfl,_,rfl,Lq,rfl,⟨_,SqL.of L3⟩,fun D hD=>?_⟩;refine a1A xs.length (fun i ys σ' Hc=>(∃t,σ'=[t])/\a0k H3 Hc/\ys=((ss.take i).map (·.k)).map V.int) (by rw[sizeLine_eq];omega) ⟨⟨none,rfl⟩,a0k.upd hD,rfl⟩ a0c ?_ ?_
   ·rintro i σ' Hc ys hi ⟨⟨t',rfl⟩,sm,rfl⟩ hyl hD'
    have hi2:i<ss.length:=by omega
    refine⟨⟨_,V.ref xs[i],SqL.of (sm _ _ L3),by rw[gM0,gE0 hi];rfl⟩,?_⟩;rintro x H' ⟨rfl,hx'⟩;have ex:=hx' _ (SqL.of (sm _ _ L3));rw[gM0,gE0 hi] at ex;cases ex;obtain⟨vs,v1,v2⟩:=st3 i xs[i] ss[i] (gE0 hi) (gE0 hi2);refine⟨_,rfl,xs[i],_,2,_,rfl,rfl,SqT.of (sm _ _ v1),v2,hD',⟨_,rfl⟩,sm.put hD,?_⟩;rw[tS0,gE0 hi2,mA0,mA0]
    rfl
   ·rintro σ' Hc ys ⟨_,sm,rfl⟩ hDn hyl
    rw[List.take_of_length_le (by omega)] at hDn;refine⟨⟨_,SqL.of (sm _ _ L3),by rw[lM0];exact nR0 _⟩,D,ss.map (·.k),rfl,SqL.of hDn,(by rw[lM0];omega),fun p hp=>?_⟩;have T4:=a0k.upd (o:=.ext (a1B P w p (ddI (ss.map (·.k))))) hp;have e4:(upd Hc p (.ext (a1B P w p (ddI (ss.map (·.k)))))) p=some (.ext (a1B P w p (ddI (ss.map (·.k))))):=a0c;have ln:(ddI (ss.map (·.k))).length<64:=by
     have:=a3G (ss.map (·.k)) []
     rw[lM0,List.length_nil] at this
     show((ss.map (·.k)).foldl a2I []).length<64
     omega
    refine⟨p,_,rfl,e4,ln,fun l2 ms2 hl2 hp2 hs2=>?_⟩;have T5:=a0k.upd (o:=.lst (ms2.map V.int)) hl2;rw[<-b5Z (nms d) (es.map kc) ss] at hp2;obtain rfl:=a1y hp2 hs2;have S15:=S13.trans (sm.trans (T4.trans T5));refine⟨0,l,l2,_,_,rfl,rfl,SqL.of (S15 _ _ hl1),SqL.of a0c,rfl,(fun j y y' c1 c2=>?_),hu0,_,rfl,a1R ?_⟩
    ·have c3:y=y':=Option.some.inj (c1.symm.trans c2)
     subst c3;change ((((srt (a7t (nms d) (es.map kc) ss)).map (·.1)).map V.int)[j]? =some y) at c1;rw[gM0] at c1;cases hz:((srt (a7t (nms d) (es.map kc) ss)).map (·.1))[j]? with
     |none=>rw[hz] at c1;cases c1
     |some z=>rw[hz] at c1;cases c1;exact .int
    ·refine⟨_,rfl,?_⟩
     have S35:=sm.trans (T4.trans T5);refine q1 hno t us _ (fun b o nb e=>S15 _ _ (hk1 b o nb e)) ⟨e0,S35 _ _ e3,(T3.trans S35) _ _ e2⟩ (hPl1.same S15) fun k=>?_;rw[hus];exact hnew' k
  ·refine⟨CM,rfl,R.u,fun x hx=>?_⟩
   generalize hX:upd H8 x _=H9;obtain⟨T9,hx9⟩:=gz hX hx;have S9:=s8.trans T9;have hd9:=T9 _ _ hd;refine⟨_,rfl,x,CM,dx,_,_,rfl,hx9,hd9,R.xM,R.m1,b5r,_,rfl,x,CM,dx,_,_,rfl,hx9,hd9,R.xM,R.m2,b6F,_,rfl,x,CM,dx,_,_,rfl,hx9,hd9,R.xM,R.m3,b6k,(by show 4<=sizeLine;decide),fun t ht=>⟨_,rfl,?_⟩⟩;exact q2 b hb t _ (S9.trans (a0k.upd ht)) a0c
theorem b4E {f fJ fH:Addr}{fd fdJ fdH:FuncData}{d:D8}(F:Fun K "_law_made" "_law_made" (top 48) f fd)(B:Bl mg)(R:Xf K mg CM)(L:ClP K CP)(MP:Mk K CP fJ)(mP:mg "Plain"=some (.ref CP))(GJ:a0A P w K mg base (CX1 P w) 5 fJ fdJ ["self","form","things"] (a3C CP CM))(bJ:a1g K fdJ ["self","form","things"] [])
  (mH:a6U K CP "held" fH) (gH:a0A P w K mg base CX0 1 fH fdH ["self"] (a7n CP)) (bH:a1g K fdH ["self"] []) :
  a0A P w K mg base CX0 7 f fd ["_law_form_here","_law_things_here"] (b3n d):=by
 have sc:a0o ["_law_form_here","_law_things_here","_law_found","_law_plain","e"] ["_law_form_here","_law_things_here"] (a0g (top 48)):=.k (by decide +kernel);refine F.ok sc (fun vs H Q E h=>?_) (fun cdv A_ outer s H vs Q E hr h=>?_)
 ·obtain⟨fo,th,sz,k0,k1,k2,k3,us,kk,n,A,rfl,_⟩:=h
  rfl
 ·obtain⟨fo,th,sz,k0,k1,k2,k3,us,kk,n,A,rfl,hfm,hky,hth,hus,rs,k5,iv,n100,q⟩:=h
  have hr1:a1u 1 _:=hr.mono (by decide);have hu0:(A_.deeper (envOfC "_law_made" (a0g (top 48)) s.heap.objs.size f cdv)).units+0+1<cLine:=by have:=hr.un;omega
  refine⟨_,a0b (a0n (i:=2) sc.nd rfl (Or.inl rfl) a4o)
   (a0b (a7q (i:=4) rfl rfl sc.nd rfl rfl (by rfl) R.mM R.xM
    (fun D pn XE LL=>a0h (a0n (i:=3) sc.nd rfl (Or.inl rfl) (b2y MP GJ hr (by rfl) mP bJ .nil LL (a0a (pv 0) (a0a (pv 1) a0e)))))
    (fun x C=>a0h (a0n (i:=2) sc.nd rfl (Or.inl rfl) (a0H (a0a a0x (a0a (a2P (pv 4) rfl) (a0a (a2P (pv 4) rfl) (a0a (a2P (pv 4) rfl) a0e)))))))
    (a0b (a0n (i:=2) sc.nd rfl (Or.inl rfl) (a0H (a0a a0x (a0a (a1f a0e) a0e))))
     (a0h (a0P (a0q a7h (a7g (pv 3) L.cl mH gH hr1 bH .nil a0E) (a0D (a0J rfl) (by rfl) B.sorted boot_sorted (a0a (pv 1) a0e)) (a0G _)) a0u a0s))))
   (a0h (a0F (pv 2)))),?_⟩
  have ok:=rs.ok;have htb:∀(ws:List En),ws.map kc=cA d A->∀e∈ws,∀T∈(T7 d k0 k1 k2 k3).map (·.name),T∈e.pc.map (·.1):=fun ws hw e he T hT=>by
   obtain⟨g,_,e1⟩:=b6a hw he;rw[e1];exact hT
  refine⟨_,rfl,_,rfl,fun x dx hx hdx ndx=>?_⟩;have S1:=(a0k.upd (o:=.own x) hdx);have hx1:(upd H dx (.own x)) x=none:=(a0d ndx.symm).trans hx;have S2:=S1.trans (a0k.upd (o:=.ins CP dx []) hx1);have x2:(upd (upd H dx (.own x)) x (.ins CP dx [])) x=some (.ins CP dx []):=a0c;generalize upd (upd H dx (.own x)) x (.ins CP dx [])=H2 at *;refine⟨x,dx,fo,.ref th,sz,T7 d k0 k1 k2 k3,ky7 d,us,rfl,x2,hfm.same S2,(hky.ky ok).same S2,.inr ⟨th,rfl,hth.same S2⟩,htb us hus,(fun T=>?_),?_,fun zs hz=>?_⟩
  ·rw[hus];exact Nat.le_trans (a6v ok k5 n100 iv T) (by decide)
  ·rw[hus];exact b6W ok iv.nd
  obtain rfl:=b3M rs hz;rw[hus,a8W ok iv.nd];refine⟨fun hno td ws H3 hx3 hk3 hws hth3=>?_,fun b hb dx8 H8 hd s8=>?_⟩
  ·refine⟨rfl,?_⟩
   have mv:∀b o,H2 b=some o->NoI o->H3 b=some o:=fun b o e no=>hk3 b o (fun z=>by
    rw[z,x2] at e;cases e;exact no _ _ _ rfl) e
   have hPl:a5v CP H3 x sz (T7 d k0 k1 k2 k3) ws:=⟨⟨dx,fo,td,hx3,(hfm.same S2).mv mv,hth3.same a0z⟩,htb ws hws⟩;have hth':a1F H3 th us:=(hth.same S2).mv mv;have S03:a0k H H3:=fun b o e=>by
    have nb:b≠x:=a0j e hx;exact hk3 b o nb (S2 _ _ e)
   refine⟨(by show 0<=sizeLine;decide),fun e0 he0=>?_⟩;generalize hX:upd H3 e0 _=H4;obtain⟨T4,e4⟩:=gz hX he0;refine⟨(by show 2<=sizeLine;decide),fun t ht=>?_⟩;generalize hX:upd H4 t _=H5;obtain⟨T5,e5⟩:=gz hX ht;have S35:=T4.trans T5;refine⟨_,rfl,x,dx,_,rfl,S35 _ _ hx3,a2J (by decide +kernel) (by decide +kernel),x,sz,_,ws,rfl,hPl.same S35,fun l H6 s6 hl6=>?_⟩;have S36:=S35.trans s6;refine⟨_,rfl,th,_,(us.map kc).map (·.1),rfl,.inl (S36 _ _ hth'.at_),b5e us,(by rw[lM0,lM0];have:=hth'.le;omega),fun l2 ms hl2 hp2 hs2=>?_⟩;obtain rfl:=a1y hp2 hs2;generalize hX:upd H6 l2 _=H7;obtain⟨T7,e7⟩:=gz hX hl2;rw[hws,<-hus] at hl6;refine⟨0,l,l2,_,_,rfl,rfl,SqL.of (T7 _ _ (a0z _ _ hl6)),SqL.of e7,rfl,a9l,hu0,_,rfl,a1R ?_⟩;refine⟨_,rfl,?_⟩;have S57:=s6.trans T7;refine q t _ (S03.trans (S36.trans T7)) ?_;rw[hno];exact⟨e0,S57 _ _ e5,(T5.trans S57) _ _ e4⟩
  ·refine⟨CM,rfl,R.u,fun y hy=>?_⟩
   generalize hX:upd H8 y _=H9;obtain⟨T9,hx9⟩:=gz hX hy;have S9:=S2.trans (s8.trans T9);have hd9:=T9 _ _ hd;refine⟨_,rfl,y,CM,dx8,_,_,rfl,hx9,hd9,R.xM,R.m1,b5r,_,rfl,y,CM,dx8,_,_,rfl,hx9,hd9,R.xM,R.m2,b6F,_,rfl,y,CM,dx8,_,_,rfl,hx9,hd9,R.xM,R.m3,b6k,(by show 4<=sizeLine;decide),fun t ht=>⟨_,rfl,?_⟩⟩;refine q t _ (S9.trans (a0k.upd ht)) ?_;rw[hb];exact a0c
end
end My
namespace L2
open PySem PySem.Spec PyProof.Rows
theorem a2q.same {H H':Hp}{a:Addr}{z:Str}{v:V}(g:a2q H a (.str z) (some v))(s:a0k H H'):a2q H' a (.str z) (some v):=by
 rcases g with ⟨kvs,k,e1,e2,e3⟩ |⟨_,_,b,_,e2,_⟩
 ·rcases e1 with e1 |⟨ob,e1⟩
  ·exact .inl ⟨kvs,k,.inl (s _ _ e1),e2,e3⟩
  ·exact .inl ⟨kvs,k,.inr ⟨ob,s _ _ e1⟩,e2,e3⟩
 ·cases e2
end L2
namespace My
open PySem L2 PyProof.Rows
seal L2.PE L2.PT L2.PW L2.PS L2.PSs L2.PA L2.PI L2.PG L2.PGs L2.OpR L2.UnR L2.a1r L2.IxR L2.SlR L2.MtR L2.PIf L2.PO L2.MtM L2.PC
def b6Z (H:Hp)(l:Addr)(cs:List (Int×Nat×Rw)):Prop:=∃xs:List Addr,H l=some (.lst (xs.map V.ref))/\xs.length=cs.length/\∀(j:Nat) (x:Addr) (c:Int×Nat×Rw),xs[j]? =some x->cs[j]? =some c->∃r,H x=some (.tup [.int c.1,.int (c.2.1:Nat),.ref r])/\H r=some (.dK (rK c.2.2))
theorem b6Z.same {H H':Hp}{l:Addr}{cs:List (Int×Nat×Rw)}(h:b6Z H l cs)(s:a0k H H'):b6Z H' l cs:=by
 obtain⟨xs,h1,h2,h3⟩:=h;refine⟨xs,s _ _ h1,h2,fun j x e a b=>?_⟩;obtain⟨r,g1,g2⟩:=h3 j x e a b;exact⟨r,s _ _ g1,s _ _ g2⟩
def a9m (CP:Addr):Sp:=fun vs H Q _=>∃(a:Addr) (sz:Int) (T:Str) (Ts:List Tb) (es:List En),vs=[.ref a,.str T]/\a5v CP H a sz Ts es/\T∈Ts.map (·.name)/\(a1E T (srt (es.map kc))).length<=100000/\∀l H',a0k H H'->b6Z (cut H H') l (a1E T (srt (es.map kc)))->Q (.ref l) H'
theorem b6b {HO H:Hp}{cs:List (Int×Nat×Rw)}{xs ys rs:List Addr}(ok:∀c∈cs,a6l c.2.2)(hx:xs.length=cs.length)(hy:ys.length=cs.length)(hr:rs.length=cs.length)
  (h1:∀(j:Nat) (x:Addr) (c:Int×Nat×Rw),xs[j]? =some x->cs[j]? =some c->∃r,H x=some (.tup [.int c.1,.int (c.2.1:Nat),.ref r])/\H r=some (.dK (rK c.2.2)))
  (h2:∀(j:Nat) (x r:Addr) (c:Int×Nat×Rw),ys[j]? =some x->rs[j]? =some r->cs[j]? =some c->H x=some (.tup [.int c.1,.int (c.2.1:Nat),.ref r])/\HO r=some (.dK (rK c.2.2))) (s:a0k HO H)
  (i:Nat) (x y:V) (e1:(xs.map V.ref)[i]? =some x) (e2:(ys.map V.ref)[i]? =some y):Dq H 2 x y:=by
 have hi:i<cs.length:=by
  have:=(gS0.mp e1).1
  rw[lM0] at this
  omega
 rw[gM0,gE0 (show i<xs.length by omega)] at e1;rw[gM0,gE0 (show i<ys.length by omega)] at e2;cases e1;cases e2;obtain⟨r,a1,a2⟩:=h1 i _ cs[i] (gE0 (show i<xs.length by omega)) (gE0 hi);obtain⟨b1,b2⟩:=h2 i _ _ cs[i] (gE0 (show i<ys.length by omega)) (gE0 (show i<rs.length by omega)) (gE0 hi);have ok':=ok _ (gQ0 hi);refine .tup a1 b1 rfl fun j x y c1 c2=>?_
 match j,c1,c2 with
 |0,c1,c2=>cases c1;cases c2;exact .int
 |1,c1,c2=>cases c1;cases c2;exact .int
 |2,c1,c2=>cases c1;cases c2;exact(b2J ok' a2).dq (b2J ok' (s _ _ b2))
theorem b0M {T:Str}{es:List (Int×Pc)}{e:Int×Pc}:a1E T (es++[e])=a1E T es++(tab e.2 T).mapIdx fun i row=>(e.1,i,row):=by
 unfold a1E;rw[List.flatMap_append,List.flatMap_singleton]
theorem b4l {T:Str}{es:List (Int×Pc)}(h:∀e∈es,∀row∈tab e.2 T,a6l row):∀c∈a1E T es,a6l c.2.2:=fun c hc=>by
 unfold a1E at hc;obtain⟨e,he,hc⟩:=List.mem_flatMap.mp hc;obtain⟨i,hi⟩:=List.getElem?_of_mem hc;rw[gX0] at hi;cases hr:(tab e.2 T)[i]? with
 |none=>rw[hr] at hi;cases hi
 |some row=>
  rw[hr] at hi;cases hi;exact h e he row (gI0 hr)
def a8I (CP:Addr):Sp:=fun vs H Q _=>∃(a th ln:Addr) (sz:Int) (Ts:List Tb) (es us:List En) (names:List Str),
 vs=[.ref a,.ref th,.ref ln]/\a5v CP H a sz Ts es/\a1F H th us/\(∀k,fnd (es.map kc) k=fnd (us.map kc) k)/\us.length<=5/\H ln=some (.lst (names.map V.str))/\(∀z∈names,z∈Ts.map (·.name)/\∀u∈us,z∈u.pc.map (·.1))/\(∀T,(a1E T (srt (us.map kc))).length<=1000)/\∀H',a0k H H'->Q (.bl true) H'
section
variable {P:Program}{w:World}{K:Fg0}{mg:Str->Option Value}{base:Heap}{CP CM:Addr}
theorem b3Q {f fT fR:Addr}{fd fdT fdR:FuncData}(F:Fun K "rows" "Plain.rows" (a0p (top 26) 5) f fd)(B:Bl mg)(L:ClP K CP)(DT:Df K mg "tables_of" (top 18) fT fdT)(DR:Df K mg "rows_in" (top 37) fR fdR):a0A P w K mg base CX0 2 f fd ["self","table"] (a9m CP):=by
 have sc:a0o ["self","table"] ["self","table"] (a0g (a0p (top 26) 5)):=.k (by decide +kernel);have GT:a0A P w K mg base CX0 1 fT fdT ["form"] a3M:=a2M DT.fn;have bT:=DT.fn.b1 "form" (by intros;rfl);have GR:a0A P w K mg base CX0 1 fR fdR ["things","table"] a5g:=a6g DR.fn B;have bR:=DR.fn.b2 "things" "table" (by intros;rfl);refine F.ok sc (fun vs H Q E h=>?_) (fun cdv A outer s H vs Q E hr h=>?_)
 ·obtain⟨a,sz,T,Ts,es,rfl,_⟩:=h
  rfl
 ·obtain⟨a,sz,T,Ts,es,rfl,⟨⟨dx,fo,td,ha,hf,hts⟩,htb⟩,hT,hbig,q⟩:=h
  have nd3:(["key","place","row"]:List Str).Nodup:=by decide +kernel
  refine⟨_,a0b (a0P (a0q a2g (pv 1) (a0l GT hr (by rfl) DT.mg DT.fn.kp bT .nil a0E (a0a (a2h (pv 0) rfl) a0e)) (by with_unfolding_all rfl)) a0u a0s)
   (a0h (a0F (a1K (osc:=a0g (a0p (top 26) 5)) (N0:=["self","table"]) (xs:=["key","place","row"]) (fr:=[]) ⟨rfl,by decide +kernel,by decide +kernel,by decide +kernel,by decide,by decide +kernel⟩ rfl rfl rfl (a0S (a0l GR hr (by rfl) DR.mg DR.fn.kp bR .nil a0E (a0a (a2h (pv 0) rfl) (a0a (pv 1) a0e))))
    (fun s H fp=>a8O (K:=K) (n:=3) rfl rfl (a0y (a0m (i:=0) nd3 rfl (Or.inl rfl)) (a0y (a0m (i:=1) nd3 rfl (Or.inl rfl)) (a0y (a0m (i:=2) nd3 rfl (Or.inl rfl)) a1D)))) (fun s H fp=>a1I)
    (fun s H fp=>a0H (a0a (pv 0) (a0a (pv 1) (a0a (a0Z a1C (by rfl) B.dict boot_dict (a0a (pv 2) a0e)) a0e))))))),?_⟩
  refine⟨_,rfl,_,rfl,a,CP,dx,_,_,rfl,ha,L.cl,L.nF,a2i,fo,sz,_,rfl,hf.at_,hf.le,fun p H1 hp s1 p1=>?_⟩;refine⟨p,_,rfl,.inl (SqL.of p1),rfl,a3K _,_,rfl,?_⟩;refine a2H (by show(!inV _ _)=false;rw[a3L,dT0 hT];rfl) ?_;refine⟨_,rfl,a,CP,dx,_,_,rfl,s1 _ _ ha,L.cl,L.nT,a1p,_,rfl,td,T,es,rfl,hts.same s1,(fun e he=>htb e he T hT),hbig,fun l H2 s2 hR=>?_⟩;have S2:=s1.trans s2;generalize a1E T (srt (es.map kc))=cs at *;obtain⟨xs,rs,r1,r2,r2',r3⟩:=hR;have l2:=a0z _ _ r1;refine⟨l,rfl,⟨_,SqL.of l2⟩,fun D hD=>?_⟩;have hD0:H D=none:=a0v S2 hD;refine a1A cs.length (fun i ys σ' Hc=>(∃t0 t1 t2,σ'=[t0,t1,t2])/\a0k H2 Hc/\∃ps:List Addr,ys=ps.map V.ref/\∀(j:Nat) (p:Addr) (u:Int×Nat×Rw),ps[j]? =some p->cs[j]? =some u->H p=none/\p≠D/\∃r,H r=none/\r≠D/\Hc p=some (.tup [.int u.1,.int (u.2.1:Nat),.ref r])/\Hc r=some (.dK (rK u.2.2))) (by rw[sizeLine_eq];omega) ⟨⟨none,none,none,rfl⟩,a0k.upd hD,[],rfl,fun j p u h=>nomatch h⟩ a0c ?_ ?_
  ·rintro i σ' Hc ys hi ⟨⟨t0,t1,t2,rfl⟩,sm,ps,rfl,hps⟩ hyl hD'
   rw[lM0] at hyl;have hix:i<xs.length:=by omega
   have hir:i<rs.length:=by omega
   refine⟨⟨_,V.ref xs[i],SqL.of (sm _ _ l2),by rw[gM0,gE0 hix];rfl⟩,?_⟩;rintro x H' ⟨rfl,hx'⟩;have ex:=hx' _ (SqL.of (sm _ _ l2));rw[gM0,gE0 hix] at ex;cases ex;obtain⟨hx3,hr3⟩:=r3 i xs[i] rs[i] cs[i] (gE0 hix) (gE0 hir) (gE0 hi);refine⟨xs[i],_,rfl,SqT.of (sm _ _ (a0z _ _ hx3)),rfl,_,_,rfl,_,_,rfl,_,_,rfl,rfl,?_⟩;refine⟨_,rfl,_,rfl,_,rfl,rs[i],_,rfl,.inl ((s2.trans sm) _ _ hr3),fun r hr'=>⟨(by show 3<=sizeLine;decide),fun p' hp'=>?_⟩⟩;generalize hX:upd H' r _=H5 at hp' ⊢;obtain⟨T1,g1⟩:=gz hX hr';generalize hX:upd H5 p' _=H6;obtain⟨T2,g2⟩:=gz hX hp';have T12:=T1.trans T2;have rD:r≠D:=fun e=>by rw[e,hD'] at hr';cases hr'
   have pD:p'≠D:=fun e=>by rw[e,T1 _ _ hD'] at hp';cases hp'
   refine⟨T12 _ _ hD',⟨_,_,_,rfl⟩,(sm.trans T12).put hD,ps++[p'],by rw[mA0];rfl,fun j p u h1 h2=>?_⟩
   by_cases hj:j<ps.length
   ·rw[gL0 hj] at h1
    obtain⟨e1,e2,r0,e3,e4,e5,e6⟩:=hps j p u h1 h2;exact⟨e1,e2,r0,e3,e4,by rw[a0d e2];exact T12 _ _ e5,by rw[a0d e4];exact T12 _ _ e6⟩
   ·have hj':j=ps.length:=by
     have:=(gS0.mp h1).1
     rw[lA0] at this;simp at this
     omega
    subst hj';rw[gR0 (nR0 _),Nat.sub_self] at h1;cases h1;rw[hyl,gE0 hi] at h2;cases h2;exact⟨a0v ((S2.trans sm).trans T1) hp',pD,r,a0v (S2.trans sm) hr',rD,by rw[a0d pD];exact g2,by rw[a0d rD];exact T2 _ _ g1⟩
  ·rintro σ' Hc ys ⟨_,sm,ps,rfl,hps⟩ hDn hyl
   rw[lM0] at hyl;refine⟨⟨_,SqL.of (sm _ _ l2),by rw[lM0];omega⟩,q D Hc (S2.trans sm) ⟨ps,a0T hD0 hDn,hyl,fun j p e h1 h2=>?_⟩⟩;obtain⟨e1,e2,r0,e3,e4,e5,e6⟩:=hps j p e h1 h2;exact⟨r0,a0T e1 e5,a0T e3 e6⟩
theorem b1p {f fH fR:Addr}{fd fdH fdR:FuncData}(F:Fun K "_law_tells" "_law_tells" (top 49) f fd)(B:Bl mg)(L:ClP K CP)
  (mH:a6U K CP "held" fH) (gH:a0A P w K mg base CX0 1 fH fdH ["self"] (a7n CP)) (bH:a1g K fdH ["self"] []) (mR:a6U K CP "rows" fR) (gR:a0A P w K mg base CX0 2 fR fdR ["self","table"] (a9m CP)) (bR:a1g K fdR ["self","table"] []) :
  a0A P w K mg base CX0 3 f fd ["_law_plain","_law_things_here","_law_names_here"] (a8I CP):=by
 have sc:a0o ["_law_plain","_law_things_here","_law_names_here","_law_name","_law_due_here","_law_key","_law_place","_law_row"] ["_law_plain","_law_things_here","_law_names_here"] (a0g (top 49)):=.k (by decide +kernel);refine F.ok sc (fun vs H Q E h=>?_) (fun cdv A_ outer s H vs Q E hr h=>?_)
 ·obtain⟨a,th,ln,sz,Ts,es,us,names,rfl,_⟩:=h
  rfl
 ·obtain⟨a,th,ln,sz,Ts,es,us,names,rfl,hPl,hth,hfn,u5,hln,hnm,hfl,q⟩:=h
  have hu:=a1T hr;have hr1:a1u 1 _:=hr.mono (by decide);have hr2:a1u 2 _:=hr.mono (by decide);have hu0:(A_.deeper (envOfC "_law_tells" (a0g (top 49)) s.heap.objs.size f cdv)).units+0+1<cLine:=by have:=hr.un;omega
  have hu3:(A_.deeper (envOfC "_law_tells" (a0g (top 49)) s.heap.objs.size f cdv)).units+2+1<cLine:=by have:=hr.un;omega
  refine⟨_,a0b (a0P (a0q a7h (a7g (pv 0) L.cl mH gH hr1 bH .nil a0E) (a0D (a0J rfl) (by rfl) B.sorted boot_sorted (a0a (pv 1) a0e)) (a0G _)) a0u a0s)
   (a0b (a0X PassesOwn.never rfl (a0S (pv 2)) (a0m (i:=3) sc.nd rfl (Or.inl rfl))
    (a0b (a0n (i:=4) sc.nd rfl (Or.inl rfl) (a1f a0e))
    (a0b (a0X PassesOwn.never rfl (a0S (a0D (a0J rfl) (by rfl) B.sorted boot_sorted (a0a (pv 1) a0e))) (a0m (i:=5) sc.nd rfl (Or.inl rfl))
     (a0h (a0X PassesOwn.never rfl (a6V (by rfl) B.enum (a0a (a0L hu (a0L hu (pv 1) (pv 5) (fun _ _=>rfl)) (pv 3) (fun _ _=>rfl)) a0e)) (a2j rfl (a0y (a0m (i:=6) sc.nd rfl (Or.inl rfl)) (a0y (a0m (i:=7) sc.nd rfl (Or.inl rfl)) a1D)))
      (a0h (a0V (a3q PySem.F.plainAttrs_list PySem.F.slot_list_append PySem.F.type_list_append a2l (pv 4) (a0a (a0H (a0a (pv 5) (a0a (pv 6) (a0a (pv 7) a0e)))) a0e)))))))
    (a0h (a0P (a0q a7h (a6P (pv 0) L.cl mR gR hr2 bR .nil a0E (a0a (pv 3) a0e)) (pv 4) (a0G _)) a0u a0s)))))
   (a0h (a0F b0u))),?_⟩
  obtain⟨dx0,fo,td,ha,hfm,hthE⟩:=id hPl.ex;have ndE:((es.map kc).map (·.1)).Nodup:=by rw[mC0];exact hthE.nd
  have ndU:((us.map kc).map (·.1)).Nodup:=by rw[mC0];exact hth.nd
  have hsr:srt (es.map kc)=srt (us.map kc):=a9Z ndE ndU hfn;refine⟨_,rfl,a,dx0,_,rfl,ha,a2J (by decide +kernel) (by decide +kernel),a,sz,Ts,es,rfl,hPl,fun l H1 s1 hl1=>?_⟩;refine⟨_,rfl,th,_,(us.map kc).map (·.1),rfl,.inl (s1 _ _ hth.at_),b5e us,(by rw[lM0,lM0];omega),fun l2 ms hl2 hp2 hs2=>?_⟩;obtain rfl:=a1y hp2 hs2;generalize hX:upd H1 l2 _=H2;obtain⟨T2,e2⟩:=gz hX hl2;rw[hsr] at hl1;refine⟨0,l,l2,_,_,rfl,rfl,SqL.of (T2 _ _ (a0z _ _ hl1)),SqL.of e2,rfl,a9l,hu0,_,rfl,a1R ?_⟩;have S2:=s1.trans T2;have ent:∀e∈srt (us.map kc),∃u∈us,u.k=e.1/\u.pc=e.2:=fun e he=>by
   obtain⟨u,hu',rfl⟩:=mM0.mp ((a0C (us.map kc)).mem_iff.mp he);exact⟨u,hu',rfl,rfl⟩
  have s5:(srt (us.map kc)).length<=5:=by rw[(a0C (us.map kc)).length_eq,lM0];exact u5
  clear hl1 e2 T2 s1;refine⟨_,rfl,ln,rfl,⟨_,SqL.of (S2 _ _ hln)⟩,a0W (K:=K) (a:=ln) (xs:=names.map V.str) (fun i σ H3=>a0k H H3/\∃u3 u4 u5 u6 u7,σ=[some (.ref a),some (.ref th),some (.ref ln),u3,u4,u5,u6,u7]) ⟨S2,_,_,_,_,_,rfl⟩ (fun i σ H3 _ p=>SqL.of (p.1 _ _ hln)) ?_ ?_⟩
  ·rintro i x σ H3 hx ⟨s3,u3,u4,u5',u6,u7,rfl⟩
   have hi:i<names.length:=by have:=(gS0.mp hx).1;rwa [lM0] at this
   rw[gM0,gE0 hi] at hx;cases hx;obtain⟨hT,hTu⟩:=hnm _ (gQ0 hi);generalize names[i]=T at *;refine⟨zL0 _,fun dl hdl=>?_⟩;generalize hX:upd H3 dl _=H4;obtain⟨T4,d4⟩:=gz hX hdl;have hdl0:H dl=none:=a0v s3 hdl;have S4:=s3.trans T4;refine⟨_,rfl,th,_,(us.map kc).map (·.1),rfl,.inl (S4 _ _ hth.at_),b5e us,(by rw[lM0,lM0];omega),fun l3 ms hl3 hp3 hs3=>?_⟩;obtain rfl:=a1y hp3 hs3;generalize hX:upd H4 l3 _=H5;obtain⟨T5,l5⟩:=gz hX hl3;have nld:l3≠dl:=fun z=>by rw[z,d4] at hl3;cases hl3
   have S5:=S4.trans T5;have d5:=T5 _ _ d4;clear d4 T4 T5 S4 hl3 hp3 hs3;refine⟨l3,rfl,⟨_,SqL.of l5⟩,a0W (K:=K) (a:=l3) (xs:=((srt (us.map kc)).map (·.1)).map V.int) (fun n σ H6=>a0k H H6/\H6 l3=some (.lst (((srt (us.map kc)).map (·.1)).map V.int))/\RIn H H6 dl (a1E T ((srt (us.map kc)).take n))/\∃u5 u6 u7,σ=[some (.ref a),some (.ref th),some (.ref ln),some (.str T),some (.ref dl),u5,u6,u7]) ⟨S5,l5,⟨[],[],d5,rfl,rfl,(fun j x r c h=>nomatch h)⟩,_,_,_,rfl⟩ (fun n σ H6 _ p=>SqL.of p.2.1) ?_ ?_⟩
   ·rintro n x σ H6 hx ⟨s6,l6,hR,w5,w6,w7,rfl⟩
    have hn:n<(srt (us.map kc)).length:=by have:=(gS0.mp hx).1;simpa using this
    rw[gM0,gM0,gE0 hn] at hx;cases hx;have e2:(srt (us.map kc)).take (n+1)=(srt (us.map kc)).take n++[(srt (us.map kc))[n]]:=by rw[tS0,gE0 hn];rfl
    have hfn':(a1E T ((srt (us.map kc)).take n)).length<=1000:=by
     have h1:=hfl T;have h2:a1E T (srt (us.map kc))=a1E T ((srt (us.map kc)).take n)++a1E T ((srt (us.map kc)).drop n):=by
      unfold a1E;rw[<-List.flatMap_append,List.take_append_drop]
     rw[h2,lA0] at h1
     omega
    obtain⟨u,hum,uk,up⟩:=ent _ (gQ0 hn);generalize (srt (us.map kc))[n]=en at *;obtain⟨ek,epc⟩:=en;change u.k=ek at uk;change u.pc=epc at up;subst uk;subst up;have vT:a1k (kvT us) (.inl u.k)=some (.ref u.p):=a0U (f:=En.k) (g:=fun t:En=>V.ref t.p) hth.nd hum;obtain⟨lr,g1,⟨rs,b1,b2,b3⟩,g3,g4⟩:=a2S.get (hth.ok u hum) (hth.th u hum) (hTu u hum);refine⟨_,rfl,_,rfl,th,_,rfl,.inl ⟨_,.inl u.k,.inl (s6 _ _ hth.at_),rfl,vT.symm⟩,_,rfl,u.p,_,rfl,g1.same s6,lr,rfl,⟨_,SqL.of (s6 _ _ b1)⟩,?_⟩;refine a4U (K:=K) (a:=lr) (xs:=rs.map V.ref) (fun j σ H7=>a0k H H7/\H7 l3=some (.lst (((srt (us.map kc)).map (·.1)).map V.int))/\RIn H H7 dl (a1E T ((srt (us.map kc)).take n)++((tab u.pc T).take j).mapIdx fun m row=>(u.k,m,row))/\∃u6 u7,σ=[some (.ref a),some (.ref th),some (.ref ln),some (.str T),some (.ref dl),some (.int u.k),u6,u7]) ⟨s6,l6,by rw[List.take_zero];simpa using hR,_,_,rfl⟩ (fun j σ H7 _ p=>SqL.of (p.1 _ _ b1)) ?_ ?_
    ·rintro j x p6 σ H7 hx ⟨s7,l7,⟨xs3,rs3,q1,q2,q3,q4⟩,v6,v7,rfl⟩ hp6
     have hj:j<rs.length:=by have:=(gS0.mp hx).1;rwa [lM0] at this
     have hjt:j<(tab u.pc T).length:=by omega
     rw[gM0,gE0 hj] at hx;cases hx;have T7:=a0k.upd (o:=.tup [.int (j:Nat),.ref rs[j]]) hp6;refine⟨p6,_,rfl,SqT.of a0c,rfl,_,_,rfl,_,_,rfl,rfl,?_⟩;generalize upd H7 p6 (.tup [.int (j:Nat),.ref rs[j]])=H8 at *;have d8:=T7 _ _ q1;refine⟨_,rfl,.inl ⟨rfl,_,SqL.of d8⟩,_,rfl,_,rfl,_,rfl,(by show 3<=sizeLine;decide),fun t ht=>?_⟩;generalize hX:upd H8 t _=H9;obtain⟨T8,t8⟩:=gz hX ht;have T78:=T7.trans T8;have tf:t≠dl:=fun e=>by rw[e,d8] at ht;cases ht
     have hle:(a1E T ((srt (us.map kc)).take n)++((tab u.pc T).take j).mapIdx fun m row=>(u.k,m,row)).length<=2000:=by
      rw[lA0,lI0,lT0]
      omega
     refine⟨dl,_,_,rfl,rfl,T8 _ _ d8,(by rw[lM0,q2,sizeLine_eq];omega),?_⟩;refine⟨(s7.trans T78).put hdl0,(a0d nld).trans (T78 _ _ l7),?_,_,_,rfl⟩;have e3:(tab u.pc T).take (j+1)=(tab u.pc T).take j++[(tab u.pc T)[j]]:=by rw[tS0,gE0 hjt];rfl
     rw[e3,List.mapIdx_concat,<-List.append_assoc];refine RIn.snoc (H:=H7) (x:=t) (r:=rs[j]) (xs:=xs3) (rs:=rs3) (by rw[a0c,mA0];rfl) q2 q3 q4 (fun b ob nb e=>by rw[a0d nb];exact T78 _ _ e) (fun _=>.inr trivial) ⟨_,q1⟩ ?_ (b3 j _ _ (gE0 hj) (gE0 hjt));rw[a0d tf,t8,lT0];rw[Nat.min_eq_left (by omega)]
    ·rintro σ H7 ⟨s7,l7,hR7,v6,v7,rfl⟩
     rw[lM0,b2,List.take_length] at hR7;refine⟨s7,l7,?_,_,_,_,rfl⟩;rw[e2,b0M];exact hR7
   ·rintro σ H6 ⟨s6,l6,hR,w5,w6,w7,rfl⟩
    rw[lM0,lM0,List.take_length] at hR;have f1:=hfl T;refine⟨_,rfl,a,dx0,_,rfl,s6 _ _ ha,a2J (by decide +kernel) (by decide +kernel),_,rfl,a,sz,T,Ts,es,rfl,hPl.same s6,hT,(by rw[hsr];omega),fun rl H7 s7 h7=>?_⟩;rw[hsr] at h7;obtain⟨xs5,x1,x2,x3⟩:=h7.same a0z;obtain⟨xs6,rs6,z1,z2,z3,z4⟩:=hR.same s7;have okf:∀c∈a1E T (srt (us.map kc)),a6l c.2.2:=b4l fun e he=>by
     obtain⟨u,hum,_,up⟩:=ent e he;obtain⟨_,_,_,_,g4⟩:=a2S.get (hth.ok u hum) (hth.th u hum) (hTu u hum);rw[<-up];exact g4
    refine⟨_,rfl,2,rl,dl,_,_,rfl,rfl,SqL.of x1,SqL.of z1,(by rw[lM0,lM0];omega),b6b okf x2 z2 z3 x3 z4 (s6.trans s7),hu3,_,rfl,a1R ?_⟩;exact⟨s6.trans s7,_,_,_,_,_,rfl⟩
  ·rintro σ H3 ⟨s3,u3,u4,u5',u6,u7,rfl⟩
   exact q _ s3
end
def b2Y (d:D8):Sp:=fun vs H Q _=>∃(ln lc kl:Addr) (sz:Int),vs=[.int sz,.ref ln,.ref lc,.ref kl]/\H ln=some (.lst [.str d.T0,.str d.T1])/\NmC H lc kl d/\d.Ok/\∀fo k0 k1 k2 k3 H',a0k H H'->a7j H' fo sz (T7 d k0 k1 k2 k3)->a7v H' d k0 k1 k2 k3->Q (.ref fo) H'
section
variable {P:Program}{w:World}{K:Fg0}{mg:Str->Option Value}{base:Heap}
theorem b4G {f:Addr}{fd:FuncData}{d:D8}(F:Fun K "_law_form" "_law_form" (top 50) f fd):a0A P w K mg base CX0 1 f fd ["_law_size","_law_names_here","_law_columns","_law_kinds"] (b2Y d):=by
 have sc:a0o ["_law_size","_law_names_here","_law_columns","_law_kinds","_law_shapes","_law_head","_law_side"] ["_law_size","_law_names_here","_law_columns","_law_kinds"] (a0g (top 50)):=.k (by decide +kernel);refine F.ok sc (fun vs H Q E h=>?_) (fun cdv A outer s H vs Q E hr h=>?_)
 ·obtain⟨ln,lc,kl,sz,rfl,_⟩:=h
  rfl
 ·obtain⟨ln,lc,kl,sz,rfl,hn,hc,ok,q⟩:=h
  refine⟨_,(a0b (a0n (i:=4) sc.nd rfl (Or.inl rfl) (a1f (a0a (a0H (a0a a0x (a0a (a0H (a0a a0x a0e)) a0e))) (a0a (a0H (a0a a0x (a0a (a0H (a0a a0x a0e)) a0e))) a0e))))
   (a0b (a0n (i:=5) sc.nd rfl (Or.inl rfl) (b0A (a0a (a0H (a0a (a0t a0r (pv 2) a0f (fun _ _=>rfl)) (a0a (a0t a0r (pv 4) (a0t a0r (pv 3) a0f (fun _ _=>rfl)) (fun _ _=>rfl)) a0e))) (a0a (a0H (a0a (a0t a0r (pv 2) a0f (fun _ _=>rfl)) (a0a (a0t a0r (pv 4) (a0t a0r (pv 3) a0f (fun _ _=>rfl)) (fun _ _=>rfl)) a0e))) a0e))))
   (a0b (a0n (i:=6) sc.nd rfl (Or.inl rfl) (b0A (a0a (a0H (a0a (a0t a0r (pv 2) a0f (fun _ _=>rfl)) (a0a (a0H (a0a a0x (a0a (a0H (a0a a0x a0e)) a0e))) a0e))) (a0a (a0H (a0a (a0t a0r (pv 2) a0f (fun _ _=>rfl)) (a0a (a0H (a0a a0x a0e)) a0e))) a0e))))
   (a0h (a0F (a0H (a0a (pv 0) (a0a (a0H (a0a (a0H (a0a (a0t a0r (pv 1) a0f (fun _ _=>rfl)) (a0a a0x (a0a (pv 5) a0e)))) (a0a (a0H (a0a (a0t a0r (pv 1) a0f (fun _ _=>rfl)) (a0a a0x (a0a (pv 6) a0e)))) a0e))) a0e)))))))),?_⟩
  refine⟨(by show 1<=sizeLine;decide),fun w0 hw0=>?_⟩;generalize hX:upd H w0 _=H1;obtain⟨Tw0,ew0⟩:=gz hX hw0;refine⟨(by show 2<=sizeLine;decide),fun s0 hs0=>?_⟩;generalize hX:upd H1 s0 _=H2;obtain⟨Ts0,es0⟩:=gz hX hs0;refine⟨(by show 1<=sizeLine;decide),fun w1 hw1=>?_⟩;generalize hX:upd H2 w1 _=H3;obtain⟨Tw1,ew1⟩:=gz hX hw1;refine⟨(by show 2<=sizeLine;decide),fun s1 hs1=>?_⟩;generalize hX:upd H3 s1 _=H4;obtain⟨Ts1,es1⟩:=gz hX hs1;refine⟨(by show 2<=sizeLine;decide),fun sl hsl=>?_⟩;generalize hX:upd H4 sl _=H5;obtain⟨Tsl,esl⟩:=gz hX hsl;have S5:a0k H H5:=Tw0.trans (Ts0.trans (Tw1.trans (Ts1.trans Tsl)));have o0:OnK H5 s0 "whole":=⟨w0,(Tw1.trans (Ts1.trans Tsl)) _ _ es0,(Ts0.trans (Tw1.trans (Ts1.trans Tsl))) _ _ ew0⟩;have o1:OnK H5 s1 "word":=⟨w1,Tsl _ _ es1,(Ts1.trans Tsl) _ _ ew1⟩;clear Tw0 Ts0 Tw1 Ts1 Tsl ew0 es0 ew1 es1 hw0 hs0 hw1 hs1 hsl;have hc5:=S5 _ _ hc.c;have hk5:=S5 _ _ hc.k;obtain⟨k0,p0,q0⟩:∃k0,atI [V.ref s0,.ref s1] (if d.kb then 1 else 0)=some (.ref k0)/\OnK H5 k0 (if d.kb then "word" else "whole"):=by
   cases d.kb
   ·exact⟨s0,rfl,o0⟩
   ·exact⟨s1,rfl,o1⟩
  obtain⟨k1,p1,q1⟩:∃k1,atI [V.ref s0,.ref s1] (if d.kb then 0 else 1)=some (.ref k1)/\OnK H5 k1 (if d.kb then "whole" else "word"):=by
   cases d.kb
   ·exact⟨s1,rfl,o1⟩
   ·exact⟨s0,rfl,o0⟩
  have R0:=a0k.refl H5;refine⟨_,rfl,lc,_,0,_,rfl,rfl,SqL.of (R0 _ _ hc5),rfl,_,rfl,_,rfl,kl,_,0,_,rfl,rfl,SqL.of (R0 _ _ hk5),rfl,sl,_,_,_,rfl,rfl,SqL.of (R0 _ _ esl),p0,(by show 2<=sizeLine;decide),fun g0 hg0=>?_⟩;generalize hX:upd H5 g0 _=H6;obtain⟨Tg0,eg0⟩:=gz hX hg0;refine⟨_,rfl,lc,_,1,_,rfl,rfl,SqL.of (Tg0 _ _ hc5),rfl,_,rfl,_,rfl,kl,_,1,_,rfl,rfl,SqL.of (Tg0 _ _ hk5),rfl,sl,_,_,_,rfl,rfl,SqL.of (Tg0 _ _ esl),p1,(by show 2<=sizeLine;decide),fun g1 hg1=>?_⟩;generalize hX:upd H6 g1 _=H7;obtain⟨Tg1,eg1⟩:=gz hX hg1;refine⟨(by show 2<=sizeLine;decide),fun ch ob hch hob=>?_⟩;generalize hX:upd H7 ch _=H8;obtain⟨Tch,ech⟩:=gz hX hch;have hch:a4l H8 ch [(d.c0,k0),(d.c1,k1)]:=⟨ob,[g0,g1],hob,ech,rfl,fun j p c e1 e2=>by
   match j,e1,e2 with
   |0,e1,e2=>cases e1;cases e2;exact(Tg1.trans Tch) _ _ eg0
   |1,e1,e2=>cases e1;cases e2;exact Tch _ _ eg1⟩
  have S58:=Tg0.trans (Tg1.trans Tch);clear Tg0 Tg1 Tch eg0 eg1 ech hg0 hg1;have hc8:=S58 _ _ hc5;refine⟨_,rfl,lc,_,0,_,rfl,rfl,SqL.of hc8,rfl,(by show 1<=sizeLine;decide),fun w2 hw2=>?_⟩;generalize hX:upd H8 w2 _=H9;obtain⟨Tw2,ew2⟩:=gz hX hw2;refine⟨(by show 2<=sizeLine;decide),fun k2 hk2=>?_⟩;generalize hX:upd H9 k2 _=H10;obtain⟨Tk2,ek2⟩:=gz hX hk2;refine⟨(by show 2<=sizeLine;decide),fun g2 hg2=>?_⟩;generalize hX:upd H10 g2 _=H11;obtain⟨Tg2,eg2⟩:=gz hX hg2;have S811:=Tw2.trans (Tk2.trans Tg2);refine⟨_,rfl,lc,_,2,_,rfl,rfl,SqL.of (S811 _ _ hc8),rfl,(by show 1<=sizeLine;decide),fun k3 hk3=>?_⟩;generalize hX:upd H11 k3 _=H12;obtain⟨Tk3,ek3⟩:=gz hX hk3;refine⟨(by show 2<=sizeLine;decide),fun g3 hg3=>?_⟩;generalize hX:upd H12 g3 _=H13;obtain⟨Tg3,eg3⟩:=gz hX hg3;refine⟨(by show 2<=sizeLine;decide),fun cs ob2 hcs hob2=>?_⟩;generalize hX:upd H13 cs _=H14;obtain⟨Tcs,ecs⟩:=gz hX hcs;have hcs9:a4l H14 cs [(d.c0,k2),(d.c2,k3)]:=⟨ob2,[g2,g3],hob2,ecs,rfl,fun j p c e1 e2=>by
   match j,e1,e2 with
   |0,e1,e2=>cases e1;cases e2;exact(Tk3.trans (Tg3.trans Tcs)) _ _ eg2
   |1,e1,e2=>cases e1;cases e2;exact Tcs _ _ eg3⟩
  have S1114:=Tk3.trans (Tg3.trans Tcs);have o2:OnK H14 k2 "whole":=⟨w2,(Tg2.trans S1114) _ _ ek2,(Tk2.trans (Tg2.trans S1114)) _ _ ew2⟩;have o3:=(Tg3.trans Tcs) _ _ ek3;have S814:=S811.trans S1114;clear Tw2 Tk2 Tg2 Tk3 Tg3 Tcs ew2 ek2 eg2 ek3 eg3 ecs hw2 hk2 hg2 hk3 hg3 hcs;have hch14:=hch.same S814;have S514:=S58.trans S814;have hn14:=S514 _ _ (S5 _ _ hn);refine⟨_,rfl,_,rfl,ln,_,0,_,rfl,rfl,SqL.of hn14,rfl,_,rfl,(by show 3<=sizeLine;decide),fun e1 he1=>?_⟩;generalize hX:upd H14 e1 _=J1;obtain⟨Te1,ee1⟩:=gz hX he1;refine⟨_,rfl,ln,_,1,_,rfl,rfl,SqL.of (Te1 _ _ hn14),rfl,_,rfl,(by show 3<=sizeLine;decide),fun e2 he2=>?_⟩;generalize hX:upd J1 e2 _=J2;obtain⟨Te2,ee2⟩:=gz hX he2;refine⟨(by show 2<=sizeLine;decide),fun tt htt=>?_⟩;generalize hX:upd J2 tt _=J3;obtain⟨Ttt,ett⟩:=gz hX htt;refine⟨(by show 2<=sizeLine;decide),fun fo hfo=>?_⟩;generalize hX:upd J3 fo _=J4;obtain⟨Tfo,efo⟩:=gz hX hfo;have F14:=Te1.trans (Te2.trans (Ttt.trans Tfo));have S5J:=S514.trans F14;refine q fo k0 k1 k2 k3 J4 (S5.trans S5J) ?_ ⟨q0.same S5J,q1.same S5J,o2.same F14,F14 _ _ o3⟩;refine⟨⟨tt,[e1,e2],efo,Tfo _ _ ett,rfl,fun j e T h1 h2=>?_⟩,(by show[d.T0,d.T1].Nodup;simp[ok.T]),(by show 2<=8;decide),fun T hT'=>?_⟩
  ·match j,h1,h2 with
   |0,h1,h2=>cases h1;cases h2;exact⟨ch,(Te2.trans (Ttt.trans Tfo)) _ _ ee1,hch14.same F14⟩
   |1,h1,h2=>cases h1;cases h2;exact⟨cs,(Ttt.trans Tfo) _ _ ee2,hcs9.same F14⟩
  ·rcases (show T=_\/T=_ by simpa using hT') with rfl |rfl
   ·exact⟨by show[d.c0,d.c1].Nodup;simp[ok.c01],(by show 2<=12;decide)⟩
   ·exact⟨by show[d.c0,d.c2].Nodup;simp[ok.c02],(by show 2<=12;decide)⟩
end
end My
namespace L2
open PySem PySem.Spec PyProof.Rows
theorem b4W {xs:List V}{n:Nat}:b2z xs none (some ((n:Nat):Int))=xs.take n:=by
 unfold b2z;rw[HT.b4A,HT.a7H,List.drop_zero,Nat.sub_zero]
 by_cases h:n<=xs.length
 ·rw[Nat.min_eq_left h]
 ·rw[Nat.min_eq_right (by omega),List.take_of_length_le (nR0 _),List.take_of_length_le (by omega)]
section
variable {P:Program}{w:World}{K:Fg0}{mg:Str->Option Value}{base:Heap}{CX:CXT}{k:Nat}{f:Addr}{fd:FuncData}{ps:List Str}{sp sp':Sp}
theorem a0A.sink (F:a0A P w K mg base (CX1 P w) k f fd ps sp)(h:∀vs H Q E,sp' vs H Q E->sp vs H Q (fun _ _ _=>False)):a0A P w K mg base CX0 k f fd ps sp':=by
 refine⟨fun vs H Q E q=>F.len vs H Q _ (h _ _ _ _ q),fun A outer s H args us vs Q E hr e b r q=>codeAny_mono (F.run A outer s H args us vs Q _ hr e b r (h _ _ _ _ q)) fun r s' hq=>?_⟩;cases r with
 |ok x=>cases x<;>exact hq
 |error e=>
  obtain⟨_,_,_,_,_,_,_,_,_,_,_,_,hF⟩:=hq;exact hF.elim
theorem a0A.all {α:Type}{sp:α->Sp}(h:∀x,a0A P w K mg base CX k f fd ps (sp x)):a0A P w K mg base CX k f fd ps (fun vs H Q E=>∃x,sp x vs H Q E):=
 ⟨fun vs H Q E ⟨x,q⟩=>(h x).len vs H Q E q,fun A outer s H args us vs Q E hr e b r ⟨x,q⟩=>(h x).run A outer s H args us vs Q E hr e b r q⟩
end
end L2
namespace My
open PySem L2 PyProof.Rows
seal L2.PE L2.PT L2.PW L2.PS L2.PSs L2.PA L2.PI L2.PG L2.PGs L2.OpR L2.UnR L2.a1r L2.IxR L2.SlR L2.MtR L2.PIf L2.PO L2.MtM L2.PC
def lw7:List Str:=["_law_script","_law_names_here","_law_columns","_law_kinds","_law_size","_law_drawn","_law_keys","_law_base","_law_form_here","_law_plain","_law_heads","_law_many","_law_cell_here","_law_new_heads","_law_new_many","_law_steps_here","_law_due_here"]
def NoM (H H':Hp):Prop:=∀b o,H b=some o->NoI o->H' b=some o
theorem b3t {l:List V}:NoI (.tup l):=fun _ _ _ e=>nomatch e
theorem a4w {l:List V}:NoI (.lst l):=fun _ _ _ e=>nomatch e
theorem NoM.of {H H':Hp}{x C dx:Addr}{fs:List (Str×V)}(hx:H x=some (.ins C dx fs))(k:∀b o,b≠x->H b=some o->H' b=some o):NoM H H':=fun b o e no=>k b o (fun z=>by
 rw[z,hx] at e;cases e;exact no _ _ _ rfl) e
theorem a0k.noM {H H':Hp}(s:a0k H H'):NoM H H':=fun b o e _=>s _ _ e
theorem a7w.mv {H H':Hp}{t:Addr}{o:Option (Str×Int×Nat)}(h:a7w H t o)(m:NoM H H'):a7w H' t o:=by
 cases o with
 |none=>obtain⟨e,a,b⟩:=h;exact⟨e,m _ _ a b3t,m _ _ b a4w⟩
 |some b=>exact m _ _ h b3t
theorem a7w.eq {H:Hp}{t t':Addr}{o:Option (Str×Int×Nat)}(h:a7w H t o)(h':a7w H t' o):∃xs ys:List V,H t=some (.tup xs)/\H t'=some (.tup ys)/\xs.length=ys.length/\∀(i:Nat) (x y:V),xs[i]? =some x->ys[i]? =some y->Dq H 1 x y:=by
 cases o with
 |none=>
  obtain⟨e,a,b⟩:=h;obtain⟨e',a',b'⟩:=h';refine⟨_,_,a,a',rfl,fun i x y c1 c2=>?_⟩
  match i,c1,c2 with
  |0,c1,c2=>cases c1;cases c2;exact .str
  |1,c1,c2=>cases c1;cases c2;exact .lst b b' rfl fun i x y c=>nomatch c
 |some b=>
  refine⟨_,_,h,h',rfl,fun i x y c1 c2=>?_⟩
  match i,c1,c2 with
  |0,c1,c2=>cases c1;cases c2;exact .str
  |1,c1,c2=>cases c1;cases c2;exact .str
  |2,c1,c2=>cases c1;cases c2;exact .int
  |3,c1,c2=>cases c1;cases c2;exact .int
structure Wd (H:Hp) (ln lc kd kl fo:Addr) (sz:Int) (d:D8) (kk:List Int) (k0 k1 k2 k3:Addr):Prop where
 ln:H ln=some (.lst [.str d.T0,.str d.T1])
 nm:NmC H lc kd d
 kl:H kl=some (.lst (kk.map V.int))
 fm:a7j H fo sz (T7 d k0 k1 k2 k3)
 ky:a7v H d k0 k1 k2 k3
theorem Wd.same {H H':Hp}{ln lc kd kl fo:Addr}{sz:Int}{d:D8}{kk:List Int}{k0 k1 k2 k3:Addr}(h:Wd H ln lc kd kl fo sz d kk k0 k1 k2 k3)(s:a0k H H'):Wd H' ln lc kd kl fo sz d kk k0 k1 k2 k3:=⟨s _ _ h.ln,h.nm.same s,s _ _ h.kl,h.fm.same s,h.ky.same s⟩
theorem Wd.mv {H H':Hp}{ln lc kd kl fo:Addr}{sz:Int}{d:D8}{kk:List Int}{k0 k1 k2 k3:Addr}(h:Wd H ln lc kd kl fo sz d kk k0 k1 k2 k3)(m:NoM H H'):Wd H' ln lc kd kl fo sz d kk k0 k1 k2 k3:=
 ⟨m _ _ h.ln a4w,⟨m _ _ h.nm.c a4w,m _ _ h.nm.k a4w⟩,m _ _ h.kl a4w,h.fm.mv m,h.ky.mv m⟩
theorem a8G (d:D8):a5k d []=none:=by
 unfold a5k rw0 rw1 rw2 srt;rw[List.mergeSort_nil]
 rfl
theorem cutT {G:Prop}{T:Addr->Hp->Prop}(R:Addr->Hp->Prop)(h:(∀l H8,R l H8->T l H8)->G)(fin:∀l H8,R l H8->T l H8):G:=h fin
theorem b1d {CP CM:Addr}{H:Hp}{fo:Addr}{sz:Int}{d:D8}{k0 k1 k2 k3:Addr}{Q:V->Hp->Prop}{x dx:Addr}(rs:d.Rs)(fm:a7j H fo sz (T7 d k0 k1 k2 k3))(ky:a7v H d k0 k1 k2 k3)
  (hx:H x=none) (hdx:H dx=none) (ndx:dx≠x) (q:∀H',a0k H H'->a5v CP H' x sz (T7 d k0 k1 k2 k3) []->Q .non H'):a3C CP CM [.ref x,.ref fo,.non] (upd (upd H dx (.own x)) x (.ins CP dx [])) Q (fun _ _ _=>False):=by
 have S1:=(a0k.upd (o:=.own x) hdx);have hx1:(upd H dx (.own x)) x=none:=(a0d ndx.symm).trans hx;have S2:=S1.trans (a0k.upd (o:=.ins CP dx []) hx1);have x2:(upd (upd H dx (.own x)) x (.ins CP dx [])) x=some (.ins CP dx []):=a0c;generalize upd (upd H dx (.own x)) x (.ins CP dx [])=H2 at *;have fl:∀T,a1E T (srt (([]:List En).map kc))=[]:=fun T=>by
  show a1E T (srt [])=[];unfold srt;rw[List.mergeSort_nil]
  rfl
 refine⟨x,dx,fo,.non,sz,T7 d k0 k1 k2 k3,ky7 d,[],rfl,x2,fm.same S2,(ky.ky rs.ok).same S2,.inl ⟨rfl,rfl⟩,(fun e he=>nomatch he),(fun T=>by rw[fl];exact zL0 _),(fun T _ c _ _ z hz=>by rw[fl] at hz;cases hz),fun zs hz=>?_⟩;obtain rfl:=b3M rs hz;have e0:a7O (([]:List En).map kc) (zs7 d)=none:=(a8W rs.ok (A:=[]) List.nodup_nil).trans (a8G d);refine⟨fun _ td us H3 hx3 hk3 hus hth=>?_,fun b hb=>by rw[e0] at hb;cases hb⟩;have hus0:us=[]:=List.map_eq_nil_iff.mp hus;subst hus0;exact q H3 (fun b o e=>hk3 b o (a0j e hx) (S2 _ _ e)) ⟨⟨dx,fo,td,hx3,(fm.same S2).mv (NoM.of x2 hk3),hth.same a0z⟩,fun e he=>nomatch he⟩
theorem b1Q (j:Int)(h0:0<=j)(h1:j<2)(a b:Addr):∃(kb:Bool) (c:Addr),atI [V.ref a,.ref b] j=some (.ref c)/\((kb=false/\c=a)\/(kb=true/\c=b)):=by
 rcases (show j=0\/j=1 by omega) with rfl |rfl
 ·exact⟨false,a,rfl,.inl ⟨rfl,rfl⟩⟩
 ·exact⟨true,b,rfl,.inr ⟨rfl,rfl⟩⟩
section
variable {P:Program}{w:World}{K:Fg0}{mg:Str->Option Value}{base:Heap}{CP CM:Addr}
theorem b5q {f fC fN fS fD fT fW fM fE fF fJ fH fR fWr fV fHr fFi:Addr}{fd fdC fdN fdS fdD fdT fdW fdM fdE fdF fdJ fdH fdR fdWr fdV fdHr fdFi:FuncData}(F:Fun K "law" "law" (top 51) f fd)(B:Bl mg)(DC:Df K mg "_law_cell" (top 39) fC fdC)(DN:Df K mg "_law_names" (top 40) fN fdN)
  (DV:Df K mg "_law_values" (top 41) fV fdV) (DHr:Df K mg "_law_head_row" (top 42) fHr fdHr) (DT:Df K mg "_law_things" (top 43) fT fdT) (DS:Df K mg "_law_steps" (top 44) fS fdS) (DFi:Df K mg "_law_first_twice" (top 45) fFi fdFi)
  (DD:Df K mg "_law_due" (top 46) fD fdD) (DW:Df K mg "_law_written" (top 47) fW fdW) (DM:Df K mg "_law_made" (top 48) fM fdM) (DE:Df K mg "_law_tells" (top 49) fE fdE) (DF:Df K mg "_law_form" (top 50) fF fdF)
  (R:Xf K mg CM) (L:ClP K CP) (MP:Mk K CP fJ) (mP:mg "Plain"=some (.ref CP)) (GJ:a0A P w K mg base (CX1 P w) 5 fJ fdJ ["self","form","things"] (a3C CP CM)) (bJ:a1g K fdJ ["self","form","things"] []) (bJ1:a1g K fdJ ["self","form","things"] [Value.none])
  (mH:a6U K CP "held" fH) (gH:a0A P w K mg base CX0 1 fH fdH ["self"] (a7n CP)) (bH:a1g K fdH ["self"] []) (mR:a6U K CP "rows" fR) (gR:a0A P w K mg base CX0 2 fR fdR ["self","table"] (a9m CP)) (bR:a1g K fdR ["self","table"] [])
  (mW:a6U K CP "write" fWr) (gWr:a0A P w K mg base (CX1 P w) 6 fWr fdWr ["self","steps"] (a4Y CP CM)) (bWr:a1g K fdWr ["self","steps"] []) :
  a0A P w K mg base CX0 8 f fd ["_law_script"] (b2w K):=by
 have sc:a0o lw7 ["_law_script"] (a0g (top 51)):=.k (by decide +kernel);have GC:a0A P w K mg base CX0 1 fC fdC ["_law_script","_law_k"] (b5s K):=b6C DC.fn B;have bC:=DC.fn.b2 "_law_script" "_law_k" (by intros;rfl);have GN:a0A P w K mg base CX0 1 fN fdN ["_law_cell_here","_law_many"] b0p:=b1R DN.fn B;have bN:=DN.fn.b2 "_law_cell_here" "_law_many" (by intros;rfl);have bS:=DS.fn.b8 "_law_names_here" "_law_columns" "_law_kinds" "_law_keys" "_law_heads" "_law_many" "_law_cell_here" "_law_base" (by intros;rfl);have bD:=DD.fn.b4 "_law_names_here" "_law_kinds" "_law_heads" "_law_many" (by intros;rfl);have bT:=DT.fn.b5 "_law_columns" "_law_kinds" "_law_heads" "_law_many" "_law_names_here" (by intros;rfl);have bW:=DW.fn.b2 "_law_plain" "_law_steps_here" (by intros;rfl);have bM:=DM.fn.b2 "_law_form_here" "_law_things_here" (by intros;rfl);have bE:=DE.fn.b3 "_law_plain" "_law_things_here" "_law_names_here" (by intros;rfl);have bF:=DF.fn.b4 "_law_size" "_law_names_here" "_law_columns" "_law_kinds" (by intros;rfl);have GJ0:a0A P w K mg base CX0 5 fJ fdJ ["self","form","things"] (fun vs H Q _=>a3C CP CM vs H Q (fun _ _ _=>False)):=GJ.sink fun vs H Q E h=>h;have GE:a0A P w K mg base CX0 3 fE fdE ["_law_plain","_law_things_here","_law_names_here"] (a8I CP):=b1p DE.fn B L mH gH bH mR gR bR;have GS:∀d,a0A P w K mg base CX0 2 fS fdS ["_law_names_here","_law_columns","_law_kinds","_law_keys","_law_heads","_law_many","_law_cell_here","_law_base"] (b0e d):=fun d=>b1i DS.fn B DHr DV;have GD:∀d,a0A P w K mg base CX0 2 fD fdD ["_law_names_here","_law_kinds","_law_heads","_law_many"] (b3o d):=fun d=>b5k DD.fn B DFi;have GT:∀d,a0A P w K mg base CX0 2 fT fdT ["_law_columns","_law_kinds","_law_heads","_law_many","_law_names_here"] (a7M d):=fun d=>a8Y DT.fn B DHr;have GW:∀d,a0A P w K mg base CX0 7 fW fdW ["_law_plain","_law_steps_here"] (a5I CP d):=fun d=>a7Z DW.fn B R L mW gWr bWr;have GM:∀d,a0A P w K mg base CX0 7 fM fdM ["_law_form_here","_law_things_here"] (b3n d):=fun d=>b4E DM.fn B R L MP mP GJ bJ mH gH bH;have GF:∀d,a0A P w K mg base CX0 1 fF fdF ["_law_size","_law_names_here","_law_columns","_law_kinds"] (b2Y d):=fun d=>b4G DF.fn
 replace GS:=a0A.all GS
 replace GD:=a0A.all GD
 replace GT:=a0A.all GT
 replace GW:=a0A.all GW
 replace GM:=a0A.all GM
 replace GF:=a0A.all GF
 refine F.ok sc (fun vs H Q E h=>?_) (fun cdv A_ outer s H vs Q E hr h=>?_)
 ·obtain⟨a,ns,rfl,_⟩:=h
  rfl
 ·obtain⟨a,ns,rfl,hS,h63,q⟩:=h
  have hr1:a1u 1 _:=hr.mono (by decide);have hr2:a1u 2 _:=hr.mono (by decide);have hr3:a1u 3 _:=hr.mono (by decide);have hr6:a1u 6 _:=hr.mono (by decide);have hu1:(A_.deeper (envOfC "law" (a0g (top 51)) s.heap.objs.size f cdv)).units+1+1<cLine:=by have:=hr.un;omega
  refine b1T 12 (fun σ H1=>∃(ln lc kd kl fo x hd sm:Addr) (sz dr bs:Int) (d:D8) (kk:List Int) (k0 k1 k2 k3:Addr),σ=[some (.ref a),some (.ref ln),some (.ref lc),some (.ref kd),some (.int sz),some (.int dr),some (.ref kl),some (.int bs),some (.ref fo),some (.ref x),some (.ref hd),some (.ref sm),none,none,none,none,none] ∧
    a0k H H1/\Wd H1 ln lc kd kl fo sz d kk k0 k1 k2 k3/\a5v CP H1 x sz (T7 d k0 k1 k2 k3) []/\StA H1 hd sm kk []/\d.Rs/\kk.length=4/\∀z∈kk,0<=z/\z<sz) ?_ ?_
  ·refine⟨_,(a0b (a0n (i:=1) sc.nd rfl (Or.inl rfl) (a0l GN hr1 (by rfl) DN.mg DN.fn.kp bN .nil a0E (a0a (a0l GC hr1 (by rfl) DC.mg DC.fn.kp bC .nil a0E (a0a (pv 0) (a0a a0f a0e))) (a0a a0f a0e))))
    (a0b (a0n (i:=2) sc.nd rfl (Or.inl rfl) (a0l GN hr1 (by rfl) DN.mg DN.fn.kp bN .nil a0E (a0a (a0l GC hr1 (by rfl) DC.mg DC.fn.kp bC .nil a0E (a0a (pv 0) (a0a a0f a0e))) (a0a a0f a0e))))
    (a0b (a0n (i:=3) sc.nd rfl (Or.inl rfl) (a0t a0r (a1f (a0a (a1f (a0a a0f (a0a a0f a0e))) (a0a (a1f (a0a a0f (a0a a0f a0e))) a0e))) (a0B a1m (a0B a1w (a0l GC hr1 (by rfl) DC.mg DC.fn.kp bC .nil a0E (a0a (pv 0) (a0a a0f a0e))) a0f) a0f) (fun _ _=>rfl)))
    (a0b (a3l (a0P (a0q a1V (a0B a1m (a0l GC hr1 (by rfl) DC.mg DC.fn.kp bC .nil a0E (a0a (pv 0) (a0a a0f a0e))) a0f) a0f (a0G _)) (a0h (a0n (i:=1) sc.nd rfl (Or.inl rfl) (a1f (a0a (a0t a0r (pv 1) a0f (fun _ _=>rfl)) (a0a (a0t a0r (pv 1) a0f (fun _ _=>rfl)) a0e))))) a0s))
    (a0b (a0n (i:=4) sc.nd rfl (Or.inl rfl) (a0B a1Q a0f (a0B a1m (a0B a1w (a0l GC hr1 (by rfl) DC.mg DC.fn.kp bC .nil a0E (a0a (pv 0) (a0a a0f a0e))) a0f) (a0B a7k (a0B a9S a0f a0f) a0f))))
    (a0b (a0n (i:=5) sc.nd rfl (Or.inl rfl) (a0B a1m (a0l GC hr1 (by rfl) DC.mg DC.fn.kp bC .nil a0E (a0a (pv 0) (a0a a0f a0e))) (a0B a7k (pv 4) a0f)))
    (a0b (a0n (i:=6) sc.nd rfl (Or.inl rfl) (a1f (a0a (a0B a1Q (pv 5) a0f) (a0a (pv 5) (a0a (a0B a1Q (pv 5) a0f) (a0a (a0B a1Q (pv 5) a0f) a0e))))))
    (a0b (a0n (i:=7) sc.nd rfl (Or.inl rfl) (a0B a7k (a0B a1m (a0l GC hr1 (by rfl) DC.mg DC.fn.kp bC .nil a0E (a0a (pv 0) (a0a a0f a0e))) (a0B a1Q (a0B b0H a0f (a0B a9S a0f a0f)) a0f)) (a0B a9S a0f a0f)))
    (a0b (a0n (i:=8) sc.nd rfl (Or.inl rfl) (a0l GF hr1 (by rfl) DF.mg DF.fn.kp bF .nil a0E (a0a (pv 4) (a0a (pv 1) (a0a (pv 2) (a0a (pv 3) a0e))))))
    (a0b (a0n (i:=9) sc.nd rfl (Or.inl rfl) (b4u MP GJ0 hr6 (by rfl) mP bJ1 (show a1b [V.non] [Value.none] from .cons rfl .nil) a0E (a0a (pv 8) a0e)))
    (a0b (a0n (i:=10) sc.nd rfl (Or.inl rfl) a1n)
    (a0h (a0n (i:=11) sc.nd rfl (Or.inl rfl) a1n))))))))))))),?_⟩
   refine⟨_,rfl,a,ns,0,rfl,hS,by decide,fun c=>⟨c,2,rfl,by decide,by decide,fun l1 zs H1 s1 hl1 hzl hnd _=>?_⟩⟩;obtain⟨z0,z1,rfl⟩:∃z0 z1,zs=[z0,z1]:=by
    match zs,hzl with
    |[z0,z1],_=>exact⟨z0,z1,rfl⟩
   have hz01:z0≠z1:=by simpa using hnd
   clear hnd hzl;refine⟨_,rfl,a,ns,1,rfl,s1.seq hS,by decide,fun cc=>⟨cc,3,rfl,by decide,by decide,fun lc zs H2 s2 hlc hzl hnd hri=>?_⟩⟩;obtain⟨c0,c1,c2,rfl⟩:∃c0 c1 c2,zs=[c0,c1,c2]:=by
    match zs,hzl with
    |[c0,c1,c2],_=>exact⟨c0,c1,c2,rfl⟩
   have hc2:H2 lc=some (.lst [.str c0,.str c1,.str c2]):=a0z _ _ hlc;have S2:=s1.trans s2;have l12:H2 l1=some (.lst [.str z0,.str z1]):=s2 _ _ (a0z _ _ hl1);simp only[List.nodup_cons,mK0,List.not_mem_nil,not_or,or_false] at hnd;have hle:leS c0 c1=true:=by
    have:=(List.pairwise_cons.mp hri).1 c1 (by simp)
    unfold leS;rw[dF0 this]
    rfl
   refine⟨(by show 2<=sizeLine;decide),fun m1 hm1=>?_⟩;generalize hX:upd H2 m1 _=G1;obtain⟨M1,n1⟩:=gz hX hm1;refine⟨(by show 2<=sizeLine;decide),fun m2 hm2=>?_⟩;generalize hX:upd G1 m2 _=G2;obtain⟨M2,n2⟩:=gz hX hm2;refine⟨(by show 2<=sizeLine;decide),fun m3 hm3=>?_⟩;generalize hX:upd G2 m3 _=G3;obtain⟨M3,n3⟩:=gz hX hm3;have M13:=M1.trans (M2.trans M3);have SG3:=S2.trans M13;refine⟨_,rfl,a,ns,1,rfl,SG3.seq hS,by decide,fun ck=>?_⟩;obtain⟨kb,kd,pk,hkd⟩:=b1Q (ck/3%2) (Int.emod_nonneg _ (by decide)) (Int.emod_lt_of_pos _ (by decide)) m1 m2;refine⟨_,_,rfl,rfl,⟨by decide,by decide⟩,_,_,rfl,rfl,(pos rfl),m3,_,_,_,rfl,rfl,SqL.of n3,pk,?_⟩;have kdG:G3 kd=some (.lst [.int (if kb then 1 else 0),.int (if kb then 0 else 1)]):=by
    rcases hkd with ⟨rfl,rfl⟩ |⟨rfl,rfl⟩
    ·exact(M2.trans M3) _ _ n1
    ·exact M3 _ _ n2
   have lG:=M13 _ _ l12;have cG:=M13 _ _ hc2;clear M1 M2 M3 n1 n2 n3 hm1 hm2 hm3 M13 pk hkd;refine⟨fun σ' H'=>∃ln T0 T1,σ'=[some (.ref a),some (.ref ln),some (.ref lc),some (.ref kd),none,none,none,none,none,none,none,none,none,none,none,none,none]/\a0k G3 H'/\H' ln=some (.lst [.str T0,.str T1])/\T0≠T1,?_,?_⟩
   ·refine⟨_,rfl,a,ns,2,rfl,SG3.seq hS,by decide,fun c'=>⟨_,_,rfl,rfl,(pos rfl),rfl,_,rfl,a9t (fun _=>?_) (fun _=>?_)⟩⟩
    ·refine⟨_,rfl,l1,_,1,_,rfl,rfl,SqL.of lG,rfl,_,rfl,l1,_,0,_,rfl,rfl,SqL.of lG,rfl,(by show 2<=sizeLine;decide),fun l hl=>?_⟩
     exact⟨l,z1,z0,rfl,a0k.upd hl,a0c,hz01.symm⟩
    ·exact⟨l1,z0,z1,rfl,a0k.refl _,lG,hz01⟩
   rintro σ' H3 ⟨ln,T0,T1,rfl,s3,hln,hT⟩;have S3:=SG3.trans s3;have hc3:=s3 _ _ cG;have kd3:=s3 _ _ kdG;refine⟨_,rfl,a,ns,2,rfl,S3.seq hS,by decide,fun c2'=>⟨_,_,rfl,rfl,⟨by decide,by decide⟩,_,_,rfl,rfl,⟨by decide,by decide,by decide⟩,_,_,rfl,rfl,_,_,rfl,rfl,(pos (by decide +kernel)),_,_,rfl,rfl,?_⟩⟩;have hsz:4<=4+c2'/2%((10:Int) ^ (12:Int).toNat-3):=by
    have:=Int.emod_nonneg (c2'/2) (show(10:Int) ^ (12:Int).toNat-3≠0 by decide +kernel)
    omega
   dsimp only
   generalize 4+c2'/2%((10:Int) ^ (12:Int).toNat-3)=sz at *;refine⟨_,rfl,a,ns,3,rfl,S3.seq hS,by decide,fun c3'=>⟨_,rfl,_,_,rfl,rfl,_,_,rfl,rfl,(show(0:Int)<sz-3 by omega),?_⟩⟩;have hk0:=Int.emod_nonneg c3' (show sz-3≠0 by omega);have hk1:=Int.emod_lt_of_pos c3' (show 0<sz-3 by omega)
   dsimp only
   generalize c3'%(sz-3)=dr at *;refine⟨_,rfl,_,_,rfl,rfl,_,rfl,_,rfl,_,_,rfl,rfl,_,rfl,_,_,rfl,rfl,(by show 4<=sizeLine;decide),fun kl hkl=>?_⟩;generalize hX:upd H3 kl _=H4;obtain⟨T4,kl4_⟩:=gz hX hkl;have kl4:H4 kl=some (.lst ([dr+2,dr,dr+3,dr+1].map V.int)):=kl4_;have S4:=S3.trans T4;refine⟨_,rfl,a,ns,4,rfl,S4.seq hS,by decide,fun c4'=>⟨_,_,rfl,rfl,⟨by decide,by decide,by decide⟩,_,_,rfl,rfl,.inl ⟨by decide,by decide⟩,_,_,rfl,rfl,_,_,rfl,rfl,(pos (by decide +kernel)),_,_,rfl,rfl,⟨by decide,by decide,by decide⟩,_,_,rfl,rfl,?_⟩⟩
   dsimp only
   generalize c4'%(2 * (10:Int) ^ (40:Int).toNat+1)-(10:Int) ^ (40:Int).toNat=bs
   let d:D8:=⟨T0,T1,c0,c1,c2,kb⟩
   have rs:d.Rs:=⟨⟨hT,hnd.1.1,hnd.1.2⟩,hle⟩;have ln4:=T4 _ _ hln;have nm4:NmC H4 lc kd d:=⟨T4 _ _ hc3,T4 _ _ kd3⟩;refine⟨_,rfl,_,rfl,_,rfl,_,rfl,d,ln,lc,kd,sz,rfl,ln4,nm4,rs.ok,fun fo k0 k1 k2 k3 J4 sJ fm ky=>?_⟩;refine⟨_,rfl,fun x dx hx10 hdx ndx=>b1d rs fm ky hx10 hdx ndx fun H10 s10 hpx=>⟨rfl,?_⟩⟩;refine fun hd hhd=>?_;generalize hX:upd H10 hd _=H12;obtain⟨U1,d1⟩:=gz hX hhd;refine fun sm hsm=>?_;have U2:=a0k.upd (o:=.dK []) hsm;have hne:hd≠sm:=a0j d1 hsm;have S112:=U1.trans U2;have SJ13:=s10.trans S112;have S413:=sJ.trans SJ13;refine⟨ln,lc,kd,kl,fo,x,hd,sm,sz,dr,bs,d,[dr+2,dr,dr+3,dr+1],k0,k1,k2,k3,rfl,S4.trans S413,⟨S413 _ _ ln4,nm4.same S413,S413 _ _ kl4,fm.same SJ13,ky.same SJ13⟩,hpx.same S112,⟨[],[],rfl,⟨hne,List.nodup_nil,List.nodup_nil,(fun e he=>nomatch he),(fun e he=>nomatch he),(fun e he=>nomatch he),U2 _ _ d1,a0c,(fun e he=>nomatch he),(fun e he=>nomatch he),(fun e he=>nomatch he)⟩⟩,rs,rfl,fun z hz=>?_⟩;simp only[mK0,List.not_mem_nil,or_false] at hz
   omega
  ·refine⟨_,(a0b (a0X PassesOwn.never rfl (a0S (a3p a9V (pv 0) a4O (a4C a0f))) (a0m (i:=12) sc.nd rfl (Or.inl rfl))
    (a0b (a0n (i:=13) sc.nd rfl (Or.inl rfl) (a0Z a1C (by rfl) B.dict boot_dict (a0a (pv 10) a0e)))
    (a0b (a0n (i:=14) sc.nd rfl (Or.inl rfl) (a0Z a1C (by rfl) B.dict boot_dict (a0a (pv 11) a0e)))
    (a0b (a0n (i:=15) sc.nd rfl (Or.inl rfl) (a0l GS hr2 (by rfl) DS.mg DS.fn.kp bS .nil a0E (a0a (pv 1) (a0a (pv 2) (a0a (pv 3) (a0a (pv 6) (a0a (pv 13) (a0a (pv 14) (a0a (pv 12) (a0a (pv 7) a0e))))))))))
    (a0b (a0n (i:=16) sc.nd rfl (Or.inl rfl) (a0l GD hr2 (by rfl) DD.mg DD.fn.kp bD .nil a0E (a0a (pv 1) (a0a (pv 3) (a0a (pv 13) (a0a (pv 14) a0e))))))
    (a0b (a0P (a0q a8H (a0l GW hr (by rfl) DW.mg DW.fn.kp bW .nil a0E (a0a (pv 9) (a0a (pv 15) a0e))) (pv 16) (a0G _)) a0u a0s)
    (a0b (a0P (a0q a8H (a0l GM hr (by rfl) DM.mg DM.fn.kp bM .nil a0E (a0a (pv 8) (a0a (a0l GT hr2 (by rfl) DT.mg DT.fn.kp bT .nil a0E (a0a (pv 2) (a0a (pv 3) (a0a (pv 13) (a0a (pv 14) (a0a (pv 1) a0e)))))) a0e))) (pv 16) (a0G _)) a0u a0s)
    (a0b (a3l (a0P (a0q a1V (a0t a0N (pv 16) a0f (fun _ _=>rfl)) a0x (a0G _)) (a0b (a0n (i:=10) sc.nd rfl (Or.inl rfl) (pv 13)) (a0h (a0n (i:=11) sc.nd rfl (Or.inl rfl) (pv 14)))) a0s))
    (a0h (a0P (a3e (a2W (a0l GE hr3 (by rfl) DE.mg DE.fn.kp bE .nil a0E (a0a (pv 9) (a0a (a0l GT hr2 (by rfl) DT.mg DT.fn.kp bT .nil a0E (a0a (pv 2) (a0a (pv 3) (a0a (pv 10) (a0a (pv 11) (a0a (pv 1) a0e)))))) (a0a (pv 1) a0e)))))) a0u a0s))))))))))
    (a0h (a0F b0u))),?_⟩
   rintro σ H1 ⟨ln,lc,kd,kl,fo,x,hd0,sm0,sz,dr,bs,d,kk,k0,k1,k2,k3,rfl,S1,wd,hpl,hst,rs,k4,hkk⟩;have ok:=rs.ok;refine⟨_,rfl,_,rfl,a,_,rfl,S1.seq hS,fun lq hlq=>?_⟩;rw[show b2z (ns.map V.int) none (some (24:Int))=(ns.map V.int).take 24 from b4W (n:=24)];generalize hX:upd H1 lq _=H2;have T2:a0k H1 H2:=hX▸a0k.upd hlq;have lq2:H2 lq=some (.lst ((ns.take 24).map V.int)):=by rw[<-hX,a0c,List.map_take]
   clear hX;refine⟨lq,rfl,⟨_,SqL.of lq2⟩,a0W (K:=K) (a:=lq) (xs:=(ns.take 24).map V.int) (fun i σ H3=>H3 lq=some (.lst ((ns.take 24).map V.int))/\Wd H3 ln lc kd kl fo sz d kk k0 k1 k2 k3/\∃(hd sm:Addr) (A:As) (es:List En),(∃u12 u13 u14 u15 u16,σ=[some (.ref a),some (.ref ln),some (.ref lc),some (.ref kd),some (.int sz),some (.int dr),some (.ref kl),some (.int bs),some (.ref fo),some (.ref x),some (.ref hd),some (.ref sm),u12,u13,u14,u15,u16])/\a5v CP H3 x sz (T7 d k0 k1 k2 k3) es/\StA H3 hd sm kk A/\Iv kk (1+i) A/\Hds d es A/\a5k d A=none)
    ⟨lq2,wd.same T2,hd0,sm0,[],[],⟨_,_,_,_,_,rfl⟩,hpl.same T2,hst.mv (a0k.noM T2),⟨List.nodup_nil,(fun e he=>nomatch he),(fun e he=>nomatch he)⟩,(fun k=>rfl),a8G d⟩ (fun i σ H3 _ p=>SqL.of p.1) ?_ ?_⟩
   ·rintro i v σ H3 hv ⟨hlq3,wd3,hd,sm,A,es,⟨u12,u13,u14,u15,u16,rfl⟩,pl3,st3,iv,hds,hdue⟩
    have hi:i<24:=by
     have:=(gS0.mp hv).1
     rw[lM0,lT0] at this
     omega
    obtain⟨c,hc⟩:∃c:Int,v=.int c:=by
     rw[gM0] at hv;cases hz:(ns.take 24)[i]? with
     |none=>rw[hz] at hv;cases hv
     |some c=>rw[hz] at hv;exact⟨c,(Option.some.inj hv).symm⟩
    subst hc;obtain⟨Lx,Mx,hL,b3⟩:=id st3;refine⟨_,rfl,hd,_,rfl,.inl b3.h,fun nh hnh=>?_⟩;generalize hX:upd H3 nh _=H4;obtain⟨U1,d1⟩:=gz hX hnh;refine⟨_,rfl,sm,_,rfl,.inl (U1 _ _ b3.s),fun n2 hn2=>?_⟩;generalize hX:upd H4 n2 _=H5;obtain⟨U2,d2⟩:=gz hX hn2;have hne2:nh≠n2:=a0j d1 hn2;have d12:=U2 _ _ d1;have S35:=U1.trans U2;have ex5:a0k H3 (ex2 nh n2 H5):=fun b o e=>a2B (a0j e hnh) (a0j (U1 _ _ e) hn2) (S35 _ _ e);have st5:StA H5 nh n2 kk A:=⟨Lx,Mx,hL,⟨hne2,b3.nd,b3.nm,b3.kl,b3.kq,b3.em,d12,d2,(b3.ls.same a0R).same ex5⟩⟩;clear d1 d2 d12 U1 U2 S35;refine⟨_,rfl,_,rfl,_,rfl,_,rfl,_,rfl,_,rfl,_,rfl,_,rfl,d,ln,lc,kd,kl,nh,n2,c,bs,kk,A,1+i,rfl,ex5 _ _ wd3.ln,wd3.nm.same ex5,ex5 _ _ wd3.kl,k4,st5,iv,(by omega),ok,fun l ss A' H6 s6 st6 hl6 op=>?_⟩;have S36:a0k H3 H6:=(ex5.trans s6).trans a0R;have ag:∀e∈A',e.2.gs.length<=100:=fun e he=>by have:=op.iv.le e he;omega
    refine⟨_,rfl,_,rfl,_,rfl,_,rfl,d,ln,kd,nh,n2,kk,A',rfl,S36 _ _ wd3.ln,S36 _ _ wd3.nm.k,st6,k4,ag,fun t H7 s7 ht7=>?_⟩;have S37:=S36.trans s7;have pl7:=pl3.same S37;have wd7:=wd3.same S37;have st7:=st6.mv (a0k.noM s7);have ost7:=st3.mv (a0k.noM S37);have lq7:=S37 _ _ hlq3;have hl7:=(hl6.same a0R).same s7;obtain⟨dx0,fo0,td0,hx7,_⟩:=id pl7.ex;clear b3 st5 ex5 s6 st6 hl6 S36 s7 S37 pl3 wd3 st3 hlq3;refine⟨_,rfl,_,rfl,d,x,l,sz,k0,k1,k2,k3,es,ss,kk,1+i,A,A',rfl,pl7,wd7.ky,hl7,rs,k4,hkk,iv,(by omega),(by omega),op,hds,?_⟩;apply cutT (fun t2 H8=>∃us,(∀b o,b≠x->H7 b=some o->H8 b=some o)/\a7w H8 t2 (a5k d A')/\a5v CP H8 x sz (T7 d k0 k1 k2 k3) us/\Hds d us (if a5k d A'=none then A' else A))
    ·intro fin
     refine⟨fun hno t2 us H8 k8 dv8 p8 hd8=>fin t2 H8 ⟨us,k8,by rw[hno];exact dv8,p8,by rw[if_pos hno];exact hd8⟩,fun b hb t2 H8 s8 dv8=>fin t2 H8 ⟨es,fun b o _ e=>s8 _ _ e,by rw[hb];exact dv8,pl7.same s8,?_⟩⟩;rw[if_neg (by rw[hb];intro z;cases z)];exact hds
    rintro t2 H8 ⟨us,k8,dv8,p8,hd8⟩;have m8:=NoM.of hx7 k8;have wd8:=wd7.mv m8;have st8:=st7.mv m8;have ost8:=ost7.mv m8;have lq8:=m8 _ _ lq7 a4w;have due8:=ht7.mv m8;clear wd7 st7 ost7 lq7 ht7 hl7 pl7 m8 k8 hx7;obtain⟨xs,ys,c1,c2,c3,c4⟩:=dv8.eq due8;refine⟨_,rfl,1,t2,t,xs,ys,rfl,rfl,SqT.of c1,SqT.of c2,c3,c4,hu1,_,rfl,a1R ?_⟩;clear c1 c2 c3 c4 xs ys dv8;refine⟨_,rfl,_,rfl,_,rfl,_,rfl,_,rfl,_,rfl,d,lc,kd,nh,n2,ln,kk,A',rfl,wd8.ln,wd8.nm,st8,k4,ag,ok,fun th us9 H9 s9 ht9 hu9=>?_⟩;have wd9:=wd8.same s9;refine⟨d,fo,th,sz,k0,k1,k2,k3,us9,kk,1+i+1,A',rfl,wd9.fm,wd9.ky,ht9.same a0z,hu9,rs,k4,op.iv,(by omega),fun t3 H10 s10 dv10=>?_⟩;have S810:=s9.trans s10;have due10:=due8.same S810;obtain⟨xs,ys,c1,c2,c3,c4⟩:=dv10.eq due10;refine⟨_,rfl,1,t3,t,xs,ys,rfl,rfl,SqT.of c1,SqT.of c2,c3,c4,hu1,_,rfl,a1R ?_⟩;clear c1 c2 c3 c4 xs ys dv10 due8;have p10:=p8.same S810;have wd10:=wd9.same s10;have lq10:=S810 _ _ lq8;have st10:=st8.mv (a0k.noM S810);have ost10:=ost8.mv (a0k.noM S810);clear wd8 wd9 ht9 hu9 st8 ost8 p8 lq8 S810 s9 s10;refine⟨fun σ' H'=>H'=H10/\∃hd' sm' A2,(∃u12 u13 u14 u15 u16,σ'=[some (.ref a),some (.ref ln),some (.ref lc),some (.ref kd),some (.int sz),some (.int dr),some (.ref kl),some (.int bs),some (.ref fo),some (.ref x),some (.ref hd'),some (.ref sm'),u12,u13,u14,u15,u16])/\StA H10 hd' sm' kk A2/\Hds d us A2/\Iv kk (1+(i+1)) A2/\a5k d A2=none,?_,?_⟩
    ·cases hdu:a5k d A' with
     |none=>
      rw[hdu] at due10;rw[if_pos hdu] at hd8;obtain⟨e0,b1,b2⟩:=due10;refine⟨_,rfl,t,_,0,_,rfl,rfl,SqT.of b1,rfl,rfl,_,rfl,a6n (dT0 rfl) ?_⟩;refine⟨_,rfl,_,rfl,?_⟩;exact⟨rfl,nh,n2,A',⟨_,_,_,_,_,rfl⟩,st10,hd8,op.iv.up (by omega),hdu⟩
     |some b=>
      rw[hdu] at due10;rw[if_neg (by rw[hdu];intro z;cases z)] at hd8;refine⟨_,rfl,t,_,0,_,rfl,rfl,SqT.of due10,rfl,rfl,_,rfl,a2H (dF0 (by intro e;injection e with e;revert e;decide +kernel)) ?_⟩;exact⟨rfl,hd,sm,A,⟨_,_,_,_,_,rfl⟩,ost10,hd8,iv.up (by omega),hdue⟩
    rintro σ' _ ⟨rfl,hd',sm',A2,⟨u12,u13,u14,u15,u16,rfl⟩,st11,hd11,iv11,due11⟩;refine⟨_,rfl,_,rfl,_,rfl,_,rfl,_,rfl,_,rfl,d,lc,kd,hd',sm',ln,kk,A2,rfl,wd10.ln,wd10.nm,st11,k4,(fun e he=>by have:=iv11.le e he;omega),ok,fun th2 us2 H12 s12 ht12 hu12=>?_⟩;have al:A2.length<=4:=by have:=iv11.len;omega
    refine⟨_,rfl,x,th2,ln,sz,_,us,us2,[d.T0,d.T1],rfl,p10.same s12,ht12.same a0z,(fun k=>?_),?_,s12 _ _ wd10.ln,(fun z hz=>⟨hz,fun u hum=>?_⟩),(fun T=>?_),fun H13 s13=>⟨_,rfl,a1R ?_⟩⟩
    ·rw[hu12,hd11 k]
     exact(a9a (pcG d) A2 k).symm
    ·have:=congrArg List.length hu12
     unfold cA at this;rw[lM0,lM0] at this
     omega
    ·obtain⟨g,_,e1⟩:=b6a hu12 hum
     rw[e1];exact hz
    ·rw[hu12]
     exact a6v ok k4 (by omega) iv11 T
    have S13:=s12.trans s13;exact⟨S13 _ _ lq10,wd10.same S13,hd',sm',A2,us,⟨_,_,_,_,_,rfl⟩,p10.same S13,st11.mv (a0k.noM S13),iv11,hd11,due11⟩
   ·rintro σ H3 ⟨_,wd3,hd,sm,A,es,⟨u12,u13,u14,u15,u16,rfl⟩,pl3,st3,iv,hds,hdue⟩
    exact q _
end
end My
namespace L2
open PySem PySem.Spec PyProof.Rows
def a4p (K:Fg0)(C:Addr)(m qual:Str)(st:Stmt):Prop:=∃f fd,Fun K m qual st f fd/\a6U K C m f
theorem a2b {K:Fg0}{C f:Addr}{m qual:Str}{st:Stmt}{oc:Value}{od an:Option Addr}{osl:Array (Option Value)}{kV doc pm cdv ct:Value}(a:PySem.W.findIn K (.ref C) m=some (some (.ref f)))(i:PySem.W.isFn K (.ref f)=true)
  (l:K.lookup f=some ⟨oc,od,.func (PySem.W.fnOf m qual (a0Q st) (a0K st) (a0g st) .none kV doc pm an cdv ct),osl⟩) (c:PySem.W.codeIn K cdv qual=true) (k:PySem.W.keepIn K (.ref f)=true):a4p K C m qual st:=
 ⟨f,_,a6Z l c k,⟨a,i,k⟩⟩
end L2
namespace My
open PySem L2
theorem all_mk {l:PySem.W.OpenLaw}{w:World}{K:Fg0}{h:Heap}{mg:Str->Option Value}{fa CT CO CM CP sA fI fA:Addr}{tw tm:Tok}{nK:Nat}{odS:Option Addr}{slS:Array (Option Value)}{ic ik idoc ipm icd ict ocA dVA kVA docA pmA cdA ctA:Value}{id1 ian odA anA:Option Addr}{isl slA:Array (Option Value)}(X:K.In h)(G:h.Ns mainGlobals mg)(hfa:mg "law"=some (.ref fa))
  (aT:PySem.W.nsIn K mainGlobals "TableError"=some (some (.ref CT)))
  (aO:PySem.W.nsIn K mainGlobals "NoTable"=some (some (.ref CO)))
  (aM:PySem.W.nsIn K mainGlobals "Twice"=some (some (.ref CM)))
  (aP:PySem.W.nsIn K mainGlobals "Plain"=some (some (.ref CP)))
  (xO:XCl K CO)
  (xM:XCl K CM)
  (bs:PySem.W.specialIn K (.ref CT) "__getattribute__"=some (some (.builtin "type.__getattribute__")))
  (br:PySem.W.readsIn K CT (.type "type")=true)
  (bf:PySem.W.findCls K (.ref CT) (.type "type") "__init__"=some (.val (.builtin "ValueError.__init__")))
  (n1:PySem.W.findIn K (.ref CO) "table"=some none)
  (m1:PySem.W.findIn K (.ref CM) "table"=some none)
  (n2:PySem.W.findIn K (.ref CO) "key"=some none)
  (m2:PySem.W.findIn K (.ref CM) "key"=some none)
  (n3:PySem.W.findIn K (.ref CO) "place"=some none)
  (m3:PySem.W.findIn K (.ref CM) "place"=some none)
  (ni:PySem.W.findIn K (.ref CO) "__init__"=some (some (.ref fI)))
  (nj:PySem.W.findIn K (.ref CM) "__init__"=some (some (.ref fI)))
  (nf:PySem.W.isFn K (.ref fI)=true)
  (nl:K.lookup fI=some ⟨ic,id1,.func (PySem.W.fnOf "__init__" "StepError.__init__" (a0Q (a0p (top 2) 0)) (a0K (a0p (top 2) 0)) (a0g (a0p (top 2) 0)) .none ik idoc ipm ian icd ict),isl⟩)
  (nc:PySem.W.codeIn K icd "StepError.__init__"=true)
  (nk:PySem.W.keepIn K (.ref fI)=true)
  (u2:PySem.W.mroIn K CM (.ref CM)=some true)
  (gS:PySem.W.nsIn K mainGlobals "LONE_SORTS"=some (some (.ref sA)))
  (lS:K.lookup sA=some ⟨.type "tuple",odS,.seq #[.str "head" tw,.str "twin" tm] nK,slS⟩)
  (pg:PySem.W.plainGet K CP Str.empty=true)
  (hd:PySem.W.hasDictIn K CP=true)
  (po:PySem.W.plainOver K CP=true)
  (psa:PySem.W.findIn K (.ref CP) "__setattr__"=some (some (.builtin "object.__setattr__")))
  (mk:PySem.W.makesIn K CP=true)
  (kc:PySem.W.keepIn K (.ref CP)=true)
  (cF:PySem.W.findIn K (.ref CP) "form"=some none)
  (cT:PySem.W.findIn K (.ref CP) "things"=some none)
  (iA:PySem.W.findIn K (.ref CP) "__init__"=some (some (.ref fA)))
  (jA:PySem.W.isFn K (.ref fA)=true)
  (lA:K.lookup fA=some ⟨ocA,odA,.func (PySem.W.fnOf "__init__" "Plain.__init__" (a0Q (a0p (top 26) 0)) (a0K (a0p (top 26) 0)) (a0g (a0p (top 26) 0)) dVA kVA docA pmA anA cdA ctA),slA⟩)
  (cA:PySem.W.codeIn K cdA "Plain.__init__"=true)
  (kA:PySem.W.keepIn K (.ref fA)=true)
  (qA:∀(u v:Value) (S:Setting),PySem.W.peek K S (bindArgs (PySem.W.fnOf "__init__" "Plain.__init__" (a0Q (a0p (top 26) 0)) (a0K (a0p (top 26) 0)) (a0g (a0p (top 26) 0)) dVA kVA docA pmA anA cdA ctA) ⟨[u,v],[]⟩)=some ([("self",u),("form",v),("things",.none)]:List (Str×Value)))
  (pA:∀(u v x:Value) (S:Setting),PySem.W.peek K S (bindArgs (PySem.W.fnOf "__init__" "Plain.__init__" (a0Q (a0p (top 26) 0)) (a0K (a0p (top 26) 0)) (a0g (a0p (top 26) 0)) dVA kVA docA pmA anA cdA ctA) ⟨[u,v,x],[]⟩)=some ([("self",u),("form",v),("things",x)]:List (Str×Value)))
  (h1:a4p K CP "write" "Plain.write" (a0p (top 26) 1))
  (h2:a4p K CP "by_place" "Plain.by_place" (a0p (top 26) 2))
  (h3:a4p K CP "things_behind" "Plain.things_behind" (a0p (top 26) 3))
  (h5:a4p K CP "rows" "Plain.rows" (a0p (top 26) 5))
  (h7:a4p K CP "held" "Plain.held" (a0p (top 26) 7))
  (d12:a1e K "is_whole" (top 12))
  (d13:a1e K "fits" (top 13))
  (d15:a1e K "fits_plain" (top 15))
  (d18:a1e K "tables_of" (top 18))
  (d20:a1e K "sort_of" (top 20))
  (d21:a1e K "columns_of" (top 21))
  (d22:a1e K "table_in" (top 22))
  (d23:a1e K "is_row" (top 23))
  (d24:a1e K "copied" (top 24))
  (d27:a1e K "ask_step" (top 27))
  (d28:a1e K "do_step" (top 28))
  (d29:a1e K "has_rows" (top 29))
  (d30:a1e K "piece_of" (top 30))
  (d31:a1e K "ask_thing" (top 31))
  (d32:a1e K "ask_places" (top 32))
  (d33:a1e K "ask_whole_table" (top 33))
  (d34:a1e K "columns_by_sort" (top 34))
  (d35:a1e K "ask_once" (top 35))
  (d37:a1e K "rows_in" (top 37))
  (d39:a1e K "_law_cell" (top 39))
  (d40:a1e K "_law_names" (top 40))
  (d41:a1e K "_law_values" (top 41))
  (d42:a1e K "_law_head_row" (top 42))
  (d43:a1e K "_law_things" (top 43))
  (d44:a1e K "_law_steps" (top 44))
  (d45:a1e K "_law_first_twice" (top 45))
  (d46:a1e K "_law_due" (top 46))
  (d47:a1e K "_law_written" (top 47))
  (d48:a1e K "_law_made" (top 48))
  (d49:a1e K "_law_tells" (top 49))
  (d50:a1e K "_law_form" (top 50))
  (d51:a1e K "law" (top 51))
  (zb:BlK K) :
  ∃fd:FuncData,(∀(s:Shared) (v:Value),BindsTo s fd ⟨[v],[]⟩ [("_law_script",v)])/\∀base:Heap,K.In base->base.Ns mainGlobals mg->a0A l.prog w K mg base CX0 8 fa fd ["_law_script"] (b2w K):=by
 have B:Bl mg:=zb.bl X G;have T:Tx K mg CT CO CM:=⟨PySem.W.mg_of X G aT,⟨bs,br,bf⟩,PySem.W.mg_of X G aO,xO,n1,n2,n3,PySem.W.mg_of X G aM,xM,m1,m2,m3⟩;have R:Xf K mg CM:=⟨PySem.W.mg_of X G aM,xM,m1,m2,m3,⟨xM,u2⟩⟩;have LN:Ln K mg sA:=⟨PySem.W.mg_of X G gS,fun H=>.inr ⟨_,_,_,lS,rfl,rfl,(by show 2<=sizeLine;decide),.cons ⟨tw,rfl⟩ (.cons ⟨tm,rfl⟩ .nil)⟩⟩;have FI:Fun K "__init__" "StepError.__init__" (a0p (top 2) 0) fI _:=a6Z nl nc nk;have bI:=FI.b4 "self" "table" "key" "place" (by intros;rfl);have L:ClP K CP:=⟨⟨pg,hd,po,psa⟩,cF,cT⟩;have F0:=b4T (st:=a0p (top 26) 0) lA cA kA;have b0:a1g K (PySem.W.fnOf "__init__" "Plain.__init__" (a0Q (a0p (top 26) 0)) (a0K (a0p (top 26) 0)) (a0g (a0p (top 26) 0)) dVA kVA docA pmA anA cdA ctA) ["self","form","things"] []:=fun s us kin hl=>by
  have h1:us.length=3:=by simpa using hl
  match us,h1 with
  |[u,v,x],_=>exact PySem.W.kp_binds kin (pA u v x)
 have b01:a1g K (PySem.W.fnOf "__init__" "Plain.__init__" (a0Q (a0p (top 26) 0)) (a0K (a0p (top 26) 0)) (a0g (a0p (top 26) 0)) dVA kVA docA pmA anA cdA ctA) ["self","form","things"] [Value.none]:=fun s us kin hl=>by
  have h1:us.length=2:=by simpa using hl
  match us,h1 with
  |[u,v],_=>exact PySem.W.kp_binds kin (qA u v)
 obtain⟨g1,gd1,F1,M1⟩:=h1;obtain⟨g2,gd2,F2,M2⟩:=h2;obtain⟨g3,gd3,F3,M3⟩:=h3;obtain⟨g5,gd5,F5,M5⟩:=h5;obtain⟨g7,gd7,F7,M7⟩:=h7;have b1:=F1.b2 "self" "steps" (by intros;rfl);have b5:=F5.b2 "self" "table" (by intros;rfl);have b7:=F7.b1 "self" (by intros;rfl);obtain⟨f12,fd12,D12⟩:=d12.df X G;obtain⟨f13,fd13,D13⟩:=d13.df X G;obtain⟨f15,fd15,D15⟩:=d15.df X G;obtain⟨f18,fd18,D18⟩:=d18.df X G;obtain⟨f20,fd20,D20⟩:=d20.df X G;obtain⟨f21,fd21,D21⟩:=d21.df X G;obtain⟨f22,fd22,D22⟩:=d22.df X G;obtain⟨f23,fd23,D23⟩:=d23.df X G;obtain⟨f24,fd24,D24⟩:=d24.df X G;obtain⟨f27,fd27,D27⟩:=d27.df X G;obtain⟨f28,fd28,D28⟩:=d28.df X G;obtain⟨f29,fd29,D29⟩:=d29.df X G;obtain⟨f30,fd30,D30⟩:=d30.df X G;obtain⟨f31,fd31,D31⟩:=d31.df X G;obtain⟨f32,fd32,D32⟩:=d32.df X G;obtain⟨f33,fd33,D33⟩:=d33.df X G;obtain⟨f34,fd34,D34⟩:=d34.df X G;obtain⟨f35,fd35,D35⟩:=d35.df X G;obtain⟨f37,fd37,D37⟩:=d37.df X G;obtain⟨f39,fd39,D39⟩:=d39.df X G;obtain⟨f40,fd40,D40⟩:=d40.df X G;obtain⟨f41,fd41,D41⟩:=d41.df X G;obtain⟨f42,fd42,D42⟩:=d42.df X G;obtain⟨f43,fd43,D43⟩:=d43.df X G;obtain⟨f44,fd44,D44⟩:=d44.df X G;obtain⟨f45,fd45,D45⟩:=d45.df X G;obtain⟨f46,fd46,D46⟩:=d46.df X G;obtain⟨f47,fd47,D47⟩:=d47.df X G;obtain⟨f48,fd48,D48⟩:=d48.df X G;obtain⟨f49,fd49,D49⟩:=d49.df X G;obtain⟨f50,fd50,D50⟩:=d50.df X G;obtain⟨f,oc,od,kV,doc,pm,an,cdv,ct,osl,a,lk,c,k⟩:=d51;have e:=hfa.symm.trans (PySem.W.mg_of X G a);cases e;refine⟨PySem.W.fnOf "law" "law" (a0Q (top 51)) (a0K (top 51)) (a0g (top 51)) .none kV doc pm an cdv ct,fun s v=>.of_eq rfl,fun base _ _=>?_⟩;have GP:=b1g (P:=l.prog) (w:=w) (base:=base) D35.fn B D37 T FI.x ⟨xM,nj,nf⟩ bI;have GAW:=b4Q (fR:=f35) (fN:=f35) (fdR:=fd35) (fdN:=fd35) (P:=l.prog) (w:=w) (base:=base) D33.fn B D34 D18 D21 D22 D35 GP;have W:Wr l.prog w K mg base CP CM f27 f28 f31 f33 g2 g3 fd27 fd28 fd31 fd33 gd2 gd3:=⟨a7P D27.fn B LN D18 D21 D22 D12 D15 D13 D23 D20,b7L D28.fn B,b3D D31.fn B LN D29 D18 D22 D20 D32,GAW,b4r F2 B L D18,a9e F3 B L D29 D30,M2,M3⟩;have GW:a0A l.prog w K mg base (CX1 l.prog w) 6 g1 gd1 ["self","steps"] (a4Y CP CM):=b2q F1 B L W D27 D28 D31 D33 F2 F3;exact b5q (a6Z lk c k) B D39 D40 D41 D42 D43 D44 D45 D46 D47 D48 D49 D50 R L ⟨mk,iA,jA,kc⟩ (PySem.W.mg_of X G aP) (b2b F0 B L D24 D33 GAW) b0 b01 M7 (b3G F7 B L) b7 M5 (b3Q F5 B L D18 D37) b5 M1 GW b1
end My
namespace PySem.W.Fast
def tw15858981428600766767:Unit:=()
def tw10578255783273027526:Unit:=()
def tw6602877102616128552:Unit:=()
def tw16879756387083853067:Unit:=()
def tw7717738669993926106:Unit:=()
def tw13521603618377737704:Unit:=()
def tw5761039060036176793:Unit:=()
def tw4955922468994613141:Unit:=()
def tw8392761288780452312:Unit:=()
def tw14921347742812682221:Unit:=()
def tw16536448030369337760:Unit:=()
def tw18236015958771659546:Unit:=()
def tw13760316173678042842:Unit:=()
def tw17892957763469729984:Unit:=()
def tw7585920005690178647:Unit:=()
def tw15609968700106256404:Unit:=()
def tw1549246993117351570:Unit:=()
def tw8576359726180677480:Unit:=()
def tw9246616111406434435:Unit:=()
def tw14351265916554660078:Unit:=()
def tw16412130974906324123:Unit:=()
def tw1458070192213769435:Unit:=()
def tw4783671893745430338:Unit:=()
def tw2085118900308211542:Unit:=()
def tw4991262103073262942:Unit:=()
def tw12940259133885764913:Unit:=()
def tw7199770348039994735:Unit:=()
def tw6094177190568688139:Unit:=()
def tw4449476448562637777:Unit:=()
def tw10001024558201369759:Unit:=()
def tw11610651593663985627:Unit:=()
def tw14513391341031369563:Unit:=()
def tw11802562892454918971:Unit:=()
def tw5866288569104604939:Unit:=()
def tw57716761423851029:Unit:=()
def tw6200174626573003996:Unit:=()
def tw12860419926762608161:Unit:=()
def tw12078441333397671212:Unit:=()
def tw8275003120721579540:Unit:=()
def tw7270096029578205832:Unit:=()
def tw5182920677489884792:Unit:=()
def tw5459371316282173266:Unit:=()
def tw558870661538666658:Unit:=()
def tw9538422378458315591:Unit:=()
def tw5856775140847511844:Unit:=()
def tw4065898667116940906:Unit:=()
def tw4963905426405675682:Unit:=()
def tw8917632609463055462:Unit:=()
def tw5103517806076552659:Unit:=()
def tw4472793286616012762:Unit:=()
def tw13073652483239556082:Unit:=()
def tw17741141242752996707:Unit:=()
def tw17588643864845546069:Unit:=()
def tw3553928228554944456:Unit:=()
def tw4591907357601995613:Unit:=()
def tw144654469787175522:Unit:=()
def tw17616263885287308560:Unit:=()
def tw10544099523701015471:Unit:=()
def tw9105782848851781941:Unit:=()
def tw147857633088584850:Unit:=()
def tw17752226636509174760:Unit:=()
def tw9374997647223058575:Unit:=()
def tw15117617273441956921:Unit:=()
def tw9689945538420482711:Unit:=()
def tw10578070057440005447:Unit:=()
def tw11255558746092253939:Unit:=()
def tw8193761480248433042:Unit:=()
def tw14839161076050232827:Unit:=()
def tw12717625414760962954:Unit:=()
def tw2064744323003514117:Unit:=()
def tw4595487407272571603:Unit:=()
def tw9099422983807287148:Unit:=()
def tw13669193964037458006:Unit:=()
def tw13966109345380961284:Unit:=()
def tw10457267917122866795:Unit:=()
def tw17396771017320936574:Unit:=()
def tw16378735809838515221:Unit:=()
def tw14746942009598631662:Unit:=()
def tw9215967322777063811:Unit:=()
def tw7348582926995361541:Unit:=()
def tw18108875378374438185:Unit:=()
def tw18164447941858126316:Unit:=()
def tw3590042913139810627:Unit:=()
def tw18177736933920296389:Unit:=()
def tw14609314843158490115:Unit:=()
def tw14759743518255609787:Unit:=()
def tw6060931898103787154:Unit:=()
def tw7398646471947605241:Unit:=()
def tw13620697689200552229:Unit:=()
def tw15566729220158066259:Unit:=()
def tw7594352684211133255:Unit:=()
def tw11870523229370259723:Unit:=()
def tw573654894713003232:Unit:=()
def tw807181982541700010:Unit:=()
def tw15548237853505661583:Unit:=()
def tw2302208636455269421:Unit:=()
def tw355933283936092548:Unit:=()
def tw275535718633733110:Unit:=()
def tw4538963604981526968:Unit:=()
def tw16575135539316912946:Unit:=()
def tw8741619494116070794:Unit:=()
def tw7098334824934196114:Unit:=()
def tw16656551066751485895:Unit:=()
def tw7418150761894196799:Unit:=()
def tw5231257927559544933:Unit:=()
def tw2882719215113057261:Unit:=()
def tw16982596551235270294:Unit:=()
def tw1904296270976199531:Unit:=()
def tw8953712370556381776:Unit:=()
def tw7543145820214277430:Unit:=()
def tw7924226432948528194:Unit:=()
def tw2220287655017498694:Unit:=()
def tw13566399866348686952:Unit:=()
def tw1028577483469950329:Unit:=()
def tw17645690823590915631:Unit:=()
def tw15640675965400500616:Unit:=()
def tw15139695551607400494:Unit:=()
def tw2706455166869835351:Unit:=()
def tw11973256951240598491:Unit:=()
def tw15232696442747463688:Unit:=()
end PySem.W.Fast
open PySem PySem.W PyProof.Rows
set_option maxRecDepth 100000 in
set_option maxHeartbeats 0 in
theorem PySem.Challenge.cw_halfmoved_k17_once_holds : PySem.Challenge.rw_halfmoved_k17_once.Holds := by
 w_on;o_law;k_head;(case hw=>w_witness2)
 k_fill
 refine My.walk 8 (l:=PySem.Challenge.rw_halfmoved_k17_once) ⟨rfl,by decide,by decide⟩ rfl rfl (fun w h Y=>PySem.W.kIn_of Y) ?F
 case F=>
  intro w mg fa h KX G hmg;refine' My.all_mk KX G hmg ?aT ?aO ?aM ?aP ?xO ?xM ?bs ?br ?bf ?n1 ?m1 ?n2 ?m2 ?n3 ?m3 ?ni ?nj ?nf ?nl ?nc ?nk ?u2 ?gS ?lS ?pg ?hd ?po ?psa ?mk ?kc ?cF ?cT ?iA ?jA ?lA ?cA ?kA ?qA ?pA ?h1 ?h2 ?h3 ?h5 ?h7 ?d12 ?d13 ?d15 ?d18 ?d20 ?d21 ?d22 ?d23 ?d24 ?d27 ?d28 ?d29 ?d30 ?d31 ?d32 ?d33 ?d34 ?d35 ?d37 ?d39 ?d40 ?d41 ?d42 ?d43 ?d44 ?d45 ?d46 ?d47 ?d48 ?d49 ?d50 ?d51 ?zb
  (case aT=>k_is)
  (case aO=>k_is)
  (case aM=>k_is)
  (case aP=>k_is)
  (case xO=>refine' L2.b3B ?l ?t ?ga ?gx ?sa ?kp;(case l=>k_is);(case t=>decide +kernel);(case ga=>k_is);(case gx=>k_is);(case sa=>k_is);(case kp=>k_is))
  (case xM=>refine' L2.b3B ?l ?t ?ga ?gx ?sa ?kp;(case l=>k_is);(case t=>decide +kernel);(case ga=>k_is);(case gx=>k_is);(case sa=>k_is);(case kp=>k_is))
  (case bs=>k_is)
  (case br=>k_is)
  (case bf=>k_is)
  (case n1=>k_is)
  (case m1=>k_is)
  (case n2=>k_is)
  (case m2=>k_is)
  (case n3=>k_is)
  (case m3=>k_is)
  (case ni=>k_is)
  (case nj=>k_is)
  (case nf=>k_is)
  (case nl=>k_is)
  (case nc=>k_is)
  (case nk=>k_is)
  (case u2=>k_is)
  (case gS=>k_is)
  (case lS=>k_is)
  (case pg=>k_is)
  (case hd=>k_is)
  (case po=>k_is)
  (case psa=>k_is)
  (case mk=>k_is)
  (case kc=>k_is)
  (case cF=>k_is)
  (case cT=>k_is)
  (case iA=>k_is)
  (case jA=>k_is)
  (case lA=>k_is)
  (case cA=>k_is)
  (case kA=>k_is)
  (case qA=>intro u v S;rfl)
  (case pA=>intro u v x S;rfl)
  (case h1=>refine' L2.a2b ?a ?i ?l ?c ?k;(case a=>k_is);(case i=>k_is);(case l=>k_is);(case c=>k_is);(case k=>k_is))
  (case h2=>refine' L2.a2b ?a ?i ?l ?c ?k;(case a=>k_is);(case i=>k_is);(case l=>k_is);(case c=>k_is);(case k=>k_is))
  (case h3=>refine' L2.a2b ?a ?i ?l ?c ?k;(case a=>k_is);(case i=>k_is);(case l=>k_is);(case c=>k_is);(case k=>k_is))
  (case h5=>refine' L2.a2b ?a ?i ?l ?c ?k;(case a=>k_is);(case i=>k_is);(case l=>k_is);(case c=>k_is);(case k=>k_is))
  (case h7=>refine' L2.a2b ?a ?i ?l ?c ?k;(case a=>k_is);(case i=>k_is);(case l=>k_is);(case c=>k_is);(case k=>k_is))
  (case zb=>refine' My.BlK.mk ?b0 ?b1 ?b2 ?b3 ?b4 ?b5 ?b6 ?b7 ?b8 ?b9 ?b10 ?b11 ?b12 ?b13 ?b14 ?b15;(case b0=>k_is);(case b1=>k_is);(case b2=>k_is);(case b3=>k_is);(case b4=>k_is);(case b5=>k_is);(case b6=>k_is);(case b7=>k_is);(case b8=>k_is);(case b9=>k_is);(case b10=>k_is);(case b11=>k_is);(case b12=>k_is);(case b13=>k_is);(case b14=>k_is);(case b15=>k_is))
  all_goals (refine' L2.b1C ?a ?l ?c ?k;(case a=>k_is);(case l=>k_is);(case c=>k_is);(case k=>k_is))
#print axioms PySem.Challenge.cw_halfmoved_k17_once_holds
