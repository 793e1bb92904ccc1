import PyProof.Rows.All
import Wide.All
import OpenK.AllK
import Wide.FinOn
import Lean
import PyProof.EqAt
import PyProof.EqKinds
import PyProof.TupleCall
import PyProof.StrBlock
import PyProof.StrBlockL
import PyProof.Rows.StrJoin2
import KE.KIntText
import PyProof.StrCalls6
import PyProof.StationsW
import PyProof.RulesTry
import PyProof.InstStoreFacts
import PyProof.ExcBaseAll.ValueError
import PyProof.ExcAttrAll.ValueError
import PyProof.NsDelKeeps
import KE.KTabLook
import PyProof.MeetsStr
import PyProof.ZipIter
import PyProof.TupleIter
import KE.KDictSum
import PyProof.EnumMake
import PyProof.EnumStmt
import KE.KSortTup
import PyProof.NeKinds
import PyProof.AttrMissSeq
import KE.KDictOf
import KE.KLam
import KE.KNestM
import KE.KSortKey
import KE.KRevIter
import PyProof.ListRange
import KE.KPar
import PySem.Challenge.RW_halfmoved_k06_what_is_no_form
set_option Elab.async false
set_option linter.all false
set_option maxRecDepth 100000
set_option maxHeartbeats 4000000
namespace L0
open PySem PySem.Spec PyProof.Rows
theorem gE0:type_of% @List.getElem?_eq_getElem.{0}:=@List.getElem?_eq_getElem.{0}
theorem lM0:type_of% @List.length_map.{0,0}:=@List.length_map.{0,0}
theorem gM0:type_of% @List.getElem?_map.{0,0}:=@List.getElem?_map.{0,0}
theorem hP0:type_of% @PySem.Heap.get?_push_of_some:=@PySem.Heap.get?_push_of_some
theorem wB0:type_of% @wpAny_bind:=@wpAny_bind
theorem wP0:type_of% @wpAny_pure:=@wpAny_pure
theorem lA0:type_of% @List.length_append.{0}:=@List.length_append.{0}
theorem gI0:type_of% @List.mem_of_getElem?.{0}:=@List.mem_of_getElem?.{0}
theorem gS0:type_of% @List.getElem?_eq_some_iff.{0}:=@List.getElem?_eq_some_iff.{0}
theorem mM0:type_of% @List.mem_map.{0,0}:=@List.mem_map.{0,0}
theorem mC0:type_of% @List.map_map.{0,0,0}:=@List.map_map.{0,0,0}
theorem mA0:type_of% @List.map_append.{0,0}:=@List.map_append.{0,0}
theorem nR0:type_of% @Nat.le_refl:=@Nat.le_refl
theorem mS0:type_of% @List.mem_singleton.{0}:=@List.mem_singleton.{0}
theorem hL0:type_of% @PySem.Heap.lt_size:=@PySem.Heap.lt_size
theorem hS0:type_of% @PySem.Heap.get?_push_size:=@PySem.Heap.get?_push_size
theorem nL0:type_of% @Nat.ne_of_lt:=@Nat.ne_of_lt
theorem mN0:type_of% @List.map_cons.{0,0}:=@List.map_cons.{0,0}
theorem bF0:type_of% @Bool.false_ne_true:=@Bool.false_ne_true
theorem lT0:type_of% @List.length_take.{0}:=@List.length_take.{0}
theorem mK0:type_of% @List.mem_cons.{0}:=@List.mem_cons.{0}
theorem mL0:type_of% @List.mem_cons_of_mem.{0}:=@List.mem_cons_of_mem.{0}
theorem gL0:type_of% @List.getElem?_append_left.{0}:=@List.getElem?_append_left.{0}
theorem gR0:type_of% @List.getElem?_append_right.{0}:=@List.getElem?_append_right.{0}
theorem gQ0:type_of% @List.getElem_mem.{0}:=@List.getElem_mem.{0}
theorem dT0:type_of% @decide_eq_true:=@decide_eq_true
theorem dF0:type_of% @decide_eq_false:=@decide_eq_false
theorem zL0:type_of% @Nat.zero_le:=@Nat.zero_le
abbrev Vs0:=Value->Shared->Prop
abbrev Fg0:=PySem.W.Frag
end L0
open L0
namespace L2
theorem ln0 {α:Type}{l:List α}(h:l.length=0):l=[]:=List.eq_nil_of_length_eq_zero h
theorem ln1 {α:Type}{l:List α}(h:l.length=1):∃a,l=[a]:=List.length_eq_one_iff.mp h
theorem ln2 {α:Type}{l:List α}(h:l.length=2):∃a b,l=[a,b]:=by
 cases l with
 |nil=>cases h
 |cons a r=>obtain⟨b,rfl⟩:=ln1 (Nat.succ.inj h);exact⟨a,b,rfl⟩
theorem ln3 {α:Type}{l:List α}(h:l.length=3):∃a b c,l=[a,b,c]:=by
 cases l with
 |nil=>cases h
 |cons a r=>obtain⟨b,c,rfl⟩:=ln2 (Nat.succ.inj h);exact⟨a,b,c,rfl⟩
theorem ln4 {α:Type}{l:List α}(h:l.length=4):∃a b c d,l=[a,b,c,d]:=by
 cases l with
 |nil=>cases h
 |cons a r=>obtain⟨b,c,d,rfl⟩:=ln3 (Nat.succ.inj h);exact⟨a,b,c,d,rfl⟩
end L2
namespace L2
open PySem PySem.Spec PyProof.Rows
abbrev Key:=Sum Int Str
def a6Y:Key->Value->Bool
 | .inl k,v=>Value.isInt k v
 | .inr x,v=>Value.isStrOf x v
def keyH (w:World):Key->Int
 | .inl k=>hashInt k
 | .inr x=>hashStr w x
theorem a0I:∀{k:Key} {v:Value},a6Y k v=true->(∃i t,k=Sum.inl i/\v=Value.int i t)\/(∃x t,k=Sum.inr x/\v=Value.str x t)
 | .inl i,v,h=>by
  obtain⟨t,e⟩:=Value.isInt_shape (k:=i) (v:=v) h;exact .inl ⟨i,t,rfl,e⟩
 | .inr x,v,h=>by
  obtain⟨t,e⟩:=Value.isStrOf_shape (x:=x) (v:=v) h;exact .inr ⟨x,t,rfl,e⟩
theorem a7a (i:Int)(t:Tok):a6Y (.inl i) (.int i t)=true:=by simp[a6Y,Value.isInt]
theorem a8B (x:Str)(t:Tok):a6Y (.inr x) (.str x t)=true:=by simp[a6Y,Value.isStrOf]
theorem b2k (a b:Int):decide ((Sum.inl a:Key)=Sum.inl b)=(a==b):=by
 by_cases e:a=b
 ·subst e;simp
 ·have h:¬(Sum.inl a:Key)=Sum.inl b:=fun q=>e (Sum.inl.inj q)
  rw[dF0 h];exact(beq_eq_false_iff_ne.mpr e).symm
theorem b2D (a b:Str):decide ((Sum.inr a:Key)=Sum.inr b)=decide (a=b):=by
 by_cases e:a=b
 ·subst e;simp
 ·have h:¬(Sum.inr a:Key)=Sum.inr b:=fun q=>e (Sum.inr.inj q)
  rw[dF0 h,dF0 e]
theorem b2g (a:Int)(b:Str):decide ((Sum.inl a:Key)=Sum.inr b)=false:=dF0 (fun q=>nomatch q)
theorem b2d (a:Str)(b:Int):decide ((Sum.inr a:Key)=Sum.inl b)=false:=dF0 (fun q=>nomatch q)
def a0H (prog:Program)(w:World):PySem.KeyKind prog w Key where
 is:=a6Y
 hash:=keyH w
 inj:=fun v a b ha hb=>by
  rcases a0I ha with ⟨i,t,rfl,rfl⟩ |⟨x,t,rfl,rfl⟩
  ·rcases a0I hb with ⟨j,u,rfl,e⟩ |⟨y,u,rfl,e⟩
   ·injection e with e1 _;rw[e1]
   ·exact nomatch e
  ·rcases a0I hb with ⟨j,u,rfl,e⟩ |⟨y,u,rfl,e⟩
   ·exact nomatch e
   ·injection e with e1 _;rw[e1]
 byValue:=fun k v h=>by
  rcases a0I h with ⟨i,t,rfl,rfl⟩ |⟨x,t,rfl,rfl⟩<;>rfl
 pyHash:=fun hv h=>by
  rcases a0I hv with ⟨i,t,rfl,rfl⟩ |⟨x,t,rfl,rfl⟩
  ·exact wpAny_pyHash_int h
  ·exact wpAny_pyHash_str h
 eqBool:=fun hu hv h=>by
  rcases a0I hu with ⟨i,t,rfl,rfl⟩ |⟨x,t,rfl,rfl⟩
  ·rcases a0I hv with ⟨j,u,rfl,rfl⟩ |⟨y,u,rfl,rfl⟩
   ·rw[b2k] at h;exact wpAny_eqBool_int h
   ·rw[b2g] at h;exact SeqAt.EqAt.int_str i t y u _ _ _ _ h
  ·rcases a0I hv with ⟨j,u,rfl,rfl⟩ |⟨y,u,rfl,rfl⟩
   ·rw[b2d] at h;exact SeqAt.EqAt.str_int x t j u _ _ _ _ h
   ·rw[b2D] at h;exact wpAny_eqBool_str h
 «strs»:=fun k x t v h=>by
  rcases a0I h with ⟨i,u,rfl,e⟩ |⟨y,u,rfl,e⟩
  ·exact nomatch e
  ·injection e with e1 _
   subst e1;cases v<;>rfl
theorem a5z (prog:Program)(w:World)(i:Int)(t:Tok):(a0H prog w).is (.inl i) (.int i t)=true:=a7a i t
theorem a5u (prog:Program)(w:World)(x:Str)(t:Tok):(a0H prog w).is (.inr x) (.str x t)=true:=a8B x t
inductive V where
 |non |bl (b:Bool) |int (i:Int) |str (x:Str) |byt (b:Array UInt8) |flt (b:UInt64) |ref (a:Addr) |ty (n:String)
 deriving DecidableEq
def a0X:V->Value->Prop
 | .non,u=>u=Value.none
 | .bl b,u=>u=Value.bool b
 | .int i,u=>∃t,u=Value.int i t
 | .str x,u=>∃t,u=Value.str x t
 | .byt b,u=>∃t,u=Value.bytes b t
 | .flt b,u=>∃t,u=Value.float b t
 | .ref a,u=>u=Value.ref a
 | .ty n,u=>u=Value.type n
abbrev a1g:List V->List Value->Prop:=Paired a0X
theorem a1g.length {xs:List V}{us:List Value}(r:a1g xs us):xs.length=us.length:=Paired.length r
theorem a1g.get:∀{xs:List V} {us:List Value} {i:Nat} {x:V},a1g xs us->xs[i]? =some x->∃u,us[i]? =some u/\a0X x u
 |_,_,_,_,.nil,e=>by simp at e
 |_,_,0,_,.cons r _,e=>by simp at e;subst e;exact⟨_,rfl,r⟩
 |_,_,i+1,x,.cons _ t,e=>by
  obtain⟨u,h1,h2⟩:=a1g.get (i:=i) (x:=x) t (by simpa using e);exact⟨u,by simpa using h1,h2⟩
theorem a1g.append:∀{xs ys:List V} {us ws:List Value},a1g xs us->a1g ys ws->a1g (xs++ys) (us++ws)
 |_,_,_,_,.nil,s=>s
 |_,_,_,_,.cons r t,s=>.cons r (a1g.append t s)
theorem a1g.take:∀{xs:List V} {us:List Value} (n:Nat),a1g xs us->a1g (xs.take n) (us.take n)
 |_,_,0,_=>.nil
 |_,_,_+1,.nil=>.nil
 |_,_,n+1,.cons r t=>.cons r (a1g.take n t)
theorem a1g.drop:∀{xs:List V} {us:List Value} (n:Nat),a1g xs us->a1g (xs.drop n) (us.drop n)
 |_,_,0,r=>r
 |_,_,_+1,.nil=>.nil
 |_,_,n+1,.cons _ t=>a1g.drop n t
def a5f:Option V->Option Value->Prop
 |some v,some u=>a0X v u
 |none,none=>True
 |_,_=>False
def KV {κ:Type}:List (κ×V)->List (κ×Value)->Prop:=Paired fun(p:κ×V) (q:κ×Value)=>p.1=q.1/\a0X p.2 q.2
def kV:Key->V
 | .inl i=>.int i
 | .inr x=>.str x
inductive HO where
 |lst (xs:List V)
 |tup (xs:List V)
 |dK (kvs:List (Key×V)) |dT (kvs:List (List Key×V))
 |set (S:Int->Bool) (n:Nat)
 |ins (C dx:Addr) (fs:List (Str×V))
 |own (x:Addr)
 |xd (fs:List (Str×V))
 |met (f x:Addr)
 |rng (lo hi:Int)
 |frz (o:Obj) (u:HO)
 |tbl (ps:Array Value)
 |ext (φ:Heap->Prop)
abbrev Hp:=Addr->Option HO
def upd (H:Hp)(a:Addr)(o:HO):Hp:=fun b=>if b=a then some o else H b
theorem a0c {H:Hp}{a:Addr}{o:HO}:upd H a o a=some o:=by unfold upd;rw[if_pos rfl]
theorem a0h {H:Hp}{a b:Addr}{o:HO}(h:b≠a):upd H a o b=H b:=by unfold upd;rw[if_neg h]
theorem b1J {H:Hp}{a:Addr}{o u:HO}:upd (upd H a o) a u=upd H a u:=by
 funext b;unfold upd;split<;>rfl
theorem b3I {H:Hp}{a b:Addr}{o u:HO}(h:H a=some o)(h':H b=some u)(d:o≠u):a≠b:=by
 intro e;subst e;rw[h] at h';exact d (Option.some.inj h')
theorem a0v {H:Hp}{a b:Addr}{o:HO}(h:H a=some o)(h':H b=none):a≠b:=by
 intro e;subst e;rw[h] at h';cases h'
section
variable (P:Program)(w:World)
def a0Z (H:Hp)(h:Heap)(a:Addr):HO->Prop
 | .lst xs=>xs.length<=sizeLine/\∃(its:List Value) (n:Nat),a1g xs its/\h.get? a=some { cls:=.type "list",data:=.seq its.toArray n }
 | .tup xs=>xs.length<=sizeLine/\∃its:List Value,a1g xs its/\IsTup h a its.toArray
 | .dK kvs=>kvs.length<=sizeLine/\(a==sysModules)=false/\∃vs,KV kvs vs/\h.DictOf (a0H P w) a vs
 | .dT kvs=>kvs.length<=sizeLine/\(a==sysModules)=false/\∃xs:List (List Key×Addr×Value),
   Paired (fun(p:List Key×V) (q:List Key×Addr×Value)=>p.1=q.1/\H q.2.1=some (.tup (p.1.map kV))/\a0X p.2 q.2.2) kvs xs ∧
   ∃o es ep,h.get? a=some o/\o.ExactDict/\o.data=.dict es ep/\es.toList=xs.map (entryOfKey (tupleKind (a0H P w)))/\(xs.map (·.1)).Nodup
 | .set S n=>h.SetOf (intKind P w) a S n
 | .ins C dx fs=>H dx=some (.own a)/\fs.length<=1000/\dx≠a/\h.get? a=some (PySem.W.instObj C dx) ∧
   ∃mA,h.Ns1 dx mA/\(∀f,a5f (fs.lookup f) (mA f))/\PySem.Within mA (fs.map (·.1))
 | .own _=>∃o,h.get? a=some o
 | .xd fs=>∃mA,h.Ns1 a mA/\∀f,a5f (fs.lookup f) (mA f)
 | .rng lo hi=>∃t u v,h.get? a=some { cls:=.type "range",data:=.fields #[.int lo t,.int hi u,.int 1 v] }
 | .frz o u=>h.get? a=some o/\a0Z H h a u
 | .tbl ps=>h.get? a=some { cls:=.none,data:=.fields ps }
 | .met f x=>h.get? a=some (PySem.W.methodObj (.ref f) (.ref x))
 | .ext φ=>φ h/\(∃o,h.get? a=some o)/\∀h1 h2:Heap,φ h1->(∀o,h1.get? a=some o->h2.get? a=some o)->φ h2
def HOk (H:Hp)(h:Heap):Prop:=∀a o,H a=some o->a0Z P w H h a o
end
section
variable {P:Program}{w:World}{H H':Hp}{h h':Heap}{a:Addr}{o:HO}
theorem a0Z.lt (x:a0Z P w H h a o):a<h.objs.size:=by
 cases o with
 |lst xs=>obtain⟨_,_,_,_,e⟩:=x;exact hL0 e
 |tup xs=>obtain⟨_,_,_,p⟩:=x;exact p.lt
 |dK kvs=>obtain⟨_,_,_,_,o,_,_,e,_⟩:=x;exact hL0 e
 |dT kvs=>obtain⟨_,_,_,_,o,_,_,e,_⟩:=x;exact hL0 e
 |set S n=>obtain⟨o,_,_,_,e,_⟩:=x;exact hL0 e
 |ins C dx fs=>obtain⟨_,_,_,e,_⟩:=x;exact hL0 e
 |own y=>obtain⟨_,e⟩:=x;exact hL0 e
 |xd fs=>obtain⟨_,⟨_,_,_,e,_⟩,_⟩:=x;exact hL0 e
 |rng lo hi=>obtain⟨_,_,_,e⟩:=x;exact hL0 e
 |frz ob u=>obtain⟨e,_⟩:=x;exact hL0 e
 |tbl ps=>exact hL0 (show h.get? a=some _ from x)
 |met f y=>exact hL0 (show h.get? a=some _ from x)
 |ext φ=>obtain⟨_,⟨_,e⟩,_⟩:=x;exact hL0 e
theorem Paired.mapP {α β:Type}{F G:α->β->Prop}:∀{l₁:List α} {l₂:List β},Paired F l₁ l₂->(∀a b,F a b->G a b)->Paired G l₁ l₂
 |_,_,.nil,_=>.nil
 |_,_,.cons r t,f=>.cons (f _ _ r) (Paired.mapP t f)
theorem a0Z.stay (x:a0Z P w H h a o)(k:∀b u,(b=a\/H b=some (.own a))->h.get? b=some u->h'.get? b=some u)
  (ho:∀b,H b=some (.own a)->H' b=some (.own a)) (ht:∀b xs,H b=some (.tup xs)->H' b=some (.tup xs)):a0Z P w H' h' a o:=by
 induction o with
 |lst xs=>obtain⟨z,its,n,r,e⟩:=x;exact⟨z,its,n,r,k _ _ (.inl rfl) e⟩
 |tup xs=>obtain⟨z,its,r,ob,e,c⟩:=x;exact⟨z,its,r,ob,k _ _ (.inl rfl) e,c⟩
 |dK kvs=>obtain⟨z,y,vs,r,ob,es,ep,e,c⟩:=x;exact⟨z,y,vs,r,ob,es,ep,k _ _ (.inl rfl) e,c⟩
 |dT kvs=>
  obtain⟨z,y,xs,r,ob,es,ep,e,c⟩:=x;exact⟨z,y,xs,Paired.mapP r fun p q z=>⟨z.1,ht _ _ z.2.1,z.2.2⟩,ob,es,ep,k _ _ (.inl rfl) e,c⟩
 |set S n=>obtain⟨ob,es,ep,t,e,c⟩:=x;exact⟨ob,es,ep,t,k _ _ (.inl rfl) e,c⟩
 |ins C dx fs=>
  obtain⟨d,z,ne,e,mA,⟨od,es,ep,e2,c⟩,r⟩:=x;exact⟨ho _ d,z,ne,k _ _ (.inl rfl) e,mA,⟨od,es,ep,k _ _ (.inr d) e2,c⟩,r⟩
 |own y=>obtain⟨ob,e⟩:=x;exact⟨ob,k _ _ (.inl rfl) e⟩
 |xd fs=>obtain⟨mA,⟨od,es,ep,e,c⟩,r⟩:=x;exact⟨mA,⟨od,es,ep,k _ _ (.inl rfl) e,c⟩,r⟩
 |rng lo hi=>obtain⟨t,u,v,e⟩:=x;exact⟨t,u,v,k _ _ (.inl rfl) e⟩
 |frz ob u ih=>obtain⟨e,q⟩:=x;exact⟨k _ _ (.inl rfl) e,ih q⟩
 |tbl ps=>
  have e:h.get? a=some { cls:=.none,data:=.fields ps }:=x;show h'.get? a=some { cls:=.none,data:=.fields ps };exact k a _ (.inl rfl) e
 |met f y=>
  have e:h.get? a=some (PySem.W.methodObj (.ref f) (.ref y)):=x;show h'.get? a=some (PySem.W.methodObj (.ref f) (.ref y));exact k a _ (.inl rfl) e
 |ext φ=>obtain⟨p,⟨o,e⟩,st⟩:=x;exact⟨st _ _ p fun o q=>k _ _ (.inl rfl) q,⟨o,k _ _ (.inl rfl) e⟩,st⟩
theorem HOk.lt (x:HOk P w H h)(e:H a=some o):a<h.objs.size:=(x a o e).lt
theorem HOk.fresh (x:HOk P w H h)(e:h.objs.size<=a):H a=none:=by
 cases q:H a with
 |none=>rfl
 |some u=>exact absurd (Nat.lt_of_lt_of_le (x.lt q) e) (Nat.lt_irrefl _)
theorem HOk.kept (x:HOk P w H h)(k:∀b u,h.get? b=some u->h'.get? b=some u):HOk P w H h':=fun a o e=>
 (x a o e).stay (fun b u _ q=>k b u q) (fun _ q=>q) fun _ _ q=>q
theorem HOk.laid (x:HOk P w H h)(k:∀b u,h.get? b=some u->h'.get? b=some u)(hp:h.objs.size<=a)(new:a0Z P w (upd H a o) h' a o):HOk P w (upd H a o) h':=fun b u e=>by
 have hn:=x.fresh hp
 by_cases hb:b=a
 ·subst hb;rw[a0c] at e;cases e;exact new
 ·rw[a0h hb] at e
  exact(x b u e).stay (fun c v _ q=>k c v q) (fun c q=>by rw[a0h (a0v q hn)];exact q) fun c xs q=>by rw[a0h (a0v q hn)];exact q
end
def Rd (H:Hp)(a:Addr)(u:HO):Prop:=H a=some u\/∃o,H a=some (.frz o u)
theorem Rd.ok {P:Program}{w:World}{H:Hp}{h:Heap}{a:Addr}{u:HO}(r:Rd H a u)(x:HOk P w H h):a0Z P w H h a u:=by
 rcases r with r |⟨o,r⟩
 ·exact x a u r
 ·obtain⟨_,q⟩:=x a _ r
  exact q
def Mut:Option HO->Prop
 |some (.lst _)=>True
 |some (.dK _)=>True
 |some (.dT _)=>True
 |some (.set _ _)=>True
 |some (.ins _ _ _)=>True
 |some (.ext _)=>True
 |_=>False
section
variable {P:Program}{w:World}{H:Hp}{h h':Heap}{x e:Addr}{o':HO}
theorem HOk.write (ok:HOk P w H h)(mu:Mut (H x))(he:e=x\/H e=some (.own x))(k:∀b u,b≠e->h.get? b=some u->h'.get? b=some u)(heo:∃u,h'.get? e=some u)
  (new:a0Z P w (upd H x o') h' x o'):HOk P w (upd H x o') h':=fun b u q=>by
 have nown:∀c y,H c=some (.own y)->c≠x:=fun c y r z=>by subst z;rw[r] at mu;exact mu
 have ntup:∀c xs,H c=some (.tup xs)->c≠x:=fun c xs r z=>by subst z;rw[r] at mu;exact mu
 by_cases hb:b=x
 ·subst hb;rw[a0c] at q;cases q;exact new
 ·rw[a0h hb] at q
  by_cases hbe:b=e
  ·have q':H b=some (.own x):=by
    rcases he with z |z
    ·exact absurd (hbe.trans z) hb
    ·rw[hbe];exact z
   rw[q] at q';cases q';obtain⟨v,hv⟩:=heo;exact⟨v,by rw[hbe];exact hv⟩
  ·refine(ok b u q).stay (fun c v hc r=>k c v ?_ r) (fun c r=>by rw[a0h (nown c b r)];exact r) fun c xs r=>by rw[a0h (ntup c xs r)];exact r
   rcases hc with rfl |hc
   ·exact hbe
   ·rintro rfl
    rcases he with z |z
    ·exact nown c b hc z
    ·rw[hc] at z;cases z;exact hb rfl
end
structure Un (fs ex:List Addr) (H H':Hp) (h h':Heap):Prop where
 keep:∀b o,h.get? b=some o->H b=none->b∉fs->b∉ex->h'.get? b=some o
 slot:∀b o,h.get? b=some o->H b=none->b∈fs->b∉ex->∃sl,h'.get? b=some { o with slots:=sl }
 free:∀b o,h.get? b=some o->H b=none->b∉ex->H' b=none
 there:∀b o,h.get? b=some o->b∉ex->∃o',h'.get? b=some o'
 tups:∀b xs,H b=some (.tup xs)->H' b=some (.tup xs)
 frzs:∀b o u,H b=some (.frz o u)->H' b=some (.frz o u)
 tbls:∀b ps,H b=some (.tbl ps)->∃more,H' b=some (.tbl (ps++more))
section
variable {fs fs' ex ex':List Addr}{H H1 H2:Hp}{h h1 h2 h':Heap}{a x e:Addr}{o:HO}
theorem Un.any (u:Un fs ex H H1 h h1){b:Addr}{ob:Obj}(q:h.get? b=some ob)(n:H b=none)(hx:b∉ex):∃sl,h1.get? b=some { ob with slots:=sl }:=by
 by_cases hb:b∈fs
 ·exact u.slot b ob q n hb hx
 ·exact⟨ob.slots,u.keep b ob q n hb hx⟩
theorem Un.kept (k:∀b u,h.get? b=some u->h'.get? b=some u):Un fs ex H H h h':=
 ⟨fun b ob q _ _ _=>k b ob q,fun b ob q _ _ _=>⟨ob.slots,k b ob q⟩,fun _ _ _ n _=>n,fun b ob q _=>⟨ob,k b ob q⟩,fun _ _ q=>q,fun _ _ _ q=>q,fun _ ps q=>⟨#[],by rw[q];simp⟩⟩
theorem Un.refl:Un fs ex H H h h:=Un.kept fun _ _ q=>q
theorem Un.laid (k:∀b u,h.get? b=some u->h'.get? b=some u)(hp:h.objs.size<=a)(hn:H a=none):Un fs ex H (upd H a o) h h' where
 keep:=fun b u q _ _ _=>k b u q
 slot:=fun b u q _ _ _=>⟨u.slots,k b u q⟩
 free:=fun b u q n _=>by rw[a0h (nL0 (Nat.lt_of_lt_of_le (hL0 q) hp))];exact n
 there:=fun b u q _=>⟨u,k b u q⟩
 tups:=fun b xs q=>by rw[a0h (a0v q hn)];exact q
 frzs:=fun b u xs q=>by rw[a0h (a0v q hn)];exact q
 tbls:=fun b ps q=>⟨#[],by rw[a0h (a0v q hn),q];simp⟩
theorem Un.write (mu:Mut (H x))(he:e=x\/H e=some (.own x))(k:∀b u,b≠e->h.get? b=some u->h'.get? b=some u)(heo:∃u,h'.get? e=some u):Un fs ex H (upd H x o) h h':=by
 have hx:∀b,H b=none->b≠x:=fun b n z=>by subst z;rw[n] at mu;exact mu
 have hb:∀b,H b=none->b≠e:=fun b n z=>by
  subst z;rcases he with r |r
  ·exact hx b n r
  ·rw[n] at r;cases r
 have hm:∀b u,H b=some u->¬Mut (some u)->b≠x:=fun b u q nm z=>by subst z;rw[q] at mu;exact nm mu
 refine⟨fun b u q n _ _=>k b u (hb b n) q,fun b u q n _ _=>⟨u.slots,k b u (hb b n) q⟩,fun b u q n _=>by rw[a0h (hx b n)];exact n,fun b u q _=>?_,
  fun b xs q=>by rw[a0h (hm b _ q fun z=>z)];exact q,fun b u xs q=>by rw[a0h (hm b _ q fun z=>z)];exact q,fun b ps q=>⟨#[],by rw[a0h (hm b _ q fun z=>z),q];simp⟩⟩
 by_cases hbe:b=e
 ·subst hbe;exact heo
 ·exact⟨u,k b u hbe q⟩
end
def trk (h:Heap)(H:Hp):List Addr:=(List.range h.objs.size).filter fun a=>(H a).isSome
def a5C (h:Heap)(H:Hp):Heap:=PySem.W.hideAll h (trk h H)
theorem a5s (h:Heap)(H:Hp):(a5C h H).objs.size=h.objs.size:=PySem.W.hideAll_size _ _
theorem a5W {h:Heap}{H:Hp}{b:Addr}{o:Obj}(e:h.get? b=some o)(n:H b=none):(a5C h H).get? b=some o:=
 PySem.W.hideAll_get _ e fun hm=>by
  have q:(H b).isSome=true:=(List.mem_filter.mp hm).2;rw[n] at q;simp at q
theorem a8G {h:Heap}{H:Hp}{b:Addr}{o:Obj}(e:(a5C h H).get? b=some o):h.get? b=some o/\H b=none:=by
 have e':h.get? b=some o:=PySem.W.of_hideAll (trk h H) e;refine⟨e',?_⟩;cases q:H b with
 |none=>rfl
 |some x=>
  have hm:b∈trk h H:=List.mem_filter.mpr ⟨List.mem_range.mpr (hL0 e'),by simp[q]⟩;have z:(a5C h H).get? b=none:=PySem.W.hideAll_none (trk h H) hm;rw[z] at e;cases e
structure Mod (K:Fg0) (mg:Str->Option Value) (base:Heap):Prop where
 kin:K.In base
 glob:base.Ns mainGlobals mg
 blt:∃mb,base.Ns builtinsNs mb/\∀x:Str,x≠"__name__"->mb x=bootBuiltins x
 nolimit:base.NoLimit
structure Cx where
 prog:Program
 w:World
 K:Fg0
 mg:Str->Option Value
 base:Heap
 A:Around
 N:List Str
 s₀:Shared
 H₀:Hp
 env:Env
 outer:List Env
 stack:List Env
 ex:List Addr
 fn:Str->Bool
 calm:Bool
 pn:List (Addr×Obj)
 xe:Vs0
def frs (l:List Env):List Addr:=l.filterMap (·.frame)
abbrev Cx.fs (X:Cx):List Addr:=frs X.outer
def Vis (sc:Scope)(x:Str):Prop:=sc.names.lookup x=some .local\/sc.names.lookup x=some .cell\/sc.names.lookup x=some .free
def Loc (sc:Scope)(x:Str):Prop:=sc.names.lookup x=some .local\/sc.names.lookup x=some .cell
def b4g (env:Env)(h:Heap)(m:Str->Option Value)(x:Str)(u:Value):Prop:=
 (env.kindOf x=some .local/\m x=some u)\/((env.kindOf x=some .cell\/env.kindOf x=some .free)/\∃c,env.cells.lookup x=some c/\h.IsCell c (some u))
structure Cx.Ok (X:Cx):Prop where
 mod:Mod X.K X.mg X.base
 kind:X.env.scope.kind=.function
 glob:X.env.globals=mainGlobals
 blt:X.env.builtins=builtinsNs
 above:X.s₀.heap.objs.size<=X.env.locals
 inj:∀x y c,X.env.cells.lookup x=some c->X.env.cells.lookup y=some c->x=y
 has:∀x,(X.env.kindOf x=some .cell\/X.env.kindOf x=some .free)->∃c,X.env.cells.lookup x=some c
 cab:∀x c,X.fn x=true->X.env.cells.lookup x=some c->X.s₀.heap.objs.size<=c
 hd:X.calm=true->X.A.handled=none
 frames:X.A.frames=some X.stack
 stk:X.stack=X.outer\/(X.stack=X.env::X.outer/\X.env.frame=some X.env.locals)
 exf:∀b∈X.ex,b≠X.env.locals/\∀x c,X.env.cells.lookup x=some c->c≠b
 bs:∀b o,X.base.get? b=some o->X.s₀.heap.get? b=some o/\X.H₀ b=none
 bsz:X.base.objs.size<=X.s₀.heap.objs.size
 noex:∀b o,X.base.get? b=some o->b∉X.ex
 exfs:∀b∈X.ex,b∉X.fs
 funs:X.s₀.heap.FunFrames X.base X.outer
 frf:∀b∈X.fs,X.H₀ b=none
structure Inv (X:Cx) (U:List (Addr×Obj)) (σ:List (Option V)) (H:Hp) (s:Shared):Prop where
 ok:X.Ok
 os:s.os=X.s₀.os
 bare:AllBare s.gens
 base:Un X.fs X.ex X.H₀ H X.s₀.heap s.heap
 loc:∃m,s.heap.Ns X.env.locals m/\∀(i:Nat) (x:Str) (v:V),X.N[i]? =some x->σ[i]? =some (some v)->Vis X.env.scope x->∃u,a0X v u/\b4g X.env s.heap m x u
 cell:∀x c,X.env.cells.lookup x=some c->∃v,s.heap.IsCell c v
 free:H X.env.locals=none
 freeC:∀x c,X.env.cells.lookup x=some c->H c=none
 pin:∀p∈X.pn++U,s.heap.get? p.1=some p.2/\H p.1=none/\p.1≠X.env.locals/\p.1∉X.fs/\∀v,p.2.data≠.cell v
 hok:HOk X.prog X.w H s.heap
 len:σ.length=X.N.length
section
variable {X:Cx}{U:List (Addr×Obj)}{σ:List (Option V)}{H H':Hp}{s:Shared}{h':Heap}
theorem Cx.Ok.nofr (ok:X.Ok){b:Addr}{o:Obj}(e:X.base.get? b=some o):b∉X.fs:=fun hb=>by
 have:=(ok.funs.mem hb).1
 rw[e] at this;cases this
theorem Inv.bs (I:Inv X U σ H s):∀b o,X.base.get? b=some o->s.heap.get? b=some o/\H b=none:=fun b o e=>
 ⟨I.base.keep b o (I.ok.bs b o e).1 (I.ok.bs b o e).2 (I.ok.nofr e) (I.ok.noex b o e),I.base.free b o (I.ok.bs b o e).1 (I.ok.bs b o e).2 (I.ok.noex b o e)⟩
theorem Inv.bk (I:Inv X U σ H s):∀b o,X.base.get? b=some o->s.heap.get? b=some o:=fun b o e=>(I.bs b o e).1
theorem Inv.mod (I:Inv X U σ H s):Mod X.K X.mg X.base:=I.ok.mod
theorem Inv.kIn (I:Inv X U σ H s):X.K.In s.heap:=I.ok.mod.kin.keeps I.bk
theorem Inv.lt (I:Inv X U σ H s):X.env.locals<s.heap.objs.size:=let ⟨_,hn,_⟩:=I.loc;hn.lt
theorem Inv.sz (I:Inv X U σ H s):X.s₀.heap.objs.size<=s.heap.objs.size:=Nat.le_trans I.ok.above (Nat.le_of_lt I.lt)
theorem Inv.nofs (I:Inv X U σ H s){a:Addr}(h:s.heap.objs.size<=a):a∉X.fs:=fun hb=>by
 obtain⟨_,o,ho,_⟩:=I.ok.funs.mem hb;exact absurd (Nat.lt_of_lt_of_le (hL0 ho) (Nat.le_trans I.sz h)) (Nat.lt_irrefl _)
theorem Inv.cne (I:Inv X U σ H s):∀x c,X.env.cells.lookup x=some c->c≠X.env.locals:=fun x c e z=>by
 obtain⟨v,o,ho,hd⟩:=I.cell x c e;obtain⟨m,⟨o',es,ep,ho',hd',_⟩,_⟩:=I.loc;rw[z,ho'] at ho;cases ho;rw[hd'] at hd;cases hd
theorem Inv.funs (I:Inv X U σ H s):s.heap.FunFrames X.base X.outer:=by
 have all:∀(l:List Env),(∀b∈frs l,b∈X.fs)->X.s₀.heap.FunFrames X.base l->s.heap.FunFrames X.base l:=by
  intro l
  induction l with
  |nil=>intro _ _;trivial
  |cons env r ih=>
   intro hs hl;obtain⟨hk,⟨L,o,hf,hn,ho,hd⟩,hr⟩:=hl;have hL:L∈X.fs:=hs L (by unfold frs;rw[List.filterMap_cons,hf];exact List.mem_cons_self);obtain⟨sl,e⟩:=I.base.slot L o ho (I.ok.frf L hL) hL fun z=>I.ok.exfs L z hL;exact⟨hk,⟨L,_,hf,hn,e,hd⟩,ih (fun b hb=>hs b (by unfold frs;rw[List.filterMap_cons,hf];exact mL0 _ hb)) hr⟩
 exact all X.outer (fun _ hb=>hb) I.ok.funs
theorem Inv.stack (I:Inv X U σ H s):s.heap.FunFrames X.base X.stack:=by
 rcases I.ok.stk with e |⟨e,hf⟩
 ·rw[e];exact I.funs
 ·rw[e]
  obtain⟨m,hn,_⟩:=I.loc;refine .cons (by rw[I.ok.kind];decide) hf hn ?_ I.funs;exact Heap.get?_none_of_le (Nat.le_trans I.ok.bsz I.ok.above)
theorem Inv.stkSub (I:Inv X U σ H s):∀b∈frs X.stack,b∈X.env.locals::X.fs:=fun b hb=>by
 rcases I.ok.stk with e |⟨e,hf⟩
 ·rw[e] at hb;exact mL0 _ hb
 ·rw[e] at hb
  unfold frs at hb;rw[List.filterMap_cons,hf] at hb;exact hb
theorem Inv.stkFree (I:Inv X U σ H s):∀b∈frs X.stack,H b=none:=fun b hb=>by
 rcases mK0.mp (I.stkSub b hb) with e |hb
 ·rw[e];exact I.free
 ·obtain⟨_,o,ho,_⟩:=I.ok.funs.mem hb
  exact I.base.free b o ho (I.ok.frf b hb) fun z=>I.ok.exfs b z hb
theorem Inv.step {g':Array GenState}{t':Nat}{d':Drawn}{ch:List Addr}(I:Inv X U σ H s)
  (hch:∀b∈ch,(b∈X.ex\/X.s₀.heap.objs.size<=b)/\b≠X.env.locals/\(∀x c,X.env.cells.lookup x=some c->c≠b)/\∀p∈X.pn++U,p.1≠b)
  (keep:∀b o,b≠X.env.locals->b∉X.fs->b∉ch->s.heap.get? b=some o->H b=none->h'.get? b=some o)
  (slot:∀b o,b≠X.env.locals->b∈X.fs->b∉ch->s.heap.get? b=some o->H b=none->∃sl,h'.get? b=some { o with slots:=sl }) (free:∀b o,b∉ch->s.heap.get? b=some o->H b=none->H' b=none)
  (there:∀b o,b∉ch->s.heap.get? b=some o->∃o',h'.get? b=some o')
  (tups:∀b xs,H b=some (.tup xs)->H' b=some (.tup xs)) (frzs:∀b o u,H b=some (.frz o u)->H' b=some (.frz o u)) (tbls:∀b ps,H b=some (.tbl ps)->∃more,H' b=some (.tbl (ps++more)))
  (ns:∀m,s.heap.Ns X.env.locals m->h'.Ns X.env.locals m) (hok:HOk X.prog X.w H' h') (hg:AllBare g') :
  Inv X U σ H' { s with heap:=h',gens:=g',drawn:=d',toks:=t' }:=by
 have neL:∀b o,X.s₀.heap.get? b=some o->b≠X.env.locals:=fun b o e=>nL0 (Nat.lt_of_lt_of_le (hL0 e) I.ok.above);have neC:∀b o,X.s₀.heap.get? b=some o->b∉X.ex->b∉ch:=fun b o e hx hb=>by
  rcases (hch b hb).1 with z |z
  ·exact hx z
  ·exact absurd (Nat.lt_of_lt_of_le (hL0 e) z) (Nat.lt_irrefl _)
 have cellK:∀x c,X.env.cells.lookup x=some c->∀v,s.heap.IsCell c v->h'.IsCell c v:=fun x c e v ⟨o,ho,hd⟩=>by
  have nch:c∉ch:=fun z=>(hch c z).2.2.1 x c e rfl
  by_cases hc:c∈X.fs
  ·obtain⟨sl,q⟩:=slot c o (I.cne x c e) hc nch ho (I.freeC x c e)
   exact⟨_,q,hd⟩
  ·exact⟨o,keep c o (I.cne x c e) hc nch ho (I.freeC x c e),hd⟩
 refine⟨I.ok,I.os,hg,⟨fun b o e n hb hx=>?_,fun b o e n hb hx=>?_,fun b o e n hx=>?_,fun b o e hx=>?_,fun b xs e=>tups b xs (I.base.tups b xs e),fun b o xs e=>frzs b o xs (I.base.frzs b o xs e),fun b ps e=>?_⟩,?_,fun x c e=>?_,?_,fun x c e=>?_,fun p hp=>?_,hok,I.len⟩
 ·exact keep b o (neL b o e) hb (neC b o e hx) (I.base.keep b o e n hb hx) (I.base.free b o e n hx)
 ·obtain⟨sl,e1⟩:=I.base.slot b o e n hb hx
  obtain⟨sl',e2⟩:=slot b _ (neL b o e) hb (neC b o e hx) e1 (I.base.free b o e n hx);exact⟨sl',e2⟩
 ·obtain⟨o',e1⟩:=I.base.there b o e hx
  exact free b o' (neC b o e hx) e1 (I.base.free b o e n hx)
 ·obtain⟨o',e1⟩:=I.base.there b o e hx
  exact there b o' (neC b o e hx) e1
 ·obtain⟨m1,e1⟩:=I.base.tbls b ps e
  obtain⟨m2,e2⟩:=tbls b _ e1;exact⟨m1++m2,by rw[e2,Array.append_assoc]⟩
 ·obtain⟨m,hn,hl⟩:=I.loc
  refine⟨m,ns m hn,fun i x v e1 e2 e3=>?_⟩;obtain⟨u,r,l⟩:=hl i x v e1 e2 e3;refine⟨u,r,?_⟩;rcases l with l |⟨k,c,e,z⟩
  ·exact .inl l
  ·exact .inr ⟨k,c,e,cellK x c e _ z⟩
 ·obtain⟨v,z⟩:=I.cell x c e
  exact⟨v,cellK x c e v z⟩
 ·obtain⟨m,⟨o,_,_,ho,_⟩,_⟩:=I.loc
  exact free _ o (fun z=>(hch _ z).2.1 rfl) ho I.free
 ·obtain⟨v,o,ho,hd⟩:=I.cell x c e
  exact free c o (fun z=>(hch c z).2.2.1 x c e rfl) ho (I.freeC x c e)
 ·obtain⟨e,n,ne,nf,d⟩:=I.pin p hp
  have nch:p.1∉ch:=fun z=>(hch p.1 z).2.2.2 p hp rfl;exact⟨keep p.1 p.2 ne nf nch e n,free p.1 p.2 nch e n,ne,nf,d⟩
theorem Inv.un {t':Nat}(I:Inv X U σ H s)(u:Un X.fs [] H H' s.heap h')(hok:HOk X.prog X.w H' h'):Inv X U σ H' { s with heap:=h',toks:=t' }:=by
 obtain⟨m,⟨o,es,ep,ho,r⟩,_⟩:=id I.loc;obtain⟨sl,hL⟩:=u.any ho I.free (by simp);exact I.step (g':=s.gens) (d':=s.drawn) (ch:=[]) (fun _ z=>nomatch z) (fun b o _ hb _ e n=>u.keep b o e n hb (by simp)) (fun b o _ hb _ e n=>u.slot b o e n hb (by simp)) (fun b o _ e n=>u.free b o e n (by simp)) (fun b o _ e=>u.there b o e (by simp)) u.tups u.frzs u.tbls (fun m' hm=>by
  obtain⟨o',es',ep',ho',r'⟩:=hm;rw[ho] at ho';cases ho';exact⟨_,es',ep',hL,r'⟩) hok I.bare
theorem Inv.call {g':Array GenState}{t':Nat}{d':Drawn}{ch:List Addr}(I:Inv X U σ H s)(u:Un (frs X.stack) ch H H' s.heap h')(hok:HOk X.prog X.w H' h')(hg:AllBare g')
  (hch:∀b∈ch,(b∈X.ex\/X.s₀.heap.objs.size<=b)/\b≠X.env.locals/\(∀x c,X.env.cells.lookup x=some c->c≠b)/\∀p∈X.pn++U,p.1≠b) :
  Inv X U σ H' { s with heap:=h',gens:=g',drawn:=d',toks:=t' }:=by
 obtain⟨m,⟨o,es,ep,ho,r⟩,_⟩:=id I.loc;obtain⟨sl,hL⟩:=u.any ho I.free fun z=>(hch _ z).2.1 rfl;exact I.step (ch:=ch) hch (fun b o hL hb hc e n=>u.keep b o e n (fun z=>(mK0.mp (I.stkSub b z)).elim hL hb) hc) (fun b o _ _ hc e n=>u.any e n hc) (fun b o hc e n=>u.free b o e n hc) (fun b o hc e=>u.there b o e hc) u.tups u.frzs u.tbls (fun m' hm=>by
  obtain⟨o',es',ep',ho',r'⟩:=hm;rw[ho] at ho';cases ho';exact⟨_,es',ep',hL,r'⟩) hok hg
theorem Inv.turned {t':Nat}{it:Addr}(I:Inv X U σ H s)(k:∀b o,b≠it->s.heap.get? b=some o->h'.get? b=some o)(hn:H it=none)(hL:it≠X.env.locals)
  (h1:it∈X.ex\/X.s₀.heap.objs.size<=it) (h2:∀x c,X.env.cells.lookup x=some c->c≠it) (h3:∀p∈X.pn++U,p.1≠it):Inv X U σ H { s with heap:=h',toks:=t' }:=by
 have nit:∀b u,H b=some u->b≠it:=fun b u e z=>by rw[z,hn] at e;cases e
 refine I.step (g':=s.gens) (d':=s.drawn) (ch:=[it]) (fun b hb=>?_) (fun b o _ _ hc e _=>k b o (fun z=>hc (by simp[z])) e) (fun b o _ _ hc e _=>⟨o.slots,k b o (fun z=>hc (by simp[z])) e⟩) (fun _ _ _ _ n=>n)
  (fun b o hc e=>⟨o,k b o (fun z=>hc (by simp[z])) e⟩) (fun _ _ e=>e) (fun _ _ _ e=>e) (fun b ps e=>⟨#[],by rw[e];simp⟩) (fun m hm=>?_) (fun b u e=>?_) I.bare
 ·have e:b=it:=by simpa using hb
  subst e;exact⟨h1,hL,h2,h3⟩
 ·obtain⟨o,es,ep,ho,r⟩:=hm
  exact⟨o,es,ep,k _ o (Ne.symm hL) ho,r⟩
 ·refine(I.hok b u e).stay (fun c v hc q=>k c v ?_ q) (fun _ q=>q) fun _ _ q=>q
  rcases hc with z |z
  ·rw[z];exact nit b u e
  ·exact nit c _ z
theorem Inv.tok (I:Inv X U σ H s)(t:Nat):Inv X U σ H { s with toks:=t }:=I.un (h':=s.heap) (t':=t) Un.refl I.hok
theorem Inv.kept {t':Nat}(I:Inv X U σ H s)(k:∀b u,s.heap.get? b=some u->h'.get? b=some u):Inv X U σ H { s with heap:=h',toks:=t' }:=I.un (Un.kept k) (I.hok.kept k)
theorem Inv.laid {a:Addr}{o:HO}{t':Nat}(I:Inv X U σ H s)(k:∀b u,s.heap.get? b=some u->h'.get? b=some u)(hp:s.heap.objs.size<=a)(new:a0Z X.prog X.w (upd H a o) h' a o) :
  Inv X U σ (upd H a o) { s with heap:=h',toks:=t' }:=I.un (Un.laid k hp (I.hok.fresh hp)) (I.hok.laid k hp new)
theorem Inv.write {x e:Addr}{o:HO}{t':Nat}(I:Inv X U σ H s)(mu:Mut (H x))(he:e=x\/H e=some (.own x))(k:∀b u,b≠e->s.heap.get? b=some u->h'.get? b=some u)(heo:∃u,h'.get? e=some u)
  (new:a0Z X.prog X.w (upd H x o) h' x o):Inv X U σ (upd H x o) { s with heap:=h',toks:=t' }:=I.un (Un.write mu he k heo) (I.hok.write mu he k heo new)
theorem Inv.pins_of {pins':List (Addr×Obj)}(I:Inv X U σ H s)(h:∀p∈pins',s.heap.get? p.1=some p.2/\H p.1=none/\p.1≠X.env.locals/\p.1∉X.fs/\∀v,p.2.data≠.cell v):Inv X pins' σ H s:=
 ⟨I.ok,I.os,I.bare,I.base,I.loc,I.cell,I.free,I.freeC,fun p hp=>(List.mem_append.mp hp).elim (fun z=>I.pin p (List.mem_append_left _ z)) (h p),I.hok,I.len⟩
theorem a4o {N:List Str}(hN:N.Nodup){i j:Nat}{x:Str}(a:N[i]? =some x)(b:N[j]? =some x):i=j:=by
 obtain⟨h1,e1⟩:=gS0.mp a;obtain⟨h2,e2⟩:=gS0.mp b;exact(List.getElem_inj hN).mp (e1.trans e2.symm)
theorem a3w {M:Model}{A:Around}{E:Vs0}{i:Nat}{x:Str}{v:V}{u:Value}{Q:Unit->Shared->Prop}(I:Inv X U σ H s)(hN:X.N.Nodup)(hi:X.N[i]? =some x)(hx:Loc X.env.scope x)(r:a0X v u)
  (h:∀s',Inv X U (σ.set i (some v)) H s'->(∃a,Heap.SameBut a s.heap s'.heap/\(a=X.env.locals\/X.env.cells.lookup x=some a))->Q () s') (hf:X.fn x=true\/X.env.scope.names.lookup x=some .local:=by first |exact .inl rfl |exact .inr rfl |assumption):wpAny M A (storeName X.env x u) Q E s:=by
 obtain⟨m,hn,hl⟩:=id I.loc;have hcls:(X.env.scope.kind==.class || (X.env.scope.kind==.module&&X.env.locals != X.env.globals))=false:=by rw[I.ok.kind];rfl
 have hiσ:i<σ.length:=by rw[I.len];exact(gS0.mp hi).1
 have cne:=I.cne;have tracked:∀{a:Addr} {h':Heap},(∃o,s.heap.get? a=some o/\H a=none)->Heap.SameBut a s.heap h'->HOk X.prog X.w H h':=fun {a h'} ha hs b ob e=>by
  obtain⟨_,_,hfree⟩:=ha;refine(I.hok b ob e).stay (fun c w' hc q=>(hs.2 c ?_).trans q) (fun _ q=>q) fun _ _ q=>q;rintro rfl;rcases hc with rfl |hc
  ·rw[hfree] at e;cases e
  ·rw[hfree] at hc;cases hc
 rcases hx with hk |hk
 ·refine wpAny_storeName_local hk hn (fun h' hn' hs=>?_) hcls
  obtain⟨oL,_,_,hoL,_⟩:=id hn;refine h _ ⟨I.ok,I.os,I.bare,⟨fun b o e n hb hx=>?_,fun b o e n hb hx=>?_,I.base.free,fun b o e hx=>?_,I.base.tups,I.base.frzs,I.base.tbls⟩,⟨_,hn',fun j y v' e1 e2 e3=>?_⟩,fun y c e=>?_,I.free,I.freeC,fun p hp=>?_,tracked ⟨oL,hoL,I.free⟩ hs,by simpa using I.len⟩ ⟨_,hs,.inl rfl⟩
  ·exact(hs.2 b (nL0 (Nat.lt_of_lt_of_le (hL0 e) I.ok.above))).trans (I.base.keep b o e n hb hx)
  ·obtain⟨sl,e1⟩:=I.base.slot b o e n hb hx
   exact⟨sl,(hs.2 b (nL0 (Nat.lt_of_lt_of_le (hL0 e) I.ok.above))).trans e1⟩
  ·obtain⟨o',e1⟩:=I.base.there b o e hx
   exact⟨o',(hs.2 b (nL0 (Nat.lt_of_lt_of_le (hL0 e) I.ok.above))).trans e1⟩
  ·by_cases hj:j=i
   ·subst hj
    rw[hi] at e1;cases e1;rw[List.getElem?_set_self hiσ] at e2;cases e2;exact⟨u,r,.inl ⟨hk,by simp⟩⟩
   ·rw[List.getElem?_set_ne (Ne.symm hj)] at e2
    obtain⟨u',r',q⟩:=hl j y v' e1 e2 e3;refine⟨u',r',?_⟩;rcases q with ⟨k,e⟩ |⟨k,c,e,z⟩
    ·refine .inl ⟨k,?_⟩
     have:y≠x:=fun e=>hj (a4o hN e1 (e▸hi))
     simp[this,e]
    ·exact .inr ⟨k,c,e,z.sameBut hs (cne y c e)⟩
  ·obtain⟨w',z⟩:=I.cell y c e
   exact⟨w',z.sameBut hs (cne y c e)⟩
  ·obtain⟨e,n,ne,nf,d⟩:=I.pin p hp
   exact⟨(hs.2 p.1 ne).trans e,n,ne,nf,d⟩
 ·have hfn:X.fn x=true:=by
   rcases hf with z |z
   ·exact z
   ·rw[z] at hk;cases hk
  obtain⟨c,hc⟩:=I.ok.has x (.inl hk);obtain⟨w',z⟩:=I.cell x c hc;refine wpAny_storeName_cell I.ok.kind hk hc z (fun h' hc' hs=>?_);obtain⟨oc,hoc,hocd⟩:=id z;refine h { s with heap:=h' } ⟨I.ok,I.os,I.bare,⟨fun b o e n hb hx=>?_,fun b o e n hb hx=>?_,I.base.free,fun b o e hx=>?_,I.base.tups,I.base.frzs,I.base.tbls⟩,⟨m,hn.sameBut hs (Ne.symm (cne x c hc)),fun j y v' e1 e2 e3=>?_⟩,fun y c' e=>?_,I.free,I.freeC,fun p hp=>?_,tracked ⟨oc,hoc,I.freeC x c hc⟩ hs,by simpa using I.len⟩ ⟨c,hs,.inr hc⟩
  ·exact(hs.2 b (nL0 (Nat.lt_of_lt_of_le (hL0 e) (I.ok.cab x c hfn hc)))).trans (I.base.keep b o e n hb hx)
  ·obtain⟨sl,e1⟩:=I.base.slot b o e n hb hx
   exact⟨sl,(hs.2 b (nL0 (Nat.lt_of_lt_of_le (hL0 e) (I.ok.cab x c hfn hc)))).trans e1⟩
  ·obtain⟨o',e1⟩:=I.base.there b o e hx
   exact⟨o',(hs.2 b (nL0 (Nat.lt_of_lt_of_le (hL0 e) (I.ok.cab x c hfn hc)))).trans e1⟩
  ·by_cases hj:j=i
   ·subst hj
    rw[hi] at e1;cases e1;rw[List.getElem?_set_self hiσ] at e2;cases e2;exact⟨u,r,.inr ⟨.inl hk,c,hc,hc'⟩⟩
   ·rw[List.getElem?_set_ne (Ne.symm hj)] at e2
    obtain⟨u',r',q⟩:=hl j y v' e1 e2 e3;refine⟨u',r',?_⟩;rcases q with q |⟨k,c',e,z'⟩
    ·exact .inl q
    ·refine .inr ⟨k,c',e,z'.sameBut hs ?_⟩
     rintro rfl;exact hj (a4o hN e1 (I.ok.inj _ _ _ e hc▸hi))
  ·by_cases hcc:c'=c
   ·subst hcc;exact⟨_,hc'⟩
   ·obtain⟨w2,z2⟩:=I.cell y c' e
    exact⟨w2,z2.sameBut hs hcc⟩
  ·obtain⟨e,n,ne,nf,d⟩:=I.pin p hp
   refine⟨(hs.2 p.1 ?_).trans e,n,ne,nf,d⟩;intro q;rw[q,hoc] at e;have q':oc=p.2:=Option.some.inj e;exact d w' (by rw[<-q'];exact hocd)
theorem a4k {M:Model}{A:Around}{E:Vs0}{i:Nat}{x:Str}{v:V}{u:Value}{Q:Unit->Shared->Prop}(I:Inv X U σ H s)(hN:X.N.Nodup)(hi:X.N[i]? =some x)(hx:Loc X.env.scope x)(r:a0X v u)
  (h:∀s',Inv X U (σ.set i (some v)) H s'->Q () s') (hf:X.fn x=true\/X.env.scope.names.lookup x=some .local:=by first |exact .inl rfl |exact .inr rfl |assumption):wpAny M A (storeName X.env x u) Q E s:=
 a3w I hN hi hx r (fun s' I' _=>h s' I') hf
theorem Inv.call' {s':Shared}{ch:List Addr}(I:Inv X U σ H s)(ho:s'.os=s.os)(u:Un (frs X.stack) ch H H' s.heap s'.heap)(hok:HOk X.prog X.w H' s'.heap)(hg:AllBare s'.gens)
  (hch:∀b∈ch,(b∈X.ex\/X.s₀.heap.objs.size<=b)/\b≠X.env.locals/\(∀x c,X.env.cells.lookup x=some c->c≠b)/\∀p∈X.pn++U,p.1≠b):Inv X U σ H' s':=by
 obtain⟨h',g',d',t',o'⟩:=s';have e:o'=s.os:=ho;subst e;exact I.call (g':=g') (t':=t') (d':=d') u hok hg hch
end
abbrev XK:=Value->Option Addr->Hp->Prop
abbrev St:=List (Option V)
abbrev VK:=V->Hp->Prop
abbrev TE:=St->Hp->VK->Prop
abbrev TT:=St->Hp->(Bool->Hp->Prop)->Prop
abbrev TA:=St->Hp->(List V->Hp->Prop)->Prop
structure a3I where
 nx:St->Hp->Prop
 rt:VK
 bk:St->Hp->Prop:=fun _ _=>False
 ct:St->Hp->Prop:=fun _ _=>False
abbrev TS:=a3I->St->Hp->Prop
def EP (X:Cx)(U:List (Addr×Obj))(σ:St)(Q:VK)(u:Value)(s':Shared):Prop:=∃v H',Inv X U σ H' s'/\a0X v u/\Q v H'
def TP (X:Cx)(U:List (Addr×Obj))(σ:St)(Q:Bool->Hp->Prop)(b:Bool)(s':Shared):Prop:=∃H',Inv X U σ H' s'/\Q b H'
def AP (X:Cx)(U:List (Addr×Obj))(σ:St)(Q:List V->Hp->Prop)(us:List Value)(s':Shared):Prop:=∃vs H',Inv X U σ H' s'/\a1g vs us/\Q vs H'
def SP (X:Cx)(U:List (Addr×Obj))(D:a3I)(f:Flow)(s':Shared):Prop:=
 match f with
 | .next=>∃σ' H',Inv X U σ' H' s'/\D.nx σ' H'
 | .brk=>∃σ' H',Inv X U σ' H' s'/\D.bk σ' H'
 | .cont=>∃σ' H',Inv X U σ' H' s'/\D.ct σ' H'
 | .ret u=>∃v σ' H',Inv X U σ' H' s'/\a0X v u/\D.rt v H'
def PE (X:Cx)(e:Expr)(t:TE):Prop:=
 ∀(U:List (Addr×Obj)) (s:Shared) (σ:St) (H:Hp) (Q:VK),Inv X U σ H s->t σ H Q->wpAny (model X.prog X.w) X.A (eval e X.env) (EP X U σ Q) X.xe s
def PT (X:Cx)(e:Expr)(t:TT):Prop:=
 ∀(U:List (Addr×Obj)) (s:Shared) (σ:St) (H:Hp) (Q:Bool->Hp->Prop),Inv X U σ H s->t σ H Q->wpAny (model X.prog X.w) X.A (isTrue e X.env (eval e X.env)) (TP X U σ Q) X.xe s
def PW (X:Cx)(e:Expr)(t:TT):Prop:=
 ∀(whole:Sem Value) (U:List (Addr×Obj)) (s:Shared) (σ:St) (H:Hp) (Q:Bool->Hp->Prop),Inv X U σ H s->t σ H Q->wpAny (model X.prog X.w) X.A (isTrue e X.env whole) (TP X U σ Q) X.xe s
theorem PW.pt {X:Cx}{e:Expr}{t:TT}(h:PW X e t):PT X e t:=h _
def PA (X:Cx)(es:List Expr)(t:TA):Prop:=
 ∀(pos:Pos) (U:List (Addr×Obj)) (s:Shared) (σ:St) (H:Hp) (Q:List V->Hp->Prop),Inv X U σ H s->t σ H Q->wpAny (model X.prog X.w) X.A (spliced (backTo pos (starEach es X.env))) (AP X U σ Q) X.xe s
def PS (X:Cx)(st:Stmt)(t:TS):Prop:=
 ∀(U:List (Addr×Obj)) (s:Shared) (σ:St) (H:Hp) (D:a3I),Inv X U σ H s->t D σ H->wpAny (model X.prog X.w) X.A (exec st X.env) (SP X U D) X.xe s
def PSs (X:Cx)(st:List Stmt)(t:TS):Prop:=
 ∀(U:List (Addr×Obj)) (s:Shared) (σ:St) (H:Hp) (D:a3I),Inv X U σ H s->t D σ H->wpAny (model X.prog X.w) X.A (execs st X.env) (SP X U D) X.xe s
theorem thn {α:Type}{t:Sem α}{Q Q':α->Shared->Prop}{M:Model}{A:Around}{E:Vs0}{s:Shared}(h:wpAny M A t Q E s)(hQ:∀a s,Q a s->Q' a s):wpAny M A t Q' E s:=wpAny_mono h hQ fun _ _ x=>x
section
variable {X:Cx}
theorem bin {a b:Expr}{ta tb:TE}(ha:PE X a ta)(hb:PE X b tb){U:List (Addr×Obj)}{s:Shared}{σ:St}{H:Hp}{R:V->V->Hp->Prop}(I:Inv X U σ H s)(h:ta σ H fun x H1=>tb σ H1 fun y H2=>R x y H2)
  {α:Type} {Q:α->Shared->Prop} {f:Value->Value->Sem α}
  (hf:∀v u s2 x y H2,Inv X U σ H2 s2->a0X x v->a0X y u->R x y H2->wpAny (model X.prog X.w) X.A (f v u) Q X.xe s2) :
  wpAny (model X.prog X.w) X.A (eval a X.env) (fun v s₁=>wpAny (model X.prog X.w) X.A (eval b X.env) (fun u s₂=>wpAny (model X.prog X.w) X.A (f v u) Q X.xe s₂) X.xe s₁) X.xe s:=by
 refine thn (ha U s σ H _ I h) fun v s1 ⟨x,H1,I1,r1,q1⟩=>?_;refine thn (hb U s1 σ H1 _ I1 q1) fun u s2 ⟨y,H2,I2,r2,q2⟩=>?_;exact hf v u s2 x y H2 I2 r1 r2 q2
def a7Z (i:Nat):TE:=fun σ H Q=>∃v,σ[i]? =some (some v)/\Q v H
def tC (v:V):TE:=fun _ H Q=>Q v H
theorem b2x {i:Nat}{x:Str}{pos:Pos}(hN:X.N[i]? =some x)(hv:Vis X.env.scope x)(hd:(x==("__debug__":Str))=false:=by decide)(hcd:(x==("__classdict__":Str))=false:=by decide):PE X (.Name x pos) (a7Z i):=by
 intro U s σ H Q I h;obtain⟨v,e,h⟩:=h;obtain⟨m,hn,hl⟩:=I.loc;obtain⟨u,r,l⟩:=hl i x v hN e hv;have fin:EP X U σ Q u s:=⟨v,H,I,r,h⟩;rcases l with ⟨hk,hm⟩ |⟨hk,c,hc,hcell⟩
 ·exact wpAny_Name (wpAny_loadName_local I.ok.kind hk hn hm fin) hd
 ·rcases hk with hk |hk
  ·exact wpAny_Name (wpAny_loadName_cell I.ok.kind hk hc hcell fin) hd
  ·exact wpAny_Name (wpAny_loadName_free I.ok.kind hk hc hcell fin hcd) hd
theorem a0e {i j pos}:PE X (.Constant (.int i) j pos) (tC (.int i)):=fun _ _ _ H _ I h=>wpAny_Constant_int ⟨.int i,H,I.tok _,⟨_,rfl⟩,h⟩
theorem a3f {b j pos}:PE X (.Constant (.bool b) j pos) (tC (.bl b)):=fun _ _ _ H _ I h=>Constant_bool ⟨.bl b,H,I,rfl,h⟩
theorem a3U {j pos}:PE X (.Constant .none j pos) (tC .non):=fun _ _ _ H _ I h=>Constant_none ⟨.non,H,I,rfl,h⟩
theorem a0p {x j pos}:PE X (.Constant (.str x) j pos) (tC (.str x)):=fun _ _ _ H _ I h=>Calls.Constant_str ⟨.str x,H,I.tok _,⟨_,rfl⟩,h⟩
def Gl (X:Cx)(x:Str):Prop:=X.env.kindOf x=some .globalImplicit
theorem a2i {E:Vs0}{U:List (Addr×Obj)}{s:Shared}{σ:St}{H:Hp}{x:Str}{u:Value}{pos:Pos}{Q:Vs0}(I:Inv X U σ H s)(hg:Gl X x)(hm:X.mg x=some u)(h:Q u s)
  (hd:(x==("__debug__":Str))=false:=by decide):wpAny (model X.prog X.w) X.A (eval (.Name x pos) X.env) Q E s:=
 Calls.Name_function_global I.ok.kind hg (Calls.loadGlobal_global (by rw[I.ok.glob];exact I.mod.glob.keeps I.bk) hm h) hd
theorem a3b {E:Vs0}{U:List (Addr×Obj)}{s:Shared}{σ:St}{H:Hp}{x:Str}{u:Value}{pos:Pos}{Q:Vs0}(I:Inv X U σ H s)(hg:Gl X x)(hm:X.mg x=none)(hv:bootBuiltins x=some u)(h:Q u s)
  (hn:x≠"__name__":=by decide) (hd:(x==("__debug__":Str))=false:=by decide):wpAny (model X.prog X.w) X.A (eval (.Name x pos) X.env) Q E s:=by
 obtain⟨mb,h1,h2⟩:=I.mod.blt;exact Calls.Name_function_global I.ok.kind hg (Calls.loadGlobal_builtin (by rw[I.ok.glob];exact I.mod.glob.keeps I.bk) hm (by rw[I.ok.blt];exact h1.keeps I.bk) ((h2 x hn).trans hv) h) hd
theorem a0x {x:Str}{v:V}{u:Value}{pos:Pos}(hg:Gl X x)(hm:X.mg x=some u)(r:a0X v u)(hd:(x==("__debug__":Str))=false:=by decide):PE X (.Name x pos) (tC v):=
 fun _ _ _ H _ I h=>a2i I hg hm ⟨v,H,I,r,h⟩ hd
theorem a1b {x:Str}{v:V}{u:Value}{pos:Pos}(hg:Gl X x)(hm:X.mg x=none)(hv:bootBuiltins x=some u)(r:a0X v u)(hn:x≠"__name__":=by decide)(hd:(x==("__debug__":Str))=false:=by decide):PE X (.Name x pos) (tC v):=
 fun _ _ _ H _ I h=>a3b I hg hm hv ⟨v,H,I,r,h⟩ hn hd
variable {a b:Expr}{ta tb:TE}{pos:Pos}
def PC (X:Cx)(op:CmpOp)(a b:Expr)(t:TE):Prop:=
 ∀(U:List (Addr×Obj)) (s:Shared) (σ:St) (H:Hp) (Q:VK),Inv X U σ H s->t σ H Q →
  wpAny (model X.prog X.w) X.A (eval a X.env) (fun v s₁=>wpAny (model X.prog X.w) X.A (eval b X.env) (fun u s₂=>wpAny (model X.prog X.w) X.A (compareOp op v u) (EP X U σ Q) X.xe s₂) X.xe s₁) X.xe s
def tB (t:TE):TT:=fun σ H Q=>t σ H fun x H1=>∃c,x=.bl c/\Q c H1
theorem b4j {op:CmpOp}{t:TE}(h:PC X op a b t)(h1:behindInMarks op b=false:=by first |exact nobehind _ (by decide) (by decide) |rfl):PT X (.Compare a [op] [b] pos) (tB t):=by
 intro U s σ H Q I hw;refine wpAny_isTrue_Compare1 (thn (h U s σ H _ I hw) fun v s1 h1=>thn h1 fun u s2 h2=>thn h2 fun c s3 ⟨x,H1,I1,r1,q1⟩=>?_) h1;obtain⟨d,rfl,q⟩:=q1;cases r1;exact wpAny_truthy_bool ⟨H1,I1,q⟩
theorem a0S {e:Expr}{t:TE}(h:PE X e t)(he:∀whole,isTrue e X.env whole=(do let v <-whole;standAt e.pos;holding [v] (truthy v)):=by intro _;rfl):PT X e (tB t):=by
 intro U s σ H Q I hw;refine isTrue_plain (thn (h U s σ H _ I hw) fun v s1 ⟨x,H1,I1,r1,q1⟩=>?_) (he _);obtain⟨d,rfl,q⟩:=q1;cases r1;exact wpAny_truthy_bool ⟨H1,I1,q⟩
variable {tA tB':TT}{rest:List Expr}
def tAnd (t u:TT):TT:=fun σ H Q=>t σ H fun c H1=>if c=true then u σ H1 Q else Q false H1
def tOr (t u:TT):TT:=fun σ H Q=>t σ H fun c H1=>if c=true then Q true H1 else u σ H1 Q
def tNot (t:TT):TT:=fun σ H Q=>t σ H fun c H1=>Q (!c) H1
theorem a7S (ha:PT X a tA):PW X (.BoolOp .And [a] pos) tA:=by
 intro wh U s σ H Q I h;refine isTrue_and (thn (ha U s σ H Q I h) fun c s1 e=>?_);cases c with
 |true=>exact isTrue_and_nil e
 |false=>exact e
theorem a3a (ha:PT X a tA):PW X (.BoolOp .Or [a] pos) tA:=by
 intro wh U s σ H Q I h;refine isTrue_or (thn (ha U s σ H Q I h) fun c s1 e=>?_);cases c with
 |false=>exact isTrue_or_nil e
 |true=>exact e
theorem b0i (ha:PT X a tA)(hb:PW X (.BoolOp .And (b::rest) pos) tB'):PW X (.BoolOp .And (a::b::rest) pos) (tAnd tA tB'):=by
 intro wh U s σ H Q I h;refine isTrue_and (thn (ha U s σ H _ I h) fun c s1 ⟨H1,I1,q1⟩=>?_);cases c with
 |true=>exact hb wh U s1 σ H1 Q I1 q1
 |false=>exact⟨H1,I1,q1⟩
theorem a3M (ha:PT X a tA)(hb:PW X (.BoolOp .Or (b::rest) pos) tB'):PW X (.BoolOp .Or (a::b::rest) pos) (tOr tA tB'):=by
 intro wh U s σ H Q I h;refine isTrue_or (thn (ha U s σ H _ I h) fun c s1 ⟨H1,I1,q1⟩=>?_);cases c with
 |true=>exact⟨H1,I1,q1⟩
 |false=>exact hb wh U s1 σ H1 Q I1 q1
theorem a1s (ha:PT X a tA):PT X (.UnaryOp .Not a pos) (tNot tA):=by
 intro U s σ H Q I h;exact isTrue_not (ha U s σ H (fun c H1=>Q (!c) H1) I h)
def b3k (ta tb:TE):TE:=fun σ H Q=>ta σ H fun x H1=>∃c,x=.bl c/\if c=true then tb σ H1 Q else Q (.bl false) H1
def b3T (ta:TE):TE:=fun σ H Q=>ta σ H fun x H1=>∃c,x=.bl c/\Q (.bl (!c)) H1
theorem a2j {op}{t:TE}(h:PE X a t):PE X (.BoolOp op [a] pos) t:=fun U s σ H Q I hw=>BoolOp_one (h U s σ H Q I hw)
theorem a1T (ha:PE X a ta)(hb:PE X (.BoolOp .And (b::rest) pos) tb):PE X (.BoolOp .And (a::b::rest) pos) (b3k ta tb):=by
 intro U s σ H Q I h;refine BoolOp_and (thn (ha U s σ H _ I h) fun v s1 ⟨x,H1,I1,r1,q1⟩=>?_);obtain⟨c,rfl,q1⟩:=q1;cases r1;refine wpAny_truthy_bool ?_;cases c with
 |true=>exact hb U s1 σ H1 Q I1 q1
 |false=>exact⟨.bl false,H1,I1,rfl,q1⟩
theorem a7z (ha:PE X a ta):PE X (.UnaryOp .Not a pos) (b3T ta):=by
 intro U s σ H Q I h;refine UnaryOp_ (thn (ha U s σ H _ I h) fun v s1 ⟨x,H1,I1,r1,q1⟩=>?_);obtain⟨c,rfl,q1⟩:=q1;cases r1;exact not_of (wpAny_truthy_bool ⟨.bl (!c),H1,I1,rfl,q1⟩)
end
def SqL (K:Fg0)(H:Hp)(a:Addr)(xs:List V):Prop:=
 Rd H a (.lst xs) ∨
  ∃(o:Obj) (its:Array Value) (n:Nat),K.lookup a=some o/\o.cls=.type "list"/\o.dict=none/\o.data=.seq its n/\its.size<=sizeLine/\a1g xs its.toList
def SqT (K:Fg0)(H:Hp)(a:Addr)(xs:List V):Prop:=
 Rd H a (.tup xs) ∨
  ∃(o:Obj) (its:Array Value) (n:Nat),K.lookup a=some o/\o.cls=.type "tuple"/\o.data=.seq its n/\its.size<=sizeLine/\a1g xs its.toList
def absV:Value->Option V
 | .none=>some .non
 | .bool b=>some (.bl b)
 | .int i _=>some (.int i)
 | .str x _=>some (.str x)
 | .bytes b _=>some (.byt b)
 | .float b _=>some (.flt b)
 | .ref a=>some (.ref a)
 | .type n=>some (.ty n)
 |_=>none
theorem a0X.abs {x:V}{u:Value}(r:a0X x u):absV u=some x:=by
 cases x with
 |non=>cases r;rfl
 |bl _=>cases r;rfl
 |int _=>obtain⟨t,rfl⟩:=r;rfl
 |str _=>obtain⟨t,rfl⟩:=r;rfl
 |byt _=>obtain⟨t,rfl⟩:=r;rfl
 |flt _=>obtain⟨t,rfl⟩:=r;rfl
 |ref _=>cases r;rfl
 |ty _=>cases r;rfl
theorem a0X.inj {x y:V}{u:Value}(r:a0X x u)(q:a0X y u):x=y:=Option.some.inj (r.abs.symm.trans q.abs)
theorem a1g.inj:∀{xs ys:List V} {us:List Value},a1g xs us->a1g ys us->xs=ys
 |_,_,_,.nil,.nil=>rfl
 |_,_,_,.cons r t,.cons r' t'=>by rw[r.inj r',a1g.inj t t']
section
variable {X:Cx}{U:List (Addr×Obj)}{σ:St}{H:Hp}{s:Shared}{a:Addr}{xs ys:List V}
theorem SqL.of {K:Fg0}(h:H a=some (.lst xs)):SqL K H a xs:=.inl (.inl h)
theorem SqT.of {K:Fg0}(h:H a=some (.tup xs)):SqT K H a xs:=.inl (.inl h)
theorem Inv.list (I:Inv X U σ H s)(h:SqL X.K H a xs):∃its:List Value,a1g xs its/\PlainL s.heap a its.toArray/\xs.length<=sizeLine:=by
 rcases h with h |⟨o,its,n,hk,hc,hd,hs,hz,r⟩
 ·obtain⟨z,its,n,r,e⟩:=h.ok I.hok
  exact⟨its,r,⟨_,n,e,rfl,rfl,rfl⟩,z⟩
 ·refine⟨its.toList,r,⟨o,n,I.kIn a o hk,hc,hd,by simpa using hs⟩,?_⟩
  have e:=r.length;simp only[Array.length_toList] at e
  omega
theorem Inv.tuple (I:Inv X U σ H s)(h:SqT X.K H a xs):∃its:List Value,a1g xs its/\IsTup s.heap a its.toArray/\xs.length<=sizeLine:=by
 rcases h with h |⟨o,its,n,hk,hc,hs,hz,r⟩
 ·obtain⟨z,its,r,p⟩:=h.ok I.hok
  exact⟨its,r,p,z⟩
 ·refine⟨its.toList,r,⟨o,I.kIn a o hk,hc,n,by simpa using hs⟩,?_⟩
  have e:=r.length;simp only[Array.length_toList] at e
  omega
theorem Inv.list_inj (I:Inv X U σ H s)(h:SqL X.K H a xs)(h':SqL X.K H a ys):xs=ys:=by
 obtain⟨its,r,⟨o,n,e,_,_,d⟩,_⟩:=I.list h;obtain⟨its',r',⟨o',n',e',_,_,d'⟩,_⟩:=I.list h';rw[e] at e';cases e';rw[d] at d'
 injection d' with d1 _
 have:its=its':=by simpa using congrArg Array.toList d1
 subst this;exact r.inj r'
theorem Inv.tuple_inj (I:Inv X U σ H s)(h:SqT X.K H a xs)(h':SqT X.K H a ys):xs=ys:=by
 obtain⟨its,r,⟨o,e,_,n,d⟩,_⟩:=I.tuple h;obtain⟨its',r',⟨o',e',_,n',d'⟩,_⟩:=I.tuple h';rw[e] at e';cases e';rw[d] at d'
 injection d' with d1 _
 have:its=its':=by simpa using congrArg Array.toList d1
 subst this;exact r.inj r'
end
abbrev Cx.wish (X:Cx)(E:Vs0):Cx:={ X with xe:=E }
abbrev Cx.nox (X:Cx):Cx:=X.wish fun _ _=>False
theorem Cx.Ok.wish {X:Cx}(ok:X.Ok)(E:Vs0):(X.wish E).Ok:=
 ⟨ok.mod,ok.kind,ok.glob,ok.blt,ok.above,ok.inj,ok.has,ok.cab,ok.hd,ok.frames,ok.stk,ok.exf,ok.bs,ok.bsz,ok.noex,ok.exfs,ok.funs,ok.frf⟩
theorem Cx.Ok.unwish {X:Cx}{E:Vs0}(ok:(X.wish E).Ok):X.Ok:=
 ⟨ok.mod,ok.kind,ok.glob,ok.blt,ok.above,ok.inj,ok.has,ok.cab,ok.hd,ok.frames,ok.stk,ok.exf,ok.bs,ok.bsz,ok.noex,ok.exfs,ok.funs,ok.frf⟩
section
variable {X:Cx}{U:List (Addr×Obj)}{σ:St}{H:Hp}{s:Shared}{E:Vs0}
theorem Inv.wish (I:Inv X U σ H s)(E:Vs0):Inv (X.wish E) U σ H s:=⟨I.ok.wish E,I.os,I.bare,I.base,I.loc,I.cell,I.free,I.freeC,I.pin,I.hok,I.len⟩
theorem Inv.unwish (I:Inv (X.wish E) U σ H s):Inv X U σ H s:=⟨I.ok.unwish,I.os,I.bare,I.base,I.loc,I.cell,I.free,I.freeC,I.pin,I.hok,I.len⟩
theorem SP.unwish {D:a3I}{f:Flow}{s':Shared}(h:SP (X.wish E) U D f s'):SP X U D f s':=by
 cases f with
 |next=>obtain⟨σ',H',I,q⟩:=h;exact⟨σ',H',I.unwish,q⟩
 |brk=>obtain⟨σ',H',I,q⟩:=h;exact⟨σ',H',I.unwish,q⟩
 |cont=>obtain⟨σ',H',I,q⟩:=h;exact⟨σ',H',I.unwish,q⟩
 |ret u=>obtain⟨v,σ',H',I,r,q⟩:=h;exact⟨v,σ',H',I.unwish,r,q⟩
theorem PE.nox {e:Expr}{t:TE}(h:PE X.nox e t):PE X e t:=fun U s σ H Q I hw=>
 wpAny_mono (h U s σ H Q (I.wish _) hw) (fun _ _ ⟨v,H',I',r,q⟩=>⟨v,H',I'.unwish,r,q⟩) fun _ _ z=>False.elim z
theorem PSs.nox {st:List Stmt}{t:TS}(h:PSs X.nox st t):PSs X st t:=fun U s σ H D I hw=>
 wpAny_mono (h U s σ H D (I.wish _) hw) (fun _ _ q=>q.unwish) fun _ _ z=>False.elim z
end
section
variable {X:Cx}{st:Stmt}{rest:List Stmt}{t u:TS}{e:Expr}{te:TE}{pos:Pos}
def b3q:TS:=fun D σ H=>D.nx σ H
def b1P (t u:TS):TS:=fun D σ H=>t { D with nx:=u D } σ H
theorem a0j:PSs X [] b3q:=fun _ _ σ H _ I h=>wpAny_execs_nil ⟨σ,H,I,h⟩
theorem a0d (h1:PS X st t)(h2:PSs X rest u):PSs X (st::rest) (b1P t u):=by
 intro U s σ H D I h;refine wpAny_execs_cons (thn (h1 U s σ H { D with nx:=u D } I h) fun f s1 q=>?_);cases f with
 |next=>
  obtain⟨σ',H',I',q⟩:=q;exact h2 U s1 σ' H' D I' q
 |ret v=>exact q
 |brk=>exact q
 |cont=>exact q
theorem a0g (h1:PS X st t):PSs X [st] t:=by
 intro U s σ H D I h;refine wpAny_execs_cons (thn (h1 U s σ H D I h) fun f s1 q=>?_);cases f with
 |next=>exact wpAny_execs_nil q
 |ret v=>exact q
 |brk=>exact q
 |cont=>exact q
theorem Inv.quiet {U:List (Addr×Obj)}{σ:St}{H:Hp}{s:Shared}(I:Inv X U σ H s):interactive X.env=false:=by simp[interactive,I.ok.kind]
def b3w (te:TE):TS:=fun D σ H=>te σ H fun _ H1=>D.nx σ H1
theorem a1r (he:PE X e te)(hs:swapsWith e none pos.line X.env=pure false:=by rfl):PS X (.Expr e pos) (b3w te):=by
 intro U s σ H D I h;exact wpAny_Expr_any (thn (he U s σ H _ I h) fun v s1 ⟨x,H1,I1,r1,q1⟩=>⟨σ,H1,I1,q1⟩) I.quiet hs
def b4l (te:TE):TS:=fun D σ H=>te σ H D.rt
theorem a0r (he:PE X e te):PS X (.Return (some e) pos) (b4l te):=by
 intro U s σ H D I h;exact wpAny_Return_some (thn (he U s σ H _ I h) fun v s1 ⟨x,H1,I1,r1,q1⟩=>⟨x,σ,H1,I1,r1,q1⟩)
def tIfS (c:TT)(t u:TS):TS:=fun D σ H=>c σ H fun b H1=>if b=true then t D σ H1 else u D σ H1
theorem a0z {c:Expr}{a b:List Stmt}{tc:TT}(hc:PT X c tc)(ha:PSs X a t)(hb:PSs X b u):PS X (.If c a b pos) (tIfS tc t u):=by
 intro U s σ H D I h;refine wpAny_If (thn (hc U s σ H _ I h) fun d s1 ⟨H1,I1,q1⟩=>?_);cases d with
 |true=>exact ha U s1 σ H1 D I1 q1
 |false=>exact hb U s1 σ H1 D I1 q1
def b2J:TS:=fun _ _ _=>False
theorem a0D {sts:List Stmt}:PSs X sts b2J:=fun _ _ _ _ _ _ h=>h.elim
end
abbrev TG:=V->St->Hp->(St->Hp->Prop)->Prop
abbrev TGs:=List V->St->Hp->(St->Hp->Prop)->Prop
def PG (X:Cx)(target:Expr)(t:TG):Prop:=
 ∀(U:List (Addr×Obj)) (s:Shared) (σ:St) (H:Hp) (v:V) (u:Value) (Q:St->Hp->Prop),Inv X U σ H s->a0X v u->t v σ H Q →
  wpAny (model X.prog X.w) X.A (assign target X.env u) (fun _ s'=>∃σ' H',Inv X U σ' H' s'/\Q σ' H') X.xe s
def PGs (X:Cx)(ts:List Expr)(t:TGs):Prop:=
 ∀(U:List (Addr×Obj)) (s:Shared) (σ:St) (H:Hp) (vs:List V) (us:List Value) (Q:St->Hp->Prop),Inv X U σ H s->a1g vs us->t vs σ H Q →
  wpAny (model X.prog X.w) X.A (assignInOrder ((assignEach ts X.env).map (·.2)) us) (fun _ s'=>∃σ' H',Inv X U σ' H' s'/\Q σ' H') X.xe s
section
variable {X:Cx}{pos:Pos}
def a7w (i:Nat):TG:=fun v σ H Q=>Q (σ.set i (some v)) H
theorem a0n {i:Nat}{x:Str}(hN:X.N.Nodup)(hi:X.N[i]? =some x)(hx:Loc X.env.scope x)(hf:X.fn x=true\/X.env.scope.names.lookup x=some .local:=by first |exact .inl rfl |exact .inr rfl |assumption):PG X (.Name x pos) (a7w i):=by
 intro U s σ H v u Q I r h;exact wpAny_assign_Name (a4k I hN hi hx r (fun s' I'=>⟨_,H,I',h⟩) hf)
def b3Y:TGs:=fun vs σ H Q=>vs=[]/\Q σ H
def b1L (t:TG)(u:TGs):TGs:=fun vs σ H Q=>∃v r,vs=v::r/\t v σ H fun σ' H'=>u r σ' H' Q
theorem a1y:PGs X [] b3Y:=by
 intro U s σ H vs us Q I r h;obtain⟨e,h⟩:=h;subst e;cases r;exact assignInOrder_nil ⟨σ,H,I,h⟩
theorem a0q {e:Expr}{es:List Expr}{t:TG}{u:TGs}(h1:PG X e t)(h2:PGs X es u)
  (hs:(assignEach (e::es) X.env).map (·.2)=assign e X.env::(assignEach es X.env).map (·.2):=by rfl):PGs X (e::es) (b1L t u):=by
 intro U s σ H vs us Q I r h;obtain⟨v,vr,e1,h⟩:=h;subst e1;cases r with
 |cons r rr=>
  rw[hs];refine assignInOrder_cons (thn (h1 U s σ H _ _ _ I r h) fun _ s1 ⟨σ1,H1,I1,q1⟩=>?_);exact h2 U s1 σ1 H1 _ _ Q I1 rr q1
def b3A (K:Fg0)(n:Nat)(t:TGs):TG:=fun v σ H Q=>∃a xs,v=.ref a/\SqT K H a xs/\xs.length=n/\t xs σ H Q
theorem a3c {es:List Expr}{k:Nat}{t:TGs}{n:Nat}(hc:X.calm=true)(h:PGs X es t)
  (hn:(assignEach es X.env).length=n:=by rfl) (hst:(assignEach es X.env).findIdx? (·.1)=none:=by rfl):PG X (.Tuple es k pos) (b3A X.K n t):=by
 intro U s σ H v u Q I r hw;obtain⟨a,xs,e1,hq,hl,hw⟩:=hw;subst e1;cases r;obtain⟨its,rv,ht,hz⟩:=I.tuple hq;refine assign_Tuple_tuple (I.ok.hd hc) ht (by simp[hn,<-hl,rv.length]) hst fun h' hx=>?_;have I1:Inv X U σ H { s with heap:=h' }:=I.kept (t':=s.toks) fun b o e=>hx b o (nL0 (hL0 e)) e;exact h U _ σ H xs _ Q I1 (by simpa using rv) hw
def b3C (te:TE)(g:TG):TS:=fun D σ H=>te σ H fun x H1=>g x σ H1 D.nx
theorem b2e {tg e:Expr}{te:TE}{g:TG}(he:PE X e te)(hg:PG X tg g)(hs:swapsWithSole [tg] e pos.line X.env=pure false:=by rfl)(hw:swappedStores [tg] e X.env=pure none:=by rfl)
  (h1:(assignEach [tg] X.env).map (·.2)=[assign tg X.env]:=by rfl):PS X (.Assign [tg] e pos) (b3C te g):=by
 intro U s σ H D I h;refine wpAny_Assign_stores (thn (he U s σ H _ I h) fun v s1 ⟨x,H1,I1,r1,q1⟩=>?_) hs hw;rw[h1];exact thn (hg U s1 σ H1 x v _ I1 r1 q1) fun _ s2 q=>q
theorem a0s {i:Nat}{x:Str}{e:Expr}{te:TE}{pos':Pos}(hN:X.N.Nodup)(hi:X.N[i]? =some x)(hx:Loc X.env.scope x)(he:PE X e te)(hs:swapsWith e (some (.Name x pos')) pos.line X.env=pure false:=by rfl)(hf:X.fn x=true\/X.env.scope.names.lookup x=some .local:=by first |exact .inl rfl |exact .inr rfl |assumption) :
  PS X (.Assign [.Name x pos'] e pos) (b3C te (a7w i)):=by
 intro U s σ H D I h;refine wpAny_Assign_Name (thn (he U s σ H _ I h) fun v s1 ⟨y,H1,I1,r1,q1⟩=>?_) hs;exact a4k I1 hN hi hx r1 (fun s2 I2=>⟨_,H1,I2,q1⟩) hf
end
structure It where
 go:Nat->Hp->Prop
 yld:Nat->Hp->V->Hp->Prop
 stop:Nat->Hp->Prop
def a2X (X:Cx)(U:List (Addr×Obj))(H:Hp)(b:Addr):Prop:=
 H b=none/\b≠X.env.locals/\b∉X.fs/\(b∈X.ex\/X.s₀.heap.objs.size<=b)/\(∀x c,X.env.cells.lookup x=some c->c≠b)/\∀p∈X.pn++U,p.1≠b
theorem Inv.fpOk {X:Cx}{U:List (Addr×Obj)}{σ:St}{H H':Hp}{s:Shared}{b:Addr}(I:Inv X U σ H s)(hb:s.heap.objs.size<=b)(hn:H' b=none):a2X X U H' b:=by
 refine⟨hn,Nat.ne_of_gt (Nat.lt_of_lt_of_le I.lt hb),I.nofs hb,.inr (Nat.le_trans I.sz hb),fun x c e z=>?_,fun p hp z=>?_⟩
 ·obtain⟨v,q⟩:=I.cell x c e
  exact absurd (Nat.lt_of_lt_of_le q.lt (by rw[z];exact hb)) (Nat.lt_irrefl _)
 ·exact absurd (Nat.lt_of_lt_of_le (hL0 (I.pin p hp).1) (by rw[z];exact hb)) (Nat.lt_irrefl _)
structure a8R (P:Program) (w:World) (K:Fg0) (tg:Expr) (J:It) (fp:List Addr) (it:Addr) (tn:Nat->Heap->Prop):Prop where
 mem:it∈fp
 obj:∀i h,tn i h->∀b∈fp,∃o,h.get? b=some o/\∀v,o.data≠.cell v
 keep:∀i h h',tn i h->(∀b∈fp,∀o,h.get? b=some o->h'.get? b=some o)->tn i h'
 item:∀(X:Cx),X.prog=P->X.w=w->X.K=K->X.calm=true->∀(i:Nat) (U:List (Addr×Obj)) (s:Shared) (σ:St) (H:Hp) (E:Vs0),Inv X U σ H s->(∀b∈fp,a2X X U H b)->tn i s.heap->J.go i H →
  wpAny (model P w) X.A (pyNext (.ref it)) (fun r s1=>∃u,r=some u ∧
   wpAny (model P w) X.A (letOwnedTupleGo tg (.ref it) u) (fun _ s2=>∃x H',Inv X U σ H' s2/\a0X x u/\J.yld i H x H'/\tn (i+1) s2.heap/\∀b∈fp,H' b=none) E s1) E s
 done:∀(X:Cx),X.prog=P->X.w=w->X.K=K->X.calm=true->∀(i:Nat) (U:List (Addr×Obj)) (s:Shared) (σ:St) (H:Hp) (E:Vs0),Inv X U σ H s->(∀b∈fp,a2X X U H b)->tn i s.heap->J.stop i H →
  wpAny (model P w) X.A (pyNext (.ref it)) (fun r s1=>r=none/\Inv X U σ H s1) E s
 self:∀(A:Around) (i:Nat) (s:Shared) (Q:Vs0) (E:Vs0),tn i s.heap->Q (.ref it) s->wpAny (model P w) A (pyIter (.ref it)) Q E s
abbrev TI:=St->Hp->(It->Hp->Prop)->Prop
def PIE (X:Cx)(U:List (Addr×Obj))(σ:St)(tg:Expr)(R:It->Hp->Prop)(itv:Value)(s2:Shared):Prop:=
 ∃(it:Addr) (fp:List Addr) (tn:Nat->Heap->Prop) (J:It) (H':Hp),itv=.ref it/\Inv X U σ H' s2/\a8R X.prog X.w X.K tg J fp it tn/\tn 0 s2.heap/\(∀b∈fp,a2X X U H' b)/\R J H'
def PI (X:Cx)(tg iter:Expr)(wi:TI):Prop:=
 ∀(U:List (Addr×Obj)) (s:Shared) (σ:St) (H:Hp) (R:It->Hp->Prop),Inv X U σ H s->wi σ H R →
  wpAny (model X.prog X.w) X.A (eval iter X.env) (fun v s1=>wpAny (model X.prog X.w) X.A (pyIter v) (PIE X U σ tg R) X.xe s1) X.xe s
theorem b0M {M:Model}{A:Around}{E:Vs0}{s:Shared}{tg:Expr}{it:Addr}{u:Value}{o:Obj}{n:String}{vs:Array Value}{Q:Unit->Shared->Prop}(ho:s.heap.get? it=some o)(hc:o.cls=.type n)(hd:o.data=.fields vs)
  (hn:["enumerate","zip","dict_itemiterator","dict_reverseitemiterator","odict_iterator","itertools.zip_longest","itertools.pairwise"].contains n=false) (hQ:Q () s):wpAny M A (letOwnedTupleGo tg (.ref it) u) Q E s:=by
 unfold letOwnedTupleGo;cases tg<;>first
  |exact wP0 hQ
  | (cases u<;>first
    |exact wP0 hQ
    | (refine wB0 (wpAny_load ho ?_)
       rw[hc,hd];show wpAny M A (if (["enumerate","zip","dict_itemiterator","dict_reverseitemiterator","odict_iterator","itertools.zip_longest","itertools.pairwise"].contains n&&vs[0]?==some (rawInt _))=true then _ else _) Q E s;rw[if_neg (by intro h;rw[hn,Bool.false_and] at h;cases h)];exact wP0 hQ))
def Itl (K:Fg0)(a:Addr):It:=
 ⟨fun i H=>∃xs x,SqL K H a xs/\xs[i]? =some x,fun i H x H'=>H'=H/\∀xs,SqL K H a xs->xs[i]? =some x,fun i H=>∃xs,SqL K H a xs/\xs.length<=i⟩
def Itr (lo:Int)(n:Nat):It:=⟨fun i _=>i<n,fun i H x H'=>H'=H/\x=.int (lo+i),fun i _=>n<=i⟩
theorem a8n {P:Program}{w:World}{K:Fg0}{tg:Expr}(a it:Addr):a8R P w K tg (Itl K a) [it] it (fun i h=>h.IsListIter it a i) where
 mem:=by simp
 obj:=fun i h st b hb=>by
  have e:b=it:=by simpa using hb
  subst e;obtain⟨o,e,c,d⟩:=st;exact⟨o,e,fun v z=>by rw[d] at z;cases z⟩
 keep:=fun i h h' st k=>st.at fun o e=>k it (by simp) o e
 item:=by
  intro X hP hw hK hc i U s σ H E I hf st hg;subst hP hw hK;obtain⟨xs,x,hq,hx⟩:=hg;obtain⟨its,rv,p,hz⟩:=I.list hq;obtain⟨u,hu,ru⟩:=rv.get hx;obtain⟨f0,f1,f2,f3,f4,f5⟩:=hf it (by simp);refine wpAny_pyNext_list_item st p.isList (x:=u) (by simpa using hu) fun h' st' sb=>?_;have I1:Inv X U σ H { s with heap:=h' }:=I.turned (t':=s.toks) (fun b o hb e=>(sb.2 b hb).trans e) f0 f1 f3 f4 f5;obtain⟨o,e,c,d⟩:=id st';exact⟨u,rfl,b0M (s:={ s with heap:=h' }) e c d (by decide) ⟨x,H,I1,ru,⟨rfl,fun ys hy=>by rw[I.list_inj hy hq];exact hx⟩,st',fun b hb=>(hf b hb).1⟩⟩
 done:=by
  intro X hP hw hK hc i U s σ H E I hf st hg;subst hP hw hK;obtain⟨xs,hq,hx⟩:=hg;obtain⟨its,rv,p,hz⟩:=I.list hq;obtain⟨f0,f1,f2,f3,f4,f5⟩:=hf it (by simp);have hl:=rv.length;exact wpAny_pyNext_list_end (I.ok.hd hc) st p.isList (by simp;omega) fun h' eb=>⟨rfl,I.turned (t':=s.toks) (fun b o hb e=>eb b o hb e) f0 f1 f3 f4 f5⟩
 self:=fun _ _ _ _ _ st h=>wpAny_pyIter_listiter st h
theorem a6F {P:Program}{w:World}{K:Fg0}{tg:Expr}(it:Addr)(lo:Int)(n:Nat):a8R P w K tg (Itr lo n) [it] it (fun i h=>IsRangeIter h it (lo+(i:Nat) * 1) ((n:Int)-(i:Nat)) 1) where
 mem:=by simp
 obj:=fun i h st b hb=>by
  have e:b=it:=by simpa using hb
  subst e;exact⟨_,st,fun v z=>by
   have z':Data.fields _=Data.cell v:=z;cases z'⟩
 keep:=fun i h h' st k=>k it (by simp) _ st
 item:=by
  intro X hP hw hK hc i U s σ H E I hf st hg;subst hP hw hK;obtain⟨f0,f1,f2,f3,f4,f5⟩:=hf it (by simp);have W:=Walks.range (prog:=X.prog) (w:=X.w) (I.ok.hd hc) it lo 1 n;refine W.item i s _ _ hg st fun v h' tk hv st' kk=>?_;obtain⟨t,rfl⟩:=hv;have I1:Inv X U σ H { s with heap:=h',toks:=tk }:=I.turned (fun b o hb e=>kk b o (by simpa using hb) e) f0 f1 f3 f4 f5;refine⟨_,rfl,b0M (s:={ s with heap:=h',toks:=tk }) (n:="range_iterator") st' rfl rfl (by decide) ⟨.int (lo+i),H,I1,⟨t,?_⟩,⟨rfl,rfl⟩,st',fun b hb=>(hf b hb).1⟩⟩;rw[Int.mul_one]
 done:=by
  intro X hP hw hK hc i U s σ H E I hf st hg;subst hP hw hK;obtain⟨f0,f1,f2,f3,f4,f5⟩:=hf it (by simp);exact wpAny_pyNext_range_end (I.ok.hd hc) st (by have:n<=i:=hg;omega) fun h' eb=>⟨rfl,I.turned (t':=s.toks) (fun b o hb e=>eb b o hb e) f0 f1 f3 f4 f5⟩
 self:=fun _ _ _ _ _ st h=>wpAny_pyIter_rangeiter st h
section
variable {X:Cx}{tg:Expr}
def b3E (K:Fg0)(tl:TE):TI:=fun σ H R=>tl σ H fun x H1=>∃a,x=.ref a/\(∃xs,SqL K H1 a xs)/\R (Itl K a) H1
theorem a1q {l:Expr}{tl:TE}(hl:PE X l tl):PI X tg l (b3E X.K tl):=by
 intro U s σ H R I h;refine thn (hl U s σ H _ I h) fun v s1 ⟨x,H1,I1,r1,q1⟩=>?_;obtain⟨a,e,⟨xs,hq⟩,q⟩:=q1;subst e;cases r1;obtain⟨its,rv,p,hz⟩:=I1.list hq;refine wpAny_pyIter_list p.isList ?_;refine⟨s1.heap.objs.size,[s1.heap.objs.size],_,_,H1,rfl,I1.kept (t':=s1.toks) fun b o e=>hP0 _ e,a8n a _,⟨_,hS0 _ rfl,rfl,rfl⟩,fun b hb=>?_,q⟩;have e:b=s1.heap.objs.size:=by simpa using hb
 subst e;exact I1.fpOk (nR0 _) (I1.hok.fresh (nR0 _))
theorem a6g {U:List (Addr×Obj)}{σ:St}{H:Hp}{s:Shared}{R:It->Hp->Prop}{E:Vs0}{lo hi:Int}{t u v:Tok}{tk:Nat}(I:Inv X U σ H s)(h1:-(2 ^ 62)<=lo)(h2:lo<2 ^ 62)(h3:-(2 ^ 62)<=hi)(h4:hi<2 ^ 62)
  (q:R (Itr lo (hi-lo).toNat) H):wpAny (model X.prog X.w) X.A (pyIter (.ref s.heap.objs.size)) (PIE X U σ tg R) E { s with heap:=s.heap.push { cls:=.type "range",data:=.fields #[.int lo t,.int hi u,.int 1 v] },toks:=tk }:=by
 refine wpAny_pyIter_range (IsRange.new ..) (small_one h1 h2 h3 h4) ?_;have I1:Inv X U σ H { s with heap:=s.heap.push { cls:=.type "range",data:=.fields #[.int lo t,.int hi u,.int 1 v] },toks:=tk }:=I.kept fun b o e=>hP0 _ e;refine⟨(s.heap.push { cls:=.type "range",data:=.fields #[.int lo t,.int hi u,.int 1 v] }).objs.size,[(s.heap.push { cls:=.type "range",data:=.fields #[.int lo t,.int hi u,.int 1 v] }).objs.size],_,_,H,rfl,
  I1.kept (t':=tk) fun b o e=>hP0 _ e,a6F _ lo (hi-lo).toNat,?_,fun b hb=>?_,q⟩
 ·have e1:lo+((0:Nat):Int) * 1=lo:=by simp
  have e2:(((hi-lo).toNat:Nat):Int)-((0:Nat):Int)=Builtin.Range.rangeSize lo hi 1:=by rw[rangeSize_one];split<;>omega
  show IsRangeIter _ _ (lo+((0:Nat):Int) * 1) ((((hi-lo).toNat:Nat):Int)-((0:Nat):Int)) 1;rw[e1,e2];exact hS0 _ rfl
 ·have e:b=(s.heap.push { cls:=.type "range",data:=.fields #[.int lo t,.int hi u,.int 1 v] }).objs.size:=by simpa using hb
  subst e;exact I1.fpOk (nR0 _) (I1.hok.fresh (nR0 _))
def b3J (ta:TA):TI:=fun σ H R=>ta σ H fun vs H1=>∃j:Int,vs=[.int j]/\-(2 ^ 62)<=j/\j<2 ^ 62/\R (Itr 0 j.toNat) H1
def b3S (ta:TA):TI:=fun σ H R=>ta σ H fun vs H1=>∃i j:Int,vs=[.int i,.int j]/\(-(2 ^ 62)<=i/\i<2 ^ 62/\-(2 ^ 62)<=j/\j<2 ^ 62)/\R (Itr i (j-i).toNat) H1
theorem a2n {a:Expr}{ta:TA}{p pos:Pos}(hg:Gl X "range")(hm:X.mg "range"=none)(ha:PA X [a] ta)(hs:starEach [a] X.env=[(false,eval a X.env)]:=by rfl):PI X tg (.Call (.Name "range" p) [a] [] pos) (b3J ta):=by
 intro U s σ H R I h;refine Call_ (a3b I hg hm boot_range (PyProof.Rows.callWith_type1 (thn (ha pos U s σ H _ I h) fun us s1 ⟨vs,H1,I1,r1,q1⟩=>?_) hs rfl));obtain⟨j,e,q1,q2,q⟩:=q1;subst e;cases r1 with
 |cons r rr=>
  cases rr;obtain⟨t,rfl⟩:=r;exact call_range_1 (a6g I1 (by omega) (by omega) q1 q2 (by simpa using q))
theorem a8h {a b:Expr}{ta:TA}{p pos:Pos}(hg:Gl X "range")(hm:X.mg "range"=none)(ha:PA X [a,b] ta)(hs:starEach [a,b] X.env=[(false,eval a X.env),(false,eval b X.env)]:=by rfl)(hs2:starEach [b] X.env=[(false,eval b X.env)]:=by rfl) :
  PI X tg (.Call (.Name "range" p) [a,b] [] pos) (b3S ta):=by
 intro U s σ H R I h;refine Call_ (a3b I hg hm boot_range (PyProof.Rows.callWith_type1 (thn (ha pos U s σ H _ I h) fun us s1 ⟨vs,H1,I1,r1,q1⟩=>?_) (by rw[hs,hs2]) (by rw[hs2];rfl)));obtain⟨i,j,e,⟨q1,q2,q3,q4⟩,q⟩:=q1;subst e;cases r1 with
 |cons r rr=>
  cases rr with
  |cons r' rr=>
   cases rr;obtain⟨t,rfl⟩:=r;obtain⟨t',rfl⟩:=r';exact call_range_2 (a6g I1 q1 q2 q3 q4 q)
def b4c (wi:TI)(g:TG)(tb:TS):TS:=fun D σ H=>wi σ H fun J H1=>∃W:Nat->Nat->St->Hp->Prop,(∃m,W 0 m σ H1)/\∀i m σ H,W i m σ H →
 (J.stop i H/\D.nx σ H)\/(J.go i H/\∃N:St->Hp->Prop,(∀σ' H',N σ' H'->∃m',m'<m/\W (i+1) m' σ' H')/\∀x H',J.yld i H x H'->g x σ H' fun σ2 H2=>tb { D with nx:=N,ct:=N,bk:=D.nx } σ2 H2)
def a3T (fp:List Addr)(h:Heap):List (Addr×Obj):=fp.filterMap fun b=>(h.get? b).map fun o=>(b,o)
theorem a1N {fp:List Addr}{h:Heap}{b:Addr}{o:Obj}(hb:b∈fp)(e:h.get? b=some o):(b,o)∈a3T fp h:=List.mem_filterMap.mpr ⟨b,hb,by rw[e];rfl⟩
theorem a8r {fp:List Addr}{h:Heap}{p:Addr×Obj}(hp:p∈a3T fp h):p.1∈fp/\h.get? p.1=some p.2:=by
 obtain⟨b,hb,e⟩:=List.mem_filterMap.mp hp;cases q:h.get? b with
 |none=>rw[q] at e;cases e
 |some o=>
  rw[q] at e;have e':(b,o)=p:=Option.some.inj e;subst e';exact⟨hb,q⟩
theorem Inv.pinned {U:List (Addr×Obj)}{σ:St}{H:Hp}{s:Shared}{fp:List Addr}(I:Inv X U σ H s)(hf:∀b∈fp,a2X X U H b)(ho:∀b∈fp,∃o,s.heap.get? b=some o/\∀v,o.data≠.cell v):Inv X (U++a3T fp s.heap) σ H s:=
 I.pins_of fun p hp=>(List.mem_append.mp hp).elim (fun z=>I.pin p (List.mem_append_right _ z)) fun z=>by
  obtain⟨hb,e⟩:=a8r z;obtain⟨f0,f1,f2,_⟩:=hf p.1 hb;obtain⟨o,e',d⟩:=ho p.1 hb;rw[e] at e';cases e';exact⟨e,f0,f1,f2,d⟩
theorem Inv.unpinned {U pl:List (Addr×Obj)}{σ:St}{H:Hp}{s:Shared}(I:Inv X (U++pl) σ H s):Inv X U σ H s:=I.pins_of fun p hp=>I.pin p (List.mem_append_right _ (List.mem_append_left _ hp))
theorem a1H {iter:Expr}{body:List Stmt}{wi:TI}{g:TG}{tb:TS}{pos:Pos}(hp:PassesOwn (model X.prog X.w) X.A X.env X.xe)(hc:X.calm=true)(hi:PI X tg iter wi)(hg:PG X tg g)(hb:PSs X body tb)
  (hs:∀x,foldedSetIterable iter X.env x=pure x:=by intro _;rfl):PS X (.For tg iter body [] pos) (b4c wi g tb):=by
 intro U s σ H D I h;refine wpAny_For (thn (hi U s σ H _ I h) fun v s1 h1=>thn h1 fun itv s2 h2=>?_) hs;obtain⟨it,fp,tn,J,H2,e,I2,T,st2,f2,W,⟨m0,w0⟩,turn⟩:=h2;subst e;have stat:∀{H':Hp},(∀b∈fp,H' b=none)->∀b∈fp,a2X X U H' b:=fun hn b hb=>⟨hn b hb,(f2 b hb).2⟩;refine codeAny_forLoop_any (fun n s'=>∃i σ' H',Inv X U σ' H' s'/\tn i s'.heap/\(∀b∈fp,H' b=none)/\W i n σ' H') ?_ m0 ⟨0,σ,H2,I2,st2,fun b hb=>(f2 b hb).1,w0⟩;rintro n s3 ⟨i,σ3,H3,I3,st3,fr3,w3⟩;rcases turn i n σ3 H3 w3 with ⟨stop,qn⟩ |⟨go,N,hN,step⟩
 ·refine wpAny_passesOwn hp (thn (T.done X rfl rfl rfl hc i U s3 σ3 H3 X.xe I3 (stat fr3) st3 stop) fun r s4 ⟨hr,I4⟩=>?_)
  subst hr;exact wpAny_execs_nil ⟨σ3,H3,I4,qn⟩
 ·refine wpAny_passesOwn hp (thn (T.item X rfl rfl rfl hc i U s3 σ3 H3 X.xe I3 (stat fr3) st3 go) fun r s4 ⟨u,hr,h4⟩=>?_)
  subst hr;refine wpAny_passesOwn hp (thn h4 fun _ s5 ⟨x,H5,I5,r5,y5,st5,fr5⟩=>?_);have I5':=I5.pinned (stat fr5) (T.obj _ _ st5);refine wpAny_passesOwn hp (thn (hg _ s5 σ3 H5 x u _ I5' r5 (step x H5 y5)) fun _ s6 ⟨σ6,H6,I6,q6⟩=>?_);refine wpAny_passesOwn hp (thn (hb _ s6 σ6 H6 _ I6 q6) fun f s7 q7=>?_);have again:∀{σ7:St} {H7:Hp},Inv X (U++a3T fp s5.heap) σ7 H7 s7->N σ7 H7->∃m,m<n/\∃i σ' H',Inv X U σ' H' s7/\tn i s7.heap/\(∀b∈fp,H' b=none)/\W i m σ' H':=fun {σ7 H7} I7 n7=>by
   obtain⟨m',hm,w7⟩:=hN σ7 H7 n7;refine⟨m',hm,i+1,σ7,H7,I7.unpinned,T.keep _ _ _ st5 fun b hb o e=>(I7.pin (b,o) (List.mem_append_right _ (List.mem_append_right _ (a1N hb e)))).1,fun b hb=>?_,w7⟩;obtain⟨o,e,d⟩:=T.obj _ _ st5 b hb;exact(I7.pin (b,o) (List.mem_append_right _ (List.mem_append_right _ (a1N hb e)))).2.1
  cases f with
  |next=>obtain⟨σ7,H7,I7,n7⟩:=q7;exact again I7 n7
  |cont=>obtain⟨σ7,H7,I7,n7⟩:=q7;exact again I7 n7
  |brk=>obtain⟨σ7,H7,I7,q7⟩:=q7;exact⟨σ7,H7,I7.unpinned,q7⟩
  |ret v=>obtain⟨x7,σ7,H7,I7,r7,q7⟩:=q7;exact⟨x7,σ7,H7,I7.unpinned,r7,q7⟩
end
theorem a2h {K:Fg0}{a:Addr}{xs:List V}{g:TG}{tb:TS}{D:a3I}{σ:St}{H:Hp}(Pv:Nat->St->Hp->Prop)(h0:Pv 0 σ H)(hl:∀i σ H,i<=xs.length->Pv i σ H->SqL K H a xs)
  (hs:∀i x σ H,xs[i]? =some x->Pv i σ H->g x σ H fun σ2 H2=>tb { D with nx:=Pv (i+1),ct:=Pv (i+1),bk:=D.nx } σ2 H2) (hd:∀σ H,Pv xs.length σ H->D.nx σ H) :
  ∃W:Nat->Nat->St->Hp->Prop,(∃m,W 0 m σ H)/\∀i m σ H,W i m σ H →
   ((Itl K a).stop i H/\D.nx σ H)\/((Itl K a).go i H/\∃N:St->Hp->Prop,(∀σ' H',N σ' H'->∃m',m'<m/\W (i+1) m' σ' H')/\∀x H',(Itl K a).yld i H x H'->g x σ H' fun σ2 H2=>tb { D with nx:=N,ct:=N,bk:=D.nx } σ2 H2):=by
 refine⟨fun i m σ H=>m=xs.length-i/\i<=xs.length/\Pv i σ H,⟨xs.length,by simp,zL0 _,h0⟩,?_⟩;rintro i m σ H ⟨rfl,hi,p⟩;have q:=hl i σ H hi p
 by_cases hlt:i<xs.length
 ·refine .inr ⟨⟨xs,xs[i],q,by simp[hlt]⟩,Pv (i+1),fun σ' H' p'=>⟨xs.length-(i+1),by omega,rfl,hlt,p'⟩,fun x H' y=>?_⟩
  obtain⟨e,y⟩:=y;subst e;exact hs i x σ _ (y xs q) p
 ·have e:i=xs.length:=by omega
  subst e;exact .inl ⟨⟨xs,q,nR0 _⟩,hd σ H p⟩
theorem a2B {lo:Int}{n:Nat}{g:TG}{tb:TS}{D:a3I}{σ:St}{H:Hp}(Pv:Nat->St->Hp->Prop)(h0:Pv 0 σ H)
  (hs:∀i σ H,i<n->Pv i σ H->g (.int (lo+i)) σ H fun σ2 H2=>tb { D with nx:=Pv (i+1),ct:=Pv (i+1),bk:=D.nx } σ2 H2) (hd:∀σ H,Pv n σ H->D.nx σ H) :
  ∃W:Nat->Nat->St->Hp->Prop,(∃m,W 0 m σ H)/\∀i m σ H,W i m σ H →
   ((Itr lo n).stop i H/\D.nx σ H)\/((Itr lo n).go i H/\∃N:St->Hp->Prop,(∀σ' H',N σ' H'->∃m',m'<m/\W (i+1) m' σ' H')/\∀x H',(Itr lo n).yld i H x H'->g x σ H' fun σ2 H2=>tb { D with nx:=N,ct:=N,bk:=D.nx } σ2 H2):=by
 refine⟨fun i m σ H=>m=n-i/\i<=n/\Pv i σ H,⟨n,by simp,zL0 _,h0⟩,?_⟩;rintro i m σ H ⟨rfl,hi,p⟩
 by_cases hlt:i<n
 ·refine .inr ⟨hlt,Pv (i+1),fun σ' H' p'=>⟨n-(i+1),by omega,rfl,hlt,p'⟩,fun x H' y=>?_⟩
  obtain⟨e,y⟩:=y;subst e y;exact hs i σ _ hlt p
 ·have e:i=n:=by omega
  subst e;exact .inl ⟨nR0 _,hd σ H p⟩
abbrev R2:=V->V->Hp->VK->Prop
def OpR (X:Cx)(f:Value->Value->Sem Value)(r:R2):Prop:=
 ∀(U:List (Addr×Obj)) (s:Shared) (σ:St) (H:Hp) (x y:V) (v u:Value) (Q:VK),Inv X U σ H s->a0X x v->a0X y u->r x y H Q →
  wpAny (model X.prog X.w) X.A (f v u) (EP X U σ Q) X.xe s
def UnR (X:Cx)(f:Value->Sem Value)(r:V->Hp->VK->Prop):Prop:=
 ∀(U:List (Addr×Obj)) (s:Shared) (σ:St) (H:Hp) (x:V) (v:Value) (Q:VK),Inv X U σ H s->a0X x v->r x H Q →
  wpAny (model X.prog X.w) X.A (f v) (EP X U σ Q) X.xe s
def a1C (X:Cx)(f:Value)(r:List V->Hp->VK->Prop):Prop:=
 ∀(U:List (Addr×Obj)) (s:Shared) (σ:St) (H:Hp) (xs:List V) (us:List Value) (Q:VK),Inv X U σ H s->a1g xs us->r xs H Q →
  wpAny (model X.prog X.w) X.A (call f us) (EP X U σ Q) X.xe s
def tOp (r:R2)(ta tb:TE):TE:=fun σ H Q=>ta σ H fun x H1=>tb σ H1 fun y H2=>r x y H2 Q
def tUn (r:V->Hp->VK->Prop)(ta:TE):TE:=fun σ H Q=>ta σ H fun x H1=>r x H1 Q
def rI (C:Int->Int->Prop)(g:Int->Int->V):R2:=fun x y H Q=>∃i j,x=.int i/\y=.int j/\C i j/\Q (g i j) H
def rI0 (g:Int->Int->V):R2:=fun x y H Q=>∃i j,x=.int i/\y=.int j/\Q (g i j) H
def rU (g:Int->V):V->Hp->VK->Prop:=fun x H Q=>∃i,x=.int i/\Q (g i) H
section
variable {X:Cx}{a b c:Expr}{ta tb tc:TE}{pos:Pos}
theorem b3R (ha:PE X a ta)(hb:PE X b tb){U:List (Addr×Obj)}{s:Shared}{σ:St}{H:Hp}{R:V->V->Hp->Prop}(I:Inv X U σ H s)
  (h:ta σ H fun x H1=>tb σ H1 fun y H2=>R x y H2) {Q:Vs0} {f:Value->Value->Sem Value}
  (hf:∀v u s2 x y H2,Inv X U σ H2 s2->a0X x v->a0X y u->R x y H2->wpAny (model X.prog X.w) X.A (f v u) Q X.xe s2) :
  wpAny (model X.prog X.w) X.A (eval a X.env) (fun v s₁=>wpAny (model X.prog X.w) X.A (eval b X.env) (fun u s₂=>wpAny (model X.prog X.w) X.A (f v u) Q X.xe s₂) X.xe s₁) X.xe s:=by
 refine thn (ha U s σ H _ I h) fun v s1 ⟨x,H1,I1,r1,q1⟩=>?_;refine thn (hb U s1 σ H1 _ I1 q1) fun u s2 ⟨y,H2,I2,r2,q2⟩=>?_;exact hf v u s2 x y H2 I2 r1 r2 q2
theorem a0m {op:Operator}{r:R2}(ho:OpR X (binaryOp op) r)(ha:PE X a ta)(hb:PE X b tb):PE X (.BinOp a op b pos) (tOp r ta tb):=by
 intro U s σ H Q I h;exact wpAny_BinOp (b3R ha hb I h fun v u s2 x y H2 I2 rx ry q=>ho U s2 σ H2 x y v u Q I2 rx ry q)
theorem b3n {op:UnaryOp}{r:V->Hp->VK->Prop}(ho:UnR X (unaryOp op) r)(ha:PE X a ta):PE X (.UnaryOp op a pos) (tUn r ta):=by
 intro U s σ H Q I h;exact UnaryOp_ (thn (ha U s σ H _ I h) fun v s1 ⟨x,H1,I1,r1,q1⟩=>ho U s1 σ H1 x v Q I1 r1 q1)
theorem opI {f:Value->Value->Sem Value}{C:Int->Int->Prop}{g:Int->Int->Int}
  (rule:∀(i j:Int) (t u:Tok) (s:Shared) (Q:Vs0) (E:Vs0),C i j->Q (.int (g i j) s.toks) { s with toks:=s.toks+1 }->wpAny (model X.prog X.w) X.A (f (.int i t) (.int j u)) Q E s) :
  OpR X f (rI C fun i j=>.int (g i j)):=by
 intro U s σ H x y v u Q I rx ry h;obtain⟨i,j,rfl,rfl,hc,q⟩:=h;obtain⟨t,rfl⟩:=rx;obtain⟨t',rfl⟩:=ry;exact rule i j t t' s _ _ hc ⟨.int (g i j),H,I.tok _,⟨_,rfl⟩,q⟩
theorem b4k {f:Value->Value->Sem Value}{g:Int->Int->Int}
  (rule:∀(i j:Int) (t u:Tok) (s:Shared) (Q:Vs0) (E:Vs0),Q (.int (g i j) s.toks) { s with toks:=s.toks+1 }->wpAny (model X.prog X.w) X.A (f (.int i t) (.int j u)) Q E s) :
  OpR X f (rI0 fun i j=>.int (g i j)):=by
 intro U s σ H x y v u Q I rx ry h;obtain⟨i,j,rfl,rfl,q⟩:=h;obtain⟨t,rfl⟩:=rx;obtain⟨t',rfl⟩:=ry;exact rule i j t t' s _ _ ⟨.int (g i j),H,I.tok _,⟨_,rfl⟩,q⟩
theorem b3c {f:Value->Value->Sem Value}{g:Int->Int->Bool}
  (rule:∀(i j:Int) (t u:Tok) (s:Shared) (Q:Vs0) (E:Vs0),Q (.bool (g i j)) s->wpAny (model X.prog X.w) X.A (f (.int i t) (.int j u)) Q E s) :
  OpR X f (rI0 fun i j=>.bl (g i j)):=by
 intro U s σ H x y v u Q I rx ry h;obtain⟨i,j,rfl,rfl,q⟩:=h;obtain⟨t,rfl⟩:=rx;obtain⟨t',rfl⟩:=ry;exact rule i j t t' s _ _ ⟨.bl (g i j),H,I,rfl,q⟩
def CDiv (i j:Int):Prop:=0<j/\j<1073741824
def b3f (i j:Int):Prop:=0<=j/\j<=1000000/\i.natAbs<2 ^ 64
def b3m (i j:Int):Prop:=(-(2 ^ 64)<i/\i<2 ^ 64)\/(-(2 ^ 64)<j/\j<2 ^ 64)
theorem b3m.ok {i j:Int}(h:b3m i j):IntMulOk i j:=by
 rcases h with ⟨h1,h2⟩ |⟨h1,h2⟩
 ·exact .of_left (intBits_le_64 h1 h2)
 ·exact .of_right (intBits_le_64 h1 h2)
theorem two_pow_nn (k:Nat):(0:Int)<=2 ^ k:=by
 rw[two_pow_cast];exact Int.natCast_nonneg _
theorem a1d:OpR X (binaryOp .Add) (rI0 fun i j=>.int (i+j)):=b4k fun _ _ _ _ _ _ _ q=>add_int q
theorem a7t:OpR X (binaryOp .Sub) (rI0 fun i j=>.int (i-j)):=b4k fun _ _ _ _ _ _ _ q=>sub_int q
theorem a6c:OpR X (binaryOp .Mult) (rI b3m fun i j=>.int (i * j)):=opI fun _ _ _ _ _ _ _ hc q=>mul_int q hc.ok
theorem a1D:OpR X (binaryOp .FloorDiv) (rI CDiv fun i j=>.int (i/j)):=opI fun i j _ _ _ _ _ hc q=>by
 have h1:(0:Int)<j:=hc.1;have h2:j<1073741824:=hc.2;exact floordiv_int (by omega) (by rw[Int.fdiv_eq_ediv_of_nonneg i (by omega)];exact q) (.inl (PyProof.noPylong_small (by omega)))
theorem a0M:OpR X (binaryOp .Mod) (rI (fun _ j=>0<j) fun i j=>.int (i%j)):=opI fun i j _ _ _ _ _ hc q=>by
 have h1:(0:Int)<j:=hc;exact mod_int' (by omega) (by rw[Int.fmod_eq_emod_of_nonneg i (by omega)];exact q)
theorem a6r:OpR X (binaryOp .Pow) (rI b3f fun i j=>.int (i ^ j.toNat)):=opI fun _ _ _ _ _ _ _ hc q=>pow_int_small hc.1 hc.2.1 hc.2.2 q
theorem unI {f:Value->Sem Value}{g:Int->Int}
  (rule:∀(i:Int) (t:Tok) (s:Shared) (Q:Vs0) (E:Vs0),Q (.int (g i) s.toks) { s with toks:=s.toks+1 }->wpAny (model X.prog X.w) X.A (f (.int i t)) Q E s) :
  UnR X f (rU fun i=>.int (g i)):=by
 intro U s σ H x v Q I rx h;obtain⟨i,rfl,q⟩:=h;obtain⟨t,rfl⟩:=rx;exact rule i t s _ _ ⟨.int (g i),H,I.tok _,⟨_,rfl⟩,q⟩
theorem b2Y:UnR X (unaryOp .USub) (rU fun i=>.int (-i)):=unI fun _ _ _ _ _ q=>neg_int q
def b3Z:V->V->Bool
 | .non,.non=>true | .non,.int _=>true | .int _,.non=>true | .non,.bl _=>true | .bl _,.non=>true | .non,.str _=>true | .str _,.non=>true
 | .int _,.int _=>true | .bl _,.bl _=>true | .str _,.str _=>true | .byt _,.byt _=>true
 | .int _,.str _=>true | .str _,.int _=>true | .bl _,.str _=>true | .str _,.bl _=>true
 |_,_=>false
def rEq:R2:=fun x y H Q=>b3Z x y=true/\Q (.bl (decide (x=y))) H
def rNe:R2:=fun x y H Q=>b3Z x y=true/\Q (.bl (!decide (x=y))) H
theorem a8c {i j:Int}:decide (V.int i=V.int j)=(i==j):=by
 rw[Bool.eq_iff_iff];simp
theorem b0m {i j:Bool}:decide (V.bl i=V.bl j)=(i==j):=by
 rw[Bool.eq_iff_iff];simp
theorem a5A {i j:Str}:decide (V.str i=V.str j)=(i==j):=by
 rw[Bool.eq_iff_iff];simp
theorem a7n {i j:Array UInt8}:decide (V.byt i=V.byt j)=(i.toList==j.toList):=by
 rw[Bool.eq_iff_iff];cases i;cases j;simp
theorem a0R {U:List (Addr×Obj)}{σ:St}{H:Hp}{s:Shared}{Q:VK}{k k':Bool}(I:Inv X U σ H s)(q:Q (.bl k) H)(e:k=k'):EP X U σ Q (.bool k') s:=by
 subst e;exact⟨.bl k,H,I,rfl,q⟩
theorem a1p:OpR X (compareOp .Eq) rEq:=by
 intro U s σ H x y v u Q I rx ry h;obtain⟨hs,q⟩:=h;cases x with
 |non=>
  cases rx;cases y with
  |non=>cases ry;exact PySem.EqNone.eq_none_none (a0R I q (by simp))
  |bl j=>cases ry;exact PySem.EqNone.eq_none_bool (a0R I q (by simp))
  |int j=>obtain⟨t',rfl⟩:=ry;exact PySem.EqNone.eq_none_int (a0R I q (by simp))
  |str j=>obtain⟨t',rfl⟩:=ry;exact PySem.EqNone.eq_none_str (a0R I q (by simp))
  |_=>exact absurd (show false=true from hs) bF0
 |bl i=>
  cases rx;cases y with
  |non=>cases ry;exact PySem.EqNone.eq_bool_none (a0R I q (by simp))
  |bl j=>cases ry;exact eq_bool (a0R I q b0m)
  |str j=>obtain⟨t',rfl⟩:=ry;exact PySem.EqMixed.eq_bool_str (a0R I q (by simp))
  |_=>exact absurd (show false=true from hs) bF0
 |int i=>
  obtain⟨t,rfl⟩:=rx;cases y with
  |non=>cases ry;exact PySem.EqNone.eq_int_none (a0R I q (by simp))
  |int j=>obtain⟨t',rfl⟩:=ry;exact eq_int (a0R I q a8c)
  |str j=>obtain⟨t',rfl⟩:=ry;exact PySem.EqMixed.eq_int_str (a0R I q (by simp))
  |_=>exact absurd (show false=true from hs) bF0
 |str i=>
  obtain⟨t,rfl⟩:=rx;cases y with
  |non=>cases ry;exact PySem.EqNone.eq_str_none (a0R I q (by simp))
  |bl j=>cases ry;exact PySem.EqMixed.eq_str_bool (a0R I q (by simp))
  |int j=>obtain⟨t',rfl⟩:=ry;exact PySem.EqMixed.eq_str_int (a0R I q (by simp))
  |str j=>obtain⟨t',rfl⟩:=ry;exact eq_str (a0R I q a5A)
  |_=>exact absurd (show false=true from hs) bF0
 |byt i=>
  obtain⟨t,rfl⟩:=rx;cases y with
  |byt j=>obtain⟨t',rfl⟩:=ry;exact PySem.W.eq_bytes (a0R I q a7n)
  |_=>exact absurd (show false=true from hs) bF0
 |_=>cases y<;>exact absurd (show false=true from hs) bF0
theorem a6D:OpR X (compareOp .NotEq) rNe:=by
 intro U s σ H x y v u Q I rx ry h;obtain⟨hs,q⟩:=h;cases x with
 |non=>
  cases rx;cases y with
  |non=>cases ry;exact PySem.EqNone.ne_none_none (a0R I q (by simp))
  |bl j=>cases ry;exact PySem.EqNone.ne_none_bool (a0R I q (by simp))
  |int j=>obtain⟨t',rfl⟩:=ry;exact PySem.EqNone.ne_none_int (a0R I q (by simp))
  |str j=>obtain⟨t',rfl⟩:=ry;exact PySem.EqNone.ne_none_str (a0R I q (by simp))
  |_=>exact absurd (show false=true from hs) bF0
 |bl i=>
  cases rx;cases y with
  |non=>cases ry;exact PySem.EqNone.ne_bool_none (a0R I q (by simp))
  |bl j=>cases ry;exact ne_bool (a0R I q (congrArg not b0m))
  |str j=>obtain⟨t',rfl⟩:=ry;exact PySem.EqMixed.ne_bool_str (a0R I q (by simp))
  |_=>exact absurd (show false=true from hs) bF0
 |int i=>
  obtain⟨t,rfl⟩:=rx;cases y with
  |non=>cases ry;exact PySem.EqNone.ne_int_none (a0R I q (by simp))
  |int j=>obtain⟨t',rfl⟩:=ry;exact ne_int (a0R I q (congrArg not a8c))
  |str j=>obtain⟨t',rfl⟩:=ry;exact PySem.EqMixed.ne_int_str (a0R I q (by simp))
  |_=>exact absurd (show false=true from hs) bF0
 |str i=>
  obtain⟨t,rfl⟩:=rx;cases y with
  |non=>cases ry;exact PySem.EqNone.ne_str_none (a0R I q (by simp))
  |bl j=>cases ry;exact PySem.EqMixed.ne_str_bool (a0R I q (by simp))
  |int j=>obtain⟨t',rfl⟩:=ry;exact PySem.EqMixed.ne_str_int (a0R I q (by simp))
  |str j=>obtain⟨t',rfl⟩:=ry;exact ne_str (a0R I q (congrArg not a5A))
  |_=>exact absurd (show false=true from hs) bF0
 |byt i=>
  obtain⟨t,rfl⟩:=rx;cases y with
  |byt j=>obtain⟨t',rfl⟩:=ry;exact PySem.W.ne_bytes (a0R I q (congrArg not a7n))
  |_=>exact absurd (show false=true from hs) bF0
 |_=>cases y<;>exact absurd (show false=true from hs) bF0
theorem a9z:OpR X (compareOp .Lt) (rI0 fun i j=>.bl (decide (i<j))):=b3c fun _ _ _ _ _ _ _ q=>lt_int q
theorem b0P:OpR X (compareOp .LtE) (rI0 fun i j=>.bl (decide (i<=j))):=b3c fun _ _ _ _ _ _ _ q=>le_int q
theorem a9f:OpR X (compareOp .Gt) (rI0 fun i j=>.bl (decide (j<i))):=b3c fun _ _ _ _ _ _ _ q=>gt_int q
theorem b3B:OpR X (compareOp .GtE) (rI0 fun i j=>.bl (decide (j<=i))):=b3c fun _ _ _ _ _ _ _ q=>ge_int q
theorem a7e:OpR X (compareOp .In) (fun x y H Q=>∃i j,x=.str i/\y=.str j/\Q (.bl (!(Builtin.Str.occurrences j i 0 j.length 1).isEmpty)) H):=by
 intro U s σ H x y v u Q I rx ry h;obtain⟨i,j,rfl,rfl,q⟩:=h;obtain⟨t,rfl⟩:=rx;obtain⟨t',rfl⟩:=ry;exact in_str (a0R I q rfl)
theorem b1X:OpR X (compareOp .Is) (fun x y H Q=>y=.non/\Q (.bl (decide (x=.non))) H):=by
 intro U s σ H x y v u Q I rx ry h;obtain⟨rfl,q⟩:=h;cases ry;refine is_none_gen (a0R I q ?_);cases x<;>first
  | (cases rx;rfl)
  | (obtain⟨t,rfl⟩:=rx;rfl)
theorem a0w (b:Expr){op:CmpOp}(h:op≠.In:=by decide)(h2:op≠.NotIn:=by decide):behindInMarks op b=false:=by
 have e1:(op==CmpOp.In)=false:=by cases op<;>first |rfl |exact absurd rfl h
 have e2:(op==CmpOp.NotIn)=false:=by cases op<;>first |rfl |exact absurd rfl h2
 cases b<;>simp[behindInMarks,e1,e2]
theorem a1h {op:CmpOp}{r:R2}(ho:OpR X (compareOp op) r)(ha:PE X a ta)(hb:PE X b tb)(hm:behindInMarks op b=false):PE X (.Compare a [op] [b] pos) (tOp r ta tb):=by
 intro U s σ H Q I h;exact wpAny_Compare1 (b3R ha hb I h fun v u s2 x y H2 I2 rx ry q=>ho U s2 σ H2 x y v u Q I2 rx ry q) hm
def b2E (t:TE):TT:=fun σ H Q=>t σ H fun x H'=>∃k,x=.bl k/\Q k H'
theorem a0t {op:CmpOp}{r:R2}(ho:OpR X (compareOp op) r)(ha:PE X a ta)(hb:PE X b tb)(hm:behindInMarks op b=false):PT X (.Compare a [op] [b] pos) (b2E (tOp r ta tb)):=by
 intro U s σ H Q I h;refine wpAny_isTrue_Compare1 (thn (ha U s σ H _ I h) fun v s1 ⟨x,H1,I1,r1,q1⟩=>thn (hb U s1 σ H1 _ I1 q1) fun u s2 ⟨y,H2,I2,r2,q2⟩=>
  thn (ho U s2 σ H2 x y v u _ I2 r1 r2 q2) fun c s3 ⟨z,H3,I3,r3,k,e,q3⟩=>?_) hm
 subst e;cases r3;exact wpAny_truthy_bool ⟨H3,I3,q3⟩
def b0l (r r':R2)(ta tb tc:TE):TE:=fun σ H Q=>ta σ H fun x H1=>tb σ H1 fun y H2=>r x y H2 fun z H3=>∃k,z=.bl k ∧
 (if k=true then tc σ H3 fun w' H4=>r' y w' H4 Q else Q (.bl false) H3)
theorem a9u {op op':CmpOp}{r r':R2}(ho:OpR X (compareOp op) r)(ho':OpR X (compareOp op') r')(ha:PE X a ta)(hb:PE X b tb)(hc:PE X c tc)
  (hm:lastMarks [op,op'] [b,c]=false:=by with_unfolding_all rfl):PE X (.Compare a [op,op'] [b,c] pos) (b0l r r' ta tb tc):=by
 intro U s σ H Q I h;refine Compare_chain (thn (ha U s σ H _ I h) fun v s1 ⟨x,H1,I1,r1,q1⟩=>chain_link (thn (hb U s1 σ H1 _ I1 q1) fun u s2 ⟨y,H2,I2,r2,q2⟩=>
  thn (ho U s2 σ H2 x y v u _ I2 r1 r2 q2) fun d s3 ⟨z,H3,I3,r3,k,e,q3⟩=>?_)) hm
 subst e;cases r3;refine wpAny_truthy_bool ?_;cases k with
 |false=>exact ite_ff ⟨.bl false,H3,I3,rfl,q3⟩
 |true=>exact ite_tt (chain_last (thn (hc U s3 σ H3 _ I3 q3) fun w' s4 ⟨z',H4,I4,r4,q4⟩=>ho' U s4 σ H4 y z' u w' Q I4 r2 r4 q4))
theorem a9w {op op':CmpOp}{r r':R2}(ho:OpR X (compareOp op) r)(ho':OpR X (compareOp op') r')(ha:PE X a ta)(hb:PE X b tb)(hc:PE X c tc)
  (hm:lastMarks [op,op'] [b,c]=false:=by with_unfolding_all rfl):PT X (.Compare a [op,op'] [b,c] pos) (b2E (b0l r r' ta tb tc)):=by
 intro U s σ H Q I h;refine isTrue_chain (thn (ha U s σ H _ I h) fun v s1 ⟨x,H1,I1,r1,q1⟩=>test_link (thn (hb U s1 σ H1 _ I1 q1) fun u s2 ⟨y,H2,I2,r2,q2⟩=>
  thn (ho U s2 σ H2 x y v u _ I2 r1 r2 q2) fun d s3 ⟨z,H3,I3,r3,k,e,q3⟩=>?_)) hm
 subst e;cases r3;refine wpAny_truthy_bool ?_;cases k with
 |false=>
  obtain⟨k',e',q'⟩:=q3;cases e';exact ite_ff ⟨H3,I3,q'⟩
 |true=>
  refine ite_tt (test_last (thn (hc U s3 σ H3 _ I3 q3) fun w' s4 ⟨z',H4,I4,r4,q4⟩=>thn (ho' U s4 σ H4 y z' u w' _ I4 r2 r4 q4) fun d' s5 ⟨z2,H5,I5,r5,k2,e2,q5⟩=>?_));subst e2;cases r5;exact wpAny_truthy_bool ⟨H5,I5,q5⟩
theorem a4O:(sizeLine:Nat)<2 ^ 63:=by rw[sizeLine_eq];decide
theorem a1t:OpR X (binaryOp .Add) (fun x y H Q=>∃i j,x=.str i/\y=.str j/\i.length+j.length<=sizeLine/\Q (.str (i++j)) H):=by
 intro U s σ H x y v u Q I rx ry h;obtain⟨i,j,rfl,rfl,hz,q⟩:=h;obtain⟨t,rfl⟩:=rx;obtain⟨t',rfl⟩:=ry;exact add_str (fun t' tk=>⟨.str (i++j),H,I.tok _,⟨_,rfl⟩,q⟩) hz
theorem a2F {x:V}{us:List Value}(r:a1g [x] us):∃u,us=[u]/\a0X x u:=by
 cases r with
 |cons r1 r2=>cases r2;exact⟨_,rfl,r1⟩
theorem a7J {x y:V}{us:List Value}(r:a1g [x,y] us):∃u w',us=[u,w']/\a0X x u/\a0X y w':=by
 cases r with
 |cons r1 r2=>
  cases r2 with
  |cons r3 r4=>cases r4;exact⟨_,_,rfl,r1,r3⟩
theorem a8X:a1C X (.builtin "ord") (fun xs H Q=>∃x,xs=[.str x]/\x.length=1/\Q (.int (x.cps.getD 0 0:Nat)) H):=by
 intro U s σ H xs us Q I r h;obtain⟨x,rfl,hz,q⟩:=h;obtain⟨u,rfl,t,rfl⟩:=a2F r;exact ord_of_one hz ⟨.int _,H,I.tok _,⟨_,rfl⟩,q⟩
end
structure b3U (h:Heap) (x dx C:Addr) (mA:Str->Option Value):Prop where
 obj:h.get? x=some (PySem.W.instObj C dx)
 ns:h.Ns1 dx mA
 ne:dx≠x
theorem a5i {h:Heap}{dx:Addr}{mA:Str->Option Value}(n:h.Ns1 dx mA):∃od,h.get? dx=some od/\∀name,PySem.W.lookIn name od=some (mA name):=by
 obtain⟨o,es,ep,ho,hd,hk,_,hm⟩:=n;refine⟨o,ho,fun name=>?_⟩;have e:=hm name;unfold nsFind findBy at e;rw[<-Array.find?_toList] at e;unfold PySem.W.lookIn;rw[hd]
 dsimp only
 split
 ·rename_i y q
  rw[q] at e;exact congrArg some e
 ·rename_i q
  rw[q] at e;have a:es.toList.any (·.refKey)=false:=by
   rw[List.any_eq_false];intro y hy;obtain⟨z,t,hkey⟩:=hk y (Array.mem_toList_iff.mp hy);simp[DictEntry.refKey,hkey]
  have a':¬es.toList.any (·.refKey)=true:=by rw[a];exact bF0
  rw[if_neg a'];exact congrArg some e
theorem b3U.look {h:Heap}{x dx C:Addr}{mA:Str->Option Value}(I:b3U h x dx C mA):∃od,PySem.W.InstAt h x (PySem.W.instObj C dx) C (some od)/\∀name,PySem.W.lookIn name od=some (mA name):=
 let ⟨od,ho,hl⟩:=a5i I.ns
 ⟨od,⟨I.obj,rfl,rfl,ho⟩,hl⟩
def a4Y (f:Str)(v:V):List (Str×V)->List (Str×V)
 |[]=>[(f,v)]
 | (g,x)::r=>if g=f then(g,v)::r else(g,x)::a4Y f v r
theorem a3q (f g:Str)(v:V):∀fs:List (Str×V),(a4Y f v fs).lookup g=if g=f then some v else fs.lookup g
 |[]=>by
  show List.lookup g [(f,v)]=_
  by_cases h:g=f
  ·have hb:(g==f)=true:=beq_iff_eq.mpr h
   simp only[List.lookup,hb,if_pos h]
  ·have hb:(g==f)=false:=beq_eq_false_iff_ne.mpr h
   simp only[List.lookup,hb,if_neg h]
 | (k,x)::r=>by
  have ih:=a3q f g v r;rw[show a4Y f v ((k,x)::r)=(if k=f then(k,v)::r else(k,x)::a4Y f v r) from rfl]
  by_cases hk:k=f
  ·rw[if_pos hk]
   by_cases h:g=k
   ·have hb:(g==k)=true:=beq_iff_eq.mpr h
    simp only[List.lookup,hb,if_pos (h.trans hk)]
   ·have hb:(g==k)=false:=beq_eq_false_iff_ne.mpr h
    simp only[List.lookup,hb,if_neg (fun e:g=f=>h (e.trans hk.symm))]
  ·rw[if_neg hk]
   by_cases h:g=k
   ·have hb:(g==k)=true:=beq_iff_eq.mpr h
    simp only[List.lookup,hb,if_neg (fun e:g=f=>hk (h.symm.trans e))]
   ·have hb:(g==k)=false:=beq_eq_false_iff_ne.mpr h
    simp only[List.lookup,hb];exact ih
theorem a3F (f:Str)(v:V):∀fs:List (Str×V),f∈(a4Y f v fs).map (·.1)/\∀g,g∈fs.map (·.1)->g∈(a4Y f v fs).map (·.1)
 |[]=>⟨by simp[a4Y],fun g h=>by simp at h⟩
 | (k,x)::r=>by
  obtain⟨i1,i2⟩:=a3F f v r;rw[show a4Y f v ((k,x)::r)=(if k=f then(k,v)::r else(k,x)::a4Y f v r) from rfl]
  by_cases hk:k=f
  ·rw[if_pos hk]
   subst hk;exact⟨by simp,fun g h=>by simpa using h⟩
  ·rw[if_neg hk]
   refine⟨?_,fun g h=>?_⟩
   ·rw[mN0]
    exact mL0 _ i1
   ·rw[mN0] at h ⊢
    rcases mK0.mp h with e |e
    ·exact mK0.mpr (.inl e)
    ·exact mL0 _ (i2 g e)
theorem a3x (f:Str)(v:V):∀fs:List (Str×V),(a4Y f v fs).length<=fs.length+1
 |[]=>by simp[a4Y]
 | (k,x)::r=>by
  have ih:=a3x f v r;rw[show a4Y f v ((k,x)::r)=(if k=f then(k,v)::r else(k,x)::a4Y f v r) from rfl]
  by_cases hk:k=f
  ·rw[if_pos hk,List.length_cons,List.length_cons];omega
  ·rw[if_neg hk,List.length_cons,List.length_cons];omega
theorem a5f.some_of {v:V}{o:Option Value}(r:a5f (some v) o):∃u,o=some u/\a0X v u:=by
 cases o with
 |none=>exact(show False from r).elim
 |some u=>exact⟨u,rfl,r⟩
theorem a8v {v:V}{u:Value}(r:a0X v u):PySem.W.handedIn u=true:=by
 cases v with
 |non=>cases(show u=Value.none from r);rfl
 |bl b=>cases(show u=Value.bool b from r);rfl
 |int i=>obtain⟨t,e⟩:=(show ∃t,u=Value.int i t from r);cases e;rfl
 |str x=>obtain⟨t,e⟩:=(show ∃t,u=Value.str x t from r);cases e;rfl
 |byt b=>obtain⟨t,e⟩:=(show ∃t,u=Value.bytes b t from r);cases e;rfl
 |flt b=>obtain⟨t,e⟩:=(show ∃t,u=Value.float b t from r);cases e;rfl
 |ref a=>cases(show u=Value.ref a from r);rfl
 |ty n=>cases(show u=Value.type n from r);rfl
section
variable {P:Program}{w:World}{H H':Hp}{h h':Heap}{a C dx:Addr}{fs fs':List (Str×V)}
theorem b1m (hok:HOk P w H h)(e:H a=some (.ins C dx fs)):∃mA,b3U h a dx C mA/\(∀f,a5f (fs.lookup f) (mA f))/\PySem.Within mA (fs.map (·.1))/\fs.length<=1000/\H dx=some (.own a):=by
 obtain⟨d,z,ne,ob,mA,n,r,q⟩:=(show a0Z P w H h a (.ins C dx fs) from hok a _ e);exact⟨mA,⟨ob,n,ne⟩,r,q,z,d⟩
end
structure Cls (K:Fg0) (C:Addr):Prop where
 pg:PySem.W.plainGet K C Str.empty=true
 hd:PySem.W.hasDictIn K C=true
 po:PySem.W.plainOver K C=true
 sa:PySem.W.findIn K (.ref C) "__setattr__"=some (some (.builtin "object.__setattr__"))
theorem Cls.get {K:Fg0}{C:Addr}(c:Cls K C)(f:Str):PySem.W.plainGet K C f=true:=c.pg
def a2x (K:Fg0)(C:Addr)(f:Str):Prop:=PySem.W.findIn K (.ref C) f=some none
section
variable {X:Cx}{U:List (Addr×Obj)}{σ:St}{H:Hp}{s:Shared}{a C dx:Addr}{fs:List (Str×V)}{f:Str}{v:V}{A:Around}{E:Vs0}
theorem b1z {prog:Program}{w:World}{env:Env}{e:Expr}{f:Str}{pos:Pos}{s:Shared}{Q:Vs0}(hb:attributeBase e f env (eval e env)=eval e env)
  (h:wpAny (model prog w) A (eval e env) (fun o s₁=>wpAny (model prog w) A (getAttr o f true) Q E s₁) E s):wpAny (model prog w) A (eval (.Attribute e f pos) env) Q E s:=
 Attribute_any_ h (by rw[arm_eval_Attribute,hb])
end
section
variable {X:Cx}{U:List (Addr×Obj)}{σ:St}{H:Hp}{s:Shared}{A:Around}{E:Vs0}{Q:Vs0}{c:Value}{b:Bool}
inductive a5F (K:Fg0) (H:Hp):V->Value->Prop where
 |non:a5F K H .non (.type "NoneType")
 |bl (x:Bool):a5F K H (.bl x) (.type "bool")
 |int (i:Int):a5F K H (.int i) (.type "int")
 |str (x:Str):a5F K H (.str x) (.type "str")
 |flt (x:UInt64):a5F K H (.flt x) (.type "float")
 |lst {a:Addr} {xs:List V} (e:H a=some (.lst xs)):a5F K H (.ref a) (.type "list")
 |frz {a:Addr} {o:Obj} {xs:List V} (e:H a=some (.frz o (.lst xs))):a5F K H (.ref a) (.type "list")
 |tup {a:Addr} {xs:List V} (e:H a=some (.tup xs)):a5F K H (.ref a) (.type "tuple")
 |dK {a:Addr} {kvs:List (Key×V)} (e:H a=some (.dK kvs)):a5F K H (.ref a) (.type "dict")
 |dT {a:Addr} {kvs:List (List Key×V)} (e:H a=some (.dT kvs)):a5F K H (.ref a) (.type "dict")
 |ins {a C dx:Addr} {fs:List (Str×V)} (e:H a=some (.ins C dx fs)) (cl:Cls K C) (ha:PySem.W.findIn K (.ref C) "__class__"=some (some (.builtin "object.__class__")))
   (hn:PySem.W.specialIn K (.builtin "object.__class__") "__get__"=some (some (.builtin "getset_descriptor.__get__"))) (htk:PySem.W.takesIn K (.builtin "object.__class__")=some true)
   (hm:PySem.W.mroIn K C (.type "object")=some true):a5F K H (.ref a) (.ref C)
theorem a7D {x:V}{u t:Value}(I:Inv X U σ H s)(rx:a0X x u)(ty:a5F X.K H x t)(e:PySem.W.kitOne X.K t c=some b)(h:∀tk,Q (.bool b) { s with toks:=tk }) :
  wpAny (model X.prog X.w) A (call (.builtin "isinstance") [u,c]) Q E s:=by
 cases ty with
 |non=>cases(show u=Value.none from rx);exact PySem.W.kia_one PySem.W.kitx_none I.kIn True.intro e (fun z=>nomatch z) h
 |bl y=>cases(show u=Value.bool y from rx);exact PySem.W.kia_one PySem.W.kitx_bool I.kIn True.intro e (fun z=>nomatch z) h
 |int i=>obtain⟨t,q⟩:=(show ∃t,u=Value.int i t from rx);cases q;exact PySem.W.kia_one PySem.W.kitx_int I.kIn True.intro e (fun z=>nomatch z) h
 |str y=>obtain⟨t,q⟩:=(show ∃t,u=Value.str y t from rx);cases q;exact PySem.W.kia_one PySem.W.kitx_str I.kIn True.intro e (fun z=>nomatch z) h
 |flt y=>obtain⟨t,q⟩:=(show ∃t,u=Value.float y t from rx);cases q;exact PySem.W.kia_one PySem.W.kitx_float I.kIn True.intro e (fun z=>nomatch z) h
 |@lst a xs ea=>
  cases(show u=Value.ref a from rx)
  obtain⟨_,_,n,_,h1⟩:=(show a0Z X.prog X.w H s.heap a (.lst xs) from I.hok a _ ea);exact PySem.W.kia_one PySem.W.kitx_list I.kIn ⟨_,h1,rfl⟩ e (fun z=>nomatch z) h
 |@frz a ob xs ea=>
  cases(show u=Value.ref a from rx)
  obtain⟨_,_,_,n,_,h1⟩:=(show a0Z X.prog X.w H s.heap a (.frz ob (.lst xs)) from I.hok a _ ea);exact PySem.W.kia_one PySem.W.kitx_list I.kIn ⟨_,h1,rfl⟩ e (fun z=>nomatch z) h
 |@tup a xs ea=>
  cases(show u=Value.ref a from rx)
  obtain⟨_,_,_,p⟩:=(show a0Z X.prog X.w H s.heap a (.tup xs) from I.hok a _ ea);obtain⟨o,h1,h2,_⟩:=p;exact PySem.W.kia_one PySem.W.kitx_tuple I.kIn ⟨o,h1,h2⟩ e (fun z=>nomatch z) h
 |@dK a kvs ea=>
  cases(show u=Value.ref a from rx)
  obtain⟨_,_,vs,_,p⟩:=(show a0Z X.prog X.w H s.heap a (.dK kvs) from I.hok a _ ea);obtain⟨o,es,ep,h1,h2,_⟩:=p;exact PySem.W.kia_one PySem.W.kitx_dict I.kIn ⟨o,h1,h2.1⟩ e (fun z=>nomatch z) h
 |@dT a kvs ea=>
  cases(show u=Value.ref a from rx)
  obtain⟨_,_,xs,_,o,es,ep,h1,h2,_⟩:=(show a0Z X.prog X.w H s.heap a (.dT kvs) from I.hok a _ ea);exact PySem.W.kia_one PySem.W.kitx_dict I.kIn ⟨o,h1,h2.1⟩ e (fun z=>nomatch z) h
 |@ins a C dx fs ea cl ha hn htk hm=>
  cases(show u=Value.ref a from rx)
  obtain⟨mA,O,_⟩:=b1m I.hok ea;obtain⟨od,J,_⟩:=O.look;exact PySem.W.kia_one (PySem.W.kitx_own (cl.get _) cl.hd ha hn htk hm) I.kIn J e (fun z=>nomatch z) h
end
structure a1m (k:Nat) (A:Around):Prop where
 hd:A.handled=none
 dp:A.depth+3 * k+5<recursionLimit
 un:A.units+16 * k+200<cLine
theorem a1m.mono {j k:Nat}{A:Around}(r:a1m k A)(h:j<=k):a1m j A:=⟨r.hd,by have:=r.dp;omega,by have:=r.un;omega⟩
theorem a1m.deeper {k:Nat}{A:Around}(r:a1m (k+1) A)(env:Env):a1m k (A.deeper env):=
 ⟨r.hd,by have:=r.dp;show A.depth+1+3 * k+5<_;omega,by have:=r.un;show A.units+3+16 * k+200<_;omega⟩
theorem a1m.in1 {k:Nat}{A:Around}(r:a1m (k+1) A):a1m k A.in1:=
 ⟨r.hd,by have:=r.dp;show A.depth+3 * k+5<_;omega,by have:=r.un;show A.units+1+16 * k+200<_;omega⟩
theorem a6C {A:Around}{C:Addr}{us:List Value}{kw:List (Str×Value)}:(A.under (.builtin "type.__call__" ⟨.ref C::us,kw⟩)).depth=A.depth+1:=by
 first |rfl |simp[Around.under,Code.weight,Code.isCreation,Code.isGuard,Code.isCaller,Code.frames,Code.isFrame,guardIds]
theorem a6Q {A:Around}{C:Addr}{us:List Value}{kw:List (Str×Value)}:(A.under (.builtin "type.__call__" ⟨.ref C::us,kw⟩)).units=A.units+1:=by
 first |rfl |simp[Around.under,Code.cUnits,Code.frames,Code.isFrame]
theorem a1m.make {k:Nat}{A:Around}(r:a1m (k+1) A)(C:Addr)(us:List Value)(kw:List (Str×Value)):a1m k (A.under (.builtin "type.__call__" ⟨.ref C::us,kw⟩)):=
 ⟨r.hd,by have:=r.dp;rw[a6C];omega,by have:=r.un;rw[a6Q];omega⟩
theorem a1m.depth {k:Nat}{A:Around}(r:a1m k A):A.depth<recursionLimit:=by have:=r.dp;omega
theorem a1m.units {k:Nat}{A:Around}(r:a1m k A):A.units+64<cLine:=by have:=r.un;omega
theorem a1m.units0 {k:Nat}{A:Around}(r:a1m k A):A.units<cLine:=by have:=r.un;omega
def a8Q:TA:=fun _ H Q=>Q [] H
def a7v (ta:TE)(tr:TA):TA:=fun σ H Q=>ta σ H fun x H1=>tr σ H1 fun xs H2=>Q (x::xs) H2
section
variable {X:Cx}{e:Expr}{es:List Expr}{te:TE}{t:TA}{pos:Pos}
theorem a0b:PA X [] a8Q:=fun _ _ _ _ H Q I h=>Calls.spliced_nil ⟨[],H,I,.nil,h⟩
theorem a0a (ha:PE X e te)(hr:PA X es t)(hs:starEach (e::es) X.env=(false,eval e X.env)::starEach es X.env:=by rfl):PA X (e::es) (a7v te t):=by
 intro pos U s σ H Q I h;rw[hs];show wpAny _ _ (spliced ((false,eval e X.env)::backTo pos (starEach es X.env))) _ _ s;refine Calls.spliced_cons (thn (ha U s σ H _ I h) fun u s1 ⟨x,H1,I1,r1,q1⟩=>?_);exact thn (hr pos U s1 σ H1 _ I1 q1) fun us s2 ⟨xs,H2,I2,r2,q2⟩=>⟨x::xs,H2,I2,.cons r1 r2,q2⟩
def tTup (t:TA):TE:=fun σ H Q=>t σ H fun xs H1=>xs.length<=sizeLine/\∀p,H1 p=none->Q (.ref p) (upd H1 p (.tup xs))
def tLst (t:TA):TE:=fun σ H Q=>t σ H fun xs H1=>xs.length<=sizeLine/\∀p,H1 p=none->Q (.ref p) (upd H1 p (.lst xs))
theorem a0L {x1}(h:PA X es t):PE X (.Tuple es x1 pos) (tTup t):=by
 intro U s σ H Q I hq;refine wpAny_Tuple_spliced (thn (h pos U s σ H _ I hq) fun us s1 ⟨xs,H1,I1,r,z,q⟩=>⟨by rw[<-r.length];exact z,?_⟩);have hf:H1 s1.heap.objs.size=none:=I1.hok.fresh (nR0 _);refine⟨.ref s1.heap.objs.size,upd H1 s1.heap.objs.size (.tup xs),I1.laid (t':=s1.toks) (fun b u e=>hP0 _ e) (nR0 _) ?_,rfl,q _ hf⟩;exact⟨z,us,r,⟨_,hS0 _ rfl,rfl,_,rfl⟩⟩
theorem a0O (h:PA X es t):PE X (.List es pos) (tLst t):=by
 intro U s σ H Q I hq;refine wpAny_List_spliced (thn (h pos U s σ H _ I hq) fun us s1 ⟨xs,H1,I1,r,z,q⟩=>⟨by rw[<-r.length];exact z,?_⟩);have hf:H1 s1.heap.objs.size=none:=I1.hok.fresh (nR0 _);refine⟨.ref s1.heap.objs.size,upd H1 s1.heap.objs.size (.lst xs),I1.laid (t':=s1.toks) (fun b u e=>hP0 _ e) (nR0 _) ?_,rfl,q _ hf⟩;exact⟨z,us,0,r,hS0 _ rfl⟩
end
abbrev Sp:=List V->Hp->VK->XK->Prop
abbrev CXT:=List Env->Hp->Shared->XK->Value->Shared->Prop
structure a6J (P:Program) (w:World) (K:Fg0) (mg:Str->Option Value) (base:Heap) (A:Around) (outer:List Env) (s:Shared) (H:Hp):Prop where
 frames:A.frames=some outer
 mod:Mod K mg base
 bs:∀b o,base.get? b=some o->s.heap.get? b=some o/\H b=none
 bsz:base.objs.size<=s.heap.objs.size
 funs:s.heap.FunFrames base outer
 frf:∀b∈frs outer,H b=none
 hok:HOk P w H s.heap
 bare:AllBare s.gens
def CE (outer:List Env)(P:Program)(w:World)(H:Hp)(s:Shared)(Q:VK)(u:Value)(s':Shared):Prop:=
 ∃v H',s'.os=s.os/\AllBare s'.gens/\Un (frs outer) [] H H' s.heap s'.heap/\HOk P w H' s'.heap/\a0X v u/\Q v H'
def CR (CX:CXT)(outer:List Env)(P:Program)(w:World)(H:Hp)(s:Shared)(Q:VK)(E:XK)(r:Result)(s':Shared):Prop:=
 match r with
 | .ok (.ret u)=>CE outer P w H s Q u s'
 | .ok _=>False
 | .error e=>CX outer H s E e s'
structure a0K (P:Program) (w:World) (K:Fg0) (mg:Str->Option Value) (base:Heap) (CX:CXT) (k:Nat) (f:Addr) (fd:FuncData) (ps:List Str) (sp:Sp):Prop where
 len:∀vs H Q E,sp vs H Q E->vs.length=ps.length
 run:∀(A:Around) (outer:List Env) (s:Shared) (H:Hp) (args:Args) (us:List Value) (vs:List V) (Q:VK) (E:XK),a1m k A->a6J P w K mg base A outer s H->BindsTo s fd args (ps.zip us)->a1g vs us->sp vs H Q E →
  codeAny (model P w) A (.call (.ref f) args) (CR CX outer P w H s Q E) s
theorem a6J.make {P:Program}{w:World}{K:Fg0}{mg:Str->Option Value}{base:Heap}{A:Around}{outer:List Env}{s:Shared}{H:Hp}(e:a6J P w K mg base A outer s H)(C:Addr)(us:List Value)(kw:List (Str×Value)) :
  a6J P w K mg base (A.under (.builtin "type.__call__" ⟨.ref C::us,kw⟩)) outer s H:=⟨by first |exact e.frames | (simpa[Around.under,Code.envs,Code.isFrame,pushEnvs] using e.frames),e.mod,e.bs,e.bsz,e.funs,e.frf,e.hok,e.bare⟩
theorem a6J.in1 {P:Program}{w:World}{K:Fg0}{mg:Str->Option Value}{base:Heap}{A:Around}{outer:List Env}{s:Shared}{H:Hp}(e:a6J P w K mg base A outer s H) :
  a6J P w K mg base A.in1 outer s H:=⟨e.frames,e.mod,e.bs,e.bsz,e.funs,e.frf,e.hok,e.bare⟩
section
variable {X:Cx}{U:List (Addr×Obj)}{σ:St}{H:Hp}{s s':Shared}
theorem Inv.env0 (I:Inv X U σ H s):a6J X.prog X.w X.K X.mg X.base X.A X.stack s H:=
 ⟨I.ok.frames,I.ok.mod,I.bs,Nat.le_trans I.ok.bsz I.sz,I.stack,I.stkFree,I.hok,I.bare⟩
theorem Inv.after {Q:VK}{u:Value}(I:Inv X U σ H s)(h:CE X.stack X.prog X.w H s Q u s'):EP X U σ Q u s':=by
 obtain⟨v,H',os,bare,un,hok,r,q⟩:=h;obtain⟨hh,g,d,t,os'⟩:=s';obtain rfl:os'=s.os:=os;exact⟨v,H',I.call (h':=hh) (g':=g) (d':=d) (t':=t) (ch:=[]) un hok bare (fun b z=>absurd z (by simp)),r,q⟩
end
def b1e (sp:Sp)(dvs:List V)(E:XK)(t:TA):TE:=fun σ H Q=>t σ H fun vs H1=>sp (vs++dvs) H1 Q E
def a1V (K:Fg0)(fd:FuncData)(ps:List Str)(ds:List Value):Prop:=
 ∀(s:Shared) (us:List Value),K.In s.heap->(us++ds).length=ps.length->BindsTo s fd ⟨us,[]⟩ (ps.zip (us++ds))
theorem a1V.all {K:Fg0}{fd:FuncData}{ps:List Str}(h:∀us:List Value,us.length=ps.length->bindArgs fd ⟨us,[]⟩=pure (ps.zip us)):a1V K fd ps []:=fun s us _ hl=>by
 rw[List.append_nil] at hl ⊢;exact .of_eq (h us hl)
def a7A (CX:CXT)(X:Cx)(E:XK):Prop:=∀(U:List (Addr×Obj)) (σ:St) (H:Hp) (s:Shared) (e:Value) (s':Shared),Inv X U σ H s->CX X.stack H s E e s'->X.xe e s'
section
variable {X:Cx}{CX:CXT}{k:Nat}{f C:Addr}{fd:FuncData}{ps:List Str}{sp:Sp}{dvs:List V}{ds:List Value}{E:XK}{x m:Str}{p pos apos:Pos}{e o:Expr}{es:List Expr}{ta:TE}{t:TA}
theorem b2y {U:List (Addr×Obj)}{σ:St}{H:Hp}{s:Shared}{Q:VK}{us:List Value}{vs:List V}(F:a0K X.prog X.w X.K X.mg X.base CX k f fd ps sp)(hr:a1m k X.A)(hb:a1V X.K fd ps ds)(hd:a1g dvs ds)(hx:a7A CX X E)
  (I:Inv X U σ H s) (r:a1g vs us) (h:sp (vs++dvs) H Q E):wpAny (model X.prog X.w) X.A (call (.ref f) us) (EP X U σ Q) X.xe s:=by
 have r2:a1g (vs++dvs) (us++ds):=r.append hd;have hl:(us++ds).length=ps.length:=by rw[<-r2.length];exact F.len _ _ _ _ h
 refine wpAny_call (codeAny_mono (F.run X.A X.stack s H ⟨us,[]⟩ (us++ds) (vs++dvs) Q E hr I.env0 (hb s us I.kIn hl) r2 h) fun r s' hq=>?_);cases r with
 |error e=>exact hx U σ H s e s' I hq
 |ok fl=>
  cases fl with
  |ret u=>exact I.after hq
  |next=>exact False.elim hq
  |brk=>exact False.elim hq
  |cont=>exact False.elim hq
theorem a0k (F:a0K X.prog X.w X.K X.mg X.base CX k f fd ps sp)(hr:a1m k X.A)(hg:Gl X x)(hm:X.mg x=some (.ref f))(hk:PySem.W.keepIn X.K (.ref f)=true)(hb:a1V X.K fd ps ds)(hd:a1g dvs ds)(hx:a7A CX X E)
  (ha:PA X (e::es) t) (hdb:(x==("__debug__":Str))=false:=by decide) (he:starEach (e::es) X.env=(false,eval e X.env)::starEach es X.env:=by rfl) (hpl:(backTo pos (starEach es X.env)).any (·.1)=false:=by rfl) :
  PE X (.Call (.Name x p) (e::es) [] pos) (b1e sp dvs E t):=by
 intro U s σ H Q I h;refine wpAny_Call_Name_kw (a2i I hg hm ?_ hdb);refine PySem.W.callWith_K (h₀:=X.base) I.ok.mod.kin hk (thn (ha pos U s σ H _ I h) fun us s1 ⟨vs,H1,I1,r,q⟩=>⟨I1.kIn,?_⟩) he hpl;exact b2y F hr hb hd hx I1 r q
end
structure a0o (N P:List Str) (sc:Scope):Prop where
 kind:sc.kind=.function
 co:sc.isCoroutine=false
 gen:sc.isGenerator=false
 nd:N.Nodup
 pre:N.take P.length=P
 par:∀x∈P,sc.names.lookup x=some .local\/sc.names.lookup x=some .cell
 nofree:∀y∈sc.names,y.2≠.free
theorem a5a {kindOf:Str->Option NameKind}{x:Str}:∀{binds:List (Str×Value)} {m:Str->Option Value},(∀v,(x,v)∉binds)->bindL kindOf binds m x=m x
 |[],_,_=>rfl
 | (n,v)::r,m,h=>by
  unfold bindL;rw[a5a fun w hw=>h w (mL0 _ hw)]
  split
  ·have:x≠n:=by rintro rfl;exact h v List.mem_cons_self
   simp[this]
  ·rfl
theorem a5b {kindOf:Str->Option NameKind}{x:Str}:∀{binds:List (Str×Value)} {m:Str->Option Value},(∀v,(x,v)∉binds)->bindC kindOf binds m x=m x
 |[],_,_=>rfl
 | (n,v)::r,m,h=>by
  unfold bindC;rw[a5b fun w hw=>h w (mL0 _ hw)]
  split
  ·rfl
  ·have:x≠n:=by rintro rfl;exact h v List.mem_cons_self
   simp[this]
theorem a5h {kindOf:Str->Option NameKind}{x:Str}{v:Value}:∀{P:List Str} {vs:List Value} {i:Nat} {m:Str->Option Value},P.Nodup->P[i]? =some x->vs[i]? =some v->kindOf x=some .local →
  bindL kindOf (P.zip vs) m x=some v
 |[],_,_,_,_,h,_,_=>by simp at h
 |_::_,[],_,_,_,_,h,_=>by simp at h
 |p::P,w::vs,0,m,nd,h1,h2,hk=>by
  simp at h1 h2;subst h1;subst h2;show bindL kindOf ((p,w)::P.zip vs) m p=_;unfold bindL;rw[a5a fun v hv=>(List.nodup_cons.mp nd).1 (List.of_mem_zip hv).1,if_pos hk];simp
 |p::P,w::vs,i+1,m,nd,h1,h2,hk=>by
  show bindL kindOf ((p,w)::P.zip vs) m x=_;unfold bindL;exact a5h (i:=i) (List.nodup_cons.mp nd).2 (by simpa using h1) (by simpa using h2) hk
theorem a4S {kindOf:Str->Option NameKind}{x:Str}{v:Value}:∀{P:List Str} {vs:List Value} {i:Nat} {m:Str->Option Value},P.Nodup->P[i]? =some x->vs[i]? =some v->kindOf x≠some .local →
  bindC kindOf (P.zip vs) m x=some v
 |[],_,_,_,_,h,_,_=>by simp at h
 |_::_,[],_,_,_,_,h,_=>by simp at h
 |p::P,w::vs,0,m,nd,h1,h2,hk=>by
  simp at h1 h2;subst h1;subst h2;show bindC kindOf ((p,w)::P.zip vs) m p=_;unfold bindC;rw[a5b fun v hv=>(List.nodup_cons.mp nd).1 (List.of_mem_zip hv).1,if_neg hk];simp
 |p::P,w::vs,i+1,m,nd,h1,h2,hk=>by
  show bindC kindOf ((p,w)::P.zip vs) m x=_;unfold bindC;exact a4S (i:=i) (List.nodup_cons.mp nd).2 (by simpa using h1) (by simpa using h2) hk
def a2T (N:List Str)(vs:List V):St:=vs.map some++List.replicate (N.length-vs.length) none
def a5E (CX:CXT)(P:Program)(w:World)(K:Fg0)(mg:Str->Option Value)(base:Heap)(N:List Str)(qual:Str)(scope:Scope)(f:Addr)(cd:Value)(A:Around)(outer:List Env)(s:Shared)(H:Hp)(E:XK):Cx where
 prog:=P
 w:=w
 K:=K
 mg:=mg
 base:=base
 A:=A.deeper (envOfC qual scope s.heap.objs.size f cd)
 N:=N
 s₀:=s
 H₀:=H
 env:=envOfC qual scope s.heap.objs.size f cd
 outer:=outer
 stack:=envOfC qual scope s.heap.objs.size f cd::outer
 ex:=[]
 calm:=true
 fn:=fun _=>true
 pn:=[]
 xe:=fun e s'=>wpAny (model P w) (A.deeper (envOfC qual scope s.heap.objs.size f cd)) (leaving (envOfC qual scope s.heap.objs.size f cd) e) (fun _ s''=>CX outer H s E e s'') (fun e' s''=>CX outer H s E e' s'') s'
theorem a6A {sc:Scope}{n:Nat}{x:Str}(h:sc.names.lookup x=some .cell):∃c,(cellsFrom n sc.names []).lookup x=some c:=by
 have q:=PySem.W.cellsFrom_some sc.names n [] (.inl h);exact Option.isSome_iff_exists.mp q
theorem a4Q {CX:CXT}{P:Program}{w:World}{K:Fg0}{mg:Str->Option Value}{base:Heap}{N ps:List Str}{qual:Str}{scope:Scope}{f:Addr}{cd:Value}{A:Around}{outer:List Env}{s s1:Shared}{H:Hp}{E:XK}{us:List Value}{vs:List V}
  (S:a0o N ps scope) (hd:A.handled=none) (e0:a6J P w K mg base A outer s H) (hl:vs.length=ps.length) (r:a1g vs us)
  (x:InCallC s s.heap.objs.size (bindL (envOfC qual scope s.heap.objs.size f cd).kindOf (ps.zip us) fun _=>none) (cellsFrom (s.heap.objs.size+1) scope.names []) (bindC (envOfC qual scope s.heap.objs.size f cd).kindOf (ps.zip us) fun _=>none) s1) :
  Inv (a5E CX P w K mg base N qual scope f cd A outer s H E) [] (a2T N vs) H s1:=by
 have hpl:ps.length<=N.length:=by have:=congrArg List.length S.pre;rw[lT0] at this;omega
 obtain⟨h1,tk,rfl,hk⟩:=x.done;have noA:∀b:Addr,b∉(a5E CX P w K mg base N qual scope f cd A outer s H E).ex:=fun b z=>absurd (show b∈([]:List Addr) from z) (by simp);refine⟨⟨e0.mod,S.kind,rfl,rfl,nR0 _,fun y z c h1 h2=>?_,fun y hy=>?_,fun y c _ h=>?_,fun _=>hd,Around.frames_deeper e0.frames,.inr ⟨rfl,rfl⟩,fun b z=>absurd z (noA b),e0.bs,e0.bsz,fun b _ _=>noA b,fun b z=>absurd z (noA b),e0.funs,e0.frf⟩,
  rfl,e0.bare,Un.kept hk,⟨_,x.toInCall.ns,fun i y v h1 h2 h3=>?_⟩,fun y c h=>⟨_,x.cell y c h⟩,e0.hok.fresh (nR0 _),fun y c h=>?_,fun p hp=>absurd (show p∈([]:List (Addr×Obj)) from hp) (by simp),e0.hok.kept hk,?_⟩
 ·exact name_of_addr x.apart (PySem.mem_of_lookup h1) (PySem.mem_of_lookup h2)
 ·have hy:scope.names.lookup y=some .cell\/scope.names.lookup y=some .free:=hy
  rcases hy with hy |hy
  ·exact a6A hy
  ·exact absurd rfl (S.nofree _ (PySem.mem_of_lookup hy))
 ·exact Nat.le_of_lt (x.above y c (PySem.mem_of_lookup h))
 ·have hi:i<vs.length:=by
   unfold a2T at h2
   by_cases hi:i<vs.length
   ·exact hi
   ·rw[gR0 (by simpa using hi)] at h2
    rw[List.getElem?_replicate] at h2
    split at h2<;>cases h2
  have ha:vs[i]? =some v:=by
   unfold a2T at h2;rw[gL0 (by simpa using hi),gM0] at h2;cases e:vs[i]? with
   |none=>rw[e] at h2;cases h2
   |some a=>rw[e] at h2;cases h2;rfl
  obtain⟨u,hu,rv⟩:=r.get ha;have hp:ps[i]? =some y:=by
   rw[<-S.pre,List.getElem?_take_of_lt (by omega)];exact h1
  have ndP:ps.Nodup:=by rw[<-S.pre];exact S.nd.sublist (List.take_sublist _ _)
  refine⟨u,rv,?_⟩;rcases S.par y (gI0 hp) with k |k
  ·exact .inl ⟨k,a5h ndP hp hu k⟩
  ·obtain⟨c,e⟩:=a6A (n:=s.heap.objs.size+1) k
   refine .inr ⟨.inl k,c,e,?_⟩;have q:=x.cell y c e;rw[a4S ndP hp hu (by show scope.names.lookup y≠_;rw[k];decide)] at q;exact q
 ·exact e0.hok.fresh (Nat.le_of_lt (x.above y c (PySem.mem_of_lookup h)))
 ·unfold a2T
  show _=N.length;rw[lA0,lM0,List.length_replicate]
  omega
theorem a9k {CX:CXT}{P:Program}{w:World}{K:Fg0}{mg:Str->Option Value}{base:Heap}{k:Nat}{f:Addr}{name qual:Str}{params:Arguments}{body:List Stmt}{scope:Scope}{dV kV doc pm cdv ct oc:Value}{an od:Option Addr}
  {osl:Array (Option Value)} {N ps:List Str} {sp:Sp} (lk:K.lookup f=some ⟨oc,od,.func (PySem.W.fnOf name qual params body scope dV kV doc pm an cdv ct),osl⟩) (hcd:PySem.W.codeIn K cdv qual=true) (S:a0o N ps scope)
  (len:∀vs H Q E,sp vs H Q E->vs.length=ps.length)
  (hbody:∀(A:Around) (outer:List Env) (s:Shared) (H:Hp) (vs:List V) (Q:VK) (E:XK),a1m k (A.deeper (envOfC qual scope s.heap.objs.size f cdv))->sp vs H Q E →
   ∃t,PSs (a5E CX P w K mg base N qual scope f cdv A outer s H E) body t/\t { nx:=fun _ H'=>Q .non H',rt:=Q } (a2T N vs) H) :
  a0K P w K mg base CX (k+1) f (PySem.W.fnOf name qual params body scope dV kV doc pm an cdv ct) ps sp:=by
 refine⟨len,fun A outer s H args us vs Q E hr e0 hb r hsp=>?_⟩;have hl:=len _ _ _ _ hsp;have KX:K.In s.heap:=e0.mod.kin.keeps fun b o e=>(e0.bs b o e).1;have lim:s.heap.NoLimit:=e0.mod.nolimit.keeps fun b o e=>(e0.bs b o e).1;have hkind:∀y∈ps.zip us,scope.names.lookup y.1=some .local\/(scope.names.lookup y.1=some .cell/\((cellsFrom (s.heap.objs.size+1) scope.names []).lookup y.1).isSome=true):=fun⟨n,v⟩ hy=>by
  rcases S.par n (List.of_mem_zip hy).1 with q |q
  ·exact .inl q
  ·exact .inr ⟨q,PySem.W.cellsFrom_some _ _ _ (.inl q)⟩
 refine codeAny_call_function hr.depth (KX _ _ lk) rfl S.co S.gen rfl (PySem.W.codeRec_of KX hcd) (hb _ _ _ _ ?_);refine wpAny_newFunctionEnv_cells S.kind hkind fun env he s1 x=>?_;subst he;refine⟨lim.keeps x.toInCall.keep,codeAny_func ?_⟩;obtain⟨t,ht,hq⟩:=hbody A outer s H vs Q E (hr.deeper _) hsp;have I:Inv (a5E CX P w K mg base N qual scope f cdv A outer s H E) [] (a2T N vs) H s1:=a4Q S hr.hd e0 hl r x;refine wpAny_mono (ht [] s1 (a2T N vs) H _ I hq) (fun fl s' hs=>?_) fun e s' hs=>hs;have fin:∀{σ':St} {H':Hp} {v:V} {u:Value},Inv (a5E CX P w K mg base N qual scope f cdv A outer s H E) [] σ' H' s'->a0X v u->Q v H'->CE outer P w H s Q u s':=
  fun {σ' H' v u} J rv q=>⟨v,H',J.os,J.bare,J.base,J.hok,rv,q⟩
 cases fl with
 |ret u=>
  obtain⟨v,σ',H',J,rv,q⟩:=hs;exact fin J rv q
 |next=>
  obtain⟨σ',H',J,q⟩:=hs;exact fin (v:=V.non) (u:=Value.none) J rfl q
 |brk=>
  obtain⟨_,_,_,q⟩:=hs;exact False.elim q
 |cont=>
  obtain⟨_,_,_,q⟩:=hs;exact False.elim q
section
variable {X:Cx}{x:Str}{p pos:Pos}{e:Expr}{es:List Expr}{t:TA}{id T:String}{r:List V->Hp->VK->Prop}
def tCB (r:List V->Hp->VK->Prop)(t:TA):TE:=fun σ H Q=>t σ H fun vs H1=>r vs H1 Q
theorem a0i (hc:a1C X (.builtin id) r)(hg:Gl X x)(hm:X.mg x=none)(hv:bootBuiltins x=some (.builtin id))(ha:PA X (e::es) t)(hn:x≠"__name__":=by decide)(hdb:(x==("__debug__":Str))=false:=by decide)
  (he:starEach (e::es) X.env=(false,eval e X.env)::starEach es X.env:=by rfl) (hpl:(backTo pos (starEach es X.env)).any (·.1)=false:=by rfl):PE X (.Call (.Name x p) (e::es) [] pos) (tCB r t):=by
 intro U s σ H Q I h;refine wpAny_Call_Name_kw (a3b I hg hm hv ?_ hn hdb);exact PyProof.Rows.callWith_builtin1 (thn (ha pos U s σ H _ I h) fun us s1 ⟨vs,H1,I1,r1,q1⟩=>hc U s1 σ H1 vs us Q I1 r1 q1) he hpl
theorem a1u (hc:a1C X (.type T) r)(hg:Gl X x)(hm:X.mg x=none)(hv:bootBuiltins x=some (.type T))(ha:PA X (e::es) t)(hn:x≠"__name__":=by decide)(hdb:(x==("__debug__":Str))=false:=by decide)
  (he:starEach (e::es) X.env=(false,eval e X.env)::starEach es X.env:=by rfl) (hpl:(backTo pos (starEach es X.env)).any (·.1)=false:=by rfl):PE X (.Call (.Name x p) (e::es) [] pos) (tCB r t):=by
 intro U s σ H Q I h;refine wpAny_Call_Name_kw (a3b I hg hm hv ?_ hn hdb);exact PyProof.Rows.callWith_type1 (thn (ha pos U s σ H _ I h) fun us s1 ⟨vs,H1,I1,r1,q1⟩=>hc U s1 σ H1 vs us Q I1 r1 q1) he hpl
end
end L2
namespace HT
open PySem PyProof.Rows
section
open PySem.SeqAt
open PySem.AutoSeq1 (wpAny_loadPart')
open PySem.MeetsSeq PySem.MeetsSeq2 PySem.MeetsSeq3
end
section
variable {prog:Program}{w:World}{A:Around}{E:Vs0}{s:Shared}
theorem b0T {t b:Addr}{vs ws:List Value}{Q:Vs0}(ht:IsTup s.heap t vs.toArray)(hb:IsTup s.heap b ws.toArray)(hv:vs≠[])
  (h1:ws=[]->Q (.ref t) s) (h2:ws≠[]->Q (.ref s.heap.objs.size) { s with heap:=s.heap.push { cls:=.type "tuple",data:=.seq (vs++ws).toArray } })
  (hsz:vs.length+ws.length<=sizeLine):wpAny (model prog w) A (binaryOp .Add (.ref t) (.ref b)) Q E s:=by
 obtain⟨⟨cls,dd,data,sl⟩,ho,hc,n,hd⟩:=id ht;obtain⟨⟨cls2,dd2,data2,sl2⟩,ho2,hc2,n2,hd2⟩:=id hb;simp only at hc hd hc2 hd2;subst hc hd hc2 hd2;have e:vs.toArray++ws.toArray=(vs++ws).toArray:=by simp
 by_cases hw:ws=[]
 ·exact concat_meets ⟨_,ho,rfl⟩ ⟨_,ho2,rfl⟩ noFill_tuple_add seq_tuple_add PySem.F.slot_tuple_add PySem.F.entry_tuple_add (PySem.F.args_tuple_add_2 _ _)
   (tuple_addW1 t b vs.toArray ws.toArray n n2 dd dd2 sl sl2 (by simpa using hv) (by simp[hw])) ⟨ho,ho2,h1 hw⟩
 ·refine concat_meets ⟨_,ho,rfl⟩ ⟨_,ho2,rfl⟩ noFill_tuple_add seq_tuple_add PySem.F.slot_tuple_add PySem.F.entry_tuple_add (PySem.F.args_tuple_add_2 _ _)
   (tuple_addW2 t b vs.toArray ws.toArray n n2 dd dd2 sl sl2 (by simpa using hv) (by simpa using hw) (by rw[List.size_toArray,List.size_toArray];exact hsz)) ⟨ho,ho2,?_⟩
  rw[e];exact h2 hw
def sIx (n d:Nat):Option Int->Nat
 |none=>d
 |some v=>if v<0 then(v+(n:Int)).toNat else min v.toNat n
theorem a6f (n d:Nat):sIx n d none=d:=rfl
theorem b1E (v:Int)(n d:Nat):(if v<0 then max (v+(n:Int)) 0 else min v (n:Int))=((sIx n d (some v):Nat):Int):=by
 show(if v<0 then max (v+(n:Int)) 0 else min v (n:Int))=(((if v<0 then(v+(n:Int)).toNat else min v.toNat n):Nat):Int)
 by_cases hv:v<0
 ·simp only[if_pos hv];omega
 ·simp only[if_neg hv];omega
end
end HT
namespace L2
open PySem PySem.Spec PyProof.Rows
abbrev TO:=St->Hp->(Option Int->Hp->Prop)->Prop
def PO (X:Cx)(e:Option Expr)(t:TO):Prop:=
 ∀(U:List (Addr×Obj)) (s:Shared) (σ:St) (H:Hp) (Q:Option Int->Hp->Prop),Inv X U σ H s->t σ H Q →
  wpAny (model X.prog X.w) X.A (evalPart e X.env) (fun u s'=>∃o H',Inv X U σ H' s'/\IsPart u o/\Q o H') X.xe s
def b1r:TO:=fun _ H Q=>Q none H
def b3P (t:TE):TO:=fun σ H Q=>t σ H fun x H1=>∃i,x=.int i/\Q (some i) H1
section
variable {X:Cx}{e:Expr}{te:TE}{lo hi:Option Expr}{tl th:TO}{pos p2:Pos}
theorem a1a:PO X none b1r:=by
 intro U s σ H Q I h;rw[evalPart_none];exact wP0 ⟨none,H,I,.none,h⟩
theorem a0Y (h:PE X e te):PO X (some e) (b3P te):=by
 intro U s σ H Q I hw;rw[evalPart_some];refine thn (h U s σ H _ I hw) fun u s1 ⟨x,H1,I1,r1,q1⟩=>?_;obtain⟨i,rfl,q⟩:=q1;obtain⟨t,rfl⟩:=r1;exact⟨some i,H1,I1,.int i t,q⟩
def SlR (X:Cx)(r:V->Option Int->Option Int->Hp->VK->Prop):Prop:=
 ∀(U:List (Addr×Obj)) (s:Shared) (σ:St) (H:Hp) (x:V) (v vl vu:Value) (lo hi:Option Int) (sl:Addr) (Q:VK),Inv X U σ H s->a0X x v->s.heap.IsSliceOf sl vl vu .none->IsPart vl lo->IsPart vu hi->r x lo hi H Q →
  ∃T id,typeLookup (.type T) "__getitem__"=pure (some (.builtin id))/\s.TypeIs v T/\wpAny (model X.prog X.w) X.A (getItem v (.ref sl)) (EP X U σ Q) X.xe s
def tSl (r:V->Option Int->Option Int->Hp->VK->Prop)(te:TE)(tl th:TO):TE:=fun σ H Q=>te σ H fun x H1=>tl σ H1 fun l H2=>th σ H2 fun u H3=>r x l u H3 Q
theorem a0N {r:V->Option Int->Option Int->Hp->VK->Prop}(hr:SlR X r)(he:PE X e te)(hl:PO X lo tl)(hu:PO X hi th):PE X (.Subscript e (.Slice lo hi none p2) pos) (tSl r te tl th):=by
 intro U s σ H Q I h;refine Subscript_ (thn (he U s σ H _ I h) fun v s1 ⟨x,H1,I1,r1,q1⟩=>?_);refine wpAny_Slice (thn (hl U s1 σ H1 _ I1 q1) fun vl s2 ⟨l,H2,I2,pl,q2⟩=>thn (hu U s2 σ H2 _ I2 q2) fun vu s3 ⟨u,H3,I3,pu,q3⟩=>?_);rw[evalPart_none];refine wP0 ?_;have I4:Inv X U σ H3 { s3 with heap:=s3.heap.push { cls:=.type "slice",data:=.fields #[vl,vu,.none] } }:=I3.kept (t':=s3.toks) fun b ob q=>hP0 _ q;obtain⟨T,id,hT,ht,hg⟩:=hr U { s3 with heap:=s3.heap.push { cls:=.type "slice",data:=.fields #[vl,vu,.none] } } σ H3 x v vl vu l u s3.heap.objs.size Q I4 r1 (Heap.IsSliceOf.new ..) pl pu q3;show wpAny (model X.prog X.w) X.A (subscriptTail e (.Slice lo hi none p2) v (.ref s3.heap.objs.size)) (EP X U σ Q) X.xe { s3 with heap:=s3.heap.push { cls:=.type "slice",data:=.fields #[vl,vu,.none] } };exact tail_any (ops:=[.ref s3.heap.objs.size,v]) ht hT hg (by with_unfolding_all rfl)
def a6Z (xs:List V)(lo hi:Option Int):List V:=(xs.drop (HT.sIx xs.length 0 lo)).take (HT.sIx xs.length xs.length hi-HT.sIx xs.length 0 lo)
theorem a5B (xs:List V)(lo hi:Option Int):(a6Z xs lo hi).length<=xs.length:=by
 unfold a6Z;rw[lT0,List.length_drop]
 omega
def b3M (K:Fg0):R2:=fun x y H Q=>∃a b xs ys,x=.ref a/\y=.ref b/\SqT K H a xs/\SqT K H b ys/\xs≠[]/\xs.length+ys.length<=sizeLine ∧
 (ys=[]->Q (.ref a) H)/\(ys≠[]->∀p,H p=none->Q (.ref p) (upd H p (.tup (xs++ys))))
theorem a1g.nil_iff {xs:List V}{us:List Value}(r:a1g xs us):us=[]↔xs=[]:=by
 cases r with
 |nil=>simp
 |cons _ _=>simp
theorem b0Q:OpR X (binaryOp .Add) (b3M X.K):=by
 intro U s σ H x y v u Q I rx ry h;obtain⟨a,b,xs,ys,rfl,rfl,ha,hb,hx,hz,q1,q2⟩:=h;cases rx;cases ry;obtain⟨its,r1,p1,_⟩:=I.tuple ha;obtain⟨its2,r2,p2,_⟩:=I.tuple hb;refine HT.b0T p1 p2 (fun z=>hx (r1.nil_iff.mp z)) (fun z=>⟨.ref a,H,I,rfl,q1 (r2.nil_iff.mp z)⟩) (fun z=>?_) (by rw[<-r1.length,<-r2.length];exact hz);refine⟨.ref s.heap.objs.size,_,I.laid (t':=s.toks) (o:=.tup (xs++ys)) (fun b ob q=>hP0 _ q) (nR0 _) ?_,rfl,q2 (fun w=>z (r2.nil_iff.mpr w)) _ (I.hok.fresh (nR0 _))⟩;exact⟨by rw[lA0];exact hz,_,r1.append r2,IsTup.new _ _⟩
end
def ixN (n:Nat)(i:Int):Option Nat:=if 0<=i then(if i<n then some i.toNat else none) else if -(n:Int)<=i then some (i+n).toNat else none
def atI {α:Type}(xs:List α)(i:Int):Option α:=(ixN xs.length i).bind fun j=>xs[j]?
theorem b1i {n:Nat}{i:Int}{j:Nat}(h:ixN n i=some j):seqIndex? i n=some j/\j<n/\-(n:Int)<=i/\i<n:=by
 unfold ixN at h
 by_cases h0:0<=i
 ·rw[if_pos h0] at h
  by_cases h1:i<n
  ·rw[if_pos h1] at h
   have e:i.toNat=j:=Option.some.inj h;exact⟨by rw[seqIndex_of h0 h1,e],by omega,by omega,h1⟩
  ·rw[if_neg h1] at h;cases h
 ·rw[if_neg h0] at h
  by_cases h1:-(n:Int)<=i
  ·rw[if_pos h1] at h
   have e:(i+n).toNat=j:=Option.some.inj h;exact⟨by rw[seqIndex_neg (by omega) h1,e],by omega,h1,by omega⟩
  ·rw[if_neg h1] at h;cases h
theorem a5O {α:Type}{xs:List α}{i:Int}{v:α}(h:atI xs i=some v):∃j,seqIndex? i xs.length=some j/\xs[j]? =some v/\j<xs.length/\-(xs.length:Int)<=i/\i<xs.length:=by
 unfold atI at h;cases e:ixN xs.length i with
 |none=>rw[e] at h;cases h
 |some j=>
  rw[e] at h;obtain⟨h1,h2,h3,h4⟩:=b1i e;exact⟨j,h1,h,h2,h3,h4⟩
theorem a1P {α:Type}{xs:List α}{j:Nat}{v:α}(h:xs[j]? =some v):atI xs (j:Int)=some v:=by
 have hj:j<xs.length:=(gS0.mp h).1;have e:ixN xs.length (j:Int)=some j:=by
  unfold ixN;rw[if_pos (by omega),if_pos (by omega)];simp
 unfold atI;rw[e];exact h
def b0A (b:Expr):Prop:=∀o i,subscripted b false o i=operate [o,i] (getItem o i)
def IxR (X:Cx)(r:R2):Prop:=
 ∀(value slice:Expr) (U:List (Addr×Obj)) (s:Shared) (σ:St) (H:Hp) (x y:V) (v u:Value) (Q:VK),Inv X U σ H s->a0X x v->a0X y u->r x y H Q →
  subscripted slice false v u=operate [v,u] (getItem v u)->wpAny (model X.prog X.w) X.A (subscriptTail value slice v u) (EP X U σ Q) X.xe s
def MtR (X:Cx)(id:String)(r:V->List V->Hp->VK->Prop):Prop:=
 ∀(U:List (Addr×Obj)) (s:Shared) (σ:St) (H:Hp) (x:V) (xs:List V) (v:Value) (us:List Value) (Q:VK),Inv X U σ H s->a0X x v->a1g xs us->r x xs H Q →
  wpAny (model X.prog X.w) X.A (call (.builtin id) (v::us)) (EP X U σ Q) X.xe s
section
variable {X:Cx}{a b:Expr}{ta tb:TE}{pos:Pos}
theorem a0W {r:R2}(hr:IxR X r)(ha:PE X a ta)(hb:PE X b tb)(hs:b0A b):PE X (.Subscript a b pos) (tOp r ta tb):=by
 intro U s σ H Q I h;exact Subscript_ (b3R ha hb I h fun v u s2 x y H2 I2 rx ry q=>hr a b U s2 σ H2 x y v u Q I2 rx ry q (hs _ _))
def b3h (K:Fg0):R2:=fun x y H Q=>∃p xs i v,x=.ref p/\y=.int i/\SqL K H p xs/\atI xs i=some v/\Q v H
def b1W (K:Fg0):R2:=fun x y H Q=>∃p xs i v,x=.ref p/\y=.int i/\SqT K H p xs/\atI xs i=some v/\Q v H
def rIxS:R2:=fun x y H Q=>∃z i c,x=.str z/\y=.int i/\z.length<=sizeLine/\atI z.cps.toList i=some c/\Q (.str ⟨#[c]⟩) H
theorem a0F:IxR X (b3h X.K):=by
 intro value slice U s σ H x y v u Q I rx ry h hs;obtain⟨p,xs,i,z,rfl,rfl,hq,he,q⟩:=h;cases rx;obtain⟨t,rfl⟩:=ry;obtain⟨its,r,pl,hz⟩:=I.list hq;obtain⟨j,h1,h2,h3,h4,h5⟩:=a5O he;obtain⟨w,ew,rw'⟩:=r.get h2;have hl:=r.length;have hn:=a4O;have fin:EP X U σ Q w s:=⟨z,H,I,rw',q⟩
 by_cases h0:0<=i
 ·have hj:i.toNat=j:=by
   rw[seqIndex_of h0 h5] at h1;exact Option.some.inj h1
  exact item_listR pl.isList h0 (by omega) (by rw[hj];simpa using ew) fin hs
 ·have hj:(i+(its.toArray.size:Int)).toNat=j:=by
   rw[seqIndex_neg (by omega) h4] at h1;rw[List.size_toArray,<-hl];exact Option.some.inj h1
  exact subscriptTail_builtinR (x:=w) pl.isList.typeIs slot_list_getitem.lookup
   (wpAny_getItem_list_neg (Q:=fun r s'=>r=w/\EP X U σ Q r s') pl.isList (by omega) (by rw[List.size_toArray]<;>omega) (by omega) (by rw[hj];simpa using ew) ⟨rfl,fin⟩) hs
theorem a2c:IxR X (b1W X.K):=by
 intro value slice U s σ H x y v u Q I rx ry h hs;obtain⟨p,xs,i,z,rfl,rfl,hq,he,q⟩:=h;cases rx;obtain⟨t,rfl⟩:=ry;obtain⟨its,r,pl,hz⟩:=I.tuple hq;obtain⟨j,h1,h2,h3,h4,h5⟩:=a5O he;obtain⟨w,ew,rw'⟩:=r.get h2;have hl:=r.length;have hn:=a4O;have fin:EP X U σ Q w s:=⟨z,H,I,rw',q⟩;exact subscriptTail_builtinR (x:=w) pl.typeIs slot_tuple_getitem.lookup
  (getItem_tuple (j:=j) (Q:=fun r s'=>r=w/\EP X U σ Q r s') pl (by omega) (by omega) (by rw[List.size_toArray,<-hl];exact h1) (by simpa using ew) ⟨rfl,fin⟩) hs
theorem a7Q:IxR X rIxS:=by
 intro value slice U s σ H x y v u Q I rx ry h hs;obtain⟨z,i,c,rfl,rfl,hz,he,q⟩:=h;obtain⟨t,rfl⟩:=rx;obtain⟨t',rfl⟩:=ry;obtain⟨j,h1,h2,h3,h4,h5⟩:=a5O he;have hl:z.cps.toList.length=z.length:=by simp[Str.length]
 rw[hl] at h1 h4 h5;have hn:=a4O;exact tail_any (typeIs_str s z t) slot_str_getitem.lookup (getItem_str (c:=c) (by
  have e1:decide (i < -(2 ^ 63:Int))=false:=dF0 (by omega);have e2:decide (i≥2 ^ 63)=false:=dF0 (by omega);rw[e1,e2,Bool.or_false]) (by rw[h1];simpa using h2) ⟨.str ⟨#[c]⟩,H,I.tok _,⟨_,rfl⟩,q⟩) hs
theorem a5c (lo hi:Option Int)(n:Nat):(sliceBounds lo hi none n).1=((HT.sIx n 0 lo:Nat):Int)/\(sliceBounds lo hi none n).2.1=((HT.sIx n n hi:Nat):Int)/\(sliceBounds lo hi none n).2.2=1:=by
 refine⟨?_,?_,rfl⟩
 ·cases lo with
  |none=>simp[sliceBounds,HT.sIx]
  |some i=>
   simp only[sliceBounds,HT.sIx,Option.getD_none,show(1:Int) > 0 by decide,if_true]
   by_cases h:i<0
   ·simp only[h,if_true]<;>omega
   ·simp only[h,if_false]<;>omega
 ·cases hi with
  |none=>simp[sliceBounds,HT.sIx]
  |some i=>
   simp only[sliceBounds,HT.sIx,Option.getD_none,show(1:Int) > 0 by decide,if_true]
   by_cases h:i<0
   ·simp only[h,if_true]<;>omega
   ·simp only[h,if_false]<;>omega
theorem a4g (its:List Value)(lo hi:Option Int):slicePick its.toArray lo hi none=((its.drop (HT.sIx its.length 0 lo)).take (HT.sIx its.length its.length hi-HT.sIx its.length 0 lo)).toArray:=by
 obtain⟨h1,h2,h3⟩:=a5c lo hi its.toArray.size;unfold slicePick;rw[h1,h2,h3];simp only[sliceRange_one,pick_run,List.size_toArray]<;>rfl
def rSlL (K:Fg0):V->Option Int->Option Int->Hp->VK->Prop:=fun x lo hi H Q=>∃a xs,x=.ref a/\SqL K H a xs/\∀p,H p=none->Q (.ref p) (upd H p (.lst (a6Z xs lo hi)))
theorem a1o:SlR X (rSlL X.K):=by
 intro U s σ H x v vl vu lo hi sl Q I rx hs pl pu h;obtain⟨a,xs,rfl,hx,q⟩:=h;cases rx;obtain⟨its,r,ht,hz⟩:=I.list hx;have hlen:=r.length;refine⟨"list",_,slot_list_getitem.lookup,ht.isList.typeIs,?_⟩;refine wpAny_getItem_list_slice ht.isList hs pl pu .none (by simp) ?_ (by rw[List.size_toArray]<;>omega);rw[a4g,<-hlen];refine⟨.ref s.heap.objs.size,_,I.laid (t':=s.toks) (o:=.lst (a6Z xs lo hi)) (fun b ob q=>hP0 _ q) (nR0 _) ?_,rfl,q _ (I.hok.fresh (nR0 _))⟩;exact⟨Nat.le_trans (a5B xs lo hi) hz,_,0,(r.drop (HT.sIx xs.length 0 lo)).take (HT.sIx xs.length xs.length hi-HT.sIx xs.length 0 lo),hS0 _ rfl⟩
def a5d:V->Bool
 | .non=>true
 | .bl _=>true
 | .int _=>true
 | .str _=>true
 |_=>false
def eqV:V->V->Bool
 | .non,.non=>true
 | .bl a,.bl b=>a==b
 | .bl a,.int b=>(if a then 1 else 0)==b
 | .int a,.bl b=>a==(if b then 1 else 0)
 | .int a,.int b=>a==b
 | .str a,.str b=>a==b
 |_,_=>false
theorem b2c {A:Around}{s:Shared}{y x:V}{u v:Value}(ry:a0X y u)(rx:a0X x v)(fy:a5d y=true)(fx:a5d x=true):SeqAt.EqAt A s u v (eqV y x):=by
 cases y with
 |non=>
  cases ry;cases x with
  |non=>cases rx;exact SeqAt.EqAt.same _
  |bl b=>cases rx;exact SeqAt.EqAt.none_bool b
  |int b=>obtain⟨t,rfl⟩:=rx;exact SeqAt.EqAt.none_int b t
  |str b=>obtain⟨t,rfl⟩:=rx;exact SeqAt.EqAt.none_str b t
  |_=>exact absurd (show false=true from fx) bF0
 |bl a=>
  cases ry;cases x with
  |non=>cases rx;exact SeqAt.EqAt.bool_none a
  |bl b=>cases rx;exact SeqAt.EqAt.bool_bool a b
  |int b=>obtain⟨t,rfl⟩:=rx;exact SeqAt.EqAt.bool_int a b t
  |str b=>obtain⟨t,rfl⟩:=rx;exact SeqAt.EqAt.bool_str a b t
  |_=>exact absurd (show false=true from fx) bF0
 |int a=>
  obtain⟨t',rfl⟩:=ry;cases x with
  |non=>cases rx;exact SeqAt.EqAt.int_none a t'
  |bl b=>cases rx;exact SeqAt.EqAt.int_bool a t' b
  |int b=>obtain⟨t,rfl⟩:=rx;exact SeqAt.EqAt.int_int a t' b t
  |str b=>obtain⟨t,rfl⟩:=rx;exact SeqAt.EqAt.int_str a t' b t
  |_=>exact absurd (show false=true from fx) bF0
 |str a=>
  obtain⟨t',rfl⟩:=ry;cases x with
  |non=>cases rx;exact SeqAt.EqAt.str_none a t'
  |bl b=>cases rx;exact SeqAt.EqAt.str_bool a t' b
  |int b=>obtain⟨t,rfl⟩:=rx;exact SeqAt.EqAt.str_int a t' b t
  |str b=>obtain⟨t,rfl⟩:=rx;exact SeqAt.EqAt.str_str a t' b t
  |_=>exact absurd (show false=true from fx) bF0
 |_=>exact absurd (show false=true from fy) bF0
def eqU (x:V)(u:Value):Bool:=match u with
 | .none=>eqV .non x
 | .bool b=>eqV (.bl b) x
 | .int i _=>eqV (.int i) x
 | .str z _=>eqV (.str z) x
 |_=>false
theorem b0o {x y:V}{u:Value}(r:a0X y u)(f:a5d y=true):eqU x u=eqV y x:=by
 cases y with
 |non=>cases r;rfl
 |bl b=>cases r;rfl
 |int i=>obtain⟨t,rfl⟩:=r;rfl
 |str z=>obtain⟨t,rfl⟩:=r;rfl
 |_=>exact absurd (show false=true from f) bF0
theorem a5J {x:V}:∀{xs:List V} {us:List Value},a1g xs us->xs.all a5d=true->us.any (eqU x)=xs.any fun y=>eqV y x
 |_,_,.nil,_=>rfl
 |y::xs,u::us,.cons r t,f=>by
  rw[List.all_cons,Bool.and_eq_true] at f;rw[List.any_cons,List.any_cons,b0o r f.1,a5J t f.2]
theorem a4z {A:Around}{s:Shared}{x:V}{v:Value}(rx:a0X x v)(fx:a5d x=true):∀{xs:List V} {us:List Value},a1g xs us->xs.all a5d=true->∀u∈us,SeqAt.EqAt A s u v (eqU x u)
 |_,_,.nil,_=>fun u hu=>by cases hu
 |y::xs,u::us,.cons r t,f=>fun u' hu=>by
  rw[List.all_cons,Bool.and_eq_true] at f;rcases mK0.mp hu with rfl |hu
  ·rw[b0o r f.1];exact b2c r rx f.1 fx
  ·exact a4z rx fx t f.2 u' hu
def inV (x:V)(xs:List V):Bool:=xs.any fun y=>eqV y x
def rIn (K:Fg0)(neg:Bool):R2:=fun x y H Q=>∃p xs,y=.ref p/\(SqL K H p xs\/SqT K H p xs)/\a5d x=true/\xs.all a5d=true/\Q (.bl (if neg then !inV x xs else inV x xs)) H
theorem a4L:OpR X (compareOp .NotIn) (rIn X.K true):=by
 intro U s σ H x y v u Q I rx ry h;obtain⟨p,xs,rfl,hq,fx,fs,q⟩:=h;cases ry;rcases hq with hq |hq
 ·obtain⟨its,r,pl,hz⟩:=I.list hq
  refine SeqAt.notIn_listAt (eqU x) pl.isList (fun w hw=>a4z rx fx r fs w (by simpa using hw)) ⟨.bl _,H,I,rfl,?_⟩;rw[show its.toArray.any (eqU x)=its.any (eqU x) by simp,a5J r fs];exact q
 ·obtain⟨its,r,pl,hz⟩:=I.tuple hq
  refine SeqAt.notIn_tupleAt (eqU x) pl (fun w hw=>a4z rx fx r fs w (by simpa using hw)) ⟨.bl _,H,I,rfl,?_⟩;rw[show its.toArray.any (eqU x)=its.any (eqU x) by simp,a5J r fs];exact q
theorem a0E:a1C X (.builtin "len") (fun xs H Q=>∃p ys,xs=[.ref p]/\(SqL X.K H p ys\/SqT X.K H p ys)/\Q (.int ys.length) H):=by
 intro U s σ H xs us Q I r h;obtain⟨p,ys,rfl,hq,q⟩:=h;obtain⟨u,rfl,rx⟩:=a2F r;cases rx;have hn:=a4O;rcases hq with hq |hq
 ·obtain⟨its,r',pl,hz⟩:=I.list hq
  have hlen:=r'.length;exact Calls.call_len_list pl.isList (by simp only[List.size_toArray]<;>omega) ⟨.int ys.length,H,I.tok _,⟨s.toks+1,by rw[List.size_toArray,hlen]⟩,q⟩
 ·obtain⟨its,r',pl,hz⟩:=I.tuple hq
  have hlen:=r'.length;exact len_tuple pl (by simp only[List.size_toArray]<;>omega) ⟨.int ys.length,H,I.tok _,⟨s.toks+1,by rw[List.size_toArray,hlen]⟩,q⟩
theorem a2t:a1C X (.builtin "len") (fun xs H Q=>∃z,xs=[.str z]/\z.length<=sizeLine/\Q (.int z.length) H):=by
 intro U s σ H xs us Q I r h;obtain⟨z,rfl,hz,q⟩:=h;obtain⟨u,rfl,t,rfl⟩:=a2F r;have hn:=a4O;exact len_str (by omega) ⟨.int z.length,H,I.tok _,⟨_,rfl⟩,q⟩
theorem a1W:a1C X (.type "list") (fun xs H Q=>∃p ys,xs=[.ref p]/\(SqL X.K H p ys\/SqT X.K H p ys)/\∀l,H l=none->Q (.ref l) (upd H l (.lst ys))):=by
 intro U s σ H xs us Q I r h;obtain⟨p,ys,rfl,hq,q⟩:=h;obtain⟨u,rfl,rx⟩:=a2F r;cases rx;have fin:∀(its:List Value),a1g ys its->ys.length<=sizeLine->∀(h':Heap) (c':Nat),(∀b o',s.heap.get? b=some o'->h'.get? b=some o') →
   h'.get? s.heap.objs.size=some { cls:=.type "list",dict:=none,data:=.seq its.toArray c',slots:=#[] }->EP X U σ Q (.ref s.heap.objs.size) { s with heap:=h' }:=fun its r' hz h' c' kp e=>
  ⟨.ref s.heap.objs.size,_,I.laid (t':=s.toks) kp (nR0 _) (show a0Z X.prog X.w _ h' _ (.lst ys) from⟨hz,its,c',r',e⟩),rfl,q _ (I.hok.fresh (nR0 _))⟩
 rcases hq with hq |hq
 ·obtain⟨its,r',pl,hz⟩:=I.list hq
  have hlen:=r'.length;obtain⟨o,ho,hc,n,hd⟩:=pl.isList;exact call_list_seq p (.inl rfl) ho hc hd (fun h' c' kp e=>fin its r' hz h' c' kp e) (by simp only[List.size_toArray]<;>omega)
 ·obtain⟨its,r',pl,hz⟩:=I.tuple hq
  have hlen:=r'.length;obtain⟨o,ho,hc,n,hd⟩:=pl;exact call_list_seq p (.inr rfl) ho hc hd (fun h' c' kp e=>fin its r' hz h' c' kp e) (by simp only[List.size_toArray]<;>omega)
theorem a2D:a1C X (.type "tuple") (fun xs H Q=>∃p ys,xs=[.ref p]/\((SqL X.K H p ys/\∀l,H l=none->Q (.ref l) (upd H l (.tup ys)))\/(SqT X.K H p ys/\Q (.ref p) H))):=by
 intro U s σ H xs us Q I r h;obtain⟨p,ys,rfl,h⟩:=h;obtain⟨u,rfl,rx⟩:=a2F r;cases rx;rcases h with ⟨hq,q⟩ |⟨hq,q⟩
 ·obtain⟨its,r',pl,hz⟩:=I.list hq
  have hlen:=r'.length;refine call_tuple_list pl.isList (fun h' kp=>?_) (by simp only[List.size_toArray]<;>omega);have I1:Inv X U σ H { s with heap:=h' }:=I.kept (t':=s.toks) kp;have I2:Inv X U σ (upd H h'.objs.size (.tup ys)) { s with heap:=h'.push { cls:=.type "tuple",data:=.seq its.toArray } }:=
   I1.laid (t':=s.toks) (fun b o e=>hP0 _ e) (nR0 _) (show a0Z X.prog X.w _ _ _ (.tup ys) from⟨hz,its,r',IsTup.new _ _⟩)
  exact⟨.ref h'.objs.size,_,I2,rfl,q _ (I1.hok.fresh (nR0 _))⟩
 ·obtain⟨its,r',pl,hz⟩:=I.tuple hq
  exact call_tuple_same pl ⟨.ref p,H,I,rfl,q⟩
def tyV (K:Fg0)(T:String)(x:V)(H:Hp):Prop:=match x with
 | .str _=>T="str"
 | .int _=>T="int"
 | .ref p=>(T="list"/\∃xs,SqL K H p xs)\/(T="tuple"/\∃o,K.lookup p=some o/\o.cls=.type "tuple"/\o.dict=none) ∨
   (T="dict"/\((∃kvs,H p=some (.dK kvs))\/∃kvs,H p=some (.dT kvs)))\/(T="set"/\∃S n,H p=some (.set S n))
 |_=>False
theorem b2u {U:List (Addr×Obj)}{σ:St}{H:Hp}{s:Shared}{T:String}{x:V}{v:Value}(I:Inv X U σ H s)(r:a0X x v)(ty:tyV X.K T x H) :
  s.TypeIs v T/\∀a,v=.ref a->∃ob,s.heap.get? a=some ob/\ob.dict=none:=by
 cases x with
 |str z=>
  obtain⟨t,rfl⟩:=r
  cases(show T="str" from ty)
  exact⟨typeIs_str s z t,fun _ e=>nomatch e⟩
 |int i=>
  obtain⟨t,rfl⟩:=r
  cases(show T="int" from ty)
  exact⟨typeIs_int s i t,fun _ e=>nomatch e⟩
 |ref p=>
  cases r;rcases ty with ⟨rfl,xs,hq⟩ |⟨rfl,o,hk,hc,hd⟩ |⟨rfl,hk⟩ |⟨rfl,S,n,hk⟩
  ·obtain⟨its,_,pl,_⟩:=I.list hq
   refine⟨pl.isList.typeIs,fun a e=>?_⟩;cases e;obtain⟨o,n,e,c,hd,_⟩:=pl;exact⟨o,e,hd⟩
  ·refine⟨⟨o,I.kIn p o hk,hc⟩,fun a e=>?_⟩
   cases e;exact⟨o,I.kIn _ o hk,hd⟩
  ·have z:∃o,s.heap.get? p=some o/\o.ExactDict:=by
    rcases hk with ⟨kvs,hk⟩ |⟨kvs,hk⟩
    ·obtain⟨_,_,_,_,o,_,_,e,ex,_⟩:=I.hok p _ hk
     exact⟨o,e,ex⟩
    ·obtain⟨_,_,_,_,o,_,_,e,ex,_⟩:=I.hok p _ hk
     exact⟨o,e,ex⟩
   obtain⟨o,e,ex⟩:=z;refine⟨⟨o,e,ex.1⟩,fun a e2=>?_⟩;cases e2;exact⟨o,e,ex.2.1⟩
  ·obtain⟨o,_,_,_,e,ex,_⟩:=I.hok p _ hk
   refine⟨⟨o,e,ex.1⟩,fun a e2=>?_⟩;cases e2;exact⟨o,e,ex.2.1⟩
 |_=>exact False.elim ty
def tBM (K:Fg0)(T:String)(r:V->List V->Hp->VK->Prop)(to:TE)(t:TA):TE:=fun σ H Q=>to σ H fun x H1=>tyV K T x H1/\t σ H1 fun xs H2=>r x xs H2 Q
variable {o e:Expr}{es:List Expr}{to:TE}{t:TA}{name:Str}{apos cpos:Pos}{T id:String}{r:V->List V->Hp->VK->Prop}
theorem a3J (pa:PlainAttrs T)(slot:Slot T name id)(hty:typeOf (.builtin id)=pure (.type "method_descriptor"))(hm:MtR X id r)(ho:PE X o to)(ha:PA X (e::es) t)
  (hbase:attributeBase o name X.env (eval o X.env)=eval o X.env:=by rfl)
  (hfew:((backTo cpos (starEach (e::es) X.env)).all (fun x=>!x.1)&&(backToKw cpos (keywordEach [] X.env)).all (fun x=>x.1.isSome)
   && decide ((e::es).length+([]:List Keyword).length+(if ([]:List Keyword).isEmpty then 0 else 1)<30))=true:=by rfl)
  (hline:(apos.endLine==cpos.line)=true:=by rfl) (hs:starEach (e::es) X.env=(false,eval e X.env)::starEach es X.env:=by rfl) (hplain:(backTo cpos (starEach es X.env)).any (·.1)=false:=by rfl) :
  PE X (.Call (.Attribute o name apos) (e::es) [] cpos) (tBM X.K T r to t):=by
 intro U s σ H Q I h;refine wpAny_Call_method_late hbase hfew hline rfl (thn (ho U s σ H _ I h) fun v s1 ⟨x,H1,I1,r1,ty,q1⟩=>?_);obtain⟨h1,h2⟩:=b2u I1 r1 ty;refine⟨T,id,pa,slot,hty,h1,h2,?_⟩;have hA:=ha cpos U s1 σ H1 _ I1 q1;rw[hs] at hA ⊢;refine Calls.callWith_builtin (by show(false || (backTo cpos (starEach es X.env)).any (·.1))=false;rw[hplain]<;>rfl) (Calls.evalArgs_plain ?_);exact thn hA fun us s2 ⟨vs,H2,I2,r2,q2⟩=>hm U s2 σ H2 x vs v us Q I2 r1 r2 q2
end
def MtM (X:Cx)(id:String)(r:V->List V->Hp->VK->Prop):Prop:=
 ∀(U:List (Addr×Obj)) (s:Shared) (σ:St) (H:Hp) (x:V) (xs:List V) (v:Value) (us:List Value) (Q:VK),Inv X U σ H s->a0X x v->a1g xs us->r x xs H Q →
  wpAny (model X.prog X.w) X.A (call (.builtin id) (v::us)) (EP X U σ Q) X.xe s
theorem a1g.one:∀{x:V} {us:List Value},a1g [x] us->∃u,us=[u]/\a0X x u
 |_,_,.cons r .nil=>⟨_,rfl,r⟩
section
variable {X:Cx}{U:List (Addr×Obj)}{σ:St}{H:Hp}{s:Shared}{l b:Addr}{xs ys zs:List V}
theorem Inv.lset {its its':List Value}{n:Nat}{f:Array Value->Array Value}{t':Nat}(I:Inv X U σ H s)(hH:H l=some (.lst xs))
  (e:s.heap.get? l=some { cls:=.type "list",data:=.seq its.toArray n }) (hf:f its.toArray=its'.toArray) (hv:a1g ys its') (hz:ys.length<=sizeLine) :
  Inv X U σ (upd H l (.lst ys)) { s with heap:=s.heap.update l (Obj.mapSeq f),toks:=t' }:=by
 have q:=PySem.IsL.update e f;rw[hf] at q;refine I.write (x:=l) (e:=l) (by rw[hH];exact trivial) (.inl rfl) (fun b' u hb hu=>(Heap.get?_update_other s.heap (Obj.mapSeq f) (Ne.symm hb)).trans hu) ⟨_,q⟩ ?_;exact⟨hz,its',_,hv,q⟩
theorem Inv.lnew {its:List Value}{t':Nat}(I:Inv X U σ H s)(hv:a1g ys its)(hz:ys.length<=sizeLine) :
  Inv X U σ (upd H s.heap.objs.size (.lst ys)) { s with heap:=s.heap.push { cls:=.type "list",data:=.seq its.toArray },toks:=t' }:=
 I.laid (fun _ _ q=>hP0 _ q) (nR0 _) ⟨hz,its,0,hv,hS0 _ rfl⟩
theorem Inv.fresh (I:Inv X U σ H s):H s.heap.objs.size=none:=I.hok.fresh (nR0 _)
theorem Inv.lstM (I:Inv X U σ H s)(hH:H l=some (.lst xs)):xs.length<=sizeLine/\∃(its:List Value) (n:Nat),a1g xs its/\xs.length=its.length/\s.heap.get? l=some { cls:=.type "list",data:=.seq its.toArray n }:=by
 obtain⟨z,its,n,r,e⟩:=I.hok l _ hH;exact⟨z,its,n,r,r.length,e⟩
theorem a9n {n:Nat}(h:n<=sizeLine):Builtin.List.listTooLong n=false:=by
 unfold Builtin.List.listTooLong;exact dF0 (by omega)
end
section
variable {X:Cx}
def a7U:V->List V->Hp->VK->Prop:=fun x vs H Q=>∃l xs y,x=.ref l/\vs=[y]/\H l=some (.lst xs)/\xs.length<sizeLine/\Q .non (upd H l (.lst (xs++[y])))
theorem a3E:MtM X "list.append" a7U:=by
 intro U s σ H x vs v us Q I rx rv h;obtain⟨l,xs,y,rfl,rfl,hH,hz,q⟩:=h;cases rx;obtain⟨u,rfl,ru⟩:=rv.one;obtain⟨z,its,n,r,hl,e⟩:=I.lstM hH;refine call_meets F.slot_list_append ⟨_,e,rfl⟩ F.entry_list_append (F.args_list_append_2 _ _) (PySem.list_append l its.toArray n u (by rw[List.size_toArray];omega)) ⟨e,?_⟩;refine⟨.non,_,I.lset (its':=its++[u]) hH e (by simp) (r.append (.cons ru .nil)) ?_,rfl,q⟩;rw[lA0,List.length_singleton]
 omega
def b1a:V->List V->Hp->VK->Prop:=fun x vs H Q=>∃l b xs zs,x=.ref l/\vs=[.ref b]/\H l=some (.lst xs)/\H b=some (.lst zs)/\xs.length+zs.length<=sizeLine/\Q .non (upd H l (.lst (xs++zs)))
theorem b2W:MtM X "list.extend" b1a:=by
 intro U s σ H x vs v us Q I rx rv h;obtain⟨l,b,xs,zs,rfl,rfl,hH,hB,hz,q⟩:=h;cases rx;obtain⟨u,rfl,ru⟩:=rv.one;cases ru;obtain⟨z,its,n,r,hl,e⟩:=I.lstM hH;obtain⟨z2,its2,n2,r2,hl2,e2⟩:=I.lstM hB;have hsz:its.toArray.size+its2.toArray.size<=sizeLine:=by rw[List.size_toArray,List.size_toArray];omega
 have hlong:¬(!its.toArray.isEmpty&&Builtin.List.listTooLong (its.toArray.size+its2.toArray.size))=true:=by
  rw[a9n hsz,Bool.and_false];exact bF0
 refine call_meets F.slot_list_extend ⟨_,e,rfl⟩ F.entry_list_extend (F.args_list_extend_2 _ _)
  (AutoSeq1.list_extend_list_list_0 l its.toArray n b its2.toArray n2 hlong (by rw[List.size_toArray];omega) (by omega)) ⟨e,e2,?_⟩
 refine⟨.non,_,I.lset (its':=its++its2) hH e (by simp) (r.append r2) ?_,rfl,q⟩;rw[lA0]
 omega
def rCat:R2:=fun x y H Q=>∃l b xs zs,x=.ref l/\y=.ref b/\H l=some (.lst xs)/\H b=some (.lst zs)/\xs.length+zs.length<=sizeLine/\∀p,H p=none->Q (.ref p) (upd H p (.lst (xs++zs)))
theorem a1L:OpR X (binaryOp .Add) rCat:=by
 intro U s σ H x y v u Q I rx ry h;obtain⟨l,b,xs,zs,rfl,rfl,hH,hB,hz,q⟩:=h;cases rx;cases ry;obtain⟨z,its,n,r,hl,e⟩:=I.lstM hH;obtain⟨z2,its2,n2,r2,hl2,e2⟩:=I.lstM hB;refine PySem.P.add_list e e2 ?_ (by rw[List.size_toArray,List.size_toArray];omega);have ea:its.toArray++its2.toArray=(its++its2).toArray:=by simp
 rw[ea];exact⟨.ref _,_,I.lnew (t':=s.toks) (r.append r2) (by rw[lA0];omega),rfl,q _ I.fresh⟩
end
section
variable {prog:Program}{w:World}{A:Around}{E:Vs0}{s:Shared}
set_option maxRecDepth 100000 in
end
section
variable {κ:Type}[DecidableEq κ]
def a3O (kvs:List (κ×V))(k:κ):Option V:=(kvs.find? fun kv=>decide (kv.1=k)).map (·.2)
def a5l (kvs:List (κ×V))(k:κ)(v:V):List (κ×V):=
 if (kvs.any fun kv=>decide (kv.1=k))=true then kvs.map (fun kv=>if kv.1=k then(kv.1,v) else kv) else kvs++[(k,v)]
theorem a3i {p:κ×V}{r:List (κ×V)}{k:κ}(e:p.1=k):a3O (p::r) k=some p.2:=by simp[a3O,List.find?_cons,e]
theorem a3h {p:κ×V}{r:List (κ×V)}{k:κ}(e:¬p.1=k):a3O (p::r) k=a3O r k:=by simp[a3O,List.find?_cons,e]
theorem a4w (k:κ):∀kvs:List (κ×V),(kvs.any fun kv=>decide (kv.1=k))=(a3O kvs k).isSome
 |[]=>rfl
 |p::r=>by
  rw[List.any_cons]
  by_cases e:p.1=k
  ·simp only[a3i e,dT0 e,Bool.true_or,Option.isSome_some]
  ·rw[a3h e,dF0 e,Bool.false_or];exact a4w k r
theorem a3C (kvs:List (κ×V))(k:κ)(v:V):(a5l kvs k v).length<=kvs.length+1:=by
 unfold a5l
 split
 ·rw[lM0];omega
 ·rw[lA0,List.length_cons,List.length_nil];omega
theorem a4e {kvs:List (κ×V)}{k:κ}(v:V)(h:a3O kvs k=none):a5l kvs k v=kvs++[(k,v)]:=by
 unfold a5l;rw[a4w,h];exact if_neg (by decide)
theorem a5f.isSome_eq {o:Option V}{u:Option Value}(r:a5f o u):o.isSome=u.isSome:=by
 cases o with
 |none=>cases u with
  |none=>rfl
  |some _=>exact(show False from r).elim
 |some _=>cases u with
  |none=>exact(show False from r).elim
  |some _=>rfl
theorem KV.val {kvs:List (κ×V)}{vs:List (κ×Value)}(r:KV kvs vs)(k:κ):a5f (a3O kvs k) (valueAt vs k):=by
 unfold KV at r
 induction r with
 |nil=>exact True.intro
 |@cons p q ps qs h t ih=>
  obtain⟨h1,h2⟩:=h
  by_cases e:p.1=k
  ·have e':q.1=k:=h1.symm.trans e
   have b:valueAt (q::qs) k=some q.2:=by simp[valueAt,List.find?_cons,e']
   rw[a3i e,b];exact h2
  ·have e':¬q.1=k:=fun z=>e (h1.trans z)
   have b:valueAt (q::qs) k=valueAt qs k:=by simp[valueAt,List.find?_cons,e']
   rw[a3h e,b];exact ih
theorem KV.any {kvs:List (κ×V)}{vs:List (κ×Value)}(r:KV kvs vs)(k:κ):(kvs.any fun kv=>decide (kv.1=k))=vs.any fun kv=>decide (kv.1=k):=by
 unfold KV at r
 induction r with
 |nil=>rfl
 |cons h t ih=>rw[List.any_cons,List.any_cons,ih,h.1]
theorem KV.repl {kvs:List (κ×V)}{vs:List (κ×Value)}(r:KV kvs vs)(k:κ){y:V}{u:Value}(ry:a0X y u) :
  KV (kvs.map fun kv=>if kv.1=k then(kv.1,y) else kv) (vs.map fun kv=>if kv.1=k then(kv.1,u) else kv):=by
 unfold KV at r ⊢
 induction r with
 |nil=>exact .nil
 |@cons p q ps qs h t ih=>
  rw[mN0,mN0];refine .cons ?_ ih;obtain⟨h1,h2⟩:=h
  by_cases e:p.1=k
  ·rw[if_pos e,if_pos (h1.symm.trans e)];exact⟨h1,ry⟩
  ·rw[if_neg e,if_neg (fun z=>e (h1.trans z))];exact⟨h1,h2⟩
theorem KV.put {kvs:List (κ×V)}{vs:List (κ×Value)}(r:KV kvs vs)(k:κ){y:V}{u:Value}(ry:a0X y u):KV (a5l kvs k y) (stored vs k u):=by
 unfold a5l stored;rw[r.any k]
 by_cases e:(vs.any fun kv=>decide (kv.1=k))=true
 ·rw[if_pos e,if_pos e];exact r.repl k ry
 ·rw[if_neg e,if_neg e];exact Paired.snoc r ⟨rfl,ry⟩
theorem KV.length {kvs:List (κ×V)}{vs:List (κ×Value)}(r:KV kvs vs):kvs.length=vs.length:=Paired.length r
end
theorem b0J {P:Program}{w:World}{k:Key}{u:Value}(r:a0X (kV k) u):(a0H P w).is k u=true:=by
 cases k with
 |inl i=>obtain⟨t,e⟩:=(show ∃t,u=Value.int i t from r);subst e;exact a5z P w i t
 |inr x=>obtain⟨t,e⟩:=(show ∃t,u=Value.str x t from r);subst e;exact a5u P w x t
theorem a5k {P:Program}{w:World}:∀{ks:List Key} {us:List Value},a1g (ks.map kV) us->ItemsAre (a0H P w) ks us
 |[],_,r=>by rw[List.map_nil] at r;cases r;exact .nil
 |k::ks,_,r=>by
  rw[mN0] at r;cases r with
  |cons h t=>exact .cons (b0J h) (a5k t)
abbrev KT (H:Hp):List (List Key×V)->List (List Key×Addr×Value)->Prop:=Paired fun p q=>p.1=q.1/\H q.2.1=some (.tup (p.1.map kV))/\a0X p.2 q.2.2
theorem KT.val {H:Hp}{kvs:List (List Key×V)}{xs:List (List Key×Addr×Value)}(r:KT H kvs xs)(k:List Key):a5f (a3O kvs k) ((atKey xs k).map (·.2)):=by
 induction r with
 |nil=>exact True.intro
 |@cons p q ps qs h t ih=>
  obtain⟨h1,_,h2⟩:=h
  by_cases e:p.1=k
  ·have e':q.1=k:=h1.symm.trans e
   have b:atKey (q::qs) k=some q.2:=by simp[atKey,List.find?_cons,e']
   rw[a3i e,b];exact h2
  ·have e':¬q.1=k:=fun z=>e (h1.trans z)
   have b:atKey (q::qs) k=atKey qs k:=by simp[atKey,List.find?_cons,e']
   rw[a3h e,b];exact ih
theorem KT.repl {H:Hp}{kvs:List (List Key×V)}{xs:List (List Key×Addr×Value)}(r:KT H kvs xs)(k:List Key){y:V}{u:Value}(ry:a0X y u) :
  KT H (kvs.map fun kv=>if kv.1=k then(kv.1,y) else kv) (xs.map (putAt k u)):=by
 induction r with
 |nil=>exact .nil
 |@cons p q ps qs h t ih=>
  rw[mN0,mN0];refine .cons ?_ ih;obtain⟨h1,h2,h3⟩:=h;unfold putAt
  by_cases e:p.1=k
  ·rw[if_pos e,if_pos (h1.symm.trans e)];exact⟨h1,h2,ry⟩
  ·rw[if_neg e,if_neg (fun z=>e (h1.trans z))];exact⟨h1,h2,h3⟩
theorem KT.put {H:Hp}{kvs:List (List Key×V)}{xs:List (List Key×Addr×Value)}(r:KT H kvs xs)(k:List Key){b:Addr}{y:V}{u:Value}(hb:H b=some (.tup (k.map kV)))(ry:a0X y u) :
  KT H (a5l kvs k y) (storedH xs k b u):=by
 have e:(kvs.any fun kv=>decide (kv.1=k))=(atKey xs k).isSome:=by
  rw[a4w,(r.val k).isSome_eq,Option.isSome_map]
 unfold a5l storedH;rw[e]
 by_cases q:(atKey xs k).isSome=true
 ·rw[if_pos q,if_pos q];exact r.repl k ry
 ·rw[if_neg q,if_neg q];exact Paired.snoc r ⟨rfl,hb,ry⟩
theorem KT.keeps {H H':Hp}{kvs:List (List Key×V)}{xs:List (List Key×Addr×Value)}(r:KT H kvs xs)(ht:∀b ys,H b=some (.tup ys)->H' b=some (.tup ys)):KT H' kvs xs:=
 Paired.mapP r fun _ _ z=>⟨z.1,ht _ _ z.2.1,z.2.2⟩
section
variable {P:Program}{w:World}{H:Hp}{h:Heap}{a:Addr}
theorem b2s {u:HO}(ok:HOk P w H h)(e:Rd H a u):a0Z P w H h a u:=e.ok ok
theorem a6W {kvs:List (Key×V)}(ok:HOk P w H h)(e:Rd H a (.dK kvs)):kvs.length<=sizeLine/\(a==sysModules)=false/\∃vs,KV kvs vs/\h.DictOf (a0H P w) a vs:=
 show a0Z P w H h a (.dK kvs) from b2s ok e
theorem a8F {kvs:List (Key×V)}(ok:HOk P w H h)(e:H a=some (.dK kvs)):kvs.length<=sizeLine/\(a==sysModules)=false/\∃vs,KV kvs vs/\h.DictOf (a0H P w) a vs:=a6W ok (.inl e)
theorem a5Z {ks:List Key}(ok:HOk P w H h)(e:H a=some (.tup (ks.map kV))):(tupleKind (a0H P w)).is h ks a:=by
 obtain⟨_,its,r,o,h1,h2,n,h3⟩:=(show a0Z P w H h a (.tup (ks.map kV)) from ok a _ e);exact⟨o,its.toArray,n,h1,h2,h3,by simpa using a5k r⟩
theorem b0X {kvs:List (List Key×V)}(ok:HOk P w H h)(e:Rd H a (.dT kvs)):kvs.length<=sizeLine/\(a==sysModules)=false ∧
  ∃xs,KT H kvs xs/\h.DictOfH (tupleKind (a0H P w)) a xs:=by
 obtain⟨z,y,xs,r,o,es,ep,h1,h2,h3,h4,h5⟩:=(show a0Z P w H h a (.dT kvs) from b2s ok e);refine⟨z,y,xs,r,o,es,ep,h1,h2,h3,h4,fun x hx=>?_,h5⟩;have all:∀{l:List (List Key×V)} {m:List (List Key×Addr×Value)},KT H l m->∀x∈m,(tupleKind (a0H P w)).is h x.1 x.2.1:=by
  intro l m q
  induction q with
  |nil=>intro x hx;exact nomatch hx
  |@cons p q ps qs hq t ih=>
   intro x hx;rcases mK0.mp hx with e |hx
   ·subst e
    exact a5Z ok (by rw[<-hq.1];exact hq.2.1)
   ·exact ih x hx
 exact all r x hx
theorem b3x {kvs:List (List Key×V)}(ok:HOk P w H h)(e:H a=some (.dT kvs)):kvs.length<=sizeLine/\(a==sysModules)=false ∧
  ∃xs,KT H kvs xs/\h.DictOfH (tupleKind (a0H P w)) a xs:=b0X ok (.inl e)
end
def b1S (H:Hp)(a:Addr)(y:V)(r:Option V):Prop:=
 (∃kvs k,Rd H a (.dK kvs)/\y=kV k/\r=a3O kvs k)\/∃kvs k b,Rd H a (.dT kvs)/\y=.ref b/\H b=some (.tup (k.map kV))/\r=a3O kvs k
def b0V (H:Hp)(a:Addr)(y v:V)(H':Hp):Prop:=
 (∃kvs k,H a=some (.dK kvs)/\y=kV k/\kvs.length<sizeLine/\H'=upd H a (.dK (a5l kvs k v))) ∨
 ∃kvs k b,H a=some (.dT kvs)/\y=.ref b/\H b=some (.tup (k.map kV))/\kvs.length<sizeLine/\H'=upd H a (.dT (a5l kvs k v))
theorem b1S.k {H:Hp}{a:Addr}{kvs:List (Key×V)}{k:Key}(e:H a=some (.dK kvs)):b1S H a (kV k) (a3O kvs k):=.inl ⟨kvs,k,.inl e,rfl,rfl⟩
theorem b0V.k {H:Hp}{a:Addr}{kvs:List (Key×V)}{k:Key}{v:V}(e:H a=some (.dK kvs))(hl:kvs.length<sizeLine):b0V H a (kV k) v (upd H a (.dK (a5l kvs k v))):=.inl ⟨kvs,k,e,rfl,hl,rfl⟩
section
variable {X:Cx}{U:List (Addr×Obj)}{σ:St}{H:Hp}{s:Shared}{a:Addr}{y v:V}{u r:Value}{o:Option V}{A:Around}{E:Vs0}
theorem Inv.big (I:Inv X U σ H s):sysModules<s.heap.objs.size:=by
 have h:mainGlobals<s.heap.objs.size:=(I.mod.glob.keeps I.bk).lt;exact Nat.lt_trans (by decide) h
theorem a7V {Q:Vs0}(hu:A.units+1<cLine)(I:Inv X U σ H s)(g:b1S H a y (some v))(ry:a0X y u)(h:∀w' s',Inv X U σ H s'->a0X v w'->Q w' s') :
  wpAny (model X.prog X.w) A (getItem (.ref a) u) Q E s:=by
 rcases g with ⟨kvs,k,e,ey,l⟩ |⟨kvs,k,b,e,ey,eb,l⟩
 ·subst ey
  obtain⟨z,hd,vs,rel,dd⟩:=a6W I.hok e;obtain⟨w',hw,rw'⟩:=a5f.some_of (v:=v) (o:=valueAt vs k) (by rw[l];exact rel.val k);exact wpAny_getItem_of (b0J ry) dd.mapOf hw (h w' _ (I.tok _) rw')
 ·subst ey
  cases(show u=Value.ref b from ry)
  obtain⟨z,hd,xs,rel,dd⟩:=b0X I.hok e;obtain⟨w',hw,rw'⟩:=a5f.some_of (v:=v) (o:=(atKey xs k).map (·.2)) (by rw[l];exact rel.val k);obtain⟨p,hp,hp2⟩:=Option.map_eq_some_iff.mp hw;refine wpAny_getItem_heap (tupleKind_room_in1 hu) (a5Z I.hok eb) dd hp ?_;rw[hp2];exact h w' _ (I.tok _) rw'
theorem a3r {h':Heap}{t':Nat}{ob:HO}(I:Inv X U σ H s)(mu:Mut (H a))(hs:Heap.SameBut a s.heap h')(he:∃q,h'.get? a=some q)(new:a0Z X.prog X.w (upd H a ob) h' a ob) :
  Inv X U σ (upd H a ob) { s with heap:=h',toks:=t' }:=
 I.write (x:=a) (e:=a) mu (.inl rfl) (fun b q hb z=>(hs.2 b hb).trans z) he new
theorem b0y {P:Program}{w:World}{H':Hp}{h':Heap}{kvs:List (Key×V)}{vs:List (Key×Value)}(z:kvs.length<=sizeLine)(hd:(a==sysModules)=false)(rel:KV kvs vs)(dd:h'.DictOf (a0H P w) a vs) :
  a0Z P w H' h' a (.dK kvs):=⟨z,hd,vs,rel,dd⟩
theorem a4F {H':Hp}{Q:Unit->Shared->Prop}(hu:A.units+1<cLine)(I:Inv X U σ H s)(g:b0V H a y v H')(ry:a0X y u)(rv:a0X v r)(h:∀s',Inv X U σ H' s'->Q () s') :
  wpAny (model X.prog X.w) A (setItem (.ref a) u r) Q E s:=by
 rcases g with ⟨kvs,k,e,ey,l,eH⟩ |⟨kvs,k,b,e,ey,eb,l,eH⟩
 ·subst ey eH
  obtain⟨z,hd,vs,rel,dd⟩:=a8F I.hok e;have hz:vs.length<=sizeLine:=by rw[<-rel.length];exact z
  have hl:(a5l kvs k v).length<=sizeLine:=by have:=a3C kvs k v;omega
  refine wpAny_setItem_pairs (hsz:=hz) (b0J ry) dd fun h' dd' hs=>h _ ?_;have he:∃q,h'.get? a=some q:=let ⟨q,_,_,hq,_⟩:=dd';⟨q,hq⟩
  exact a3r I (by rw[e];exact True.intro) hs he (b0y hl hd (rel.put k rv) dd')
 ·subst ey eH
  cases(show u=Value.ref b from ry)
  obtain⟨z,hd,xs,rel,dd⟩:=b3x I.hok e;have hz:xs.length<=sizeLine:=by rw[<-Paired.length rel];exact z
  have hl:(a5l kvs k v).length<=sizeLine:=by have:=a3C kvs k v;omega
  refine wpAny_setItem_heap (hsz:=hz) (tupleKind_room_in1 hu) (a5Z I.hok eb) dd fun h' dd' hs=>h _ ?_;obtain⟨q,es,ep,hq,h2,h3,h4,_,h5⟩:=dd';refine a3r I (by rw[e];exact True.intro) hs ⟨q,hq⟩ ⟨hl,hd,_,(rel.put k eb rv).keeps fun c ys ec=>?_,q,es,ep,hq,h2,h3,h4,h5⟩;rw[a0h (b3I ec e (fun z=>nomatch z))];exact ec
end
def b4a (i:Expr):Prop:=∀ov iv,subscripted i false ov iv=operate [ov,iv] (getItem ov iv)
theorem b1k {prog:Program}{w:World}{A:Around}{E:Vs0}{s:Shared}{env:Env}{value slice:Expr}{pos:Pos}{T id:String}{Q:Vs0}
  (hl:typeLookup (.type T) "__getitem__"=pure (some (.builtin id))) (hs:b4a slice)
  (h:wpAny (model prog w) A (eval value env) (fun o s₁=>wpAny (model prog w) A (eval slice env) (fun i s₂=>s₂.TypeIs o T/\wpAny (model prog w) A (getItem o i) Q E s₂) E s₁) E s) :
  wpAny (model prog w) A (eval (.Subscript value slice pos) env) Q E s:=by
 refine Subscript_ (wpAny_mono h (fun o s₁ h₁=>wpAny_mono h₁ (fun i s₂ h₂=>?_) fun _ _ x=>x) fun _ _ x=>x);obtain⟨hT,h₂⟩:=h₂;unfold subscriptTail;refine wB0 ?_;rw[getitemInPython_of_ne hT.not_modules];refine wB0 (wpAny_specialOf hT hl ?_);have fin:wpAny (model prog w) A (subscripted slice false o i) (fun r s₃=>wpAny (model prog w) A (letTemporaryGo value o r >>= fun _=>pure r) Q E s₃) E s₂:=by
  rw[hs o i];exact wpAny_operating (wpAny_mono h₂ (fun r s₃ h₃=>wB0 (wpAny_letTemporaryGo (wP0 h₃))) fun _ _ x=>x)
 first
  |exact wP0 (wB0 fin)
  |exact wB0 (wP0 (wB0 fin))
  |exact wB0 fin
theorem a5y {X:Cx}{U:List (Addr×Obj)}{σ:St}{H:Hp}{s:Shared}{a:Addr}{y:V}{o:Option V}(I:Inv X U σ H s)(g:b1S H a y o):s.TypeIs (.ref a) "dict":=by
 rcases g with ⟨kvs,k,e,_,_⟩ |⟨kvs,k,b,e,_,_,_⟩
 ·obtain⟨_,_,vs,_,dd⟩:=a6W I.hok e
  exact dd.typeIs
 ·obtain⟨_,_,xs,_,dd⟩:=b0X I.hok e
  exact dd.typeIs
def b3V (td ty:TE):TE:=fun σ H Q=>td σ H fun x H1=>ty σ H1 fun y H2=>∃a v,x=.ref a/\b1S H2 a y (some v)/\Q v H2
def b2m (td ty tv:TE):TS:=fun D σ H=>tv σ H fun v H1=>td σ H1 fun x H2=>ty σ H2 fun y H3=>∃a H4,x=.ref a/\b0V H3 a y v H4/\D.nx σ H4
section
variable {X:Cx}{o i e value:Expr}{pos pos' tpos:Pos}{td ty tv:TE}
theorem a5L (hu:X.A.units+1<cLine)(ho:PE X o td)(hi:PE X i ty)(hs:b4a i):PE X (.Subscript o i pos) (b3V td ty):=by
 intro U s σ H Q I h;refine b1k PySem.F.slot_dict_getitem.lookup hs (thn (ho U s σ H _ I h) fun u s1 ⟨x,H1,I1,rx,q1⟩=>thn (hi U s1 σ H1 _ I1 q1) fun iv s2 ⟨y,H2,I2,ry,a,v,ex,g,q2⟩=>?_);subst ex;obtain rfl:u=Value.ref a:=rx;exact⟨a5y I2 g,a7V hu I2 g ry fun w' s3 I3 rw'=>⟨v,H2,I3,rw',q2⟩⟩
theorem a8M (hu:X.A.units+1<cLine)(ho:PE X o td)(hi:PE X i ty)(hv:PE X value tv)(hs:swapsWith value (some (.Subscript o i pos')) pos.line X.env=pure false) :
  PS X (.Assign [.Subscript o i pos'] value pos) (b2m td ty tv):=by
 intro U s σ H D I h;refine wpAny_Assign_Subscript (thn (hv U s σ H _ I h) fun r s1 ⟨v,H1,I1,rv,q1⟩=>thn (ho U s1 σ H1 _ I1 q1) fun u s2 ⟨x,H2,I2,rx,q2⟩=>thn (hi U s2 σ H2 _ I2 q2) fun iv s3 ⟨y,H3,I3,ry,a,H4,ex,g,q3⟩=>?_) hs;subst ex;obtain rfl:u=Value.ref a:=rx;exact a4F hu I3 g ry rv fun s4 I4=>⟨σ,H4,I4,q3⟩
end
theorem a9q {P:Program}{w:World}{H:Hp}(h:Heap)(hb:sysModules<h.objs.size):a0Z P w H (h.push { cls:=.type "dict",data:=.dict #[] }) h.objs.size (.dK []):=
 ⟨zL0 _,beq_eq_false_iff_ne.mpr (Ne.symm (nL0 hb)),[],.nil,Heap.DictOf.new h⟩
def b0j:TE:=fun _ H Q=>∀p,H p=none->Q (.ref p) (upd H p (.dK []))
section
variable {X:Cx}{pos:Pos}
theorem a2v:PE X (.Dict [] [] pos) b0j:=fun U s σ H Q I h=>
 wpAny_Dict_empty ⟨.ref s.heap.objs.size,_,I.laid (a:=s.heap.objs.size) (o:=.dK []) (t':=s.toks) (fun _ _ q=>hP0 _ q) (nR0 _) (a9q s.heap I.big),rfl,h _ (I.hok.fresh (nR0 _))⟩
end
section
variable {X:Cx}{U:List (Addr×Obj)}{σ:St}{H:Hp}{s:Shared}{a:Addr}{kvs:List (Key×V)}{A:Around}{E:Vs0}
theorem a9v {Q:Vs0}(I:Inv X U σ H s)(e:Rd H a (.dK kvs))(h:∀p s',H p=none->Inv X U σ (upd H p (.dK kvs)) s'->Q (.ref p) s'):wpAny (model X.prog X.w) A (call (.type "dict") [.ref a]) Q E s:=by
 obtain⟨z,hd,vs,rel,dd⟩:=a6W I.hok e;refine kt_call_dict hd dd (by rw[<-rel.length];exact z) fun h' dd' hs=>?_;refine h _ _ (I.hok.fresh (nR0 _)) (I.laid (a:=s.heap.objs.size) (o:=.dK kvs) (t':=s.toks) (fun b q hq=>?_) (nR0 _) (b0y z (beq_eq_false_iff_ne.mpr (Ne.symm (nL0 I.big))) rel dd'));exact(hs.2 b (nL0 (hL0 hq))).trans (hP0 _ hq)
end
end L2
namespace Att
open PySem PySem.W PySem.Calls PyProof.Rows
theorem a3u {P:Params}{h:Heap}:∀(ns:List Int) (vs:List Value),WellAll P h vs (ns.map WData.int)->IntsAre vs ns:=by
 intro ns
 induction ns with
 |nil=>
  intro vs w;rw[List.map_nil] at w;cases w;exact .nil
 |cons n ns ih=>
  intro vs w;rw[mN0] at w;cases w with
  |cons a b=>
   cases a;exact .cons _ _ (ih _ b)
theorem a7j {l:OpenLaw}{n:Nat}(hn:l.most=some n){P:Params}{h:Heap}{args:List WData}{vals:List Value}
  (hpre:l.row.toRowW.claim.pre args=true) (hwl:WellAll P h vals args) :
  ∃a vs ns,vals=[Value.ref a]/\args=[WData.list (ns.map WData.int)]/\h.get? a=some { cls:=.type "list",data:=.seq vs.toArray }/\IntsAre vs ns/\ns.length<=n:=by
 have hsh:WShape.hasAll [] args [.list .int]=true:=(pre_splitW hpre).1;have hc:l.pre.holds [] { args:=args }=true:=(pre_splitW hpre).2;obtain⟨d,r,rfl,h1,h2⟩:=hasAllW_cons hsh;obtain rfl:=hasAllW_nil h2;obtain⟨xs,rfl,h3⟩:=hasW_list h1;obtain⟨ns,rfl⟩:=items_int h3;have hlen:ns.length<=n:=by
  unfold OpenLaw.pre at hc;have h4:(WTm.not (.lt (.lit (.int (n:Int))) (.len (.arg 0)))).holds [] { args:=[.list (ns.map .int)] }=true:=by
   have h4:=(holds_andW hc).1;rw[hn] at h4;exact h4
  have h5:=condW_of h4 (w_not (w_lt w_lit (w_len_list (w_arg rfl))));rw[lM0] at h5;refine Nat.le_of_not_lt fun q=>?_;have q':(n:Int)<((ns.length:Nat):Int):=by omega
  first
   | (rw[dT0 q'] at h5;exact absurd h5 (by decide))
   | (simp at h5;omega)
 cases hwl with
 |cons w1 w2=>
  cases w2;cases w1 with
  |list ho hall=>exact⟨_,_,ns,rfl,rfl,ho,a3u ns _ hall,hlen⟩
theorem a8s (l:OpenLaw)(args:List WData):l.row.toRowW.claim.post args (.bool true) args=true:=
 postW_of (r:=l.row.toRowW) (X:=(true==true))
  (show WShape.has [] (.bool true) .bool=true by first |rfl |decide |simp[WShape.has,WShape.arms,WShape.armsAll])
  (show(WTm.eq .res (.lit (.bool true))).value [] { args:=args,res:=some (.bool true),after:=args }=some (.bool (true==true)) from w_eq_bool (w_res rfl) w_lit) rfl
theorem a3n {l:OpenLaw}{n:Nat}{q:Program}{loose:List Str}{XP:(Str->Option Value)->Heap->Prop}{YP:World->Heap->Prop}{d:DefRec}
  (hn:l.most=some n) (hdf:d.params.defaults=[])
  (call:∀(w:World) (s₀ s₁:Shared) (mg mb:Str->Option Value) (fa:Addr) (o:Obj) (pm cd doc:Value) (a:Addr) (vs:List Value) (ns:List Int),
   Ground q loose [] XP w s₀ mg mb s₁.heap->YP w s₁.heap →
   s₁.heap.get? fa=some o->o.data=.func (docDef d.name d.params d.body d.scope pm cd doc)->s₁.heap.CodeRec cd d.name->mg d.name=some (.ref fa) →
   s₁.heap.get? a=some { cls:=.type "list",data:=.seq vs.toArray }->IntsAre vs ns->ns.length<=n->s₁.gens=#[] →
   codeAny (model l.prog w) callerA (.call (.ref fa) ⟨[.ref a],[]⟩) (fun r s'=>r=.ok (.ret (.bool true))/\OldK s₁.heap s'.heap/\s'.os=s₁.os/\AllBare s'.gens) s₁) :
  WalkO q loose XP YP l.row.toRowW d [] (fun f vs=>PySem.call f vs):=by
 intro w s₀ s₁ mg mb G Y fa o pm cd doc dV kV ho hd hcd hD hmg hg args vals as hpre hlay hrd hwl hlo;obtain rfl:dV=.none:=Dflts.none hD hdf;obtain rfl:kV=.none:=Dflts.noKw hD;obtain⟨a,vs,ns,rfl,rfl,hobj,hints,hlen⟩:=a7j hn hpre hwl;refine enter_call (codeAny_mono (call w s₀ s₁ mg mb fa o pm cd doc a vs ns G Y ho (fd_plain hd) hcd hmg hobj hints hlen hg) fun r s' hq=>?_);obtain⟨rfl,h2,h3,h4⟩:=hq;exact⟨.inl ⟨.bool true,.bool true,[],rfl,fun _=>rfl,.bool true,a8s l _,fun _=>⟨List.Pairwise.nil,fun _ hm=>(nomatch hm)⟩⟩,h2,h3,h4⟩
end Att
namespace L2
open PySem PySem.Spec PyProof.Rows
theorem a3D:∀{vs:List Value} {ns:List Int},IntsAre vs ns->a1g (ns.map V.int) vs
 |_,_,.nil=>.nil
 |_,_,.cons n t h=>.cons ⟨t,rfl⟩ (a3D h)
def b3j (H:Hp):Prop:=∀b,H b=none\/∃o xs,H b=some (.frz o (.lst xs))
theorem a9p {P:Program}{w:World}{K:Fg0}{mg mb:Str->Option Value}{CX:CXT}{k:Nat}{fa a:Addr}{fd:FuncData}{x:Str}{sp:Sp}{s₁:Shared}{vs:List Value}{ns:List Int}
  (KX:K.In s₁.heap) (hns:s₁.heap.Ns mainGlobals mg) (hb:s₁.heap.Ns builtinsNs mb) (hbb:∀x:Str,x≠"__name__"->mb x=bootBuiltins x) (hlim:s₁.heap.NoLimit) (hg:s₁.gens=#[])
  (ha:s₁.heap.get? a=some { cls:=.type "list",data:=.seq vs.toArray }) (hi:IntsAre vs ns) (hl:ns.length<=sizeLine) (hr:a1m k callerA)
  (F:∀base:Heap,K.In base->base.Ns mainGlobals mg->a0K P w K mg base CX k fa fd [x] sp) (hbind:∀(s:Shared) (u:Value),BindsTo s fd ⟨[u],[]⟩ [(x,u)])
  (hsp:∀H:Hp,b3j H->SqL K H a (ns.map V.int)->sp [.ref a] H (fun v _=>v=.bl true) fun _ _ _=>False)
  (hCX:∀H e s',CX [] H s₁ (fun _ _ _=>False) e s'->False) :
  codeAny (model P w) callerA (.call (.ref fa) ⟨[.ref a],[]⟩) (fun r s'=>r=.ok (.ret (.bool true))/\OldK s₁.heap s'.heap/\s'.os=s₁.os/\AllBare s'.gens) s₁:=by
 have rv:=a3D hi;have lenV:=hi.length;have core:∀H:Hp,b3j H->SqL K H a (ns.map V.int)->HOk P w H s₁.heap->(∀b,H b≠none->b=a)->(H a≠none->K.lookup a=none) →
   codeAny (model P w) callerA (.call (.ref fa) ⟨[.ref a],[]⟩) (fun r s'=>r=.ok (.ret (.bool true))/\OldK s₁.heap s'.heap/\s'.os=s₁.os/\AllBare s'.gens) s₁:=by
  intro H hO hS hok hA hK;have base_of:∀{b:Addr} {o:Obj},s₁.heap.get? b=some o->H b=none->(a5C s₁.heap H).get? b=some o:=fun e n=>a5W e n;have noA:∀{b:Addr} {o:Obj} {es:Array DictEntry} {ep:Nat},s₁.heap.get? b=some o->o.data=.dict es ep->H b=none:=fun {b o es ep} e d=>by
   cases q:H b with
   |none=>rfl
   |some u=>
    have e':b=a:=hA b (by rw[q];simp);subst e';rw[ha] at e;cases e;have d':Data.seq vs.toArray _=Data.dict es ep:=d;cases d'
  have nsK:∀{b:Addr} {m:Str->Option Value},s₁.heap.Ns b m->(a5C s₁.heap H).Ns b m:=fun {b m} ⟨o,es,ep,e,d,r⟩=>⟨o,es,ep,base_of e (noA e d),d,r⟩;have hKb:K.In (a5C s₁.heap H):=fun b o e=>base_of (KX b o e) (by
   cases q:H b with
   |none=>rfl
   |some u=>
    have e':b=a:=hA b (by rw[q];simp);subst e';rw[hK (by rw[q];simp)] at e;cases e)
  have hM:Mod K mg (a5C s₁.heap H):=⟨hKb,nsK hns,⟨mb,nsK hb,hbb⟩,let ⟨mc,h1,h2⟩:=hlim;⟨mc,nsK h1,h2⟩⟩;have e0:a6J P w K mg (a5C s₁.heap H) callerA [] s₁ H:=⟨rfl,hM,fun b o e=>a8G e,Nat.le_of_eq (a5s _ _),trivial,fun b hb=>absurd (show b∈([]:List Addr) from hb) (by simp),hok,.of_eq hg⟩;refine codeAny_mono ((F _ hKb (nsK hns)).run callerA [] s₁ H ⟨[.ref a],[]⟩ [.ref a] [.ref a] _ _ hr e0 (hbind s₁ (.ref a)) (.cons rfl .nil) (hsp H hO hS)) fun r s' h=>?_;cases r with
  |error e=>exact(hCX H e s' h).elim
  |ok fl=>
   cases fl with
   |next=>exact False.elim h
   |brk=>exact False.elim h
   |cont=>exact False.elim h
   |ret u=>
    obtain⟨v,H',os,bare,un,hok',r',q⟩:=h;have q':v=.bl true:=q;subst q';obtain rfl:u=Value.bool true:=r';refine⟨rfl,OldK.of_keep fun b o e=>?_,os,bare⟩;cases q:H b with
    |none=>exact un.keep b o e q (by intro z;exact absurd (show b∈([]:List Addr) from z) (by simp)) (by simp)
    |some u=>
     rcases hO b with z |⟨ob,xs,z⟩
     ·rw[q] at z;cases z
     ·have z2:=un.frzs b ob _ z
      obtain⟨e1,_⟩:=hok b _ z;obtain⟨e2,_⟩:=hok' b _ z2;rw[e] at e1;cases e1;exact e2
 cases hk:K.lookup a with
 |some o=>
  have e:=KX a o hk;rw[ha] at e;cases e;refine core (fun _=>none) (fun _=>.inl rfl) (.inr ⟨_,vs.toArray,_,hk,rfl,rfl,rfl,by rw[List.size_toArray,lenV];exact hl,by simpa using rv⟩) (fun b u z=>by have z':(none:Option HO)=some u:=z;cases z') (fun b z=>absurd rfl z) fun z=>absurd rfl z
 |none=>
  refine core (fun b=>if b=a then some (.frz { cls:=.type "list",data:=.seq vs.toArray } (.lst (ns.map V.int))) else none) (fun b=>?_) (.inl (.inr ⟨{ cls:=.type "list",data:=.seq vs.toArray },if_pos rfl⟩)) (fun b u z=>?_) (fun b z=>?_) fun _=>hk
  ·by_cases hb:b=a
   ·exact .inr ⟨_,_,if_pos hb⟩
   ·exact .inl (if_neg hb)
  ·by_cases hb:b=a
   ·have z':=(if_pos hb).symm.trans z
    cases z';subst hb;exact⟨ha,by rw[lM0];exact hl,vs,_,rv,ha⟩
   ·have z':=(if_neg hb).symm.trans z
    cases z'
  ·by_cases hb:b=a
   ·exact hb
   ·exact absurd (if_neg hb) z
theorem b0C {l:PySem.W.OpenLaw}{n k:Nat}{q:Program}{loose:List Str}{XP:(Str->Option Value)->Heap->Prop}{YP:World->Heap->Prop}{d:DefRec}{K:Params->Fg0}{CX:World->CXT}{sp:World->Sp}{x:Str}
  (hn:l.most=some n) (hn2:n<=sizeLine) (hdf:d.params.defaults=[]) (hr:a1m k callerA)
  (hY:∀(w:World) (h:Heap),YP w h->(K w.params).In h)
  (F:∀(w:World) (mg:Str->Option Value) (fa:Addr) (h:Heap),(K w.params).In h->h.Ns mainGlobals mg->mg d.name=some (.ref fa) →
   ∃fd:FuncData,(∀(s:Shared) (u:Value),BindsTo s fd ⟨[u],[]⟩ [(x,u)]) ∧
    ∀base:Heap,(K w.params).In base->base.Ns mainGlobals mg->a0K l.prog w (K w.params) mg base (CX w) k fa fd [x] (sp w))
  (hsp:∀(w:World) (H:Hp) (a:Addr) (ns:List Int),ns.length<=n->b3j H->SqL (K w.params) H a (ns.map V.int)->sp w [.ref a] H (fun v _=>v=.bl true) fun _ _ _=>False)
  (hCX:∀(w:World) (H:Hp) (s:Shared) (e:Value) (s':Shared),CX w [] H s (fun _ _ _=>False) e s'->False) :
  PySem.W.WalkO q loose XP YP l.row.toRowW d [] (fun f vs=>PySem.call f vs):=by
 refine Att.a3n hn hdf fun w s₀ s₁ mg mb fa o pm cd doc a vs ns G Y ho hd hcd hmg hobj hints hlen hg=>?_;have KX:=hY w _ Y;obtain⟨fd,hb,hF⟩:=F w mg fa _ KX G.T.g hmg;exact a9p KX G.T.g G.T.b G.T.builtins G.T.nolimit hg hobj hints (Nat.le_trans hlen hn2) hr hF hb (fun H hO hS=>hsp w H a ns hlen hO hS) fun H e s'=>hCX w H s₁ e s'
def a0Q (s:Stmt)(j:Nat):Stmt:=match s with
 | .ClassDef _ _ _ body _ _ _ _ _ _ _=>body.getD j (.Pass ⟨0,0,0,0⟩)
 |_=>.Pass ⟨0,0,0,0⟩
def a0P (s:Stmt):Arguments:=match s with
 | .FunctionDef _ a _ _ _ _ _ _ _ _=>a
 |_=>{ posonlyargs:=[],args:=[],vararg:=none,kwonlyargs:=[],kw_defaults:=[],kwarg:=none,defaults:=[] }
def a0A (s:Stmt):List Stmt:=match s with
 | .FunctionDef _ _ b _ _ _ _ _ _ _=>b
 |_=>[]
def a0f (s:Stmt):Scope:=match s with
 | .FunctionDef _ _ _ _ _ _ sc _ _ _=>sc
 |_=>{ kind:=.function,names:=[],isGenerator:=false,isCoroutine:=false }
abbrev CX0:CXT:=fun _ _ _ _ _ _=>False
abbrev E0:XK:=fun _ _ _=>False
theorem a0G {X:Cx}:a7A CX0 X E0:=fun _ _ _ _ _ _ _ h=>h.elim
structure Fun (K:Fg0) (x qual:Str) (st:Stmt) (f:Addr) (fd:FuncData):Prop where
 ex:∃(oc:Value) (od:Option Addr) (kV doc pm:Value) (an:Option Addr) (cdv ct:Value) (osl:Array (Option Value)),
  fd=PySem.W.fnOf x qual (a0P st) (a0A st) (a0f st) .none kV doc pm an cdv ct/\K.lookup f=some ⟨oc,od,.func fd,osl⟩/\PySem.W.codeIn K cdv qual=true
 kp:PySem.W.keepIn K (.ref f)=true
section
variable {P:Program}{w:World}{K:Fg0}{mg:Str->Option Value}{base:Heap}
theorem Fun.ok {x qual:Str}{st:Stmt}{f:Addr}{fd:FuncData}{N ps:List Str}{k:Nat}{sp:Sp}(F:Fun K x qual st f fd)(S:a0o N ps (a0f st))(len:∀vs H Q E,sp vs H Q E->vs.length=ps.length)
  (hbody:∀(cdv:Value) (A:Around) (outer:List Env) (s:Shared) (H:Hp) (vs:List V) (Q:VK) (E:XK),a1m k (A.deeper (envOfC qual (a0f st) s.heap.objs.size f cdv))->sp vs H Q E →
   ∃t,PSs (a5E CX0 P w K mg base N qual (a0f st) f cdv A outer s H E).nox (a0A st) t/\t { nx:=fun _ H'=>Q .non H',rt:=Q } (a2T N vs) H):a0K P w K mg base CX0 (k+1) f fd ps sp:=by
 obtain⟨oc,od,kV,doc,pm,an,cdv,ct,osl,rfl,lk,hcd⟩:=F.ex;refine a9k lk hcd S len fun A outer s H vs Q E hr hsp=>?_;obtain⟨t,h,q⟩:=hbody cdv A outer s H vs Q E hr hsp;exact⟨t,h.nox,q⟩
theorem Fun.binds {x qual:Str}{st:Stmt}{f:Addr}{fd:FuncData}{ps:List Str}(F:Fun K x qual st f fd)
  (h:∀(kV doc pm:Value) (an:Option Addr) (cdv ct:Value) (us:List Value),us.length=ps.length->bindArgs (PySem.W.fnOf x qual (a0P st) (a0A st) (a0f st) .none kV doc pm an cdv ct) ⟨us,[]⟩=pure (ps.zip us)):a1V K fd ps []:=by
 obtain⟨oc,od,kV,doc,pm,an,cdv,ct,osl,rfl,lk,hcd⟩:=F.ex;exact .all (h kV doc pm an cdv ct)
theorem a8I {x qual:Str}{st:Stmt}{f:Addr}{oc:Value}{od an:Option Addr}{osl:Array (Option Value)}{kV doc pm cdv ct:Value}(l:K.lookup f=some ⟨oc,od,.func (PySem.W.fnOf x qual (a0P st) (a0A st) (a0f st) .none kV doc pm an cdv ct),osl⟩)
  (c:PySem.W.codeIn K cdv qual=true) (k:PySem.W.keepIn K (.ref f)=true):Fun K x qual st f (PySem.W.fnOf x qual (a0P st) (a0A st) (a0f st) .none kV doc pm an cdv ct):=⟨⟨oc,od,kV,doc,pm,an,cdv,ct,osl,rfl,l,c⟩,k⟩
end
theorem a3A {A:Around}{k:Nat}(hr:a1m k A):A.units+1<cLine:=Nat.lt_of_le_of_lt (Nat.add_le_add_left (by decide:1<=64) _) hr.units
section
variable {X:Cx}
theorem pv (i:Nat){x:Str}{pos:Pos}(hN:X.N[i]? =some x:=by rfl)(hv:Vis X.env.scope x:=by first |exact Or.inl rfl |exact Or.inr (Or.inl rfl) |exact Or.inr (Or.inr rfl))(hd:(x==("__debug__":Str))=false:=by decide)
  (hcd:(x==("__classdict__":Str))=false:=by decide):PE X (.Name x pos) (a7Z i):=b2x hN hv hd hcd
theorem a2z {A B:Prop}(h:B):if false=true then A else B:=by
 rw[if_neg bF0];exact h
theorem a3R {A B:Prop}(h:A):if true=true then A else B:=by
 rw[if_pos rfl];exact h
theorem a3j {c A B:Prop}[Decidable c](h1:c->A)(h2:¬c->B):if c then A else B:=by
 by_cases h:c
 ·rw[if_pos h]
  exact h1 h
 ·rw[if_neg h]
  exact h2 h
theorem b3i {c A B:Prop}[Decidable c](hc:c)(h:B):if (!decide c)=true then A else B:=by
 rw[dT0 hc];exact a2z h
def a0l (H H':Hp):Prop:=∀b o,H b=some o->H' b=some o
theorem a0l.refl (H:Hp):a0l H H:=fun _ _ h=>h
theorem a0l.trans {H H1 H2:Hp}(a:a0l H H1)(b:a0l H1 H2):a0l H H2:=fun c o h=>b c o (a c o h)
theorem a0l.seq {K:Fg0}{H H':Hp}{a:Addr}{xs:List V}(e:a0l H H')(h:SqL K H a xs):SqL K H' a xs:=by
 rcases h with (h |⟨o,h⟩) |h
 ·exact .inl (.inl (e _ _ h))
 ·exact .inl (.inr ⟨o,e _ _ h⟩)
 ·exact .inr h
theorem Fun.b1 {K:Fg0}{x q:Str}{st:Stmt}{f:Addr}{fd:FuncData}(F:Fun K x q st f fd)(p0:Str)(h:∀(kV doc pm:Value) (an:Option Addr) (cdv ct u0:Value),bindArgs (PySem.W.fnOf x q (a0P st) (a0A st) (a0f st) .none kV doc pm an cdv ct) ⟨[u0],[]⟩=pure [(p0,u0)]):a1V K fd [p0] []:=F.binds fun kV doc pm an cdv ct us hl=>by
 match us,hl with
 |[u0],_=>exact h kV doc pm an cdv ct u0
theorem Fun.b2 {K:Fg0}{x q:Str}{st:Stmt}{f:Addr}{fd:FuncData}(F:Fun K x q st f fd)(p0 p1:Str)(h:∀(kV doc pm:Value) (an:Option Addr) (cdv ct u0 u1:Value),bindArgs (PySem.W.fnOf x q (a0P st) (a0A st) (a0f st) .none kV doc pm an cdv ct) ⟨[u0,u1],[]⟩=pure [(p0,u0),(p1,u1)]):a1V K fd [p0,p1] []:=F.binds fun kV doc pm an cdv ct us hl=>by
 match us,hl with
 |[u0,u1],_=>exact h kV doc pm an cdv ct u0 u1
theorem Fun.b3 {K:Fg0}{x q:Str}{st:Stmt}{f:Addr}{fd:FuncData}(F:Fun K x q st f fd)(p0 p1 p2:Str)(h:∀(kV doc pm:Value) (an:Option Addr) (cdv ct u0 u1 u2:Value),bindArgs (PySem.W.fnOf x q (a0P st) (a0A st) (a0f st) .none kV doc pm an cdv ct) ⟨[u0,u1,u2],[]⟩=pure [(p0,u0),(p1,u1),(p2,u2)]):a1V K fd [p0,p1,p2] []:=F.binds fun kV doc pm an cdv ct us hl=>by
 match us,hl with
 |[u0,u1,u2],_=>exact h kV doc pm an cdv ct u0 u1 u2
theorem Fun.b4 {K:Fg0}{x q:Str}{st:Stmt}{f:Addr}{fd:FuncData}(F:Fun K x q st f fd)(p0 p1 p2 p3:Str)(h:∀(kV doc pm:Value) (an:Option Addr) (cdv ct u0 u1 u2 u3:Value),bindArgs (PySem.W.fnOf x q (a0P st) (a0A st) (a0f st) .none kV doc pm an cdv ct) ⟨[u0,u1,u2,u3],[]⟩=pure [(p0,u0),(p1,u1),(p2,u2),(p3,u3)]):a1V K fd [p0,p1,p2,p3] []:=F.binds fun kV doc pm an cdv ct us hl=>by
 match us,hl with
 |[u0,u1,u2,u3],_=>exact h kV doc pm an cdv ct u0 u1 u2 u3
theorem a0o.k {N P:List Str}{sc:Scope}(h:sc.kind=.function/\sc.isCoroutine=false/\sc.isGenerator=false/\N.Nodup/\N.take P.length=P/\(∀x∈P,sc.names.lookup x=some .local\/sc.names.lookup x=some .cell)/\∀y∈sc.names,y.2≠.free):a0o N P sc:=let ⟨a,b,c,d,e,f,g⟩:=h;⟨a,b,c,d,e,f,g⟩
def a3s (env:Env)(cs:List (Str×Addr))(y:Str×NameKind):List (Str×Addr):=
 if (y.2==NameKind.free)=true then(y.1,(env.cells.lookup y.1).getD 0)::cs else cs
def a2R (env:Env)(names:List (Str×NameKind)):List (Str×Addr):=names.foldl (a3s env) []
theorem a3t {env:Env}:∀(names:List (Str×NameKind)) (cs:List (Str×Addr)),(∀y∈names,y.2=.free->∃c,env.cells.lookup y.1=some c) →
  (forIn names cs fun y r=>(if (y.2==NameKind.free)=true then do let a <-cellOf env y.1;pure (ForInStep.yield ((y.1,a)::r)) else pure (ForInStep.yield r):Sem (ForInStep (List (Str×Addr)))))=pure (names.foldl (a3s env) cs)
 |[],cs,_=>rfl
 |y::r,cs,h=>by
  rw[List.forIn_cons,List.foldl_cons]
  by_cases hy:(y.2==NameKind.free)=true
  ·obtain⟨c,hc⟩:=h y List.mem_cons_self (eq_of_beq hy)
   have e:cellOf env y.1=pure c:=by unfold cellOf;rw[hc]
   rw[if_pos hy,e,pure_bind,pure_bind];have e2:a3s env cs y=(y.1,c)::cs:=by unfold a3s;rw[if_pos hy,hc];rfl
   rw[e2];exact a3t r _ fun z hz=>h z (mL0 _ hz)
  ·rw[if_neg hy,pure_bind]
   have e2:a3s env cs y=cs:=by unfold a3s;rw[if_neg hy]
   rw[e2];exact a3t r _ fun z hz=>h z (mL0 _ hz)
theorem a5D {env:Env}{scope:Scope}(h:∀y∈scope.names,y.2=.free->∃c,env.cells.lookup y.1=some c):closureFor scope env=pure (a2R env scope.names):=by
 have e:=a3t (env:=env) scope.names [] h;unfold a2R;rw[<-e];simp only[closureFor,bind_pure_comp,map_pure,bind_pure]
theorem a6n {env:Env}:∀(names:List (Str×NameKind)) (cs:List (Str×Addr)),(∀y∈names,y.2=.free->∃c,env.cells.lookup y.1=some c)->(∀x c,cs.lookup x=some c->env.cells.lookup x=some c) →
  ∀x c,(names.foldl (a3s env) cs).lookup x=some c->env.cells.lookup x=some c
 |[],cs,_,hc,x,c,e=>hc x c e
 |y::r,cs,h,hc,x,c,e=>by
  rw[List.foldl_cons] at e;refine a6n r _ (fun z hz=>h z (mL0 _ hz)) (fun z d q=>?_) x c e;unfold a3s at q
  by_cases hy:(y.2==NameKind.free)=true
  ·obtain⟨c',hc'⟩:=h y List.mem_cons_self (eq_of_beq hy)
   rw[if_pos hy,List.lookup_cons,hc'] at q;cases hz:z==y.1 with
   |true=>
    rw[hz] at q;have q':c'=d:=Option.some.inj q;rw[eq_of_beq hz,hc',q']
   |false=>
    rw[hz] at q;exact hc z d q
  ·rw[if_neg hy] at q
   exact hc z d q
theorem a4i {env:Env}:∀(names:List (Str×NameKind)) (cs:List (Str×Addr)) (x:Str),((x,NameKind.free)∈names\/∃c,cs.lookup x=some c)->∃c,(names.foldl (a3s env) cs).lookup x=some c
 |[],cs,x,h=>by
  rcases h with h |h
  ·cases h
  ·exact h
 |y::r,cs,x,h=>by
  rw[List.foldl_cons];refine a4i r _ x ?_;rcases h with h |⟨c,h⟩
  ·rcases mK0.mp h with e |e
   ·subst e
    refine .inr ⟨(env.cells.lookup x).getD 0,?_⟩;unfold a3s;rw[if_pos (show((x,NameKind.free).2==NameKind.free)=true from rfl),List.lookup_cons,beq_self_eq_true]
   ·exact .inl e
  ·refine .inr ?_
   unfold a3s
   by_cases hy:(y.2==NameKind.free)=true
   ·rw[if_pos hy,List.lookup_cons]
    cases hz:x==y.1 with
    |true=>exact⟨_,rfl⟩
    |false=>exact⟨c,h⟩
   ·rw[if_neg hy]
    exact⟨c,h⟩
abbrev a0J (X:Cx)(scope:Scope)(N:List Str)(s:Shared)(H:Hp)(fp:List Addr):Cx where
 prog:=X.prog
 w:=X.w
 K:=X.K
 mg:=X.mg
 base:=X.base
 A:=X.A
 N:=N
 s₀:=s
 H₀:=H
 env:=compEnvC scope (a2R X.env scope.names) s.heap.objs.size X.env
 outer:=X.stack
 stack:=X.stack
 ex:=fp
 fn:=fun _=>false
 calm:=X.calm
 pn:=[]
 xe:=fun _ _=>False
structure a3p (osc scope:Scope) (N0:List Str) (xs:List Str) (fr:List Nat):Prop where
 kind:scope.kind=.function
 nocell:∀y∈scope.names,y.2≠.cell
 names:∀y∈scope.names,y.2=.local->scope.names.lookup y.1=some .local
 free:∀y∈scope.names,y.2=.free->osc.names.lookup y.1=some .cell\/osc.names.lookup y.1=some .free
 fro:∀j∈fr,∃x,N0[j]? =some x/\scope.names.lookup x=some .free
 nd:(xs++fr.map fun j=>N0.getD j "").Nodup
def a1c (N0:List Str)(xs:List Str)(fr:List Nat):List Str:=xs++fr.map fun j=>N0.getD j ""
def a2K (xs:List Str)(fr:List Nat)(σ:St):St:=xs.map (fun _=>none)++fr.map fun j=>(σ[j]?).join
theorem a1e {κ:Type}:∀{l:List (Str×κ)} {x:Str} {k:κ},l.lookup x=some k->(x,k)∈l
 |[],_,_,h=>by cases h
 | (n,k')::r,x,k,h=>by
  rw[List.lookup_cons] at h;cases hx:x==n with
  |true=>
   rw[hx] at h;have h':k'=k:=Option.some.inj h;rw[eq_of_beq hx,h'];exact List.mem_cons_self
  |false=>
   rw[hx] at h;exact mL0 _ (a1e h)
theorem a2p {env:Env}:∀{names:List (Str×NameKind)} {x:Str} {k:NameKind},
  (names.map fun(n,k)=>if (k==NameKind.free&&env.scope.kind==.function&&env.kindOf n==some .cell) then(n,NameKind.cell) else(n,k)).lookup x=some k →
  names.lookup x=some k\/(k=.cell/\names.lookup x=some .free)
 |[],_,_,h=>by cases h
 | (n,k')::r,x,k,h=>by
  have ih:=@a2p env r x k;rw[mN0] at h;rw[List.lookup_cons]
  by_cases hc:(k'==NameKind.free&&env.scope.kind==.function&&env.kindOf n==some .cell)=true
  ·have h':List.lookup x ((n,NameKind.cell)::(r.map fun(n,k)=>if (k==NameKind.free&&env.scope.kind==.function&&env.kindOf n==some .cell) then(n,NameKind.cell) else(n,k)))=some k:=by
    rw[<-h];simp only[hc,if_true]
   rw[List.lookup_cons] at h';cases hx:x==n with
   |true=>
    rw[hx] at h';have h2:NameKind.cell=k:=Option.some.inj h';rw[Bool.and_eq_true,Bool.and_eq_true] at hc;exact .inr ⟨h2.symm,congrArg some (eq_of_beq hc.1.1)⟩
   |false=>
    rw[hx] at h';exact ih h'
  ·have h':List.lookup x ((n,k')::(r.map fun(n,k)=>if (k==NameKind.free&&env.scope.kind==.function&&env.kindOf n==some .cell) then(n,NameKind.cell) else(n,k)))=some k:=by
    rw[<-h];simp only[hc];rfl
   rw[List.lookup_cons] at h';cases hx:x==n with
   |true=>
    rw[hx] at h';exact .inl h'
   |false=>
    rw[hx] at h';exact ih h'
theorem a2Y {env:Env}:∀{names:List (Str×NameKind)} {x:Str},names.lookup x=some .free →
  (names.map fun(n,k)=>if (k==NameKind.free&&env.scope.kind==.function&&env.kindOf n==some .cell) then(n,NameKind.cell) else(n,k)).lookup x=some .cell ∨
  (names.map fun(n,k)=>if (k==NameKind.free&&env.scope.kind==.function&&env.kindOf n==some .cell) then(n,NameKind.cell) else(n,k)).lookup x=some .free
 |[],_,h=>by cases h
 | (n,k')::r,x,h=>by
  have ih:=@a2Y env r x;rw[List.lookup_cons] at h;rw[mN0]
  by_cases hc:(k'==NameKind.free&&env.scope.kind==.function&&env.kindOf n==some .cell)=true
  ·have e:(match (n,k') with | (n,k)=>if (k==NameKind.free&&env.scope.kind==.function&&env.kindOf n==some .cell) then(n,NameKind.cell) else(n,k))=(n,NameKind.cell):=by
    simp only[hc,if_true]
   rw[e,List.lookup_cons];cases hx:x==n with
   |true=>exact .inl rfl
   |false=>rw[hx] at h;exact ih h
  ·have e:(match (n,k') with | (n,k)=>if (k==NameKind.free&&env.scope.kind==.function&&env.kindOf n==some .cell) then(n,NameKind.cell) else(n,k))=(n,k'):=by
    simp only[hc];rfl
   rw[e,List.lookup_cons];cases hx:x==n with
   |true=>
    rw[hx] at h;exact .inr h
   |false=>rw[hx] at h;exact ih h
theorem a2C {osc scope:Scope}{N0 xs:List Str}{fr:List Nat}{U:List (Addr×Obj)}{σ:St}{H:Hp}{s:Shared}(C:a3p osc scope N0 xs fr)(ho:X.env.scope=osc)(I:Inv X U σ H s) :
  ∀y∈scope.names,y.2=.free->∃c,X.env.cells.lookup y.1=some c:=fun y hy e=>by
 refine I.ok.has y.1 ?_;rw[<-ho] at C;exact C.free y hy e
theorem a3X {osc scope:Scope}{N0 xs:List Str}{fr:List Nat}{U:List (Addr×Obj)}{σ:St}{H:Hp}{s:Shared}{fp:List Addr}{h₁:Heap}{tk:Nat}(C:a3p osc scope N0 xs fr)(ho:X.env.scope=osc)(hN0:X.N=N0)(I:Inv X U σ H s)
  (hf:∀b∈fp,a2X X U H b) (hlt:∀b∈fp,b<s.heap.objs.size) (hn:h₁.Ns s.heap.objs.size fun _=>none) (hk:∀b o,s.heap.get? b=some o->h₁.get? b=some o) :
  Inv (a0J X scope (a1c N0 xs fr) s H fp) [] (a2K xs fr σ) H { s with heap:=h₁,toks:=tk }:=by
 subst hN0;have hfree:=a2C C ho I;have sub:=a6n (env:=X.env) scope.names [] hfree (fun x c e=>by cases e);have nC:∀x c,X.env.cells.lookup x=some c->c≠s.heap.objs.size:=fun x c e z=>by
  obtain⟨v,q⟩:=I.cell x c e;exact absurd q.lt (by rw[z];exact Nat.lt_irrefl _)
 refine⟨⟨I.ok.mod,C.kind,I.ok.glob,I.ok.blt,nR0 _,fun x y c h1 h2=>I.ok.inj x y c (sub x c h1) (sub y c h2),fun x hx=>?_,fun x c h _=>(bF0 h).elim,I.ok.hd,I.ok.frames,.inl rfl,fun b hb=>?_,I.bs,Nat.le_trans I.ok.bsz I.sz,fun b o e hb=>?_,fun b hb hz=>?_,I.stack,I.stkFree⟩,
  rfl,I.bare,Un.kept hk,⟨_,hn,fun i x v h1 h2 h3=>?_⟩,fun x c h=>?_,I.hok.fresh (nR0 _),fun x c h=>I.freeC x c (sub x c h),fun p hp=>absurd (show p∈([]:List (Addr×Obj)) from hp) (by simp),I.hok.kept hk,?_⟩
 ·have hx':(relabel scope X.env).names.lookup x=some .cell\/(relabel scope X.env).names.lookup x=some .free:=hx
  refine a4i (env:=X.env) scope.names [] x (.inl ?_);rcases hx' with q |q
  ·rcases a2p q with z |⟨_,z⟩
   ·exact absurd rfl (C.nocell _ (a1e z))
   ·exact a1e z
  ·rcases a2p q with z |⟨z,_⟩
   ·exact a1e z
   ·cases z
 ·exact⟨nL0 (hlt b hb),fun x c h=>(hf b hb).2.2.2.2.1 x c (sub x c h)⟩
 ·rcases (hf b hb).2.2.2.1 with z |z
  ·exact I.ok.noex b o e z
  ·exact absurd (Nat.lt_of_lt_of_le (hL0 e) (Nat.le_trans I.ok.bsz z)) (Nat.lt_irrefl _)
 ·rcases mK0.mp (I.stkSub b hz) with z |z
  ·exact(hf b hb).2.1 z
  ·exact(hf b hb).2.2.1 z
 ·
  have hi:¬i<xs.length:=fun hi=>by
   unfold a2K at h2;rw[gL0 (by rw[lM0];exact hi),gM0] at h2;cases q:xs[i]? with
   |none=>rw[q] at h2;cases h2
   |some y=>rw[q] at h2;cases h2
  have hi':xs.length<=i:=Nat.le_of_not_lt hi;have e2:(fr.map fun j=>(σ[j]?).join)[i-xs.length]? =some (some v):=by
   have:=h2
   unfold a2K at this;rw[gR0 (by rw[lM0];exact hi'),lM0] at this;exact this
  rw[gM0] at e2;cases q:fr[i-xs.length]? with
  |none=>rw[q] at e2;cases e2
  |some j=>
   rw[q] at e2;have e3:(σ[j]?).join=some v:=Option.some.inj e2;have e4:σ[j]? =some (some v):=by
    cases z:σ[j]? with
    |none=>rw[z] at e3;cases e3
    |some u=>rw[z] at e3;rw[show u=some v from e3]
   obtain⟨y,hy,hyf⟩:=C.fro j (gI0 q);have ex:x=y:=by
    have h1':(a1c X.N xs fr)[i]? =some x:=h1;unfold a1c at h1';rw[gR0 hi',gM0,q] at h1';have h5:X.N.getD j ""=x:=Option.some.inj h1';rw[<-h5,List.getD_eq_getElem?_getD,hy]
    rfl
   subst ex;obtain⟨m,_,hl⟩:=I.loc;have kf:=C.free _ (a1e hyf) rfl;rw[<-ho] at kf;have vis:Vis X.env.scope x:=by
    rcases kf with z |z
    ·exact .inr (.inl z)
    ·exact .inr (.inr z)
   obtain⟨u,r,l⟩:=hl j x v hy e4 vis;refine⟨u,r,.inr ⟨a2Y hyf,?_⟩⟩;rcases l with ⟨z,_⟩ |⟨_,c,hc,hcell⟩
   ·have z':X.env.scope.names.lookup x=some .local:=z
    rcases kf with w |w
    ·rw[z'] at w;cases w
    ·rw[z'] at w;cases w
   ·obtain⟨c',hc'⟩:=a4i (env:=X.env) scope.names [] x (.inl (a1e hyf))
    have e5:=sub x c' hc';rw[hc] at e5;cases e5;refine⟨c,hc',?_⟩;obtain⟨o,ho',hd⟩:=hcell;exact⟨o,hk _ _ ho',hd⟩
 ·obtain⟨v,o,ho',hd⟩:=I.cell x c (sub x c h)
  exact⟨v,o,hk _ _ ho',hd⟩
 ·show(a2K xs fr σ).length=(a1c X.N xs fr).length
  unfold a2K a1c;simp
def PIf (X:Cx)(ifs:List Expr)(t:TT):Prop:=
 ∀(U:List (Addr×Obj)) (s:Shared) (σ:St) (H:Hp) (Q:Bool->Hp->Prop),Inv X U σ H s->t σ H Q →
  wpAny (model X.prog X.w) X.A (forIn ifs true fun c r=>if r=true then do let ok <-isTrue c X.env (eval c X.env);pure (ForInStep.yield ok) else pure (ForInStep.yield r)) (TP X U σ Q) X.xe s
def b3y:TT:=fun _ H Q=>Q true H
theorem a1U {X:Cx}:PIf X [] b3y:=fun _ _ σ H Q I h=>wpAny_tests_nil ⟨H,I,h⟩
def a6E (J:It)(g:TG)(tt:TT)(te:TE)(R:Addr->Hp->Prop)(D:Addr)(σ0:St)(H0:Hp):Prop:=
 ∃W:Nat->Nat->St->Hp->Prop,(∃m,W 0 m σ0 H0)/\∀i m σ H,W i m σ H →
  (J.stop i H/\R D H) ∨
  (J.go i H/\∃(N:St->V->Hp->Prop) (M:St->Hp->Prop),(∀σ2 y H4,N σ2 y H4->∃ys,H4 D=some (.lst ys)/\ys.length<sizeLine/\∃m',m'<m/\W (i+1) m' σ2 (upd H4 D (.lst (ys++[y])))) ∧
   (∀σ2 H3,M σ2 H3->∃m',m'<m/\W (i+1) m' σ2 H3) ∧
   ∀x H',J.yld i H x H'->g x σ H' fun σ2 H2=>tt σ2 H2 fun b H3=>if b=true then te σ2 H3 (N σ2) else M σ2 H3)
def b3t (xs:List Str)(fr:List Nat)(wi:TI)(g:TG)(tt:TT)(te:TE):TE:=fun σ H Q=>wi σ H fun J H1=>∀D,H1 D=none->a6E J g tt te (fun D H2=>Q (.ref D) H2) D (a2K xs fr σ) (upd H1 D (.lst []))
def b2C (i:Nat)(xs:List Str)(fr:List Nat)(wi:TI)(g:TG)(tt:TT)(te:TE):TS:=fun E σ H=>wi σ H fun J H1=>∀D,H1 D=none->a6E J g tt te (fun D H2=>E.nx (σ.set i (some (.ref D))) H2) D (a2K xs fr σ) (upd H1 D (.lst []))
theorem a3Q {osc scope:Scope}{N0 xs:List Str}{fr:List Nat}{U:List (Addr×Obj)}{σ:St}{H2:Hp}{s2:Shared}{fp:List Addr}{it:Addr}{tn:Nat->Heap->Prop}{J:It}{elt tg iter:Expr}{ifs:List Expr}{pos:Pos}
  {g:TG} {tt:TT} {te:TE} {E:Vs0} {R:Addr->Hp->Prop} {RR:Value->Addr->Result->Shared->Prop} (C:a3p osc scope N0 xs fr) (ho:X.env.scope=osc) (hN0:X.N=N0) (hc:X.calm=true)
  (hg:∀s H fp,PG (a0J X scope (a1c N0 xs fr) s H fp) tg g) (ht:∀s H fp,PIf (a0J X scope (a1c N0 xs fr) s H fp) ifs tt) (he:∀s H fp,PE (a0J X scope (a1c N0 xs fr) s H fp) elt te)
  (I2:Inv X U σ H2 s2) (T:a8R X.prog X.w X.K tg J fp it tn) (st2:tn 0 s2.heap) (f2:∀b∈fp,a2X X U H2 b)
  (hR:∀D,H2 D=none->a6E J g tt te R D (a2K xs fr σ) (upd H2 D (.lst [])))
  (hRR:∀(D C:Addr) (s':Shared) (H':Hp) (m:Str->Option Value),Inv X U σ H' s'->s'.heap.Ns C m->a2X X U H' C->R D H'->RR (.ref D) C (.ok .next) s') :
  wpAny (model X.prog X.w) X.A (newList []) (fun acc s₃=>wpAny (model X.prog X.w) X.A (newFunctionEnv scope X.env.globals (a2R X.env scope.names) [] X.env.qual none .none (some X.env)) (fun cenv s₄=>
   codeAny (model X.prog X.w) X.A (.compStart (.ListComp elt [⟨tg,iter,ifs,0⟩] scope pos) 0 (.ref it) acc { cenv with scope:=relabel scope X.env }) (RR acc cenv.locals) s₄) E s₃) E s2:=by
 refine wpAny_newObj_type (wpAny_newFunctionEnv C.nocell (by intro y hy;simp at hy) (fun h₁ hns₁ hsb₁=>?_) C.kind)
 dsimp only at hns₁ hsb₁ ⊢
 have I3:Inv X U σ (upd H2 s2.heap.objs.size (.lst [])) { s2 with heap:=s2.heap.push { cls:=.type "list",data:=.seq ([]:List Value).toArray } }:=I2.lnew (its:=[]) (t':=s2.toks) .nil (by simp);have flt:∀b∈fp,b<s2.heap.objs.size:=fun b hb=>by
  obtain⟨o,e,_⟩:=T.obj 0 _ st2 b hb;exact hL0 e
 have f3:∀b∈fp,a2X X U (upd H2 s2.heap.objs.size (.lst [])) b:=fun b hb=>⟨by rw[a0h (nL0 (flt b hb))];exact(f2 b hb).1,(f2 b hb).2⟩;have flt3:∀b∈fp,b<(s2.heap.push { cls:=.type "list",data:=.seq ([]:List Value).toArray }).objs.size:=fun b hb=>by
  rw[Heap.size_push];exact Nat.lt_succ_of_lt (flt b hb)
 obtain⟨W,⟨m0,w0⟩,turn⟩:=hR s2.heap.objs.size I2.fresh;generalize hD:s2.heap.objs.size=D at *;generalize hs3:s2.heap.push { cls:=.type "list",data:=.seq ([]:List Value).toArray }=h3 at *;have up2:∀b o,s2.heap.get? b=some o->h3.get? b=some o:=fun b o e=>by rw[<-hs3];exact hP0 _ e
 have old:∀b o,h3.get? b=some o->h₁.get? b=some o:=fun b o e=>hsb₁.extBut b o (nL0 (hL0 e)) (hP0 _ e);have Ic:=a3X (tk:=s2.toks+([]:List (Str×Value)).length) C ho hN0 I3 f3 flt3 hns₁ old;have st4:tn 0 h₁:=T.keep 0 _ _ st2 fun b hb o e=>old b o (up2 b o e);have stat:∀{H':Hp},(∀b∈fp,H' b=none)->∀b∈fp,a2X (a0J X scope (a1c N0 xs fr) { s2 with heap:=h3 } (upd H2 D (.lst [])) fp) [] H' b:=fun hn b hb=>
  ⟨hn b hb,nL0 (flt3 b hb),fun z=>by
   rcases mK0.mp (I3.stkSub b z) with q |q
   ·exact(f3 b hb).2.1 q
   ·exact(f3 b hb).2.2.1 q,.inl hb,fun x c h=>(Ic.ok.exf b hb).2 x c h,fun p hp=>absurd (show p∈([]:List (Addr×Obj)) from hp) (by simp)⟩
 have fin:∀{σ':St} {H':Hp} {s':Shared},Inv (a0J X scope (a1c N0 xs fr) { s2 with heap:=h3 } (upd H2 D (.lst [])) fp) [] σ' H' s'->R D H'->RR (.ref D) h3.objs.size (.ok .next) s':=fun {σ' H' s'} I' q=>by
  obtain⟨m,hm,_⟩:=I'.loc;refine hRR D h3.objs.size s' H' m (I3.call' I'.os I'.base I'.hok I'.bare fun b hb=>?_) hm (I3.fpOk (nR0 _) I'.free) q;exact⟨(f3 b hb).2.2.2.1,(f3 b hb).2.1,(f3 b hb).2.2.2.2.1,(f3 b hb).2.2.2.2.2⟩
 have loop:codeAny (model X.prog X.w) X.A (.compLoop (.ListComp elt [⟨tg,iter,ifs,0⟩] scope pos) 0 (.ref it) (.ref D) (compEnvC scope (a2R X.env scope.names) h3.objs.size X.env)) (RR (.ref D) h3.objs.size) { s2 with heap:=h₁,toks:=s2.toks+([]:List (Str×Value)).length }:=by
  refine codeAny_loop rfl (fun n s'=>∃i σ' H',Inv (a0J X scope (a1c N0 xs fr) { s2 with heap:=h3 } (upd H2 D (.lst [])) fp) [] σ' H' s'/\tn i s'.heap/\(∀b∈fp,H' b=none)/\W i n σ' H') (fun n s' hI=>?_) m0 ⟨0,_,_,Ic,st4,fun b hb=>(f3 b hb).1,w0⟩;show wpAny _ X.A ((compTurn (.ListComp elt [⟨tg,iter,ifs,0⟩] scope pos) 0 (.ref it) (.ref D) (compEnvC scope (a2R X.env scope.names) h3.objs.size X.env)).onRaise (fun x=>do noteFrame x (compEnvC scope (a2R X.env scope.names) h3.objs.size X.env);theTreesLotGoes x)) _ _ s';refine wpAny_noted ?_;rw[compTurn_list];obtain⟨i,σ',H',I',st',fr',w'⟩:=hI;refine wB0 (wpAny_standAt (wB0 ?_));rcases turn i n σ' H' w' with ⟨stop,q⟩ |⟨go,N,M,hN,hM,step⟩
  ·refine thn (T.done (a0J X scope (a1c N0 xs fr) { s2 with heap:=h3 } (upd H2 D (.lst [])) fp) rfl rfl rfl hc i [] s' σ' H' _ I' (stat fr') st' stop) fun r s4 ⟨hr,I4⟩=>?_
   subst hr;exact wP0 (fin I4 q)
  ·refine thn (T.item (a0J X scope (a1c N0 xs fr) { s2 with heap:=h3 } (upd H2 D (.lst [])) fp) rfl rfl rfl hc i [] s' σ' H' _ I' (stat fr') st' go) fun r s4 ⟨u,hr,h4⟩=>?_
   subst hr;refine wB0 (thn h4 fun _ s5 ⟨x,H5,I5,r5,y5,st5,fr5⟩=>?_);have I5':=I5.pinned (stat fr5) (T.obj _ _ st5);have again:∀{σ7:St} {H7:Hp} {s7:Shared},Inv (a0J X scope (a1c N0 xs fr) { s2 with heap:=h3 } (upd H2 D (.lst [])) fp) ([]++a3T fp s5.heap) σ7 H7 s7->(∃m',m'<n/\W (i+1) m' σ7 H7) →
     ∃m,m<n/\∃i σ' H',Inv (a0J X scope (a1c N0 xs fr) { s2 with heap:=h3 } (upd H2 D (.lst [])) fp) [] σ' H' s7/\tn i s7.heap/\(∀b∈fp,H' b=none)/\W i m σ' H':=fun {σ7 H7 s7} I7 n7=>by
    obtain⟨m',hm,w7⟩:=n7;refine⟨m',hm,i+1,σ7,H7,I7.unpinned,T.keep _ _ _ st5 fun b hb o e=>(I7.pin (b,o) (List.mem_append_right _ (List.mem_append_right _ (a1N hb e)))).1,fun b hb=>?_,w7⟩;obtain⟨o,e,d⟩:=T.obj _ _ st5 b hb;exact(I7.pin (b,o) (List.mem_append_right _ (List.mem_append_right _ (a1N hb e)))).2.1
   refine wB0 (wpAny_mono (hg _ _ _ _ s5 σ' H5 x u _ I5' r5 (step x H5 y5)) (fun _ s6 ⟨σ6,H6,I6,q6⟩=>?_) fun _ _ z=>False.elim z);refine wB0 (wpAny_mono (ht _ _ _ _ s6 σ6 H6 _ I6 q6) (fun ok s7 ⟨H7,I7,q7⟩=>?_) fun _ _ z=>False.elim z);cases ok with
   |false=>
    rw[if_neg bF0] at q7;exact wP0 ⟨rfl,again I7 (hM _ _ q7)⟩
   |true=>
    rw[if_pos rfl] at q7;refine wB0 (wB0 (wpAny_mono (he _ _ _ _ s7 σ6 H7 _ I7 q7) (fun y s8 ⟨v,H8,I8,r8,q8⟩=>?_) fun _ _ z=>False.elim z));obtain⟨ys,eD,hz,q8⟩:=hN _ _ _ q8;refine wB0 (wpAny_mono (a3E (X:=a0J X scope (a1c N0 xs fr) { s2 with heap:=h3 } (upd H2 D (.lst [])) fp) _ s8 σ6 H8 (.ref D) [v] (.ref D) [y] (fun _ H9=>∃m',m'<n/\W (i+1) m' σ6 H9) I8 rfl (.cons r8 .nil) ⟨D,ys,v,rfl,rfl,eD,hz,q8⟩) (fun _ s9 ⟨_,H9,I9,_,q9⟩=>?_) fun _ _ z=>False.elim z);exact wP0 (wP0 ⟨rfl,again I9 q9⟩)
 exact codeAny_compStart_list loop (T.self X.A 0 _ _ _ st4 loop)
variable {osc scope:Scope}{N0 xs:List Str}{fr:List Nat}{elt tg iter:Expr}{ifs:List Expr}{pos:Pos}{wi:TI}{g:TG}{tt:TT}{te:TE}
theorem a2f (C:a3p osc scope N0 xs fr)(ho:X.env.scope=osc)(hN0:X.N=N0)(hc:X.calm=true)(hi:PI X tg iter wi)
  (hg:∀s H fp,PG (a0J X scope (a1c N0 xs fr) s H fp) tg g) (ht:∀s H fp,PIf (a0J X scope (a1c N0 xs fr) s H fp) ifs tt) (he:∀s H fp,PE (a0J X scope (a1c N0 xs fr) s H fp) elt te)
  (hs:∀x,foldedSetIterable iter X.env x=pure x:=by intro _;rfl):PE X (.ListComp elt [⟨tg,iter,ifs,0⟩] scope pos) (b3t xs fr wi g tt te):=by
 intro U s σ H Q I h;rw[eval_ListComp];refine wpAny_comprehension_free (use:=none) rfl hs (a5D (a2C C ho I)) C.kind C.names (thn (hi U s σ H _ I h) fun v s1 h1=>thn h1 fun itv s2 h2=>?_);obtain⟨it,fp,tn,J,H2,e,I2,T,st2,f2,hR⟩:=h2;subst e;refine a3Q C ho hN0 hc hg ht he I2 T st2 f2 hR fun D C s' H' m I' hm fC q=>?_;refine⟨m,hm,fun h' sb=>⟨.ref D,H',?_,rfl,q⟩⟩;exact I'.turned (t':=s'.toks) (fun b o hb e=>(sb.2 b hb).trans e) fC.1 fC.2.1 fC.2.2.2.1 fC.2.2.2.2.1 fC.2.2.2.2.2
theorem b0O {i:Nat}{y:Str}{py spos:Pos}(C:a3p osc scope N0 xs fr)(ho:X.env.scope=osc)(hN0:X.N=N0)(hc:X.calm=true)(hi:PI X tg iter wi)
  (hg:∀s H fp,PG (a0J X scope (a1c N0 xs fr) s H fp) tg g) (ht:∀s H fp,PIf (a0J X scope (a1c N0 xs fr) s H fp) ifs tt) (he:∀s H fp,PE (a0J X scope (a1c N0 xs fr) s H fp) elt te)
  (hN:X.N.Nodup) (hy:X.N[i]? =some y) (hx:Loc X.env.scope y)
  (hsw:swapsWith (.ListComp elt [⟨tg,iter,ifs,0⟩] scope pos) (some (.Name y py)) spos.line X.env=pure true:=by rfl)
  (hf:X.fn y=true\/X.env.scope.names.lookup y=some .local:=by first |exact .inl rfl |exact .inr rfl |assumption)
  (hs:∀x,foldedSetIterable iter X.env x=pure x:=by intro _;rfl):PS X (.Assign [.Name y py] (.ListComp elt [⟨tg,iter,ifs,0⟩] scope pos) spos) (b2C i xs fr wi g tt te):=by
 intro U s σ H D I h;rw[exec_Assign_Name_used _ _ _ _ hsw];refine wB0 (wpAny_standAt (wB0 ?_));show wpAny _ X.A (do let _ <-comprehension (.ListComp elt [⟨tg,iter,ifs,0⟩] scope pos) scope X.env _ (newList []) false (eval iter X.env) (some (assign (.Name y py) X.env))) _ _ s;refine wB0 (wpAny_mono (wpAny_comprehension_free (use:=some (assign (.Name y py) X.env)) (Q:=fun _ s'=>SP X U D .next s') rfl hs (a5D (a2C C ho I)) C.kind C.names
  (thn (hi U s σ H _ I h) fun v s1 h1=>thn h1 fun itv s2 h2=>?_)) (fun _ s' hq=>wP0 (wP0 hq)) fun _ _ e=>e)
 obtain⟨it,fp,tn,J,H2,e,I2,T,st2,f2,hR⟩:=h2;subst e;refine a3Q C ho hN0 hc hg ht he I2 T st2 f2 hR fun Dl C s' H' m I' hm fC q=>?_;refine wpAny_assign_Name (a3w I' hN hy hx (show a0X (.ref Dl) (.ref Dl) from rfl) (fun s3 I3 hsb=>?_) hf);obtain⟨a,sb,ha⟩:=hsb;have hCa:C≠a:=by
  rcases ha with z |z
  ·rw[z];exact fC.2.1
  ·exact fun w=>fC.2.2.2.2.1 y a z w.symm
 refine⟨m,hm.sameBut sb hCa,fun h' sb'=>⟨_,H',?_,q⟩⟩;exact I3.turned (t':=s3.toks) (fun b o hb e=>(sb'.2 b hb).trans e) fC.1 fC.2.1 fC.2.2.2.1 fC.2.2.2.2.1 fC.2.2.2.2.2
end
def Its (x:Str):It:=⟨fun i _=>i<x.cps.size,fun i H v H'=>H'=H/\∃c,x.cps[i]? =some c/\v=.str ⟨#[c]⟩,fun i _=>x.cps.size<=i⟩
theorem a2u (x:Str):strIterType x="str_ascii_iterator"\/strIterType x="str_iterator":=by
 unfold strIterType
 split
 ·exact .inl rfl
 ·exact .inr rfl
theorem a9g {P:Program}{w:World}{K:Fg0}{tg:Expr}(x:Str)(t:Tok)(it:Addr):a8R P w K tg (Its x) [it] it (fun i h=>h.IsStrIter it (strIterType x) x t i) where
 mem:=by simp
 obj:=fun i h st b hb=>by
  have e:b=it:=by simpa using hb
  subst e;obtain⟨o,e,c,d⟩:=st;exact⟨o,e,fun v z=>by rw[d] at z;cases z⟩
 keep:=fun i h h' st k=>by
  obtain⟨o,e,r⟩:=st;exact⟨o,k it (by simp) o e,r⟩
 item:=by
  intro X hP hw hK hc i U s σ H E I hf st hg;subst hP hw hK;have hg':i<x.cps.size:=hg;obtain⟨f0,f1,f2,f3,f4,f5⟩:=hf it (by simp);have key:∀h',h'.IsStrIter it (strIterType x) x t (i+1)->Heap.SameBut it s.heap h'->∃u,some (Value.str ⟨#[x.cps[i]]⟩ s.toks)=some u ∧
   wpAny (model X.prog X.w) X.A (letOwnedTupleGo tg (.ref it) u) (fun _ s2=>∃v H',Inv X U σ H' s2/\a0X v u/\(Its x).yld i H v H'/\s2.heap.IsStrIter it (strIterType x) x t (i+1)/\∀b∈[it],H' b=none) E { s with heap:=h',toks:=s.toks+1 }:=fun h' st' sb=>by
   have I1:Inv X U σ H { s with heap:=h',toks:=s.toks+1 }:=I.turned (t':=s.toks+1) (fun b o hb e=>(sb.2 b hb).trans e) f0 f1 f3 f4 f5;obtain⟨o,e,c,d⟩:=id st';refine⟨_,rfl,b0M (s:={ s with heap:=h',toks:=s.toks+1 }) e c d ?_ ⟨.str ⟨#[x.cps[i]]⟩,H,I1,⟨_,rfl⟩,⟨rfl,_,by simp[hg'],rfl⟩,st',fun b hb=>(hf b hb).1⟩⟩;rcases a2u x with z |z<;>rw[z]<;>decide
  rcases a2u x with z |z
  ·rw[z] at st key
   rw[z];exact wpAny_pyNext_ascii_item st (c:=x.cps[i]) (by simp[hg']) fun h' a b=>key h' a b
  ·rw[z] at st key
   rw[z];exact wpAny_pyNext_wide_item st (c:=x.cps[i]) (by simp[hg']) fun h' a b=>key h' a b
 done:=by
  intro X hP hw hK hc i U s σ H E I hf st hg;subst hP hw hK;have hg':x.cps.size<=i:=hg;obtain⟨f0,f1,f2,f3,f4,f5⟩:=hf it (by simp);have hx:x.cps[i]? =none:=by simp[hg']
  rcases a2u x with z |z
  ·rw[z] at st
   exact wpAny_pyNext_ascii_end (I.ok.hd hc) st hx fun h' eb=>⟨rfl,I.turned (t':=s.toks) (fun b o hb e=>eb b o hb e) f0 f1 f3 f4 f5⟩
  ·rw[z] at st
   exact wpAny_pyNext_wide_end (I.ok.hd hc) st hx fun h' eb=>⟨rfl,I.turned (t':=s.toks) (fun b o hb e=>eb b o hb e) f0 f1 f3 f4 f5⟩
 self:=fun A i s Q E st h=>by
  rcases a2u x with z |z
  ·rw[z] at st
   exact wpAny_pyIter_striter_ascii st h
  ·rw[z] at st
   exact wpAny_pyIter_striter_wide st h
section
variable {X:Cx}{tg:Expr}
def iStr (tl:TE):TI:=fun σ H R=>tl σ H fun x H1=>∃z,x=.str z/\R (Its z) H1
theorem b2r {l:Expr}{tl:TE}(hl:PE X l tl):PI X tg l (iStr tl):=by
 intro U s σ H R I h;refine thn (hl U s σ H _ I h) fun v s1 ⟨x,H1,I1,r1,q1⟩=>?_;obtain⟨z,e,q⟩:=q1;subst e;obtain⟨t,rfl⟩:=r1;refine wpAny_pyIter_strU ?_;refine⟨s1.heap.objs.size,[s1.heap.objs.size],_,_,H1,rfl,I1.kept (t':=s1.toks) fun b o e=>hP0 _ e,a9g z t _,⟨_,hS0 _ rfl,rfl,rfl⟩,fun b hb=>?_,q⟩;have e:b=s1.heap.objs.size:=by simpa using hb
 subst e;exact I1.fpOk (nR0 _) (I1.hok.fresh (nR0 _))
theorem a5S:∀{bs:List Bool} {us:List Value},a1g (bs.map V.bl) us->LSm.BoolsAre us bs
 |[],_,r=>by rw[List.map_nil] at r;cases r;exact .nil
 |b::bs,_,r=>by
  rw[mN0] at r;cases r with
  |cons h t=>
   cases h;exact .cons b (a5S t)
theorem a8U (hc:X.calm=true):a1C X (.builtin "all") (fun xs H Q=>∃(p:Addr) (bs:List Bool),xs=[.ref p]/\SqL X.K H p (bs.map V.bl)/\Q (.bl (bs.all id)) H):=by
 intro U s σ H xs us Q I r h;obtain⟨l,bs,rfl,hq,q⟩:=h;obtain⟨u,rfl,rx⟩:=a2F r;cases rx;obtain⟨vs,r',pl,hz⟩:=I.list hq;have hb:LSm.BoolsAre vs bs:=a5S r';have hl:=pl.isList;have hlt:l<s.heap.objs.size:=by obtain⟨_,e,_⟩:=hl;exact hL0 e
 refine call_all_walk (wpAny_pyIter_list hl ?_);refine⟨s.heap.objs.size,[s.heap.objs.size,l],[s.heap.objs.size],vs.toArray.size,_,_,fun i=>(bs[i]?).getD true,rfl,Walks.list (A:=X.A.in1) (I.ok.hd hc) _ l (nL0 hlt) vs.toArray,
  ⟨⟨_,hS0 _ rfl,rfl,rfl⟩,hl.push _⟩,fun i v s' Q' E' hP hQ=>?_,fun h' tk hk=>?_⟩
 ·obtain⟨b,e,rfl⟩:=hb.get i v (by simpa using hP)
  simp only[e,Option.getD_some] at hQ;exact wpAny_truthy_bool hQ
 ·have e:((List.range vs.toArray.size).all fun i=>(bs[i]?).getD true)=bs.all id:=by
   rw[List.size_toArray,hb.length];exact LSm.range_all bs
  rw[e];exact⟨.bl (bs.all id),H,I.kept (LSm.kept_iter hk),rfl,q⟩
theorem a2e:a1C X (.builtin "isinstance") (fun xs H Q=>∃x n t b,xs=[x,.ty n]/\a5F X.K H x t/\PySem.W.kitOne X.K t (.type n)=some b/\Q (.bl b) H):=by
 intro U s σ H xs us Q I r h;obtain⟨x,n,t,b,rfl,ty,e,q⟩:=h;obtain⟨u,w',rfl,rx,rc⟩:=a7J r
 cases(show w'=Value.type n from rc)
 exact a7D I rx ty e fun tk=>⟨.bl b,H,I.tok tk,rfl,q⟩
end
section
variable {X:Cx}
theorem a4E:SlR X (fun x lo hi H Q=>∃z,x=.str z/\z.length<=sizeLine/\Q (.str (Txt.slice z lo hi)) H):=by
 intro U s σ H x v vl vu lo hi sl Q I rx hs pl pu h;obtain⟨z,rfl,hz,q⟩:=h;obtain⟨t,rfl⟩:=rx;refine⟨"str",_,F.slot_str_getitem.lookup,typeIs_str _ _ _,?_⟩;obtain⟨o,e1,e2,e3⟩:=hs;have fin:∀(l u:Option (Int×Tok)),vl=partValue l->vu=partValue u->l.map (·.1)=lo->u.map (·.1)=hi->wpAny (model X.prog X.w) X.A (getItem (.str z t) (.ref sl)) (EP X U σ Q) X.xe s:=by
  intro l u h1 h2 h3 h4;subst h1 h2 h3 h4;refine wpAny_getItem_str_slice (l:=l) (u:=u) (st:=none) ⟨o,e1,e2,e3⟩ rfl (post_val_or_str ⟨Nat.le_trans (Txt.slice_le z (l.map (·.1)) (u.map (·.1))) hz,fun t' k=>?_⟩);exact⟨.str (Txt.slice z (l.map (·.1)) (u.map (·.1))),H,I.tok k,⟨t',rfl⟩,q⟩
 cases pl with
 |none=>
  cases pu with
  |none=>exact fin none none rfl rfl rfl rfl
  |int j tj=>exact fin none (some (j,tj)) rfl rfl rfl rfl
 |int i ti=>
  cases pu with
  |none=>exact fin (some (i,ti)) none rfl rfl rfl rfl
  |int j tj=>exact fin (some (i,ti)) (some (j,tj)) rfl rfl rfl rfl
end
theorem a4n (x:Str){k:Int}(h0:0<=k)(h1:k<=x.length):(Txt.slice x none (some k)).cps.toList=x.cps.toList.take k.toNat:=by
 have e:Txt.slice x none (some k)=StrLaws.sliceText x none (some k):=rfl;rw[e,StrLaws.sliceText_to ⟨h0,by simpa[Str.length] using h1⟩];simp
theorem a6G (x:Str){k:Int}(h0:0<=k)(h1:k<=x.length):(Txt.slice x (some k) none).cps.toList=x.cps.toList.drop k.toNat:=by
 have e:Txt.slice x (some k) none=StrLaws.sliceText x (some k) none:=rfl;rw[e,StrLaws.sliceText_from ⟨h0,by simpa[Str.length] using h1⟩]
 show(((x.cps.toList.drop k.toNat).take ((x.cps.toList.length:Int)-k).toNat).toArray).toList=_
 rw[List.toList_toArray];refine List.take_of_length_le ?_;rw[List.length_drop]
 omega
theorem a1O {J:It}{g:TG}{te:TE}{R:Addr->Hp->Prop}{D:Addr}{σ0:St}{H0:Hp}(n:Nat)(ev:Nat->V)(Pv:Nat->St->Hp->Prop)(hn:n<=sizeLine)(h0:Pv 0 σ0 H0)(hD0:H0 D=some (.lst []))
  (hs:∀i σ H,i<n->Pv i σ H->H D=some (.lst ((List.range i).map ev))->J.go i H/\∀x H',J.yld i H x H'->g x σ H' fun σ2 H2=>te σ2 H2 fun y H4=>y=ev i/\H4 D=some (.lst ((List.range i).map ev))/\Pv (i+1) σ2 (upd H4 D (.lst ((List.range (i+1)).map ev))))
  (hd:∀σ H,Pv n σ H->H D=some (.lst ((List.range n).map ev))->J.stop n H/\R D H):a6E J g b3y te R D σ0 H0:=by
 refine⟨fun i m σ H=>m=n-i/\i<=n/\Pv i σ H/\H D=some (.lst ((List.range i).map ev)),⟨n,by omega,zL0 _,h0,hD0⟩,?_⟩;rintro i m σ H ⟨rfl,hi,p,hD⟩
 by_cases hlt:i<n
 ·obtain⟨go,st⟩:=hs i σ H hlt p hD
  refine .inr ⟨go,fun σ2 y H4=>y=ev i/\H4 D=some (.lst ((List.range i).map ev))/\Pv (i+1) σ2 (upd H4 D (.lst ((List.range (i+1)).map ev))),fun _ _=>False,?_,fun _ _ z=>z.elim,st⟩;rintro σ2 y H4 ⟨rfl,e,p'⟩;refine⟨_,e,by simp;omega,n-(i+1),by omega,rfl,hlt,?_,?_⟩
  ·rw[List.range_succ,mA0] at p'
   exact p'
  ·rw[a0c,List.range_succ,mA0]
   rfl
 ·have e:i=n:=by omega
  subst e;exact .inl (hd σ H p hD)
theorem a1l {α β:Type}(l:List α)(d:α)(f:α->β):((List.range l.length).map fun i=>f (l.getD i d))=l.map f:=by
 apply List.ext_getElem?;intro i;rw[gM0,gM0]
 by_cases h:i<l.length
 ·rw[List.getElem?_range h,gE0 h]
  simp[List.getD_eq_getElem?_getD,gE0 h]
 ·rw[List.getElem?_eq_none (by simpa using h),List.getElem?_eq_none (by simpa using h)]
  rfl
theorem a0l.upd {H:Hp}{D:Addr}{o:HO}(h:H D=none):a0l H (L2.upd H D o):=fun b u e=>by
 rw[a0h (a0v e h)];exact e
theorem a4K {env:Env}:∀(a b:List Stmt),execs (a++b) env=execs a env >>= fun f=>match f with | .next=>execs b env |f=>pure f
 |[],b=>by
  show execs b env=(pure Flow.next:Sem Flow) >>= _;rw[pure_bind]
 |st::r,b=>by
  rw[List.cons_append,execs_cons,execs_cons,bind_assoc]
  congr
  funext f
  cases f with
  |next=>exact a4K r b
  |ret v=>rw[pure_bind]
  |brk=>rw[pure_bind]
  |cont=>rw[pure_bind]
theorem a8z {X:Cx}{l:List Stmt}(k:Nat){D:a3I}{Pre:St->Hp->Prop}(Mid:St->Hp->Prop)(h1:∃t,PSs X (l.take k) t/\∀σ H,Pre σ H->t { D with nx:=Mid } σ H)(h2:∃t,PSs X (l.drop k) t/\∀σ H,Mid σ H->t D σ H) :
  ∃t,PSs X l t/\∀σ H,Pre σ H->t D σ H:=by
 obtain⟨t1,p1,q1⟩:=h1;obtain⟨t2,p2,q2⟩:=h2;refine⟨fun D' σ H=>D'=D/\Pre σ H,?_,fun σ H p=>⟨rfl,p⟩⟩;rintro U s σ H D' I ⟨rfl,p⟩;have e:execs l X.env=execs (l.take k) X.env >>= fun f=>match f with | .next=>execs (l.drop k) X.env |f=>pure f:=by
  rw[<-a4K,List.take_append_drop]
 rw[e];refine wB0 (thn (p1 U s σ H _ I (q1 σ H p)) fun f s1 z=>?_);cases f with
 |next=>
  obtain⟨σ',H',I',m⟩:=z;exact p2 U s1 σ' H' _ I' (q2 σ' H' m)
 |ret v=>exact wP0 z
 |brk=>exact wP0 z
 |cont=>exact wP0 z
theorem a9o {X:Cx}{l:List Stmt}(k:Nat){D:a3I}{σ0:St}{H0:Hp}(Mid:St->Hp->Prop)(h1:∃t,PSs X (l.take k) t/\t { D with nx:=Mid } σ0 H0)(h2:∃t,PSs X (l.drop k) t/\∀σ H,Mid σ H->t D σ H) :
  ∃t,PSs X l t/\t D σ0 H0:=by
 obtain⟨t1,p1,q1⟩:=h1;obtain⟨t,p,q⟩:=a8z k (Pre:=fun σ H=>σ=σ0/\H=H0) Mid ⟨t1,p1,fun σ H e=>by rw[e.1,e.2];exact q1⟩ h2;exact⟨t,p,q σ0 H0 ⟨rfl,rfl⟩⟩
def a2l (a b:String):Option Bool:=if (Value.type a==Value.type b)=true then some true else if PySem.W.kitMeta b=true then(fastBuiltinMro a).map (·.contains (.type b)) else none
theorem a2o {K:Fg0}{a b:String}:PySem.W.kitOne K (.type a) (.type b)=a2l a b:=rfl
def a3m:List String:=["NoneType","bool","int","str","list","tuple","dict"]
theorem b1c:∀n∈a3m,a2l n "int"=some (n=="int" || n=="bool"):=by decide +kernel
theorem a9J:∀n∈a3m,a2l n "bool"=some (n=="bool"):=by decide +kernel
theorem a7N:∀n∈a3m,a2l n "str"=some (n=="str"):=by decide +kernel
theorem a4B:∀n∈a3m,a2l n "tuple"=some (n=="tuple"):=by decide +kernel
def Is (K:Fg0)(H:Hp)(v:V)(n:String):Prop:=a5F K H v (.type n)/\n∈a3m
theorem Is.non {K:Fg0}{H:Hp}:Is K H .non "NoneType":=⟨.non,by decide⟩
theorem Is.bl {K:Fg0}{H:Hp}{b:Bool}:Is K H (.bl b) "bool":=⟨.bl b,by decide⟩
theorem Is.int {K:Fg0}{H:Hp}{i:Int}:Is K H (.int i) "int":=⟨.int i,by decide⟩
theorem Is.str {K:Fg0}{H:Hp}{x:Str}:Is K H (.str x) "str":=⟨.str x,by decide⟩
theorem Is.lst {K:Fg0}{H:Hp}{a:Addr}{xs:List V}(h:H a=some (.lst xs)):Is K H (.ref a) "list":=⟨.lst h,by decide⟩
theorem Is.tup {K:Fg0}{H:Hp}{a:Addr}{xs:List V}(h:H a=some (.tup xs)):Is K H (.ref a) "tuple":=⟨.tup h,by decide⟩
theorem Is.dK {K:Fg0}{H:Hp}{a:Addr}{kvs:List (Key×V)}(h:H a=some (.dK kvs)):Is K H (.ref a) "dict":=⟨.dK h,by decide⟩
theorem Is.str_of {K:Fg0}{H:Hp}{v:V}(h:Is K H v "str"):∃x,v=.str x:=by
 obtain⟨t,_⟩:=h;generalize e:Value.type "str"=u at t;cases t<;>first |exact⟨_,rfl⟩ |exact absurd (Value.type.inj e) (by decide) |cases e
def a1n (K:Fg0)(x:Str)(st:Stmt):Prop:=∃(f:Addr) (oc:Value) (od:Option Addr) (kV doc pm:Value) (an:Option Addr) (cdv ct:Value) (osl:Array (Option Value)),
 PySem.W.nsIn K mainGlobals x=some (some (.ref f))/\K.lookup f=some ⟨oc,od,.func (PySem.W.fnOf x x (a0P st) (a0A st) (a0f st) .none kV doc pm an cdv ct),osl⟩/\PySem.W.codeIn K cdv x=true/\PySem.W.keepIn K (.ref f)=true
theorem a9l {K:Fg0}{x:Str}{st:Stmt}{f:Addr}{oc:Value}{od an:Option Addr}{osl:Array (Option Value)}{kV doc pm cdv ct:Value}(a:PySem.W.nsIn K mainGlobals x=some (some (.ref f)))
  (l:K.lookup f=some ⟨oc,od,.func (PySem.W.fnOf x x (a0P st) (a0A st) (a0f st) .none kV doc pm an cdv ct),osl⟩) (c:PySem.W.codeIn K cdv x=true) (k:PySem.W.keepIn K (.ref f)=true):a1n K x st:=
 ⟨f,oc,od,kV,doc,pm,an,cdv,ct,osl,a,l,c,k⟩
structure Df (K:Fg0) (mg:Str->Option Value) (x:Str) (st:Stmt) (f:Addr) (fd:FuncData):Prop where
 fn:Fun K x x st f fd
 mg:mg x=some (.ref f)
theorem a1n.df {K:Fg0}{h:Heap}{mg:Str->Option Value}{x:Str}{st:Stmt}(d:a1n K x st)(X:K.In h)(G:h.Ns mainGlobals mg):∃f fd,Df K mg x st f fd:=by
 obtain⟨f,oc,od,kV,doc,pm,an,cdv,ct,osl,a,l,c,k⟩:=d;exact⟨f,_,a8I l c k,PySem.W.mg_of X G a⟩
end L2
namespace PySem.SeqAt
open MeetsSeq
open AutoSeq1 (wpAny_loadPart')
theorem a1G (l:Addr)(es:Array DictEntry)(ep:Nat)(dd:Option Addr)(sl:Array (Option Value))(b:Str)(u:Tok) :
  Meets (Builtin.«dict.__eq__» ⟨[.ref l,.str b u],[]⟩) (fun _ R s=>s.heap.get? l=some { cls:=.type "dict",dict:=dd,data:=.dict es ep,slots:=sl }/\R (.ok (.ret .notImplemented)) s):=
 .of_wp fun prog w A R s h=>by obtain⟨hp,g,d,tk,os⟩:=s;obtain⟨hl,h⟩:=h;have f1:=F.sub_str_dict;wp_walk using wpAny_loadPart' hl;exact⟨_,rfl,h⟩
theorem a1K (b:Str)(u:Tok)(l:Addr)(c:Value)(es:Array DictEntry)(ep:Nat)(dd:Option Addr)(sl:Array (Option Value)) :
  Meets (Builtin.«str.__eq__» ⟨[.str b u,.ref l],[]⟩) (fun _ R s=>s.heap.get? l=some { cls:=c,dict:=dd,data:=.dict es ep,slots:=sl }/\R (.ok (.ret .notImplemented)) s):=
 .of_wp fun prog w A R s h=>by obtain⟨hp,g,d,tk,os⟩:=s;obtain⟨hl,h⟩:=h;wp_walk using wpAny_loadPart' hl,wpAny_load hl;exact⟨_,rfl,h⟩
section
variable {A:Around}{s:Shared}
theorem RcAt.dict_str {l:Addr}{o:Obj}{es:Array DictEntry}{ep:Nat}(b:Str)(u:Tok)(ho:s.heap.get? l=some o)(hc:o.cls=.type "dict")(hd:o.data=.dict es ep)(hu:A.units<cLine):RcAt A s (.ref l) (.str b u) false:=fun prog w E Q h=>by
 obtain⟨cls,dd,data,sl⟩:=o;simp only at hc hd;subst hc hd;exact rc_eq_decline_or (k:=false) ⟨_,ho,rfl⟩ (typeIs_str s b u) (by decide) F.sub_str_dict F.slot_dict_eq F.slot_str_eq_refl
  (fun _ hq=>call_meets F.slot_dict_eq ⟨_,ho,rfl⟩ F.entry_dict_eq (F.args_dict_eq_2 _ _) (a1G l es ep dd sl b u) ⟨ho,hq⟩)
  (fun _ hq=>call_meets F.slot_str_eq_refl (typeIs_str s b u) F.entry_str_eq (F.args_str_eq_2 _ _) (a1K b u l (.type "dict") es ep dd sl) ⟨ho,hq⟩)
  (fun _ hq=>wpAny_of_eq (rfl:isSame (.ref l) (.str b u)=pure false) hq) (.inr hu) h
theorem EqAt.str_dict {l:Addr}{o:Obj}{es:Array DictEntry}{ep:Nat}(b:Str)(u:Tok)(ho:s.heap.get? l=some o)(hc:o.cls=.type "dict")(hd:o.data=.dict es ep)(hu:A.units<cLine):EqAt A s (.str b u) (.ref l) false:=fun prog w E Q h=>by
 obtain⟨cls,dd,data,sl⟩:=o;simp only at hc hd;subst hc hd;unfold eqBool;refine wpAny_holding ?_;refine wpAny_ite_split (fun hab=>absurd (eq_of_beq hab) nofun) (fun _=>?_);refine wB0 (rc_eq_decline_or (k:=false) (typeIs_str s b u) ⟨_,ho,rfl⟩ (by decide) F.sub_dict_str F.slot_str_eq F.slot_dict_eq_refl
  (fun _ hq=>call_meets F.slot_str_eq (typeIs_str s b u) F.entry_str_eq (F.args_str_eq_2 _ _) (a1K b u l (.type "dict") es ep dd sl) ⟨ho,hq⟩)
  (fun _ hq=>call_meets F.slot_dict_eq_refl ⟨_,ho,rfl⟩ F.entry_dict_eq (F.args_dict_eq_2 _ _) (a1G l es ep dd sl b u) ⟨ho,hq⟩)
  (fun _ hq=>wpAny_of_eq (rfl:isSame (.str b u) (.ref l)=pure false) hq) (.inr hu) (wpAny_truthy_bool h))
end
end PySem.SeqAt
namespace L2
open PySem PySem.Spec PyProof.Rows
inductive Dt where
 |non |bl (b:Bool) |int (i:Int) |str (z:Str) |tup (ds:List Dt) |lst (ds:List Dt) |dct
mutual
def Rep (H:Hp):Dt->V->Prop
 | .non,v=>v=.non
 | .bl b,v=>v=.bl b
 | .int i,v=>v=.int i
 | .str z,v=>v=.str z/\z.length<=1000
 | .tup ds,v=>∃a xs,v=.ref a/\H a=some (.tup xs)/\a0V H ds xs
 | .lst ds,v=>∃a xs,v=.ref a/\H a=some (.lst xs)/\a0V H ds xs
 | .dct,v=>∃a kvs,v=.ref a/\H a=some (.dK kvs)
def a0V (H:Hp):List Dt->List V->Prop
 |[],xs=>xs=[]
 |d::ds,xs=>∃v vs,xs=v::vs/\Rep H d v/\a0V H ds vs
end
mutual
theorem Rep.same {H H':Hp}(e:a0l H H'):∀{d:Dt} {v:V},Rep H d v->Rep H' d v
 | .non,v,h=>by unfold Rep at h ⊢;exact h
 | .bl b,v,h=>by unfold Rep at h ⊢;exact h
 | .int i,v,h=>by unfold Rep at h ⊢;exact h
 | .str z,v,h=>by unfold Rep at h ⊢;exact h
 | .tup ds,v,h=>by
  unfold Rep at h ⊢;obtain⟨a,xs,h1,h2,h3⟩:=h;exact⟨a,xs,h1,e _ _ h2,a0V.same e h3⟩
 | .lst ds,v,h=>by
  unfold Rep at h ⊢;obtain⟨a,xs,h1,h2,h3⟩:=h;exact⟨a,xs,h1,e _ _ h2,a0V.same e h3⟩
 | .dct,v,h=>by
  unfold Rep at h ⊢;obtain⟨a,xs,h1,h2⟩:=h;exact⟨a,xs,h1,e _ _ h2⟩
theorem a0V.same {H H':Hp}(e:a0l H H'):∀{ds:List Dt} {vs:List V},a0V H ds vs->a0V H' ds vs
 |[],vs,h=>by unfold a0V at h ⊢;exact h
 |d::ds,vs,h=>by
  unfold a0V at h ⊢;obtain⟨v,ws,h1,h2,h3⟩:=h;exact⟨v,ws,h1,Rep.same e h2,a0V.same e h3⟩
end
def tyD:Dt->String
 | .non=>"NoneType" | .bl _=>"bool" | .int _=>"int" | .str _=>"str" | .tup _=>"tuple" | .lst _=>"list" | .dct=>"dict"
theorem Rep.is {K:Fg0}{H:Hp}:∀{d:Dt} {v:V},Rep H d v->Is K H v (tyD d)
 | .non,v,h=>by unfold Rep at h;subst h;exact .non
 | .bl b,v,h=>by unfold Rep at h;subst h;exact .bl
 | .int i,v,h=>by unfold Rep at h;subst h;exact .int
 | .str z,v,h=>by unfold Rep at h;obtain⟨rfl,_⟩:=h;exact .str
 | .tup ds,v,h=>by unfold Rep at h;obtain⟨a,xs,rfl,h2,_⟩:=h;exact .tup h2
 | .lst ds,v,h=>by unfold Rep at h;obtain⟨a,xs,rfl,h2,_⟩:=h;exact .lst h2
 | .dct,v,h=>by unfold Rep at h;obtain⟨a,xs,rfl,h2⟩:=h;exact .dK h2
theorem a1B {H:Hp}(i:Int):Rep H (.int i) (.int i):=by unfold Rep;rfl
theorem a6B {H:Hp}(b:Bool):Rep H (.bl b) (.bl b):=by unfold Rep;rfl
theorem a4j {H:Hp}:Rep H .non .non:=by unfold Rep;rfl
theorem a0B {H:Hp}{z:Str}(h:z.length<=1000):Rep H (.str z) (.str z):=by unfold Rep;exact⟨rfl,h⟩
theorem a1R {H:Hp}{a:Addr}{xs:List V}{ds:List Dt}(h:H a=some (.tup xs))(r:a0V H ds xs):Rep H (.tup ds) (.ref a):=by unfold Rep;exact⟨a,xs,rfl,h,r⟩
theorem a4h {H:Hp}{a:Addr}{xs:List V}{ds:List Dt}(h:H a=some (.lst xs))(r:a0V H ds xs):Rep H (.lst ds) (.ref a):=by unfold Rep;exact⟨a,xs,rfl,h,r⟩
theorem a5x {H:Hp}{a:Addr}{kvs:List (Key×V)}(h:H a=some (.dK kvs)):Rep H .dct (.ref a):=by unfold Rep;exact⟨a,kvs,rfl,h⟩
theorem a0T {H:Hp}:a0V H [] []:=by unfold a0V;rfl
theorem a0y {H:Hp}{d:Dt}{v:V}{ds:List Dt}{vs:List V}(h:Rep H d v)(r:a0V H ds vs):a0V H (d::ds) (v::vs):=by unfold a0V;exact⟨v,vs,rfl,h,r⟩
theorem a0V.length {H:Hp}:∀{ds:List Dt} {vs:List V},a0V H ds vs->vs.length=ds.length
 |[],vs,h=>by unfold a0V at h;subst h;rfl
 |d::ds,vs,h=>by
  unfold a0V at h;obtain⟨v,ws,rfl,_,h3⟩:=h;rw[List.length_cons,List.length_cons,a0V.length h3]
theorem a0V.get {H:Hp}:∀{ds:List Dt} {vs:List V} {i:Nat} {v:V},a0V H ds vs->vs[i]? =some v->∃d,ds[i]? =some d/\Rep H d v
 |[],vs,i,v,h,e=>by unfold a0V at h;subst h;cases e
 |d::ds,vs,i,v,h,e=>by
  unfold a0V at h;obtain⟨w,ws,rfl,h2,h3⟩:=h;cases i with
  |zero=>
   have e':w=v:=Option.some.inj e;subst e';exact⟨d,rfl,h2⟩
  |succ i=>exact a0V.get (i:=i) h3 e
def a0u:Dt->Str->Bool
 | .str y,z=>y==z
 |_,_=>false
section
variable {X:Cx}{U:List (Addr×Obj)}{σ:St}{H:Hp}{s:Shared}
theorem a6l (hu:X.A.units<cLine):OpR X (compareOp .Eq) (fun x y H Q=>∃d z,Rep H d x/\y=.str z/\Q (.bl (a0u d z)) H):=by
 intro U s σ H x y v u Q I rx ry h;obtain⟨d,z,hd,rfl,q⟩:=h;obtain⟨t,rfl⟩:=ry;cases d with
 |non=>
  unfold Rep at hd;subst hd;exact a1p U s σ H .non (.str z) v _ Q I rx ⟨t,rfl⟩ ⟨rfl,by simpa[a0u] using q⟩
 |bl b=>
  unfold Rep at hd;subst hd;exact a1p U s σ H (.bl b) (.str z) v _ Q I rx ⟨t,rfl⟩ ⟨rfl,by simpa[a0u] using q⟩
 |int i=>
  unfold Rep at hd;subst hd;exact a1p U s σ H (.int i) (.str z) v _ Q I rx ⟨t,rfl⟩ ⟨rfl,by simpa[a0u] using q⟩
 |str y=>
  unfold Rep at hd;obtain⟨rfl,_⟩:=hd;exact a1p U s σ H (.str y) (.str z) v _ Q I rx ⟨t,rfl⟩ ⟨rfl,by rw[a5A];exact q⟩
 |tup ds=>
  unfold Rep at hd;obtain⟨a,xs,rfl,ha,_⟩:=hd;cases rx;obtain⟨its,_,p,_⟩:=I.tuple (SqT.of ha);exact SeqAt.RcAt.tuple_str z t p hu X.prog X.w X.xe _ ⟨.bl false,H,I,rfl,q⟩
 |lst ds=>
  unfold Rep at hd;obtain⟨a,xs,rfl,ha,_⟩:=hd;cases rx;obtain⟨its,_,p,_⟩:=I.list (SqL.of ha);exact SeqAt.RcAt.list_str z t p.isList hu X.prog X.w X.xe _ ⟨.bl false,H,I,rfl,q⟩
 |dct=>
  unfold Rep at hd;obtain⟨a,kvs,rfl,ha⟩:=hd;cases rx;obtain⟨_,_,vs,_,o,es,ep,h1,h2,h3,_⟩:=a8F I.hok ha;exact SeqAt.RcAt.dict_str z t h1 h2.1 h3 hu X.prog X.w X.xe _ ⟨.bl false,H,I,rfl,q⟩
theorem b0a {A:Around}{d:Dt}{x:V}{v:Value}(hu:A.units<cLine)(I:Inv X U σ H s)(hd:Rep H d x)(rx:a0X x v)(z:Str)(t:Tok):SeqAt.EqAt A s (.str z t) v (a0u d z):=by
 cases d with
 |non=>
  unfold Rep at hd;subst hd;cases rx;exact SeqAt.EqAt.str_none z t
 |bl b=>
  unfold Rep at hd;subst hd;cases rx;exact SeqAt.EqAt.str_bool z t b
 |int i=>
  unfold Rep at hd;subst hd;obtain⟨t',rfl⟩:=rx;exact SeqAt.EqAt.str_int z t i t'
 |str y=>
  unfold Rep at hd;obtain⟨rfl,_⟩:=hd;obtain⟨t',rfl⟩:=rx;have e:a0u (.str y) z=(z==y):=by
   show(y==z)=(z==y)
   rw[Bool.eq_iff_iff,beq_iff_eq,beq_iff_eq];exact⟨Eq.symm,Eq.symm⟩
  rw[e];exact SeqAt.EqAt.str_str z t y t'
 |tup ds=>
  unfold Rep at hd;obtain⟨a,xs,rfl,ha,_⟩:=hd;cases rx;obtain⟨its,_,p,_⟩:=I.tuple (SqT.of ha);exact SeqAt.EqAt.str_tuple z t p hu
 |lst ds=>
  unfold Rep at hd;obtain⟨a,xs,rfl,ha,_⟩:=hd;cases rx;obtain⟨its,_,p,_⟩:=I.list (SqL.of ha);exact SeqAt.EqAt.str_list z t p.isList hu
 |dct=>
  unfold Rep at hd;obtain⟨a,kvs,rfl,ha⟩:=hd;cases rx;obtain⟨_,_,vs,_,o,es,ep,h1,h2,h3,_⟩:=a8F I.hok ha;exact SeqAt.EqAt.str_dict z t h1 h2.1 h3 hu
def b1d (d:Dt):Value->Bool
 | .str z _=>a0u d z
 |_=>false
theorem a4m {d:Dt}:∀{zs:List Str} {us:List Value},a1g (zs.map V.str) us->us.any (b1d d)=zs.any (a0u d)
 |[],_,r=>by rw[List.map_nil] at r;cases r;rfl
 |z::zs,_,r=>by
  rw[mN0] at r;cases r with
  |cons h t=>
   obtain⟨t',rfl⟩:=h;rw[List.any_cons,List.any_cons,a4m t]
   rfl
theorem a6k {zs:List Str}{us:List Value}(r:a1g (zs.map V.str) us):∀u∈us,∃z t,u=.str z t:=by
 intro u hu;obtain⟨i,hi,e⟩:=List.getElem_of_mem hu;have hl:=r.length
 have:(zs.map V.str)[i]? =some (.str (zs[i]'(by rw[lM0] at hl;omega))):=by
  rw[gM0,gE0 (by rw[lM0] at hl;omega)]
  rfl
 obtain⟨w,hw,rw'⟩:=r.get this;rw[gE0 hi,e] at hw;cases hw;obtain⟨t,rfl⟩:=rw';exact⟨_,t,rfl⟩
theorem a9X (hu:X.A.units+1<cLine):OpR X (compareOp .In) (fun x y H Q=>∃(d:Dt) (p:Addr) (zs:List Str),Rep H d x/\y=.ref p/\H p=some (.tup (zs.map V.str))/\Q (.bl (zs.any (a0u d))) H):=by
 intro U s σ H x y v u Q I rx ry h;obtain⟨d,p,zs,hd,rfl,hp,q⟩:=h;cases ry;obtain⟨its,r,pl,_⟩:=I.tuple (SqT.of hp);refine SeqAt.in_tupleAt (b1d d) pl (fun w' hw=>?_) ⟨.bl _,H,I,rfl,?_⟩
 ·obtain⟨z,t,rfl⟩:=a6k r w' (by simpa using hw)
  exact b0a (A:=X.A.in1) hu I hd rx z t
 ·rw[show its.toArray.any (b1d d)=its.any (b1d d) by simp,a4m r]
  exact q
theorem a4I:OpR X (compareOp .LtE) (fun x y H Q=>∃i j,x=.str i/\y=.str j/\Q (.bl (!decide (j.cps.toList<i.cps.toList))) H):=by
 intro U s σ H x y v u Q I rx ry h;obtain⟨i,j,rfl,rfl,q⟩:=h;obtain⟨t,rfl⟩:=rx;obtain⟨t',rfl⟩:=ry;exact PySem.P.le_str ⟨.bl _,H,I,rfl,q⟩
end
end L2
namespace My
open PySem L2 PyProof.Rows
theorem sl1:1<=sizeLine:=by decide
theorem sl2:2<=sizeLine:=by decide
theorem sl3:3<=sizeLine:=by decide
theorem sl4:4<=sizeLine:=by decide
theorem sl5:5<=sizeLine:=by decide
theorem sl6:6<=sizeLine:=by decide
theorem sl7:7<=sizeLine:=by decide
theorem sl8:8<=sizeLine:=by decide
theorem sl9:9<=sizeLine:=by decide
theorem sl10:10<=sizeLine:=by decide
theorem sl12:12<=sizeLine:=by decide
theorem sl14:14<=sizeLine:=by decide
theorem pos {j:Int}(h:decide ((0:Int)<j)=true):0<j:=of_decide_eq_true h
def a1E (ns:List Int)(k:Int):Int:=
 if k<ns.length then ns.getD k.toNat 0 else(k * 7919+5+(if 0<ns.length then ns.getD (k%ns.length).toNat 0%2147483647 * 48271 else 0))%2147483647
def a7o (K:Fg0):Sp:=fun vs H Q _=>∃(a:Addr) (ns:List Int) (k:Int),vs=[.ref a,.int k]/\SqL K H a (ns.map V.int)/\0<=k/\k<=1000000/\ns.length<=63/\Q (.int (a1E ns k)) H
def a4d (K:Fg0):Sp:=fun vs H Q _=>∃(v:V) (n:String),vs=[v]/\Is K H v n/\Q (.bl (n=="int")) H
theorem a5t {ns:List Int}{k:Int}(h0:0<=k)(h1:k<ns.length):atI (ns.map V.int) k=some (.int (ns.getD k.toNat 0)):=by
 obtain⟨j,rfl⟩:=Int.eq_ofNat_of_zero_le h0;refine a1P ?_;have hj:j<ns.length:=by omega
 rw[gM0,gE0 hj];simp[List.getD_eq_getElem?_getD,gE0 hj]
theorem boot_isi:bootBuiltins "isinstance"=some (.builtin "isinstance"):=by decide +kernel
theorem boot_int:bootBuiltins "int"=some (.type "int"):=by decide +kernel
theorem boot_bool:bootBuiltins "bool"=some (.type "bool"):=by decide +kernel
theorem boot_str:bootBuiltins "str"=some (.type "str"):=by decide +kernel
theorem boot_list:bootBuiltins "list"=some (.type "list"):=by decide +kernel
theorem boot_tuple:bootBuiltins "tuple"=some (.type "tuple"):=by decide +kernel
theorem boot_dict:bootBuiltins "dict"=some (.type "dict"):=by decide +kernel
theorem boot_ord:bootBuiltins "ord"=some (.builtin "ord"):=by decide +kernel
structure Bl (mg:Str->Option Value):Prop where
 len:mg "len"=none
 isi:mg "isinstance"=none
 int:mg "int"=none
 bool:mg "bool"=none
 str:mg "str"=none
 all:mg "all"=none
 range:mg "range"=none
 abs:mg "abs"=none
 ord:mg "ord"=none
 list:mg "list"=none
 tuple:mg "tuple"=none
 dict:mg "dict"=none
 any:mg "any"=none
 sorted:mg "sorted"=none
 set:mg "set"=none
 enum:mg "enumerate"=none
structure BlK (K:Fg0):Prop where
 len:PySem.W.nsIn K mainGlobals "len"=some none
 isi:PySem.W.nsIn K mainGlobals "isinstance"=some none
 int:PySem.W.nsIn K mainGlobals "int"=some none
 bool:PySem.W.nsIn K mainGlobals "bool"=some none
 str:PySem.W.nsIn K mainGlobals "str"=some none
 all:PySem.W.nsIn K mainGlobals "all"=some none
 range:PySem.W.nsIn K mainGlobals "range"=some none
 abs:PySem.W.nsIn K mainGlobals "abs"=some none
 ord:PySem.W.nsIn K mainGlobals "ord"=some none
 list:PySem.W.nsIn K mainGlobals "list"=some none
 tuple:PySem.W.nsIn K mainGlobals "tuple"=some none
 dict:PySem.W.nsIn K mainGlobals "dict"=some none
 any:PySem.W.nsIn K mainGlobals "any"=some none
 sorted:PySem.W.nsIn K mainGlobals "sorted"=some none
 set:PySem.W.nsIn K mainGlobals "set"=some none
 enum:PySem.W.nsIn K mainGlobals "enumerate"=some none
theorem BlK.bl {K:Fg0}{h:Heap}{mg:Str->Option Value}(b:BlK K)(X:K.In h)(G:h.Ns mainGlobals mg):Bl mg:=
 ⟨PySem.W.mg_none_of X G b.len,PySem.W.mg_none_of X G b.isi,PySem.W.mg_none_of X G b.int,PySem.W.mg_none_of X G b.bool,PySem.W.mg_none_of X G b.str,PySem.W.mg_none_of X G b.all,PySem.W.mg_none_of X G b.range,PySem.W.mg_none_of X G b.abs,PySem.W.mg_none_of X G b.ord,PySem.W.mg_none_of X G b.list,PySem.W.mg_none_of X G b.tuple,PySem.W.mg_none_of X G b.dict,PySem.W.mg_none_of X G b.any,PySem.W.mg_none_of X G b.sorted,PySem.W.mg_none_of X G b.set,PySem.W.mg_none_of X G b.enum⟩
theorem a2H {l:List V}{i:Int}(h0:0<=i)(h1:i<l.length):∃v,atI l i=some v/\v∈l:=by
 obtain⟨j,rfl⟩:=Int.eq_ofNat_of_zero_le h0;have hj:j<l.length:=by omega
 exact⟨l[j],a1P (gE0 hj),gQ0 hj⟩
theorem b1q {l:List Nat}{i:Int}(h0:0<=i)(h1:i<l.length):∃c,atI l i=some c/\c∈l:=by
 obtain⟨j,rfl⟩:=Int.eq_ofNat_of_zero_le h0;have hj:j<l.length:=by omega
 exact⟨l[j],a1P (gE0 hj),gQ0 hj⟩
theorem a3K {b:Bool}{A B:Prop}(h:b=true)(a:A):if b=true then A else B:=by rw[if_pos h];exact a
theorem a2d {b:Bool}{A B:Prop}(h:b=false)(a:B):if b=true then A else B:=by rw[h,if_neg bF0];exact a
theorem a6L {n k:Nat}:decide (V.int (n:Int)=V.int (k:Int))=decide (n=k):=by
 rw[Bool.eq_iff_iff,decide_eq_true_iff,decide_eq_true_iff]
 constructor
 ·intro e;injection e with e;omega
 ·intro e;rw[e]
def b2P (K:Fg0):Sp:=fun vs H Q _=>∃(a:Addr) (ns:List Int),vs=[.ref a]/\SqL K H a (ns.map V.int)/\ns.length<=63/\∀H',Q (.bl true) H'
theorem walk (k:Nat){l:PySem.W.OpenLaw}{q:Program}{loose:List Str}{XP:(Str->Option Value)->Heap->Prop}{YP:World->Heap->Prop}{d:DefRec}{K:Params->Fg0}(hk:a1m k callerA)(hn:l.most=some 63)(hdf:d.params.defaults=[])
  (hY:∀(w:World) (h:Heap),YP w h->(K w.params).In h)
  (F:∀(w:World) (mg:Str->Option Value) (fa:Addr) (h:Heap),(K w.params).In h->h.Ns mainGlobals mg->mg d.name=some (.ref fa) →
   ∃fd:FuncData,(∀(s:Shared) (u:Value),BindsTo s fd ⟨[u],[]⟩ [("_law_script",u)])/\∀base:Heap,(K w.params).In base->base.Ns mainGlobals mg->a0K l.prog w (K w.params) mg base CX0 k fa fd ["_law_script"] (b2P (K w.params))) :
  PySem.W.WalkO q loose XP YP l.row.toRowW d [] (fun f vs=>PySem.call f vs):=
 L2.b0C (n:=63) (k:=k) (x:="_law_script") (CX:=fun _=>CX0) (sp:=fun w=>b2P (K w.params)) hn (by decide) hdf hk hY F (fun _ _ a ns hl _ hS=>⟨a,ns,rfl,hS,hl,fun _=>rfl⟩) fun _ _ _ _ _ z=>z
end My
namespace L2
open PySem PySem.Spec PyProof.Rows
end L2
namespace Nm
open PySem PySem.NumText PySem.W PyProof.Rows
end Nm
namespace L2
open PySem PySem.Spec PyProof.Rows
end L2
namespace L2
open PySem
def Tb (h:Heap)(P:Addr->Prop)(x:Addr)(fl v:Value):Prop:=
 (v=.none/\fl=.none)\/∃T oT ts,v=.ref T/\P T/\T≠x/\h.get? T=some oT/\oT.data=.fields ts/\ts[3]? =some fl
def XAt (h:Heap)(P:Addr->Prop)(x:Addr)(C:Value)(od:Option Addr)(fl:Value):Prop:=
 ∃vs sl v1,h.get? x=some ⟨C,od,.fields vs,sl⟩/\vs[1]? =some v1/\Tb h P x fl v1
structure Nt (P:Addr->Prop) (fr:List Addr) (x:Addr) (h h':Heap):Prop where
 chg:∃ch:List Addr,(∀b∈ch,b=x\/P b/\∃o vs,h.get? b=some o/\o.data=.fields vs)/\∀b o,h.get? b=some o->b∉fr->b∉ch->h'.get? b=some o
 frm:∀b o,h.get? b=some o->b∈fr->∃sl,h'.get? b=some { o with slots:=sl }
 thr:∀b o,h.get? b=some o->∃o',h'.get? b=some o'
theorem Nt.refl {P:Addr->Prop}{fr:List Addr}{x:Addr}{h:Heap}:Nt P fr x h h:=⟨⟨[],(fun _ z=>absurd z (by simp)),fun _ _ e _ _=>e⟩,fun _ o e _=>⟨o.slots,e⟩,fun _ o e=>⟨o,e⟩⟩
section
variable {M:Model}{A:Around}{E:Vs0}{s:Shared}{base:Heap}{env:Env}{outer:List Env}{L x:Addr}{P:Addr->Prop}{C:Value}{od:Option Addr}
theorem a4y {vs:Array Value}{sl:Array (Option Value)}{head:Value}{had:Bool}{Q:Unit->Shared->Prop}(hfr:A.frames=some (env::outer))(hl:s.heap.FunFrames base (env::outer))(hf:env.frame=some L)
  (hx:s.heap.get? x=some ⟨C,od,.fields vs,sl⟩) (hsz:1<vs.size) (hP:∀T,s.heap.objs.size<=T->P T)
  (h:∀h',Nt P ((env::outer).filterMap (·.frame)) x s.heap h'->XAt h' P x C od (rawInt L)->Q () { s with heap:=h' }) :
  wpAny M A (do let a <-frameOf env;let pl <-entryPlaceOf L had;let b <-EntryCells.newEntry head a .none (rawInt L) .none pl;setField (.ref x) 1 b) Q E s:=by
 have nx:x∉(env::outer).filterMap (·.frame):=fun hm=>by
  obtain⟨_,o,ho,hnf⟩:=hl.mem hm;rw[hx] at ho;cases ho;exact hnf vs rfl
 refine wB0 (wpAny_frameOf_fun hfr hl hf fun h1 k1=>?_);refine wB0 (wpAny_entryPlaceOf fun pl hpl=>?_);unfold EntryCells.newEntry newFields;refine wB0 (wpAny_newObj_type ?_ (hpl.sizeOk5 _ _ _ _ _));generalize ho:(⟨.type "traceback",none,.fields ([head,.ref L,.none,rawInt L,.none]++(if pl.isEmpty then List.replicate 6 Value.none else pl)).toArray,#[]⟩:Obj)=ob;have x1:h1.get? x=some ⟨C,od,.fields vs,sl⟩:=(k1.2.1 x nx).trans hx;have x2:(h1.push ob).get? x=some ⟨C,od,.fields vs,sl⟩:=hP0 _ x1;have sz:h1.objs.size=s.heap.objs.size:=k1.1;refine wpAny_setField x2 rfl hsz (h _ ?_ ?_)
 ·have other:∀b o,b≠x->h1.get? b=some o->((h1.push ob).update x (Obj.mapFields (·.setIfInBounds 1 (.ref h1.objs.size)))).get? b=some o:=fun b o hb e=>by
   rw[Heap.get?_update_other _ _ (Ne.symm hb)];exact hP0 _ e
  refine⟨⟨[x],fun b hb=>.inl (mS0.mp hb),fun b o e hb hc=>?_⟩,fun b o e hb=>?_,fun b o e=>?_⟩
  ·exact other b o (fun z=>hc (by rw[z];exact mS0.mpr rfl)) ((k1.2.1 b hb).trans e)
  ·obtain⟨sl',e1⟩:=k1.2.2 b o e
   exact⟨sl',other b _ (fun z=>nx (z▸hb)) e1⟩
  ·by_cases hb:b=x
   ·subst hb
    exact⟨_,Heap.get?_update_self _ x2 rfl⟩
   ·obtain⟨sl',e1⟩:=k1.2.2 b o e
    exact⟨_,other b _ hb e1⟩
 ·have ne:h1.objs.size≠x:=Nat.ne_of_gt (hL0 x1)
  refine⟨_,_,.ref h1.objs.size,Heap.get?_update_self _ x2 rfl,(by show(vs.setIfInBounds 1 _)[1]? =_;simp[hsz]),.inr ⟨h1.objs.size,ob,_,rfl,hP _ (by rw[sz];exact nR0 _),ne,?_,(by rw[<-ho]),?_⟩⟩
  ·rw[Heap.get?_update_other _ _ (Ne.symm ne)]
   exact hS0 h1 (by rw[<-ho];rfl)
  ·first | (simp;done) | (rcases hpl with rfl |⟨_,_,_,_,_,_,_,rfl⟩<;>simp)
theorem Nt.trans {fr:List Addr}{h h1 h2:Heap}(n1:Nt P fr x h h1)(n2:Nt P fr x h1 h2)(fresh:∀b o,h.get? b=some o->b∈fr->∀vs,o.data≠.fields vs):Nt P fr x h h2:=by
 obtain⟨c1,p1,k1⟩:=n1.chg;obtain⟨c2,p2,k2⟩:=n2.chg;refine⟨⟨c1++c2.filter (fun b=>(h.get? b).isSome),fun b hb=>?_,fun b o e hb hc=>?_⟩,fun b o e hb=>?_,fun b o e=>?_⟩
 ·rcases List.mem_append.mp hb with z |z
  ·exact p1 b z
  ·obtain⟨z1,z2⟩:=List.mem_filter.mp z
   by_cases hb1:b∈c1
   ·exact p1 b hb1
   rcases p2 b z1 with q |⟨q,o1,vs,e1,d1⟩
   ·exact .inl q
   ·refine .inr ⟨q,?_⟩
    cases g:h.get? b with
    |none=>rw[g] at z2;cases z2
    |some o=>
     by_cases hfr:b∈fr
     ·obtain⟨sl,e2⟩:=n1.frm b o g hfr
      rw[e1] at e2;cases e2;exact absurd d1 (fresh b o g hfr vs)
     ·have e2:=k1 b o g hfr hb1
      rw[e1] at e2;cases e2;exact⟨_,vs,rfl,d1⟩
 ·have m1:b∉c1:=fun z=>hc (List.mem_append_left _ z)
  have m2:b∉c2:=fun z=>hc (List.mem_append_right _ (List.mem_filter.mpr ⟨z,by rw[e];rfl⟩));exact k2 b o (k1 b o e hb m1) hb m2
 ·obtain⟨sl,e1⟩:=n1.frm b o e hb
  obtain⟨sl2,e2⟩:=n2.frm _ _ e1 hb;exact⟨sl2,e2⟩
 ·obtain⟨o1,e1⟩:=n1.thr b o e
  exact n2.thr _ _ e1
theorem a5w {Q:Unit->Shared->Prop}(hfr:A.frames=some (env::outer))(hl:s.heap.FunFrames base (env::outer))(hf:env.frame=some L)
  (hx:XAt s.heap P x C od .none) (hP:∀T,s.heap.objs.size<=T->P T)
  (h:∀h',Nt P ((env::outer).filterMap (·.frame)) x s.heap h'->XAt h' P x C od (rawInt L)->Q () { s with heap:=h' }):wpAny M A (noteFrame (.ref x) env) Q E s:=by
 obtain⟨vs,sl,v1,ex,e1,tb⟩:=hx;have hsz:1<vs.size:=(Array.getElem?_eq_some_iff.mp e1).1;unfold noteFrame;simp only[hf];refine wB0 (wpAny_field ex rfl e1 ?_);rcases tb with ⟨rfl,_⟩ |⟨T,oT,ts,rfl,pT,nT,eT,dT,fT⟩
 ·rw[if_neg (by decide)]
  exact a4y hfr hl hf ex hsz hP h
 ·rw[if_pos (show(Value.ref T != Value.none)=true from by simp)]
  refine wB0 (wpAny_field eT dT fT ?_);rw[if_neg (show ¬((Value.none==rawInt L)=true) from by simp[rawInt])];refine wB0 (wpAny_setField eT dT (Array.getElem?_eq_some_iff.mp fT).1 ?_);have oth:∀b,b≠T->(s.heap.update T (Obj.mapFields (·.setIfInBounds 3 Value.none))).get? b=s.heap.get? b:=fun b hb=>Heap.get?_update_other _ _ (Ne.symm hb);have nrec:∀b o,s.heap.get? b=some o->(∀vs,o.data≠.fields vs)->b≠T:=fun b o hb hn q=>by
   rw[q,eT] at hb;cases hb;exact hn ts dT
  have hl':=hl.of_keeps (h':=s.heap.update T (Obj.mapFields (·.setIfInBounds 3 Value.none))) fun b o hb hn=>⟨o,(oth b (nrec b o hb hn)).trans hb,rfl⟩;have frn:∀b o,s.heap.get? b=some o->b∈(env::outer).filterMap (·.frame)->∀vs,o.data≠.fields vs:=fun b o e hb=>by
   obtain⟨_,o',ho',hn⟩:=hl.mem hb;rw[e] at ho';cases ho';exact hn
  have N1:Nt P ((env::outer).filterMap (·.frame)) x s.heap (s.heap.update T (Obj.mapFields (·.setIfInBounds 3 Value.none))):=by
   refine⟨⟨[T],fun b hb=>.inr ?_,fun b o e _ hc=>?_⟩,fun b o e hb=>⟨o.slots,?_⟩,fun b o e=>?_⟩
   ·rw[mS0.mp hb]
    exact⟨pT,oT,ts,eT,dT⟩
   ·exact(oth b fun z=>hc (by rw[z];exact mS0.mpr rfl)).trans e
   ·exact(oth b (nrec b o e (frn b o e hb))).trans e
   ·by_cases hb:b=T
    ·rw[hb]
     exact⟨_,Heap.get?_update_self _ eT (Obj.isFreed_of_fields (Obj.data_mapFields dT _))⟩
    ·exact⟨o,(oth b hb).trans e⟩
  refine a4y (s:={ s with heap:=s.heap.update T (Obj.mapFields (·.setIfInBounds 3 Value.none)) }) hfr hl' hf ((oth x (Ne.symm nT)).trans ex) hsz (fun T' hT'=>hP T' (by rw[<-Heap.size_after_update s.heap T];exact hT')) fun h' n' x'=>h h' (N1.trans n' frn) x'
theorem a4p {fl:Value}{fr:List Addr}{Q:Unit->Shared->Prop}(hx:XAt s.heap P x C od fl)(frn:∀b o,s.heap.get? b=some o->b∈fr->∀vs,o.data≠.fields vs)
  (h:∀h',Nt P fr x s.heap h'->XAt h' P x C od .none->Q () { s with heap:=h' }):wpAny M A (setFlight (.ref x) none) Q E s:=by
 obtain⟨vs,sl,v1,ex,e1,tb⟩:=hx;unfold setFlight;refine wB0 (wpAny_field ex rfl e1 ?_);rcases tb with ⟨rfl,_⟩ |⟨T,oT,ts,rfl,pT,nT,eT,dT,fT⟩
 ·rw[if_neg (by decide)]
  exact wP0 (h s.heap .refl ⟨vs,sl,_,ex,e1,.inl ⟨rfl,rfl⟩⟩)
 ·rw[if_pos (show(Value.ref T != Value.none)=true from by simp)]
  refine wpAny_setField eT dT (Array.getElem?_eq_some_iff.mp fT).1 (h _ ?_ ?_)
  ·refine⟨⟨[T],fun b hb=>.inr ?_,fun b o e _ hc=>?_⟩,fun b o e hb=>⟨o.slots,?_⟩,fun b o e=>?_⟩
   ·rw[mS0.mp hb]
    exact⟨pT,oT,ts,eT,dT⟩
   ·rw[Heap.get?_update_other _ _ fun z=>hc (by rw[z];exact mS0.mpr rfl)]
    exact e
   ·rw[Heap.get?_update_other _ _ fun z=>?_]
    ·exact e
    ·subst z
     rw[eT] at e;cases e;exact frn T oT eT hb ts dT
   ·by_cases hb:b=T
    ·rw[hb]
     exact⟨_,Heap.get?_update_self _ eT (Obj.isFreed_of_fields (Obj.data_mapFields dT _))⟩
    ·exact⟨o,by rw[Heap.get?_update_other _ _ (Ne.symm hb)];exact e⟩
  ·refine⟨vs,sl,.ref T,by rw[Heap.get?_update_other _ _ nT];exact ex,e1,.inr ⟨T,_,_,rfl,pT,nT,Heap.get?_update_self _ eT (Obj.isFreed_of_fields (Obj.data_mapFields dT _)),Obj.data_mapFields dT _,?_⟩⟩
   have:=(Array.getElem?_eq_some_iff.mp fT).1
   simp[this]
theorem a9b {Q:Unit->Shared->Prop}(hfr:A.frames=some (env::outer))(hl:s.heap.FunFrames base (env::outer))(hf:env.frame=some L)
  (hx:XAt s.heap P x C od .none) (hP:∀T,s.heap.objs.size<=T->P T)
  (h:∀h',Nt P ((env::outer).filterMap (·.frame)) x s.heap h'->XAt h' P x C od .none->Q () { s with heap:=h' }):wpAny M A (leaving env (.ref x)) Q E s:=by
 have frn:∀b o,s.heap.get? b=some o->b∈(env::outer).filterMap (·.frame)->∀vs,o.data≠.fields vs:=fun b o e hb=>by
  obtain⟨_,o',ho',hn⟩:=hl.mem hb;rw[e] at ho';cases ho';exact hn
 unfold leaving;refine wB0 (a5w hfr hl hf hx hP fun h1 n1 x1=>?_);refine a4p (s:={ s with heap:=h1 }) (fr:=(env::outer).filterMap (·.frame)) x1 (fun b o e hb=>?_) fun h2 n2 x2=>h h2 (n1.trans n2 frn) x2;obtain⟨_,o',ho',hn⟩:=hl.mem hb;obtain⟨sl,e1⟩:=n1.frm b o' ho' hb;have e':h1.get? b=some o:=e;rw[e1] at e';cases e';exact hn
end
end L2
namespace L2
open PySem PySem.Spec PyProof.Rows
theorem Tb.imp {h:Heap}{P P':Addr->Prop}{x:Addr}{fl v:Value}(t:Tb h P x fl v)(k:∀b,P b->P' b):Tb h P' x fl v:=by
 rcases t with z |⟨T,oT,ts,a,b,c⟩
 ·exact .inl z
 ·exact .inr ⟨T,oT,ts,a,k T b,c⟩
theorem XAt.imp {h:Heap}{P P':Addr->Prop}{x:Addr}{C:Value}{od:Option Addr}{fl:Value}(t:XAt h P x C od fl)(k:∀b,P b->P' b):XAt h P' x C od fl:=by
 obtain⟨vs,sl,v1,a,b,c⟩:=t;exact⟨vs,sl,v1,a,b,c.imp k⟩
structure Our (X:Cx) (U:List (Addr×Obj)) (H:Hp) (b:Addr):Prop where
 new:X.s₀.heap.objs.size<=b
 loc:b≠X.env.locals
 cel:∀y c,X.env.cells.lookup y=some c->c≠b
 pin:∀p∈X.pn++U,p.1≠b
 unt:H b=none
section
variable {X:Cx}{U:List (Addr×Obj)}{σ:St}{H H':Hp}{s s':Shared}{x b:Addr}{C:Value}{od:Option Addr}
theorem Inv.our' (I:Inv X U σ H s)(h:s.heap.objs.size<=b)(hn:H' b=none):Our X U H' b:=by
 have lt:∀c o,s.heap.get? c=some o->c≠b:=fun c o e z=>by
  subst z;exact absurd (Nat.lt_of_lt_of_le (hL0 e) h) (Nat.lt_irrefl _)
 refine⟨Nat.le_trans I.sz h,fun z=>?_,fun y c e=>?_,fun p hp=>?_,hn⟩
 ·obtain⟨m,⟨o,_,_,ho,_⟩,_⟩:=I.loc
  exact lt _ o ho z.symm
 ·obtain⟨v,o,ho,_⟩:=I.cell y c e
  exact lt c o ho
 ·exact lt p.1 _ (I.pin p hp).1
theorem Inv.our (I:Inv X U σ H s)(h:s.heap.objs.size<=b):Our X U H b:=I.our' h (I.hok.fresh h)
theorem Inv.noted {h':Heap}(I:Inv X U σ H s)(hx:Our X U H x)(n:Nt (Our X U H) (frs X.stack) x s.heap h'):Inv X U σ H { s with heap:=h' }:=by
 obtain⟨ch,pc,kc⟩:=n.chg;have oc:∀b∈ch,Our X U H b:=fun b hb=>by
  rcases pc b hb with z |z
  ·rw[z];exact hx
  ·exact z.1
 have nfs:∀b,b≠X.env.locals->b∉X.fs->b∉frs X.stack:=fun b h1 h2 z=>by
  rcases mK0.mp (I.stkSub b z) with q |q
  ·exact h1 q
  ·exact h2 q
 refine I.step (g':=s.gens) (d':=s.drawn) (t':=s.toks) (ch:=ch) (fun b hb=>⟨.inr (oc b hb).new,(oc b hb).loc,(oc b hb).cel,(oc b hb).pin⟩) (fun b o h1 h2 h3 e _=>kc b o e (nfs b h1 h2) h3) (fun b o _ _ h3 e _=>?_) (fun _ _ _ _ z=>z)
  (fun b o _ e=>n.thr b o e) (fun _ _ e=>e) (fun _ _ _ e=>e) (fun b ps e=>⟨#[],by rw[e];simp⟩) (fun m hm=>?_) (fun a o e=>?_) I.bare
 ·by_cases hf:b∈frs X.stack
  ·exact n.frm b o e hf
  ·exact⟨o.slots,kc b o e hf h3⟩
 ·obtain⟨o,es,ep,ho,hd,r⟩:=hm
  by_cases hf:X.env.locals∈frs X.stack
  ·obtain⟨sl,e⟩:=n.frm _ o ho hf
   exact⟨_,es,ep,e,hd,r⟩
  ·exact⟨o,es,ep,kc _ o ho hf (fun z=>(oc _ z).loc rfl),hd,r⟩
 ·refine(I.hok a o e).stay (fun c u hc q=>kc c u q ?_ ?_) (fun _ q=>q) fun _ _ q=>q
  ·intro z
   have:=I.stkFree c z
   rcases hc with rfl |hc
   ·rw[this] at e;cases e
   ·rw[this] at hc;cases hc
  ·intro z
   have:=(oc c z).unt
   rcases hc with rfl |hc
   ·rw[this] at e;cases e
   ·rw[this] at hc;cases hc
theorem Inv.leave {M:Model}{E:Vs0}{Q:Unit->Shared->Prop}(I:Inv X U σ H s)(hst:X.stack=X.env::X.outer)(hf:X.env.frame=some X.env.locals)(hx:Our X U H x)(xa:XAt s.heap (Our X U H) x C od .none)
  (h:∀s',Inv X U σ H s'->XAt s'.heap (Our X U H) x C od .none->Q () s'):wpAny M X.A (leaving X.env (.ref x)) Q E s:=
 a9b (base:=X.base) (by rw[I.ok.frames,hst]) (by rw[<-hst];exact I.stack) hf xa (fun T hT=>I.our hT) fun h' n xa'=>h _ (I.noted hx (by rw[hst];exact n)) xa'
end
def CX1 (P:Program)(w:World):CXT:=fun outer H s E e s'=>∃x C od H',e=.ref x/\s'.os=s.os/\AllBare s'.gens/\Un (frs outer) [] H H' s.heap s'.heap/\HOk P w H' s'.heap/\s.heap.objs.size<=x/\H' x=none ∧
 XAt s'.heap (fun T=>s.heap.objs.size<=T/\H' T=none) x C od .none/\E C od H'
abbrev XS:=Value->Option Addr->St->Hp->Prop
def a5o (X:Cx)(E:XS):Prop:=∀(U:List (Addr×Obj)) (σ:St) (H:Hp) (s:Shared) (x:Addr) (C:Value) (od:Option Addr),Inv X U σ H s->Our X U H x->XAt s.heap (Our X U H) x C od .none->E C od σ H->X.xe (.ref x) s
theorem a1M {P:Program}{w:World}{K:Fg0}{mg:Str->Option Value}{base:Heap}{N:List Str}{qual:Str}{scope:Scope}{f:Addr}{cd:Value}{A:Around}{outer:List Env}{s₀:Shared}{H₀:Hp}{E:XK} :
  a5o (a5E (CX1 P w) P w K mg base N qual scope f cd A outer s₀ H₀ E) (fun C od _ H=>E C od H):=by
 intro U σ H s x C od I hx xa q;exact I.leave (Q:=fun _ s''=>CX1 P w outer H₀ s₀ E (.ref x) s'') rfl rfl hx xa fun s' I' xa'=>⟨x,C,od,H,rfl,I'.os,I'.bare,I'.base,I'.hok,hx.new,hx.unt,xa'.imp fun T o=>⟨o.new,o.unt⟩,q⟩
theorem a5o.pass {X:Cx}{E:XS}(L:a5o X E){U:List (Addr×Obj)}{σ:St}{H:Hp}{s s':Shared}{e:Value}(I:Inv X U σ H s)(h:CX1 X.prog X.w X.stack H s (fun C od H'=>E C od σ H') e s'):X.xe e s':=by
 obtain⟨x,C,od,H',rfl,os,bare,un,hok,nx,hx,xa,q⟩:=h;have I':Inv X U σ H' s':=I.call' os un hok bare (fun b z=>absurd z (by simp));exact L U σ H' s' x C od I' (I.our' nx hx) (xa.imp fun T z=>I.our' z.1 z.2) q
section
variable {X:Cx}{k:Nat}{f C:Addr}{fd:FuncData}{ps:List Str}{sp:Sp}{dvs:List V}{ds:List Value}{E:XS}{x m:Str}{p pos apos:Pos}{e o:Expr}{es:List Expr}{ta:TE}{t:TA}
theorem b0F {U:List (Addr×Obj)}{σ:St}{H:Hp}{s:Shared}{Q:VK}{us:List Value}{vs:List V}(F:a0K X.prog X.w X.K X.mg X.base (CX1 X.prog X.w) k f fd ps sp)(hr:a1m k X.A)(hb:a1V X.K fd ps ds)(hd:a1g dvs ds)(L:a5o X E)
  (I:Inv X U σ H s) (r:a1g vs us) (h:sp (vs++dvs) H Q (fun C od H'=>E C od σ H')):wpAny (model X.prog X.w) X.A (call (.ref f) us) (EP X U σ Q) X.xe s:=by
 have r2:a1g (vs++dvs) (us++ds):=r.append hd;have hl:(us++ds).length=ps.length:=by rw[<-r2.length];exact F.len _ _ _ _ h
 refine wpAny_call (codeAny_mono (F.run X.A X.stack s H ⟨us,[]⟩ (us++ds) (vs++dvs) Q _ hr I.env0 (hb s us I.kIn hl) r2 h) fun r s' hq=>?_);cases r with
 |error e=>exact L.pass I hq
 |ok fl=>
  cases fl with
  |ret u=>exact I.after hq
  |next=>exact False.elim hq
  |brk=>exact False.elim hq
  |cont=>exact False.elim hq
def b1T (sp:Sp)(dvs:List V)(E:XS)(t:TA):TE:=fun σ H Q=>t σ H fun vs H1=>sp (vs++dvs) H1 Q (fun C od H'=>E C od σ H')
theorem a3g (F:a0K X.prog X.w X.K X.mg X.base (CX1 X.prog X.w) k f fd ps sp)(hr:a1m k X.A)(hg:Gl X x)(hm:X.mg x=some (.ref f))(hk:PySem.W.keepIn X.K (.ref f)=true)(hb:a1V X.K fd ps ds)(hd:a1g dvs ds)(L:a5o X E)
  (ha:PA X (e::es) t) (hdb:(x==("__debug__":Str))=false:=by decide) (he:starEach (e::es) X.env=(false,eval e X.env)::starEach es X.env:=by rfl) (hpl:(backTo pos (starEach es X.env)).any (·.1)=false:=by rfl) :
  PE X (.Call (.Name x p) (e::es) [] pos) (b1T sp dvs E t):=by
 intro U s σ H Q I h;refine wpAny_Call_Name_kw (a2i I hg hm ?_ hdb);refine PySem.W.callWith_K (h₀:=X.base) I.ok.mod.kin hk (thn (ha pos U s σ H _ I h) fun us s1 ⟨vs,H1,I1,r,q⟩=>⟨I1.kIn,?_⟩) he hpl;exact b0F F hr hb hd L I1 r q
end
end L2
namespace L2
open PySem PySem.Spec PyProof.Rows Builtin Builtin.ObjectAttr
abbrev bmV:List Value:=[.type "ValueError",.type "Exception",.type "BaseException",.type "object"]
def a1Z:List Value->Bool
 |[]=>false
 |v::r=>(v::r)==bmV || match v with | .ref _=>a1Z r |_=>false
theorem a1i {X:String}{b:Bool}(hb:bmV.contains (.type X)=b):∀{l:List Value},a1Z l=true->l.contains (.type X)=b
 |[],e=>by cases e
 |v::r,e=>by
  unfold a1Z at e;rcases Bool.or_eq_true_iff.mp e with q |q
  ·rw[beq_iff_eq.mp q];exact hb
  ·cases v with
   |ref a=>
    have q':a1Z r=true:=q;rw[List.contains_cons,a1i hb q']
    rfl
   |_=>exact Bool.noConfusion q
theorem a4a (self:Value):∀{l:List Value},a1Z l=true->refuseLoop self "__setattr__" l=pure ()
 |[],e=>by cases e
 |v::r,e=>by
  unfold a1Z at e;rcases Bool.or_eq_true_iff.mp e with q |q
  ·rw[beq_iff_eq.mp q];exact PySem.F.store_ValueError.passes self
  ·cases v with
   |ref a=>
    rw[refuseLoop_ref];exact a4a self (l:=r) q
   |_=>exact Bool.noConfusion q
structure XCl (K:Fg0) (C:Addr):Prop where
 at_:∃(nm q:Str) (N:Addr) (bs bm:List Value) (sn:List Str) (sub:List Value) (ab:Bool) (col:Option Bool) (dd:Option Addr) (k0 k1 k2 k3 k5:Option Value),K.lookup C=some (excClassObj nm q C N bs bm true sn sub ab col dd k0 k1 k2 k3 k5 "ValueError.__new__")/\a1Z bm=true
 ga:PySem.W.findIn K (.ref C) "__getattribute__"=some (some (.builtin "BaseException.__getattribute__"))
 gx:PySem.W.findIn K (.ref C) "__getattr__"=some none
 sa:PySem.W.findIn K (.ref C) "__setattr__"=some (some (.builtin "object.__setattr__"))
 kp:PySem.W.keepIn K (.ref C)=true
theorem a1S {K:Fg0}{C N:Addr}{nm q:Str}{bs bm:List Value}{sn:List Str}{sub:List Value}{ab:Bool}{col:Option Bool}{dd:Option Addr}{k0 k1 k2 k3 k5:Option Value}
  (l:K.lookup C=some (excClassObj nm q C N bs bm true sn sub ab col dd k0 k1 k2 k3 k5 "ValueError.__new__")) (t:a1Z bm=true) (ga:PySem.W.findIn K (.ref C) "__getattribute__"=some (some (.builtin "BaseException.__getattribute__")))
  (gx:PySem.W.findIn K (.ref C) "__getattr__"=some none) (sa:PySem.W.findIn K (.ref C) "__setattr__"=some (some (.builtin "object.__setattr__"))) (kp:PySem.W.keepIn K (.ref C)=true):XCl K C:=
 ⟨⟨nm,q,N,bs,bm,sn,sub,ab,col,dd,k0,k1,k2,k3,k5,l,t⟩,ga,gx,sa,kp⟩
section
variable {prog:Program}{w:World}{A:Around}{E:Vs0}{h:Heap}{g:Array GenState}{d:Drawn}{t:Nat}{os:OsState}
variable {nm q:Str}{C N:Addr}{bs bm:List Value}{sn:List Str}{sub:List Value}{ab:Bool}{col:Option Bool}{dd:Option Addr}{k0 k1 k2 k3 k5:Option Value}
theorem a7k {M:Model}{rest:List Value}{Q:Unit->Shared->Prop}(tv:a1Z bm=true)(hC:h.get? C=some (excClassObj nm q C N bs bm true sn sub ab col dd k0 k1 k2 k3 k5 "ValueError.__new__"))
  (hq:Q () ⟨h,g,d,t,os⟩):wpAny M A (checkBuiltinCall "ValueError.__new__" ⟨.ref C::rest,[]⟩) Q E ⟨h,g,d,t,os⟩:=by
 have F:=PySem.F.excBase_ValueError;have hc:(Value.ref C::bm).contains (.type "ValueError")=true:=by rw[List.contains_cons,a1i (X:="ValueError") rfl tv];rfl
 have ns:=F.noStar;simp only[checkBuiltinCall,F.newKind,F.newSplit,F.newRow]
 repeat (first |refine wpAny_loadPart_at hC ?_ | (refine wpAny_isSubtype_exc hC ?_;rw[hc]) |refine wpAny_staticBase_exc hC ?_ |refine wpAny_madeBy_exc hC ?_ |simp only[bne_self_eq_false,Bool.false_eq_true,if_false] |wp_step)
 exact hq
abbrev a6R (rest:List Value):Obj:={ cls:=.type "tuple",data:=.seq rest.toArray }
abbrev a2A (C:Addr)(od:Option Addr)(t:Addr):Obj:=⟨.ref C,od,.fields #[.ref t,.none,.none,.none,.bool false,.none],#[]⟩
theorem b4i {R:Result->Shared->Prop}{rest:List Value}(tv:a1Z bm=true)(hC:h.get? C=some (excClassObj nm q C N bs bm true sn sub ab col dd k0 k1 k2 k3 k5 "ValueError.__new__"))
  (hq:R (.ok (.ret (.ref (h.objs.size+1)))) ⟨(h.push (a6R rest)).push (a2A C none h.objs.size),g,d,t,os⟩) (hrest:rest.length<=sizeLine) :
  codeAny (model prog w) A (.builtin "ValueError.__new__" ⟨.ref C::rest,[]⟩) R ⟨h,g,d,t,os⟩:=by
 have F:=PySem.F.excBase_ValueError;have fe:=F.ends;have c1:(Value.ref C::bm).contains (.type "ValueError")=true:=by rw[List.contains_cons,a1i (X:="ValueError") rfl tv];rfl
 have c2:(Value.ref C::bm).contains (.type "AttributeError")=false:=by rw[List.contains_cons,a1i (X:="AttributeError") rfl tv];rfl
 have c3:(Value.ref C::bm).contains (.type "NameError")=false:=by rw[List.contains_cons,a1i (X:="NameError") rfl tv];rfl
 refine codeAny_builtinAt F.entry ?_;unfold Builtin.«BaseException.__new__»;refine PySem.wpAt_bind ?_;show PySem.wpAt _ _ _ (stack >>= _) _ _ _;refine PySem.wpAt_bind (PySem.wpAt_stack fun p below=>PySem.wpAt_of_wpAny ?_)
 wp_walk
 refine PySem.wpAt_of_wpAny ?_;rw[F.owner]
 repeat (first |with_reducible refine wpAny_madeHere_exc F.canon hC ?_ |with_reducible refine wpAny_loadPart_at hC ?_ | (with_reducible refine wpAny_isSubtype_exc hC ?_;first |rw[c1] |rw[c2] |rw[c3]) |wp_step)
 show R _ _;rw[Heap.size_push];exact hq
theorem a6H {rest:List Value}{fI:Addr}{oI:Obj}{Q:Fin->Shared->Prop}(tv:a1Z bm=true)(hC:h.get? C=some (excClassObj nm q C N bs bm true sn sub ab col dd k0 k1 k2 k3 k5 "ValueError.__new__"))
  (hi:PySem.W.Looks (model prog w) h (typeLookup (.ref C) "__init__") (some (.ref fI))) (hf:h.get? fI=some oI) (hfc:oI.cls=.type "function") (hrest:rest.length<=sizeLine)
  (hq:wpAny (model prog w) A (call (.ref fI) (.ref (h.objs.size+1)::rest)) (fun r s'=>r=.none/\Q (.done (.ret (.ref (h.objs.size+1)))) s') E ⟨(h.push (a6R rest)).push (a2A C none h.objs.size),g,d,t,os⟩) :
  wpAny (model prog w) A (Builtin.«type.__call__» ⟨.ref C::rest,[]⟩) Q E ⟨h,g,d,t,os⟩:=by
 have F:=PySem.F.excBase_ValueError
 repeat (first |with_reducible refine wpAny_loadPart_at hC ?_ |with_reducible refine wpAny_madeBy_exc hC ?_ |wp_step)
 refine codeAny_call_builtin_code (Code.quiet_builtin _ F.quiet) (a7k tv hC ?_);refine b4i tv hC ?_ hrest;show wpAny _ _ _ _ _ _;have kp:∀b o,h.get? b=some o->((h.push (a6R rest)).push (a2A C none h.objs.size)).get? b=some o:=fun b o e=>hP0 _ (hP0 _ e);have hg2:((h.push (a6R rest)).push (a2A C none h.objs.size)).get? (h.objs.size+1)=some (a2A C none h.objs.size):=by
  have:=hS0 (h.push (a6R rest)) (o:=a2A C none h.objs.size) rfl
  rwa [Heap.size_push] at this
 have hcC:(Value.ref C::bm).contains (.ref C)=true:=by simp
 unfold isInstance
 repeat (first |with_reducible refine wpAny_loadPart_at hg2 ?_ | (with_reducible refine wpAny_isSubtype_exc (kp _ _ hC) ?_;rw[hcC]) |wp_step)
 show wpAny _ _ (typeLookup (.ref C) _) _ _ _;refine hi _ _ _ _ kp ?_;refine wpAny_holding (wB0 ?_);unfold bindSpecial;refine wB0 (wpAny_typeOf (T:="function") ⟨_,kp _ _ hf,hfc⟩ ?_);rw[if_pos (by decide)];refine wP0 (wB0 (wpAny_mono hq (fun r s' hr=>?_) fun _ _ x=>x));obtain⟨rfl,hQ⟩:=hr
 wp_walk
 exact hQ
theorem b3G {rest:List Value}{fI:Addr}{oI:Obj}{Q:Vs0}(tv:a1Z bm=true)(hC:h.get? C=some (excClassObj nm q C N bs bm true sn sub ab col dd k0 k1 k2 k3 k5 "ValueError.__new__"))
  (hi:PySem.W.Looks (model prog w) h (typeLookup (.ref C) "__init__") (some (.ref fI))) (hf:h.get? fI=some oI) (hfc:oI.cls=.type "function") (hrest:rest.length<=sizeLine)
  (hq:wpAny (model prog w) (A.under (.builtin "type.__call__" ⟨.ref C::rest,[]⟩)) (call (.ref fI) (.ref (h.objs.size+1)::rest)) (fun r s'=>r=.none/\Q (.ref (h.objs.size+1)) s') E ⟨(h.push (a6R rest)).push (a2A C none h.objs.size),g,d,t,os⟩) :
  wpAny (model prog w) A (call (.ref C) rest) Q E ⟨h,g,d,t,os⟩:=by
 have f1:=tc_lookup;have f2:=tc_bind (.ref C);have hT:(⟨h,g,d,t,os⟩:Shared).TypeIs (.ref C) "type":=⟨_,hC,rfl⟩;refine wpAny_call (codeAny_of_tree ?_);show wpAny _ _ (callAny (.ref C) _) _ _ _
 repeat (any_goals (first |assumption |with_reducible refine wpAny_loadPart_at hC ?_ |wp_step))
 refine⟨rfl,?_⟩;exact codeAny_call_builtin_at (Code.quiet_builtin _ (by decide +kernel)) entry_typeCall (wpAny_check_type_call_sub hC (a6H tv hC hi hf hfc hrest hq))
theorem b0d {M:Model}{s:Shared}{env:Env}{x:Sem Value}{Q:Flow->Shared->Prop}(hh:A.handled=none)
  (hx:wpAny M A x (fun v s₁=>∃e C nm q N bs bm sn sub ab col dd k0 k1 k2 k3 k5 od t0,v=.ref e/\s₁.heap.get? C=some (excClassObj nm q C N bs bm true sn sub ab col dd k0 k1 k2 k3 k5 "ValueError.__new__")/\a1Z bm=true/\s₁.heap.get? e=some (a2A C od t0)/\E (.ref e) s₁) E s) :
  wpAny M A (raiseStmt env (some x) none) Q E s:=by
 unfold raiseStmt;refine wB0 (wpAny_mono hx (fun v s₁ h₁=>?_) fun _ _ z=>z);obtain⟨e,C,nm,q,N,bs,bm,sn,sub,ab,col,dd,k0,k1,k2,k3,k5,od,t0,rfl,hC,tv,he,hE⟩:=h₁;obtain⟨hp,g,d,tk,os⟩:=s₁;have hb:(Value.ref C::bm).contains (.type "BaseException")=true:=by rw[List.contains_cons,a1i (X:="BaseException") rfl tv];rfl
 repeat (first |with_reducible refine wpAny_loadPart_at he ?_ |with_reducible refine wpAny_loadPart_at hC ?_ | (with_reducible refine wpAny_isSubtype_exc hC ?_;rw[hb]) |wp_step)
 exact wpAny_raiseNew_none hh hE
end
section
variable {prog:Program}{w:World}{A:Around}{E:Vs0}{s:Shared}{K:Fg0}{x C dx t0:Addr}{name:Str}{v:Value}
theorem XCl.cls (c:XCl K C):∃cd bm,PySem.W.clsIn K C=some cd/\cd.mro=.ref C::bm/\a1Z bm=true/\cd.hasDict=true:=by
 obtain⟨nm,q,N,bs,bm,sn,sub,ab,col,dd,k0,k1,k2,k3,k5,l,tv⟩:=c.at_;have e:PySem.W.clsIn K C=some ⟨nm,bs,.ref C::bm,N,q,true,sn,sub,ab,col,false⟩:=by
  unfold PySem.W.clsIn;rw[l]
 exact⟨_,bm,e,rfl,tv,rfl⟩
theorem b4h {ox:Obj}{od:Option Obj}{tk:Tok}{R:Result->Shared->Prop}(Xk:K.In s.heap)(I:PySem.W.InstAt s.heap x ox C od)(c:XCl K C)(n:PySem.W.findIn K (.ref C) name=some none)
  (h:wpAny (model prog w) A.in1 (storeInOwnDict (.ref x) (.ref C) (.str name tk) name v false)
   (fun fin s'=>match fin with | .done f=>R (.ok f) s' | .again c'=>c'.quiet=true/\codeAny (model prog w) A c' R s') (fun e s'=>R (.error e) s') s) :
  codeAny (model prog w) A (.call (.builtin "object.__setattr__") ⟨[.ref x,.str name tk,v],[]⟩) R s:=by
 have SF:=PySem.F.store_ValueError;obtain⟨cd,bm,hc,hm,tv,_⟩:=c.cls;have sub:PySem.W.Looks (model prog w) s.heap (isInstance (.ref x) (.type "object")) true:=I.type.andThen (PySem.W.looks_mroIn Xk (by
  unfold PySem.W.mroIn;rw[hc,Option.bind_some,hm];show some (List.contains _ _)=_;rw[List.contains_cons,a1i (X:="object") rfl tv]
  rfl))
 refine codeAny_call_builtin SF.slot.plain SF.entry (@PySem.W.check_slot (model prog w) _ _ s "object.__setattr__" "object" "__setattr__" (.ref x) [.str name tk,v] [] _ SF.kind SF.split sub (SF.args (.ref x) (.str name tk) v) ?_);have lm:PySem.W.Looks (model prog w) s.heap (mroOf (.ref C)) cd.mro:=(PySem.W.looks_clsIn Xk hc).andThen .now;rw[PySem.W.osa_eq,refuse_eq];refine wB0 (wB0 (I.type.here (wB0 (lm.here ?_))));rw[hm,refuseLoop_ref,a4a _ tv];refine wP0 (wB0 (I.type.here (wB0 ((PySem.W.looks_findIn Xk n).here (wB0 (PySem.W.Looks.here (r:=none) .now ?_))))));exact h
theorem a9H {Q:Unit->Shared->Prop}(Xk:K.In s.heap)(c:XCl K C)(n:PySem.W.findIn K (.ref C) name=some none)(hx:s.heap.get? x=some (a2A C none t0))
  (hq:∀h' tk',h'.get? x=some (a2A C (some s.heap.objs.size) t0)->h'.Ns1 s.heap.objs.size (fun y=>if y=name then some v else none)->(∀b o,b≠x->s.heap.get? b=some o->h'.get? b=some o)->Q () { s with heap:=h',toks:=tk' }) :
  wpAny (model prog w) A (setAttr (.ref x) name v) Q E s:=by
 obtain⟨h,g,d,t,os⟩:=s;obtain⟨cd,bm,hc,hm,tv,hd⟩:=c.cls;have J:PySem.W.InstAt h x (a2A C none t0) C none:=⟨hx,rfl,rfl,trivial⟩;refine PySem.W.set_plain (s:=⟨h,g,d,t,os⟩) Xk J c.sa (b4h (s:=⟨h,g,d,t+1,os⟩) Xk J c n ?_);refine wB0 (wP0 (wB0 (wB0 (wpAny_loadPart_at hx (wB0 (PySem.W.Looks.here (s:=⟨h,g,d,t+1,os⟩) (PySem.W.looks_clsIn Xk hc) ?_))))));rw[hd];have hx1:(h.push { cls:=.type "dict",data:=.dict #[] }).get? x=some (a2A C none t0):=hP0 _ hx;have hxs:x≠h.objs.size:=nL0 (hL0 hx);refine wB0 (wpAny_alloc' ?_);refine wB0 (wpAny_update' hx1 ?_);refine wP0 ?_;have g1:((h.push { cls:=.type "dict",data:=.dict #[] }).update x fun o=>{ o with dict:=some h.objs.size }).get? h.objs.size=some { cls:=.type "dict",data:=.dict #[] }:=
  (Heap.get?_update_ne _ _ _ _ hxs.symm).trans (Heap.get?_push_at rfl rfl)
 have g2:((h.push { cls:=.type "dict",data:=.dict #[] }).update x fun o=>{ o with dict:=some h.objs.size }).get? x=some (a2A C (some h.objs.size) t0):=Heap.get?_update_self _ hx1 rfl;have gn:((h.push { cls:=.type "dict",data:=.dict #[] }).update x fun o=>{ o with dict:=some h.objs.size }).Ns h.objs.size (fun _=>none):=⟨_,#[],_,g1,rfl,fun e he=>absurd he (by simp),fun _=>rfl⟩;show wpAny _ _ (storeInDict h.objs.size (.str name t) name v) _ _ _;unfold storeInDict newKeyGuard;refine wB0 (wP0 (wB0 (wpAny_nsSet1 (Heap.Ns1.of_empty gn) fun h' n' sb=>?_)));obtain⟨oD,esD,epD,hoD,hdD,hcD⟩:=n'.count (Within.cons name v Within.nil);refine wB0 (wpAny_lookBehind hoD (by rw[hdD];exact pastItsLine_dict (Nat.le_trans hcD (by rw[List.length_cons,List.length_nil,sizeLine_eq];omega))) ?_);refine wP0 (hq h' _ ((sb.2 x hxs).trans g2) n' fun b o hb e=>?_);exact(sb.2 b (nL0 (hL0 e))).trans ((Heap.get?_update_ne _ _ _ _ hb).trans (hP0 _ e))
theorem a9T {Q:Unit->Shared->Prop}{mA:Str->Option Value}{ns:List Str}(Xk:K.In s.heap)(c:XCl K C)(n:PySem.W.findIn K (.ref C) name=some none)(hx:s.heap.get? x=some (a2A C (some dx) t0))(hn:s.heap.Ns1 dx mA)(ne:dx≠x)
  (hw:Within mA ns) (hz:ns.length<=sizeLine)
  (hq:∀h' tk',h'.Ns1 dx (fun y=>if y=name then some v else mA y)->Heap.SameBut dx s.heap h'->Q () { s with heap:=h',toks:=tk' }):wpAny (model prog w) A (setAttr (.ref x) name v) Q E s:=by
 obtain⟨h,g,d,t,os⟩:=s;obtain⟨cd,bm,hc,hm,tv,hd⟩:=c.cls;obtain⟨od,es,ep,eo,_⟩:=id hn;have J:PySem.W.InstAt h x (a2A C (some dx) t0) C (some od):=⟨hx,rfl,rfl,eo⟩;refine PySem.W.set_plain (s:=⟨h,g,d,t,os⟩) Xk J c.sa (b4h (s:=⟨h,g,d,t+1,os⟩) Xk J c n ?_);refine wB0 (wP0 (wB0 (wB0 (wpAny_loadPart_at hx (wB0 (PySem.W.Looks.here (s:=⟨h,g,d,t+1,os⟩) (PySem.W.looks_clsIn Xk hc) ?_))))));rw[hd];refine wP0 (a:=some dx) ?_;show wpAny _ _ (storeInDict dx (.str name t) name v) _ _ _;unfold storeInDict newKeyGuard;refine wB0 (wP0 (wB0 (wpAny_nsSet1 hn fun h' n' sb=>?_)));obtain⟨oD,esD,epD,hoD,hdD,hcD⟩:=n'.count (Within.cons name v hw);refine wB0 (wpAny_lookBehind hoD (by rw[hdD];exact pastItsLine_dict (Nat.le_trans hcD (by rw[List.length_cons];omega))) ?_);exact wP0 (hq h' _ n' sb)
theorem xget {expr:Bool}{vs:Array Value}{sl:Array (Option Value)}{mA:Str->Option Value}{Q:Vs0}(Xk:K.In s.heap)(c:XCl K C)(n:PySem.W.findIn K (.ref C) name=some none)(hx:s.heap.get? x=some ⟨.ref C,some dx,.fields vs,sl⟩)(hn:s.heap.Ns1 dx mA)
  (hv:mA name=some v) (hh:PySem.W.handedIn v=true) (hq:Q v { s with toks:=s.toks+1 }):wpAny (model prog w) A (getAttr (.ref x) name expr) Q E s:=by
 obtain⟨h,g,d,t,os⟩:=s;obtain⟨cd,bm,hc,hm,tv,hd⟩:=c.cls;obtain⟨od,ho,hl⟩:=a5i hn;have J:PySem.W.InstAt h x ⟨.ref C,some dx,.fields vs,sl⟩ C (some od):=⟨hx,rfl,rfl,ho⟩;have hf:PySem.W.findObj K C (some od) name=some (.value v):=by
  unfold PySem.W.findObj;rw[hc,Option.bind_some,n,Option.bind_some]
  show(Option.bind (some none) fun get=>_)=_
  rw[Option.bind_some]
  show(Option.bind (some false) fun data=>_)=_
  rw[Option.bind_some]
  show(Option.bind (PySem.W.ownOf cd (some od) name) fun own=>_)=_
  have e:PySem.W.ownOf cd (some od) name=some (some v):=by
   unfold PySem.W.ownOf;rw[hd,if_pos rfl];show PySem.W.lookIn name od=_;rw[hl,hv]
  rw[e]
  rfl
 have FX:=PySem.F.attr_ValueError;have L0:=J.type (M:=model prog w);have L1:=PySem.W.looks_find (M:=model prog w) Xk J hf;have sub:PySem.W.Looks (model prog w) h (isInstance (.ref x) (.type "BaseException")) true:=L0.andThen (PySem.W.looks_mroIn Xk (by
  unfold PySem.W.mroIn;rw[hc,Option.bind_some,hm];show some (List.contains _ _)=_;rw[List.contains_cons,a1i (X:="BaseException") rfl tv]
  rfl))
 have nq:(onTheHeap (Value.ref C)&&Value.builtin "BaseException.__getattribute__"==Value.builtin "object.__getattribute__")=false:=by
  rw[show(Value.builtin "BaseException.__getattribute__"==Value.builtin "object.__getattribute__")=false from by decide +kernel,Bool.and_false]
 unfold getAttr getAttrBy;refine wB0 (wpAny_mkText (wpAny_holding (wB0 (L0.at (wB0 ((PySem.W.looks_findIn (M:=model prog w) Xk c.ga).at ?_))))));show wpAny _ _ (if _=true then _ else _) _ _ _;rw[nq,if_neg (by decide)];unfold getAttrByItsOwn hookBefore;refine wB0 (PySem.W.Looks.at (t:=if onTheHeap (Value.ref C)=true then typeLookup (.ref C) "__getattr__" else pure none) (r:=none) (PySem.W.looks_findIn (M:=model prog w) Xk c.gx) (wB0 (wpAny_attempt (wpAny_holding ?_))));unfold callGetattribute;rw[show(expr&&onTheHeap (Value.builtin "BaseException.__getattribute__"))=false from Bool.and_false _,if_neg (by decide)];unfold boundAndCalled;rw[FX.ga.bind];refine wB0 (wP0 ?_);show wpAny _ _ (call (.builtin "BaseException.__getattribute__") [.ref x,.str name t]) _ _ _;refine wpAny_call ?_;refine codeAny_call_builtin FX.ga.plain PySem.F.entry_bexc_ga ?_;refine @PySem.W.check_slot (model prog w) _ _ ⟨h,g,d,t+1,os⟩ "BaseException.__getattribute__" "BaseException" "__getattribute__" (.ref x) [.str name t] [] _ (by decide +kernel) (by decide +kernel) sub (PySem.F.args_bexc_ga (.ref x) (.str name t)) ?_;unfold Builtin.«object.__getattribute__»;refine wB0 (wP0 (wB0 (wP0 (wB0 (L0.at (wB0 (L1.at ?_)))))));refine wP0 ?_;show wpAny _ _ (handedOut v) _ _ _;rw[PySem.W.handedOut_of hh];exact wP0 hq
end
def a3Z (x C:Addr)(od:Option Addr)(h:Heap):Prop:=∃t,h.get? x=some (a2A C od t)
def a6i (x C:Addr)(od:Option Addr)(h:Heap):Prop:=∃vs sl,h.get? x=some ⟨.ref C,od,.fields vs,sl⟩
def a5T (dx:Addr)(fs:List (Str×V))(h:Heap):Prop:=∃mA,h.Ns1 dx mA/\(∀f,a5f (fs.lookup f) (mA f))/\Within mA (fs.map (·.1))
section
variable {P:Program}{w:World}{H:Hp}{h:Heap}{x C dx t:Addr}{od:Option Addr}
theorem a4t (e:h.get? x=some (a2A C od t)):a0Z P w H h x (.ext (a3Z x C od)):=⟨⟨t,e⟩,⟨_,e⟩,fun _ _ ⟨t,e⟩ k=>⟨t,k _ e⟩⟩
theorem a7Y {vs:Array Value}{sl:Array (Option Value)}(e:h.get? x=some ⟨.ref C,od,.fields vs,sl⟩):a0Z P w H h x (.ext (a6i x C od)):=⟨⟨vs,sl,e⟩,⟨_,e⟩,fun _ _ ⟨vs,sl,e⟩ k=>⟨vs,sl,k _ e⟩⟩
theorem a8f {fs:List (Str×V)}{mA:Str->Option Value}(n:h.Ns1 dx mA)(r:∀f,a5f (fs.lookup f) (mA f))(wi:Within mA (fs.map (·.1))):a0Z P w H h dx (.ext (a5T dx fs)):=
 ⟨⟨mA,n,r,wi⟩,(let ⟨o,_,_,e,_⟩:=n;⟨o,e⟩),fun _ _ ⟨mA,⟨o,es,ep,e,c⟩,r,wi⟩ k=>⟨mA,⟨o,es,ep,k _ e,c⟩,r,wi⟩⟩
end
def a1k (H:Hp)(x:Addr):Hp:=fun b=>if b=x then none else H b
theorem a0U {H:Hp}{x b:Addr}(h:b≠x):a1k H x b=H b:=if_neg h
theorem a2V {H:Hp}{x:Addr}:a1k H x x=none:=if_pos rfl
section
variable {X:Cx}{U:List (Addr×Obj)}{σ:St}{H:Hp}{s:Shared}{x dx C:Addr}{φ:Heap->Prop}{od:Option Addr}
theorem Inv.drop (I:Inv X U σ H s)(e:H x=some (.ext φ)):Inv X U σ (a1k H x) s:=by
 have ne:∀b u,H b=some u->(∀ψ,u≠.ext ψ)->b≠x:=fun b u q hu z=>by
  rw[z,e] at q;cases q;exact hu φ rfl
 have nn:∀b,H b=none->a1k H x b=none:=fun b q=>by
  by_cases z:b=x
  ·rw[z,a2V]
  ·rw[a0U z,q]
 refine⟨I.ok,I.os,I.bare,⟨I.base.keep,I.base.slot,fun b o q n hx=>nn b (I.base.free b o q n hx),I.base.there,fun b xs q=>?_,fun b o u q=>?_,fun b ps q=>?_⟩,I.loc,I.cell,nn _ I.free,fun y c q=>nn c (I.freeC y c q),fun p hp=>?_,fun a o q=>?_,I.len⟩
 ·have z:=I.base.tups b xs q
  rw[a0U (ne b _ z fun ψ q=>by cases q)];exact z
 ·have z:=I.base.frzs b o u q
  rw[a0U (ne b _ z fun ψ q=>by cases q)];exact z
 ·obtain⟨m,z⟩:=I.base.tbls b ps q
  exact⟨m,by rw[a0U (ne b _ z fun ψ q=>by cases q)];exact z⟩
 ·obtain⟨a,b,c⟩:=I.pin p hp
  exact⟨a,nn _ b,c⟩
 ·have na:a≠x:=fun z=>by rw[z,a2V] at q;cases q
  rw[a0U na] at q;exact(I.hok a o q).stay (fun _ _ _ r=>r) (fun c r=>by rw[a0U (ne c _ r fun ψ q=>by cases q)];exact r) fun c xs r=>by rw[a0U (ne c _ r fun ψ q=>by cases q)];exact r
theorem Inv.track {o:HO}(I:Inv X U σ H s)(hx:Our X U H x)(new:a0Z X.prog X.w (upd H x o) s.heap x o):Inv X U σ (upd H x o) s:=by
 have ne:∀b u,H b=some u->b≠x:=fun b u q z=>by rw[z,hx.unt] at q;cases q
 refine I.step (h':=s.heap) (g':=s.gens) (d':=s.drawn) (t':=s.toks) (ch:=[x]) (fun b hb=>?_) (fun b o _ _ _ e _=>e) (fun b o _ _ _ e _=>⟨o.slots,e⟩) (fun b o hc e n=>?_) (fun b o _ e=>⟨o,e⟩) (fun b xs e=>?_) (fun b u xs e=>?_) (fun b ps e=>⟨#[],?_⟩) (fun m hm=>hm) (fun b u q=>?_) I.bare
 ·rw[mS0.mp hb]
  exact⟨.inr hx.new,hx.loc,hx.cel,hx.pin⟩
 ·rw[a0h fun z=>hc (by rw[z];exact mS0.mpr rfl)]
  exact n
 ·rw[a0h (ne b _ e)];exact e
 ·rw[a0h (ne b _ e)];exact e
 ·rw[a0h (ne b _ e),e];simp
 ·by_cases hb:b=x
  ·subst hb
   rw[a0c] at q;cases q;exact new
  ·rw[a0h hb] at q
   exact(I.hok b u q).stay (fun _ _ _ r=>r) (fun c r=>by rw[a0h (ne c _ r)];exact r) fun c xs r=>by rw[a0h (ne c _ r)];exact r
theorem Inv.xput {ψ χ:Heap->Prop}{h':Heap}{t':Nat}(I:Inv X U σ H s)(e:H x=some (.ext φ))(nd:s.heap.objs.size<=dx)(k:∀b o,b≠x->s.heap.get? b=some o->h'.get? b=some o)
  (n1:∀H',a0Z X.prog X.w H' h' dx (.ext χ)) (n2:∀H',a0Z X.prog X.w H' h' x (.ext ψ)):Inv X U σ (upd (upd H dx (.ext χ)) x (.ext ψ)) { s with heap:=h',toks:=t' }:=by
 have hd:H dx=none:=I.hok.fresh nd;have xd:x≠dx:=fun z=>by rw[z,hd] at e;cases e
 have ne:∀b u,H b=some u->(∀ψ,u≠.ext ψ)->b≠x/\b≠dx:=fun b u q hu=>⟨fun z=>by
  rw[z,e] at q;cases q;exact hu φ rfl,fun z=>by rw[z,hd] at q;cases q⟩
 have same:∀b u,H b=some u->(∀ψ,u≠.ext ψ)->upd (upd H dx (.ext χ)) x (.ext ψ) b=some u:=fun b u q hu=>by
  rw[a0h (ne b u q hu).1,a0h (ne b u q hu).2];exact q
 obtain⟨o2,e2⟩:∃o,h'.get? x=some o:=(n2 H).2.1;refine I.un (t':=t') ⟨fun b o q n _ _=>k b o (fun z=>by rw[z,e] at n;cases n) q,fun b o q n _ _=>⟨o.slots,k b o (fun z=>by rw[z,e] at n;cases n) q⟩,fun b o q n _=>?_,fun b o q _=>?_,fun b xs q=>same b _ q (fun ψ q=>by cases q),fun b o u q=>same b _ q (fun ψ q=>by cases q),fun b ps q=>⟨#[],by rw[same b _ q (fun ψ q=>by cases q)];simp⟩⟩ (fun b u q=>?_)
 ·rw[a0h (fun z=>by rw[z,e] at n;cases n),a0h (nL0 (Nat.lt_of_lt_of_le (hL0 q) nd))]
  exact n
 ·by_cases hb:b=x
  ·rw[hb];exact⟨o2,e2⟩
  ·exact⟨o,k b o hb q⟩
 ·by_cases hb:b=x
  ·subst hb
   rw[a0c] at q;cases q;exact n2 _
  ·rw[a0h hb] at q
   by_cases hb2:b=dx
   ·subst hb2
    rw[a0c] at q;cases q;exact n1 _
   ·rw[a0h hb2] at q
    refine(I.hok b u q).stay (fun c v hc r=>k c v ?_ r) (fun c r=>same c _ r (fun ψ q=>by cases q)) fun c xs r=>same c _ r (fun ψ q=>by cases q);rcases hc with rfl |hc
    ·exact hb
    ·exact(ne c _ hc fun ψ q=>by cases q).1
end
structure XMk (K:Fg0) (C f:Addr):Prop where
 cl:XCl K C
 init:PySem.W.findIn K (.ref C) "__init__"=some (some (.ref f))
 fn:PySem.W.isFn K (.ref f)=true
def b0b (n:Nat)(C:Addr)(sp:Sp)(dvs:List V)(t:TA):TE:=fun σ H Q=>t σ H fun vs H1=>vs.length<=sizeLine/\∀x,n<=x->H1 x=none->sp (.ref x::(vs++dvs)) (upd H1 x (.ext (a3Z x C none))) (fun v H2=>v=.non/\Q (.ref x) H2) E0
def b3a (n:Nat)(K:Fg0)(E:XS)(te:TE):TS:=fun _ σ H=>te σ H fun v H1=>∃x C od,v=.ref x/\H1 x=some (.ext (a3Z x C od))/\n<=x/\XCl K C/\E (.ref C) od σ (a1k H1 x)
section
variable {X:Cx}{k:Nat}{f C:Addr}{fd:FuncData}{ps:List Str}{sp:Sp}{dvs:List V}{ds:List Value}{E:XS}{x m:Str}{p pos apos:Pos}{e o:Expr}{es:List Expr}{ta te:TE}{t:TA}
theorem a4R {U:List (Addr×Obj)}{σ:St}{H:Hp}{s:Shared}{Q:VK}{us:List Value}{vs:List V}(M:XMk X.K C f)(F:a0K X.prog X.w X.K X.mg X.base CX0 k f fd ps sp)(hr:a1m (k+1) X.A)(hb:a1V X.K fd ps ds)(hd:a1g dvs ds)
  (I:Inv X U σ H s) (r:a1g vs us) (hz:vs.length<=sizeLine) (h:∀x,X.s₀.heap.objs.size<=x->H x=none->sp (.ref x::(vs++dvs)) (upd H x (.ext (a3Z x C none))) (fun v H2=>v=.non/\Q (.ref x) H2) E0) :
  wpAny (model X.prog X.w) X.A (call (.ref C) us) (EP X U σ Q) X.xe s:=by
 obtain⟨nm,q,N,bs,bm,sn,sub,ab,col,dd,k0,k1,k2,k3,k5,lk,tv⟩:=M.cl.at_;have ht:PySem.W.typeIn X.K (.ref f)=some (.type "function"):=beq_iff_eq.mp M.fn;obtain⟨oI,hl,hc⟩:=Option.map_eq_some_iff.mp ht;have hq:=h (s.heap.objs.size+1) (Nat.le_succ_of_le I.sz) (I.hok.fresh (Nat.le_succ _));have I1:Inv X U σ H { s with heap:=s.heap.push (a6R us) }:=I.kept (t':=s.toks) fun b u q=>hP0 _ q;have e2:((s.heap.push (a6R us)).push (a2A C none s.heap.objs.size)).get? (s.heap.objs.size+1)=some (a2A C none s.heap.objs.size):=by
  have:=hS0 (s.heap.push (a6R us)) (o:=a2A C none s.heap.objs.size) rfl
  rwa [Heap.size_push] at this
 have I2:Inv X U σ (upd H (s.heap.objs.size+1) (.ext (a3Z (s.heap.objs.size+1) C none))) { s with heap:=(s.heap.push (a6R us)).push (a2A C none s.heap.objs.size) }:=
  I1.laid (a:=s.heap.objs.size+1) (t':=s.toks) (fun b u q=>hP0 _ q) (Nat.le_of_eq (Heap.size_push _ _)) (a4t e2)
 have r2:a1g (V.ref (s.heap.objs.size+1)::(vs++dvs)) (Value.ref (s.heap.objs.size+1)::(us++ds)):=.cons rfl (r.append hd);have hlen:(Value.ref (s.heap.objs.size+1)::us++ds).length=ps.length:=by
  have e:=r2.length;rw[F.len _ _ _ _ hq] at e;exact e.symm
 have go:=F.run (X.A.under (.builtin "type.__call__" ⟨.ref C::us,[]⟩)) X.stack _ _ ⟨Value.ref (s.heap.objs.size+1)::us,[]⟩ (Value.ref (s.heap.objs.size+1)::(us++ds)) _ _ E0 (hr.make C us []) (I2.env0.make C us []) (hb _ (Value.ref (s.heap.objs.size+1)::us) I2.kIn hlen) r2 hq;obtain⟨hh,g,d,tk,os⟩:=s;refine b3G tv (I.kIn _ _ lk) (PySem.W.looks_findIn I.kIn M.init) (I.kIn _ _ hl) hc (by rw[<-r.length];exact hz) (wpAny_call (codeAny_mono go fun r s' hq'=>?_));cases r with
 |error e=>exact False.elim hq'
 |ok fl=>
  cases fl with
  |ret u=>
   obtain⟨v,H',I3,rv,ev,q3⟩:=I2.after hq';subst ev;exact⟨rv,⟨V.ref (hh.objs.size+1),H',I3,rfl,q3⟩⟩
  |next=>exact False.elim hq'
  |brk=>exact False.elim hq'
  |cont=>exact False.elim hq'
theorem a6v (M:XMk X.K C f)(F:a0K X.prog X.w X.K X.mg X.base CX0 k f fd ps sp)(hr:a1m (k+1) X.A)(hg:Gl X x)(hm:X.mg x=some (.ref C))(hb:a1V X.K fd ps ds)(hd:a1g dvs ds)
  (ha:PA X (e::es) t) (hdb:(x==("__debug__":Str))=false:=by decide) (he:starEach (e::es) X.env=(false,eval e X.env)::starEach es X.env:=by rfl) (hpl:(backTo pos (starEach es X.env)).any (·.1)=false:=by rfl) :
  PE X (.Call (.Name x p) (e::es) [] pos) (b0b X.s₀.heap.objs.size C sp dvs t):=by
 intro U s σ H Q I h;refine wpAny_Call_Name_kw (a2i I hg hm ?_ hdb);refine PySem.W.callWith_K (h₀:=X.base) I.ok.mod.kin M.cl.kp (thn (ha pos U s σ H _ I h) fun us s1 ⟨vs,H1,I1,r,q⟩=>⟨I1.kIn,?_⟩) he hpl;exact a4R M F hr hb hd I1 r q.1 q.2
theorem a7d (M:XMk X.K C f)(F:a0K X.prog X.w X.K X.mg X.base CX0 k f fd ps sp)(hr:a1m (k+1) X.A)(hg:Gl X x)(hm:X.mg x=some (.ref C))(hb:a1V X.K fd ps ds)(hd:a1g dvs ds)
  (hdb:(x==("__debug__":Str))=false:=by decide):PE X (.Call (.Name x p) [] [] pos) (b0b X.s₀.heap.objs.size C sp dvs a8Q):=by
 intro U s σ H Q I h;refine wpAny_Call_Name_kw (a2i I hg hm ?_ hdb);exact PySem.W.callWith_K0 I.kIn M.cl.kp (a4R (us:=[]) M F hr hb hd I .nil h.1 h.2)
theorem a2g (hc:X.calm=true)(he:PE X e te)(L:a5o X E):PS X (.Raise (some e) none pos) (b3a X.s₀.heap.objs.size X.K E te):=by
 intro U s σ H D I h;rw[arm_exec_Raise];have go:wpAny (model X.prog X.w) X.A (eval e X.env) (fun v s₁=>∃x C nm q N bs bm sn sub ab col dd k0 k1 k2 k3 k5 od t0,v=.ref x/\s₁.heap.get? C=some (excClassObj nm q C N bs bm true sn sub ab col dd k0 k1 k2 k3 k5 "ValueError.__new__")/\a1Z bm=true/\s₁.heap.get? x=some (a2A C od t0)/\X.xe (.ref x) s₁) X.xe s:=by
  refine thn (he U s σ H _ I h) fun v s1 ⟨y,H1,I1,rv,x,C,od,ey,hx,nx,c,q⟩=>?_;subst ey;obtain rfl:v=Value.ref x:=rv;obtain⟨nm,qn,N,bs,bm,sn,sub,ab,col,dd,k0,k1,k2,k3,k5,lk,tv⟩:=c.at_;obtain⟨⟨t0,ex⟩,_⟩:=I1.hok x _ hx;have I2:=I1.drop hx;have our:Our X U (a1k H1 x) x:=⟨nx,(fun z=>by rw[z,I1.free] at hx;cases hx),(fun y c e z=>by rw[<-z,I1.freeC y c e] at hx;cases hx),(fun p hp z=>by rw[<-z,(I1.pin p hp).2.1] at hx;cases hx),a2V⟩;exact⟨x,C,nm,qn,N,bs,bm,sn,sub,ab,col,dd,k0,k1,k2,k3,k5,od,t0,rfl,I1.kIn _ _ lk,tv,ex,L U σ _ s1 x _ od I2 our ⟨_,_,.none,ex,rfl,.inl ⟨rfl,rfl⟩⟩ q⟩
 first
  |exact wB0 (wpAny_standAt (b0d (I.ok.hd hc) (wB0 (wpAny_mono go (fun v s₃ h₃=>wB0 (wpAny_standAt (wP0 h₃))) fun _ _ z=>z))))
  | (simp only[evalOpt,Option.map];exact wB0 (wpAny_standAt (b0d (I.ok.hd hc) (wB0 (wpAny_mono go (fun v s₃ h₃=>wB0 (wpAny_standAt (wP0 h₃))) fun _ _ z=>z)))))
end
def sX1 (K:Fg0)(ta tv:TE)(f:Str):TS:=fun D σ H=>tv σ H fun y H1=>ta σ H1 fun x H2=>∃a C,x=.ref a/\H2 a=some (.ext (a3Z a C none))/\XCl K C/\a2x K C f ∧
 ∀dx,H2 dx=none->dx≠a->D.nx σ (upd (upd H2 dx (.ext (a5T dx [(f,y)]))) a (.ext (a3Z a C (some dx))))
def sX2 (K:Fg0)(ta tv:TE)(f:Str):TS:=fun D σ H=>tv σ H fun y H1=>ta σ H1 fun x H2=>∃a C dx fs,x=.ref a/\H2 a=some (.ext (a3Z a C (some dx)))/\H2 dx=some (.ext (a5T dx fs))/\dx≠a/\XCl K C/\a2x K C f/\fs.length<1000 ∧
 D.nx σ (upd H2 dx (.ext (a5T dx (a4Y f y fs))))
def b3l (K:Fg0)(ta:TE)(f:Str):TE:=fun σ H Q=>ta σ H fun x H1=>∃a C dx fs v,x=.ref a/\H1 a=some (.ext (a6i a C (some dx)))/\H1 dx=some (.ext (a5T dx fs))/\XCl K C/\a2x K C f/\fs.lookup f=some v/\Q v H1
section
variable {X:Cx}{o e value:Expr}{f:Str}{pos pos' tpos:Pos}{ta tv:TE}
theorem a6d (ha:PE X o ta)(hv:PE X value tv)(hs:swapsWith value (some (.Attribute o f pos')) pos.line X.env=pure false):PS X (.Assign [.Attribute o f pos'] value pos) (sX1 X.K ta tv f):=by
 intro U s σ H D I h;refine plainObj_wpAny_Assign_Attribute (thn (hv U s σ H _ I h) fun u s1 ⟨y,H1,I1,ry,q⟩=>thn (ha U s1 σ H1 _ I1 q) fun ov s2 ⟨x,H2,I2,rx,a,C,ex,ea,c,n,q2⟩=>?_) hs;subst ex;obtain rfl:ov=Value.ref a:=rx;obtain⟨⟨t0,eo⟩,_⟩:=I2.hok a _ ea;refine a9H I2.kIn c n eo fun h' tk' g1 g2 kk=>?_;have hd:H2 s2.heap.objs.size=none:=I2.hok.fresh (nR0 _);have na:s2.heap.objs.size≠a:=fun z=>by rw[<-z,hd] at ea;cases ea
 refine⟨σ,_,I2.xput (t':=tk') ea (nR0 _) kk (fun H'=>a8f (fs:=[(f,y)]) g2 (fun g=>?_) (fun g hg=>?_)) (fun H'=>a4t g1),q2 _ hd na⟩
 ·by_cases z:g=f
  ·subst z
   rw[List.lookup_cons_self];show a5f (some y) (if g=g then some u else none);rw[if_pos rfl];exact ry
  ·have zb:(g==f)=false:=beq_eq_false_iff_ne.mpr z
   simp only[List.lookup,zb];show a5f none (if g=f then some u else none);rw[if_neg z];exact True.intro
 ·by_cases z:g=f
  ·subst z
   simp
  ·exact absurd (if_neg z) hg
theorem a6j (ha:PE X o ta)(hv:PE X value tv)(hs:swapsWith value (some (.Attribute o f pos')) pos.line X.env=pure false):PS X (.Assign [.Attribute o f pos'] value pos) (sX2 X.K ta tv f):=by
 intro U s σ H D I h;refine plainObj_wpAny_Assign_Attribute (thn (hv U s σ H _ I h) fun u s1 ⟨y,H1,I1,ry,q⟩=>thn (ha U s1 σ H1 _ I1 q) fun ov s2 ⟨x,H2,I2,rx,a,C,dx,fs,ex,ea,ed,ne,c,n,hl,q2⟩=>?_) hs;subst ex;obtain rfl:ov=Value.ref a:=rx;obtain⟨⟨t0,eo⟩,_⟩:=I2.hok a _ ea;obtain⟨⟨mA,hn,hr,wi⟩,_⟩:=I2.hok dx _ ed;have hz:(fs.map (·.1)).length<=sizeLine:=by rw[lM0,sizeLine_eq];omega
 refine a9T I2.kIn c n eo hn ne wi hz fun h' tk' g2 sb=>?_;have hd:∃o,h'.get? dx=some o:=let ⟨o,_,_,e',_⟩:=g2;⟨o,e'⟩
 refine⟨σ,_,I2.write (t':=tk') (x:=dx) (e:=dx) (by rw[ed];exact True.intro) (.inl rfl) (fun b q hb z=>(sb.2 b hb).trans z) hd (a8f g2 (fun g=>?_) (fun g hg=>?_)),q2⟩
 ·show a5f ((a4Y f y fs).lookup g) (if g=f then some u else mA g)
  rw[a3q]
  by_cases q:g=f
  ·rw[if_pos q,if_pos q];exact ry
  ·rw[if_neg q,if_neg q];exact hr g
 ·by_cases q:g=f
  ·rw[q];exact(a3F f y fs).1
  ·refine(a3F f y fs).2 g (wi g fun z=>hg ?_)
   show(if g=f then some u else mA g)=none
   rw[if_neg q];exact z
theorem a3H (he:PE X e ta)(hb:attributeBase e f X.env (eval e X.env)=eval e X.env):PE X (.Attribute e f pos) (b3l X.K ta f):=by
 intro U s σ H Q I h;refine b1z hb (thn (he U s σ H _ I h) fun u s1 ⟨x,H1,I1,rx,a,C,dx,fs,v,ex,ea,ed,c,n,l,q⟩=>?_);subst ex;obtain rfl:u=Value.ref a:=rx;obtain⟨⟨vs,sl,eo⟩,_⟩:=I1.hok a _ ea;obtain⟨⟨mA,hn,hr,wi⟩,_⟩:=I1.hok dx _ ed;obtain⟨u,hu,ru⟩:=a5f.some_of (v:=v) (o:=mA f) (by rw[<-l];exact hr f);exact xget I1.kIn c n eo hn hu (a8v ru) ⟨v,H1,I1.tok _,ru,q⟩
end
structure BIn (K:Fg0) (B:Addr):Prop where
 sp:PySem.W.specialIn K (.ref B) "__getattribute__"=some (some (.builtin "type.__getattribute__"))
 rd:PySem.W.readsIn K B (.type "type")=true
 fc:PySem.W.findCls K (.ref B) (.type "type") "__init__"=some (.val (.builtin "ValueError.__init__"))
section
variable {prog:Program}{w:World}{A:Around}{E:Vs0}{h:Heap}{g:Array GenState}{d:Drawn}{t:Nat}{os:OsState}
variable {nm q:Str}{C N x t0:Addr}{bs bm:List Value}{sn:List Str}{sub:List Value}{ab:Bool}{col:Option Bool}{dd:Option Addr}{k0 k1 k2 k3 k5:Option Value}
theorem a9G {M:Model}{oe:Obj}{rest:List Value}{Q:Unit->Shared->Prop}(tv:a1Z bm=true)(hC:h.get? C=some (excClassObj nm q C N bs bm true sn sub ab col dd k0 k1 k2 k3 k5 "ValueError.__new__"))(hx:h.get? x=some oe)(hc:oe.cls=.ref C)
  (hq:Q () ⟨h,g,d,t,os⟩):wpAny M A (checkBuiltinCall "ValueError.__init__" ⟨.ref x::rest,[]⟩) Q E ⟨h,g,d,t,os⟩:=by
 have F:=PySem.F.excBase_ValueError;have c1:(Value.ref C::bm).contains (.type "ValueError")=true:=by rw[List.contains_cons,a1i (X:="ValueError") rfl tv];rfl
 have ns:=F.noStar;simp only[checkBuiltinCall,F.initKind,F.initSplit,F.initRow]
 repeat (first | (with_reducible refine wpAny_loadPart_at hx ?_;rw[hc]) |with_reducible refine wpAny_loadPart_at hC ?_ | (with_reducible refine wpAny_isSubtype_exc hC ?_;rw[c1]) |wp_step)
 refine wpAny_onRaise ?_;rw[show ∀(a b:String) (n:Nat),Bind.check ⟨.positional,"*","ValueError",.self,[⟨"args",.varPos,false⟩]⟩ a b n (List.map (fun y=>y.fst) ({ pos:=Value.ref x::rest }:Args).kw)=pure () from fun a b n=>check_star_args _ _ _ _ _ _];exact wP0 hq
theorem b2h {rest:List Value}{od:Option Addr}{Q:Vs0}(tv:a1Z bm=true)(hC:h.get? C=some (excClassObj nm q C N bs bm true sn sub ab col dd k0 k1 k2 k3 k5 "ValueError.__new__"))(hx:h.get? x=some (a2A C od t0))(hz:rest.length<=sizeLine)
  (hq:∀h' t1 tk',h'.get? x=some (a2A C od t1)->(∀b o,b≠x->h.get? b=some o->h'.get? b=some o)->Q .none ⟨h',g,d,tk',os⟩) :
  wpAny (model prog w) A (call (.builtin "ValueError.__init__") (.ref x::rest)) Q E ⟨h,g,d,t,os⟩:=by
 have F:=PySem.F.excBase_ValueError;refine wpAny_call (codeAny_call_builtin F.init.plain F.initEntry (a9G tv hC hx rfl ?_))
 wp_walk
 refine hq _ h.objs.size _ ?_ fun b o hb e=>?_
 ·rw[Heap.get?_update_self _ (hP0 _ hx) rfl]
  rfl
 ·rw[Heap.get?_update_other _ _ (Ne.symm hb)]
  exact hP0 _ e
end
def tBIn (K:Fg0)(t:TA):TE:=fun σ H Q=>t σ H fun vs H1=>∃x C od rest,vs=.ref x::rest/\H1 x=some (.ext (a3Z x C od))/\XCl K C/\rest.length<=sizeLine/\Q .non H1
theorem b2K {H:Hp}{a:Addr}{o:HO}(h:H a=some o):upd H a o=H:=by
 funext b
 by_cases z:b=a
 ·rw[z,a0c,h]
 ·exact a0h z
section
variable {X:Cx}{B:Addr}{y:Str}{p pos apos:Pos}{e:Expr}{es:List Expr}{t:TA}
theorem a5X {pl:Sem Bool}(hg:Gl X y)(hm:X.mg y=some (.ref B))(b:BIn X.K B)(ha:PA X (e::es) t)(hdb:(y==("__debug__":Str))=false:=by decide)
  (hst:starEach (e::es) X.env=(false,eval e X.env)::starEach es X.env:=by rfl) (hpl:(backTo pos (starEach es X.env)).any (·.1)=false:=by rfl)
  (ht:eval (.Call (.Attribute (.Name y p) "__init__" apos) (e::es) [] pos) X.env=(do
   let ov <-eval (.Name y p) X.env
   standAt apos.atName
   let (f,first) <-holding [ov] (getMethod ov "__init__" pl)
   callWith pos f first (backTo pos (starEach (e::es) X.env)) (backToKw pos (keywordEach [] X.env))):=by rfl) :
  PE X (.Call (.Attribute (.Name y p) "__init__" apos) (e::es) [] pos) (tBIn X.K t):=by
 intro U s σ H Q I h;refine PySem.W.methodCall_KW (pl:=pl) (a2i I hg hm ?_ hdb) ht;refine PySem.W.method_cls I.kIn b.sp (PySem.W.cls_value I.kIn b.rd b.fc rfl ?_);refine PyProof.Rows.callWith_builtin1 (thn (ha pos U _ σ H _ (I.tok _) h) fun us s1 ⟨vs,H1,I1,r,x,C,od,rest,ev,hx,c,hz,q⟩=>?_) hst hpl;subst ev;cases r with
 |cons rx rr=>
  rename_i u us' hap
  obtain rfl:u=Value.ref x:=rx;obtain⟨nm,qn,N,bs,bm,sn,sub,ab,col,dd,k0,k1,k2,k3,k5,lk,tv⟩:=c.at_;obtain⟨⟨t0,ex⟩,_⟩:=I1.hok x _ hx;obtain⟨hh,g,d,tk,os⟩:=s1;refine b2h tv (I1.kIn _ _ lk) ex (by rw[<-rr.length];exact hz) fun h' t1 tk' e1 kk=>?_;have I2:Inv X U σ (upd H1 x (.ext (a3Z x C od))) ⟨h',g,d,tk',os⟩:=I1.write (t':=tk') (x:=x) (e:=x) (by rw[hx];exact True.intro) (.inl rfl) (fun b o hb z=>kk b o hb z) ⟨_,e1⟩ (a4t e1);rw[b2K hx] at I2;exact⟨.non,H1,I2,rfl,q⟩
end
abbrev Cx.caught (X:Cx)(x:Addr):Cx:={ X with A:=X.A.mark (some (.ref x)),calm:=false,xe:=fun _ _=>False }
abbrev Cx.within (X:Cx)(pn:List (Addr×Obj))(E:Vs0):Cx:={ X with pn:=pn,xe:=E }
section
variable {X:Cx}{U:List (Addr×Obj)}{σ:St}{H:Hp}{s:Shared}{x:Addr}{E:Vs0}
theorem Inv.caught (I:Inv X U σ H s):Inv (X.caught x) U σ H s:=
 ⟨⟨I.ok.mod,I.ok.kind,I.ok.glob,I.ok.blt,I.ok.above,I.ok.inj,I.ok.has,I.ok.cab,fun h=>Bool.noConfusion h,I.ok.frames,I.ok.stk,I.ok.exf,I.ok.bs,I.ok.bsz,I.ok.noex,I.ok.exfs,I.ok.funs,I.ok.frf⟩,I.os,I.bare,I.base,I.loc,I.cell,I.free,I.freeC,I.pin,I.hok,I.len⟩
theorem Inv.uncaught (ok:X.Ok)(I:Inv (X.caught x) U σ H s):Inv X U σ H s:=⟨ok,I.os,I.bare,I.base,I.loc,I.cell,I.free,I.freeC,I.pin,I.hok,I.len⟩
theorem Inv.within (I:Inv X U σ H s):Inv (X.within (X.pn++U) E) [] σ H s:=
 ⟨⟨I.ok.mod,I.ok.kind,I.ok.glob,I.ok.blt,I.ok.above,I.ok.inj,I.ok.has,I.ok.cab,I.ok.hd,I.ok.frames,I.ok.stk,I.ok.exf,I.ok.bs,I.ok.bsz,I.ok.noex,I.ok.exfs,I.ok.funs,I.ok.frf⟩,I.os,I.bare,I.base,I.loc,I.cell,I.free,I.freeC,(by intro p hp;exact I.pin p (by simpa using hp)),I.hok,I.len⟩
theorem Inv.out {pins':List (Addr×Obj)}(ok:X.Ok)(I:Inv (X.within (X.pn++U) E) pins' σ H s):Inv X U σ H s:=⟨ok,I.os,I.bare,I.base,I.loc,I.cell,I.free,I.freeC,fun p hp=>I.pin p (List.mem_append_left _ hp),I.hok,I.len⟩
theorem SP.out {D:a3I}{f:Flow}{pins':List (Addr×Obj)}(ok:X.Ok)(h:SP (X.within (X.pn++U) E) pins' D f s):SP X U D f s:=by
 cases f with
 |next=>obtain⟨σ',H',I,q⟩:=h;exact⟨σ',H',I.out ok,q⟩
 |brk=>obtain⟨σ',H',I,q⟩:=h;exact⟨σ',H',I.out ok,q⟩
 |cont=>obtain⟨σ',H',I,q⟩:=h;exact⟨σ',H',I.out ok,q⟩
 |ret u=>obtain⟨v,σ',H',I,r,q⟩:=h;exact⟨v,σ',H',I.out ok,r,q⟩
theorem Our.out {pins':List (Addr×Obj)}{b:Addr}(o:Our (X.within (X.pn++U) E) pins' H b):Our X U H b:=⟨o.new,o.loc,o.cel,fun p hp=>o.pin p (List.mem_append_left _ hp),o.unt⟩
theorem Inv.unname {i:Nat}{n:Str}{h':Heap}{v:Option Value}{m:Str->Option Value}{t':Nat}(I:Inv X U σ H s)(hN:X.N.Nodup)(hi:X.N[i]? =some n)(hn:h'.Ns X.env.locals (fun y=>if y=n then v else m y))
  (hm:∀(i:Nat) (x:Str) (v:V),X.N[i]? =some x->σ[i]? =some (some v)->Vis X.env.scope x->∃u,a0X v u/\b4g X.env s.heap m x u) (sb:Heap.SameBut X.env.locals s.heap h') :
  Inv X U (σ.set i none) H { s with heap:=h',toks:=t' }:=by
 have cne:=I.cne;have neL:∀b o,X.s₀.heap.get? b=some o->b≠X.env.locals:=fun b o e=>nL0 (Nat.lt_of_lt_of_le (hL0 e) I.ok.above);refine⟨I.ok,I.os,I.bare,⟨fun b o e n' hb hx=>(sb.2 b (neL b o e)).trans (I.base.keep b o e n' hb hx),fun b o e n' hb hx=>?_,I.base.free,fun b o e hx=>?_,I.base.tups,I.base.frzs,I.base.tbls⟩,⟨_,hn,fun j y w e1 e2 e3=>?_⟩,fun y c e=>?_,I.free,I.freeC,fun p hp=>?_,fun b ob e=>?_,by simpa using I.len⟩
 ·obtain⟨sl,e1⟩:=I.base.slot b o e n' hb hx
  exact⟨sl,(sb.2 b (neL b o e)).trans e1⟩
 ·obtain⟨o',e1⟩:=I.base.there b o e hx
  exact⟨o',(sb.2 b (neL b o e)).trans e1⟩
 ·by_cases hj:j=i
  ·subst hj
   have:(σ.set j none)[j]? =some (some w):=e2
   rw[List.getElem?_set] at this;simp at this
  ·rw[List.getElem?_set_ne (Ne.symm hj)] at e2
   obtain⟨u,r,q⟩:=hm j y w e1 e2 e3;refine⟨u,r,?_⟩;rcases q with ⟨k,e⟩ |⟨k,c,e,z⟩
   ·refine .inl ⟨k,?_⟩
    have:y≠n:=fun e=>hj (a4o hN e1 (e▸hi))
    show(if y=n then v else m y)=some u
    rw[if_neg this];exact e
   ·exact .inr ⟨k,c,e,z.sameBut sb (cne y c e)⟩
 ·obtain⟨w',z⟩:=I.cell y c e
  exact⟨w',z.sameBut sb (cne y c e)⟩
 ·obtain⟨e,n',ne,nf,d⟩:=I.pin p hp
  exact⟨(sb.2 p.1 ne).trans e,n',ne,nf,d⟩
 ·refine(I.hok b ob e).stay (fun c w' hc q=>(sb.2 c ?_).trans q) (fun _ q=>q) fun _ _ q=>q
  rintro rfl;rcases hc with rfl |hc
  ·rw[I.free] at e;cases e
  ·rw[I.free] at hc;cases hc
end
def a8J (i:Nat)(D:a3I):a3I:={ nx:=fun σ' H'=>D.nx (σ'.set i none) H',rt:=D.rt,bk:=fun σ' H'=>D.bk (σ'.set i none) H',ct:=fun σ' H'=>D.ct (σ'.set i none) H' }
def tTry (tb:a3I->TS):TS:=fun D σ H=>tb D D σ H
section
variable {prog:Program}{w:World}{A:Around}{E:Vs0}{h:Heap}{g:Array GenState}{d:Drawn}{t:Nat}{os:OsState}
variable {nm q:Str}{C N:Addr}{bs bm:List Value}{sn:List Str}{sub:List Value}{ab:Bool}{col:Option Bool}{dd:Option Addr}{k0 k1 k2 k3 k5:Option Value}
theorem a5H {rest:List Value}{Q:Fin->Shared->Prop}(tv:a1Z bm=true)(hC:h.get? C=some (excClassObj nm q C N bs bm true sn sub ab col dd k0 k1 k2 k3 k5 "ValueError.__new__"))
  (hi:PySem.W.Looks (model prog w) h (typeLookup (.ref C) "__init__") (some (.builtin "ValueError.__init__"))) (hrest:rest.length<=sizeLine)
  (hq:∀h' t1 tk',h'.get? (h.objs.size+1)=some (a2A C none t1)->(∀b o,h.get? b=some o->h'.get? b=some o)->Q (.done (.ret (.ref (h.objs.size+1)))) ⟨h',g,d,tk',os⟩) :
  wpAny (model prog w) A (Builtin.«type.__call__» ⟨.ref C::rest,[]⟩) Q E ⟨h,g,d,t,os⟩:=by
 have F:=PySem.F.excBase_ValueError
 repeat (first |with_reducible refine wpAny_loadPart_at hC ?_ |with_reducible refine wpAny_madeBy_exc hC ?_ |wp_step)
 refine codeAny_call_builtin_code (Code.quiet_builtin _ F.quiet) (a7k tv hC ?_);refine b4i tv hC ?_ hrest;show wpAny _ _ _ _ _ _;have kp:∀b o,h.get? b=some o->((h.push (a6R rest)).push (a2A C none h.objs.size)).get? b=some o:=fun b o e=>hP0 _ (hP0 _ e);have hg2:((h.push (a6R rest)).push (a2A C none h.objs.size)).get? (h.objs.size+1)=some (a2A C none h.objs.size):=by
  have:=hS0 (h.push (a6R rest)) (o:=a2A C none h.objs.size) rfl
  rwa [Heap.size_push] at this
 have hcC:(Value.ref C::bm).contains (.ref C)=true:=by simp
 unfold isInstance
 repeat (first |with_reducible refine wpAny_loadPart_at hg2 ?_ | (with_reducible refine wpAny_isSubtype_exc (kp _ _ hC) ?_;rw[hcC]) |wp_step)
 show wpAny _ _ (typeLookup (.ref C) _) _ _ _;refine hi _ _ _ _ kp ?_;refine wpAny_holding (wB0 (wpAny_of_eq (F.init.bind _) ?_));refine wB0 (b2h tv (kp _ _ hC) hg2 hrest fun h' t1 tk' e1 kk=>?_)
 wp_walk
 exact hq h' t1 _ e1 fun b o e=>kk b o (nL0 (Nat.lt_succ_of_lt (hL0 e))) (kp b o e)
theorem b2o {rest:List Value}{Q:Vs0}(tv:a1Z bm=true)(hC:h.get? C=some (excClassObj nm q C N bs bm true sn sub ab col dd k0 k1 k2 k3 k5 "ValueError.__new__"))
  (hi:PySem.W.Looks (model prog w) h (typeLookup (.ref C) "__init__") (some (.builtin "ValueError.__init__"))) (hrest:rest.length<=sizeLine)
  (hq:∀h' t1 tk',h'.get? (h.objs.size+1)=some (a2A C none t1)->(∀b o,h.get? b=some o->h'.get? b=some o)->Q (.ref (h.objs.size+1)) ⟨h',g,d,tk',os⟩) :
  wpAny (model prog w) A (call (.ref C) rest) Q E ⟨h,g,d,t,os⟩:=by
 have f1:=tc_lookup;have f2:=tc_bind (.ref C);have hT:(⟨h,g,d,t,os⟩:Shared).TypeIs (.ref C) "type":=⟨_,hC,rfl⟩;refine wpAny_call (codeAny_of_tree ?_);show wpAny _ _ (callAny (.ref C) _) _ _ _
 repeat (any_goals (first |assumption |with_reducible refine wpAny_loadPart_at hC ?_ |wp_step))
 refine⟨rfl,?_⟩;exact codeAny_call_builtin_at (Code.quiet_builtin _ (by decide +kernel)) entry_typeCall (wpAny_check_type_call_sub hC (a5H tv hC hi hrest hq))
end
structure b1n (K:Fg0) (C:Addr):Prop where
 cl:XCl K C
 init:PySem.W.findIn K (.ref C) "__init__"=some (some (.builtin "ValueError.__init__"))
def a8K (n:Nat)(C:Addr)(t:TA):TE:=fun σ H Q=>t σ H fun vs H1=>vs.length<=sizeLine/\∀x,n<=x->H1 x=none->Q (.ref x) (upd H1 x (.ext (a3Z x C none)))
section
variable {X:Cx}{C:Addr}{x:Str}{p pos:Pos}{e:Expr}{es:List Expr}{t:TA}
theorem a4b {U:List (Addr×Obj)}{σ:St}{H:Hp}{s:Shared}{Q:VK}{us:List Value}{vs:List V}(M:b1n X.K C)
  (I:Inv X U σ H s) (r:a1g vs us) (hz:vs.length<=sizeLine) (h:∀x,X.s₀.heap.objs.size<=x->H x=none->Q (.ref x) (upd H x (.ext (a3Z x C none)))) :
  wpAny (model X.prog X.w) X.A (call (.ref C) us) (EP X U σ Q) X.xe s:=by
 obtain⟨nm,q,N,bs,bm,sn,sub,ab,col,dd,k0,k1,k2,k3,k5,lk,tv⟩:=M.cl.at_;have hq:=h (s.heap.objs.size+1) (Nat.le_succ_of_le I.sz) (I.hok.fresh (Nat.le_succ _));obtain⟨hh,g,d,tk,os⟩:=s;refine b2o tv (I.kIn _ _ lk) (PySem.W.looks_findIn I.kIn M.init) (by rw[<-r.length];exact hz) fun h' t1 tk' e1 kk=>?_;exact⟨V.ref (hh.objs.size+1),_,I.laid (a:=hh.objs.size+1) (t':=tk') kk (Nat.le_succ _) (a4t e1),rfl,hq⟩
theorem a1Q (M:b1n X.K C)(hg:Gl X x)(hm:X.mg x=some (.ref C))(ha:PA X (e::es) t)(hdb:(x==("__debug__":Str))=false:=by decide)
  (he:starEach (e::es) X.env=(false,eval e X.env)::starEach es X.env:=by rfl) (hpl:(backTo pos (starEach es X.env)).any (·.1)=false:=by rfl) :
  PE X (.Call (.Name x p) (e::es) [] pos) (a8K X.s₀.heap.objs.size C t):=by
 intro U s σ H Q I h;refine wpAny_Call_Name_kw (a2i I hg hm ?_ hdb);refine PySem.W.callWith_K (h₀:=X.base) I.ok.mod.kin M.cl.kp (thn (ha pos U s σ H _ I h) fun us s1 ⟨vs,H1,I1,r,q⟩=>⟨I1.kIn,?_⟩) he hpl;exact a4b M I1 r q.1 q.2
theorem a6M (M:b1n X.K C)(hg:Gl X x)(hm:X.mg x=some (.ref C))(hdb:(x==("__debug__":Str))=false:=by decide):PE X (.Call (.Name x p) [] [] pos) (a8K X.s₀.heap.objs.size C a8Q):=by
 intro U s σ H Q I h;refine wpAny_Call_Name_kw (a2i I hg hm ?_ hdb);exact PySem.W.callWith_K0 I.kIn M.cl.kp (a4b (us:=[]) M I .nil h.1 h.2)
end
structure XIs (K:Fg0) (C:Addr):Prop where
 cl:XCl K C
 ha:PySem.W.findIn K (.ref C) "__class__"=some (some (.builtin "object.__class__"))
 hn:PySem.W.specialIn K (.builtin "object.__class__") "__get__"=some (some (.builtin "getset_descriptor.__get__"))
 htk:PySem.W.takesIn K (.builtin "object.__class__")=some true
section
variable {prog:Program}{w:World}{A:Around}{E:Vs0}{s:Shared}{K:Fg0}{x C:Addr}{ox:Obj}{od:Option Obj}
theorem b4f (c:XCl K C)(T:String)(b:Bool)(hb:bmV.contains (.type T)=b):PySem.W.mroIn K C (.type T)=some b:=by
 obtain⟨cd,bm,hc,hm,tv,hd⟩:=c.cls;unfold PySem.W.mroIn;rw[hc,Option.bind_some,hm];show some (List.contains _ _)=_;rw[List.contains_cons,a1i (X:=T) hb tv]
 rfl
theorem b2U {Q:Option Value->Shared->Prop}(Xk:K.In s.heap)(c:XIs K C)(J:PySem.W.InstAt s.heap x ox C od)(hq:Q (some (.ref C)) { s with toks:=s.toks+1 }):wpAny (model prog w) A (getAttr? (.ref x) "__class__") Q E s:=by
 obtain⟨h,g,d,t,os⟩:=s;obtain⟨cd,bm,hc,hm,tv,hd⟩:=c.cl.cls;have hf:PySem.W.findObj K C od "__class__"=some (.bind (.builtin "getset_descriptor.__get__") (.builtin "object.__class__")):=by
  unfold PySem.W.findObj;rw[hc,Option.bind_some,c.ha,Option.bind_some];simp[c.hn,c.htk]
 have FX:=PySem.F.attr_ValueError;have L0:=J.type (M:=model prog w);have L1:=PySem.W.looks_find (M:=model prog w) Xk J hf;have sub:PySem.W.Looks (model prog w) h (isInstance (.ref x) (.type "BaseException")) true:=L0.andThen (PySem.W.looks_mroIn Xk (b4f c.cl "BaseException" true rfl));have nq:(onTheHeap (Value.ref C)&&Value.builtin "BaseException.__getattribute__"==Value.builtin "object.__getattribute__")=false:=by
  rw[show(Value.builtin "BaseException.__getattribute__"==Value.builtin "object.__getattribute__")=false from by decide +kernel,Bool.and_false]
 unfold getAttr? getAttrBy? getAttrBy;refine wB0 (wpAny_mkText (wB0 (wpAny_attempt (wpAny_holding (wB0 (L0.at (wB0 ((PySem.W.looks_findIn (M:=model prog w) Xk c.cl.ga).at ?_))))))));show wpAny _ _ (if _=true then _ else _) _ _ _;rw[nq,if_neg (by decide)];unfold getAttrByItsOwn hookBefore;refine wB0 (PySem.W.Looks.at (t:=if onTheHeap (Value.ref C)=true then typeLookup (.ref C) "__getattr__" else pure none) (r:=none) (PySem.W.looks_findIn (M:=model prog w) Xk c.cl.gx) (wB0 (wpAny_attempt (wpAny_holding ?_))));unfold callGetattribute;rw[show(false&&onTheHeap (Value.builtin "BaseException.__getattribute__"))=false from rfl,if_neg (by decide)];unfold boundAndCalled;rw[FX.ga.bind];refine wB0 (wP0 ?_);show wpAny _ _ (call (.builtin "BaseException.__getattribute__") [.ref x,.str "__class__" t]) _ _ _;refine wpAny_call ?_;refine codeAny_call_builtin FX.ga.plain PySem.F.entry_bexc_ga ?_;refine @PySem.W.check_slot (model prog w) _ _ ⟨h,g,d,t+1,os⟩ "BaseException.__getattribute__" "BaseException" "__getattribute__" (.ref x) [.str "__class__" t] [] _ (by decide +kernel) (by decide +kernel) sub (PySem.F.args_bexc_ga (.ref x) (.str "__class__" t)) ?_;unfold Builtin.«object.__getattribute__»;refine wB0 (wP0 (wB0 (wP0 (wB0 (L0.at (wB0 (L1.at ?_)))))));show wpAny _ _ (holding [Value.builtin "object.__class__"] (call (.builtin "getset_descriptor.__get__") [.builtin "object.__class__",.ref x,.ref C]) >>= ret) _ _ _;refine wB0 (wpAny_holding (wpAny_call (PySem.W.class_get (s:=⟨h,g,d,t+1,os⟩) (ox:=ox) (od:=od) Xk J (b4f c.cl "object" true rfl) ?_)));refine wP0 ?_;show wpAny _ _ (handedOut (.ref C)) _ _ _;exact PySem.W.handed_on rfl (wP0 hq)
theorem a6p (c:XIs K C):PySem.W.KitX K (.ref x) (.ref C) (fun h=>PySem.W.InstAt h x ox C od) where
 ty:=fun _ _ _ I=>I.type
 it:=fun _ _ Xk _=>by
  obtain⟨cd,bm,hc,hm,tv,hd⟩:=c.cl.cls;unfold PySem.W.clsIn at hc
  split at hc
  ·rename_i c' d' cd' sl' ho
   intro A' Q' E' s' k q;unfold isType loadHead;exact wB0 (wpAny_loadPart (k _ _ (Xk _ _ ho)) (wP0 q))
  ·cases hc
 ne:=fun h tp dd its n sl Xk htp=>by
  obtain⟨cd,bm,hc,hm,tv,hd⟩:=c.cl.cls;refine Bool.eq_false_iff.mpr fun q=>?_;have e:C=tp:=Value.ref.inj (beq_iff_eq.mp q);subst e;unfold PySem.W.clsIn at hc
  split at hc
  ·rename_i c' d' cd' sl' ho
   have z:=(Xk _ _ ho).symm.trans htp;cases z
  ·cases hc
 ca:=fun Xk I k=>b2U Xk c I k
end
section
variable {X:Cx}{U:List (Addr×Obj)}{σ:St}{H:Hp}{s:Shared}{a C:Addr}{od:Option Addr}
theorem Inv.gotAt (I:Inv X U σ H s)(ea:H a=some (.ext (a6i a C od)))(ed:∀dx,od=some dx->∃fs,H dx=some (.ext (a5T dx fs))):∃ox o,PySem.W.InstAt s.heap a ox C o:=by
 obtain⟨⟨vs,sl,eo⟩,_⟩:=I.hok a _ ea;cases od with
 |none=>exact⟨_,none,eo,rfl,rfl,trivial⟩
 |some dx=>
  obtain⟨fs,e⟩:=ed dx rfl;obtain⟨_,⟨ob,e2⟩,_⟩:=I.hok dx _ e;exact⟨_,some ob,eo,rfl,rfl,e2⟩
theorem a0C:a1C X (.builtin "isinstance") (fun xs H Q=>∃a C od x b,xs=[.ref a,x]/\H a=some (.ext (a6i a C od))/\(∀dx,od=some dx->∃fs,H dx=some (.ext (a5T dx fs)))/\XIs X.K C ∧
  (∀u,a0X x u->PySem.W.kitOne X.K (.ref C) u=some b)/\Q (.bl b) H):=by
 intro U s σ H xs us Q I r h;obtain⟨a,C,od,x,b,rfl,ea,ed,c,e,q⟩:=h;obtain⟨u,w',rfl,rx,rc⟩:=a7J r
 cases(show u=Value.ref a from rx)
 obtain⟨ox,o,J⟩:=I.gotAt ea ed;exact PySem.W.kia_one (a6p c) I.kIn J (e w' rc) (fun z=>nomatch z) fun tk=>⟨.bl b,H,I.tok tk,rfl,q⟩
theorem a4M:a1C X (.builtin "isinstance") (fun xs H Q=>∃a C od p cs b,xs=[.ref a,.ref p]/\H a=some (.ext (a6i a C od))/\(∀dx,od=some dx->∃fs,H dx=some (.ext (a5T dx fs)))/\XIs X.K C/\SqT X.K H p cs ∧
  (∀us,a1g cs us->PySem.W.kitAny X.K (.ref C) us=some b)/\Q (.bl b) H):=by
 intro U s σ H xs us Q I r h;obtain⟨a,C,od,p,cs,b,rfl,ea,ed,c,hp,e,q⟩:=h;obtain⟨u,w',rfl,rx,rc⟩:=a7J r
 cases(show u=Value.ref a from rx)
 cases(show w'=Value.ref p from rc)
 obtain⟨ox,o,J⟩:=I.gotAt ea ed;obtain⟨its,r',⟨ot,ho,hc,n,hd⟩,_⟩:=I.tuple hp;obtain⟨c0,d0,dt0,sl0⟩:=ot;simp only at hc hd;subst hc hd;exact PySem.W.kia_tup (a6p c) I.kIn J ho (e its r') (fun z=>nomatch z) fun tk=>⟨.bl b,H,I.tok tk,rfl,q⟩
end
section
variable {M:Model}{A:Around}{E:Vs0}{h:Heap}{g:Array GenState}{d:Drawn}{t:Nat}{os:OsState}
variable {nm q:Str}{C N:Addr}{bs bm:List Value}{sn:List Str}{sub:List Value}{ab:Bool}{col:Option Bool}{dd:Option Addr}{k0 k1 k2 k3 k5:Option Value}
variable {nm' q':Str}{D N':Addr}{bs' bm':List Value}{sn':List Str}{sub':List Value}{ab':Bool}{col':Option Bool}{dd':Option Addr}{j0 j1 j2 j3 j5:Option Value}
theorem b2O {e:Addr}{oe:Obj}{b:Bool}{Q:Bool->Shared->Prop}(hC:h.get? C=some (excClassObj nm q C N bs bm true sn sub ab col dd k0 k1 k2 k3 k5 "ValueError.__new__"))
  (hD:h.get? D=some (excClassObj nm' q' D N' bs' bm' true sn' sub' ab' col' dd' j0 j1 j2 j3 j5 "ValueError.__new__")) (tD:a1Z bm'=true) (he:h.get? e=some oe) (hcls:oe.cls=.ref C)
  (hb:(Value.ref C::bm).contains (.ref D)=b) (hq:Q b ⟨h,g,d,t,os⟩):wpAny M A (excMatches (.ref e) (.ref D)) Q E ⟨h,g,d,t,os⟩:=by
 have hcB:(Value.ref D::bm').contains (.type "BaseException")=true:=by rw[List.contains_cons,a1i (X:="BaseException") rfl tD];rfl
 have f:=tc_notTuple;unfold excMatches
 repeat (first | (with_reducible refine wpAny_loadPart_at he ?_;rw[hcls]) |with_reducible refine wpAny_loadPart_at hD ?_ | (with_reducible refine wpAny_isSubtype_exc hD ?_;rw[hcB]) | (with_reducible refine wpAny_isSubtype_exc hC ?_;rw[hb]) |wp_step)
 cases b<;>(wp_walk;exact hq)
end
def a9a (K:Fg0)(C D:Addr):Prop:=XCl K C/\PySem.W.mroIn K C (.ref D)=some true
theorem a9a.has {K:Fg0}{C D:Addr}(u:a9a K C D){nm q:Str}{N:Addr}{bs bm:List Value}{sn:List Str}{sub:List Value}{ab:Bool}{col:Option Bool}{dd:Option Addr}{k0 k1 k2 k3 k5:Option Value}
  (lk:K.lookup C=some (excClassObj nm q C N bs bm true sn sub ab col dd k0 k1 k2 k3 k5 "ValueError.__new__")):(Value.ref C::bm).contains (.ref D)=true:=by
 have e:PySem.W.clsIn K C=some ⟨nm,bs,.ref C::bm,N,q,true,sn,sub,ab,col,false⟩:=by
  unfold PySem.W.clsIn;rw[lk]
 have h:=u.2;unfold PySem.W.mroIn at h;rw[e,Option.bind_some] at h;exact Option.some.inj h
def EXu (K:Fg0)(CN:Addr)(i:Nat)(ts:Addr->Addr->TS)(D:a3I):XS:=fun C od σ H=>∃Cx,C=.ref Cx/\a9a K Cx CN/\∀x,H x=none->ts x Cx (a8J i D) (σ.set i (some (.ref x))) (upd H x (.ext (a6i x Cx od)))
section
variable {X:Cx}{body:List Stmt}{cx n:Str}{b₀:Stmt}{suite:List Stmt}{np hp pos:Pos}{CN:Addr}{i:Nat}{tb:a3I->TS}{tc:Addr->Addr->TS}{ts:Addr->TS}
theorem b1y (hst:X.stack=X.env::X.outer)(hfr:X.env.frame=some X.env.locals)(hN:X.N.Nodup)(hi:X.N[i]? =some n)(hk:X.env.scope.names.lookup n=some .local)(hg:Gl X cx)(hm:X.mg cx=some (.ref CN))(c:XCl X.K CN)
  (hb:∀D pn XE,a5o (X.within pn XE) (EXu X.K CN i tc D)->PSs (X.within pn XE) body (tb D)) (hs:∀x C,PSs (X.caught x) (b₀::suite) (tc x C)) (hdb:(cx==("__debug__":Str))=false:=by decide) :
  PS X (.Try body [.ExceptHandler (some (.Name cx np)) (some n) (b₀::suite) hp] [] [] pos) (tTry tb):=by
 intro U s σ H D I h;refine wpAny_Try_except ?_;refine wpAny_mono (hb D (X.pn++U) (fun e s₁=>wpAny (model X.prog X.w) X.A (noteFrame e X.env) (fun _ s₂=>wpAny (model X.prog X.w) X.A (setFlight e none) (fun _ s₃=>wpAny (model X.prog X.w) X.A (handleBy e X.env [.ExceptHandler (some (.Name cx np)) (some n) (b₀::suite) hp]) (SP X U D) X.xe s₃) X.xe s₂) X.xe s₁) ?_ [] s σ H D I.within h) (fun f s₁ hf=>?_) fun e s₁ z=>z
 ·intro pins' σ1 H1 s1 x C od I1' hx' xa' q
  have I1:Inv X U σ1 H1 s1:=I1'.out I.ok;have hx:Our X U H1 x:=hx'.out;have xa:XAt s1.heap (Our X U H1) x C od .none:=xa'.imp fun _ o=>o.out;obtain⟨Cx,rfl,un,q⟩:=q;have hfl:X.A.frames=some (X.env::X.outer):=by rw[I.ok.frames,hst]
  have frn:∀{s':Shared} {σ':St} {H':Hp},Inv X U σ' H' s'->∀b o,s'.heap.get? b=some o->b∈frs X.stack->∀vs,o.data≠.fields vs:=fun {s' σ' H'} J b o e hb=>by
   obtain⟨_,o',ho',hn⟩:=J.stack.mem hb;rw[e] at ho';cases ho';exact hn
  refine a5w (base:=X.base) hfl (by rw[<-hst];exact I1.stack) hfr xa (fun T hT=>I1.our hT) fun h1 n1 xa1=>?_;have I2:=I1.noted hx (by rw[hst];exact n1);refine a4p (s:={ s1 with heap:=h1 }) (fr:=frs X.stack) xa1 (frn I2) fun h2 n2 xa2=>?_;have I3:=I2.noted hx n2;obtain⟨nm,qn,N,bs,bm,sn,sub,ab,col,dd,k0,k1,k2,k3,k5,lk,tv⟩:=c.at_;obtain⟨nm',qn',N',bs',bm',sn',sub',ab',col',dd',j0,j1,j2,j3,j5,lk',tv'⟩:=un.1.at_;refine wpAny_handleBy_cons (codeAny_handlers_test ?_) (by intro q;cases q);refine a2i (X:=X.caught x) I3.caught hg hm ?_ hdb;obtain⟨vs,sl,v1,ex,ev1,tb2⟩:=id xa2;refine b2O (g:=s1.gens) (d:=s1.drawn) (t:=s1.toks) (os:=s1.os) (I3.kIn _ _ lk') (I3.kIn _ _ lk) tv ex rfl (un.has lk') ?_;refine codeAny_handlers_suite_as ?_;refine a4p (s:={ s1 with heap:=h2 }) (fr:=frs X.stack) xa2 (frn I3) fun h3 n3 xa3=>?_;have I4:=I3.noted hx n3;obtain⟨vs3,sl3,v3,ex3,_,_⟩:=id xa3;have I5:Inv X U σ1 (upd H1 x (.ext (a6i x Cx od))) { s1 with heap:=h3 }:=I4.track hx (a7Y ex3);refine a4k (X:=X.caught x) I5.caught hN hi (.inl hk) (show a0X (.ref x) (.ref x) from rfl) (fun s6 I6=>?_) (.inr hk);refine wpAny_mono (hs x Cx U s6 _ _ (a8J i D) I6 (q x hx.unt)) (fun f s7 hf=>?_) fun _ _ z=>False.elim z;have fin:∀{σ':St} {H':Hp} {Q:Unit->Shared->Prop},Inv (X.caught x) U σ' H' s7->(∀s',Inv X U (σ'.set i none) H' s'->Q () s')->wpAny (model X.prog X.w) X.A (do bindName X.env n .none;unbindBehindTheSuite X.env n hp) Q X.xe s7:=fun {σ' H' Q} J kq=>by
   have J':Inv X U σ' H' s7:=J.uncaught I.ok;obtain⟨m,hmn,hml⟩:=id J'.loc;exact wpAny_nameGoes_keeps hk hmn (by rw[I.ok.kind];rfl) fun h' v hn' sb=>kq _ (J'.unname hN hi hn' hml sb)
  cases f with
  |next=>obtain⟨σ',H',J,z⟩:=hf;exact fin J fun s' J'=>⟨_,H',J',z⟩
  |brk=>obtain⟨σ',H',J,z⟩:=hf;exact fin J fun s' J'=>⟨_,H',J',z⟩
  |cont=>obtain⟨σ',H',J,z⟩:=hf;exact fin J fun s' J'=>⟨_,H',J',z⟩
  |ret u=>obtain⟨v,σ',H',J,r,z⟩:=hf;exact fin J fun s' J'=>⟨v,_,H',J',r,z⟩
 ·have hf':=hf.out I.ok
  cases f with
  |next=>exact wP0 hf'
  |brk=>exact hf'
  |cont=>exact hf'
  |ret u=>exact hf'
end
end L2
namespace L2
open PySem PySem.Spec PyProof.Rows
end L2
namespace L2
open PySem
section
variable {prog:Program}{w:World}{A:Around}{E:Vs0}{s:Shared}
theorem a3V {it t:Addr}{i:Nat}{xs:Array Value}{x:Value}{Q:Vs0}(hi:s.heap.IsTupleIter it t i)(ht:s.heap.IsTuple t xs)(hx:xs[i]? =some x)
  (hQ:∀h',h'.IsTupleIter it t (i+1)->Heap.SameBut it s.heap h'->Q x { s with heap:=h' }):wpAny (model prog w) A (Builtin.SmallTypes.nextOf (.ref it)) Q E s:=by
 obtain⟨o,ho,hc,hd⟩:=id hi;obtain⟨ot,hot,_,nt,hdt⟩:=ht;unfold Builtin.SmallTypes.nextOf;refine wB0 (wpAny_callSpecial?_slot (name:=Str.ofString "__next__") hi.typeIs F.slot_tuple_iterator_next (wpAny_call_entry F.slot_tuple_iterator_next hi.typeIs F.entry_tuple_iterator_next ?_ (F.args_tuple_iterator_next_1 _)));show wpAny _ _ (field (.ref it) 0 >>= _) _ _ s;refine wB0 (wpAny_field ho hd (x:=.ref t) rfl ?_);show wpAny _ _ (if (Value.ref t==Value.none)=true then _ else _) _ _ s;rw[if_neg (show ¬((Value.ref t==Value.none)=true) from bF0)];show wpAny _ _ (field (.ref it) 1 >>= _) _ _ s;refine wB0 (wpAny_field ho hd (x:=.int i 0) rfl ?_);show wpAny _ _ (seqItems? (.ref t) >>= _) _ _ s;refine wB0 (wpAny_seqItems hot hdt ?_);simp only[Int.toNat_natCast,hx];refine wB0 (wpAny_setField ho hd (by simp) (wP0 ⟨x,rfl,wP0 (hQ _ ⟨_,Heap.get?_update_self _ ho (Obj.isFreed_of_fields (Obj.data_mapFields hd _)),(Obj.cls_mapFields ..).trans hc,?_⟩ (Heap.SameBut.update ..))⟩));rw[Obj.data_mapFields hd];simp[rawInt]
theorem a8C {it t:Addr}{i:Nat}{xs:Array Value}{Q:Vs0}(hh:A.handled=none)(hi:s.heap.IsTupleIter it t i)(ht:s.heap.IsTuple t xs)(hx:xs[i]? =none)
  (hE:∀h' e,Heap.ExtBut it s.heap h'->(∃o,h'.get? e=some o/\o.cls=.type "StopIteration")->E (.ref e) { s with heap:=h' }):wpAny (model prog w) A (Builtin.SmallTypes.nextOf (.ref it)) Q E s:=by
 obtain⟨o,ho,hc,hd⟩:=id hi;obtain⟨ot,hot,_,nt,hdt⟩:=ht;unfold Builtin.SmallTypes.nextOf;refine wB0 (wpAny_callSpecial?_slot (name:=Str.ofString "__next__") hi.typeIs F.slot_tuple_iterator_next (wpAny_call_entry F.slot_tuple_iterator_next hi.typeIs F.entry_tuple_iterator_next ?_ (F.args_tuple_iterator_next_1 _)));show wpAny _ _ (field (.ref it) 0 >>= _) _ _ s;refine wB0 (wpAny_field ho hd (x:=.ref t) rfl ?_);show wpAny _ _ (if (Value.ref t==Value.none)=true then _ else _) _ _ s;rw[if_neg (show ¬((Value.ref t==Value.none)=true) from bF0)];show wpAny _ _ (field (.ref it) 1 >>= _) _ _ s;refine wB0 (wpAny_field ho hd (x:=.int i 0) rfl ?_);show wpAny _ _ (seqItems? (.ref t) >>= _) _ _ s;refine wB0 (wpAny_seqItems hot hdt ?_);simp only[Int.toNat_natCast,hx];refine wB0 (wpAny_rule (wB0 (wpAny_setField ho hd (by simp) ?_)));show wpAny _ _ (newExc (.type "StopIteration") [] >>= _) _ _ _;refine wB0 ?_;simp only[newExc,newTuple];refine wB0 (wpAny_newObj_type ?_ (by size_fits));refine wB0 (m:=firstArgMember _ _) (wpAny_of_eq (a:=Value.none) (by first |rfl | (simp only[firstArgMember];rfl)) ?_);refine wpAny_newObj_type ?_ (by size_fits);simp only[raiseNew];refine wB0 (wpAny_handled ?_)
 first |rw[show A.in1.handled=none from hh] |rw[hh]
 refine wB0 (wP0 (wpAny_throw ?_));exact hE _ _ (((Heap.SameBut.update ..).extBut.push _).push _) ⟨_,hS0 _ rfl,rfl⟩
structure ZT (h:Heap) (z TI TO i1 i2 t1 t2:Addr) (k:Nat) (xs ys:Array Value) (f0:Value):Prop where
 zp:IsZip h z TI TO f0
 ti:IsPair h TI (.ref i1) (.ref i2)
 to:∃a b,IsPair h TO a b
 j1:h.IsTupleIter i1 t1 k
 j2:h.IsTupleIter i2 t2 k
 l1:h.IsTuple t1 xs
 l2:h.IsTuple t2 ys
theorem a8e {z TI TO i1 i2 t1 t2:Addr}{k:Nat}{xs ys:Array Value}{x y:Value}{Q:Vs0}(D:ZipApart z TI TO i1 i2 t1 t2)(Z:ZT s.heap z TI TO i1 i2 t1 t2 k xs ys .none)(hx:xs[k]? =some x)(hy:ys[k]? =some y)
  (hQ:∀h',ZT h' z TI TO i1 i2 t1 t2 (k+1) xs ys (rawInt s.heap.objs.size)->IsPair h' s.heap.objs.size x y->h'.objs.size=s.heap.objs.size+1->(∀c o,c≠z->c≠TO->c≠i1->c≠i2->s.heap.get? c=some o->h'.get? c=some o)->Q (.ref s.heap.objs.size) { s with heap:=h' }) :
  wpAny (model prog w) A (Builtin.«zip.__next__» ⟨[.ref z],[]⟩) (fun fin s'=>∃v,fin=.done (.ret v)/\Q v s') E s:=by
 obtain⟨hz,hTI,⟨a,b,hTO⟩,h1,h2,hl1,hl2⟩:=Z;show wpAny _ _ (field (.ref z) 2 >>= _) _ _ _;refine wB0 (wpAny_field hz rfl (x:=.bool false) rfl ?_);show wpAny _ _ (field (.ref z) 3 >>= _) _ _ _;refine wB0 (wpAny_field hz rfl (x:=.ref TI) rfl ?_);refine wB0 (wpAny_seqItems hTI rfl ?_);show wpAny _ _ (Builtin.SmallTypes.ownedTupleIsFree (.ref z) >>= _) _ _ _;refine wB0 ?_;unfold Builtin.SmallTypes.ownedTupleIsFree;refine wB0 (wpAny_field hz rfl (x:=.none) rfl (wP0 ?_));simp only[if_true];refine wB0 (wpAny_rule ?_);refine wB0 (wpAny_field hz rfl (x:=.ref TO) rfl ?_);refine wB0 (wpAny_setField_rec hz (by simp) fun g1 z1 b1=>?_)
 replace z1:IsZip g1 z TI TO .ellipsis:=z1
 refine wB0 ?_;simp only[List.zipIdx_cons,List.zipIdx_nil,List.forIn_cons,List.forIn_nil];refine wB0 (wB0 (wpAny_onRaise ?_));show wpAny _ _ (Builtin.SmallTypes.nextOf (.ref i1) >>= _) _ _ _;refine wB0 (a3V (s:={ s with heap:=g1 }) (h1.extBut b1.extBut D.i1z) (hl1.extBut b1.extBut D.l1z) hx fun g2 j2 b2=>wP0 ?_);have o2:IsPair g2 TO a b:=b2.extBut _ _ D.TOi1 (b1.extBut _ _ D.TOz hTO);refine wB0 (wpAny_seqItems o2 rfl ?_);refine wB0 (wpAny_updateSeq_pair o2 fun g3 o3 b3=>?_)
 replace o3:IsPair g3 TO x b:=o3
 refine wB0 (wpAny_letGo (wP0 ?_));refine wB0 (wB0 (wpAny_onRaise ?_));show wpAny _ _ (Builtin.SmallTypes.nextOf (.ref i2) >>= _) _ _ _;refine wB0 (a3V (s:={ s with heap:=g3 }) (((h2.extBut b1.extBut D.i2z).extBut b2.extBut D.i12.symm).extBut b3.extBut D.TOi2.symm) (((hl2.extBut b1.extBut D.l2z).extBut b2.extBut D.l2i1).extBut b3.extBut D.l2TO) hy fun g4 j4 b4=>wP0 ?_);have o4:IsPair g4 TO x b:=b4.extBut _ _ D.TOi2 o3;refine wB0 (wpAny_seqItems o4 rfl ?_);refine wB0 (wpAny_updateSeq_pair o4 fun g5 o5 b5=>?_)
 replace o5:IsPair g5 TO x y:=o5
 refine wB0 (wpAny_letGo (wP0 (wP0 ?_)));refine wB0 (wpAny_seqItems o5 rfl ?_);refine wB0 (wpAny_newTuple ?_);have sz:g5.objs.size=s.heap.objs.size:=by rw[b5.1,b4.1,b3.1,b2.1,b1.1]
 have z5:IsZip g5 z TI TO .ellipsis:=b5.extBut _ _ D.TOz.symm (b4.extBut _ _ D.i2z.symm (b3.extBut _ _ D.TOz.symm (b2.extBut _ _ D.i1z.symm z1)));have k5:∀c o,c≠z->c≠TO->c≠i1->c≠i2->s.heap.get? c=some o->g5.get? c=some o:=fun c o c1 c2 c3 c4 e=>b5.extBut _ _ c2 (b4.extBut _ _ c4 (b3.extBut _ _ c2 (b2.extBut _ _ c3 (b1.extBut _ _ c1 e))));have p1:g5.IsTupleIter i1 t1 (k+1):=((j2.extBut b3.extBut D.TOi1.symm).extBut b4.extBut D.i12).extBut b5.extBut D.TOi1.symm;have p2:g5.IsTupleIter i2 t2 (k+1):=j4.extBut b5.extBut D.TOi2.symm;have zlt:z<g5.objs.size:=hL0 z5;show wpAny _ _ (Builtin.SmallTypes.ownedTupleHandOut (.ref z) (.ref g5.objs.size) >>= _) _ _ _;refine wB0 ?_;unfold Builtin.SmallTypes.ownedTupleHandOut;have z6:IsZip (g5.push { cls:=.type "tuple",data:=.seq #[x,y] }) z TI TO .ellipsis:=hP0 _ z5;refine wB0 (wpAny_setField_rec z6 (by simp) fun g7 z7 b7=>?_)
 replace z7:IsZip g7 z TI TO (rawInt g5.objs.size):=z7
 refine wpAny_setField_rec z7 (by simp) fun g8 z8 b8=>?_
 replace z8:IsZip g8 z TI TO (rawInt g5.objs.size):=z8
 have up:∀c o,c≠z->g5.get? c=some o->g8.get? c=some o:=fun c o c1 e=>b8.extBut _ _ c1 (b7.extBut _ _ c1 (hP0 _ e));have T8:IsPair g8 g5.objs.size x y:=b8.extBut _ _ (Nat.ne_of_gt zlt) (b7.extBut _ _ (Nat.ne_of_gt zlt) (hS0 _ rfl));have s8:g8.objs.size=g5.objs.size+1:=by rw[b8.1,b7.1,Heap.size_push]
 rw[sz] at z8 T8 s8;refine wP0 ⟨_,rfl,?_⟩;show Q (.ref g5.objs.size) _;rw[sz];have kk:∀c o,c≠z->c≠TO->c≠i1->c≠i2->s.heap.get? c=some o->g8.get? c=some o:=fun c o c1 c2 c3 c4 e=>up c o c1 (k5 c o c1 c2 c3 c4 e);refine hQ g8 ⟨z8,kk _ _ D.TIz D.TITO D.TIi1 D.TIi2 hTI,⟨x,y,up _ _ D.TOz o5⟩,?_,?_,?_,?_⟩ T8 s8 kk
 ·obtain⟨o,e,r⟩:=p1;exact⟨o,up _ o D.i1z e,r⟩
 ·obtain⟨o,e,r⟩:=p2;exact⟨o,up _ o D.i2z e,r⟩
 ·obtain⟨o,e,r⟩:=hl1;exact⟨o,kk _ o D.l1z D.l1TO D.l1i1 D.l1i2 e,r⟩
 ·obtain⟨o,e,r⟩:=hl2;exact⟨o,kk _ o D.l2z D.l2TO D.l2i1 D.l2i2 e,r⟩
theorem a9O {z TI TO i1 i2 t1 t2:Addr}{k:Nat}{xs ys:Array Value}{Q:Fin->Shared->Prop}(hh:A.handled=none)(D:ZipApart z TI TO i1 i2 t1 t2)(Z:ZT s.heap z TI TO i1 i2 t1 t2 k xs ys .none)(hx:xs[k]? =none)
  (hE:∀h' e,(∀c o,c≠z->c≠TO->c≠i1->c≠i2->s.heap.get? c=some o->h'.get? c=some o)->(∃o,h'.get? e=some o/\o.cls=.type "StopIteration")->E (.ref e) { s with heap:=h' }) :
  wpAny (model prog w) A (Builtin.«zip.__next__» ⟨[.ref z],[]⟩) Q E s:=by
 obtain⟨hz,hTI,⟨a,b,hTO⟩,h1,h2,hl1,hl2⟩:=Z;show wpAny _ _ (field (.ref z) 2 >>= _) _ _ _;refine wB0 (wpAny_field hz rfl (x:=.bool false) rfl ?_);show wpAny _ _ (field (.ref z) 3 >>= _) _ _ _;refine wB0 (wpAny_field hz rfl (x:=.ref TI) rfl ?_);refine wB0 (wpAny_seqItems hTI rfl ?_);show wpAny _ _ (Builtin.SmallTypes.ownedTupleIsFree (.ref z) >>= _) _ _ _;refine wB0 ?_;unfold Builtin.SmallTypes.ownedTupleIsFree;refine wB0 (wpAny_field hz rfl (x:=.none) rfl (wP0 ?_));simp only[if_true];refine wB0 (wpAny_rule ?_);refine wB0 (wpAny_field hz rfl (x:=.ref TO) rfl ?_);refine wB0 (wpAny_setField_rec hz (by simp) fun g1 z1 b1=>?_)
 replace z1:IsZip g1 z TI TO .ellipsis:=z1
 refine wB0 ?_;simp only[List.zipIdx_cons,List.zipIdx_nil,List.forIn_cons,List.forIn_nil];refine wB0 (wB0 (wpAny_onRaise ?_));show wpAny _ _ (Builtin.SmallTypes.nextOf (.ref i1) >>= _) _ _ _;refine wB0 (a8C (s:={ s with heap:=g1 }) hh (h1.extBut b1.extBut D.i1z) (hl1.extBut b1.extBut D.l1z) hx fun g2 e b2 he=>?_);obtain⟨oe,hoe,hce⟩:=he;have z2:IsZip g2 z TI TO .ellipsis:=b2 _ _ D.i1z.symm z1;have hez:e≠z:=fun q=>by subst q;rw[z2] at hoe;cases hoe;simp at hce
 exact wpAny_setField_rec z2 (by simp) fun g3 _ b3=>hE g3 e (fun c o c1 _ c3 _ q=>b3.extBut _ _ c1 (b2 _ _ c3 (b1.extBut _ _ c1 q))) ⟨oe,b3.extBut _ _ hez hoe,hce⟩
theorem a7h {z TI TO i1 i2 t1 t2:Addr}{k:Nat}{xs ys:Array Value}{x y:Value}{Q:Option Value->Shared->Prop}(D:ZipApart z TI TO i1 i2 t1 t2)(Z:ZT s.heap z TI TO i1 i2 t1 t2 k xs ys .none)(hx:xs[k]? =some x)(hy:ys[k]? =some y)
  (hQ:∀h',ZT h' z TI TO i1 i2 t1 t2 (k+1) xs ys (rawInt s.heap.objs.size)->IsPair h' s.heap.objs.size x y->h'.objs.size=s.heap.objs.size+1->(∀c o,c≠z->c≠TO->c≠i1->c≠i2->s.heap.get? c=some o->h'.get? c=some o)->Q (some (.ref s.heap.objs.size)) { s with heap:=h' }) :
  wpAny (model prog w) A (pyNext (.ref z)) Q E s:=by
 have hT:s.TypeIs (.ref z) "zip":=⟨_,Z.zp,rfl⟩;unfold pyNext;exact wB0 (wpAny_attempt (wpAny_callSpecial?_slot (name:=Str.ofString "__next__") hT F.slot_zip_next (wpAny_call_entry F.slot_zip_next hT F.entry_zip_next (a8e D Z hx hy fun h' a1 a2 a3 a4=>wP0 (hQ h' a1 a2 a3 a4)) (F.args_zip_next_1 _))))
theorem a7u {z TI TO i1 i2 t1 t2:Addr}{k:Nat}{xs ys:Array Value}{Q:Option Value->Shared->Prop}(hh:A.handled=none)(D:ZipApart z TI TO i1 i2 t1 t2)(Z:ZT s.heap z TI TO i1 i2 t1 t2 k xs ys .none)(hx:xs[k]? =none)
  (hQ:∀h',(∀c o,c≠z->c≠TO->c≠i1->c≠i2->s.heap.get? c=some o->h'.get? c=some o)->Q none { s with heap:=h' }):wpAny (model prog w) A (pyNext (.ref z)) Q E s:=by
 have hT:s.TypeIs (.ref z) "zip":=⟨_,Z.zp,rfl⟩;unfold pyNext;refine wB0 (wpAny_attempt (wpAny_callSpecial?_slot (name:=Str.ofString "__next__") hT F.slot_zip_next (wpAny_call_entry F.slot_zip_next hT F.entry_zip_next (a9O hh D Z hx fun h' e hk he=>?_) (F.args_zip_next_1 _))));obtain⟨o,ho,hc⟩:=he;refine wB0 (wpAny_isInstance (T:="StopIteration") (b:=true) ⟨o,ho,hc⟩ isSubtype_stop ?_);exact wP0 (hQ _ hk)
end
abbrev zT1 (h:Heap)(l1:Addr):Heap:=h.push { cls:=.type "tuple_iterator",data:=.fields #[.ref l1,.int 0 0] }
abbrev zT2 (h:Heap)(l1 l2:Addr):Heap:=(zT1 h l1).push { cls:=.type "tuple_iterator",data:=.fields #[.ref l2,.int 0 0] }
abbrev zT3 (h:Heap)(l1 l2:Addr):Heap:=(zT2 h l1 l2).push { cls:=.type "tuple",data:=.seq #[.ref h.objs.size,.ref (zT1 h l1).objs.size] }
abbrev zT4 (h:Heap)(l1 l2:Addr):Heap:=(zT3 h l1 l2).push { cls:=.type "tuple",data:=.seq #[.none,.none] }
abbrev zT5 (h:Heap)(l1 l2:Addr):Heap:=(zT4 h l1 l2).push { cls:=.type "zip",data:=.fields #[.none,.bool false,.bool false,.ref (zT2 h l1 l2).objs.size,.ref (zT3 h l1 l2).objs.size] }
theorem a6X (l1 l2:Addr)(xs ys:Array Value) :
  Meets (Builtin.«zip.__new__» ⟨[.type "zip",.ref l1,.ref l2],[]⟩) (fun _ R s=>s.heap.IsTuple l1 xs/\s.heap.IsTuple l2 ys/\R (.ok (.ret (.ref (zT4 s.heap l1 l2).objs.size))) { s with heap:=zT5 s.heap l1 l2 }):=
 .of_wp fun prog w A R s h=>by
  obtain⟨hp,g,d,tk,os⟩:=s;obtain⟨hl1,hl2,h⟩:=h;have hsub:=sub_zip;have m1:Heap.IsTuple (Shared.heap ⟨hp,g,d,tk,os⟩) l1 xs:=hl1;have m2:Heap.IsTuple (Shared.heap ⟨hp.push { cls:=.type "tuple_iterator",data:=.fields #[.ref l1,.int 0 0] },g,d,tk,os⟩) l2 ys:=Heap.IsTuple.push hl2 _
  wp_walk using wpAny_pyIter_tuple m1,wpAny_pyIter_tuple m2
  exact⟨_,rfl,h⟩
theorem a8p {prog:Program}{w:World}{A:Around}{E:Vs0}{s:Shared}{l1 l2:Addr}{xs ys:Array Value}{Q:Vs0}(hl1:s.heap.IsTuple l1 xs)(hl2:s.heap.IsTuple l2 ys)
  (h:∀h',ZT h' (s.heap.objs.size+4) (s.heap.objs.size+2) (s.heap.objs.size+3) s.heap.objs.size (s.heap.objs.size+1) l1 l2 0 xs ys .none->h'.objs.size=s.heap.objs.size+5->(∀c o,s.heap.get? c=some o->h'.get? c=some o)->Q (.ref (s.heap.objs.size+4)) { s with heap:=h' }) :
  wpAny (model prog w) A (call (.type "zip") [.ref l1,.ref l2]) Q E s:=by
 refine callType_new F.called_zip (by decide) (F.typeCall_zip_2 _ _) (F.newCall_zip_2 _ _) (fun obj=>F.args_object_init_3 obj _ _) F.entry_zip_new (a6X l1 l2 xs ys) ⟨hl1,hl2,?_⟩;have z1:(zT1 s.heap l1).objs.size=s.heap.objs.size+1:=Heap.size_push ..;have z2:(zT2 s.heap l1 l2).objs.size=s.heap.objs.size+2:=by rw[Heap.size_push,z1]
 have z3:(zT3 s.heap l1 l2).objs.size=s.heap.objs.size+3:=by rw[Heap.size_push,z2]
 have z4:(zT4 s.heap l1 l2).objs.size=s.heap.objs.size+4:=by rw[Heap.size_push,z3]
 have z5:(zT5 s.heap l1 l2).objs.size=s.heap.objs.size+5:=by rw[Heap.size_push,z4]
 have kp:∀c o,s.heap.get? c=some o->(zT5 s.heap l1 l2).get? c=some o:=fun c o x=>hP0 _ (hP0 _ (hP0 _ (hP0 _ (hP0 _ x))));have g5:(zT5 s.heap l1 l2).get? (zT4 s.heap l1 l2).objs.size=some _:=hS0 _ rfl;have g4:(zT5 s.heap l1 l2).get? (zT3 s.heap l1 l2).objs.size=some _:=hP0 _ (hS0 _ rfl);have g3:(zT5 s.heap l1 l2).get? (zT2 s.heap l1 l2).objs.size=some _:=hP0 _ (hP0 _ (hS0 _ rfl));have g2:(zT5 s.heap l1 l2).get? (zT1 s.heap l1).objs.size=some _:=hP0 _ (hP0 _ (hP0 _ (hS0 _ rfl)));have g1:(zT5 s.heap l1 l2).get? s.heap.objs.size=some _:=hP0 _ (hP0 _ (hP0 _ (hP0 _ (hS0 _ rfl))));show _/\_;rw[z2,z3,z4] at g5;rw[z1,z2] at g3;rw[z3] at g4;rw[z1] at g2;rw[z4];refine⟨⟨_,g5,rfl⟩,h _ ⟨g5,g3,⟨_,_,g4⟩,⟨_,g1,rfl,rfl⟩,⟨_,g2,rfl,rfl⟩,?_,?_⟩ z5 kp⟩
 ·obtain⟨o,e,r⟩:=hl1;exact⟨o,kp _ o e,r⟩
 ·obtain⟨o,e,r⟩:=hl2;exact⟨o,kp _ o e,r⟩
end L2
namespace L2
open PySem PySem.Spec PyProof.Rows
section
variable {X:Cx}{U:List (Addr×Obj)}{σ:St}{H:Hp}{s:Shared}{h':Heap}
theorem Inv.turnedL {t':Nat}{ch:List Addr}(I:Inv X U σ H s)(k:∀b o,b∉ch->s.heap.get? b=some o->h'.get? b=some o)(f:∀b∈ch,a2X X U H b):Inv X U σ H { s with heap:=h',toks:=t' }:=by
 have nit:∀b u,H b=some u->b∉ch:=fun b u e z=>by rw[(f b z).1] at e;cases e
 refine I.step (g':=s.gens) (d':=s.drawn) (ch:=ch) (fun b hb=>?_) (fun b o _ _ hc e _=>k b o hc e) (fun b o _ _ hc e _=>⟨o.slots,k b o hc e⟩) (fun _ _ _ _ n=>n) (fun b o hc e=>⟨o,k b o hc e⟩) (fun _ _ e=>e) (fun _ _ _ e=>e) (fun b ps e=>⟨#[],by rw[e];simp⟩) (fun m hm=>?_) (fun b u e=>?_) I.bare
 ·obtain⟨f0,f1,f2,f3,f4,f5⟩:=f b hb
  exact⟨f3,f1,f4,f5⟩
 ·obtain⟨o,es,ep,ho,r⟩:=hm
  refine⟨o,es,ep,k _ o (fun z=>?_) ho,r⟩;obtain⟨f0,f1,_⟩:=f _ z;exact f1 rfl
 ·refine(I.hok b u e).stay (fun c v hc q=>k c v ?_ q) (fun _ q=>q) fun _ _ q=>q
  rcases hc with z |z
  ·rw[z];exact nit b u e
  ·exact nit c _ z
end
structure ZM (h:Heap) (z TI TO i1 i2 a b:Addr) (k:Nat):Prop where
 zp:IsZip h z TI TO .none
 ti:IsPair h TI (.ref i1) (.ref i2)
 to:∃u v,IsPair h TO u v
 j1:h.IsTupleIter i1 a k
 j2:h.IsTupleIter i2 b k
def ItZ (K:Fg0)(a b:Addr):It:=
 ⟨fun i H=>∃xs ys x y,SqT K H a xs/\SqT K H b ys/\xs[i]? =some x/\ys[i]? =some y,fun i H x H'=>∃u v p,(∀xs ys,SqT K H a xs->SqT K H b ys->xs[i]? =some u/\ys[i]? =some v)/\x=.ref p/\H p=none/\H'=upd H p (.tup [u,v]),fun i H=>∃xs ys,SqT K H a xs/\SqT K H b ys/\xs.length<=i⟩
theorem a7q {P:Program}{w:World}{K:Fg0}{es:List Expr}{x1:Nat}{tp:Pos}(a b z TI TO i1 i2:Addr)(D:ZipApart z TI TO i1 i2 a b):a8R P w K (.Tuple es x1 tp) (ItZ K a b) [z,TI,TO,i1,i2] z (fun i h=>ZM h z TI TO i1 i2 a b i) where
 mem:=by simp
 obj:=fun i h st c hc=>by
  obtain⟨s1,s2,⟨u,v,s3⟩,s4,s5⟩:=st;simp only[mK0,List.not_mem_nil,or_false] at hc;rcases hc with q |q |q |q |q
  ·subst q;exact⟨_,s1,fun v z=>by cases z⟩
  ·subst q;exact⟨_,s2,fun v z=>by cases z⟩
  ·subst q;exact⟨_,s3,fun v z=>by cases z⟩
  ·subst q;obtain⟨o,e,_,d⟩:=s4;exact⟨o,e,fun v z=>by rw[d] at z;cases z⟩
  ·subst q;obtain⟨o,e,_,d⟩:=s5;exact⟨o,e,fun v z=>by rw[d] at z;cases z⟩
 keep:=fun i h h' st k=>by
  obtain⟨s1,s2,⟨u,v,s3⟩,⟨o4,e4,r4⟩,⟨o5,e5,r5⟩⟩:=st;exact⟨k z (by simp) _ s1,k TI (by simp) _ s2,⟨u,v,k TO (by simp) _ s3⟩,⟨o4,k i1 (by simp) _ e4,r4⟩,⟨o5,k i2 (by simp) _ e5,r5⟩⟩
 item:=by
  intro X hP hw hK hc i U s σ H E I hf st hg;subst hP hw hK;obtain⟨s1,s2,s3,s4,s5⟩:=st;obtain⟨xs,ys,x,y,hq1,hq2,hx,hy⟩:=hg;obtain⟨its,rv,p,hz⟩:=I.tuple hq1;obtain⟨jts,rw',p',hz'⟩:=I.tuple hq2;obtain⟨u,hu,ru⟩:=rv.get hx;obtain⟨v,hv,rv'⟩:=rw'.get hy;have Z:ZT s.heap z TI TO i1 i2 a b i its.toArray jts.toArray .none:=⟨s1,s2,s3,s4,s5,p,p'⟩;refine a7h D Z (x:=u) (y:=v) (by simpa using hu) (by simpa using hv) fun h' Z' ht hsz kp=>?_;refine⟨_,rfl,?_⟩;refine wpAny_letOwnedTupleGo_zip (s:={ s with heap:=h' }) Z'.zp fun h'' zp'' sb=>?_;have zlt:z<s.heap.objs.size:=hL0 s1;have kp2:∀c o,c∉[z,TI,TO,i1,i2]->s.heap.get? c=some o->h''.get? c=some o:=fun c o hc e=>by
   simp only[mK0,List.not_mem_nil,or_false,not_or] at hc;exact(sb.2 c hc.1).trans (kp c o hc.1 hc.2.2.1 hc.2.2.2.1 hc.2.2.2.2 e)
  have I1:Inv X U σ H { s with heap:=h'' }:=I.turnedL (t':=s.toks) kp2 hf;have hp:H s.heap.objs.size=none:=I.hok.fresh (nR0 _);have e2:h''.get? s.heap.objs.size=some { cls:=.type "tuple",data:=.seq #[u,v] }:=(sb.2 _ (Nat.ne_of_gt zlt)).trans ht;have I2:Inv X U σ (upd H s.heap.objs.size (.tup [x,y])) { s with heap:=h'' }:=I1.track (I.our (nR0 _)) ⟨(show 2<=sizeLine by decide),[u,v],.cons ru (.cons rv' .nil),⟨_,e2,rfl,_,rfl⟩⟩;refine⟨.ref s.heap.objs.size,_,I2,rfl,⟨x,y,_,fun ws us h1 h2=>?_,rfl,hp,rfl⟩,?_,fun c hc=>?_⟩
  ·rw[I.tuple_inj h1 hq1,I.tuple_inj h2 hq2]
   exact⟨hx,hy⟩
  ·have up:∀c o,c≠z->h'.get? c=some o->h''.get? c=some o:=fun c o hc e=>(sb.2 c hc).trans e
   obtain⟨_,q2,⟨q3a,q3b,q3⟩,⟨o4,e4,r4⟩,⟨o5,e5,r5⟩,_,_⟩:=Z';exact⟨zp'',up _ _ D.TIz q2,⟨q3a,q3b,up _ _ D.TOz q3⟩,⟨o4,up _ _ D.i1z e4,r4⟩,⟨o5,up _ _ D.i2z e5,r5⟩⟩
  ·obtain⟨f0,_⟩:=hf c hc
   rw[a0h fun q=>?_]
   ·exact f0
   ·have lt:∀c o,s.heap.get? c=some o->c≠s.heap.objs.size:=fun c o e=>nL0 (hL0 e)
    obtain⟨q3a,q3b,q3⟩:=s3;obtain⟨o4,e4,_⟩:=s4;obtain⟨o5,e5,_⟩:=s5;simp only[mK0,List.not_mem_nil,or_false] at hc;rcases hc with r |r |r |r |r
    ·exact lt z _ s1 (r▸q)
    ·exact lt TI _ s2 (r▸q)
    ·exact lt TO _ q3 (r▸q)
    ·exact lt i1 _ e4 (r▸q)
    ·exact lt i2 _ e5 (r▸q)
 done:=by
  intro X hP hw hK hc i U s σ H E I hf st hg;subst hP hw hK;obtain⟨s1,s2,s3,s4,s5⟩:=st;obtain⟨xs,ys,hq1,hq2,hx⟩:=hg;obtain⟨its,rv,p,hz⟩:=I.tuple hq1;obtain⟨jts,rw',p',hz'⟩:=I.tuple hq2;have hl:=rv.length;have Z:ZT s.heap z TI TO i1 i2 a b i its.toArray jts.toArray .none:=⟨s1,s2,s3,s4,s5,p,p'⟩;refine a7u (I.ok.hd hc) D Z (by simp;omega) fun h' kp=>⟨rfl,I.turnedL (t':=s.toks) (fun c o hc e=>?_) hf⟩;simp only[mK0,List.not_mem_nil,or_false,not_or] at hc;exact kp c o hc.1 hc.2.2.1 hc.2.2.2.1 hc.2.2.2.2 e
 self:=fun A i s Q E st h=>wpAny_pyIter_zip st.zp h
section
variable {X:Cx}
theorem boot_zip:bootBuiltins "zip"=some (.type "zip"):=by decide +kernel
def b3o (K:Fg0)(ta:TA):TI:=fun σ H R=>ta σ H fun vs H1=>∃a b,vs=[.ref a,.ref b]/\(∃xs,SqT K H1 a xs)/\(∃ys,SqT K H1 b ys)/\R (ItZ K a b) H1
theorem b1p {es:List Expr}{x1:Nat}{tp:Pos}{l m:Expr}{ta:TA}{p pos:Pos}(hg:Gl X "zip")(hm:X.mg "zip"=none)(ha:PA X [l,m] ta)(hs:starEach [l,m] X.env=(false,eval l X.env)::starEach [m] X.env:=by rfl)(hpl:(backTo pos (starEach [m] X.env)).any (·.1)=false:=by rfl) :
  PI X (.Tuple es x1 tp) (.Call (.Name "zip" p) [l,m] [] pos) (b3o X.K ta):=by
 intro U s σ H R I h;refine Call_ (a3b I hg hm boot_zip (PyProof.Rows.callWith_type1 (thn (ha pos U s σ H _ I h) fun us s1 ⟨vs,H1,I1,r1,q1⟩=>?_) hs hpl));obtain⟨a,b,e,⟨xs,hq1⟩,⟨ys,hq2⟩,q⟩:=q1;subst e;obtain⟨u,v,rfl,rx,ry⟩:=a7J r1;cases rx;cases ry;obtain⟨its,rv,p1,hz⟩:=I1.tuple hq1;obtain⟨jts,rw',p2,hz'⟩:=I1.tuple hq2;have la:a<s1.heap.objs.size:=by obtain⟨o,e,_⟩:=p1;exact hL0 e
 have lb:b<s1.heap.objs.size:=by obtain⟨o,e,_⟩:=p2;exact hL0 e
 have D:ZipApart (s1.heap.objs.size+4) (s1.heap.objs.size+2) (s1.heap.objs.size+3) s1.heap.objs.size (s1.heap.objs.size+1) a b:=by
  generalize s1.heap.objs.size=n at la lb
  constructor<;>(intro z;simp only[Addr] at *;omega)
 refine a8p p1 p2 fun h' Z hsz hk=>?_;have I2:Inv X U σ H1 { s1 with heap:=h' }:=I1.kept (t':=s1.toks) hk;refine wpAny_pyIter_zip (s:={ s1 with heap:=h' }) Z.zp ?_;refine⟨s1.heap.objs.size+4,[s1.heap.objs.size+4,s1.heap.objs.size+2,s1.heap.objs.size+3,s1.heap.objs.size,s1.heap.objs.size+1],_,_,H1,rfl,I2,a7q a b _ _ _ _ _ D,⟨Z.zp,Z.ti,Z.to,Z.j1,Z.j2⟩,fun c hc=>?_,q⟩;have nb:s1.heap.objs.size<=c:=by
  simp only[mK0,List.not_mem_nil,or_false] at hc;rcases hc with r |r |r |r |r<;>(rw[r];first |exact nR0 _ |exact Nat.le_add_right _ _)
 exact I1.fpOk nb (I1.hok.fresh nb)
theorem a9c {K:Fg0}{a b:Addr}{xs ys:List V}{g:TG}{tb:TS}{D:a3I}{σ:St}{H:Hp}(Pv:Nat->St->Hp->Prop)(hlen:xs.length=ys.length)(h0:Pv 0 σ H)(hl:∀i σ H,i<=xs.length->Pv i σ H->SqT K H a xs/\SqT K H b ys)
  (hs:∀i x y p σ H,xs[i]? =some x->ys[i]? =some y->Pv i σ H->H p=none->g (.ref p) σ (upd H p (.tup [x,y])) fun σ2 H2=>tb { D with nx:=Pv (i+1),ct:=Pv (i+1),bk:=D.nx } σ2 H2) (hd:∀σ H,Pv xs.length σ H->D.nx σ H) :
  ∃W:Nat->Nat->St->Hp->Prop,(∃m,W 0 m σ H)/\∀i m σ H,W i m σ H →
   ((ItZ K a b).stop i H/\D.nx σ H)\/((ItZ K a b).go i H/\∃N:St->Hp->Prop,(∀σ' H',N σ' H'->∃m',m'<m/\W (i+1) m' σ' H')/\∀x H',(ItZ K a b).yld i H x H'->g x σ H' fun σ2 H2=>tb { D with nx:=N,ct:=N,bk:=D.nx } σ2 H2):=by
 refine⟨fun i m σ H=>m=xs.length-i/\i<=xs.length/\Pv i σ H,⟨xs.length,by simp,zL0 _,h0⟩,?_⟩;rintro i m σ H ⟨rfl,hi,p⟩;obtain⟨q1,q2⟩:=hl i σ H hi p
 by_cases hlt:i<xs.length
 ·have hlt2:i<ys.length:=by omega
  refine .inr ⟨⟨xs,ys,xs[i],ys[i],q1,q2,by simp[hlt],by simp[hlt2]⟩,Pv (i+1),fun σ' H' p'=>⟨xs.length-(i+1),by omega,rfl,hlt,p'⟩,fun x H' y=>?_⟩;obtain⟨u,v,pa,hk,ex,hn,e⟩:=y;subst e ex;exact hs i u v pa σ H (hk xs ys q1 q2).1 (hk xs ys q1 q2).2 p hn
 ·have e:i=xs.length:=by omega
  subst e;exact .inl ⟨⟨xs,ys,q1,q2,nR0 _⟩,hd σ H p⟩
end
end L2
namespace My
open PySem L2 PyProof.Rows
def top (i:Nat):Stmt:=PySem.Challenge.pw_halfmoved_k06_what_is_no_form.main.body.getD i (.Pass ⟨0,0,0,0⟩)
section
variable {P:Program}{w:World}{K:Fg0}{mg:Str->Option Value}{base:Heap}
theorem a7W {f:Addr}{fd:FuncData}(F:Fun K "_law_cell" "_law_cell" (top 34) f fd)(B:Bl mg):a0K P w K mg base CX0 1 f fd ["_law_script","_law_k"] (a7o K):=by
 have sc:a0o ["_law_script","_law_k","_law_number"] ["_law_script","_law_k"] (a0f (top 34)):=.k (by decide +kernel);refine F.ok sc (fun vs H Q E h=>?_) (fun cdv A outer s H vs Q E hr h=>?_)
 ·obtain⟨a,ns,k,rfl,_⟩:=h
  rfl
 ·obtain⟨a,ns,k,rfl,hS,h0,h1,h63,q⟩:=h
  have hl:(ns.map V.int).length=ns.length:=lM0 ..;refine⟨_,a0d (a0z (a0t a9z (pv 1) (a0i a0E (by rfl) B.len PySem.boot_len (a0a (pv 0) a0b)) (a0w _)) (a0g (a0r (a0W a0F (pv 0) (pv 1) (fun _ _=>rfl)))) a0j)
   (a0d (a0s (i:=2) sc.nd rfl (Or.inl rfl) (a0m a1d (a0m a6c (pv 1) a0e) a0e))
   (a0d (a0z (a0t a9f (a0i a0E (by rfl) B.len PySem.boot_len (a0a (pv 0) a0b)) a0e (a0w _))
    (a0g (a0s (i:=2) sc.nd rfl (Or.inl rfl) (a0m a1d (pv 2) (a0m a6c (a0m a0M (a0W a0F (pv 0) (a0m a0M (pv 1) (a0i a0E (by rfl) B.len PySem.boot_len (a0a (pv 0) a0b))) (fun _ _=>rfl)) a0e) a0e)))) a0j)
   (a0g (a0r (a0m a0M (pv 2) a0e))))),?_⟩
  refine⟨_,rfl,_,rfl,_,_,rfl,.inl hS,_,_,rfl,rfl,_,rfl,?_⟩;refine a3j (fun c=>?_) (fun c=>?_)
  ·have c':k<ns.length:=by rw[<-hl];exact of_decide_eq_true c
   refine⟨_,rfl,_,rfl,_,_,_,_,rfl,rfl,hS,a5t h0 c',?_⟩;have e:a1E ns k=ns.getD k.toNat 0:=by unfold a1E;rw[if_pos c']
   rw[e] at q;exact q
  ·have c':¬k<ns.length:=fun z=>c (dT0 (by rw[hl];exact z))
   refine⟨_,rfl,_,_,rfl,rfl,.inr ⟨by decide,by decide⟩,_,_,rfl,rfl,?_⟩;refine⟨_,rfl,_,_,rfl,.inl hS,_,_,rfl,rfl,_,rfl,?_⟩;refine a3j (fun c2=>?_) (fun c2=>?_)
   ·have c3:(0:Int)<ns.length:=by rw[<-hl];exact of_decide_eq_true c2
    have m0:0<=k%(ns.length:Int):=Int.emod_nonneg _ (by omega);have m1:k%(ns.length:Int)<ns.length:=Int.emod_lt_of_pos _ c3;refine⟨_,rfl,_,rfl,_,rfl,_,rfl,_,_,rfl,.inl hS,_,_,rfl,rfl,(by rw[hl];exact c3),_,_,_,_,rfl,rfl,hS,(by rw[hl];exact a5t m0 m1),_,_,rfl,rfl,(pos rfl),_,_,rfl,rfl,.inr ⟨by decide,by decide⟩,_,_,rfl,rfl,?_⟩;refine⟨_,rfl,_,_,rfl,rfl,(pos rfl),?_⟩;have e:a1E ns k=(k * 7919+5+ns.getD (k%ns.length).toNat 0%2147483647 * 48271)%2147483647:=by
     unfold a1E;rw[if_neg c',if_pos (by omega)]
    rw[e] at q;exact q
   ·have c3:¬0<ns.length:=fun z=>c2 (dT0 (by rw[hl];omega))
    refine⟨_,rfl,_,_,rfl,rfl,(pos rfl),?_⟩;have e:a1E ns k=(k * 7919+5)%2147483647:=by
     unfold a1E;rw[if_neg c',if_neg c3,Int.add_zero]
    rw[e] at q;exact q
theorem a6s {f:Addr}{fd:FuncData}(F:Fun K "is_whole" "is_whole" (top 21) f fd)(B:Bl mg):a0K P w K mg base CX0 1 f fd ["thing"] (a4d K):=by
 have sc:a0o ["thing"] ["thing"] (a0f (top 21)):=.k (by decide +kernel);refine F.ok sc (fun vs H Q E h=>?_) (fun cdv A outer s H vs Q E hr h=>?_)
 ·obtain⟨v,n,rfl,_⟩:=h
  rfl
 ·obtain⟨v,n,rfl,⟨ty,hn⟩,q⟩:=h
  refine⟨_,a0g (a0r (a1T (a0i a2e (by rfl) B.isi boot_isi (a0a (pv 0) (a0a (a1b (v:=.ty "int") (by rfl) B.int boot_int rfl) a0b)))
   (a2j (a7z (a0i a2e (by rfl) B.isi boot_isi (a0a (pv 0) (a0a (a1b (v:=.ty "bool") (by rfl) B.bool boot_bool rfl) a0b))))))),?_⟩
  refine⟨_,rfl,_,_,_,_,rfl,ty,a2o.trans (b1c n hn),_,rfl,?_⟩;refine a3j (fun c=>?_) (fun c=>?_)
  ·refine⟨_,rfl,_,_,_,_,rfl,ty,a2o.trans (a9J n hn),_,rfl,?_⟩
   have e:(!(n=="bool"))=(n=="int"):=by
    revert c hn
    clear ty q
    revert n
    decide +kernel
   rw[e];exact q
  ·have e:(n=="int")=false:=by
    cases z:n=="int" with
    |false=>rfl
    |true=>rw[z] at c;exact(c rfl).elim
   rw[e] at q;exact q
def a3d:Dt->Bool
 | .int _=>true
 |_=>false
def a8Z (l:List Nat):Bool:=match l with
 |[c]=>decide (32<=c)&&(decide (c<=126)&&!decide (c=37))
 |_=>false
def a5j:Dt->Bool
 | .str z=>a8Z z.cps.toList
 |_=>false
def geD:Dt->Bool
 | .int i=>decide (1<=i)
 |_=>false
def a2k (s b:Dt):Bool:=if a0u s "below"=true then geD b else if a0u s "upto"=true then a3d b else a0u s "without"&&a5j b
def w2:List Str:=["whole","word"]
def w3:List Str:=["list","some","once"]
def a1I:Dt->Bool
 | .tup [s]=>w2.any (a0u s)
 | .tup [s,b]=>a2k s b
 |_=>false
def a4C:Dt->Bool
 | .tup [s]=>a0u s "key"
 | .tup [s,b]=>w3.any (a0u s)&&a1I b
 |_=>false
def a1x (d:Dt):Bool:=a1I d || a4C d
theorem a2I (d:Dt):(tyD d=="int")=a3d d:=by cases d<;>simp[tyD,a3d]
theorem b0U {f:Addr}{fd:FuncData}(F:Fun K "is_sign" "is_sign" (top 23) f fd)(B:Bl mg){uP:Value}(hP:mg "PERCENT"=some uP)(rP:a0X (.int 37) uP) :
  a0K P w K mg base CX0 1 f fd ["thing"] (fun vs H Q _=>∃(v:V) (d:Dt),vs=[v]/\Rep H d v/\Q (.bl (a5j d)) H):=by
 have sc:a0o ["thing"] ["thing"] (a0f (top 23)):=.k (by decide +kernel);refine F.ok sc (fun vs H Q E h=>?_) (fun cdv A outer s H vs Q E hr h=>?_)
 ·obtain⟨v,d,rfl,_⟩:=h
  rfl
 ·obtain⟨v,d,rfl,hd,q⟩:=h
  refine⟨_,a0d (a0z (PW.pt (a3M (a1s (a0S (a0i a2e (by rfl) B.isi boot_isi (a0a (pv 0) (a0a (a1b (v:=.ty "str") (by rfl) B.str boot_str rfl) a0b)))))
    (a3a (a0t a6D (a0i a2t (by rfl) B.len PySem.boot_len (a0a (pv 0) a0b)) a0e (a0w _))))) (a0g (a0r a3f)) a0j)
   (a0g (a0r (a1T (a9u a4I a4I a0p (pv 0) a0p) (a2j (a1h a6D (a0i a8X (by rfl) B.ord boot_ord (a0a (pv 0) a0b)) (a0x (by rfl) hP rP) (a0w _)))))),?_⟩
  by_cases hs:tyD d="str"
  ·obtain⟨z,rfl⟩:∃z,d=.str z:=by
    cases d<;>first |exact⟨_,rfl⟩ | (simp[tyD] at hs)
   unfold Rep at hd;obtain⟨rfl,hz⟩:=hd;have hzs:z.length<=sizeLine:=by rw[sizeLine_eq];omega
   refine⟨_,rfl,_,_,_,_,rfl,.str z,a2o.trans (show a2l "str" "str"=some true by decide +kernel),_,rfl,?_⟩;refine a2z ?_;refine⟨_,rfl,_,rfl,hzs,rfl,_,rfl,?_⟩;have hl:z.cps.toList.length=z.length:=by simp[Str.length]
   by_cases h1:z.length=1
   ·obtain⟨c,hc⟩:∃c,z.cps.toList=[c]:=by
     rw[h1] at hl
     match h:z.cps.toList,hl with
     |[c],_=>exact⟨c,rfl⟩
    have hg:z.cps.getD 0 0=c:=by
     have:z.cps=#[c]:=by rw[<-Array.toArray_toList (xs:=z.cps),hc]
     rw[this]
     rfl
    refine a2d (by rw[h1];rfl) ?_;have hq:a5j (.str z)=(decide (32<=c)&&(decide (c<=126)&&!decide (c=37))):=by
     show a8Z z.cps.toList=_;rw[hc]
     rfl
    rw[hq] at q;have e32:(" ":Str).cps.toList=[32]:=by decide +kernel
    have e126:("~":Str).cps.toList=[126]:=by decide +kernel
    have l1:(!decide (z.cps.toList<(" ":Str).cps.toList))=decide (32<=c):=by
     rw[hc,e32,StrLaws.lt_cons_cons,StrLaws.lt_nil_nil,Bool.and_false,Bool.or_false]
     by_cases h:32<=c
     ·rw[dT0 h,dF0 (by omega)];rfl
     ·rw[dF0 h,dT0 (by omega)];rfl
    have l2:(!decide (("~":Str).cps.toList<z.cps.toList))=decide (c<=126):=by
     rw[hc,e126,StrLaws.lt_cons_cons,StrLaws.lt_nil_nil,Bool.and_false,Bool.or_false]
     by_cases h:c<=126
     ·rw[dT0 h,dF0 (by omega)];rfl
     ·rw[dF0 h,dT0 (by omega)];rfl
    refine⟨_,rfl,_,_,rfl,rfl,_,rfl,?_⟩
    by_cases h32:32<=c
    ·refine a3K (l1.trans (dT0 h32)) ?_
     refine⟨_,_,rfl,rfl,_,rfl,?_⟩;rw[dT0 h32,Bool.true_and] at q
     by_cases h126:c<=126
     ·refine a3K (l2.trans (dT0 h126)) ?_
      rw[dT0 h126,Bool.true_and] at q;refine⟨_,rfl,_,rfl,h1,rfl,?_⟩;have e:decide (V.int (z.cps.getD 0 0:Nat)=V.int 37)=decide (c=37):=by
       rw[hg];exact a6L (k:=37)
      rw[e];exact q
     ·refine a2d (l2.trans (dF0 h126)) ?_
      rw[dF0 h126,Bool.false_and] at q;exact q
    ·refine a2d (l1.trans (dF0 h32)) ?_
     rw[dF0 h32,Bool.false_and] at q;exact⟨_,rfl,a2z q⟩
   ·refine a3K ?_ ?_
    ·have e:decide (V.int (z.length:Int)=V.int 1)=decide (z.length=1):=a6L (k:=1)
     rw[e,dF0 h1]
     rfl
    ·have hq:a5j (.str z)=false:=by
      show a8Z z.cps.toList=_;rw[<-hl] at h1
      match h:z.cps.toList,h1 with
      |[],_=>rfl
      |[c],h1=>exact(h1 rfl).elim
      |_::_::_,_=>rfl
     rw[hq] at q;exact q
  ·have e:(tyD d=="str")=false:=beq_eq_false_iff_ne.mpr hs
   have hi:=hd.is (K:=K);refine⟨_,rfl,_,_,_,_,rfl,hi.1,a2o.trans ((a7N _ hi.2).trans (congrArg some e)),_,rfl,?_⟩;refine a3R ?_;have hq:a5j d=false:=by
    cases d<;>first |rfl |exact(hs rfl).elim
   rw[hq] at q;exact q
theorem b0B {f fW fS:Addr}{fd fdW fdS:FuncData}(F:Fun K "is_plain_pair" "is_plain_pair" (top 25) f fd)(B:Bl mg)(DW:Df K mg "is_whole" (top 21) fW fdW)(DS:Df K mg "is_sign" (top 23) fS fdS){uP:Value}(hP:mg "PERCENT"=some uP)(rP:a0X (.int 37) uP) :
  a0K P w K mg base CX0 2 f fd ["sort","bound"] (fun vs H Q _=>∃(u v:V) (s b:Dt),vs=[u,v]/\Rep H s u/\Rep H b v/\Q (.bl (a2k s b)) H):=by
 have sc:a0o ["sort","bound"] ["sort","bound"] (a0f (top 25)):=.k (by decide +kernel);have GW:a0K P w K mg base CX0 1 fW fdW ["thing"] (a4d K):=a6s DW.fn B;have GS:=b0U (P:=P) (w:=w) (base:=base) DS.fn B hP rP;have bW:=DW.fn.b1 "thing" (by intros;rfl);have bS:=DS.fn.b1 "thing" (by intros;rfl);refine F.ok sc (fun vs H Q E h=>?_) (fun cdv A outer s H vs Q E hr h=>?_)
 ·obtain⟨u,v,s,b,rfl,_⟩:=h
  rfl
 ·obtain⟨u,v,ds,db,rfl,hds,hdb,q⟩:=h
  have hu:(A.deeper (envOfC "is_plain_pair" (a0f (top 25)) s.heap.objs.size f cdv)).units<cLine:=hr.units0;refine⟨_,a0d (a0z (a0t (a6l hu) (pv 0) a0p (a0w _)) (a0g (a0r (a1T (a0k GW hr (by rfl) DW.mg DW.fn.kp bW .nil a0G (a0a (pv 1) a0b)) (a2j (a1h b3B (pv 1) a0e (a0w _)))))) a0j)
   (a0d (a0z (a0t (a6l hu) (pv 0) a0p (a0w _)) (a0g (a0r (a0k GW hr (by rfl) DW.mg DW.fn.kp bW .nil a0G (a0a (pv 1) a0b)))) a0j)
   (a0g (a0r (a1T (a1h (a6l hu) (pv 0) a0p (a0w _)) (a2j (a0k GS hr (by rfl) DS.mg DS.fn.kp bS .nil a0G (a0a (pv 1) a0b))))))),?_⟩
  refine⟨_,rfl,ds,_,hds,rfl,_,rfl,?_⟩
  by_cases c1:a0u ds "below"=true
  ·refine a3K c1 ?_
   have e:a2k ds db=geD db:=by unfold a2k;rw[if_pos c1]
   rw[e] at q;refine⟨_,rfl,_,_,rfl,hdb.is,_,rfl,?_⟩
   by_cases hw:a3d db=true
   ·refine a3K ((a2I db).trans hw) ?_
    obtain⟨i,rfl⟩:∃i,db=.int i:=by
     cases db<;>first |exact⟨_,rfl⟩ | (simp[a3d] at hw)
    unfold Rep at hdb;subst hdb;exact⟨_,rfl,_,_,rfl,rfl,q⟩
   ·refine a2d ((a2I db).trans (by simpa using hw)) ?_
    have e2:geD db=false:=by
     cases db<;>first |rfl |exact(hw rfl).elim
    rw[e2] at q;exact q
  ·refine a2d (by simpa using c1) ?_
   refine⟨_,rfl,ds,_,hds,rfl,_,rfl,?_⟩
   by_cases c2:a0u ds "upto"=true
   ·refine a3K c2 ?_
    have e:a2k ds db=a3d db:=by unfold a2k;rw[if_neg c1,if_pos c2]
    rw[e,<-a2I db] at q;exact⟨_,rfl,_,_,rfl,hdb.is,q⟩
   ·refine a2d (by simpa using c2) ?_
    have e:a2k ds db=(a0u ds "without"&&a5j db):=by unfold a2k;rw[if_neg c1,if_neg c2]
    rw[e] at q;refine⟨_,rfl,ds,_,hds,rfl,_,rfl,?_⟩
    by_cases c3:a0u ds "without"=true
    ·refine a3K c3 ?_
     rw[c3,Bool.true_and] at q;exact⟨_,rfl,_,_,rfl,hdb,q⟩
    ·refine a2d (by simpa using c3) ?_
     rw[(by simpa using c3:a0u ds "without"=false),Bool.false_and] at q;exact q
def a8d:Sp:=fun vs H Q _=>∃(v:V) (d:Dt),vs=[v]/\Rep H d v/\∀H',a0l H H'->Q (.bl (a1I d)) H'
theorem a9d {f fW fS fR:Addr}{fd fdW fdS fdR:FuncData}(F:Fun K "is_plain" "is_plain" (top 24) f fd)(B:Bl mg)(DW:Df K mg "is_whole" (top 21) fW fdW)(DS:Df K mg "is_sign" (top 23) fS fdS)(DR:Df K mg "is_plain_pair" (top 25) fR fdR)
  {uP:Value} (hP:mg "PERCENT"=some uP) (rP:a0X (.int 37) uP):a0K P w K mg base CX0 3 f fd ["thing"] a8d:=by
 have sc:a0o ["thing"] ["thing"] (a0f (top 24)):=.k (by decide +kernel);have GR:=b0B (P:=P) (w:=w) (base:=base) DR.fn B DW DS hP rP;have bR:=DR.fn.b2 "sort" "bound" (by intros;rfl);refine F.ok sc (fun vs H Q E h=>?_) (fun cdv A outer s H vs Q E hr h=>?_)
 ·obtain⟨v,d,rfl,_⟩:=h
  rfl
 ·obtain⟨v,d,rfl,hd,q⟩:=h
  have hu:=a3A hr;refine⟨_,a0d (a0z (a1s (a0S (a0i a2e (by rfl) B.isi boot_isi (a0a (pv 0) (a0a (a1b (v:=.ty "tuple") (by rfl) B.tuple boot_tuple rfl) a0b))))) (a0g (a0r a3f)) a0j)
   (a0d (a0z (a0t a1p (a0i a0E (by rfl) B.len PySem.boot_len (a0a (pv 0) a0b)) a0e (a0w _)) (a0g (a0r (a1h (a9X hu) (a0W a2c (pv 0) a0e (fun _ _=>rfl)) (a0L (a0a a0p (a0a a0p a0b))) (by with_unfolding_all rfl)))) a0j)
   (a0g (a0r (a1T (a1h a1p (a0i a0E (by rfl) B.len PySem.boot_len (a0a (pv 0) a0b)) a0e (a0w _))
    (a2j (a0k GR hr (by rfl) DR.mg DR.fn.kp bR .nil a0G (a0a (a0W a2c (pv 0) a0e (fun _ _=>rfl)) (a0a (a0W a2c (pv 0) a0e (fun _ _=>rfl)) a0b)))))))),?_⟩
  have hi:=hd.is (K:=K)
  by_cases ht:tyD d="tuple"
  ·obtain⟨ds,rfl⟩:∃ds,d=.tup ds:=by
    cases d<;>first |exact⟨_,rfl⟩ | (simp[tyD] at ht)
   have hd':=hd;unfold Rep at hd';obtain⟨a,xs,rfl,ha,hr2⟩:=hd';have hl:=hr2.length;refine⟨_,rfl,_,_,_,_,rfl,hi.1,a2o.trans (show a2l "tuple" "tuple"=some true by decide +kernel),_,rfl,?_⟩;refine a2z ?_;refine⟨_,rfl,_,_,rfl,.inr (SqT.of ha),rfl,_,rfl,?_⟩;have e1:decide (V.int (xs.length:Int)=V.int 1)=decide (xs.length=1):=a6L (k:=1);have e2:decide (V.int (xs.length:Int)=V.int 2)=decide (xs.length=2):=a6L (k:=2)
   match ds,hr2,hl,q with
   |[],hr2,hl,q=>
    refine a2d (e1.trans (dF0 (by rw[hl];simp))) ?_;refine⟨_,rfl,_,_,rfl,.inr (SqT.of ha),rfl,_,rfl,?_⟩;refine a2d (e2.trans (dF0 (by rw[hl];simp))) ?_;exact q H (a0l.refl H)
   |[d0],hr2,hl,q=>
    refine a3K (e1.trans (dT0 hl)) ?_;unfold a0V at hr2;obtain⟨v0,r0,rfl,h0,hn⟩:=hr2;unfold a0V at hn;subst hn;refine⟨_,rfl,_,_,_,v0,rfl,rfl,SqT.of ha,rfl,?_⟩;refine⟨(by decide),fun p hp=>?_⟩;have sm:=a0l.upd (o:=.tup [.str "whole",.str "word"]) hp;exact⟨d0,p,w2,h0.same sm,rfl,a0c,q _ sm⟩
   |[d0,d1],hr2,hl,q=>
    refine a2d (e1.trans (dF0 (by rw[hl];simp))) ?_;unfold a0V at hr2;obtain⟨v0,r0,rfl,h0,hn⟩:=hr2;unfold a0V at hn;obtain⟨v1,r1,rfl,h1,hn⟩:=hn;unfold a0V at hn;subst hn;refine⟨_,rfl,_,_,rfl,.inr (SqT.of ha),rfl,_,rfl,?_⟩;refine a3K (e2.trans (dT0 hl)) ?_;refine⟨_,rfl,_,_,_,v0,rfl,rfl,SqT.of ha,rfl,_,rfl,_,_,_,v1,rfl,rfl,SqT.of ha,rfl,?_⟩;exact⟨v0,v1,d0,d1,rfl,h0,h1,q H (a0l.refl H)⟩
   |d0::d1::d2::r,hr2,hl,q=>
    refine a2d (e1.trans (dF0 (by rw[hl];simp))) ?_;refine⟨_,rfl,_,_,rfl,.inr (SqT.of ha),rfl,_,rfl,?_⟩;refine a2d (e2.trans (dF0 (by rw[hl];simp))) ?_;exact q H (a0l.refl H)
  ·have e:(tyD d=="tuple")=false:=beq_eq_false_iff_ne.mpr ht
   refine⟨_,rfl,_,_,_,_,rfl,hi.1,a2o.trans ((a4B _ hi.2).trans (congrArg some e)),_,rfl,?_⟩;refine a3R ?_;have hq:a1I d=false:=by
    cases d<;>first |rfl |exact(ht rfl).elim
   have:=q H (a0l.refl H)
   rw[hq] at this;exact this
def a8u:Sp:=fun vs H Q _=>∃(v:V) (d:Dt),vs=[v]/\Rep H d v/\∀H',a0l H H'->Q (.bl (a1x d)) H'
theorem b1D {f fP:Addr}{fd fdP:FuncData}(F:Fun K "is_kind" "is_kind" (top 26) f fd)(B:Bl mg)(DP:Df K mg "is_plain" (top 24) fP fdP)(GP:a0K P w K mg base CX0 3 fP fdP ["thing"] a8d):a0K P w K mg base CX0 4 f fd ["thing"] a8u:=by
 have sc:a0o ["thing"] ["thing"] (a0f (top 26)):=.k (by decide +kernel);have bP:=DP.fn.b1 "thing" (by intros;rfl);refine F.ok sc (fun vs H Q E h=>?_) (fun cdv A outer s H vs Q E hr h=>?_)
 ·obtain⟨v,d,rfl,_⟩:=h
  rfl
 ·obtain⟨v,d,rfl,hd,q⟩:=h
  have hu:=a3A hr;refine⟨_,a0d (a0z (a0S (a0k GP hr (by rfl) DP.mg DP.fn.kp bP .nil a0G (a0a (pv 0) a0b))) (a0g (a0r a3f)) a0j)
   (a0d (a0z (a1s (a0S (a0i a2e (by rfl) B.isi boot_isi (a0a (pv 0) (a0a (a1b (v:=.ty "tuple") (by rfl) B.tuple boot_tuple rfl) a0b))))) (a0g (a0r a3f)) a0j)
   (a0d (a0z (a0t a1p (a0i a0E (by rfl) B.len PySem.boot_len (a0a (pv 0) a0b)) a0e (a0w _)) (a0g (a0r (a1h (a6l (Nat.lt_of_succ_lt hu)) (a0W a2c (pv 0) a0e (fun _ _=>rfl)) a0p (a0w _)))) a0j)
   (a0g (a0r (a1T (a1h a1p (a0i a0E (by rfl) B.len PySem.boot_len (a0a (pv 0) a0b)) a0e (a0w _))
    (a1T (a1h (a9X hu) (a0W a2c (pv 0) a0e (fun _ _=>rfl)) (a0L (a0a a0p (a0a a0p (a0a a0p a0b)))) (by with_unfolding_all rfl))
    (a2j (a0k GP hr (by rfl) DP.mg DP.fn.kp bP .nil a0G (a0a (a0W a2c (pv 0) a0e (fun _ _=>rfl)) a0b))))))))),?_⟩
  refine⟨_,rfl,v,d,rfl,hd,fun H1 s1=>?_⟩;refine⟨_,rfl,?_⟩
  by_cases hp:a1I d=true
  ·refine a3K hp ?_
   have e:a1x d=true:=by unfold a1x;rw[hp];rfl
   have:=q H1 s1
   rw[e] at this;exact this
  ·refine a2d (by simpa using hp) ?_
   have ek:a1x d=a4C d:=by unfold a1x;rw[(by simpa using hp:a1I d=false)];rfl
   rw[ek] at q;have hd1:=hd.same s1;have hi:=hd1.is (K:=K)
   by_cases ht:tyD d="tuple"
   ·obtain⟨ds,rfl⟩:∃ds,d=.tup ds:=by
     cases d<;>first |exact⟨_,rfl⟩ | (simp[tyD] at ht)
    have hd':=hd1;unfold Rep at hd';obtain⟨a,xs,rfl,ha,hr2⟩:=hd';have hl:=hr2.length;refine⟨_,rfl,_,_,_,_,rfl,hi.1,a2o.trans (show a2l "tuple" "tuple"=some true by decide +kernel),_,rfl,?_⟩;refine a2z ?_;refine⟨_,rfl,_,_,rfl,.inr (SqT.of ha),rfl,_,rfl,?_⟩;have e1:decide (V.int (xs.length:Int)=V.int 1)=decide (xs.length=1):=a6L (k:=1);have e2:decide (V.int (xs.length:Int)=V.int 2)=decide (xs.length=2):=a6L (k:=2)
    match ds,hr2,hl,q with
    |[],hr2,hl,q=>
     refine a2d (e1.trans (dF0 (by rw[hl];simp))) ?_;refine⟨_,rfl,_,_,rfl,.inr (SqT.of ha),rfl,_,rfl,?_⟩;refine a2d (e2.trans (dF0 (by rw[hl];simp))) ?_;exact q H1 s1
    |[d0],hr2,hl,q=>
     refine a3K (e1.trans (dT0 hl)) ?_;unfold a0V at hr2;obtain⟨v0,r0,rfl,h0,hn⟩:=hr2;unfold a0V at hn;subst hn;refine⟨_,rfl,_,_,_,v0,rfl,rfl,SqT.of ha,rfl,?_⟩;exact⟨d0,_,h0,rfl,q H1 s1⟩
    |[d0,d1],hr2,hl,q=>
     refine a2d (e1.trans (dF0 (by rw[hl];simp))) ?_;unfold a0V at hr2;obtain⟨v0,r0,rfl,h0,hn⟩:=hr2;unfold a0V at hn;obtain⟨v1,r1,rfl,h1,hn⟩:=hn;unfold a0V at hn;subst hn;refine⟨_,rfl,_,_,rfl,.inr (SqT.of ha),rfl,_,rfl,?_⟩;refine a3K (e2.trans (dT0 hl)) ?_;refine⟨_,rfl,_,_,_,v0,rfl,rfl,SqT.of ha,rfl,?_⟩;refine⟨(by decide),fun p hp'=>?_⟩;have sm:=a0l.upd (o:=.tup [.str "list",.str "some",.str "once"]) hp';have s2:=s1.trans sm;refine⟨d0,p,w3,h0.same sm,rfl,a0c,_,rfl,?_⟩;have em:a4C (.tup [d0,d1])=(w3.any (a0u d0)&&a1I d1):=rfl;rw[em] at q
     by_cases c:w3.any (a0u d0)=true
     ·refine a3K c ?_
      rw[c,Bool.true_and] at q;refine⟨_,rfl,_,_,_,v1,rfl,rfl,SqT.of (sm _ _ ha),rfl,?_⟩;exact⟨v1,d1,rfl,h1.same sm,fun H3 s3=>q H3 (s2.trans s3)⟩
     ·refine a2d (by simpa using c) ?_
      rw[(by simpa using c:w3.any (a0u d0)=false),Bool.false_and] at q;exact q _ s2
    |d0::d1::d2::r,hr2,hl,q=>
     refine a2d (e1.trans (dF0 (by rw[hl];simp))) ?_;refine⟨_,rfl,_,_,rfl,.inr (SqT.of ha),rfl,_,rfl,?_⟩;refine a2d (e2.trans (dF0 (by rw[hl];simp))) ?_;exact q H1 s1
   ·have e:(tyD d=="tuple")=false:=beq_eq_false_iff_ne.mpr ht
    refine⟨_,rfl,_,_,_,_,rfl,hi.1,a2o.trans ((a4B _ hi.2).trans (congrArg some e)),_,rfl,?_⟩;refine a3R ?_;have hq:a4C d=false:=by
     cases d<;>first |rfl |exact(ht rfl).elim
    have:=q H1 s1
    rw[hq] at this;exact this
end
end My
namespace L2
open PySem PySem.Spec PyProof.Rows
section
variable {X:Cx}{U:List (Addr×Obj)}{σ:St}{H:Hp}{s:Shared}{a:Addr}{kvs:List (Key×V)}{o:Obj}
theorem Inv.freeze (I:Inv X U σ H s)(e:H a=some (.dK kvs))(ho:s.heap.get? a=some o):Inv X U σ (upd H a (.frz o (.dK kvs))) s:=by
 have ne:∀b u,H b=some u->u≠.dK kvs->b≠a:=fun b u q n z=>by
  subst z;rw[e] at q;exact n (Option.some.inj q).symm
 have nn:∀b,H b=none->b≠a:=fun b q z=>by subst z;rw[e] at q;cases q
 refine⟨I.ok,I.os,I.bare,⟨I.base.keep,I.base.slot,fun b ob q n hx=>?_,I.base.there,fun b xs q=>?_,fun b ob u q=>?_,fun b ps q=>?_⟩,I.loc,I.cell,?_,fun x c q=>?_,fun p hp=>?_,fun b u q=>?_,I.len⟩
 ·have h:=I.base.free b ob q n hx
  rw[a0h (nn b h)];exact h
 ·have h:=I.base.tups b xs q
  rw[a0h (ne b _ h (by simp))];exact h
 ·have h:=I.base.frzs b ob u q
  rw[a0h (ne b _ h (by simp))];exact h
 ·obtain⟨m,h⟩:=I.base.tbls b ps q
  exact⟨m,by rw[a0h (ne b _ h (by simp))];exact h⟩
 ·rw[a0h (nn _ I.free)]
  exact I.free
 ·rw[a0h (nn _ (I.freeC x c q))]
  exact I.freeC x c q
 ·obtain⟨h1,h2,h3⟩:=I.pin p hp
  exact⟨h1,by rw[a0h (nn _ h2)];exact h2,h3⟩
 ·by_cases hb:b=a
  ·subst hb
   rw[a0c] at q;cases q;exact⟨ho,I.hok b _ e⟩
  ·rw[a0h hb] at q
   exact(I.hok b u q).stay (fun c v _ r=>r) (fun c r=>by rw[a0h (ne c _ r (by simp))];exact r) fun c xs r=>by rw[a0h (ne c _ r (by simp))];exact r
theorem Inv.thaw (I:Inv X U σ H s)(n0:∀ob u,X.H₀ a≠some (.frz ob u))(e:H a=some (.frz o (.dK kvs))):Inv X U σ (upd H a (.dK kvs)) s:=by
 have ne:∀b u,H b=some u->u≠.frz o (.dK kvs)->b≠a:=fun b u q n z=>by
  subst z;rw[e] at q;exact n (Option.some.inj q).symm
 have nn:∀b,H b=none->b≠a:=fun b q z=>by subst z;rw[e] at q;cases q
 refine⟨I.ok,I.os,I.bare,⟨I.base.keep,I.base.slot,fun b ob q n hx=>?_,I.base.there,fun b xs q=>?_,fun b ob u q=>?_,fun b ps q=>?_⟩,I.loc,I.cell,?_,fun x c q=>?_,fun p hp=>?_,fun b u q=>?_,I.len⟩
 ·have h:=I.base.free b ob q n hx
  rw[a0h (nn b h)];exact h
 ·have h:=I.base.tups b xs q
  rw[a0h (ne b _ h (by simp))];exact h
 ·have h:=I.base.frzs b ob u q
  rw[a0h (fun z=>by subst z;exact n0 _ _ q)];exact h
 ·obtain⟨m,h⟩:=I.base.tbls b ps q
  exact⟨m,by rw[a0h (ne b _ h (by simp))];exact h⟩
 ·rw[a0h (nn _ I.free)]
  exact I.free
 ·rw[a0h (nn _ (I.freeC x c q))]
  exact I.freeC x c q
 ·obtain⟨h1,h2,h3⟩:=I.pin p hp
  exact⟨h1,by rw[a0h (nn _ h2)];exact h2,h3⟩
 ·by_cases hb:b=a
  ·subst hb
   rw[a0c] at q;cases q;exact(I.hok b _ e).2
  ·rw[a0h hb] at q
   exact(I.hok b u q).stay (fun c v _ r=>r) (fun c r=>by rw[a0h (ne c _ r (by simp))];exact r) fun c xs r=>by rw[a0h (ne c _ r (by simp))];exact r
theorem Inv.dk_obj (I:Inv X U σ H s)(e:H a=some (.dK kvs)):∃o,s.heap.get? a=some o:=by
 obtain⟨_,_,_,_,o,_,_,g,_⟩:=I.hok a _ e;exact⟨o,g⟩
theorem Inv.not_frz (I:Inv X U σ H s)(e:H a=some (.dK kvs)):∀ob u,X.H₀ a≠some (.frz ob u):=fun ob u q=>by
 have:=I.base.frzs a ob u q
 rw[e] at this;cases this
def frzE (a:Addr)(o:Obj)(kvs:List (Key×V))(D:a3I):a3I where
 nx:=fun σ' H'=>H' a=some (.frz o (.dK kvs))/\D.nx σ' (upd H' a (.dK kvs))
 rt:=fun v H'=>H' a=some (.frz o (.dK kvs))/\D.rt v (upd H' a (.dK kvs))
 bk:=fun σ' H'=>H' a=some (.frz o (.dK kvs))/\D.bk σ' (upd H' a (.dK kvs))
 ct:=fun σ' H'=>H' a=some (.frz o (.dK kvs))/\D.ct σ' (upd H' a (.dK kvs))
def sFrz (t:TS):TS:=fun D σ H=>∃a kvs,H a=some (.dK kvs)/\∀o,t (frzE a o kvs D) σ (upd H a (.frz o (.dK kvs)))
theorem b2B {st:Stmt}{t:TS}(h:PS X st t):PS X st (sFrz t):=by
 intro U s σ H D I hq;obtain⟨a,kvs,e,q⟩:=hq;obtain⟨o,ho⟩:=I.dk_obj e;have n0:=I.not_frz e;refine thn (h U s σ _ _ (I.freeze e ho) (q o)) fun f s' hs=>?_;cases f with
 |next=>obtain⟨σ',H',I',e',z⟩:=hs;exact⟨σ',_,I'.thaw n0 e',z⟩
 |brk=>obtain⟨σ',H',I',e',z⟩:=hs;exact⟨σ',_,I'.thaw n0 e',z⟩
 |cont=>obtain⟨σ',H',I',e',z⟩:=hs;exact⟨σ',_,I'.thaw n0 e',z⟩
 |ret u=>obtain⟨v,σ',H',I',r,e',z⟩:=hs;exact⟨v,σ',_,I'.thaw n0 e',r,z⟩
end
def a7L (o:Obj):Nat:=match o.data with
 | .dict _ ep=>ep
 |_=>0
theorem b1o {P:Program}{w:World}:∀{k:Key} {u:Value},(a0H P w).is k u=true->a0X (kV k) u:=by
 intro k u h;rcases a0I (k:=k) (v:=u) h with ⟨i,t,rfl,rfl⟩ |⟨x,t,rfl,rfl⟩
 ·exact⟨t,rfl⟩
 ·exact⟨t,rfl⟩
section
variable {X:Cx}
theorem a8j:∀{kvs:List (Key×V)} {vs:List (Key×Value)} {i:Nat} {p:Key×V},KV kvs vs->kvs[i]? =some p->∃u,vs[i]? =some (p.1,u)/\a0X p.2 u
 |_,_,_,_,.nil,e=>by simp at e
 |_,_,0,_,.cons (b:=q) r _,e=>by
  simp at e;subst e;obtain⟨q1,q2⟩:=q;obtain⟨r1,r2⟩:=r;exact⟨q2,by rw[List.getElem?_cons_zero];exact congrArg (fun z=>some (z,q2)) r1.symm,r2⟩
 |_,_,i+1,p,.cons _ t,e=>by
  obtain⟨u,h1,h2⟩:=a8j (i:=i) (p:=p) t (by simpa using e);exact⟨u,by simpa using h1,h2⟩
theorem Inv.dictAt {U:List (Addr×Obj)}{σ:St}{H:Hp}{s:Shared}{a:Addr}{o:Obj}{kvs:List (Key×V)}(I:Inv X U σ H s)(e:H a=some (.frz o (.dK kvs))) :
  ∃vs,KV kvs vs/\s.heap.DictAt (a0H X.prog X.w) a vs (a7L o)/\(a==sysModules)=false:=by
 obtain⟨g,_,hs,vs,kv,o',es,ep,g',ex,hd,hk,hp,hn⟩:=I.hok a _ e;rw[g] at g';cases g';have he:a7L o=ep:=by unfold a7L;rw[hd]
 exact⟨vs,kv,⟨o,es,g,ex,by rw[he];exact hd,hk,hp,hn⟩,hs⟩
theorem KV.len {kvs:List (Key×V)}{vs:List (Key×Value)}(r:KV kvs vs):kvs.length=vs.length:=Paired.length r
theorem a4f:∀{zs:List Str} {us:List Value},a1g (zs.map V.str) us->StrsAre us zs
 |[],_,r=>by rw[List.map_nil] at r;cases r;exact .nil
 |z::zs,_,r=>by
  rw[mN0] at r;cases r with
  |cons h t=>
   obtain⟨k,rfl⟩:=h;exact .cons _ _ (a4f t)
theorem a4H:∀{us:List Value} {zs:List Str},StrsAre us zs->a1g (zs.map V.str) us
 |_,_,.nil=>.nil
 |_,_,.cons _ k t=>.cons ⟨_,rfl⟩ (a4H t)
theorem a2y:entryFor table "dict_itemiterator.__iter__"=some Builtin.«dict_keyiterator.__iter__»:=
 entryFor_alias (id':="dict_keyiterator.__iter__") (by kernel_rfl) rfl (by decide +kernel) (by kernel_rfl)
theorem a2G {prog:Program}{w:World}{A:Around}{E:Vs0}{s:Shared}{it d:Addr}{i n ep:Nat}{ok ov:Value}{Q:Vs0}(hit:IsItemIter s.heap it d i n ep ok ov)(h:Q (.ref it) s):wpAny (model prog w) A (pyIter (.ref it)) Q E s:=by
 have hT:s.TypeIs (.ref it) "dict_itemiterator":=⟨_,hit,rfl⟩;refine wpAny_pyIter_slot hT F.slot_dict_itemiterator_iter (wpAny_call_entry F.slot_dict_itemiterator_iter hT a2y ?_ (F.args_dict_itemiterator_iter_1 _));show wpAny _ _ (ret (.ref it)) _ _ s;exact wP0 ⟨_,rfl,"dict_itemiterator",_,hT,F.slot_dict_itemiterator_next.lookup,h⟩
def Itm (a:Addr)(o:Obj)(kvs:List (Key×V)):It:=
 ⟨fun i H=>i<kvs.length/\H a=some (.frz o (.dK kvs)),fun i H x H'=>∃k v p,kvs[i]? =some (k,v)/\x=.ref p/\H p=none/\H'=upd H p (.tup [kV k,v]),fun i H=>kvs.length<=i/\H a=some (.frz o (.dK kvs))⟩
theorem a6S {P:Program}{w:World}{K:Fg0}{es:List Expr}{x1:Nat}{tp:Pos}(a it:Addr)(o:Obj)(kvs:List (Key×V)):a8R P w K (.Tuple es x1 tp) (Itm a o kvs) [it] it (fun i h=>∃ok ov,IsItemIter h it a i kvs.length (a7L o) ok ov) where
 mem:=by simp
 obj:=fun i h st b hb=>by
  have e:b=it:=by simpa using hb
  subst e;obtain⟨ok,ov,st⟩:=st;exact⟨_,st,fun v z=>by cases z⟩
 keep:=fun i h h' st k=>by
  obtain⟨ok,ov,st⟩:=st;exact⟨ok,ov,k it (by simp) _ st⟩
 item:=by
  intro X hP hw hK hc i U s σ H E I hf st hg;subst hP hw hK;obtain⟨hi,hq⟩:=hg;obtain⟨ok,ov,st⟩:=st;obtain⟨vs,kv,da,_⟩:=I.dictAt hq;have hl:=kv.len;obtain⟨u,hu,ru⟩:=a8j kv (show kvs[i]? =some (kvs[i].1,kvs[i].2) by simp[hi]);obtain⟨f0,f1,f2,f3,f4,f5⟩:=hf it (by simp);have hit:it<s.heap.objs.size:=hL0 st;rw[hl] at st;refine wpAny_pyNext_items_item st da hu fun key h' hkey st' ht hsz kp=>?_;refine⟨_,rfl,?_⟩;refine wpAny_letOwnedTupleGo_items (s:={ s with heap:=h' }) st' fun h'' st'' sb=>?_;rw[<-hl] at st'';have I0:Inv X U σ H { s with heap:=s.heap.update it fun _=>{ cls:=.type "dict_itemiterator",dict:=none,data:=.fields #[.none,.bool false,.ref a,.int (i+1:Nat) 0,.int kvs.length 0,.int (a7L o) 0,key,u],slots:=#[] } }:=
   I.turned (t':=s.toks) (fun b ob hb e=>by rw[Heap.get?_update_ne _ _ _ _ hb];exact e) f0 f1 f3 f4 f5
  have hp:H s.heap.objs.size=none:=I.hok.fresh (nR0 _);refine⟨.ref s.heap.objs.size,upd H s.heap.objs.size (.tup [kV kvs[i].1,kvs[i].2]),I0.laid (t':=s.toks) (h':=h'') (fun b ob e=>?_) (by rw[Heap.size_update];exact nR0 _) ?_,rfl,⟨_,_,_,by simp[hi],rfl,hp,rfl⟩,⟨key,u,st''⟩,fun b hb=>?_⟩
  ·by_cases hb:b=it
   ·subst hb
    rw[Heap.get?_update_self _ st rfl] at e;rw[<-e];exact st''
   ·rw[Heap.get?_update_ne _ _ _ _ hb] at e
    exact(sb.2 b hb).trans (kp b ob hb e)
  ·refine⟨(show 2<=sizeLine by decide),[key,u],.cons (b1o hkey) (.cons ru .nil),⟨_,(sb.2 _ (Nat.ne_of_gt hit)).trans ht,rfl,_,rfl⟩⟩
  ·have e:b=it:=by simpa using hb
   subst e;rw[a0h (nL0 hit)];exact f0
 done:=by
  intro X hP hw hK hc i U s σ H E I hf st hg;subst hP hw hK;obtain⟨hi,hq⟩:=hg;obtain⟨ok,ov,st⟩:=st;obtain⟨vs,kv,da,_⟩:=I.dictAt hq;have hl:=kv.len;obtain⟨f0,f1,f2,f3,f4,f5⟩:=hf it (by simp);rw[hl] at st;exact wpAny_pyNext_items_end (I.ok.hd hc) st da (by simp;omega) fun h' eb=>⟨rfl,I.turned (t':=s.toks) (fun b o hb e=>eb b o hb e) f0 f1 f3 f4 f5⟩
 self:=fun A i s Q E st h=>by
  obtain⟨ok,ov,st⟩:=st;exact a2G st h
def b2v (tl:TE):TI:=fun σ H R=>tl σ H fun x H1=>∃a o kvs,x=.ref a/\H1 a=some (.frz o (.dK kvs))/\R (Itm a o kvs) H1
theorem a9D {es:List Expr}{x1:Nat}{tp:Pos}{l:Expr}{tl:TE}{apos cpos:Pos}(hl:PE X l tl)(hbase:attributeBase l "items" X.env (eval l X.env)=eval l X.env:=by rfl)(hline:(apos.endLine==cpos.line)=true:=by rfl) :
  PI X (.Tuple es x1 tp) (.Call (.Attribute l "items" apos) [] [] cpos) (b2v tl):=by
 intro U s σ H R I h;refine wpAny_Call_method0_late hbase hline (thn (hl U s σ H _ I h) fun v s1 ⟨x,H1,I1,r1,q1⟩=>?_);obtain⟨a,o,kvs,e,hq,q⟩:=q1;subst e;cases r1;obtain⟨vs,kv,da,hs⟩:=I1.dictAt hq;obtain⟨g,_⟩:=I1.hok a _ hq;have ex:o.ExactDict:=by
  obtain⟨o',es',g',x',_⟩:=id da;rw[g] at g';cases g';exact x'
 refine⟨"dict","dict.items",F.plainAttrs_dict,F.slot_dict_items,F.type_dict_items,da.dictOf.typeIs,(fun b e=>by cases e;exact⟨o,g,ex.2.1⟩),Calls.callWith_builtin rfl (PySem.evalArgs_none ?_)⟩;refine call_meetsIn F.slot_dict_items da.dictOf.typeIs F.entry_dict_items (F.args_dict_items_1 _) (meets_dict_items (a0H X.prog X.w) a hs) ⟨⟨vs,da.dictOf⟩,?_⟩;have I2:Inv X U σ H1 { s1 with heap:=s1.heap.push { cls:=.type "dict_items",data:=.fields #[.ref a] } }:=I1.kept (t':=s1.toks) fun b o e=>hP0 _ e;refine wpAny_pyIter_items (s:={ s1 with heap:=s1.heap.push { cls:=.type "dict_items",data:=.fields #[.ref a] } }) (knd:=a0H X.prog X.w) (kvs:=vs) (ep:=a7L o) ⟨_,hS0 _ rfl,rfl,rfl⟩ (da.push _) ?_;refine⟨_,[_],_,_,H1,rfl,I2.kept (t':=s1.toks) fun b o e=>hP0 _ e,a6S a _ o kvs,⟨.none,.none,by rw[kv.len];exact hS0 _ rfl⟩,fun b hb=>?_,q⟩;have e:=mS0.mp hb;subst e;exact I2.fpOk (nR0 _) (I2.hok.fresh (nR0 _))
theorem a7G {a:Addr}{o:Obj}{kvs:List (Key×V)}{g:TG}{tb:TS}{D:a3I}{σ:St}{H:Hp}(Pv:Nat->St->Hp->Prop)(h0:Pv 0 σ H)(hl:∀i σ H,i<=kvs.length->Pv i σ H->H a=some (.frz o (.dK kvs)))
  (hs:∀i k v p σ H,kvs[i]? =some (k,v)->Pv i σ H->H p=none->g (.ref p) σ (upd H p (.tup [kV k,v])) fun σ2 H2=>tb { D with nx:=Pv (i+1),ct:=Pv (i+1),bk:=D.nx } σ2 H2) (hd:∀σ H,Pv kvs.length σ H->D.nx σ H) :
  ∃W:Nat->Nat->St->Hp->Prop,(∃m,W 0 m σ H)/\∀i m σ H,W i m σ H →
   ((Itm a o kvs).stop i H/\D.nx σ H)\/((Itm a o kvs).go i H/\∃N:St->Hp->Prop,(∀σ' H',N σ' H'->∃m',m'<m/\W (i+1) m' σ' H')/\∀x H',(Itm a o kvs).yld i H x H'->g x σ H' fun σ2 H2=>tb { D with nx:=N,ct:=N,bk:=D.nx } σ2 H2):=by
 refine⟨fun i m σ H=>m=kvs.length-i/\i<=kvs.length/\Pv i σ H,⟨kvs.length,by simp,zL0 _,h0⟩,?_⟩;rintro i m σ H ⟨rfl,hi,p⟩;have q:=hl i σ H hi p
 by_cases hlt:i<kvs.length
 ·refine .inr ⟨⟨hlt,q⟩,Pv (i+1),fun σ' H' p'=>⟨kvs.length-(i+1),by omega,rfl,hlt,p'⟩,fun x H' y=>?_⟩
  obtain⟨k,v,pa,hk,ex,hn,e⟩:=y;subst e ex;exact hs i k v pa σ H hk p hn
 ·have e:i=kvs.length:=by omega
  subst e;exact .inl ⟨⟨nR0 _,q⟩,hd σ H p⟩
theorem a4G:a1C X (.type "dict") (fun xs H Q=>∃a kvs,xs=[.ref a]/\Rd H a (.dK kvs)/\∀p,H p=none->Q (.ref p) (upd H p (.dK kvs))):=by
 intro U s σ H xs us Q I r h;obtain⟨a,kvs,rfl,e,q⟩:=h;obtain⟨u,rfl,rx⟩:=a2F r;cases rx;exact a9v I e fun p s' hp I'=>⟨.ref p,_,I',rfl,q p hp⟩
end
theorem a0Z.there {P:Program}{w:World}{H:Hp}{h:Heap}{a:Addr}{o:HO}(x:a0Z P w H h a o):∃ob,h.get? a=some ob:=by
 cases o with
 |lst xs=>obtain⟨_,_,_,_,e⟩:=x;exact⟨_,e⟩
 |tup xs=>obtain⟨_,_,_,o,e,_⟩:=x;exact⟨_,e⟩
 |dK kvs=>obtain⟨_,_,_,_,o,_,_,e,_⟩:=x;exact⟨_,e⟩
 |dT kvs=>obtain⟨_,_,_,_,o,_,_,e,_⟩:=x;exact⟨_,e⟩
 |set S n=>obtain⟨o,_,_,_,e,_⟩:=x;exact⟨_,e⟩
 |ins C dx fs=>obtain⟨_,_,_,e,_⟩:=x;exact⟨_,e⟩
 |own y=>exact x
 |xd fs=>obtain⟨_,⟨_,_,_,e,_⟩,_⟩:=x;exact⟨_,e⟩
 |met f y=>exact⟨_,x⟩
 |rng lo hi=>obtain⟨_,_,_,e⟩:=x;exact⟨_,e⟩
 |frz ob u=>exact⟨_,x.1⟩
 |tbl ps=>exact⟨_,x⟩
 |ext φ=>exact x.2.1
section
variable {X:Cx}{U:List (Addr×Obj)}{σ:St}{H:Hp}{s:Shared}{h':Heap}{a:Addr}{o:HO}
theorem Inv.none_at (I:Inv X U σ H s)(hn:s.heap.get? a=none):H a=none:=by
 cases e:H a with
 |none=>rfl
 |some u=>
  obtain⟨ob,q⟩:=(I.hok a u e).there;rw[hn] at q;cases q
theorem Inv.laidAt {t':Nat}(I:Inv X U σ H s)(k:∀b u,s.heap.get? b=some u->h'.get? b=some u)(hn:s.heap.get? a=none)(new:a0Z X.prog X.w (upd H a o) h' a o):Inv X U σ (upd H a o) { s with heap:=h',toks:=t' }:=by
 have hH:=I.none_at hn;have ne:∀b u,s.heap.get? b=some u->b≠a:=fun b u q z=>by subst z;rw[hn] at q;cases q
 refine I.un ⟨fun b u q _ _ _=>k b u q,fun b u q _ _ _=>⟨u.slots,k b u q⟩,fun b u q n _=>by rw[a0h (ne b u q)];exact n,fun b u q _=>⟨u,k b u q⟩,
  fun b xs q=>by rw[a0h (a0v q hH)];exact q,fun b u xs q=>by rw[a0h (a0v q hH)];exact q,fun b ps q=>⟨#[],by rw[a0h (a0v q hH),q];simp⟩⟩ fun b u q=>?_
 by_cases hb:b=a
 ·subst hb
  rw[a0c] at q;cases q;exact new
 ·rw[a0h hb] at q
  exact(I.hok b u q).stay (fun c v _ r=>k c v r) (fun c r=>by rw[a0h (a0v r hH)];exact r) fun c xs r=>by rw[a0h (a0v r hH)];exact r
end
theorem a7H:∀(us:List Value) (zs:List Str),us.length=zs.length->(∀(j:Nat) (v:Value) (z:Str),us[j]? =some v->zs[j]? =some z->∃t,v=Value.str z t)->StrsAre us zs
 |[],[],_,_=>.nil
 |[],_::_,h,_=>by simp at h
 |_::_,[],h,_=>by simp at h
 |u::us,z::zs,h,f=>by
  obtain⟨t,rfl⟩:=f 0 u z rfl rfl;exact .cons _ _ (a7H us zs (by simpa using h) fun j v y h1 h2=>f (j+1) v y (by simpa using h1) (by simpa using h2))
theorem b0e:∀{kvs:List (Key×V)} {vs:List (Key×Value)} {i:Nat} {q:Key×Value},KV kvs vs->vs[i]? =some q->(kvs.map (·.1))[i]? =some q.1
 |_,_,_,_,.nil,e=>by simp at e
 |_,_,0,_,.cons r _,e=>by
  simp at e;subst e;simp[r.1]
 |_,_,i+1,q,.cons _ t,e=>by
  have h:=b0e (i:=i) (q:=q) t (by simpa using e);simpa using h
section
variable {X:Cx}
theorem a2s (hc:X.calm=true):a1C X (.builtin "sorted") (fun xs H Q=>∃p kvs zs,xs=[.ref p]/\Rd H p (.dK kvs)/\kvs.map (·.1)=zs.map Sum.inr/\zs.length<64/\∀l ys,H l=none->ys.Perm zs->sortedS ys=true->Q (.ref l) (upd H l (.lst (ys.map V.str)))):=by
 intro U s σ H xs us Q I r h;obtain⟨p,kvs,zs,rfl,hq,hz,h64,q⟩:=h;obtain⟨u,rfl,rx⟩:=a2F r;cases rx;obtain⟨hlen,lo,vs,kv,dd⟩:=hq.ok I.hok;obtain⟨ep,da⟩:=dd.dictAt;have hl:=kv.len;have hl2:kvs.length=zs.length:=by simpa using congrArg List.length hz
 refine Calls.call_function_entry kind_sorted plain_sorted entry_sorted (args_sorted1 _) ?_;unfold Builtin.«sorted»;refine wB0 (m:=checkCount "sorted" 1 1 _) (wP0 ?_);refine wB0 (PySem.W.kdu_collect (PySem.W.kdl_dict (knd:=a0H X.prog X.w) (kvs:=vs) (ep:=ep) lo) (I.ok.hd hc) da (by rw[<-hl];exact hlen) fun h' tk acc hk hacc=>?_);have hS:StrsAre acc.toList zs:=by
  refine a7H _ _ (by rw[Array.length_toList,hacc.1,<-hl,hl2]) fun j v z h1 h2=>?_;obtain⟨k,x,hx,hkv⟩:=hacc.2 j v (by rw[<-Array.getElem?_toList];exact h1);have hk':=b0e kv hx;rw[hz,gM0,h2] at hk';have e:Sum.inr z=k:=by simpa using hk'
  subst e;exact b1o hkv
 have hal:acc.toList.length=zs.length:=by
  rw[Array.length_toList,hacc.1,<-hl,hl2]
 refine wB0 (wpAny_newList ?_ (by rw[hal,<-hl2];exact hlen));have hoL:(h'.push (seqObj "list" acc.toList.toArray 0)).get? h'.objs.size=some (seqObj "list" acc.toList.toArray 0):=hS0 _ rfl;refine wB0 (wpAny_holding (wpAny_call_entry slot_list_sort ⟨_,hoL,rfl⟩ entry_list_sort (list_sort_treeK (s:={ s with heap:=h'.push (seqObj "list" acc.toList.toArray 0),toks:=tk }) strKind_oneLt hoL hS.keysOf (fun v₁ v₂ rest e=>keyKind_strs (by rw[<-e];exact hS)) (by rw[hal];exact h64) fun st' hp hs=>⟨_,rfl,?_⟩) (args_list_sort _)));obtain⟨ss',h1,h2,h3⟩:=sorted_out_str hS hp hs;obtain⟨e,he⟩:=sortedHeap_at (out:=(arrOf st').map (·.2)) hoL;have hn:s.heap.get? h'.objs.size=none:=by
  cases q:s.heap.get? h'.objs.size with
  |none=>rfl
  |some ob=>exact absurd (hL0 (hk _ _ q)) (Nat.lt_irrefl _)
 refine wP0 ⟨_,rfl,.ref h'.objs.size,_,I.laidAt (t':=tk) (o:=.lst (ss'.map V.str)) (fun b ob q=>?_) hn ?_,rfl,q _ ss' (I.none_at hn) h2 h3⟩
 ·have q':=hk b ob q
  have hlt:=hL0 q';rw[sortedHeap_old (nL0 hlt) (by rw[size_push'];exact Nat.lt_succ_of_lt hlt)];exact hP0 _ q'
 ·exact⟨by rw[lM0,h2.length_eq,<-hl2];exact hlen,_,e,a4H h1,he⟩
def Ite (K:Fg0)(a:Addr):It:=
 ⟨fun i H=>∃xs x,SqL K H a xs/\xs[i]? =some x,fun i H x H'=>∃y p,(∀xs,SqL K H a xs->xs[i]? =some y)/\x=.ref p/\H p=none/\H'=upd H p (.tup [.int i,y]),fun i H=>∃xs,SqL K H a xs/\xs.length<=i⟩
theorem a7c {P:Program}{w:World}{K:Fg0}{es:List Expr}{x1:Nat}{tp:Pos}(a e it:Addr)(ne:e≠it):a8R P w K (.Tuple es x1 tp) (Ite K a) [e,it] e (fun i h=>(∃old,IsEnum h e it i old)/\h.IsListIter it a i) where
 mem:=by simp
 obj:=fun i h st b hb=>by
  obtain⟨⟨old,s1⟩,s2⟩:=st;rcases mK0.mp hb with z |z
  ·subst z
   exact⟨_,s1,fun v z=>by cases z⟩
  ·have z:=mS0.mp z
   subst z;obtain⟨o,e,c,d⟩:=s2;exact⟨o,e,fun v z=>by rw[d] at z;cases z⟩
 keep:=fun i h h' st k=>by
  obtain⟨⟨old,s1⟩,s2⟩:=st;exact⟨⟨old,k e (by simp) _ s1⟩,s2.at fun o e=>k it (by simp) o e⟩
 item:=by
  intro X hP hw hK hc i U s σ H E I hf st hg;subst hP hw hK;obtain⟨⟨old,s1⟩,s2⟩:=st;obtain⟨xs,x,hq,hx⟩:=hg;obtain⟨its,rv,p,hz⟩:=I.list hq;obtain⟨u,hu,ru⟩:=rv.get hx;obtain⟨f0,f1,f2,f3,f4,f5⟩:=hf e (by simp);obtain⟨g0,g1,g2,g3,g4,g5⟩:=hf it (by simp);have le:e<s.heap.objs.size:=hL0 s1;have li:it<s.heap.objs.size:=by obtain⟨o,e,_⟩:=s2;exact hL0 e
  refine wpAny_pyNext_enum_item s1 s2 p.isList (x:=u) (by simpa using hu) ne fun h' st' si' ht hsz kp=>?_;refine⟨_,rfl,?_⟩;refine wpAny_letOwnedTupleGo_enum (s:={ s with heap:=h',toks:=s.toks+1 }) st' fun h'' st'' sb=>?_;have si'':h''.IsListIter it a (i+1):=si'.at fun o q=>(sb.2 it (Ne.symm ne)).trans q;obtain⟨oi,ei,ci,di⟩:=id si'';obtain⟨oi0,ei0,_⟩:=id s2;have I0:Inv X U σ H { s with heap:=s.heap.update e fun _=>{ cls:=.type "enumerate",dict:=none,data:=.fields #[.none,.bool false,.ref it,rawInt ((i:Int)+1),.none,u],slots:=#[] } }:=
   I.turned (t':=s.toks) (fun b ob hb q=>by rw[Heap.get?_update_ne _ _ _ _ hb];exact q) f0 f1 f3 f4 f5
  have I1:Inv X U σ H { s with heap:=(s.heap.update e fun _=>{ cls:=.type "enumerate",dict:=none,data:=.fields #[.none,.bool false,.ref it,rawInt ((i:Int)+1),.none,u],slots:=#[] }).update it fun _=>oi }:=
   I0.turned (t':=s.toks) (fun b ob hb q=>by rw[Heap.get?_update_ne _ _ _ _ hb];exact q) g0 g1 g3 g4 g5
  have hp:H s.heap.objs.size=none:=I.hok.fresh (nR0 _);have foi:oi.isFreed=false:=(Heap.get?_some_iff.mp ei).2;refine⟨.ref s.heap.objs.size,upd H s.heap.objs.size (.tup [.int i,x]),I1.laid (t':=s.toks+1) (h':=h'') (fun b ob q=>?_) (by rw[Heap.size_update,Heap.size_update];exact nR0 _) ?_,rfl,⟨x,_,fun ys hy=>by rw[I.list_inj hy hq];exact hx,rfl,hp,rfl⟩,⟨⟨u,?_⟩,si''⟩,fun b hb=>?_⟩
  ·by_cases hb:b=it
   ·subst hb
    rw[Heap.get?_update_self _ (show(s.heap.update e _).get? b=some oi0 by rw[Heap.get?_update_ne _ _ _ _ (Ne.symm ne)];exact ei0) foi] at q;rw[<-q];exact ei
   ·rw[Heap.get?_update_ne _ _ _ _ hb] at q
    by_cases hb2:b=e
    ·subst hb2
     rw[Heap.get?_update_self _ s1 rfl] at q;rw[<-q];exact st''
    ·rw[Heap.get?_update_ne _ _ _ _ hb2] at q
     exact(sb.2 b hb2).trans (kp b ob hb2 hb q)
  ·exact⟨(show 2<=sizeLine by decide),[.int i s.toks,u],.cons ⟨_,rfl⟩ (.cons ru .nil),⟨_,(sb.2 _ (Nat.ne_of_gt le)).trans ht,rfl,_,rfl⟩⟩
  ·exact st''
  ·rcases mK0.mp hb with z |z
   ·subst z
    rw[a0h (nL0 le)];exact f0
   ·have z:=mS0.mp z
    subst z;rw[a0h (nL0 li)];exact g0
 done:=by
  intro X hP hw hK hc i U s σ H E I hf st hg;subst hP hw hK;obtain⟨⟨old,s1⟩,s2⟩:=st;obtain⟨xs,hq,hx⟩:=hg;obtain⟨its,rv,p,hz⟩:=I.list hq;obtain⟨g0,g1,g2,g3,g4,g5⟩:=hf it (by simp);have hl:=rv.length;exact wpAny_pyNext_enum_end (I.ok.hd hc) s1 s2 p.isList (by simp;omega) fun h' eb=>⟨rfl,I.turned (t':=s.toks) (fun b o hb e=>eb b o hb e) g0 g1 g3 g4 g5⟩
 self:=fun A i s Q E st h=>by
  obtain⟨⟨old,s1⟩,_⟩:=st;exact wpAny_pyIter_enum s1 h
theorem boot_enum:bootBuiltins "enumerate"=some (.type "enumerate"):=by decide +kernel
def b2V (K:Fg0)(ta:TA):TI:=fun σ H R=>ta σ H fun vs H1=>∃a,vs=[.ref a]/\(∃xs,SqL K H1 a xs)/\R (Ite K a) H1
theorem a8i {es:List Expr}{x1:Nat}{tp:Pos}{l:Expr}{ta:TA}{p pos:Pos}(hg:Gl X "enumerate")(hm:X.mg "enumerate"=none)(ha:PA X [l] ta)(hs:starEach [l] X.env=[(false,eval l X.env)]:=by rfl) :
  PI X (.Tuple es x1 tp) (.Call (.Name "enumerate" p) [l] [] pos) (b2V X.K ta):=by
 intro U s σ H R I h;refine Call_ (a3b I hg hm boot_enum (PyProof.Rows.callWith_type1 (thn (ha pos U s σ H _ I h) fun us s1 ⟨vs,H1,I1,r1,q1⟩=>?_) hs rfl));obtain⟨a,e,⟨xs,hq⟩,q⟩:=q1;subst e;obtain⟨u,rfl,rx⟩:=a2F r1;cases rx;obtain⟨its,rv,pl,hz⟩:=I1.list hq;refine call_enumerate_list pl.isList fun h' he hi hsz hk=>?_;have I2:Inv X U σ H1 { s1 with heap:=h' }:=I1.kept (t':=s1.toks) hk;refine wpAny_pyIter_enum (s:={ s1 with heap:=h' }) he ?_;refine⟨s1.heap.objs.size+1,[s1.heap.objs.size+1,s1.heap.objs.size],_,_,H1,rfl,I2,a7c a _ _ (Nat.succ_ne_self _),⟨⟨_,he⟩,hi⟩,fun b hb=>?_,q⟩;have nb:s1.heap.objs.size<=b:=by
  rcases mK0.mp hb with z |z
  ·rw[z];exact Nat.le_succ _
  ·rw[mS0.mp z];exact nR0 _
 exact I1.fpOk nb (I1.hok.fresh nb)
theorem a6y {K:Fg0}{a:Addr}{xs:List V}{g:TG}{tb:TS}{D:a3I}{σ:St}{H:Hp}(Pv:Nat->St->Hp->Prop)(h0:Pv 0 σ H)(hl:∀i σ H,i<=xs.length->Pv i σ H->SqL K H a xs)
  (hs:∀i x p σ H,xs[i]? =some x->Pv i σ H->H p=none->g (.ref p) σ (upd H p (.tup [.int i,x])) fun σ2 H2=>tb { D with nx:=Pv (i+1),ct:=Pv (i+1),bk:=D.nx } σ2 H2) (hd:∀σ H,Pv xs.length σ H->D.nx σ H) :
  ∃W:Nat->Nat->St->Hp->Prop,(∃m,W 0 m σ H)/\∀i m σ H,W i m σ H →
   ((Ite K a).stop i H/\D.nx σ H)\/((Ite K a).go i H/\∃N:St->Hp->Prop,(∀σ' H',N σ' H'->∃m',m'<m/\W (i+1) m' σ' H')/\∀x H',(Ite K a).yld i H x H'->g x σ H' fun σ2 H2=>tb { D with nx:=N,ct:=N,bk:=D.nx } σ2 H2):=by
 refine⟨fun i m σ H=>m=xs.length-i/\i<=xs.length/\Pv i σ H,⟨xs.length,by simp,zL0 _,h0⟩,?_⟩;rintro i m σ H ⟨rfl,hi,p⟩;have q:=hl i σ H hi p
 by_cases hlt:i<xs.length
 ·refine .inr ⟨⟨xs,xs[i],q,by simp[hlt]⟩,Pv (i+1),fun σ' H' p'=>⟨xs.length-(i+1),by omega,rfl,hlt,p'⟩,fun x H' y=>?_⟩
  obtain⟨z,pa,hk,ex,hn,e⟩:=y;subst e ex;exact hs i z pa σ H (hk xs q) p hn
 ·have e:i=xs.length:=by omega
  subst e;exact .inl ⟨⟨xs,q,nR0 _⟩,hd σ H p⟩
def b0S (z:Str):Value->Bool
 | .str a _=>a==z
 |_=>false
theorem a6a {z:Str}:∀{us:List Value} {zs:List Str},StrsAre us zs->us.countP (b0S z)=zs.count z
 |_,_,.nil=>rfl
 |_,_,.cons y t r=>by
  rw[List.countP_cons,a6a r,List.count_cons]
  rfl
theorem a9x:MtR X "list.count" (fun x xs H Q=>∃(p:Addr) (zs:List Str) (z:Str),x=.ref p/\xs=[.str z]/\SqL X.K H p (zs.map V.str)/\Q (.int (zs.count z:Nat)) H):=by
 intro U s σ H x xs v us Q I rx r h;obtain⟨p,zs,z,rfl,rfl,hq,q⟩:=h;cases rx;obtain⟨u,rfl,t,rfl⟩:=a2F r;obtain⟨its,r',pl,hz⟩:=I.list hq;have hS:=a4f r';obtain⟨⟨c,dd,dt,sl⟩,e,hc,n,hd⟩:=pl.isList;simp only at hc hd;subst hc hd;refine call_meets F.slot_list_count ⟨_,e,rfl⟩ F.entry_list_count (F.args_list_count_2 _ _) (SeqAt.list_countAt p its.toArray n dd sl (.str z t) (b0S z)) ⟨e,fun y hy=>?_,?_⟩
 ·obtain⟨a,ta,rfl⟩:=hS.all y (by simpa using hy)
  exact SeqAt.EqAt.str_str a ta z t
 ·refine⟨.int (zs.count z:Nat),H,I.tok _,⟨s.toks,?_⟩,q⟩
  show Value.int (its.toArray.toList.countP (b0S z):Nat) s.toks=Value.int (zs.count z:Nat) s.toks;rw[List.toList_toArray,a6a hS]
theorem a2M:∀{us:List Value} {zs:List Str} {j:Nat},StrsAre us zs->(h:j<us.length)->∃a t,us[j]=.str a t/\zs[j]? =some a
 |_,_,_,.nil,h=>by simp at h
 |_,_,0,.cons y t _,_=>⟨y,t,rfl,rfl⟩
 |_,_,j+1,.cons y t r,h=>by
  obtain⟨a,t',h1,h2⟩:=a2M (j:=j) r (by simpa using h);exact⟨a,t',by simpa using h1,by simpa using h2⟩
theorem b1v:∀{us ws:List Value} {zs ys:List Str},StrsAre us zs->StrsAre ws ys->us.length=ws.length->((List.range us.length).all fun j=>(zs[j]?==ys[j]?))=decide (zs=ys)
 |us,ws,zs,ys,h1,h2,hl=>by
  have l1:us.length=zs.length:=h1.length;have l2:ws.length=ys.length:=h2.length;rw[Bool.eq_iff_iff,List.all_eq_true,decide_eq_true_iff]
  constructor
  ·intro h
   apply List.ext_getElem?;intro j
   by_cases hj:j<us.length
   ·exact eq_of_beq (h j (List.mem_range.mpr hj))
   ·rw[List.getElem?_eq_none (by omega),List.getElem?_eq_none (by omega)]
  ·intro e j _
   rw[e];exact beq_self_eq_true _
theorem b1b (hu:X.A.units<cLine):OpR X (compareOp .Eq) (fun x y H Q=>∃(p b:Addr) (zs ys:List Str),x=.ref p/\y=.ref b/\SqL X.K H p (zs.map V.str)/\SqL X.K H b (ys.map V.str)/\Q (.bl (decide (zs=ys))) H):=by
 intro U s σ H x y v u Q I rx ry h;obtain⟨p,b,zs,ys,rfl,rfl,hp,hb,q⟩:=h;cases rx;cases ry;obtain⟨its,r1,pl,_⟩:=I.list hp;obtain⟨jts,r2,ql,_⟩:=I.list hb;have h1:=a4f r1;have h2:=a4f r2
 by_cases hl:its.length=jts.length
 ·refine SeqAt.eq_listAt (e:=fun j=>(zs[j]?==ys[j]?)) pl.isList ql.isList (by simpa using hl) hu (fun j g1 g2=>?_) ?_
  ·have g1':j<its.length:=by simpa using g1
   have g2':j<jts.length:=by simpa using g2
   obtain⟨a,ta,e1,k1⟩:=a2M h1 g1';obtain⟨c,tc,e2,k2⟩:=a2M h2 g2';have w1:its.toArray[j]=.str a ta:=by simpa using e1
   have w2:jts.toArray[j]=.str c tc:=by simpa using e2
   rw[w1,w2,k1,k2];have e:((some a==some c):Bool)=(a==c):=by rw[Bool.eq_iff_iff];simp
   rw[e];exact SeqAt.EqAt.str_str a ta c tc
  ·rw[List.size_toArray,b1v h1 h2 hl]
   exact⟨.bl _,H,I,rfl,q⟩
 ·refine SeqAt.eq_list_lengthsAt pl.isList ql.isList (by simpa using hl) hu ⟨.bl (decide (zs=ys)),H,I,?_,q⟩
  have:zs≠ys:=fun e=>hl (by rw[show its.length=zs.length from h1.length,show jts.length=ys.length from h2.length,e])
  rw[dF0 this]
  rfl
end
end L2
namespace Srt
open PySem PySem.W PyProof.Rows
structure Ord (N:Nat) (r:Nat->Nat->Bool):Prop where
 asym:∀a b,a<N->b<N->r a b=true->r b a=false
 trans:∀a b c,a<N->b<N->c<N->r b a=false->r c b=false->r c a=false
 dist:∀a b,a<N->b<N->a≠b->r a b=true\/r b a=true
def Cmp (N:Nat)(r:Nat->Nat->Bool)(cmp:Nat->Nat->(Bool->Shared->Prop)->Shared->Prop)(P:Shared->Prop):Prop:=
 ∀(i j:Nat) (C:Bool->Shared->Prop) (s:Shared),i<N->j<N->i≠j->P s->(∀s',P s'->C (r i j) s')->cmp i j C s
def PN (N:Nat)(p:Array Nat):Prop:=p.toList.Perm (List.range N)
def Up (r:Nat->Nat->Bool)(p:Array Nat)(k:Nat):Prop:=∀i j,i<=j->j<k->r (p.getD j 0) (p.getD i 0)=false
def Dn (r:Nat->Nat->Bool)(p:Array Nat)(k:Nat):Prop:=∀i j,i<=j->j<k->r (p.getD i 0) (p.getD j 0)=false
section
variable {N:Nat}{r:Nat->Nat->Bool}{cmp:Nat->Nat->(Bool->Shared->Prop)->Shared->Prop}{P:Shared->Prop}{p:Array Nat}
theorem Ord.refl (O:Ord N r){a:Nat}(h:a<N):r a a=false:=by
 cases e:r a a with
 |false=>rfl
 |true=>exact(O.asym a a h h e).symm.trans e |>.symm
theorem PN.size (h:PN N p):p.size=N:=by
 have:=h.length_eq
 simpa using this
theorem a2J {i:Nat}(hi:i<p.size):p.getD i 0=p[i]:=by simp[Array.getD,hi]
theorem PN.lt (h:PN N p){i:Nat}(hi:i<N):p.getD i 0<N:=by
 have hs:=h.size;rw[a2J (by omega)]
 have:p[i]'(by omega)∈p.toList:=by simp
 exact List.mem_range.mp (h.mem_iff.mp this)
theorem PN.inj (h:PN N p){i j:Nat}(hi:i<N)(hj:j<N)(e:p.getD i 0=p.getD j 0):i=j:=by
 have hs:=h.size;rw[a2J (by omega),a2J (by omega)] at e;have nd:p.toList.Nodup:=h.nodup_iff.mpr List.nodup_range;rcases Nat.lt_trichotomy i j with h1 |h1 |h1
 ·exact absurd (show p.toList[i]'(by simp;omega)=p.toList[j]'(by simp;omega) by rw[Array.getElem_toList,Array.getElem_toList];exact e) (List.pairwise_iff_getElem.mp nd i j (by simp;omega) (by simp;omega) h1)
 ·exact h1
 ·exact absurd (show p.toList[j]'(by simp;omega)=p.toList[i]'(by simp;omega) by rw[Array.getElem_toList,Array.getElem_toList];exact e.symm) (List.pairwise_iff_getElem.mp nd j i (by simp;omega) (by simp;omega) h1)
theorem asc (O:Ord N r)(hc:Cmp N r cmp P)(hp:PN N p):∀(f n:Nat) (s:Shared) (Q:Nat->Shared->Prop),1<=n->n+f<=N->Up r p n->P s →
  (∀m s',n<=m->m<=n+f->(m=n+f\/r (p.getD m 0) (p.getD (m-1) 0)=true)->Up r p m->P s'->Q m s')->(kas_asc p f n).kasWp cmp Q s
 |0,n,s,Q,h1,hn,hu,hP,hq=>hq n s (nR0 _) (nR0 _) (.inl rfl) hu hP
 |f+1,n,s,Q,h1,hn,hu,hP,hq=>by
  show cmp _ _ _ s;refine hc _ _ _ s (hp.lt (by omega)) (hp.lt (by omega)) (fun z=>by have:=hp.inj (by omega) (by omega) z;omega) hP fun s' hs'=>?_;cases e:r (p.getD n 0) (p.getD (n-1) 0) with
  |true=>
   dsimp only
   rw[if_pos rfl];exact hq n s' (nR0 _) (by omega) (.inr e) hu hs'
  |false=>
   dsimp only
   rw[if_neg (by decide)];refine asc O hc hp f (n+1) s' Q (by omega) (by omega) (fun i j hij hj=>?_) hs' fun m s'' h2 h3 h4 h5 h6=>hq m s'' (by omega) (by omega) (h4.imp (fun z=>by omega) id) h5 h6
   by_cases hjn:j<n
   ·exact hu i j hij hjn
   ·have ej:j=n:=by omega
    subst ej
    by_cases hi:i=j
    ·subst hi
     exact O.refl (hp.lt (by omega))
    ·exact O.trans _ _ _ (hp.lt (by omega)) (hp.lt (by omega)) (hp.lt (by omega)) (hu i (j-1) (by omega) (by omega)) e
theorem b4o (O:Ord N r)(hc:Cmp N r cmp P)(hp:PN N p):∀(f n:Nat) (s:Shared) (Q:Array Nat×Nat×Nat->Shared->Prop),1<=n->n+f<=N->Dn r p n->P s →
  (∀m s',n<=m->m<=n+f->Dn r p m->P s'->Q (p,m,0) s')->(kas_desc f p n 0).kasWp cmp Q s
 |0,n,s,Q,h1,hn,hu,hP,hq=>hq n s (nR0 _) (nR0 _) hu hP
 |f+1,n,s,Q,h1,hn,hu,hP,hq=>by
  show cmp _ _ _ s;refine hc _ _ _ s (hp.lt (by omega)) (hp.lt (by omega)) (fun z=>by have:=hp.inj (by omega) (by omega) z;omega) hP fun s' hs'=>?_;cases e:r (p.getD n 0) (p.getD (n-1) 0) with
  |true=>
   dsimp only
   rw[if_pos rfl,if_neg (by omega)];refine b4o O hc hp f (n+1) s' Q (by omega) (by omega) (fun i j hij hj=>?_) hs' fun m s'' h2 h3 h5 h6=>hq m s'' (by omega) (by omega) h5 h6
   by_cases hjn:j<n
   ·exact hu i j hij hjn
   ·have ej:j=n:=by omega
    subst ej
    by_cases hi:i=j
    ·subst hi
     exact O.refl (hp.lt (by omega))
    ·exact O.trans _ _ _ (hp.lt (by omega)) (hp.lt (by omega)) (hp.lt (by omega)) (O.asym _ _ (hp.lt (by omega)) (hp.lt (by omega)) e) (hu i (j-1) (by omega) (by omega))
  |false=>
   dsimp only
   rw[if_neg (by decide)];show cmp _ _ _ s';refine hc _ _ _ s' (hp.lt (by omega)) (hp.lt (by omega)) (fun z=>by have:=hp.inj (by omega) (by omega) z;omega) hs' fun s'' hs''=>?_;have hd:r (p.getD (n-1) 0) (p.getD n 0)=true:=by
    rcases O.dist _ _ (hp.lt (i:=n-1) (by omega)) (hp.lt (i:=n) (by omega)) (fun z=>by have:=hp.inj (by omega) (by omega) z;omega) with h |h
    ·exact h
    ·rw[e] at h;cases h
   dsimp only
   rw[hd,if_pos rfl];exact hq n s'' (nR0 _) (by omega) hu hs''
theorem b0k {i j:Nat}(hj:j<=p.size)(k:Nat):(kas_rev p i j).getD k 0=if i<=k/\k<j then p.getD (i+j-1-k) 0 else p.getD k 0:=by
 have h:=getElem?_mirror_all (xs:=p) (i:=i) (j:=j) hj k;unfold kas_rev;rw[Array.getD_eq_getD_getElem?,h]
 split<;>rw[Array.getD_eq_getD_getElem?]
theorem b0u {i j:Nat}(h:PN N p):PN N (kas_rev p i j):=(Array.perm_iff_toList_perm.mp (mirror_perm p i j _)).trans h
theorem b3s (O:Ord N r)(hc:Cmp N r cmp P)(hp:PN N p){n:Nat}{s:Shared}{Q:Nat×Array Nat->Shared->Prop}(h1:1<=n)(hn:n<=N)(hd:Dn r p n)(hP:P s)
  (hq:∀m p' s',n<=m->m<=N->PN N p'->Up r p' m->P s'->Q (m,p') s'):(kas_tail3 n N p).kasWp cmp Q s:=by
 unfold kas_tail3;rw[KasT.kasWp_bind];have hs:=hp.size;refine asc O hc (b0u hp) (N-n) n s _ h1 (by omega) (fun i j hij hj=>?_) hP fun m s' h2 h3 _ h5 h6=>hq m _ s' h2 (by omega) (b0u hp) h5 h6;rw[b0k (by omega),b0k (by omega),if_pos (by omega),if_pos (by omega)];exact hd _ _ (by omega) (by omega)
theorem b3v (O:Ord N r)(hc:Cmp N r cmp P)(hp:PN N p){s:Shared}{Q:Nat×Array Nat->Shared->Prop}(h1:1<=N)(hP:P s)
  (hq:∀m p' s',1<=m->m<=N->PN N p'->Up r p' m->P s'->Q (m,p') s'):(kas_count N p).kasWp cmp Q s:=by
 unfold kas_count;rw[KasT.kasWp_bind];refine asc O hc hp (N-1) 1 s _ (nR0 _) (by omega) (fun i j hij hj=>?_) hP fun m s' h2 h3 h4 h5 h6=>?_
 ·have ei:i=0:=by omega
  have ej:j=0:=by omega
  subst ei ej;exact O.refl (hp.lt (by omega))
 ·by_cases hm:m=N
  ·rw[if_pos (by rw[hm];exact beq_self_eq_true N)]
   exact hq m p s' h2 (by omega) hp h5 h6
  ·rw[if_neg (by rw[beq_iff_eq];exact hm)]
   have hr:r (p.getD m 0) (p.getD (m-1) 0)=true:=h4.resolve_left (by omega)
   by_cases hm1:m > 1
   ·rw[if_pos hm1]
    show cmp _ _ _ s';refine hc _ _ _ s' (hp.lt (by omega)) (hp.lt (by omega)) (fun z=>by have:=hp.inj (by omega) (by omega) z;omega) h6 fun s'' hs''=>?_;have hd:r (p.getD 0 0) (p.getD (m-1) 0)=true:=by
     rcases O.dist _ _ (hp.lt (i:=0) (by omega)) (hp.lt (i:=m-1) (by omega)) (fun z=>by have:=hp.inj (by omega) (by omega) z;omega) with h |h
     ·exact h
     ·rw[h5 0 (m-1) (by omega) (by omega)] at h;cases h
    dsimp only
    rw[hd,if_pos rfl];exact hq m p s'' h2 (by omega) hp h5 hs''
   ·rw[if_neg hm1]
    have em:m=1:=by omega
    subst em;unfold kas_descPart;rw[KasT.kasWp_bind];refine b4o O hc hp (N-(1+1)) (1+1) s' _ (by omega) (by omega) (fun i j hij hj=>?_) h6 fun m s'' g2 g3 g5 g6=>?_
    ·by_cases hi:i=j
     ·subst hi
      exact O.refl (hp.lt (by omega))
     ·have ei:i=0:=by omega
      have ej:j=1:=by omega
      subst ei ej;exact O.asym _ _ (hp.lt (by omega)) (hp.lt (by omega)) hr
    ·rw[if_neg (by show ¬(0 > 0);omega)]
     exact b3s O hc hp (by show 1<=m;omega) (by show m<=N;omega) g5 g6 fun m' p' s3 a1 a2 a3 a4 a5=>hq m' p' s3 (by have:m<=m':=a1;omega) a2 a3 a4 a5
theorem b1h (O:Ord N r)(hc:Cmp N r cmp P)(hp:PN N p){k:Nat}(hk:k<N)(hu:Up r p k):∀(f l q:Nat) (s:Shared) (Q:Nat->Shared->Prop),l<=q->q<=k->q-l<=f->(∀i,i<l->r (p.getD k 0) (p.getD i 0)=false) →
  (∀i,q<=i->i<k->r (p.getD k 0) (p.getD i 0)=true)->P s →
  (∀m s',m<=k->(∀i,i<m->r (p.getD k 0) (p.getD i 0)=false)->(∀i,m<=i->i<k->r (p.getD k 0) (p.getD i 0)=true)->P s'->Q m s')->(kas_place p k f l q).kasWp cmp Q s
 |0,l,q,s,Q,hl,hq,hf,lo,hi,hP,h=>h l s (by omega) lo (fun i h1 h2=>hi i (by omega) h2) hP
 |f+1,l,q,s,Q,hl,hq,hf,lo,hi,hP,h=>by
  unfold kas_place
  by_cases e:l≥q
  ·rw[if_pos e]
   exact h l s (by omega) lo (fun i h1 h2=>hi i (by omega) h2) hP
  ·rw[if_neg e]
   show cmp _ _ _ s;have hm:(l+q)/2<q:=by omega
   have hm2:l<=(l+q)/2:=by omega
   refine hc _ _ _ s (hp.lt (by omega)) (hp.lt (by omega)) (fun z=>by have:=hp.inj (by omega) (by omega) z;omega) hP fun s' hs'=>?_;cases c:r (p.getD k 0) (p.getD ((l+q)/2) 0) with
   |true=>
    dsimp only
    rw[if_pos rfl];refine b1h O hc hp hk hu f l ((l+q)/2) s' Q (by omega) (by omega) (by omega) lo (fun i h1 h2=>?_) hs' h;cases d:r (p.getD k 0) (p.getD i 0) with
    |true=>rfl
    |false=>
     have:=O.trans _ _ _ (hp.lt (i:=(l+q)/2) (by omega)) (hp.lt (i:=i) (by omega)) (hp.lt (i:=k) (by omega)) (hu _ i h1 h2) d
     rw[this] at c;cases c
   |false=>
    dsimp only
    rw[if_neg (by decide)];refine b1h O hc hp hk hu f ((l+q)/2+1) q s' Q (by omega) (by omega) (by omega) (fun i h1=>?_) hi hs' h;exact O.trans _ _ _ (hp.lt (by omega)) (hp.lt (by omega)) (hp.lt (by omega)) (hu i ((l+q)/2) (by omega) (by omega)) c
theorem b0z {src d:Nat}(hs:src<p.size)(hd:d<=src)(k:Nat):(bubble p src d).getD k 0=if k=src-d then p.getD src 0 else if src-d<k/\k<=src then p.getD (k-1) 0 else p.getD k 0:=by
 have h:=getElem?_bubble hs d hd k;rw[Array.getD_eq_getD_getElem?,h,Array.getD_eq_getD_getElem?,Array.getD_eq_getD_getElem?,Array.getD_eq_getD_getElem?]
 by_cases e1:k=src-d
 ·rw[if_pos e1,if_pos e1]
 ·rw[if_neg e1,if_neg e1]
  by_cases e2:src-d<k/\k<=src
  ·rw[if_pos e2,if_pos e2]
  ·rw[if_neg e2,if_neg e2]
theorem bin (O:Ord N r)(hc:Cmp N r cmp P):∀(f:Nat) (p:Array Nat) (k:Nat) (s:Shared) (Q:Array Nat->Shared->Prop),PN N p->k+f=N->Up r p k->P s →
  (∀p' s',PN N p'->Up r p' N->P s'->Q p' s')->(kas_bin f p k).kasWp cmp Q s
 |0,p,k,s,Q,hp,hk,hu,hP,h=>h p s hp ((show k=N from hk)▸hu) hP
 |f+1,p,k,s,Q,hp,hk,hu,hP,h=>by
  unfold kas_bin;rw[KasT.kasWp_bind];have hs:=hp.size;refine b1h O hc hp (k:=k) (by omega) hu k 0 k s _ (zL0 _) (nR0 _) (by omega) (fun i hi=>absurd hi (Nat.not_lt_zero _)) (fun i h1 h2=>absurd h2 (by omega)) hP fun m s' h1 lo hi hs'=>?_;refine bin O hc f _ (k+1) s' Q ((Array.perm_iff_toList_perm.mp (bubble_perm p k _)).trans hp) (by omega) (fun i j hij hj=>?_) hs' h;rw[b0z (by omega) (by omega),b0z (by omega) (by omega)];have e:k-(k-m)=m:=by omega
  rw[e];have hi':∀i,m<=i->i<k->r (p.getD i 0) (p.getD k 0)=false:=fun i a b=>O.asym _ _ (hp.lt (by omega)) (hp.lt (by omega)) (hi i a b)
  by_cases ej:j=m
  ·rw[if_pos ej]
   by_cases ei:i=m
   ·rw[if_pos ei]
    exact O.refl (hp.lt (by omega))
   ·rw[if_neg ei,if_neg (by omega)]
    exact lo i (by omega)
  ·rw[if_neg ej]
   by_cases ei:i=m
   ·rw[if_pos ei,if_pos (by omega)]
    exact hi' (j-1) (by omega) (by omega)
   ·rw[if_neg ei]
    by_cases bj:m<j/\j<=k
    ·rw[if_pos bj]
     by_cases bi:m<i/\i<=k
     ·rw[if_pos bi]
      exact hu _ _ (by omega) (by omega)
     ·rw[if_neg bi]
      exact hu _ _ (by omega) (by omega)
    ·rw[if_neg bj,if_neg (by omega)]
     exact hu _ _ hij (by omega)
theorem sort (O:Ord N r)(hc:Cmp N r cmp P){s:Shared}{Q:Array Nat->Shared->Prop}(h1:1<=N)(hP:P s)(h:∀p' s',PN N p'->Up r p' N->P s'->Q p' s'):(kas_sort N).kasWp cmp Q s:=by
 unfold kas_sort;rw[KasT.kasWp_bind];refine b3v O hc (by unfold PN;simp) h1 hP fun m p' s' a1 a2 a3 a4 a5=>?_
 show(if m<N then kas_bin (N-max m 1) p' (max m 1) else .ret p').kasWp cmp Q s'
 have em:max m 1=m:=by omega
 rw[em]
 by_cases hm:m<N
 ·rw[if_pos hm]
  exact bin O hc _ p' m s' Q a3 (by omega) a4 a5 h
 ·rw[if_neg hm]
  have:m=N:=by omega
  subst this;exact h p' s' a3 a4 a5
end
def rz (zs:List Str)(i j:Nat):Bool:=decide ((zs.getD i "").cps.toList<(zs.getD j "").cps.toList)
theorem b0E {a b:Str}(h:a.cps.toList=b.cps.toList):a=b:=by
 cases a;cases b;simp at h;rw[h]
theorem b3p {zs:List Str}(nd:zs.Nodup):Ord zs.length (rz zs) where
 asym:=fun a b _ _ h=>by
  unfold rz at h ⊢;rw[decide_eq_true_iff] at h;rw[decide_eq_false_iff_not];exact List.lt_asymm h
 trans:=fun a b c _ _ _ h1 h2=>by
  unfold rz at h1 h2 ⊢;rw[decide_eq_false_iff_not] at h1 h2 ⊢;rw[List.not_lt] at h1 h2 ⊢;exact List.le_trans h1 h2
 dist:=fun a b ha hb n=>by
  unfold rz;rw[decide_eq_true_iff,decide_eq_true_iff];apply Classical.byContradiction;intro h;rw[not_or,List.not_lt,List.not_lt] at h;have e:=b0E (List.le_antisymm h.2 h.1);simp only[List.getD_eq_getElem?_getD,gE0 ha,gE0 hb,Option.getD_some] at e;rcases Nat.lt_trichotomy a b with q |q |q
  ·exact List.pairwise_iff_getElem.mp nd a b ha hb q e
  ·exact n q
  ·exact List.pairwise_iff_getElem.mp nd b a hb ha q e.symm
end Srt
namespace L2
open PySem PySem.Spec PyProof.Rows
theorem a4J {α:Type}(d:α)(l:List α){q:List Nat}(h:q.Perm (List.range l.length)):(q.map fun i=>l.getD i d).Perm l:=by
 have h1:=h.map fun i=>l.getD i d;have e:(List.range l.length).map (fun i=>l.getD i d)=l:=by
  apply List.ext_getElem
  ·simp
  ·intro i a b
   rw[List.getElem_map,List.getElem_range,List.getD_eq_getElem?_getD,gE0 b,Option.getD_some]
 rw[e] at h1;exact h1
theorem a6h {xs:List V}{us:List Value}(r:a1g xs us):∀(q:List Nat),(∀i∈q,i<xs.length)->a1g (q.map fun i=>xs.getD i .non) (q.map fun i=>us.getD i Value.none)
 |[],_=>.nil
 |i::q,h=>by
  refine .cons ?_ (a6h r q fun j hj=>h j (mL0 _ hj));have hi:=h i List.mem_cons_self;have hu:i<us.length:=by rw[<-r.length];exact hi
  obtain⟨u,e,ru⟩:=r.get (i:=i) (x:=xs[i]) (by simp[hi]);simp only[List.getD_eq_getElem?_getD,gE0 hi,e,Option.getD_some];exact ru
def a8P (zs:List Str):Prop:=zs.Pairwise fun a b=>¬b.cps.toList<a.cps.toList
end L2
namespace L2
open PySem PySem.Spec PyProof.Rows PySem.Builtin PySem.Builtin.Dict
theorem a4X (a b:Value):Builtin.«dict.__eq__» ⟨[a,b],[]⟩=(do
  let (self,other) <-dictSlotArgs "__eq__" ⟨[a,b],[]⟩
  if !(<-isInstance other (.type "dict")) then rule s!"dict.{("__eq__" : String)}.not-a-dict";return <-ret .notImplemented
  ret (.bool ((<-Dict.samePairs s!"dict.{("__eq__" : String)}" (<-addrOf self) (<-addrOf other))==true))):=rfl
theorem a4s:isSubtype (.type "dict") (.type "dict")=pure true:=by rw[isSubtype_type];kernel_rfl
section
variable {prog:Program}{w:World}{A:Around}{E:Vs0}{s:Shared}{a b:Addr}{oa ob:Obj}{es fs:Array DictEntry}{ep fp:Nat}
theorem a6V {id:String}{Q:Bool->Shared->Prop}(ha:s.heap.get? a=some oa)(da:oa.data=.dict es ep)(hb:s.heap.get? b=some ob)(db:ob.data=.dict fs fp)(na:(a==sysModules)=false)(nb:(b==sysModules)=false)(hsz:es.size=fs.size)
  (hf:∀(i:Nat) (e:DictEntry),es[i]? =some e->∃(j:Nat) (f:DictEntry),fs[j]? =some f/\(∀(R:Option Nat->Shared->Prop),R (some j) s->wpAny (model prog w) A (dictFind b e.key e.hash) R E s)/\∀(R:Bool->Shared->Prop),R true s->wpAny (model prog w) A (eqBool e.val f.val) R E s)
  (hq:Q true s):wpAny (model prog w) A (Dict.samePairs id a b) Q E s:=by
 unfold Dict.samePairs Dict.showsAll;simp only[na,nb,Bool.false_eq_true,if_false];refine wB0 (wP0 (wB0 (wP0 ?_)));refine wB0 (wpAny_dictEntries ha da ?_);refine wB0 (wpAny_dictEntries hb db ?_);rw[if_neg (by rw[hsz];simp)];refine wB0 (wpAny_dictEpoch ha da ?_);rw[Std.Legacy.Range.forIn_eq_forIn_range'];refine wB0 (wpAny_forIn_list _ (fun rest b s'=>b=(none,())/\s'=s/\∀x∈rest,x<es.size) _ (fun i rest b s' hI=>?_) (fun b s' hI=>?_) _ _ ⟨rfl,rfl,fun x hx=>?_⟩)
 ·obtain⟨rfl,rfl,hl⟩:=hI
  have hi:=hl i List.mem_cons_self;obtain⟨j,f,hj,h1,h2⟩:=hf i es[i] (by simp[hi]);refine wB0 (wpAny_dictEntries ha da ?_);have ei:es[i]? =some es[i]:=by simp[hi]
  rw[ei]
  dsimp only
  refine wB0 (wpAny_holding (wB0 (h1 _ ?_)))
  dsimp only
  refine wB0 (wpAny_dictEntries hb db ?_);rw[hj]
  dsimp only
  refine wpAny_holding (h2 _ ?_);rw[if_neg (by decide)];refine wB0 (wpAny_dictEpoch ha da ?_);rw[if_neg (by simp)];exact wP0 ⟨rfl,rfl,fun x hx=>hl x (mL0 _ hx)⟩
 ·obtain⟨rfl,rfl,_⟩:=hI
  exact wP0 hq
 ·have:=List.mem_range'.mp hx
  obtain⟨k,hk,rfl⟩:=this;simp[Std.Legacy.Range.size] at hk ⊢
  omega
end
theorem a3G {P:Program}{w:World}:∀{es:List DictEntry} {kvs:List (Key×Value)},Pairs (a0H P w) es kvs->es.length=kvs.length
 |_,_,.nil=>rfl
 |_,_,.cons _ _ r=>by simp[a3G r]
theorem a8S {prog:Program}{w:World}{A:Around}{E:Vs0}{s:Shared}{d:Addr}{o:Obj}{es:Array DictEntry}{ep j:Nat}{x:Str}{t:Tok}{hs:Int}{Q:Option Nat->Shared->Prop}(ho:s.heap.get? d=some o)(hd:o.data=.dict es ep)
  (hall:∀e∈es,∃z t,e.key=Value.str z t) (hj:es.findIdx? (fun e=>e.key.isStr x)=some j) (h:Q (some j) s):wpAny (model prog w) A (dictFind d (.str x t) hs) Q E s:=by
 obtain⟨hjs,hjt,_⟩:=Array.findIdx?_eq_some_iff_getElem.mp hj;have ha:(es.all fun e=>isExactStrKey e.key)=true:=by
  rw[Array.all_eq_true'];intro e he;obtain⟨z,t,q⟩:=hall e he;rw[q]
  rfl
 obtain⟨z,tz,ez⟩:=hall es[j] (Array.getElem_mem hjs);have zx:z=x:=by
  rw[ez] at hjt;exact eq_of_beq hjt
 subst zx;unfold dictFind;refine wpAny_holding ?_;refine wB0 (wpAny_dictEntries ho hd ?_)
 dsimp only
 rw[if_pos ha];unfold foundByValue;rw[hj]
 dsimp only
 rw[Array.getElem?_eq_getElem hjs]
 dsimp only
 rw[ez];refine wB0 (wpAny_dictEpoch ho hd (wB0 (wpAny_eqBool_str (wB0 (wpAny_dictEpoch ho hd ?_)))));rw[if_neg (by simp),if_pos (by simp)];exact wB0 (wpAny_rule (wP0 h))
section
variable {A:Around}{s:Shared}{P:Program}{w:World}
theorem a6K {a b:Addr}{kvs kws:List (Key×Value)}(da:s.heap.DictOf (a0H P w) a kvs)(db:s.heap.DictOf (a0H P w) b kws)(na:(a==sysModules)=false)(nb:(b==sysModules)=false)(hl:kvs.length=kws.length)(tx:∀(k:Key) (v:Value),(k,v)∈kws->∃x,k=.inr x)
  (he:∀(k:Key) (v:Value),(k,v)∈kvs->∃v',(k,v')∈kws/\SeqAt.EqAt A.in1 s v v' true) (hu:A.units<cLine):SeqAt.EqAt A s (.ref a) (.ref b) true:=by
 by_cases hab:a=b
 ·rw[hab]
  exact SeqAt.EqAt.same _
 refine SeqAt.EqAt.of_refs hab fun prog w' E Q hq=>?_;obtain⟨oa,es,ep,ha,xa,dda,ka,pa,nda⟩:=da;obtain⟨ob,fs,fp,hb,xb,ddb,kb,pb,ndb⟩:=db;have Ta:s.TypeIs (.ref a) "dict":=⟨oa,ha,xa.1⟩;have Tb:s.TypeIs (.ref b) "dict":=⟨ob,hb,xb.1⟩;have la:es.size=kvs.length:=by have:=a3G pa;simpa using this
 have lb:fs.size=kws.length:=by have:=a3G pb;simpa using this
 have kb':∀e∈fs,∃z t,e.key=Value.str z t:=fun e he'=>by
  obtain⟨m,hm,rfl⟩:=Array.mem_iff_getElem.mp he';obtain⟨⟨k,v⟩,hk⟩:∃kv,kws[m]? =some kv:=⟨_,gE0 (by omega)⟩;obtain⟨g1,_⟩:=pb.get? (i:=m) (e:=fs[m]) (by simp[hm]) hk;obtain⟨x,rfl⟩:=tx k v (gI0 hk);rcases a0I (k:=.inr x) (v:=fs[m].key) g1 with ⟨i,t,q,_⟩ |⟨z,t,q,q2⟩
  ·cases q
  ·exact⟨z,t,q2⟩
 refine wpAny_richCompare_same_room Ta Tb F.slot_dict_eq (wpAny_call_entry F.slot_dict_eq Ta F.entry_dict_eq ?_ (F.args_dict_eq_2 _ _)) hu;rw[a4X];refine wB0 ?_;show wpAny _ _ (pure (Value.ref a,Value.ref b)) _ _ _;refine wP0 ?_
 dsimp only
 refine wB0 (wpAny_isInstance (T:="dict") (b:=true) Tb a4s ?_);simp only[Bool.not_true,Bool.false_eq_true,if_false];refine wB0 (wP0 (wB0 (wP0 (wB0 (a6V ha dda hb ddb na nb (by omega) (fun i e ei=>?_) ?_)))))
 ·have hi:i<es.size:=(Array.getElem?_eq_some_iff.mp ei).1
  obtain⟨⟨k,v⟩,hk⟩:∃kv,kvs[i]? =some kv:=⟨_,gE0 (by omega)⟩;obtain⟨g1,g2⟩:=pa.get? (i:=i) (e:=e) (by simpa using ei) hk;obtain⟨k2,g3,g4⟩:=ka e (Array.mem_of_getElem? ei);have ek:k2=k:=(a0H P w).inj _ _ _ g3 g1;subst ek;obtain⟨v',hv',eq⟩:=he k2 v (gI0 hk);obtain⟨x,rfl⟩:=tx k2 v' hv';obtain⟨t0,ek0⟩:∃t,e.key=Value.str x t:=by
   rcases a0I (k:=.inr x) (v:=e.key) g1 with ⟨i,t,q,_⟩ |⟨z,t,q,q2⟩
   ·cases q
   ·cases q
    exact⟨t,q2⟩
  obtain⟨m,hm⟩:=List.getElem?_of_mem hv';have hm':m<fs.size:=by have:=(gS0.mp hm).1;omega
  have em:fs.toList[m]? =some fs[m]:=by simp[hm']
  obtain⟨q1,q2⟩:=pb.get? em hm;obtain⟨j,hj⟩:∃j,fs.findIdx? (fun e=>e.key.isStr x)=some j:=by
   cases z:fs.findIdx? (fun e=>e.key.isStr x) with
   |some j=>exact⟨j,rfl⟩
   |none=>
    have:=Array.findIdx?_eq_none_iff.mp z fs[m] (Array.getElem_mem hm')
    have q1':fs[m].key.isStr x=true:=by
     rcases a0I (k:=.inr x) (v:=fs[m].key) q1 with ⟨i,t,q,_⟩ |⟨z,t,q,q2⟩
     ·cases q
     ·cases q
      rw[q2];exact beq_self_eq_true x
    rw[q1'] at this;cases this
  obtain⟨hjs,hjt,_⟩:=Array.findIdx?_eq_some_iff_getElem.mp hj;obtain⟨⟨k3,v3⟩,hk3⟩:∃kv,kws[j]? =some kv:=⟨_,gE0 (by omega)⟩;obtain⟨r1,r2⟩:=pb.get? (i:=j) (e:=fs[j]) (by simp[hjs]) hk3;have hjk:(a0H P w).is (.inr x) fs[j].key=true:=by
   obtain⟨z,t,q⟩:=kb' fs[j] (Array.getElem_mem hjs);rw[q] at hjt ⊢;have zx:z=x:=eq_of_beq hjt;rw[zx];rw[(a0H P w).strs (.inr x) x t0 _ (by rw[<-ek0];exact g1)];exact beq_self_eq_true x
  have e3:k3=.inr x:=(a0H P w).inj _ _ _ r1 hjk;subst e3;have jm:j=m:=by
   have hj1:(kws.map (·.1))[j]? =some (Sum.inr x):=by rw[gM0,hk3];rfl
   have hm1:(kws.map (·.1))[m]? =some (Sum.inr x):=by rw[gM0,hm];rfl
   obtain⟨x1,y1⟩:=gS0.mp hj1;obtain⟨x2,y2⟩:=gS0.mp hm1;rcases Nat.lt_trichotomy j m with z |z |z
   ·exact absurd (y1.trans y2.symm) (List.pairwise_iff_getElem.mp ndb j m x1 x2 z)
   ·exact z
   ·exact absurd (y2.trans y1.symm) (List.pairwise_iff_getElem.mp ndb m j x2 x1 z)
  subst jm;rw[hm] at hk3;cases hk3;refine⟨j,fs[j],by simp[hjs],fun R hR=>?_,fun R hR=>?_⟩
  ·rw[ek0]
   exact a8S hb ddb kb' hj hR
  ·rw[g2,r2]
   exact eq prog w' E R hR
 ·exact wP0 ⟨_,rfl,(fun z=>nomatch z),hq⟩
end
end L2
namespace L2
open PySem PySem.Spec PyProof.Rows
inductive Dq (H:Hp):Nat->V->V->Prop
 |non {n:Nat}:Dq H n .non .non
 |bl {n:Nat} {b:Bool}:Dq H n (.bl b) (.bl b)
 |int {n:Nat} {i:Int}:Dq H n (.int i) (.int i)
 |str {n:Nat} {z:Str}:Dq H n (.str z) (.str z)
 |ref {n:Nat} {a:Addr}:Dq H n (.ref a) (.ref a)
 |tup {n:Nat} {a b:Addr} {xs ys:List V} (ha:H a=some (.tup xs)) (hb:H b=some (.tup ys)) (hl:xs.length=ys.length) (h:∀(i:Nat) (x y:V),xs[i]? =some x->ys[i]? =some y->Dq H n x y):Dq H (n+1) (.ref a) (.ref b)
 |lst {n:Nat} {a b:Addr} {xs ys:List V} (ha:H a=some (.lst xs)) (hb:H b=some (.lst ys)) (hl:xs.length=ys.length) (h:∀(i:Nat) (x y:V),xs[i]? =some x->ys[i]? =some y->Dq H n x y):Dq H (n+1) (.ref a) (.ref b)
 |dct {n:Nat} {a b:Addr} {kvs kws:List (Key×V)} (f:Key->V) (ha:Rd H a (.dK kvs)) (hb:Rd H b (.dK kws)) (hl:kvs.length=kws.length) (tx:∀(k:Key) (v:V),(k,v)∈kws->∃x,k=.inr x)
   (hf:∀(k:Key) (v:V),(k,v)∈kvs->(k,f k)∈kws) (h:∀(k:Key) (v:V),(k,v)∈kvs->Dq H n v (f k)):Dq H (n+1) (.ref a) (.ref b)
theorem a5Q:∀{kvs:List (Key×V)} {vs:List (Key×Value)} {k:Key} {u:Value} {i:Nat},KV kvs vs->vs[i]? =some (k,u)->∃v,kvs[i]? =some (k,v)/\a0X v u
 |_,_,_,_,_,.nil,e=>by simp at e
 |_,_,k,u,0,.cons (a:=p) r _,e=>by
  simp at e;subst e;obtain⟨p1,p2⟩:=p;obtain⟨r1,r2⟩:=r;simp only at r1;subst r1;exact⟨p2,rfl,r2⟩
 |_,_,k,u,i+1,.cons _ t,e=>by
  obtain⟨v,h1,h2⟩:=a5Q (i:=i) t (by simpa using e);exact⟨v,by simpa using h1,h2⟩
section
variable {X:Cx}{U:List (Addr×Obj)}{σ:St}{H:Hp}{s:Shared}
theorem b1B (I:Inv X U σ H s){n:Nat}{x y:V}(d:Dq H n x y):∀{u u':Value} {A:Around},a0X x u->a0X y u'->A.units+n<cLine->SeqAt.EqAt A s u u' true:=by
 induction d with
 |non=>intro u u' A r r' _;cases r;cases r';exact SeqAt.EqAt.same _
 |bl=>intro u u' A r r' _;cases r;cases r';exact SeqAt.EqAt.same _
 |@int n i=>
  intro u u' A r r' _;obtain⟨t,rfl⟩:=r;obtain⟨t',rfl⟩:=r';have h:=SeqAt.EqAt.int_int (A:=A) (s:=s) i t i t'
  rwa [beq_self_eq_true] at h
 |@str n z=>
  intro u u' A r r' _;obtain⟨t,rfl⟩:=r;obtain⟨t',rfl⟩:=r';have h:=SeqAt.EqAt.str_str (A:=A) (s:=s) z t z t'
  rwa [beq_self_eq_true] at h
 |ref=>intro u u' A r r' _;cases r;cases r';exact SeqAt.EqAt.same _
 |@tup n a b xs ys ha hb hl h ih=>
  intro u u' A r r' hu;cases r;cases r'
  by_cases hab:a=b
  ·rw[hab];exact SeqAt.EqAt.same _
  obtain⟨its,r1,pl,_⟩:=I.tuple (SqT.of (K:=X.K) ha);obtain⟨jts,r2,ql,_⟩:=I.tuple (SqT.of (K:=X.K) hb);have l1:=r1.length;have l2:=r2.length;have h0:=SeqAt.RcAt.tuples (A:=A) (e:=fun _=>true) pl ql (by omega) (fun j g1 g2=>?_)
  ·have e:((List.range (min its.toArray.size jts.toArray.size)).all (fun _=>true)&&its.toArray.size==jts.toArray.size)=true:=by
    simp
    omega
   rw[e] at h0;exact SeqAt.EqAt.of_refs hab h0
  ·have g1':j<its.length:=by simpa using g1
   have g2':j<jts.length:=by simpa using g2
   obtain⟨u1,e1,k1⟩:=r1.get (i:=j) (x:=xs[j]'(by omega)) (by simp);obtain⟨u2,e2,k2⟩:=r2.get (i:=j) (x:=ys[j]'(by omega)) (by simp);have w1:its.toArray[j]=u1:=by have:=(gS0.mp e1).2;simpa using this
   have w2:jts.toArray[j]=u2:=by have:=(gS0.mp e2).2;simpa using this
   rw[w1,w2];exact ih j _ _ (by simp) (by simp) k1 k2 (by show A.units+1+n<cLine;omega)
 |@lst n a b xs ys ha hb hl h ih=>
  intro u u' A r r' hu;cases r;cases r'
  by_cases hab:a=b
  ·rw[hab];exact SeqAt.EqAt.same _
  obtain⟨its,r1,pl,_⟩:=I.list (xs:=xs) (.inl (.inl ha));obtain⟨jts,r2,ql,_⟩:=I.list (xs:=ys) (.inl (.inl hb));have l1:=r1.length;have l2:=r2.length;have h0:=SeqAt.RcAt.lists (A:=A) (e:=fun _=>true) pl.isList ql.isList (by simp;omega) (by omega) (fun j g1 g2=>?_)
  ·have e:((List.range its.toArray.size).all (fun _=>true))=true:=by simp
   rw[e] at h0;exact SeqAt.EqAt.of_refs hab h0
  ·have g1':j<its.length:=by simpa using g1
   have g2':j<jts.length:=by simpa using g2
   obtain⟨u1,e1,k1⟩:=r1.get (i:=j) (x:=xs[j]'(by omega)) (by simp);obtain⟨u2,e2,k2⟩:=r2.get (i:=j) (x:=ys[j]'(by omega)) (by simp);have w1:its.toArray[j]=u1:=by have:=(gS0.mp e1).2;simpa using this
   have w2:jts.toArray[j]=u2:=by have:=(gS0.mp e2).2;simpa using this
   rw[w1,w2];exact ih j _ _ (by simp) (by simp) k1 k2 (by show A.units+1+n<cLine;omega)
 |@dct n a b kvs kws f ha hb hl tx hf h ih=>
  intro u u' A r r' hu;cases r;cases r';obtain⟨_,na,vs,kv,da⟩:=a6W I.hok ha;obtain⟨_,nb,ws,kw,db⟩:=a6W I.hok hb;have l1:=kv.length;have l2:=kw.length;refine a6K da db na nb (by omega) (fun k v hk=>?_) (fun k v hk=>?_) (by omega)
  ·obtain⟨i,hi⟩:=List.getElem?_of_mem hk
   obtain⟨v0,e0,_⟩:=a5Q kw hi;exact tx k v0 (gI0 e0)
  ·obtain⟨i,hi⟩:=List.getElem?_of_mem hk
   obtain⟨v0,e0,rv⟩:=a5Q kv hi;have m0:=gI0 e0;obtain⟨m,hm⟩:=List.getElem?_of_mem (hf k v0 m0);obtain⟨u',e1,rv'⟩:=a8j kw hm;exact⟨u',gI0 e1,ih k v0 m0 rv rv' (by show A.units+1+n<cLine;omega)⟩
theorem a9s {A:Around}(I:Inv X U σ H s){n:Nat}{a b:Addr}{xs ys:List V}(ha:SqL X.K H a xs)(hb:SqL X.K H b ys)(hl:xs.length=ys.length)(h:∀(i:Nat) (x y:V),xs[i]? =some x->ys[i]? =some y->Dq H n x y)(hu:A.units+n+1<cLine) :
  SeqAt.RcAt A s (.ref a) (.ref b) true/\SeqAt.RcNeAt A s (.ref a) (.ref b) false:=by
 obtain⟨its,r1,pl,_⟩:=I.list ha;obtain⟨jts,r2,ql,_⟩:=I.list hb;have l1:=r1.length;have l2:=r2.length;have el:∀j (g1:j<its.toArray.size) (g2:j<jts.toArray.size),SeqAt.EqAt A.in1 s its.toArray[j] jts.toArray[j] true:=fun j g1 g2=>by
  have g1':j<its.length:=by simpa using g1
  have g2':j<jts.length:=by simpa using g2
  obtain⟨u1,e1,k1⟩:=r1.get (i:=j) (x:=xs[j]'(by omega)) (by simp);obtain⟨u2,e2,k2⟩:=r2.get (i:=j) (x:=ys[j]'(by omega)) (by simp);have w1:its.toArray[j]=u1:=by have:=(gS0.mp e1).2;simpa using this
  have w2:jts.toArray[j]=u2:=by have:=(gS0.mp e2).2;simpa using this
  rw[w1,w2];exact b1B I (h j _ _ (by simp) (by simp)) k1 k2 (by show A.units+1+n<cLine;omega)
 have e:((List.range its.toArray.size).all (fun _=>true))=true:=by simp
 have h1:=SeqAt.RcAt.lists (A:=A) (e:=fun _=>true) pl.isList ql.isList (by simp;omega) (by omega) el;have h2:=SeqAt.RcNeAt.lists (A:=A) (e:=fun _=>true) pl.isList ql.isList (by simp;omega) (by omega) el;rw[e] at h1 h2;exact⟨h1,h2⟩
theorem b0w:OpR X (compareOp .NotEq) (fun x y H Q=>∃(n:Nat) (a b:Addr) (xs ys:List V),x=.ref a/\y=.ref b/\SqL X.K H a xs/\SqL X.K H b ys/\xs.length=ys.length/\(∀(i:Nat) (x y:V),xs[i]? =some x->ys[i]? =some y->Dq H n x y)/\X.A.units+n+1<cLine/\Q (.bl false) H):=by
 intro U s σ H x y v u Q I rx ry h;obtain⟨n,a,b,xs,ys,rfl,rfl,ha,hb,hl,hd,hu,q⟩:=h;cases rx;cases ry;exact(a9s I ha hb hl hd hu).2 X.prog X.w X.xe _ ⟨.bl false,H,I,rfl,q⟩
end
theorem a2Z {X:Cx}:MtR X "list.append" a7U:=a3E
theorem a0l.put {H H':Hp}{d:Addr}{o:HO}(s:a0l H H')(h:H d=none):a0l H (L2.upd H' d o):=fun b u e=>by
 rw[a0h (a0v e h)];exact s b u e
end L2
namespace My
open PySem L2 PyProof.Rows
theorem b4m {G T:Prop}(h:T->G)(t:T):G:=h t
seal L2.PE L2.PT L2.PW L2.PS L2.PSs L2.PA L2.PI L2.PG L2.PGs L2.OpR L2.UnR L2.a1C L2.IxR L2.SlR L2.MtR L2.PIf L2.PO L2.MtM L2.PC
def a1f:List Nat:=("abcdefghijklmnopqrstuvwxyz":Str).cps.toList
def a1w (z:Str):Bool:=decide (1<=z.length/\z.length<=8)&&z.cps.toList.all fun c=>decide (c∈a1f)
def a3Y (K:Fg0):Sp:=fun vs H Q _=>∃(v:V) (n:String),vs=[v]/\Is K H v n/\(∀z,v=.str z->z.length<=sizeLine/\∀H',a0l H H'->Q (.bl (a1w z)) H')/\(n≠"str"->Q (.bl false) H)
def a4v:Sp:=fun vs H Q _=>∃c n:Int,vs=[.int c,.int n]/\0<=n/\n<=60/\∀(p:Addr) (H':Hp) (l:List Int),a0l H H'->H' p=some (.lst (l.map V.int))->(l.length:Int)=n->(∀x∈l,0<=x/\x<2147483647)->Q (.ref p) H'
theorem b0L {l:List Nat}{i:Int}(h0:0<=i)(h1:i<l.length):∃c,atI l i=some c/\c∈l:=by
 obtain⟨j,rfl⟩:=Int.eq_ofNat_of_zero_le h0;have hj:j<l.length:=by omega
 exact⟨l[j],a1P (gE0 hj),gQ0 hj⟩
section
variable {P:Program}{w:World}{K:Fg0}{mg:Str->Option Value}{base:Heap}
theorem b1H {f:Addr}{fd:FuncData}(F:Fun K "is_name" "is_name" (top 22) f fd)(B:Bl mg){uL uN:Value}(hL:mg "LETTERS"=some uL)(rL:a0X (.str "abcdefghijklmnopqrstuvwxyz") uL)(hN:mg "LONGEST_NAME"=some uN)(rN:a0X (.int 8) uN) :
  a0K P w K mg base CX0 1 f fd ["thing"] (a3Y K):=by
 have sc:a0o ["thing"] ["thing"] (a0f (top 22)):=.k (by decide +kernel);refine F.ok sc (fun vs H Q E h=>?_) (fun cdv A outer s H vs Q E hr h=>?_)
 ·obtain⟨v,n,rfl,_⟩:=h
  rfl
 ·obtain⟨v,n,rfl,⟨ty,hn⟩,q1,q2⟩:=h
  refine⟨_,a0d (a0z (PW.pt (a3M (a1s (a0S (a0i a2e (by rfl) B.isi boot_isi (a0a (pv 0) (a0a (a1b (v:=.ty "str") (by rfl) B.str boot_str rfl) a0b)))))
    (a3a (a1s (a9w b0P b0P a0e (a0i a2t (by rfl) B.len PySem.boot_len (a0a (pv 0) a0b)) (a0x (by rfl) hN rN)))))) (a0g (a0r a3f)) a0j)
   (a0g (a0r (a0i (a8U rfl) (by rfl) B.all boot_all (a0a (a2f (osc:=a0f (top 22)) (N0:=["thing"]) (xs:=["sign"]) (fr:=[]) ⟨rfl,by decide +kernel,by decide +kernel,by decide +kernel,by decide,by decide +kernel⟩ rfl rfl rfl (b2r (pv 0))
    (fun s H fp=>a0n (i:=0) (show(["sign"]:List Str).Nodup by decide +kernel) rfl (Or.inl rfl)) (fun s H fp=>a1U) (fun s H fp=>a1h a7e (pv 0) (a0x (by rfl) hL rL) (by with_unfolding_all rfl))) a0b)))),?_⟩
  by_cases hs:n="str"
  ·subst hs
   obtain⟨z,rfl⟩:=Is.str_of ⟨ty,hn⟩;obtain⟨hz,q⟩:=q1 z rfl;have q0:a1w z=false->Q (.bl false) H:=fun e=>by
    have:=q H (a0l.refl H)
    rw[e] at this;exact this
   refine⟨_,rfl,_,_,_,_,rfl,ty,a2o.trans (show a2l "str" "str"=some true by decide +kernel),_,rfl,?_⟩;refine a2z ?_;refine⟨_,rfl,_,rfl,hz,_,_,rfl,rfl,_,rfl,?_⟩;refine a3j (fun c1=>?_) (fun c1=>?_)
   ·have d1:(1:Int)<=z.length:=of_decide_eq_true c1
    refine⟨_,_,rfl,rfl,_,rfl,?_⟩;refine a3j (fun c2=>?_) (fun c2=>?_)
    ·refine q0 ?_
     have d2:¬((z.length:Int)<=8):=by
      intro e;rw[dT0 e] at c2;cases c2
     have e:decide (1<=z.length/\z.length<=8)=false:=dF0 (by omega);unfold a1w;rw[e]
     rfl
    ·have d2:(z.length:Int)<=8:=by
      by_cases e:(z.length:Int)<=8
      ·exact e
      ·rw[dF0 e] at c2
       exact(c2 rfl).elim
     refine⟨_,rfl,_,rfl,fun D hD=>?_⟩;have hlen:z.cps.toList.length=z.cps.size:=Array.length_toList;refine a1O z.cps.size (fun i=>.bl (decide (z.cps.toList.getD i 0∈a1f))) (fun i σ' Hc=>(∃a,σ'=[a])/\Hc=upd H D (.lst ((List.range i).map fun i=>.bl (decide (z.cps.toList.getD i 0∈a1f))))) hz ⟨⟨none,rfl⟩,rfl⟩ a0c ?_ ?_
     ·rintro i σ' Hc hi ⟨⟨a,rfl⟩,rfl⟩ hD'
      refine⟨hi,?_⟩;rintro x H' ⟨rfl,c,hc,rfl⟩;refine⟨_,rfl,_,_,rfl,rfl,?_,hD',⟨_,rfl⟩,b1J⟩;have ec:z.cps.toList.getD i 0=c:=by
       rw[List.getD_eq_getElem?_getD,Array.getElem?_toList,hc]
       rfl
      rw[ec];exact congrArg V.bl (StrLaws.found_one "abcdefghijklmnopqrstuvwxyz" c)
     ·rintro σ' Hc ⟨_,rfl⟩ hDn
      refine⟨nR0 _,?_⟩;refine⟨D,z.cps.toList.map fun c=>decide (c∈a1f),rfl,SqL.of ?_,?_⟩
      ·rw[a0c,<-hlen,a1l z.cps.toList 0 (fun c=>V.bl (decide (c∈a1f))),mC0]
       rfl
      ·have e:a1w z=(z.cps.toList.map fun c=>decide (c∈a1f)).all id:=by
        unfold a1w;rw[dT0 (show 1<=z.length/\z.length<=8 by omega),Bool.true_and,List.all_map]
        rfl
       rw[<-e];exact q _ (a0l.upd hD)
   ·refine⟨_,rfl,?_⟩
    refine a3R ?_;refine q0 ?_;have d1:¬((1:Int)<=z.length):=fun e=>c1 (dT0 e);have e:decide (1<=z.length/\z.length<=8)=false:=dF0 (by omega);unfold a1w;rw[e]
    rfl
  ·have e:(n=="str")=false:=beq_eq_false_iff_ne.mpr hs
   refine⟨_,rfl,_,_,_,_,rfl,ty,a2o.trans ((a7N n hn).trans (congrArg some e)),_,rfl,?_⟩;refine a3R ?_;exact q2 hs
theorem a4P {f:Addr}{fd:FuncData}(F:Fun K "_law_stream" "_law_stream" (top 35) f fd)(B:Bl mg):a0K P w K mg base CX0 1 f fd ["_law_cell_here","_law_many"] a4v:=by
 have sc:a0o ["_law_cell_here","_law_many","_law_found","_law_number","_law_k"] ["_law_cell_here","_law_many"] (a0f (top 35)):=.k (by decide +kernel);refine F.ok sc (fun vs H Q E h=>?_) (fun cdv A outer s H vs Q E hr h=>?_)
 ·obtain⟨c,n,rfl,_⟩:=h
  rfl
 ·obtain⟨c,n,rfl,n0,n1,q⟩:=h
  refine⟨_,a0d (a0s (i:=2) sc.nd rfl (Or.inl rfl) (a0O a0b))
   (a0d (a0s (i:=3) sc.nd rfl (Or.inl rfl) (a0m a1d (a0m a0M (pv 0) a0e) a0e))
   (a0d (a1H PassesOwn.never rfl (a2n rfl B.range (a0a (pv 1) a0b)) (a0n (i:=4) sc.nd rfl (Or.inl rfl))
    (a0d (a0s (i:=3) sc.nd rfl (Or.inl rfl) (a0m a0M (a0m a1d (a0m a1d (a0m a6c (pv 3) (pv 3)) (a0m a6c a0e (pv 3))) (pv 4)) a0e))
    (a0g (a1r (a3J PySem.F.plainAttrs_list PySem.F.slot_list_append PySem.F.type_list_append a2Z (pv 2) (a0a (pv 3) a0b))))))
   (a0g (a0r (pv 2))))),?_⟩
  refine⟨zL0 _,fun d hd=>?_⟩;refine⟨_,rfl,_,_,rfl,rfl,(pos rfl),_,_,rfl,rfl,?_⟩;have c0:=Int.emod_nonneg c (show(2147483647:Int)≠0 by decide);have c1:=Int.emod_lt_of_pos c (show(0:Int)<2147483647 by decide);refine⟨_,rfl,_,rfl,(by omega),(by omega),a2B (fun i σ H'=>∃(l:List Int) (m:Int) (u:Option V),σ=[some (.int c),some (.int n),some (.ref d),some (.int m),u]/\a0l H H'/\H' d=some (.lst (l.map V.int))/\l.length=i/\0<=m/\m<2147583647/\∀x∈l,0<=x/\x<2147483647) ⟨[],_,none,rfl,a0l.upd hd,a0c,rfl,by omega,by omega,fun x hx=>nomatch hx⟩ ?_ ?_⟩
  ·rintro i σ H' hi ⟨l,m,u,rfl,s1,h1,hl,m0,m1,hx⟩
   have hi':i<60:=by omega
   refine⟨_,rfl,_,rfl,_,_,rfl,rfl,.inl ⟨by omega,by omega⟩,_,rfl,_,_,rfl,rfl,.inl ⟨by decide,by decide⟩,_,_,rfl,rfl,_,rfl,_,_,rfl,rfl,_,_,rfl,rfl,(pos rfl),?_⟩;have r0:0<=((m * m+48271 * m+(0+(i:Int)))%2147483647):=Int.emod_nonneg _ (by decide);have r1:((m * m+48271 * m+(0+(i:Int)))%2147483647)<2147483647:=Int.emod_lt_of_pos _ (by decide);refine⟨_,rfl,.inl ⟨rfl,_,SqL.of h1⟩,_,rfl,d,_,_,rfl,rfl,h1,?_,?_⟩
   ·rw[lM0,hl,sizeLine_eq];omega
   ·refine⟨l++[((m * m+48271 * m+(0+(i:Int)))%2147483647)],_,_,rfl,s1.put hd,?_,by simp[hl],r0,Int.lt_trans r1 (by decide),fun x hx'=>?_⟩
    ·rw[a0c,mA0]
     rfl
    ·rcases List.mem_append.mp hx' with h |h
     ·exact hx x h
     ·have:x=((m * m+48271 * m+(0+(i:Int)))%2147483647):=by simpa using h
      rw[this];exact⟨r0,r1⟩
  ·rintro σ H' ⟨l,m,u,rfl,s1,h1,hl,m0,m1,hx⟩
   exact⟨_,rfl,q d H' l s1 h1 (by omega) hx⟩
def a5K (i:Int):Nat:=(a1f[(i%26).toNat]?).getD 0
theorem a5P:a1f.length=26:=by decide +kernel
theorem a5I (i:Int):atI a1f (i%26)=some (a5K i)/\a5K i∈a1f:=by
 have h0:=Int.emod_nonneg i (show(26:Int)≠0 by decide);have h1:=Int.emod_lt_of_pos i (show(0:Int)<26 by decide);obtain⟨n,hn⟩:=Int.eq_ofNat_of_zero_le h0;have hl:n<a1f.length:=by rw[a5P];omega
 have e:a5K i=a1f[n]:=by
  unfold a5K;rw[hn,Int.toNat_natCast,gE0 hl]
  rfl
 rw[e,hn];exact⟨a1P (gE0 hl),gQ0 hl⟩
theorem b2n:a1f.Nodup:=by decide +kernel
theorem a9E {i j:Int}(h:a5K i=a5K j):i%26=j%26:=by
 have a0:=Int.emod_nonneg i (show(26:Int)≠0 by decide);have a1:=Int.emod_lt_of_pos i (show(0:Int)<26 by decide);have b0:=Int.emod_nonneg j (show(26:Int)≠0 by decide);have b1:=Int.emod_lt_of_pos j (show(0:Int)<26 by decide);obtain⟨n,hn⟩:=Int.eq_ofNat_of_zero_le a0;obtain⟨m,hm⟩:=Int.eq_ofNat_of_zero_le b0;have hl:n<a1f.length:=by rw[a5P];omega
 have hk:m<a1f.length:=by rw[a5P];omega
 unfold a5K at h;rw[hn,hm,Int.toNat_natCast,Int.toNat_natCast,gE0 hl,gE0 hk] at h
 have:n=m:=(List.getElem_inj b2n).mp h
 omega
def b1Q (l:List Nat):Prop:=∀c∈l,c∈a1f
theorem a6q {z:Str}(h:b1Q z.cps.toList)(h1:1<=z.length)(h8:z.length<=8):a1w z=true:=by
 unfold a1w;rw[dT0 ⟨h1,h8⟩,Bool.true_and,List.all_eq_true];exact fun c hc=>dT0 (h c hc)
theorem a8V (z:Str):z.cps.toList.length=z.length:=by simp[Str.length]
def nmA (b:Str)(x:Int)(i:Nat):Str:=Txt.slice b none (some (1+((0+(i:Int))+x)%8))
theorem a7i {b:Str}{x:Int}{i:Nat}(hb:b.length=8)(ha:b1Q b.cps.toList):(nmA b x i).cps.toList=b.cps.toList.take (1+((0+(i:Int))+x)%8).toNat/\a1w (nmA b x i)=true/\((nmA b x i).length:Int)=1+((0+(i:Int))+x)%8:=by
 have h0:=Int.emod_nonneg ((0+(i:Int))+x) (show(8:Int)≠0 by decide);have h1:=Int.emod_lt_of_pos ((0+(i:Int))+x) (show(0:Int)<8 by decide);have e:(nmA b x i).cps.toList=b.cps.toList.take (1+((0+(i:Int))+x)%8).toNat:=a4n b (by omega) (by rw[hb];omega);have hl:((nmA b x i).length:Int)=1+((0+(i:Int))+x)%8:=by
  rw[<-a8V,e,lT0,a8V,hb]
  omega
 refine⟨e,a6q (fun c hc=>?_) (by omega) (by omega),hl⟩;rw[e] at hc;exact ha c (List.mem_of_mem_take hc)
theorem b2I {b:Str}{x:Int}{m:Nat}(hb:b.length=8)(ha:b1Q b.cps.toList)(hm:m<=8):((List.range m).map (nmA b x)).Nodup:=by
 rw[List.Nodup,List.pairwise_map];refine List.Pairwise.imp_of_mem ?_ List.nodup_range;intro i j hi hj hne he;have hi':=List.mem_range.mp hi;have hj':=List.mem_range.mp hj;have e1:=(a7i (i:=i) (x:=x) hb ha).2.2;have e2:=(a7i (i:=j) (x:=x) hb ha).2.2;rw[he,e2] at e1
 omega
def nmB (b:Str)(x at_ sz:Int)(i:Nat):Str:=Txt.slice b none (some at_)++⟨#[a5K (x+(0+(i:Int)))]⟩++Txt.slice b (some (at_+1)) (some sz)
theorem a8b {b:Str}{x at_ sz:Int}{i:Nat}(hb:b.length=8)(ha:b1Q b.cps.toList)(a0:0<=at_)(a1:at_<sz)(s8:sz<=8) :
  (nmB b x at_ sz i).cps.toList=b.cps.toList.take at_.toNat++a5K (x+(0+(i:Int)))::(b.cps.toList.drop (at_+1).toNat).take (sz-(at_+1)).toNat/\a1w (nmB b x at_ sz i)=true:=by
 have e1:(Txt.slice b none (some at_)).cps.toList=b.cps.toList.take at_.toNat:=a4n b a0 (by rw[hb];omega);have e2:(Txt.slice b (some (at_+1)) (some sz)).cps.toList=(b.cps.toList.drop (at_+1).toNat).take (sz-(at_+1)).toNat:=by
  have e:Txt.slice b (some (at_+1)) (some sz)=StrLaws.sliceText b (some (at_+1)) (some sz):=rfl;rw[e,StrLaws.sliceText_plain ⟨by omega,by omega,by rw[a8V,hb];omega⟩]
 have e:(nmB b x at_ sz i).cps.toList=b.cps.toList.take at_.toNat++a5K (x+(0+(i:Int)))::(b.cps.toList.drop (at_+1).toNat).take (sz-(at_+1)).toNat:=by
  unfold nmB;rw[Str.cps_append,Str.cps_append,Array.toList_append,Array.toList_append,e1,e2,List.append_assoc]
  rfl
 have hl:(nmB b x at_ sz i).length=(b.cps.toList.take at_.toNat++a5K (x+(0+(i:Int)))::(b.cps.toList.drop (at_+1).toNat).take (sz-(at_+1)).toNat).length:=by rw[<-e,a8V]
 rw[lA0,List.length_cons,lT0,lT0,List.length_drop,a8V,hb] at hl;refine⟨e,a6q (fun c hc=>?_) (by omega) (by omega)⟩;rw[e] at hc;rcases List.mem_append.mp hc with h |h
 ·exact ha c (List.mem_of_mem_take h)
 ·rcases mK0.mp h with h |h
  ·rw[h];exact(a5I _).2
  ·exact ha c (List.mem_of_mem_drop (List.mem_of_mem_take h))
theorem b1Z {b:Str}{x at_ sz:Int}{m:Nat}(hb:b.length=8)(ha:b1Q b.cps.toList)(a0:0<=at_)(a1:at_<sz)(s8:sz<=8)(hm:m<=26):((List.range m).map (nmB b x at_ sz)).Nodup:=by
 rw[List.Nodup,List.pairwise_map];refine List.Pairwise.imp_of_mem ?_ List.nodup_range;intro i j hi hj hne he;have hi':=List.mem_range.mp hi;have hj':=List.mem_range.mp hj;have e1:=(a8b (i:=i) (x:=x) hb ha a0 a1 s8).1;have e2:=(a8b (i:=j) (x:=x) hb ha a0 a1 s8).1;rw[he,e2] at e1;have e3:=List.append_cancel_left e1;have e4:a5K (x+(0+(j:Int)))=a5K (x+(0+(i:Int))):=by injection e3
 have:=a9E e4
 omega
def b0v:Sp:=fun vs H Q _=>∃c:Int,vs=[.int c]/\Q (.str ⟨#[a5K c]⟩) H
def a4u:Sp:=fun vs H Q _=>∃c m:Int,vs=[.int c,.int m]/\0<=m/\m<=12/\∀(p:Addr) (H':Hp) (zs:List Str),a0l H H'->H' p=some (.lst (zs.map V.str))->(zs.length:Int)=m->zs.Nodup->(∀z∈zs,a1w z=true)->Q (.ref p) H'
theorem b0D {f:Addr}{fd:FuncData}(F:Fun K "_law_letter" "_law_letter" (top 36) f fd):a0K P w K mg base CX0 1 f fd ["_law_cell_here"] b0v:=by
 have sc:a0o ["_law_cell_here"] ["_law_cell_here"] (a0f (top 36)):=.k (by decide +kernel);refine F.ok sc (fun vs H Q E h=>?_) (fun cdv A outer s H vs Q E hr h=>?_)
 ·obtain⟨c,rfl,_⟩:=h
  rfl
 ·obtain⟨c,rfl,q⟩:=h
  refine⟨_,a0g (a0r (a0W a7Q a0p (a0m a0M (pv 0) a0e) (fun _ _=>rfl))),?_⟩;exact⟨_,rfl,_,_,rfl,rfl,(pos rfl),_,_,_,rfl,rfl,(by decide +kernel),(a5I c).1,q⟩
def nmN:List Str:=["_law_cell_here","_law_many","_law_xs","_law_base","_law_k","_law_size_here","_law_at","_law_names_here","_law_sign"]
theorem a6z {f fT fL:Addr}{fd fdT fdL:FuncData}(F:Fun K "_law_names" "_law_names" (top 37) f fd)(B:Bl mg)(DT:Df K mg "_law_stream" (top 35) fT fdT)(DL:Df K mg "_law_letter" (top 36) fL fdL):a0K P w K mg base CX0 2 f fd ["_law_cell_here","_law_many"] a4u:=by
 have sc:a0o nmN ["_law_cell_here","_law_many"] (a0f (top 37)):=.k (by decide +kernel);have GT:a0K P w K mg base CX0 1 fT fdT ["_law_cell_here","_law_many"] a4v:=a4P DT.fn B;have GL:a0K P w K mg base CX0 1 fL fdL ["_law_cell_here"] b0v:=b0D DL.fn;have bT:=DT.fn.b2 "_law_cell_here" "_law_many" (by intros;rfl);have bL:=DL.fn.b1 "_law_cell_here" (by intros;rfl);refine F.ok sc (fun vs H Q E h=>?_) (fun cdv A outer s H vs Q E hr h=>?_)
 ·obtain⟨c,m,rfl,_⟩:=h
  rfl
 ·obtain⟨c,m,rfl,m0,m12,q⟩:=h
  refine⟨_,a0d (a0s (i:=2) sc.nd rfl (Or.inr rfl) (a0k GT hr (by rfl) DT.mg DT.fn.kp bT .nil a0G (a0a (pv 0) (a0a a0e a0b))))
   (a0d (a0s (i:=3) sc.nd rfl (Or.inr rfl) a0p)
   (a0d (a1H PassesOwn.never rfl (a2n rfl B.range (a0a a0e a0b)) (a0n (i:=4) sc.nd rfl (Or.inl rfl))
    (a0g (a0s (i:=3) sc.nd rfl (Or.inr rfl) (a0m a1t (pv 3) (a0k GL hr (by rfl) DL.mg DL.fn.kp bL .nil a0G (a0a (a0W a0F (pv 2) (pv 4) (fun _ _=>rfl)) a0b))))))
   (a0d (a0z (PW.pt (b0i (a0t a1p (a0m a0M (a0W a0F (pv 2) a0e (fun _ _=>rfl)) a0e) a0e (a0w _)) (a7S (a0t b0P (pv 1) a0e (a0w _)))))
    (a0g (a0r (a2f (osc:=a0f (top 37)) (N0:=nmN) (xs:=["_law_k"]) (fr:=[3,2]) ⟨rfl,by decide +kernel,by decide +kernel,by decide +kernel,(fun j hj=>by
       have e:j=3\/j=2:=by simpa using hj
       rcases e with rfl |rfl
       ·exact⟨_,rfl,by decide +kernel⟩
       ·exact⟨_,rfl,by decide +kernel⟩),by decide +kernel⟩ rfl rfl rfl (a2n rfl B.range (a0a (pv 1) a0b))
      (fun s H fp=>a0n (i:=0) (show(["_law_k","_law_base","_law_xs"]:List Str).Nodup by decide +kernel) rfl (Or.inl rfl)) (fun s H fp=>a1U)
      (fun s H fp=>a0N a4E (pv 1) a1a (a0Y (a0m a1d a0e (a0m a0M (a0m a1d (pv 0) (a0W (r:=b3h K) a0F (pv 2) a0e (fun _ _=>rfl))) a0e))))))) a0j)
   (a0d (a0s (i:=5) sc.nd rfl (Or.inl rfl) (a0m a1d a0e (a0m a0M (a0W a0F (pv 2) a0e (fun _ _=>rfl)) a0e)))
   (a0d (a0s (i:=6) sc.nd rfl (Or.inl rfl) (a0m a0M (a0W a0F (pv 2) a0e (fun _ _=>rfl)) (pv 5)))
   (a0d (a0s (i:=7) sc.nd rfl (Or.inl rfl) (a0O a0b))
   (a0d (a1H PassesOwn.never rfl (a2n rfl B.range (a0a (pv 1) a0b)) (a0n (i:=4) sc.nd rfl (Or.inl rfl))
    (a0d (a0s (i:=8) sc.nd rfl (Or.inl rfl) (a0k GL hr (by rfl) DL.mg DL.fn.kp bL .nil a0G (a0a (a0m a1d (a0W a0F (pv 2) (pv 6) (fun _ _=>rfl)) (pv 4)) a0b)))
    (a0g (a1r (a3J PySem.F.plainAttrs_list PySem.F.slot_list_append PySem.F.type_list_append a2Z (pv 7) (a0a (a0m a1t (a0m a1t (a0N a4E (pv 3) a1a (a0Y (pv 6))) (pv 8)) (a0N a4E (pv 3) (a0Y (a0m a1d (pv 6) a0e)) (a0Y (pv 5)))) a0b))))))
   (a0g (a0r (pv 7)))))))))),?_⟩
  refine⟨_,rfl,c,11,rfl,(by decide),(by decide),fun x H1 l s1 hx hl11 hl=>?_⟩;have hl':l.length=11:=by omega
  have atl:∀j:Nat,j<11->∃e:Int,atI (l.map V.int) (j:Int)=some (.int e)/\0<=e/\e<2147483647:=fun j hj=>by
   have hj':j<l.length:=by omega
   exact⟨l[j],a1P (by rw[gM0,gE0 hj'];rfl),hl _ (gQ0 hj')⟩
  refine⟨_,rfl,(by decide),(by decide),a2B (fun i σ H'=>H'=H1/\∃(b:Str) (u:Option V),σ=[some (.int c),some (.int m),some (.ref x),some (.str b),u,none,none,none,none]/\b1Q b.cps.toList/\b.length=i) ⟨rfl,_,_,rfl,(fun c hc=>by
   have:("":Str).cps.toList=[]:=by decide +kernel
   rw[this] at hc;cases hc),by decide⟩ ?_ ?_⟩
  ·rintro i σ H' hi ⟨rfl,b,u,rfl,hb,hbl⟩
   have hi':i<8:=by omega
   obtain⟨e,he,_⟩:=atl i (by omega);have he':atI (l.map V.int) (0+(i:Int))=some (.int e):=by rw[Int.zero_add];exact he
   refine⟨_,rfl,_,rfl,_,rfl,_,_,_,_,rfl,rfl,SqL.of hx,he',e,rfl,_,_,rfl,rfl,(by rw[sizeLine_eq];show b.length+1<=_;omega),rfl,_,_,rfl,?_,?_⟩
   ·intro c' hc'
    rw[Str.cps_append,Array.toList_append] at hc';rcases List.mem_append.mp hc' with h |h
    ·exact hb c' h
    ·have:c'=a5K e:=by simpa using h
     rw[this];exact(a5I e).2
   ·rw[Str.length_append,hbl]
    rfl
  ·rintro σ H' ⟨rfl,b,u,rfl,hb,hbl⟩
   have hb8:b.length=8:=by omega
   have hbs:b.length<=sizeLine:=by rw[sizeLine_eq];omega
   obtain⟨x8,a8,_⟩:=atl 8 (by decide);obtain⟨x9,a9,x90,_⟩:=atl 9 (by decide);obtain⟨x10,a10,x100,_⟩:=atl 10 (by decide);apply b4m
   ·intro sec
    refine⟨_,rfl,_,_,8,_,rfl,rfl,SqL.of hx,a8,_,_,rfl,rfl,(pos rfl),rfl,_,rfl,?_⟩;refine a3j (fun h1=>?_) (fun _=>a2z sec);refine⟨_,rfl,_,_,rfl,rfl,_,rfl,?_⟩;refine a3j (fun h2=>?_) (fun _=>sec);have m8:m<=8:=of_decide_eq_true h2;refine⟨_,rfl,_,rfl,(by omega),(by omega),fun D hD=>?_⟩;refine a1O m.toNat (fun i=>.str (nmA b x9 i)) (fun i σ' Hc=>(∃t,σ'=[t,some (.str b),some (.ref x)])/\a0l H' Hc) (by rw[sizeLine_eq];omega) ⟨⟨none,rfl⟩,a0l.upd hD⟩ a0c ?_ ?_
    ·rintro i σ' Hc hi ⟨⟨t,rfl⟩,sm⟩ hD'
     have him:(i:Int)<m:=by omega
     refine⟨hi,?_⟩;rintro y H'' ⟨rfl,rfl⟩;have hxc:=sm _ _ hx;refine⟨_,rfl,_,rfl,_,rfl,_,_,9,_,rfl,rfl,SqL.of hxc,a9,_,_,rfl,rfl,_,_,rfl,rfl,(pos rfl),_,_,rfl,rfl,_,rfl,_,rfl,hbs,?_⟩;exact⟨rfl,hD',⟨_,rfl⟩,sm.put hD⟩
    ·rintro σ' Hc ⟨_,sm⟩ hDn
     refine⟨nR0 _,?_⟩;have e1:(List.range m.toNat).map (fun i=>V.str (nmA b x9 i))=((List.range m.toNat).map (nmA b x9)).map V.str:=by rw[mC0];rfl
     rw[e1] at hDn;refine q D Hc _ (s1.trans sm) hDn (by rw[lM0,List.length_range];omega) (b2I hb8 hb (by omega)) (fun z hz=>?_);obtain⟨i,_,rfl⟩:=mM0.mp hz;exact(a7i hb8 hb).2.1
   ·have z0:=Int.emod_nonneg x9 (show(8:Int)≠0 by decide)
    have z1:=Int.emod_lt_of_pos x9 (show(0:Int)<8 by decide);have t0:=Int.emod_nonneg x10 (show(1+x9%8:Int)≠0 by omega);have t1:=Int.emod_lt_of_pos x10 (show(0:Int)<1+x9%8 by omega);refine⟨_,rfl,_,_,9,_,rfl,rfl,SqL.of hx,a9,_,_,rfl,rfl,(pos rfl),_,_,rfl,rfl,?_⟩;refine⟨_,rfl,_,_,10,_,rfl,rfl,SqL.of hx,a10,_,rfl,_,_,rfl,rfl,(by omega),?_⟩;refine⟨zL0 _,fun d hd=>?_⟩;have hx2:=(a0l.upd (o:=.lst []) hd) _ _ hx;have hd1:H d=none:=by
     cases e:H d with
     |none=>rfl
     |some o=>rw[s1 _ _ e] at hd;cases hd
    obtain⟨n,hn⟩:=Int.eq_ofNat_of_zero_le t0;obtain⟨xa,axa,_⟩:=atl n (by omega);have axa':atI (l.map V.int) (x10%(1+x9%8))=some (.int xa):=by rw[hn];exact axa
    refine⟨_,rfl,_,rfl,(by omega),(by omega),a2B (fun i σ H2=>∃(u4 u8:Option V),σ=[some (.int c),some (.int m),some (.ref x),some (.str b),u4,some (.int (1+x9%8)),some (.int (x10%(1+x9%8))),some (.ref d),u8]/\a0l H H2/\H2 x=some (.lst (l.map V.int))/\H2 d=some (.lst (((List.range i).map (nmB b xa (x10%(1+x9%8)) (1+x9%8))).map V.str))) ⟨_,_,rfl,s1.trans (a0l.upd hd),hx2,a0c⟩ ?_ ?_⟩
    ·rintro i σ H2 hi ⟨u4,u8,rfl,s2,hx2,hd2⟩
     have hne:x≠d:=fun e=>by rw[e,hd] at hx;cases hx
     have l1:=Txt.slice_le b none (some (x10%(1+x9%8)));have l2:=Txt.slice_le b (some (x10%(1+x9%8)+1)) (some (1+x9%8));refine⟨_,rfl,_,rfl,_,_,_,_,rfl,rfl,SqL.of hx2,axa',_,rfl,_,_,rfl,rfl,_,rfl,?_⟩;refine⟨_,rfl,.inl ⟨rfl,_,SqL.of hd2⟩,_,rfl,_,rfl,_,rfl,_,rfl,hbs,_,rfl,_,_,rfl,rfl,?_,_,rfl,_,rfl,_,_,rfl,rfl,_,rfl,_,rfl,_,rfl,_,rfl,hbs,_,_,rfl,rfl,?_,d,_,_,rfl,rfl,hd2,?_,?_⟩
     ·rw[sizeLine_eq];show _+1<=_;omega
     ·rw[sizeLine_eq,Str.length_append];show _+1+_<=_;omega
     ·rw[lM0,lM0,List.length_range,sizeLine_eq];omega
     ·refine⟨_,_,rfl,s2.put hd1,by rw[a0h hne];exact hx2,?_⟩
      rw[a0c,List.range_succ,mA0,mA0]
      rfl
    ·rintro σ H2 ⟨u4,u8,rfl,s2,hx2,hd2⟩
     refine⟨_,rfl,q d H2 _ s2 hd2 (by rw[lM0,List.length_range];omega) (b1Z hb8 hb t0 t1 (by omega) (by omega)) (fun z hz=>?_)⟩;obtain⟨i,_,rfl⟩:=mM0.mp hz;exact(a8b hb8 hb t0 t1 (by omega)).2
end
end My
namespace L2
open PySem PySem.Spec PyProof.Rows PySem.Builtin PySem.Builtin.Dict
section
variable {X:Cx}
theorem a3k:a1C X (.type "tuple") (fun xs H Q=>∃p ys,xs=[.ref p]/\SqL X.K H p ys/\∀l o,H l=none->o.dict=none->Q (.ref l) (upd H l (.frz o (.tup ys)))):=by
 intro U s σ H xs us Q I r h;obtain⟨p,ys,rfl,hq,q⟩:=h;obtain⟨u,rfl,rx⟩:=a2F r;cases rx;obtain⟨its,r',pl,hz⟩:=I.list hq;have hlen:=r'.length;refine call_tuple_list pl.isList (fun h' kp=>?_) (by simp only[List.size_toArray]<;>omega);have I1:Inv X U σ H { s with heap:=h' }:=I.kept (t':=s.toks) kp;have I2:Inv X U σ (upd H h'.objs.size (.frz { cls:=.type "tuple",data:=.seq its.toArray } (.tup ys))) { s with heap:=h'.push { cls:=.type "tuple",data:=.seq its.toArray } }:=
  I1.laid (t':=s.toks) (fun b o e=>hP0 _ e) (nR0 _) (show a0Z X.prog X.w _ _ _ (.frz _ (.tup ys)) from⟨hS0 _ rfl,hz,its,r',IsTup.new _ _⟩)
 exact⟨.ref h'.objs.size,_,I2,rfl,q _ _ (I1.hok.fresh (nR0 _)) rfl⟩
end
end L2
namespace L2
open PySem PySem.Spec PyProof.Rows
theorem a9V {n d:Nat}{k:Int}(h0:0<=k)(h1:k<=n):HT.sIx n d (some k)=k.toNat:=by
 have e:=HT.b1E k n d;rw[if_neg (by omega)] at e
 omega
theorem a4U {xs:List V}{k:Int}(h0:0<=k)(h1:k<=xs.length):a6Z xs none (some k)=xs.take k.toNat:=by
 unfold a6Z;rw[a9V h0 h1,HT.a6f,List.drop_zero,Nat.sub_zero]
theorem a2E {xs:List V}{k:Int}(h0:0<=k)(h1:k<=xs.length):a6Z xs (some k) none=xs.drop k.toNat:=by
 unfold a6Z;rw[a9V h0 h1,HT.a6f];refine List.take_of_length_le ?_;rw[List.length_drop]
 omega
theorem a2L {J:It}{g:TG}{te:TE}{R:Addr->Hp->Prop}{D:Addr}{σ0:St}{H0:Hp}(n:Nat)(Pv:Nat->List V->St->Hp->Prop)(hn:n<=sizeLine)(h0:Pv 0 [] σ0 H0)(hD0:H0 D=some (.lst []))
  (hs:∀i σ H ys,i<n->Pv i ys σ H->ys.length=i->H D=some (.lst ys)->J.go i H/\∀x H',J.yld i H x H'->g x σ H' fun σ2 H2=>te σ2 H2 fun y H4=>H4 D=some (.lst ys)/\Pv (i+1) (ys++[y]) σ2 (upd H4 D (.lst (ys++[y]))))
  (hd:∀σ H ys,Pv n ys σ H->H D=some (.lst ys)->ys.length=n->J.stop n H/\R D H):a6E J g b3y te R D σ0 H0:=by
 refine⟨fun i m σ H=>m=n-i/\i<=n/\∃ys,Pv i ys σ H/\H D=some (.lst ys)/\ys.length=i,⟨n,by omega,zL0 _,[],h0,hD0,rfl⟩,?_⟩;rintro i m σ H ⟨rfl,hi,ys,p,hD,hl⟩
 by_cases hlt:i<n
 ·obtain⟨go,st⟩:=hs i σ H ys hlt p hl hD
  refine .inr ⟨go,fun σ2 y H4=>H4 D=some (.lst ys)/\Pv (i+1) (ys++[y]) σ2 (upd H4 D (.lst (ys++[y]))),fun _ _=>False,?_,fun _ _ z=>z.elim,st⟩;rintro σ2 y H4 ⟨e,p'⟩;exact⟨_,e,by rw[hl];omega,n-(i+1),by omega,rfl,hlt,_,p',a0c,by simp[hl]⟩
 ·have e:i=n:=by omega
  subst e;exact .inl (hd σ H ys p hD hl)
end L2
namespace My
open PySem L2 PyProof.Rows
seal L2.PE L2.PT L2.PW L2.PS L2.PSs L2.PA L2.PI L2.PG L2.PGs L2.OpR L2.UnR L2.a1C L2.IxR L2.SlR L2.MtR L2.PIf L2.PO L2.MtM L2.PC
def a1v:List Str:=["twin","many","some"]
def a8w:Sp:=fun vs H Q _=>∃(p:Addr) (ss:List Str),vs=[.ref p]/\H p=some (.lst ((("head":Str)::ss).map V.str))/\(∀z∈ss,z∈a1v)/\∀H',a0l H H'->Q .non H'
def a8o:Sp:=fun vs H Q _=>∃(p:Addr) (zs:List Str),vs=[.ref p]/\H p=some (.lst (zs.map V.str))/\zs.Nodup/\(∀z∈zs,a1w z=true)/\∀H',a0l H H'->Q .non H'
def kvC (cols:List (Str×V)):List (Key×V):=cols.map fun p=>(.inr p.1,p.2)
def vOf (cols:List (Str×V))(z:Str):V:=(a3O (kvC cols) (.inr z)).getD .non
mutual
def a3e:Dt->Bool
 | .dct=>false
 | .tup ds=>a4V ds
 | .lst _=>false
 | .non=>true
 | .bl _=>true
 | .int _=>true
 | .str _=>true
def a4V:List Dt->Bool
 |[]=>true
 |d::ds=>a3e d&&a4V ds
end
mutual
theorem Rep.beside {H:Hp}{a:Addr}{u:HO}(e:∀xs,H a≠some (.tup xs)):∀{d:Dt} {v:V},a3e d=true->Rep H d v->Rep (L2.upd H a u) d v
 | .non,v,_,h=>by unfold Rep at h ⊢;exact h
 | .bl b,v,_,h=>by unfold Rep at h ⊢;exact h
 | .int i,v,_,h=>by unfold Rep at h ⊢;exact h
 | .str z,v,_,h=>by unfold Rep at h ⊢;exact h
 | .tup ds,v,n,h=>by
  unfold Rep at h ⊢;obtain⟨b,xs,h1,h2,h3⟩:=h;have hne:b≠a:=fun q=>e _ (by rw[<-q];exact h2);exact⟨b,xs,h1,by rw[a0h hne];exact h2,a0V.beside e (by simpa[a3e] using n) h3⟩
 | .lst ds,v,n,h=>by simp[a3e] at n
 | .dct,v,n,h=>by simp[a3e] at n
theorem a0V.beside {H:Hp}{a:Addr}{u:HO}(e:∀xs,H a≠some (.tup xs)):∀{ds:List Dt} {vs:List V},a4V ds=true->a0V H ds vs->a0V (L2.upd H a u) ds vs
 |[],vs,_,h=>by unfold a0V at h ⊢;exact h
 |d::ds,vs,n,h=>by
  unfold a0V at h ⊢;obtain⟨v,ws,h1,h2,h3⟩:=h;have n':a3e d=true/\a4V ds=true:=by simpa[a4V] using n
  exact⟨v,ws,h1,Rep.beside e n'.1 h2,a0V.beside e n'.2 h3⟩
end
def a1J (H:Hp)(cols:List (Str×V)):Prop:=(cols.map (·.1)).Nodup/\cols.length<=12/\∀p∈cols,a1w p.1=true/\∃d,Rep H d p.2/\a1x d=true/\a3e d=true
theorem a1J.same {H H':Hp}{cols:List (Str×V)}(h:a1J H cols)(e:a0l H H'):a1J H' cols:=⟨h.1,h.2.1,fun p hp=>⟨(h.2.2 p hp).1,let ⟨d,h1,h2⟩:=(h.2.2 p hp).2;⟨d,h1.same e,h2⟩⟩⟩
theorem a4N:∀{cols:List (Str×V)} {z:Str},z∈cols.map (·.1)->a3O (kvC cols) (.inr z)=some (vOf cols z)
 |[],z,h=>nomatch h
 |p::r,z,h=>by
  unfold vOf
  by_cases e:p.1=z
  ·rw[show kvC (p::r)=(.inr p.1,p.2)::kvC r from rfl,a3i (by rw[e])]
   rfl
  ·have hz:z∈r.map (·.1):=by
    rcases mK0.mp h with h |h
    ·exact absurd h.symm e
    ·exact h
   rw[show kvC (p::r)=(.inr p.1,p.2)::kvC r from rfl,a3h (fun h=>e (by injection h)),a4N hz]
   rfl
def a1X (H:Hp)(t:Addr)(cols:List (Str×V)):Prop:=∃(o:Obj) (ps:List Addr) (zs:List Str),zs.Perm (cols.map (·.1))/\sortedS zs=true/\o.dict=none/\H t=some (.frz o (.tup (ps.map V.ref)))/\ps.length=zs.length/\∀(j:Nat) (p:Addr) (z:Str),ps[j]? =some p->zs[j]? =some z->H p=some (.tup [.str z,vOf cols z])
theorem a1X.same {H H':Hp}{t:Addr}{cols:List (Str×V)}(h:a1X H t cols)(e:a0l H H'):a1X H' t cols:=by
 obtain⟨o,ps,zs,h1,h2,h3,h4,h5,h6⟩:=h;exact⟨o,ps,zs,h1,h2,h3,e _ _ h4,h5,fun j p z a b=>e _ _ (h6 j p z a b)⟩
def a8A:Sp:=fun vs H Q _=>∃(a:Addr) (cols:List (Str×V)),vs=[.ref a]/\H a=some (.dK (kvC cols))/\a1J H cols/\∀t H',a0l H H'->a1X H' t cols->Q (.ref t) H'
section
variable {P:Program}{w:World}{K:Fg0}{mg:Str->Option Value}{base:Heap}
theorem b0K {f sA:Addr}{fd:FuncData}(F:Fun K "ask_sorts" "ask_sorts" (top 30) f fd)(mS:mg "SIDE_SORTS"=some (.ref sA))(qS:∀H,SqT K H sA (a1v.map V.str)):a0K P w K mg base CX0 1 f fd ["sorts"] a8w:=by
 have sc:a0o ["sorts","sort"] ["sorts"] (a0f (top 30)):=.k (by decide +kernel);refine F.ok sc (fun vs H Q E h=>?_) (fun cdv A outer s H vs Q E hr h=>?_)
 ·obtain⟨p,ss,rfl,_⟩:=h
  rfl
 ·obtain⟨p,ss,rfl,hp,hss,q⟩:=h
  have hu:=a3A hr;refine⟨_,a0d (a0z (a0t b0w (a0N a1o (pv 0) a1a (a0Y a0e)) (a0O (a0a a0p a0b)) (a0w _)) a0D a0j)
   (a0g (a1H PassesOwn.never rfl (a1q (a0N a1o (pv 0) (a0Y a0e) a1a)) (a0n (i:=1) sc.nd rfl (Or.inl rfl))
    (a0g (a0z (a0t a4L (pv 1) (a0x (v:=.ref sA) (by rfl) mS rfl) (by with_unfolding_all rfl)) a0D a0j)))),?_⟩
  refine⟨_,rfl,_,rfl,p,_,rfl,SqL.of hp,fun p1 e1=>?_⟩;rw[a4U (by decide) (by rw[lM0,List.length_cons];omega)];have T1:=a0l.upd (o:=.lst [V.str "head"]) e1;refine⟨(by exact sl1),fun p2 e2=>?_⟩;have T2:=a0l.upd (o:=.lst [V.str "head"]) e2;refine⟨0,p1,p2,[V.str "head"],[V.str "head"],rfl,rfl,SqL.of (T2 _ _ a0c),SqL.of a0c,rfl,(fun i x y h1 h2=>?_),hu,_,rfl,?_⟩
  ·rw[h1] at h2
   cases h2
   have:x=V.str "head":=by simpa using gI0 h1
   rw[this];exact .str
  refine a2z ?_;have S2:=T1.trans T2;refine⟨_,rfl,_,rfl,p,_,rfl,SqL.of (S2 _ _ hp),fun p3 e3=>?_⟩;rw[a2E (by decide) (by rw[lM0,List.length_cons];omega)];have T3:=a0l.upd (o:=.lst (ss.map V.str)) e3;refine⟨p3,rfl,⟨_,SqL.of a0c⟩,a2h (K:=K) (a:=p3) (xs:=ss.map V.str) (fun j σ H4=>H4=upd _ p3 (.lst (ss.map V.str))/\∃u,σ=[some (.ref p),u]) ⟨rfl,_,rfl⟩ (fun j σ H4 _ pp=>by rw[pp.1];exact SqL.of a0c) ?_ ?_⟩
  ·rintro j x σ H4 hx ⟨rfl,u,rfl⟩
   obtain⟨z,hz,rfl⟩:=mM0.mp (gI0 hx);refine⟨_,rfl,sA,_,rfl,.inr (qS _),rfl,(by decide),_,rfl,?_⟩;have hin:inV (.str z) (a1v.map V.str)=true:=by
    have:∀z∈a1v,inV (.str z) (a1v.map V.str)=true:=by decide +kernel
    exact this z (hss z hz)
   refine a2d (by rw[hin];rfl) ?_;exact⟨rfl,_,rfl⟩
  ·rintro σ H4 ⟨rfl,u,rfl⟩
   exact q _ (S2.trans T3)
theorem b0R {f fN:Addr}{fd fdN:FuncData}(F:Fun K "ask_names" "ask_names" (top 31) f fd)(DN:Df K mg "is_name" (top 22) fN fdN)(GN:a0K P w K mg base CX0 1 fN fdN ["thing"] (a3Y K)):a0K P w K mg base CX0 2 f fd ["names"] a8o:=by
 have sc:a0o ["names","name"] ["names"] (a0f (top 31)):=.k (by decide +kernel);have bN:=DN.fn.b1 "thing" (by intros;rfl);refine F.ok sc (fun vs H Q E h=>?_) (fun cdv A outer s H vs Q E hr h=>?_)
 ·obtain⟨p,zs,rfl,_⟩:=h
  rfl
 ·obtain⟨p,zs,rfl,hp,nd,hz,q⟩:=h
  refine⟨_,a0g (a1H PassesOwn.never rfl (a1q (pv 0)) (a0n (i:=1) sc.nd rfl (Or.inl rfl))
    (a0d (a0z (a1s (a0S (a0k GN hr (by rfl) DN.mg DN.fn.kp bN .nil a0G (a0a (pv 1) a0b)))) a0D a0j)
    (a0g (a0z (a0t a9f (a3J PySem.F.plainAttrs_list PySem.F.slot_list_count PySem.F.type_list_count a9x (pv 0) (a0a (pv 1) a0b)) a0e (a0w _)) a0D a0j)))),?_⟩
  refine⟨_,rfl,p,rfl,⟨_,SqL.of hp⟩,a2h (K:=K) (a:=p) (xs:=zs.map V.str) (fun j σ H4=>a0l H H4/\∃u,σ=[some (.ref p),u]) ⟨a0l.refl H,_,rfl⟩ (fun j σ H4 _ pp=>SqL.of (pp.1 _ _ hp)) ?_ ?_⟩
  ·rintro j x σ H4 hx ⟨s4,u,rfl⟩
   obtain⟨z,hzm,rfl⟩:=mM0.mp (gI0 hx);have h8:z.length<=8:=by
    have:=hz z hzm
    unfold a1w at this;exact(of_decide_eq_true (Bool.and_eq_true_iff.mp this).1).2
   refine⟨_,rfl,_,_,rfl,Is.str,(fun z' e=>?_),(fun h=>absurd rfl h)⟩;cases e;refine⟨by rw[sizeLine_eq];omega,fun H5 s5=>⟨_,rfl,?_⟩⟩;rw[hz z hzm];refine a2z ?_;have hp5:=s5 _ _ (s4 _ _ hp);refine⟨_,rfl,.inl ⟨rfl,_,SqL.of hp5⟩,_,rfl,p,zs,z,rfl,rfl,SqL.of hp5,_,_,rfl,rfl,_,rfl,?_⟩;have hc:zs.count z<=1:=List.nodup_iff_count.mp nd z;refine a2d (dF0 (by omega)) ?_;exact⟨s4.trans s5,_,rfl⟩
  ·rintro σ H4 ⟨s4,u,rfl⟩
   exact q _ s4
theorem b1C {f fN fK:Addr}{fd fdN fdK:FuncData}(F:Fun K "columns_made" "columns_made" (top 32) f fd)(B:Bl mg)(DN:Df K mg "is_name" (top 22) fN fdN)(GN:a0K P w K mg base CX0 1 fN fdN ["thing"] (a3Y K))(DK:Df K mg "is_kind" (top 26) fK fdK)(GK:a0K P w K mg base CX0 4 fK fdK ["thing"] a8u) :
  a0K P w K mg base CX0 5 f fd ["columns"] a8A:=by
 have sc:a0o ["columns","column","kind"] ["columns"] (a0f (top 32)):=.k (by decide +kernel);have bN:=DN.fn.b1 "thing" (by intros;rfl);have bK:=DK.fn.b1 "thing" (by intros;rfl);refine F.ok sc (fun vs H Q E h=>?_) (fun cdv A outer s H vs Q E hr h=>?_)
 ·obtain⟨a,cols,rfl,_⟩:=h
  rfl
 ·obtain⟨a,cols,rfl,hc,ok,q⟩:=h
  have hr1:a1m 1 _:=hr.mono (by decide);have hu:=a3A hr;refine⟨_,a0d (b2B (a1H PassesOwn.never rfl (a9D (pv 0)) (a3c rfl (a0q (a0n (i:=1) sc.nd rfl (Or.inl rfl)) (a0q (a0n (i:=2) sc.nd rfl (Or.inl rfl)) a1y)))
    (a0d (a0z (a1s (a0S (a0k GN hr1 (by rfl) DN.mg DN.fn.kp bN .nil a0G (a0a (pv 1) a0b)))) a0D a0j)
    (a0g (a0z (a1s (a0S (a0k GK hr (by rfl) DK.mg DK.fn.kp bK .nil a0G (a0a (pv 2) a0b)))) a0D a0j)))))
   (a0g (a0r (a1u a3k (by rfl) B.tuple boot_tuple (a0a (a2f (osc:=a0f (top 32)) (N0:=["columns","column","kind"]) (xs:=["column"]) (fr:=[0]) ⟨rfl,by decide +kernel,by decide +kernel,by decide +kernel,(fun j hj=>by
       have e:j=0:=by simpa using hj
       subst e;exact⟨_,rfl,by decide +kernel⟩),by decide +kernel⟩ rfl rfl rfl (a1q (a0i (a2s rfl) (by rfl) B.sorted boot_sorted (a0a (pv 0) a0b)))
      (fun s H fp=>a0n (i:=0) (show(["column","columns"]:List Str).Nodup by decide +kernel) rfl (Or.inl rfl)) (fun s H fp=>a1U)
      (fun s H fp=>a0L (a0a (pv 0) (a0a (a5L hu (pv 1) (pv 0) (fun _ _=>rfl)) a0b)))) a0b)))),?_⟩
  refine⟨a,_,hc,fun o=>?_⟩;have hfa:(upd H a (.frz o (.dK (kvC cols)))) a=some (.frz o (.dK (kvC cols))):=a0c;have back:∀H1:Hp,a0l H (upd H1 a (.dK (kvC cols)))\/¬a0l (upd H a (.frz o (.dK (kvC cols)))) H1:=fun H1=>by
   by_cases e:a0l (upd H a (.frz o (.dK (kvC cols)))) H1
   ·refine .inl fun b u hb=>?_
    by_cases eb:b=a
    ·subst eb
     rw[hc] at hb;rw[<-hb];exact a0c
    ·rw[a0h eb]
     exact e b u (by rw[a0h eb];exact hb)
   ·exact .inr e
  refine⟨_,rfl,a,o,_,rfl,hfa,a7G (a:=a) (o:=o) (kvs:=kvC cols) (fun i σ H1=>a0l (upd H a (.frz o (.dK (kvC cols)))) H1/\∃u1 u2,σ=[some (.ref a),u1,u2]) ⟨a0l.refl _,_,_,rfl⟩ (fun i σ H1 _ p=>p.1 _ _ hfa) ?_ ?_⟩
  ·rintro i k v p σ H1 hk ⟨s1,u1,u2,rfl⟩ hp
   obtain⟨⟨z,v'⟩,hm,e⟩:=mM0.mp (gI0 hk);cases e;obtain⟨hn,d,hd,hkd,hnd⟩:=ok.2.2 _ hm;have h8:z.length<=8:=by
    unfold a1w at hn;exact(of_decide_eq_true (Bool.and_eq_true_iff.mp hn).1).2
   have T:=a0l.upd (o:=.tup [kV (.inr z),v']) hp;refine⟨p,_,rfl,SqT.of a0c,rfl,_,_,rfl,_,_,rfl,rfl,?_⟩;refine⟨_,rfl,_,_,rfl,Is.str,(fun z' e=>?_),(fun h=>absurd rfl h)⟩;cases e;refine⟨by show z.length<=sizeLine;rw[sizeLine_eq];omega,fun H5 s5=>⟨_,rfl,?_⟩⟩;rw[hn];refine a2z ?_;have S5:=s1.trans (T.trans s5);refine⟨_,rfl,_,d,rfl,(Rep.beside (fun xs h=>by rw[hc] at h;cases h) hnd hd).same S5,fun H6 s6=>⟨_,rfl,?_⟩⟩;rw[hkd];refine a2z ?_;exact⟨S5.trans s6,_,_,rfl⟩
  ·rintro σ H1 ⟨s1,u1,u2,rfl⟩
   refine⟨s1 _ _ hfa,?_⟩;have S1:a0l H (L2.upd H1 a (.dK (kvC cols))):=by
    rcases back H1 with h |h
    ·exact h
    ·exact absurd s1 h
   generalize L2.upd H1 a (.dK (kvC cols))=H2 at S1 ⊢;have hc2:=S1 _ _ hc;have hkm:(kvC cols).map (·.1)=(cols.map (·.1)).map Sum.inr:=by
    unfold kvC;rw[mC0,mC0]
    rfl
   refine⟨_,rfl,a,_,_,rfl,.inl hc2,hkm,(by rw[lM0];have:=ok.2.1;omega),fun l zs hl hpm hso=>?_⟩;have T3:=a0l.upd (o:=.lst (zs.map V.str)) hl;have S3:=S1.trans T3;refine⟨l,rfl,⟨_,SqL.of a0c⟩,fun D hD=>?_⟩;have hD0:H D=none:=by
    cases e:H D with
    |none=>rfl
    |some o=>rw[S3 _ _ e] at hD;cases hD
   have hlD:l≠D:=fun e=>by rw[<-e,a0c] at hD;cases hD
   have hzl:zs.length<=12:=by
    have:=hpm.length_eq
    rw[lM0] at this
    have:=ok.2.1
    omega
   refine a2L zs.length (fun i ys σ' Hc=>(∃t,σ'=[t,some (.ref a)])/\a0l H Hc/\Hc l=some (.lst (zs.map V.str))/\∃ps:List Addr,ys=ps.map V.ref/\∀(j:Nat) (p:Addr) (z:Str),ps[j]? =some p->zs[j]? =some z->Hc p=some (.tup [.str z,vOf cols z])) (by rw[sizeLine_eq];omega) ⟨⟨none,rfl⟩,S3.trans (a0l.upd hD),(a0l.upd hD) _ _ a0c,[],rfl,fun j p z h=>nomatch h⟩ a0c ?_ ?_
   ·rintro i σ' Hc ys hi ⟨⟨t,rfl⟩,sm,hlc,ps,rfl,hps⟩ hyl hD'
    rw[lM0] at hyl;refine⟨⟨_,V.str zs[i],SqL.of hlc,by rw[gM0,gE0 hi];rfl⟩,?_⟩;rintro x H' ⟨rfl,hx'⟩;have ex:=hx' _ (SqL.of hlc);rw[gM0,gE0 hi] at ex;cases ex;have hzm:zs[i]∈cols.map (·.1):=hpm.mem_iff.mp (gQ0 hi);refine⟨_,rfl,_,rfl,_,rfl,a,_,rfl,.inl ⟨_,.inr zs[i],.inl (sm _ _ hc),rfl,(a4N hzm).symm⟩,(by exact sl2),fun p hp=>?_⟩;have T:=a0l.upd (o:=.tup [.str zs[i],vOf cols zs[i]]) hp;have hpD:p≠D:=fun e=>by rw[e,hD'] at hp;cases hp
    refine⟨T _ _ hD',⟨_,rfl⟩,(sm.trans T).put hD0,by rw[a0h hlD];exact T _ _ hlc,ps++[p],by rw[mA0];rfl,fun j p' z' h1 h2=>?_⟩
    by_cases hj:j<ps.length
    ·rw[gL0 hj] at h1
     have hh:=hps j p' z' h1 h2;have hne:p'≠D:=fun e=>by rw[e,hD'] at hh;cases hh
     rw[a0h hne];exact T _ _ hh
    ·have hj':j=ps.length:=by
      have:=(gS0.mp h1).1
      rw[lA0] at this;simp at this
      omega
     subst hj';rw[gR0 (nR0 _),Nat.sub_self] at h1;cases h1;rw[hyl,gE0 hi] at h2;cases h2;rw[a0h hpD];exact a0c
   ·rintro σ' Hc ys ⟨_,sm,hlc,ps,rfl,hps⟩ hDn hyl
    rw[lM0] at hyl;refine⟨⟨_,SqL.of hlc,by rw[lM0];exact nR0 _⟩,?_⟩;refine⟨D,_,rfl,SqL.of hDn,fun t o2 ht ho2=>?_⟩;have T:=a0l.upd (o:=.frz o2 (.tup (ps.map V.ref))) ht;exact q t _ (sm.trans T) ⟨o2,ps,zs,hpm,hso,ho2,a0c,hyl,fun j p z h1 h2=>T _ _ (hps j p z h1 h2)⟩
end
structure Tb where
 name:Str
 sort:Str
 cols:List (Str×V)
def a2w (H:Hp)(e:Addr)(T:Tb):Prop:=∃ct,H e=some (.tup [.str T.name,.str T.sort,.ref ct])/\a1X H ct T.cols
def a2q (H:Hp)(f:Addr)(sz:Int)(Ts:List Tb):Prop:=∃(tt:Addr) (es:List Addr),H f=some (.tup [.int sz,.ref tt])/\H tt=some (.tup (es.map V.ref))/\es.length=Ts.length/\∀(j:Nat) (e:Addr) (T:Tb),es[j]? =some e->Ts[j]? =some T->a2w H e T
theorem a2w.same {H H':Hp}{e:Addr}{T:Tb}(h:a2w H e T)(s:a0l H H'):a2w H' e T:=by
 obtain⟨ct,h1,h2⟩:=h;exact⟨ct,s _ _ h1,h2.same s⟩
theorem a2q.same {H H':Hp}{f:Addr}{sz:Int}{Ts:List Tb}(h:a2q H f sz Ts)(s:a0l H H'):a2q H' f sz Ts:=by
 obtain⟨tt,es,h1,h2,h3,h4⟩:=h;exact⟨tt,es,s _ _ h1,s _ _ h2,h3,fun j e T a b=>(h4 j e T a b).same s⟩
end My
namespace L2
open PySem PySem.Spec PyProof.Rows
def b0G (tabs:List Addr)(H:Hp):Prop:=(∀b,H b=none\/(∃o xs,H b=some (.frz o (.lst xs)))\/(b∈tabs/\H b=some (.tbl #[])))/\∀b∈tabs,H b=some (.tbl #[])
def a4r (h:Heap)(mg:Str->Option Value):Prop:=∃bm ob,mg "__builtins__"=some (.ref bm)/\bm≠builtinsNs/\h.get? bm=some ob/\ob.cls=.type "module"/\ob.dict=some builtinsNs/\ob.data=.plain
theorem a8H {P:Program}{w:World}{K:Fg0}{mg mb:Str->Option Value}{CX:CXT}{k:Nat}{fa a:Addr}{fd:FuncData}{x:Str}{sp:Sp}{s₁:Shared}{vs:List Value}{ns:List Int}{tabs:List Addr}
  (KX:K.In s₁.heap) (hns:s₁.heap.Ns mainGlobals mg) (hb:s₁.heap.Ns builtinsNs mb) (hbb:∀x:Str,x≠"__name__"->mb x=bootBuiltins x) (hlim:s₁.heap.NoLimit) (hg:s₁.gens=#[])
  (ha:s₁.heap.get? a=some { cls:=.type "list",data:=.seq vs.toArray }) (hi:IntsAre vs ns) (hl:ns.length<=sizeLine) (hr:a1m k callerA)
  (hT:∀b∈tabs,(∃c,s₁.heap.TableAt c b #[])/\K.lookup b=none)
  (hbm:a4r s₁.heap mg)
  (F:∀base:Heap,K.In base->base.Ns mainGlobals mg->a4r base mg->a0K P w K mg base CX k fa fd [x] sp) (hbind:∀(s:Shared) (u:Value),BindsTo s fd ⟨[u],[]⟩ [(x,u)])
  (hsp:∀H:Hp,b0G tabs H->SqL K H a (ns.map V.int)->sp [.ref a] H (fun v _=>v=.bl true) fun _ _ _=>False)
  (hCX:∀H e s',CX [] H s₁ (fun _ _ _=>False) e s'->False) :
  codeAny (model P w) callerA (.call (.ref fa) ⟨[.ref a],[]⟩) (fun r s'=>r=.ok (.ret (.bool true))/\OldK s₁.heap s'.heap/\s'.os=s₁.os/\AllBare s'.gens) s₁:=by
 have rv:=a3D hi;have lenV:=hi.length;have tabG:∀b∈tabs,s₁.heap.get? b=some (PySem.W.tabObj #[]):=fun b hb=>(hT b hb).1.elim fun c h=>h.2;have core:∀H:Hp,b0G tabs H->SqL K H a (ns.map V.int)->HOk P w H s₁.heap->(∀b,H b≠none->b=a\/b∈tabs)->(H a≠none->K.lookup a=none) →
   codeAny (model P w) callerA (.call (.ref fa) ⟨[.ref a],[]⟩) (fun r s'=>r=.ok (.ret (.bool true))/\OldK s₁.heap s'.heap/\s'.os=s₁.os/\AllBare s'.gens) s₁:=by
  intro H hO hS hok hA hK;have base_of:∀{b:Addr} {o:Obj},s₁.heap.get? b=some o->H b=none->(a5C s₁.heap H).get? b=some o:=fun e n=>a5W e n;have noA:∀{b:Addr} {o:Obj} {es:Array DictEntry} {ep:Nat},s₁.heap.get? b=some o->o.data=.dict es ep->H b=none:=fun {b o es ep} e d=>by
   cases q:H b with
   |none=>rfl
   |some u=>
    rcases hA b (by rw[q];simp) with e' |e'
    ·subst e'
     rw[ha] at e;cases e;have d':Data.seq vs.toArray _=Data.dict es ep:=d;cases d'
    ·rw[tabG b e'] at e;cases e
     have d':Data.fields #[]=Data.dict es ep:=d;cases d'
  have nsK:∀{b:Addr} {m:Str->Option Value},s₁.heap.Ns b m->(a5C s₁.heap H).Ns b m:=fun {b m} ⟨o,es,ep,e,d,r⟩=>⟨o,es,ep,base_of e (noA e d),d,r⟩;have hKb:K.In (a5C s₁.heap H):=fun b o e=>base_of (KX b o e) (by
   cases q:H b with
   |none=>rfl
   |some u=>
    rcases hA b (by rw[q];simp) with e' |e'
    ·subst e'
     rw[hK (by rw[q];simp)] at e;cases e
    ·rw[(hT b e').2] at e;cases e)
  have hM:Mod K mg (a5C s₁.heap H):=⟨hKb,nsK hns,⟨mb,nsK hb,hbb⟩,let ⟨mc,h1,h2⟩:=hlim;⟨mc,nsK h1,h2⟩⟩;have e0:a6J P w K mg (a5C s₁.heap H) callerA [] s₁ H:=⟨rfl,hM,fun b o e=>a8G e,Nat.le_of_eq (a5s _ _),trivial,fun b hb=>absurd (show b∈([]:List Addr) from hb) (by simp),hok,.of_eq hg⟩;have hB:a4r (a5C s₁.heap H) mg:=by
   obtain⟨bm,ob,b1,b2,b3,b4,b5,b6⟩:=hbm;refine⟨bm,ob,b1,b2,base_of b3 ?_,b4,b5,b6⟩;cases q:H bm with
   |none=>rfl
   |some u=>
    rcases hA bm (by rw[q];simp) with e' |e'
    ·rw[e',ha] at b3
     cases b3;cases b6
    ·rw[tabG bm e'] at b3
     cases b3;cases b6
  refine codeAny_mono ((F _ hKb (nsK hns) hB).run callerA [] s₁ H ⟨[.ref a],[]⟩ [.ref a] [.ref a] _ _ hr e0 (hbind s₁ (.ref a)) (.cons rfl .nil) (hsp H hO hS)) fun r s' h=>?_;cases r with
  |error e=>exact(hCX H e s' h).elim
  |ok fl=>
   cases fl with
   |next=>exact False.elim h
   |brk=>exact False.elim h
   |cont=>exact False.elim h
   |ret u=>
    obtain⟨v,H',os,bare,un,hok',r',q⟩:=h;have q':v=.bl true:=q;subst q';obtain rfl:u=Value.bool true:=r';refine⟨rfl,⟨fun b o e=>?_,fun b o e=>un.there b o e (by simp)⟩,os,bare⟩;cases q:H b with
    |none=>exact .inl (un.keep b o e q (by intro z;exact absurd (show b∈([]:List Addr) from z) (by simp)) (by simp))
    |some u=>
     rcases hO.1 b with z |⟨ob,xs,z⟩ |⟨hb,z⟩
     ·rw[q] at z;cases z
     ·have z2:=un.frzs b ob _ z
      obtain⟨e1,_⟩:=hok b _ z;obtain⟨e2,_⟩:=hok' b _ z2;rw[e] at e1;cases e1;exact .inl e2
     ·obtain⟨more,z2⟩:=un.tbls b _ z
      have e2:=hok' b _ z2;obtain⟨c,ht⟩:=(hT b hb).1;rw[tabG b hb] at e;cases e;exact .inr (.inl ⟨ht.isCodeTable,rfl,#[],more,rfl,e2⟩)
 have na:a∉tabs:=fun z=>by
  have e:=tabG a z;rw[ha] at e;have e':=congrArg Obj.data (Option.some.inj e);have e2:Data.seq vs.toArray 0=Data.fields #[]:=e';cases e2
 cases hk:K.lookup a with
 |some o=>
  have e:=KX a o hk;rw[ha] at e;cases e;refine core (fun b=>if b∈tabs then some (.tbl #[]) else none) ⟨fun b=>?_,fun b hb=>if_pos hb⟩ (.inr ⟨_,vs.toArray,_,hk,rfl,rfl,rfl,by rw[List.size_toArray,lenV];exact hl,by simpa using rv⟩) (fun b u z=>?_) (fun b z=>?_) (fun z=>absurd (if_neg na) z)
  ·by_cases hb:b∈tabs
   ·exact .inr (.inr ⟨hb,if_pos hb⟩)
   ·exact .inl (if_neg hb)
  ·by_cases hb:b∈tabs
   ·have z':=(if_pos hb).symm.trans z
    cases z';exact tabG b hb
   ·have z':=(if_neg hb).symm.trans z
    cases z'
  ·by_cases hb:b∈tabs
   ·exact .inr hb
   ·exact absurd (if_neg hb) z
 |none=>
  refine core (fun b=>if b∈tabs then some (.tbl #[]) else if b=a then some (.frz { cls:=.type "list",data:=.seq vs.toArray } (.lst (ns.map V.int))) else none) ⟨fun b=>?_,fun b hb=>if_pos hb⟩ (.inl (.inr ⟨{ cls:=.type "list",data:=.seq vs.toArray },by
   show(if a∈tabs then _ else if a=a then _ else _)=_
   rw[if_neg na,if_pos rfl]⟩)) (fun b u z=>?_) (fun b z=>?_) (fun _=>hk)
  ·by_cases hb:b∈tabs
   ·exact .inr (.inr ⟨hb,if_pos hb⟩)
   ·by_cases hb2:b=a
    ·refine .inr (.inl ⟨{ cls:=.type "list",data:=.seq vs.toArray },ns.map V.int,?_⟩)
     show(if b∈tabs then _ else if b=a then _ else _)=_
     rw[if_neg hb,if_pos hb2]
    ·refine .inl ?_
     show(if b∈tabs then _ else if b=a then _ else _)=_
     rw[if_neg hb,if_neg hb2]
  ·have z0:(if b∈tabs then some (HO.tbl #[]) else if b=a then some (.frz { cls:=.type "list",data:=.seq vs.toArray } (.lst (ns.map V.int))) else none)=some u:=z
   by_cases hb:b∈tabs
   ·rw[if_pos hb] at z0
    cases z0;exact tabG b hb
   ·rw[if_neg hb] at z0
    by_cases hb2:b=a
    ·rw[if_pos hb2] at z0
     cases z0;subst hb2;exact⟨ha,by rw[lM0];exact hl,vs,_,rv,ha⟩
    ·rw[if_neg hb2] at z0
     cases z0
  ·by_cases hb:b∈tabs
   ·exact .inr hb
   ·by_cases hb2:b=a
    ·exact .inl hb2
    ·refine absurd ?_ z
     show(if b∈tabs then _ else if b=a then _ else _)=_
     rw[if_neg hb,if_neg hb2]
theorem b0q {K:Fg0}{h:Heap}{c P:Addr}(X:K.In h)(g:h.get? P=some (PySem.W.tabObj #[]))(e:PySem.W.codeHdIn K c P=true)(n:K.lookup P=none):(∃c,h.TableAt c P #[])/\K.lookup P=none:=
 ⟨⟨c,(PySem.W.codeHd_of_K X e).tab g⟩,n⟩
theorem a9M {l:PySem.W.OpenLaw}{n k:Nat}{q:Program}{loose:List Str}{XP:(Str->Option Value)->Heap->Prop}{YP:World->Heap->Prop}{d:DefRec}{K:Params->Fg0}{CX:World->CXT}{sp:World->Sp}{x:Str}{tx:World->List Addr}
  (hn:l.most=some n) (hn2:n<=sizeLine) (hdf:d.params.defaults=[]) (hr:a1m k callerA)
  (hY:∀(w:World) (h:Heap),YP w h->(K w.params).In h)
  (hT:∀(w:World) (h:Heap),YP w h->∀b∈tx w,(∃c,h.TableAt c b #[])/\(K w.params).lookup b=none)
  (F:∀(w:World) (mg:Str->Option Value) (fa:Addr) (h:Heap),(K w.params).In h->h.Ns mainGlobals mg->mg d.name=some (.ref fa) →
   ∃fd:FuncData,(∀(s:Shared) (u:Value),BindsTo s fd ⟨[u],[]⟩ [(x,u)]) ∧
    ∀base:Heap,(K w.params).In base->base.Ns mainGlobals mg->a4r base mg->a0K l.prog w (K w.params) mg base (CX w) k fa fd [x] (sp w))
  (hsp:∀(w:World) (H:Hp) (a:Addr) (ns:List Int),ns.length<=n->b0G (tx w) H->SqL (K w.params) H a (ns.map V.int)->sp w [.ref a] H (fun v _=>v=.bl true) fun _ _ _=>False)
  (hCX:∀(w:World) (H:Hp) (s:Shared) (e:Value) (s':Shared),CX w [] H s (fun _ _ _=>False) e s'->False) :
  PySem.W.WalkO q loose XP YP l.row.toRowW d [] (fun f vs=>PySem.call f vs):=by
 refine Att.a3n hn hdf fun w s₀ s₁ mg mb fa o pm cd doc a vs ns G Y ho hd hcd hmg hobj hints hlen hg=>?_;have KX:=hY w _ Y;obtain⟨fd,hb,hF⟩:=F w mg fa _ KX G.T.g hmg;exact a8H KX G.T.g G.T.b G.T.builtins G.T.nolimit hg hobj hints (Nat.le_trans hlen hn2) hr (hT w _ Y) G.T.bmain hF hb (fun H hO hS=>hsp w H a ns hlen hO hS) fun H e s'=>hCX w H s₁ e s'
def a3N (c:Addr)(q:Str)(h:Heap):Prop:=h.CodeRec (.ref c) q
def a7B (f:Addr)(q:Str)(params:Arguments)(body:Expr)(scope:Scope)(pm:Value)(c':Addr)(h:Heap):Prop:=∃ctv,h.get? f=some (PySem.W.kla_obj "<lambda>" q params body scope [] pm c' ctv)
section
variable {P:Program}{w:World}{H:Hp}{h:Heap}{f c:Addr}{q:Str}{params:Arguments}{body:Expr}{scope:Scope}{pm:Value}
theorem a9m (e:h.CodeRec (.ref c) q):a0Z P w H h c (.ext (a3N c q)):=by
 refine⟨e,?_,fun h1 h2 x k=>?_⟩
 ·obtain⟨c',o,vs,t,e1,e2,_⟩:=e
  cases e1;exact⟨o,e2⟩
 ·obtain⟨c',o,vs,t,e1,e2,e3⟩:=x
  cases e1;exact⟨c,o,vs,t,rfl,k o e2,e3⟩
theorem a8t {ctv:Value}(e:h.get? f=some (PySem.W.kla_obj "<lambda>" q params body scope [] pm c ctv)):a0Z P w H h f (.ext (a7B f q params body scope pm c)):=⟨⟨ctv,e⟩,⟨_,e⟩,fun _ _ ⟨ctv,e⟩ k=>⟨ctv,k _ e⟩⟩
end
def b4n (P:Addr)(pos:Pos)(q:Str)(params:Arguments)(body:Expr)(scope:Scope)(pm:Value):TE:=fun σ H Q=>∃ps,H P=some (.tbl ps)/\TriplesOk ps.toList ∧
 ((codeAmong pos ps.toList=none/\∀c' f,H c'=none->H f=none->c'≠f->c'≠P->f≠P->Q (.ref f) (upd (upd (upd H P (.tbl (ps++#[rawInt pos.line,rawInt pos.col,.ref c']))) c' (.ext (a3N c' q))) f (.ext (a7B f q params body scope pm c')))) ∨
  ∃c',codeAmong pos ps.toList=some (.ref c')/\∀f,H f=none->Q (.ref f) (upd H f (.ext (a7B f q params body scope pm c'))))
section
variable {X:Cx}{params:Arguments}{body:Expr}{scope:Scope}{pos:Pos}{c P:Addr}
theorem b0r (hcode:X.env.code=.ref c)(hC:PySem.W.codeHdIn X.K c P=true)(hB:a4r X.base X.mg)(hcl:closureFor scope X.env=pure []:=by rfl)(hdef:defaultsOf params X.env=([],[]):=by rfl) :
  PE X (.Lambda params body scope pos) (b4n P pos (X.env.qual++"<lambda>") params body scope ((X.mg "__name__").getD .none)):=by
 intro U s σ H Q I h;obtain⟨ps,hp,tr,h⟩:=h;have hg:s.heap.Ns mainGlobals X.mg:=I.mod.glob.keeps I.bk;have C:=PySem.W.codeHd_of_K I.kIn hC;have hP:s.heap.get? P=some (PySem.W.tabObj ps):=I.hok P _ hp;have hgP:mainGlobals≠P:=fun z=>by
  obtain⟨o,es,ep,e,d,_⟩:=id hg;rw[z,hP] at e;cases e;cases d
 have hb:s.heap.BuiltinsAt X.mg P:=by
  obtain⟨bm,ob,b1,b2,b3,b4,b5,b6⟩:=hB;have b3':=I.bk _ _ b3;refine⟨bm,ob,b1,b2,fun z=>?_,fun z=>?_,b3',b4,b5,b6⟩
  ·obtain⟨o,es,ep,e,d,_⟩:=id hg
   rw[z,e] at b3';cases b3';rw[d] at b6;cases b6
  ·rw[z,hP] at b3'
   cases b3';cases b6
 refine PySem.W.kla_eval hdef ?_;rcases h with ⟨hnf,q⟩ |⟨c',hf,q⟩
 ·refine PySem.W.kla_makeFunction hcl I.ok.glob hg hcode C hP tr hnf hgP hb fun c' ctv h' tk hx hge hlt hrec htb=>?_
  have hcN:H c'=none:=I.hok.fresh hge;have hfN:H h'.objs.size=none:=I.hok.fresh (Nat.le_trans hge (Nat.le_of_lt hlt));have cf:c'≠h'.objs.size:=nL0 hlt;have cP:c'≠P:=fun z=>by rw[z,hp] at hcN;cases hcN
  have fP:h'.objs.size≠P:=fun z=>by rw[z,hp] at hfN;cases hfN
  have keep:∀b o,b≠P->s.heap.get? b=some o->(h'.push (PySem.W.kla_obj "<lambda>" (X.env.qual++"<lambda>") params body scope [] ((X.mg "__name__").getD .none) c' ctv)).get? b=some o:=fun b o hb e=>hP0 _ (hx b o hb e);have nP:∀b,H b=none->b≠P:=fun b n z=>by rw[z,hp] at n;cases n
  have old:∀b u,H b=some u->b≠P->upd (upd (upd H P (.tbl (ps++#[rawInt pos.line,rawInt pos.col,.ref c']))) c' (.ext (a3N c' (X.env.qual++"<lambda>")))) h'.objs.size (.ext (a7B h'.objs.size (X.env.qual++"<lambda>") params body scope ((X.mg "__name__").getD .none) c')) b=some u:=fun b u e hb=>by
   rw[a0h (fun z=>by rw[z,hfN] at e;cases e),a0h (fun z=>by rw[z,hcN] at e;cases e),a0h hb];exact e
  have atP:upd (upd (upd H P (.tbl (ps++#[rawInt pos.line,rawInt pos.col,.ref c']))) c' (.ext (a3N c' (X.env.qual++"<lambda>")))) h'.objs.size (.ext (a7B h'.objs.size (X.env.qual++"<lambda>") params body scope ((X.mg "__name__").getD .none) c')) P=some (.tbl (ps++#[rawInt pos.line,rawInt pos.col,.ref c'])):=by
   rw[a0h (Ne.symm fP),a0h (Ne.symm cP),a0c]
  have noT:∀b u,H b=some u->(∀zs,u≠.tbl zs)->b≠P:=fun b u e hu z=>by
   rw[z,hp] at e;cases e;exact hu ps rfl
  refine⟨.ref h'.objs.size,_,I.un (t':=tk) ⟨fun b o e n _ _=>keep b o (nP b n) e,fun b o e n _ _=>⟨o.slots,keep b o (nP b n) e⟩,fun b o e n _=>?_,fun b o e _=>?_,fun b xs e=>old b _ e (noT b _ e fun zs z=>by cases z),fun b o u e=>old b _ e (noT b _ e fun zs z=>by cases z),fun b zs e=>?_⟩ fun b u e=>?_,rfl,q c' h'.objs.size hcN hfN cf cP fP⟩
  ·have hlt':b<s.heap.objs.size:=hL0 e
   rw[a0h (nL0 (Nat.lt_of_lt_of_le hlt' (Nat.le_trans hge (Nat.le_of_lt hlt)))),a0h (nL0 (Nat.lt_of_lt_of_le hlt' hge)),a0h (nP b n)];exact n
  ·by_cases hbP:b=P
   ·rw[hbP]
    exact⟨_,hP0 _ htb⟩
   ·exact⟨o,keep b o hbP e⟩
  ·by_cases hbP:b=P
   ·subst hbP
    rw[hp] at e;cases e;exact⟨_,atP⟩
   ·exact⟨#[],by rw[old b _ e hbP];simp⟩
  ·by_cases hbf:b=h'.objs.size
   ·subst hbf
    rw[a0c] at e;cases e;exact a8t (hS0 _ rfl)
   ·rw[a0h hbf] at e
    by_cases hbc:b=c'
    ·subst hbc
     rw[a0c] at e;cases e;exact a9m (hrec.push _)
    ·rw[a0h hbc] at e
     by_cases hbP:b=P
     ·subst hbP
      rw[a0c] at e;cases e;exact hP0 _ htb
     ·rw[a0h hbP] at e
      refine(I.hok b u e).stay (fun d v hd r=>keep d v ?_ r) (fun d r=>old d _ r (noT d _ r fun zs z=>by cases z)) fun d xs r=>old d _ r (noT d _ r fun zs z=>by cases z);rcases hd with rfl |hd
      ·exact hbP
      ·exact noT d _ hd fun zs z=>by cases z
 ·refine PySem.W.kla_makeFunctionHit hcl I.ok.glob hg hcode C hP tr hf hb fun ctv h' tk hk hsz=>?_
  have hfN:H h'.objs.size=none:=I.hok.fresh hsz;exact⟨.ref h'.objs.size,_,I.laid (a:=h'.objs.size) (t':=tk) (fun b o e=>hP0 _ (hk b o e)) hsz (a8t (hS0 _ rfl)),rfl,q _ hfN⟩
end
section
variable {X:Cx}{U:List (Addr×Obj)}{σ:St}{H:Hp}{s:Shared}{Q:VK}{f c':Addr}{q x:Str}{params:Arguments}{body:Expr}{scope:Scope}{pm:Value}{u:Value}{v:V}{k:Nat}
theorem a9N {t:TE}{A:Around}{outer:List Env}(e0:a6J X.prog X.w X.K X.mg X.base A outer s H)(hr:a1m (k+1) A)(hf:H f=some (.ext (a7B f q params body scope pm c')))(hc:H c'=some (.ext (a3N c' q)))(S:a0o [x] [x] scope)
  (hb:∀(ctv u:Value),bindArgs (PySem.W.kla_fn "<lambda>" q params body scope [] pm (.ref c') ctv) ⟨[u],[]⟩=pure [(x,u)])
  (hbody:PE (a5E CX0 X.prog X.w X.K X.mg X.base [x] q scope f (.ref c') A outer s H E0).nox body t) (r:a0X v u) (ht:t [some v] H Q) :
  codeAny (model X.prog X.w) A (.call (.ref f) ⟨[u],[]⟩) (CR CX0 outer X.prog X.w H s Q E0) s:=by
 obtain⟨⟨ctv,ho⟩,_⟩:=e0.hok f _ hf;obtain⟨hcd,_⟩:=e0.hok c' _ hc;have lim:s.heap.NoLimit:=e0.mod.nolimit.keeps fun b o e=>(e0.bs b o e).1;have hkind:∀y∈([x].zip [u]),scope.names.lookup y.1=some .local\/(scope.names.lookup y.1=some .cell/\((cellsFrom (s.heap.objs.size+1) scope.names []).lookup y.1).isSome=true):=fun⟨n,v⟩ hy=>by
  rcases S.par n (List.of_mem_zip hy).1 with q |q
  ·exact .inl q
  ·exact .inr ⟨q,PySem.W.cellsFrom_some _ _ _ (.inl q)⟩
 refine PySem.W.kla_callFunE hr.depth ho rfl S.co S.gen rfl hcd ?_;rw[hb];refine wP0 (wpAny_newFunctionEnv_cells (binds:=[x].zip [u]) S.kind hkind fun env he s1 z=>?_);subst he;refine⟨lim.keeps z.toInCall.keep,PySem.W.kla_codeExpr ?_⟩;have I:Inv (a5E CX0 X.prog X.w X.K X.mg X.base [x] q scope f (.ref c') A outer s H E0) [] (a2T [x] [v]) H s1:=a4Q S hr.hd e0 rfl (.cons r .nil) z;refine wpAny_mono (hbody.nox [] s1 (a2T [x] [v]) H Q I ht) (fun u' s' hs=>?_) fun e s' hs=>hs;obtain⟨v',H',J,rv,q'⟩:=hs;exact⟨v',H',J.os,J.bare,J.base,J.hok,rv,q'⟩
end
end L2
namespace L2
open PySem PySem.Spec PyProof.Rows PySem.W
theorem b3K {prog:Program}{w:World}{A:Around}{ks:List Value}{zs:List Str}{s1:Shared}(t:StrsAre ks zs):Srt.Cmp zs.length (Srt.rz zs) (kas_ask prog w A oneType' ks) (fun s'=>s'=s1):=by
 intro i j C s' hi hj hij hs' hC;subst hs';have hl:ks.length=zs.length:=t.length;obtain⟨a,ta,e1,e1'⟩:=a2M (j:=i) t (by omega);obtain⟨b,tb,e2,e2'⟩:=a2M (j:=j) t (by omega);unfold kas_ask;have g1:ks.getD i Value.none=.str a ta:=by rw[List.getD_eq_getElem?_getD,gE0 (by omega),Option.getD_some,e1]
 have g2:ks.getD j Value.none=.str b tb:=by rw[List.getD_eq_getElem?_getD,gE0 (by omega),Option.getD_some,e2]
 rw[g1,g2];refine kas_lt_str ?_;have er:Srt.rz zs i j=decide (a.cps.toList<b.cps.toList):=by
  unfold Srt.rz;rw[List.getD_eq_getElem?_getD,List.getD_eq_getElem?_getD,e1',e2',Option.getD_some,Option.getD_some]
 rw[<-er];exact hC s' rfl
theorem a4T {z:Str}{t:Tok}:∀{vs:List Value} {zs:List Str},StrsAre vs zs->StrsAre (vs++[.str z t]) (zs++[z])
 |_,_,.nil=>.cons z t .nil
 |_,_,.cons y u r=>.cons y u (a4T r)
section
variable {X:Cx}{U:List (Addr×Obj)}{σ:St}{H:Hp}{s:Shared}
theorem Inv.moved {h':Heap}{it:Addr}{t':Nat}(I:Inv X U σ H s)(fp:a2X X U H it)(k:∀b o,b≠it->s.heap.get? b=some o->h'.get? b=some o):Inv X U σ H { s with heap:=h',toks:=t' }:=
 I.turned k fp.1 fp.2.1 fp.2.2.2.1 fp.2.2.2.2.1 fp.2.2.2.2.2
theorem a6e {A:Around}{E:Vs0}{a kS:Addr}{vs ks:List Value}{e e1:Nat}{p:Array Nat}{st:SortSt}{P:PySem.Fin->Shared->Prop}(I:Inv X U σ H s)(fa:a2X X U H a)(fk:a2X X U H kS)(hka:kS≠a)
  (hk:s.heap.get? kS=some (seqObj "list" ks.toArray e)) (ha:s.heap.get? a=some (seqObj "list" #[] e1)) (hl:ks.length=vs.length) (h64:vs.length<64) (hp:p.size=vs.length) (har:arrOf st=p.map (kas_item (ks.toArray.zip vs.toArray))) (hf:failedOf st=none)
  (h:∀(s':Shared) (e:Nat),Inv X U σ H s'->s'.heap.get? a=some (seqObj "list" (List.toArray (p.toList.map fun i=>vs.getD i Value.none)) e)->P (.done (.ret .none)) s') :
  wpAny (model X.prog X.w) A (ksk_tail a false e1 (.ref kS) st) P E s:=by
 have hout:=kat_snds (vs:=vs) (ks:=ks) hl har;unfold ksk_tail
 try dsimp only
 have s1:=Heap.SameBut.update s.heap kS (Obj.mapSeq fun _=>(#[]:Array Value));have ha1:(s.heap.update kS (Obj.mapSeq fun _=>(#[]:Array Value))).get? a=some (seqObj "list" #[] e1):=(s1.2 a hka.symm).trans ha;refine wB0 (listUpdate_at hk rfl ?_ (by rw[List.size_toArray,hl,sizeLine_eq];omega) (zL0 _));refine wB0 (wpAny_letGo ?_);refine wB0 (seqEpoch_at ha1 rfl ?_);simp only[Bool.false_eq_true,if_false];rw[hout];have s2:=Heap.SameBut.update (s.heap.update kS (Obj.mapSeq fun _=>(#[]:Array Value))) a (Obj.mapSeq fun _=>List.toArray (p.toList.map fun i=>vs.getD i Value.none));obtain⟨c2,hc2⟩:∃c2,((s.heap.update kS (Obj.mapSeq fun _=>(#[]:Array Value))).update a (Obj.mapSeq fun _=>List.toArray (p.toList.map fun i=>vs.getD i Value.none))).get? a=some (seqObj "list" (List.toArray (p.toList.map fun i=>vs.getD i Value.none)) c2):=
  ⟨_,get?_update_seq ha1 fun _=>List.toArray (p.toList.map fun i=>vs.getD i Value.none)⟩
 refine wB0 (listUpdate_at ha1 rfl ?_ (zL0 _) (by rw[List.size_toArray,lM0,Array.length_toList,hp,sizeLine_eq];omega));rw[hf];simp only[bne_self_eq_false,Bool.false_eq_true,if_false];have I1:Inv X U σ H { s with heap:=s.heap.update kS (Obj.mapSeq fun _=>(#[]:Array Value)) }:=I.moved (t':=s.toks) fk fun b o hb q=>(s1.2 b hb).trans q;exact wP0 (h _ c2 (I1.moved (t':=s.toks) fa fun b o hb q=>(s2.2 b hb).trans q) hc2)
theorem a4l {A:Around}{E:Vs0}{a:Addr}{vs:List Value}{n:Nat}{f:Value}{zs:List Str}{P:PySem.Fin->Shared->Prop}(I:Inv X U σ H s)(fa:a2X X U H a)(ho:s.heap.get? a=some (seqObj "list" vs.toArray n))(hlen:zs.length=vs.length)(nd:zs.Nodup)(h64:vs.length<64)
  (turn:∀(i:Nat) (v:Value) (z:Str),vs[i]? =some v->zs[i]? =some z->∀s':Shared,Inv X U σ H s'->wpAny (model X.prog X.w) A (call f [v]) (fun k s''=>(∃t,k=.str z t)/\Inv X U σ H s''/\∀b o,a2X X U H b->s'.heap.get? b=some o->s''.heap.get? b=some o) (fun _ _=>False) s')
  (h:∀(p:Array Nat) (s':Shared) (e:Nat),Srt.PN vs.length p->Srt.Up (Srt.rz zs) p vs.length->Inv X U σ H s'->s'.heap.get? a=some (seqObj "list" (List.toArray (p.toList.map fun i=>vs.getD i Value.none)) e)->P (.done (.ret .none)) s') :
  wpAny (model X.prog X.w) A (ksk_tree a f false) P E s:=by
 have haL:a<s.heap.objs.size:=hL0 ho;have s1:=Heap.SameBut.update s.heap a (Obj.mapSeq fun _=>(#[]:Array Value));obtain⟨e1,ho1⟩:∃e1,(s.heap.update a (Obj.mapSeq fun _=>(#[]:Array Value))).get? a=some (seqObj "list" #[] e1):=⟨_,get?_update_seq ho fun _=>#[]⟩;have I1:Inv X U σ H { s with heap:=s.heap.update a (Obj.mapSeq fun _=>(#[]:Array Value)) }:=I.moved (t':=s.toks) fa fun b o hb q=>(s1.2 b hb).trans q;have I2:Inv X U σ H { s with heap:=(s.heap.update a (Obj.mapSeq fun _=>(#[]:Array Value))).push (seqObj "tuple" vs.toArray 0) }:=I1.kept (t':=s.toks) fun b o q=>hP0 _ q;have I3:Inv X U σ H { s with heap:=((s.heap.update a (Obj.mapSeq fun _=>(#[]:Array Value))).push (seqObj "tuple" vs.toArray 0)).push (seqObj "list" #[] 0) }:=I2.kept (t':=s.toks) fun b o q=>hP0 _ q;have fk:a2X X U H ((s.heap.update a (Obj.mapSeq fun _=>(#[]:Array Value))).push (seqObj "tuple" vs.toArray 0)).objs.size:=I2.fpOk (nR0 _) (I2.hok.fresh (nR0 _));have hkS:((s.heap.update a (Obj.mapSeq fun _=>(#[]:Array Value))).push (seqObj "tuple" vs.toArray 0)).objs.size=s.heap.objs.size+1:=by rw[size_push',Heap.size_update]
 have hka:((s.heap.update a (Obj.mapSeq fun _=>(#[]:Array Value))).push (seqObj "tuple" vs.toArray 0)).objs.size≠a:=by rw[hkS];exact Nat.ne_of_gt (Nat.lt_succ_of_lt haL)
 unfold ksk_tree;refine wB0 (listItems_at ho rfl ?_);refine wB0 (listUpdate_at ho rfl ?_ (by rw[List.size_toArray,sizeLine_eq];omega) (zL0 _));refine wB0 (seqEpoch_at ho1 rfl ?_);refine wB0 (wpAny_newTuple ?_ (by show vs.length<=_;rw[sizeLine_eq];omega));refine wB0 (wpAny_newList ?_ (zL0 _));refine wpAny_holding ?_;generalize ekS:((s.heap.update a (Obj.mapSeq fun _=>(#[]:Array Value))).push (seqObj "tuple" vs.toArray 0)).objs.size=kS at fk hka;show wpAny (model X.prog X.w) A (ksk_rest a f false vs.toArray e1 (.ref kS)) P E { s with heap:=((s.heap.update a (Obj.mapSeq fun _=>(#[]:Array Value))).push (seqObj "tuple" vs.toArray 0)).push (seqObj "list" #[] 0) };have hk0:(((s.heap.update a (Obj.mapSeq fun _=>(#[]:Array Value))).push (seqObj "tuple" vs.toArray 0)).push (seqObj "list" #[] 0)).get? kS=some (seqObj "list" #[] 0):=by rw[<-ekS];exact hS0 _ rfl
 have ha0:(((s.heap.update a (Obj.mapSeq fun _=>(#[]:Array Value))).push (seqObj "tuple" vs.toArray 0)).push (seqObj "list" #[] 0)).get? a=some (seqObj "list" #[] e1):=hP0 _ (hP0 _ ho1);unfold ksk_rest;refine wB0 (wpAny_rule ?_)
 first
  |rw[List.forIn_toArray]
  | (rw[<-Array.forIn_toList];simp only[List.toList_toArray])
  |rw[<-Array.forIn_toList]
 refine wB0 (ksk_fold (fun i s'=>∃(kA:List Value) (e:Nat),Inv X U σ H s'/\s'.heap.get? kS=some (seqObj "list" kA.toArray e)/\s'.heap.get? a=some (seqObj "list" #[] e1)/\StrsAre kA (zs.take i)) vs 0 _ ⟨[],0,I3,hk0,ha0,by simpa using StrsAre.nil⟩ ?step ?done)
 case step=>
  rintro j x s' hx ⟨kA,e,J,hk,ha,hs⟩;simp only[Nat.zero_add] at hs ⊢;have hj:j<vs.length:=(gS0.mp hx).1;obtain⟨z,hz⟩:∃z,zs[j]? =some z:=⟨_,gE0 (by omega)⟩;have hsz:kA.length<=vs.length:=by
   have h1:kA.length=(zs.take j).length:=hs.length;rw[lT0] at h1
   omega
  refine wB0 (wpAny_attempt (wpAny_mono (turn j x z hx hz s' J) (fun v s'' he=>?_) fun _ _ hF=>hF.elim));obtain⟨⟨t,rfl⟩,J2,kp⟩:=he
  try dsimp only
  have hk2:=kp kS _ fk hk;have ha2:=kp a _ fa ha;have u1:=Heap.SameBut.update s''.heap kS (Obj.mapSeq (·.push (.str z t)));obtain⟨c2,hc2⟩:∃c2,(s''.heap.update kS (Obj.mapSeq (·.push (.str z t)))).get? kS=some (seqObj "list" (kA.toArray.push (.str z t)) c2):=⟨_,get?_update_seq hk2 (·.push (.str z t))⟩;have ek:zs.take (j+1)=zs.take j++[z]:=by rw[List.take_add_one,hz];simp
  refine wB0 (listUpdate_at hk2 rfl ?_ (by rw[List.size_toArray,sizeLine_eq];omega) (Nat.le_trans (Nat.le_of_eq (Array.size_push ..)) (by rw[List.size_toArray,sizeLine_eq];omega)));exact wP0 ⟨rfl,kA++[.str z t],c2,J2.moved (t':=s''.toks) fk fun b o hb q=>(u1.2 b hb).trans q,by rw[hc2];simp,(u1.2 a hka.symm).trans ha2,by rw[ek];exact a4T hs⟩
 case done=>
  rintro s' ⟨kA,e,J,hk,ha,hs⟩;have hs':StrsAre kA zs:=by
   have e3:zs.take (0+vs.length)=zs:=List.take_of_length_le (by omega);rw[e3] at hs;exact hs
  have hl:kA.length=vs.length:=by have h1:kA.length=zs.length:=hs'.length;omega
  try dsimp only
  refine wB0 (listItems_at hk rfl ?_);unfold ksk_end
  try dsimp only
  rw[if_neg (by decide)]
  by_cases h2:vs.toArray.size<2
  ·rw[if_pos h2,if_pos h2]
   refine wB0 (wP0 ?_);rw[StateT.run_pure];refine wB0 (wP0 ?_)
   try dsimp only
   simp only[Bool.false_eq_true,if_false];refine a6e (vs:=vs) (ks:=kA) (p:=List.toArray (List.range vs.length)) J fa fk hka hk ha hl h64 (by simp) (by
    have e:=kas_range (kA.toArray.zip vs.toArray);rw[show(kA.toArray.zip vs.toArray).size=vs.length by simp[hl]] at e;exact e.symm) rfl fun s3 e3 J3 g3=>h (List.toArray (List.range vs.length)) s3 e3 (by unfold Srt.PN;simp) (fun i j hij hj=>?_) J3 g3
   rw[List.size_toArray] at h2;have ei:i=0:=by omega
   have ej:j=0:=by omega
   subst ei ej;unfold Srt.rz;rw[decide_eq_false_iff_not];exact List.lt_irrefl _
  ·have hn2:2<=vs.length:=by rw[List.size_toArray] at h2;omega
   rw[if_neg h2,if_neg h2];obtain⟨v₁,v₂,rest,ev⟩:∃v₁ v₂ rest,kA=v₁::v₂::rest:=by
    match kA,hl with
    |[],hl=>simp at hl;omega
    |[_],hl=>simp at hl;omega
    |v₁::v₂::rest,_=>exact⟨v₁,v₂,rest,rfl⟩
   have hkk:keyKind' kA.toArray=pure oneType':=by rw[ev];exact keyKind_strs (by rw[<-ev];exact hs')
   rw[hkk];refine wB0 (wP0 ?_);simp only[Bool.false_eq_true,if_false];refine wB0 (wpAny_mono (kat_run (prog:=X.prog) (w:=X.w) (A:=A) (E:=E) (κ:=oneType') (ks:=kA) (vs:=vs) (s:=s')
    (Q:=fun st' s''=>∃p:Array Nat,p.size=vs.length/\arrOf st'=p.map (kas_item (kA.toArray.zip vs.toArray))/\failedOf st'=none/\Srt.PN vs.length p/\Srt.Up (Srt.rz zs) p vs.length/\s''=s')
    (G:=fun p s''=>Srt.PN vs.length p/\Srt.Up (Srt.rz zs) p vs.length/\s''=s')
    hl hn2 h64 (fun p' st' s'' a1 a2 a3 a4=>⟨p',a1,a2,a3,a4⟩) ?_) ?_ fun _ _ e=>e)
   ·rw[<-hlen]
    exact Srt.sort (Srt.b3p nd) (b3K (s1:=s') hs') (by omega) rfl fun p' s'' b1 b2 b3=>⟨b1,b2,b3⟩
   ·rintro⟨⟨⟩,st'⟩ s'' ⟨p,hp,har,hf,pn,up,rfl⟩
    try dsimp only
    exact a6e (vs:=vs) (ks:=kA) J fa fk hka hk ha hl h64 hp har hf fun s3 e3 J3 g3=>h p s3 e3 pn up J3 g3
end
section
variable {X:Cx}{U:List (Addr×Obj)}{σ:St}{H:Hp}{s:Shared}{f c':Addr}{q x:Str}{params:Arguments}{body:Expr}{scope:Scope}{pm:Value}{k:Nat}
theorem a9t {t:TE}{A:Around}{u:Value}{v:V}{z:Str}(I:Inv X U σ H s)(e0:a6J X.prog X.w X.K X.mg X.base A X.stack s H)(hr:a1m (k+1) A)(hf:H f=some (.ext (a7B f q params body scope pm c')))(hc:H c'=some (.ext (a3N c' q)))(S:a0o [x] [x] scope)
  (hb:∀(ctv u:Value),bindArgs (PySem.W.kla_fn "<lambda>" q params body scope [] pm (.ref c') ctv) ⟨[u],[]⟩=pure [(x,u)])
  (hbody:PE (a5E CX0 X.prog X.w X.K X.mg X.base [x] q scope f (.ref c') A X.stack s H E0).nox body t) (r:a0X v u) (ht:t [some v] H fun v' H'=>v'=.str z/\H'=H) :
  wpAny (model X.prog X.w) A (call (.ref f) [u]) (fun k s''=>(∃t,k=.str z t)/\Inv X U σ H s''/\∀b o,a2X X U H b->s.heap.get? b=some o->s''.heap.get? b=some o) (fun _ _=>False) s:=by
 refine wpAny_call (codeAny_mono (a9N e0 hr hf hc S hb hbody r ht) fun r s' hq=>?_);cases r with
 |error e=>exact hq
 |ok fl=>
  cases fl with
  |ret w'=>
   have hq':CE X.stack X.prog X.w H s (fun v' H'=>v'=.str z/\H'=H) w' s':=hq;obtain⟨v1,H1,J,rv,rfl,rfl⟩:=I.after hq';obtain⟨v2,H2,os,bare,un,hok,rv2,rfl,rfl⟩:=hq';refine⟨rv,J,fun b o fb e=>un.keep b o e fb.1 (fun hm=>?_) (by simp)⟩;rcases mK0.mp (I.stkSub b hm) with y |y
   ·exact fb.2.1 y
   ·exact fb.2.2.1 y
  |next=>exact False.elim hq
  |brk=>exact False.elim hq
  |cont=>exact False.elim hq
theorem a6T {p:Addr}{xs:List V}{zs:List Str}{fv:Value}{Q:VK}(I:Inv X U σ H s)(hp:SqL X.K H p xs)(hlen:zs.length=xs.length)(nd:zs.Nodup)(h64:xs.length<64)(hfv:∃f,fv=.ref f)
  (turn:∀(i:Nat) (v:V) (u:Value) (z:Str),xs[i]? =some v->a0X v u->zs[i]? =some z->∀s':Shared,Inv X U σ H s'->wpAny (model X.prog X.w) X.A.in1.in1 (call fv [u]) (fun k s''=>(∃t,k=.str z t)/\Inv X U σ H s''/\∀b o,a2X X U H b->s'.heap.get? b=some o->s''.heap.get? b=some o) (fun _ _=>False) s')
  (h:∀(l:Addr) (ix:List Nat),H l=none->ix.Perm (List.range xs.length)->a8P (ix.map fun i=>zs.getD i "")->Q (.ref l) (upd H l (.lst (ix.map fun i=>xs.getD i .non)))) :
  wpAny (model X.prog X.w) X.A (call (.builtin "sorted") [.ref p] [(Str.ofString "key",fv)]) (EP X U σ Q) X.xe s:=by
 obtain⟨f,rfl⟩:=hfv;obtain⟨vs,r',pl,hz⟩:=I.list hp;have hl:=r'.length;refine call_function_entry_kw kind_sorted plain_sorted entry_sorted (ksk_s1 _ _) ?_;unfold Builtin.«sorted»;refine wB0 (m:=checkCount "sorted" 1 1 _) (wP0 ?_);refine wB0 (collect_list pl.isList ?_ (by rw[sizeLine_eq];omega));refine wB0 (wpAny_newList ?_ (by rw[sizeLine_eq];omega));have hsz:((s.heap.push (seqObj "list" #[] 0)).update s.heap.objs.size (Obj.mapSeq (·++vs.toArray))).objs.size=s.heap.objs.size+1:=by
  rw[Heap.size_update,size_push']
 have hoL:(((s.heap.push (seqObj "list" #[] 0)).update s.heap.objs.size (Obj.mapSeq (·++vs.toArray))).push (seqObj "list" vs.toArray 0)).get? (s.heap.objs.size+1)=some (seqObj "list" vs.toArray 0):=by
  rw[<-hsz];exact hS0 _ rfl
 have keep:∀b o,s.heap.get? b=some o->(((s.heap.push (seqObj "list" #[] 0)).update s.heap.objs.size (Obj.mapSeq (·++vs.toArray))).push (seqObj "list" vs.toArray 0)).get? b=some o:=fun b o q=>by
  have hlt:b<s.heap.objs.size:=hL0 q;rw[Heap.get?_push_ne _ _ _ (by rw[hsz];exact nL0 (Nat.lt_succ_of_lt hlt)),Heap.get?_update_ne _ _ _ _ (nL0 hlt),Heap.get?_push_ne _ _ _ (nL0 hlt)];exact q
 have I2:Inv X U σ H { s with heap:=((s.heap.push (seqObj "list" #[] 0)).update s.heap.objs.size (Obj.mapSeq (·++vs.toArray))).push (seqObj "list" vs.toArray 0) }:=I.kept (t':=s.toks) keep;have fa:a2X X U H (s.heap.objs.size+1):=I.fpOk (Nat.le_succ _) (I.hok.fresh (Nat.le_succ _));have our:Our X U H (s.heap.objs.size+1):=⟨Nat.le_trans I.sz (Nat.le_succ _),fa.2.1,fa.2.2.2.2.1,fa.2.2.2.2.2,fa.1⟩;show wpAny _ _ _ _ _ { s with heap:=((s.heap.push (seqObj "list" #[] 0)).update s.heap.objs.size (Obj.mapSeq (·++vs.toArray))).push (seqObj "list" vs.toArray 0) };rw[hsz];refine wB0 (wpAny_holding (wpAny_call_entry_kw slot_list_sort ⟨_,hoL,rfl⟩ entry_list_sort ?body (ksk_l1 _ _)))
 case body=>
  show wpAny (model X.prog X.w) X.A.in1.in1 (Builtin.«list.sort» ⟨[.ref (s.heap.objs.size+1)],[(Str.ofString "key",.ref f)]⟩) _ _ _;rw[ksk_t1];refine a4l (zs:=zs) I2 fa hoL (by omega) nd (by omega) (fun i v z hv hzi s' J=>?_) fun p' s3 e pn up J3 g3=>⟨_,rfl,?_⟩
  ·have hi:i<vs.length:=(gS0.mp hv).1
   obtain⟨u,hu,ru⟩:=r'.get (i:=i) (x:=xs[i]'(by omega)) (by simp);rw[hv] at hu;cases hu;exact turn i (xs[i]'(by omega)) v z (by simp) ru hzi s' J
  ·have hs:=pn.size
   have lt:∀i∈p'.toList,i<vs.length:=fun i hi=>List.mem_range.mp (pn.mem_iff.mp hi);refine wP0 ⟨_,rfl,.ref (s.heap.objs.size+1),_,J3.track our (o:=.lst (p'.toList.map fun i=>xs.getD i .non)) ?_,rfl,h _ p'.toList (I.hok.fresh (Nat.le_succ _)) (by rw[hl];exact pn) ?_⟩
   ·refine⟨by rw[lM0,Array.length_toList,hs,<-hl];exact hz,_,e,?_,g3⟩
    exact a6h r' _ fun i hi=>by have:=lt i hi;omega
   ·unfold a8P
    rw[List.pairwise_map,List.pairwise_iff_getElem];intro i j hi hj hij;have hi':i<p'.size:=by simpa using hi
    have hj':j<p'.size:=by simpa using hj
    have h0:=up i j (by omega) (by omega);unfold Srt.rz at h0;rw[decide_eq_false_iff_not,Srt.a2J hi',Srt.a2J hj'] at h0;rw[Array.getElem_toList,Array.getElem_toList];exact h0
def b2t (K:Fg0)(q:Str)(params:Arguments)(body:Expr)(scope:Scope)(pm:Value)(te tl tb:TE):TE:=fun σ H Q=>te σ H fun y H1=>tl σ H1 fun g H2=>∃(p f c':Addr) (xs:List V) (zs:List Str),y=.ref p/\g=.ref f ∧
 H2 f=some (.ext (a7B f q params body scope pm c'))/\H2 c'=some (.ext (a3N c' q))/\SqL K H2 p xs/\zs.length=xs.length/\zs.Nodup/\xs.length<64 ∧
 (∀(i:Nat) (v:V) (z:Str),xs[i]? =some v->zs[i]? =some z->tb [some v] H2 fun v' H'=>v'=.str z/\H'=H2) ∧
 ∀(l:Addr) (ix:List Nat),H2 l=none->ix.Perm (List.range xs.length)->a8P (ix.map fun i=>zs.getD i "")->Q (.ref l) (upd H2 l (.lst (ix.map fun i=>xs.getD i .non)))
theorem a3W {e lam:Expr}{te tl tb:TE}{np kpos pos:Pos}(hr:a1m (k+3) X.A)(hg:Gl X "sorted")(hm:X.mg "sorted"=none)(he:PE X e te)(hlam:PE X lam tl)(S:a0o [x] [x] scope)
  (hb:∀(c':Addr) (ctv u:Value),bindArgs (PySem.W.kla_fn "<lambda>" q params body scope [] pm (.ref c') ctv) ⟨[u],[]⟩=pure [(x,u)])
  (hbody:∀(f c':Addr) (s:Shared) (H:Hp),PE (a5E CX0 X.prog X.w X.K X.mg X.base [x] q scope f (.ref c') X.A.in1.in1 X.stack s H E0).nox body tb) (hstar:starEach [e] X.env=[(false,eval e X.env)]:=by rfl) :
  PE X (.Call (.Name "sorted" np) [e] [⟨some "key",lam,kpos⟩] pos) (b2t X.K q params body scope pm te tl tb):=by
 intro U s σ H Q I h;refine wpAny_Call_Name_kw (a3b I hg hm (show bootBuiltins "sorted"=some (.builtin "sorted") by decide +kernel) ?_ (by decide) (by decide));refine callWith_kw (e:=e) (rest:=[]) (kws:=[⟨some "key",lam,kpos⟩]) ?_ (by rw[hstar];rfl) (by rw[hstar];rfl);rw[hstar];show wpAny _ _ (spliced [(false,eval e X.env)]) _ _ s;refine Calls.spliced_cons (thn (he U s σ H _ I h) fun u s1 ⟨y,H1,I1,ry,q1⟩=>Calls.spliced_nil ?_);show wpAny _ _ (evalAll [(do let v <-eval lam X.env;standAt pos;pure v)]) _ _ s1;refine wpAny_evalAll_cons (wB0 (thn (hlam U s1 σ H1 _ I1 q1) fun gv s2 ⟨g,H2,I2,rg,q2⟩=>wB0 (wpAny_standAt (wP0 (wpAny_evalAll_nil ?_)))));obtain⟨p,f,c',xs,zs,rfl,rfl,hf,hc,hp,hlen,nd,h64,ht,hq⟩:=q2;cases ry;cases rg;have hr1:a1m (k+1) X.A.in1.in1:=hr.in1.in1;exact a6T I2 hp hlen nd h64 ⟨f,rfl⟩ (fun i v u z hv ru hz s' J=>a9t J J.env0.in1.in1 hr1 hf hc S (hb c') (hbody f c' s' H2) ru (ht i v z hv hz)) hq
end
end L2
namespace L2
open PySem PySem.Spec PyProof.Rows
structure b0H (K:Fg0) (x qual:Str) (st:Stmt) (f:Addr) (fd:FuncData) (c:Addr):Prop where
 ex:∃(oc:Value) (od:Option Addr) (kV doc pm:Value) (an:Option Addr) (ct:Value) (osl:Array (Option Value)),
  fd=PySem.W.fnOf x qual (a0P st) (a0A st) (a0f st) .none kV doc pm an (.ref c) ct/\K.lookup f=some ⟨oc,od,.func fd,osl⟩/\PySem.W.codeIn K (.ref c) qual=true
 kp:PySem.W.keepIn K (.ref f)=true
section
variable {P:Program}{w:World}{K:Fg0}{mg:Str->Option Value}{base:Heap}
theorem b0H.fn {x qual:Str}{st:Stmt}{f c:Addr}{fd:FuncData}(F:b0H K x qual st f fd c):Fun K x qual st f fd:=by
 obtain⟨⟨oc,od,kV,doc,pm,an,ct,osl,h1,h2,h3⟩,kp⟩:=F;exact⟨⟨oc,od,kV,doc,pm,an,.ref c,ct,osl,h1,h2,h3⟩,kp⟩
theorem b0H.ok {x qual:Str}{st:Stmt}{f c:Addr}{fd:FuncData}{N ps:List Str}{k:Nat}{sp:Sp}(F:b0H K x qual st f fd c)(S:a0o N ps (a0f st))(len:∀vs H Q E,sp vs H Q E->vs.length=ps.length)
  (hbody:∀(A:Around) (outer:List Env) (s:Shared) (H:Hp) (vs:List V) (Q:VK) (E:XK),a1m k (A.deeper (envOfC qual (a0f st) s.heap.objs.size f (.ref c)))->sp vs H Q E →
   ∃t,PSs (a5E CX0 P w K mg base N qual (a0f st) f (.ref c) A outer s H E).nox (a0A st) t/\t { nx:=fun _ H'=>Q .non H',rt:=Q } (a2T N vs) H):a0K P w K mg base CX0 (k+1) f fd ps sp:=by
 obtain⟨oc,od,kV,doc,pm,an,ct,osl,rfl,lk,hcd⟩:=F.ex;refine a9k lk hcd S len fun A outer s H vs Q E hr hsp=>?_;obtain⟨t,h,q⟩:=hbody A outer s H vs Q E hr hsp;exact⟨t,h.nox,q⟩
end
theorem a2U {X:Cx}{K:Fg0}{es:List Expr}{k:Nat}{pos:Pos}{t:TGs}{n:Nat}(hK:X.K=K)(hc:X.calm=true)(h:PGs X es t)
  (hn:(assignEach es X.env).length=n:=by rfl) (hst:(assignEach es X.env).findIdx? (·.1)=none:=by rfl):PG X (.Tuple es k pos) (b3A K n t):=by
 subst hK;exact a3c hc h hn hst
def notT:HO->Bool
 | .tbl _=>false
 |_=>true
def Sb (H H':Hp):Prop:=∀a o,notT o=true->H a=some o->H' a=some o
theorem Sb.trans {H H1 H2:Hp}(a:Sb H H1)(b:Sb H1 H2):Sb H H2:=fun x o n e=>b x o n (a x o n e)
theorem a0l.sb {H H':Hp}(s:a0l H H'):Sb H H':=fun a o _ e=>s a o e
end L2
namespace My
open PySem L2 PyProof.Rows
mutual
theorem Rep.sb {H H':Hp}(e:Sb H H'):∀{d:Dt} {v:V},Rep H d v->Rep H' d v
 | .non,v,h=>by unfold Rep at h ⊢;exact h
 | .bl b,v,h=>by unfold Rep at h ⊢;exact h
 | .int i,v,h=>by unfold Rep at h ⊢;exact h
 | .str z,v,h=>by unfold Rep at h ⊢;exact h
 | .tup ds,v,h=>by
  unfold Rep at h ⊢;obtain⟨a,xs,h1,h2,h3⟩:=h;exact⟨a,xs,h1,e _ _ rfl h2,a0V.sb e h3⟩
 | .lst ds,v,h=>by
  unfold Rep at h ⊢;obtain⟨a,xs,h1,h2,h3⟩:=h;exact⟨a,xs,h1,e _ _ rfl h2,a0V.sb e h3⟩
 | .dct,v,h=>by
  unfold Rep at h ⊢;obtain⟨a,xs,h1,h2⟩:=h;exact⟨a,xs,h1,e _ _ rfl h2⟩
theorem a0V.sb {H H':Hp}(e:Sb H H'):∀{ds:List Dt} {vs:List V},a0V H ds vs->a0V H' ds vs
 |[],vs,h=>by unfold a0V at h ⊢;exact h
 |d::ds,vs,h=>by
  unfold a0V at h ⊢;obtain⟨v,ws,h1,h2,h3⟩:=h;exact⟨v,ws,h1,Rep.sb e h2,a0V.sb e h3⟩
end
theorem a1J.sb {H H':Hp}{cols:List (Str×V)}(h:a1J H cols)(e:Sb H H'):a1J H' cols:=⟨h.1,h.2.1,fun p hp=>⟨(h.2.2 p hp).1,let ⟨d,h1,h2⟩:=(h.2.2 p hp).2;⟨d,Rep.sb e h1,h2⟩⟩⟩
theorem a1X.sb {H H':Hp}{t:Addr}{cols:List (Str×V)}(h:a1X H t cols)(e:Sb H H'):a1X H' t cols:=by
 obtain⟨o,ps,zs,h1,h2,h3,h4,h5,h6⟩:=h;exact⟨o,ps,zs,h1,h2,h3,e _ _ rfl h4,h5,fun j p z a b=>e _ _ rfl (h6 j p z a b)⟩
theorem a2w.sb {H H':Hp}{e:Addr}{T:Tb}(h:a2w H e T)(s:Sb H H'):a2w H' e T:=by
 obtain⟨ct,h1,h2⟩:=h;exact⟨ct,s _ _ rfl h1,h2.sb s⟩
theorem a2q.sb {H H':Hp}{f:Addr}{sz:Int}{Ts:List Tb}(h:a2q H f sz Ts)(s:Sb H H'):a2q H' f sz Ts:=by
 obtain⟨tt,es,h1,h2,h3,h4⟩:=h;exact⟨tt,es,s _ _ rfl h1,s _ _ rfl h2,h3,fun j e T a b=>(h4 j e T a b).sb s⟩
def a3l (P:Addr)(pos:Pos)(q:Str)(H:Hp):Prop:=H P=some (.tbl #[])\/∃c',H P=some (.tbl #[rawInt pos.line,rawInt pos.col,.ref c'])/\H c'=some (.ext (a3N c' q))
theorem a3l.same {P:Addr}{pos:Pos}{q:Str}{H H':Hp}(h:a3l P pos q H)(s:a0l H H'):a3l P pos q H':=by
 rcases h with h |⟨c',h1,h2⟩
 ·exact .inl (s _ _ h)
 ·exact .inr ⟨c',s _ _ h1,s _ _ h2⟩
theorem a6x {P:Addr}{pos:Pos}{q:Str}{params:Arguments}{body:Expr}{scope:Scope}{pm:Value}{σ:L2.St}{H:Hp}{Q:VK}(h:a3l P pos q H)
  (hq:∀f c' H',Sb H H'->(∀a,a≠P->H a≠none->H' a=H a)->a3l P pos q H'->H' f=some (.ext (a7B f q params body scope pm c'))->H' c'=some (.ext (a3N c' q))->Q (.ref f) H'):b4n P pos q params body scope pm σ H Q:=by
 rcases h with h |⟨c',h1,h2⟩
 ·refine⟨#[],h,trivial,.inl ⟨rfl,fun c' f n1 n2 n3 n4 n5=>?_⟩⟩
  have fr:∀a,a≠P->H a≠none->(L2.upd (L2.upd (L2.upd H P (.tbl (#[]++#[rawInt pos.line,rawInt pos.col,.ref c']))) c' (.ext (a3N c' q))) f (.ext (a7B f q params body scope pm c'))) a=H a:=fun a n n0=>by
   rw[a0h (fun e=>n0 (by rw[e];exact n2)),a0h (fun e=>n0 (by rw[e];exact n1)),a0h n]
  refine hq f c' _ (fun a o n e=>?_) fr ?_ a0c (by rw[a0h n3];exact a0c)
  ·rw[fr a (fun e'=>by rw[e',h] at e;cases e;cases n) (by rw[e];simp)]
   exact e
  ·refine .inr ⟨c',?_,by rw[a0h n3];exact a0c⟩
   rw[a0h (Ne.symm n5),a0h (Ne.symm n4)];exact a0c
 ·refine⟨_,h1,trivial,.inr ⟨c',by simp[codeAmong,rawInt],fun f n=>?_⟩⟩
  have S:=a0l.upd (o:=.ext (a7B f q params body scope pm c')) n;exact hq f c' _ S.sb (fun a _ n0=>a0h fun e=>n0 (by rw[e];exact n)) (.inr ⟨c',S _ _ h1,S _ _ h2⟩) a0c (S _ _ h2)
seal L2.PE L2.PT L2.PW L2.PS L2.PSs L2.PA L2.PI L2.PG L2.PGs L2.OpR L2.UnR L2.a1C L2.IxR L2.SlR L2.MtR L2.PIf L2.PO L2.MtM L2.PC
def a2r (H:Hp)(e d:Addr)(T:Tb):Prop:=H e=some (.tup [.str T.name,.str T.sort,.ref d])/\H d=some (.dK (kvC T.cols))/\a1J H T.cols
def a1F (H:Hp)(l:Addr)(es ds:List Addr)(Ts:List Tb):Prop:=H l=some (.lst (es.map V.ref))/\es.length=Ts.length/\ds.length=Ts.length/\∀(j:Nat) (e d:Addr) (T:Tb),es[j]? =some e->ds[j]? =some d->Ts[j]? =some T->a2r H e d T
theorem a2r.sb {H H':Hp}{e d:Addr}{T:Tb}(h:a2r H e d T)(s:Sb H H'):a2r H' e d T:=⟨s _ _ rfl h.1,s _ _ rfl h.2.1,h.2.2.sb s⟩
theorem a1F.sb {H H':Hp}{l:Addr}{es ds:List Addr}{Ts:List Tb}(h:a1F H l es ds Ts)(s:Sb H H'):a1F H' l es ds Ts:=⟨s _ _ rfl h.1,h.2.1,h.2.2.1,fun j e d T a b c=>(h.2.2.2 j e d T a b c).sb s⟩
def b3e (T0:Tb)(R:List Tb):Prop:=R.length<=7/\((T0::R).map (·.name)).Nodup/\(∀T∈T0::R,a1w T.name=true)/\T0.sort="head"/\∀T∈R,T.sort∈a1v
def Fr (P:Addr)(H H':Hp):Prop:=∀a o,a≠P->H a=some o->H' a=some o
def b3W:Stmt->Expr
 | .Assign _ (.Call _ _ [⟨_,e,_⟩] _) _=>e
 |_=>.Constant .none 0 ⟨0,0,0,0⟩
def a9Z:Expr->Pos
 | .Lambda _ _ _ p=>p
 |_=>⟨0,0,0,0⟩
def a9R:Expr:=b3W ((a0A (top 29)).getD 4 (.Pass ⟨0,0,0,0⟩))
def a7R:Expr->Arguments
 | .Lambda a _ _ _=>a
 |_=>a0P (top 29)
def a7f:Expr->Expr
 | .Lambda _ b _ _=>b
 |e=>e
def a6w:Expr->Scope
 | .Lambda _ _ s _=>s
 |_=>a0f (top 29)
def a9Q:Pos:=a9Z a9R
def foQ:Str:="form_of.<locals>.<lambda>"
def a7K (PF:Addr):Sp:=fun vs H Q _=>∃(l:Addr) (sz:Int) (es ds:List Addr) (T0:Tb) (R:List Tb),vs=[.int sz,.ref l]/\1<=sz/\a1F H l es ds (T0::R)/\b3e T0 R/\a3l PF a9Q foQ H ∧
 ∀(f:Addr) (H':Hp) (R':List Tb),Sb H H'->Fr PF H H'->a3l PF a9Q foQ H'->R'.Perm R->a8P (R'.map (·.name))->a2q H' f sz (T0::R')->Q (.ref f) H'
def a3z (o:Option HO):Prop:=(∀xs,o≠some (.tup xs))/\∀ob xs,o≠some (.frz ob (.tup xs))
theorem a3z.lst {H:Hp}{D:Addr}{ys:List V}(e:H D=some (.lst ys)):a3z (H D):=by rw[e];exact⟨(fun _ h=>by cases h),(fun _ _ h=>by cases h)⟩
theorem a1X.beside {H:Hp}{D t:Addr}{u:HO}{cols:List (Str×V)}(n:a3z (H D))(h:a1X H t cols):a1X (L2.upd H D u) t cols:=by
 obtain⟨o,ps,zs,h1,h2,h3,h4,h5,h6⟩:=h;refine⟨o,ps,zs,h1,h2,h3,?_,h5,fun j p z a b=>?_⟩
 ·rw[a0h (fun e=>n.2 _ _ (by rw[<-e];exact h4))];exact h4
 ·have:=h6 j p z a b
  rw[a0h (fun e=>n.1 _ (by rw[<-e];exact this))];exact this
theorem a2w.beside {H:Hp}{D e:Addr}{u:HO}{T:Tb}(n:a3z (H D))(h:a2w H e T):a2w (L2.upd H D u) e T:=by
 obtain⟨ct,h1,h2⟩:=h;exact⟨ct,by rw[a0h (fun e=>n.1 _ (by rw[<-e];exact h1))];exact h1,h2.beside n⟩
section
variable {P:Program}{w:World}{K:Fg0}{mg:Str->Option Value}{base:Heap}
theorem b1t {f c PF fW fS fN fC:Addr}{fd fdW fdS fdN fdC:FuncData}(F:b0H K "form_of" "form_of" (top 29) f fd c)(B:Bl mg)(hC:PySem.W.codeHdIn K c PF=true)(hB:L2.a4r base mg)
  (DW:Df K mg "is_whole" (top 21) fW fdW) (GW:a0K P w K mg base CX0 1 fW fdW ["thing"] (a4d K)) (DS:Df K mg "ask_sorts" (top 30) fS fdS) (GS:a0K P w K mg base CX0 1 fS fdS ["sorts"] a8w) (DN:Df K mg "ask_names" (top 31) fN fdN) (GN:a0K P w K mg base CX0 2 fN fdN ["names"] a8o)
  (DC:Df K mg "columns_made" (top 32) fC fdC) (GC:a0K P w K mg base CX0 5 fC fdC ["columns"] a8A):a0K P w K mg base CX0 6 f fd ["size","tables"] (a7K PF):=by
 have sc:a0o ["size","tables","made","sides"] ["size","tables"] (a0f (top 29)):=.k (by decide +kernel);have bW:=DW.fn.b1 "thing" (by intros;rfl);have bS:=DS.fn.b1 "sorts" (by intros;rfl);have bN:=DN.fn.b1 "names" (by intros;rfl);have bC:=DC.fn.b1 "columns" (by intros;rfl);refine F.ok sc (fun vs H Q E h=>?_) (fun A outer s H vs Q E hr h=>?_)
 ·obtain⟨l,sz,es,ds,T0,R,rfl,_⟩:=h
  rfl
 ·obtain⟨l,sz,es,ds,T0,R,rfl,sz1,hP,hT,hTab,q⟩:=h
  have hr1:a1m 1 _:=hr.mono (by decide);have hr2:a1m 2 _:=hr.mono (by decide);refine⟨_,a0d (a0z (PW.pt (a3M (a1s (a0S (a0k GW hr1 (by rfl) DW.mg DW.fn.kp bW .nil a0G (a0a (pv 0) a0b)))) (a3a (a0t a9z (pv 0) a0e (a0w _))))) a0D a0j)
   (a0d (a1r (a0k GS hr1 (by rfl) DS.mg DS.fn.kp bS .nil a0G (a0a (a2f (osc:=a0f (top 29)) (N0:=["size","tables","made","sides"]) (xs:=["name","sort","columns"]) (fr:=[]) ⟨rfl,by decide +kernel,by decide +kernel,by decide +kernel,by decide,by decide +kernel⟩ rfl rfl rfl (a1q (pv 1))
     (fun s H fp=>a2U (K:=K) (n:=3) rfl rfl (a0q (a0n (i:=0) (show(["name","sort","columns"]:List Str).Nodup by decide +kernel) rfl (Or.inl rfl)) (a0q (a0n (i:=1) (show(["name","sort","columns"]:List Str).Nodup by decide +kernel) rfl (Or.inl rfl)) (a0q (a0n (i:=2) (show(["name","sort","columns"]:List Str).Nodup by decide +kernel) rfl (Or.inl rfl)) a1y)))) (fun s H fp=>a1U)
     (fun s H fp=>pv 1)) a0b)))
   (a0d (a1r (a0k GN hr2 (by rfl) DN.mg DN.fn.kp bN .nil a0G (a0a (a2f (osc:=a0f (top 29)) (N0:=["size","tables","made","sides"]) (xs:=["name","sort","columns"]) (fr:=[]) ⟨rfl,by decide +kernel,by decide +kernel,by decide +kernel,by decide,by decide +kernel⟩ rfl rfl rfl (a1q (pv 1))
     (fun s H fp=>a2U (K:=K) (n:=3) rfl rfl (a0q (a0n (i:=0) (show(["name","sort","columns"]:List Str).Nodup by decide +kernel) rfl (Or.inl rfl)) (a0q (a0n (i:=1) (show(["name","sort","columns"]:List Str).Nodup by decide +kernel) rfl (Or.inl rfl)) (a0q (a0n (i:=2) (show(["name","sort","columns"]:List Str).Nodup by decide +kernel) rfl (Or.inl rfl)) a1y)))) (fun s H fp=>a1U)
     (fun s H fp=>pv 0)) a0b)))
   (a0d (b0O (i:=2) (osc:=a0f (top 29)) (N0:=["size","tables","made","sides"]) (xs:=["name","sort","columns"]) (fr:=[]) ⟨rfl,by decide +kernel,by decide +kernel,by decide +kernel,by decide,by decide +kernel⟩ rfl rfl rfl (a1q (pv 1))
     (fun s H fp=>a2U (K:=K) (n:=3) rfl rfl (a0q (a0n (i:=0) (show(["name","sort","columns"]:List Str).Nodup by decide +kernel) rfl (Or.inl rfl)) (a0q (a0n (i:=1) (show(["name","sort","columns"]:List Str).Nodup by decide +kernel) rfl (Or.inl rfl)) (a0q (a0n (i:=2) (show(["name","sort","columns"]:List Str).Nodup by decide +kernel) rfl (Or.inl rfl)) a1y)))) (fun s H fp=>a1U)
     (fun s H fp=>a0L (a0a (pv 0) (a0a (pv 1) (a0a (a0k GC hr (by rfl) DC.mg DC.fn.kp bC .nil a0G (a0a (pv 2) a0b)) a0b)))) sc.nd rfl (Or.inl rfl))
   (a0d (a0s (i:=3) sc.nd rfl (Or.inl rfl) (a3W (k:=2) (x:="table") (q:=foQ) (params:=a7R a9R) (body:=a7f a9R) (scope:=a6w a9R) (pm:=(mg "__name__").getD .none) (tb:=tOp (b1W K) (a7Z 0) (tC (.int 0))) hr (by rfl) B.sorted (a0N a1o (pv 2) (a0Y a0e) a1a) (b0r rfl hC hB) ⟨rfl,rfl,rfl,by decide +kernel,rfl,by decide +kernel,by decide +kernel⟩ (fun _ _ _=>rfl) (fun f c' s H=>a0W (r:=b1W K) a2c (pv 0) a0e (fun _ _=>rfl))))
   (a0g (a0r (a0L (a0a (pv 0) (a0a (a1u a2D (by rfl) B.tuple boot_tuple (a0a (a0m a1L (a0N a1o (pv 2) a1a (a0Y a0e)) (pv 3)) a0b)) a0b)))))))))
   ,?_⟩
  obtain⟨Ts,eTs⟩:∃Ts,Ts=T0::R:=⟨_,rfl⟩;rw[<-eTs] at hP;obtain⟨r7,ndn,hnm,hhd,hsd⟩:=hT;rw[<-eTs] at ndn hnm;have tl:Ts.length=R.length+1:=by rw[eTs];rfl
  have e1l:=hP.2.1;have e2l:=hP.2.2.1;refine⟨_,rfl,.int sz,"int",rfl,Is.int,_,rfl,a2d (by decide) ?_⟩;refine⟨_,rfl,_,_,rfl,rfl,_,rfl,a2d (dF0 (by omega)) ?_⟩;obtain⟨HX,eHX⟩:∃HX,HX=H:=⟨_,rfl⟩;have SX:a0l H HX:=by rw[eHX];exact a0l.refl H
  rw[<-eHX];refine⟨_,rfl,l,rfl,⟨_,SqL.of (SX _ _ hP.1)⟩,fun D2 hD2=>?_⟩;refine a1O Ts.length (fun i=>.str ((Ts.map (·.sort)).getD i "")) (fun i σ' Hc=>(∃t0 t1 t2,σ'=[t0,t1,t2])/\a0l HX Hc) (by rw[sizeLine_eq];omega) ⟨⟨_,_,_,rfl⟩,a0l.upd hD2⟩ a0c ?_ ?_
  ·rintro i σ' Hc hi ⟨⟨t0,t1,t2,rfl⟩,sm⟩ hD'
   have hie:i<es.length:=by omega
   have hid:i<ds.length:=by omega
   have sc:=SX.trans sm;have pt:=hP.2.2.2 i es[i] ds[i] Ts[i] (gE0 hie) (gE0 hid) (gE0 hi);refine⟨⟨_,V.ref es[i],SqL.of (sc _ _ hP.1),by rw[gM0,gE0 hie];rfl⟩,?_⟩;rintro x H' ⟨rfl,hx'⟩;have ex:=hx' _ (SqL.of (sc _ _ hP.1));rw[gM0,gE0 hie] at ex;cases ex;refine⟨_,_,rfl,SqT.of (sc _ _ pt.1),rfl,_,_,rfl,_,_,rfl,_,_,rfl,rfl,_,rfl,?_,hD',⟨_,_,_,rfl⟩,sm.put hD2⟩;rw[List.getD_eq_getElem?_getD,gM0,gE0 hi]
   rfl
  rintro σ2 H2 ⟨_,sm2⟩ hDn2;refine⟨⟨_,SqL.of ((SX.trans sm2) _ _ hP.1),by rw[lM0];omega⟩,?_⟩;rw[show(List.range Ts.length).map (fun i=>V.str ((Ts.map (·.sort)).getD i ""))=(Ts.map (·.sort)).map V.str from by
   have:=a1l (Ts.map (·.sort)) ("":Str) (fun z=>V.str z)
   rw[lM0] at this;exact this] at hDn2
  refine⟨D2,R.map (·.sort),rfl,by rw[hDn2,eTs,mN0,hhd],(fun z hz=>?_),fun H3 s3=>?_⟩
  ·obtain⟨T,hT',rfl⟩:=mM0.mp hz
   exact hsd T hT'
  have S3:a0l H H3:=(SX.trans sm2).trans s3;clear SX eHX hD2 sm2 hDn2 s3;clear H2;obtain⟨HX,eHX⟩:∃HX,HX=H3:=⟨_,rfl⟩;have SX:a0l H HX:=by rw[eHX];exact S3
  rw[<-eHX];refine⟨_,rfl,l,rfl,⟨_,SqL.of (SX _ _ hP.1)⟩,fun D4 hD4=>?_⟩;refine a1O Ts.length (fun i=>.str ((Ts.map (·.name)).getD i "")) (fun i σ' Hc=>(∃t0 t1 t2,σ'=[t0,t1,t2])/\a0l HX Hc) (by rw[sizeLine_eq];omega) ⟨⟨_,_,_,rfl⟩,a0l.upd hD4⟩ a0c ?_ ?_
  ·rintro i σ' Hc hi ⟨⟨t0,t1,t2,rfl⟩,sm⟩ hD'
   have hie:i<es.length:=by omega
   have hid:i<ds.length:=by omega
   have sc:=SX.trans sm;have pt:=hP.2.2.2 i es[i] ds[i] Ts[i] (gE0 hie) (gE0 hid) (gE0 hi);refine⟨⟨_,V.ref es[i],SqL.of (sc _ _ hP.1),by rw[gM0,gE0 hie];rfl⟩,?_⟩;rintro x H' ⟨rfl,hx'⟩;have ex:=hx' _ (SqL.of (sc _ _ hP.1));rw[gM0,gE0 hie] at ex;cases ex;refine⟨_,_,rfl,SqT.of (sc _ _ pt.1),rfl,_,_,rfl,_,_,rfl,_,_,rfl,rfl,_,rfl,?_,hD',⟨_,_,_,rfl⟩,sm.put hD4⟩;rw[List.getD_eq_getElem?_getD,gM0,gE0 hi]
   rfl
  rintro σ4 H4 ⟨_,sm4⟩ hDn4;refine⟨⟨_,SqL.of ((SX.trans sm4) _ _ hP.1),by rw[lM0];omega⟩,?_⟩;rw[show(List.range Ts.length).map (fun i=>V.str ((Ts.map (·.name)).getD i ""))=(Ts.map (·.name)).map V.str from by
   have:=a1l (Ts.map (·.name)) ("":Str) (fun z=>V.str z)
   rw[lM0] at this;exact this] at hDn4
  refine⟨D4,Ts.map (·.name),rfl,hDn4,ndn,(fun z hz=>?_),fun H5 s5=>?_⟩
  ·obtain⟨T,hT',rfl⟩:=mM0.mp hz
   exact hnm T hT'
  have S5:a0l H H5:=(SX.trans sm4).trans s5;refine⟨_,rfl,l,rfl,⟨_,SqL.of (S5 _ _ hP.1)⟩,fun D6 hD6=>?_⟩;have hD60:H D6=none:=by
   cases e:H D6 with
   |none=>rfl
   |some o=>rw[S5 _ _ e] at hD6;cases hD6
  refine a2L Ts.length (fun i ys σ' Hc=>(∃t0 t1 t2,σ'=[t0,t1,t2])/\a0l H Hc/\∃es':List Addr,ys=es'.map V.ref/\∀(j:Nat) (e:Addr) (T:Tb),es'[j]? =some e->Ts[j]? =some T->a2w Hc e T) (by rw[sizeLine_eq];omega) ⟨⟨_,_,_,rfl⟩,S5.trans (a0l.upd hD6),[],rfl,fun j e T h=>nomatch h⟩ a0c ?_ ?_
  ·rintro i σ' Hc ys hi ⟨⟨t0,t1,t2,rfl⟩,sm,es',rfl,hes⟩ hyl hD'
   rw[lM0] at hyl;have hie:i<es.length:=by omega
   have hid:i<ds.length:=by omega
   have pt:=hP.2.2.2 i es[i] ds[i] Ts[i] (gE0 hie) (gE0 hid) (gE0 hi);refine⟨⟨_,V.ref es[i],SqL.of (sm _ _ hP.1),by rw[gM0,gE0 hie];rfl⟩,?_⟩;rintro x H' ⟨rfl,hx'⟩;have ex:=hx' _ (SqL.of (sm _ _ hP.1));rw[gM0,gE0 hie] at ex;cases ex;refine⟨_,_,rfl,SqT.of (sm _ _ pt.1),rfl,_,_,rfl,_,_,rfl,_,_,rfl,rfl,?_⟩;refine⟨_,rfl,_,rfl,_,rfl,ds[i],Ts[i].cols,rfl,sm _ _ pt.2.1,pt.2.2.sb sm.sb,fun t H7 s7 hct=>?_⟩;refine⟨(by exact sl3),fun p hp=>?_⟩;have T:=a0l.upd (o:=.tup [.str Ts[i].name,.str Ts[i].sort,.ref t]) hp;have nD:a3z ((L2.upd H7 p (.tup [.str Ts[i].name,.str Ts[i].sort,.ref t])) D6):=a3z.lst (T _ _ (s7 _ _ hD'));refine⟨T _ _ (s7 _ _ hD'),⟨_,_,_,rfl⟩,((sm.trans s7).trans T).put hD60,es'++[p],by rw[mA0];rfl,fun j e T' h1 h2=>?_⟩
   by_cases hj:j<es'.length
   ·rw[gL0 hj] at h1
    exact((hes j e T' h1 h2).same (s7.trans T)).beside nD
   ·have hj':j=es'.length:=by
     have:=(gS0.mp h1).1
     rw[lA0] at this;simp at this
     omega
    subst hj';rw[gR0 (nR0 _),Nat.sub_self] at h1;cases h1;rw[hyl,gE0 hi] at h2;cases h2;exact a2w.beside nD ⟨t,a0c,hct.same T⟩
  rintro σ6 H6 ys ⟨_,S6,es',rfl,hes⟩ hD6n hyl;rw[lM0] at hyl;refine⟨⟨_,SqL.of (S6 _ _ hP.1),by rw[lM0];omega⟩,?_⟩;refine⟨_,rfl,_,rfl,D6,_,rfl,SqL.of hD6n,fun p7 e7=>?_⟩;rw[a2E (by decide) (by rw[lM0];omega),<-List.map_drop];have T7:=a0l.upd (o:=.lst ((es'.drop (1:Int).toNat).map V.ref)) e7;have S7:=S6.trans T7;refine a6x (hTab.same S7) fun lf c' H8 sb8 fr8 tab8 hlf hc8=>?_;have hPF:∀o,H PF=some o->∃ps,o=.tbl ps:=fun o e=>by
   rcases hTab with h |⟨c'',h,_⟩
   ·rw[h] at e;cases e;exact⟨_,rfl⟩
   ·rw[h] at e;cases e;exact⟨_,rfl⟩
  have SB8:=S7.sb.trans sb8;have FR8:Fr PF H H8:=fun b o nb e=>by
   have:=S7 _ _ e
   rw[fr8 b nb (by rw[this];simp)];exact this
  have hes8:∀(j:Nat) (e:Addr) (T:Tb),es'[j]? =some e->Ts[j]? =some T->a2w H8 e T:=fun j e T a b=>((hes j e T a b).same T7).sb sb8;refine⟨p7,lf,c',_,R.map (·.name),rfl,rfl,hlf,hc8,SqL.of (sb8 _ _ rfl a0c),?_,?_,?_,(fun i v z h1 h2=>?_),fun l9 ix n9 hix hri=>?_⟩
  ·rw[lM0,lM0,List.length_drop]
   show R.length=es'.length-1
   omega
  ·rw[eTs,mN0] at ndn
   exact(List.nodup_cons.mp ndn).2
  ·rw[lM0,List.length_drop]
   show es'.length-1<64
   omega
  ·have h1':(es'.drop 1)[i]?.map V.ref=some v:=by rw[<-gM0];exact h1
   rw[List.getElem?_drop] at h1';obtain⟨e,he,rfl⟩:=Option.map_eq_some_iff.mp h1';rw[gM0] at h2;obtain⟨T,hT',rfl⟩:=Option.map_eq_some_iff.mp h2;obtain⟨ct,g1,_⟩:=hes8 (1+i) e T he (by rw[eTs,Nat.add_comm,List.getElem?_cons_succ];exact hT');exact⟨_,rfl,_,_,0,_,rfl,rfl,SqT.of g1,rfl,rfl,rfl⟩
  rw[lM0,List.length_drop] at hix;have hix':ix.Perm (List.range R.length):=by
   have:es'.length-(1:Int).toNat=R.length:=by
    show es'.length-1=R.length
    omega
   rw[this] at hix;exact hix
  have ixlt:∀i∈ix,i<R.length:=fun i hi=>List.mem_range.mp (hix'.mem_iff.mp hi);have elst:(ix.map fun i=>((es'.drop (1:Int).toNat).map V.ref).getD i .non)=(ix.map fun i=>(es'.drop 1).getD i 0).map V.ref:=by
   rw[mC0];refine List.map_congr_left fun i hi=>?_;have hl:i<(es'.drop 1).length:=by
    rw[List.length_drop]
    have:=ixlt i hi
    omega
   show(((es'.drop 1).map V.ref).getD i .non)=V.ref ((es'.drop 1).getD i 0)
   rw[List.getD_eq_getElem?_getD,List.getD_eq_getElem?_getD,gM0,gE0 hl]
   rfl
  rw[elst];have T9:=a0l.upd (o:=.lst ((ix.map fun i=>(es'.drop 1).getD i 0).map V.ref)) n9;have hD9:=T9 _ _ (sb8 _ _ rfl (T7 _ _ hD6n));have ixl:ix.length=R.length:=by rw[hix'.length_eq,List.length_range]
  have he0:0<es'.length:=by omega
  have etk:es'.take (1:Int).toNat=[es'[0]]:=by
   show es'.take 1=[es'[0]];cases es' with
   |nil=>simp at he0
   |cons a r=>rfl
  refine⟨_,rfl,_,rfl,_,rfl,D6,_,rfl,SqL.of hD9,fun p10 e10=>?_⟩;rw[a4U (by decide) (by rw[lM0];omega),<-List.map_take,etk];have T10:=a0l.upd (o:=.lst ([es'[0]].map V.ref)) e10;refine⟨_,rfl,p10,l9,_,_,rfl,rfl,a0c,T10 _ _ a0c,?_,fun p11 e11=>?_⟩
  ·rw[lM0,lM0,lM0,sizeLine_eq,ixl]
   simp only[List.length_cons,List.length_nil]
   omega
  rw[show([es'[0]].map V.ref++(ix.map fun i=>(es'.drop 1).getD i 0).map V.ref)=(es'[0]::ix.map fun i=>(es'.drop 1).getD i 0).map V.ref from rfl];have T11:=a0l.upd (o:=.lst ((es'[0]::ix.map fun i=>(es'.drop 1).getD i 0).map V.ref)) e11;refine⟨p11,_,rfl,.inl ⟨SqL.of a0c,fun t12 e12=>?_⟩⟩;have T12:=a0l.upd (o:=.tup ((es'[0]::ix.map fun i=>(es'.drop 1).getD i 0).map V.ref)) e12;refine⟨(by exact sl2),fun f13 e13=>?_⟩;have T13:=a0l.upd (o:=.tup [.int sz,.ref t12]) e13;have S13:=T9.trans (T10.trans (T11.trans (T12.trans T13)));refine q f13 _ (ix.map fun i=>R.getD i T0) (SB8.trans S13.sb) (fun b o nb e=>S13 _ _ (FR8 b o nb e)) (tab8.same S13) (L2.a4J T0 R hix') ?_ ⟨t12,es'[0]::ix.map fun i=>(es'.drop 1).getD i 0,a0c,T13 _ _ a0c,?_,fun j e T h1 h2=>?_⟩
  ·have:(ix.map fun i=>(R.map (·.name)).getD i ("":Str))=(ix.map fun i=>R.getD i T0).map (·.name):=by
    rw[mC0];refine List.map_congr_left fun i hi=>?_;have hl:=ixlt i hi
    show(R.map (·.name)).getD i ("":Str)=(R.getD i T0).name
    rw[List.getD_eq_getElem?_getD,List.getD_eq_getElem?_getD,gM0,gE0 hl]
    rfl
   rw[<-this];exact hri
  ·rw[List.length_cons,List.length_cons,lM0,lM0]
  ·refine a2w.same ?_ S13
   cases j with
   |zero=>
    cases h1;cases h2;exact hes8 0 es'[0] T0 (gE0 he0) (by rw[eTs];rfl)
   |succ j=>
    rw[List.getElem?_cons_succ,gM0] at h1 h2;obtain⟨i,hi,rfl⟩:=Option.map_eq_some_iff.mp h1;rw[hi] at h2;cases h2;have hl:=ixlt i (gI0 hi);have hl2:i<(es'.drop 1).length:=by rw[List.length_drop];omega
    refine hes8 (1+i) _ _ ?_ ?_
    ·show es'[1+i]? =some ((es'.drop 1).getD i 0)
     rw[<-List.getElem?_drop,List.getD_eq_getElem?_getD,gE0 hl2]
     rfl
    ·show Ts[1+i]? =some (R.getD i T0)
     rw[eTs,Nat.add_comm,List.getElem?_cons_succ,List.getD_eq_getElem?_getD,gE0 hl]
     rfl
theorem b3N {H:Hp}{p:Addr}{z:Str}(h:H p=some (.tup [.str z]))(hz:z.length<=1000):Rep H (.tup [.str z]) (.ref p):=by
 simp[Rep,a0V,h,hz]
theorem b2z {H:Hp}{p:Addr}{z:Str}{i:Int}(h:H p=some (.tup [.str z,.int i]))(hz:z.length<=1000):Rep H (.tup [.str z,.int i]) (.ref p):=by
 simp[Rep,a0V,h,hz]
theorem b3D {H:Hp}{p:Addr}{z y:Str}(h:H p=some (.tup [.str z,.str y]))(hz:z.length<=1000)(hy:y.length<=1000):Rep H (.tup [.str z,.str y]) (.ref p):=by
 simp[Rep,a0V,h,hz,hy]
theorem b3r {H:Hp}{p:Addr}{z:Str}{v:V}{d:Dt}(h:H p=some (.tup [.str z,v]))(hz:z.length<=1000)(hd:Rep H d v):Rep H (.tup [.str z,d]) (.ref p):=by
 simp only[Rep,a0V];exact⟨p,_,rfl,h,_,_,rfl,⟨rfl,hz⟩,_,_,rfl,hd,rfl⟩
def b1V:Sp:=fun vs H Q _=>∃wy c:Int,vs=[.int wy,.int c]/\0<=wy/\wy<=4/\∀v d H',a0l H H'->Rep H' d v->a1I d=true->a3e d=true->Q v H'
def b1f:Sp:=fun vs H Q _=>∃c:Int,vs=[.int c]/\∀v d H',a0l H H'->Rep H' d v->a1x d=true->a3e d=true->Q v H'
def b0c:Sp:=fun vs H Q _=>∃c m:Int,vs=[.int c,.int m]/\0<=m/\m<=12/\∀a cols H',a0l H H'->H' a=some (.dK (kvC cols))->a1J H' cols->Q (.ref a) H'
def sgs:List Nat:=(" -,:;.!#":Str).cps.toList
theorem b2b:∀c∈sgs,a8Z [c]=true:=by decide +kernel
theorem b2w {f:Addr}{fd:FuncData}(F:Fun K "_law_plain" "_law_plain" (top 38) f fd):a0K P w K mg base CX0 1 f fd ["_law_way","_law_number"] b1V:=by
 have sc:a0o ["_law_way","_law_number"] ["_law_way","_law_number"] (a0f (top 38)):=.k (by decide +kernel);refine F.ok sc (fun vs H Q E h=>?_) (fun cdv A outer s H vs Q E hr h=>?_)
 ·obtain⟨wy,c,rfl,_⟩:=h
  rfl
 ·obtain⟨wy,c,rfl,w0,w4,q⟩:=h
  have l1:1<=sizeLine:=by decide
  have l2:2<=sizeLine:=by decide
  have p6:b3f 10 6:=⟨by decide,by decide,by decide⟩;have e6:(10:Int) ^ (6:Int).toNat=1000000:=by decide +kernel
  refine⟨_,a0d (a0z (a0t a1p (pv 0) a0e (a0w _)) (a0g (a0r (a0L (a0a a0p a0b)))) a0j)
   (a0d (a0z (a0t a1p (pv 0) a0e (a0w _)) (a0g (a0r (a0L (a0a a0p (a0a (a0m a1d a0e (a0m a0M (pv 1) (a0m a6r a0e a0e))) a0b))))) a0j)
   (a0d (a0z (a0t a1p (pv 0) a0e (a0w _)) (a0g (a0r (a0L (a0a a0p (a0a (a0m a7t (a0m a0M (pv 1) a0e) a0e) a0b))))) a0j)
   (a0d (a0z (a0t a1p (pv 0) a0e (a0w _)) (a0g (a0r (a0L (a0a a0p a0b)))) a0j)
   (a0g (a0r (a0L (a0a a0p (a0a (a0W a7Q a0p (a0m a0M (pv 1) a0e) (fun _ _=>rfl)) a0b)))))))),?_⟩
  refine⟨_,rfl,rfl,_,rfl,?_⟩;refine a3j (fun _=>?_) (fun _=>?_)
  ·exact⟨l1,fun p hp=>q _ _ _ (a0l.upd hp) (b3N a0c (by decide)) (by decide +kernel) (by decide +kernel)⟩
  refine⟨_,rfl,rfl,_,rfl,?_⟩;refine a3j (fun _=>?_) (fun _=>?_)
  ·refine⟨_,rfl,_,_,rfl,rfl,p6,_,_,rfl,rfl,(by show(0:Int)<(10:Int) ^ (6:Int).toNat;rw[e6];decide),_,_,rfl,rfl,l2,fun p hp=>?_⟩
   have h0:=Int.emod_nonneg c (show(10:Int) ^ (6:Int).toNat≠0 by rw[e6];decide);refine q _ _ _ (a0l.upd hp) (b2z a0c (by decide)) ?_ rfl;show a2k (.str "below") (.int (1+c%(10:Int) ^ (6:Int).toNat))=true;unfold a2k;rw[if_pos (by decide +kernel)];exact dT0 (by omega)
  refine⟨_,rfl,rfl,_,rfl,?_⟩;refine a3j (fun _=>?_) (fun _=>?_)
  ·refine⟨_,rfl,_,_,rfl,rfl,(pos rfl),_,_,rfl,rfl,l2,fun p hp=>?_⟩
   refine q _ _ _ (a0l.upd hp) (b2z a0c (by decide)) ?_ rfl;show a2k (.str "upto") (.int (c%2001-1000))=true;unfold a2k;rw[if_neg (by decide +kernel),if_pos (by decide +kernel)]
   rfl
  refine⟨_,rfl,rfl,_,rfl,?_⟩;refine a3j (fun _=>?_) (fun _=>?_)
  ·exact⟨l1,fun p hp=>q _ _ _ (a0l.upd hp) (b3N a0c (by decide)) (by decide +kernel) (by decide +kernel)⟩
  obtain⟨ch,e1,e2⟩:=b0L (l:=sgs) (i:=c%8) (Int.emod_nonneg _ (by decide)) (by
   have:sgs.length=8:=by decide +kernel
   rw[this];exact Int.emod_lt_of_pos _ (by decide))
  refine⟨_,rfl,_,_,rfl,rfl,(pos rfl),_,_,ch,rfl,rfl,(by decide +kernel),e1,l2,fun p hp=>?_⟩;refine q _ _ _ (a0l.upd hp) (b3D a0c (by decide) (show 1<=1000 by decide)) ?_ rfl;show a2k (.str "without") (.str ⟨#[ch]⟩)=true;unfold a2k;rw[if_neg (by decide +kernel),if_neg (by decide +kernel),show a5j (.str ⟨#[ch]⟩)=true from b2b ch e2,Bool.and_true]
  decide +kernel
theorem b2R {f fP:Addr}{fd fdP:FuncData}(F:Fun K "_law_kind" "_law_kind" (top 39) f fd)(DP:Df K mg "_law_plain" (top 38) fP fdP):a0K P w K mg base CX0 2 f fd ["_law_number"] b1f:=by
 have sc:a0o ["_law_number","_law_way","_law_inner"] ["_law_number"] (a0f (top 39)):=.k (by decide +kernel);have GP:a0K P w K mg base CX0 1 fP fdP ["_law_way","_law_number"] b1V:=b2w DP.fn;have bP:=DP.fn.b2 "_law_way" "_law_number" (by intros;rfl);refine F.ok sc (fun vs H Q E h=>?_) (fun cdv A outer s H vs Q E hr h=>?_)
 ·obtain⟨c,rfl,_⟩:=h
  rfl
 ·obtain⟨c,rfl,q⟩:=h
  have l1:1<=sizeLine:=by decide
  have l2:2<=sizeLine:=by decide
  have w0:=Int.emod_nonneg c (show(9:Int)≠0 by decide);have w1:=Int.emod_lt_of_pos c (show(0:Int)<9 by decide);have n0:=Int.emod_nonneg (c/9) (show(5:Int)≠0 by decide);have n1:=Int.emod_lt_of_pos (c/9) (show(0:Int)<5 by decide);refine⟨_,a0d (a0s (i:=1) sc.nd rfl (Or.inl rfl) (a0m a0M (pv 0) a0e))
   (a0d (a0s (i:=2) sc.nd rfl (Or.inl rfl) (a0m a0M (a0m a1D (pv 0) a0e) a0e))
   (a0d (a0z (a0t a9z (pv 1) a0e (a0w _)) (a0g (a0r (a0k GP hr (by rfl) DP.mg DP.fn.kp bP .nil a0G (a0a (pv 1) (a0a (a0m a1D (pv 0) a0e) a0b))))) a0j)
   (a0d (a0z (a0t a1p (pv 1) a0e (a0w _)) (a0g (a0r (a0L (a0a a0p a0b)))) a0j)
   (a0g (a0r (a0L (a0a (a0W a0F (a0O (a0a a0p (a0a a0p (a0a a0p a0b)))) (a0m a7t (pv 1) a0e) (fun _ _=>rfl)) (a0a (a0k GP hr (by rfl) DP.mg DP.fn.kp bP .nil a0G (a0a (pv 2) (a0a (a0m a1D (pv 0) a0e) a0b))) a0b)))))))),?_⟩
  refine⟨_,rfl,_,_,rfl,rfl,(pos rfl),?_⟩;refine⟨_,rfl,_,_,rfl,rfl,⟨by decide,by decide⟩,_,_,rfl,rfl,(pos rfl),?_⟩;refine⟨_,rfl,_,_,rfl,rfl,_,rfl,?_⟩;refine a3j (fun h=>?_) (fun h=>?_)
  ·have h5:c%9<5:=of_decide_eq_true h
   refine⟨_,rfl,_,rfl,_,_,rfl,rfl,⟨by decide,by decide⟩,_,_,rfl,w0,(by omega),fun v d H' s1 hr' hp hn=>q v d H' s1 hr' ?_ hn⟩;unfold a1x;rw[hp,Bool.true_or]
  have h5:¬c%9<5:=fun e=>h (dT0 e);refine⟨_,rfl,rfl,_,rfl,?_⟩;refine a3j (fun _=>?_) (fun h6=>?_)
  ·exact⟨l1,fun p hp=>q _ _ _ (a0l.upd hp) (b3N a0c (by decide)) (by decide +kernel) (by decide +kernel)⟩
  have h6':c%9≠5:=fun e=>h6 (by show decide (V.int (c%9)=V.int 5)=true;rw[e];decide);refine⟨(by exact sl3),fun l hl=>?_⟩;obtain⟨x,hx,hm⟩:=a2H (l:=[V.str "list",.str "some",.str "once"]) (i:=c%9-6) (by omega) (by show c%9-6<3;omega);refine⟨_,rfl,_,_,rfl,rfl,_,_,_,x,rfl,rfl,SqL.of a0c,hx,?_⟩;have T1:=a0l.upd (o:=.lst [V.str "list",.str "some",.str "once"]) hl;refine⟨_,rfl,_,rfl,_,_,rfl,rfl,⟨by decide,by decide⟩,_,_,rfl,n0,(by omega),fun v d H2 s2 hr' hp hn=>?_⟩;refine⟨l2,fun p hp'=>?_⟩;have T3:=a0l.upd (o:=.tup [x,v]) hp';obtain⟨z,rfl,hz⟩:∃z:Str,x=.str z/\z∈w3:=by
   simp only[mK0,List.not_mem_nil,or_false] at hm;rcases hm with rfl |rfl |rfl
   ·exact⟨_,rfl,by decide +kernel⟩
   ·exact⟨_,rfl,by decide +kernel⟩
   ·exact⟨_,rfl,by decide +kernel⟩
  have hzf:∀z∈w3,z.length<=1000/\w3.any (a0u (.str z))=true/\a2k (.str z) (.int 0)=false:=by decide +kernel
  obtain⟨z1,z2,_⟩:=hzf z hz;refine q _ _ _ (T1.trans (s2.trans T3)) (b3r a0c z1 (hr'.same T3)) ?_ ?_
  ·unfold a1x
   show(a1I (.tup [.str z,d]) || (w3.any (a0u (.str z))&&a1I d))=true
   rw[z2,hp,Bool.true_and,Bool.or_true]
  ·show(a3e (.str z)&&(a3e d&&true))=true
   rw[hn]
   rfl
theorem a4e {cols:List (Str×V)}{z:Str}{v:V}(h:z∉cols.map (·.1)):a5l (kvC cols) (.inr z) v=kvC (cols++[(z,v)]):=by
 unfold a5l
 have:((kvC cols).any fun kv=>decide (kv.1=(.inr z:Key)))=false:=by
  rw[List.any_eq_false];intro kv hkv;obtain⟨p,hp,rfl⟩:=mM0.mp hkv;rw[decide_eq_true_iff];intro e;exact h (mM0.mpr ⟨p,hp,by injection e⟩)
 rw[if_neg (by rw[this];decide)];unfold kvC;rw[mA0]
 rfl
theorem nthI {l:List Int}{n:Nat}(hl:l.length=n)(hx:∀x∈l,0<=x/\x<2147483647)(j:Nat)(hj:j<n):∃e:Int,atI (l.map V.int) (j:Int)=some (.int e)/\0<=e/\e<2147483647:=by
 have hj':j<l.length:=by omega
 exact⟨l[j],a1P (by rw[gM0,gE0 hj'];rfl),hx _ (gQ0 hj')⟩
theorem a2r.besideL {H:Hp}{D e d:Addr}{u:HO}{ys:List V}{T:Tb}(hD:H D=some (.lst ys))(h:a2r H e d T):a2r (L2.upd H D u) e d T:=by
 refine⟨?_,?_,h.2.2.1,h.2.2.2.1,fun p hp=>⟨(h.2.2.2.2 p hp).1,?_⟩⟩
 ·rw[a0h (fun q=>by have:=h.1;rw[q,hD] at this;cases this)];exact h.1
 ·rw[a0h (fun q=>by have:=h.2.1;rw[q,hD] at this;cases this)];exact h.2.1
 ·obtain⟨dt,h1,h2,h3⟩:=(h.2.2.2.2 p hp).2
  exact⟨dt,Rep.beside (fun xs q=>by rw[hD] at q;cases q) h3 h1,h2,h3⟩
def clN:List Str:=["_law_cell_here","_law_most","_law_xs","_law_many","_law_columns_here","_law_k","_law_name"]
def tbN:List Str:=["_law_script","_law_start","_law_most","_law_wide","_law_many","_law_names_here","_law_parts","_law_k","_law_cell_here"]
def a7l (K:Fg0):Sp:=fun vs H Q _=>∃(a:Addr) (ns:List Int),vs=[.ref a,.int 4,.int 7,.int 11]/\SqL K H a (ns.map V.int)/\ns.length<=63/\∀l es ds T0 R H',a0l H H'->a1F H' l es ds (T0::R)->b3e T0 R->Q (.ref l) H'
theorem b1G {f fT fN fL fK fP:Addr}{fd fdT fdN fdL fdK fdP:FuncData}(F:Fun K "_law_columns" "_law_columns" (top 40) f fd)(B:Bl mg)(DT:Df K mg "_law_stream" (top 35) fT fdT)(DN:Df K mg "_law_names" (top 37) fN fdN)(DL:Df K mg "_law_letter" (top 36) fL fdL)
  (DK:Df K mg "_law_kind" (top 39) fK fdK) (DP:Df K mg "_law_plain" (top 38) fP fdP):a0K P w K mg base CX0 3 f fd ["_law_cell_here","_law_most"] b0c:=by
 have sc:a0o clN ["_law_cell_here","_law_most"] (a0f (top 40)):=.k (by decide +kernel);have GT:a0K P w K mg base CX0 1 fT fdT ["_law_cell_here","_law_many"] a4v:=a4P DT.fn B;have GN:a0K P w K mg base CX0 2 fN fdN ["_law_cell_here","_law_many"] a4u:=a6z DN.fn B DT DL;have GK:a0K P w K mg base CX0 2 fK fdK ["_law_number"] b1f:=b2R DK.fn DP;have bT:=DT.fn.b2 "_law_cell_here" "_law_many" (by intros;rfl);have bN:=DN.fn.b2 "_law_cell_here" "_law_many" (by intros;rfl);have bK:=DK.fn.b1 "_law_number" (by intros;rfl);refine F.ok sc (fun vs H Q E h=>?_) (fun cdv A outer s H vs Q E hr h=>?_)
 ·obtain⟨c,m,rfl,_⟩:=h
  rfl
 ·obtain⟨c,m,rfl,m0,m12,q⟩:=h
  have hr1:a1m 1 _:=hr.mono (by decide);have hu:=a3A hr;refine⟨_,a0d (a0s (i:=2) sc.nd rfl (Or.inl rfl) (a0k GT hr1 (by rfl) DT.mg DT.fn.kp bT .nil a0G (a0a (pv 0) (a0a a0e a0b))))
   (a0d (a0s (i:=3) sc.nd rfl (Or.inl rfl) (a0m a0M (a0W a0F (pv 2) a0e (fun _ _=>rfl)) a0e))
   (a0d (a0z (a0t a1p (a0m a0M (a0m a1D (a0W a0F (pv 2) a0e (fun _ _=>rfl)) a0e) a0e) a0e (a0w _)) (a0g (a0s (i:=3) sc.nd rfl (Or.inl rfl) (pv 1))) a0j)
   (a0d (a0s (i:=4) sc.nd rfl (Or.inl rfl) a2v)
   (a0d (a1H PassesOwn.never rfl (a8i (by rfl) B.enum (a0a (a0k GN hr (by rfl) DN.mg DN.fn.kp bN .nil a0G (a0a (a0W a0F (pv 2) a0e (fun _ _=>rfl)) (a0a (pv 3) a0b))) a0b)) (a3c rfl (a0q (a0n (i:=5) sc.nd rfl (Or.inl rfl)) (a0q (a0n (i:=6) sc.nd rfl (Or.inl rfl)) a1y)))
    (a0g (a8M hu (pv 4) (pv 6) (a0k GK hr (by rfl) DK.mg DK.fn.kp bK .nil a0G (a0a (a0W a0F (pv 2) (a0m a1d a0e (pv 5)) (fun _ _=>rfl)) a0b)) rfl)))
   (a0g (a0r (pv 4))))))),?_⟩
  refine⟨_,rfl,c,14,rfl,(by decide),(by decide),fun x H1 l s1 hx hl14 hl=>?_⟩;have hl':l.length=14:=by omega
  have atl:=nthI hl' hl;obtain⟨x0,a0,x00,_⟩:=atl 0 (by decide);obtain⟨x1,a1,_⟩:=atl 1 (by decide);have z0:=Int.emod_nonneg x0 (show(4:Int)≠0 by decide);have z1:=Int.emod_lt_of_pos x0 (show(0:Int)<4 by decide);refine⟨_,rfl,_,_,0,_,rfl,rfl,SqL.of hx,a0,_,_,rfl,rfl,(pos rfl),?_⟩;have fin:∀mn:Int,0<=mn->mn<=12->b1P (b3C b0j (a7w 4)) (b1P (b4c (b2V K (a7v (b1e a4u [] E0 (a7v (tOp (b3h K) (a7Z 2) (tC (.int 1))) (a7v (a7Z 3) a8Q))) a8Q)) (b3A K 2 (b1L (a7w 5) (b1L (a7w 6) b3Y))) (b2m (a7Z 4) (a7Z 6) (b1e b1f [] E0 (a7v (tOp (b3h K) (a7Z 2) (tOp (rI0 fun i j=>.int (i+j)) (tC (.int 2)) (a7Z 5))) a8Q)))) (b4l (a7Z 4))) { nx:=fun _ H'=>Q .non H',rt:=Q } [some (.int c),some (.int m),some (.ref x),some (.int mn),none,none,none] H1:=by
   intro mn n0 n12;intro d hd;have hd0:H d=none:=by
    cases e:H d with
    |none=>rfl
    |some o=>rw[s1 _ _ e] at hd;cases hd
   have T2:=a0l.upd (o:=.dK []) hd;have hx2:=T2 _ _ hx;refine⟨_,rfl,_,_,1,_,rfl,rfl,SqL.of hx2,a1,_,rfl,_,mn,rfl,n0,n12,fun p H3 zs s3 hp hzl nd hz=>?_⟩;have hd3:=s3 _ _ (show(L2.upd H1 d (.dK [])) d=some (.dK []) from a0c);have hx3:=s3 _ _ hx2;refine⟨p,rfl,⟨_,SqL.of hp⟩,a6y (K:=K) (a:=p) (xs:=zs.map V.str) (fun i σ H4=>∃(cols:List (Str×V)) (u5 u6:Option V),σ=[some (.int c),some (.int m),some (.ref x),some (.int mn),some (.ref d),u5,u6]/\a0l H H4/\H4 x=some (.lst (l.map V.int))/\H4 p=some (.lst (zs.map V.str))/\H4 d=some (.dK (kvC cols))/\cols.map (·.1)=zs.take i/\∀p∈cols,a1w p.1=true/\∃dt,Rep H4 dt p.2/\a1x dt=true/\a3e dt=true) ⟨[],_,_,rfl,(s1.trans T2).trans s3,hx3,hp,hd3,rfl,fun p h=>nomatch h⟩ (fun i σ H4 _ pp=>by obtain⟨cols,u5,u6,_,_,_,h,_⟩:=pp;exact SqL.of h) ?_ ?_⟩
   ·rintro i y pe σ H4 hy ⟨cols,u5,u6,rfl,s4,hx4,hp4,hd4,hcn,hck⟩ hpe
    have hi:i<zs.length:=by
     have:=(gS0.mp hy).1
     rwa [lM0] at this
    rw[gM0,gE0 hi] at hy;cases hy;have T5:=a0l.upd (o:=.tup [.int i,.str zs[i]]) hpe;obtain⟨xe,ae,_⟩:=atl (2+i) (by omega);have ae':atI (l.map V.int) (2+(i:Int))=some (.int xe):=by
     have:(2+(i:Int))=((2+i:Nat):Int):=by omega
     rw[this];exact ae
    refine⟨pe,_,rfl,SqT.of a0c,rfl,_,_,rfl,_,_,rfl,rfl,?_⟩;refine⟨_,rfl,_,rfl,_,_,rfl,rfl,_,_,_,_,rfl,rfl,SqL.of (T5 _ _ hx4),ae',xe,rfl,fun v dt H6 s6 hr' hkd hnd=>?_⟩;have S6:=T5.trans s6;have hd6:=S6 _ _ hd4;have clen:cols.length=i:=by
     have:=congrArg List.length hcn
     rw[lM0,lT0] at this
     omega
    refine⟨_,rfl,_,rfl,d,_,rfl,.inl ⟨_,.inr zs[i],hd6,rfl,?_,rfl⟩,?_⟩
    ·unfold kvC
     rw[lM0,sizeLine_eq]
     omega
    have hnew:zs[i]∉cols.map (·.1):=by
     rw[hcn];intro hm;obtain⟨j,hj,ej⟩:=List.mem_take_iff_getElem.mp hm;have hj2:j<zs.length:=by omega
     have:j=i:=(List.getElem_inj nd).mp ej
     omega
    rw[a4e hnew];have hdx:x≠d:=fun e=>by have:=S6 _ _ hx4;rw[e,hd6] at this;cases this
    have hdp:p≠d:=fun e=>by have:=S6 _ _ hp4;rw[e,hd6] at this;cases this
    refine⟨cols++[(zs[i],v)],_,_,rfl,(s4.trans S6).put hd0,by rw[a0h hdx];exact S6 _ _ hx4,by rw[a0h hdp];exact S6 _ _ hp4,a0c,?_,fun pr hpr=>?_⟩
    ·rw[mA0,hcn,List.take_add_one,gE0 hi]
     rfl
    ·have nt:∀xs,H6 d≠some (.tup xs):=fun xs q=>by rw[hd6] at q;cases q
     rcases List.mem_append.mp hpr with h |h
     ·obtain⟨h1,dt',h2,h3,h4⟩:=hck pr h
      exact⟨h1,dt',Rep.beside nt h4 (h2.same S6),h3,h4⟩
     ·have:pr=(zs[i],v):=by simpa using h
      subst this;exact⟨hz _ (gQ0 hi),dt,Rep.beside nt hnd hr',hkd,hnd⟩
   ·rintro σ H4 ⟨cols,u5,u6,rfl,s4,hx4,hp4,hd4,hcn,hck⟩
    rw[lM0,List.take_of_length_le (nR0 _)] at hcn;have clen:cols.length=zs.length:=by
     have:=congrArg List.length hcn
     rwa [lM0] at this
    exact⟨_,rfl,q d cols H4 s4 hd4 ⟨by rw[hcn];exact nd,by omega,hck⟩⟩
  refine⟨_,rfl,_,_,0,_,rfl,rfl,SqL.of hx,a0,_,_,rfl,rfl,⟨by decide,by decide⟩,_,_,rfl,rfl,(pos rfl),rfl,_,rfl,?_⟩;refine a3j (fun _=>?_) (fun _=>?_)
  ·exact⟨_,rfl,fin m m0 m12⟩
  ·exact fin (x0%4) z0 (by omega)
theorem a9r {f fC fN fL fT fO fK fP:Addr}{fd fdC fdN fdL fdT fdO fdK fdP:FuncData}(F:Fun K "_law_tables" "_law_tables" (top 41) f fd)(B:Bl mg)(DC:Df K mg "_law_cell" (top 34) fC fdC)(DN:Df K mg "_law_names" (top 37) fN fdN)(DL:Df K mg "_law_letter" (top 36) fL fdL)(DT:Df K mg "_law_stream" (top 35) fT fdT)
  (DO:Df K mg "_law_columns" (top 40) fO fdO) (DK:Df K mg "_law_kind" (top 39) fK fdK) (DP:Df K mg "_law_plain" (top 38) fP fdP):a0K P w K mg base CX0 4 f fd ["_law_script","_law_start","_law_most","_law_wide"] (a7l K):=by
 have sc:a0o tbN ["_law_script","_law_start","_law_most","_law_wide"] (a0f (top 41)):=.k (by decide +kernel);have GC:a0K P w K mg base CX0 1 fC fdC ["_law_script","_law_k"] (a7o K):=a7W DC.fn B;have GN:a0K P w K mg base CX0 2 fN fdN ["_law_cell_here","_law_many"] a4u:=a6z DN.fn B DT DL;have GO:a0K P w K mg base CX0 3 fO fdO ["_law_cell_here","_law_most"] b0c:=b1G DO.fn B DT DN DL DK DP;have bC:=DC.fn.b2 "_law_script" "_law_k" (by intros;rfl);have bN:=DN.fn.b2 "_law_cell_here" "_law_many" (by intros;rfl);have bO:=DO.fn.b2 "_law_cell_here" "_law_most" (by intros;rfl);refine F.ok sc (fun vs H Q E h=>?_) (fun cdv A outer s H vs Q E hr h=>?_)
 ·obtain⟨a,ns,rfl,_⟩:=h
  rfl
 ·obtain⟨a,ns,rfl,hS,h63,q⟩:=h
  have hr1:a1m 1 _:=hr.mono (by decide);have hr2:a1m 2 _:=hr.mono (by decide);have l3:3<=sizeLine:=by decide
  refine⟨_,a0d (a0s (i:=4) sc.nd rfl (Or.inl rfl) (a0m a1d a0e (a0m a0M (a0k GC hr1 (by rfl) DC.mg DC.fn.kp bC .nil a0G (a0a (pv 0) (a0a (pv 1) a0b))) (pv 2))))
   (a0d (a0s (i:=5) sc.nd rfl (Or.inl rfl) (a0k GN hr2 (by rfl) DN.mg DN.fn.kp bN .nil a0G (a0a (a0k GC hr1 (by rfl) DC.mg DC.fn.kp bC .nil a0G (a0a (pv 0) (a0a (a0m a1d (pv 1) a0e) a0b))) (a0a (pv 4) a0b))))
   (a0d (a0s (i:=6) sc.nd rfl (Or.inl rfl) (a0O (a0a (a0L (a0a (a0W a0F (pv 5) a0e (fun _ _=>rfl)) (a0a a0p (a0a (a0k GO hr (by rfl) DO.mg DO.fn.kp bO .nil a0G (a0a (a0k GC hr1 (by rfl) DC.mg DC.fn.kp bC .nil a0G (a0a (pv 0) (a0a (a0m a1d (pv 1) a0e) a0b))) (a0a (pv 3) a0b))) a0b)))) a0b)))
   (a0d (a1H PassesOwn.never rfl (a8h rfl B.range (a0a a0e (a0a (pv 4) a0b))) (a0n (i:=7) sc.nd rfl (Or.inl rfl))
    (a0d (a0s (i:=8) sc.nd rfl (Or.inl rfl) (a0k GC hr1 (by rfl) DC.mg DC.fn.kp bC .nil a0G (a0a (pv 0) (a0a (a0m a1d (a0m a1d (pv 1) a0e) (pv 7)) a0b))))
    (a0g (a1r (a3J PySem.F.plainAttrs_list PySem.F.slot_list_append PySem.F.type_list_append a2Z (pv 6) (a0a (a0L (a0a (a0W a0F (pv 5) (pv 7) (fun _ _=>rfl)) (a0a (a0W a0F (a0O (a0a a0p (a0a a0p (a0a a0p a0b)))) (a0m a0M (pv 8) a0e) (fun _ _=>rfl)) (a0a (a0k GO hr (by rfl) DO.mg DO.fn.kp bO .nil a0G (a0a (a0m a1D (pv 8) a0e) (a0a (pv 3) a0b))) a0b)))) a0b))))))
   (a0g (a0r (pv 6)))))),?_⟩
  have c0:=Int.emod_nonneg (a1E ns 4) (show(7:Int)≠0 by decide);have c1:=Int.emod_lt_of_pos (a1E ns 4) (show(0:Int)<7 by decide);refine⟨_,rfl,_,rfl,a,ns,_,rfl,hS,(by decide),(by decide),h63,_,rfl,_,_,rfl,rfl,(pos rfl),_,_,rfl,rfl,?_⟩;refine⟨_,rfl,_,rfl,_,_,rfl,rfl,a,ns,_,rfl,hS,(by decide),(by decide),h63,_,rfl,_,_,rfl,(by omega),(by omega),fun pn H1 zs s1 hpn hzl nd hz=>?_⟩;have hz0:0<zs.length:=by omega
  have hS1:=s1.seq hS;have at0':atI (zs.map V.str) 0=some (.str zs[0]):=a1P (j:=0) (by rw[gM0,gE0 hz0];rfl);refine⟨_,rfl,_,_,0,_,rfl,rfl,SqL.of hpn,at0',_,rfl,_,rfl,_,_,rfl,rfl,a,ns,_,rfl,hS1,(by decide),(by decide),h63,_,rfl,_,11,rfl,(by decide),(by decide),fun d0 cols0 H2 s2 hd0 ok0=>?_⟩;refine⟨l3,fun e0 he0=>?_⟩;have T3:=a0l.upd (o:=.tup [.str zs[0],.str "head",.ref d0]) he0;refine⟨(by exact sl1),fun l hl=>?_⟩;have T4:=a0l.upd (o:=.lst [V.ref e0]) hl;have S2:=s1.trans s2;have S4:=S2.trans (T3.trans T4);have hl0:H l=none:=by
   cases e:H l with
   |none=>rfl
   |some o=>rw[(S2.trans T3) _ _ e] at hl;cases hl
  have hpn4:=(s2.trans (T3.trans T4)) _ _ hpn;have pt0:a2r (L2.upd (L2.upd H2 e0 (.tup [.str zs[0],.str "head",.ref d0])) l (.lst [V.ref e0])) e0 d0 ⟨zs[0],"head",cols0⟩:=⟨T4 _ _ a0c,(T3.trans T4) _ _ hd0,ok0.same (T3.trans T4)⟩;have hne:pn≠l:=fun q=>by have:=(s2.trans T3) _ _ hpn;rw[q,hl] at this;cases this
  have zn:zs.length=(1+a1E ns 4%7).toNat:=by omega
  refine⟨_,rfl,_,_,rfl,⟨by decide,by decide,by omega,by omega⟩,a2B (fun i σ H5=>∃(es ds:List Addr) (R:List Tb) (u7 u8:Option V),σ=[some (.ref a),some (.int 4),some (.int 7),some (.int 11),some (.int (1+a1E ns 4%7)),some (.ref pn),some (.ref l),u7,u8]/\a0l H H5/\H5 pn=some (.lst (zs.map V.str))/\a1F H5 l es ds (⟨zs[0],"head",cols0⟩::R)/\R.length=i/\(∀T∈R,T.sort∈a1v)/\zs[0]::R.map (·.name)=zs.take (i+1)) ⟨[e0],[d0],[],_,_,rfl,S4,hpn4,⟨a0c,rfl,rfl,fun j e d T h1 h2 h3=>?_⟩,rfl,(fun T h=>nomatch h),?_⟩ ?_ ?_⟩
  ·cases j with
   |zero=>cases h1;cases h2;cases h3;exact pt0
   |succ j=>cases h1
  ·rw[List.take_add_one,List.take_zero,gE0 hz0]
   rfl
  ·rintro i σ H5 hi ⟨es,ds,R,u7,u8,rfl,s5,hpn5,hP,hR,hsd,hnm⟩
   have hi':i+1<zs.length:=by omega
   have hS5:=s5.seq hS;have ati:atI (zs.map V.str) (1+(i:Int))=some (.str zs[i+1]):=by
    have:(1+(i:Int))=((i+1:Nat):Int):=by omega
    rw[this];exact a1P (by rw[gM0,gE0 hi'];rfl)
   refine⟨_,rfl,_,rfl,_,_,rfl,rfl,_,rfl,_,_,rfl,rfl,a,ns,_,rfl,hS5,(by omega),(by omega),h63,?_⟩;generalize a1E ns (4+2+(1+(i:Int)))=cc;obtain⟨hl5,e1l,e2l,hpt⟩:=id hP;refine⟨_,rfl,.inl ⟨rfl,_,SqL.of hl5⟩,_,rfl,_,rfl,_,_,_,_,rfl,rfl,SqL.of hpn5,ati,?_⟩;refine⟨l3,fun ls hls=>?_⟩;have T6:=a0l.upd (o:=.lst [V.str "twin",.str "many",.str "some"]) hls;obtain⟨y,hy,hym⟩:=a2H (l:=[V.str "twin",.str "many",.str "some"]) (i:=cc%3) (Int.emod_nonneg _ (by decide)) (by show cc%3<3;exact Int.emod_lt_of_pos _ (by decide));obtain⟨so,rfl,hso⟩:∃so:Str,y=.str so/\so∈a1v:=by
    simp only[mK0,List.not_mem_nil,or_false] at hym;rcases hym with rfl |rfl |rfl
    ·exact⟨_,rfl,by decide +kernel⟩
    ·exact⟨_,rfl,by decide +kernel⟩
    ·exact⟨_,rfl,by decide +kernel⟩
   refine⟨_,rfl,_,_,rfl,rfl,(pos rfl),_,_,_,_,rfl,rfl,SqL.of a0c,hy,?_⟩;refine⟨_,rfl,_,_,rfl,rfl,⟨by decide,by decide⟩,_,rfl,_,11,rfl,(by decide),(by decide),fun d cols H7 s7 hd ok=>?_⟩;refine⟨l3,fun e he=>?_⟩;have T8:=a0l.upd (o:=.tup [.str zs[i+1],.str so,.ref d]) he;have S8:=T6.trans (s7.trans T8);have hl8:=S8 _ _ hl5;refine⟨l,_,_,rfl,rfl,hl8,?_,?_⟩
   ·rw[lM0,e1l,List.length_cons,hR,sizeLine_eq]
    omega
   refine⟨es++[e],ds++[d],R++[⟨zs[i+1],so,cols⟩],_,_,rfl,(s5.trans S8).put hl0,?_,⟨?_,?_,?_,fun j e' d' T h1 h2 h3=>?_⟩,?_,fun T hT=>?_,?_⟩
   ·rw[a0h hne]
    exact S8 _ _ hpn5
   ·rw[a0c,mA0]
    rfl
   ·rw[lA0,e1l]
    simp
   ·rw[lA0,e2l]
    simp
   ·have ptn:a2r (L2.upd H7 e (.tup [.str zs[i+1],.str so,.ref d])) e d ⟨zs[i+1],so,cols⟩:=⟨a0c,T8 _ _ hd,ok.same T8⟩
    have el:es.length=i+1:=by rw[e1l,List.length_cons,hR]
    have dl:ds.length=i+1:=by rw[e2l,List.length_cons,hR]
    refine a2r.besideL hl8 ?_
    by_cases hj:j<i+1
    ·rw[gL0 (by omega)] at h1 h2
     rw[<-List.cons_append,gL0 (by rw[List.length_cons];omega)] at h3;exact(hpt j e' d' T h1 h2 h3).sb S8.sb
    ·have:j=i+1:=by
      have:=(gS0.mp h1).1
      rw[lA0] at this;simp at this
      omega
     subst this;rw[gR0 (by omega),el,Nat.sub_self] at h1;rw[gR0 (by omega),dl,Nat.sub_self] at h2;rw[<-List.cons_append,gR0 (by rw[List.length_cons];omega),List.length_cons,hR,Nat.sub_self] at h3;cases h1;cases h2;cases h3;exact ptn
   ·rw[lA0,hR]
    rfl
   ·rcases List.mem_append.mp hT with h |h
    ·exact hsd T h
    ·have:T=⟨zs[i+1],so,cols⟩:=by simpa using h
     rw[this];exact hso
   ·rw[mA0,<-List.cons_append,hnm,List.take_add_one (i:=i+1),gE0 hi']
    rfl
  ·rintro σ H5 ⟨es,ds,R,u7,u8,rfl,s5,hpn5,hP,hR,hsd,hnm⟩
   have hall:zs[0]::R.map (·.name)=zs:=by
    rw[hnm];exact List.take_of_length_le (by omega)
   refine⟨_,rfl,q l es ds _ R H5 s5 hP ⟨by omega,?_,fun T hT=>?_,rfl,hsd⟩⟩
   ·rw[mN0]
    show(zs[0]::R.map (·.name)).Nodup
    rw[hall];exact nd
   ·have:T.name∈zs:=by
     rw[<-hall];rcases mK0.mp hT with h |h
     ·rw[h];exact List.mem_cons_self
     ·exact mL0 _ (mM0.mpr ⟨T,h,rfl⟩)
    exact hz _ this
end
end My
namespace L2
open PySem PySem.Spec PyProof.Rows
theorem Rd.same {H H':Hp}(s:a0l H H'){a:Addr}{u:HO}(r:Rd H a u):Rd H' a u:=by
 rcases r with e |⟨o,e⟩
 ·exact .inl (s _ _ e)
 ·exact .inr ⟨o,s _ _ e⟩
theorem SqT.rd {K:Fg0}{H:Hp}{a:Addr}{xs:List V}(h:Rd H a (.tup xs)):SqT K H a xs:=.inl h
theorem a1j {X:Cx}:a1C X (.builtin "isinstance") (fun xs H Q=>∃x n t b,xs=[x,.ty n]/\(a5F X.K H x t\/∃a ys,x=.ref a/\Rd H a (.tup ys)/\t=.type "tuple")/\PySem.W.kitOne X.K t (.type n)=some b/\Q (.bl b) H):=by
 intro U s σ H xs us Q I r h;obtain⟨x,n,t,b,rfl,hx,e,q⟩:=h;rcases hx with hx |⟨a,ys,rfl,ha,rfl⟩
 ·exact a2e U s σ H _ us Q I r ⟨x,n,t,b,rfl,hx,e,q⟩
 ·obtain⟨u,w',rfl,rx,rc⟩:=a7J r
  cases rx
  cases(show w'=Value.type n from rc)
  obtain⟨its,_,⟨o,h1,h2,_⟩,_⟩:=I.tuple (SqT.rd ha);exact PySem.W.kia_one PySem.W.kitx_tuple I.kIn ⟨o,h1,h2⟩ e (fun z=>nomatch z) fun tk=>⟨.bl b,H,I.tok tk,rfl,q⟩
inductive Lk5 (H:Hp):Nat->V->V->Prop
 |int {n:Nat} {i:Int}:Lk5 H n (.int i) (.int i)
 |str {n:Nat} {z:Str}:Lk5 H n (.str z) (.str z)
 |tup {n:Nat} {a b:Addr} {xs ys:List V} (ha:Rd H a (.tup xs)) (hb:Rd H b (.tup ys)) (hl:xs.length=ys.length) (h:∀(i:Nat) (x y:V),xs[i]? =some x->ys[i]? =some y->Lk5 H n x y):Lk5 H (n+1) (.ref a) (.ref b)
theorem Lk5.same {H H':Hp}(s:a0l H H'){n:Nat}{x y:V}(h:Lk5 H n x y):Lk5 H' n x y:=by
 induction h with
 |int=>exact .int
 |str=>exact .str
 |tup ha hb hl _ ih=>exact .tup (Rd.same s ha) (Rd.same s hb) hl ih
theorem Lk5.up {H:Hp}{n:Nat}{x y:V}(h:Lk5 H n x y):Lk5 H (n+1) x y:=by
 induction h with
 |int=>exact .int
 |str=>exact .str
 |tup ha hb hl _ ih=>exact .tup ha hb hl ih
end L2
namespace My
open PySem L2 PyProof.Rows
def leS (a b:Str):Bool:=!decide (b.cps.toList<a.cps.toList)
theorem a3B {a b:Str}:leS a b=true↔a.cps.toList<=b.cps.toList:=by
 unfold leS;rw[Bool.not_eq_true',decide_eq_false_iff_not];exact Iff.rfl
theorem a7C (a b c:Str)(h:leS a b=true)(h':leS b c=true):leS a c=true:=a3B.mpr (List.le_trans (a3B.mp h) (a3B.mp h'))
theorem a9e {a b:Str}(h:a.cps.toList=b.cps.toList):a=b:=Str.ext' (Array.toList_inj.mp h)
theorem a6t {a b:Str}(h:leS a b=true)(h':leS b a=true):a=b:=a9e (List.le_antisymm (a3B.mp h) (a3B.mp h'))
theorem a5m:∀{l:List Str} {p:Str},PyProof.Rows.risingS p l=true->(p::l).Pairwise fun a b=>leS a b=true
 |[],p,_=>List.pairwise_singleton _ _
 |x::r,p,h=>by
  unfold PyProof.Rows.risingS at h;rw[Bool.and_eq_true] at h;have hx:leS p x=true:=by
   unfold leS;rw[PyProof.Rows.le_meets];exact h.1
  have ih:=a5m (l:=r) (p:=x) h.2;refine List.Pairwise.cons (fun y hy=>?_) ih;rcases mK0.mp hy with rfl |hy
  ·exact hx
  ·exact a7C p x y hx ((List.pairwise_cons.mp ih).1 y hy)
theorem a3P:∀{l:List Str},PyProof.Rows.sortedS l=true->l.Pairwise fun a b=>leS a b=true
 |[],_=>List.Pairwise.nil
 |x::r,h=>a5m h
theorem a7E {l m k:List Str}(h1:sortedS l=true)(h2:sortedS m=true)(p1:l.Perm k)(p2:m.Perm k):l=m:=
 List.Perm.eq_of_pairwise (fun a b _ _ h1 h2=>a6t h1 h2) (a3P h1) (a3P h2) (p1.trans p2.symm)
theorem b1w {R R1 R2:List Tb}(nd:(R.map (·.name)).Nodup)(p1:R1.Perm R)(p2:R2.Perm R)(h1:a8P (R1.map (·.name)))(h2:a8P (R2.map (·.name))):R1=R2:=by
 have pw:∀{S:List Tb},a8P (S.map (·.name))->S.Pairwise fun a b=>leS a.name b.name=true:=fun h=>by
  unfold a8P at h;rw[List.pairwise_map] at h;refine h.imp fun hab=>?_;unfold leS;rw[dF0 hab]
  rfl
 refine List.Perm.eq_of_pairwise (fun a b ha hb h1 h2=>?_) (pw h1) (pw h2) (p1.trans p2.symm);have en:=a6t h1 h2;have ma:=p1.mem_iff.mp ha;have mb:=p2.mem_iff.mp hb;obtain⟨i,hi,ei⟩:=List.mem_iff_getElem.mp ma;obtain⟨j,hj,ej⟩:=List.mem_iff_getElem.mp mb
 have:i=j:=by
  refine(List.getElem_inj (h₀:=by rw[lM0];exact hi) (h₁:=by rw[lM0];exact hj) nd).mp ?_;rw[List.getElem_map,List.getElem_map,ei,ej,en]
 subst this;rw[<-ei,<-ej]
theorem b0n {H:Hp}{n:Nat}{a b:Addr}{x y:V}(ha:Rd H a (.tup [x]))(hb:Rd H b (.tup [y]))(h1:Lk5 H n x y):Lk5 H (n+1) (.ref a) (.ref b):=by
 refine .tup ha hb rfl fun i u v hu hv=>?_
 match i,hu,hv with
 |0,hu,hv=>cases hu;cases hv;exact h1
 |i+1,hu,hv=>simp at hu
theorem a4W {H:Hp}{n:Nat}{a b:Addr}{x y x2 y2:V}(ha:Rd H a (.tup [x,x2]))(hb:Rd H b (.tup [y,y2]))(h1:Lk5 H n x y)(h2:Lk5 H n x2 y2):Lk5 H (n+1) (.ref a) (.ref b):=by
 refine .tup ha hb rfl fun i u v hu hv=>?_
 match i,hu,hv with
 |0,hu,hv=>cases hu;cases hv;exact h1
 |1,hu,hv=>cases hu;cases hv;exact h2
 |i+2,hu,hv=>simp at hu
theorem a9S {H:Hp}{n:Nat}{a b:Addr}{x y x2 y2 x3 y3:V}(ha:Rd H a (.tup [x,x2,x3]))(hb:Rd H b (.tup [y,y2,y3]))(h1:Lk5 H n x y)(h2:Lk5 H n x2 y2)(h3:Lk5 H n x3 y3):Lk5 H (n+1) (.ref a) (.ref b):=by
 refine .tup ha hb rfl fun i u v hu hv=>?_
 match i,hu,hv with
 |0,hu,hv=>cases hu;cases hv;exact h1
 |1,hu,hv=>cases hu;cases hv;exact h2
 |2,hu,hv=>cases hu;cases hv;exact h3
 |i+3,hu,hv=>simp at hu
theorem a2b {d:Dt}{z:Str}(h:a0u d z=true):∃y,d=.str y:=by
 cases d with
 |str y=>exact⟨y,rfl⟩
 |_=>cases h
theorem a6m {H:Hp}{d:Dt}{v:V}(hp:a1I d=true)(h:Rep H d v):Lk5 H 1 v v:=by
 match d,hp,h with
 | .tup [s],hp,h=>
  simp only[Rep,a0V] at h;obtain⟨a,xs,rfl,ha,v1,vs,rfl,h1,rfl⟩:=h;obtain⟨z,_,hz⟩:=List.any_eq_true.mp (show w2.any (a0u s)=true from hp);obtain⟨y,rfl⟩:=a2b hz;simp only[Rep] at h1;rw[h1.1] at ha;exact b0n (.inl ha) (.inl ha) .str
 | .tup [s,b],hp,h=>
  simp only[Rep,a0V] at h;obtain⟨a,xs,rfl,ha,v1,vs,rfl,h1,v2,vs2,rfl,h2,rfl⟩:=h;have hp':a2k s b=true:=hp;unfold a2k at hp';have hs:∃y,s=.str y:=by
   by_cases e1:a0u s "below"=true
   ·exact a2b e1
   ·rw[if_neg e1] at hp'
    by_cases e2:a0u s "upto"=true
    ·exact a2b e2
    ·rw[if_neg e2] at hp'
     exact a2b (Bool.and_eq_true_iff.mp hp').1
  have hb:(∃i,b=.int i)\/∃y,b=.str y:=by
   cases b with
   |int i=>exact .inl ⟨i,rfl⟩
   |str y=>exact .inr ⟨y,rfl⟩
   |_=>
    simp only[geD,a3d,a5j,Bool.and_false] at hp'
    split at hp'
    ·cases hp'
    ·split at hp'<;>cases hp'
  obtain⟨y,rfl⟩:=hs;simp only[Rep] at h1;rw[h1.1] at ha;rcases hb with ⟨i,rfl⟩ |⟨y2,rfl⟩
  ·simp only[Rep] at h2
   rw[h2] at ha;exact a4W (.inl ha) (.inl ha) .str .int
  ·simp only[Rep] at h2
   rw[h2.1] at ha;exact a4W (.inl ha) (.inl ha) .str .str
theorem b1M {H:Hp}{d:Dt}{v:V}(hk:a1x d=true)(h:Rep H d v):Lk5 H 2 v v:=by
 unfold a1x at hk;rcases Bool.or_eq_true_iff.mp hk with hp |hm
 ·exact(a6m hp h).up
 ·match d,hm,h with
  | .tup [s],hm,h=>
   simp only[Rep,a0V] at h;obtain⟨a,xs,rfl,ha,v1,vs,rfl,h1,rfl⟩:=h;obtain⟨y,rfl⟩:=a2b (show a0u s "key"=true from hm);simp only[Rep] at h1;rw[h1.1] at ha;exact b0n (.inl ha) (.inl ha) .str
  | .tup [s,b],hm,h=>
   simp only[Rep,a0V] at h;obtain⟨a,xs,rfl,ha,v1,vs,rfl,h1,v2,vs2,rfl,h2,rfl⟩:=h;have hm':=Bool.and_eq_true_iff.mp (show(w3.any (a0u s)&&a1I b)=true from hm);obtain⟨z,_,hz⟩:=List.any_eq_true.mp hm'.1;obtain⟨y,rfl⟩:=a2b hz;simp only[Rep] at h1;rw[h1.1] at ha;exact a4W (.inl ha) (.inl ha) .str (a6m hm'.2 h2)
theorem b1x {H:Hp}{t u:Addr}{cols:List (Str×V)}(h1:a1X H t cols)(h2:a1X H u cols)(ok:a1J H cols):Lk5 H 4 (.ref t) (.ref u):=by
 obtain⟨o,ps,zs,p1,s1,_,g1,l1,f1⟩:=h1;obtain⟨o',ps',zs',p2,s2,_,g2,l2,f2⟩:=h2;have ez:=a7E s1 s2 p1 p2;subst ez;refine .tup (.inr ⟨o,g1⟩) (.inr ⟨o',g2⟩) (by rw[lM0,lM0,l1,l2]) fun i x y hx hy=>?_;rw[gM0] at hx hy;obtain⟨p,hp,rfl⟩:=Option.map_eq_some_iff.mp hx;obtain⟨p',hp',rfl⟩:=Option.map_eq_some_iff.mp hy;have hi:i<zs.length:=by have:=(gS0.mp hp).1;omega
 have hz:=gE0 hi;have hm:zs[i]∈cols.map (·.1):=p1.mem_iff.mp (gQ0 hi);have hv:∃d,Rep H d (vOf cols zs[i])/\a1x d=true:=by
  have hval:=a4N hm;unfold a3O at hval;obtain⟨kv,hf,e⟩:=Option.map_eq_some_iff.mp hval;have hmem:=List.mem_of_find?_eq_some hf;obtain⟨pr,hpr,rfl⟩:=mM0.mp hmem;obtain⟨_,d,h1,h2,_⟩:=ok.2.2 pr hpr;rw[<-e];exact⟨d,h1,h2⟩
 obtain⟨d,hd,hk⟩:=hv;exact a4W (.inl (f1 i p _ hp hz)) (.inl (f2 i p' _ hp' hz)) .str (b1M hk hd)
theorem b1l {H:Hp}{f g:Addr}{sz:Int}{Ts:List Tb}(h1:a2q H f sz Ts)(h2:a2q H g sz Ts)(ok:∀T∈Ts,a1J H T.cols):Lk5 H 7 (.ref f) (.ref g):=by
 obtain⟨tt,es,a1,a2,a3,a4⟩:=h1;obtain⟨tt',es',b1,b2,b3,b4⟩:=h2;refine a4W (.inl a1) (.inl b1) .int (.tup (.inl a2) (.inl b2) (by rw[lM0,lM0,a3,b3]) fun i x y hx hy=>?_);rw[gM0] at hx hy;obtain⟨e,he,rfl⟩:=Option.map_eq_some_iff.mp hx;obtain⟨e',he',rfl⟩:=Option.map_eq_some_iff.mp hy;have hi:i<Ts.length:=by have:=(gS0.mp he).1;omega
 obtain⟨ct,c1,c2⟩:=a4 i e Ts[i] he (gE0 hi);obtain⟨ct',d1,d2⟩:=b4 i e' Ts[i] he' (gE0 hi);exact a9S (.inl c1) (.inl d1) .str .str (b1x c2 d2 (ok _ (gQ0 hi)))
seal L2.PE L2.PT L2.PW L2.PS L2.PSs L2.PA L2.PI L2.PG L2.PGs L2.OpR L2.UnR L2.a1C L2.IxR L2.SlR L2.MtR L2.PIf L2.PO L2.MtM L2.PC
def a8x (n:Nat):Sp:=fun vs H Q _=>∃x y,vs=[x,y]/\Lk5 H n x y/\∀H',a0l H H'->Q (.bl true) H'
section
variable {P:Program}{w:World}{K:Fg0}{mg:Str->Option Value}{base:Heap}
theorem kq {a b:String}{r:Bool}(h:a2l a b=some r):PySem.W.kitOne K (.type a) (.type b)=some r:=a2o.trans h
theorem b0W {f:Addr}{fd:FuncData}(D:Df K mg "_law_same" (top 42) f fd)(B:Bl mg)(hz:mg "zip"=none):∀n:Nat,a0K P w K mg base CX0 (n+1) f fd ["_law_found","_law_due"] (a8x n):=by
 have sc:a0o ["_law_found","_law_due","_law_one","_law_other"] ["_law_found","_law_due"] (a0f (top 42)):=.k (by decide +kernel);have bA:=D.fn.b2 "_law_found" "_law_due" (by intros;rfl);have t2:a2l "int" "bool"=some false:=by decide +kernel
 have t5:a2l "int" "int"=some true:=by decide +kernel
 have t7:a2l "int" "tuple"=some false:=by decide +kernel
 have t8:a2l "str" "str"=some true:=by decide +kernel
 have t9:a2l "str" "tuple"=some false:=by decide +kernel
 have t10:a2l "int" "str"=some false:=by decide +kernel
 have t12:a2l "tuple" "tuple"=some true:=by decide +kernel
 have nn:∀{v:V},v≠.non->¬(decide (v=V.non)=true):=fun h c=>h (of_decide_eq_true c);intro n
 induction n with
 |zero=>
  refine D.fn.ok sc (fun vs H Q E h=>?_) (fun cdv A outer s H vs Q E hr h=>?_)
  ·obtain⟨x,y,rfl,_⟩:=h
   rfl
  ·obtain⟨x,y,rfl,hl,q⟩:=h
   have q:=q H (a0l.refl H);refine⟨_,a0d (a0z (a0S (a0i a1j (by rfl) B.isi boot_isi (a0a (pv 1) (a0a (a1b (v:=.ty "tuple") (by rfl) B.tuple boot_tuple rfl) a0b)))) a0D a0j)
    (a0d (a0z (a0S (a0i a1j (by rfl) B.isi boot_isi (a0a (pv 1) (a0a (a1b (v:=.ty "str") (by rfl) B.str boot_str rfl) a0b)))) (a0g (a0r (a1T (a0i a1j (by rfl) B.isi boot_isi (a0a (pv 0) (a0a (a1b (v:=.ty "str") (by rfl) B.str boot_str rfl) a0b))) (a2j (a1h a1p (pv 0) (pv 1) (a0w _)))))) a0j)
    (a0g (a0r (a1T (a0i a1j (by rfl) B.isi boot_isi (a0a (pv 0) (a0a (a1b (v:=.ty "int") (by rfl) B.int boot_int rfl) a0b))) (a1T (a7z (a0i a1j (by rfl) B.isi boot_isi (a0a (pv 0) (a0a (a1b (v:=.ty "bool") (by rfl) B.bool boot_bool rfl) a0b)))) (a2j (a1h a1p (pv 0) (pv 1) (a0w _)))))))),?_⟩
   obtain⟨m,e0,hl⟩:∃m,m=0/\Lk5 H m x y:=⟨0,rfl,hl⟩;cases hl with
   |int=>
    refine⟨_,rfl,_,_,_,_,rfl,.inl (.int _),kq t7,_,rfl,?_⟩;refine a2z ?_;refine⟨_,rfl,_,_,_,_,rfl,.inl (.int _),kq t10,_,rfl,?_⟩;refine a2z ?_;refine⟨_,rfl,_,_,_,_,rfl,.inl (.int _),kq t5,_,rfl,?_⟩;refine a3R ?_;refine⟨_,rfl,_,_,_,_,rfl,.inl (.int _),kq t2,_,rfl,_,rfl,?_⟩;refine a3R ?_;refine⟨_,rfl,_,rfl,rfl,?_⟩;rw[dT0 rfl];exact q
   |str=>
    refine⟨_,rfl,_,_,_,_,rfl,.inl (.str _),kq t9,_,rfl,?_⟩;refine a2z ?_;refine⟨_,rfl,_,_,_,_,rfl,.inl (.str _),kq t8,_,rfl,?_⟩;refine a3R ?_;refine⟨_,rfl,_,_,_,_,rfl,.inl (.str _),kq t8,_,rfl,?_⟩;refine a3R ?_;refine⟨_,rfl,_,rfl,rfl,?_⟩;rw[dT0 rfl];exact q
   |tup=>cases e0
 |succ n ih=>
  refine D.fn.ok sc (fun vs H Q E h=>?_) (fun cdv A outer s H vs Q E hr h=>?_)
  ·obtain⟨x,y,rfl,_⟩:=h
   rfl
  ·obtain⟨x,y,rfl,hl,q⟩:=h
   refine⟨_,a0d (a0z (a0S (a0i a1j (by rfl) B.isi boot_isi (a0a (pv 1) (a0a (a1b (v:=.ty "tuple") (by rfl) B.tuple boot_tuple rfl) a0b))))
     (a0d (a0z (PW.pt (a3M (a1s (a0S (a0i a1j (by rfl) B.isi boot_isi (a0a (pv 0) (a0a (a1b (v:=.ty "tuple") (by rfl) B.tuple boot_tuple rfl) a0b))))) (a3a (a0t a6D (a0i a0E (by rfl) B.len PySem.boot_len (a0a (pv 0) a0b)) (a0i a0E (by rfl) B.len PySem.boot_len (a0a (pv 1) a0b)) (a0w _))))) (a0g (a0r a3f)) a0j)
     (a0d (a1H PassesOwn.never rfl (b1p (by rfl) hz (a0a (pv 0) (a0a (pv 1) a0b))) (a3c rfl (a0q (a0n (i:=2) sc.nd rfl (Or.inl rfl)) (a0q (a0n (i:=3) sc.nd rfl (Or.inl rfl)) a1y)))
      (a0g (a0z (a1s (a0S (a0k ih hr (by rfl) D.mg D.fn.kp bA .nil a0G (a0a (pv 2) (a0a (pv 3) a0b))))) (a0g (a0r a3f)) a0j)))
     (a0g (a0r a3f)))) a0j)
    (a0d (a0z (a0S (a0i a1j (by rfl) B.isi boot_isi (a0a (pv 1) (a0a (a1b (v:=.ty "str") (by rfl) B.str boot_str rfl) a0b)))) (a0g (a0r (a1T (a0i a1j (by rfl) B.isi boot_isi (a0a (pv 0) (a0a (a1b (v:=.ty "str") (by rfl) B.str boot_str rfl) a0b))) (a2j (a1h a1p (pv 0) (pv 1) (a0w _)))))) a0j)
    (a0g (a0r (a1T (a0i a1j (by rfl) B.isi boot_isi (a0a (pv 0) (a0a (a1b (v:=.ty "int") (by rfl) B.int boot_int rfl) a0b))) (a1T (a7z (a0i a1j (by rfl) B.isi boot_isi (a0a (pv 0) (a0a (a1b (v:=.ty "bool") (by rfl) B.bool boot_bool rfl) a0b)))) (a2j (a1h a1p (pv 0) (pv 1) (a0w _)))))))),?_⟩
   have q0:=q H (a0l.refl H);generalize e0:n+1=m at hl;cases hl with
   |int=>
    refine⟨_,rfl,_,_,_,_,rfl,.inl (.int _),kq t7,_,rfl,?_⟩;refine a2z ?_;refine⟨_,rfl,_,_,_,_,rfl,.inl (.int _),kq t10,_,rfl,?_⟩;refine a2z ?_;refine⟨_,rfl,_,_,_,_,rfl,.inl (.int _),kq t5,_,rfl,?_⟩;refine a3R ?_;refine⟨_,rfl,_,_,_,_,rfl,.inl (.int _),kq t2,_,rfl,_,rfl,?_⟩;refine a3R ?_;refine⟨_,rfl,_,rfl,rfl,?_⟩;rw[dT0 rfl];exact q0
   |str=>
    refine⟨_,rfl,_,_,_,_,rfl,.inl (.str _),kq t9,_,rfl,?_⟩;refine a2z ?_;refine⟨_,rfl,_,_,_,_,rfl,.inl (.str _),kq t8,_,rfl,?_⟩;refine a3R ?_;refine⟨_,rfl,_,_,_,_,rfl,.inl (.str _),kq t8,_,rfl,?_⟩;refine a3R ?_;refine⟨_,rfl,_,rfl,rfl,?_⟩;rw[dT0 rfl];exact q0
   |@tup n' a b xs ys ha hb hlen hi=>
    cases e0;refine⟨_,rfl,_,_,_,_,rfl,.inr ⟨_,_,rfl,hb,rfl⟩,kq t12,_,rfl,?_⟩;refine a3R ?_;refine⟨_,rfl,_,_,_,_,rfl,.inr ⟨_,_,rfl,ha,rfl⟩,kq t12,_,rfl,?_⟩;refine a2z ?_;refine⟨_,rfl,_,_,rfl,.inr ((SqT.rd ha)),_,rfl,_,_,rfl,.inr ((SqT.rd hb)),rfl,_,rfl,?_⟩;refine b3i (by rw[hlen]) ?_;refine⟨_,rfl,_,rfl,a,b,rfl,⟨_,(SqT.rd ha)⟩,⟨_,(SqT.rd hb)⟩,a9c (K:=K) (xs:=xs) (ys:=ys) (fun i σ H'=>a0l H H'/\∃(u v:Option V),σ=[some (.ref a),some (.ref b),u,v]) hlen ⟨a0l.refl H,_,_,rfl⟩ (fun i σ H' _ p=>⟨SqT.rd (Rd.same p.1 ha),SqT.rd (Rd.same p.1 hb)⟩) ?_ ?_⟩
    ·rintro i x y p σ H' hx hy ⟨s1,u,v,rfl⟩ hp
     refine⟨p,[x,y],rfl,SqT.of a0c,rfl,x,[y],rfl,y,[],rfl,rfl,?_⟩;have s2:=s1.trans (a0l.upd (o:=.tup [x,y]) hp);refine⟨_,rfl,_,rfl,x,y,rfl,(hi i x y hx hy).same s2,fun H2 s3=>⟨_,rfl,?_⟩⟩;refine a2z ?_;exact⟨s2.trans s3,_,_,rfl⟩
    ·rintro σ H' ⟨s1,u,v,rfl⟩
     exact q H' s1
def Sl (d:Addr)(H H':Hp):Prop:=∀b o,b≠d->H b=some o->H' b=some o
theorem Sl.of {d:Addr}{H H':Hp}(s:a0l H H'):Sl d H H':=fun b o _ e=>s b o e
theorem Sl.put {d:Addr}{H H1 H2:Hp}{o:HO}(a:Sl d H H1)(s:a0l H1 H2):Sl d H (L2.upd H2 d o):=fun b u nb e=>by
 rw[a0h nb];exact s _ _ (a b u nb e)
def b2i:Stmt->Expr
 | .For _ (.BinOp _ _ (.Call _ _ [⟨_,e,_⟩] _) _) _ _ _=>e
 |_=>.Constant .none 0 ⟨0,0,0,0⟩
def a9P:Expr:=b2i ((a0A (top 43)).getD 1 (.Pass ⟨0,0,0,0⟩))
def b2T:Pos:=a9Z a9P
def liQ:Str:="_law_form.<locals>.<lambda>"
def a7P (PL:Addr):Sp:=fun vs H Q _=>∃(l:Addr) (sz:Int) (es ds:List Addr) (T0:Tb) (R:List Tb),vs=[.int sz,.ref l]/\a1F H l es ds (T0::R)/\b3e T0 R/\a3l PL b2T liQ H ∧
 ∀(f:Addr) (H':Hp) (R':List Tb),Sb H H'->Fr PL H H'->a3l PL b2T liQ H'->R'.Perm R->a8P (R'.map (·.name))->a2q H' f sz (T0::R')->Q (.ref f) H'
def lfN:List Str:=["_law_size_here","_law_parts","_law_rows","_law_name","_law_sort","_law_columns_here"]
theorem a9i {f c PL:Addr}{fd:FuncData}(F:b0H K "_law_form" "_law_form" (top 43) f fd c)(B:Bl mg)(hC:PySem.W.codeHdIn K c PL=true)(hB:L2.a4r base mg):a0K P w K mg base CX0 6 f fd ["_law_size_here","_law_parts"] (a7P PL):=by
 have sc:a0o lfN ["_law_size_here","_law_parts"] (a0f (top 43)):=.k (by decide +kernel);refine F.ok sc (fun vs H Q E h=>?_) (fun A outer s H vs Q E hr h=>?_)
 ·obtain⟨l,sz,es,ds,T0,R,rfl,_⟩:=h
  rfl
 ·obtain⟨l,sz,es,ds,T0,R,rfl,hP,hT,hTab,q⟩:=h
  have hu:=a3A hr;refine⟨_,a0d (a0s (i:=2) sc.nd rfl (Or.inl rfl) (a0O a0b))
   (a0d (a1H PassesOwn.never rfl (a1q (a0m a1L (a0N a1o (pv 1) a1a (a0Y a0e))
     (a3W (k:=2) (x:="_law_part") (q:=liQ) (params:=a7R a9P) (body:=a7f a9P) (scope:=a6w a9P) (pm:=(mg "__name__").getD .none) (tb:=tOp (b1W K) (a7Z 0) (tC (.int 0))) hr (by rfl) B.sorted (a0N a1o (pv 1) (a0Y a0e) a1a) (b0r rfl hC hB) ⟨rfl,rfl,rfl,by decide +kernel,rfl,by decide +kernel,by decide +kernel⟩ (fun _ _ _=>rfl) (fun f c' s H=>a0W (r:=b1W K) a2c (pv 0) a0e (fun _ _=>rfl)))))
    (a3c rfl (a0q (a0n (i:=3) sc.nd rfl (Or.inl rfl)) (a0q (a0n (i:=4) sc.nd rfl (Or.inl rfl)) (a0q (a0n (i:=5) sc.nd rfl (Or.inr rfl)) a1y))))
    (a0g (a1r (a3J PySem.F.plainAttrs_list PySem.F.slot_list_append PySem.F.type_list_append a2Z (pv 2) (a0a (a0L (a0a (pv 3) (a0a (pv 4) (a0a (a1u a3k (by rfl) B.tuple boot_tuple (a0a (a2f (osc:=a0f (top 43)) (N0:=lfN) (xs:=["_law_column"]) (fr:=[5]) ⟨rfl,by decide +kernel,by decide +kernel,by decide +kernel,(fun j hj=>by
       have e:j=5:=by simpa using hj
       subst e;exact⟨_,rfl,by decide +kernel⟩),by decide +kernel⟩ rfl rfl rfl (a1q (a0i (a2s rfl) (by rfl) B.sorted boot_sorted (a0a (pv 5) a0b)))
      (fun s H fp=>a0n (i:=0) (show(["_law_column","_law_columns_here"]:List Str).Nodup by decide +kernel) rfl (Or.inl rfl)) (fun s H fp=>a1U)
      (fun s H fp=>a0L (a0a (pv 0) (a0a (a5L hu (pv 1) (pv 0) (fun _ _=>rfl)) a0b)))) a0b)) a0b)))) a0b)))))
   (a0g (a0r (a0L (a0a (pv 0) (a0a (a1u a2D (by rfl) B.tuple boot_tuple (a0a (pv 2) a0b)) a0b)))))),?_⟩
  obtain⟨Ts,eTs⟩:∃Ts,Ts=T0::R:=⟨_,rfl⟩;rw[<-eTs] at hP;obtain⟨r7,ndn,hnm,hhd,hsd⟩:=hT;rw[<-eTs] at ndn;have tl:Ts.length=R.length+1:=by rw[eTs];rfl
  have e1l:=hP.2.1;have e2l:=hP.2.2.1;refine⟨zL0 _,fun d hd=>?_⟩;have T0':=a0l.upd (o:=.lst []) hd;have hl0:=T0' _ _ hP.1;refine⟨_,rfl,_,rfl,l,_,rfl,SqL.of hl0,fun p1 e1=>?_⟩;rw[a4U (by decide) (by rw[lM0];omega),<-List.map_take];have he0:0<es.length:=by omega
  have etk:es.take (1:Int).toNat=[es[0]]:=by
   show es.take 1=[es[0]];cases es with
   |nil=>simp at he0
   |cons a r=>rfl
  rw[etk];have T1:=a0l.upd (o:=.lst ([es[0]].map V.ref)) e1;refine⟨_,rfl,_,rfl,l,_,rfl,SqL.of (T1 _ _ hl0),fun p2 e2=>?_⟩;rw[a2E (by decide) (by rw[lM0];omega),<-List.map_drop];have T2:=a0l.upd (o:=.lst ((es.drop (1:Int).toNat).map V.ref)) e2;have S2:=T0'.trans (T1.trans T2);refine a6x (hTab.same S2) fun lf c' H8 sb8 fr8 tab8 hlf hc8=>?_;have SB8:=S2.sb.trans sb8;have FR8:Fr PL H H8:=fun b o nb e=>by
   have:=S2 _ _ e
   rw[fr8 b nb (by rw[this];simp)];exact this
  have hP8:=hP.sb SB8;obtain⟨hl8,_,_,hpt8⟩:=id hP8;refine⟨p2,lf,c',_,R.map (·.name),rfl,rfl,hlf,hc8,SqL.of (sb8 _ _ rfl a0c),?_,?_,?_,(fun i v z h1 h2=>?_),fun l9 ix n9 hix hri=>?_⟩
  ·rw[lM0,lM0,List.length_drop]
   show R.length=es.length-1
   omega
  ·rw[eTs,mN0] at ndn
   exact(List.nodup_cons.mp ndn).2
  ·rw[lM0,List.length_drop]
   show es.length-1<64
   omega
  ·have h1':(es.drop 1)[i]?.map V.ref=some v:=by rw[<-gM0];exact h1
   rw[List.getElem?_drop] at h1';obtain⟨e,he,rfl⟩:=Option.map_eq_some_iff.mp h1';rw[gM0] at h2;obtain⟨T,hT',rfl⟩:=Option.map_eq_some_iff.mp h2;have hil:1+i<ds.length:=by have:=(gS0.mp he).1;omega
   have pt:=hpt8 (1+i) e ds[1+i] T he (gE0 hil) (by rw[eTs,Nat.add_comm,List.getElem?_cons_succ];exact hT');exact⟨_,rfl,_,_,0,_,rfl,rfl,SqT.of pt.1,rfl,rfl,rfl⟩
  rw[lM0,List.length_drop] at hix;have hix':ix.Perm (List.range R.length):=by
   have:es.length-(1:Int).toNat=R.length:=by
    show es.length-1=R.length
    omega
   rw[this] at hix;exact hix
  have ixlt:∀i∈ix,i<R.length:=fun i hi=>List.mem_range.mp (hix'.mem_iff.mp hi);have elst:(ix.map fun i=>((es.drop (1:Int).toNat).map V.ref).getD i .non)=(ix.map fun i=>(es.drop 1).getD i 0).map V.ref:=by
   rw[mC0];refine List.map_congr_left fun i hi=>?_;have hl:i<(es.drop 1).length:=by
    rw[List.length_drop]
    have:=ixlt i hi
    omega
   show(((es.drop 1).map V.ref).getD i .non)=V.ref ((es.drop 1).getD i 0)
   rw[List.getD_eq_getElem?_getD,List.getD_eq_getElem?_getD,gM0,gE0 hl]
   rfl
  rw[elst];have ixl:ix.length=R.length:=by rw[hix'.length_eq,List.length_range]
  have T9:=a0l.upd (o:=.lst ((ix.map fun i=>(es.drop 1).getD i 0).map V.ref)) n9;refine⟨p1,l9,_,_,rfl,rfl,T9 _ _ (sb8 _ _ rfl (T2 _ _ a0c)),a0c,?_,fun p10 e10=>?_⟩
  ·rw[lM0,lM0,lM0,sizeLine_eq,ixl]
   simp only[List.length_cons,List.length_nil]
   omega
  rw[show([es[0]].map V.ref++(ix.map fun i=>(es.drop 1).getD i 0).map V.ref)=(es[0]::ix.map fun i=>(es.drop 1).getD i 0).map V.ref from rfl];have T10:=a0l.upd (o:=.lst ((es[0]::ix.map fun i=>(es.drop 1).getD i 0).map V.ref)) e10;have parts:∀(j:Nat) (e:Addr),(es[0]::ix.map fun i=>(es.drop 1).getD i 0)[j]? =some e->∃dd T,(T0::ix.map fun i=>R.getD i T0)[j]? =some T/\a2r H8 e dd T:=fun j e h1=>by
   cases j with
   |zero=>
    cases h1;exact⟨ds[0],T0,rfl,hpt8 0 es[0] ds[0] T0 (gE0 he0) (gE0 (by omega)) (by rw[eTs];rfl)⟩
   |succ j=>
    rw[List.getElem?_cons_succ,gM0] at h1;obtain⟨i,hi,rfl⟩:=Option.map_eq_some_iff.mp h1;have hl:=ixlt i (gI0 hi);have hl2:i<(es.drop 1).length:=by rw[List.length_drop];omega
    have hl3:1+i<ds.length:=by omega
    refine⟨ds[1+i],R.getD i T0,by rw[List.getElem?_cons_succ,gM0,hi];rfl,hpt8 (1+i) _ _ _ ?_ (gE0 hl3) ?_⟩
    ·show es[1+i]? =some ((es.drop 1).getD i 0)
     rw[<-List.getElem?_drop,List.getD_eq_getElem?_getD,gE0 hl2]
     rfl
    ·show Ts[1+i]? =some (R.getD i T0)
     rw[eTs,Nat.add_comm,List.getElem?_cons_succ,List.getD_eq_getElem?_getD,gE0 hl]
     rfl
  have hRp:(ix.map fun i=>R.getD i T0).Perm R:=L2.a4J T0 R hix';have hRr:a8P ((ix.map fun i=>R.getD i T0).map (·.name)):=by
   have:(ix.map fun i=>(R.map (·.name)).getD i ("":Str))=(ix.map fun i=>R.getD i T0).map (·.name):=by
    rw[mC0];refine List.map_congr_left fun i hi=>?_;have hl:=ixlt i hi
    show(R.map (·.name)).getD i ("":Str)=(R.getD i T0).name
    rw[List.getD_eq_getElem?_getD,List.getD_eq_getElem?_getD,gM0,gE0 hl]
    rfl
   rw[<-this];exact hri
  generalize eR':(ix.map fun i=>R.getD i T0)=R' at parts hRp hRr;have elen:(es[0]::ix.map fun i=>(es.drop 1).getD i 0).length=(T0::R').length:=by rw[List.length_cons,List.length_cons,lM0,<-eR',lM0]
  generalize eE:(es[0]::ix.map fun i=>(es.drop 1).getD i 0)=E9 at *;have hd8:H8 d=some (.lst []):=sb8 _ _ rfl ((T1.trans T2) _ _ a0c);have hd10:=(T9.trans T10) _ _ hd8;have sd:∀{b:Addr} {o:HO},H b=some o->b≠d:=fun {b o} e q=>by rw[q,hd] at e;cases e
  have pd:p10≠d:=fun q=>by have:=T9 _ _ hd8;rw[<-q,e10] at this;cases this
  refine⟨p10,rfl,⟨_,SqL.of a0c⟩,a2h (K:=K) (a:=p10) (xs:=E9.map V.ref) (fun i σ Hc=>∃(rs:List Addr) (u3 u4 u5:Option V),σ=[some (.int sz),some (.ref l),some (.ref d),u3,u4,u5]/\Sl d H8 Hc/\Hc p10=some (.lst (E9.map V.ref))/\Hc d=some (.lst (rs.map V.ref))/\rs.length=i/\∀(j:Nat) (e:Addr) (T:Tb),rs[j]? =some e->(T0::R')[j]? =some T->a2w Hc e T) ⟨[],_,_,_,rfl,Sl.of (T9.trans T10),a0c,hd10,rfl,fun j e T h=>nomatch h⟩ (fun i σ Hc _ pp=>by obtain⟨rs,u3,u4,u5,_,_,h,_⟩:=pp;exact SqL.of h) ?_ ?_⟩
  ·rintro i x σ Hc hx ⟨rs,u3,u4,u5,rfl,sl,hp10,hdc,hrl,hent⟩
   rw[gM0] at hx;obtain⟨e,he,rfl⟩:=Option.map_eq_some_iff.mp hx;obtain⟨dd,T,hT',pt⟩:=parts i e he;have hiE:i<E9.length:=(gS0.mp he).1;have ne1:e≠d:=fun q=>by have:=pt.1;rw[q,hd8] at this;cases this
   have ne2:dd≠d:=fun q=>by have:=pt.2.1;rw[q,hd8] at this;cases this
   have pte:Hc e=some (.tup [.str T.name,.str T.sort,.ref dd]):=sl _ _ ne1 pt.1;have ptd:Hc dd=some (.dK (kvC T.cols)):=sl _ _ ne2 pt.2.1;refine⟨e,_,rfl,SqT.of pte,rfl,_,_,rfl,_,_,rfl,_,_,rfl,rfl,?_⟩;refine⟨_,rfl,.inl ⟨rfl,_,SqL.of hdc⟩,_,rfl,_,rfl,?_⟩;have hkm:(kvC T.cols).map (·.1)=(T.cols.map (·.1)).map Sum.inr:=by
    unfold kvC;rw[mC0,mC0]
    rfl
   refine⟨_,rfl,dd,_,_,rfl,.inl ptd,hkm,(by rw[lM0];have:=pt.2.2.2.1;omega),fun lz zs hlz hpm hso=>?_⟩;have T3:=a0l.upd (o:=.lst (zs.map V.str)) hlz;refine⟨lz,rfl,⟨_,SqL.of a0c⟩,fun D hD=>?_⟩;have hD0:Hc D=none:=by
    cases e:Hc D with
    |none=>rfl
    |some o=>rw[T3 _ _ e] at hD;cases hD
   have hlD:lz≠D:=fun e=>by rw[<-e,a0c] at hD;cases hD
   have hzl:zs.length<=12:=by
    have:=hpm.length_eq
    rw[lM0] at this
    have:=pt.2.2.2.1
    omega
   refine a2L zs.length (fun i ys σ' Hk=>(∃t,σ'=[t,some (.ref dd)])/\a0l Hc Hk/\Hk lz=some (.lst (zs.map V.str))/\∃ps:List Addr,ys=ps.map V.ref/\∀(j:Nat) (p:Addr) (z:Str),ps[j]? =some p->zs[j]? =some z->Hk p=some (.tup [.str z,vOf T.cols z])) (by rw[sizeLine_eq];omega) ⟨⟨none,rfl⟩,T3.trans (a0l.upd hD),(a0l.upd hD) _ _ a0c,[],rfl,fun j p z h=>nomatch h⟩ a0c ?_ ?_
   ·rintro i σ' Hk ys hi ⟨⟨t,rfl⟩,sm,hlc,ps,rfl,hps⟩ hyl hD'
    rw[lM0] at hyl;refine⟨⟨_,V.str zs[i],SqL.of hlc,by rw[gM0,gE0 hi];rfl⟩,?_⟩;rintro x H' ⟨rfl,hx'⟩;have ex:=hx' _ (SqL.of hlc);rw[gM0,gE0 hi] at ex;cases ex;have hzm:zs[i]∈T.cols.map (·.1):=hpm.mem_iff.mp (gQ0 hi);refine⟨_,rfl,_,rfl,_,rfl,dd,_,rfl,.inl ⟨_,.inr zs[i],.inl (sm _ _ ptd),rfl,(a4N hzm).symm⟩,(by exact sl2),fun p hp=>?_⟩;have T:=a0l.upd (o:=.tup [.str zs[i],vOf T.cols zs[i]]) hp;have hpD:p≠D:=fun e=>by rw[e,hD'] at hp;cases hp
    refine⟨T _ _ hD',⟨_,rfl⟩,(sm.trans T).put hD0,by rw[a0h hlD];exact T _ _ hlc,ps++[p],by rw[mA0];rfl,fun j p' z' h1 h2=>?_⟩
    by_cases hj:j<ps.length
    ·rw[gL0 hj] at h1
     have hh:=hps j p' z' h1 h2;have hne:p'≠D:=fun e=>by rw[e,hD'] at hh;cases hh
     rw[a0h hne];exact T _ _ hh
    ·have hj':j=ps.length:=by
      have:=(gS0.mp h1).1
      rw[lA0] at this;simp at this
      omega
     subst hj';rw[gR0 (nR0 _),Nat.sub_self] at h1;cases h1;rw[hyl,gE0 hi] at h2;cases h2;rw[a0h hpD];exact a0c
   ·rintro σ' Hk ys ⟨_,sm,hlc,ps,rfl,hps⟩ hDn hyl
    rw[lM0] at hyl;refine⟨⟨_,SqL.of hlc,by rw[lM0];exact nR0 _⟩,?_⟩;refine⟨D,_,rfl,SqL.of hDn,fun t o2 ht ho2=>?_⟩;have T4:=a0l.upd (o:=.frz o2 (.tup (ps.map V.ref))) ht;refine⟨(by exact sl3),fun r hr=>?_⟩;have T5:=a0l.upd (o:=.tup [.str T.name,.str T.sort,.ref t]) hr;have S5:=sm.trans (T4.trans T5);have hd5:=S5 _ _ hdc;refine⟨d,_,_,rfl,rfl,hd5,?_,?_⟩
    ·rw[lM0,hrl,sizeLine_eq]
     rw[elen,List.length_cons,<-eR',lM0,ixl] at hiE
     omega
    have ct:a1X (L2.upd (L2.upd Hk t (.frz o2 (.tup (ps.map V.ref)))) r (.tup [.str T.name,.str T.sort,.ref t])) t T.cols:=⟨o2,ps,zs,hpm,hso,ho2,T5 _ _ a0c,hyl,fun j p z h1 h2=>(T4.trans T5) _ _ (hps j p z h1 h2)⟩;have nD:=a3z.lst hd5;refine⟨rs++[r],_,_,_,rfl,sl.put S5,by rw[a0h pd];exact S5 _ _ hp10,by rw[a0c,mA0];rfl,by rw[lA0,hrl];rfl,fun j e' T' h1 h2=>?_⟩
    by_cases hj:j<rs.length
    ·rw[gL0 hj] at h1
     exact((hent j e' T' h1 h2).same S5).beside nD
    ·have hj':j=rs.length:=by
      have:=(gS0.mp h1).1
      rw[lA0] at this;simp at this
      omega
     subst hj';rw[gR0 (nR0 _),Nat.sub_self] at h1;cases h1;rw[hrl,hT'] at h2;cases h2;exact a2w.beside nD ⟨t,a0c,ct⟩
  ·rintro σ Hc ⟨rs,u3,u4,u5,rfl,sl,hp10,hdc,hrl,hent⟩
   rw[lM0,elen] at hrl;refine⟨_,rfl,_,rfl,d,_,rfl,.inl ⟨SqL.of hdc,fun t12 e12=>?_⟩⟩;have T12:=a0l.upd (o:=.tup (rs.map V.ref)) e12;refine⟨(by exact sl2),fun f13 e13=>?_⟩;have T13:=a0l.upd (o:=.tup [.int sz,.ref t12]) e13;have S13:=T12.trans T13;refine q f13 _ R' (fun b o n e=>S13 _ _ (sl _ _ (sd e) (SB8 b o n e))) (fun b o nb e=>S13 _ _ (sl _ _ (sd e) (FR8 b o nb e))) ?_ hRp hRr ⟨t12,rs,a0c,T13 _ _ a0c,hrl,fun j e T h1 h2=>(hent j e T h1 h2).same S13⟩;rcases tab8 with h |⟨c'',h,h'⟩
   ·exact .inl (S13 _ _ (sl _ _ (fun q=>by rw[q,hd8] at h;cases h) h))
   ·exact .inr ⟨c'',S13 _ _ (sl _ _ (fun q=>by rw[q,hd8] at h;cases h) h),S13 _ _ (sl _ _ (fun q=>by rw[q,hd8] at h';cases h') h')⟩
end
end My
namespace L2
open PySem PySem.Spec PyProof.Rows
def a6o (a:Addr)(o:Obj)(its:List (V×V))(h:Heap):Prop:=
 h.get? a=some o/\o.ExactDict/\(a==sysModules)=false/\its.length<=sizeLine/\∃es ep,o.data=.dict es ep/\Paired (fun(p:V×V) (e:DictEntry)=>a0X p.1 e.key/\a0X p.2 e.val) its es.toList
theorem a8k {P:Program}{w:World}{H:Hp}{h:Heap}{a:Addr}{o:Obj}{its:List (V×V)}(e:a6o a o its h):a0Z P w H h a (.ext (a6o a o its)):=
 ⟨e,⟨o,e.1⟩,fun _ _ x k=>⟨k _ x.1,x.2⟩⟩
section
variable {prog:Program}{w:World}{A:Around}{E:Vs0}{s:Shared}{d:Addr}{o:Obj}{es:Array DictEntry}{ep:Nat}{hsh:Int}{key:Value}
theorem a5U {places:List Nat}{Q:Option Nat->Shared->Prop}(ho:s.heap.get? d=some o)(hd:o.data=.dict es ep)(hk:∀e∈es,∃z t,e.key=.str z t)(heq:∀z t,SeqAt.EqAt A s (.str z t) key false)(h:Q none s) :
  wpAny (model prog w) A (dictWalkPlain d key hsh es places) Q E s:=by
 unfold dictWalkPlain;refine wB0 (wpAny_forIn_list _ (fun _ b s'=>s'=s/\b=(none,())) _ ?_ ?_ _ _ ⟨rfl,rfl⟩)
 ·rintro x rest b s' ⟨rfl,rfl⟩
  cases hx:es[x]? with
  |none=>exact wP0 ⟨rfl,rfl⟩
  |some e=>
   obtain⟨z,t,ek⟩:=hk e (Array.mem_of_getElem? hx)
   dsimp only
   by_cases hh:(e.hash==hsh)=true
   ·rw[if_pos hh,ek]
    refine wB0 (wpAny_dictEpoch ho hd (wB0 (heq z t _ _ _ _ (wB0 (wpAny_dictEpoch ho hd ?_)))));rw[if_neg (by simp)];exact wB0 (wpAny_rule (wP0 ⟨rfl,rfl⟩))
   ·rw[if_neg hh]
    exact wP0 ⟨rfl,rfl⟩
 ·rintro b s' ⟨rfl,rfl⟩
  exact wP0 h
theorem a8m (hv:carriedByValue key=true)(hk:∀e∈es,∃z t,e.key=.str z t)(ps:List Nat):((key::ps.filterMap fun i=>es[i]?.map (·.key)).all carriedByValue)=true:=by
 rw[List.all_cons,hv,Bool.true_and,List.all_eq_true];intro v hv';obtain⟨i,_,hi⟩:=List.mem_filterMap.mp hv';cases he:es[i]? with
 |none=>rw[he] at hi;cases hi
 |some e=>
  rw[he] at hi;obtain⟨z,t,ek⟩:=hk e (Array.mem_of_getElem? he);obtain rfl:e.key=v:=by simpa using hi
  rw[ek]
  rfl
theorem a8a {Q:Option Nat->Shared->Prop}(ho:s.heap.get? d=some o)(hd:o.data=.dict es ep)(hk:∀e∈es,∃z t,e.key=.str z t)(h:Q none s):wpAny (model prog w) A (dictFind d .none hsh) Q E s:=by
 unfold dictFind
 try with_reducible refine wpAny_holding ?_
 refine wB0 (wpAny_dictEntries ho hd ?_)
 dsimp only
 rw[if_pos (a8m rfl hk _)];exact a5U ho hd hk (fun z t=>SeqAt.EqAt.str_none z t) h
theorem a7p {b:Bool}{Q:Option Nat->Shared->Prop}(ho:s.heap.get? d=some o)(hd:o.data=.dict es ep)(hk:∀e∈es,∃z t,e.key=.str z t)(h:Q none s):wpAny (model prog w) A (dictFind d (.bool b) hsh) Q E s:=by
 unfold dictFind
 try with_reducible refine wpAny_holding ?_
 refine wB0 (wpAny_dictEntries ho hd ?_)
 dsimp only
 rw[if_pos (a8m rfl hk _)];exact a5U ho hd hk (fun z t=>SeqAt.EqAt.str_bool z t b) h
theorem a9j {a:Addr}{Q:Option Nat->Shared->Prop}(ho:s.heap.get? d=some o)(hd:o.data=.dict es ep)(hk:∀e∈es,∃z t,e.key=.str z t)(heq:∀z t,SeqAt.EqAt A s (.str z t) (.ref a) false)
  (hq:∀(E:Vs0) (Q:Bool->Shared->Prop),Q true s->wpAny (model prog w) A (eqIsQuiet 8 (.ref a)) Q E s) (h:Q none s):wpAny (model prog w) A (dictFind d (.ref a) hsh) Q E s:=by
 have hst:∀ps:List Nat,∀v∈ps.filterMap (fun i=>es[i]?.map (·.key)),∃z t,v=.str z t:=by
  intro ps v hv;obtain⟨i,_,hi⟩:=List.mem_filterMap.mp hv;cases he:es[i]? with
  |none=>rw[he] at hi;cases hi
  |some e=>
   rw[he] at hi;obtain⟨z,t,ek⟩:=hk e (Array.mem_of_getElem? he);obtain rfl:e.key=v:=by simpa using hi
   exact⟨z,t,ek⟩
 have hany:¬(es.any fun e=>e.key==Value.ref a&&e.hash != hsh)=true:=by
  rw[<-Array.any_toList,List.any_eq_true];rintro⟨e,hin,hc⟩;obtain⟨z,t,ek⟩:=hk e (Array.mem_toList_iff.mp hin);rw[ek] at hc;simp at hc
 unfold dictFind
 try with_reducible refine wpAny_holding ?_
 refine wB0 (wpAny_dictEntries ho hd ?_)
 dsimp only
 rw[if_neg (by simp[carriedByValue]),if_neg hany];generalize hps:placesWithHash es.size (fun i=>es[i]?.map (·.hash)) hsh=ps;have hone:¬((ps.filterMap fun i=>es[i]?.map (·.key))==[Value.ref a])=true:=by
  intro e;have e':=eq_of_beq e;obtain⟨z,t,ek⟩:=hst ps (.ref a) (by rw[e'];exact mS0.mpr rfl);cases ek
 rw[if_neg hone];have tell:∀(E:Vs0) (Q:Bool->Shared->Prop),Q false s->wpAny (model prog w) A (tableMayTell (.ref a) (ps.filterMap fun i=>es[i]?.map (·.key))) Q E s:=by
  intro E Q hQ;unfold tableMayTell
  split
  ·exact wP0 hQ
  ·refine wB0 (hq _ _ ?_)
   rw[if_neg (by simp)];refine wB0 (wpAny_forIn_list _ (fun rest r s'=>s'=s/\r=(none,())/\∀v∈rest,∃z t,v=.str z t) _ ?_ ?_ _ _ ⟨rfl,rfl,hst ps⟩)
   ·rintro x rest r s' ⟨rfl,rfl,hr⟩
    obtain⟨z,t,rfl⟩:=hr x List.mem_cons_self;rw[eqIsQuiet_byValue _ rfl];refine wB0 (wP0 ?_);rw[if_neg (by simp)];exact wP0 ⟨rfl,rfl,fun v hv=>hr v (mL0 _ hv)⟩
   ·rintro r s' ⟨rfl,rfl,_⟩
    exact wP0 hQ
 refine wB0 (tell _ _ ?_);rw[if_neg (by simp)];refine wB0 (wpAny_forIn_list _ (fun _ b s'=>s'=s/\b=(none,none)) _ ?_ ?_ _ _ ⟨rfl,rfl⟩)
 ·rintro x rest b s' ⟨rfl,rfl⟩
  cases hx:es[x]? with
  |none=>exact wP0 ⟨rfl,rfl⟩
  |some e=>
   obtain⟨z,t,ek⟩:=hk e (Array.mem_of_getElem? hx)
   dsimp only
   by_cases hh:(e.hash==hsh)=true
   ·rw[if_pos hh,ek]
    refine wB0 (wpAny_dictEpoch ho hd (wB0 (heq z t _ _ _ _ (wB0 (wpAny_dictEpoch ho hd ?_)))));rw[if_neg (by simp)];simp only[Bool.false_eq_true,if_false];refine wB0 (wpAny_rule ?_)
    first
     |exact wP0 ⟨rfl,rfl⟩
     |exact wB0 (wP0 (wP0 ⟨rfl,rfl⟩))
     | (rw[if_neg (by simp)];first |exact wP0 ⟨rfl,rfl⟩ |exact wB0 (wP0 (wP0 ⟨rfl,rfl⟩)))
   ·rw[if_neg hh]
    exact wP0 ⟨rfl,rfl⟩
 ·rintro b s' ⟨rfl,rfl⟩
  exact wP0 h
theorem a7M {Q:Int->Shared->Prop}(h:∀i t,Q i { s with toks:=t }):wpAny (model prog w) A (pyHash .none) Q E s:=by
 unfold pyHash pyHashByItsType;refine wB0 ?_;rw[cRoomFor,if_neg (by exact bF0)];refine wP0 ?_;refine wB0 (wpAny_specialOf (typeIs_none s) F.slot_NoneType_hash.lookup ?_);rw[if_neg (by rw[beq_builtin_none];exact bF0)];refine wB0 (wpAny_specialOf (typeIs_none s) F.slot_NoneType_hash.lookup ?_);rw[if_neg (by exact bF0)];refine wB0 (wpAny_callSpecialIfBoundUnlessNone?_slot (typeIs_none s) F.slot_NoneType_hash (wpAny_call_entry F.slot_NoneType_hash (typeIs_none s) F.entry_NoneType_hash (show wpAny _ _ (do ret (<-mkInt 0xFCA86420)) _ _ s from wpAny_ret_mkInt ?_) (F.args_NoneType_hash_1 _)));show wpAny _ _ (if (decide (-(2:Int) ^ 63<=0xFCA86420)&&decide ((0xFCA86420:Int)<2 ^ 63))=true then _ else _) Q E _;rw[if_pos (by decide)];exact wP0 (h _ _)
theorem a7m {Q:Int->Shared->Prop}(h:∀i t,Q i { s with toks:=t }):wpAny (model prog w) A (pyHash (.bool true)) Q E s:=by
 have tb:s.TypeIs (.bool true) "bool":=PySem.typeIs_bool s true;unfold pyHash pyHashByItsType;refine wB0 ?_;rw[cRoomFor,if_neg (by exact bF0)];refine wP0 ?_;refine wB0 (wpAny_specialOf tb F.slot_bool_hash.lookup ?_);rw[if_neg (by rw[beq_builtin_none];exact bF0)];refine wB0 (wpAny_specialOf tb F.slot_bool_hash.lookup ?_);rw[if_neg (by exact bF0)];refine wB0 (wpAny_callSpecialIfBoundUnlessNone?_slot tb F.slot_bool_hash (wpAny_call_entry F.slot_bool_hash tb entry_int_hash ?_ (args_int_hash _)));show wpAny _ _ (do ret (<-mkInt 1)) _ _ s;refine wpAny_ret_mkInt ?_;show wpAny _ _ (if (decide (-(2:Int) ^ 63<=1)&&decide ((1:Int)<2 ^ 63))=true then _ else _) Q E _;rw[if_pos (by decide)];exact wP0 (h _ _)
end
section
variable {prog:Program}{w:World}{A:Around}{E:Vs0}{s:Shared}{it d:Addr}{i ep:Nat}{od:Obj}{es:Array DictEntry}{ok ov:Value}
theorem a6U {Q:Option Value->Shared->Prop}(hit:IsItemIter s.heap it d i es.size ep ok ov)(ho:s.heap.get? d=some od)(hd:od.data=.dict es ep)(hi:i<es.size)
  (hQ:∀h',IsItemIterOut h' it d (i+1) es.size ep es[i].key es[i].val s.heap.objs.size->h'.get? s.heap.objs.size=some { cls:=.type "tuple",data:=.seq #[es[i].key,es[i].val] } →
   h'.objs.size=s.heap.objs.size+1->(∀b o,b≠it->s.heap.get? b=some o->h'.get? b=some o)->Q (some (.ref s.heap.objs.size)) { s with heap:=h' }) :
  wpAny (model prog w) A (pyNext (.ref it)) Q E s:=by
 obtain⟨hp,g,dr,tk,os⟩:=s;have T:Shared.TypeIs ⟨hp,g,dr,tk,os⟩ (.ref it) "dict_itemiterator":=⟨_,hit,rfl⟩;have hown:Builtin.Dict_items.ownsTuple "dict_itemiterator"=true:=by decide
 unfold pyNext;refine wB0 (wpAny_attempt (wpAny_callSpecial?_slot (name:=Str.ofString "__next__") T F.slot_dict_itemiterator_next (wpAny_call_entry F.slot_dict_itemiterator_next T F.entry_dict_itemiterator_next ?_ (F.args_dict_itemiterator_next_1 _))));refine wB0 (wP0 (wB0 (wB0 ?_)));refine wB0 (wpAny_typeNameOfWhole_itemiter T (wP0 (wB0 (wpAny_fieldsOf hit rfl ?_))));simp only[hown,if_true];show wpAny _ _ (if (Value.ref d==Value.none)=true then _ else _) _ _ _;rw[show(Value.ref d==Value.none)=false from rfl];refine wB0 (wP0 (wB0 (wpAny_dictEntries ho hd ?_)));rw[if_neg (by simp)];refine wB0 (wP0 (wB0 (wpAny_dictEpoch ho hd ?_)));rw[if_neg (by simp)];refine wP0 ?_;simp only[show ¬((i:Int)<0) from by omega,if_false,Int.toNat_natCast,Array.getElem?_eq_getElem hi];refine wB0 (wB0 (wpAny_typeNameOfWhole_itemiter T (wP0 ?_)));refine wB0 (wpAny_isOneOf_itemiter T ?_);show wpAny _ _ (setField (.ref it) 3 (rawInt ((i:Int)+1)) >>= _) _ _ ⟨hp,g,dr,tk,os⟩;refine wB0 (wpAny_setField_rec hit (by simp) fun h1 e1 s1=>?_);have s1':Heap.SameBut it hp h1:=s1;have e1':IsItemIter h1 it d (i+1) es.size ep ok ov:=by
  have e:((i+1:Nat):Int)=(i:Int)+1:=by omega
  unfold IsItemIter;rw[e];simpa[rawInt] using e1
 have T1:Shared.TypeIs ⟨h1,g,dr,tk,os⟩ (.ref it) "dict_itemiterator":=⟨_,e1',rfl⟩;refine wB0 (wpAny_holding (wB0 (wpAny_isOneOf_itemiter T1 (wB0 (wpAny_isOneOf_itemiter T1 ?_)))));show wpAny _ _ (Builtin.Dict_items.pairFromOwner (.ref it) 6 es[i].key es[i].val) _ _ ⟨h1,g,dr,tk,os⟩;unfold Builtin.Dict_items.pairFromOwner;refine wB0 (wpAny_newTuple ?_);have e2:IsItemIter (h1.push { cls:=.type "tuple",data:=.seq #[es[i].key,es[i].val] }) it d (i+1) es.size ep ok ov:=hP0 _ e1';generalize q2:h1.push { cls:=.type "tuple",data:=.seq #[es[i].key,es[i].val] }=h2 at e2;have z1:h1.objs.size=hp.objs.size:=s1'.1;have il:it<hp.objs.size:=hL0 hit;have t2:h2.get? hp.objs.size=some { cls:=.type "tuple",data:=.seq #[es[i].key,es[i].val] }:=by rw[<-q2,<-z1];exact hS0 _ rfl
 have z2:h2.objs.size=hp.objs.size+1:=by rw[<-q2,Heap.size_push,z1]
 have k2:∀b o,b≠it->hp.get? b=some o->h2.get? b=some o:=fun b o hb e=>by rw[<-q2];exact hP0 _ (s1'.extBut b o hb e)
 show wpAny _ _ (Builtin.Dict_items.ownedTupleIsFree (.ref it) >>= _) _ _ ⟨h2,g,dr,tk,os⟩;rw[z1];clear q2 e1 e1' s1 s1' T1 z1 h1;refine wB0 ?_;unfold Builtin.Dict_items.ownedTupleIsFree;refine wB0 (wpAny_field e2 rfl (x:=.none) rfl (wP0 ?_));simp only[if_true];refine wB0 (wpAny_field e2 rfl (x:=ok) rfl (wB0 (wpAny_field e2 rfl (x:=ov) rfl ?_)));refine wB0 (wpAny_setField_rec e2 (by simp) fun h3 e3 s3=>?_);have e3':IsItemIter h3 it d (i+1) es.size ep es[i].key ov:=e3;have s3':Heap.SameBut it h2 h3:=s3;refine wB0 (wpAny_setField_rec e3' (by simp) fun h4 e4 s4=>?_);have e4':IsItemIter h4 it d (i+1) es.size ep es[i].key es[i].val:=e4;have s4':Heap.SameBut it h3 h4:=s4;refine wB0 (wpAny_setField_rec e4' (by simp) fun h5 e5 s5=>?_);have e5':IsItemIterOut h5 it d (i+1) es.size ep es[i].key es[i].val hp.objs.size:=e5;have s5':Heap.SameBut it h4 h5:=s5;refine wB0 (wpAny_setField_rec e5' (by simp) fun h6 e6 s6=>?_);have e6':IsItemIterOut h6 it d (i+1) es.size ep es[i].key es[i].val hp.objs.size:=e6;have s6':Heap.SameBut it h5 h6:=s6;have nn:=Nat.ne_of_gt il;refine wB0 (wpAny_letGo (wP0 (wP0 ⟨_,rfl,wP0 (hQ h6 e6' ?_ ?_ ?_)⟩)))
 ·exact s6'.extBut _ _ nn (s5'.extBut _ _ nn (s4'.extBut _ _ nn (s3'.extBut _ _ nn t2)))
 ·show h6.objs.size=hp.objs.size+1
  rw[s6'.1,s5'.1,s4'.1,s3'.1,z2]
 ·exact fun b o hb e=>s6'.extBut b o hb (s5'.extBut b o hb (s4'.extBut b o hb (s3'.extBut b o hb (k2 b o hb e))))
theorem a7s {Q:Vs0}(nd:(d==sysModules)=false)(ho:s.heap.get? d=some od)(ex:od.ExactDict)
  (h:Q (.ref s.heap.objs.size) { s with heap:=s.heap.push { cls:=.type "dict_items",data:=.fields #[.ref d] } }):wpAny (model prog w) A (call (.builtin "dict.items") [.ref d]) Q E s:=by
 have T:s.TypeIs (.ref d) "dict":=⟨od,ho,ex.1⟩;refine wpAny_call_entry F.slot_dict_items T F.entry_dict_items ?_ (F.args_dict_items_1 _);unfold Builtin.«dict.items»;refine wB0 ?_;unfold Builtin.Dict.noArgs;refine wB0 (wpAny_notOrdered_dict T ?_);refine wP0 (a:=d) ?_;unfold Builtin.Dict.showsAll;rw[nd];refine wB0 (wP0 ?_);exact wB0 (wpAny_newObj_type (wP0 ⟨_,rfl,h⟩))
theorem a6I {v:Addr}{Q:Vs0}(hv:s.heap.IsItemsView v d)(ho:s.heap.get? d=some od)(hd:od.data=.dict es ep)
  (hQ:Q (.ref s.heap.objs.size) { s with heap:=s.heap.push { cls:=.type "dict_itemiterator",data:=.fields #[.none,.bool false,.ref d,.int 0 0,.int es.size 0,.int ep 0,.none,.none] } }) :
  wpAny (model prog w) A (pyIter (.ref v)) Q E s:=by
 obtain⟨o1,h1,c1,d1⟩:=id hv;refine wpAny_pyIter_slot hv.typeIs F.slot_dict_items_iter (wpAny_call_entry F.slot_dict_items_iter hv.typeIs F.entry_dict_items_iter ?_ (F.args_dict_items_iter_1 _));unfold Builtin.«dict_items.__iter__»;refine wB0 (wP0 (wB0 ?_));unfold Builtin.Dict_items.dictOf;refine wB0 (wpAny_field h1 d1 (x:=.ref d) rfl (wP0 (wB0 ?_)));unfold Builtin.Dict_items.newIterator;refine wB0 (wpAny_dictEntries ho hd (wB0 (wpAny_dictEpoch ho hd ?_)));simp only[show Builtin.Dict_items.ownsTuple "dict_itemiterator"=true by decide,if_true];refine wpAny_newObj_type (wP0 ⟨_,rfl,"dict_itemiterator",_,⟨_,hS0 _ rfl,rfl⟩,F.slot_dict_itemiterator_next.lookup,?_⟩)
  (by simp only[sizeOk,Builtin.Dict_items.ownedTupleFields,List.size_toArray,lA0,List.length_cons,List.length_nil,sizeLine_eq];omega)
 simpa[rawInt,Builtin.Dict_items.ownedTupleFields] using hQ
end
def Itw (a:Addr)(o:Obj)(its:List (V×V)):It:=
 ⟨fun i H=>i<its.length/\H a=some (.ext (a6o a o its)),fun i H x H'=>∃k v p,its[i]? =some (k,v)/\x=.ref p/\H p=none/\H'=upd H p (.tup [k,v]),fun i H=>False⟩
theorem a8g {α β:Type}{F:α->β->Prop}:∀{l₁:List α} {l₂:List β},Paired F l₁ l₂->∀(i:Nat) (h1:i<l₁.length) (h2:i<l₂.length),F l₁[i] l₂[i]
 |_,_,.cons r t,0,_,_=>r
 |_,_,.cons r t,i+1,h1,h2=>a8g t i (by simpa using h1) (by simpa using h2)
theorem a5p {α β:Type}{F:α->β->Prop}:∀{l₁:List α} {l₂:List β},Paired F l₁ l₂->l₁.length=l₂.length
 |_,_,.nil=>rfl
 |_,_,.cons _ t=>by simp[a5p t]
section
variable {X:Cx}
theorem a9C {P:Program}{w:World}{K:Fg0}{es:List Expr}{x1:Nat}{tp:Pos}(a it:Addr)(o:Obj)(its:List (V×V)):a8R P w K (.Tuple es x1 tp) (Itw a o its) [it] it (fun i h=>∃ok ov,IsItemIter h it a i its.length (a7L o) ok ov) where
 mem:=by simp
 obj:=fun i h st b hb=>by
  have e:b=it:=by simpa using hb
  subst e;obtain⟨ok,ov,st⟩:=st;exact⟨_,st,fun v z=>by cases z⟩
 keep:=fun i h h' st k=>by
  obtain⟨ok,ov,st⟩:=st;exact⟨ok,ov,k it (by simp) _ st⟩
 item:=by
  intro X hP hw hK hc i U s σ H E I hf st hg;subst hP hw hK;obtain⟨hi,hq⟩:=hg;obtain⟨ok,ov,st⟩:=st;obtain⟨⟨ho,ex,nd,hz,es',ep,hd,pr⟩,_,_⟩:=I.hok a _ hq;have hep:a7L o=ep:=by unfold a7L;rw[hd]
  have hl:its.length=es'.size:=by rw[a5p pr];simp
  have hi':i<es'.size:=by omega
  obtain⟨rk,rv⟩:=a8g pr i hi (by simpa using hi');have ei:es'.toList[i]'(by simpa using hi')=es'[i]:=Array.getElem_toList _;rw[ei] at rk rv;obtain⟨f0,f1,f2,f3,f4,f5⟩:=hf it (by simp);have hit:it<s.heap.objs.size:=hL0 st;rw[hl,hep] at st;refine a6U st ho hd hi' fun h' st' ht hsz kp=>?_;refine⟨_,rfl,?_⟩;refine wpAny_letOwnedTupleGo_items (s:={ s with heap:=h' }) st' fun h'' st'' sb=>?_;have I0:Inv X U σ H { s with heap:=s.heap.update it fun _=>{ cls:=.type "dict_itemiterator",dict:=none,data:=.fields #[.none,.bool false,.ref a,.int (i+1:Nat) 0,.int es'.size 0,.int ep 0,es'[i].key,es'[i].val],slots:=#[] } }:=
   I.turned (t':=s.toks) (fun b ob hb e=>by rw[Heap.get?_update_ne _ _ _ _ hb];exact e) f0 f1 f3 f4 f5
  have hp:H s.heap.objs.size=none:=I.hok.fresh (nR0 _);refine⟨.ref s.heap.objs.size,upd H s.heap.objs.size (.tup [its[i].1,its[i].2]),I0.laid (t':=s.toks) (h':=h'') (fun b ob e=>?_) (by rw[Heap.size_update];exact nR0 _) ?_,rfl,⟨_,_,_,by simp[hi],rfl,hp,rfl⟩,⟨_,_,by rw[hl,hep];exact st''⟩,fun b hb=>?_⟩
  ·by_cases hb:b=it
   ·subst hb
    rw[Heap.get?_update_self _ st rfl] at e;rw[<-e];exact st''
   ·rw[Heap.get?_update_ne _ _ _ _ hb] at e
    exact(sb.2 b hb).trans (kp b ob hb e)
  ·refine⟨(show 2<=sizeLine by decide),[_,_],.cons rk (.cons rv .nil),⟨_,(sb.2 _ (Nat.ne_of_gt hit)).trans ht,rfl,_,rfl⟩⟩
  ·have e:b=it:=by simpa using hb
   subst e;rw[a0h (nL0 hit)];exact f0
 done:=by
  intro X hP hw hK hc i U s σ H E I hf st hg;exact hg.elim
 self:=fun A i s Q E st h=>by
  obtain⟨ok,ov,st⟩:=st;exact a2G st h
def iRaw (tl:TE):TI:=fun σ H R=>tl σ H fun x H1=>∃a o its,x=.ref a/\H1 a=some (.ext (a6o a o its))/\R (Itw a o its) H1
theorem b2A {es:List Expr}{x1:Nat}{tp:Pos}{l:Expr}{tl:TE}{apos cpos:Pos}(hl:PE X l tl)(hbase:attributeBase l "items" X.env (eval l X.env)=eval l X.env:=by rfl)(hline:(apos.endLine==cpos.line)=true:=by rfl) :
  PI X (.Tuple es x1 tp) (.Call (.Attribute l "items" apos) [] [] cpos) (iRaw tl):=by
 intro U s σ H R I h;refine wpAny_Call_method0_late hbase hline (thn (hl U s σ H _ I h) fun v s1 ⟨x,H1,I1,r1,q1⟩=>?_);obtain⟨a,o,its,e,hq,q⟩:=q1;subst e;cases r1;obtain⟨⟨ho,ex,nd,hz,es',ep,hd,pr⟩,_,_⟩:=I1.hok a _ hq;have hep:a7L o=ep:=by unfold a7L;rw[hd]
 have hl:its.length=es'.size:=by rw[a5p pr];simp
 refine⟨"dict","dict.items",F.plainAttrs_dict,F.slot_dict_items,F.type_dict_items,⟨o,ho,ex.1⟩,(fun b e=>by cases e;exact⟨o,ho,ex.2.1⟩),Calls.callWith_builtin rfl (PySem.evalArgs_none ?_)⟩;refine a7s nd ho ex ?_;have I2:Inv X U σ H1 { s1 with heap:=s1.heap.push { cls:=.type "dict_items",data:=.fields #[.ref a] } }:=I1.kept (t':=s1.toks) fun b o e=>hP0 _ e;refine a6I (s:={ s1 with heap:=s1.heap.push { cls:=.type "dict_items",data:=.fields #[.ref a] } }) ⟨_,hS0 _ rfl,rfl,rfl⟩ (hP0 _ ho) hd ?_;refine⟨_,[_],_,_,H1,rfl,I2.kept (t':=s1.toks) fun b o e=>hP0 _ e,a9C a _ o its,⟨.none,.none,by rw[hl,hep];exact hS0 _ rfl⟩,fun b hb=>?_,q⟩;have e:=mS0.mp hb;subst e;exact I2.fpOk (nR0 _) (I2.hok.fresh (nR0 _))
theorem b1j {a:Addr}{o:Obj}{its:List (V×V)}{g:TG}{tb:TS}{D:a3I}{σ:St}{H:Hp}(Pv:Nat->St->Hp->Prop)(h0:Pv 0 σ H)(hl:∀i σ H,Pv i σ H->i<its.length/\H a=some (.ext (a6o a o its)))
  (hs:∀i k v p σ H,its[i]? =some (k,v)->Pv i σ H->H p=none->g (.ref p) σ (upd H p (.tup [k,v])) fun σ2 H2=>tb { D with nx:=Pv (i+1),ct:=Pv (i+1),bk:=D.nx } σ2 H2) :
  ∃W:Nat->Nat->St->Hp->Prop,(∃m,W 0 m σ H)/\∀i m σ H,W i m σ H →
   ((Itw a o its).stop i H/\D.nx σ H)\/((Itw a o its).go i H/\∃N:St->Hp->Prop,(∀σ' H',N σ' H'->∃m',m'<m/\W (i+1) m' σ' H')/\∀x H',(Itw a o its).yld i H x H'->g x σ H' fun σ2 H2=>tb { D with nx:=N,ct:=N,bk:=D.nx } σ2 H2):=by
 refine⟨fun i m σ H=>m=its.length-i/\Pv i σ H,⟨its.length,by simp,h0⟩,?_⟩;rintro i m σ H ⟨rfl,p⟩;obtain⟨hi,q⟩:=hl i σ H p;refine .inr ⟨⟨hi,q⟩,Pv (i+1),fun σ' H' p'=>⟨its.length-(i+1),by omega,rfl,p'⟩,fun x H' y=>?_⟩;obtain⟨k,v,pa,hk,ex,hn,e⟩:=y;subst e ex;exact hs i k v pa σ H hk p hn
def sRaw (t:TS):TS:=fun D σ H=>∃(a:Addr) (its:List (V×V)),((∃kvs:List (Key×V),H a=some (.dK kvs)/\kvs.map (fun p=>(kV p.1,p.2))=its)\/∃o,H a=some (.ext (a6o a o its))) ∧
 ∀o H1,H1 a=some (.ext (a6o a o its))->(∀b,b≠a->H1 b=H b)->t D σ H1
theorem b0g {U:List (Addr×Obj)}{σ:St}{H:Hp}{s:Shared}{a:Addr}{kvs:List (Key×V)}(I:Inv X U σ H s)(e:H a=some (.dK kvs)):∃o,a6o a o (kvs.map fun p=>(kV p.1,p.2)) s.heap:=by
 obtain⟨z,hd,vs,rel,o,es,ep,ho,ex,hdt,hk,hp,hn⟩:=a8F I.hok e;refine⟨o,ho,ex,hd,by simpa using z,es,ep,hdt,?_⟩;clear e z hn ho hdt hk;generalize es.toList=el at hp
 induction rel generalizing el with
 |nil=>
  cases el with
  |nil=>exact .nil
  |cons _ _=>cases hp
 |@cons p q l1 l2 r t ih=>
  cases hp with
  |cons h1 h2 h3=>
   exact .cons ⟨by show a0X (kV p.1) _;rw[r.1];exact b1o h1,by show a0X p.2 _;rw[h2];exact r.2⟩ (ih _ h3)
theorem Inv.raw {U:List (Addr×Obj)}{σ:St}{H:Hp}{s:Shared}{a:Addr}{o:Obj}{kvs:List (Key×V)}{its:List (V×V)}(I:Inv X U σ H s)(e:H a=some (.dK kvs))(r:a6o a o its s.heap):Inv X U σ (upd H a (.ext (a6o a o its))) s:=
 a3r (h':=s.heap) (t':=s.toks) I (by rw[e];exact True.intro) ⟨rfl,fun _ _=>rfl⟩ ⟨o,r.1⟩ (a8k r)
theorem b2L {st:Stmt}{t:TS}(h:PS X st t):PS X st (sRaw t):=by
 intro U s σ H D I hq;obtain⟨a,its,⟨kvs,e,rfl⟩ |⟨o,e⟩,q⟩:=hq
 ·obtain⟨o,r⟩:=b0g I e
  exact h U s σ _ D (I.raw e r) (q o _ a0c fun b nb=>a0h nb)
 ·exact h U s σ H D I (q o H e fun _ _=>rfl)
def b3Q (H:Hp)(y:V):Prop:=y=.non\/y=.bl true\/∃(b:Addr) (ks:List Key),y=.ref b/\H b=some (.tup (ks.map kV))
def PutE (a:Addr)(y v:V)(H:Hp)(R:Hp->Prop):Prop:=(∃H4,b0V H a y v H4/\R H4) ∨
 ∃kvs:List (Key×V),H a=some (.dK kvs)/\(∀p∈kvs,∃z,p.1=.inr z)/\kvs.length<sizeLine/\b3Q H y/\∀o,R (upd H a (.ext (a6o a o ((kvs.map fun p=>(kV p.1,p.2))++[(y,v)]))))
def b3L (td ty tv:TE):TS:=fun D σ H=>tv σ H fun v H1=>td σ H1 fun x H2=>ty σ H2 fun y H3=>∃a,x=.ref a/\PutE a y v H3 (D.nx σ)
theorem b0I {A:Around}{E:Vs0}{U:List (Addr×Obj)}{σ:St}{H:Hp}{s:Shared}{a:Addr}{y v:V}{u r:Value}{Q:Unit->Shared->Prop}{kvs:List (Key×V)}(hu:A.units+1<cLine)(I:Inv X U σ H s)(e:H a=some (.dK kvs))(ht:∀p∈kvs,∃z,p.1=.inr z)(hl:kvs.length<sizeLine)(ody:b3Q H y)(ry:a0X y u)(rv:a0X v r)
  (h:∀o s',Inv X U σ (upd H a (.ext (a6o a o ((kvs.map fun p=>(kV p.1,p.2))++[(y,v)])))) s'->Q () s'):wpAny (model X.prog X.w) A (setItem (.ref a) u r) Q E s:=by
 obtain⟨o,ho,ex,nd,hz,es,ep,hd,pr⟩:=b0g I e;have T:s.TypeIs (.ref a) "dict":=⟨o,ho,ex.1⟩;have hk:∀e∈es,∃z t,e.key=.str z t:=by
  intro en hen;obtain⟨i,hi,ei⟩:=Array.mem_iff_getElem.mp hen;have hl':(kvs.map fun p=>(kV p.1,p.2)).length=es.size:=by rw[a5p pr];simp
  have h1:i<(kvs.map fun p=>(kV p.1,p.2)).length:=by omega
  have h2:i<kvs.length:=by simpa using h1
  obtain⟨rk,_⟩:=a8g pr i h1 (by simpa using hi);have ei2:es.toList[i]'(by simpa using hi)=es[i]:=Array.getElem_toList _;rw[ei2,ei,List.getElem_map] at rk;obtain⟨z,ez⟩:=ht kvs[i] (gQ0 h2);rw[ez] at rk;obtain⟨t,q⟩:=(show ∃t,en.key=Value.str z t from rk);exact⟨z,t,q⟩
 have hsz:es.size<sizeLine:=by have:=a5p pr;simp at this;omega
 unfold setItem
 try with_reducible refine wpAny_holding ?_
 refine wB0 (wpAny_sequenceKey T (by decide) ?_);refine wB0 (wpAny_callSpecial?_slot (name:=Str.ofString "__setitem__") T F.slot_dict_setitem (wpAny_call_entry F.slot_dict_setitem T F.entry_dict_setitem ?_ (F.args_dict_setitem_3 _ _ _)));show wpAny _ _ (Builtin.Dict.notOrdered "__setitem__" ⟨[.ref a,u,r],[]⟩ >>= _) _ _ s;refine wB0 (wpAny_notOrdered_dict T ?_);show wpAny _ _ (dictSet a u r >>= _) _ _ s;have fin:∀(hsh:Int) (t':Nat),wpAny (model X.prog X.w) A.in1 (do rule "dict.set.new-key-at-the-end";updateDictKeys a (·.push ⟨hsh,u,r⟩) (keyPart u)) (fun _ s'=>∃(ob:Obj),Inv X U σ (upd H a (.ext (a6o a ob ((kvs.map fun p=>(kV p.1,p.2))++[(y,v)])))) s') E { s with toks:=t' }:=by
  intro hsh t';refine wB0 (wpAny_rule (wpAny_updateDictKeys (hz:=by omega) (s:={ s with toks:=t' }) ho hd ?_));have he:(s.heap.update a (Obj.mapDictKeys (·.push ⟨hsh,u,r⟩))).get? a=some (o.mapDictKeys (·.push ⟨hsh,u,r⟩)):=Heap.get?_update_self _ ho (Obj.isFreed_of_dict (Obj.data_mapDictKeys hd _));have I1:Inv X U σ H { s with toks:=t' }:=I.kept (h':=s.heap) (t':=t') fun b o e=>e;refine⟨_,a3r (t':=t') I1 (by rw[e];exact True.intro) (Heap.SameBut.update ..) ⟨_,he⟩ (a8k ⟨he,ex.mapDictKeys _,nd,?_,_,_,Obj.data_mapDictKeys hd _,?_⟩)⟩
  ·simp;omega
  ·rw[Array.toList_push]
   exact Paired.snoc pr ⟨ry,rv⟩
 have fin2:∀(hsh:Int) (t':Nat),wpAny (model X.prog X.w) A.in1 (do rule "dict.set.new-key-at-the-end";updateDictKeys a (·.push ⟨hsh,u,r⟩) (keyPart u)) (fun _ s'=>Q () s') E { s with toks:=t' }:=
  fun hsh t'=>wpAny_mono (fin hsh t') (fun _ s' ⟨ob,q⟩=>h ob s' q) fun _ _ z=>z
 refine wB0 ?_;unfold dictSet
 try with_reducible refine wpAny_holding ?_
 refine wB0 ?_;rcases ody with rfl |rfl |⟨b,ks,rfl,eb⟩
 ·cases ry
  refine a7M fun hsh t'=>?_;unfold dictSetHashed
  try with_reducible refine wpAny_holding ?_
  refine wB0 (a8a (s:={ s with toks:=t' }) ho hd hk ?_);exact wpAny_mono (fin2 hsh t') (fun _ s' q=>wP0 ⟨.none,rfl,wP0 q⟩) fun _ _ z=>z
 ·cases ry
  refine a7m fun hsh t'=>?_;unfold dictSetHashed
  try with_reducible refine wpAny_holding ?_
  refine wB0 (a7p (s:={ s with toks:=t' }) ho hd hk ?_);exact wpAny_mono (fin2 hsh t') (fun _ s' q=>wP0 ⟨.none,rfl,wP0 q⟩) fun _ _ z=>z
 ·cases(show u=Value.ref b from ry)
  have kk:=a5Z I.hok eb;obtain⟨its',_,p',_⟩:=I.tuple (SqT.of eb);refine wpAny_pyHash_tuple (knd:=a0H X.prog X.w) (by show A.units+1<cLine;exact hu) kk ?_;unfold dictSetHashed
  try with_reducible refine wpAny_holding ?_
  refine wB0 (a9j (s:={ s with toks:=s.toks+(ks.length+1) }) ho hd hk (fun z t=>SeqAt.EqAt.str_tuple z t p' (by show A.units+1<cLine;exact hu)) (fun E Q hQ=>wpAny_eqIsQuiet_tuple (knd:=a0H X.prog X.w) kk hQ) ?_);exact wpAny_mono (fin2 _ _) (fun _ s' q=>wP0 ⟨.none,rfl,wP0 q⟩) fun _ _ z=>z
theorem b1O {o i value:Expr}{pos pos':Pos}{td ty tv:TE}(hu:X.A.units+1<cLine)(ho:PE X o td)(hi:PE X i ty)(hv:PE X value tv)(hs:swapsWith value (some (.Subscript o i pos')) pos.line X.env=pure false) :
  PS X (.Assign [.Subscript o i pos'] value pos) (b3L td ty tv):=by
 intro U s σ H D I h;refine wpAny_Assign_Subscript (thn (hv U s σ H _ I h) fun r s1 ⟨v,H1,I1,rv,q1⟩=>thn (ho U s1 σ H1 _ I1 q1) fun u s2 ⟨x,H2,I2,rx,q2⟩=>thn (hi U s2 σ H2 _ I2 q2) fun iv s3 ⟨y,H3,I3,ry,a,ex,q3⟩=>?_) hs;subst ex;obtain rfl:u=Value.ref a:=rx;rcases q3 with ⟨H4,g,q4⟩ |⟨kvs,e,ht,hl,od,q4⟩
 ·exact a4F hu I3 g ry rv fun s4 I4=>⟨σ,H4,I4,q4⟩
 ·exact b0I hu I3 e ht hl od ry rv fun o s4 I4=>⟨σ,_,I4,q4 o⟩
end
end L2
namespace L2
open PySem PySem.Spec PyProof.Rows PySem.Builtin PySem.Builtin.Dict
end L2
namespace L2
open PySem PySem.Spec PyProof.Rows
theorem a9U {H:Hp}{d:Dt}{x:V}{u:Value}{z:Str}(hd:Rep H d x)(rx:a0X x u):b0S z u=a0u d z:=by
 cases d with
 |non=>unfold Rep at hd;subst hd;cases rx;rfl
 |bl b=>unfold Rep at hd;subst hd;cases rx;rfl
 |int i=>unfold Rep at hd;subst hd;obtain⟨t',rfl⟩:=rx;rfl
 |str y=>unfold Rep at hd;obtain⟨rfl,_⟩:=hd;obtain⟨t',rfl⟩:=rx;rfl
 |tup ds=>unfold Rep at hd;obtain⟨a,xs,rfl,ha,_⟩:=hd;cases rx;rfl
 |lst ds=>unfold Rep at hd;obtain⟨a,xs,rfl,ha,_⟩:=hd;cases rx;rfl
 |dct=>unfold Rep at hd;obtain⟨a,kvs,rfl,ha⟩:=hd;cases rx;rfl
section
variable {X:Cx}{U:List (Addr×Obj)}{σ:St}{H:Hp}{s:Shared}
theorem a7I {A:Around}{d:Dt}{x:V}{v:Value}(hu:A.units<cLine)(I:Inv X U σ H s)(hd:Rep H d x)(rx:a0X x v)(z:Str)(t:Tok):SeqAt.EqAt A s v (.str z t) (a0u d z):=by
 cases d with
 |non=>
  unfold Rep at hd;subst hd;cases rx;exact SeqAt.EqAt.none_str z t
 |bl b=>
  unfold Rep at hd;subst hd;cases rx;exact SeqAt.EqAt.bool_str b z t
 |int i=>
  unfold Rep at hd;subst hd;obtain⟨t',rfl⟩:=rx;exact SeqAt.EqAt.int_str i t' z t
 |str y=>
  unfold Rep at hd;obtain⟨rfl,_⟩:=hd;obtain⟨t',rfl⟩:=rx;exact SeqAt.EqAt.str_str y t' z t
 |tup ds=>
  unfold Rep at hd;obtain⟨a,xs,rfl,ha,_⟩:=hd;cases rx;obtain⟨its,_,p,_⟩:=I.tuple (SqT.of ha);exact SeqAt.EqAt.tuple_str z t p hu
 |lst ds=>
  unfold Rep at hd;obtain⟨a,xs,rfl,ha,_⟩:=hd;cases rx;obtain⟨its,_,p,_⟩:=I.list (SqL.of ha);exact SeqAt.EqAt.list_str z t p.isList hu
 |dct=>
  unfold Rep at hd;obtain⟨a,kvs,rfl,ha⟩:=hd;cases rx;obtain⟨_,_,vs,_,o,es,ep,h1,h2,h3,_⟩:=a8F I.hok ha;intro prog w E Q h;unfold eqBool;refine wpAny_holding ?_;refine wpAny_ite_split (fun hab=>absurd (eq_of_beq hab) nofun) (fun _=>?_);exact wB0 (SeqAt.RcAt.dict_str z t h1 h2.1 h3 hu prog w E _ (wpAny_truthy_bool h))
theorem a0V.at {H:Hp}:∀{ds:List Dt} {xs:List V} {us:List Value} (r:a0V H ds xs) (v:a1g xs us) (j:Nat) (h:j<us.length),∃d x,ds[j]? =some d/\Rep H d x/\a0X x us[j]
 |[],xs,us,r,v,j,h=>by
  unfold a0V at r;subst r;cases v;simp at h
 |d::ds,xs,us,r,v,j,h=>by
  unfold a0V at r;obtain⟨x,xs',rfl,h1,h2⟩:=r;cases v with
  |cons v1 v2=>
   cases j with
   |zero=>exact⟨d,x,rfl,h1,v1⟩
   |succ j=>
    obtain⟨d',x',e1,e2,e3⟩:=a0V.at h2 v2 j (by simpa using h);exact⟨d',x',by simpa using e1,e2,by simpa using e3⟩
theorem a8l {H:Hp}{z:Str}:∀{ds:List Dt} {xs:List V} {us:List Value} (r:a0V H ds xs) (v:a1g xs us),us.countP (b0S z)=ds.countP fun d=>a0u d z
 |[],xs,us,r,v=>by
  unfold a0V at r;subst r;cases v;rfl
 |d::ds,xs,us,r,v=>by
  unfold a0V at r;obtain⟨x,xs',rfl,h1,h2⟩:=r;cases v with
  |cons v1 v2=>rw[List.countP_cons,List.countP_cons,a8l h2 v2,a9U h1 v1]
theorem a7g (hu:X.A.units+1<cLine):MtR X "list.count" (fun x xs H Q=>∃(p:Addr) (ys:List V) (ds:List Dt) (z:Str),x=.ref p/\xs=[.str z]/\SqL X.K H p ys/\a0V H ds ys/\Q (.int (ds.countP fun d=>a0u d z:Nat)) H):=by
 intro U s σ H x xs v us Q I rx r h;obtain⟨p,ys,ds,z,rfl,rfl,hq,hr,q⟩:=h;cases rx;obtain⟨u,rfl,t,rfl⟩:=a2F r;obtain⟨its,r',pl,hz⟩:=I.list hq;obtain⟨⟨c,dd,dt,sl⟩,e,hc,n,hd⟩:=pl.isList;simp only at hc hd;subst hc hd;refine call_meets F.slot_list_count ⟨_,e,rfl⟩ F.entry_list_count (F.args_list_count_2 _ _) (SeqAt.list_countAt p its.toArray n dd sl (.str z t) (b0S z)) ⟨e,fun y hy=>?_,?_⟩
 ·obtain⟨j,hj,ej⟩:=List.mem_iff_getElem.mp (show y∈its by simpa using hy)
  obtain⟨d,x,_,e2,e3⟩:=a0V.at hr r' j hj;rw[ej] at e3;rw[a9U e2 e3];exact a7I (by show X.A.units+1<cLine;omega) I e2 e3 z t
 ·refine⟨.int (ds.countP fun d=>a0u d z:Nat),H,I.tok _,⟨s.toks,?_⟩,q⟩
  show Value.int (its.toArray.toList.countP (b0S z):Nat) s.toks=_;rw[List.toList_toArray,a8l hr r']
theorem a7O (hu:X.A.units+1<cLine):OpR X (compareOp .NotIn) (fun x y H Q=>∃(d:Dt) (p:Addr) (zs:List Str),Rep H d x/\y=.ref p/\SqT X.K H p (zs.map V.str)/\Q (.bl (!zs.any (a0u d))) H):=by
 intro U s σ H x y v u Q I rx ry h;obtain⟨d,p,zs,hd,rfl,hp,q⟩:=h;cases ry;obtain⟨its,r,pl,_⟩:=I.tuple hp;refine SeqAt.notIn_tupleAt (b1d d) pl (fun w' hw=>?_) ⟨.bl _,H,I,rfl,?_⟩
 ·obtain⟨z,t,rfl⟩:=a6k r w' (by simpa using hw)
  exact b0a (A:=X.A.in1) hu I hd rx z t
 ·rw[show its.toArray.any (b1d d)=its.any (b1d d) by simp,a4m r]
  exact q
theorem b2f (hu:X.A.units+1<cLine):OpR X (compareOp .NotEq) (fun x y H Q=>∃(p b:Addr) (ys:List V) (ds:List Dt) (z:Str),x=.ref p/\y=.ref b/\SqL X.K H p ys/\a0V H ds ys/\ds.length<=1/\SqL X.K H b [.str z]/\Q (.bl (match ds with |[d]=>!a0u d z |_=>true)) H):=by
 intro U s σ H x y v u Q I rx ry h;obtain⟨p,b,ys,ds,z,rfl,rfl,hp,hr,hl1,hb,q⟩:=h;cases rx;cases ry;obtain⟨its,r1,pl,_⟩:=I.list hp;obtain⟨jts,r2,ql,_⟩:=I.list hb;obtain⟨w,rfl,t,rfl⟩:=a2F r2
 match ds,hl1,hr,q with
 |[],_,hr,q=>
  unfold a0V at hr;subst hr;cases r1;exact SeqAt.RcNeAt.lists_lengths (A:=X.A) (s:=s) pl.isList ql.isList (by rfl) (by omega) X.prog X.w X.xe _ ⟨.bl true,H,I,rfl,q⟩
 |[d],_,hr,q=>
  unfold a0V at hr;obtain⟨x,xs',rfl,h1,h2⟩:=hr;unfold a0V at h2;subst h2;obtain⟨w,rfl,rw1⟩:=a2F r1;have hh:=SeqAt.RcNeAt.lists (A:=X.A) (s:=s) (e:=fun _=>a0u d z) pl.isList ql.isList rfl (by omega) (fun j g1 g2=>by
   have e0:j=0:=by simp at g1;omega
   subst e0;exact a7I (A:=X.A.in1) (by show X.A.units+1<cLine;omega) I h1 rw1 z t)
  refine hh X.prog X.w X.xe _ ⟨.bl (!a0u d z),H,I,?_,q⟩;show Value.bool (!(List.range 1).all fun _=>a0u d z)=_;simp
end
theorem a4x {e:Value}{env env':Env}(h:env.frame=env'.frame):noteFrame e env=noteFrame e env':=by
 unfold noteFrame PySem.frameOf;rw[h]
def XTb (h:Heap)(x:Addr):Prop:=∃c od vs sl T,h.get? x=some ⟨c,od,.fields vs,sl⟩/\vs[1]? =some (.ref T)
section
variable {M:Model}{A:Around}{E:Vs0}{s:Shared}{base:Heap}{env:Env}{outer:List Env}{L x:Addr}{P:Addr->Prop}{C:Value}{od:Option Addr}
theorem XAt.tb {h:Heap}{fl:Value}(hx:XAt h P x C od fl)(hf:fl≠.none):XTb h x:=by
 obtain⟨vs,sl,v1,ex,e1,tb⟩:=hx;rcases tb with ⟨_,z⟩ |⟨T,oT,ts,rfl,_⟩
 ·exact absurd z hf
 ·exact⟨_,_,vs,sl,T,ex,e1⟩
theorem a6O {fl:Value}{fr:List Addr}{f:Option Addr}{Q:Unit->Shared->Prop}(hx:XAt s.heap P x C od fl)(frn:∀b o,s.heap.get? b=some o->b∈fr->∀vs,o.data≠.fields vs)
  (h:∀h' fl',Nt P fr x s.heap h'->XAt h' P x C od fl'->Q () { s with heap:=h' }):wpAny M A (setFlight (.ref x) f) Q E s:=by
 obtain⟨vs,sl,v1,ex,e1,tb⟩:=hx;unfold setFlight;refine wB0 (wpAny_field ex rfl e1 ?_);rcases tb with ⟨rfl,_⟩ |⟨T,oT,ts,rfl,pT,nT,eT,dT,fT⟩
 ·rw[if_neg (by decide)]
  exact wP0 (h s.heap .none .refl ⟨vs,sl,_,ex,e1,.inl ⟨rfl,rfl⟩⟩)
 ·rw[if_pos (show(Value.ref T != Value.none)=true from by simp)]
  refine wpAny_setField eT dT (Array.getElem?_eq_some_iff.mp fT).1 (h _ (f.elim .none fun f=>rawInt f) ?_ ?_)
  ·refine⟨⟨[T],fun b hb=>.inr ?_,fun b o e _ hc=>?_⟩,fun b o e hb=>⟨o.slots,?_⟩,fun b o e=>?_⟩
   ·rw[mS0.mp hb]
    exact⟨pT,oT,ts,eT,dT⟩
   ·rw[Heap.get?_update_other _ _ fun z=>hc (by rw[z];exact mS0.mpr rfl)]
    exact e
   ·rw[Heap.get?_update_other _ _ fun z=>?_]
    ·exact e
    ·subst z
     rw[eT] at e;cases e;exact frn T oT eT hb ts dT
   ·by_cases hb:b=T
    ·rw[hb]
     exact⟨_,Heap.get?_update_self _ eT (Obj.isFreed_of_fields (Obj.data_mapFields dT _))⟩
    ·exact⟨o,by rw[Heap.get?_update_other _ _ (Ne.symm hb)];exact e⟩
  ·refine⟨vs,sl,.ref T,by rw[Heap.get?_update_other _ _ nT];exact ex,e1,.inr ⟨T,_,_,rfl,pT,nT,Heap.get?_update_self _ eT (Obj.isFreed_of_fields (Obj.data_mapFields dT _)),Obj.data_mapFields dT _,?_⟩⟩
   have:=(Array.getElem?_eq_some_iff.mp fT).1
   simp[this]
theorem a6b {fl:Value}{Q:Unit->Shared->Prop}(hfr:A.frames=some (env::outer))(hl:s.heap.FunFrames base (env::outer))(hf:env.frame=some L)
  (hx:XAt s.heap P x C od fl) (hP:∀T,s.heap.objs.size<=T->P T)
  (h:∀h' fl',Nt P ((env::outer).filterMap (·.frame)) x s.heap h'->XAt h' P x C od fl'->XTb h' x->Q () { s with heap:=h' }):wpAny M A (noteFrame (.ref x) env) Q E s:=by
 have hx0:=hx;obtain⟨vs,sl,v1,ex,e1,tb⟩:=hx;have hsz:1<vs.size:=(Array.getElem?_eq_some_iff.mp e1).1;have rn:rawInt L≠Value.none:=by simp[rawInt]
 rcases tb with ⟨rfl,rfl⟩ |⟨T,oT,ts,rfl,pT,nT,eT,dT,fT⟩
 ·exact a5w hfr hl hf hx0 hP fun h' n' x'=>h h' _ n' x' (x'.tb rn)
 ·by_cases hfl:(fl==rawInt L)=true
  ·unfold noteFrame
   simp only[hf];refine wB0 (wpAny_field ex rfl e1 ?_);rw[if_pos (show(Value.ref T != Value.none)=true from by simp)];refine wB0 (wpAny_field eT dT fT ?_);rw[if_pos hfl];exact wP0 (h s.heap fl .refl hx0 ⟨_,_,vs,sl,T,ex,e1⟩)
  ·unfold noteFrame
   simp only[hf];refine wB0 (wpAny_field ex rfl e1 ?_);rw[if_pos (show(Value.ref T != Value.none)=true from by simp)];refine wB0 (wpAny_field eT dT fT ?_);rw[if_neg hfl];refine wB0 (wpAny_setField eT dT (Array.getElem?_eq_some_iff.mp fT).1 ?_);have oth:∀b,b≠T->(s.heap.update T (Obj.mapFields (·.setIfInBounds 3 Value.none))).get? b=s.heap.get? b:=fun b hb=>Heap.get?_update_other _ _ (Ne.symm hb);have nrec:∀b o,s.heap.get? b=some o->(∀vs,o.data≠.fields vs)->b≠T:=fun b o hb hn q=>by
    rw[q,eT] at hb;cases hb;exact hn ts dT
   have hl':=hl.of_keeps (h':=s.heap.update T (Obj.mapFields (·.setIfInBounds 3 Value.none))) fun b o hb hn=>⟨o,(oth b (nrec b o hb hn)).trans hb,rfl⟩;have frn:∀b o,s.heap.get? b=some o->b∈(env::outer).filterMap (·.frame)->∀vs,o.data≠.fields vs:=fun b o e hb=>by
    obtain⟨_,o',ho',hn⟩:=hl.mem hb;rw[e] at ho';cases ho';exact hn
   have N1:Nt P ((env::outer).filterMap (·.frame)) x s.heap (s.heap.update T (Obj.mapFields (·.setIfInBounds 3 Value.none))):=by
    refine⟨⟨[T],fun b hb=>.inr ?_,fun b o e _ hc=>?_⟩,fun b o e hb=>⟨o.slots,?_⟩,fun b o e=>?_⟩
    ·rw[mS0.mp hb]
     exact⟨pT,oT,ts,eT,dT⟩
    ·exact(oth b fun z=>hc (by rw[z];exact mS0.mpr rfl)).trans e
    ·exact(oth b (nrec b o e (frn b o e hb))).trans e
    ·by_cases hb:b=T
     ·rw[hb]
      exact⟨_,Heap.get?_update_self _ eT (Obj.isFreed_of_fields (Obj.data_mapFields dT _))⟩
     ·exact⟨o,(oth b hb).trans e⟩
   refine a4y (s:={ s with heap:=s.heap.update T (Obj.mapFields (·.setIfInBounds 3 Value.none)) }) hfr hl' hf ((oth x (Ne.symm nT)).trans ex) hsz (fun T' hT'=>hP T' (by rw[<-Heap.size_after_update s.heap T];exact hT')) fun h' n' x'=>h h' _ (N1.trans n' frn) x' (x'.tb rn)
theorem a7b {fl:Value}{Q:Unit->Shared->Prop}(hfr:A.frames=some (env::outer))(hl:s.heap.FunFrames base (env::outer))(hf:env.frame=some L)
  (hx:XAt s.heap P x C od fl) (hP:∀T,s.heap.objs.size<=T->P T)
  (h:∀h',Nt P ((env::outer).filterMap (·.frame)) x s.heap h'->XAt h' P x C od .none->Q () { s with heap:=h' }):wpAny M A (leaving env (.ref x)) Q E s:=by
 have frn:∀b o,s.heap.get? b=some o->b∈(env::outer).filterMap (·.frame)->∀vs,o.data≠.fields vs:=fun b o e hb=>by
  obtain⟨_,o',ho',hn⟩:=hl.mem hb;rw[e] at ho';cases ho';exact hn
 unfold leaving;refine wB0 (a6b hfr hl hf hx hP fun h1 fl1 n1 x1 _=>?_);refine a4p (s:={ s with heap:=h1 }) (fr:=(env::outer).filterMap (·.frame)) x1 (fun b o e hb=>?_) fun h2 n2 x2=>h h2 (n1.trans n2 frn) x2;obtain⟨_,o',ho',hn⟩:=hl.mem hb;obtain⟨sl,e1⟩:=n1.frm b o' ho' hb;have e':h1.get? b=some o:=e;rw[e1] at e';cases e';exact hn
end
def b0p (X:Cx)(E:XS):Prop:=∀(U:List (Addr×Obj)) (σ:St) (H:Hp) (s:Shared) (x:Addr) (C:Value) (od:Option Addr) (fl:Value),Inv X U σ H s->Our X U H x->XAt s.heap (Our X U H) x C od fl->E C od σ H->X.xe (.ref x) s
theorem a7x {P:Program}{w:World}{K:Fg0}{mg:Str->Option Value}{base:Heap}{N:List Str}{qual:Str}{scope:Scope}{f:Addr}{cd:Value}{A:Around}{outer:List Env}{s₀:Shared}{H₀:Hp}{E:XK} :
  b0p (a5E (CX1 P w) P w K mg base N qual scope f cd A outer s₀ H₀ E) (fun C od _ H=>E C od H):=by
 intro U σ H s x C od fl I hx xa q;refine a7b (base:=base) (Q:=fun _ s''=>CX1 P w outer H₀ s₀ E (.ref x) s'') I.ok.frames I.stack rfl xa (fun T hT=>I.our hT) fun h' n xa'=>?_;have I':=I.noted hx n;exact⟨x,C,od,H,rfl,I'.os,I'.bare,I'.base,I'.hok,hx.new,hx.unt,xa'.imp fun T o=>⟨o.new,o.unt⟩,q⟩
def b2a (X:Cx)(scope:Scope)(N:List Str)(s:Shared)(H:Hp)(fp:List Addr)(EX:XK):Vs0:=fun e s'=>∃(pl:List (Addr×Obj)) (σ':St) (H':Hp) (x:Addr) (cl:Value) (od:Option Addr),e=.ref x/\Inv (a0J X scope N s H fp) pl σ' H' s'/\Our (a0J X scope N s H fp) pl H' x/\XAt s'.heap (Our (a0J X scope N s H fp) pl H') x cl od .none/\EX cl od H'
abbrev a5M (X:Cx)(scope:Scope)(N:List Str)(s:Shared)(H:Hp)(fp:List Addr)(EX:XK):Cx:=(a0J X scope N s H fp).wish (b2a X scope N s H fp EX)
theorem a6P {X:Cx}{scope:Scope}{N:List Str}{s:Shared}{H:Hp}{fp:List Addr}{EX:XK}:a5o (a5M X scope N s H fp EX) (fun C od _ H=>EX C od H):=
 fun U σ H' s' x C od I o xa q=>⟨U,σ,H',x,C,od,rfl,I.unwish,⟨o.new,o.loc,o.cel,o.pin,o.unt⟩,xa.imp fun T o=>⟨o.new,o.loc,o.cel,o.pin,o.unt⟩,q⟩
section
variable {X:Cx}
theorem a5G {osc scope:Scope}{N0 xs:List Str}{fr:List Nat}{U:List (Addr×Obj)}{σ:St}{H2:Hp}{s2:Shared}{fp:List Addr}{it:Addr}{tn:Nat->Heap->Prop}{J:It}{elt tg iter:Expr}{ifs:List Expr}{pos:Pos}
  {g:TG} {tt:TT} {te:TE} {E:Vs0} {R:Addr->Hp->Prop} {RR:Value->Addr->Result->Shared->Prop} {EX:XK} {L:Addr} (hst:X.stack=X.env::X.outer) (hfx:X.env.frame=some L) (C:a3p osc scope N0 xs fr) (ho:X.env.scope=osc) (hN0:X.N=N0) (hc:X.calm=true)
  (hg:∀s H fp,PG (a0J X scope (a1c N0 xs fr) s H fp) tg g) (ht:∀s H fp,PIf (a0J X scope (a1c N0 xs fr) s H fp) ifs tt) (he:∀s H fp,PE (a5M X scope (a1c N0 xs fr) s H fp EX) elt te)
  (I2:Inv X U σ H2 s2) (T:a8R X.prog X.w X.K tg J fp it tn) (st2:tn 0 s2.heap) (f2:∀b∈fp,a2X X U H2 b)
  (hR:∀D,H2 D=none->a6E J g tt te R D (a2K xs fr σ) (upd H2 D (.lst [])))
  (hRR:∀(D C:Addr) (s':Shared) (H':Hp) (m:Str->Option Value),Inv X U σ H' s'->s'.heap.Ns C m->a2X X U H' C->R D H'->RR (.ref D) C (.ok .next) s')
  (hRX:∀(D C:Addr) (s':Shared) (H':Hp) (m:Str->Option Value) (x:Addr) (cl:Value) (od:Option Addr) (fl:Value),Inv X U σ H' s'->s'.heap.Ns C m->a2X X U H' C->Our X U H' x->XAt s'.heap (Our X U H') x cl od fl->XTb s'.heap x->EX cl od H'->RR (.ref D) C (.error (.ref x)) s') :
  wpAny (model X.prog X.w) X.A (newList []) (fun acc s₃=>wpAny (model X.prog X.w) X.A (newFunctionEnv scope X.env.globals (a2R X.env scope.names) [] X.env.qual none .none (some X.env)) (fun cenv s₄=>
   codeAny (model X.prog X.w) X.A (.compStart (.ListComp elt [⟨tg,iter,ifs,0⟩] scope pos) 0 (.ref it) acc { cenv with scope:=relabel scope X.env }) (RR acc cenv.locals) s₄) E s₃) E s2:=by
 refine wpAny_newObj_type (wpAny_newFunctionEnv C.nocell (by intro y hy;simp at hy) (fun h₁ hns₁ hsb₁=>?_) C.kind)
 dsimp only at hns₁ hsb₁ ⊢
 have I3:Inv X U σ (upd H2 s2.heap.objs.size (.lst [])) { s2 with heap:=s2.heap.push { cls:=.type "list",data:=.seq ([]:List Value).toArray } }:=I2.lnew (its:=[]) (t':=s2.toks) .nil (by simp);have flt:∀b∈fp,b<s2.heap.objs.size:=fun b hb=>by
  obtain⟨o,e,_⟩:=T.obj 0 _ st2 b hb;exact hL0 e
 have f3:∀b∈fp,a2X X U (upd H2 s2.heap.objs.size (.lst [])) b:=fun b hb=>⟨by rw[a0h (nL0 (flt b hb))];exact(f2 b hb).1,(f2 b hb).2⟩;have flt3:∀b∈fp,b<(s2.heap.push { cls:=.type "list",data:=.seq ([]:List Value).toArray }).objs.size:=fun b hb=>by
  rw[Heap.size_push];exact Nat.lt_succ_of_lt (flt b hb)
 obtain⟨W,⟨m0,w0⟩,turn⟩:=hR s2.heap.objs.size I2.fresh;generalize hD:s2.heap.objs.size=D at *;generalize hs3:s2.heap.push { cls:=.type "list",data:=.seq ([]:List Value).toArray }=h3 at *;have up2:∀b o,s2.heap.get? b=some o->h3.get? b=some o:=fun b o e=>by rw[<-hs3];exact hP0 _ e
 have old:∀b o,h3.get? b=some o->h₁.get? b=some o:=fun b o e=>hsb₁.extBut b o (nL0 (hL0 e)) (hP0 _ e);have Ic:=a3X (tk:=s2.toks+([]:List (Str×Value)).length) C ho hN0 I3 f3 flt3 hns₁ old;have st4:tn 0 h₁:=T.keep 0 _ _ st2 fun b hb o e=>old b o (up2 b o e);have stat:∀{H':Hp},(∀b∈fp,H' b=none)->∀b∈fp,a2X (a0J X scope (a1c N0 xs fr) { s2 with heap:=h3 } (upd H2 D (.lst [])) fp) [] H' b:=fun hn b hb=>
  ⟨hn b hb,nL0 (flt3 b hb),fun z=>by
   rcases mK0.mp (I3.stkSub b z) with q |q
   ·exact(f3 b hb).2.1 q
   ·exact(f3 b hb).2.2.1 q,.inl hb,fun x c h=>(Ic.ok.exf b hb).2 x c h,fun p hp=>absurd (show p∈([]:List (Addr×Obj)) from hp) (by simp)⟩
 have fin:∀{σ':St} {H':Hp} {s':Shared},Inv (a0J X scope (a1c N0 xs fr) { s2 with heap:=h3 } (upd H2 D (.lst [])) fp) [] σ' H' s'->R D H'->RR (.ref D) h3.objs.size (.ok .next) s':=fun {σ' H' s'} I' q=>by
  obtain⟨m,hm,_⟩:=I'.loc;refine hRR D h3.objs.size s' H' m (I3.call' I'.os I'.base I'.hok I'.bare fun b hb=>?_) hm (I3.fpOk (nR0 _) I'.free) q;exact⟨(f3 b hb).2.2.2.1,(f3 b hb).2.1,(f3 b hb).2.2.2.2.1,(f3 b hb).2.2.2.2.2⟩
 have caught:∀{e:Value} {s':Shared},b2a X scope (a1c N0 xs fr) { s2 with heap:=h3 } (upd H2 D (.lst [])) fp EX e s'->notedBy (model X.prog X.w) X.A (compEnvC scope (a2R X.env scope.names) h3.objs.size X.env) (fun e s''=>RR (.ref D) h3.objs.size (.error e) s'') e s':=fun {e s'} z=>by
  obtain⟨pl,σ',H',x,cl,od,rfl,I',o',xa,q⟩:=z;show wpAny _ _ (noteFrame (.ref x) _) _ _ _;rw[a4x (env:=compEnvC scope (a2R X.env scope.names) h3.objs.size X.env) (env':=X.env) rfl];have hfr:X.A.frames=some (X.env::X.outer):=by rw[<-hst];exact I2.ok.frames
  have hfl:s'.heap.FunFrames X.base (X.env::X.outer):=by rw[<-hst];exact I'.stack
  refine a6b (base:=X.base) hfr hfl hfx xa (fun T hT=>I'.our hT) fun h' fl' n' xa' tb'=>?_;have n'':Nt (Our (a0J X scope (a1c N0 xs fr) { s2 with heap:=h3 } (upd H2 D (.lst [])) fp) pl H') (frs X.stack) x s'.heap h':=by rw[hst];exact n'
  have I'':=I'.noted o' n'';obtain⟨m,hm,_⟩:=I''.loc;have IX:Inv X U σ H' { s' with heap:=h' }:=I3.call' I''.os I''.base I''.hok I''.bare fun b hb=>⟨(f3 b hb).2.2.2.1,(f3 b hb).2.1,(f3 b hb).2.2.2.2.1,(f3 b hb).2.2.2.2.2⟩;have up:∀T,Our (a0J X scope (a1c N0 xs fr) { s2 with heap:=h3 } (upd H2 D (.lst [])) fp) pl H' T->Our X U H' T:=fun T o=>I3.our' o.new o.unt;exact hRX D h3.objs.size _ H' m x cl od fl' IX hm (I3.fpOk (nR0 _) I''.free) (up x o') (xa'.imp up) tb' q
 have loop:codeAny (model X.prog X.w) X.A (.compLoop (.ListComp elt [⟨tg,iter,ifs,0⟩] scope pos) 0 (.ref it) (.ref D) (compEnvC scope (a2R X.env scope.names) h3.objs.size X.env)) (RR (.ref D) h3.objs.size) { s2 with heap:=h₁,toks:=s2.toks+([]:List (Str×Value)).length }:=by
  refine codeAny_loop rfl (fun n s'=>∃i σ' H',Inv (a0J X scope (a1c N0 xs fr) { s2 with heap:=h3 } (upd H2 D (.lst [])) fp) [] σ' H' s'/\tn i s'.heap/\(∀b∈fp,H' b=none)/\W i n σ' H') (fun n s' hI=>?_) m0 ⟨0,_,_,Ic,st4,fun b hb=>(f3 b hb).1,w0⟩;show wpAny _ X.A ((compTurn (.ListComp elt [⟨tg,iter,ifs,0⟩] scope pos) 0 (.ref it) (.ref D) (compEnvC scope (a2R X.env scope.names) h3.objs.size X.env)).onRaise (fun x=>do noteFrame x (compEnvC scope (a2R X.env scope.names) h3.objs.size X.env);theTreesLotGoes x)) _ _ s';refine wpAny_noted ?_;rw[compTurn_list];obtain⟨i,σ',H',I',st',fr',w'⟩:=hI;refine wB0 (wpAny_standAt (wB0 ?_));rcases turn i n σ' H' w' with ⟨stop,q⟩ |⟨go,N,M,hN,hM,step⟩
  ·refine thn (T.done (a0J X scope (a1c N0 xs fr) { s2 with heap:=h3 } (upd H2 D (.lst [])) fp) rfl rfl rfl hc i [] s' σ' H' _ I' (stat fr') st' stop) fun r s4 ⟨hr,I4⟩=>?_
   subst hr;exact wP0 (fin I4 q)
  ·refine thn (T.item (a0J X scope (a1c N0 xs fr) { s2 with heap:=h3 } (upd H2 D (.lst [])) fp) rfl rfl rfl hc i [] s' σ' H' _ I' (stat fr') st' go) fun r s4 ⟨u,hr,h4⟩=>?_
   subst hr;refine wB0 (thn h4 fun _ s5 ⟨x,H5,I5,r5,y5,st5,fr5⟩=>?_);have I5':=I5.pinned (stat fr5) (T.obj _ _ st5);have again:∀{σ7:St} {H7:Hp} {s7:Shared},Inv (a0J X scope (a1c N0 xs fr) { s2 with heap:=h3 } (upd H2 D (.lst [])) fp) ([]++a3T fp s5.heap) σ7 H7 s7->(∃m',m'<n/\W (i+1) m' σ7 H7) →
     ∃m,m<n/\∃i σ' H',Inv (a0J X scope (a1c N0 xs fr) { s2 with heap:=h3 } (upd H2 D (.lst [])) fp) [] σ' H' s7/\tn i s7.heap/\(∀b∈fp,H' b=none)/\W i m σ' H':=fun {σ7 H7 s7} I7 n7=>by
    obtain⟨m',hm,w7⟩:=n7;refine⟨m',hm,i+1,σ7,H7,I7.unpinned,T.keep _ _ _ st5 fun b hb o e=>(I7.pin (b,o) (List.mem_append_right _ (List.mem_append_right _ (a1N hb e)))).1,fun b hb=>?_,w7⟩;obtain⟨o,e,d⟩:=T.obj _ _ st5 b hb;exact(I7.pin (b,o) (List.mem_append_right _ (List.mem_append_right _ (a1N hb e)))).2.1
   refine wB0 (wpAny_mono (hg _ _ _ _ s5 σ' H5 x u _ I5' r5 (step x H5 y5)) (fun _ s6 ⟨σ6,H6,I6,q6⟩=>?_) fun _ _ z=>False.elim z);refine wB0 (wpAny_mono (ht _ _ _ _ s6 σ6 H6 _ I6 q6) (fun ok s7 ⟨H7,I7,q7⟩=>?_) fun _ _ z=>False.elim z);cases ok with
   |false=>
    rw[if_neg bF0] at q7;exact wP0 ⟨rfl,again I7 (hM _ _ q7)⟩
   |true=>
    rw[if_pos rfl] at q7;refine wB0 (wB0 (wpAny_mono (he _ _ _ _ s7 σ6 H7 _ (I7.wish _) q7) (fun y s8 ⟨v,H8,I8',r8,q8⟩=>?_) fun _ _ z=>caught z));have I8:=I8'.unwish;obtain⟨ys,eD,hz,q8⟩:=hN _ _ _ q8;refine wB0 (wpAny_mono (a3E (X:=a0J X scope (a1c N0 xs fr) { s2 with heap:=h3 } (upd H2 D (.lst [])) fp) _ s8 σ6 H8 (.ref D) [v] (.ref D) [y] (fun _ H9=>∃m',m'<n/\W (i+1) m' σ6 H9) I8 rfl (.cons r8 .nil) ⟨D,ys,v,rfl,rfl,eD,hz,q8⟩) (fun _ s9 ⟨_,H9,I9,_,q9⟩=>?_) fun _ _ z=>False.elim z);exact wP0 (wP0 ⟨rfl,again I9 q9⟩)
 exact codeAny_compStart_list loop (T.self X.A 0 _ _ _ st4 loop)
variable {osc scope:Scope}{N0 xs:List Str}{fr:List Nat}{elt tg iter:Expr}{ifs:List Expr}{pos:Pos}{wi:TI}{g:TG}{tt:TT}{te:TE}
end
section
variable {X:Cx}
variable {osc scope:Scope}{N0 xs:List Str}{fr:List Nat}{elt tg iter:Expr}{ifs:List Expr}{pos:Pos}{wi:TI}{g:TG}{tt:TT}{te:TE}
theorem a9y {EX:XK}{L:Addr}(hst:X.stack=X.env::X.outer)(hfx:X.env.frame=some L)(LA:b0p X (fun C od _ H=>EX C od H)){i:Nat}{y:Str}{py spos:Pos}(C:a3p osc scope N0 xs fr)(ho:X.env.scope=osc)(hN0:X.N=N0)(hc:X.calm=true)(hi:PI X tg iter wi)
  (hg:∀s H fp,PG (a0J X scope (a1c N0 xs fr) s H fp) tg g) (ht:∀s H fp,PIf (a0J X scope (a1c N0 xs fr) s H fp) ifs tt) (he:∀s H fp,PE (a5M X scope (a1c N0 xs fr) s H fp EX) elt te)
  (hN:X.N.Nodup) (hy:X.N[i]? =some y) (hx:Loc X.env.scope y)
  (hsw:swapsWith (.ListComp elt [⟨tg,iter,ifs,0⟩] scope pos) (some (.Name y py)) spos.line X.env=pure true:=by rfl)
  (hf:X.fn y=true\/X.env.scope.names.lookup y=some .local:=by first |exact .inl rfl |exact .inr rfl |assumption)
  (hs:∀x,foldedSetIterable iter X.env x=pure x:=by intro _;rfl):PS X (.Assign [.Name y py] (.ListComp elt [⟨tg,iter,ifs,0⟩] scope pos) spos) (b2C i xs fr wi g tt te):=by
 intro U s σ H D I h;rw[exec_Assign_Name_used _ _ _ _ hsw];refine wB0 (wpAny_standAt (wB0 ?_));show wpAny _ X.A (do let _ <-comprehension (.ListComp elt [⟨tg,iter,ifs,0⟩] scope pos) scope X.env _ (newList []) false (eval iter X.env) (some (assign (.Name y py) X.env))) _ _ s;refine wB0 (wpAny_mono (wpAny_comprehension_free (use:=some (assign (.Name y py) X.env)) (Q:=fun _ s'=>SP X U D .next s') rfl hs (a5D (a2C C ho I)) C.kind C.names
  (thn (hi U s σ H _ I h) fun v s1 h1=>thn h1 fun itv s2 h2=>?_)) (fun _ s' hq=>wP0 (wP0 hq)) fun _ _ e=>e)
 obtain⟨it,fp,tn,J,H2,e,I2,T,st2,f2,hR⟩:=h2;subst e;refine a5G (EX:=EX) hst hfx C ho hN0 hc hg ht he I2 T st2 f2 hR (fun Dl C s' H' m I' hm fC q=>?_) (fun Dl C s' H' m x cl od fl I' hm fC ox xa tb q=>?_)
 ·refine wpAny_assign_Name (a3w I' hN hy hx (show a0X (.ref Dl) (.ref Dl) from rfl) (fun s3 I3 hsb=>?_) hf)
  obtain⟨a,sb,ha⟩:=hsb;have hCa:C≠a:=by
   rcases ha with z |z
   ·rw[z];exact fC.2.1
   ·exact fun w=>fC.2.2.2.2.1 y a z w.symm
  refine⟨m,hm.sameBut sb hCa,fun h' sb'=>⟨_,H',?_,q⟩⟩;exact I3.turned (t':=s3.toks) (fun b o hb e=>(sb'.2 b hb).trans e) fC.1 fC.2.1 fC.2.2.2.1 fC.2.2.2.2.1 fC.2.2.2.2.2
 ·refine⟨m,hm,fun h' sb cenv hce=>?_⟩
  have I'':Inv X U σ H' { s' with heap:=h' }:=I'.turned (t':=s'.toks) (fun b o hb e=>(sb.2 b hb).trans e) fC.1 fC.2.1 fC.2.2.2.1 fC.2.2.2.2.1 fC.2.2.2.2.2;obtain⟨oC,es,ep,eC,dC,_⟩:=hm;have nC:∀(b:Addr) (o:Obj) (vs:Array Value),s'.heap.get? b=some o->o.data=.fields vs->b≠C:=fun b o vs e d z=>by
   rw[z,eC] at e;cases e;rw[dC] at d;cases d
  obtain⟨_,_,vs0,sl0,T0,ex0,e10⟩:=tb;obtain⟨vs,sl,v1,ex,e1,tb⟩:=xa;have ex':h'.get? x=some ⟨cl,od,.fields vs,sl⟩:=(sb.2 x (nC x _ vs ex rfl)).trans ex;rw[ex0] at ex;cases ex;rw[e10] at e1;cases e1;have xa':XAt h' (Our X U H') x cl od fl:=by
   refine⟨_,_,_,ex',e10,?_⟩;rcases tb with ⟨z,_⟩ |⟨T,oT,ts,z,pT,nT,eT,dT,fT⟩
   ·cases z
   ·exact .inr ⟨T,oT,ts,z,pT,nT,(sb.2 T (nC T oT ts eT dT)).trans eT,dT,fT⟩
  unfold PySem.passOn;refine wB0 (wpAny_field ex' rfl e10 ?_);rw[if_neg (show ¬((Value.ref T0==Value.none)=true) from by simp)];refine wB0 (a6O (fr:=frs X.stack) xa' (fun b o e hb=>?_) fun h2 fl2 n2 xa2=>?_)
  ·obtain⟨_,o',ho',hn⟩:=I''.stack.mem hb
   have e':h'.get? b=some o:=e;have ho'':h'.get? b=some o':=ho';rw[e'] at ho'';cases ho'';exact hn
  ·exact wpAny_throw (LA U σ H' _ x cl od fl2 (I''.noted ox n2) ox xa2 q)
end
structure b0s (K:Fg0) (x qual:Str) (st:Stmt) (f:Addr) (fd:FuncData):Prop where
 ex:∃(oc:Value) (od:Option Addr) (dV kV doc pm:Value) (an:Option Addr) (cdv ct:Value) (osl:Array (Option Value)),
  fd=PySem.W.fnOf x qual (a0P st) (a0A st) (a0f st) dV kV doc pm an cdv ct/\K.lookup f=some ⟨oc,od,.func fd,osl⟩/\PySem.W.codeIn K cdv qual=true
 kp:PySem.W.keepIn K (.ref f)=true
theorem b0Y {K:Fg0}{x qual:Str}{st:Stmt}{f:Addr}{oc:Value}{od an:Option Addr}{osl:Array (Option Value)}{dV kV doc pm cdv ct:Value}(l:K.lookup f=some ⟨oc,od,.func (PySem.W.fnOf x qual (a0P st) (a0A st) (a0f st) dV kV doc pm an cdv ct),osl⟩)
  (c:PySem.W.codeIn K cdv qual=true) (k:PySem.W.keepIn K (.ref f)=true):b0s K x qual st f (PySem.W.fnOf x qual (a0P st) (a0A st) (a0f st) dV kV doc pm an cdv ct):=⟨⟨oc,od,dV,kV,doc,pm,an,cdv,ct,osl,rfl,l,c⟩,k⟩
section
variable {P:Program}{w:World}{K:Fg0}{mg:Str->Option Value}{base:Heap}
theorem b0s.ok {x qual:Str}{st:Stmt}{f:Addr}{fd:FuncData}{N ps:List Str}{k:Nat}{sp:Sp}(F:b0s K x qual st f fd)(S:a0o N ps (a0f st))(len:∀vs H Q E,sp vs H Q E->vs.length=ps.length)
  (hbody:∀(cdv:Value) (A:Around) (outer:List Env) (s:Shared) (H:Hp) (vs:List V) (Q:VK) (E:XK),a1m k (A.deeper (envOfC qual (a0f st) s.heap.objs.size f cdv))->sp vs H Q E →
   ∃t,PSs (a5E CX0 P w K mg base N qual (a0f st) f cdv A outer s H E).nox (a0A st) t/\t { nx:=fun _ H'=>Q .non H',rt:=Q } (a2T N vs) H):a0K P w K mg base CX0 (k+1) f fd ps sp:=by
 obtain⟨oc,od,dV,kV,doc,pm,an,cdv,ct,osl,rfl,lk,hcd⟩:=F.ex;refine a9k lk hcd S len fun A outer s H vs Q E hr hsp=>?_;obtain⟨t,h,q⟩:=hbody cdv A outer s H vs Q E hr hsp;exact⟨t,h.nox,q⟩
theorem b0s.okX {x qual:Str}{st:Stmt}{f:Addr}{fd:FuncData}{N ps:List Str}{k:Nat}{sp:Sp}(F:b0s K x qual st f fd)(S:a0o N ps (a0f st))(len:∀vs H Q E,sp vs H Q E->vs.length=ps.length)
  (hbody:∀(cdv:Value) (A:Around) (outer:List Env) (s:Shared) (H:Hp) (vs:List V) (Q:VK) (E:XK),a1m k (A.deeper (envOfC qual (a0f st) s.heap.objs.size f cdv))->sp vs H Q E →
   ∃t,PSs (a5E (CX1 P w) P w K mg base N qual (a0f st) f cdv A outer s H E) (a0A st) t/\t { nx:=fun _ H'=>Q .non H',rt:=Q } (a2T N vs) H):a0K P w K mg base (CX1 P w) (k+1) f fd ps sp:=by
 obtain⟨oc,od,dV,kV,doc,pm,an,cdv,ct,osl,rfl,lk,hcd⟩:=F.ex;exact a9k lk hcd S len fun A outer s H vs Q E hr hsp=>hbody cdv A outer s H vs Q E hr hsp
theorem Fun.x {x qual:Str}{st:Stmt}{f:Addr}{fd:FuncData}(F:Fun K x qual st f fd):b0s K x qual st f fd:=by
 obtain⟨oc,od,kV,doc,pm,an,cdv,ct,osl,e,lk,hcd⟩:=F.ex;exact⟨⟨oc,od,.none,kV,doc,pm,an,cdv,ct,osl,e,lk,hcd⟩,F.kp⟩
end
section
variable {P:Program}{w:World}{K:Fg0}{mg:Str->Option Value}{base:Heap}{CX:CXT}{k:Nat}{f:Addr}{fd:FuncData}{ps:List Str}{sp sp':Sp}
def b3d (sp sp':Sp):Sp:=fun vs H Q E=>sp vs H Q E\/sp' vs H Q E
theorem a0K.or (F:a0K P w K mg base CX k f fd ps sp)(G:a0K P w K mg base CX k f fd ps sp'):a0K P w K mg base CX k f fd ps (b3d sp sp'):=
 ⟨fun vs H Q E h=>h.elim (F.len vs H Q E) (G.len vs H Q E),fun A outer s H args us vs Q E hr e b r h=>h.elim (F.run A outer s H args us vs Q E hr e b r) (G.run A outer s H args us vs Q E hr e b r)⟩
theorem a0K.lift (F:a0K P w K mg base CX0 k f fd ps sp):a0K P w K mg base CX k f fd ps sp:=by
 refine⟨F.len,fun A outer s H args us vs Q E hr e b r h=>codeAny_mono (F.run A outer s H args us vs Q E hr e b r h) fun r s' hq=>?_⟩;cases r with
 |ok x=>cases x<;>exact hq
 |error e=>exact hq.elim
end
theorem a1A {H:Hp}{x:Addr}{o:HO}(hx:H x=none):a0l H (a1k (L2.upd H x o) x):=fun b u e=>by
 have nb:b≠x:=a0v e hx;rw[a0U nb,a0h nb];exact e
theorem a3y {H:Hp}{a:Addr}:a0l (a1k H a) H:=fun b u e=>by
 have nb:b≠a:=fun h=>by subst h;simp[a1k] at e
 rw[a0U nb] at e;exact e
theorem a0l.drop {H H':Hp}{a:Addr}(s:a0l H H'):a0l (a1k H a) (a1k H' a):=fun b u e=>by
 have nb:b≠a:=fun h=>by subst h;simp[a1k] at e
 rw[a0U nb] at e;rw[a0U nb];exact s _ _ e
theorem a5q {H:Hp}:∀(n:Nat) {ds:List Dt} {xs:List V},a0V H ds xs->a0V H (ds.take n) (xs.take n)
 |0,_,_,_=>by rw[List.take_zero,List.take_zero];exact a0T
 |n+1,[],xs,r=>by unfold a0V at r;subst r;exact a0T
 |n+1,d::ds,xs,r=>by
  unfold a0V at r;obtain⟨x,xs',rfl,h1,h2⟩:=r;exact a0y h1 (a5q n h2)
end L2
namespace My
open PySem L2 PyProof.Rows
seal L2.PE L2.PT L2.PW L2.PS L2.PSs L2.PA L2.PI L2.PG L2.PGs L2.OpR L2.UnR L2.a1C L2.IxR L2.SlR L2.MtR L2.PIf L2.PO L2.MtM L2.PC
structure Tx6 (K:Fg0) (mg:Str->Option Value) (CN:Addr):Prop where
 mN:mg "NoForm"=some (.ref CN)
 xN:b1n K CN
def a2S:Dt->Bool
 | .str z=>a1w z
 |_=>false
theorem a7T {d:Dt}(h:a2S d=true):∃z,d=.str z/\a1w z=true:=by
 cases d with
 |str z=>exact⟨z,rfl,h⟩
 |_=>cases h
theorem a5r {K:Fg0}{H:Hp}{d:Dt}{v:V}{Q:VK}{E:XK}(hd:Rep H d v)(q:∀H',a0l H H'->Q (.bl (a2S d)) H'):a3Y K [v] H Q E:=by
 refine⟨v,tyD d,rfl,Rep.is hd,fun z e=>?_,fun ne=>?_⟩
 ·subst e
  cases d with
  |str y=>unfold Rep at hd;obtain⟨e,hl⟩:=hd;cases e;exact⟨by rw[sizeLine_eq];omega,q⟩
  |non=>unfold Rep at hd;cases hd
  |bl b=>unfold Rep at hd;cases hd
  |int i=>unfold Rep at hd;cases hd
  |tup ds=>unfold Rep at hd;obtain⟨a,xs,e,_⟩:=hd;cases e
  |lst ds=>unfold Rep at hd;obtain⟨a,xs,e,_⟩:=hd;cases e
  |dct=>unfold Rep at hd;obtain⟨a,xs,e,_⟩:=hd;cases e
 ·have:=q H (a0l.refl H)
  cases d with
  |str y=>exact absurd rfl ne
  |_=>exact this
def a2Q:List Dt->Bool
 |[]=>true
 |d::r=>!a0u d "head" || r.any fun d=>!a1v.any (a0u d)
def a8q (CN:Addr):Sp:=fun vs H _ E=>∃(p:Addr) (ys:List V) (ds:List Dt),vs=[.ref p]/\H p=some (.lst ys)/\a0V H ds ys/\a2Q ds=true/\∀H',a0l H H'->E (.ref CN) none H'
def a5N (ds:List Dt):Prop:=∃d∈ds,a2S d=false\/∃z,d=.str z/\1<ds.countP fun e=>a0u e z
def a7X (CN:Addr):Sp:=fun vs H _ E=>∃(p:Addr) (ys:List V) (ds:List Dt),vs=[.ref p]/\H p=some (.lst ys)/\a0V H ds ys/\a5N ds/\∀H',a0l H H'->E (.ref CN) none H'
def a3S (H:Hp)(p:V×V):Prop:=∃dk dv,Rep H dk p.1/\Rep H dv p.2/\a2S dk=true/\a1x dv=true
def a8D (H:Hp)(p:V×V):Prop:=∃dk dv,Rep H dk p.1/\Rep H dv p.2/\(a2S dk=false\/a1x dv=false)
def b0N (H:Hp)(a:Addr):Prop:=∃(l1:List (V×V)) (p:V×V) (l2:List (V×V)),((∃kvs:List (Key×V),H a=some (.dK kvs)/\kvs.map (fun q=>(kV q.1,q.2))=l1++p::l2)\/∃o,H a=some (.ext (a6o a o (l1++p::l2)))) ∧
 (∀q∈l1,a3S (a1k H a) q)/\a8D (a1k H a) p
theorem a3S.same {H H':Hp}{p:V×V}(s:a0l H H')(h:a3S H p):a3S H' p:=by
 obtain⟨dk,dv,h1,h2,h3⟩:=h;exact⟨dk,dv,h1.same s,h2.same s,h3⟩
theorem a8D.same {H H':Hp}{p:V×V}(s:a0l H H')(h:a8D H p):a8D H' p:=by
 obtain⟨dk,dv,h1,h2,h3⟩:=h;exact⟨dk,dv,h1.same s,h2.same s,h3⟩
theorem b0N.same {H H':Hp}{a:Addr}(s:a0l H H')(h:b0N H a):b0N H' a:=by
 obtain⟨l1,p,l2,h1,h2,h3⟩:=h;refine⟨l1,p,l2,?_,fun q hq=>(h2 q hq).same s.drop,h3.same s.drop⟩;rcases h1 with ⟨kvs,e,e2⟩ |⟨o,e⟩
 ·exact .inl ⟨kvs,s _ _ e,e2⟩
 ·exact .inr ⟨o,s _ _ e⟩
def a9Y (CN:Addr):Sp:=fun vs H _ E=>∃a,vs=[.ref a]/\b0N H a/\∀H',Sl a H H'->E (.ref CN) none H'
section
variable {P:Program}{w:World}{K:Fg0}{mg:Str->Option Value}{base:Heap}{CN:Addr}
theorem a9B {f sA:Addr}{fd:FuncData}(F:Fun K "ask_sorts" "ask_sorts" (top 30) f fd)(T:Tx6 K mg CN)(mS:mg "SIDE_SORTS"=some (.ref sA))(qS:∀H,SqT K H sA (a1v.map V.str)):a0K P w K mg base (CX1 P w) 1 f fd ["sorts"] (a8q CN):=by
 have sc:a0o ["sorts","sort"] ["sorts"] (a0f (top 30)):=.k (by decide +kernel);refine F.x.okX sc (fun vs H Q E h=>?_) (fun cdv A outer s H vs Q E hr h=>?_)
 ·obtain⟨p,ys,ds,rfl,_⟩:=h
  rfl
 ·obtain⟨p,ys,ds,rfl,hp,hrp,bad,q⟩:=h
  have hu:(A.deeper (envOfC "ask_sorts" (a0f (top 30)) s.heap.objs.size f cdv)).units+1<cLine:=by have:=a3A hr;omega
  refine⟨_,a0d (a0z (a0t (b2f hu) (a0N a1o (pv 0) a1a (a0Y a0e)) (a0O (a0a a0p a0b)) (a0w _)) (a0g (a2g rfl (a1Q T.xN (by rfl) T.mN (a0a a0p a0b)) a1M)) a0j)
   (a0g (a1H PassesOwn.leaving rfl (a1q (a0N a1o (pv 0) (a0Y a0e) a1a)) (a0n (i:=1) sc.nd rfl (Or.inl rfl))
    (a0g (a0z (a0t (a7O hu) (pv 1) (a0x (v:=.ref sA) (by rfl) mS rfl) (by with_unfolding_all rfl)) (a0g (a2g rfl (a1Q T.xN (by rfl) T.mN (a0a a0p a0b)) a1M)) a0j)))),?_⟩
  have hyl:=hrp.length;refine⟨_,rfl,_,rfl,p,_,rfl,SqL.of hp,fun p1 e1=>?_⟩;have c1:a6Z ys none (some 1)=ys.take 1:=by
   cases ys with
   |nil=>simp[a6Z]
   |cons a r=>rw[a4U (by decide) (by rw[List.length_cons];omega)];rfl
  rw[c1];have T1:=a0l.upd (o:=.lst (ys.take 1)) e1;refine⟨(by exact sl1),fun p2 e2=>?_⟩;have T2:=a0l.upd (o:=.lst [V.str "head"]) e2;have S2:=T1.trans T2;refine⟨p1,p2,_,ds.take 1,"head",rfl,rfl,SqL.of (T2 _ _ a0c),(a5q 1 hrp).same S2,(by rw[lT0];omega),SqL.of a0c,_,rfl,?_⟩;refine a3j (fun hc=>?_) (fun hc=>?_)
  ·exact⟨(by exact sl1),fun x nx hx=>⟨x,CN,none,rfl,a0c,nx,T.xN.cl,q _ (S2.trans (a1A hx))⟩⟩
  obtain⟨d0,dr,rfl,hh,hbad⟩:∃d0 dr,ds=d0::dr/\a0u d0 "head"=true/\∃d∈dr,a1v.any (a0u d)=false:=by
   cases ds with
   |nil=>exact absurd rfl hc
   |cons d0 dr=>
    have hh:a0u d0 "head"=true:=by
     cases e:a0u d0 "head" with
     |true=>rfl
     |false=>
      refine absurd ?_ hc
      show(!a0u d0 "head")=true
      rw[e];rfl
    refine⟨d0,dr,rfl,hh,?_⟩;have bad':(!a0u d0 "head" || dr.any fun d=>!a1v.any (a0u d))=true:=bad;rw[hh] at bad';obtain⟨d,hd,e⟩:=List.any_eq_true.mp (show(dr.any fun d=>!a1v.any (a0u d))=true by simpa using bad');exact⟨d,hd,by simpa using e⟩
  obtain⟨y0,yr,rfl,hr0,hrr⟩:∃y0 yr,ys=y0::yr/\Rep H d0 y0/\a0V H dr yr:=by unfold a0V at hrp;exact hrp
  refine⟨_,rfl,_,rfl,p,_,rfl,SqL.of (S2 _ _ hp),fun p3 e3=>?_⟩;rw[a2E (by decide) (by rw[List.length_cons];omega)];show ∃a,V.ref p3=.ref a/\_;have T3:=a0l.upd (o:=.lst yr) e3;refine⟨p3,rfl,⟨_,SqL.of a0c⟩,a2h (K:=K) (a:=p3) (xs:=yr) (fun j σ H4=>H4=upd _ p3 (.lst yr)/\(∃u,σ=[some (.ref p),u])/\∀i d,i<j->dr[i]? =some d->a1v.any (a0u d)=true) ⟨rfl,⟨_,rfl⟩,fun i z h=>absurd h (Nat.not_lt_zero _)⟩ (fun j σ H4 _ pp=>by rw[pp.1];exact SqL.of a0c) ?_ ?_⟩
  ·rintro j x σ H4 hx ⟨rfl,⟨u,rfl⟩,hin⟩
   obtain⟨d,hd,rd⟩:=hrr.get hx;refine⟨_,rfl,d,sA,a1v,rd.same (S2.trans T3),rfl,qS _,_,rfl,?_⟩;refine a3j (fun hc=>?_) (fun hc=>?_)
   ·exact⟨(by exact sl1),fun x nx hx=>⟨x,CN,none,rfl,a0c,nx,T.xN.cl,q _ ((S2.trans T3).trans (a1A hx))⟩⟩
   ·refine⟨rfl,⟨_,rfl⟩,fun i y hi hy=>?_⟩
    by_cases hij:i<j
    ·exact hin i y hij hy
    ·have:i=j:=by omega
     subst this;rw[hd] at hy;cases hy;cases e:a1v.any (a0u d) with
     |true=>rfl
     |false=>rw[e] at hc;exact absurd rfl hc
  ·rintro σ H4 ⟨rfl,⟨u,rfl⟩,hin⟩
   obtain⟨d,hd,hn⟩:=hbad;obtain⟨i,hi,e⟩:=List.mem_iff_getElem.mp hd
   have:=hin i d (by rw[hrr.length];exact hi) (by rw[gE0 hi,e])
   rw[hn] at this;cases this
theorem a8T {f fN:Addr}{fd fdN:FuncData}(F:Fun K "ask_names" "ask_names" (top 31) f fd)(T:Tx6 K mg CN)(DN:Df K mg "is_name" (top 22) fN fdN)(GN:a0K P w K mg base CX0 1 fN fdN ["thing"] (a3Y K)):a0K P w K mg base (CX1 P w) 2 f fd ["names"] (a7X CN):=by
 have sc:a0o ["names","name"] ["names"] (a0f (top 31)):=.k (by decide +kernel);have bN:=DN.fn.b1 "thing" (by intros;rfl);refine F.x.okX sc (fun vs H Q E h=>?_) (fun cdv A outer s H vs Q E hr h=>?_)
 ·obtain⟨p,ys,ds,rfl,_⟩:=h
  rfl
 ·obtain⟨p,ys,ds,rfl,hp,hrp,bad,q⟩:=h
  have hu:(A.deeper (envOfC "ask_names" (a0f (top 31)) s.heap.objs.size f cdv)).units+1<cLine:=by have:=a3A hr;omega
  refine⟨_,a0g (a1H PassesOwn.leaving rfl (a1q (pv 0)) (a0n (i:=1) sc.nd rfl (Or.inl rfl))
    (a0d (a0z (a1s (a0S (a0k GN hr (by rfl) DN.mg DN.fn.kp bN .nil a0G (a0a (pv 1) a0b)))) (a0g (a2g rfl (a1Q T.xN (by rfl) T.mN (a0a a0p a0b)) a1M)) a0j)
    (a0g (a0z (a0t a9f (a3J PySem.F.plainAttrs_list PySem.F.slot_list_count PySem.F.type_list_count (a7g hu) (pv 0) (a0a (pv 1) a0b)) a0e (a0w _)) (a0g (a2g rfl (a1Q T.xN (by rfl) T.mN (a0a a0p a0b)) a1M)) a0j)))),?_⟩
  refine⟨_,rfl,p,rfl,⟨_,SqL.of hp⟩,a2h (K:=K) (a:=p) (xs:=ys) (fun j σ H4=>a0l H H4/\(∃u,σ=[some (.ref p),u])/\∀i d,i<j->ds[i]? =some d->a2S d=true/\∀z,d=.str z->ds.countP (fun e=>a0u e z)<=1) ⟨a0l.refl H,⟨_,rfl⟩,fun i z h=>absurd h (Nat.not_lt_zero _)⟩ (fun j σ H4 _ pp=>SqL.of (pp.1 _ _ hp)) ?_ ?_⟩
  ·rintro j x σ H4 hx ⟨s4,⟨u,rfl⟩,hok⟩
   obtain⟨d,hd,rd⟩:=hrp.get hx;refine⟨_,rfl,?_⟩;unfold a8Q;refine a5r (rd.same s4) fun H5 s5=>⟨_,rfl,?_⟩;have S5:=s4.trans s5;refine a3j (fun hc=>?_) (fun hc=>?_)
   ·exact⟨(by exact sl1),fun x nx hx=>⟨x,CN,none,rfl,a0c,nx,T.xN.cl,q _ (S5.trans (a1A hx))⟩⟩
   have hn:a2S d=true:=by
    cases e:a2S d with
    |true=>rfl
    |false=>rw[e] at hc;exact absurd rfl hc
   obtain⟨z,rfl,hz⟩:=a7T hn;obtain⟨rfl,_⟩:x=.str z/\_:=by unfold Rep at rd;exact rd
   have hp5:=S5 _ _ hp;refine⟨_,rfl,.inl ⟨rfl,_,SqL.of hp5⟩,_,rfl,p,ys,ds,z,rfl,rfl,SqL.of hp5,hrp.same S5,_,_,rfl,rfl,_,rfl,?_⟩;refine a3j (fun hc=>?_) (fun hc=>?_)
   ·exact⟨(by exact sl1),fun x nx hx=>⟨x,CN,none,rfl,a0c,nx,T.xN.cl,q _ (S5.trans (a1A hx))⟩⟩
   have hcnt:ds.countP (fun e=>a0u e z)<=1:=by
    by_cases h:ds.countP (fun e=>a0u e z)<=1
    ·exact h
    ·exact absurd (dT0 (by omega)) hc
   refine⟨S5,⟨_,rfl⟩,fun i y hi hy=>?_⟩
   by_cases hij:i<j
   ·exact hok i y hij hy
   ·have:i=j:=by omega
    subst this;rw[hd] at hy;cases hy;exact⟨hn,fun z' e=>by cases e;exact hcnt⟩
  ·rintro σ H4 ⟨_,_,hok⟩
   obtain⟨d,hd,hb⟩:=bad;obtain⟨i,hi,e⟩:=List.mem_iff_getElem.mp hd;obtain⟨h1,h2⟩:=hok i d (by rw[hrp.length];exact hi) (by rw[gE0 hi,e]);rcases hb with hb |⟨z,rfl,hb⟩
   ·rw[hb] at h1;cases h1
   ·have:=h2 z rfl
    omega
theorem b1s {f fN fK:Addr}{fd fdN fdK:FuncData}(F:Fun K "columns_made" "columns_made" (top 32) f fd)(T:Tx6 K mg CN)(DN:Df K mg "is_name" (top 22) fN fdN)(GN:a0K P w K mg base CX0 1 fN fdN ["thing"] (a3Y K))(DK:Df K mg "is_kind" (top 26) fK fdK)(GK:a0K P w K mg base CX0 4 fK fdK ["thing"] a8u) :
  a0K P w K mg base (CX1 P w) 5 f fd ["columns"] (a9Y CN):=by
 have sc:a0o ["columns","column","kind"] ["columns"] (a0f (top 32)):=.k (by decide +kernel);have bN:=DN.fn.b1 "thing" (by intros;rfl);have bK:=DK.fn.b1 "thing" (by intros;rfl);refine F.x.okX sc (fun vs H Q E h=>?_) (fun cdv A outer s H vs Q E hr h=>?_)
 ·obtain⟨a,rfl,_⟩:=h
  rfl
 ·obtain⟨a,rfl,⟨l1,p,l2,hc,good,bad⟩,q⟩:=h
  have hr1:a1m 1 _:=hr.mono (by decide);refine⟨_,a0d (b2L (a1H PassesOwn.leaving rfl (b2A (pv 0)) (a3c rfl (a0q (a0n (i:=1) sc.nd rfl (Or.inl rfl)) (a0q (a0n (i:=2) sc.nd rfl (Or.inl rfl)) a1y)))
    (a0d (a0z (a1s (a0S (a0k GN hr1 (by rfl) DN.mg DN.fn.kp bN .nil a0G (a0a (pv 1) a0b)))) (a0g (a2g rfl (a1Q T.xN (by rfl) T.mN (a0a a0p a0b)) a1M)) a0j)
    (a0g (a0z (a1s (a0S (a0k GK hr (by rfl) DK.mg DK.fn.kp bK .nil a0G (a0a (pv 2) a0b)))) (a0g (a2g rfl (a1Q T.xN (by rfl) T.mN (a0a a0p a0b)) a1M)) a0j)))))
   a0D,?_⟩
  refine⟨a,l1++p::l2,hc,fun o H1 e1 fr=>?_⟩;have sd:a0l (a1k H a) H1:=fun b u e=>by
   have nb:b≠a:=fun h=>by subst h;simp[a1k] at e
   rw[a0U nb] at e;rw[fr b nb];exact e
  have hne:∀{H2:Hp},a0l H1 H2->Sl a H H2:=fun {H2} s2 b u nb e=>s2 b u (by rw[fr b nb];exact e);refine⟨_,rfl,a,o,_,rfl,e1,b1j (a:=a) (o:=o) (its:=l1++p::l2) (fun i σ H2=>i<=l1.length/\a0l H1 H2/\∃u1 u2,σ=[some (.ref a),u1,u2]) ⟨zL0 _,a0l.refl _,_,_,rfl⟩ (fun i σ H2 pp=>⟨by rw[lA0,List.length_cons];omega,pp.2.1 _ _ e1⟩) ?_⟩;rintro i k v' pa σ H2 hk ⟨hi,s1,u1,u2,rfl⟩ hp;have T1:=a0l.upd (o:=.tup [k,v']) hp;obtain⟨dk,dv,r1,r2,hg⟩:∃dk dv,Rep H1 dk k/\Rep H1 dv v'/\((i<l1.length/\a2S dk=true/\a1x dv=true)\/(a2S dk=false\/a1x dv=false)):=by
   by_cases hlt:i<l1.length
   ·rw[gL0 hlt] at hk
    obtain⟨dk,dv,a1,a2,a3⟩:=(good _ (gI0 hk)).same sd;exact⟨dk,dv,a1,a2,.inl ⟨hlt,a3⟩⟩
   ·have ei:i=l1.length:=by omega
    subst ei;rw[gR0 (nR0 _),Nat.sub_self] at hk;cases hk;obtain⟨dk,dv,a1,a2,a3⟩:=bad.same sd;exact⟨dk,dv,a1,a2,.inr a3⟩
  refine⟨pa,_,rfl,SqT.of a0c,rfl,_,_,rfl,_,_,rfl,rfl,?_⟩;refine⟨_,rfl,?_⟩;unfold a8Q;refine a5r (r1.same (s1.trans T1)) fun H5 s5=>⟨_,rfl,?_⟩;have S5:=s1.trans (T1.trans s5);refine a3j (fun hc'=>?_) (fun hc'=>?_)
  ·exact⟨(by exact sl1),fun x nx hx=>⟨x,CN,none,rfl,a0c,nx,T.xN.cl,q _ (hne (S5.trans (a1A hx)))⟩⟩
  refine⟨_,rfl,_,dv,rfl,r2.same S5,fun H6 s6=>⟨_,rfl,?_⟩⟩;refine a3j (fun hc2=>?_) (fun hc2=>?_)
  ·exact⟨(by exact sl1),fun x nx hx=>⟨x,CN,none,rfl,a0c,nx,T.xN.cl,q _ (hne ((S5.trans s6).trans (a1A hx)))⟩⟩
  rcases hg with ⟨hlt,_⟩ |hg
  ·exact⟨hlt,S5.trans s6,_,_,rfl⟩
  ·rcases hg with hg |hg
   ·rw[hg] at hc';exact absurd rfl hc'
   ·rw[hg] at hc2;exact absurd rfl hc2
structure PG where
 nm:V
 so:V
 nd:Dt
 sd:Dt
 d:Addr
def b1g (H:Hp)(e:Addr)(p:PG):Prop:=H e=some (.tup [p.nm,p.so,.ref p.d])/\Rep H p.nd p.nm/\Rep H p.sd p.so
theorem b1g.same {H H':Hp}{e:Addr}{p:PG}(s:a0l H H')(h:b1g H e p):b1g H' e p:=⟨s _ _ h.1,h.2.1.same s,h.2.2.same s⟩
def b1F (H:Hp)(l:Addr)(es:List Addr)(ps:List PG):Prop:=H l=some (.lst (es.map V.ref))/\es.length=ps.length/\∀(j:Nat) (e:Addr) (p:PG),es[j]? =some e->ps[j]? =some p->b1g H e p
def b2l (d:Dt):Prop:=a3d d=false\/∃i,d=.int i/\i<1
def SG (ps:List PG):Prop:=∃ss:List Str,ps.map (·.so)=(("head":Str)::ss).map V.str/\∀z∈ss,z∈a1v
def NG (ps:List PG):Prop:=∃zs:List Str,ps.map (·.nm)=zs.map V.str/\zs.Nodup/\∀z∈zs,a1w z=true
def CG (H:Hp)(es:List Addr)(ps:List PG)(a:Addr):Prop:=∃(j0:Nat) (p0:PG),ps[j0]? =some p0/\p0.d=a/\b0N H a/\∀(j:Nat) (e:Addr) (p:PG),j<j0->es[j]? =some e->ps[j]? =some p->∃cols,H p.d=some (.dK (kvC cols))/\a1J H cols
def b1R (H:Hp)(sd:Dt)(es:List Addr)(ps:List PG)(C:Hp->Prop):Prop:=
 (b2l sd/\∀H',a0l H H'->C H')\/(∃i,sd=.int i/\1<=i/\((a2Q (ps.map (·.sd))=true/\∀H',a0l H H'->C H')\/(SG ps/\a5N (ps.map (·.nd))/\∀H',a0l H H'->C H')\/(SG ps/\NG ps/\∃a,CG H es ps a/\∀H',Sl a H H'->C H')))
def a8L (CN:Addr):Sp:=fun vs H _ E=>∃(sv:V) (sd:Dt) (l:Addr) (es:List Addr) (ps:List PG),vs=[sv,.ref l]/\Rep H sd sv/\b1F H l es ps/\ps.length<=9/\b1R H sd es ps (E (.ref CN) none)
theorem a5R {H:Hp}(f:PG->V)(g:PG->Dt):∀{ps:List PG},(∀p∈ps,Rep H (g p) (f p))->a0V H (ps.map g) (ps.map f)
 |[],_=>a0T
 |p::ps,h=>a0y (h p List.mem_cons_self) (a5R f g fun q hq=>h q (mL0 _ hq))
theorem a9h {f fW fS fN fC:Addr}{fd fdW fdS fdN fdC:FuncData}(F:Fun K "form_of" "form_of" (top 29) f fd)(T:Tx6 K mg CN)
  (DW:Df K mg "is_whole" (top 21) fW fdW) (GW:a0K P w K mg base CX0 1 fW fdW ["thing"] (a4d K)) (DS:Df K mg "ask_sorts" (top 30) fS fdS) (GS:a0K P w K mg base (CX1 P w) 1 fS fdS ["sorts"] (b3d a8w (a8q CN))) (DN:Df K mg "ask_names" (top 31) fN fdN) (GN:a0K P w K mg base (CX1 P w) 2 fN fdN ["names"] (b3d a8o (a7X CN)))
  (DC:Df K mg "columns_made" (top 32) fC fdC) (GC:a0K P w K mg base (CX1 P w) 5 fC fdC ["columns"] (b3d a8A (a9Y CN))):a0K P w K mg base (CX1 P w) 6 f fd ["size","tables"] (a8L CN):=by
 have sc:a0o ["size","tables","made","sides"] ["size","tables"] (a0f (top 29)):=.k (by decide +kernel);have n3:(["name","sort","columns"]:List Str).Nodup:=by decide +kernel
 have bW:=DW.fn.b1 "thing" (by intros;rfl);have bS:=DS.fn.b1 "sorts" (by intros;rfl);have bN:=DN.fn.b1 "names" (by intros;rfl);have bC:=DC.fn.b1 "columns" (by intros;rfl);refine F.x.okX sc (fun vs H Q E h=>?_) (fun cdv A outer s H vs Q E hr h=>?_)
 ·obtain⟨sv,sd,l,es,ps,rfl,_⟩:=h
  rfl
 ·obtain⟨sv,sd,l,es,ps,rfl,rs,⟨hl,e1l,hes⟩,t9,bad⟩:=h
  have hr1:a1m 1 _:=hr.mono (by decide);have hr2:a1m 2 _:=hr.mono (by decide);refine⟨_,a0d (a0z (PW.pt (a3M (a1s (a0S (a0k GW hr1 (by rfl) DW.mg DW.fn.kp bW .nil a0G (a0a (pv 0) a0b)))) (a3a (a0t a9z (pv 0) a0e (a0w _))))) (a0g (a2g rfl (a1Q T.xN (by rfl) T.mN (a0a a0p a0b)) a1M)) a0j)
   (a0d (a1r (a3g GS hr1 (by rfl) DS.mg DS.fn.kp bS .nil a1M (a0a (a2f (osc:=a0f (top 29)) (N0:=["size","tables","made","sides"]) (xs:=["name","sort","columns"]) (fr:=[]) ⟨rfl,by decide +kernel,by decide +kernel,by decide +kernel,by decide,by decide +kernel⟩ rfl rfl rfl (a1q (pv 1))
     (fun s H fp=>a2U (K:=K) (n:=3) rfl rfl (a0q (a0n (i:=0) n3 rfl (Or.inl rfl)) (a0q (a0n (i:=1) n3 rfl (Or.inl rfl)) (a0q (a0n (i:=2) n3 rfl (Or.inl rfl)) a1y)))) (fun s H fp=>a1U)
     (fun s H fp=>pv 1)) a0b)))
   (a0d (a1r (a3g GN hr2 (by rfl) DN.mg DN.fn.kp bN .nil a1M (a0a (a2f (osc:=a0f (top 29)) (N0:=["size","tables","made","sides"]) (xs:=["name","sort","columns"]) (fr:=[]) ⟨rfl,by decide +kernel,by decide +kernel,by decide +kernel,by decide,by decide +kernel⟩ rfl rfl rfl (a1q (pv 1))
     (fun s H fp=>a2U (K:=K) (n:=3) rfl rfl (a0q (a0n (i:=0) n3 rfl (Or.inl rfl)) (a0q (a0n (i:=1) n3 rfl (Or.inl rfl)) (a0q (a0n (i:=2) n3 rfl (Or.inl rfl)) a1y)))) (fun s H fp=>a1U)
     (fun s H fp=>pv 0)) a0b)))
   (a0d (a9y (EX:=E) rfl rfl a7x (i:=2) (osc:=a0f (top 29)) (N0:=["size","tables","made","sides"]) (xs:=["name","sort","columns"]) (fr:=[]) ⟨rfl,by decide +kernel,by decide +kernel,by decide +kernel,by decide,by decide +kernel⟩ rfl rfl rfl (a1q (pv 1))
     (fun s H fp=>a2U (K:=K) (n:=3) rfl rfl (a0q (a0n (i:=0) n3 rfl (Or.inl rfl)) (a0q (a0n (i:=1) n3 rfl (Or.inl rfl)) (a0q (a0n (i:=2) n3 rfl (Or.inl rfl)) a1y)))) (fun s H fp=>a1U)
     (fun s H fp=>a0L (a0a (pv 0) (a0a (pv 1) (a0a (a3g GC hr (by rfl) DC.mg DC.fn.kp bC .nil a6P (a0a (pv 2) a0b)) a0b)))) sc.nd rfl (Or.inl rfl))
   a0D))),?_⟩
  rcases bad with ⟨hb |⟨i,rfl,hi⟩,q⟩ |⟨sz,rfl,sz1,bad⟩
  ·refine⟨_,rfl,sv,tyD sd,rfl,Rep.is rs,_,rfl,?_⟩
   rw[a2I,hb];exact a3R ⟨(by exact sl1),fun x nx hx=>⟨x,CN,none,rfl,a0c,nx,T.xN.cl,q _ (a1A hx)⟩⟩
  ·unfold Rep at rs
   subst rs;refine⟨_,rfl,.int i,"int",rfl,Is.int,_,rfl,a2d (by decide) ?_⟩;refine⟨_,rfl,_,_,rfl,rfl,_,rfl,a3K (dT0 (by omega)) ?_⟩;exact⟨(by exact sl1),fun x nx hx=>⟨x,CN,none,rfl,a0c,nx,T.xN.cl,q _ (a1A hx)⟩⟩
  unfold Rep at rs;subst rs;refine⟨_,rfl,.int sz,"int",rfl,Is.int,_,rfl,a2d (by decide) ?_⟩;refine⟨_,rfl,_,_,rfl,rfl,_,rfl,a2d (dF0 (by omega)) ?_⟩;refine⟨_,rfl,l,rfl,⟨_,SqL.of hl⟩,fun D2 hD2=>?_⟩;have S:=a0l.refl H;refine a1O ps.length (fun i=>(ps.map (·.so)).getD i .non) (fun i σ' Hc=>(∃t0 t1 t2,σ'=[t0,t1,t2])/\a0l H Hc) (by rw[sizeLine_eq];omega) ⟨⟨_,_,_,rfl⟩,a0l.upd hD2⟩ a0c ?_ ?_
  ·rintro i σ' Hc hi ⟨⟨t0,t1,t2,rfl⟩,sm⟩ hD'
   have hie:i<es.length:=by omega
   have sc:=S.trans sm;have pt:=(hes i es[i] ps[i] (gE0 hie) (gE0 hi)).1;refine⟨⟨_,V.ref es[i],SqL.of (sc _ _ hl),by rw[gM0,gE0 hie];rfl⟩,?_⟩;rintro x H' ⟨rfl,hx'⟩;have ex:=hx' _ (SqL.of (sc _ _ hl));rw[gM0,gE0 hie] at ex;cases ex;refine⟨_,_,rfl,SqT.of (sc _ _ pt),rfl,_,_,rfl,_,_,rfl,_,_,rfl,rfl,_,rfl,?_,hD',⟨_,_,_,rfl⟩,sm.put hD2⟩;rw[List.getD_eq_getElem?_getD,gM0,gE0 hi]
   rfl
  rintro σ2 H2 ⟨_,sm2⟩ hDn2;refine⟨⟨_,SqL.of (sm2 _ _ hl),by rw[lM0];omega⟩,?_⟩;rw[show(List.range ps.length).map (fun i=>(ps.map (·.so)).getD i .non)=ps.map (·.so) from by
   have:=a1l (ps.map (·.so)) V.non (fun z=>z)
   rw[lM0,List.map_id'] at this;exact this] at hDn2
  have rp:∀p∈ps,Rep H p.nd p.nm/\Rep H p.sd p.so:=fun p hp=>by
   obtain⟨j,hj,e⟩:=List.mem_iff_getElem.mp hp;subst e;exact(hes j es[j] ps[j] (gE0 (by omega)) (gE0 hj)).2
  rcases bad with ⟨bs,q⟩ |bad
  ·exact Or.inr ⟨D2,_,_,rfl,hDn2,a5R _ _ fun p hp=>(rp p hp).2.same sm2,bs,fun H' s'=>q H' (sm2.trans s')⟩
  obtain⟨ss,ess,hss⟩:SG ps:=by
   rcases bad with h |h
   ·exact h.1
   ·exact h.1
  refine Or.inl ⟨D2,ss,rfl,(by rw[hDn2,ess]),hss,fun H3 s3=>?_⟩;clear S;have S:a0l H H3:=sm2.trans s3;refine⟨_,rfl,l,rfl,⟨_,SqL.of (S _ _ hl)⟩,fun D4 hD4=>?_⟩;refine a1O ps.length (fun i=>(ps.map (·.nm)).getD i .non) (fun i σ' Hc=>(∃t0 t1 t2,σ'=[t0,t1,t2])/\a0l H3 Hc) (by rw[sizeLine_eq];omega) ⟨⟨_,_,_,rfl⟩,a0l.upd hD4⟩ a0c ?_ ?_
  ·rintro i σ' Hc hi ⟨⟨t0,t1,t2,rfl⟩,sm⟩ hD'
   have hie:i<es.length:=by omega
   have sc:=S.trans sm;have pt:=(hes i es[i] ps[i] (gE0 hie) (gE0 hi)).1;refine⟨⟨_,V.ref es[i],SqL.of (sc _ _ hl),by rw[gM0,gE0 hie];rfl⟩,?_⟩;rintro x H' ⟨rfl,hx'⟩;have ex:=hx' _ (SqL.of (sc _ _ hl));rw[gM0,gE0 hie] at ex;cases ex;refine⟨_,_,rfl,SqT.of (sc _ _ pt),rfl,_,_,rfl,_,_,rfl,_,_,rfl,rfl,_,rfl,?_,hD',⟨_,_,_,rfl⟩,sm.put hD4⟩;rw[List.getD_eq_getElem?_getD,gM0,gE0 hi]
   rfl
  rintro σ4 H4 ⟨_,sm4⟩ hDn4;have S4:=S.trans sm4;refine⟨⟨_,SqL.of (S4 _ _ hl),by rw[lM0];omega⟩,?_⟩;rw[show(List.range ps.length).map (fun i=>(ps.map (·.nm)).getD i .non)=ps.map (·.nm) from by
   have:=a1l (ps.map (·.nm)) V.non (fun z=>z)
   rw[lM0,List.map_id'] at this;exact this] at hDn4
  rcases bad with ⟨_,bn,q⟩ |⟨_,⟨zs,ezs,ndz,hzs⟩,a,⟨j0,p0,hp0,ha0,bc,good⟩,q⟩
  ·exact Or.inr ⟨D4,_,_,rfl,hDn4,a5R _ _ fun p hp=>(rp p hp).1.same S4,bn,fun H' s'=>q H' (S4.trans s')⟩
  refine Or.inl ⟨D4,zs,rfl,(by rw[hDn4,ezs]),ndz,hzs,fun H5 s5=>?_⟩;have S5:a0l H H5:=S4.trans s5;have hj0:j0<ps.length:=(gS0.mp hp0).1;refine⟨_,rfl,l,rfl,⟨_,SqL.of (S5 _ _ hl)⟩,fun D6 hD6=>?_⟩;have hD60:H D6=none:=by
   cases e:H D6 with
   |none=>rfl
   |some o=>rw[S5 _ _ e] at hD6;cases hD6
  refine a2L ps.length (fun i ys σ' Hc=>(∃t0 t1 t2,σ'=[t0,t1,t2])/\a0l H Hc/\i<=j0) (by rw[sizeLine_eq];omega) ⟨⟨_,_,_,rfl⟩,S5.trans (a0l.upd hD6),zL0 _⟩ a0c ?_ ?_
  ·rintro i σ' Hc ys hi ⟨⟨t0,t1,t2,rfl⟩,sm,hij⟩ hyl hD'
   have hie:i<es.length:=by omega
   have pt:=(hes i es[i] ps[i] (gE0 hie) (gE0 hi)).1;refine⟨⟨_,V.ref es[i],SqL.of (sm _ _ hl),by rw[gM0,gE0 hie];rfl⟩,?_⟩;rintro x H' ⟨rfl,hx'⟩;have ex:=hx' _ (SqL.of (sm _ _ hl));rw[gM0,gE0 hie] at ex;cases ex;refine⟨_,_,rfl,SqT.of (sm _ _ pt),rfl,_,_,rfl,_,_,rfl,_,_,rfl,rfl,?_⟩
   by_cases hlt:i<j0
   ·obtain⟨cols,g1,g2⟩:=good i es[i] ps[i] hlt (gE0 hie) (gE0 hi)
    refine⟨_,rfl,_,rfl,_,rfl,Or.inl ⟨_,cols,rfl,sm _ _ g1,g2.same sm,fun t H7 s7 hct=>?_⟩⟩;refine⟨(by exact sl3),fun p hp=>?_⟩;have T:=a0l.upd (o:=.tup [ps[i].nm,ps[i].so,.ref t]) hp;exact⟨T _ _ (s7 _ _ hD'),⟨_,_,_,rfl⟩,((sm.trans s7).trans T).put hD60,hlt⟩
   ·have:i=j0:=by omega
    subst this;rw[gE0 hi] at hp0;cases hp0;subst ha0;exact⟨_,rfl,_,rfl,_,rfl,Or.inr ⟨_,rfl,bc.same sm,fun H' sl=>q H' fun b o nb e=>sl b o nb (sm b o e)⟩⟩
  ·rintro σ' Hc ys ⟨_,_,h⟩ _ _
   exact absurd h (by omega)
end
structure Wd6 (K:Fg0) (CT CS CO CN:Addr) (c5 c7:List Addr) (C:Addr):Prop where
 xi:XIs K C
 un:a9a K C CT
 isT:PySem.W.kitOne K (.ref C) (.ref CT)=some true
 isV:PySem.W.kitOne K (.ref C) (.type "ValueError")=some true
 isF:PySem.W.kitOne K (.ref C) (.ref CN)=some true
 isS:PySem.W.kitOne K (.ref C) (.ref CS)=some false
 isO:PySem.W.kitOne K (.ref C) (.ref CO)=some false
 is5:PySem.W.kitAny K (.ref C) (c5.map .ref)=some false
 is7:PySem.W.kitAny K (.ref C) (c7.map .ref)=some false
structure Rf6 (K:Fg0) (mg:Str->Option Value) (CT CS CO CN:Addr) (a1 a2 a3 a4 a5 b1 b2 b3 b4 b5 b6 b7:Addr):Prop where
 mT:mg "TableError"=some (.ref CT)
 mS:mg "StepError"=some (.ref CS)
 mO:mg "NoTable"=some (.ref CO)
 mN:mg "NoForm"=some (.ref CN)
 xT:XCl K CT
 m1:mg "NoMove"=some (.ref a1)
 m2:mg "NoRow"=some (.ref a2)
 m3:mg "NoText"=some (.ref a3)
 m4:mg "NotDone"=some (.ref a4)
 m5:mg "TooMany"=some (.ref a5)
 k1:mg "BadRow"=some (.ref b1)
 k2:mg "Taken"=some (.ref b2)
 k3:mg "Missing"=some (.ref b3)
 k4:mg "Lone"=some (.ref b4)
 k5:mg "Gap"=some (.ref b5)
 k6:mg "Twice"=some (.ref b6)
 k7:mg "Nowhere"=some (.ref b7)
 nV:mg "ValueError"=none
 wN:Wd6 K CT CS CO CN [a1,a2,a3,a4,a5] [b1,b2,b3,b4,b5,b6,b7] CN
theorem boot_verr:bootBuiltins "ValueError"=some (.type "ValueError"):=by decide +kernel
def Got (H:Hp)(x C:Addr)(od:Option Addr):Prop:=H x=some (.ext (a6i x C od))/\∀dx,od=some dx->∃fs,H dx=some (.ext (a5T dx fs))
theorem Got.same {H H':Hp}{x C:Addr}{od:Option Addr}(h:Got H x C od)(s:a0l H H'):Got H' x C od:=⟨s _ _ h.1,fun dx e=>let ⟨fs,h'⟩:=h.2 dx e;⟨fs,s _ _ h'⟩⟩
theorem Got.put {H:Hp}{x C d:Addr}{od:Option Addr}{ys:List V}{o:HO}(h:Got H x C od)(hd:H d=some (.lst ys)):Got (L2.upd H d o) x C od:=by
 refine⟨?_,fun dx e=>?_⟩
 ·rw[a0h (fun q=>by have:=h.1;rw[q,hd] at this;cases this)];exact h.1
 ·obtain⟨fs,h'⟩:=h.2 dx e
  exact⟨fs,by rw[a0h (fun q=>by rw[q,hd] at h';cases h')];exact h'⟩
theorem a3v:∀{l:List Addr} {us:List Value},a1g (l.map V.ref) us->us=l.map .ref
 |[],_,r=>by cases r;rfl
 |a::l,_,r=>by
  rw[mN0] at r;cases r with
  |cons r1 r=>
   cases(show _=Value.ref a from r1)
   rw[a3v r]
   rfl
def a2P:List Str:=["any","form"]
def a7y (CT CS CO CN:Addr)(c5 c7:List Addr)(K:Fg0):Sp:=fun vs H Q _=>∃(x C:Addr) (od:Option Addr),vs=[.ref x]/\Got H x C od/\Wd6 K CT CS CO CN c5 c7 C/\∀p H',a0l H H'->H' p=some (.lst (a2P.map V.str))->Q (.ref p) H'
theorem b1R.mono {H:Hp}{sd:Dt}{es:List Addr}{ps:List PG}{C C':Hp->Prop}(m:∀H',C H'->C' H')(h:b1R H sd es ps C):b1R H sd es ps C':=by
 rcases h with ⟨h,q⟩ |⟨i,e,h1,⟨h,q⟩ |⟨h,h',q⟩ |⟨h,h',a,h2,q⟩⟩
 ·exact .inl ⟨h,fun H' s=>m _ (q H' s)⟩
 ·exact .inr ⟨i,e,h1,.inl ⟨h,fun H' s=>m _ (q H' s)⟩⟩
 ·exact .inr ⟨i,e,h1,.inr (.inl ⟨h,h',fun H' s=>m _ (q H' s)⟩)⟩
 ·exact .inr ⟨i,e,h1,.inr (.inr ⟨h,h',a,h2,fun H' s=>m _ (q H' s)⟩)⟩
def b0x:Sp:=fun vs H Q _=>∃(sv:V) (sd:Dt) (l:Addr) (es:List Addr) (ps:List PG),vs=[sv,.ref l]/\Rep H sd sv/\b1F H l es ps/\ps.length<=9/\b1R H sd es ps fun H'=>∀p H2,a0l H' H2->H2 p=some (.lst (a2P.map V.str))->Q (.ref p) H2
section
variable {P:Program}{w:World}{K:Fg0}{mg:Str->Option Value}{base:Heap}{CT CS CO CN a1 a2 a3 a4 a5 b1 b2 b3 b4 b5 b6 b7:Addr}
theorem a9A {f:Addr}{fd:FuncData}(F:Fun K "_law_words" "_law_words" (top 44) f fd)(B:Bl mg)(R:Rf6 K mg CT CS CO CN a1 a2 a3 a4 a5 b1 b2 b3 b4 b5 b6 b7):a0K P w K mg base CX0 1 f fd ["_law_caught"] (a7y CT CS CO CN [a1,a2,a3,a4,a5] [b1,b2,b3,b4,b5,b6,b7] K):=by
 have sc:a0o ["_law_caught","_law_words_here"] ["_law_caught"] (a0f (top 44)):=.k (by decide +kernel);refine F.ok sc (fun vs H Q E h=>?_) (fun cdv A outer s H vs Q E hr h=>?_)
 ·obtain⟨x,C,od,rfl,_⟩:=h
  rfl
 ·obtain⟨x,C,od,rfl,hx,W,q⟩:=h
  refine⟨_,a0d (a0z (a0t b1X (pv 0) a3U (a0w _)) a0D a0j)
   (a0d (a0s (i:=1) sc.nd rfl (Or.inl rfl) (a0O a0b))
   (a0d (a0z (PW.pt (b0i (a0S (a0i a0C (by rfl) B.isi boot_isi (a0a (pv 0) (a0a (a0x (v:=.ref CT) (by rfl) R.mT rfl) a0b)))) (a7S (a0S (a0i a0C (by rfl) B.isi boot_isi (a0a (pv 0) (a0a (a1b (v:=.ty "ValueError") (by rfl) R.nV boot_verr rfl) a0b))))))) (a0g (a1r (a3J PySem.F.plainAttrs_list PySem.F.slot_list_append PySem.F.type_list_append a2Z (pv 1) (a0a a0p a0b)))) a0j)
   (a0d (a0z (a0S (a0i a0C (by rfl) B.isi boot_isi (a0a (pv 0) (a0a (a0x (v:=.ref CN) (by rfl) R.mN rfl) a0b)))) (a0g (a1r (a3J PySem.F.plainAttrs_list PySem.F.slot_list_append PySem.F.type_list_append a2Z (pv 1) (a0a a0p a0b)))) a0j)
   (a0d (a0z (a0S (a0i a0C (by rfl) B.isi boot_isi (a0a (pv 0) (a0a (a0x (v:=.ref CS) (by rfl) R.mS rfl) a0b)))) (a0g (a1r (a3J PySem.F.plainAttrs_list PySem.F.slot_list_append PySem.F.type_list_append a2Z (pv 1) (a0a a0p a0b)))) a0j)
   (a0d (a0z (a0S (a0i a0C (by rfl) B.isi boot_isi (a0a (pv 0) (a0a (a0x (v:=.ref CO) (by rfl) R.mO rfl) a0b)))) (a0g (a1r (a3J PySem.F.plainAttrs_list PySem.F.slot_list_append PySem.F.type_list_append a2Z (pv 1) (a0a a0p a0b)))) a0j)
   (a0d (a0z (a0S (a0i a4M (by rfl) B.isi boot_isi (a0a (pv 0) (a0a (a0L (a0a (a0x (v:=.ref a1) (by rfl) R.m1 rfl) (a0a (a0x (v:=.ref a2) (by rfl) R.m2 rfl) (a0a (a0x (v:=.ref a3) (by rfl) R.m3 rfl) (a0a (a0x (v:=.ref a4) (by rfl) R.m4 rfl) (a0a (a0x (v:=.ref a5) (by rfl) R.m5 rfl) a0b)))))) a0b)))) a0D a0j)
   (a0d (a0z (a0S (a0i a4M (by rfl) B.isi boot_isi (a0a (pv 0) (a0a (a0L (a0a (a0x (v:=.ref b1) (by rfl) R.k1 rfl) (a0a (a0x (v:=.ref b2) (by rfl) R.k2 rfl) (a0a (a0x (v:=.ref b3) (by rfl) R.k3 rfl) (a0a (a0x (v:=.ref b4) (by rfl) R.k4 rfl) (a0a (a0x (v:=.ref b5) (by rfl) R.k5 rfl) (a0a (a0x (v:=.ref b6) (by rfl) R.k6 rfl) (a0a (a0x (v:=.ref b7) (by rfl) R.k7 rfl) a0b)))))))) a0b)))) a0D a0j)
   (a0g (a0r (pv 1)))))))))),?_⟩
  have one:∀{D:Addr} {b:Bool},PySem.W.kitOne K (.ref C) (.ref D)=some b->∀u,a0X (.ref D) u->PySem.W.kitOne K (.ref C) u=some b:=fun {D b} h u r=>by cases(show u=Value.ref D from r);exact h
  refine⟨_,rfl,rfl,_,rfl,a2d (dF0 (by simp)) ?_⟩;refine⟨zL0 _,fun d hd=>?_⟩;have T1:=a0l.upd (o:=.lst []) hd;have g1:=hx.same T1;have hd0:(L2.upd H d (.lst [])) d=some (.lst []):=a0c;refine⟨_,rfl,x,C,od,_,true,rfl,g1.1,g1.2,W.xi,one W.isT,_,rfl,a3R ?_⟩;refine⟨_,rfl,x,C,od,_,true,rfl,g1.1,g1.2,W.xi,(fun u r=>by cases(show u=Value.type "ValueError" from r);exact W.isV),_,rfl,a3R ?_⟩;refine⟨_,rfl,.inl ⟨rfl,_,SqL.of hd0⟩,d,_,_,rfl,rfl,hd0,(by decide),?_⟩;have g2:=g1.put (o:=.lst ([]++[V.str "any"])) hd0;have S2:a0l H (L2.upd (L2.upd H d (.lst [])) d (.lst ([]++[V.str "any"]))):=T1.put hd;have hd2:(L2.upd (L2.upd H d (.lst [])) d (.lst ([]++[V.str "any"]))) d=some (.lst [V.str "any"]):=a0c;generalize L2.upd (L2.upd H d (.lst [])) d (.lst ([]++[V.str "any"]))=H2 at *;have app:∀{Hc:Hp} {ys:List V} {v:V},a0l H Hc->Got Hc x C od->Hc d=some (.lst ys)->a0l H (L2.upd Hc d (.lst (ys++[v])))/\Got (L2.upd Hc d (.lst (ys++[v]))) x C od:=fun s g h=>⟨s.put hd,g.put h⟩;refine⟨_,rfl,x,C,od,_,true,rfl,g2.1,g2.2,W.xi,one W.isF,_,rfl,a3R ?_⟩;refine⟨_,rfl,.inl ⟨rfl,_,SqL.of hd2⟩,d,_,_,rfl,rfl,hd2,(by decide),?_⟩;obtain⟨S3,g3⟩:=app (v:=V.str "form") S2 g2 hd2;have hd3:(L2.upd H2 d (.lst ([V.str "any"]++[V.str "form"]))) d=some (.lst (a2P.map V.str)):=a0c;generalize L2.upd H2 d (.lst ([V.str "any"]++[V.str "form"]))=H5 at *;refine⟨_,rfl,x,C,od,_,false,rfl,g3.1,g3.2,W.xi,one W.isS,_,rfl,a2z ?_⟩;refine⟨_,rfl,x,C,od,_,false,rfl,g3.1,g3.2,W.xi,one W.isO,_,rfl,a2z ?_⟩;refine⟨_,rfl,(by exact sl5),fun p hp=>?_⟩;have T6:=a0l.upd (o:=.tup ([a1,a2,a3,a4,a5].map V.ref)) hp;refine⟨x,C,od,p,[a1,a2,a3,a4,a5].map V.ref,false,rfl,T6 _ _ g3.1,(g3.same T6).2,W.xi,SqT.of a0c,(fun us r=>by rw[a3v r];exact W.is5),_,rfl,a2z ?_⟩;refine⟨_,rfl,(by exact sl7),fun p' hp'=>?_⟩;have T7:=a0l.upd (o:=.tup ([b1,b2,b3,b4,b5,b6,b7].map V.ref)) hp';refine⟨x,C,od,p',[b1,b2,b3,b4,b5,b6,b7].map V.ref,false,rfl,(T6.trans T7) _ _ g3.1,(g3.same (T6.trans T7)).2,W.xi,SqT.of a0c,(fun us r=>by rw[a3v r];exact W.is7),_,rfl,a2z ?_⟩;exact⟨_,rfl,q d _ (S3.trans (T6.trans T7)) ((T6.trans T7) _ _ hd3)⟩
theorem a6N {f fF fW:Addr}{fd fdF fdW:FuncData}(F:Fun K "_law_refused" "_law_refused" (top 52) f fd)(B:Bl mg)(R:Rf6 K mg CT CS CO CN a1 a2 a3 a4 a5 b1 b2 b3 b4 b5 b6 b7)(DF:Df K mg "form_of" (top 29) fF fdF)(GF:a0K P w K mg base (CX1 P w) 6 fF fdF ["size","tables"] (a8L CN))(DW:Df K mg "_law_words" (top 44) fW fdW) :
  a0K P w K mg base CX0 7 f fd ["_law_size_here","_law_parts"] b0x:=by
 have sc:a0o ["_law_size_here","_law_parts","_law_caught","_law_e"] ["_law_size_here","_law_parts"] (a0f (top 52)):=.k (by decide +kernel);have GW:a0K P w K mg base CX0 1 fW fdW ["_law_caught"] (a7y CT CS CO CN [a1,a2,a3,a4,a5] [b1,b2,b3,b4,b5,b6,b7] K):=a9A DW.fn B R;have bF:=DF.fn.b2 "size" "tables" (by intros;rfl);have bW:=DW.fn.b1 "_law_caught" (by intros;rfl);refine F.ok sc (fun vs H Q E h=>?_) (fun cdv A outer s H vs Q E hr h=>?_)
 ·obtain⟨sv,sd,l,es,ps,rfl,_⟩:=h
  rfl
 ·obtain⟨sv,sd,l,es,ps,rfl,rs,hl,h9,bad⟩:=h
  have hr1:a1m 1 _:=hr.mono (by decide);refine⟨_,a0d (a0s (i:=2) sc.nd rfl (Or.inl rfl) a3U)
   (a0d (b1y (i:=3) rfl rfl sc.nd rfl rfl (by rfl) R.mT R.xT
    (fun D pn XE L=>a0g (a1r (a3g GF hr (by rfl) DF.mg DF.fn.kp bF .nil L (a0a (pv 0) (a0a (pv 1) a0b)))))
    (fun x C=>a0g (a0s (i:=2) sc.nd rfl (Or.inl rfl) (pv 3))))
   (a0g (a0r (a0k GW hr1 (by rfl) DW.mg DW.fn.kp bW .nil a0G (a0a (pv 2) a0b))))),?_⟩
  refine⟨_,rfl,_,rfl,sv,sd,l,es,ps,rfl,rs,hl,h9,bad.mono fun H' q=>⟨CN,rfl,R.wN.un,fun x hx=>?_⟩⟩;refine⟨_,rfl,?_⟩;have T1:=a0l.upd (o:=.ext (a6i x CN none)) hx;exact⟨_,rfl,x,CN,none,rfl,⟨a0c,(fun _ e=>nomatch e)⟩,R.wN,fun p H2 s2 hp=>q p H2 (T1.trans s2) hp⟩
end
end My
namespace L2
open PySem PySem.Spec PyProof.Rows
def fl (z:Str)(n p:Int):List (Str×V):=a4Y "place" (.int p) (a4Y "key" (.int n) [(("table":Str),V.str z)])
theorem fl_t (z:Str)(n p:Int):(fl z n p).lookup ("table":Str)=some (.str z):=rfl
theorem fl_k (z:Str)(n p:Int):(fl z n p).lookup ("key":Str)=some (.int n):=rfl
theorem fl_p (z:Str)(n p:Int):(fl z n p).lookup ("place":Str)=some (.int p):=rfl
def StE (H:Hp)(x C:Addr)(z:Str)(n p:Int):Prop:=∃dx,H x=some (.ext (a6i x C (some dx)))/\H dx=some (.ext (a5T dx (fl z n p)))
theorem StE.same {H H':Hp}{x C:Addr}{z:Str}{n p:Int}(s:a0l H H')(h:StE H x C z n p):StE H' x C z n p:=let ⟨dx,a,b⟩:=h;⟨dx,s _ _ a,s _ _ b⟩
structure AtS (K:Fg0) (C:Addr):Prop where
 n1:a2x K C "table"
 n2:a2x K C "key"
 n3:a2x K C "place"
def b3u (K:Fg0):Sp:=fun vs H Q _=>∃(x C:Addr) (z:Str) (n p:Int),vs=[.ref x,.str z,.int n,.int p]/\XCl K C/\AtS K C/\H x=some (.ext (a3Z x C none)) ∧
 ∀dx H',H dx=none->dx≠x->H' x=some (.ext (a3Z x C (some dx)))->H' dx=some (.ext (a5T dx (fl z n p)))->(∀b,b≠x->b≠dx->H' b=H b)->Q .non H'
def b3g (K:Fg0):Sp:=fun vs H Q _=>∃(x C:Addr) (n:Int),vs=[.ref x,.int n]/\XCl K C/\a2x K C "move"/\H x=some (.ext (a3Z x C none)) ∧
 ∀dx,H dx=none->dx≠x->Q .non (upd (upd H dx (.ext (a5T dx [(("move":Str),V.int n)]))) x (.ext (a3Z x C (some dx))))
def tGot (t:TE):TE:=fun σ H Q=>t σ H fun v H1=>∃x C od,v=.ref x/\H1 x=some (.ext (a3Z x C od))/\Q v (upd H1 x (.ext (a6i x C od)))
section
variable {X:Cx}{e:Expr}{t:TE}
theorem a5V (h:PE X e t):PE X e (tGot t):=by
 intro U s σ H Q I hq;refine wpAny_mono (h U s σ H _ I hq) (fun v s' ⟨y,H',I',ry,x,C,od,ey,ex,q⟩=>?_) fun _ _ z=>z;obtain⟨⟨tt,g⟩,_,_⟩:=I'.hok x _ ex;refine⟨y,_,a3r (h':=s'.heap) (t':=s'.toks) I' (by rw[ex];exact True.intro) ⟨rfl,fun _ _=>rfl⟩ ⟨_,g⟩ (a7Y (vs:=?_) (sl:=?_) (e:=?_)),ry,q⟩
 rotate_left 2
 ·exact g
theorem PE.imp {t':TE}(h:PE X e t)(m:∀σ H Q,t' σ H Q->t σ H Q):PE X e t':=fun U s σ H Q I q=>h U s σ H Q I (m σ H Q q)
end
def tStE (C:Addr)(t:TA):TE:=fun σ H Q=>t σ H fun vs H1=>∃z n p,vs=[.str z,.int n,.int p]/\∀x H2,H1 x=none->a0l H1 H2->StE H2 x C z n p->Q (.ref x) H2
def tOtE (C:Addr):TE:=fun σ H Q=>∀x H2,H x=none->a0l H H2->H2 x=some (.ext (a6i x C none))->Q (.ref x) H2
def MvE (H:Hp)(x C:Addr)(n:Int):Prop:=∃dx,H x=some (.ext (a6i x C (some dx)))/\H dx=some (.ext (a5T dx [(("move":Str),V.int n)]))
def b4b (C:Addr)(t:TA)(dvs:List V):TE:=fun σ H Q=>t σ H fun vs H1=>∃n,vs++dvs=[.int n]/\∀x H2,H1 x=none->a0l H1 H2->MvE H2 x C n->Q (.ref x) H2
theorem a9K {H:Hp}{x:Addr}{o u:HO}(hx:H x=none):a0l H (upd (upd H x o) x u):=fun b v e=>by
 have nb:b≠x:=a0v e hx;rw[a0h nb,a0h nb];exact e
section
variable {X:Cx}{f C:Addr}{fd:FuncData}{nm:Str}{p pos:Pos}{e:Expr}{es:List Expr}{t:TA}{dvs:List V}{ds:List Value}{k:Nat}
theorem a2W (M:XMk X.K C f)(N:AtS X.K C)(F:a0K X.prog X.w X.K X.mg X.base CX0 1 f fd ["self","table","key","place"] (b3u X.K))(hr:a1m 2 X.A)(hg:Gl X nm)(hm:X.mg nm=some (.ref C))(hb:a1V X.K fd ["self","table","key","place"] [])
  (ha:PA X (e::es) t) (hdb:(nm==("__debug__":Str))=false:=by decide) (he:starEach (e::es) X.env=(false,eval e X.env)::starEach es X.env:=by rfl) (hpl:(backTo pos (starEach es X.env)).any (·.1)=false:=by rfl) (mono:∀σ H (Q Q':List V->Hp->Prop),(∀vs H',Q vs H'->Q' vs H')->t σ H Q->t σ H Q') :
  PE X (.Call (.Name nm p) (e::es) [] pos) (tStE C t):=by
 refine(a5V (a6v M F hr hg hm hb .nil ha hdb he hpl)).imp fun σ H Q h=>?_;refine mono σ H _ _ (fun vs H1 q=>?_) h;obtain⟨z,n,pl,rfl,q⟩:=q;refine⟨(by exact My.sl3),fun x nx hx=>⟨x,C,z,n,pl,rfl,M.cl,N,a0c,fun dx H2 hd ne h2x h2d fr=>⟨rfl,x,C,some dx,rfl,h2x,?_⟩⟩⟩;rw[a0h ne] at hd;refine q x _ hx (fun b o e=>?_) ⟨dx,a0c,by rw[a0h ne];exact h2d⟩;have nb:b≠x:=a0v e hx;have nd:b≠dx:=a0v e hd;rw[a0h nb,fr b nb nd,a0h nb];exact e
theorem a5g (M:b1n X.K C)(hg:Gl X nm)(hm:X.mg nm=some (.ref C))(hdb:(nm==("__debug__":Str))=false:=by decide):PE X (.Call (.Name nm p) [] [] pos) (tOtE C):=by
 refine(a5V (a6M M hg hm hdb)).imp fun σ H Q h=>?_;exact⟨zL0 _,fun x nx hx=>⟨x,C,none,rfl,a0c,h x _ hx (a9K hx) a0c⟩⟩
theorem b0f {H:Hp}{x:Addr}{n:Int}{Q:VK}(hx:H x=none)(q:∀x H2,H x=none->a0l H H2->MvE H2 x C n->Q (.ref x) H2)(dx:Addr)(hd:upd H x (.ext (a3Z x C none)) dx=none)(ne:dx≠x) :
  Q (.ref x) (upd (upd (upd (upd H x (.ext (a3Z x C none))) dx (.ext (a5T dx [(("move":Str),V.int n)]))) x (.ext (a3Z x C (some dx)))) x (.ext (a6i x C (some dx)))):=by
 rw[a0h ne] at hd;refine q x _ hx (fun b o e=>?_) ⟨dx,a0c,by rw[a0h ne,a0h ne,a0c]⟩;have nb:b≠x:=a0v e hx;have nd:b≠dx:=a0v e hd;rw[a0h nb,a0h nb,a0h nd,a0h nb];exact e
theorem b2p (M:XMk X.K C f)(N:a2x X.K C "move")(F:a0K X.prog X.w X.K X.mg X.base CX0 1 f fd ["self","move"] (b3g X.K))(hr:a1m 2 X.A)(hg:Gl X nm)(hm:X.mg nm=some (.ref C))(hb:a1V X.K fd ["self","move"] [])
  (ha:PA X (e::es) t) (hdb:(nm==("__debug__":Str))=false:=by decide) (he:starEach (e::es) X.env=(false,eval e X.env)::starEach es X.env:=by rfl) (hpl:(backTo pos (starEach es X.env)).any (·.1)=false:=by rfl) (mono:∀σ H (Q Q':List V->Hp->Prop),(∀vs H',Q vs H'->Q' vs H')->t σ H Q->t σ H Q') :
  PE X (.Call (.Name nm p) (e::es) [] pos) (b4b C t []):=by
 refine(a5V (a6v M F hr hg hm hb .nil ha hdb he hpl)).imp fun σ H Q h=>?_;refine mono σ H _ _ (fun vs H1 q=>?_) h;obtain⟨n,e',q⟩:=q;rw[List.append_nil] at e';subst e';exact⟨(by exact My.sl1),fun x nx hx=>⟨x,C,n,rfl,M.cl,N,a0c,fun dx hd ne=>⟨rfl,x,C,some dx,rfl,a0c,b0f hx q dx hd ne⟩⟩⟩
theorem a8E {tk:Tok}(M:XMk X.K C f)(N:a2x X.K C "move")(F:a0K X.prog X.w X.K X.mg X.base CX0 1 f fd ["self","move"] (b3g X.K))(hr:a1m 2 X.A)(hg:Gl X nm)(hm:X.mg nm=some (.ref C))(hb:a1V X.K fd ["self","move"] [.int 0 tk])(hdb:(nm==("__debug__":Str))=false:=by decide) :
  PE X (.Call (.Name nm p) [] [] pos) (b4b C a8Q [.int 0]):=by
 refine(a5V (a7d (dvs:=[.int 0]) M F hr hg hm hb (.cons ⟨tk,rfl⟩ .nil) hdb)).imp fun σ H Q h=>?_;obtain⟨n,e',q⟩:=h;cases e';exact⟨zL0 _,fun x nx hx=>⟨x,C,0,rfl,M.cl,N,a0c,fun dx hd ne=>⟨rfl,x,C,some dx,rfl,a0c,b0f hx q dx hd ne⟩⟩⟩
end
end L2
namespace My
open PySem L2 PyProof.Rows
seal L2.PE L2.PT L2.PW L2.PS L2.PSs L2.PA L2.PI L2.PG L2.PGs L2.OpR L2.UnR L2.a1C L2.IxR L2.SlR L2.MtR L2.PIf L2.PO L2.MtM L2.PC
section
variable {P:Program}{w:World}{K:Fg0}{mg:Str->Option Value}{base:Heap}{CT:Addr}
theorem a8W {f:Addr}{fd:FuncData}(F:b0s K "__init__" "StepError.__init__" (a0Q (top 2) 0) f fd)(mT:mg "TableError"=some (.ref CT))(bT:BIn K CT):a0K P w K mg base CX0 1 f fd ["self","table","key","place"] (b3u K):=by
 have sc:a0o ["self","table","key","place"] ["self","table","key","place"] (a0f (a0Q (top 2) 0)):=.k (by decide +kernel);refine F.ok sc (fun vs H Q E h=>?_) (fun cdv A outer s H vs Q E hr h=>?_)
 ·obtain⟨x,C,z,n,p,rfl,_⟩:=h
  rfl
 ·obtain⟨x,C,z,n,p,rfl,xc,N,hx,q⟩:=h
  refine⟨_,a0d (a1r (a5X (by rfl) mT bT (a0a (pv 0) (a0a (pv 1) (a0a (pv 2) (a0a (pv 3) a0b))))))
   (a0d (a6d (pv 0) (pv 1) rfl) (a0d (a6j (pv 0) (pv 2) rfl) (a0g (a6j (pv 0) (pv 3) rfl)))),?_⟩
  refine⟨_,rfl,_,rfl,_,rfl,_,rfl,x,C,none,_,rfl,hx,xc,(by exact sl3),?_⟩;refine⟨_,rfl,_,rfl,x,C,rfl,hx,xc,N.n1,fun dx hd ne=>?_⟩;refine⟨_,rfl,_,rfl,x,C,dx,_,rfl,a0c,(by rw[a0h ne];exact a0c),ne,xc,N.n2,(by show 1<1000;decide),?_⟩;refine⟨_,rfl,_,rfl,x,C,dx,_,rfl,(by rw[a0h (Ne.symm ne)];exact a0c),a0c,ne,xc,N.n3,?_,?_⟩
  ·have:=a3x "key" (.int n) [(("table":Str),V.str z)]
   simp only[List.length_cons,List.length_nil] at this
   omega
  ·exact q dx _ hd ne (by rw[a0h (Ne.symm ne),a0h (Ne.symm ne)];exact a0c) a0c fun b n1 n2=>by rw[a0h n2,a0h n2,a0h n1,a0h n2]
theorem a9F {f:Addr}{fd:FuncData}(F:b0s K "__init__" "NoMove.__init__" (a0Q (top 12) 0) f fd)(mT:mg "TableError"=some (.ref CT))(bT:BIn K CT):a0K P w K mg base CX0 1 f fd ["self","move"] (b3g K):=by
 have sc:a0o ["self","move"] ["self","move"] (a0f (a0Q (top 12) 0)):=.k (by decide +kernel);refine F.ok sc (fun vs H Q E h=>?_) (fun cdv A outer s H vs Q E hr h=>?_)
 ·obtain⟨x,C,i,rfl,_⟩:=h
  rfl
 ·obtain⟨x,C,i,rfl,xc,N,hx,q⟩:=h
  refine⟨_,a0d (a1r (a5X (by rfl) mT bT (a0a (pv 0) (a0a (pv 1) a0b)))) (a0g (a6d (pv 0) (pv 1) rfl)),?_⟩;refine⟨_,rfl,_,rfl,x,C,none,_,rfl,hx,xc,(by exact sl1),?_⟩;exact⟨_,rfl,_,rfl,x,C,rfl,hx,xc,N,fun dx hd ne=>q dx hd ne⟩
end
theorem gz6 {H H':Hp}{a:Addr}{o:HO}(h:L2.upd H a o=H')(e:H a=none):a0l H H'/\H' a=some o:=by
 subst h;exact⟨a0l.upd e,a0c⟩
structure Ks6 (K:Fg0) (CT CS:Addr) (cs:List Addr):Prop where
 xi:∀C∈cs,XIs K C
 isT:∀C∈cs,PySem.W.kitOne K (.ref C) (.ref CT)=some true
 isV:∀C∈cs,PySem.W.kitOne K (.ref C) (.type "ValueError")=some true
 isS:∀(i:Nat) (C:Addr),cs[i]? =some C->PySem.W.kitOne K (.ref C) (.ref CS)=some (decide (i<8))
 tab:∀(i:Nat) (C:Addr) (j:Nat) (D:Addr),cs[i]? =some C->cs[j]? =some D->PySem.W.kitOne K (.ref C) (.ref D)=some (decide (i=j))
def b4e (i:Nat):List V:=(List.range 14).map fun j=>.bl (decide (i=j))
def b2q (cs:List Addr):Sp:=fun vs H Q _=>∃(x C:Addr) (od:Option Addr) (i:Nat),vs=[.ref x]/\Got H x C od/\cs[i]? =some C/\∀p H',H p=none->a0l H H'->H' p=some (.lst (b4e i))->Q (.ref p) H'
section
variable {P:Program}{w:World}{K:Fg0}{mg:Str->Option Value}{base:Heap}{CT CS CO CN a1 a2 a3 a4 a5 b1 b2 b3 b4 b5 b6 b7:Addr}
theorem b2j {f:Addr}{fd:FuncData}(F:Fun K "_law_classes_of" "_law_classes_of" (top 50) f fd)(B:Bl mg)(R:Rf6 K mg CT CS CO CN a1 a2 a3 a4 a5 b1 b2 b3 b4 b5 b6 b7)(S:Ks6 K CT CS [CO,b1,b2,b3,b4,b5,b6,b7,CN,a1,a3,a5,a4,a2]):a0K P w K mg base CX0 1 f fd ["_law_e"] (b2q [CO,b1,b2,b3,b4,b5,b6,b7,CN,a1,a3,a5,a4,a2]):=by
 have sc:a0o ["_law_e","_law_some"] ["_law_e"] (a0f (top 50)):=.k (by decide +kernel);refine F.ok sc (fun vs H Q E h=>?_) (fun cdv A outer s H vs Q E hr h=>?_)
 ·obtain⟨x,C,od,i,rfl,_⟩:=h
  rfl
 ·obtain⟨x,C,od,i,rfl,hx,hC,q⟩:=h
  refine⟨_,a0d (a0s (i:=1) sc.nd rfl (Or.inl rfl) (a0O (a0a (a0i a0C (by rfl) B.isi boot_isi (a0a (pv 0) (a0a (a0x (v:=.ref CO) (by rfl) R.mO rfl) a0b))) (a0a (a0i a0C (by rfl) B.isi boot_isi (a0a (pv 0) (a0a (a0x (v:=.ref b1) (by rfl) R.k1 rfl) a0b))) (a0a (a0i a0C (by rfl) B.isi boot_isi (a0a (pv 0) (a0a (a0x (v:=.ref b2) (by rfl) R.k2 rfl) a0b))) (a0a (a0i a0C (by rfl) B.isi boot_isi (a0a (pv 0) (a0a (a0x (v:=.ref b3) (by rfl) R.k3 rfl) a0b))) a0b))))))
   (a0d (a0s (i:=1) sc.nd rfl (Or.inl rfl) (a0m a1L (pv 1) (a0O (a0a (a0i a0C (by rfl) B.isi boot_isi (a0a (pv 0) (a0a (a0x (v:=.ref b4) (by rfl) R.k4 rfl) a0b))) (a0a (a0i a0C (by rfl) B.isi boot_isi (a0a (pv 0) (a0a (a0x (v:=.ref b5) (by rfl) R.k5 rfl) a0b))) (a0a (a0i a0C (by rfl) B.isi boot_isi (a0a (pv 0) (a0a (a0x (v:=.ref b6) (by rfl) R.k6 rfl) a0b))) (a0a (a0i a0C (by rfl) B.isi boot_isi (a0a (pv 0) (a0a (a0x (v:=.ref b7) (by rfl) R.k7 rfl) a0b))) a0b)))))))
   (a0d (a0s (i:=1) sc.nd rfl (Or.inl rfl) (a0m a1L (pv 1) (a0O (a0a (a0i a0C (by rfl) B.isi boot_isi (a0a (pv 0) (a0a (a0x (v:=.ref CN) (by rfl) R.mN rfl) a0b))) (a0a (a0i a0C (by rfl) B.isi boot_isi (a0a (pv 0) (a0a (a0x (v:=.ref a1) (by rfl) R.m1 rfl) a0b))) (a0a (a0i a0C (by rfl) B.isi boot_isi (a0a (pv 0) (a0a (a0x (v:=.ref a3) (by rfl) R.m3 rfl) a0b))) (a0a (a0i a0C (by rfl) B.isi boot_isi (a0a (pv 0) (a0a (a0x (v:=.ref a5) (by rfl) R.m5 rfl) a0b))) a0b)))))))
   (a0g (a0r (a0m a1L (pv 1) (a0O (a0a (a0i a0C (by rfl) B.isi boot_isi (a0a (pv 0) (a0a (a0x (v:=.ref a4) (by rfl) R.m4 rfl) a0b))) (a0a (a0i a0C (by rfl) B.isi boot_isi (a0a (pv 0) (a0a (a0x (v:=.ref a2) (by rfl) R.m2 rfl) a0b))) a0b)))))))),?_⟩
  have one:∀{D:Addr} {b:Bool},PySem.W.kitOne K (.ref C) (.ref D)=some b->∀u,a0X (.ref D) u->PySem.W.kitOne K (.ref C) u=some b:=fun {D b} h u r=>by cases(show u=Value.ref D from r);exact h
  have xi:=S.xi C (gI0 hC);refine⟨_,rfl,x,C,od,_,_,rfl,hx.1,hx.2,xi,one (S.tab i C 0 _ hC rfl),_,rfl,x,C,od,_,_,rfl,hx.1,hx.2,xi,one (S.tab i C 1 _ hC rfl),_,rfl,x,C,od,_,_,rfl,hx.1,hx.2,xi,one (S.tab i C 2 _ hC rfl),_,rfl,x,C,od,_,_,rfl,hx.1,hx.2,xi,one (S.tab i C 3 _ hC rfl),(by exact sl4),fun p1 e1=>?_⟩;generalize h1:L2.upd H p1 _=H1;obtain⟨s1,f1⟩:=gz6 h1 e1;have g1:=hx.same s1;refine⟨_,rfl,_,rfl,x,C,od,_,_,rfl,g1.1,g1.2,xi,one (S.tab i C 4 _ hC rfl),_,rfl,x,C,od,_,_,rfl,g1.1,g1.2,xi,one (S.tab i C 5 _ hC rfl),_,rfl,x,C,od,_,_,rfl,g1.1,g1.2,xi,one (S.tab i C 6 _ hC rfl),_,rfl,x,C,od,_,_,rfl,g1.1,g1.2,xi,one (S.tab i C 7 _ hC rfl),(by exact sl4),fun p2 e2=>?_⟩;generalize h2:L2.upd H1 p2 _=H2;obtain⟨s2,f2⟩:=gz6 h2 e2;refine⟨p1,p2,_,_,rfl,rfl,s2 _ _ f1,f2,(by exact sl8),fun p3 e3=>?_⟩;generalize h3:L2.upd H2 p3 _=H3;obtain⟨s3,f3⟩:=gz6 h3 e3;have g3:=g1.same (s2.trans s3);refine⟨_,rfl,_,rfl,x,C,od,_,_,rfl,g3.1,g3.2,xi,one (S.tab i C 8 _ hC rfl),_,rfl,x,C,od,_,_,rfl,g3.1,g3.2,xi,one (S.tab i C 9 _ hC rfl),_,rfl,x,C,od,_,_,rfl,g3.1,g3.2,xi,one (S.tab i C 10 _ hC rfl),_,rfl,x,C,od,_,_,rfl,g3.1,g3.2,xi,one (S.tab i C 11 _ hC rfl),(by exact sl4),fun p4 e4=>?_⟩;generalize h4:L2.upd H3 p4 _=H4;obtain⟨s4,f4⟩:=gz6 h4 e4;refine⟨p3,p4,_,_,rfl,rfl,s4 _ _ f3,f4,(by exact sl12),fun p5 e5=>?_⟩;generalize h5:L2.upd H4 p5 _=H5;obtain⟨s5,f5⟩:=gz6 h5 e5;have g5:=g3.same (s4.trans s5);refine⟨_,rfl,_,rfl,x,C,od,_,_,rfl,g5.1,g5.2,xi,one (S.tab i C 12 _ hC rfl),_,rfl,x,C,od,_,_,rfl,g5.1,g5.2,xi,one (S.tab i C 13 _ hC rfl),(by exact sl2),fun p6 e6=>?_⟩;generalize h6:L2.upd H5 p6 _=H6;obtain⟨s6,f6⟩:=gz6 h6 e6;refine⟨p5,p6,_,_,rfl,rfl,s6 _ _ f5,f6,(by exact sl14),fun p7 e7=>?_⟩;have S6:=s1.trans (s2.trans (s3.trans (s4.trans (s5.trans s6))));refine q p7 _ ?_ (S6.trans (a0l.upd e7)) a0c;cases e:H p7 with
  |none=>rfl
  |some o=>rw[S6 _ _ e] at e7;cases e7
end
def Sts (H:Hp)(xs cs:List Addr)(z:Str)(n p:Int):Prop:=∀(i:Nat) (x:Addr),xs[i]? =some x->∃C,cs[i]? =some C/\StE H x C z n p
theorem Sts.nil {H:Hp}{cs:List Addr}{z:Str}{n p:Int}:Sts H [] cs z n p:=fun i x h=>by cases h
theorem a8y {α:Type}{xs:List α}{y x:α}{i:Nat}(h:(xs++[y])[i]? =some x):xs[i]? =some x\/(i=xs.length/\x=y):=by
 by_cases hi:i<xs.length
 ·rw[gL0 hi] at h;exact .inl h
 ·have e:i=xs.length:=by
   have:=(gS0.mp h).1
   rw[lA0,List.length_singleton] at this
   omega
  subst e;rw[gR0 (nR0 _),Nat.sub_self] at h;cases h;exact .inr ⟨rfl,rfl⟩
theorem Sts.snoc {H:Hp}{xs cs:List Addr}{z:Str}{n p:Int}{x C:Addr}(h:Sts H xs cs z n p)(hC:cs[xs.length]? =some C)(st:StE H x C z n p):Sts H (xs++[x]) cs z n p:=fun i y hy=>by
 rcases a8y hy with h' |⟨rfl,rfl⟩
 ·exact h i y h'
 ·exact⟨C,hC,st⟩
theorem Sts.same {H H':Hp}{xs cs:List Addr}{z:Str}{n p:Int}(h:Sts H xs cs z n p)(s:a0l H H'):Sts H' xs cs z n p:=fun i x hx=>let ⟨C,a,b⟩:=h i x hx;⟨C,a,b.same s⟩
def Als (H:Hp)(xs cs:List Addr):Prop:=∀(i:Nat) (x:Addr),xs[i]? =some x->∃C od,cs[i]? =some C/\Got H x C od
def Ots (H:Hp)(xs cs:List Addr):Prop:=∀(i:Nat) (x:Addr),xs[i]? =some x->∃C od,cs[8+i]? =some C/\Got H x C od
theorem Als.same {H H':Hp}{xs cs:List Addr}(h:Als H xs cs)(s:a0l H H'):Als H' xs cs:=fun i x hx=>let ⟨C,od,a,b⟩:=h i x hx;⟨C,od,a,b.same s⟩
theorem Ots.nil {H:Hp}{cs:List Addr}:Ots H [] cs:=fun i x h=>by cases h
theorem Ots.snoc {H:Hp}{xs cs:List Addr}{x C:Addr}(h:Ots H xs cs)(hC:cs[8+xs.length]? =some C)(st:∃od,Got H x C od):Ots H (xs++[x]) cs:=fun i y hy=>by
 rcases a8y hy with h' |⟨rfl,rfl⟩
 ·exact h i y h'
 ·exact let ⟨od,g⟩:=st;⟨C,od,hC,g⟩
theorem a3L {H H':Hp}{x C:Addr}(h:∃od,Got H x C od)(s:a0l H H'):∃od,Got H' x C od:=let ⟨od,g⟩:=h;⟨od,g.same s⟩
theorem Als.of {H:Hp}{xs ys cs:List Addr}{z:Str}{n p:Int}(l:xs.length=8)(h1:Sts H xs cs z n p)(h2:Ots H ys cs):Als H (xs++ys) cs:=fun i x hx=>by
 by_cases hi:i<8
 ·rw[gL0 (by omega)] at hx
  obtain⟨C,a,dx,g1,g2⟩:=h1 i x hx;exact⟨C,some dx,a,g1,fun d e=>by cases e;exact⟨_,g2⟩⟩
 ·rw[gR0 (by omega)] at hx
  obtain⟨C,od,a,g⟩:=h2 (i-xs.length) x hx;exact⟨C,od,by rw[<-a];congr 1;omega,g⟩
structure Ys6 (K:Fg0) (fI fM a1:Addr) (cs:List Addr):Prop where
 mks:∀C∈cs.take 8,XMk K C fI
 at_:∀C∈cs.take 8,AtS K C
 nmk:XMk K a1 fM
 nat:a2x K a1 "move"
theorem Ys6.at8 {K:Fg0}{fI fM a1:Addr}{cs:List Addr}(Y:Ys6 K fI fM a1 cs)(j:Nat)(C:Addr)(h:cs[j]? =some C)(hj:j<8):AtS K C:=Y.at_ C (gI0 (i:=j) (by rw[List.getElem?_take_of_lt hj];exact h))
def erN:List Str:=["_law_name","_law_number","_law_place","_law_steps","_law_one","_law_others","_law_k"]
def b2Q:Sp:=fun vs H Q _=>∃(z:Str) (n p:Int),vs=[.str z,.int n,.int p]/\∀H',a0l H H'->Q (.bl true) H'
section
variable {P:Program}{w:World}{K:Fg0}{mg:Str->Option Value}{base:Heap}{fI fM CT CS CO CN a1 a2 a3 a4 a5 b1 b2 b3 b4 b5 b6 b7:Addr}{fdI fdM:FuncData}{tk:Tok}
theorem b2F {f fC:Addr}{fd fdC:FuncData}(F:Fun K "_law_errors" "_law_errors" (top 51) f fd)(B:Bl mg)(R:Rf6 K mg CT CS CO CN a1 a2 a3 a4 a5 b1 b2 b3 b4 b5 b6 b7)(Z:Ks6 K CT CS [CO,b1,b2,b3,b4,b5,b6,b7,CN,a1,a3,a5,a4,a2])(Y:Ys6 K fI fM a1 [CO,b1,b2,b3,b4,b5,b6,b7,CN,a1,a3,a5,a4,a2])(DC:Df K mg "_law_classes_of" (top 50) fC fdC)
  (GI:a0K P w K mg base CX0 1 fI fdI ["self","table","key","place"] (b3u K)) (bI:a1V K fdI ["self","table","key","place"] []) (GM:a0K P w K mg base CX0 1 fM fdM ["self","move"] (b3g K)) (bM:a1V K fdM ["self","move"] []) (bM0:a1V K fdM ["self","move"] [.int 0 tk])
  (yb:∀C∈[CN,a3,a5,a4,a2],b1n K C):a0K P w K mg base CX0 3 f fd ["_law_name","_law_number","_law_place"] b2Q:=by
 have sc:a0o erN ["_law_name","_law_number","_law_place"] (a0f (top 51)):=.k (by decide +kernel);have GC:a0K P w K mg base CX0 1 fC fdC ["_law_e"] (b2q [CO,b1,b2,b3,b4,b5,b6,b7,CN,a1,a3,a5,a4,a2]):=b2j DC.fn B R Z;have bC:=DC.fn.b1 "_law_e" (by intros;rfl);refine F.ok sc (fun vs H Q E h=>?_) (fun cdv A outer s H vs Q E hr h=>?_)
 ·obtain⟨z,n,p,rfl,_⟩:=h
  rfl
 ·obtain⟨z,n,p,rfl,q⟩:=h
  have hr1:a1m 1 _:=hr.mono (by decide);have hr2:a1m 2 _:=hr.mono (by decide);have hu:(A.deeper (envOfC "_law_errors" (a0f (top 51)) s.heap.objs.size f cdv)).units+0+1<cLine:=by have:=a3A hr;omega
  refine⟨_,a0d (a0s (i:=3) sc.nd rfl (Or.inl rfl) (a0O (a0a (a2W (C:=CO) (Y.mks CO (by simp)) (Y.at_ CO (by simp)) GI hr2 (by rfl) R.mO bI (a0a (pv 0) (a0a (pv 1) (a0a (pv 2) a0b))) (mono:=fun _ _ _ _ m h=>by obtain⟨a,ea,b,eb,c,ec,q⟩:=h;exact⟨a,ea,b,eb,c,ec,m _ _ q⟩)) (a0a (a2W (C:=b1) (Y.mks b1 (by simp)) (Y.at_ b1 (by simp)) GI hr2 (by rfl) R.k1 bI (a0a (pv 0) (a0a (pv 1) (a0a (pv 2) a0b))) (mono:=fun _ _ _ _ m h=>by obtain⟨a,ea,b,eb,c,ec,q⟩:=h;exact⟨a,ea,b,eb,c,ec,m _ _ q⟩)) a0b))))
   (a0d (a0s (i:=3) sc.nd rfl (Or.inl rfl) (a0m a1L (pv 3) (a0O (a0a (a2W (C:=b2) (Y.mks b2 (by simp)) (Y.at_ b2 (by simp)) GI hr2 (by rfl) R.k2 bI (a0a (pv 0) (a0a (pv 1) (a0a (pv 2) a0b))) (mono:=fun _ _ _ _ m h=>by obtain⟨a,ea,b,eb,c,ec,q⟩:=h;exact⟨a,ea,b,eb,c,ec,m _ _ q⟩)) (a0a (a2W (C:=b3) (Y.mks b3 (by simp)) (Y.at_ b3 (by simp)) GI hr2 (by rfl) R.k3 bI (a0a (pv 0) (a0a (pv 1) (a0a (pv 2) a0b))) (mono:=fun _ _ _ _ m h=>by obtain⟨a,ea,b,eb,c,ec,q⟩:=h;exact⟨a,ea,b,eb,c,ec,m _ _ q⟩)) a0b)))))
   (a0d (a0s (i:=3) sc.nd rfl (Or.inl rfl) (a0m a1L (pv 3) (a0O (a0a (a2W (C:=b4) (Y.mks b4 (by simp)) (Y.at_ b4 (by simp)) GI hr2 (by rfl) R.k4 bI (a0a (pv 0) (a0a (pv 1) (a0a (pv 2) a0b))) (mono:=fun _ _ _ _ m h=>by obtain⟨a,ea,b,eb,c,ec,q⟩:=h;exact⟨a,ea,b,eb,c,ec,m _ _ q⟩)) (a0a (a2W (C:=b5) (Y.mks b5 (by simp)) (Y.at_ b5 (by simp)) GI hr2 (by rfl) R.k5 bI (a0a (pv 0) (a0a (pv 1) (a0a (pv 2) a0b))) (mono:=fun _ _ _ _ m h=>by obtain⟨a,ea,b,eb,c,ec,q⟩:=h;exact⟨a,ea,b,eb,c,ec,m _ _ q⟩)) a0b)))))
   (a0d (a0s (i:=3) sc.nd rfl (Or.inl rfl) (a0m a1L (pv 3) (a0O (a0a (a2W (C:=b6) (Y.mks b6 (by simp)) (Y.at_ b6 (by simp)) GI hr2 (by rfl) R.k6 bI (a0a (pv 0) (a0a (pv 1) (a0a (pv 2) a0b))) (mono:=fun _ _ _ _ m h=>by obtain⟨a,ea,b,eb,c,ec,q⟩:=h;exact⟨a,ea,b,eb,c,ec,m _ _ q⟩)) (a0a (a2W (C:=b7) (Y.mks b7 (by simp)) (Y.at_ b7 (by simp)) GI hr2 (by rfl) R.k7 bI (a0a (pv 0) (a0a (pv 1) (a0a (pv 2) a0b))) (mono:=fun _ _ _ _ m h=>by obtain⟨a,ea,b,eb,c,ec,q⟩:=h;exact⟨a,ea,b,eb,c,ec,m _ _ q⟩)) a0b)))))
   (a0d (a1H PassesOwn.never rfl (a1q (pv 3)) (a0n (i:=4) sc.nd rfl (Or.inl rfl))
    (a0g (a0z (PW.pt (a3M (a1s (a0S (a0i a0C (by rfl) B.isi boot_isi (a0a (pv 4) (a0a (a0x (v:=.ref CS) (by rfl) R.mS rfl) a0b))))) (a3M (a0t a6D (a3H (pv 4) rfl) (pv 0) (a0w _)) (a3M (a0t a6D (a3H (pv 4) rfl) (pv 1) (a0w _)) (a3a (a0t a6D (a3H (pv 4) rfl) (pv 2) (a0w _))))))) a0D a0j)))
   (a0d (a0s (i:=5) sc.nd rfl (Or.inl rfl) (a0O (a0a (a5g (C:=CN) (yb CN (by simp)) (by rfl) R.mN) (a0a (a8E (C:=a1) Y.nmk Y.nat GM hr2 (by rfl) R.m1 bM0) (a0a (a5g (C:=a3) (yb a3 (by simp)) (by rfl) R.m3) (a0a (a5g (C:=a5) (yb a5 (by simp)) (by rfl) R.m5) (a0a (a5g (C:=a4) (yb a4 (by simp)) (by rfl) R.m4) (a0a (a5g (C:=a2) (yb a2 (by simp)) (by rfl) R.m2) a0b))))))))
   (a0d (a1H PassesOwn.never rfl (a1q (pv 5)) (a0n (i:=4) sc.nd rfl (Or.inl rfl))
    (a0g (a0z (a0S (a0i a0C (by rfl) B.isi boot_isi (a0a (pv 4) (a0a (a0x (v:=.ref CS) (by rfl) R.mS rfl) a0b)))) a0D a0j)))
   (a0d (a1H PassesOwn.never rfl (a8i (by rfl) B.enum (a0a (a0m a1L (pv 3) (pv 5)) a0b)) (a3c rfl (a0q (a0n (i:=6) sc.nd rfl (Or.inr rfl)) (a0q (a0n (i:=4) sc.nd rfl (Or.inl rfl)) a1y)))
    (a0d (a0z (PW.pt (a3M (a1s (a0S (a0i a0C (by rfl) B.isi boot_isi (a0a (pv 4) (a0a (a0x (v:=.ref CT) (by rfl) R.mT rfl) a0b))))) (a3a (a1s (a0S (a0i a0C (by rfl) B.isi boot_isi (a0a (pv 4) (a0a (a1b (v:=.ty "ValueError") (by rfl) R.nV boot_verr rfl) a0b)))))))) a0D a0j)
    (a0g (a0z (a0t b0w (a0k GC hr1 (by rfl) DC.mg DC.fn.kp bC .nil a0G (a0a (pv 4) a0b))
     (a2f (osc:=a0f (top 51)) (N0:=erN) (xs:=["_law_j"]) (fr:=[6]) ⟨rfl,by decide +kernel,by decide +kernel,by decide +kernel,(fun j hj=>by
       have e:j=6:=by simpa using hj
       subst e;exact⟨_,rfl,by decide +kernel⟩),by decide +kernel⟩ rfl rfl rfl (a2n rfl B.range (a0a a0e a0b))
      (fun s H fp=>a0n (i:=0) (show(["_law_j","_law_k"]:List Str).Nodup by decide +kernel) rfl (Or.inl rfl)) (fun s H fp=>a1U)
      (fun s H fp=>a1h a1p (pv 0) (pv 1) (a0w _))) (a0w _)) a0D a0j))))
   (a0g (a0r (a1T (a1h a1p (a3H (a8E (C:=a1) Y.nmk Y.nat GM hr2 (by rfl) R.m1 bM0) rfl) a0e (a0w _)) (a2j (a1h a1p (a3H (b2p (C:=a1) Y.nmk Y.nat GM hr2 (by rfl) R.m1 bM (a0a (pv 1) a0b) (mono:=fun _ _ _ _ m h=>by obtain⟨a,ea,q⟩:=h;exact⟨a,ea,m _ _ q⟩)) rfl) (pv 1) (a0w _))))))))))))),?_⟩
  have one:∀{C D:Addr} {b:Bool},PySem.W.kitOne K (.ref C) (.ref D)=some b->∀u,a0X (.ref D) u->PySem.W.kitOne K (.ref C) u=some b:=fun {C D b} h u r=>by cases(show u=Value.ref D from r);exact h
  refine⟨_,rfl,_,rfl,_,rfl,z,n,p,rfl,fun x0 G1 e0 t0 st0=>?_⟩;have S:=t0;refine⟨_,rfl,_,rfl,_,rfl,z,n,p,rfl,fun x1 G2 e1 t1 st1=>?_⟩;have st0:=st0.same t1;have S:=S.trans t1;refine⟨(by exact sl2),fun q1 u1=>?_⟩;generalize y1:L2.upd G2 q1 _=G3;obtain⟨v1,f1⟩:=gz6 y1 u1;have st0:=st0.same v1;have st1:=st1.same v1;have S:=S.trans v1;have fL:=f1;refine⟨_,rfl,_,rfl,_,rfl,_,rfl,z,n,p,rfl,fun x2 G4 e2 t2 st2=>?_⟩;have st0:=st0.same t2;have st1:=st1.same t2;have fL:=t2 _ _ fL;have S:=S.trans t2;refine⟨_,rfl,_,rfl,_,rfl,z,n,p,rfl,fun x3 G5 e3 t3 st3=>?_⟩;have st0:=st0.same t3;have st1:=st1.same t3;have st2:=st2.same t3;have fL:=t3 _ _ fL;have S:=S.trans t3;refine⟨(by exact sl2),fun q3 u3=>?_⟩;generalize y3:L2.upd G5 q3 _=G6;obtain⟨v3,f3⟩:=gz6 y3 u3;have st0:=st0.same v3;have st1:=st1.same v3;have st2:=st2.same v3;have st3:=st3.same v3;have S:=S.trans v3;have fL:=v3 _ _ fL;refine⟨q1,q3,_,_,rfl,rfl,fL,f3,(by exact sl4),fun r3 w3=>?_⟩;generalize m3:L2.upd G6 r3 _=G7;obtain⟨o3,fL⟩:=gz6 m3 w3;have st0:=st0.same o3;have st1:=st1.same o3;have st2:=st2.same o3;have st3:=st3.same o3;have S:=S.trans o3;refine⟨_,rfl,_,rfl,_,rfl,_,rfl,z,n,p,rfl,fun x4 G8 e4 t4 st4=>?_⟩;have st0:=st0.same t4;have st1:=st1.same t4;have st2:=st2.same t4;have st3:=st3.same t4;have fL:=t4 _ _ fL;have S:=S.trans t4;refine⟨_,rfl,_,rfl,_,rfl,z,n,p,rfl,fun x5 G9 e5 t5 st5=>?_⟩;have st0:=st0.same t5;have st1:=st1.same t5;have st2:=st2.same t5;have st3:=st3.same t5;have st4:=st4.same t5;have fL:=t5 _ _ fL;have S:=S.trans t5;refine⟨(by exact sl2),fun q5 u5=>?_⟩;generalize y5:L2.upd G9 q5 _=G10;obtain⟨v5,f5⟩:=gz6 y5 u5;have st0:=st0.same v5;have st1:=st1.same v5;have st2:=st2.same v5;have st3:=st3.same v5;have st4:=st4.same v5;have st5:=st5.same v5;have S:=S.trans v5;have fL:=v5 _ _ fL;refine⟨r3,q5,_,_,rfl,rfl,fL,f5,(by exact sl6),fun r5 w5=>?_⟩;generalize m5:L2.upd G10 r5 _=G11;obtain⟨o5,fL⟩:=gz6 m5 w5;have st0:=st0.same o5;have st1:=st1.same o5;have st2:=st2.same o5;have st3:=st3.same o5;have st4:=st4.same o5;have st5:=st5.same o5;have S:=S.trans o5;refine⟨_,rfl,_,rfl,_,rfl,_,rfl,z,n,p,rfl,fun x6 G12 e6 t6 st6=>?_⟩;have st0:=st0.same t6;have st1:=st1.same t6;have st2:=st2.same t6;have st3:=st3.same t6;have st4:=st4.same t6;have st5:=st5.same t6;have fL:=t6 _ _ fL;have S:=S.trans t6;refine⟨_,rfl,_,rfl,_,rfl,z,n,p,rfl,fun x7 G13 e7 t7 st7=>?_⟩;have st0:=st0.same t7;have st1:=st1.same t7;have st2:=st2.same t7;have st3:=st3.same t7;have st4:=st4.same t7;have st5:=st5.same t7;have st6:=st6.same t7;have fL:=t7 _ _ fL;have S:=S.trans t7;refine⟨(by exact sl2),fun q7 u7=>?_⟩;generalize y7:L2.upd G13 q7 _=G14;obtain⟨v7,f7⟩:=gz6 y7 u7;have st0:=st0.same v7;have st1:=st1.same v7;have st2:=st2.same v7;have st3:=st3.same v7;have st4:=st4.same v7;have st5:=st5.same v7;have st6:=st6.same v7;have st7:=st7.same v7;have S:=S.trans v7;have fL:=v7 _ _ fL;refine⟨r5,q7,_,_,rfl,rfl,fL,f7,(by exact sl8),fun r7 w7=>?_⟩;generalize m7:L2.upd G14 r7 _=G15;obtain⟨o7,fL⟩:=gz6 m7 w7;have st0:=st0.same o7;have st1:=st1.same o7;have st2:=st2.same o7;have st3:=st3.same o7;have st4:=st4.same o7;have st5:=st5.same o7;have st6:=st6.same o7;have st7:=st7.same o7;have S:=S.trans o7;have sts:Sts G15 [x0,x1,x2,x3,x4,x5,x6,x7] [CO,b1,b2,b3,b4,b5,b6,b7,CN,a1,a3,a5,a4,a2] z n p:=((((((((Sts.nil.snoc rfl st0).snoc rfl st1).snoc rfl st2).snoc rfl st3).snoc rfl st4).snoc rfl st5).snoc rfl st6).snoc rfl st7);have fL:G15 r7=some (.lst ([x0,x1,x2,x3,x4,x5,x6,x7].map V.ref)):=fL;clear st0 st1 st2 st3 st4 st5 st6 st7;generalize hX:[x0,x1,x2,x3,x4,x5,x6,x7]=X8 at *;have l8:X8.length=8:=by rw[<-hX];rfl
  clear hX;refine⟨_,rfl,r7,rfl,⟨_,SqL.of fL⟩,a2h (K:=K) (a:=r7) (xs:=X8.map V.ref) (fun j σ H4=>H4=G15/\∃u,σ=[some (.str z),some (.int n),some (.int p),some (.ref r7),u,none,none]) ⟨rfl,_,rfl⟩ (fun j σ H4 _ pp=>by rw[pp.1];exact SqL.of fL) ?_ ?_⟩
  ·rintro j x σ H4 hx ⟨rfl,u,rfl⟩
   rw[gM0] at hx;obtain⟨a,ha,rfl⟩:=Option.map_eq_some_iff.mp hx;obtain⟨C,hC,dx,g1,g2⟩:=sts j a ha;have hj:j<8:=by have:=(gS0.mp ha).1;omega
   have mC:=gI0 hC;have ks:=Z.isS j C hC;rw[dT0 hj] at ks;have xc:=(Z.xi C mC).cl;have at_:=Y.at8 j C hC hj;refine⟨_,rfl,a,C,some dx,_,true,rfl,g1,(fun d e=>by cases e;exact⟨_,g2⟩),Z.xi C mC,one ks,_,rfl,a2z ?_⟩;refine⟨_,rfl,a,C,dx,_,_,rfl,g1,g2,xc,at_.n1,fl_t z n p,_,rfl,rfl,_,rfl,a2d (by simp) ?_⟩;refine⟨_,rfl,a,C,dx,_,_,rfl,g1,g2,xc,at_.n2,fl_k z n p,_,rfl,rfl,_,rfl,a2d (by simp) ?_⟩;refine⟨_,rfl,a,C,dx,_,_,rfl,g1,g2,xc,at_.n3,fl_p z n p,_,rfl,rfl,_,rfl,a2d (by simp) ?_⟩;exact⟨rfl,_,rfl⟩
  rintro σ H4 ⟨rfl,u0,rfl⟩;refine fun y8 G16 e8 t8 ot8=>?_;have ot8:∃od,Got G16 y8 CN od:=⟨none,ot8,fun d e=>by cases e⟩;have S:=S.trans t8;have sts:=sts.same t8;have fL:=t8 _ _ fL;refine⟨0,rfl,fun y9 G17 e9 t9 ot9=>?_⟩;have ot9:∃od,Got G17 y9 a1 od:=by
   obtain⟨dx,g1,g2⟩:=ot9;exact⟨some dx,g1,fun d e=>by cases e;exact⟨_,g2⟩⟩
  have ot8:=a3L ot8 t9;have S:=S.trans t9;have sts:=sts.same t9;have fL:=t9 _ _ fL;refine fun y10 G18 e10 t10 ot10=>?_;have ot10:∃od,Got G18 y10 a3 od:=⟨none,ot10,fun d e=>by cases e⟩;have ot8:=a3L ot8 t10;have ot9:=a3L ot9 t10;have S:=S.trans t10;have sts:=sts.same t10;have fL:=t10 _ _ fL;refine fun y11 G19 e11 t11 ot11=>?_;have ot11:∃od,Got G19 y11 a5 od:=⟨none,ot11,fun d e=>by cases e⟩;have ot8:=a3L ot8 t11;have ot9:=a3L ot9 t11;have ot10:=a3L ot10 t11;have S:=S.trans t11;have sts:=sts.same t11;have fL:=t11 _ _ fL;refine fun y12 G20 e12 t12 ot12=>?_;have ot12:∃od,Got G20 y12 a4 od:=⟨none,ot12,fun d e=>by cases e⟩;have ot8:=a3L ot8 t12;have ot9:=a3L ot9 t12;have ot10:=a3L ot10 t12;have ot11:=a3L ot11 t12;have S:=S.trans t12;have sts:=sts.same t12;have fL:=t12 _ _ fL;refine fun y13 G21 e13 t13 ot13=>?_;have ot13:∃od,Got G21 y13 a2 od:=⟨none,ot13,fun d e=>by cases e⟩;have ot8:=a3L ot8 t13;have ot9:=a3L ot9 t13;have ot10:=a3L ot10 t13;have ot11:=a3L ot11 t13;have ot12:=a3L ot12 t13;have S:=S.trans t13;have sts:=sts.same t13;have fL:=t13 _ _ fL;refine⟨(by exact sl6),fun qo uo=>?_⟩;generalize yo:L2.upd G21 qo _=G22;obtain⟨vo,fo⟩:=gz6 yo uo;have ot8:=a3L ot8 vo;have ot9:=a3L ot9 vo;have ot10:=a3L ot10 vo;have ot11:=a3L ot11 vo;have ot12:=a3L ot12 vo;have ot13:=a3L ot13 vo;have S:=S.trans vo;have sts:=sts.same vo;have fL:=vo _ _ fL;have ots:Ots G22 [y8,y9,y10,y11,y12,y13] [CO,b1,b2,b3,b4,b5,b6,b7,CN,a1,a3,a5,a4,a2]:=(((((Ots.nil.snoc rfl ot8).snoc rfl ot9).snoc rfl ot10).snoc rfl ot11).snoc rfl ot12).snoc rfl ot13;have fo:G22 qo=some (.lst ([y8,y9,y10,y11,y12,y13].map V.ref)):=fo;clear ot8 ot9 ot10 ot11 ot12 ot13;generalize hX:[y8,y9,y10,y11,y12,y13]=Y6 at *;have l6:Y6.length=6:=by rw[<-hX];rfl
  clear hX;refine⟨_,rfl,qo,rfl,⟨_,SqL.of fo⟩,a2h (K:=K) (a:=qo) (xs:=Y6.map V.ref) (fun j σ H4=>H4=G22/\∃u,σ=[some (.str z),some (.int n),some (.int p),some (.ref r7),u,some (.ref qo),none]) ⟨rfl,_,rfl⟩ (fun j σ H4 _ pp=>by rw[pp.1];exact SqL.of fo) ?_ ?_⟩
  ·rintro j x σ H4 hx ⟨rfl,u,rfl⟩
   rw[gM0] at hx;obtain⟨a,ha,rfl⟩:=Option.map_eq_some_iff.mp hx;obtain⟨C,od,hC,g⟩:=ots j a ha;have ks:=Z.isS (8+j) C hC;rw[dF0 (by omega)] at ks;refine⟨_,rfl,a,C,od,_,false,rfl,g.1,g.2,Z.xi C (gI0 hC),one ks,_,rfl,a2z ?_⟩;exact⟨rfl,_,rfl⟩
  rintro σ H4 ⟨rfl,u1,rfl⟩;refine⟨_,rfl,_,rfl,r7,qo,_,_,rfl,rfl,fL,fo,(by rw[lM0,lM0,sizeLine_eq];omega),fun la ua=>?_⟩;generalize ya:L2.upd H4 la _=HA;obtain⟨va,fa⟩:=gz6 ya ua;have S:=S.trans va;have al:Als HA (X8++Y6) [CO,b1,b2,b3,b4,b5,b6,b7,CN,a1,a3,a5,a4,a2]:=(Als.of l8 sts ots).same va;rw[<-mA0] at fa;have l14:(X8++Y6).length=14:=by rw[lA0];omega
  generalize X8++Y6=X14 at *;refine⟨la,rfl,⟨_,SqL.of fa⟩,a6y (K:=K) (a:=la) (xs:=X14.map V.ref) (fun j σ H4=>a0l HA H4/\∃u v,σ=[some (.str z),some (.int n),some (.int p),some (.ref r7),u,some (.ref qo),v]) ⟨a0l.refl _,_,_,rfl⟩ (fun j σ H4 _ pp=>SqL.of (pp.1 _ _ fa)) ?_ ?_⟩
  ·rintro j x pt σ H4 hx ⟨s4,u,v,rfl⟩ hpt
   rw[gM0] at hx;obtain⟨a,ha,rfl⟩:=Option.map_eq_some_iff.mp hx;have T5:=a0l.upd (o:=.tup [.int j,.ref a]) hpt;have S5:=s4.trans T5;obtain⟨C,od,hC,g⟩:=(al.same S5) j a ha;have mC:=gI0 hC;refine⟨pt,_,rfl,SqT.of a0c,rfl,_,_,rfl,_,_,rfl,rfl,?_⟩;refine⟨_,rfl,a,C,od,_,true,rfl,g.1,g.2,Z.xi C mC,one (Z.isT C mC),_,rfl,a2z ?_⟩;refine⟨_,rfl,a,C,od,_,true,rfl,g.1,g.2,Z.xi C mC,(fun u r=>by cases(show u=Value.type "ValueError" from r);exact Z.isV C mC),_,rfl,a2z ?_⟩;refine⟨_,rfl,a,C,od,j,rfl,g,hC,fun pc H6 _ s6 hpc=>?_⟩;refine⟨_,rfl,(by decide),(by decide),fun D hD=>?_⟩;refine a1O 14 (fun i=>.bl (decide (j=i))) (fun i σ' Hc=>(∃t0,σ'=[t0,some (.int j)])/\a0l H6 Hc) (by decide) ⟨⟨_,rfl⟩,a0l.upd hD⟩ a0c ?_ ?_
   ·rintro i σ' Hc hi ⟨⟨t0,rfl⟩,sm⟩ hD'
    refine⟨hi,?_⟩;rintro x H' ⟨rfl,rfl⟩;refine⟨_,rfl,_,rfl,rfl,?_,hD',⟨_,rfl⟩,sm.put hD⟩
    have:decide (V.int (0+(i:Int))=V.int (j:Int))=decide (j=i):=by
     rw[Bool.eq_iff_iff,decide_eq_true_iff,decide_eq_true_iff]
     constructor
     ·intro e
      injection e with e
      omega
     ·rintro rfl
      rw[Int.zero_add]
    rw[this]
   ·rintro σ' Hc ⟨_,sm⟩ hDn
    refine⟨nR0 _,?_⟩;have hpc':=sm _ _ hpc;refine⟨0,pc,D,_,_,rfl,rfl,SqL.of hpc',SqL.of hDn,rfl,(fun i x y h1 h2=>?_),hu,_,rfl,a2z ?_⟩
    ·rw[show b4e j=(List.range 14).map fun i=>V.bl (decide (j=i)) from rfl,h2] at h1
     cases h1;rw[gM0] at h2;obtain⟨m,_,rfl⟩:=Option.map_eq_some_iff.mp h2;exact .bl
    ·exact⟨S5.trans (s6.trans sm),_,_,rfl⟩
  rintro σ H4 ⟨s4,u2,v2,rfl⟩;refine⟨0,rfl,fun xm H5 em s5 mv=>?_⟩;obtain⟨dm,gm1,gm2⟩:=mv;refine⟨xm,a1,dm,_,_,rfl,gm1,gm2,Y.nmk.cl,Y.nat,rfl,rfl,_,rfl,a3K (by simp) ?_⟩;refine⟨_,rfl,n,rfl,fun xn H6 en s6 mv=>?_⟩;obtain⟨dn,gn1,gn2⟩:=mv;refine⟨xn,a1,dn,_,_,rfl,gn1,gn2,Y.nmk.cl,Y.nat,rfl,_,rfl,rfl,?_⟩
  have:=q H6 (S.trans (s4.trans (s5.trans s6)))
  simpa using this
end
end My
namespace L2
open PySem PySem.Spec PyProof.Rows
theorem a1z {H H':Hp}{a p:Addr}{o:HO}(ha:H a≠none)(hp:H p=none)(e:H' p=some o):a1k H' a p=some o:=by
 rw[a0U (fun h=>by subst h;exact ha hp)];exact e
theorem a1Y {H H':Hp}{a:Addr}(ha:H a≠none)(s:a0l H H'):H' a≠none:=by
 cases e:H a with
 |none=>exact absurd e ha
 |some o=>rw[s _ _ e];exact fun h=>by cases h
end L2
namespace My
open PySem L2 PyProof.Rows
seal L2.PE L2.PT L2.PW L2.PS L2.PSs L2.PA L2.PI L2.PG L2.PGs L2.OpR L2.UnR L2.a1C L2.IxR L2.SlR L2.MtR L2.PIf L2.PO L2.MtM L2.PC
def KeyV (H:Hp)(v:V):Prop:=(∃k:Key,v=kV k)\/b3Q H v
def b1I:Sp:=fun vs H Q _=>∃(z:Str) (c:Int) (a:Addr),vs=[.str z,.int c]/\a1w z=true/\H a≠none/\∀v d H',a0l H H'->Rep (a1k H' a) d v->a2S d=false->KeyV H' v->Q v H'
def b2Z:Sp:=fun vs H Q _=>∃(v:V) (d:Dt) (c:Int) (a:Addr),vs=[v,.int c]/\Rep (a1k H a) d v/\a1x d=true/\H a≠none/\∀v' d' H',a0l H H'->Rep (a1k H' a) d' v'->a1x d'=false->Q v' H'
def a9W:Sp:=fun vs H Q _=>∃c:Int,vs=[.int c]/\∀v d H',a0l H H'->Rep H' d v->b2l d->Q v H'
theorem a2a {z:Str}(h:a1w z=true):1<=z.length/\z.length<=8:=by
 unfold a1w at h;rw[Bool.and_eq_true,decide_eq_true_iff] at h;exact h.1
theorem a2N {z:Str}{c:Nat}(hc:c∈z.cps.toList)(h:c∉a1f):a1w z=false:=by
 cases e:a1w z with
 |false=>rfl
 |true=>
  unfold a1w at e;rw[Bool.and_eq_true,List.all_eq_true] at e;exact absurd (of_decide_eq_true (e.2 c hc)) h
def b4d:List Nat:=("A1_ -.,Z":Str).cps.toList
theorem a8Y:∀c∈b4d,c∉a1f:=by decide +kernel
theorem a4c {d:Dt}(h:a1x d=true):(∃s,d=.tup [s])\/∃s b,d=.tup [s,b]:=by
 unfold a1x a1I a4C at h
 match d,h with
 | .tup [s],_=>exact .inl ⟨s,rfl⟩
 | .tup [s,b],_=>exact .inr ⟨s,b,rfl⟩
theorem a9I {s:Dt}{r:List Dt}(h:a1x (.tup (s::r))=true):∃y,s=.str y:=by
 cases s with
 |str y=>exact⟨y,rfl⟩
 |_=>
  rcases a4c h with ⟨s,e⟩ |⟨s,b,e⟩
  ·injection e with e;injection e with e1 e2;subst e1 e2
   simp[a1x,a1I,a4C,a0u,w2] at h
  ·injection e with e;injection e with e1 e2;subst e1 e2
   simp[a1x,a1I,a4C,a2k,a0u,w2,w3] at h
theorem a7F {y:Str}(h:a1x (.tup [.str y])=true):a1x (.tup [.str y,.int 1])=false:=by
 have:y="whole"\/y="word"\/y="key":=by
  simp[a1x,a1I,a4C,a0u,w2] at h;rcases h with (h |h) |h
  ·exact .inl h
  ·exact .inr (.inl h)
  ·exact .inr (.inr h)
 rcases this with rfl |rfl |rfl<;>decide +kernel
section
variable {P:Program}{w:World}{K:Fg0}{mg:Str->Option Value}{base:Heap}
theorem b0t {f:Addr}{fd:FuncData}(F:Fun K "_law_no_name" "_law_no_name" (top 45) f fd)(B:Bl mg):a0K P w K mg base CX0 1 f fd ["_law_name","_law_cell_here"] b1I:=by
 have sc:a0o ["_law_name","_law_cell_here","_law_at","_law_sign","_law_spoiled_here"] ["_law_name","_law_cell_here"] (a0f (top 45)):=.k (by decide +kernel);refine F.ok sc (fun vs H Q E h=>?_) (fun cdv A outer s H vs Q E hr h=>?_)
 ·obtain⟨z,c,a,rfl,_⟩:=h
  rfl
 ·obtain⟨z,c,a,rfl,hz,ha,q⟩:=h
  refine⟨_,a0d (a0s (i:=2) sc.nd rfl (Or.inl rfl) (a0m a0M (a0m a1D (pv 1) a0e) (a0i a2t (by rfl) B.len PySem.boot_len (a0a (pv 0) a0b))))
   (a0d (a0s (i:=3) sc.nd rfl (Or.inl rfl) (a0W a7Q a0p (a0m a0M (a0m a1D (a0m a1D (pv 1) a0e) a0e) a0e) (fun _ _=>rfl)))
   (a0d (a0s (i:=4) sc.nd rfl (Or.inl rfl) (a0m a1t (a0m a1t (a0N a4E (pv 0) a1a (a0Y (pv 2))) (pv 3)) (a0N a4E (pv 0) (a0Y (a0m a1d (pv 2) a0e)) a1a)))
   (a0g (a0r (a0W a0F (a0O (a0a a0p (a0a a0p (a0a (pv 4) (a0a (a0m a1t (pv 0) a0p) (a0a a3U (a0a a0e (a0a a3f (a0a (a0L (a0a (pv 0) a0b)) (a0a (pv 3) (a0a (pv 4) a0b))))))))))) (a0m a0M (pv 1) a0e) (fun _ _=>rfl)))))),?_⟩
  obtain⟨l1,l8⟩:=a2a hz;have hzs:z.length<=sizeLine:=by rw[sizeLine_eq];omega
  have hm0:0<=c/10%(z.length:Int):=Int.emod_nonneg _ (by omega);have hm1:c/10%(z.length:Int)<z.length:=Int.emod_lt_of_pos _ (by omega);refine⟨_,rfl,_,_,rfl,rfl,⟨by decide,by decide⟩,_,rfl,_,rfl,hzs,_,_,rfl,rfl,(by omega),?_⟩;obtain⟨sg,hsg,msg⟩:=b1q (l:=b4d) (i:=c/10/8%8) (Int.emod_nonneg _ (by decide)) (Int.emod_lt_of_pos _ (by decide));refine⟨_,rfl,_,_,rfl,rfl,⟨by decide,by decide⟩,_,_,rfl,rfl,⟨by decide,by decide⟩,_,_,rfl,rfl,(pos rfl),_,_,sg,rfl,rfl,(by decide +kernel),hsg,?_⟩;have e1:(Txt.slice z none (some (c/10%(z.length:Int)))).cps.toList=z.cps.toList.take (c/10%(z.length:Int)).toNat:=a4n z hm0 (by omega);have e2:(Txt.slice z (some ((c/10%(z.length:Int))+1)) none).cps.toList=z.cps.toList.drop ((c/10%(z.length:Int))+1).toNat:=a6G z (by omega) (by omega);have n1:(Txt.slice z none (some (c/10%(z.length:Int)))).length<=8:=by rw[<-a8V,e1,lT0,a8V];omega
  have n2:(Txt.slice z (some ((c/10%(z.length:Int))+1)) none).length<=8:=by rw[<-a8V,e2,List.length_drop,a8V];omega
  have n0:(⟨#[sg]⟩:Str).length=1:=rfl;have s1000:1000<=sizeLine:=by rw[sizeLine_eq];omega
  refine⟨_,rfl,_,rfl,_,rfl,_,rfl,hzs,_,rfl,_,_,rfl,rfl,(by rw[n0];omega),_,rfl,_,rfl,_,_,rfl,rfl,_,rfl,_,rfl,hzs,_,_,rfl,rfl,(by rw[Str.length_append,n0];omega),?_⟩;have hsp:sg∈(Txt.slice z none (some (c/10%(z.length:Int)))++⟨#[sg]⟩++Txt.slice z (some ((c/10%(z.length:Int))+1)) none).cps.toList:=by
   rw[Str.cps_append,Str.cps_append,Array.toList_append,Array.toList_append];exact List.mem_append_left _ (List.mem_append_right _ (mS0.mpr rfl))
  have lsp:(Txt.slice z none (some (c/10%(z.length:Int)))++⟨#[sg]⟩++Txt.slice z (some ((c/10%(z.length:Int))+1)) none).length<=1000:=by rw[Str.length_append,Str.length_append,n0];omega
  dsimp only
  generalize Txt.slice z none (some (c/10%(z.length:Int)))++⟨#[sg]⟩++Txt.slice z (some ((c/10%(z.length:Int))+1)) none=sp at hsp lsp;have nsg:=a8Y sg msg;have lb:(z++(" ":Str)).length<=9:=by rw[Str.length_append];show z.length+1<=9;omega
  refine⟨_,rfl,_,rfl,_,_,rfl,rfl,(by show z.length+1<=sizeLine;omega),_,rfl,(by exact sl1),fun pt et=>?_⟩;generalize ht:L2.upd H pt _=H1;obtain⟨s1,f1⟩:=gz6 ht et;refine⟨_,rfl,_,rfl,(by exact sl10),fun pl el=>?_⟩;generalize hl:L2.upd H1 pl _=H2;obtain⟨s2,f2⟩:=gz6 hl el;have S2:=s1.trans s2;obtain⟨v,hv,mv⟩:=a2H (l:=[V.str "",.str "abcdefghi",.str sp,.str (z++" "),.non,.int 5,.bl true,.ref pt,.str ⟨#[sg]⟩,.str sp]) (i:=c%10) (Int.emod_nonneg _ (by decide)) (Int.emod_lt_of_pos _ (by decide));refine⟨_,rfl,_,_,rfl,rfl,(pos rfl),_,_,_,_,rfl,rfl,SqL.of f2,hv,?_⟩;have str:∀y:Str,y.length<=1000->a1w y=false->v=.str y->Q v H2:=fun y hy hb e=>by
   subst e;exact q _ (.str y) H2 S2 (a0B hy) hb (.inl ⟨.inr y,rfl⟩)
  simp only[mK0,List.not_mem_nil,or_false] at mv;rcases mv with h |h |h |h |h |h |h |h |h |h
  ·exact str _ (by decide +kernel) (by decide +kernel) h
  ·exact str _ (by decide +kernel) (by decide +kernel) h
  ·exact str _ lsp (a2N hsp nsg) h
  ·refine str _ (by omega) (a2N (c:=32) ?_ (by decide +kernel)) h
   rw[Str.cps_append,Array.toList_append];exact List.mem_append_right _ (by decide +kernel)
  ·subst h
   exact q _ .non H2 S2 a4j rfl (.inr (.inl rfl))
  ·subst h
   exact q _ (.int 5) H2 S2 (a1B 5) rfl (.inl ⟨.inl 5,rfl⟩)
  ·subst h
   exact q _ (.bl true) H2 S2 (a6B true) rfl (.inr (.inr (.inl rfl)))
  ·subst h
   have f1':=a1z ha et (s2 _ _ f1);exact q _ (.tup [.str z]) H2 S2 (a1R f1' (a0y (a0B (by omega)) a0T)) rfl (.inr (.inr (.inr ⟨pt,[.inr z],rfl,s2 _ _ f1⟩)))
  ·exact str _ (by rw[n0];decide) (a2N (mS0.mpr rfl) nsg) h
  ·exact str _ lsp (a2N hsp nsg) h
theorem b1U {f:Addr}{fd:FuncData}(F:Fun K "_law_no_kind" "_law_no_kind" (top 46) f fd)(B:Bl mg):a0K P w K mg base CX0 1 f fd ["_law_kind_here","_law_cell_here"] b2Z:=by
 have sc:a0o ["_law_kind_here","_law_cell_here","_law_some"] ["_law_kind_here","_law_cell_here"] (a0f (top 46)):=.k (by decide +kernel);refine F.ok sc (fun vs H Q E h=>?_) (fun cdv A outer s H vs Q E hr h=>?_)
 ·obtain⟨v,d,c,a,rfl,_⟩:=h
  rfl
 ·obtain⟨v,d,c,a,rfl,hd,hk,ha,q⟩:=h
  refine⟨_,a0d (a0s (i:=2) sc.nd rfl (Or.inl rfl) (a0O (a0a a3U (a0a (a0W a2c (pv 0) a0e (fun _ _=>rfl)) (a0a (a1u a1W (by rfl) B.list boot_list (a0a (pv 0) a0b)) (a0a (a0m b0Q (pv 0) (a0L (a0a a0e a0b))) (a0a (a0L (a0a a0p (a0a a0e a0b))) (a0a (a0L (a0a a0p (a0a (a0L (a0a a0p a0b)) a0b))) (a0a (a0L (a0a a0p a0b)) (a0a (a0L a0b) (a0a (a0L (a0a a2v (a0a a0e a0b))) a0b)))))))))))
   (a0g (a0r (a0W a0F (pv 2) (a0m a0M (pv 1) a0e) (fun _ _=>rfl)))),?_⟩
  obtain⟨s0,dr,rfl,hn⟩:∃s0 dr,d=.tup (s0::dr)/\(dr=[]\/∃b,dr=[b]):=by
   rcases a4c hk with ⟨s,rfl⟩ |⟨s,b,rfl⟩
   ·exact⟨s,[],rfl,.inl rfl⟩
   ·exact⟨s,[b],rfl,.inr ⟨b,rfl⟩⟩
  obtain⟨y,rfl⟩:=a9I hk;unfold Rep at hd;obtain⟨kA,xs,rfl,hkA,hrs⟩:=hd;have hrs0:=hrs;unfold a0V at hrs;obtain⟨x0,xr,rfl,hx0,hxr⟩:=hrs;unfold Rep at hx0;obtain⟨rfl,hy⟩:=hx0;have hkH:H kA=some (.tup (V.str y::xr)):=a3y _ _ hkA;have hxl:xr.length<=1:=by
   rw[hxr.length];rcases hn with rfl |⟨b,rfl⟩
   ·exact zL0 _
   ·exact nR0 _
  have s100:100<=sizeLine:=by rw[sizeLine_eq];omega
  refine⟨_,rfl,_,_,0,_,rfl,rfl,SqT.of hkH,(show atI (V.str y::xr) 0=some (.str y) from a1P (j:=0) rfl),_,rfl,kA,_,rfl,.inr (SqT.of hkH),fun p1 e1=>?_⟩;generalize h1:L2.upd H p1 _=H1;obtain⟨t1,f1⟩:=gz6 h1 e1;refine⟨_,rfl,(by exact sl1),fun p2 e2=>?_⟩;generalize h2:L2.upd H1 p2 _=H2;obtain⟨t2,f2⟩:=gz6 h2 e2;refine⟨kA,p2,_,_,rfl,rfl,SqT.of ((t1.trans t2) _ _ hkH),SqT.of f2,(by simp),(by show xr.length+1+1<=sizeLine;omega),(fun e=>by cases e),fun _ p3 e3=>?_⟩;generalize h3:L2.upd H2 p3 _=H3;obtain⟨t3,f3⟩:=gz6 h3 e3;refine⟨(by exact sl2),fun p4 e4=>?_⟩;generalize h4:L2.upd H3 p4 _=H4;obtain⟨t4,f4⟩:=gz6 h4 e4;refine⟨(by exact sl1),fun p5 e5=>?_⟩;generalize h5:L2.upd H4 p5 _=H5;obtain⟨t5,f5⟩:=gz6 h5 e5;refine⟨(by exact sl2),fun p6 e6=>?_⟩;generalize h6:L2.upd H5 p6 _=H6;obtain⟨t6,f6⟩:=gz6 h6 e6;refine⟨(by exact sl1),fun p7 e7=>?_⟩;generalize h7:L2.upd H6 p7 _=H7;obtain⟨t7,f7⟩:=gz6 h7 e7;refine⟨zL0 _,fun p8 e8=>?_⟩;generalize h8:L2.upd H7 p8 _=H8;obtain⟨t8,f8⟩:=gz6 h8 e8;refine fun p9 e9=>?_;generalize h9:L2.upd H8 p9 _=H9;obtain⟨t9,f9⟩:=gz6 h9 e9;refine⟨(by exact sl2),fun pa ea=>?_⟩;generalize ha':L2.upd H9 pa _=HA;obtain⟨tA,fA⟩:=gz6 ha' ea;refine⟨(by exact sl9),fun pb eb=>?_⟩;generalize hb':L2.upd HA pb _=HB;obtain⟨tB,fB⟩:=gz6 hb' eb;obtain⟨v,hv,mv⟩:=a2H (l:=[V.non,.str y,.ref p1,.ref p3,.ref p4,.ref p6,.ref p7,.ref p8,.ref pa]) (i:=c%9) (Int.emod_nonneg _ (by decide)) (Int.emod_lt_of_pos _ (by decide));refine⟨_,rfl,_,rfl,_,_,rfl,rfl,(pos rfl),?_⟩;refine⟨_,_,_,_,rfl,rfl,SqL.of fB,hv,?_⟩;have A1:=a1Y ha t1;have A2:=a1Y A1 t2;have A3:=a1Y A2 t3;have A4:=a1Y A3 t4;have A5:=a1Y A4 t5;have A6:=a1Y A5 t6;have A7:=a1Y A6 t7;have A8:=a1Y A7 t8;have A9:=a1Y A8 t9;have u9:=tA.trans tB;have u8:=t9.trans u9;have u7:=t8.trans u8;have u6:=t7.trans u7;have u5:=t6.trans u6;have u4:=t5.trans u5;have u3:=t4.trans u4;have u2:=t3.trans u3;have u1:=t2.trans u2;have u0:=t1.trans u1;have rd:∀v' d',v=v'->Rep (a1k HB a) d' v'->a1x d'=false->Q v HB:=fun v' d' e r k=>by rw[e];exact q v' d' HB u0 r k
  have hrB:=hrs0.same u0.drop;simp only[mK0,List.not_mem_nil,or_false] at mv;rcases mv with h |h |h |h |h |h |h |h |h
  ·exact rd _ .non h a4j rfl
  ·exact rd _ (.str y) h (a0B hy) rfl
  ·exact rd _ (.lst (.str y::dr)) h (a4h (a1z ha e1 (u1 _ _ f1)) hrB) rfl
  ·have r3:a0V (a1k HB a) (.str y::dr++[.int 1]) (V.str y::xr++[.int 1]):=by
    rcases hn with rfl |⟨b,rfl⟩
    ·unfold a0V at hxr
     subst hxr;exact a0y (a0B hy) (a0y (a1B 1) a0T)
    ·unfold a0V at hxr
     obtain⟨x1,xr',rfl,hx1,hx2⟩:=hxr;unfold a0V at hx2;subst hx2;exact a0y (a0B hy) (a0y (hx1.same u0.drop) (a0y (a1B 1) a0T))
   refine rd _ (.tup (.str y::dr++[.int 1])) h (a1R (a1z A2 e3 (u3 _ _ f3)) r3) ?_;rcases hn with rfl |⟨b,rfl⟩
   ·exact a7F hk
   ·rfl
  ·exact rd _ (.tup [.str "below",.int 0]) h (a1R (a1z A3 e4 (u4 _ _ f4)) (a0y (a0B (by decide +kernel)) (a0y (a1B 0) a0T))) (by decide +kernel)
  ·exact rd _ (.tup [.str "list",.tup [.str "key"]]) h (a1R (a1z A5 e6 (u6 _ _ f6)) (a0y (a0B (by decide +kernel)) (a0y (a1R (a1z A4 e5 (u5 _ _ f5)) (a0y (a0B (by decide +kernel)) a0T)) a0T))) (by decide +kernel)
  ·exact rd _ (.tup [.str "words"]) h (a1R (a1z A6 e7 (u7 _ _ f7)) (a0y (a0B (by decide +kernel)) a0T)) (by decide +kernel)
  ·exact rd _ (.tup []) h (a1R (a1z A7 e8 (u8 _ _ f8)) a0T) (by decide +kernel)
  ·exact rd _ (.tup [.dct,.int 1]) h (a1R (a1z A9 ea (tB _ _ fA)) (a0y (a5x (a1z A8 e9 (u9 _ _ f9))) (a0y (a1B 1) a0T))) (by decide +kernel)
theorem b1u {f:Addr}{fd:FuncData}(F:Fun K "_law_size" "_law_size" (top 49) f fd):a0K P w K mg base CX0 1 f fd ["_law_cell_here"] a9W:=by
 have sc:a0o ["_law_cell_here"] ["_law_cell_here"] (a0f (top 49)):=.k (by decide +kernel);refine F.ok sc (fun vs H Q E h=>?_) (fun cdv A outer s H vs Q E hr h=>?_)
 ·obtain⟨c,rfl,_⟩:=h
  rfl
 ·obtain⟨c,rfl,q⟩:=h
  refine⟨_,a0g (a0r (a0W a0F (a0O (a0a a0e (a0a (a0m a7t (b3n b2Y a0e) (a0m a0M (a0m a1D (pv 0) a0e) (a0m a6r a0e a0e))) (a0a a3f (a0a a3U (a0a a0p (a0a (a0L (a0a a0e a0b)) (a0a (a0O (a0a a0e a0b)) (a0a a3f a0b))))))))) (a0m a0M (pv 0) a0e) (fun _ _=>rfl))),?_⟩;have p12:b3f 10 12:=⟨by decide,by decide,by decide⟩;have e12:(10:Int) ^ (12:Int).toNat=1000000000000:=by decide +kernel
  have h0:=Int.emod_nonneg (c/8) (show(10:Int) ^ (12:Int).toNat≠0 by rw[e12];decide);refine⟨_,rfl,_,rfl,_,_,rfl,rfl,⟨by decide,by decide⟩,_,_,rfl,rfl,p12,_,_,rfl,rfl,(by show(0:Int)<(10:Int) ^ (12:Int).toNat;rw[e12];decide),_,_,rfl,rfl,?_⟩;refine⟨(by exact sl1),fun p1 e1=>?_⟩;generalize h1:L2.upd H p1 _=H1;obtain⟨t1,f1⟩:=gz6 h1 e1;refine⟨(by exact sl1),fun p2 e2=>?_⟩;generalize h2:L2.upd H1 p2 _=H2;obtain⟨t2,f2⟩:=gz6 h2 e2;refine⟨(by exact sl8),fun p3 e3=>?_⟩;generalize h3:L2.upd H2 p3 _=H3;obtain⟨t3,f3⟩:=gz6 h3 e3;obtain⟨v,hv,mv⟩:=a2H (l:=[V.int 0,.int (-1-c/8%(10:Int) ^ (12:Int).toNat),.bl true,.non,.str "5",.ref p1,.ref p2,.bl false]) (i:=c%8) (Int.emod_nonneg _ (by decide)) (Int.emod_lt_of_pos _ (by decide));refine⟨_,rfl,_,_,rfl,rfl,(pos rfl),_,_,_,_,rfl,rfl,SqL.of f3,hv,?_⟩;have S:=t1.trans (t2.trans t3);simp only[mK0,List.not_mem_nil,or_false] at mv;rcases mv with h |h |h |h |h |h |h |h<;>subst h
  ·exact q _ (.int 0) H3 S (a1B 0) (.inr ⟨0,rfl,by decide⟩)
  ·exact q _ (.int _) H3 S (a1B _) (.inr ⟨_,rfl,by omega⟩)
  ·exact q _ (.bl true) H3 S (a6B true) (.inl rfl)
  ·exact q _ .non H3 S a4j (.inl rfl)
  ·exact q _ (.str "5") H3 S (a0B (by decide +kernel)) (.inl rfl)
  ·exact q _ (.tup [.int 5]) H3 S (a1R ((t2.trans t3) _ _ f1) (a0y (a1B 5) a0T)) (.inl rfl)
  ·exact q _ (.lst [.int 5]) H3 S (a4h (t3 _ _ f2) (a0y (a1B 5) a0T)) (.inl rfl)
  ·exact q _ (.bl false) H3 S (a6B false) (.inl rfl)
def b0h:Sp:=fun vs H Q _=>∃(d0:Addr) (wy c:Int) (cols:List (Str×V)),vs=[.ref d0,.int wy,.int c]/\H d0=some (.dK (kvC cols))/\a1J H cols/\∀a H',H a=none->a0l H H'->b0N H' a->Q (.ref a) H'
theorem a2O {H H':Hp}{a:Addr}(s:a0l H H')(ha:H a=none):a0l H (a1k H' a):=fun b o e=>by
 rw[a0U (a0v e ha)];exact s _ _ e
theorem a4D {H H':Hp}{cols:List (Str×V)}(h:a1J H cols)(s:a0l H H'){z:Str}{v:V}(m:(z,v)∈cols):a3S H' (.str z,v):=by
 obtain⟨hn,d,hd,hk,_⟩:=h.2.2 (z,v) m;have h8:z.length<=8:=(a2a hn).2;exact⟨.str z,d,a0B (by omega),hd.same s,hn,hk⟩
theorem a4q (cols:List (Str×V)):(kvC cols).map (fun q=>(kV q.1,q.2))=cols.map fun p=>(V.str p.1,p.2):=by
 unfold kvC;rw[mC0]
 rfl
theorem b1A {cols:List (Str×V)}(nd:(cols.map (·.1)).Nodup){z:Str}(h:z∈cols.map (·.1))(v:V):∃c1 u c2,cols=c1++(z,u)::c2/\a5l (kvC cols) (.inr z) v=kvC c1++(.inr z,v)::kvC c2:=by
 obtain⟨p,hp,rfl⟩:=mM0.mp h;obtain⟨c1,c2,rfl⟩:=List.append_of_mem hp;obtain⟨z,u⟩:=p;refine⟨c1,u,c2,rfl,?_⟩;rw[mA0,mN0,List.nodup_append] at nd;obtain⟨_,n2,n3⟩:=nd;have n2':=(List.nodup_cons.mp n2).1;have k1:∀(l:List (Str×V)),z∉l.map (·.1)->(kvC l).map (fun kv=>if kv.1=.inr z then(kv.1,v) else kv)=kvC l:=by
  intro l hl;unfold kvC;rw[mC0];refine List.map_congr_left fun p hp=>?_
  show(if (Sum.inr p.1:Key)=.inr z then _ else _)=_
  rw[if_neg fun e=>hl (by injection e with e;rw[<-e];exact List.mem_map_of_mem hp)]
 unfold a5l;rw[if_pos]
 ·have e:kvC (c1++(z,u)::c2)=kvC c1++(.inr z,u)::kvC c2:=by unfold kvC;rw[mA0,mN0]
  rw[e,mA0,mN0,k1 c1 (fun hz=>n3 z hz z (by simp) rfl),k1 c2 n2',if_pos rfl]
 ·rw[List.any_eq_true]
  exact⟨(.inr z,u),mM0.mpr ⟨(z,u),by simp,rfl⟩,by simp⟩
theorem b2N {cols:List (Str×V)}{k:Key}(h:∀z,k=.inr z->z∉cols.map (·.1)):a3O (kvC cols) k=none:=by
 induction cols with
 |nil=>rfl
 |cons p r ih=>
  unfold a3O kvC;rw[mN0,List.find?_cons_of_neg]
  ·exact ih fun z e hz=>h z e (mL0 _ hz)
  ·rw[decide_eq_true_iff]
   intro e;exact h p.1 e.symm (by simp)
theorem a8N:∀{cols:List (Str×V)},(cols.map (·.1)).Nodup->∀{p:Str×V},p∈cols->a3O (kvC cols) (.inr p.1)=some p.2
 |[],_,p,h=>by cases h
 |x::r,nd,p,h=>by
  rw[mN0,List.nodup_cons] at nd;unfold a3O kvC;rw[mN0];rcases mK0.mp h with rfl |h
  ·rw[List.find?_cons_of_pos (by simp)]
   rfl
  ·rw[List.find?_cons_of_neg]
   ·exact a8N nd.2 h
   ·rw[decide_eq_true_iff]
    intro e;have e':x.1=p.1:=by injection e
    exact nd.1 (by rw[e'];exact List.mem_map_of_mem h)
theorem a9L {cols:List (Str×V)}(nd:(cols.map (·.1)).Nodup){p:Str×V}(h:p∈cols):vOf cols p.1=p.2:=by
 unfold vOf;rw[a8N nd h]
 rfl
theorem b0Z {f fN fK:Addr}{fd fdN fdK:FuncData}(F:Fun K "_law_columns_spoiled" "_law_columns_spoiled" (top 47) f fd)(B:Bl mg)(DN:Df K mg "_law_no_name" (top 45) fN fdN)(DK:Df K mg "_law_no_kind" (top 46) fK fdK):a0K P w K mg base CX0 2 f fd ["_law_columns_here","_law_way","_law_cell_here"] b0h:=by
 have sc:a0o ["_law_columns_here","_law_way","_law_cell_here","_law_found","_law_names_here","_law_name"] ["_law_columns_here","_law_way","_law_cell_here"] (a0f (top 47)):=.k (by decide +kernel);have GN:a0K P w K mg base CX0 1 fN fdN ["_law_name","_law_cell_here"] b1I:=b0t DN.fn B;have GK:a0K P w K mg base CX0 1 fK fdK ["_law_kind_here","_law_cell_here"] b2Z:=b1U DK.fn B;have bN:=DN.fn.b2 "_law_name" "_law_cell_here" (by intros;rfl);have bK:=DK.fn.b2 "_law_kind_here" "_law_cell_here" (by intros;rfl);refine F.ok sc (fun vs H Q E h=>?_) (fun cdv A outer s H vs Q E hr h=>?_)
 ·obtain⟨d0,wy,c,cols,rfl,_⟩:=h
  rfl
 ·obtain⟨d0,wy,c,cols,rfl,hd0,ok,q⟩:=h
  have hu:(A.deeper (envOfC "_law_columns_spoiled" (a0f (top 47)) s.heap.objs.size f cdv)).units+1<cLine:=by have:=a3A hr;omega
  refine⟨_,a0d (a0s (i:=3) sc.nd rfl (Or.inl rfl) (a1u a4G (by rfl) B.dict boot_dict (a0a (pv 0) a0b)))
   (a0d (a0s (i:=4) sc.nd rfl (Or.inl rfl) (a0i (a2s rfl) (by rfl) B.sorted boot_sorted (a0a (pv 0) a0b)))
   (a0d (a0z (PW.pt (a3M (a0t a1p (pv 1) a0e (a0w _)) (a3a (a0t a1p (a0i a0E (by rfl) B.len PySem.boot_len (a0a (pv 4) a0b)) a0e (a0w _)))))
    (a0d (b1O hu (pv 3) (a0k GN hr (by rfl) DN.mg DN.fn.kp bN .nil a0G (a0a a0p (a0a (pv 2) a0b))) (a0L (a0a a0p a0b)) rfl) (a0g (a0r (pv 3)))) a0j)
   (a0d (a0s (i:=5) sc.nd rfl (Or.inl rfl) (a0W a0F (pv 4) (a0m a0M (a0m a1D (pv 2) a0e) (a0i a0E (by rfl) B.len PySem.boot_len (a0a (pv 4) a0b))) (fun _ _=>rfl)))
   (a0d (a8M hu (pv 3) (pv 5) (a0k GK hr (by rfl) DK.mg DK.fn.kp bK .nil a0G (a0a (a5L hu (pv 0) (pv 5) (fun _ _=>rfl)) (a0a (pv 2) a0b))) rfl)
   (a0g (a0r (pv 3))))))),?_⟩
  obtain⟨nd,l12,hcols⟩:=id ok;refine⟨_,rfl,d0,_,rfl,.inl hd0,fun a ea=>?_⟩;generalize h1:L2.upd H a _=H1;obtain⟨t1,f1⟩:=gz6 h1 ea;refine⟨_,rfl,d0,kvC cols,cols.map (·.1),rfl,.inl (t1 _ _ hd0),(by unfold kvC;rw[mC0,mC0];rfl),(by rw[lM0];omega),fun l ys el hperm hsort=>?_⟩;generalize h2:L2.upd H1 l _=H2;obtain⟨t2,f2⟩:=gz6 h2 el;have S2:=t1.trans t2;have fa2:=t2 _ _ f1;have hyl:ys.length=cols.length:=by rw[hperm.length_eq,lM0]
  apply b4m
  ·intro first
   refine⟨_,rfl,rfl,_,rfl,?_⟩;refine a3j (fun _=>a3R first) (fun _=>?_);refine⟨_,rfl,_,_,rfl,.inl (SqL.of f2),rfl,_,rfl,?_⟩;refine a3j (fun _=>first) (fun hn=>?_)
   ·have hne:ys.length≠0:=fun e=>hn (by rw[lM0,e];rfl)
    have hpos:0<ys.length:=Nat.pos_of_ne_zero hne;have m0:0<=c/9%((ys.map V.str).length:Int):=Int.emod_nonneg _ (by rw[lM0];omega);have m1:c/9%((ys.map V.str).length:Int)<(ys.map V.str).length:=Int.emod_lt_of_pos _ (by rw[lM0];omega);obtain⟨v,hv,mv⟩:=a2H (l:=ys.map V.str) m0 m1;obtain⟨y,hy,rfl⟩:=mM0.mp mv;refine⟨_,rfl,_,rfl,_,_,rfl,rfl,⟨by decide,by decide⟩,_,rfl,_,_,rfl,.inl (SqL.of f2),_,_,rfl,rfl,(by rw[lM0];omega),_,_,_,_,rfl,rfl,SqL.of f2,hv,?_⟩;have hym:y∈cols.map (·.1):=hperm.mem_iff.mp hy;refine⟨_,rfl,_,rfl,d0,vOf cols y,rfl,?_,_,rfl,?_⟩
    ·rw[<-a4N hym]
     exact b1S.k (k:=.inr y) (S2 _ _ hd0)
    obtain⟨p,hp,rfl⟩:=mM0.mp hym;obtain⟨hn,d,hd,hk,_⟩:=hcols p hp;have ev:vOf cols p.1=p.2:=a9L nd hp;rw[ev];refine⟨_,d,c,a,rfl,hd.same (a2O S2 ea),hk,(by rw[fa2];exact fun h=>by cases h),fun v' d' H3 t3 r3 k3=>?_⟩;have S3:=S2.trans t3;have fa3:=t3 _ _ fa2;refine⟨_,rfl,_,rfl,a,_,rfl,b0V.k (k:=.inr p.1) fa3 (by unfold kvC;rw[lM0,sizeLine_eq];omega),?_⟩;obtain⟨c1,u,c2,ec,ep⟩:=b1A nd hym v';rw[ep];have S4:a0l H (L2.upd H3 a (.dK (kvC c1++(.inr p.1,v')::kvC c2))):=fun b o e=>by rw[a0h (a0v e ea)];exact S3 _ _ e
    have D4:a0l (a1k H3 a) (a1k (L2.upd H3 a (.dK (kvC c1++(.inr p.1,v')::kvC c2))) a):=fun b o e=>by
     have nb:b≠a:=fun h=>by subst h;simp[a1k] at e
     rw[a0U nb] at e ⊢;rw[a0h nb];exact e
    refine⟨_,rfl,q a _ ea S4 ⟨c1.map fun p=>(V.str p.1,p.2),(.str p.1,v'),c2.map fun p=>(V.str p.1,p.2),.inl ⟨_,a0c,?_⟩,fun x hx=>?_,⟨.str p.1,d',a0B (by have:=(a2a hn).2;omega),r3.same D4,.inr k3⟩⟩⟩
    ·rw[mA0,mN0,a4q,a4q]
     rfl
    ·obtain⟨⟨z,u'⟩,hz,rfl⟩:=mM0.mp hx
     exact a4D ok (a2O S4 ea) (by rw[ec];exact List.mem_append_left _ hz)
  ·refine⟨(by exact sl1),fun pw ew=>?_⟩
   generalize h3:L2.upd H2 pw _=H3;obtain⟨t3,f3⟩:=gz6 h3 ew;have fa3:=t3 _ _ fa2;have S3:=S2.trans t3;refine⟨_,rfl,_,rfl,"spare",c,a,rfl,(by decide +kernel),(by rw[fa3];exact fun h=>by cases h),fun v d H4 t4 r4 n4 key=>?_⟩;have fa4:=t4 _ _ fa3;have S4:=S3.trans t4;have fw4:a1k H4 a pw=some (.tup [V.str "word"]):=by
    rw[a0U (fun h=>by subst h;rw[fa2] at ew;cases ew)];exact t4 _ _ f3
   have kw:Rep (a1k H4 a) (.tup [.str "word"]) (.ref pw):=a1R fw4 (a0y (a0B (by decide +kernel)) a0T);have fin:∀(o:HO),a0l H (L2.upd H4 a o)/\a0l (a1k H4 a) (a1k (L2.upd H4 a o) a):=fun o=>⟨fun b o e=>by rw[a0h (a0v e ea)];exact S4 _ _ e,fun b o e=>by
     have nb:b≠a:=fun h=>by subst h;simp[a1k] at e
     rw[a0U nb] at e ⊢;rw[a0h nb];exact e⟩
   have gd:∀(o:HO),∀x∈cols.map (fun p=>(V.str p.1,p.2)),a3S (a1k (L2.upd H4 a o) a) x:=fun o x hx=>by
    obtain⟨⟨z,u'⟩,hz,rfl⟩:=mM0.mp hx;exact a4D ok (a2O (fin o).1 ea) hz
   have bd:∀(o:HO),a8D (a1k (L2.upd H4 a o) a) (v,.ref pw):=fun o=>⟨d,_,r4.same (fin o).2,kw.same (fin o).2,.inl n4⟩;refine⟨a,rfl,?_⟩;rcases key with ⟨k,rfl⟩ |od
   ·refine .inl ⟨_,b0V.k fa4 (by unfold kvC;rw[lM0,sizeLine_eq];omega),?_⟩
    have hno:a3O (kvC cols) k=none:=b2N fun z e hz=>by
     subst e;obtain⟨p,hp,rfl⟩:=mM0.mp hz;have hn:=(hcols p hp).1;cases d with
     |str y=>
      unfold Rep at r4;obtain⟨e,_⟩:=r4;have e':p.1=y:=by injection e
      rw[show a2S (.str y)=a1w y from rfl,<-e',hn] at n4;cases n4
     |non=>unfold Rep at r4;cases r4
     |bl b=>unfold Rep at r4;cases r4
     |int i=>unfold Rep at r4;cases r4
     |tup ds=>unfold Rep at r4;obtain⟨_,_,e,_⟩:=r4;cases e
     |lst ds=>unfold Rep at r4;obtain⟨_,_,e,_⟩:=r4;cases e
     |dct=>unfold Rep at r4;obtain⟨_,_,e,_⟩:=r4;cases e
    rw[L2.a4e _ hno];refine⟨_,rfl,q a _ ea (fin _).1 ⟨cols.map fun p=>(V.str p.1,p.2),(kV k,.ref pw),[],.inl ⟨_,a0c,?_⟩,gd _,bd _⟩⟩;rw[mA0,a4q]
    rfl
   ·refine .inr ⟨_,fa4,(fun p hp=>?_),(by unfold kvC;rw[lM0,sizeLine_eq];omega),od,fun o=>?_⟩
    ·obtain⟨x,_,rfl⟩:=mM0.mp hp
     exact⟨x.1,rfl⟩
    ·rw[a4q]
     exact⟨_,rfl,q a _ ea (fin _).1 ⟨cols.map fun p=>(V.str p.1,p.2),(v,.ref pw),[],.inr ⟨o,a0c⟩,gd _,bd _⟩⟩
def pgs (Ts:List Tb)(ds:List Addr):List PG:=List.zipWith (fun T d=>⟨.str T.name,.str T.sort,.str T.name,.str T.sort,d⟩) Ts ds
theorem a8O {Ts:List Tb}{ds:List Addr}{j:Nat}{p:PG}(h:(pgs Ts ds)[j]? =some p):∃T d,Ts[j]? =some T/\ds[j]? =some d/\p=⟨.str T.name,.str T.sort,.str T.name,.str T.sort,d⟩:=by
 unfold pgs at h;rw[List.getElem?_zipWith] at h;cases e1:Ts[j]? with
 |none=>rw[e1] at h;cases h
 |some T=>
  cases e2:ds[j]? with
  |none=>rw[e1,e2] at h;cases h
  |some d=>rw[e1,e2] at h;cases h;exact⟨T,d,rfl,rfl,rfl⟩
theorem a5v {Ts:List Tb}{ds:List Addr}(h:ds.length=Ts.length):(pgs Ts ds).length=Ts.length:=by
 unfold pgs;rw[List.length_zipWith];omega
theorem a3o {α:Type}(f:PG->α)(g:Tb->α):∀{Ts:List Tb} {ds:List Addr},ds.length=Ts.length->(∀T d,f ⟨.str T.name,.str T.sort,.str T.name,.str T.sort,d⟩=g T)->(pgs Ts ds).map f=Ts.map g
 |[],ds,h,_=>by unfold pgs;simp
 |T::Ts,[],h,_=>by simp at h
 |T::Ts,d::ds,h,e=>by
  show f _::(pgs Ts ds).map f=g T::Ts.map g;rw[e,a3o f g (by simpa using h) e]
def Pgs (H:Hp)(es:List Addr)(ps:List PG):Prop:=es.length=ps.length/\∀(j:Nat) (e:Addr) (p:PG),es[j]? =some e->ps[j]? =some p->b1g H e p
theorem Pgs.same {H H':Hp}{es:List Addr}{ps:List PG}(h:Pgs H es ps)(s:a0l H H'):Pgs H' es ps:=⟨h.1,fun j e p a b=>(h.2 j e p a b).same s⟩
theorem Pgs.app {H:Hp}{es es':List Addr}{ps ps':List PG}(h:Pgs H es ps)(h':Pgs H es' ps'):Pgs H (es++es') (ps++ps'):=by
 refine⟨by rw[lA0,lA0,h.1,h'.1],fun j e p a b=>?_⟩
 by_cases hj:j<es.length
 ·rw[gL0 hj] at a
  rw[gL0 (by rw[<-h.1];exact hj)] at b;exact h.2 j e p a b
 ·rw[gR0 (by omega)] at a
  rw[gR0 (by rw[<-h.1];omega),<-h.1] at b;exact h'.2 _ e p a b
theorem Pgs.take {H:Hp}{es:List Addr}{ps:List PG}(h:Pgs H es ps)(k:Nat):Pgs H (es.take k) (ps.take k):=by
 refine⟨by rw[lT0,lT0,h.1],fun j e p a b=>?_⟩
 by_cases hj:j<k
 ·rw[List.getElem?_take_of_lt hj] at a b
  exact h.2 j e p a b
 ·rw[List.getElem?_take_eq_none (by omega)] at a
  cases a
theorem Pgs.drop {H:Hp}{es:List Addr}{ps:List PG}(h:Pgs H es ps)(k:Nat):Pgs H (es.drop k) (ps.drop k):=by
 refine⟨by rw[List.length_drop,List.length_drop,h.1],fun j e p a b=>?_⟩;rw[List.getElem?_drop] at a b;exact h.2 _ e p a b
theorem Pgs.one {H:Hp}{e:Addr}{p:PG}(h:b1g H e p):Pgs H [e] [p]:=by
 refine⟨rfl,fun j e' p' a b=>?_⟩;cases j with
 |zero=>cases a;cases b;exact h
 |succ j=>cases a
theorem Pgs.of {H:Hp}{l:Addr}{es ds:List Addr}{Ts:List Tb}(h:a1F H l es ds Ts)(nm:∀T∈Ts,T.name.length<=1000/\T.sort.length<=1000):Pgs H es (pgs Ts ds):=by
 obtain⟨_,h1,h2,h3⟩:=h;refine⟨by rw[a5v h2,h1],fun j e p a b=>?_⟩;obtain⟨T,d,eT,ed,rfl⟩:=a8O b;have n:=nm T (gI0 eT);exact⟨(h3 j e d T a ed eT).1,a0B n.1,a0B n.2⟩
theorem b3F {α:Type}{l:List α}{k:Nat}{x:α}(h:l[k]? =some x):l.take k++[x]++l.drop (k+1)=l:=by
 obtain⟨hk,e⟩:=gS0.mp h;rw[List.append_assoc,List.singleton_append,<-e,List.getElem_cons_drop,List.take_append_drop]
theorem a7r {d x:Dt}{r:List Dt}(h:x∈r)(hx:a1v.any (a0u x)=false):a2Q (d::r)=true:=by
 show(!a0u d "head" || r.any fun d=>!a1v.any (a0u d))=true
 rw[List.any_eq_true.mpr ⟨x,h,by rw[hx];rfl⟩,Bool.or_true]
theorem a4Z {d:Dt}{r:List Dt}(h:a0u d "head"=false):a2Q (d::r)=true:=by
 show(!a0u d "head" || r.any fun d=>!a1v.any (a0u d))=true
 rw[h];rfl
theorem b1Y {ds:List Dt}{x:Dt}{k m:Nat}(h1:a0u x "head"=false)(h2:a1v.any (a0u x)=false):a2Q (ds.take k++[x]++ds.drop m)=true:=by
 rw[List.append_assoc];cases e:ds.take k with
 |nil=>exact a4Z h1
 |cons d r=>exact a7r (List.mem_append_right _ (by simp)) h2
def Sp3 (H:Hp)(es:List Addr)(ps:List PG)(C:Hp->Prop):Prop:=(a2Q (ps.map (·.sd))=true/\∀H',a0l H H'->C H')\/(SG ps/\a5N (ps.map (·.nd))/\∀H',a0l H H'->C H')\/(SG ps/\NG ps/\∃a,CG H es ps a/\∀H',Sl a H H'->C H')
def b3O:List Str:=["head","twin","many","some"]
def b2G (z:Str):Bool:=!(z=="head")&&!a1v.any (·==z)
theorem b1K {z:Str}(h:b2G z=true):a0u (.str z) "head"=false/\a1v.any (a0u (.str z))=false:=by
 unfold b2G at h;rw[Bool.and_eq_true] at h;refine⟨by simpa[a0u] using h.1,?_⟩
 have:=h.2
 rw[Bool.not_eq_true'] at this;rw[List.any_eq_false] at this ⊢;intro y hy e;refine this y hy ?_;have e':(z==y)=true:=e;rw[beq_iff_eq] at e' ⊢;exact e'.symm
theorem b1N:∀z∈b3O,b2G (z++"s")=true/\b2G (z++" ")=true/\(z++("s":Str)).length<=10/\(z++(" ":Str)).length<=10/\z.length<=10:=by decide +kernel
def b2X:Sp:=fun vs H Q _=>∃(l:Addr) (wy:Int) (n:Nat) (c:Int) (es ds:List Addr) (T0:Tb) (R:List Tb),vs=[.ref l,.int wy,.int n,.int c]/\a1F H l es ds (T0::R)/\b3e T0 R/\2<=wy/\wy<=8/\n<(T0::R).length ∧
 ∀l' es' ps' H',a0l H H'->b1F H' l' es' ps'->ps'.length<=9->(∀C:Hp->Prop,(∀H2,a0l H H2->C H2)->Sp3 H' es' ps' C)->Q (.ref l') H'
def slN:List Str:=["_law_parts","_law_way","_law_at","_law_cell_here","_law_name","_law_sort","_law_columns_here"]
def Mid6 (H:Hp)(l:Addr)(wy:Int)(n:Nat)(c:Int)(T:Tb)(d:Addr)(σ:L2.St)(H':Hp):Prop:=∃(nm so:V) (dd:Addr),σ=[some (.ref l),some (.int wy),some (.int n),some (.int c),some nm,some so,some (.ref dd)]/\a0l H H' ∧
 ((nm=.str T.name/\∃sd,Rep H' sd so/\a0u sd "head"=false/\a1v.any (a0u sd)=false)\/(so=.str T.sort/\∃nd,Rep H' nd nm/\a2S nd=false)\/(nm=.str T.name/\so=.str T.sort/\H dd=none/\b0N H' dd))
theorem b3H {es:List Addr}{k:Int}{m:Nat}(h:k=(m:Int))(hm:m<=es.length):a6Z (es.map V.ref) none (some k)=(es.take m).map V.ref:=by
 subst h;rw[a4U (by omega) (by rw[lM0];omega),List.map_take]
 rfl
theorem b3b {es:List Addr}{k:Int}{m:Nat}(h:k=(m:Int))(hm:m<=es.length):a6Z (es.map V.ref) (some k) none=(es.drop m).map V.ref:=by
 subst h;rw[a2E (by omega) (by rw[lM0];omega),List.map_drop]
 rfl
theorem a5n {es:List Addr}{k:Int}{m:Nat}(h:k=(m:Int))(hm:m<es.length):atI (es.map V.ref) k=some (.ref es[m]):=by
 subst h;exact a1P (by rw[gM0,gE0 hm];rfl)
theorem a6u {ps:List PG}{zs:List Str}(h:ps.map (·.so)=zs.map V.str)(k:Nat)(p:PG)(z:Str)(hp:p.so=.str z)(m:Nat):(ps.take k++[p]++ps.drop m).map (·.so)=(zs.take k++[z]++zs.drop m).map V.str:=by
 rw[mA0,mA0,List.map_take,List.map_drop,h,mA0,mA0,List.map_take,List.map_drop];simp[hp]
theorem b2H {f fN fS fK:Addr}{fd fdN fdS fdK:FuncData}(F:Fun K "_law_spoiled" "_law_spoiled" (top 48) f fd)(B:Bl mg)(DN:Df K mg "_law_no_name" (top 45) fN fdN)(DS:Df K mg "_law_columns_spoiled" (top 47) fS fdS)(DK:Df K mg "_law_no_kind" (top 46) fK fdK):a0K P w K mg base CX0 3 f fd ["_law_parts","_law_way","_law_at","_law_cell_here"] b2X:=by
 have sc:a0o slN ["_law_parts","_law_way","_law_at","_law_cell_here"] (a0f (top 48)):=.k (by decide +kernel);have GN:a0K P w K mg base CX0 1 fN fdN ["_law_name","_law_cell_here"] b1I:=b0t DN.fn B;have GS:a0K P w K mg base CX0 2 fS fdS ["_law_columns_here","_law_way","_law_cell_here"] b0h:=b0Z DS.fn B DN DK;have bN:=DN.fn.b2 "_law_name" "_law_cell_here" (by intros;rfl);have bS:=DS.fn.b3 "_law_columns_here" "_law_way" "_law_cell_here" (by intros;rfl);refine F.ok sc (fun vs H Q E h=>?_) (fun cdv A outer s H vs Q E hr h=>?_)
 ·obtain⟨l,wy,n,c,es,ds,T0,R,rfl,_⟩:=h
  rfl
 ·obtain⟨l,wy,n,c,es,ds,T0,R,rfl,hP,hT,w2,w8,hn,q⟩:=h
  have hr1:a1m 1 _:=hr.mono (by decide);have hr2:a1m 2 _:=hr.mono (by decide);obtain⟨hl,le,ld,hp⟩:=id hP;obtain⟨r7,ndn,hnm,h0s,hrs⟩:=id hT;have l8:(T0::R).length<=8:=by rw[List.length_cons];omega
  have in4:∀T∈T0::R,T.sort∈b3O:=fun T hT'=>by
   rcases mK0.mp hT' with rfl |h
   ·rw[h0s];exact List.mem_cons_self
   ·exact mL0 _ (hrs T h)
  have nm1000:∀T∈T0::R,T.name.length<=1000/\T.sort.length<=1000:=fun T hT'=>⟨by have:=(a2a (hnm T hT')).2;omega,by have:=(b1N _ (in4 T hT')).2.2.2.2;omega⟩;have pg:=Pgs.of hP nm1000;have plen:=a5v (Ts:=T0::R) (ds:=ds) ld;have ess:(pgs (T0::R) ds).map (·.so)=((T0::R).map (·.sort)).map V.str:=by rw[a3o (fun p=>p.so) (fun T=>V.str T.sort) ld (fun _ _=>rfl),mC0];rfl
  have esd:(pgs (T0::R) ds).map (·.sd)=(T0::R).map fun T=>Dt.str T.sort:=a3o (fun p=>p.sd) (fun T=>Dt.str T.sort) ld (fun _ _=>rfl);have enm:(pgs (T0::R) ds).map (·.nm)=((T0::R).map (·.name)).map V.str:=by rw[a3o (fun p=>p.nm) (fun T=>V.str T.name) ld (fun _ _=>rfl),mC0];rfl
  have end_:(pgs (T0::R) ds).map (·.nd)=(T0::R).map fun T=>Dt.str T.name:=a3o (fun p=>p.nd) (fun T=>Dt.str T.name) ld (fun _ _=>rfl);obtain⟨Tn,eTn⟩:∃T,(T0::R)[n]? =some T:=⟨_,gE0 hn⟩;obtain⟨dn,edn⟩:∃d,ds[n]? =some d:=⟨_,gE0 (by omega)⟩;have hne:n<es.length:=by omega
  obtain⟨hE,hD,hC⟩:=hp n es[n] dn Tn (gE0 hne) edn eTn;have mTn:=gI0 eTn;have n10:=b1N _ (in4 Tn mTn);have n8:=a2a (hnm Tn mTn);have s20:20<=sizeLine:=by rw[sizeLine_eq];omega
  have sn:∀zs:List Str,zs.length=(T0::R).length->zs[n]? =some Tn.sort->zs.take n++[Tn.sort]++zs.drop (n+1)=zs:=fun zs _ h=>b3F h;refine a9o 7 (Mid6 H l wy n c Tn dn) ⟨_,(a0d (b2e (a0W a0F (pv 0) (pv 2) (fun _ _=>rfl)) (a3c rfl (a0q (a0n (i:=4) sc.nd rfl (Or.inl rfl)) (a0q (a0n (i:=5) sc.nd rfl (Or.inl rfl)) (a0q (a0n (i:=6) sc.nd rfl (Or.inl rfl)) a1y)))))
   (a0d (a0z (a0t a1p (pv 1) a0e (a0w _)) (a0g (a0r (a0m a1L (a0O (a0a (a0L (a0a (a0W a2c (a0W a0F (pv 0) a0e (fun _ _=>rfl)) a0e (fun _ _=>rfl)) (a0a (a0W a0F (a0O (a0a a0p (a0a a0p (a0a a0p a0b)))) (a0m a0M (pv 3) a0e) (fun _ _=>rfl)) (a0a (a0W a2c (a0W a0F (pv 0) a0e (fun _ _=>rfl)) a0e (fun _ _=>rfl)) a0b)))) a0b)) (a0N a1o (pv 0) (a0Y a0e) a1a)))) a0j)
   (a0d (a0z (a0t a1p (pv 1) a0e (a0w _)) (a0g (a0r (a0m a1L (a0m a1L (a0N a1o (pv 0) a1a (a0Y (a0m a1d (pv 2) a0e))) (a0O (a0a (a0L (a0a a0p (a0a a0p (a0a a2v a0b)))) a0b))) (a0N a1o (pv 0) (a0Y (a0m a1d (pv 2) a0e)) a1a)))) a0j)
   (a0d (a0z (a0t a1p (pv 1) a0e (a0w _)) (a0g (a0s (i:=5) sc.nd rfl (Or.inl rfl) (a0W a0F (a0O (a0a a0p (a0a (a0m a1t (pv 5) a0p) (a0a a0p (a0a a3U (a0a a0e (a0a a3f (a0a (a0L (a0a (pv 5) a0b)) (a0a (a0m a1t (pv 5) a0p) (a0a (a0O (a0a (pv 5) a0b)) (a0a a2v a0b))))))))))) (a0m a0M (pv 3) a0e) (fun _ _=>rfl)))) a0j)
   (a0d (a0z (a0t a1p (pv 1) a0e (a0w _)) (a0g (a0s (i:=4) sc.nd rfl (Or.inl rfl) (a0W a0F (a0O (a0a (a0O (a0a (pv 4) a0b)) (a0a a2v (a0a (a0k GN hr1 (by rfl) DN.mg DN.fn.kp bN .nil a0G (a0a (pv 4) (a0a (a0m a1D (pv 3) a0e) a0b))) (a0a (a0k GN hr1 (by rfl) DN.mg DN.fn.kp bN .nil a0G (a0a (pv 4) (a0a (a0m a1D (pv 3) a0e) a0b))) a0b))))) (a0m a0M (pv 3) a0e) (fun _ _=>rfl)))) a0j)
   (a0d (a0z (a0t a1p (pv 1) a0e (a0w _)) (a0g (a0r (a0m a1L (a0m a1L (a0N a1o (pv 0) a1a (a0Y (a0m a1d (pv 2) a0e))) (a0O (a0a (a0L (a0a (a0W a2c (a0W a0F (pv 0) (a0m a0M (pv 3) (a0m a1d (pv 2) a0e)) (fun _ _=>rfl)) a0e (fun _ _=>rfl)) (a0a a0p (a0a a2v a0b)))) a0b))) (a0N a1o (pv 0) (a0Y (a0m a1d (pv 2) a0e)) a1a)))) a0j)
   (a0g (a0z (a0t a9f (pv 1) a0e (a0w _)) (a0g (a0s (i:=6) sc.nd rfl (Or.inl rfl) (a0k GS hr2 (by rfl) DS.mg DS.fn.kp bS .nil a0G (a0a (pv 6) (a0a (pv 1) (a0a (pv 3) a0b)))))) a0j)))))))),?_⟩ ⟨_,(a0g (a0r (a0m a1L (a0m a1L (a0N a1o (pv 0) a1a (a0Y (pv 2))) (a0O (a0a (a0L (a0a (pv 4) (a0a (pv 5) (a0a (pv 6) a0b)))) a0b))) (a0N a1o (pv 0) (a0Y (a0m a1d (pv 2) a0e)) a1a)))),?_⟩
  ·refine⟨_,rfl,_,rfl,_,_,_,_,rfl,rfl,SqL.of hl,a5n rfl hne,?_⟩
   refine⟨_,_,rfl,SqT.of hE,rfl,_,_,rfl,_,_,rfl,_,_,rfl,rfl,?_⟩;have nek:∀k:Int,wy≠k->decide (V.int wy=V.int k)=false:=fun k h=>dF0 fun e=>h (by injection e);have eqk:∀k:Int,wy=k->decide (V.int wy=V.int k)=true:=fun k h=>dT0 (by rw[h]);obtain⟨d0,ed0⟩:∃d,ds[0]? =some d:=⟨_,gE0 (by omega)⟩;have he0:0<es.length:=by omega
   obtain⟨hE0,hD0,hC0⟩:=hp 0 es[0] d0 T0 (gE0 he0) ed0 rfl;refine⟨_,rfl,rfl,_,rfl,?_⟩
   by_cases h2:wy=2
   ·refine a3K (eqk 2 h2) ?_
    refine⟨_,rfl,_,_,0,_,rfl,rfl,SqL.of hl,a5n (m:=0) rfl he0,_,_,0,_,rfl,rfl,SqT.of hE0,rfl,(by show 3<=sizeLine;omega),fun p1 e1=>?_⟩;generalize h1:L2.upd H p1 _=H1;obtain⟨t1,f1⟩:=gz6 h1 e1;obtain⟨v,hv,mv⟩:=a2H (l:=[V.str "twin",.str "many",.str "some"]) (i:=c%3) (Int.emod_nonneg _ (by decide)) (Int.emod_lt_of_pos _ (by decide));obtain⟨so,rfl,hso⟩:∃so,v=.str so/\so∈a1v:=by
     simp only[mK0,List.not_mem_nil,or_false] at mv;rcases mv with rfl |rfl |rfl
     ·exact⟨_,rfl,by decide +kernel⟩
     ·exact⟨_,rfl,by decide +kernel⟩
     ·exact⟨_,rfl,by decide +kernel⟩
    have bs:a0u (.str so) "head"=false/\so.length<=1000:=by
     exact(show ∀z∈a1v,a0u (.str z) "head"=false/\z.length<=1000 by decide +kernel) so hso
    refine⟨_,rfl,_,_,rfl,rfl,(pos rfl),_,_,_,_,rfl,rfl,SqL.of f1,hv,?_⟩;refine⟨_,rfl,_,_,0,_,rfl,rfl,SqL.of (t1 _ _ hl),a5n (m:=0) rfl he0,_,_,2,_,rfl,rfl,SqT.of (t1 _ _ hE0),rfl,(by show 3<=sizeLine;omega),fun p2 e2=>?_⟩;generalize h2:L2.upd H1 p2 _=H2;obtain⟨t2,f2⟩:=gz6 h2 e2;refine⟨(by show 1<=sizeLine;omega),fun p3 e3=>?_⟩;generalize h3:L2.upd H2 p3 _=H3;obtain⟨t3,f3⟩:=gz6 h3 e3;have t13:=t1.trans (t2.trans t3);refine⟨_,rfl,_,rfl,l,_,rfl,SqL.of (t13 _ _ hl),fun p4 e4=>?_⟩;rw[b3b (es:=es) (k:=1) (m:=1) rfl (by omega)];generalize h4:L2.upd H3 p4 _=H4;obtain⟨t4,f4⟩:=gz6 h4 e4;refine⟨p3,p4,_,_,rfl,rfl,t4 _ _ f3,f4,(by rw[lM0,List.length_drop];show 1+_<=sizeLine;omega),fun p5 e5=>?_⟩;generalize h5:L2.upd H4 p5 _=H5;obtain⟨t5,f5⟩:=gz6 h5 e5;have S5:=t13.trans (t4.trans t5);have pp:=(Pgs.one (p:=⟨.str T0.name,.str so,.str T0.name,.str so,d0⟩) ⟨(t3.trans (t4.trans t5)) _ _ f2,a0B (nm1000 T0 List.mem_cons_self).1,a0B bs.2⟩).app ((pg.same S5).drop 1);refine q p5 _ _ H5 S5 ⟨by rw[f5,mA0];rfl,pp.1,pp.2⟩ ?_ fun C hC'=>.inl ⟨a4Z bs.1,fun H2 s2=>hC' H2 (S5.trans s2)⟩;rw[lA0,List.length_drop,plen];show 1+_<=9
    omega
   refine a2d (nek 2 h2) ?_;refine⟨_,rfl,rfl,_,rfl,?_⟩
   by_cases h3:wy=3
   ·refine a3K (eqk 3 h3) ?_
    refine⟨_,rfl,_,rfl,_,_,rfl,rfl,_,rfl,l,_,rfl,SqL.of hl,fun p1 e1=>?_⟩;rw[b3H (m:=n+1) (by omega) (by omega)];generalize h1:L2.upd H p1 _=H1;obtain⟨t1,f1⟩:=gz6 h1 e1;refine fun p2 e2=>?_;generalize h2:L2.upd H1 p2 _=H2;obtain⟨t2,f2⟩:=gz6 h2 e2;refine⟨(by show 3<=sizeLine;omega),fun p3 e3=>?_⟩;generalize h3:L2.upd H2 p3 _=H3;obtain⟨t3,f3⟩:=gz6 h3 e3;refine⟨(by show 1<=sizeLine;omega),fun p4 e4=>?_⟩;generalize h4:L2.upd H3 p4 _=H4;obtain⟨t4,f4⟩:=gz6 h4 e4;refine⟨p1,p4,_,_,rfl,rfl,(t2.trans (t3.trans t4)) _ _ f1,f4,(by rw[lM0,lT0];show _+1<=sizeLine;omega),fun p5 e5=>?_⟩;generalize h5:L2.upd H4 p5 _=H5;obtain⟨t5,f5⟩:=gz6 h5 e5;have t15:=t1.trans (t2.trans (t3.trans (t4.trans t5)));refine⟨_,rfl,_,rfl,_,_,rfl,rfl,_,rfl,l,_,rfl,SqL.of (t15 _ _ hl),fun p6 e6=>?_⟩;rw[b3b (m:=n+1) (by omega) (by omega)];generalize h6:L2.upd H5 p6 _=H6;obtain⟨t6,f6⟩:=gz6 h6 e6;refine⟨p5,p6,_,_,rfl,rfl,t6 _ _ f5,f6,(by rw[lA0,lM0,lM0,lT0,List.length_drop];show _+1+_<=sizeLine;omega),fun p7 e7=>?_⟩;generalize h7:L2.upd H6 p7 _=H7;obtain⟨t7,f7⟩:=gz6 h7 e7;have S7:=t15.trans (t6.trans t7);have pp:=(((pg.same S7).take (n+1)).app (Pgs.one (p:=⟨.str "zzzzzzzz",.str "head",.str "zzzzzzzz",.str "head",p2⟩) ⟨(t4.trans (t5.trans (t6.trans t7))) _ _ f3,a0B (by decide +kernel),a0B (by decide +kernel)⟩)).app ((pg.same S7).drop (n+1));refine q p7 _ _ H7 S7 ⟨by rw[f7,mA0,mA0];rfl,pp.1,pp.2⟩ ?_ fun C hC'=>?_
    ·rw[lA0,lA0,lT0,List.length_drop,plen]
     show _+1+_<=9
     omega
    ·refine .inl ⟨?_,fun H2 s2=>hC' H2 (S7.trans s2)⟩
     rw[mA0,mA0,List.map_take,List.map_drop,esd,mN0,List.take_succ_cons,List.append_assoc,List.cons_append];exact a7r (x:=.str "head") (List.mem_append_right _ (by simp)) (by decide +kernel)
   refine a2d (nek 3 h3) ?_;refine⟨_,rfl,rfl,_,rfl,?_⟩
   by_cases h4:wy=4
   ·refine a3K (eqk 4 h4) ?_
    have ls:(Tn.sort++("s":Str)).length<=sizeLine:=by have:=n10.2.2.1;omega
    have lb:(Tn.sort++(" ":Str)).length<=sizeLine:=by have:=n10.2.2.2.1;omega
    refine⟨_,rfl,_,_,rfl,rfl,(by rw[Str.length_append] at ls;exact ls),_,rfl,(by show 1<=sizeLine;omega),fun p1 e1=>?_⟩;generalize h1:L2.upd H p1 _=H1;obtain⟨t1,f1⟩:=gz6 h1 e1;refine⟨_,rfl,_,_,rfl,rfl,(by rw[Str.length_append] at lb;exact lb),_,rfl,(by show 1<=sizeLine;omega),fun p2 e2=>?_⟩;generalize h2:L2.upd H1 p2 _=H2;obtain⟨t2,f2⟩:=gz6 h2 e2;refine fun p3 e3=>?_;generalize h3:L2.upd H2 p3 _=H3;obtain⟨t3,f3⟩:=gz6 h3 e3;refine⟨(by show 10<=sizeLine;omega),fun p4 e4=>?_⟩;generalize h4:L2.upd H3 p4 _=H4;obtain⟨t4,f4⟩:=gz6 h4 e4;have S4:=t1.trans (t2.trans (t3.trans t4));obtain⟨v,hv,mv⟩:=a2H (l:=[V.str "Head",.str (Tn.sort++"s"),.str "",.non,.int 1,.bl true,.ref p1,.str (Tn.sort++" "),.ref p2,.ref p3]) (i:=c%10) (Int.emod_nonneg _ (by decide)) (Int.emod_lt_of_pos _ (by decide));refine⟨_,rfl,_,_,rfl,rfl,(pos rfl),_,_,_,_,rfl,rfl,SqL.of f4,hv,?_⟩;refine⟨_,rfl,rfl,_,rfl,a2d (nek 5 (by omega)) ?_⟩;refine⟨_,rfl,rfl,_,rfl,a2d (nek 6 (by omega)) ?_⟩;refine⟨_,rfl,_,_,rfl,rfl,_,rfl,a2d (dF0 (by omega)) ?_⟩;refine⟨.str Tn.name,v,dn,rfl,S4,.inl ⟨rfl,?_⟩⟩;have st:∀y:Str,v=.str y->y.length<=1000->b2G y=true->∃sd,Rep H4 sd v/\a0u sd "head"=false/\a1v.any (a0u sd)=false:=fun y e hy hb=>⟨.str y,by rw[e];exact a0B hy,b1K hb⟩;simp only[mK0,List.not_mem_nil,or_false] at mv;rcases mv with h |h |h |h |h |h |h |h |h |h
    ·exact st _ h (by decide +kernel) (by decide +kernel)
    ·exact st _ h (by have:=n10.2.2.1;omega) n10.1
    ·exact st _ h (by decide +kernel) (by decide +kernel)
    ·exact⟨.non,by rw[h];exact a4j,rfl,rfl⟩
    ·exact⟨.int 1,by rw[h];exact a1B 1,rfl,rfl⟩
    ·exact⟨.bl true,by rw[h];exact a6B true,rfl,rfl⟩
    ·exact⟨.tup [.str Tn.sort],by rw[h];exact a1R ((t2.trans (t3.trans t4)) _ _ f1) (a0y (a0B (by omega)) a0T),rfl,rfl⟩
    ·exact st _ h (by have:=n10.2.2.2.1;omega) n10.2.1
    ·exact⟨.lst [.str Tn.sort],by rw[h];exact a4h ((t3.trans t4) _ _ f2) (a0y (a0B (by omega)) a0T),rfl,rfl⟩
    ·exact⟨.dct,by rw[h];exact a5x (t4 _ _ f3),rfl,rfl⟩
   refine a2d (nek 4 h4) ?_;refine⟨_,rfl,rfl,_,rfl,?_⟩
   by_cases h5:wy=5
   ·refine a3K (eqk 5 h5) ?_
    refine⟨_,rfl,(by show 1<=sizeLine;omega),fun p1 e1=>?_⟩;generalize h1:L2.upd H p1 _=H1;obtain⟨t1,f1⟩:=gz6 h1 e1;refine fun p2 e2=>?_;generalize h2:L2.upd H1 p2 _=H2;obtain⟨t2,f2⟩:=gz6 h2 e2;have nl:H2 l≠none:=by rw[(t1.trans t2) _ _ hl];exact fun h=>by cases h
    refine⟨_,rfl,_,rfl,_,_,rfl,rfl,⟨by decide,by decide⟩,Tn.name,_,l,rfl,hnm Tn mTn,nl,fun v3 d3 H3 t3 r3 b3 _=>?_⟩;refine⟨_,rfl,_,rfl,_,_,rfl,rfl,⟨by decide,by decide⟩,Tn.name,_,l,rfl,hnm Tn mTn,a1Y nl t3,fun v4 d4 H4 t4 r4 b4 _=>?_⟩;refine⟨(by show 4<=sizeLine;omega),fun p5 e5=>?_⟩;generalize h5:L2.upd H4 p5 _=H5;obtain⟨t5,f5⟩:=gz6 h5 e5;have S5:=t1.trans (t2.trans (t3.trans (t4.trans t5)));obtain⟨v,hv,mv⟩:=a2H (l:=[V.ref p1,.ref p2,v3,v4]) (i:=c%4) (Int.emod_nonneg _ (by decide)) (Int.emod_lt_of_pos _ (by decide));refine⟨_,rfl,_,_,rfl,rfl,(pos rfl),_,_,_,_,rfl,rfl,SqL.of f5,hv,?_⟩;refine⟨_,rfl,rfl,_,rfl,a2d (nek 6 (by omega)) ?_⟩;refine⟨_,rfl,_,_,rfl,rfl,_,rfl,a2d (dF0 (by omega)) ?_⟩;refine⟨v,.str Tn.sort,dn,rfl,S5,.inr (.inl ⟨rfl,?_⟩)⟩;simp only[mK0,List.not_mem_nil,or_false] at mv;rcases mv with h |h |h |h
    ·exact⟨.lst [.str Tn.name],by rw[h];exact a4h ((t2.trans (t3.trans (t4.trans t5))) _ _ f1) (a0y (a0B (by omega)) a0T),rfl⟩
    ·exact⟨.dct,by rw[h];exact a5x ((t3.trans (t4.trans t5)) _ _ f2),rfl⟩
    ·exact⟨d3,by rw[h];exact(r3.same a3y).same (t4.trans t5),b3⟩
    ·exact⟨d4,by rw[h];exact(r4.same a3y).same t5,b4⟩
   refine a2d (nek 5 h5) ?_;refine⟨_,rfl,rfl,_,rfl,?_⟩
   by_cases h6:wy=6
   ·refine a3K (eqk 6 h6) ?_
    refine⟨_,rfl,_,rfl,_,_,rfl,rfl,_,rfl,l,_,rfl,SqL.of hl,fun p1 e1=>?_⟩;rw[b3H (m:=n+1) (by omega) (by omega)];generalize h1:L2.upd H p1 _=H1;obtain⟨t1,f1⟩:=gz6 h1 e1;have j0:0<=c%((n:Int)+1):=Int.emod_nonneg _ (by omega);have j1:c%((n:Int)+1)<(n:Int)+1:=Int.emod_lt_of_pos _ (by omega);obtain⟨j,ej⟩:=Int.eq_ofNat_of_zero_le j0;have hj:j<es.length:=by omega
    obtain⟨Tj,eTj⟩:∃T,(T0::R)[j]? =some T:=⟨_,gE0 (by omega)⟩;obtain⟨dj,edj⟩:∃d,ds[j]? =some d:=⟨_,gE0 (by omega)⟩;obtain⟨hEj,_,_⟩:=hp j es[j] dj Tj (gE0 hj) edj eTj;have mTj:=gI0 eTj;refine⟨_,rfl,_,rfl,_,rfl,_,_,rfl,rfl,_,_,rfl,rfl,(by omega),_,_,_,_,rfl,rfl,SqL.of (t1 _ _ hl),a5n (m:=j) ej hj,_,_,0,_,rfl,rfl,SqT.of (t1 _ _ hEj),rfl,?_⟩;refine fun p2 e2=>?_;generalize h2:L2.upd H1 p2 _=H2;obtain⟨t2,f2⟩:=gz6 h2 e2;refine⟨(by show 3<=sizeLine;omega),fun p3 e3=>?_⟩;generalize h3:L2.upd H2 p3 _=H3;obtain⟨t3,f3⟩:=gz6 h3 e3;refine⟨(by show 1<=sizeLine;omega),fun p4 e4=>?_⟩;generalize h4:L2.upd H3 p4 _=H4;obtain⟨t4,f4⟩:=gz6 h4 e4;refine⟨p1,p4,_,_,rfl,rfl,(t2.trans (t3.trans t4)) _ _ f1,f4,(by rw[lM0,lT0];show _+1<=sizeLine;omega),fun p5 e5=>?_⟩;generalize h5:L2.upd H4 p5 _=H5;obtain⟨t5,f5⟩:=gz6 h5 e5;have t15:=t1.trans (t2.trans (t3.trans (t4.trans t5)));refine⟨_,rfl,_,rfl,_,_,rfl,rfl,_,rfl,l,_,rfl,SqL.of (t15 _ _ hl),fun p6 e6=>?_⟩;rw[b3b (m:=n+1) (by omega) (by omega)];generalize h6:L2.upd H5 p6 _=H6;obtain⟨t6,f6⟩:=gz6 h6 e6;refine⟨p5,p6,_,_,rfl,rfl,t6 _ _ f5,f6,(by rw[lA0,lM0,lM0,lT0,List.length_drop];show _+1+_<=sizeLine;omega),fun p7 e7=>?_⟩;generalize h7:L2.upd H6 p7 _=H7;obtain⟨t7,f7⟩:=gz6 h7 e7;have S7:=t15.trans (t6.trans t7);have pp:=(((pg.same S7).take (n+1)).app (Pgs.one (p:=⟨.str Tj.name,.str "twin",.str Tj.name,.str "twin",p2⟩) ⟨(t4.trans (t5.trans (t6.trans t7))) _ _ f3,a0B (nm1000 Tj mTj).1,a0B (by decide +kernel)⟩)).app ((pg.same S7).drop (n+1));refine q p7 _ _ H7 S7 ⟨by rw[f7,mA0,mA0];rfl,pp.1,pp.2⟩ ?_ fun C hC'=>?_
    ·rw[lA0,lA0,lT0,List.length_drop,plen]
     show _+1+_<=9
     omega
    ·refine .inr (.inl ⟨⟨(R.map (·.sort)).take n++[("twin":Str)]++(R.map (·.sort)).drop n,?_,fun z hz=>?_⟩,⟨.str Tj.name,?_,.inr ⟨Tj.name,rfl,?_⟩⟩,fun H2 s2=>hC' H2 (S7.trans s2)⟩)
     ·rw[a6u ess (n+1) _ "twin" rfl (n+1),mN0,h0s,List.take_succ_cons,List.drop_succ_cons]
      rfl
     ·have hs:∀z∈R.map (·.sort),z∈a1v:=fun z hz=>by
       obtain⟨T,hT',rfl⟩:=mM0.mp hz;exact hrs T hT'
      rcases List.mem_append.mp hz with h |h
      ·rcases List.mem_append.mp h with h |h
       ·exact hs z (List.mem_of_mem_take h)
       ·rw[mS0.mp h];decide +kernel
      ·exact hs z (List.mem_of_mem_drop h)
     ·rw[mA0,mA0]
      exact List.mem_append_left _ (List.mem_append_right _ (by simp))
     ·rw[mA0,mA0,List.countP_append,List.countP_append,List.map_take,end_]
      have c1:0<(((T0::R).map fun T=>Dt.str T.name).take (n+1)).countP fun e=>a0u e Tj.name:=by
       rw[List.countP_pos_iff];refine⟨.str Tj.name,?_,by simp[a0u]⟩;refine gI0 (i:=j) ?_;rw[List.getElem?_take_of_lt (by omega),gM0,eTj]
       rfl
      have c2:([(⟨.str Tj.name,.str "twin",.str Tj.name,.str "twin",p2⟩:PG)].map (·.nd)).countP (fun e=>a0u e Tj.name)=1:=by simp[a0u]
      omega
   refine a2d (nek 6 h6) ?_;refine⟨_,rfl,_,_,rfl,rfl,_,rfl,a3K (dT0 (by omega)) ?_⟩;refine⟨_,rfl,_,rfl,_,rfl,dn,wy,c,Tn.cols,rfl,hD,hC,fun a H1 ea s1 bg=>?_⟩;exact⟨.str Tn.name,.str Tn.sort,a,rfl,s1,.inr (.inr ⟨rfl,rfl,ea,bg⟩)⟩
  ·rintro σ H0 ⟨nm,so,dd,rfl,s0,md⟩
   have hl0:=s0 _ _ hl;refine⟨_,rfl,_,rfl,_,rfl,l,_,rfl,SqL.of hl0,fun p1 e1=>?_⟩;rw[b3H rfl (by omega)];generalize h1:L2.upd H0 p1 _=H1;obtain⟨t1,f1⟩:=gz6 h1 e1;refine⟨_,rfl,_,rfl,_,rfl,(by show 3<=sizeLine;omega),fun p2 e2=>?_⟩;generalize h2:L2.upd H1 p2 _=H2;obtain⟨t2,f2⟩:=gz6 h2 e2;refine⟨(by show 1<=sizeLine;omega),fun p3 e3=>?_⟩;generalize h3:L2.upd H2 p3 _=H3;obtain⟨t3,f3⟩:=gz6 h3 e3;refine⟨p1,p3,_,_,rfl,rfl,(t2.trans t3) _ _ f1,f3,(by rw[lM0,lT0];show _+1<=sizeLine;omega),fun p4 e4=>?_⟩;generalize h4:L2.upd H3 p4 _=H4;obtain⟨t4,f4⟩:=gz6 h4 e4;have t14:=t1.trans (t2.trans (t3.trans t4));refine⟨_,rfl,_,rfl,_,_,rfl,rfl,_,rfl,l,_,rfl,SqL.of (t14 _ _ hl0),fun p5 e5=>?_⟩;rw[b3b (m:=n+1) (by omega) (by omega)];generalize h5:L2.upd H4 p5 _=H5;obtain⟨t5,f5⟩:=gz6 h5 e5;refine⟨p4,p5,_,_,rfl,rfl,t5 _ _ f4,f5,(by rw[lA0,lM0,lM0,lT0,List.length_drop];show _+1+_<=sizeLine;omega),fun p6 e6=>?_⟩;generalize h6:L2.upd H5 p6 _=H6;obtain⟨t6,f6⟩:=gz6 h6 e6;have t06:=t14.trans (t5.trans t6);have t26:=t3.trans (t4.trans (t5.trans t6));have S6:=s0.trans t06;have f6':H6 p6=some (.lst ((es.take n++[p2]++es.drop (n+1)).map V.ref)):=by rw[f6,mA0,mA0];rfl
   have hE6:=t26 _ _ f2;have pg6:=pg.same S6;have pl9:∀p:PG,((pgs (T0::R) ds).take n++[p]++(pgs (T0::R) ds).drop (n+1)).length<=9:=fun p=>by rw[lA0,lA0,lT0,List.length_drop,plen];show _+1+_<=9;omega
   have fin:∀p:PG,b1g H6 p2 p->(∀C:Hp->Prop,(∀H2,a0l H H2->C H2)->Sp3 H6 (es.take n++[p2]++es.drop (n+1)) ((pgs (T0::R) ds).take n++[p]++(pgs (T0::R) ds).drop (n+1)) C)->Q (.ref p6) H6:=fun p hp' h=>by
    have pp:=((pg6.take n).app (Pgs.one hp')).app (pg6.drop (n+1));exact q p6 _ _ H6 S6 ⟨f6',pp.1,pp.2⟩ (pl9 p) h
   have eSo:((T0::R).map (·.sort))[n]? =some Tn.sort:=by rw[gM0,eTn];rfl
   have eNm:((T0::R).map (·.name))[n]? =some Tn.name:=by rw[gM0,eTn];rfl
   have sg:∀p:PG,p.so=.str Tn.sort->SG ((pgs (T0::R) ds).take n++[p]++(pgs (T0::R) ds).drop (n+1)):=fun p hp'=>by
    refine⟨R.map (·.sort),?_,fun z hz=>?_⟩
    ·rw[a6u ess n p Tn.sort hp' (n+1),b3F eSo,mN0,h0s]
    ·obtain⟨T,hT',rfl⟩:=mM0.mp hz
     exact hrs T hT'
   rcases md with ⟨rfl,sd,rs,b1,b2⟩ |⟨rfl,nd,rn,b1⟩ |⟨rfl,rfl,hdd,bg⟩
   ·refine fin ⟨.str Tn.name,so,.str Tn.name,sd,dd⟩ ⟨hE6,a0B (by omega),rs.same t06⟩ fun C hC'=>.inl ⟨?_,fun H2 s2=>hC' H2 (S6.trans s2)⟩
    rw[mA0,mA0,List.map_take,List.map_drop];exact b1Y b1 b2
   ·refine fin ⟨nm,.str Tn.sort,nd,.str Tn.sort,dd⟩ ⟨hE6,rn.same t06,a0B (by omega)⟩ fun C hC'=>.inr (.inl ⟨sg _ rfl,⟨nd,?_,.inl b1⟩,fun H2 s2=>hC' H2 (S6.trans s2)⟩)
    rw[mA0,mA0];exact List.mem_append_left _ (List.mem_append_right _ (by simp))
   ·refine fin ⟨.str Tn.name,.str Tn.sort,.str Tn.name,.str Tn.sort,dd⟩ ⟨hE6,a0B (by omega),a0B (by omega)⟩ fun C hC'=>.inr (.inr ⟨sg _ rfl,⟨(T0::R).map (·.name),?_,ndn,fun z hz=>?_⟩,dd,⟨n,⟨.str Tn.name,.str Tn.sort,.str Tn.name,.str Tn.sort,dd⟩,?_,rfl,bg.same t06,fun j e p hj he hp'=>?_⟩,fun H2 s2=>hC' H2 fun b o e=>s2 b o (a0v e hdd) (S6 _ _ e)⟩)
    ·rw[mA0,mA0,List.map_take,List.map_drop,enm]
     have:=b3F (l:=((T0::R).map (·.name)).map V.str) (k:=n) (x:=.str Tn.name) (by rw[gM0,eNm];rfl)
     exact this
    ·obtain⟨T,hT',rfl⟩:=mM0.mp hz
     exact hnm T hT'
    ·rw[List.append_assoc,gR0 (by rw[lT0];omega),lT0,plen]
     rw[show n-min n (T0::R).length=0 by omega]
     rfl
    ·rw[List.append_assoc,gL0 (by rw[lT0,plen];omega),List.getElem?_take_of_lt hj] at hp'
     obtain⟨T,d,eT,ed,rfl⟩:=a8O hp';obtain⟨_,g2,g3⟩:=hp j es[j] d T (gE0 (by omega)) ed eT;exact⟨T.cols,S6 _ _ g2,g3.same S6⟩
end
end My
namespace L2
open PySem PySem.Spec PyProof.Rows
def b3X (t:TS):TS:=fun D σ H=>∃R:St->Hp->Prop,t { D with nx:=R } σ H/\∀σ' H',R σ' H'->D.nx σ' H'
theorem b2M {X:Cx}{st:Stmt}{t:TS}(h:PS X st t):PS X st (b3X t):=by
 intro U s σ H D I hq;obtain⟨R,h1,h2⟩:=hq;refine thn (h U s σ H _ I h1) fun f s' hs=>?_;cases f with
 |next=>obtain⟨σ',H',I',z⟩:=hs;exact⟨σ',H',I',h2 _ _ z⟩
 |brk=>exact hs
 |cont=>exact hs
 |ret u=>exact hs
theorem Sb.seq {K:Fg0}{H H':Hp}{a:Addr}{xs:List V}(e:Sb H H')(h:SqL K H a xs):SqL K H' a xs:=by
 rcases h with (h |⟨o,h⟩) |h
 ·exact .inl (.inl (e _ _ rfl h))
 ·exact .inl (.inr ⟨o,e _ _ rfl h⟩)
 ·exact .inr h
end L2
namespace My
open PySem L2 PyProof.Rows
seal L2.PE L2.PT L2.PW L2.PS L2.PSs L2.PA L2.PI L2.PG L2.PGs L2.OpR L2.UnR L2.a1C L2.IxR L2.SlR L2.MtR L2.PIf L2.PO L2.MtM L2.PC
def a5Y (K:Fg0)(PF PL:Addr):Sp:=fun vs H Q _=>∃(a:Addr) (ns:List Int),vs=[.ref a]/\SqL K H a (ns.map V.int)/\ns.length<=63/\H PF=some (.tbl #[])/\H PL=some (.tbl #[])/\PF≠PL/\∀H',Q (.bl true) H'
def lN:List Str:=["_law_script","_law_size_here","_law_parts","_law_due","_law_way","_law_at","_law_cell_here","_law_words_here"]
theorem Sp3.bad {H:Hp}{es:List Addr}{ps:List PG}{C:Hp->Prop}{sz:Int}(h1:1<=sz)(h:Sp3 H es ps C):b1R H (.int sz) es ps C:=.inr ⟨sz,rfl,h1,h⟩
section
variable {P:Program}{w:World}{K:Fg0}{mg:Str->Option Value}{base:Heap}
theorem b2S {f fC fT fF fE fL fR fZ fP fX PF PL:Addr}{fd fdC fdT fdF fdE fdL fdR fdZ fdP fdX:FuncData}(F:Fun K "law" "law" (top 53) f fd)(B:Bl mg)(hz:mg "zip"=none)(DC:Df K mg "_law_cell" (top 34) fC fdC)(DT:Df K mg "_law_tables" (top 41) fT fdT)(GT:a0K P w K mg base CX0 4 fT fdT ["_law_script","_law_start","_law_most","_law_wide"] (a7l K))
  (DF:Df K mg "form_of" (top 29) fF fdF) (GF:a0K P w K mg base CX0 6 fF fdF ["size","tables"] (a7K PF)) (DE:Df K mg "_law_same" (top 42) fE fdE) (DL:Df K mg "_law_form" (top 43) fL fdL) (GL:a0K P w K mg base CX0 6 fL fdL ["_law_size_here","_law_parts"] (a7P PL))
  (DR:Df K mg "_law_refused" (top 52) fR fdR) (GR:a0K P w K mg base CX0 7 fR fdR ["_law_size_here","_law_parts"] b0x) (DZ:Df K mg "_law_size" (top 49) fZ fdZ) (DP:Df K mg "_law_spoiled" (top 48) fP fdP) (GP:a0K P w K mg base CX0 3 fP fdP ["_law_parts","_law_way","_law_at","_law_cell_here"] b2X)
  (DX:Df K mg "_law_errors" (top 51) fX fdX) (GX:a0K P w K mg base CX0 3 fX fdX ["_law_name","_law_number","_law_place"] b2Q):a0K P w K mg base CX0 9 f fd ["_law_script"] (a5Y K PF PL):=by
 have sc:a0o lN ["_law_script"] (a0f (top 53)):=.k (by decide +kernel);have GC:a0K P w K mg base CX0 1 fC fdC ["_law_script","_law_k"] (a7o K):=a7W DC.fn B;have GE:a0K P w K mg base CX0 8 fE fdE ["_law_found","_law_due"] (a8x 7):=b0W DE B hz 7;have GZ:a0K P w K mg base CX0 1 fZ fdZ ["_law_cell_here"] a9W:=b1u DZ.fn;have bC:=DC.fn.b2 "_law_script" "_law_k" (by intros;rfl);have bT:=DT.fn.b4 "_law_script" "_law_start" "_law_most" "_law_wide" (by intros;rfl);have bF:=DF.fn.b2 "size" "tables" (by intros;rfl);have bE:=DE.fn.b2 "_law_found" "_law_due" (by intros;rfl);have bL:=DL.fn.b2 "_law_size_here" "_law_parts" (by intros;rfl);have bR:=DR.fn.b2 "_law_size_here" "_law_parts" (by intros;rfl);have bZ:=DZ.fn.b1 "_law_cell_here" (by intros;rfl);have bP:=DP.fn.b4 "_law_parts" "_law_way" "_law_at" "_law_cell_here" (by intros;rfl);have bX:=DX.fn.b3 "_law_name" "_law_number" "_law_place" (by intros;rfl);refine F.ok sc (fun vs H Q E h=>?_) (fun cdv A outer s H vs Q E hr h=>?_)
 ·obtain⟨a,ns,rfl,_⟩:=h
  rfl
 ·obtain⟨a,ns,rfl,hS,h63,hPF,hPL,nPP,q⟩:=h
  have hr1:a1m 1 _:=hr.mono (by decide);have hr3:a1m 3 _:=hr.mono (by decide);have hr4:a1m 4 _:=hr.mono (by decide);have hr6:a1m 6 _:=hr.mono (by decide);have hr7:a1m 7 _:=hr.mono (by decide);have hu:(A.deeper (envOfC "law" (a0f (top 53)) s.heap.objs.size f cdv)).units<cLine:=by have:=a3A hr;omega
  have p12:b3f 10 12:=⟨by decide,by decide,by decide⟩;have e12:(10:Int) ^ (12:Int).toNat=1000000000000:=by decide +kernel
  have l0:(0:Int)<(10:Int) ^ (12:Int).toNat:=by rw[e12];decide
  refine⟨_,(a0d (a0s (i:=1) sc.nd rfl (Or.inl rfl) (a0m a1d a0e (a0m a0M (a0k GC hr1 (by rfl) DC.mg DC.fn.kp bC .nil a0G (a0a (pv 0) (a0a a0e a0b))) (a0m a6r a0e a0e))))
   (a0d (a0s (i:=2) sc.nd rfl (Or.inl rfl) (a0k GT hr4 (by rfl) DT.mg DT.fn.kp bT .nil a0G (a0a (pv 0) (a0a a0e (a0a a0e (a0a a0e a0b))))))
   (a0d (a0s (i:=3) sc.nd rfl (Or.inl rfl) (a0k GL hr6 (by rfl) DL.mg DL.fn.kp bL .nil a0G (a0a (pv 1) (a0a (pv 2) a0b))))
   (a0d (a0z (a1s (a0S (a0k GE hr (by rfl) DE.mg DE.fn.kp bE .nil a0G (a0a (a0k GF hr6 (by rfl) DF.mg DF.fn.kp bF .nil a0G (a0a (pv 1) (a0a (a1u a1W (by rfl) B.list boot_list (a0a (pv 2) a0b)) a0b))) (a0a (pv 3) a0b))))) a0D a0j)
   (a0d (a0s (i:=4) sc.nd rfl (Or.inl rfl) (a0m a0M (a0k GC hr1 (by rfl) DC.mg DC.fn.kp bC .nil a0G (a0a (pv 0) (a0a a0e a0b))) a0e))
   (a0d (a0s (i:=5) sc.nd rfl (Or.inl rfl) (a0m a0M (a0k GC hr1 (by rfl) DC.mg DC.fn.kp bC .nil a0G (a0a (pv 0) (a0a a0e a0b))) (a0i a0E (by rfl) B.len PySem.boot_len (a0a (pv 2) a0b))))
   (a0d (a0s (i:=6) sc.nd rfl (Or.inl rfl) (a0k GC hr1 (by rfl) DC.mg DC.fn.kp bC .nil a0G (a0a (pv 0) (a0a a0e a0b))))
   (a0d (b2M (a0z (a0t a1p (pv 4) a0e (a0w _)) (a0g (a0s (i:=7) sc.nd rfl (Or.inl rfl) (a0k GR hr7 (by rfl) DR.mg DR.fn.kp bR .nil a0G (a0a (a0k GZ hr1 (by rfl) DZ.mg DZ.fn.kp bZ .nil a0G (a0a (pv 6) a0b)) (a0a (a1u a1W (by rfl) B.list boot_list (a0a (pv 2) a0b)) a0b))))) (a0g (a0z (a0t a1p (pv 4) a0e (a0w _)) (a0g (a0s (i:=7) sc.nd rfl (Or.inl rfl) (a0k GR hr7 (by rfl) DR.mg DR.fn.kp bR .nil a0G (a0a (pv 1) (a0a (a0O a0b) a0b))))) (a0g (a0s (i:=7) sc.nd rfl (Or.inl rfl) (a0k GR hr7 (by rfl) DR.mg DR.fn.kp bR .nil a0G (a0a (pv 1) (a0a (a0k GP hr3 (by rfl) DP.mg DP.fn.kp bP .nil a0G (a0a (pv 2) (a0a (pv 4) (a0a (pv 5) (a0a (pv 6) a0b))))) a0b)))))))))
   (a0d (a0z (a1s (a0S (a0k GX hr3 (by rfl) DX.mg DX.fn.kp bX .nil a0G (a0a (a0W a2c (a0W a0F (pv 2) (pv 5) (fun _ _=>rfl)) a0e (fun _ _=>rfl)) (a0a (a0m a0M (pv 6) (a0m a6r a0e a0e)) (a0a (pv 5) a0b)))))) a0D a0j)
   (a0g (a0r (a1T (a1h (b1b hu) (pv 7) (a0O (a0a a0p (a0a a0p a0b))) (a0w _)) (a2j (a0k GE hr (by rfl) DE.mg DE.fn.kp bE .nil a0G (a0a (a0k GF hr6 (by rfl) DF.mg DF.fn.kp bF .nil a0G (a0a (pv 1) (a0a (a1u a1W (by rfl) B.list boot_list (a0a (pv 2) a0b)) a0b))) (a0a (pv 3) a0b)))))))))))))))),?_⟩
  refine⟨_,rfl,a,ns,_,rfl,hS,(by decide),(by decide),h63,_,_,rfl,rfl,p12,_,_,rfl,rfl,l0,_,_,rfl,rfl,?_⟩;have sz1:1<=1+a1E ns 0%(10:Int) ^ (12:Int).toNat:=by have:=Int.emod_nonneg (a1E ns 0) (show(10:Int) ^ (12:Int).toNat≠0 by omega);omega
  show b1P _ _ _ [some (.ref a),some (.int (1+a1E ns 0%(10:Int) ^ (12:Int).toNat)),none,none,none,none,none,none] _;generalize 1+a1E ns 0%(10:Int) ^ (12:Int).toNat=sz at sz1 ⊢;refine⟨_,rfl,a,ns,rfl,hS,h63,fun l es ds T0 R H2 s2 hP hT=>?_⟩;have okC:∀{H':Hp},a1F H' l es ds (T0::R)->∀T∈T0::R,a1J H' T.cols:=fun {H'} hP' T hT'=>by
   obtain⟨_,h1,h2,h3⟩:=hP';obtain⟨j,hj,e⟩:=List.mem_iff_getElem.mp hT';exact(h3 j es[j] ds[j] T (gE0 (by omega)) (gE0 (by omega)) (by rw[gE0 hj,e])).2.2
  have okP:∀{H':Hp} {R':List Tb},a1F H' l es ds (T0::R)->R'.Perm R->∀T∈T0::R',a1J H' T.cols:=fun {H' R'} hP' hp T hT'=>okC hP' T (by
   rcases mK0.mp hT' with h |h
   ·rw[h];exact List.mem_cons_self
   ·exact mL0 _ (hp.mem_iff.mp h))
  have ndR:(R.map (·.name)).Nodup:=(List.nodup_cons.mp (show(T0.name::R.map (·.name)).Nodup from hT.2.1)).2;refine⟨_,rfl,_,rfl,l,sz,es,ds,T0,R,rfl,hP,hT,.inl (s2 _ _ hPL),fun fd3 H3 R3 sb3 fr3 tab3 hRp3 hRr3 hF3=>?_⟩;have hPF3:H3 PF=some (.tbl #[]):=fr3 _ _ nPP (s2 _ _ hPF);have hP3:=hP.sb sb3;have hS3:=sb3.seq (s2.seq hS);have again:∀{H':Hp} {Q':VK} {E':XK} {l2:Addr},a3l PF a9Q foQ H'->a2q H' fd3 sz (T0::R3)->a1F H' l es ds (T0::R)->H' l2=some (.lst (es.map V.ref))->(∀ff H'',Sb H' H''->a3l PF a9Q foQ H''->Lk5 H'' 7 (.ref ff) (.ref fd3)->Q' (.ref ff) H'')->a7K PF [.int sz,.ref l2] H' Q' E':=fun {H' Q' E' l2} tb hF hP' h2 k=>by
   refine⟨l2,sz,es,ds,T0,R,rfl,sz1,⟨h2,hP'.2⟩,hT,tb,fun ff H'' R' sb fr tb' hRp hRr hF'=>k ff H'' sb tb' ?_⟩;have e:R'=R3:=b1w ndR hRp hRp3 hRr hRr3;subst e;exact b1l hF' (hF.sb sb) (okP (hP'.sb sb) hRp)
  refine⟨_,rfl,_,rfl,l,_,rfl,.inl (SqL.of hP3.1),fun l4 e4=>?_⟩;have T4:=a0l.upd (o:=.lst (es.map V.ref)) e4;unfold a8Q;refine again (.inl (T4 _ _ hPF3)) (hF3.same T4) (hP3.sb T4.sb) a0c fun ff H5 sb5 tab5 lk5=>?_;have SB5:Sb H3 H5:=T4.sb.trans sb5;refine⟨_,rfl,_,_,rfl,lk5,fun H6 s6=>⟨_,rfl,a2z ?_⟩⟩;have SB6:Sb H3 H6:=SB5.trans s6.sb;have hS6:=SB6.seq hS3;have hP6:=hP3.sb SB6;have hF6:=hF3.sb SB6;have tab6:=tab5.same s6;obtain⟨hl6,le,ld,hp6⟩:=id hP6;have hlen:(T0::R).length<=8:=by have:=hT.1;rw[List.length_cons];omega
  have epos:0<es.length:=by rw[le];simp
  have w0:=Int.emod_nonneg (a1E ns 1) (show(9:Int)≠0 by decide);have w1:=Int.emod_lt_of_pos (a1E ns 1) (show(0:Int)<9 by decide);refine⟨_,rfl,a,ns,_,rfl,hS6,(by decide),(by decide),h63,_,_,rfl,rfl,(pos rfl),?_⟩;show b1P _ _ _ [some (.ref a),some (.int sz),some (.ref l),some (.ref fd3),some (.int (a1E ns 1%9)),none,none,none] _;generalize a1E ns 1%9=wy at w0 w1 ⊢;have a0:=Int.emod_nonneg (a1E ns 2) (show((es.map V.ref).length:Int)≠0 by rw[lM0];omega);have a1:=Int.emod_lt_of_pos (a1E ns 2) (show(0:Int)<((es.map V.ref).length:Int) by rw[lM0];omega);refine⟨_,rfl,a,ns,_,rfl,hS6,(by decide),(by decide),h63,_,rfl,_,_,rfl,.inl (SqL.of hl6),_,_,rfl,rfl,(by rw[lM0];omega),?_⟩;show b1P _ _ _ [some (.ref a),some (.int sz),some (.ref l),some (.ref fd3),some (.int wy),some (.int (a1E ns 2%((es.map V.ref).length:Int))),none,none] _;obtain⟨n,en⟩:=Int.eq_ofNat_of_zero_le a0;rw[en] at a1 ⊢;have hn:n<es.length:=by rw[lM0] at a1;omega
  refine⟨_,rfl,a,ns,_,rfl,hS6,(by decide),(by decide),h63,?_⟩;show b3X _ _ [some (.ref a),some (.int sz),some (.ref l),some (.ref fd3),some (.int wy),some (.int (n:Int)),some (.int (a1E ns 3)),none] _;generalize a1E ns 3=c;refine⟨fun σ H7=>∃p,σ=[some (.ref a),some (.int sz),some (.ref l),some (.ref fd3),some (.int wy),some (.int (n:Int)),some (.int c),some (.ref p)]/\a0l H6 H7/\H7 p=some (.lst (a2P.map V.str)),?_,?_⟩
  ·have in4:∀T∈T0::R,T.sort∈b3O:=fun T hT'=>by
    rcases mK0.mp hT' with rfl |h
    ·rw[hT.2.2.2.1];exact List.mem_cons_self
    ·exact mL0 _ (hT.2.2.2.2 T h)
   have nm1000:∀T∈T0::R,T.name.length<=1000/\T.sort.length<=1000:=fun T hT'=>⟨by have:=(a2a (hT.2.2.1 T hT')).2;omega,by have:=(b1N _ (in4 T hT')).2.2.2.2;omega⟩;refine⟨_,rfl,rfl,_,rfl,?_⟩;refine a3j (fun _=>?_) (fun hw0=>?_)
   ·refine⟨_,rfl,c,rfl,fun sv sd H7 s7 r7 zb=>?_⟩
    refine⟨_,rfl,l,_,rfl,.inl (SqL.of (s7 _ _ hl6)),fun l8 e8=>?_⟩;have T8:=a0l.upd (o:=.lst (es.map V.ref)) e8;have S8:=s7.trans T8;have pg:=(Pgs.of hP6 nm1000).same S8;exact⟨sv,sd,l8,es,pgs (T0::R) ds,rfl,r7.same T8,⟨a0c,pg.1,pg.2⟩,(by rw[a5v ld];omega),.inl ⟨zb,fun H9 s9 p H10 s10 hp=>⟨p,rfl,S8.trans (s9.trans s10),hp⟩⟩⟩
   refine⟨_,rfl,rfl,_,rfl,?_⟩;refine a3j (fun _=>?_) (fun hw1=>?_)
   ·refine⟨_,rfl,zL0 _,fun l8 e8=>?_⟩
    have T8:=a0l.upd (o:=.lst []) e8;exact⟨.int sz,.int sz,l8,[],[],rfl,a1B sz,⟨a0c,rfl,(fun j e p h=>by cases h)⟩,zL0 _,.inr ⟨sz,rfl,sz1,.inl ⟨rfl,fun H9 s9 p H10 s10 hp=>⟨p,rfl,T8.trans (s9.trans s10),hp⟩⟩⟩⟩
   ·have v0:wy≠0:=fun e=>hw0 (dT0 (by rw[e]))
    have v1:wy≠1:=fun e=>hw1 (dT0 (by rw[e]));refine⟨_,rfl,_,rfl,_,rfl,_,rfl,_,rfl,l,wy,n,c,es,ds,T0,R,rfl,hP6,hT,(by omega),(by omega),(by omega),fun l' es' ps' H7 s7 hG h9 bad=>?_⟩;exact⟨.int sz,.int sz,l',es',ps',rfl,a1B sz,hG,h9,Sp3.bad sz1 (bad _ fun H8 s8 p H9 s9 hp=>⟨p,rfl,s8.trans s9,hp⟩)⟩
  rintro σ H7 ⟨p,rfl,s7,hp⟩;have SB7:Sb H3 H7:=SB6.trans s7.sb;have hP7:=hP3.sb SB7;obtain⟨hl7,_,_,hp7⟩:=id hP7;have hE:=(hp7 n es[n] ds[n] (T0::R)[n] (gE0 hn) (gE0 (by omega)) (gE0 (by omega))).1;refine⟨_,rfl,_,rfl,_,_,_,_,rfl,rfl,SqL.of hl7,a5n rfl hn,_,_,0,_,rfl,rfl,SqT.of hE,rfl,_,rfl,_,_,rfl,rfl,p12,_,_,rfl,rfl,l0,_,rfl,_,_,_,rfl,fun H8 s8=>⟨_,rfl,a2z ?_⟩⟩;have SB8:Sb H3 H8:=SB7.trans s8.sb;refine⟨_,rfl,(by exact sl2),fun p9 e9=>?_⟩;have T9:=a0l.upd (o:=.lst [V.str "any",V.str "form"]) e9;refine⟨p,p9,a2P,a2P,rfl,rfl,SqL.of ((s8.trans T9) _ _ hp),SqL.of a0c,_,rfl,?_⟩;rw[dT0 rfl];refine a3R ?_;have SB9:Sb H3 _:=SB8.trans T9.sb;refine⟨_,rfl,_,rfl,l,_,rfl,.inl (SqL.of (hP3.sb SB9).1),fun l10 e10=>?_⟩;have T10:=a0l.upd (o:=.lst (es.map V.ref)) e10;have SB10:Sb H3 _:=SB9.trans T10.sb
  dsimp only
  refine again ((tab6.same s7).same (s8.trans (T9.trans T10))) (hF3.sb SB10) (hP3.sb SB10) a0c fun ff H11 sb11 tab11 lk11=>?_;exact⟨_,rfl,_,_,rfl,lk11,fun H12 s12=>q H12⟩
end
end My
namespace L2
open PySem PySem.Spec PyProof.Rows
def a2m (K:Fg0)(x:Str)(st:Stmt)(P:Addr):Prop:=∃(f c:Addr) (oc:Value) (od:Option Addr) (kV doc pm:Value) (an:Option Addr) (ct:Value) (osl:Array (Option Value)),
 PySem.W.nsIn K mainGlobals x=some (some (.ref f))/\K.lookup f=some ⟨oc,od,.func (PySem.W.fnOf x x (a0P st) (a0A st) (a0f st) .none kV doc pm an (.ref c) ct),osl⟩/\PySem.W.codeIn K (.ref c) x=true/\PySem.W.keepIn K (.ref f)=true/\PySem.W.codeHdIn K c P=true/\K.lookup P=none
theorem a5e {K:Fg0}{x:Str}{st:Stmt}{P f c:Addr}{oc:Value}{od an:Option Addr}{osl:Array (Option Value)}{kV doc pm ct:Value}(a:PySem.W.nsIn K mainGlobals x=some (some (.ref f)))
  (l:K.lookup f=some ⟨oc,od,.func (PySem.W.fnOf x x (a0P st) (a0A st) (a0f st) .none kV doc pm an (.ref c) ct),osl⟩) (cd:PySem.W.codeIn K (.ref c) x=true) (k:PySem.W.keepIn K (.ref f)=true) (t:PySem.W.codeHdIn K c P=true) (n:K.lookup P=none):a2m K x st P:=
 ⟨f,c,oc,od,kV,doc,pm,an,ct,osl,a,l,cd,k,t,n⟩
theorem a2m.get {K:Fg0}{h:Heap}{mg:Str->Option Value}{x:Str}{st:Stmt}{P:Addr}(d:a2m K x st P)(X:K.In h)(G:h.Ns mainGlobals mg):∃f fd c,b0H K x x st f fd c/\mg x=some (.ref f)/\PySem.W.codeHdIn K c P=true:=by
 obtain⟨f,c,oc,od,kV,doc,pm,an,ct,osl,a,l,cd,k,t,n⟩:=d;exact⟨f,_,c,⟨⟨oc,od,kV,doc,pm,an,ct,osl,rfl,l,cd⟩,k⟩,PySem.W.mg_of X G a,t⟩
theorem a2m.tab {K:Fg0}{x:Str}{st:Stmt}{P:Addr}(d:a2m K x st P):(∃c,PySem.W.codeHdIn K c P=true)/\K.lookup P=none:=by
 obtain⟨f,c,oc,od,kV,doc,pm,an,ct,osl,a,l,cd,k,t,n⟩:=d;exact⟨⟨c,t⟩,n⟩
end L2
namespace My
open PySem L2
structure a4A (K:Fg0) (CT CS:Addr) (cs:List Addr) (i:Nat) (C:Addr):Prop where
 tab:cs.map (fun D=>PySem.W.kitOne K (.ref C) (.ref D))=(List.range 14).map fun j=>some (decide (i=j))
 isT:PySem.W.kitOne K (.ref C) (.ref CT)=some true
 isV:PySem.W.kitOne K (.ref C) (.type "ValueError")=some true
 isS:PySem.W.kitOne K (.ref C) (.ref CS)=some (decide (i<8))
theorem a4A.at {K:Fg0}{CT CS C D:Addr}{cs:List Addr}{i j:Nat}(r:a4A K CT CS cs i C)(h:cs[j]? =some D):PySem.W.kitOne K (.ref C) (.ref D)=some (decide (i=j)):=by
 have e:=congrArg (fun l=>l[j]?) r.tab;rw[gM0,h,gM0] at e;have hj:j<14:=by
  rcases Nat.lt_or_ge j 14 with g |g
  ·exact g
  ·rw[List.getElem?_eq_none (by rw[List.length_range];exact g)] at e
   cases e
 rw[List.getElem?_range hj] at e
 injection e
theorem all_mk {l:PySem.W.OpenLaw}{w:World}{K:Fg0}{h:Heap}{mg:Str->Option Value}{fa sA PF PL CT CS CO CN a1 a2 a3 a4 a5 b1 b2 b3 b4 b5 b6 b7 fI fM:Addr}{tL tN tP tw tm ts tk:Tok}{od:Option Addr}{nK:Nat}{sl:Array (Option Value)}{ic ik idoc ipm icd ict:Value}{id1 ian:Option Addr}{isl:Array (Option Value)}{od_ an_:Option Addr}{osl_:Array (Option Value)}{oc_ dV kV_ doc_ pm_ cdv_ ct_:Value}(X:K.In h)(G:h.Ns mainGlobals mg)(hfa:mg "law"=some (.ref fa))
  (dF:a2m K "form_of" (top 29) PF) (dL:a2m K "_law_form" (top 43) PL)
  (gL:PySem.W.nsIn K mainGlobals "LETTERS"=some (some (.str "abcdefghijklmnopqrstuvwxyz" tL)))
  (gN:PySem.W.nsIn K mainGlobals "LONGEST_NAME"=some (some (.int 8 tN)))
  (gP:PySem.W.nsIn K mainGlobals "PERCENT"=some (some (.int 37 tP)))
  (gS:PySem.W.nsIn K mainGlobals "SIDE_SORTS"=some (some (.ref sA)))
  (lS:K.lookup sA=some ⟨.type "tuple",od,.seq #[.str "twin" tw,.str "many" tm,.str "some" ts] nK,sl⟩)
  (aT:PySem.W.nsIn K mainGlobals "TableError"=some (some (.ref CT)))
  (aS:PySem.W.nsIn K mainGlobals "StepError"=some (some (.ref CS)))
  (e0:PySem.W.nsIn K mainGlobals "NoTable"=some (some (.ref CO)))
  (e1:PySem.W.nsIn K mainGlobals "BadRow"=some (some (.ref b1)))
  (e2:PySem.W.nsIn K mainGlobals "Taken"=some (some (.ref b2)))
  (e3:PySem.W.nsIn K mainGlobals "Missing"=some (some (.ref b3)))
  (e4:PySem.W.nsIn K mainGlobals "Lone"=some (some (.ref b4)))
  (e5:PySem.W.nsIn K mainGlobals "Gap"=some (some (.ref b5)))
  (e6:PySem.W.nsIn K mainGlobals "Twice"=some (some (.ref b6)))
  (e7:PySem.W.nsIn K mainGlobals "Nowhere"=some (some (.ref b7)))
  (e8:PySem.W.nsIn K mainGlobals "NoForm"=some (some (.ref CN)))
  (e9:PySem.W.nsIn K mainGlobals "NoMove"=some (some (.ref a1)))
  (e10:PySem.W.nsIn K mainGlobals "NoText"=some (some (.ref a3)))
  (e11:PySem.W.nsIn K mainGlobals "TooMany"=some (some (.ref a5)))
  (e12:PySem.W.nsIn K mainGlobals "NotDone"=some (some (.ref a4)))
  (e13:PySem.W.nsIn K mainGlobals "NoRow"=some (some (.ref a2)))
  (xT:XCl K CT)
  (x0:XCl K CO)
  (x1:XCl K b1)
  (x2:XCl K b2)
  (x3:XCl K b3)
  (x4:XCl K b4)
  (x5:XCl K b5)
  (x6:XCl K b6)
  (x7:XCl K b7)
  (x8:XCl K CN)
  (x9:XCl K a1)
  (x10:XCl K a3)
  (x11:XCl K a5)
  (x12:XCl K a4)
  (x13:XCl K a2)
  (bs:PySem.W.specialIn K (.ref CT) "__getattribute__"=some (some (.builtin "type.__getattribute__")))
  (br:PySem.W.readsIn K CT (.type "type")=true)
  (bf:PySem.W.findCls K (.ref CT) (.type "type") "__init__"=some (.val (.builtin "ValueError.__init__")))
  (h0:PySem.W.findIn K (.ref CO) "__class__"=some (some (.builtin "object.__class__")))
  (n0_0:PySem.W.findIn K (.ref CO) "table"=some none)
  (n0_1:PySem.W.findIn K (.ref CO) "key"=some none)
  (n0_2:PySem.W.findIn K (.ref CO) "place"=some none)
  (i0:PySem.W.findIn K (.ref CO) "__init__"=some (some (.ref fI)))
  (h1:PySem.W.findIn K (.ref b1) "__class__"=some (some (.builtin "object.__class__")))
  (n1_0:PySem.W.findIn K (.ref b1) "table"=some none)
  (n1_1:PySem.W.findIn K (.ref b1) "key"=some none)
  (n1_2:PySem.W.findIn K (.ref b1) "place"=some none)
  (i1:PySem.W.findIn K (.ref b1) "__init__"=some (some (.ref fI)))
  (h2:PySem.W.findIn K (.ref b2) "__class__"=some (some (.builtin "object.__class__")))
  (n2_0:PySem.W.findIn K (.ref b2) "table"=some none)
  (n2_1:PySem.W.findIn K (.ref b2) "key"=some none)
  (n2_2:PySem.W.findIn K (.ref b2) "place"=some none)
  (i2:PySem.W.findIn K (.ref b2) "__init__"=some (some (.ref fI)))
  (h3:PySem.W.findIn K (.ref b3) "__class__"=some (some (.builtin "object.__class__")))
  (n3_0:PySem.W.findIn K (.ref b3) "table"=some none)
  (n3_1:PySem.W.findIn K (.ref b3) "key"=some none)
  (n3_2:PySem.W.findIn K (.ref b3) "place"=some none)
  (i3:PySem.W.findIn K (.ref b3) "__init__"=some (some (.ref fI)))
  (h4:PySem.W.findIn K (.ref b4) "__class__"=some (some (.builtin "object.__class__")))
  (n4_0:PySem.W.findIn K (.ref b4) "table"=some none)
  (n4_1:PySem.W.findIn K (.ref b4) "key"=some none)
  (n4_2:PySem.W.findIn K (.ref b4) "place"=some none)
  (i4:PySem.W.findIn K (.ref b4) "__init__"=some (some (.ref fI)))
  (h5:PySem.W.findIn K (.ref b5) "__class__"=some (some (.builtin "object.__class__")))
  (n5_0:PySem.W.findIn K (.ref b5) "table"=some none)
  (n5_1:PySem.W.findIn K (.ref b5) "key"=some none)
  (n5_2:PySem.W.findIn K (.ref b5) "place"=some none)
  (i5:PySem.W.findIn K (.ref b5) "__init__"=some (some (.ref fI)))
  (h6:PySem.W.findIn K (.ref b6) "__class__"=some (some (.builtin "object.__class__")))
  (n6_0:PySem.W.findIn K (.ref b6) "table"=some none)
  (n6_1:PySem.W.findIn K (.ref b6) "key"=some none)
  (n6_2:PySem.W.findIn K (.ref b6) "place"=some none)
  (i6:PySem.W.findIn K (.ref b6) "__init__"=some (some (.ref fI)))
  (h7:PySem.W.findIn K (.ref b7) "__class__"=some (some (.builtin "object.__class__")))
  (n7_0:PySem.W.findIn K (.ref b7) "table"=some none)
  (n7_1:PySem.W.findIn K (.ref b7) "key"=some none)
  (n7_2:PySem.W.findIn K (.ref b7) "place"=some none)
  (i7:PySem.W.findIn K (.ref b7) "__init__"=some (some (.ref fI)))
  (h8:PySem.W.findIn K (.ref CN) "__class__"=some (some (.builtin "object.__class__")))
  (i8:PySem.W.findIn K (.ref CN) "__init__"=some (some (.builtin "ValueError.__init__")))
  (h9:PySem.W.findIn K (.ref a1) "__class__"=some (some (.builtin "object.__class__")))
  (nM:PySem.W.findIn K (.ref a1) "move"=some none)
  (iM:PySem.W.findIn K (.ref a1) "__init__"=some (some (.ref fM)))
  (h10:PySem.W.findIn K (.ref a3) "__class__"=some (some (.builtin "object.__class__")))
  (i10:PySem.W.findIn K (.ref a3) "__init__"=some (some (.builtin "ValueError.__init__")))
  (h11:PySem.W.findIn K (.ref a5) "__class__"=some (some (.builtin "object.__class__")))
  (i11:PySem.W.findIn K (.ref a5) "__init__"=some (some (.builtin "ValueError.__init__")))
  (h12:PySem.W.findIn K (.ref a4) "__class__"=some (some (.builtin "object.__class__")))
  (i12:PySem.W.findIn K (.ref a4) "__init__"=some (some (.builtin "ValueError.__init__")))
  (h13:PySem.W.findIn K (.ref a2) "__class__"=some (some (.builtin "object.__class__")))
  (i13:PySem.W.findIn K (.ref a2) "__init__"=some (some (.builtin "ValueError.__init__")))
  (hn:PySem.W.specialIn K (.builtin "object.__class__") "__get__"=some (some (.builtin "getset_descriptor.__get__")))
  (htk:PySem.W.takesIn K (.builtin "object.__class__")=some true)
  (nf:PySem.W.isFn K (.ref fI)=true)
  (nl:K.lookup fI=some ⟨ic,id1,.func (PySem.W.fnOf "__init__" "StepError.__init__" (a0P (a0Q (top 2) 0)) (a0A (a0Q (top 2) 0)) (a0f (a0Q (top 2) 0)) .none ik idoc ipm ian icd ict),isl⟩)
  (nc:PySem.W.codeIn K icd "StepError.__init__"=true)
  (nk:PySem.W.keepIn K (.ref fI)=true)
  (mf:PySem.W.isFn K (.ref fM)=true)
  (ml:K.lookup fM=some ⟨oc_,od_,.func (PySem.W.fnOf "__init__" "NoMove.__init__" (a0P (a0Q (top 12) 0)) (a0A (a0Q (top 12) 0)) (a0f (a0Q (top 12) 0)) dV kV_ doc_ pm_ an_ cdv_ ct_),osl_⟩)
  (mc:PySem.W.codeIn K cdv_ "NoMove.__init__"=true)
  (mk:PySem.W.keepIn K (.ref fM)=true)
  (pk:∀(u:Value) (S:Setting),PySem.W.peek K S (bindArgs (PySem.W.fnOf "__init__" "NoMove.__init__" (a0P (a0Q (top 12) 0)) (a0A (a0Q (top 12) 0)) (a0f (a0Q (top 12) 0)) dV kV_ doc_ pm_ an_ cdv_ ct_) ⟨[u],[]⟩)=some ([("self",u),("move",.int 0 tk)]:List (Str×Value)))
  (pk2:∀(u v:Value) (S:Setting),PySem.W.peek K S (bindArgs (PySem.W.fnOf "__init__" "NoMove.__init__" (a0P (a0Q (top 12) 0)) (a0A (a0Q (top 12) 0)) (a0f (a0Q (top 12) 0)) dV kV_ doc_ pm_ an_ cdv_ ct_) ⟨[u,v],[]⟩)=some ([("self",u),("move",v)]:List (Str×Value)))
  (un:PySem.W.mroIn K CN (.ref CT)=some true)
  (t0:a4A K CT CS [CO,b1,b2,b3,b4,b5,b6,b7,CN,a1,a3,a5,a4,a2] 0 CO)
  (t1:a4A K CT CS [CO,b1,b2,b3,b4,b5,b6,b7,CN,a1,a3,a5,a4,a2] 1 b1)
  (t2:a4A K CT CS [CO,b1,b2,b3,b4,b5,b6,b7,CN,a1,a3,a5,a4,a2] 2 b2)
  (t3:a4A K CT CS [CO,b1,b2,b3,b4,b5,b6,b7,CN,a1,a3,a5,a4,a2] 3 b3)
  (t4:a4A K CT CS [CO,b1,b2,b3,b4,b5,b6,b7,CN,a1,a3,a5,a4,a2] 4 b4)
  (t5:a4A K CT CS [CO,b1,b2,b3,b4,b5,b6,b7,CN,a1,a3,a5,a4,a2] 5 b5)
  (t6:a4A K CT CS [CO,b1,b2,b3,b4,b5,b6,b7,CN,a1,a3,a5,a4,a2] 6 b6)
  (t7:a4A K CT CS [CO,b1,b2,b3,b4,b5,b6,b7,CN,a1,a3,a5,a4,a2] 7 b7)
  (t8:a4A K CT CS [CO,b1,b2,b3,b4,b5,b6,b7,CN,a1,a3,a5,a4,a2] 8 CN)
  (t9:a4A K CT CS [CO,b1,b2,b3,b4,b5,b6,b7,CN,a1,a3,a5,a4,a2] 9 a1)
  (t10:a4A K CT CS [CO,b1,b2,b3,b4,b5,b6,b7,CN,a1,a3,a5,a4,a2] 10 a3)
  (t11:a4A K CT CS [CO,b1,b2,b3,b4,b5,b6,b7,CN,a1,a3,a5,a4,a2] 11 a5)
  (t12:a4A K CT CS [CO,b1,b2,b3,b4,b5,b6,b7,CN,a1,a3,a5,a4,a2] 12 a4)
  (t13:a4A K CT CS [CO,b1,b2,b3,b4,b5,b6,b7,CN,a1,a3,a5,a4,a2] 13 a2)
  (q5:PySem.W.kitAny K (.ref CN) [.ref a1,.ref a2,.ref a3,.ref a4,.ref a5]=some false)
  (q7:PySem.W.kitAny K (.ref CN) [.ref b1,.ref b2,.ref b3,.ref b4,.ref b5,.ref b6,.ref b7]=some false)
  (d21:a1n K "is_whole" (top 21))
  (d22:a1n K "is_name" (top 22))
  (d23:a1n K "is_sign" (top 23))
  (d24:a1n K "is_plain" (top 24))
  (d25:a1n K "is_plain_pair" (top 25))
  (d26:a1n K "is_kind" (top 26))
  (d30:a1n K "ask_sorts" (top 30))
  (d31:a1n K "ask_names" (top 31))
  (d32:a1n K "columns_made" (top 32))
  (d34:a1n K "_law_cell" (top 34))
  (d35:a1n K "_law_stream" (top 35))
  (d36:a1n K "_law_letter" (top 36))
  (d37:a1n K "_law_names" (top 37))
  (d38:a1n K "_law_plain" (top 38))
  (d39:a1n K "_law_kind" (top 39))
  (d40:a1n K "_law_columns" (top 40))
  (d41:a1n K "_law_tables" (top 41))
  (d42:a1n K "_law_same" (top 42))
  (d44:a1n K "_law_words" (top 44))
  (d45:a1n K "_law_no_name" (top 45))
  (d46:a1n K "_law_no_kind" (top 46))
  (d47:a1n K "_law_columns_spoiled" (top 47))
  (d48:a1n K "_law_spoiled" (top 48))
  (d49:a1n K "_law_size" (top 49))
  (d50:a1n K "_law_classes_of" (top 50))
  (d51:a1n K "_law_errors" (top 51))
  (d52:a1n K "_law_refused" (top 52))
  (d53:a1n K "law" (top 53))
  (zb:BlK K) (zz:PySem.W.nsIn K mainGlobals "zip"=some none) (zv:PySem.W.nsIn K mainGlobals "ValueError"=some none) :
  ∃fd:FuncData,(∀(s:Shared) (v:Value),BindsTo s fd ⟨[v],[]⟩ [("_law_script",v)])/\∀base:Heap,K.In base->base.Ns mainGlobals mg->L2.a4r base mg->a0K l.prog w K mg base CX0 9 fa fd ["_law_script"] (a5Y K PF PL):=by
 have B:Bl mg:=zb.bl X G;have hz:mg "zip"=none:=PySem.W.mg_none_of X G zz;have mS:=PySem.W.mg_of X G gS;have qS:∀H,SqT K H sA (a1v.map V.str):=fun H=>.inr ⟨_,_,_,lS,rfl,rfl,(by exact sl3),.cons ⟨tw,rfl⟩ (.cons ⟨tm,rfl⟩ (.cons ⟨ts,rfl⟩ .nil))⟩;have mL:=PySem.W.mg_of X G gL;have mN:=PySem.W.mg_of X G gN;have mP:=PySem.W.mg_of X G gP;have T:Tx6 K mg CN:=⟨PySem.W.mg_of X G e8,⟨x8,i8⟩⟩;have wN:Wd6 K CT CS CO CN [a1,a2,a3,a4,a5] [b1,b2,b3,b4,b5,b6,b7] CN:=⟨⟨x8,h8,hn,htk⟩,⟨x8,un⟩,t8.isT,t8.isV,t8.at (j:=8) rfl,t8.isS,t8.at (j:=0) rfl,q5,q7⟩;have R:Rf6 K mg CT CS CO CN a1 a2 a3 a4 a5 b1 b2 b3 b4 b5 b6 b7:=⟨PySem.W.mg_of X G aT,PySem.W.mg_of X G aS,PySem.W.mg_of X G e0,PySem.W.mg_of X G e8,xT,PySem.W.mg_of X G e9,PySem.W.mg_of X G e13,PySem.W.mg_of X G e10,PySem.W.mg_of X G e12,PySem.W.mg_of X G e11,PySem.W.mg_of X G e1,PySem.W.mg_of X G e2,PySem.W.mg_of X G e3,PySem.W.mg_of X G e4,PySem.W.mg_of X G e5,PySem.W.mg_of X G e6,PySem.W.mg_of X G e7,PySem.W.mg_none_of X G zv,wN⟩;have rw6:∀(i:Nat) (C:Addr),[CO,b1,b2,b3,b4,b5,b6,b7,CN,a1,a3,a5,a4,a2][i]? =some C->a4A K CT CS [CO,b1,b2,b3,b4,b5,b6,b7,CN,a1,a3,a5,a4,a2] i C/\XIs K C:=fun i C hC=>by
  match i,hC with
  |0,hC=>cases hC;exact⟨t0,x0,h0,hn,htk⟩
  |1,hC=>cases hC;exact⟨t1,x1,h1,hn,htk⟩
  |2,hC=>cases hC;exact⟨t2,x2,h2,hn,htk⟩
  |3,hC=>cases hC;exact⟨t3,x3,h3,hn,htk⟩
  |4,hC=>cases hC;exact⟨t4,x4,h4,hn,htk⟩
  |5,hC=>cases hC;exact⟨t5,x5,h5,hn,htk⟩
  |6,hC=>cases hC;exact⟨t6,x6,h6,hn,htk⟩
  |7,hC=>cases hC;exact⟨t7,x7,h7,hn,htk⟩
  |8,hC=>cases hC;exact⟨t8,x8,h8,hn,htk⟩
  |9,hC=>cases hC;exact⟨t9,x9,h9,hn,htk⟩
  |10,hC=>cases hC;exact⟨t10,x10,h10,hn,htk⟩
  |11,hC=>cases hC;exact⟨t11,x11,h11,hn,htk⟩
  |12,hC=>cases hC;exact⟨t12,x12,h12,hn,htk⟩
  |13,hC=>cases hC;exact⟨t13,x13,h13,hn,htk⟩
  |n+14,hC=>cases hC
 have ex:∀C∈[CO,b1,b2,b3,b4,b5,b6,b7,CN,a1,a3,a5,a4,a2],∃i,a4A K CT CS [CO,b1,b2,b3,b4,b5,b6,b7,CN,a1,a3,a5,a4,a2] i C/\XIs K C:=fun C hC=>by
  obtain⟨i,hi,e⟩:=List.mem_iff_getElem.mp hC;exact⟨i,rw6 i C (by rw[gE0 hi,e])⟩
 have Z:Ks6 K CT CS [CO,b1,b2,b3,b4,b5,b6,b7,CN,a1,a3,a5,a4,a2]:=⟨fun C hC=>let ⟨_,r⟩:=ex C hC;r.2,fun C hC=>let ⟨_,r⟩:=ex C hC;r.1.isT,fun C hC=>let ⟨_,r⟩:=ex C hC;r.1.isV,fun i C hC=>(rw6 i C hC).1.isS,fun i C j D hC hD=>(rw6 i C hC).1.at hD⟩;have ys:∀C∈[CO,b1,b2,b3,b4,b5,b6,b7],XMk K C fI/\AtS K C:=fun C hC=>by
  simp only[mK0,List.not_mem_nil,or_false] at hC;rcases hC with rfl |rfl |rfl |rfl |rfl |rfl |rfl |rfl
  ·exact⟨⟨x0,i0,nf⟩,n0_0,n0_1,n0_2⟩
  ·exact⟨⟨x1,i1,nf⟩,n1_0,n1_1,n1_2⟩
  ·exact⟨⟨x2,i2,nf⟩,n2_0,n2_1,n2_2⟩
  ·exact⟨⟨x3,i3,nf⟩,n3_0,n3_1,n3_2⟩
  ·exact⟨⟨x4,i4,nf⟩,n4_0,n4_1,n4_2⟩
  ·exact⟨⟨x5,i5,nf⟩,n5_0,n5_1,n5_2⟩
  ·exact⟨⟨x6,i6,nf⟩,n6_0,n6_1,n6_2⟩
  ·exact⟨⟨x7,i7,nf⟩,n7_0,n7_1,n7_2⟩
 have Y:Ys6 K fI fM a1 [CO,b1,b2,b3,b4,b5,b6,b7,CN,a1,a3,a5,a4,a2]:=⟨fun C hC=>(ys C hC).1,fun C hC=>(ys C hC).2,⟨x9,iM,mf⟩,nM⟩;have yb:∀C∈[CN,a3,a5,a4,a2],b1n K C:=fun C hC=>by
  simp only[mK0,List.not_mem_nil,or_false] at hC;rcases hC with rfl |rfl |rfl |rfl |rfl
  ·exact⟨x8,i8⟩
  ·exact⟨x10,i10⟩
  ·exact⟨x11,i11⟩
  ·exact⟨x12,i12⟩
  ·exact⟨x13,i13⟩
 have FI:Fun K "__init__" "StepError.__init__" (a0Q (top 2) 0) fI _:=a8I nl nc nk;have bI:=FI.b4 "self" "table" "key" "place" (by intros;rfl);have FM:=b0Y (st:=a0Q (top 12) 0) ml mc mk;have bM0:a1V K (PySem.W.fnOf "__init__" "NoMove.__init__" (a0P (a0Q (top 12) 0)) (a0A (a0Q (top 12) 0)) (a0f (a0Q (top 12) 0)) dV kV_ doc_ pm_ an_ cdv_ ct_) ["self","move"] [.int 0 tk]:=fun s us kin hl=>by
  have h1:us.length=1:=by simpa using hl
  match us,h1 with
  |[u],_=>exact PySem.W.kp_binds kin (pk u)
 have bM:a1V K (PySem.W.fnOf "__init__" "NoMove.__init__" (a0P (a0Q (top 12) 0)) (a0A (a0Q (top 12) 0)) (a0f (a0Q (top 12) 0)) dV kV_ doc_ pm_ an_ cdv_ ct_) ["self","move"] []:=fun s us kin hl=>by
  have h1:us.length=2:=by simpa using hl
  match us,h1 with
  |[u,v],_=>exact PySem.W.kp_binds kin (pk2 u v)
 obtain⟨g21,fd21,D21⟩:=d21.df X G;obtain⟨g22,fd22,D22⟩:=d22.df X G;obtain⟨g23,fd23,D23⟩:=d23.df X G;obtain⟨g24,fd24,D24⟩:=d24.df X G;obtain⟨g25,fd25,D25⟩:=d25.df X G;obtain⟨g26,fd26,D26⟩:=d26.df X G;obtain⟨g30,fd30,D30⟩:=d30.df X G;obtain⟨g31,fd31,D31⟩:=d31.df X G;obtain⟨g32,fd32,D32⟩:=d32.df X G;obtain⟨g34,fd34,D34⟩:=d34.df X G;obtain⟨g35,fd35,D35⟩:=d35.df X G;obtain⟨g36,fd36,D36⟩:=d36.df X G;obtain⟨g37,fd37,D37⟩:=d37.df X G;obtain⟨g38,fd38,D38⟩:=d38.df X G;obtain⟨g39,fd39,D39⟩:=d39.df X G;obtain⟨g40,fd40,D40⟩:=d40.df X G;obtain⟨g41,fd41,D41⟩:=d41.df X G;obtain⟨g42,fd42,D42⟩:=d42.df X G;obtain⟨g44,fd44,D44⟩:=d44.df X G;obtain⟨g45,fd45,D45⟩:=d45.df X G;obtain⟨g46,fd46,D46⟩:=d46.df X G;obtain⟨g47,fd47,D47⟩:=d47.df X G;obtain⟨g48,fd48,D48⟩:=d48.df X G;obtain⟨g49,fd49,D49⟩:=d49.df X G;obtain⟨g50,fd50,D50⟩:=d50.df X G;obtain⟨g51,fd51,D51⟩:=d51.df X G;obtain⟨g52,fd52,D52⟩:=d52.df X G;obtain⟨g29,fd29,c29,F29,m29,t29⟩:=dF.get X G;obtain⟨g43,fd43,c43,F43,m43,t43⟩:=dL.get X G;have D29:Df K mg "form_of" (top 29) g29 fd29:=⟨F29.fn,m29⟩;have D43:Df K mg "_law_form" (top 43) g43 fd43:=⟨F43.fn,m43⟩;obtain⟨f,oc,od,kV,doc,pm,an,cdv,ct,osl,a,lk,c,k⟩:=d53;have e:=hfa.symm.trans (PySem.W.mg_of X G a);cases e;refine⟨PySem.W.fnOf "law" "law" (a0P (top 53)) (a0A (top 53)) (a0f (top 53)) .none kV doc pm an cdv ct,fun s v=>.of_eq rfl,fun base _ _ hB=>?_⟩;have GN:=b1H (P:=l.prog) (w:=w) (base:=base) D22.fn B mL ⟨tL,rfl⟩ mN ⟨tN,rfl⟩;have GP:=a9d (P:=l.prog) (w:=w) (base:=base) D24.fn B D21 D23 D25 mP ⟨tP,rfl⟩;have GK:=b1D (P:=l.prog) (w:=w) (base:=base) D26.fn B D24 GP;have GW:=a6s (mg:=mg) (P:=l.prog) (w:=w) (base:=base) D21.fn B;have GC:=b1C (P:=l.prog) (w:=w) (base:=base) D32.fn B D22 GN D26 GK;have GS:=b0K (P:=l.prog) (w:=w) (base:=base) D30.fn mS qS;have GA:=b0R (P:=l.prog) (w:=w) (base:=base) D31.fn D22 GN;have GF:=b1t (P:=l.prog) (w:=w) (base:=base) F29 B t29 hB D21 GW D30 GS D31 GA D32 GC;have GL:=a9i (P:=l.prog) (w:=w) (base:=base) F43 B t43 hB;have GB:=a9h (P:=l.prog) (w:=w) (base:=base) D29.fn T D21 GW D30 (GS.lift.or (a9B D30.fn T mS qS)) D31 (GA.lift.or (a8T D31.fn T D22 GN)) D32 (GC.lift.or (b1s D32.fn T D22 GN D26 GK));have GI:=a8W (P:=l.prog) (w:=w) (base:=base) FI.x R.mT ⟨bs,br,bf⟩;have GM:=a9F (P:=l.prog) (w:=w) (base:=base) FM R.mT ⟨bs,br,bf⟩;exact b2S (a8I lk c k) B hz D34 D41 (a9r D41.fn B D34 D37 D36 D35 D40 D39 D38) D29 GF D42 D43 GL D52 (a6N D52.fn B R D29 GB D44) D49 D48 (b2H D48.fn B D45 D47 D46) D51 (b2F D51.fn B R Z Y D50 GI bI GM bM bM0 yb)
theorem b3z {l:PySem.W.OpenLaw}{q:Program}{loose:List Str}{XP:(Str->Option Value)->Heap->Prop}{d:DefRec}{K:Params->Fg0}{as:List Addr}{e:∀P,as=(K P).map (·.1)}{PL PF:Addr}(hk:a1m 9 callerA)(hn:l.most=some 63)(hdf:d.params.defaults=[])(ne:PF≠PL)
  (DL:∀w:World,a2m (K w.params) "_law_form" (top 43) PL) (DF:∀w:World,a2m (K w.params) "form_of" (top 29) PF)
  (F:∀(w:World) (mg:Str->Option Value) (fa:Addr) (h:Heap),(K w.params).In h->h.Ns mainGlobals mg->mg d.name=some (.ref fa)->a2m (K w.params) "form_of" (top 29) PF->a2m (K w.params) "_law_form" (top 43) PL →
   ∃fd:FuncData,(∀(s:Shared) (u:Value),BindsTo s fd ⟨[u],[]⟩ [("_law_script",u)])/\∀base:Heap,(K w.params).In base->base.Ns mainGlobals mg->L2.a4r base mg->a0K l.prog w (K w.params) mg base CX0 9 fa fd ["_law_script"] (a5Y (K w.params) PF PL)) :
  PySem.W.WalkO q loose XP (PySem.W.kmHook K as e [PL,PF]).says l.row.toRowW d [] (fun f vs=>PySem.call f vs):=by
 refine L2.a9M (n:=63) (k:=9) (x:="_law_script") (CX:=fun _=>CX0) (sp:=fun w=>a5Y (K w.params) PF PL) (tx:=fun _=>[PL,PF]) hn (by decide) hdf hk (fun w h Y=>PySem.W.km_in_of Y) (fun w h Y b hb=>?_) (fun w mg fa h X G m=>F w mg fa h X G m (DF w) (DL w)) (fun w H a ns hl hO hS=>?_) fun _ _ _ _ _ z=>z
 ·have g:=PySem.W.km_tabs_of Y b hb
  rcases mK0.mp hb with rfl |hb
  ·obtain⟨⟨c,t⟩,n⟩:=(DL w).tab
   exact L2.b0q (PySem.W.km_in_of Y) g t n
  ·have e:b=PF:=by simpa using hb
   subst e;obtain⟨⟨c,t⟩,n⟩:=(DF w).tab;exact L2.b0q (PySem.W.km_in_of Y) g t n
 ·exact⟨a,ns,rfl,hS,hl,hO.2 PF (by simp),hO.2 PL (by simp),ne,fun _=>rfl⟩
end My
namespace PySem.W.Fast
def tw1261364744824027590:Unit:=()
def tw5949896499633763672:Unit:=()
def tw3476931866517446056:Unit:=()
def tw16716560943154397574:Unit:=()
def tw17656493807186648061:Unit:=()
def tw11778082403003880450:Unit:=()
def tw8613068574273836547:Unit:=()
def tw4449602497638859588:Unit:=()
def tw17561076410514095419:Unit:=()
def tw14513577585773819397:Unit:=()
def tw17793544032543566704:Unit:=()
def tw7134682325628515685:Unit:=()
def tw8273252199414728631:Unit:=()
def tw698054481479527724:Unit:=()
def tw5185129487843633048:Unit:=()
def tw12046239422940047132:Unit:=()
def tw14601078206945935028:Unit:=()
def tw14491169071578863054:Unit:=()
def tw1209664395140654053:Unit:=()
def tw18150477534993053048:Unit:=()
def tw13217650968957674481:Unit:=()
def tw1885798067051317244:Unit:=()
def tw11176953417100194543:Unit:=()
def tw1142205139474254765:Unit:=()
def tw2029195973499340713:Unit:=()
def tw13143915611390994803:Unit:=()
def tw10643885465336884168:Unit:=()
def tw4059319203225520202:Unit:=()
def tw2471742007914041980:Unit:=()
def tw13804946121188068414:Unit:=()
def tw6696228161633263232:Unit:=()
def tw1982292923803621208:Unit:=()
def tw8162502246570213864:Unit:=()
def tw7489542269737211053:Unit:=()
def tw11753571052984545016:Unit:=()
def tw17927861780284262793:Unit:=()
def tw9480313232187847587:Unit:=()
def tw18114893026756601982:Unit:=()
def tw10350201870928538971:Unit:=()
def tw9866606438854605132:Unit:=()
def tw10368623488606337692:Unit:=()
def tw7617663747610458589:Unit:=()
def tw7407993594614560326:Unit:=()
def tw9512551119379517773:Unit:=()
def tw11186288621607167986:Unit:=()
def tw8783146050521507929:Unit:=()
def tw7470174914957084058:Unit:=()
def tw2152643312915344735:Unit:=()
def tw9948960445372390637:Unit:=()
def tw8450401777344962702:Unit:=()
def tw5595995539713534074:Unit:=()
def tw17151546377329423264:Unit:=()
def tw7076799178519680652:Unit:=()
def tw2717791762764421238:Unit:=()
def tw693912471488072565:Unit:=()
def tw1987800617493584658:Unit:=()
def tw9710846840944593235:Unit:=()
def tw4386109980758113134:Unit:=()
def tw5411412429793587062:Unit:=()
def tw3409840544665957414:Unit:=()
end PySem.W.Fast
open PySem PySem.W PyProof.Rows
set_option maxRecDepth 100000 in
set_option maxHeartbeats 0 in
theorem PySem.Challenge.cw_halfmoved_k06_what_is_no_form_holds : PySem.Challenge.rw_halfmoved_k06_what_is_no_form.Holds := by
 w_on;o_law;k_head;(case hw=>w_witness2)
 k_fill
 refine My.b3z (l:=PySem.Challenge.rw_halfmoved_k06_what_is_no_form) ⟨rfl,by decide,by decide⟩ rfl rfl (by decide) ?DL ?DF ?F
 case DL=>
  intro w;refine' L2.a5e ?a ?l ?c ?k ?t ?n;(case a=>k_is);(case l=>k_is);(case c=>k_is);(case k=>k_is);(case t=>rfl);(case n=>rfl)
 case DF=>
  intro w;refine' L2.a5e ?a ?l ?c ?k ?t ?n;(case a=>k_is);(case l=>k_is);(case c=>k_is);(case k=>k_is);(case t=>rfl);(case n=>rfl)
 case F=>
  intro w mg fa h KX G hmg dF dL;refine' My.all_mk KX G hmg dF dL ?gL ?gN ?gP ?gS ?lS ?aT ?aS ?e0 ?e1 ?e2 ?e3 ?e4 ?e5 ?e6 ?e7 ?e8 ?e9 ?e10 ?e11 ?e12 ?e13 ?xT ?x0 ?x1 ?x2 ?x3 ?x4 ?x5 ?x6 ?x7 ?x8 ?x9 ?x10 ?x11 ?x12 ?x13 ?bs ?br ?bf ?h0 ?n0_0 ?n0_1 ?n0_2 ?i0 ?h1 ?n1_0 ?n1_1 ?n1_2 ?i1 ?h2 ?n2_0 ?n2_1 ?n2_2 ?i2 ?h3 ?n3_0 ?n3_1 ?n3_2 ?i3 ?h4 ?n4_0 ?n4_1 ?n4_2 ?i4 ?h5 ?n5_0 ?n5_1 ?n5_2 ?i5 ?h6 ?n6_0 ?n6_1 ?n6_2 ?i6 ?h7 ?n7_0 ?n7_1 ?n7_2 ?i7 ?h8 ?i8 ?h9 ?nM ?iM ?h10 ?i10 ?h11 ?i11 ?h12 ?i12 ?h13 ?i13 ?hn ?htk ?nf ?nl ?nc ?nk ?mf ?ml ?mc ?mk ?pk ?pk2 ?un ?t0 ?t1 ?t2 ?t3 ?t4 ?t5 ?t6 ?t7 ?t8 ?t9 ?t10 ?t11 ?t12 ?t13 ?q5 ?q7 ?d21 ?d22 ?d23 ?d24 ?d25 ?d26 ?d30 ?d31 ?d32 ?d34 ?d35 ?d36 ?d37 ?d38 ?d39 ?d40 ?d41 ?d42 ?d44 ?d45 ?d46 ?d47 ?d48 ?d49 ?d50 ?d51 ?d52 ?d53 ?zb ?zz ?zv
  (case gL=>k_is)
  (case gN=>k_is)
  (case gP=>k_is)
  (case gS=>k_is)
  (case lS=>k_is)
  (case aT=>k_is)
  (case aS=>k_is)
  (case e0=>k_is)
  (case e1=>k_is)
  (case e2=>k_is)
  (case e3=>k_is)
  (case e4=>k_is)
  (case e5=>k_is)
  (case e6=>k_is)
  (case e7=>k_is)
  (case e8=>k_is)
  (case e9=>k_is)
  (case e10=>k_is)
  (case e11=>k_is)
  (case e12=>k_is)
  (case e13=>k_is)
  (case xT=>refine' L2.a1S ?l ?t ?ga ?gx ?sa ?kp;(case l=>k_is);(case t=>decide +kernel);(case ga=>k_is);(case gx=>k_is);(case sa=>k_is);(case kp=>k_is))
  (case x0=>refine' L2.a1S ?l ?t ?ga ?gx ?sa ?kp;(case l=>k_is);(case t=>decide +kernel);(case ga=>k_is);(case gx=>k_is);(case sa=>k_is);(case kp=>k_is))
  (case x1=>refine' L2.a1S ?l ?t ?ga ?gx ?sa ?kp;(case l=>k_is);(case t=>decide +kernel);(case ga=>k_is);(case gx=>k_is);(case sa=>k_is);(case kp=>k_is))
  (case x2=>refine' L2.a1S ?l ?t ?ga ?gx ?sa ?kp;(case l=>k_is);(case t=>decide +kernel);(case ga=>k_is);(case gx=>k_is);(case sa=>k_is);(case kp=>k_is))
  (case x3=>refine' L2.a1S ?l ?t ?ga ?gx ?sa ?kp;(case l=>k_is);(case t=>decide +kernel);(case ga=>k_is);(case gx=>k_is);(case sa=>k_is);(case kp=>k_is))
  (case x4=>refine' L2.a1S ?l ?t ?ga ?gx ?sa ?kp;(case l=>k_is);(case t=>decide +kernel);(case ga=>k_is);(case gx=>k_is);(case sa=>k_is);(case kp=>k_is))
  (case x5=>refine' L2.a1S ?l ?t ?ga ?gx ?sa ?kp;(case l=>k_is);(case t=>decide +kernel);(case ga=>k_is);(case gx=>k_is);(case sa=>k_is);(case kp=>k_is))
  (case x6=>refine' L2.a1S ?l ?t ?ga ?gx ?sa ?kp;(case l=>k_is);(case t=>decide +kernel);(case ga=>k_is);(case gx=>k_is);(case sa=>k_is);(case kp=>k_is))
  (case x7=>refine' L2.a1S ?l ?t ?ga ?gx ?sa ?kp;(case l=>k_is);(case t=>decide +kernel);(case ga=>k_is);(case gx=>k_is);(case sa=>k_is);(case kp=>k_is))
  (case x8=>refine' L2.a1S ?l ?t ?ga ?gx ?sa ?kp;(case l=>k_is);(case t=>decide +kernel);(case ga=>k_is);(case gx=>k_is);(case sa=>k_is);(case kp=>k_is))
  (case x9=>refine' L2.a1S ?l ?t ?ga ?gx ?sa ?kp;(case l=>k_is);(case t=>decide +kernel);(case ga=>k_is);(case gx=>k_is);(case sa=>k_is);(case kp=>k_is))
  (case x10=>refine' L2.a1S ?l ?t ?ga ?gx ?sa ?kp;(case l=>k_is);(case t=>decide +kernel);(case ga=>k_is);(case gx=>k_is);(case sa=>k_is);(case kp=>k_is))
  (case x11=>refine' L2.a1S ?l ?t ?ga ?gx ?sa ?kp;(case l=>k_is);(case t=>decide +kernel);(case ga=>k_is);(case gx=>k_is);(case sa=>k_is);(case kp=>k_is))
  (case x12=>refine' L2.a1S ?l ?t ?ga ?gx ?sa ?kp;(case l=>k_is);(case t=>decide +kernel);(case ga=>k_is);(case gx=>k_is);(case sa=>k_is);(case kp=>k_is))
  (case x13=>refine' L2.a1S ?l ?t ?ga ?gx ?sa ?kp;(case l=>k_is);(case t=>decide +kernel);(case ga=>k_is);(case gx=>k_is);(case sa=>k_is);(case kp=>k_is))
  (case bs=>k_is)
  (case br=>k_is)
  (case bf=>k_is)
  (case h0=>k_is)
  (case n0_0=>k_is)
  (case n0_1=>k_is)
  (case n0_2=>k_is)
  (case i0=>k_is)
  (case h1=>k_is)
  (case n1_0=>k_is)
  (case n1_1=>k_is)
  (case n1_2=>k_is)
  (case i1=>k_is)
  (case h2=>k_is)
  (case n2_0=>k_is)
  (case n2_1=>k_is)
  (case n2_2=>k_is)
  (case i2=>k_is)
  (case h3=>k_is)
  (case n3_0=>k_is)
  (case n3_1=>k_is)
  (case n3_2=>k_is)
  (case i3=>k_is)
  (case h4=>k_is)
  (case n4_0=>k_is)
  (case n4_1=>k_is)
  (case n4_2=>k_is)
  (case i4=>k_is)
  (case h5=>k_is)
  (case n5_0=>k_is)
  (case n5_1=>k_is)
  (case n5_2=>k_is)
  (case i5=>k_is)
  (case h6=>k_is)
  (case n6_0=>k_is)
  (case n6_1=>k_is)
  (case n6_2=>k_is)
  (case i6=>k_is)
  (case h7=>k_is)
  (case n7_0=>k_is)
  (case n7_1=>k_is)
  (case n7_2=>k_is)
  (case i7=>k_is)
  (case h8=>k_is)
  (case i8=>k_is)
  (case h9=>k_is)
  (case nM=>k_is)
  (case iM=>k_is)
  (case h10=>k_is)
  (case i10=>k_is)
  (case h11=>k_is)
  (case i11=>k_is)
  (case h12=>k_is)
  (case i12=>k_is)
  (case h13=>k_is)
  (case i13=>k_is)
  (case hn=>k_is)
  (case htk=>k_is)
  (case nf=>k_is)
  (case nl=>k_is)
  (case nc=>k_is)
  (case nk=>k_is)
  (case mf=>k_is)
  (case ml=>k_is)
  (case mc=>k_is)
  (case mk=>k_is)
  (case pk=>intro u S;rfl)
  (case pk2=>intro u v S;rfl)
  (case un=>k_is)
  (case t0=>exact⟨by first |rfl |decide +kernel,by first |rfl |decide +kernel,by first |rfl |decide +kernel,by first |rfl |decide +kernel⟩)
  (case t1=>exact⟨by first |rfl |decide +kernel,by first |rfl |decide +kernel,by first |rfl |decide +kernel,by first |rfl |decide +kernel⟩)
  (case t2=>exact⟨by first |rfl |decide +kernel,by first |rfl |decide +kernel,by first |rfl |decide +kernel,by first |rfl |decide +kernel⟩)
  (case t3=>exact⟨by first |rfl |decide +kernel,by first |rfl |decide +kernel,by first |rfl |decide +kernel,by first |rfl |decide +kernel⟩)
  (case t4=>exact⟨by first |rfl |decide +kernel,by first |rfl |decide +kernel,by first |rfl |decide +kernel,by first |rfl |decide +kernel⟩)
  (case t5=>exact⟨by first |rfl |decide +kernel,by first |rfl |decide +kernel,by first |rfl |decide +kernel,by first |rfl |decide +kernel⟩)
  (case t6=>exact⟨by first |rfl |decide +kernel,by first |rfl |decide +kernel,by first |rfl |decide +kernel,by first |rfl |decide +kernel⟩)
  (case t7=>exact⟨by first |rfl |decide +kernel,by first |rfl |decide +kernel,by first |rfl |decide +kernel,by first |rfl |decide +kernel⟩)
  (case t8=>exact⟨by first |rfl |decide +kernel,by first |rfl |decide +kernel,by first |rfl |decide +kernel,by first |rfl |decide +kernel⟩)
  (case t9=>exact⟨by first |rfl |decide +kernel,by first |rfl |decide +kernel,by first |rfl |decide +kernel,by first |rfl |decide +kernel⟩)
  (case t10=>exact⟨by first |rfl |decide +kernel,by first |rfl |decide +kernel,by first |rfl |decide +kernel,by first |rfl |decide +kernel⟩)
  (case t11=>exact⟨by first |rfl |decide +kernel,by first |rfl |decide +kernel,by first |rfl |decide +kernel,by first |rfl |decide +kernel⟩)
  (case t12=>exact⟨by first |rfl |decide +kernel,by first |rfl |decide +kernel,by first |rfl |decide +kernel,by first |rfl |decide +kernel⟩)
  (case t13=>exact⟨by first |rfl |decide +kernel,by first |rfl |decide +kernel,by first |rfl |decide +kernel,by first |rfl |decide +kernel⟩)
  (case q5=>first |k_is |rfl |decide +kernel)
  (case q7=>first |k_is |rfl |decide +kernel)
  (case zb=>refine' My.BlK.mk ?b0 ?b1 ?b2 ?b3 ?b4 ?b5 ?b6 ?b7 ?b8 ?b9 ?b10 ?b11 ?b12 ?b13 ?b14 ?b15;(case b0=>k_is);(case b1=>k_is);(case b2=>k_is);(case b3=>k_is);(case b4=>k_is);(case b5=>k_is);(case b6=>k_is);(case b7=>k_is);(case b8=>k_is);(case b9=>k_is);(case b10=>k_is);(case b11=>k_is);(case b12=>k_is);(case b13=>k_is);(case b14=>k_is);(case b15=>k_is))
  (case zz=>k_is)
  (case zv=>k_is)
  all_goals (refine' L2.a9l ?a ?l ?c ?k;(case a=>k_is);(case l=>k_is);(case c=>k_is);(case k=>k_is))
#print axioms PySem.Challenge.cw_halfmoved_k06_what_is_no_form_holds
