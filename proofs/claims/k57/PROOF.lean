import PyProof.Rows.All
import Wide.All
import OpenK.AllK
import Wide.FinOn
import Lean
import PyProof.EqAt
import PyProof.EqKinds
import PyProof.TupleCall
import PyProof.StrBlock
import PyProof.StrBlockL
import PyProof.Rows.StrJoin2
import KE.KIntText
import PyProof.StationsW
import PyProof.RulesTry
import PyProof.InstStoreFacts
import PyProof.ExcBaseAll.ValueError
import PyProof.ExcAttrAll.ValueError
import PyProof.NsDelKeeps
import KE.KDictSum
import PyProof.EnumMake
import PyProof.EnumStmt
import KE.KSortTup
import PyProof.NeKinds
import PyProof.AttrMissSeq
import PyProof.TupleIter
import KE.KDictOf
import PyProof.FactsAll.set_2
import PyProof.Rows.SetFrom
import PyProof.AttrMissHeap
import PyProof.ZipIter
import PyProof.ListRange
import KE.KPar
import KE.KLam
import KE.KNestM
import KE.KSortKey
import KE.KRevIter
import PyProof.CollectIter
import PyProof.WalkInts
import PyProof.ListNew
import PyProof.FactsAll.enumerate_1
import PyProof.StrCalls6
import KE.KTabLook
import PyProof.MeetsStr
import PyProof.StrLawsTight
import PyProof.MeetsStr2
import PySem.Challenge.RW_halfmoved_k57_there_and_back
set_option Elab.async false
set_option linter.all false
set_option maxRecDepth 100000
set_option maxHeartbeats 4000000
namespace L0
open PySem PySem.Spec PyProof.Rows
theorem gE0:type_of% @List.getElem?_eq_getElem.{0}:=@List.getElem?_eq_getElem.{0}
theorem lM0:type_of% @List.length_map.{0,0}:=@List.length_map.{0,0}
theorem gM0:type_of% @List.getElem?_map.{0,0}:=@List.getElem?_map.{0,0}
theorem hP0:type_of% @PySem.Heap.get?_push_of_some:=@PySem.Heap.get?_push_of_some
theorem wB0:type_of% @wpAny_bind:=@wpAny_bind
theorem wP0:type_of% @wpAny_pure:=@wpAny_pure
theorem gS0:type_of% @List.getElem?_eq_some_iff.{0}:=@List.getElem?_eq_some_iff.{0}
abbrev Fg0:=PySem.W.Frag
end L0
open L0
namespace L2
theorem ln0 {α:Type}{l:List α}(h:l.length=0):l=[]:=List.eq_nil_of_length_eq_zero h
theorem ln1 {α:Type}{l:List α}(h:l.length=1):∃a,l=[a]:=List.length_eq_one_iff.mp h
theorem ln2 {α:Type}{l:List α}(h:l.length=2):∃a b,l=[a,b]:=by
 cases l with
 |nil=>cases h
 |cons a r=>obtain⟨b,rfl⟩:=ln1 (Nat.succ.inj h);exact⟨a,b,rfl⟩
theorem ln3 {α:Type}{l:List α}(h:l.length=3):∃a b c,l=[a,b,c]:=by
 cases l with
 |nil=>cases h
 |cons a r=>obtain⟨b,c,rfl⟩:=ln2 (Nat.succ.inj h);exact⟨a,b,c,rfl⟩
theorem ln4 {α:Type}{l:List α}(h:l.length=4):∃a b c d,l=[a,b,c,d]:=by
 cases l with
 |nil=>cases h
 |cons a r=>obtain⟨b,c,d,rfl⟩:=ln3 (Nat.succ.inj h);exact⟨a,b,c,d,rfl⟩
end L2
namespace L2
open PySem PySem.Spec PyProof.Rows
abbrev Key:=Sum Int Str
def a4O:Key->Value->Bool
 | .inl k,v=>Value.isInt k v
 | .inr x,v=>Value.isStrOf x v
def keyH (w:World):Key->Int
 | .inl k=>hashInt k
 | .inr x=>hashStr w x
theorem a0L:∀{k:Key} {v:Value},a4O k v=true->(∃i t,k=Sum.inl i/\v=Value.int i t)\/(∃x t,k=Sum.inr x/\v=Value.str x t)
 | .inl i,v,h=>by
  obtain⟨t,e⟩:=Value.isInt_shape (k:=i) (v:=v) h;exact .inl ⟨i,t,rfl,e⟩
 | .inr x,v,h=>by
  obtain⟨t,e⟩:=Value.isStrOf_shape (x:=x) (v:=v) h;exact .inr ⟨x,t,rfl,e⟩
theorem a7O (i:Int)(t:Tok):a4O (.inl i) (.int i t)=true:=by simp[a4O,Value.isInt]
theorem a8O (x:Str)(t:Tok):a4O (.inr x) (.str x t)=true:=by simp[a4O,Value.isStrOf]
theorem b3i (a b:Int):decide ((Sum.inl a:Key)=Sum.inl b)=(a==b):=by
 by_cases e:a=b
 ·subst e;simp
 ·have h:¬(Sum.inl a:Key)=Sum.inl b:=fun q=>e (Sum.inl.inj q)
  rw[decide_eq_false h];exact(beq_eq_false_iff_ne.mpr e).symm
theorem b3g (a b:Str):decide ((Sum.inr a:Key)=Sum.inr b)=decide (a=b):=by
 by_cases e:a=b
 ·subst e;simp
 ·have h:¬(Sum.inr a:Key)=Sum.inr b:=fun q=>e (Sum.inr.inj q)
  rw[decide_eq_false h,decide_eq_false e]
theorem b3m (a:Int)(b:Str):decide ((Sum.inl a:Key)=Sum.inr b)=false:=decide_eq_false (fun q=>nomatch q)
theorem b2F (a:Str)(b:Int):decide ((Sum.inr a:Key)=Sum.inl b)=false:=decide_eq_false (fun q=>nomatch q)
def a0l (prog:Program)(w:World):PySem.KeyKind prog w Key where
 is:=a4O
 hash:=keyH w
 inj:=fun v a b ha hb=>by
  rcases a0L ha with ⟨i,t,rfl,rfl⟩ |⟨x,t,rfl,rfl⟩
  ·rcases a0L hb with ⟨j,u,rfl,e⟩ |⟨y,u,rfl,e⟩
   ·injection e with e1 _;rw[e1]
   ·exact nomatch e
  ·rcases a0L hb with ⟨j,u,rfl,e⟩ |⟨y,u,rfl,e⟩
   ·exact nomatch e
   ·injection e with e1 _;rw[e1]
 byValue:=fun k v h=>by
  rcases a0L h with ⟨i,t,rfl,rfl⟩ |⟨x,t,rfl,rfl⟩<;>rfl
 pyHash:=fun hv h=>by
  rcases a0L hv with ⟨i,t,rfl,rfl⟩ |⟨x,t,rfl,rfl⟩
  ·exact wpAny_pyHash_int h
  ·exact wpAny_pyHash_str h
 eqBool:=fun hu hv h=>by
  rcases a0L hu with ⟨i,t,rfl,rfl⟩ |⟨x,t,rfl,rfl⟩
  ·rcases a0L hv with ⟨j,u,rfl,rfl⟩ |⟨y,u,rfl,rfl⟩
   ·rw[b3i] at h;exact wpAny_eqBool_int h
   ·rw[b3m] at h;exact SeqAt.EqAt.int_str i t y u _ _ _ _ h
  ·rcases a0L hv with ⟨j,u,rfl,rfl⟩ |⟨y,u,rfl,rfl⟩
   ·rw[b2F] at h;exact SeqAt.EqAt.str_int x t j u _ _ _ _ h
   ·rw[b3g] at h;exact wpAny_eqBool_str h
 «strs»:=fun k x t v h=>by
  rcases a0L h with ⟨i,u,rfl,e⟩ |⟨y,u,rfl,e⟩
  ·exact nomatch e
  ·injection e with e1 _
   subst e1;cases v<;>rfl
theorem a5I (prog:Program)(w:World)(i:Int)(t:Tok):(a0l prog w).is (.inl i) (.int i t)=true:=a7O i t
theorem a5E (prog:Program)(w:World)(x:Str)(t:Tok):(a0l prog w).is (.inr x) (.str x t)=true:=a8O x t
inductive V where
 |non |bl (b:Bool) |int (i:Int) |str (x:Str) |byt (b:Array UInt8) |flt (b:UInt64) |ref (a:Addr) |ty (n:String)
 deriving DecidableEq
def a1c:V->Value->Prop
 | .non,u=>u=Value.none
 | .bl b,u=>u=Value.bool b
 | .int i,u=>∃t,u=Value.int i t
 | .str x,u=>∃t,u=Value.str x t
 | .byt b,u=>∃t,u=Value.bytes b t
 | .flt b,u=>∃t,u=Value.float b t
 | .ref a,u=>u=Value.ref a
 | .ty n,u=>u=Value.type n
abbrev a1m:List V->List Value->Prop:=Paired a1c
theorem a1m.length {xs:List V}{us:List Value}(r:a1m xs us):xs.length=us.length:=Paired.length r
theorem a1m.get:∀{xs:List V} {us:List Value} {i:Nat} {x:V},a1m xs us->xs[i]? =some x->∃u,us[i]? =some u/\a1c x u
 |_,_,_,_,.nil,e=>by simp at e
 |_,_,0,_,.cons r _,e=>by simp at e;subst e;exact⟨_,rfl,r⟩
 |_,_,i+1,x,.cons _ t,e=>by
  obtain⟨u,h1,h2⟩:=a1m.get (i:=i) (x:=x) t (by simpa using e);exact⟨u,by simpa using h1,h2⟩
theorem a1m.append:∀{xs ys:List V} {us ws:List Value},a1m xs us->a1m ys ws->a1m (xs++ys) (us++ws)
 |_,_,_,_,.nil,s=>s
 |_,_,_,_,.cons r t,s=>.cons r (a1m.append t s)
theorem a1m.take:∀{xs:List V} {us:List Value} (n:Nat),a1m xs us->a1m (xs.take n) (us.take n)
 |_,_,0,_=>.nil
 |_,_,_+1,.nil=>.nil
 |_,_,n+1,.cons r t=>.cons r (a1m.take n t)
theorem a1m.drop:∀{xs:List V} {us:List Value} (n:Nat),a1m xs us->a1m (xs.drop n) (us.drop n)
 |_,_,0,r=>r
 |_,_,_+1,.nil=>.nil
 |_,_,n+1,.cons _ t=>a1m.drop n t
def a4E:Option V->Option Value->Prop
 |some v,some u=>a1c v u
 |none,none=>True
 |_,_=>False
def KV {κ:Type}:List (κ×V)->List (κ×Value)->Prop:=Paired fun(p:κ×V) (q:κ×Value)=>p.1=q.1/\a1c p.2 q.2
def kV:Key->V
 | .inl i=>.int i
 | .inr x=>.str x
inductive HO where
 |lst (xs:List V)
 |tup (xs:List V)
 |dK (kvs:List (Key×V)) |dT (kvs:List (List Key×V))
 |set (S:Int->Bool) (n:Nat)
 |ins (C dx:Addr) (fs:List (Str×V))
 |own (x:Addr)
 |xd (fs:List (Str×V))
 |met (f x:Addr)
 |rng (lo hi:Int)
 |frz (o:Obj) (u:HO)
 |tbl (ps:Array Value)
 |ext (φ:Heap->Prop)
abbrev Hp:=Addr->Option HO
def upd (H:Hp)(a:Addr)(o:HO):Hp:=fun b=>if b=a then some o else H b
theorem a0b {H:Hp}{a:Addr}{o:HO}:upd H a o a=some o:=by unfold upd;rw[if_pos rfl]
theorem a0h {H:Hp}{a b:Addr}{o:HO}(h:b≠a):upd H a o b=H b:=by unfold upd;rw[if_neg h]
theorem a2w {H:Hp}{a:Addr}{o u:HO}:upd (upd H a o) a u=upd H a u:=by
 funext b;unfold upd;split<;>rfl
theorem b3J {H:Hp}{a b:Addr}{o u:HO}(h:H a=some o)(h':H b=some u)(d:o≠u):a≠b:=by
 intro e;subst e;rw[h] at h';exact d (Option.some.inj h')
theorem a0x {H:Hp}{a b:Addr}{o:HO}(h:H a=some o)(h':H b=none):a≠b:=by
 intro e;subst e;rw[h] at h';cases h'
section
variable (P:Program)(w:World)
def a1q (H:Hp)(h:Heap)(a:Addr):HO->Prop
 | .lst xs=>xs.length≤sizeLine/\∃(its:List Value) (n:Nat),a1m xs its/\h.get? a=some { cls:=.type "list",data:=.seq its.toArray n }
 | .tup xs=>xs.length≤sizeLine/\∃its:List Value,a1m xs its/\IsTup h a its.toArray
 | .dK kvs=>kvs.length≤sizeLine/\(a==sysModules)=false/\∃vs,KV kvs vs/\h.DictOf (a0l P w) a vs
 | .dT kvs=>kvs.length≤sizeLine/\(a==sysModules)=false/\∃xs:List (List Key×Addr×Value),
   Paired (fun(p:List Key×V) (q:List Key×Addr×Value)=>p.1=q.1/\H q.2.1=some (.tup (p.1.map kV))/\a1c p.2 q.2.2) kvs xs ∧
   ∃o es ep,h.get? a=some o/\o.ExactDict/\o.data=.dict es ep/\es.toList=xs.map (entryOfKey (tupleKind (a0l P w)))/\(xs.map (·.1)).Nodup
 | .set S n=>h.SetOf (intKind P w) a S n
 | .ins C dx fs=>H dx=some (.own a)/\fs.length≤1000/\dx≠a/\h.get? a=some (PySem.W.instObj C dx) ∧
   ∃mA,h.Ns1 dx mA/\(∀f,a4E (fs.lookup f) (mA f))/\PySem.Within mA (fs.map (·.1))
 | .own _=>∃o,h.get? a=some o
 | .xd fs=>∃mA,h.Ns1 a mA/\∀f,a4E (fs.lookup f) (mA f)
 | .rng lo hi=>∃t u v,h.get? a=some { cls:=.type "range",data:=.fields #[.int lo t,.int hi u,.int 1 v] }
 | .frz o u=>h.get? a=some o/\a1q H h a u
 | .tbl ps=>h.get? a=some { cls:=.none,data:=.fields ps }
 | .met f x=>h.get? a=some (PySem.W.methodObj (.ref f) (.ref x))
 | .ext φ=>φ h/\(∃o,h.get? a=some o)/\∀h1 h2:Heap,φ h1->(∀o,h1.get? a=some o->h2.get? a=some o)->φ h2
def HOk (H:Hp)(h:Heap):Prop:=∀a o,H a=some o->a1q P w H h a o
end
section
variable {P:Program}{w:World}{H H':Hp}{h h':Heap}{a:Addr}{o:HO}
theorem a1q.lt (x:a1q P w H h a o):a<h.objs.size:=by
 cases o with
 |lst xs=>obtain⟨_,_,_,_,e⟩:=x;exact Heap.lt_size e
 |tup xs=>obtain⟨_,_,_,p⟩:=x;exact p.lt
 |dK kvs=>obtain⟨_,_,_,_,o,_,_,e,_⟩:=x;exact Heap.lt_size e
 |dT kvs=>obtain⟨_,_,_,_,o,_,_,e,_⟩:=x;exact Heap.lt_size e
 |set S n=>obtain⟨o,_,_,_,e,_⟩:=x;exact Heap.lt_size e
 |ins C dx fs=>obtain⟨_,_,_,e,_⟩:=x;exact Heap.lt_size e
 |own y=>obtain⟨_,e⟩:=x;exact Heap.lt_size e
 |xd fs=>obtain⟨_,⟨_,_,_,e,_⟩,_⟩:=x;exact Heap.lt_size e
 |rng lo hi=>obtain⟨_,_,_,e⟩:=x;exact Heap.lt_size e
 |frz ob u=>obtain⟨e,_⟩:=x;exact Heap.lt_size e
 |tbl ps=>exact Heap.lt_size (show h.get? a=some _ from x)
 |met f y=>exact Heap.lt_size (show h.get? a=some _ from x)
 |ext φ=>obtain⟨_,⟨_,e⟩,_⟩:=x;exact Heap.lt_size e
theorem Paired.mapP {α β:Type}{F G:α->β->Prop}:∀{l₁:List α} {l₂:List β},Paired F l₁ l₂->(∀a b,F a b->G a b)->Paired G l₁ l₂
 |_,_,.nil,_=>.nil
 |_,_,.cons r t,f=>.cons (f _ _ r) (Paired.mapP t f)
theorem a1q.stay (x:a1q P w H h a o)(k:∀b u,(b=a\/H b=some (.own a))->h.get? b=some u->h'.get? b=some u)
  (ho:∀b,H b=some (.own a)->H' b=some (.own a)) (ht:∀b xs,H b=some (.tup xs)->H' b=some (.tup xs)):a1q P w H' h' a o:=by
 induction o with
 |lst xs=>obtain⟨z,its,n,r,e⟩:=x;exact⟨z,its,n,r,k _ _ (.inl rfl) e⟩
 |tup xs=>obtain⟨z,its,r,ob,e,c⟩:=x;exact⟨z,its,r,ob,k _ _ (.inl rfl) e,c⟩
 |dK kvs=>obtain⟨z,y,vs,r,ob,es,ep,e,c⟩:=x;exact⟨z,y,vs,r,ob,es,ep,k _ _ (.inl rfl) e,c⟩
 |dT kvs=>
  obtain⟨z,y,xs,r,ob,es,ep,e,c⟩:=x;exact⟨z,y,xs,Paired.mapP r fun p q z=>⟨z.1,ht _ _ z.2.1,z.2.2⟩,ob,es,ep,k _ _ (.inl rfl) e,c⟩
 |set S n=>obtain⟨ob,es,ep,t,e,c⟩:=x;exact⟨ob,es,ep,t,k _ _ (.inl rfl) e,c⟩
 |ins C dx fs=>
  obtain⟨d,z,ne,e,mA,⟨od,es,ep,e2,c⟩,r⟩:=x;exact⟨ho _ d,z,ne,k _ _ (.inl rfl) e,mA,⟨od,es,ep,k _ _ (.inr d) e2,c⟩,r⟩
 |own y=>obtain⟨ob,e⟩:=x;exact⟨ob,k _ _ (.inl rfl) e⟩
 |xd fs=>obtain⟨mA,⟨od,es,ep,e,c⟩,r⟩:=x;exact⟨mA,⟨od,es,ep,k _ _ (.inl rfl) e,c⟩,r⟩
 |rng lo hi=>obtain⟨t,u,v,e⟩:=x;exact⟨t,u,v,k _ _ (.inl rfl) e⟩
 |frz ob u ih=>obtain⟨e,q⟩:=x;exact⟨k _ _ (.inl rfl) e,ih q⟩
 |tbl ps=>
  have e:h.get? a=some { cls:=.none,data:=.fields ps }:=x;show h'.get? a=some { cls:=.none,data:=.fields ps };exact k a _ (.inl rfl) e
 |met f y=>
  have e:h.get? a=some (PySem.W.methodObj (.ref f) (.ref y)):=x;show h'.get? a=some (PySem.W.methodObj (.ref f) (.ref y));exact k a _ (.inl rfl) e
 |ext φ=>obtain⟨p,⟨o,e⟩,st⟩:=x;exact⟨st _ _ p fun o q=>k _ _ (.inl rfl) q,⟨o,k _ _ (.inl rfl) e⟩,st⟩
theorem HOk.lt (x:HOk P w H h)(e:H a=some o):a<h.objs.size:=(x a o e).lt
theorem HOk.fresh (x:HOk P w H h)(e:h.objs.size≤a):H a=none:=by
 cases q:H a with
 |none=>rfl
 |some u=>exact absurd (Nat.lt_of_lt_of_le (x.lt q) e) (Nat.lt_irrefl _)
theorem HOk.kept (x:HOk P w H h)(k:∀b u,h.get? b=some u->h'.get? b=some u):HOk P w H h':=fun a o e=>
 (x a o e).stay (fun b u _ q=>k b u q) (fun _ q=>q) fun _ _ q=>q
theorem HOk.laid (x:HOk P w H h)(k:∀b u,h.get? b=some u->h'.get? b=some u)(hp:h.objs.size≤a)(new:a1q P w (upd H a o) h' a o):HOk P w (upd H a o) h':=fun b u e=>by
 have hn:=x.fresh hp
 by_cases hb:b=a
 ·subst hb;rw[a0b] at e;cases e;exact new
 ·rw[a0h hb] at e
  exact(x b u e).stay (fun c v _ q=>k c v q) (fun c q=>by rw[a0h (a0x q hn)];exact q) fun c xs q=>by rw[a0h (a0x q hn)];exact q
end
def Rd (H:Hp)(a:Addr)(u:HO):Prop:=H a=some u\/∃o,H a=some (.frz o u)
theorem Rd.ok {P:Program}{w:World}{H:Hp}{h:Heap}{a:Addr}{u:HO}(r:Rd H a u)(x:HOk P w H h):a1q P w H h a u:=by
 rcases r with r |⟨o,r⟩
 ·exact x a u r
 ·obtain⟨_,q⟩:=x a _ r
  exact q
def Mut:Option HO->Prop
 |some (.lst _)=>True
 |some (.dK _)=>True
 |some (.dT _)=>True
 |some (.set _ _)=>True
 |some (.ins _ _ _)=>True
 |some (.ext _)=>True
 |_=>False
section
variable {P:Program}{w:World}{H:Hp}{h h':Heap}{x e:Addr}{o':HO}
theorem HOk.write (ok:HOk P w H h)(mu:Mut (H x))(he:e=x\/H e=some (.own x))(k:∀b u,b≠e->h.get? b=some u->h'.get? b=some u)(heo:∃u,h'.get? e=some u)
  (new:a1q P w (upd H x o') h' x o'):HOk P w (upd H x o') h':=fun b u q=>by
 have nown:∀c y,H c=some (.own y)->c≠x:=fun c y r z=>by subst z;rw[r] at mu;exact mu
 have ntup:∀c xs,H c=some (.tup xs)->c≠x:=fun c xs r z=>by subst z;rw[r] at mu;exact mu
 by_cases hb:b=x
 ·subst hb;rw[a0b] at q;cases q;exact new
 ·rw[a0h hb] at q
  by_cases hbe:b=e
  ·have q':H b=some (.own x):=by
    rcases he with z |z
    ·exact absurd (hbe.trans z) hb
    ·rw[hbe];exact z
   rw[q] at q';cases q';obtain⟨v,hv⟩:=heo;exact⟨v,by rw[hbe];exact hv⟩
  ·refine(ok b u q).stay (fun c v hc r=>k c v ?_ r) (fun c r=>by rw[a0h (nown c b r)];exact r) fun c xs r=>by rw[a0h (ntup c xs r)];exact r
   rcases hc with rfl |hc
   ·exact hbe
   ·rintro rfl
    rcases he with z |z
    ·exact nown c b hc z
    ·rw[hc] at z;cases z;exact hb rfl
end
structure Un (fs ex:List Addr) (H H':Hp) (h h':Heap):Prop where
 keep:∀b o,h.get? b=some o->H b=none->b∉fs->b∉ex->h'.get? b=some o
 slot:∀b o,h.get? b=some o->H b=none->b∈fs->b∉ex->∃sl,h'.get? b=some { o with slots:=sl }
 free:∀b o,h.get? b=some o->H b=none->b∉ex->H' b=none
 there:∀b o,h.get? b=some o->b∉ex->∃o',h'.get? b=some o'
 tups:∀b xs,H b=some (.tup xs)->H' b=some (.tup xs)
 frzs:∀b o u,H b=some (.frz o u)->H' b=some (.frz o u)
 tbls:∀b ps,H b=some (.tbl ps)->∃more,H' b=some (.tbl (ps++more))
section
variable {fs fs' ex ex':List Addr}{H H1 H2:Hp}{h h1 h2 h':Heap}{a x e:Addr}{o:HO}
theorem Un.any (u:Un fs ex H H1 h h1){b:Addr}{ob:Obj}(q:h.get? b=some ob)(n:H b=none)(hx:b∉ex):∃sl,h1.get? b=some { ob with slots:=sl }:=by
 by_cases hb:b∈fs
 ·exact u.slot b ob q n hb hx
 ·exact⟨ob.slots,u.keep b ob q n hb hx⟩
theorem Un.kept (k:∀b u,h.get? b=some u->h'.get? b=some u):Un fs ex H H h h':=
 ⟨fun b ob q _ _ _=>k b ob q,fun b ob q _ _ _=>⟨ob.slots,k b ob q⟩,fun _ _ _ n _=>n,fun b ob q _=>⟨ob,k b ob q⟩,fun _ _ q=>q,fun _ _ _ q=>q,fun _ ps q=>⟨#[],by rw[q];simp⟩⟩
theorem Un.refl:Un fs ex H H h h:=Un.kept fun _ _ q=>q
theorem Un.laid (k:∀b u,h.get? b=some u->h'.get? b=some u)(hp:h.objs.size≤a)(hn:H a=none):Un fs ex H (upd H a o) h h' where
 keep:=fun b u q _ _ _=>k b u q
 slot:=fun b u q _ _ _=>⟨u.slots,k b u q⟩
 free:=fun b u q n _=>by rw[a0h (Nat.ne_of_lt (Nat.lt_of_lt_of_le (Heap.lt_size q) hp))];exact n
 there:=fun b u q _=>⟨u,k b u q⟩
 tups:=fun b xs q=>by rw[a0h (a0x q hn)];exact q
 frzs:=fun b u xs q=>by rw[a0h (a0x q hn)];exact q
 tbls:=fun b ps q=>⟨#[],by rw[a0h (a0x q hn),q];simp⟩
theorem Un.write (mu:Mut (H x))(he:e=x\/H e=some (.own x))(k:∀b u,b≠e->h.get? b=some u->h'.get? b=some u)(heo:∃u,h'.get? e=some u):Un fs ex H (upd H x o) h h':=by
 have hx:∀b,H b=none->b≠x:=fun b n z=>by subst z;rw[n] at mu;exact mu
 have hb:∀b,H b=none->b≠e:=fun b n z=>by
  subst z;rcases he with r |r
  ·exact hx b n r
  ·rw[n] at r;cases r
 have hm:∀b u,H b=some u->¬Mut (some u)->b≠x:=fun b u q nm z=>by subst z;rw[q] at mu;exact nm mu
 refine⟨fun b u q n _ _=>k b u (hb b n) q,fun b u q n _ _=>⟨u.slots,k b u (hb b n) q⟩,fun b u q n _=>by rw[a0h (hx b n)];exact n,fun b u q _=>?_,
  fun b xs q=>by rw[a0h (hm b _ q fun z=>z)];exact q,fun b u xs q=>by rw[a0h (hm b _ q fun z=>z)];exact q,fun b ps q=>⟨#[],by rw[a0h (hm b _ q fun z=>z),q];simp⟩⟩
 by_cases hbe:b=e
 ·subst hbe;exact heo
 ·exact⟨u,k b u hbe q⟩
end
def trk (h:Heap)(H:Hp):List Addr:=(List.range h.objs.size).filter fun a=>(H a).isSome
def a5Q (h:Heap)(H:Hp):Heap:=PySem.W.hideAll h (trk h H)
theorem a4Z (h:Heap)(H:Hp):(a5Q h H).objs.size=h.objs.size:=PySem.W.hideAll_size _ _
theorem a6f {h:Heap}{H:Hp}{b:Addr}{o:Obj}(e:h.get? b=some o)(n:H b=none):(a5Q h H).get? b=some o:=
 PySem.W.hideAll_get _ e fun hm=>by
  have q:(H b).isSome=true:=(List.mem_filter.mp hm).2;rw[n] at q;simp at q
theorem a8T {h:Heap}{H:Hp}{b:Addr}{o:Obj}(e:(a5Q h H).get? b=some o):h.get? b=some o/\H b=none:=by
 have e':h.get? b=some o:=PySem.W.of_hideAll (trk h H) e;refine⟨e',?_⟩;cases q:H b with
 |none=>rfl
 |some x=>
  have hm:b∈trk h H:=List.mem_filter.mpr ⟨List.mem_range.mpr (Heap.lt_size e'),by simp[q]⟩;have z:(a5Q h H).get? b=none:=PySem.W.hideAll_none (trk h H) hm;rw[z] at e;cases e
structure Mod (K:Fg0) (mg:Str->Option Value) (base:Heap):Prop where
 kin:K.In base
 glob:base.Ns mainGlobals mg
 blt:∃mb,base.Ns builtinsNs mb/\∀x:Str,x≠"__name__"->mb x=bootBuiltins x
 nolimit:base.NoLimit
structure Cx where
 prog:Program
 w:World
 K:Fg0
 mg:Str->Option Value
 base:Heap
 A:Around
 N:List Str
 s₀:Shared
 H₀:Hp
 env:Env
 outer:List Env
 stack:List Env
 ex:List Addr
 fn:Str->Bool
 calm:Bool
 pn:List (Addr×Obj)
 xe:Value->Shared->Prop
def frs (l:List Env):List Addr:=l.filterMap (·.frame)
abbrev Cx.fs (X:Cx):List Addr:=frs X.outer
def Vis (sc:Scope)(x:Str):Prop:=sc.names.lookup x=some .local\/sc.names.lookup x=some .cell\/sc.names.lookup x=some .free
def Loc (sc:Scope)(x:Str):Prop:=sc.names.lookup x=some .local\/sc.names.lookup x=some .cell
def Look (env:Env)(h:Heap)(m:Str->Option Value)(x:Str)(u:Value):Prop:=
 (env.kindOf x=some .local/\m x=some u)\/((env.kindOf x=some .cell\/env.kindOf x=some .free)/\∃c,env.cells.lookup x=some c/\h.IsCell c (some u))
structure Cx.Ok (X:Cx):Prop where
 mod:Mod X.K X.mg X.base
 kind:X.env.scope.kind=.function
 glob:X.env.globals=mainGlobals
 blt:X.env.builtins=builtinsNs
 above:X.s₀.heap.objs.size≤X.env.locals
 inj:∀x y c,X.env.cells.lookup x=some c->X.env.cells.lookup y=some c->x=y
 has:∀x,(X.env.kindOf x=some .cell\/X.env.kindOf x=some .free)->∃c,X.env.cells.lookup x=some c
 cab:∀x c,X.fn x=true->X.env.cells.lookup x=some c->X.s₀.heap.objs.size≤c
 hd:X.calm=true->X.A.handled=none
 frames:X.A.frames=some X.stack
 stk:X.stack=X.outer\/(X.stack=X.env::X.outer/\X.env.frame=some X.env.locals)
 exf:∀b∈X.ex,b≠X.env.locals/\∀x c,X.env.cells.lookup x=some c->c≠b
 bs:∀b o,X.base.get? b=some o->X.s₀.heap.get? b=some o/\X.H₀ b=none
 bsz:X.base.objs.size≤X.s₀.heap.objs.size
 noex:∀b o,X.base.get? b=some o->b∉X.ex
 exfs:∀b∈X.ex,b∉X.fs
 funs:X.s₀.heap.FunFrames X.base X.outer
 frf:∀b∈X.fs,X.H₀ b=none
structure Inv (X:Cx) (pins:List (Addr×Obj)) (σ:List (Option V)) (H:Hp) (s:Shared):Prop where
 ok:X.Ok
 os:s.os=X.s₀.os
 bare:AllBare s.gens
 base:Un X.fs X.ex X.H₀ H X.s₀.heap s.heap
 loc:∃m,s.heap.Ns X.env.locals m/\∀(i:Nat) (x:Str) (v:V),X.N[i]? =some x->σ[i]? =some (some v)->Vis X.env.scope x->∃u,a1c v u/\Look X.env s.heap m x u
 cell:∀x c,X.env.cells.lookup x=some c->∃v,s.heap.IsCell c v
 free:H X.env.locals=none
 freeC:∀x c,X.env.cells.lookup x=some c->H c=none
 pin:∀p∈X.pn++pins,s.heap.get? p.1=some p.2/\H p.1=none/\p.1≠X.env.locals/\p.1∉X.fs/\∀v,p.2.data≠.cell v
 hok:HOk X.prog X.w H s.heap
 len:σ.length=X.N.length
section
variable {X:Cx}{pins:List (Addr×Obj)}{σ:List (Option V)}{H H':Hp}{s:Shared}{h':Heap}
theorem Cx.Ok.nofr (ok:X.Ok){b:Addr}{o:Obj}(e:X.base.get? b=some o):b∉X.fs:=fun hb=>by
 have:=(ok.funs.mem hb).1
 rw[e] at this;cases this
theorem Inv.bs (I:Inv X pins σ H s):∀b o,X.base.get? b=some o->s.heap.get? b=some o/\H b=none:=fun b o e=>
 ⟨I.base.keep b o (I.ok.bs b o e).1 (I.ok.bs b o e).2 (I.ok.nofr e) (I.ok.noex b o e),I.base.free b o (I.ok.bs b o e).1 (I.ok.bs b o e).2 (I.ok.noex b o e)⟩
theorem Inv.bk (I:Inv X pins σ H s):∀b o,X.base.get? b=some o->s.heap.get? b=some o:=fun b o e=>(I.bs b o e).1
theorem Inv.mod (I:Inv X pins σ H s):Mod X.K X.mg X.base:=I.ok.mod
theorem Inv.kIn (I:Inv X pins σ H s):X.K.In s.heap:=I.ok.mod.kin.keeps I.bk
theorem Inv.lt (I:Inv X pins σ H s):X.env.locals<s.heap.objs.size:=let ⟨_,hn,_⟩:=I.loc;hn.lt
theorem Inv.sz (I:Inv X pins σ H s):X.s₀.heap.objs.size≤s.heap.objs.size:=Nat.le_trans I.ok.above (Nat.le_of_lt I.lt)
theorem Inv.nofs (I:Inv X pins σ H s){a:Addr}(h:s.heap.objs.size≤a):a∉X.fs:=fun hb=>by
 obtain⟨_,o,ho,_⟩:=I.ok.funs.mem hb;exact absurd (Nat.lt_of_lt_of_le (Heap.lt_size ho) (Nat.le_trans I.sz h)) (Nat.lt_irrefl _)
theorem Inv.cne (I:Inv X pins σ H s):∀x c,X.env.cells.lookup x=some c->c≠X.env.locals:=fun x c e z=>by
 obtain⟨v,o,ho,hd⟩:=I.cell x c e;obtain⟨m,⟨o',es,ep,ho',hd',_⟩,_⟩:=I.loc;rw[z,ho'] at ho;cases ho;rw[hd'] at hd;cases hd
theorem Inv.funs (I:Inv X pins σ H s):s.heap.FunFrames X.base X.outer:=by
 have all:∀(l:List Env),(∀b∈frs l,b∈X.fs)->X.s₀.heap.FunFrames X.base l->s.heap.FunFrames X.base l:=by
  intro l
  induction l with
  |nil=>intro _ _;trivial
  |cons env r ih=>
   intro hs hl;obtain⟨hk,⟨L,o,hf,hn,ho,hd⟩,hr⟩:=hl;have hL:L∈X.fs:=hs L (by unfold frs;rw[List.filterMap_cons,hf];exact List.mem_cons_self);obtain⟨sl,e⟩:=I.base.slot L o ho (I.ok.frf L hL) hL fun z=>I.ok.exfs L z hL;exact⟨hk,⟨L,_,hf,hn,e,hd⟩,ih (fun b hb=>hs b (by unfold frs;rw[List.filterMap_cons,hf];exact List.mem_cons_of_mem _ hb)) hr⟩
 exact all X.outer (fun _ hb=>hb) I.ok.funs
theorem Inv.stack (I:Inv X pins σ H s):s.heap.FunFrames X.base X.stack:=by
 rcases I.ok.stk with e |⟨e,hf⟩
 ·rw[e];exact I.funs
 ·rw[e]
  obtain⟨m,hn,_⟩:=I.loc;refine .cons (by rw[I.ok.kind];decide) hf hn ?_ I.funs;exact Heap.get?_none_of_le (Nat.le_trans I.ok.bsz I.ok.above)
theorem Inv.stkSub (I:Inv X pins σ H s):∀b∈frs X.stack,b∈X.env.locals::X.fs:=fun b hb=>by
 rcases I.ok.stk with e |⟨e,hf⟩
 ·rw[e] at hb;exact List.mem_cons_of_mem _ hb
 ·rw[e] at hb
  unfold frs at hb;rw[List.filterMap_cons,hf] at hb;exact hb
theorem Inv.stkFree (I:Inv X pins σ H s):∀b∈frs X.stack,H b=none:=fun b hb=>by
 rcases List.mem_cons.mp (I.stkSub b hb) with e |hb
 ·rw[e];exact I.free
 ·obtain⟨_,o,ho,_⟩:=I.ok.funs.mem hb
  exact I.base.free b o ho (I.ok.frf b hb) fun z=>I.ok.exfs b z hb
theorem Inv.step {g':Array GenState}{t':Nat}{d':Drawn}{ch:List Addr}(I:Inv X pins σ H s)
  (hch:∀b∈ch,(b∈X.ex\/X.s₀.heap.objs.size≤b)/\b≠X.env.locals/\(∀x c,X.env.cells.lookup x=some c->c≠b)/\∀p∈X.pn++pins,p.1≠b)
  (keep:∀b o,b≠X.env.locals->b∉X.fs->b∉ch->s.heap.get? b=some o->H b=none->h'.get? b=some o)
  (slot:∀b o,b≠X.env.locals->b∈X.fs->b∉ch->s.heap.get? b=some o->H b=none->∃sl,h'.get? b=some { o with slots:=sl }) (free:∀b o,b∉ch->s.heap.get? b=some o->H b=none->H' b=none)
  (there:∀b o,b∉ch->s.heap.get? b=some o->∃o',h'.get? b=some o')
  (tups:∀b xs,H b=some (.tup xs)->H' b=some (.tup xs)) (frzs:∀b o u,H b=some (.frz o u)->H' b=some (.frz o u)) (tbls:∀b ps,H b=some (.tbl ps)->∃more,H' b=some (.tbl (ps++more)))
  (ns:∀m,s.heap.Ns X.env.locals m->h'.Ns X.env.locals m) (hok:HOk X.prog X.w H' h') (hg:AllBare g') :
  Inv X pins σ H' { s with heap:=h',gens:=g',drawn:=d',toks:=t' }:=by
 have neL:∀b o,X.s₀.heap.get? b=some o->b≠X.env.locals:=fun b o e=>Nat.ne_of_lt (Nat.lt_of_lt_of_le (Heap.lt_size e) I.ok.above);have neC:∀b o,X.s₀.heap.get? b=some o->b∉X.ex->b∉ch:=fun b o e hx hb=>by
  rcases (hch b hb).1 with z |z
  ·exact hx z
  ·exact absurd (Nat.lt_of_lt_of_le (Heap.lt_size e) z) (Nat.lt_irrefl _)
 have cellK:∀x c,X.env.cells.lookup x=some c->∀v,s.heap.IsCell c v->h'.IsCell c v:=fun x c e v ⟨o,ho,hd⟩=>by
  have nch:c∉ch:=fun z=>(hch c z).2.2.1 x c e rfl
  by_cases hc:c∈X.fs
  ·obtain⟨sl,q⟩:=slot c o (I.cne x c e) hc nch ho (I.freeC x c e)
   exact⟨_,q,hd⟩
  ·exact⟨o,keep c o (I.cne x c e) hc nch ho (I.freeC x c e),hd⟩
 refine⟨I.ok,I.os,hg,⟨fun b o e n hb hx=>?_,fun b o e n hb hx=>?_,fun b o e n hx=>?_,fun b o e hx=>?_,fun b xs e=>tups b xs (I.base.tups b xs e),fun b o xs e=>frzs b o xs (I.base.frzs b o xs e),fun b ps e=>?_⟩,?_,fun x c e=>?_,?_,fun x c e=>?_,fun p hp=>?_,hok,I.len⟩
 ·exact keep b o (neL b o e) hb (neC b o e hx) (I.base.keep b o e n hb hx) (I.base.free b o e n hx)
 ·obtain⟨sl,e1⟩:=I.base.slot b o e n hb hx
  obtain⟨sl',e2⟩:=slot b _ (neL b o e) hb (neC b o e hx) e1 (I.base.free b o e n hx);exact⟨sl',e2⟩
 ·obtain⟨o',e1⟩:=I.base.there b o e hx
  exact free b o' (neC b o e hx) e1 (I.base.free b o e n hx)
 ·obtain⟨o',e1⟩:=I.base.there b o e hx
  exact there b o' (neC b o e hx) e1
 ·obtain⟨m1,e1⟩:=I.base.tbls b ps e
  obtain⟨m2,e2⟩:=tbls b _ e1;exact⟨m1++m2,by rw[e2,Array.append_assoc]⟩
 ·obtain⟨m,hn,hl⟩:=I.loc
  refine⟨m,ns m hn,fun i x v e1 e2 e3=>?_⟩;obtain⟨u,r,l⟩:=hl i x v e1 e2 e3;refine⟨u,r,?_⟩;rcases l with l |⟨k,c,e,z⟩
  ·exact .inl l
  ·exact .inr ⟨k,c,e,cellK x c e _ z⟩
 ·obtain⟨v,z⟩:=I.cell x c e
  exact⟨v,cellK x c e v z⟩
 ·obtain⟨m,⟨o,_,_,ho,_⟩,_⟩:=I.loc
  exact free _ o (fun z=>(hch _ z).2.1 rfl) ho I.free
 ·obtain⟨v,o,ho,hd⟩:=I.cell x c e
  exact free c o (fun z=>(hch c z).2.2.1 x c e rfl) ho (I.freeC x c e)
 ·obtain⟨e,n,ne,nf,d⟩:=I.pin p hp
  have nch:p.1∉ch:=fun z=>(hch p.1 z).2.2.2 p hp rfl;exact⟨keep p.1 p.2 ne nf nch e n,free p.1 p.2 nch e n,ne,nf,d⟩
theorem Inv.un {t':Nat}(I:Inv X pins σ H s)(u:Un X.fs [] H H' s.heap h')(hok:HOk X.prog X.w H' h'):Inv X pins σ H' { s with heap:=h',toks:=t' }:=by
 obtain⟨m,⟨o,es,ep,ho,r⟩,_⟩:=id I.loc;obtain⟨sl,hL⟩:=u.any ho I.free (by simp);exact I.step (g':=s.gens) (d':=s.drawn) (ch:=[]) (fun _ z=>nomatch z) (fun b o _ hb _ e n=>u.keep b o e n hb (by simp)) (fun b o _ hb _ e n=>u.slot b o e n hb (by simp)) (fun b o _ e n=>u.free b o e n (by simp)) (fun b o _ e=>u.there b o e (by simp)) u.tups u.frzs u.tbls (fun m' hm=>by
  obtain⟨o',es',ep',ho',r'⟩:=hm;rw[ho] at ho';cases ho';exact⟨_,es',ep',hL,r'⟩) hok I.bare
theorem Inv.call {g':Array GenState}{t':Nat}{d':Drawn}{ch:List Addr}(I:Inv X pins σ H s)(u:Un (frs X.stack) ch H H' s.heap h')(hok:HOk X.prog X.w H' h')(hg:AllBare g')
  (hch:∀b∈ch,(b∈X.ex\/X.s₀.heap.objs.size≤b)/\b≠X.env.locals/\(∀x c,X.env.cells.lookup x=some c->c≠b)/\∀p∈X.pn++pins,p.1≠b) :
  Inv X pins σ H' { s with heap:=h',gens:=g',drawn:=d',toks:=t' }:=by
 obtain⟨m,⟨o,es,ep,ho,r⟩,_⟩:=id I.loc;obtain⟨sl,hL⟩:=u.any ho I.free fun z=>(hch _ z).2.1 rfl;exact I.step (ch:=ch) hch (fun b o hL hb hc e n=>u.keep b o e n (fun z=>(List.mem_cons.mp (I.stkSub b z)).elim hL hb) hc) (fun b o _ _ hc e n=>u.any e n hc) (fun b o hc e n=>u.free b o e n hc) (fun b o hc e=>u.there b o e hc) u.tups u.frzs u.tbls (fun m' hm=>by
  obtain⟨o',es',ep',ho',r'⟩:=hm;rw[ho] at ho';cases ho';exact⟨_,es',ep',hL,r'⟩) hok hg
theorem Inv.turned {t':Nat}{it:Addr}(I:Inv X pins σ H s)(k:∀b o,b≠it->s.heap.get? b=some o->h'.get? b=some o)(hn:H it=none)(hL:it≠X.env.locals)
  (h1:it∈X.ex\/X.s₀.heap.objs.size≤it) (h2:∀x c,X.env.cells.lookup x=some c->c≠it) (h3:∀p∈X.pn++pins,p.1≠it):Inv X pins σ H { s with heap:=h',toks:=t' }:=by
 have nit:∀b u,H b=some u->b≠it:=fun b u e z=>by rw[z,hn] at e;cases e
 refine I.step (g':=s.gens) (d':=s.drawn) (ch:=[it]) (fun b hb=>?_) (fun b o _ _ hc e _=>k b o (fun z=>hc (by simp[z])) e) (fun b o _ _ hc e _=>⟨o.slots,k b o (fun z=>hc (by simp[z])) e⟩) (fun _ _ _ _ n=>n)
  (fun b o hc e=>⟨o,k b o (fun z=>hc (by simp[z])) e⟩) (fun _ _ e=>e) (fun _ _ _ e=>e) (fun b ps e=>⟨#[],by rw[e];simp⟩) (fun m hm=>?_) (fun b u e=>?_) I.bare
 ·have e:b=it:=by simpa using hb
  subst e;exact⟨h1,hL,h2,h3⟩
 ·obtain⟨o,es,ep,ho,r⟩:=hm
  exact⟨o,es,ep,k _ o (Ne.symm hL) ho,r⟩
 ·refine(I.hok b u e).stay (fun c v hc q=>k c v ?_ q) (fun _ q=>q) fun _ _ q=>q
  rcases hc with z |z
  ·rw[z];exact nit b u e
  ·exact nit c _ z
theorem Inv.tok (I:Inv X pins σ H s)(t:Nat):Inv X pins σ H { s with toks:=t }:=I.un (h':=s.heap) (t':=t) Un.refl I.hok
theorem Inv.kept {t':Nat}(I:Inv X pins σ H s)(k:∀b u,s.heap.get? b=some u->h'.get? b=some u):Inv X pins σ H { s with heap:=h',toks:=t' }:=I.un (Un.kept k) (I.hok.kept k)
theorem Inv.laid {a:Addr}{o:HO}{t':Nat}(I:Inv X pins σ H s)(k:∀b u,s.heap.get? b=some u->h'.get? b=some u)(hp:s.heap.objs.size≤a)(new:a1q X.prog X.w (upd H a o) h' a o) :
  Inv X pins σ (upd H a o) { s with heap:=h',toks:=t' }:=I.un (Un.laid k hp (I.hok.fresh hp)) (I.hok.laid k hp new)
theorem Inv.write {x e:Addr}{o:HO}{t':Nat}(I:Inv X pins σ H s)(mu:Mut (H x))(he:e=x\/H e=some (.own x))(k:∀b u,b≠e->s.heap.get? b=some u->h'.get? b=some u)(heo:∃u,h'.get? e=some u)
  (new:a1q X.prog X.w (upd H x o) h' x o):Inv X pins σ (upd H x o) { s with heap:=h',toks:=t' }:=I.un (Un.write mu he k heo) (I.hok.write mu he k heo new)
theorem Inv.pins_of {pins':List (Addr×Obj)}(I:Inv X pins σ H s)(h:∀p∈pins',s.heap.get? p.1=some p.2/\H p.1=none/\p.1≠X.env.locals/\p.1∉X.fs/\∀v,p.2.data≠.cell v):Inv X pins' σ H s:=
 ⟨I.ok,I.os,I.bare,I.base,I.loc,I.cell,I.free,I.freeC,fun p hp=>(List.mem_append.mp hp).elim (fun z=>I.pin p (List.mem_append_left _ z)) (h p),I.hok,I.len⟩
theorem a6j {N:List Str}(hN:N.Nodup){i j:Nat}{x:Str}(a:N[i]? =some x)(b:N[j]? =some x):i=j:=by
 obtain⟨h1,e1⟩:=gS0.mp a;obtain⟨h2,e2⟩:=gS0.mp b;exact(List.getElem_inj hN).mp (e1.trans e2.symm)
theorem a5a {M:Model}{A:Around}{E:Value->Shared->Prop}{i:Nat}{x:Str}{v:V}{u:Value}{Q:Unit->Shared->Prop}(I:Inv X pins σ H s)(hN:X.N.Nodup)(hi:X.N[i]? =some x)(hx:Loc X.env.scope x)(r:a1c v u)
  (h:∀s',Inv X pins (σ.set i (some v)) H s'->(∃a,Heap.SameBut a s.heap s'.heap/\(a=X.env.locals\/X.env.cells.lookup x=some a))->Q () s') (hf:X.fn x=true\/X.env.scope.names.lookup x=some .local:=by first |exact .inl rfl |exact .inr rfl |assumption):wpAny M A (storeName X.env x u) Q E s:=by
 obtain⟨m,hn,hl⟩:=id I.loc;have hcls:(X.env.scope.kind==.class || (X.env.scope.kind==.module&&X.env.locals != X.env.globals))=false:=by rw[I.ok.kind];rfl
 have hiσ:i<σ.length:=by rw[I.len];exact(gS0.mp hi).1
 have cne:=I.cne;have tracked:∀{a:Addr} {h':Heap},(∃o,s.heap.get? a=some o/\H a=none)->Heap.SameBut a s.heap h'->HOk X.prog X.w H h':=fun {a h'} ha hs b ob e=>by
  obtain⟨_,_,hfree⟩:=ha;refine(I.hok b ob e).stay (fun c w' hc q=>(hs.2 c ?_).trans q) (fun _ q=>q) fun _ _ q=>q;rintro rfl;rcases hc with rfl |hc
  ·rw[hfree] at e;cases e
  ·rw[hfree] at hc;cases hc
 rcases hx with hk |hk
 ·refine wpAny_storeName_local hk hn (fun h' hn' hs=>?_) hcls
  obtain⟨oL,_,_,hoL,_⟩:=id hn;refine h _ ⟨I.ok,I.os,I.bare,⟨fun b o e n hb hx=>?_,fun b o e n hb hx=>?_,I.base.free,fun b o e hx=>?_,I.base.tups,I.base.frzs,I.base.tbls⟩,⟨_,hn',fun j y v' e1 e2 e3=>?_⟩,fun y c e=>?_,I.free,I.freeC,fun p hp=>?_,tracked ⟨oL,hoL,I.free⟩ hs,by simpa using I.len⟩ ⟨_,hs,.inl rfl⟩
  ·exact(hs.2 b (Nat.ne_of_lt (Nat.lt_of_lt_of_le (Heap.lt_size e) I.ok.above))).trans (I.base.keep b o e n hb hx)
  ·obtain⟨sl,e1⟩:=I.base.slot b o e n hb hx
   exact⟨sl,(hs.2 b (Nat.ne_of_lt (Nat.lt_of_lt_of_le (Heap.lt_size e) I.ok.above))).trans e1⟩
  ·obtain⟨o',e1⟩:=I.base.there b o e hx
   exact⟨o',(hs.2 b (Nat.ne_of_lt (Nat.lt_of_lt_of_le (Heap.lt_size e) I.ok.above))).trans e1⟩
  ·by_cases hj:j=i
   ·subst hj
    rw[hi] at e1;cases e1;rw[List.getElem?_set_self hiσ] at e2;cases e2;exact⟨u,r,.inl ⟨hk,by simp⟩⟩
   ·rw[List.getElem?_set_ne (Ne.symm hj)] at e2
    obtain⟨u',r',q⟩:=hl j y v' e1 e2 e3;refine⟨u',r',?_⟩;rcases q with ⟨k,e⟩ |⟨k,c,e,z⟩
    ·refine .inl ⟨k,?_⟩
     have:y≠x:=fun e=>hj (a6j hN e1 (e▸hi))
     simp[this,e]
    ·exact .inr ⟨k,c,e,z.sameBut hs (cne y c e)⟩
  ·obtain⟨w',z⟩:=I.cell y c e
   exact⟨w',z.sameBut hs (cne y c e)⟩
  ·obtain⟨e,n,ne,nf,d⟩:=I.pin p hp
   exact⟨(hs.2 p.1 ne).trans e,n,ne,nf,d⟩
 ·have hfn:X.fn x=true:=by
   rcases hf with z |z
   ·exact z
   ·rw[z] at hk;cases hk
  obtain⟨c,hc⟩:=I.ok.has x (.inl hk);obtain⟨w',z⟩:=I.cell x c hc;refine wpAny_storeName_cell I.ok.kind hk hc z (fun h' hc' hs=>?_);obtain⟨oc,hoc,hocd⟩:=id z;refine h { s with heap:=h' } ⟨I.ok,I.os,I.bare,⟨fun b o e n hb hx=>?_,fun b o e n hb hx=>?_,I.base.free,fun b o e hx=>?_,I.base.tups,I.base.frzs,I.base.tbls⟩,⟨m,hn.sameBut hs (Ne.symm (cne x c hc)),fun j y v' e1 e2 e3=>?_⟩,fun y c' e=>?_,I.free,I.freeC,fun p hp=>?_,tracked ⟨oc,hoc,I.freeC x c hc⟩ hs,by simpa using I.len⟩ ⟨c,hs,.inr hc⟩
  ·exact(hs.2 b (Nat.ne_of_lt (Nat.lt_of_lt_of_le (Heap.lt_size e) (I.ok.cab x c hfn hc)))).trans (I.base.keep b o e n hb hx)
  ·obtain⟨sl,e1⟩:=I.base.slot b o e n hb hx
   exact⟨sl,(hs.2 b (Nat.ne_of_lt (Nat.lt_of_lt_of_le (Heap.lt_size e) (I.ok.cab x c hfn hc)))).trans e1⟩
  ·obtain⟨o',e1⟩:=I.base.there b o e hx
   exact⟨o',(hs.2 b (Nat.ne_of_lt (Nat.lt_of_lt_of_le (Heap.lt_size e) (I.ok.cab x c hfn hc)))).trans e1⟩
  ·by_cases hj:j=i
   ·subst hj
    rw[hi] at e1;cases e1;rw[List.getElem?_set_self hiσ] at e2;cases e2;exact⟨u,r,.inr ⟨.inl hk,c,hc,hc'⟩⟩
   ·rw[List.getElem?_set_ne (Ne.symm hj)] at e2
    obtain⟨u',r',q⟩:=hl j y v' e1 e2 e3;refine⟨u',r',?_⟩;rcases q with q |⟨k,c',e,z'⟩
    ·exact .inl q
    ·refine .inr ⟨k,c',e,z'.sameBut hs ?_⟩
     rintro rfl;exact hj (a6j hN e1 (I.ok.inj _ _ _ e hc▸hi))
  ·by_cases hcc:c'=c
   ·subst hcc;exact⟨_,hc'⟩
   ·obtain⟨w2,z2⟩:=I.cell y c' e
    exact⟨w2,z2.sameBut hs hcc⟩
  ·obtain⟨e,n,ne,nf,d⟩:=I.pin p hp
   refine⟨(hs.2 p.1 ?_).trans e,n,ne,nf,d⟩;intro q;rw[q,hoc] at e;have q':oc=p.2:=Option.some.inj e;exact d w' (by rw[← q'];exact hocd)
theorem a6y {M:Model}{A:Around}{E:Value->Shared->Prop}{i:Nat}{x:Str}{v:V}{u:Value}{Q:Unit->Shared->Prop}(I:Inv X pins σ H s)(hN:X.N.Nodup)(hi:X.N[i]? =some x)(hx:Loc X.env.scope x)(r:a1c v u)
  (h:∀s',Inv X pins (σ.set i (some v)) H s'->Q () s') (hf:X.fn x=true\/X.env.scope.names.lookup x=some .local:=by first |exact .inl rfl |exact .inr rfl |assumption):wpAny M A (storeName X.env x u) Q E s:=
 a5a I hN hi hx r (fun s' I' _=>h s' I') hf
theorem Inv.call' {s':Shared}{ch:List Addr}(I:Inv X pins σ H s)(ho:s'.os=s.os)(u:Un (frs X.stack) ch H H' s.heap s'.heap)(hok:HOk X.prog X.w H' s'.heap)(hg:AllBare s'.gens)
  (hch:∀b∈ch,(b∈X.ex\/X.s₀.heap.objs.size≤b)/\b≠X.env.locals/\(∀x c,X.env.cells.lookup x=some c->c≠b)/\∀p∈X.pn++pins,p.1≠b):Inv X pins σ H' s':=by
 obtain⟨h',g',d',t',o'⟩:=s';have e:o'=s.os:=ho;subst e;exact I.call (g':=g') (t':=t') (d':=d') u hok hg hch
end
abbrev XK:=Value->Option Addr->Hp->Prop
abbrev St:=List (Option V)
abbrev VK:=V->Hp->Prop
abbrev TE:=St->Hp->VK->Prop
abbrev TT:=St->Hp->(Bool->Hp->Prop)->Prop
abbrev TA:=St->Hp->(List V->Hp->Prop)->Prop
structure a5w where
 nx:St->Hp->Prop
 rt:VK
 bk:St->Hp->Prop:=fun _ _=>False
 ct:St->Hp->Prop:=fun _ _=>False
abbrev TS:=a5w->St->Hp->Prop
def EP (X:Cx)(pins:List (Addr×Obj))(σ:St)(Q:VK)(u:Value)(s':Shared):Prop:=∃v H',Inv X pins σ H' s'/\a1c v u/\Q v H'
def TP (X:Cx)(pins:List (Addr×Obj))(σ:St)(Q:Bool->Hp->Prop)(b:Bool)(s':Shared):Prop:=∃H',Inv X pins σ H' s'/\Q b H'
def AP (X:Cx)(pins:List (Addr×Obj))(σ:St)(Q:List V->Hp->Prop)(us:List Value)(s':Shared):Prop:=∃vs H',Inv X pins σ H' s'/\a1m vs us/\Q vs H'
def SP (X:Cx)(pins:List (Addr×Obj))(D:a5w)(f:Flow)(s':Shared):Prop:=
 match f with
 | .next=>∃σ' H',Inv X pins σ' H' s'/\D.nx σ' H'
 | .brk=>∃σ' H',Inv X pins σ' H' s'/\D.bk σ' H'
 | .cont=>∃σ' H',Inv X pins σ' H' s'/\D.ct σ' H'
 | .ret u=>∃v σ' H',Inv X pins σ' H' s'/\a1c v u/\D.rt v H'
def PE (X:Cx)(e:Expr)(t:TE):Prop:=
 ∀(pins:List (Addr×Obj)) (s:Shared) (σ:St) (H:Hp) (Q:VK),Inv X pins σ H s->t σ H Q->wpAny (model X.prog X.w) X.A (eval e X.env) (EP X pins σ Q) X.xe s
def PT (X:Cx)(e:Expr)(t:TT):Prop:=
 ∀(pins:List (Addr×Obj)) (s:Shared) (σ:St) (H:Hp) (Q:Bool->Hp->Prop),Inv X pins σ H s->t σ H Q->wpAny (model X.prog X.w) X.A (isTrue e X.env (eval e X.env)) (TP X pins σ Q) X.xe s
def PW (X:Cx)(e:Expr)(t:TT):Prop:=
 ∀(whole:Sem Value) (pins:List (Addr×Obj)) (s:Shared) (σ:St) (H:Hp) (Q:Bool->Hp->Prop),Inv X pins σ H s->t σ H Q->wpAny (model X.prog X.w) X.A (isTrue e X.env whole) (TP X pins σ Q) X.xe s
theorem PW.pt {X:Cx}{e:Expr}{t:TT}(h:PW X e t):PT X e t:=h _
def PA (X:Cx)(es:List Expr)(t:TA):Prop:=
 ∀(pos:Pos) (pins:List (Addr×Obj)) (s:Shared) (σ:St) (H:Hp) (Q:List V->Hp->Prop),Inv X pins σ H s->t σ H Q->wpAny (model X.prog X.w) X.A (spliced (backTo pos (starEach es X.env))) (AP X pins σ Q) X.xe s
def PS (X:Cx)(st:Stmt)(t:TS):Prop:=
 ∀(pins:List (Addr×Obj)) (s:Shared) (σ:St) (H:Hp) (D:a5w),Inv X pins σ H s->t D σ H->wpAny (model X.prog X.w) X.A (exec st X.env) (SP X pins D) X.xe s
def PSs (X:Cx)(st:List Stmt)(t:TS):Prop:=
 ∀(pins:List (Addr×Obj)) (s:Shared) (σ:St) (H:Hp) (D:a5w),Inv X pins σ H s->t D σ H->wpAny (model X.prog X.w) X.A (execs st X.env) (SP X pins D) X.xe s
theorem thn {α:Type}{t:Sem α}{Q Q':α->Shared->Prop}{M:Model}{A:Around}{E:Value->Shared->Prop}{s:Shared}(h:wpAny M A t Q E s)(hQ:∀a s,Q a s->Q' a s):wpAny M A t Q' E s:=wpAny_mono h hQ fun _ _ x=>x
section
variable {X:Cx}
theorem bin {a b:Expr}{ta tb:TE}(ha:PE X a ta)(hb:PE X b tb){pins:List (Addr×Obj)}{s:Shared}{σ:St}{H:Hp}{R:V->V->Hp->Prop}(I:Inv X pins σ H s)(h:ta σ H fun x H1=>tb σ H1 fun y H2=>R x y H2)
  {α:Type} {Q:α->Shared->Prop} {f:Value->Value->Sem α}
  (hf:∀v u s2 x y H2,Inv X pins σ H2 s2->a1c x v->a1c y u->R x y H2->wpAny (model X.prog X.w) X.A (f v u) Q X.xe s2) :
  wpAny (model X.prog X.w) X.A (eval a X.env) (fun v s₁=>wpAny (model X.prog X.w) X.A (eval b X.env) (fun u s₂=>wpAny (model X.prog X.w) X.A (f v u) Q X.xe s₂) X.xe s₁) X.xe s:=by
 refine thn (ha pins s σ H _ I h) fun v s1 ⟨x,H1,I1,r1,q1⟩=>?_;refine thn (hb pins s1 σ H1 _ I1 q1) fun u s2 ⟨y,H2,I2,r2,q2⟩=>?_;exact hf v u s2 x y H2 I2 r1 r2 q2
def a2R (i:Nat):TE:=fun σ H Q=>∃v,σ[i]? =some (some v)/\Q v H
def tC (v:V):TE:=fun _ H Q=>Q v H
theorem b2C {i:Nat}{x:Str}{pos:Pos}(hN:X.N[i]? =some x)(hv:Vis X.env.scope x)(hd:(x==("__debug__":Str))=false:=by decide)(hcd:(x==("__classdict__":Str))=false:=by decide):PE X (.Name x pos) (a2R i):=by
 intro pins s σ H Q I h;obtain⟨v,e,h⟩:=h;obtain⟨m,hn,hl⟩:=I.loc;obtain⟨u,r,l⟩:=hl i x v hN e hv;have fin:EP X pins σ Q u s:=⟨v,H,I,r,h⟩;rcases l with ⟨hk,hm⟩ |⟨hk,c,hc,hcell⟩
 ·exact wpAny_Name (wpAny_loadName_local I.ok.kind hk hn hm fin) hd
 ·rcases hk with hk |hk
  ·exact wpAny_Name (wpAny_loadName_cell I.ok.kind hk hc hcell fin) hd
  ·exact wpAny_Name (wpAny_loadName_free I.ok.kind hk hc hcell fin hcd) hd
theorem a0i {i j pos}:PE X (.Constant (.int i) j pos) (tC (.int i)):=fun _ _ _ H _ I h=>wpAny_Constant_int ⟨.int i,H,I.tok _,⟨_,rfl⟩,h⟩
theorem b5f {b j pos}:PE X (.Constant (.bool b) j pos) (tC (.bl b)):=fun _ _ _ H _ I h=>Constant_bool ⟨.bl b,H,I,rfl,h⟩
theorem a1u {j pos}:PE X (.Constant .none j pos) (tC .non):=fun _ _ _ H _ I h=>Constant_none ⟨.non,H,I,rfl,h⟩
theorem a0M {x j pos}:PE X (.Constant (.str x) j pos) (tC (.str x)):=fun _ _ _ H _ I h=>Calls.Constant_str ⟨.str x,H,I.tok _,⟨_,rfl⟩,h⟩
def Gl (X:Cx)(x:Str):Prop:=X.env.kindOf x=some .globalImplicit
theorem a4c {E:Value->Shared->Prop}{pins:List (Addr×Obj)}{s:Shared}{σ:St}{H:Hp}{x:Str}{u:Value}{pos:Pos}{Q:Value->Shared->Prop}(I:Inv X pins σ H s)(hg:Gl X x)(hm:X.mg x=some u)(h:Q u s)
  (hd:(x==("__debug__":Str))=false:=by decide):wpAny (model X.prog X.w) X.A (eval (.Name x pos) X.env) Q E s:=
 Calls.Name_function_global I.ok.kind hg (Calls.loadGlobal_global (by rw[I.ok.glob];exact I.mod.glob.keeps I.bk) hm h) hd
theorem a2c {E:Value->Shared->Prop}{pins:List (Addr×Obj)}{s:Shared}{σ:St}{H:Hp}{x:Str}{u:Value}{pos:Pos}{Q:Value->Shared->Prop}(I:Inv X pins σ H s)(hg:Gl X x)(hm:X.mg x=none)(hv:bootBuiltins x=some u)(h:Q u s)
  (hn:x≠"__name__":=by decide) (hd:(x==("__debug__":Str))=false:=by decide):wpAny (model X.prog X.w) X.A (eval (.Name x pos) X.env) Q E s:=by
 obtain⟨mb,h1,h2⟩:=I.mod.blt;exact Calls.Name_function_global I.ok.kind hg (Calls.loadGlobal_builtin (by rw[I.ok.glob];exact I.mod.glob.keeps I.bk) hm (by rw[I.ok.blt];exact h1.keeps I.bk) ((h2 x hn).trans hv) h) hd
theorem a2G {x:Str}{v:V}{u:Value}{pos:Pos}(hg:Gl X x)(hm:X.mg x=some u)(r:a1c v u)(hd:(x==("__debug__":Str))=false:=by decide):PE X (.Name x pos) (tC v):=
 fun _ _ _ H _ I h=>a4c I hg hm ⟨v,H,I,r,h⟩ hd
theorem a1A {x:Str}{v:V}{u:Value}{pos:Pos}(hg:Gl X x)(hm:X.mg x=none)(hv:bootBuiltins x=some u)(r:a1c v u)(hn:x≠"__name__":=by decide)(hd:(x==("__debug__":Str))=false:=by decide):PE X (.Name x pos) (tC v):=
 fun _ _ _ H _ I h=>a2c I hg hm hv ⟨v,H,I,r,h⟩ hn hd
variable {a b:Expr}{ta tb:TE}{pos:Pos}
def PC (X:Cx)(op:CmpOp)(a b:Expr)(t:TE):Prop:=
 ∀(pins:List (Addr×Obj)) (s:Shared) (σ:St) (H:Hp) (Q:VK),Inv X pins σ H s->t σ H Q →
  wpAny (model X.prog X.w) X.A (eval a X.env) (fun v s₁=>wpAny (model X.prog X.w) X.A (eval b X.env) (fun u s₂=>wpAny (model X.prog X.w) X.A (compareOp op v u) (EP X pins σ Q) X.xe s₂) X.xe s₁) X.xe s
def tB (t:TE):TT:=fun σ H Q=>t σ H fun x H1=>∃c,x=.bl c/\Q c H1
theorem b2z {op:CmpOp}{t:TE}(h:PC X op a b t)(h1:behindInMarks op b=false:=by first |exact nobehind _ (by decide) (by decide) |rfl):PE X (.Compare a [op] [b] pos) t:=fun pins s σ H Q I hw=>wpAny_Compare1 (h pins s σ H Q I hw) h1
theorem b5E {op:CmpOp}{t:TE}(h:PC X op a b t)(h1:behindInMarks op b=false:=by first |exact nobehind _ (by decide) (by decide) |rfl):PT X (.Compare a [op] [b] pos) (tB t):=by
 intro pins s σ H Q I hw;refine wpAny_isTrue_Compare1 (thn (h pins s σ H _ I hw) fun v s1 h1=>thn h1 fun u s2 h2=>thn h2 fun c s3 ⟨x,H1,I1,r1,q1⟩=>?_) h1;obtain⟨d,rfl,q⟩:=q1;cases r1;exact wpAny_truthy_bool ⟨H1,I1,q⟩
theorem a1r {e:Expr}{t:TE}(h:PE X e t)(he:∀whole,isTrue e X.env whole=(do let v ← whole;standAt e.pos;holding [v] (truthy v)):=by intro _;rfl):PT X e (tB t):=by
 intro pins s σ H Q I hw;refine isTrue_plain (thn (h pins s σ H _ I hw) fun v s1 ⟨x,H1,I1,r1,q1⟩=>?_) (he _);obtain⟨d,rfl,q⟩:=q1;cases r1;exact wpAny_truthy_bool ⟨H1,I1,q⟩
variable {tA tB':TT}{rest:List Expr}
def tAnd (t u:TT):TT:=fun σ H Q=>t σ H fun c H1=>if c=true then u σ H1 Q else Q false H1
def tOr (t u:TT):TT:=fun σ H Q=>t σ H fun c H1=>if c=true then Q true H1 else u σ H1 Q
def tNot (t:TT):TT:=fun σ H Q=>t σ H fun c H1=>Q (!c) H1
theorem a7P (ha:PT X a tA):PW X (.BoolOp .And [a] pos) tA:=by
 intro wh pins s σ H Q I h;refine isTrue_and (thn (ha pins s σ H Q I h) fun c s1 e=>?_);cases c with
 |true=>exact isTrue_and_nil e
 |false=>exact e
theorem a3L (ha:PT X a tA):PW X (.BoolOp .Or [a] pos) tA:=by
 intro wh pins s σ H Q I h;refine isTrue_or (thn (ha pins s σ H Q I h) fun c s1 e=>?_);cases c with
 |false=>exact isTrue_or_nil e
 |true=>exact e
theorem b0g (ha:PT X a tA)(hb:PW X (.BoolOp .And (b::rest) pos) tB'):PW X (.BoolOp .And (a::b::rest) pos) (tAnd tA tB'):=by
 intro wh pins s σ H Q I h;refine isTrue_and (thn (ha pins s σ H _ I h) fun c s1 ⟨H1,I1,q1⟩=>?_);cases c with
 |true=>exact hb wh pins s1 σ H1 Q I1 q1
 |false=>exact⟨H1,I1,q1⟩
theorem a5R (ha:PT X a tA)(hb:PW X (.BoolOp .Or (b::rest) pos) tB'):PW X (.BoolOp .Or (a::b::rest) pos) (tOr tA tB'):=by
 intro wh pins s σ H Q I h;refine isTrue_or (thn (ha pins s σ H _ I h) fun c s1 ⟨H1,I1,q1⟩=>?_);cases c with
 |true=>exact⟨H1,I1,q1⟩
 |false=>exact hb wh pins s1 σ H1 Q I1 q1
theorem a1G (ha:PT X a tA):PT X (.UnaryOp .Not a pos) (tNot tA):=by
 intro pins s σ H Q I h;exact isTrue_not (ha pins s σ H (fun c H1=>Q (!c) H1) I h)
def b3P (ta tb:TE):TE:=fun σ H Q=>ta σ H fun x H1=>∃c,x=.bl c/\if c=true then tb σ H1 Q else Q (.bl false) H1
def tOrV (ta tb:TE):TE:=fun σ H Q=>ta σ H fun x H1=>∃c,x=.bl c/\if c=true then Q (.bl true) H1 else tb σ H1 Q
def b5i (ta:TE):TE:=fun σ H Q=>ta σ H fun x H1=>∃c,x=.bl c/\Q (.bl (!c)) H1
theorem a3x {op}{t:TE}(h:PE X a t):PE X (.BoolOp op [a] pos) t:=fun pins s σ H Q I hw=>BoolOp_one (h pins s σ H Q I hw)
theorem a3U (ha:PE X a ta)(hb:PE X (.BoolOp .And (b::rest) pos) tb):PE X (.BoolOp .And (a::b::rest) pos) (b3P ta tb):=by
 intro pins s σ H Q I h;refine BoolOp_and (thn (ha pins s σ H _ I h) fun v s1 ⟨x,H1,I1,r1,q1⟩=>?_);obtain⟨c,rfl,q1⟩:=q1;cases r1;refine wpAny_truthy_bool ?_;cases c with
 |true=>exact hb pins s1 σ H1 Q I1 q1
 |false=>exact⟨.bl false,H1,I1,rfl,q1⟩
theorem b4q (ha:PE X a ta)(hb:PE X (.BoolOp .Or (b::rest) pos) tb):PE X (.BoolOp .Or (a::b::rest) pos) (tOrV ta tb):=by
 intro pins s σ H Q I h;refine BoolOp_or (thn (ha pins s σ H _ I h) fun v s1 ⟨x,H1,I1,r1,q1⟩=>?_);obtain⟨c,rfl,q1⟩:=q1;cases r1;refine wpAny_truthy_bool ?_;cases c with
 |false=>exact hb pins s1 σ H1 Q I1 q1
 |true=>exact⟨.bl true,H1,I1,rfl,q1⟩
theorem b2U (ha:PE X a ta):PE X (.UnaryOp .Not a pos) (b5i ta):=by
 intro pins s σ H Q I h;refine UnaryOp_ (thn (ha pins s σ H _ I h) fun v s1 ⟨x,H1,I1,r1,q1⟩=>?_);obtain⟨c,rfl,q1⟩:=q1;cases r1;exact not_of (wpAny_truthy_bool ⟨.bl (!c),H1,I1,rfl,q1⟩)
def tIf (t:TT)(ta tb:TE):TE:=fun σ H Q=>t σ H fun c H1=>if c=true then ta σ H1 Q else tb σ H1 Q
theorem a2Y {c:Expr}(hc:PT X c tA)(ha:PE X a ta)(hb:PE X b tb):PE X (.IfExp c a b pos) (tIf tA ta tb):=by
 intro pins s σ H Q I h;refine wpAny_IfExp (thn (hc pins s σ H _ I h) fun d s1 ⟨H1,I1,q1⟩=>?_);cases d with
 |true=>exact ha pins s1 σ H1 Q I1 q1
 |false=>exact hb pins s1 σ H1 Q I1 q1
end
def SqL (K:Fg0)(H:Hp)(a:Addr)(xs:List V):Prop:=
 Rd H a (.lst xs) ∨
  ∃(o:Obj) (its:Array Value) (n:Nat),K.lookup a=some o/\o.cls=.type "list"/\o.dict=none/\o.data=.seq its n/\its.size≤sizeLine/\a1m xs its.toList
def SqT (K:Fg0)(H:Hp)(a:Addr)(xs:List V):Prop:=
 Rd H a (.tup xs) ∨
  ∃(o:Obj) (its:Array Value) (n:Nat),K.lookup a=some o/\o.cls=.type "tuple"/\o.data=.seq its n/\its.size≤sizeLine/\a1m xs its.toList
def absV:Value->Option V
 | .none=>some .non
 | .bool b=>some (.bl b)
 | .int i _=>some (.int i)
 | .str x _=>some (.str x)
 | .bytes b _=>some (.byt b)
 | .float b _=>some (.flt b)
 | .ref a=>some (.ref a)
 | .type n=>some (.ty n)
 |_=>none
theorem a1c.abs {x:V}{u:Value}(r:a1c x u):absV u=some x:=by
 cases x with
 |non=>cases r;rfl
 |bl _=>cases r;rfl
 |int _=>obtain⟨t,rfl⟩:=r;rfl
 |str _=>obtain⟨t,rfl⟩:=r;rfl
 |byt _=>obtain⟨t,rfl⟩:=r;rfl
 |flt _=>obtain⟨t,rfl⟩:=r;rfl
 |ref _=>cases r;rfl
 |ty _=>cases r;rfl
theorem a1c.inj {x y:V}{u:Value}(r:a1c x u)(q:a1c y u):x=y:=Option.some.inj (r.abs.symm.trans q.abs)
theorem a1m.inj:∀{xs ys:List V} {us:List Value},a1m xs us->a1m ys us->xs=ys
 |_,_,_,.nil,.nil=>rfl
 |_,_,_,.cons r t,.cons r' t'=>by rw[r.inj r',a1m.inj t t']
section
variable {X:Cx}{pins:List (Addr×Obj)}{σ:St}{H:Hp}{s:Shared}{a:Addr}{xs ys:List V}
theorem SqL.of {K:Fg0}(h:H a=some (.lst xs)):SqL K H a xs:=.inl (.inl h)
theorem SqT.of {K:Fg0}(h:H a=some (.tup xs)):SqT K H a xs:=.inl (.inl h)
theorem Inv.list (I:Inv X pins σ H s)(h:SqL X.K H a xs):∃its:List Value,a1m xs its/\PlainL s.heap a its.toArray/\xs.length≤sizeLine:=by
 rcases h with h |⟨o,its,n,hk,hc,hd,hs,hz,r⟩
 ·obtain⟨z,its,n,r,e⟩:=h.ok I.hok
  exact⟨its,r,⟨_,n,e,rfl,rfl,rfl⟩,z⟩
 ·refine⟨its.toList,r,⟨o,n,I.kIn a o hk,hc,hd,by simpa using hs⟩,?_⟩
  have e:=r.length;simp only[Array.length_toList] at e
  omega
theorem Inv.tuple (I:Inv X pins σ H s)(h:SqT X.K H a xs):∃its:List Value,a1m xs its/\IsTup s.heap a its.toArray/\xs.length≤sizeLine:=by
 rcases h with h |⟨o,its,n,hk,hc,hs,hz,r⟩
 ·obtain⟨z,its,r,p⟩:=h.ok I.hok
  exact⟨its,r,p,z⟩
 ·refine⟨its.toList,r,⟨o,I.kIn a o hk,hc,n,by simpa using hs⟩,?_⟩
  have e:=r.length;simp only[Array.length_toList] at e
  omega
theorem Inv.list_inj (I:Inv X pins σ H s)(h:SqL X.K H a xs)(h':SqL X.K H a ys):xs=ys:=by
 obtain⟨its,r,⟨o,n,e,_,_,d⟩,_⟩:=I.list h;obtain⟨its',r',⟨o',n',e',_,_,d'⟩,_⟩:=I.list h';rw[e] at e';cases e';rw[d] at d'
 injection d' with d1 _
 have:its=its':=by simpa using congrArg Array.toList d1
 subst this;exact r.inj r'
theorem Inv.tuple_inj (I:Inv X pins σ H s)(h:SqT X.K H a xs)(h':SqT X.K H a ys):xs=ys:=by
 obtain⟨its,r,⟨o,e,_,n,d⟩,_⟩:=I.tuple h;obtain⟨its',r',⟨o',e',_,n',d'⟩,_⟩:=I.tuple h';rw[e] at e';cases e';rw[d] at d'
 injection d' with d1 _
 have:its=its':=by simpa using congrArg Array.toList d1
 subst this;exact r.inj r'
end
abbrev Cx.wish (X:Cx)(E:Value->Shared->Prop):Cx:={ X with xe:=E }
abbrev Cx.nox (X:Cx):Cx:=X.wish fun _ _=>False
theorem Cx.Ok.wish {X:Cx}(ok:X.Ok)(E:Value->Shared->Prop):(X.wish E).Ok:=
 ⟨ok.mod,ok.kind,ok.glob,ok.blt,ok.above,ok.inj,ok.has,ok.cab,ok.hd,ok.frames,ok.stk,ok.exf,ok.bs,ok.bsz,ok.noex,ok.exfs,ok.funs,ok.frf⟩
theorem Cx.Ok.unwish {X:Cx}{E:Value->Shared->Prop}(ok:(X.wish E).Ok):X.Ok:=
 ⟨ok.mod,ok.kind,ok.glob,ok.blt,ok.above,ok.inj,ok.has,ok.cab,ok.hd,ok.frames,ok.stk,ok.exf,ok.bs,ok.bsz,ok.noex,ok.exfs,ok.funs,ok.frf⟩
section
variable {X:Cx}{pins:List (Addr×Obj)}{σ:St}{H:Hp}{s:Shared}{E:Value->Shared->Prop}
theorem Inv.wish (I:Inv X pins σ H s)(E:Value->Shared->Prop):Inv (X.wish E) pins σ H s:=⟨I.ok.wish E,I.os,I.bare,I.base,I.loc,I.cell,I.free,I.freeC,I.pin,I.hok,I.len⟩
theorem Inv.unwish (I:Inv (X.wish E) pins σ H s):Inv X pins σ H s:=⟨I.ok.unwish,I.os,I.bare,I.base,I.loc,I.cell,I.free,I.freeC,I.pin,I.hok,I.len⟩
theorem SP.unwish {D:a5w}{f:Flow}{s':Shared}(h:SP (X.wish E) pins D f s'):SP X pins D f s':=by
 cases f with
 |next=>obtain⟨σ',H',I,q⟩:=h;exact⟨σ',H',I.unwish,q⟩
 |brk=>obtain⟨σ',H',I,q⟩:=h;exact⟨σ',H',I.unwish,q⟩
 |cont=>obtain⟨σ',H',I,q⟩:=h;exact⟨σ',H',I.unwish,q⟩
 |ret u=>obtain⟨v,σ',H',I,r,q⟩:=h;exact⟨v,σ',H',I.unwish,r,q⟩
theorem PE.nox {e:Expr}{t:TE}(h:PE X.nox e t):PE X e t:=fun pins s σ H Q I hw=>
 wpAny_mono (h pins s σ H Q (I.wish _) hw) (fun _ _ ⟨v,H',I',r,q⟩=>⟨v,H',I'.unwish,r,q⟩) fun _ _ z=>False.elim z
theorem PSs.nox {st:List Stmt}{t:TS}(h:PSs X.nox st t):PSs X st t:=fun pins s σ H D I hw=>
 wpAny_mono (h pins s σ H D (I.wish _) hw) (fun _ _ q=>q.unwish) fun _ _ z=>False.elim z
end
section
variable {X:Cx}{st:Stmt}{rest:List Stmt}{t u:TS}{e:Expr}{te:TE}{pos:Pos}
def b4i:TS:=fun D σ H=>D.nx σ H
def tSeq (t u:TS):TS:=fun D σ H=>t { D with nx:=u D } σ H
theorem a0u:PSs X [] b4i:=fun _ _ σ H _ I h=>wpAny_execs_nil ⟨σ,H,I,h⟩
theorem a0d (h1:PS X st t)(h2:PSs X rest u):PSs X (st::rest) (tSeq t u):=by
 intro pins s σ H D I h;refine wpAny_execs_cons (thn (h1 pins s σ H { D with nx:=u D } I h) fun f s1 q=>?_);cases f with
 |next=>
  obtain⟨σ',H',I',q⟩:=q;exact h2 pins s1 σ' H' D I' q
 |ret v=>exact q
 |brk=>exact q
 |cont=>exact q
theorem a0f (h1:PS X st t):PSs X [st] t:=by
 intro pins s σ H D I h;refine wpAny_execs_cons (thn (h1 pins s σ H D I h) fun f s1 q=>?_);cases f with
 |next=>exact wpAny_execs_nil q
 |ret v=>exact q
 |brk=>exact q
 |cont=>exact q
theorem Inv.quiet {pins:List (Addr×Obj)}{σ:St}{H:Hp}{s:Shared}(I:Inv X pins σ H s):interactive X.env=false:=by simp[interactive,I.ok.kind]
def b3T (te:TE):TS:=fun D σ H=>te σ H fun _ H1=>D.nx σ H1
theorem a0Y (he:PE X e te)(hs:swapsWith e none pos.line X.env=pure false:=by rfl):PS X (.Expr e pos) (b3T te):=by
 intro pins s σ H D I h;exact wpAny_Expr_any (thn (he pins s σ H _ I h) fun v s1 ⟨x,H1,I1,r1,q1⟩=>⟨σ,H1,I1,q1⟩) I.quiet hs
def b4G (te:TE):TS:=fun D σ H=>te σ H D.rt
theorem a0p (he:PE X e te):PS X (.Return (some e) pos) (b4G te):=by
 intro pins s σ H D I h;exact wpAny_Return_some (thn (he pins s σ H _ I h) fun v s1 ⟨x,H1,I1,r1,q1⟩=>⟨x,σ,H1,I1,r1,q1⟩)
def tIfS (c:TT)(t u:TS):TS:=fun D σ H=>c σ H fun b H1=>if b=true then t D σ H1 else u D σ H1
theorem a0R {c:Expr}{a b:List Stmt}{tc:TT}(hc:PT X c tc)(ha:PSs X a t)(hb:PSs X b u):PS X (.If c a b pos) (tIfS tc t u):=by
 intro pins s σ H D I h;refine wpAny_If (thn (hc pins s σ H _ I h) fun d s1 ⟨H1,I1,q1⟩=>?_);cases d with
 |true=>exact ha pins s1 σ H1 D I1 q1
 |false=>exact hb pins s1 σ H1 D I1 q1
def b2O:TS:=fun _ _ _=>False
theorem a0q {sts:List Stmt}:PSs X sts b2O:=fun _ _ _ _ _ _ h=>h.elim
end
abbrev TG:=V->St->Hp->(St->Hp->Prop)->Prop
abbrev TGs:=List V->St->Hp->(St->Hp->Prop)->Prop
def PG (X:Cx)(target:Expr)(t:TG):Prop:=
 ∀(pins:List (Addr×Obj)) (s:Shared) (σ:St) (H:Hp) (v:V) (u:Value) (Q:St->Hp->Prop),Inv X pins σ H s->a1c v u->t v σ H Q →
  wpAny (model X.prog X.w) X.A (assign target X.env u) (fun _ s'=>∃σ' H',Inv X pins σ' H' s'/\Q σ' H') X.xe s
def PGs (X:Cx)(ts:List Expr)(t:TGs):Prop:=
 ∀(pins:List (Addr×Obj)) (s:Shared) (σ:St) (H:Hp) (vs:List V) (us:List Value) (Q:St->Hp->Prop),Inv X pins σ H s->a1m vs us->t vs σ H Q →
  wpAny (model X.prog X.w) X.A (assignInOrder ((assignEach ts X.env).map (·.2)) us) (fun _ s'=>∃σ' H',Inv X pins σ' H' s'/\Q σ' H') X.xe s
section
variable {X:Cx}{pos:Pos}
def b0a (i:Nat):TG:=fun v σ H Q=>Q (σ.set i (some v)) H
theorem a0n {i:Nat}{x:Str}(hN:X.N.Nodup)(hi:X.N[i]? =some x)(hx:Loc X.env.scope x)(hf:X.fn x=true\/X.env.scope.names.lookup x=some .local:=by first |exact .inl rfl |exact .inr rfl |assumption):PG X (.Name x pos) (b0a i):=by
 intro pins s σ H v u Q I r h;exact wpAny_assign_Name (a6y I hN hi hx r (fun s' I'=>⟨_,H,I',h⟩) hf)
def gNil:TGs:=fun vs σ H Q=>vs=[]/\Q σ H
def b4d (t:TG)(u:TGs):TGs:=fun vs σ H Q=>∃v r,vs=v::r/\t v σ H fun σ' H'=>u r σ' H' Q
theorem a1g:PGs X [] gNil:=by
 intro pins s σ H vs us Q I r h;obtain⟨e,h⟩:=h;subst e;cases r;exact assignInOrder_nil ⟨σ,H,I,h⟩
theorem a0v {e:Expr}{es:List Expr}{t:TG}{u:TGs}(h1:PG X e t)(h2:PGs X es u)
  (hs:(assignEach (e::es) X.env).map (·.2)=assign e X.env::(assignEach es X.env).map (·.2):=by rfl):PGs X (e::es) (b4d t u):=by
 intro pins s σ H vs us Q I r h;obtain⟨v,vr,e1,h⟩:=h;subst e1;cases r with
 |cons r rr=>
  rw[hs];refine assignInOrder_cons (thn (h1 pins s σ H _ _ _ I r h) fun _ s1 ⟨σ1,H1,I1,q1⟩=>?_);exact h2 pins s1 σ1 H1 _ _ Q I1 rr q1
def b5u (K:Fg0)(n:Nat)(t:TGs):TG:=fun v σ H Q=>∃a xs,v=.ref a/\SqT K H a xs/\xs.length=n/\t xs σ H Q
theorem a1Z {es:List Expr}{k:Nat}{t:TGs}{n:Nat}(hc:X.calm=true)(h:PGs X es t)
  (hn:(assignEach es X.env).length=n:=by rfl) (hst:(assignEach es X.env).findIdx? (·.1)=none:=by rfl):PG X (.Tuple es k pos) (b5u X.K n t):=by
 intro pins s σ H v u Q I r hw;obtain⟨a,xs,e1,hq,hl,hw⟩:=hw;subst e1;cases r;obtain⟨its,rv,ht,hz⟩:=I.tuple hq;refine assign_Tuple_tuple (I.ok.hd hc) ht (by simp[hn,← hl,rv.length]) hst fun h' hx=>?_;have I1:Inv X pins σ H { s with heap:=h' }:=I.kept (t':=s.toks) fun b o e=>hx b o (Nat.ne_of_lt (Heap.lt_size e)) e;exact h pins _ σ H xs _ Q I1 (by simpa using rv) hw
def tAsg (te:TE)(g:TG):TS:=fun D σ H=>te σ H fun x H1=>g x σ H1 D.nx
theorem a0r {i:Nat}{x:Str}{e:Expr}{te:TE}{pos':Pos}(hN:X.N.Nodup)(hi:X.N[i]? =some x)(hx:Loc X.env.scope x)(he:PE X e te)(hs:swapsWith e (some (.Name x pos')) pos.line X.env=pure false:=by rfl)(hf:X.fn x=true\/X.env.scope.names.lookup x=some .local:=by first |exact .inl rfl |exact .inr rfl |assumption) :
  PS X (.Assign [.Name x pos'] e pos) (tAsg te (b0a i)):=by
 intro pins s σ H D I h;refine wpAny_Assign_Name (thn (he pins s σ H _ I h) fun v s1 ⟨y,H1,I1,r1,q1⟩=>?_) hs;exact a6y I1 hN hi hx r1 (fun s2 I2=>⟨_,H1,I2,q1⟩) hf
end
structure It where
 go:Nat->Hp->Prop
 yld:Nat->Hp->V->Hp->Prop
 stop:Nat->Hp->Prop
def a2u (X:Cx)(pins:List (Addr×Obj))(H:Hp)(b:Addr):Prop:=
 H b=none/\b≠X.env.locals/\b∉X.fs/\(b∈X.ex\/X.s₀.heap.objs.size≤b)/\(∀x c,X.env.cells.lookup x=some c->c≠b)/\∀p∈X.pn++pins,p.1≠b
theorem Inv.fpOk {X:Cx}{pins:List (Addr×Obj)}{σ:St}{H H':Hp}{s:Shared}{b:Addr}(I:Inv X pins σ H s)(hb:s.heap.objs.size≤b)(hn:H' b=none):a2u X pins H' b:=by
 refine⟨hn,Nat.ne_of_gt (Nat.lt_of_lt_of_le I.lt hb),I.nofs hb,.inr (Nat.le_trans I.sz hb),fun x c e z=>?_,fun p hp z=>?_⟩
 ·obtain⟨v,q⟩:=I.cell x c e
  exact absurd (Nat.lt_of_lt_of_le q.lt (by rw[z];exact hb)) (Nat.lt_irrefl _)
 ·exact absurd (Nat.lt_of_lt_of_le (Heap.lt_size (I.pin p hp).1) (by rw[z];exact hb)) (Nat.lt_irrefl _)
structure a8Y (P:Program) (w:World) (K:Fg0) (tg:Expr) (J:It) (fp:List Addr) (it:Addr) (tn:Nat->Heap->Prop):Prop where
 mem:it∈fp
 obj:∀i h,tn i h->∀b∈fp,∃o,h.get? b=some o/\∀v,o.data≠.cell v
 keep:∀i h h',tn i h->(∀b∈fp,∀o,h.get? b=some o->h'.get? b=some o)->tn i h'
 item:∀(X:Cx),X.prog=P->X.w=w->X.K=K->X.calm=true->∀(i:Nat) (pins:List (Addr×Obj)) (s:Shared) (σ:St) (H:Hp) (E:Value->Shared->Prop),Inv X pins σ H s->(∀b∈fp,a2u X pins H b)->tn i s.heap->J.go i H →
  wpAny (model P w) X.A (pyNext (.ref it)) (fun r s1=>∃u,r=some u ∧
   wpAny (model P w) X.A (letOwnedTupleGo tg (.ref it) u) (fun _ s2=>∃x H',Inv X pins σ H' s2/\a1c x u/\J.yld i H x H'/\tn (i+1) s2.heap/\∀b∈fp,H' b=none) E s1) E s
 done:∀(X:Cx),X.prog=P->X.w=w->X.K=K->X.calm=true->∀(i:Nat) (pins:List (Addr×Obj)) (s:Shared) (σ:St) (H:Hp) (E:Value->Shared->Prop),Inv X pins σ H s->(∀b∈fp,a2u X pins H b)->tn i s.heap->J.stop i H →
  wpAny (model P w) X.A (pyNext (.ref it)) (fun r s1=>r=none/\Inv X pins σ H s1) E s
 self:∀(A:Around) (i:Nat) (s:Shared) (Q:Value->Shared->Prop) (E:Value->Shared->Prop),tn i s.heap->Q (.ref it) s->wpAny (model P w) A (pyIter (.ref it)) Q E s
abbrev TI:=St->Hp->(It->Hp->Prop)->Prop
def PIE (X:Cx)(pins:List (Addr×Obj))(σ:St)(tg:Expr)(R:It->Hp->Prop)(itv:Value)(s2:Shared):Prop:=
 ∃(it:Addr) (fp:List Addr) (tn:Nat->Heap->Prop) (J:It) (H':Hp),itv=.ref it/\Inv X pins σ H' s2/\a8Y X.prog X.w X.K tg J fp it tn/\tn 0 s2.heap/\(∀b∈fp,a2u X pins H' b)/\R J H'
def PI (X:Cx)(tg iter:Expr)(wi:TI):Prop:=
 ∀(pins:List (Addr×Obj)) (s:Shared) (σ:St) (H:Hp) (R:It->Hp->Prop),Inv X pins σ H s->wi σ H R →
  wpAny (model X.prog X.w) X.A (eval iter X.env) (fun v s1=>wpAny (model X.prog X.w) X.A (pyIter v) (PIE X pins σ tg R) X.xe s1) X.xe s
theorem a9P {M:Model}{A:Around}{E:Value->Shared->Prop}{s:Shared}{tg:Expr}{it:Addr}{u:Value}{o:Obj}{n:String}{vs:Array Value}{Q:Unit->Shared->Prop}(ho:s.heap.get? it=some o)(hc:o.cls=.type n)(hd:o.data=.fields vs)
  (hn:["enumerate","zip","dict_itemiterator","dict_reverseitemiterator","odict_iterator","itertools.zip_longest","itertools.pairwise"].contains n=false) (hQ:Q () s):wpAny M A (letOwnedTupleGo tg (.ref it) u) Q E s:=by
 unfold letOwnedTupleGo;cases tg<;>first
  |exact wP0 hQ
  | (cases u<;>first
    |exact wP0 hQ
    | (refine wB0 (wpAny_load ho ?_)
       rw[hc,hd];show wpAny M A (if (["enumerate","zip","dict_itemiterator","dict_reverseitemiterator","odict_iterator","itertools.zip_longest","itertools.pairwise"].contains n&&vs[0]?==some (rawInt _))=true then _ else _) Q E s;rw[if_neg (by intro h;rw[hn,Bool.false_and] at h;cases h)];exact wP0 hQ))
def Itl (K:Fg0)(a:Addr):It:=
 ⟨fun i H=>∃xs x,SqL K H a xs/\xs[i]? =some x,fun i H x H'=>H'=H/\∀xs,SqL K H a xs->xs[i]? =some x,fun i H=>∃xs,SqL K H a xs/\xs.length≤i⟩
def Itt (K:Fg0)(a:Addr):It:=
 ⟨fun i H=>∃xs x,SqT K H a xs/\xs[i]? =some x,fun i H x H'=>H'=H/\∀xs,SqT K H a xs->xs[i]? =some x,fun i H=>∃xs,SqT K H a xs/\xs.length≤i⟩
def Itr (lo:Int)(n:Nat):It:=⟨fun i _=>i<n,fun i H x H'=>H'=H/\x=.int (lo+i),fun i _=>n≤i⟩
theorem a8s {P:Program}{w:World}{K:Fg0}{tg:Expr}(a it:Addr):a8Y P w K tg (Itl K a) [it] it (fun i h=>h.IsListIter it a i) where
 mem:=by simp
 obj:=fun i h st b hb=>by
  have e:b=it:=by simpa using hb
  subst e;obtain⟨o,e,c,d⟩:=st;exact⟨o,e,fun v z=>by rw[d] at z;cases z⟩
 keep:=fun i h h' st k=>st.at fun o e=>k it (by simp) o e
 item:=by
  intro X hP hw hK hc i pins s σ H E I hf st hg;subst hP hw hK;obtain⟨xs,x,hq,hx⟩:=hg;obtain⟨its,rv,p,hz⟩:=I.list hq;obtain⟨u,hu,ru⟩:=rv.get hx;obtain⟨f0,f1,f2,f3,f4,f5⟩:=hf it (by simp);refine wpAny_pyNext_list_item st p.isList (x:=u) (by simpa using hu) fun h' st' sb=>?_;have I1:Inv X pins σ H { s with heap:=h' }:=I.turned (t':=s.toks) (fun b o hb e=>(sb.2 b hb).trans e) f0 f1 f3 f4 f5;obtain⟨o,e,c,d⟩:=id st';exact⟨u,rfl,a9P (s:={ s with heap:=h' }) e c d (by decide) ⟨x,H,I1,ru,⟨rfl,fun ys hy=>by rw[I.list_inj hy hq];exact hx⟩,st',fun b hb=>(hf b hb).1⟩⟩
 done:=by
  intro X hP hw hK hc i pins s σ H E I hf st hg;subst hP hw hK;obtain⟨xs,hq,hx⟩:=hg;obtain⟨its,rv,p,hz⟩:=I.list hq;obtain⟨f0,f1,f2,f3,f4,f5⟩:=hf it (by simp);have hl:=rv.length;exact wpAny_pyNext_list_end (I.ok.hd hc) st p.isList (by simp;omega) fun h' eb=>⟨rfl,I.turned (t':=s.toks) (fun b o hb e=>eb b o hb e) f0 f1 f3 f4 f5⟩
 self:=fun _ _ _ _ _ st h=>wpAny_pyIter_listiter st h
theorem a6I {P:Program}{w:World}{K:Fg0}{tg:Expr}(a it:Addr):a8Y P w K tg (Itt K a) [it] it (fun i h=>h.IsTupleIter it a i) where
 mem:=by simp
 obj:=fun i h st b hb=>by
  have e:b=it:=by simpa using hb
  subst e;obtain⟨o,e,c,d⟩:=st;exact⟨o,e,fun v z=>by rw[d] at z;cases z⟩
 keep:=fun i h h' st k=>st.at fun o e=>k it (by simp) o e
 item:=by
  intro X hP hw hK hc i pins s σ H E I hf st hg;subst hP hw hK;obtain⟨xs,x,hq,hx⟩:=hg;obtain⟨its,rv,p,hz⟩:=I.tuple hq;obtain⟨u,hu,ru⟩:=rv.get hx;obtain⟨f0,f1,f2,f3,f4,f5⟩:=hf it (by simp);refine wpAny_pyNext_tuple_item st (show s.heap.IsTuple a its.toArray from p) (x:=u) (by simpa using hu) fun h' st' sb=>?_;have I1:Inv X pins σ H { s with heap:=h' }:=I.turned (t':=s.toks) (fun b o hb e=>(sb.2 b hb).trans e) f0 f1 f3 f4 f5;obtain⟨o,e,c,d⟩:=id st';exact⟨u,rfl,a9P (s:={ s with heap:=h' }) e c d (by decide) ⟨x,H,I1,ru,⟨rfl,fun ys hy=>by rw[I.tuple_inj hy hq];exact hx⟩,st',fun b hb=>(hf b hb).1⟩⟩
 done:=by
  intro X hP hw hK hc i pins s σ H E I hf st hg;subst hP hw hK;obtain⟨xs,hq,hx⟩:=hg;obtain⟨its,rv,p,hz⟩:=I.tuple hq;obtain⟨f0,f1,f2,f3,f4,f5⟩:=hf it (by simp);have hl:=rv.length;exact wpAny_pyNext_tuple_end (I.ok.hd hc) st (show s.heap.IsTuple a its.toArray from p) (by simp;omega) fun h' eb=>⟨rfl,I.turned (t':=s.toks) (fun b o hb e=>eb b o hb e) f0 f1 f3 f4 f5⟩
 self:=fun _ _ _ _ _ st h=>wpAny_pyIter_tupleiter st h
theorem a6M {P:Program}{w:World}{K:Fg0}{tg:Expr}(it:Addr)(lo:Int)(n:Nat):a8Y P w K tg (Itr lo n) [it] it (fun i h=>IsRangeIter h it (lo+(i:Nat) * 1) ((n:Int)-(i:Nat)) 1) where
 mem:=by simp
 obj:=fun i h st b hb=>by
  have e:b=it:=by simpa using hb
  subst e;exact⟨_,st,fun v z=>by
   have z':Data.fields _=Data.cell v:=z;cases z'⟩
 keep:=fun i h h' st k=>k it (by simp) _ st
 item:=by
  intro X hP hw hK hc i pins s σ H E I hf st hg;subst hP hw hK;obtain⟨f0,f1,f2,f3,f4,f5⟩:=hf it (by simp);have W:=Walks.range (prog:=X.prog) (w:=X.w) (I.ok.hd hc) it lo 1 n;refine W.item i s _ _ hg st fun v h' tk hv st' kk=>?_;obtain⟨t,rfl⟩:=hv;have I1:Inv X pins σ H { s with heap:=h',toks:=tk }:=I.turned (fun b o hb e=>kk b o (by simpa using hb) e) f0 f1 f3 f4 f5;refine⟨_,rfl,a9P (s:={ s with heap:=h',toks:=tk }) (n:="range_iterator") st' rfl rfl (by decide) ⟨.int (lo+i),H,I1,⟨t,?_⟩,⟨rfl,rfl⟩,st',fun b hb=>(hf b hb).1⟩⟩;rw[Int.mul_one]
 done:=by
  intro X hP hw hK hc i pins s σ H E I hf st hg;subst hP hw hK;obtain⟨f0,f1,f2,f3,f4,f5⟩:=hf it (by simp);exact wpAny_pyNext_range_end (I.ok.hd hc) st (by have:n≤i:=hg;omega) fun h' eb=>⟨rfl,I.turned (t':=s.toks) (fun b o hb e=>eb b o hb e) f0 f1 f3 f4 f5⟩
 self:=fun _ _ _ _ _ st h=>wpAny_pyIter_rangeiter st h
section
variable {X:Cx}{tg:Expr}
def b4H (K:Fg0)(tl:TE):TI:=fun σ H R=>tl σ H fun x H1=>∃a,x=.ref a/\(∃xs,SqL K H1 a xs)/\R (Itl K a) H1
def iTup (K:Fg0)(tl:TE):TI:=fun σ H R=>tl σ H fun x H1=>∃a,x=.ref a/\(∃xs,SqT K H1 a xs)/\R (Itt K a) H1
theorem a0Q {l:Expr}{tl:TE}(hl:PE X l tl):PI X tg l (b4H X.K tl):=by
 intro pins s σ H R I h;refine thn (hl pins s σ H _ I h) fun v s1 ⟨x,H1,I1,r1,q1⟩=>?_;obtain⟨a,e,⟨xs,hq⟩,q⟩:=q1;subst e;cases r1;obtain⟨its,rv,p,hz⟩:=I1.list hq;refine wpAny_pyIter_list p.isList ?_;refine⟨s1.heap.objs.size,[s1.heap.objs.size],_,_,H1,rfl,I1.kept (t':=s1.toks) fun b o e=>hP0 _ e,a8s a _,⟨_,Heap.get?_push_size _ rfl,rfl,rfl⟩,fun b hb=>?_,q⟩;have e:b=s1.heap.objs.size:=by simpa using hb
 subst e;exact I1.fpOk (Nat.le_refl _) (I1.hok.fresh (Nat.le_refl _))
theorem a6r {l:Expr}{tl:TE}(hl:PE X l tl):PI X tg l (iTup X.K tl):=by
 intro pins s σ H R I h;refine thn (hl pins s σ H _ I h) fun v s1 ⟨x,H1,I1,r1,q1⟩=>?_;obtain⟨a,e,⟨xs,hq⟩,q⟩:=q1;subst e;cases r1;obtain⟨its,rv,p,hz⟩:=I1.tuple hq;refine wpAny_pyIter_tuple (show s1.heap.IsTuple a its.toArray from p) ?_;refine⟨s1.heap.objs.size,[s1.heap.objs.size],_,_,H1,rfl,I1.kept (t':=s1.toks) fun b o e=>hP0 _ e,a6I a _,⟨_,Heap.get?_push_size _ rfl,rfl,rfl⟩,fun b hb=>?_,q⟩;have e:b=s1.heap.objs.size:=by simpa using hb
 subst e;exact I1.fpOk (Nat.le_refl _) (I1.hok.fresh (Nat.le_refl _))
theorem a9y {pins:List (Addr×Obj)}{σ:St}{H:Hp}{s:Shared}{R:It->Hp->Prop}{E:Value->Shared->Prop}{lo hi:Int}{t u v:Tok}{tk:Nat}(I:Inv X pins σ H s)(h1:-(2 ^ 62)≤lo)(h2:lo<2 ^ 62)(h3:-(2 ^ 62)≤hi)(h4:hi<2 ^ 62)
  (q:R (Itr lo (hi-lo).toNat) H):wpAny (model X.prog X.w) X.A (pyIter (.ref s.heap.objs.size)) (PIE X pins σ tg R) E { s with heap:=s.heap.push { cls:=.type "range",data:=.fields #[.int lo t,.int hi u,.int 1 v] },toks:=tk }:=by
 refine wpAny_pyIter_range (IsRange.new ..) (small_one h1 h2 h3 h4) ?_;have I1:Inv X pins σ H { s with heap:=s.heap.push { cls:=.type "range",data:=.fields #[.int lo t,.int hi u,.int 1 v] },toks:=tk }:=I.kept fun b o e=>hP0 _ e;refine⟨(s.heap.push { cls:=.type "range",data:=.fields #[.int lo t,.int hi u,.int 1 v] }).objs.size,[(s.heap.push { cls:=.type "range",data:=.fields #[.int lo t,.int hi u,.int 1 v] }).objs.size],_,_,H,rfl,
  I1.kept (t':=tk) fun b o e=>hP0 _ e,a6M _ lo (hi-lo).toNat,?_,fun b hb=>?_,q⟩
 ·have e1:lo+((0:Nat):Int) * 1=lo:=by simp
  have e2:(((hi-lo).toNat:Nat):Int)-((0:Nat):Int)=Builtin.Range.rangeSize lo hi 1:=by rw[rangeSize_one];split<;>omega
  show IsRangeIter _ _ (lo+((0:Nat):Int) * 1) ((((hi-lo).toNat:Nat):Int)-((0:Nat):Int)) 1;rw[e1,e2];exact Heap.get?_push_size _ rfl
 ·have e:b=(s.heap.push { cls:=.type "range",data:=.fields #[.int lo t,.int hi u,.int 1 v] }).objs.size:=by simpa using hb
  subst e;exact I1.fpOk (Nat.le_refl _) (I1.hok.fresh (Nat.le_refl _))
def b4N (ta:TA):TI:=fun σ H R=>ta σ H fun vs H1=>∃j:Int,vs=[.int j]/\-(2 ^ 62)≤j/\j<2 ^ 62/\R (Itr 0 j.toNat) H1
theorem a2i {a:Expr}{ta:TA}{p pos:Pos}(hg:Gl X "range")(hm:X.mg "range"=none)(ha:PA X [a] ta)(hs:starEach [a] X.env=[(false,eval a X.env)]:=by rfl):PI X tg (.Call (.Name "range" p) [a] [] pos) (b4N ta):=by
 intro pins s σ H R I h;refine Call_ (a2c I hg hm boot_range (PyProof.Rows.callWith_type1 (thn (ha pos pins s σ H _ I h) fun us s1 ⟨vs,H1,I1,r1,q1⟩=>?_) hs rfl));obtain⟨j,e,q1,q2,q⟩:=q1;subst e;cases r1 with
 |cons r rr=>
  cases rr;obtain⟨t,rfl⟩:=r;exact call_range_1 (a9y I1 (by omega) (by omega) q1 q2 (by simpa using q))
def tFor (wi:TI)(g:TG)(tb:TS):TS:=fun D σ H=>wi σ H fun J H1=>∃W:Nat->Nat->St->Hp->Prop,(∃m,W 0 m σ H1)/\∀i m σ H,W i m σ H →
 (J.stop i H/\D.nx σ H)\/(J.go i H/\∃N:St->Hp->Prop,(∀σ' H',N σ' H'->∃m',m'<m/\W (i+1) m' σ' H')/\∀x H',J.yld i H x H'->g x σ H' fun σ2 H2=>tb { D with nx:=N,ct:=N,bk:=D.nx } σ2 H2)
def a5t (fp:List Addr)(h:Heap):List (Addr×Obj):=fp.filterMap fun b=>(h.get? b).map fun o=>(b,o)
theorem a2o {fp:List Addr}{h:Heap}{b:Addr}{o:Obj}(hb:b∈fp)(e:h.get? b=some o):(b,o)∈a5t fp h:=List.mem_filterMap.mpr ⟨b,hb,by rw[e];rfl⟩
theorem a7t {fp:List Addr}{h:Heap}{p:Addr×Obj}(hp:p∈a5t fp h):p.1∈fp/\h.get? p.1=some p.2:=by
 obtain⟨b,hb,e⟩:=List.mem_filterMap.mp hp;cases q:h.get? b with
 |none=>rw[q] at e;cases e
 |some o=>
  rw[q] at e;have e':(b,o)=p:=Option.some.inj e;subst e';exact⟨hb,q⟩
theorem Inv.pinned {pins:List (Addr×Obj)}{σ:St}{H:Hp}{s:Shared}{fp:List Addr}(I:Inv X pins σ H s)(hf:∀b∈fp,a2u X pins H b)(ho:∀b∈fp,∃o,s.heap.get? b=some o/\∀v,o.data≠.cell v):Inv X (pins++a5t fp s.heap) σ H s:=
 I.pins_of fun p hp=>(List.mem_append.mp hp).elim (fun z=>I.pin p (List.mem_append_right _ z)) fun z=>by
  obtain⟨hb,e⟩:=a7t z;obtain⟨f0,f1,f2,_⟩:=hf p.1 hb;obtain⟨o,e',d⟩:=ho p.1 hb;rw[e] at e';cases e';exact⟨e,f0,f1,f2,d⟩
theorem Inv.unpinned {pins pl:List (Addr×Obj)}{σ:St}{H:Hp}{s:Shared}(I:Inv X (pins++pl) σ H s):Inv X pins σ H s:=I.pins_of fun p hp=>I.pin p (List.mem_append_right _ (List.mem_append_left _ hp))
theorem a1p {iter:Expr}{body:List Stmt}{wi:TI}{g:TG}{tb:TS}{pos:Pos}(hp:PassesOwn (model X.prog X.w) X.A X.env X.xe)(hc:X.calm=true)(hi:PI X tg iter wi)(hg:PG X tg g)(hb:PSs X body tb)
  (hs:∀x,foldedSetIterable iter X.env x=pure x:=by intro _;rfl):PS X (.For tg iter body [] pos) (tFor wi g tb):=by
 intro pins s σ H D I h;refine wpAny_For (thn (hi pins s σ H _ I h) fun v s1 h1=>thn h1 fun itv s2 h2=>?_) hs;obtain⟨it,fp,tn,J,H2,e,I2,T,st2,f2,W,⟨m0,w0⟩,turn⟩:=h2;subst e;have stat:∀{H':Hp},(∀b∈fp,H' b=none)->∀b∈fp,a2u X pins H' b:=fun hn b hb=>⟨hn b hb,(f2 b hb).2⟩;refine codeAny_forLoop_any (fun n s'=>∃i σ' H',Inv X pins σ' H' s'/\tn i s'.heap/\(∀b∈fp,H' b=none)/\W i n σ' H') ?_ m0 ⟨0,σ,H2,I2,st2,fun b hb=>(f2 b hb).1,w0⟩;rintro n s3 ⟨i,σ3,H3,I3,st3,fr3,w3⟩;rcases turn i n σ3 H3 w3 with ⟨stop,qn⟩ |⟨go,N,hN,step⟩
 ·refine wpAny_passesOwn hp (thn (T.done X rfl rfl rfl hc i pins s3 σ3 H3 X.xe I3 (stat fr3) st3 stop) fun r s4 ⟨hr,I4⟩=>?_)
  subst hr;exact wpAny_execs_nil ⟨σ3,H3,I4,qn⟩
 ·refine wpAny_passesOwn hp (thn (T.item X rfl rfl rfl hc i pins s3 σ3 H3 X.xe I3 (stat fr3) st3 go) fun r s4 ⟨u,hr,h4⟩=>?_)
  subst hr;refine wpAny_passesOwn hp (thn h4 fun _ s5 ⟨x,H5,I5,r5,y5,st5,fr5⟩=>?_);have I5':=I5.pinned (stat fr5) (T.obj _ _ st5);refine wpAny_passesOwn hp (thn (hg _ s5 σ3 H5 x u _ I5' r5 (step x H5 y5)) fun _ s6 ⟨σ6,H6,I6,q6⟩=>?_);refine wpAny_passesOwn hp (thn (hb _ s6 σ6 H6 _ I6 q6) fun f s7 q7=>?_);have again:∀{σ7:St} {H7:Hp},Inv X (pins++a5t fp s5.heap) σ7 H7 s7->N σ7 H7->∃m,m<n/\∃i σ' H',Inv X pins σ' H' s7/\tn i s7.heap/\(∀b∈fp,H' b=none)/\W i m σ' H':=fun {σ7 H7} I7 n7=>by
   obtain⟨m',hm,w7⟩:=hN σ7 H7 n7;refine⟨m',hm,i+1,σ7,H7,I7.unpinned,T.keep _ _ _ st5 fun b hb o e=>(I7.pin (b,o) (List.mem_append_right _ (List.mem_append_right _ (a2o hb e)))).1,fun b hb=>?_,w7⟩;obtain⟨o,e,d⟩:=T.obj _ _ st5 b hb;exact(I7.pin (b,o) (List.mem_append_right _ (List.mem_append_right _ (a2o hb e)))).2.1
  cases f with
  |next=>obtain⟨σ7,H7,I7,n7⟩:=q7;exact again I7 n7
  |cont=>obtain⟨σ7,H7,I7,n7⟩:=q7;exact again I7 n7
  |brk=>obtain⟨σ7,H7,I7,q7⟩:=q7;exact⟨σ7,H7,I7.unpinned,q7⟩
  |ret v=>obtain⟨x7,σ7,H7,I7,r7,q7⟩:=q7;exact⟨x7,σ7,H7,I7.unpinned,r7,q7⟩
end
theorem a1v {K:Fg0}{a:Addr}{xs:List V}{g:TG}{tb:TS}{D:a5w}{σ:St}{H:Hp}(Pv:Nat->St->Hp->Prop)(h0:Pv 0 σ H)(hl:∀i σ H,i≤xs.length->Pv i σ H->SqL K H a xs)
  (hs:∀i x σ H,xs[i]? =some x->Pv i σ H->g x σ H fun σ2 H2=>tb { D with nx:=Pv (i+1),ct:=Pv (i+1),bk:=D.nx } σ2 H2) (hd:∀σ H,Pv xs.length σ H->D.nx σ H) :
  ∃W:Nat->Nat->St->Hp->Prop,(∃m,W 0 m σ H)/\∀i m σ H,W i m σ H →
   ((Itl K a).stop i H/\D.nx σ H)\/((Itl K a).go i H/\∃N:St->Hp->Prop,(∀σ' H',N σ' H'->∃m',m'<m/\W (i+1) m' σ' H')/\∀x H',(Itl K a).yld i H x H'->g x σ H' fun σ2 H2=>tb { D with nx:=N,ct:=N,bk:=D.nx } σ2 H2):=by
 refine⟨fun i m σ H=>m=xs.length-i/\i≤xs.length/\Pv i σ H,⟨xs.length,by simp,Nat.zero_le _,h0⟩,?_⟩;rintro i m σ H ⟨rfl,hi,p⟩;have q:=hl i σ H hi p
 by_cases hlt:i<xs.length
 ·refine .inr ⟨⟨xs,xs[i],q,by simp[hlt]⟩,Pv (i+1),fun σ' H' p'=>⟨xs.length-(i+1),by omega,rfl,hlt,p'⟩,fun x H' y=>?_⟩
  obtain⟨e,y⟩:=y;subst e;exact hs i x σ _ (y xs q) p
 ·have e:i=xs.length:=by omega
  subst e;exact .inl ⟨⟨xs,q,Nat.le_refl _⟩,hd σ H p⟩
theorem b1D {K:Fg0}{a:Addr}{xs:List V}{g:TG}{tb:TS}{D:a5w}{σ:St}{H:Hp}(Pv:Nat->St->Hp->Prop)(h0:Pv 0 σ H)(hl:∀i σ H,i≤xs.length->Pv i σ H->SqT K H a xs)
  (hs:∀i x σ H,xs[i]? =some x->Pv i σ H->g x σ H fun σ2 H2=>tb { D with nx:=Pv (i+1),ct:=Pv (i+1),bk:=D.nx } σ2 H2) (hd:∀σ H,Pv xs.length σ H->D.nx σ H) :
  ∃W:Nat->Nat->St->Hp->Prop,(∃m,W 0 m σ H)/\∀i m σ H,W i m σ H →
   ((Itt K a).stop i H/\D.nx σ H)\/((Itt K a).go i H/\∃N:St->Hp->Prop,(∀σ' H',N σ' H'->∃m',m'<m/\W (i+1) m' σ' H')/\∀x H',(Itt K a).yld i H x H'->g x σ H' fun σ2 H2=>tb { D with nx:=N,ct:=N,bk:=D.nx } σ2 H2):=by
 refine⟨fun i m σ H=>m=xs.length-i/\i≤xs.length/\Pv i σ H,⟨xs.length,by simp,Nat.zero_le _,h0⟩,?_⟩;rintro i m σ H ⟨rfl,hi,p⟩;have q:=hl i σ H hi p
 by_cases hlt:i<xs.length
 ·refine .inr ⟨⟨xs,xs[i],q,by simp[hlt]⟩,Pv (i+1),fun σ' H' p'=>⟨xs.length-(i+1),by omega,rfl,hlt,p'⟩,fun x H' y=>?_⟩
  obtain⟨e,y⟩:=y;subst e;exact hs i x σ _ (y xs q) p
 ·have e:i=xs.length:=by omega
  subst e;exact .inl ⟨⟨xs,q,Nat.le_refl _⟩,hd σ H p⟩
theorem a5e {lo:Int}{n:Nat}{g:TG}{tb:TS}{D:a5w}{σ:St}{H:Hp}(Pv:Nat->St->Hp->Prop)(h0:Pv 0 σ H)
  (hs:∀i σ H,i<n->Pv i σ H->g (.int (lo+i)) σ H fun σ2 H2=>tb { D with nx:=Pv (i+1),ct:=Pv (i+1),bk:=D.nx } σ2 H2) (hd:∀σ H,Pv n σ H->D.nx σ H) :
  ∃W:Nat->Nat->St->Hp->Prop,(∃m,W 0 m σ H)/\∀i m σ H,W i m σ H →
   ((Itr lo n).stop i H/\D.nx σ H)\/((Itr lo n).go i H/\∃N:St->Hp->Prop,(∀σ' H',N σ' H'->∃m',m'<m/\W (i+1) m' σ' H')/\∀x H',(Itr lo n).yld i H x H'->g x σ H' fun σ2 H2=>tb { D with nx:=N,ct:=N,bk:=D.nx } σ2 H2):=by
 refine⟨fun i m σ H=>m=n-i/\i≤n/\Pv i σ H,⟨n,by simp,Nat.zero_le _,h0⟩,?_⟩;rintro i m σ H ⟨rfl,hi,p⟩
 by_cases hlt:i<n
 ·refine .inr ⟨hlt,Pv (i+1),fun σ' H' p'=>⟨n-(i+1),by omega,rfl,hlt,p'⟩,fun x H' y=>?_⟩
  obtain⟨e,y⟩:=y;subst e y;exact hs i σ _ hlt p
 ·have e:i=n:=by omega
  subst e;exact .inl ⟨Nat.le_refl _,hd σ H p⟩
abbrev R2:=V->V->Hp->VK->Prop
def OpR (X:Cx)(f:Value->Value->Sem Value)(r:R2):Prop:=
 ∀(pins:List (Addr×Obj)) (s:Shared) (σ:St) (H:Hp) (x y:V) (v u:Value) (Q:VK),Inv X pins σ H s->a1c x v->a1c y u->r x y H Q →
  wpAny (model X.prog X.w) X.A (f v u) (EP X pins σ Q) X.xe s
def a1E (X:Cx)(f:Value)(r:List V->Hp->VK->Prop):Prop:=
 ∀(pins:List (Addr×Obj)) (s:Shared) (σ:St) (H:Hp) (xs:List V) (us:List Value) (Q:VK),Inv X pins σ H s->a1m xs us->r xs H Q →
  wpAny (model X.prog X.w) X.A (call f us) (EP X pins σ Q) X.xe s
def tOp (r:R2)(ta tb:TE):TE:=fun σ H Q=>ta σ H fun x H1=>tb σ H1 fun y H2=>r x y H2 Q
def rI (C:Int->Int->Prop)(g:Int->Int->V):R2:=fun x y H Q=>∃i j,x=.int i/\y=.int j/\C i j/\Q (g i j) H
def rI0 (g:Int->Int->V):R2:=fun x y H Q=>∃i j,x=.int i/\y=.int j/\Q (g i j) H
section
variable {X:Cx}{a b c:Expr}{ta tb tc:TE}{pos:Pos}
theorem b4c (ha:PE X a ta)(hb:PE X b tb){pins:List (Addr×Obj)}{s:Shared}{σ:St}{H:Hp}{R:V->V->Hp->Prop}(I:Inv X pins σ H s)
  (h:ta σ H fun x H1=>tb σ H1 fun y H2=>R x y H2) {Q:Value->Shared->Prop} {f:Value->Value->Sem Value}
  (hf:∀v u s2 x y H2,Inv X pins σ H2 s2->a1c x v->a1c y u->R x y H2->wpAny (model X.prog X.w) X.A (f v u) Q X.xe s2) :
  wpAny (model X.prog X.w) X.A (eval a X.env) (fun v s₁=>wpAny (model X.prog X.w) X.A (eval b X.env) (fun u s₂=>wpAny (model X.prog X.w) X.A (f v u) Q X.xe s₂) X.xe s₁) X.xe s:=by
 refine thn (ha pins s σ H _ I h) fun v s1 ⟨x,H1,I1,r1,q1⟩=>?_;refine thn (hb pins s1 σ H1 _ I1 q1) fun u s2 ⟨y,H2,I2,r2,q2⟩=>?_;exact hf v u s2 x y H2 I2 r1 r2 q2
theorem a0P {op:Operator}{r:R2}(ho:OpR X (binaryOp op) r)(ha:PE X a ta)(hb:PE X b tb):PE X (.BinOp a op b pos) (tOp r ta tb):=by
 intro pins s σ H Q I h;exact wpAny_BinOp (b4c ha hb I h fun v u s2 x y H2 I2 rx ry q=>ho pins s2 σ H2 x y v u Q I2 rx ry q)
theorem opI {f:Value->Value->Sem Value}{C:Int->Int->Prop}{g:Int->Int->Int}
  (rule:∀(i j:Int) (t u:Tok) (s:Shared) (Q:Value->Shared->Prop) (E:Value->Shared->Prop),C i j->Q (.int (g i j) s.toks) { s with toks:=s.toks+1 }->wpAny (model X.prog X.w) X.A (f (.int i t) (.int j u)) Q E s) :
  OpR X f (rI C fun i j=>.int (g i j)):=by
 intro pins s σ H x y v u Q I rx ry h;obtain⟨i,j,rfl,rfl,hc,q⟩:=h;obtain⟨t,rfl⟩:=rx;obtain⟨t',rfl⟩:=ry;exact rule i j t t' s _ _ hc ⟨.int (g i j),H,I.tok _,⟨_,rfl⟩,q⟩
theorem b5m {f:Value->Value->Sem Value}{g:Int->Int->Int}
  (rule:∀(i j:Int) (t u:Tok) (s:Shared) (Q:Value->Shared->Prop) (E:Value->Shared->Prop),Q (.int (g i j) s.toks) { s with toks:=s.toks+1 }->wpAny (model X.prog X.w) X.A (f (.int i t) (.int j u)) Q E s) :
  OpR X f (rI0 fun i j=>.int (g i j)):=by
 intro pins s σ H x y v u Q I rx ry h;obtain⟨i,j,rfl,rfl,q⟩:=h;obtain⟨t,rfl⟩:=rx;obtain⟨t',rfl⟩:=ry;exact rule i j t t' s _ _ ⟨.int (g i j),H,I.tok _,⟨_,rfl⟩,q⟩
theorem b3z {f:Value->Value->Sem Value}{g:Int->Int->Bool}
  (rule:∀(i j:Int) (t u:Tok) (s:Shared) (Q:Value->Shared->Prop) (E:Value->Shared->Prop),Q (.bool (g i j)) s->wpAny (model X.prog X.w) X.A (f (.int i t) (.int j u)) Q E s) :
  OpR X f (rI0 fun i j=>.bl (g i j)):=by
 intro pins s σ H x y v u Q I rx ry h;obtain⟨i,j,rfl,rfl,q⟩:=h;obtain⟨t,rfl⟩:=rx;obtain⟨t',rfl⟩:=ry;exact rule i j t t' s _ _ ⟨.bl (g i j),H,I,rfl,q⟩
def CDiv (i j:Int):Prop:=0<j/\j<1073741824
def CPow (i j:Int):Prop:=0≤j/\j≤1000000/\i.natAbs<2 ^ 64
def b4J (i j:Int):Prop:=(-(2 ^ 64)<i/\i<2 ^ 64)\/(-(2 ^ 64)<j/\j<2 ^ 64)
theorem b4J.ok {i j:Int}(h:b4J i j):IntMulOk i j:=by
 rcases h with ⟨h1,h2⟩ |⟨h1,h2⟩
 ·exact .of_left (intBits_le_64 h1 h2)
 ·exact .of_right (intBits_le_64 h1 h2)
theorem two_pow_nn (k:Nat):(0:Int)≤2 ^ k:=by
 rw[two_pow_cast];exact Int.natCast_nonneg _
theorem a1Y:OpR X (binaryOp .Add) (rI0 fun i j=>.int (i+j)):=b5m fun _ _ _ _ _ _ _ q=>add_int q
theorem a3Y:OpR X (binaryOp .Sub) (rI0 fun i j=>.int (i-j)):=b5m fun _ _ _ _ _ _ _ q=>sub_int q
theorem a5d:OpR X (binaryOp .Mult) (rI b4J fun i j=>.int (i * j)):=opI fun _ _ _ _ _ _ _ hc q=>mul_int q hc.ok
theorem a1Q:OpR X (binaryOp .FloorDiv) (rI CDiv fun i j=>.int (i/j)):=opI fun i j _ _ _ _ _ hc q=>by
 have h1:(0:Int)<j:=hc.1;have h2:j<1073741824:=hc.2;exact floordiv_int (by omega) (by rw[Int.fdiv_eq_ediv_of_nonneg i (by omega)];exact q) (.inl (PyProof.noPylong_small (by omega)))
theorem a1M:OpR X (binaryOp .Mod) (rI (fun _ j=>0<j) fun i j=>.int (i%j)):=opI fun i j _ _ _ _ _ hc q=>by
 have h1:(0:Int)<j:=hc;exact mod_int' (by omega) (by rw[Int.fmod_eq_emod_of_nonneg i (by omega)];exact q)
theorem b0j:OpR X (binaryOp .Pow) (rI CPow fun i j=>.int (i ^ j.toNat)):=opI fun _ _ _ _ _ _ _ hc q=>pow_int_small hc.1 hc.2.1 hc.2.2 q
def b5o:V->V->Bool
 | .non,.non=>true | .non,.int _=>true | .int _,.non=>true | .non,.bl _=>true | .bl _,.non=>true | .non,.str _=>true | .str _,.non=>true
 | .int _,.int _=>true | .bl _,.bl _=>true | .str _,.str _=>true | .byt _,.byt _=>true
 | .int _,.str _=>true | .str _,.int _=>true | .bl _,.str _=>true | .str _,.bl _=>true
 |_,_=>false
def rEq:R2:=fun x y H Q=>b5o x y=true/\Q (.bl (decide (x=y))) H
def rNe:R2:=fun x y H Q=>b5o x y=true/\Q (.bl (!decide (x=y))) H
theorem a7S {i j:Int}:decide (V.int i=V.int j)=(i==j):=by
 rw[Bool.eq_iff_iff];simp
theorem b0D {i j:Bool}:decide (V.bl i=V.bl j)=(i==j):=by
 rw[Bool.eq_iff_iff];simp
theorem a8J {i j:Str}:decide (V.str i=V.str j)=(i==j):=by
 rw[Bool.eq_iff_iff];simp
theorem a7r {i j:Array UInt8}:decide (V.byt i=V.byt j)=(i.toList==j.toList):=by
 rw[Bool.eq_iff_iff];cases i;cases j;simp
theorem a0U {pins:List (Addr×Obj)}{σ:St}{H:Hp}{s:Shared}{Q:VK}{k k':Bool}(I:Inv X pins σ H s)(q:Q (.bl k) H)(e:k=k'):EP X pins σ Q (.bool k') s:=by
 subst e;exact⟨.bl k,H,I,rfl,q⟩
theorem a1R:OpR X (compareOp .Eq) rEq:=by
 intro pins s σ H x y v u Q I rx ry h;obtain⟨hs,q⟩:=h;cases x with
 |non=>
  cases rx;cases y with
  |non=>cases ry;exact PySem.EqNone.eq_none_none (a0U I q (by simp))
  |bl j=>cases ry;exact PySem.EqNone.eq_none_bool (a0U I q (by simp))
  |int j=>obtain⟨t',rfl⟩:=ry;exact PySem.EqNone.eq_none_int (a0U I q (by simp))
  |str j=>obtain⟨t',rfl⟩:=ry;exact PySem.EqNone.eq_none_str (a0U I q (by simp))
  |_=>exact absurd (show false=true from hs) Bool.false_ne_true
 |bl i=>
  cases rx;cases y with
  |non=>cases ry;exact PySem.EqNone.eq_bool_none (a0U I q (by simp))
  |bl j=>cases ry;exact eq_bool (a0U I q b0D)
  |str j=>obtain⟨t',rfl⟩:=ry;exact PySem.EqMixed.eq_bool_str (a0U I q (by simp))
  |_=>exact absurd (show false=true from hs) Bool.false_ne_true
 |int i=>
  obtain⟨t,rfl⟩:=rx;cases y with
  |non=>cases ry;exact PySem.EqNone.eq_int_none (a0U I q (by simp))
  |int j=>obtain⟨t',rfl⟩:=ry;exact eq_int (a0U I q a7S)
  |str j=>obtain⟨t',rfl⟩:=ry;exact PySem.EqMixed.eq_int_str (a0U I q (by simp))
  |_=>exact absurd (show false=true from hs) Bool.false_ne_true
 |str i=>
  obtain⟨t,rfl⟩:=rx;cases y with
  |non=>cases ry;exact PySem.EqNone.eq_str_none (a0U I q (by simp))
  |bl j=>cases ry;exact PySem.EqMixed.eq_str_bool (a0U I q (by simp))
  |int j=>obtain⟨t',rfl⟩:=ry;exact PySem.EqMixed.eq_str_int (a0U I q (by simp))
  |str j=>obtain⟨t',rfl⟩:=ry;exact eq_str (a0U I q a8J)
  |_=>exact absurd (show false=true from hs) Bool.false_ne_true
 |byt i=>
  obtain⟨t,rfl⟩:=rx;cases y with
  |byt j=>obtain⟨t',rfl⟩:=ry;exact PySem.W.eq_bytes (a0U I q a7r)
  |_=>exact absurd (show false=true from hs) Bool.false_ne_true
 |_=>cases y<;>exact absurd (show false=true from hs) Bool.false_ne_true
theorem b4M:OpR X (compareOp .NotEq) rNe:=by
 intro pins s σ H x y v u Q I rx ry h;obtain⟨hs,q⟩:=h;cases x with
 |non=>
  cases rx;cases y with
  |non=>cases ry;exact PySem.EqNone.ne_none_none (a0U I q (by simp))
  |bl j=>cases ry;exact PySem.EqNone.ne_none_bool (a0U I q (by simp))
  |int j=>obtain⟨t',rfl⟩:=ry;exact PySem.EqNone.ne_none_int (a0U I q (by simp))
  |str j=>obtain⟨t',rfl⟩:=ry;exact PySem.EqNone.ne_none_str (a0U I q (by simp))
  |_=>exact absurd (show false=true from hs) Bool.false_ne_true
 |bl i=>
  cases rx;cases y with
  |non=>cases ry;exact PySem.EqNone.ne_bool_none (a0U I q (by simp))
  |bl j=>cases ry;exact ne_bool (a0U I q (congrArg not b0D))
  |str j=>obtain⟨t',rfl⟩:=ry;exact PySem.EqMixed.ne_bool_str (a0U I q (by simp))
  |_=>exact absurd (show false=true from hs) Bool.false_ne_true
 |int i=>
  obtain⟨t,rfl⟩:=rx;cases y with
  |non=>cases ry;exact PySem.EqNone.ne_int_none (a0U I q (by simp))
  |int j=>obtain⟨t',rfl⟩:=ry;exact ne_int (a0U I q (congrArg not a7S))
  |str j=>obtain⟨t',rfl⟩:=ry;exact PySem.EqMixed.ne_int_str (a0U I q (by simp))
  |_=>exact absurd (show false=true from hs) Bool.false_ne_true
 |str i=>
  obtain⟨t,rfl⟩:=rx;cases y with
  |non=>cases ry;exact PySem.EqNone.ne_str_none (a0U I q (by simp))
  |bl j=>cases ry;exact PySem.EqMixed.ne_str_bool (a0U I q (by simp))
  |int j=>obtain⟨t',rfl⟩:=ry;exact PySem.EqMixed.ne_str_int (a0U I q (by simp))
  |str j=>obtain⟨t',rfl⟩:=ry;exact ne_str (a0U I q (congrArg not a8J))
  |_=>exact absurd (show false=true from hs) Bool.false_ne_true
 |byt i=>
  obtain⟨t,rfl⟩:=rx;cases y with
  |byt j=>obtain⟨t',rfl⟩:=ry;exact PySem.W.ne_bytes (a0U I q (congrArg not a7r))
  |_=>exact absurd (show false=true from hs) Bool.false_ne_true
 |_=>cases y<;>exact absurd (show false=true from hs) Bool.false_ne_true
theorem b2Z:OpR X (compareOp .Lt) (rI0 fun i j=>.bl (decide (i<j))):=b3z fun _ _ _ _ _ _ _ q=>lt_int q
theorem b1c:OpR X (compareOp .LtE) (rI0 fun i j=>.bl (decide (i≤j))):=b3z fun _ _ _ _ _ _ _ q=>le_int q
theorem b0I:OpR X (compareOp .Gt) (rI0 fun i j=>.bl (decide (j<i))):=b3z fun _ _ _ _ _ _ _ q=>gt_int q
theorem b2P:OpR X (compareOp .GtE) (rI0 fun i j=>.bl (decide (j≤i))):=b3z fun _ _ _ _ _ _ _ q=>ge_int q
theorem a8g:OpR X (compareOp .In) (fun x y H Q=>∃i j,x=.str i/\y=.str j/\Q (.bl (!(Builtin.Str.occurrences j i 0 j.length 1).isEmpty)) H):=by
 intro pins s σ H x y v u Q I rx ry h;obtain⟨i,j,rfl,rfl,q⟩:=h;obtain⟨t,rfl⟩:=rx;obtain⟨t',rfl⟩:=ry;exact in_str (a0U I q rfl)
theorem b0h:OpR X (compareOp .Is) (fun x y H Q=>y=.non/\Q (.bl (decide (x=.non))) H):=by
 intro pins s σ H x y v u Q I rx ry h;obtain⟨rfl,q⟩:=h;cases ry;refine is_none_gen (a0U I q ?_);cases x<;>first
  | (cases rx;rfl)
  | (obtain⟨t,rfl⟩:=rx;rfl)
theorem a8q:OpR X (compareOp .IsNot) (fun x y H Q=>y=.non/\Q (.bl (!decide (x=.non))) H):=by
 intro pins s σ H x y v u Q I rx ry h;obtain⟨rfl,q⟩:=h;cases ry;refine isnot_none_gen (a0U I q ?_);cases x<;>first
  | (cases rx;rfl)
  | (obtain⟨t,rfl⟩:=rx;rfl)
theorem a0E (b:Expr){op:CmpOp}(h:op≠.In:=by decide)(h2:op≠.NotIn:=by decide):behindInMarks op b=false:=by
 have e1:(op==CmpOp.In)=false:=by cases op<;>first |rfl |exact absurd rfl h
 have e2:(op==CmpOp.NotIn)=false:=by cases op<;>first |rfl |exact absurd rfl h2
 cases b<;>simp[behindInMarks,e1,e2]
theorem a1N {op:CmpOp}{r:R2}(ho:OpR X (compareOp op) r)(ha:PE X a ta)(hb:PE X b tb)(hm:behindInMarks op b=false):PE X (.Compare a [op] [b] pos) (tOp r ta tb):=by
 intro pins s σ H Q I h;exact wpAny_Compare1 (b4c ha hb I h fun v u s2 x y H2 I2 rx ry q=>ho pins s2 σ H2 x y v u Q I2 rx ry q) hm
def a9e (t:TE):TT:=fun σ H Q=>t σ H fun x H'=>∃k,x=.bl k/\Q k H'
theorem a0z {op:CmpOp}{r:R2}(ho:OpR X (compareOp op) r)(ha:PE X a ta)(hb:PE X b tb)(hm:behindInMarks op b=false):PT X (.Compare a [op] [b] pos) (a9e (tOp r ta tb)):=by
 intro pins s σ H Q I h;refine wpAny_isTrue_Compare1 (thn (ha pins s σ H _ I h) fun v s1 ⟨x,H1,I1,r1,q1⟩=>thn (hb pins s1 σ H1 _ I1 q1) fun u s2 ⟨y,H2,I2,r2,q2⟩=>
  thn (ho pins s2 σ H2 x y v u _ I2 r1 r2 q2) fun c s3 ⟨z,H3,I3,r3,k,e,q3⟩=>?_) hm
 subst e;cases r3;exact wpAny_truthy_bool ⟨H3,I3,q3⟩
def b2G (r r':R2)(ta tb tc:TE):TE:=fun σ H Q=>ta σ H fun x H1=>tb σ H1 fun y H2=>r x y H2 fun z H3=>∃k,z=.bl k ∧
 (if k=true then tc σ H3 fun w' H4=>r' y w' H4 Q else Q (.bl false) H3)
theorem a9g {op op':CmpOp}{r r':R2}(ho:OpR X (compareOp op) r)(ho':OpR X (compareOp op') r')(ha:PE X a ta)(hb:PE X b tb)(hc:PE X c tc)
  (hm:lastMarks [op,op'] [b,c]=false:=by with_unfolding_all rfl):PT X (.Compare a [op,op'] [b,c] pos) (a9e (b2G r r' ta tb tc)):=by
 intro pins s σ H Q I h;refine isTrue_chain (thn (ha pins s σ H _ I h) fun v s1 ⟨x,H1,I1,r1,q1⟩=>test_link (thn (hb pins s1 σ H1 _ I1 q1) fun u s2 ⟨y,H2,I2,r2,q2⟩=>
  thn (ho pins s2 σ H2 x y v u _ I2 r1 r2 q2) fun d s3 ⟨z,H3,I3,r3,k,e,q3⟩=>?_)) hm
 subst e;cases r3;refine wpAny_truthy_bool ?_;cases k with
 |false=>
  obtain⟨k',e',q'⟩:=q3;cases e';exact ite_ff ⟨H3,I3,q'⟩
 |true=>
  refine ite_tt (test_last (thn (hc pins s3 σ H3 _ I3 q3) fun w' s4 ⟨z',H4,I4,r4,q4⟩=>thn (ho' pins s4 σ H4 y z' u w' _ I4 r2 r4 q4) fun d' s5 ⟨z2,H5,I5,r5,k2,e2,q5⟩=>?_));subst e2;cases r5;exact wpAny_truthy_bool ⟨H5,I5,q5⟩
theorem a4U:(sizeLine:Nat)<2 ^ 63:=by rw[sizeLine_eq];decide
theorem a2r:OpR X (binaryOp .Add) (fun x y H Q=>∃i j,x=.str i/\y=.str j/\i.length+j.length≤sizeLine/\Q (.str (i++j)) H):=by
 intro pins s σ H x y v u Q I rx ry h;obtain⟨i,j,rfl,rfl,hz,q⟩:=h;obtain⟨t,rfl⟩:=rx;obtain⟨t',rfl⟩:=ry;exact add_str (fun t' tk=>⟨.str (i++j),H,I.tok _,⟨_,rfl⟩,q⟩) hz
theorem a2n {x:V}{us:List Value}(r:a1m [x] us):∃u,us=[u]/\a1c x u:=by
 cases r with
 |cons r1 r2=>cases r2;exact⟨_,rfl,r1⟩
theorem a6L {x y:V}{us:List Value}(r:a1m [x,y] us):∃u w',us=[u,w']/\a1c x u/\a1c y w':=by
 cases r with
 |cons r1 r2=>
  cases r2 with
  |cons r3 r4=>cases r4;exact⟨_,_,rfl,r1,r3⟩
theorem a4R (hc:X.calm=true):a1E X (.builtin "min") (fun xs H Q=>∃i j,xs=[.int i,.int j]/\Q (.int (if j<i then j else i)) H):=by
 intro pins s σ H xs us Q I r h;obtain⟨i,j,rfl,q⟩:=h;obtain⟨u,w',rfl,⟨t,rfl⟩,⟨t',rfl⟩⟩:=a6L r;refine min_two_ints (I.ok.hd hc) fun h' tk k=>⟨_,H,I.kept k,?_,q⟩
 by_cases hj:j<i
 ·rw[if_pos hj,if_pos hj];exact⟨_,rfl⟩
 ·rw[if_neg hj,if_neg hj];exact⟨_,rfl⟩
end
structure b1z (h:Heap) (x dx C:Addr) (mA:Str->Option Value):Prop where
 obj:h.get? x=some (PySem.W.instObj C dx)
 ns:h.Ns1 dx mA
 ne:dx≠x
theorem a8c {h:Heap}{dx:Addr}{mA:Str->Option Value}(n:h.Ns1 dx mA):∃od,h.get? dx=some od/\∀name,PySem.W.lookIn name od=some (mA name):=by
 obtain⟨o,es,ep,ho,hd,hk,_,hm⟩:=n;refine⟨o,ho,fun name=>?_⟩;have e:=hm name;unfold nsFind findBy at e;rw[← Array.find?_toList] at e;unfold PySem.W.lookIn;rw[hd]
 dsimp only
 split
 ·rename_i y q
  rw[q] at e;exact congrArg some e
 ·rename_i q
  rw[q] at e;have a:es.toList.any (·.refKey)=false:=by
   rw[List.any_eq_false];intro y hy;obtain⟨z,t,hkey⟩:=hk y (Array.mem_toList_iff.mp hy);simp[DictEntry.refKey,hkey]
  have a':¬es.toList.any (·.refKey)=true:=by rw[a];exact Bool.false_ne_true
  rw[if_neg a'];exact congrArg some e
theorem b1z.look {h:Heap}{x dx C:Addr}{mA:Str->Option Value}(I:b1z h x dx C mA):∃od,PySem.W.InstAt h x (PySem.W.instObj C dx) C (some od)/\∀name,PySem.W.lookIn name od=some (mA name):=
 let ⟨od,ho,hl⟩:=a8c I.ns
 ⟨od,⟨I.obj,rfl,rfl,ho⟩,hl⟩
section
variable {prog:Program}{w:World}{A:Around}{E:Value->Shared->Prop}{s:Shared}{K:Fg0}{x dx C f:Addr}{mA:Str->Option Value}{name:Str}{v:Value}
theorem b1H {expr:Bool}{Q:Value->Shared->Prop}(X:K.In s.heap)(I:b1z s.heap x dx C mA)(hg:PySem.W.plainGet K C name=true)(hh:PySem.W.hasDictIn K C=true)
  (ha:PySem.W.findIn K (.ref C) name=some none) (hv:mA name=some v) (hv':PySem.W.handedIn v=true) (h:Q v { s with toks:=s.toks+1 }) :
  wpAny (model prog w) A (getAttr (.ref x) name expr) Q E s:=by
 obtain⟨od,J,hl⟩:=I.look;exact PySem.W.get_value X J (PySem.W.plainGet_of hg).1 (PySem.W.findObj_own hh ha rfl (by rw[hl,hv])) hv' h
theorem a9m {pl:Sem Bool}{Q:Value×List Value->Shared->Prop}(X:K.In s.heap)(I:b1z s.heap x dx C mA)(hg:PySem.W.plainGet K C name=true)
  (hf:PySem.W.findIn K (.ref C) name=some (some (.ref f))) (ht:PySem.W.isFn K (.ref f)=true) (hv:mA name=none) (h:Q (.ref f,[.ref x]) s) :
  wpAny (model prog w) A (getMethod (.ref x) name pl) Q E s:=by
 obtain⟨od,J,hl⟩:=I.look;exact PySem.W.method_fn X J (PySem.W.plainGet_of hg).1 (PySem.W.plainGet_of hg).2 hf (beq_iff_eq.mp ht) (by show(PySem.W.lookIn name od).map (·.isSome)=some false;rw[hl,hv];rfl) h
theorem b1b {ns:List Str}{Q:Unit->Shared->Prop}(X:K.In s.heap)(I:b1z s.heap x dx C mA)
  (hs:PySem.W.findIn K (.ref C) "__setattr__"=some (some (.builtin "object.__setattr__"))) (hp:PySem.W.plainOver K C=true) (ht:PySem.W.takerIn K C name=some none) (hh:PySem.W.hasDictIn K C=true)
  (hw:PySem.Within mA ns) (hsz:ns.length≤sizeLine)
  (h:∀h',b1z h' x dx C (fun y=>if y=name then some v else mA y)->Heap.SameBut dx s.heap h'->Q () { s with heap:=h',toks:=s.toks+2 }) :
  wpAny (model prog w) A (setAttr (.ref x) name v) Q E s:=by
 obtain⟨od,J,hl⟩:=I.look;refine PySem.W.set_plain X J hs (PySem.W.osa_open (s:={ s with toks:=s.toks+1 }) (r:=none) X J hp ht fun b=>?_);obtain⟨cd,hc,hd'⟩:=PySem.W.any_some hh;have hx:s.heap.get? x=some ⟨.ref C,some dx,.plain,#[]⟩:=I.obj;refine wB0 (wP0 (wB0 (wB0 (wpAny_loadPart hx (wB0 (PySem.W.Looks.here (s:={ s with toks:=s.toks+1 }) (PySem.W.looks_clsIn X hc) ?_))))));rw[hd'];refine wP0 (a:=some dx) (wB0 (wP0 (wB0 ?_)));refine wpAny_nsSet1 (s:={ s with toks:=s.toks+1 }) I.ns fun h' hn2 hs2=>?_;obtain⟨oD,esD,epD,hoD,hdD,hcD⟩:=hn2.count (PySem.Within.cons name v hw);refine wB0 (wpAny_lookBehind hoD (by rw[hdD];exact pastItsLine_dict (Nat.le_trans hcD (by rw[List.length_cons];omega))) ?_);exact wP0 (h _ ⟨(hs2.2 _ (Ne.symm I.ne)).trans I.obj,hn2,I.ne⟩ hs2)
theorem a9u {R:Result->Shared->Prop}{vs:List Value}{kw:List (Str×Value)}(X:K.In s.heap)(hm:PySem.W.makesIn K C=true)
  (hi:PySem.W.findIn K (.ref C) "__init__"=some (some (.ref f))) (hf:PySem.W.typeIn K (.ref f)=some (.type "function"))
  (h:codeAny (model prog w) (A.under (.builtin "type.__call__" ⟨.ref C::vs,kw⟩)) (.call (.ref f) ⟨.ref (s.heap.objs.size+1)::vs,kw⟩) (PySem.W.InitBack (s.heap.objs.size+1) R)
   { s with heap:=(s.heap.push PySem.W.emptyDict).push (PySem.W.instObj C s.heap.objs.size) }) :
  codeAny (model prog w) A (.call (.ref C) ⟨vs,kw⟩) R s:=by
 obtain⟨hh,g,d,t,os⟩:=s;exact PySem.W.make_core (PySem.W.makes_of X hm) (PySem.W.looks_findIn X hi) (fun self=>PySem.W.bind_fn X self hf) (.inl rfl) h
theorem a7I {R:Result->Shared->Prop}(X:K.In s.heap)(hm:PySem.W.makesIn K C=true)
  (hi:PySem.W.findIn K (.ref C) "__init__"=some (some (.builtin "object.__init__")))
  (hb:∀self,PySem.W.Looks (model prog w) s.heap (bindSpecial (.builtin "object.__init__") self) (.builtin "object.__init__",[self]))
  (h:codeAny (model prog w) (A.under (.builtin "type.__call__" ⟨[.ref C],[]⟩)) (.call (.builtin "object.__init__") ⟨[.ref (s.heap.objs.size+1)],[]⟩) (PySem.W.InitBack (s.heap.objs.size+1) R)
   { s with heap:=(s.heap.push PySem.W.emptyDict).push (PySem.W.instObj C s.heap.objs.size) }) :
  codeAny (model prog w) A (.call (.ref C) ⟨[],[]⟩) R s:=by
 obtain⟨hh,g,d,t,os⟩:=s;exact PySem.W.make_core (PySem.W.makes_of X hm) (PySem.W.looks_findIn X hi) hb (.inr ⟨rfl,rfl⟩) h
end
def a1y (f:Str)(v:V):List (Str×V)->List (Str×V)
 |[]=>[(f,v)]
 | (g,x)::r=>if g=f then(g,v)::r else(g,x)::a1y f v r
theorem a0m (f g:Str)(v:V):∀fs:List (Str×V),(a1y f v fs).lookup g=if g=f then some v else fs.lookup g
 |[]=>by
  show List.lookup g [(f,v)]=_
  by_cases h:g=f
  ·have hb:(g==f)=true:=beq_iff_eq.mpr h
   simp only[List.lookup,hb,if_pos h]
  ·have hb:(g==f)=false:=beq_eq_false_iff_ne.mpr h
   simp only[List.lookup,hb,if_neg h]
 | (k,x)::r=>by
  have ih:=a0m f g v r;rw[show a1y f v ((k,x)::r)=(if k=f then(k,v)::r else(k,x)::a1y f v r) from rfl]
  by_cases hk:k=f
  ·rw[if_pos hk]
   by_cases h:g=k
   ·have hb:(g==k)=true:=beq_iff_eq.mpr h
    simp only[List.lookup,hb,if_pos (h.trans hk)]
   ·have hb:(g==k)=false:=beq_eq_false_iff_ne.mpr h
    simp only[List.lookup,hb,if_neg (fun e:g=f=>h (e.trans hk.symm))]
  ·rw[if_neg hk]
   by_cases h:g=k
   ·have hb:(g==k)=true:=beq_iff_eq.mpr h
    simp only[List.lookup,hb,if_neg (fun e:g=f=>hk (h.symm.trans e))]
   ·have hb:(g==k)=false:=beq_eq_false_iff_ne.mpr h
    simp only[List.lookup,hb];exact ih
theorem a3F (f:Str)(v:V):∀fs:List (Str×V),f∈(a1y f v fs).map (·.1)/\∀g,g∈fs.map (·.1)->g∈(a1y f v fs).map (·.1)
 |[]=>⟨by simp[a1y],fun g h=>by simp at h⟩
 | (k,x)::r=>by
  obtain⟨i1,i2⟩:=a3F f v r;rw[show a1y f v ((k,x)::r)=(if k=f then(k,v)::r else(k,x)::a1y f v r) from rfl]
  by_cases hk:k=f
  ·rw[if_pos hk]
   subst hk;exact⟨by simp,fun g h=>by simpa using h⟩
  ·rw[if_neg hk]
   refine⟨?_,fun g h=>?_⟩
   ·rw[List.map_cons]
    exact List.mem_cons_of_mem _ i1
   ·rw[List.map_cons] at h ⊢
    rcases List.mem_cons.mp h with e |e
    ·exact List.mem_cons.mpr (.inl e)
    ·exact List.mem_cons_of_mem _ (i2 g e)
theorem a1h (f:Str)(v:V):∀fs:List (Str×V),(a1y f v fs).length≤fs.length+1
 |[]=>by simp[a1y]
 | (k,x)::r=>by
  have ih:=a1h f v r;rw[show a1y f v ((k,x)::r)=(if k=f then(k,v)::r else(k,x)::a1y f v r) from rfl]
  by_cases hk:k=f
  ·rw[if_pos hk,List.length_cons,List.length_cons];omega
  ·rw[if_neg hk,List.length_cons,List.length_cons];omega
theorem a4E.some_of {v:V}{o:Option Value}(r:a4E (some v) o):∃u,o=some u/\a1c v u:=by
 cases o with
 |none=>exact(show False from r).elim
 |some u=>exact⟨u,rfl,r⟩
theorem a4E.none_of {o:Option Value}(r:a4E none o):o=none:=by
 cases o with
 |none=>rfl
 |some u=>exact(show False from r).elim
theorem a7v {v:V}{u:Value}(r:a1c v u):PySem.W.handedIn u=true:=by
 cases v with
 |non=>cases(show u=Value.none from r);rfl
 |bl b=>cases(show u=Value.bool b from r);rfl
 |int i=>obtain⟨t,e⟩:=(show ∃t,u=Value.int i t from r);cases e;rfl
 |str x=>obtain⟨t,e⟩:=(show ∃t,u=Value.str x t from r);cases e;rfl
 |byt b=>obtain⟨t,e⟩:=(show ∃t,u=Value.bytes b t from r);cases e;rfl
 |flt b=>obtain⟨t,e⟩:=(show ∃t,u=Value.float b t from r);cases e;rfl
 |ref a=>cases(show u=Value.ref a from r);rfl
 |ty n=>cases(show u=Value.type n from r);rfl
section
variable {P:Program}{w:World}{H H':Hp}{h h':Heap}{a C dx:Addr}{fs fs':List (Str×V)}
theorem a4x (hok:HOk P w H h)(e:H a=some (.ins C dx fs)):∃mA,b1z h a dx C mA/\(∀f,a4E (fs.lookup f) (mA f))/\PySem.Within mA (fs.map (·.1))/\fs.length≤1000/\H dx=some (.own a):=by
 obtain⟨d,z,ne,ob,mA,n,r,q⟩:=(show a1q P w H h a (.ins C dx fs) from hok a _ e);exact⟨mA,⟨ob,n,ne⟩,r,q,z,d⟩
end
structure Cls (K:Fg0) (C:Addr):Prop where
 pg:PySem.W.plainGet K C Str.empty=true
 hd:PySem.W.hasDictIn K C=true
 po:PySem.W.plainOver K C=true
 sa:PySem.W.findIn K (.ref C) "__setattr__"=some (some (.builtin "object.__setattr__"))
theorem Cls.get {K:Fg0}{C:Addr}(c:Cls K C)(f:Str):PySem.W.plainGet K C f=true:=c.pg
def a1D (K:Fg0)(C:Addr)(f:Str):Prop:=PySem.W.findIn K (.ref C) f=some none
theorem a1D.taker {K:Fg0}{C:Addr}{f:Str}(n:a1D K C f):PySem.W.takerIn K C f=some none:=by
 unfold PySem.W.takerIn;rw[show PySem.W.findIn K (.ref C) f=some none from n]
 rfl
structure a7l (K:Fg0) (C:Addr) (m:Str) (f:Addr):Prop where
 at_:PySem.W.findIn K (.ref C) m=some (some (.ref f))
 fn:PySem.W.isFn K (.ref f)=true
 kp:PySem.W.keepIn K (.ref f)=true
section
variable {X:Cx}{pins:List (Addr×Obj)}{σ:St}{H:Hp}{s:Shared}{a C dx:Addr}{fs:List (Str×V)}{f:Str}{v:V}{A:Around}{E:Value->Shared->Prop}
theorem a6V {b:Bool}{Q:Value->Shared->Prop}(I:Inv X pins σ H s)(e:H a=some (.ins C dx fs))(c:Cls X.K C)(n:a1D X.K C f)(l:fs.lookup f=some v)
  (h:∀u s',Inv X pins σ H s'->a1c v u->Q u s'):wpAny (model X.prog X.w) A (getAttr (.ref a) f b) Q E s:=by
 obtain⟨mA,O,r,_,_,_⟩:=a4x I.hok e;obtain⟨u,hu,ru⟩:=a4E.some_of (v:=v) (o:=mA f) (by rw[← l];exact r f);exact b1H I.kIn O (c.get f) c.hd n hu (a7v ru) (h u _ (I.tok _) ru)
theorem a2E {m:Str}{g:Addr}{pl:Sem Bool}{Q:Value×List Value->Shared->Prop}(I:Inv X pins σ H s)(e:H a=some (.ins C dx fs))(c:Cls X.K C)(k:a7l X.K C m g)(l:fs.lookup m=none)
  (h:Q (.ref g,[.ref a]) s):wpAny (model X.prog X.w) A (getMethod (.ref a) m pl) Q E s:=by
 obtain⟨mA,O,r,_,_,_⟩:=a4x I.hok e;have hn:mA m=none:=a4E.none_of (by rw[← l];exact r m);exact a9m I.kIn O (c.get m) k.at_ k.fn hn h
theorem a7k {y:V}{u:Value}{Q:Unit->Shared->Prop}(I:Inv X pins σ H s)(e:H a=some (.ins C dx fs))(c:Cls X.K C)(n:a1D X.K C f)(hl:fs.length<1000)(ry:a1c y u)
  (h:∀s',Inv X pins σ (upd H a (.ins C dx (a1y f y fs))) s'->Q () s'):wpAny (model X.prog X.w) A (setAttr (.ref a) f u) Q E s:=by
 obtain⟨mA,O,r,wi,_,ho⟩:=a4x I.hok e;have hz:(fs.map (·.1)).length≤sizeLine:=by rw[lM0,sizeLine_eq];omega
 refine b1b I.kIn O c.sa c.po n.taker c.hd wi hz fun h' O' sb=>h _ ?_;have hd:∃o,h'.get? dx=some o:=let ⟨o,_,_,e',_⟩:=O'.ns;⟨o,e'⟩
 refine I.write (x:=a) (e:=dx) (by rw[e];exact True.intro) (.inr ho) (fun b q hb z=>(sb.2 b hb).trans z) hd ?_;refine⟨by rw[a0h O.ne];exact ho,?_,O.ne,O'.obj,_,O'.ns,fun g=>?_,fun g hg=>?_⟩
 ·have:=a1h f y fs;omega
 ·show a4E ((a1y f y fs).lookup g) (if g=f then some u else mA g)
  rw[a0m]
  by_cases q:g=f
  ·rw[if_pos q,if_pos q];exact ry
  ·rw[if_neg q,if_neg q];exact r g
 ·by_cases q:g=f
  ·rw[q];exact(a3F f y fs).1
  ·refine(a3F f y fs).2 g (wi g fun z=>hg ?_)
   show(if g=f then some u else mA g)=none
   rw[if_neg q];exact z
theorem Inv.made (I:Inv X pins σ H s):Inv X pins σ (upd (upd H s.heap.objs.size (.own (s.heap.objs.size+1))) (s.heap.objs.size+1) (.ins C s.heap.objs.size []))
  { s with heap:=(s.heap.push PySem.W.emptyDict).push (PySem.W.instObj C s.heap.objs.size) }:=by
 have e1:(s.heap.push PySem.W.emptyDict).get? s.heap.objs.size=some PySem.W.emptyDict:=Heap.get?_push_size s.heap rfl;have e2:((s.heap.push PySem.W.emptyDict).push (PySem.W.instObj C s.heap.objs.size)).get? (s.heap.objs.size+1)=some (PySem.W.instObj C s.heap.objs.size):=by
  have:=Heap.get?_push_size (s.heap.push PySem.W.emptyDict) (o:=PySem.W.instObj C s.heap.objs.size) rfl
  rwa [Heap.size_push] at this
 have e3:(s.heap.push PySem.W.emptyDict).Ns s.heap.objs.size (fun _=>none):=⟨PySem.W.emptyDict,#[],_,e1,rfl,(fun e he=>absurd he (by simp)),fun _=>rfl⟩;have I1:=I.laid (a:=s.heap.objs.size) (o:=.own (s.heap.objs.size+1)) (h':=s.heap.push PySem.W.emptyDict) (t':=s.toks) (fun b u q=>hP0 _ q) (Nat.le_refl _) ⟨_,e1⟩;refine I1.laid (a:=s.heap.objs.size+1) (o:=.ins C s.heap.objs.size []) (t':=s.toks) (fun b u q=>hP0 _ q) (Nat.le_of_eq (Heap.size_push _ _)) ?_;have ne:s.heap.objs.size≠s.heap.objs.size+1:=Nat.ne_of_lt (Nat.lt_succ_self _);refine⟨by rw[a0h ne,a0b],Nat.zero_le _,ne,e2,fun _=>none,(Heap.Ns1.of_empty e3).at fun o q=>hP0 _ q,fun _=>True.intro,fun y hy=>absurd rfl hy⟩
theorem b0W {prog:Program}{w:World}{env:Env}{e:Expr}{f:Str}{pos:Pos}{s:Shared}{Q:Value->Shared->Prop}(hb:attributeBase e f env (eval e env)=eval e env)
  (h:wpAny (model prog w) A (eval e env) (fun o s₁=>wpAny (model prog w) A (getAttr o f true) Q E s₁) E s):wpAny (model prog w) A (eval (.Attribute e f pos) env) Q E s:=
 Attribute_any_ h (by rw[arm_eval_Attribute,hb])
end
def a8W (K:Fg0)(ta:TE)(f:Str):TE:=fun σ H Q=>ta σ H fun x H1=>∃a C dx fs v,x=.ref a/\H1 a=some (.ins C dx fs)/\Cls K C/\a1D K C f/\fs.lookup f=some v/\Q v H1
def sFld (K:Fg0)(ta tv:TE)(f:Str):TS:=fun D σ H=>tv σ H fun y H1=>ta σ H1 fun x H2=>∃a C dx fs,x=.ref a/\H2 a=some (.ins C dx fs)/\Cls K C/\a1D K C f/\fs.length<1000 ∧
 D.nx σ (upd H2 a (.ins C dx (a1y f y fs)))
section
variable {X:Cx}{o e value:Expr}{f:Str}{pos pos' tpos:Pos}{ta tv:TE}
theorem a0B (he:PE X e ta)(hb:attributeBase e f X.env (eval e X.env)=eval e X.env):PE X (.Attribute e f pos) (a8W X.K ta f):=by
 intro pins s σ H Q I h;refine b0W hb (thn (he pins s σ H _ I h) fun u s1 ⟨x,H1,I1,rx,a,C,dx,fs,v,ex,ea,c,n,l,q⟩=>?_);subst ex;obtain rfl:u=Value.ref a:=rx;exact a6V I1 ea c n l fun u' s2 I2 ru=>⟨v,H1,I2,ru,q⟩
theorem a2g (ha:PE X o ta)(hv:PE X value tv)(hs:swapsWith value (some (.Attribute o f pos')) pos.line X.env=pure false):PS X (.Assign [.Attribute o f pos'] value pos) (sFld X.K ta tv f):=by
 intro pins s σ H D I h;refine plainObj_wpAny_Assign_Attribute (thn (hv pins s σ H _ I h) fun u s1 ⟨y,H1,I1,ry,q⟩=>thn (ha pins s1 σ H1 _ I1 q) fun ov s2 ⟨x,H2,I2,rx,a,C,dx,fs,ex,ea,c,n,l,q2⟩=>?_) hs;subst ex;obtain rfl:ov=Value.ref a:=rx;exact a7k I2 ea c n l ry fun s3 I3=>⟨σ,_,I3,q2⟩
theorem b1w {pl:Sem Bool}{m:Str}{apos:Pos}{args:List Expr}{pins:List (Addr×Obj)}{s:Shared}{σ:St}{H:Hp}{Q:Value->Shared->Prop}{te:TE}(he:PE X e te)(I:Inv X pins σ H s)
  (h:te σ H fun x H1=>∃a C dx fs g,x=.ref a/\H1 a=some (.ins C dx fs)/\Cls X.K C/\a7l X.K C m g/\fs.lookup m=none ∧
   ∀s1,Inv X pins σ H1 s1->wpAny (model X.prog X.w) X.A (callWith pos (.ref g) [.ref a] (backTo pos (starEach args X.env)) (backToKw pos (keywordEach [] X.env))) Q X.xe s1)
  (ht:eval (.Call (.Attribute e m apos) args [] pos) X.env=(do
   let ov ← eval e X.env
   standAt apos.atName
   let (f,first) ← holding [ov] (getMethod ov m pl)
   callWith pos f first (backTo pos (starEach args X.env)) (backToKw pos (keywordEach [] X.env)))) :
  wpAny (model X.prog X.w) X.A (eval (.Call (.Attribute e m apos) args [] pos) X.env) Q X.xe s:=by
 refine PySem.W.methodCall_KW (pl:=pl) (thn (he pins s σ H _ I h) fun u s1 ⟨x,H1,I1,rx,a,C,dx,fs,g,ex,ea,c,k,l,q⟩=>?_) ht;subst ex;obtain rfl:u=Value.ref a:=rx;exact a2E I1 ea c k l (q s1 I1)
end
section
variable {X:Cx}{pins:List (Addr×Obj)}{σ:St}{H:Hp}{s:Shared}{A:Around}{E:Value->Shared->Prop}{Q:Value->Shared->Prop}{c:Value}{b:Bool}
inductive a6w (K:Fg0) (H:Hp):V->Value->Prop where
 |non:a6w K H .non (.type "NoneType")
 |bl (x:Bool):a6w K H (.bl x) (.type "bool")
 |int (i:Int):a6w K H (.int i) (.type "int")
 |str (x:Str):a6w K H (.str x) (.type "str")
 |flt (x:UInt64):a6w K H (.flt x) (.type "float")
 |lst {a:Addr} {xs:List V} (e:H a=some (.lst xs)):a6w K H (.ref a) (.type "list")
 |frz {a:Addr} {o:Obj} {xs:List V} (e:H a=some (.frz o (.lst xs))):a6w K H (.ref a) (.type "list")
 |tup {a:Addr} {xs:List V} (e:H a=some (.tup xs)):a6w K H (.ref a) (.type "tuple")
 |dK {a:Addr} {kvs:List (Key×V)} (e:H a=some (.dK kvs)):a6w K H (.ref a) (.type "dict")
 |dT {a:Addr} {kvs:List (List Key×V)} (e:H a=some (.dT kvs)):a6w K H (.ref a) (.type "dict")
 |ins {a C dx:Addr} {fs:List (Str×V)} (e:H a=some (.ins C dx fs)) (cl:Cls K C) (ha:PySem.W.findIn K (.ref C) "__class__"=some (some (.builtin "object.__class__")))
   (hn:PySem.W.specialIn K (.builtin "object.__class__") "__get__"=some (some (.builtin "getset_descriptor.__get__"))) (htk:PySem.W.takesIn K (.builtin "object.__class__")=some true)
   (hm:PySem.W.mroIn K C (.type "object")=some true):a6w K H (.ref a) (.ref C)
theorem a7T {x:V}{u t:Value}(I:Inv X pins σ H s)(rx:a1c x u)(ty:a6w X.K H x t)(e:PySem.W.kitOne X.K t c=some b)(h:∀tk,Q (.bool b) { s with toks:=tk }) :
  wpAny (model X.prog X.w) A (call (.builtin "isinstance") [u,c]) Q E s:=by
 cases ty with
 |non=>cases(show u=Value.none from rx);exact PySem.W.kia_one PySem.W.kitx_none I.kIn True.intro e (fun z=>nomatch z) h
 |bl y=>cases(show u=Value.bool y from rx);exact PySem.W.kia_one PySem.W.kitx_bool I.kIn True.intro e (fun z=>nomatch z) h
 |int i=>obtain⟨t,q⟩:=(show ∃t,u=Value.int i t from rx);cases q;exact PySem.W.kia_one PySem.W.kitx_int I.kIn True.intro e (fun z=>nomatch z) h
 |str y=>obtain⟨t,q⟩:=(show ∃t,u=Value.str y t from rx);cases q;exact PySem.W.kia_one PySem.W.kitx_str I.kIn True.intro e (fun z=>nomatch z) h
 |flt y=>obtain⟨t,q⟩:=(show ∃t,u=Value.float y t from rx);cases q;exact PySem.W.kia_one PySem.W.kitx_float I.kIn True.intro e (fun z=>nomatch z) h
 |@lst a xs ea=>
  cases(show u=Value.ref a from rx)
  obtain⟨_,_,n,_,h1⟩:=(show a1q X.prog X.w H s.heap a (.lst xs) from I.hok a _ ea);exact PySem.W.kia_one PySem.W.kitx_list I.kIn ⟨_,h1,rfl⟩ e (fun z=>nomatch z) h
 |@frz a ob xs ea=>
  cases(show u=Value.ref a from rx)
  obtain⟨_,_,_,n,_,h1⟩:=(show a1q X.prog X.w H s.heap a (.frz ob (.lst xs)) from I.hok a _ ea);exact PySem.W.kia_one PySem.W.kitx_list I.kIn ⟨_,h1,rfl⟩ e (fun z=>nomatch z) h
 |@tup a xs ea=>
  cases(show u=Value.ref a from rx)
  obtain⟨_,_,_,p⟩:=(show a1q X.prog X.w H s.heap a (.tup xs) from I.hok a _ ea);obtain⟨o,h1,h2,_⟩:=p;exact PySem.W.kia_one PySem.W.kitx_tuple I.kIn ⟨o,h1,h2⟩ e (fun z=>nomatch z) h
 |@dK a kvs ea=>
  cases(show u=Value.ref a from rx)
  obtain⟨_,_,vs,_,p⟩:=(show a1q X.prog X.w H s.heap a (.dK kvs) from I.hok a _ ea);obtain⟨o,es,ep,h1,h2,_⟩:=p;exact PySem.W.kia_one PySem.W.kitx_dict I.kIn ⟨o,h1,h2.1⟩ e (fun z=>nomatch z) h
 |@dT a kvs ea=>
  cases(show u=Value.ref a from rx)
  obtain⟨_,_,xs,_,o,es,ep,h1,h2,_⟩:=(show a1q X.prog X.w H s.heap a (.dT kvs) from I.hok a _ ea);exact PySem.W.kia_one PySem.W.kitx_dict I.kIn ⟨o,h1,h2.1⟩ e (fun z=>nomatch z) h
 |@ins a C dx fs ea cl ha hn htk hm=>
  cases(show u=Value.ref a from rx)
  obtain⟨mA,O,_⟩:=a4x I.hok ea;obtain⟨od,J,_⟩:=O.look;exact PySem.W.kia_one (PySem.W.kitx_own (cl.get _) cl.hd ha hn htk hm) I.kIn J e (fun z=>nomatch z) h
end
structure a1o (k:Nat) (A:Around):Prop where
 hd:A.handled=none
 dp:A.depth+3 * k+5<recursionLimit
 un:A.units+16 * k+200<cLine
theorem a1o.mono {j k:Nat}{A:Around}(r:a1o k A)(h:j≤k):a1o j A:=⟨r.hd,by have:=r.dp;omega,by have:=r.un;omega⟩
theorem a1o.deeper {k:Nat}{A:Around}(r:a1o (k+1) A)(env:Env):a1o k (A.deeper env):=
 ⟨r.hd,by have:=r.dp;show A.depth+1+3 * k+5<_;omega,by have:=r.un;show A.units+3+16 * k+200<_;omega⟩
theorem a1o.in1 {k:Nat}{A:Around}(r:a1o (k+1) A):a1o k A.in1:=
 ⟨r.hd,by have:=r.dp;show A.depth+3 * k+5<_;omega,by have:=r.un;show A.units+1+16 * k+200<_;omega⟩
theorem a6N {A:Around}{C:Addr}{us:List Value}{kw:List (Str×Value)}:(A.under (.builtin "type.__call__" ⟨.ref C::us,kw⟩)).depth=A.depth+1:=by
 first |rfl |simp[Around.under,Code.weight,Code.isCreation,Code.isGuard,Code.isCaller,Code.frames,Code.isFrame,guardIds]
theorem a7d {A:Around}{C:Addr}{us:List Value}{kw:List (Str×Value)}:(A.under (.builtin "type.__call__" ⟨.ref C::us,kw⟩)).units=A.units+1:=by
 first |rfl |simp[Around.under,Code.cUnits,Code.frames,Code.isFrame]
theorem a1o.make {k:Nat}{A:Around}(r:a1o (k+1) A)(C:Addr)(us:List Value)(kw:List (Str×Value)):a1o k (A.under (.builtin "type.__call__" ⟨.ref C::us,kw⟩)):=
 ⟨r.hd,by have:=r.dp;rw[a6N];omega,by have:=r.un;rw[a7d];omega⟩
theorem a1o.depth {k:Nat}{A:Around}(r:a1o k A):A.depth<recursionLimit:=by have:=r.dp;omega
theorem a1o.units {k:Nat}{A:Around}(r:a1o k A):A.units+64<cLine:=by have:=r.un;omega
def a7V:TA:=fun _ H Q=>Q [] H
def a1H (ta:TE)(tr:TA):TA:=fun σ H Q=>ta σ H fun x H1=>tr σ H1 fun xs H2=>Q (x::xs) H2
section
variable {X:Cx}{e:Expr}{es:List Expr}{te:TE}{t:TA}{pos:Pos}
theorem a0c:PA X [] a7V:=fun _ _ _ _ H Q I h=>Calls.spliced_nil ⟨[],H,I,.nil,h⟩
theorem a0a (ha:PE X e te)(hr:PA X es t)(hs:starEach (e::es) X.env=(false,eval e X.env)::starEach es X.env:=by rfl):PA X (e::es) (a1H te t):=by
 intro pos pins s σ H Q I h;rw[hs];show wpAny _ _ (spliced ((false,eval e X.env)::backTo pos (starEach es X.env))) _ _ s;refine Calls.spliced_cons (thn (ha pins s σ H _ I h) fun u s1 ⟨x,H1,I1,r1,q1⟩=>?_);exact thn (hr pos pins s1 σ H1 _ I1 q1) fun us s2 ⟨xs,H2,I2,r2,q2⟩=>⟨x::xs,H2,I2,.cons r1 r2,q2⟩
def b3M (t:TA):TE:=fun σ H Q=>t σ H fun xs H1=>xs.length≤sizeLine/\∀p,H1 p=none->Q (.ref p) (upd H1 p (.tup xs))
def b5w (t:TA):TE:=fun σ H Q=>t σ H fun xs H1=>xs.length≤sizeLine/\∀p,H1 p=none->Q (.ref p) (upd H1 p (.lst xs))
theorem a0I {x1}(h:PA X es t):PE X (.Tuple es x1 pos) (b3M t):=by
 intro pins s σ H Q I hq;refine wpAny_Tuple_spliced (thn (h pos pins s σ H _ I hq) fun us s1 ⟨xs,H1,I1,r,z,q⟩=>⟨by rw[← r.length];exact z,?_⟩);have hf:H1 s1.heap.objs.size=none:=I1.hok.fresh (Nat.le_refl _);refine⟨.ref s1.heap.objs.size,upd H1 s1.heap.objs.size (.tup xs),I1.laid (t':=s1.toks) (fun b u e=>hP0 _ e) (Nat.le_refl _) ?_,rfl,q _ hf⟩;exact⟨z,us,r,⟨_,Heap.get?_push_size _ rfl,rfl,_,rfl⟩⟩
theorem a1t (h:PA X es t):PE X (.List es pos) (b5w t):=by
 intro pins s σ H Q I hq;refine wpAny_List_spliced (thn (h pos pins s σ H _ I hq) fun us s1 ⟨xs,H1,I1,r,z,q⟩=>⟨by rw[← r.length];exact z,?_⟩);have hf:H1 s1.heap.objs.size=none:=I1.hok.fresh (Nat.le_refl _);refine⟨.ref s1.heap.objs.size,upd H1 s1.heap.objs.size (.lst xs),I1.laid (t':=s1.toks) (fun b u e=>hP0 _ e) (Nat.le_refl _) ?_,rfl,q _ hf⟩;exact⟨z,us,0,r,Heap.get?_push_size _ rfl⟩
end
abbrev Sp:=List V->Hp->VK->XK->Prop
abbrev CXT:=List Env->Hp->Shared->XK->Value->Shared->Prop
structure a7i (P:Program) (w:World) (K:Fg0) (mg:Str->Option Value) (base:Heap) (A:Around) (outer:List Env) (s:Shared) (H:Hp):Prop where
 frames:A.frames=some outer
 mod:Mod K mg base
 bs:∀b o,base.get? b=some o->s.heap.get? b=some o/\H b=none
 bsz:base.objs.size≤s.heap.objs.size
 funs:s.heap.FunFrames base outer
 frf:∀b∈frs outer,H b=none
 hok:HOk P w H s.heap
 bare:AllBare s.gens
def CE (outer:List Env)(P:Program)(w:World)(H:Hp)(s:Shared)(Q:VK)(u:Value)(s':Shared):Prop:=
 ∃v H',s'.os=s.os/\AllBare s'.gens/\Un (frs outer) [] H H' s.heap s'.heap/\HOk P w H' s'.heap/\a1c v u/\Q v H'
def CR (CX:CXT)(outer:List Env)(P:Program)(w:World)(H:Hp)(s:Shared)(Q:VK)(E:XK)(r:Result)(s':Shared):Prop:=
 match r with
 | .ok (.ret u)=>CE outer P w H s Q u s'
 | .ok _=>False
 | .error e=>CX outer H s E e s'
structure a0w (P:Program) (w:World) (K:Fg0) (mg:Str->Option Value) (base:Heap) (CX:CXT) (k:Nat) (f:Addr) (fd:FuncData) (ps:List Str) (sp:Sp):Prop where
 len:∀vs H Q E,sp vs H Q E->vs.length=ps.length
 run:∀(A:Around) (outer:List Env) (s:Shared) (H:Hp) (args:Args) (us:List Value) (vs:List V) (Q:VK) (E:XK),a1o k A->a7i P w K mg base A outer s H->BindsTo s fd args (ps.zip us)->a1m vs us->sp vs H Q E →
  codeAny (model P w) A (.call (.ref f) args) (CR CX outer P w H s Q E) s
theorem a7i.make {P:Program}{w:World}{K:Fg0}{mg:Str->Option Value}{base:Heap}{A:Around}{outer:List Env}{s:Shared}{H:Hp}(e:a7i P w K mg base A outer s H)(C:Addr)(us:List Value)(kw:List (Str×Value)) :
  a7i P w K mg base (A.under (.builtin "type.__call__" ⟨.ref C::us,kw⟩)) outer s H:=⟨by first |exact e.frames | (simpa[Around.under,Code.envs,Code.isFrame,pushEnvs] using e.frames),e.mod,e.bs,e.bsz,e.funs,e.frf,e.hok,e.bare⟩
theorem a7i.in1 {P:Program}{w:World}{K:Fg0}{mg:Str->Option Value}{base:Heap}{A:Around}{outer:List Env}{s:Shared}{H:Hp}(e:a7i P w K mg base A outer s H) :
  a7i P w K mg base A.in1 outer s H:=⟨e.frames,e.mod,e.bs,e.bsz,e.funs,e.frf,e.hok,e.bare⟩
section
variable {X:Cx}{pins:List (Addr×Obj)}{σ:St}{H:Hp}{s s':Shared}
theorem Inv.env0 (I:Inv X pins σ H s):a7i X.prog X.w X.K X.mg X.base X.A X.stack s H:=
 ⟨I.ok.frames,I.ok.mod,I.bs,Nat.le_trans I.ok.bsz I.sz,I.stack,I.stkFree,I.hok,I.bare⟩
theorem Inv.after {Q:VK}{u:Value}(I:Inv X pins σ H s)(h:CE X.stack X.prog X.w H s Q u s'):EP X pins σ Q u s':=by
 obtain⟨v,H',os,bare,un,hok,r,q⟩:=h;obtain⟨hh,g,d,t,os'⟩:=s';obtain rfl:os'=s.os:=os;exact⟨v,H',I.call (h':=hh) (g':=g) (d':=d) (t':=t) (ch:=[]) un hok bare (fun b z=>absurd z (by simp)),r,q⟩
end
def a6U (sp:Sp)(dvs:List V)(E:XK)(t:TA):TE:=fun σ H Q=>t σ H fun vs H1=>sp (vs++dvs) H1 Q E
def b3n (C:Addr)(m:Str)(sp:Sp)(dvs:List V)(E:XK)(ta:TE)(t:TA):TE:=fun σ H Q=>ta σ H fun x H1=>∃a dx fs,x=.ref a/\H1 a=some (.ins C dx fs)/\fs.lookup m=none ∧
 t σ H1 fun vs H2=>sp (x::(vs++dvs)) H2 Q E
def b5e (C:Addr)(sp:Sp)(dvs:List V)(E:XK)(t:TA):TE:=fun σ H Q=>t σ H fun vs H1=>∀x dx,H1 x=none->H1 dx=none->dx≠x →
 sp (.ref x::(vs++dvs)) (upd (upd H1 dx (.own x)) x (.ins C dx [])) (fun v H2=>v=.non/\Q (.ref x) H2) E
def a1s (K:Fg0)(fd:FuncData)(ps:List Str)(ds:List Value):Prop:=
 ∀(s:Shared) (us:List Value),K.In s.heap->(us++ds).length=ps.length->BindsTo s fd ⟨us,[]⟩ (ps.zip (us++ds))
theorem a1s.all {K:Fg0}{fd:FuncData}{ps:List Str}(h:∀us:List Value,us.length=ps.length->bindArgs fd ⟨us,[]⟩=pure (ps.zip us)):a1s K fd ps []:=fun s us _ hl=>by
 rw[List.append_nil] at hl ⊢;exact .of_eq (h us hl)
def a3G (CX:CXT)(X:Cx)(E:XK):Prop:=∀(pins:List (Addr×Obj)) (σ:St) (H:Hp) (s:Shared) (e:Value) (s':Shared),Inv X pins σ H s->CX X.stack H s E e s'->X.xe e s'
section
variable {X:Cx}{CX:CXT}{k:Nat}{f C:Addr}{fd:FuncData}{ps:List Str}{sp:Sp}{dvs:List V}{ds:List Value}{E:XK}{x m:Str}{p pos apos:Pos}{e o:Expr}{es:List Expr}{ta:TE}{t:TA}
theorem a7M {pins:List (Addr×Obj)}{σ:St}{H:Hp}{s:Shared}{Q:VK}{us:List Value}{vs:List V}(F:a0w X.prog X.w X.K X.mg X.base CX k f fd ps sp)(hr:a1o k X.A)(hb:a1s X.K fd ps ds)(hd:a1m dvs ds)(hx:a3G CX X E)
  (I:Inv X pins σ H s) (r:a1m vs us) (h:sp (vs++dvs) H Q E):wpAny (model X.prog X.w) X.A (call (.ref f) us) (EP X pins σ Q) X.xe s:=by
 have r2:a1m (vs++dvs) (us++ds):=r.append hd;have hl:(us++ds).length=ps.length:=by rw[← r2.length];exact F.len _ _ _ _ h
 refine wpAny_call (codeAny_mono (F.run X.A X.stack s H ⟨us,[]⟩ (us++ds) (vs++dvs) Q E hr I.env0 (hb s us I.kIn hl) r2 h) fun r s' hq=>?_);cases r with
 |error e=>exact hx pins σ H s e s' I hq
 |ok fl=>
  cases fl with
  |ret u=>exact I.after hq
  |next=>exact False.elim hq
  |brk=>exact False.elim hq
  |cont=>exact False.elim hq
theorem a0g (F:a0w X.prog X.w X.K X.mg X.base CX k f fd ps sp)(hr:a1o k X.A)(hg:Gl X x)(hm:X.mg x=some (.ref f))(hk:PySem.W.keepIn X.K (.ref f)=true)(hb:a1s X.K fd ps ds)(hd:a1m dvs ds)(hx:a3G CX X E)
  (ha:PA X (e::es) t) (hdb:(x==("__debug__":Str))=false:=by decide) (he:starEach (e::es) X.env=(false,eval e X.env)::starEach es X.env:=by rfl) (hpl:(backTo pos (starEach es X.env)).any (·.1)=false:=by rfl) :
  PE X (.Call (.Name x p) (e::es) [] pos) (a6U sp dvs E t):=by
 intro pins s σ H Q I h;refine wpAny_Call_Name_kw (a4c I hg hm ?_ hdb);refine PySem.W.callWith_K (h₀:=X.base) I.ok.mod.kin hk (thn (ha pos pins s σ H _ I h) fun us s1 ⟨vs,H1,I1,r,q⟩=>⟨I1.kIn,?_⟩) he hpl;exact a7M F hr hb hd hx I1 r q
theorem a0A {pl:Sem Bool}(he:PE X o ta)(c:Cls X.K C)(hm:a7l X.K C m f)(F:a0w X.prog X.w X.K X.mg X.base CX k f fd ps sp)(hr:a1o k X.A)(hb:a1s X.K fd ps ds)(hd:a1m dvs ds)(hx:a3G CX X E)(ha:PA X (e::es) t)
  (hst:starEach (e::es) X.env=(false,eval e X.env)::starEach es X.env:=by rfl) (hpl:(backTo pos (starEach es X.env)).any (·.1)=false:=by rfl)
  (ht:eval (.Call (.Attribute o m apos) (e::es) [] pos) X.env=(do
   let ov ← eval o X.env
   standAt apos.atName
   let (f,first) ← holding [ov] (getMethod ov m pl)
   callWith pos f first (backTo pos (starEach (e::es) X.env)) (backToKw pos (keywordEach [] X.env))):=by rfl) :
  PE X (.Call (.Attribute o m apos) (e::es) [] pos) (b3n C m sp dvs E ta t):=by
 intro pins s σ H Q I h;refine PySem.W.methodCall_KW (pl:=pl) (thn (he pins s σ H _ I h) fun u s1 ⟨x,H1,I1,rx,a,dx,fs,ex,ea,l,q⟩=>?_) ht;subst ex;obtain rfl:u=Value.ref a:=rx;refine a2E I1 ea c hm l ?_;refine PySem.W.callWith_K (first:=[.ref a]) (h₀:=X.base) I.ok.mod.kin hm.kp (thn (ha pos pins s1 σ H1 _ I1 q) fun us s2 ⟨vs,H2,I2,r,q2⟩=>⟨I2.kIn,?_⟩) hst hpl;exact a7M (us:=.ref a::us) (vs:=.ref a::vs) F hr hb hd hx I2 (.cons rfl r) q2
theorem a6i {pl:Sem Bool}(he:PE X o ta)(c:Cls X.K C)(hm:a7l X.K C m f)(F:a0w X.prog X.w X.K X.mg X.base CX k f fd ps sp)(hr:a1o k X.A)(hb:a1s X.K fd ps ds)(hd:a1m dvs ds)(hx:a3G CX X E)
  (ht:eval (.Call (.Attribute o m apos) [] [] pos) X.env=(do
   let ov ← eval o X.env
   standAt apos.atName
   let (f,first) ← holding [ov] (getMethod ov m pl)
   callWith pos f first (backTo pos (starEach [] X.env)) (backToKw pos (keywordEach [] X.env))):=by rfl) :
  PE X (.Call (.Attribute o m apos) [] [] pos) (b3n C m sp dvs E ta a7V):=by
 intro pins s σ H Q I h;refine PySem.W.methodCall_KW (pl:=pl) (thn (he pins s σ H _ I h) fun u s1 ⟨x,H1,I1,rx,a,dx,fs,ex,ea,l,q⟩=>?_) ht;subst ex;obtain rfl:u=Value.ref a:=rx;refine a2E I1 ea c hm l ?_;exact PySem.W.callWith_K0 (first:=[.ref a]) I1.kIn hm.kp (a7M (us:=[.ref a]) (vs:=[.ref a]) F hr hb hd hx I1 (.cons rfl .nil) q)
structure Mk (K:Fg0) (C f:Addr):Prop where
 makes:PySem.W.makesIn K C=true
 init:PySem.W.findIn K (.ref C) "__init__"=some (some (.ref f))
 fn:PySem.W.isFn K (.ref f)=true
 kp:PySem.W.keepIn K (.ref C)=true
theorem a9q {pins:List (Addr×Obj)}{σ:St}{H:Hp}{s:Shared}{Q:VK}{us:List Value}{vs:List V}(M:Mk X.K C f)(F:a0w X.prog X.w X.K X.mg X.base CX k f fd ps sp)(hr:a1o (k+1) X.A)(hb:a1s X.K fd ps ds)(hd:a1m dvs ds)
  (hx:a3G CX X E) (I:Inv X pins σ H s) (r:a1m vs us)
  (h:∀x dx,H x=none->H dx=none->dx≠x->sp (.ref x::(vs++dvs)) (upd (upd H dx (.own x)) x (.ins C dx [])) (fun v H2=>v=.non/\Q (.ref x) H2) E) :
  wpAny (model X.prog X.w) X.A (call (.ref C) us) (EP X pins σ Q) X.xe s:=by
 have hq:=h (s.heap.objs.size+1) s.heap.objs.size (I.hok.fresh (Nat.le_succ _)) (I.hok.fresh (Nat.le_refl _)) (Nat.ne_of_lt (Nat.lt_succ_self _));have I2:=Inv.made (C:=C) I;have r2:a1m (V.ref (s.heap.objs.size+1)::(vs++dvs)) (Value.ref (s.heap.objs.size+1)::(us++ds)):=.cons rfl (r.append hd);have hl:(Value.ref (s.heap.objs.size+1)::us++ds).length=ps.length:=by
  have e:=r2.length;rw[F.len _ _ _ _ hq] at e;exact e.symm
 refine wpAny_call (a9u (f:=f) I.kIn M.makes M.init (beq_iff_eq.mp M.fn) (codeAny_mono (F.run _ X.stack _ _ ⟨Value.ref (s.heap.objs.size+1)::us,[]⟩ (Value.ref (s.heap.objs.size+1)::(us++ds)) _ _ E (hr.make C us [])
  (I2.env0.make C us []) (hb _ (Value.ref (s.heap.objs.size+1)::us) I2.kIn hl) r2 hq) fun r s' hq'=>?_))
 cases r with
 |error e=>exact hx pins σ _ _ e s' I2 hq'
 |ok fl=>
  cases fl with
  |ret u=>
   obtain⟨v,H',I3,rv,ev,q3⟩:=I2.after hq';subst ev;exact⟨rv,⟨V.ref (s.heap.objs.size+1),H',I3,rfl,q3⟩⟩
  |next=>exact False.elim hq'
  |brk=>exact False.elim hq'
  |cont=>exact False.elim hq'
theorem a3r (M:Mk X.K C f)(F:a0w X.prog X.w X.K X.mg X.base CX k f fd ps sp)(hr:a1o (k+1) X.A)(hg:Gl X x)(hm:X.mg x=some (.ref C))(hb:a1s X.K fd ps ds)(hd:a1m dvs ds)(hx:a3G CX X E)
  (ha:PA X (e::es) t) (hdb:(x==("__debug__":Str))=false:=by decide) (he:starEach (e::es) X.env=(false,eval e X.env)::starEach es X.env:=by rfl) (hpl:(backTo pos (starEach es X.env)).any (·.1)=false:=by rfl) :
  PE X (.Call (.Name x p) (e::es) [] pos) (b5e C sp dvs E t):=by
 intro pins s σ H Q I h;refine wpAny_Call_Name_kw (a4c I hg hm ?_ hdb);refine PySem.W.callWith_K (h₀:=X.base) I.ok.mod.kin M.kp (thn (ha pos pins s σ H _ I h) fun us s1 ⟨vs,H1,I1,r,q⟩=>⟨I1.kIn,?_⟩) he hpl;exact a9q M F hr hb hd hx I1 r q
end
structure a0j (N P:List Str) (sc:Scope):Prop where
 kind:sc.kind=.function
 co:sc.isCoroutine=false
 gen:sc.isGenerator=false
 nd:N.Nodup
 pre:N.take P.length=P
 par:∀x∈P,sc.names.lookup x=some .local\/sc.names.lookup x=some .cell
 nofree:∀y∈sc.names,y.2≠.free
theorem a5k {kindOf:Str->Option NameKind}{x:Str}:∀{binds:List (Str×Value)} {m:Str->Option Value},(∀v,(x,v)∉binds)->bindL kindOf binds m x=m x
 |[],_,_=>rfl
 | (n,v)::r,m,h=>by
  unfold bindL;rw[a5k fun w hw=>h w (List.mem_cons_of_mem _ hw)]
  split
  ·have:x≠n:=by rintro rfl;exact h v List.mem_cons_self
   simp[this]
  ·rfl
theorem a5i {kindOf:Str->Option NameKind}{x:Str}:∀{binds:List (Str×Value)} {m:Str->Option Value},(∀v,(x,v)∉binds)->bindC kindOf binds m x=m x
 |[],_,_=>rfl
 | (n,v)::r,m,h=>by
  unfold bindC;rw[a5i fun w hw=>h w (List.mem_cons_of_mem _ hw)]
  split
  ·rfl
  ·have:x≠n:=by rintro rfl;exact h v List.mem_cons_self
   simp[this]
theorem a4N {kindOf:Str->Option NameKind}{x:Str}{v:Value}:∀{P:List Str} {vs:List Value} {i:Nat} {m:Str->Option Value},P.Nodup->P[i]? =some x->vs[i]? =some v->kindOf x=some .local →
  bindL kindOf (P.zip vs) m x=some v
 |[],_,_,_,_,h,_,_=>by simp at h
 |_::_,[],_,_,_,_,h,_=>by simp at h
 |p::P,w::vs,0,m,nd,h1,h2,hk=>by
  simp at h1 h2;subst h1;subst h2;show bindL kindOf ((p,w)::P.zip vs) m p=_;unfold bindL;rw[a5k fun v hv=>(List.nodup_cons.mp nd).1 (List.of_mem_zip hv).1,if_pos hk];simp
 |p::P,w::vs,i+1,m,nd,h1,h2,hk=>by
  show bindL kindOf ((p,w)::P.zip vs) m x=_;unfold bindL;exact a4N (i:=i) (List.nodup_cons.mp nd).2 (by simpa using h1) (by simpa using h2) hk
theorem a5o {kindOf:Str->Option NameKind}{x:Str}{v:Value}:∀{P:List Str} {vs:List Value} {i:Nat} {m:Str->Option Value},P.Nodup->P[i]? =some x->vs[i]? =some v->kindOf x≠some .local →
  bindC kindOf (P.zip vs) m x=some v
 |[],_,_,_,_,h,_,_=>by simp at h
 |_::_,[],_,_,_,_,h,_=>by simp at h
 |p::P,w::vs,0,m,nd,h1,h2,hk=>by
  simp at h1 h2;subst h1;subst h2;show bindC kindOf ((p,w)::P.zip vs) m p=_;unfold bindC;rw[a5i fun v hv=>(List.nodup_cons.mp nd).1 (List.of_mem_zip hv).1,if_neg hk];simp
 |p::P,w::vs,i+1,m,nd,h1,h2,hk=>by
  show bindC kindOf ((p,w)::P.zip vs) m x=_;unfold bindC;exact a5o (i:=i) (List.nodup_cons.mp nd).2 (by simpa using h1) (by simpa using h2) hk
def a2U (N:List Str)(vs:List V):St:=vs.map some++List.replicate (N.length-vs.length) none
def a7n (CX:CXT)(P:Program)(w:World)(K:Fg0)(mg:Str->Option Value)(base:Heap)(N:List Str)(qual:Str)(scope:Scope)(f:Addr)(cd:Value)(A:Around)(outer:List Env)(s:Shared)(H:Hp)(E:XK):Cx where
 prog:=P
 w:=w
 K:=K
 mg:=mg
 base:=base
 A:=A.deeper (envOfC qual scope s.heap.objs.size f cd)
 N:=N
 s₀:=s
 H₀:=H
 env:=envOfC qual scope s.heap.objs.size f cd
 outer:=outer
 stack:=envOfC qual scope s.heap.objs.size f cd::outer
 ex:=[]
 calm:=true
 fn:=fun _=>true
 pn:=[]
 xe:=fun e s'=>wpAny (model P w) (A.deeper (envOfC qual scope s.heap.objs.size f cd)) (leaving (envOfC qual scope s.heap.objs.size f cd) e) (fun _ s''=>CX outer H s E e s'') (fun e' s''=>CX outer H s E e' s'') s'
theorem a6x {sc:Scope}{n:Nat}{x:Str}(h:sc.names.lookup x=some .cell):∃c,(cellsFrom n sc.names []).lookup x=some c:=by
 have q:=PySem.W.cellsFrom_some sc.names n [] (.inl h);exact Option.isSome_iff_exists.mp q
theorem a5c {CX:CXT}{P:Program}{w:World}{K:Fg0}{mg:Str->Option Value}{base:Heap}{N ps:List Str}{qual:Str}{scope:Scope}{f:Addr}{cd:Value}{A:Around}{outer:List Env}{s s1:Shared}{H:Hp}{E:XK}{us:List Value}{vs:List V}
  (S:a0j N ps scope) (hd:A.handled=none) (e0:a7i P w K mg base A outer s H) (hl:vs.length=ps.length) (r:a1m vs us)
  (x:InCallC s s.heap.objs.size (bindL (envOfC qual scope s.heap.objs.size f cd).kindOf (ps.zip us) fun _=>none) (cellsFrom (s.heap.objs.size+1) scope.names []) (bindC (envOfC qual scope s.heap.objs.size f cd).kindOf (ps.zip us) fun _=>none) s1) :
  Inv (a7n CX P w K mg base N qual scope f cd A outer s H E) [] (a2U N vs) H s1:=by
 have hpl:ps.length≤N.length:=by have:=congrArg List.length S.pre;rw[List.length_take] at this;omega
 obtain⟨h1,tk,rfl,hk⟩:=x.done;have noA:∀b:Addr,b∉(a7n CX P w K mg base N qual scope f cd A outer s H E).ex:=fun b z=>absurd (show b∈([]:List Addr) from z) (by simp);refine⟨⟨e0.mod,S.kind,rfl,rfl,Nat.le_refl _,fun y z c h1 h2=>?_,fun y hy=>?_,fun y c _ h=>?_,fun _=>hd,Around.frames_deeper e0.frames,.inr ⟨rfl,rfl⟩,fun b z=>absurd z (noA b),e0.bs,e0.bsz,fun b _ _=>noA b,fun b z=>absurd z (noA b),e0.funs,e0.frf⟩,
  rfl,e0.bare,Un.kept hk,⟨_,x.toInCall.ns,fun i y v h1 h2 h3=>?_⟩,fun y c h=>⟨_,x.cell y c h⟩,e0.hok.fresh (Nat.le_refl _),fun y c h=>?_,fun p hp=>absurd (show p∈([]:List (Addr×Obj)) from hp) (by simp),e0.hok.kept hk,?_⟩
 ·exact name_of_addr x.apart (PySem.mem_of_lookup h1) (PySem.mem_of_lookup h2)
 ·have hy:scope.names.lookup y=some .cell\/scope.names.lookup y=some .free:=hy
  rcases hy with hy |hy
  ·exact a6x hy
  ·exact absurd rfl (S.nofree _ (PySem.mem_of_lookup hy))
 ·exact Nat.le_of_lt (x.above y c (PySem.mem_of_lookup h))
 ·have hi:i<vs.length:=by
   unfold a2U at h2
   by_cases hi:i<vs.length
   ·exact hi
   ·rw[List.getElem?_append_right (by simpa using hi)] at h2
    rw[List.getElem?_replicate] at h2
    split at h2<;>cases h2
  have ha:vs[i]? =some v:=by
   unfold a2U at h2;rw[List.getElem?_append_left (by simpa using hi),gM0] at h2;cases e:vs[i]? with
   |none=>rw[e] at h2;cases h2
   |some a=>rw[e] at h2;cases h2;rfl
  obtain⟨u,hu,rv⟩:=r.get ha;have hp:ps[i]? =some y:=by
   rw[← S.pre,List.getElem?_take_of_lt (by omega)];exact h1
  have ndP:ps.Nodup:=by rw[← S.pre];exact S.nd.sublist (List.take_sublist _ _)
  refine⟨u,rv,?_⟩;rcases S.par y (List.mem_of_getElem? hp) with k |k
  ·exact .inl ⟨k,a4N ndP hp hu k⟩
  ·obtain⟨c,e⟩:=a6x (n:=s.heap.objs.size+1) k
   refine .inr ⟨.inl k,c,e,?_⟩;have q:=x.cell y c e;rw[a5o ndP hp hu (by show scope.names.lookup y≠_;rw[k];decide)] at q;exact q
 ·exact e0.hok.fresh (Nat.le_of_lt (x.above y c (PySem.mem_of_lookup h)))
 ·unfold a2U
  show _=N.length;rw[List.length_append,lM0,List.length_replicate]
  omega
theorem b0Q {CX:CXT}{P:Program}{w:World}{K:Fg0}{mg:Str->Option Value}{base:Heap}{k:Nat}{f:Addr}{name qual:Str}{params:Arguments}{body:List Stmt}{scope:Scope}{dV kV doc pm cdv ct oc:Value}{an od:Option Addr}
  {osl:Array (Option Value)} {N ps:List Str} {sp:Sp} (lk:K.lookup f=some ⟨oc,od,.func (PySem.W.fnOf name qual params body scope dV kV doc pm an cdv ct),osl⟩) (hcd:PySem.W.codeIn K cdv qual=true) (S:a0j N ps scope)
  (len:∀vs H Q E,sp vs H Q E->vs.length=ps.length)
  (hbody:∀(A:Around) (outer:List Env) (s:Shared) (H:Hp) (vs:List V) (Q:VK) (E:XK),a1o k (A.deeper (envOfC qual scope s.heap.objs.size f cdv))->sp vs H Q E →
   ∃t,PSs (a7n CX P w K mg base N qual scope f cdv A outer s H E) body t/\t { nx:=fun _ H'=>Q .non H',rt:=Q } (a2U N vs) H) :
  a0w P w K mg base CX (k+1) f (PySem.W.fnOf name qual params body scope dV kV doc pm an cdv ct) ps sp:=by
 refine⟨len,fun A outer s H args us vs Q E hr e0 hb r hsp=>?_⟩;have hl:=len _ _ _ _ hsp;have KX:K.In s.heap:=e0.mod.kin.keeps fun b o e=>(e0.bs b o e).1;have lim:s.heap.NoLimit:=e0.mod.nolimit.keeps fun b o e=>(e0.bs b o e).1;have hkind:∀y∈ps.zip us,scope.names.lookup y.1=some .local\/(scope.names.lookup y.1=some .cell/\((cellsFrom (s.heap.objs.size+1) scope.names []).lookup y.1).isSome=true):=fun⟨n,v⟩ hy=>by
  rcases S.par n (List.of_mem_zip hy).1 with q |q
  ·exact .inl q
  ·exact .inr ⟨q,PySem.W.cellsFrom_some _ _ _ (.inl q)⟩
 refine codeAny_call_function hr.depth (KX _ _ lk) rfl S.co S.gen rfl (PySem.W.codeRec_of KX hcd) (hb _ _ _ _ ?_);refine wpAny_newFunctionEnv_cells S.kind hkind fun env he s1 x=>?_;subst he;refine⟨lim.keeps x.toInCall.keep,codeAny_func ?_⟩;obtain⟨t,ht,hq⟩:=hbody A outer s H vs Q E (hr.deeper _) hsp;have I:Inv (a7n CX P w K mg base N qual scope f cdv A outer s H E) [] (a2U N vs) H s1:=a5c S hr.hd e0 hl r x;refine wpAny_mono (ht [] s1 (a2U N vs) H _ I hq) (fun fl s' hs=>?_) fun e s' hs=>hs;have fin:∀{σ':St} {H':Hp} {v:V} {u:Value},Inv (a7n CX P w K mg base N qual scope f cdv A outer s H E) [] σ' H' s'->a1c v u->Q v H'->CE outer P w H s Q u s':=
  fun {σ' H' v u} J rv q=>⟨v,H',J.os,J.bare,J.base,J.hok,rv,q⟩
 cases fl with
 |ret u=>
  obtain⟨v,σ',H',J,rv,q⟩:=hs;exact fin J rv q
 |next=>
  obtain⟨σ',H',J,q⟩:=hs;exact fin (v:=V.non) (u:=Value.none) J rfl q
 |brk=>
  obtain⟨_,_,_,q⟩:=hs;exact False.elim q
 |cont=>
  obtain⟨_,_,_,q⟩:=hs;exact False.elim q
section
variable {X:Cx}{x:Str}{p pos:Pos}{e:Expr}{es:List Expr}{t:TA}{id T:String}{r:List V->Hp->VK->Prop}
def tCB (r:List V->Hp->VK->Prop)(t:TA):TE:=fun σ H Q=>t σ H fun vs H1=>r vs H1 Q
theorem a0y (hc:a1E X (.builtin id) r)(hg:Gl X x)(hm:X.mg x=none)(hv:bootBuiltins x=some (.builtin id))(ha:PA X (e::es) t)(hn:x≠"__name__":=by decide)(hdb:(x==("__debug__":Str))=false:=by decide)
  (he:starEach (e::es) X.env=(false,eval e X.env)::starEach es X.env:=by rfl) (hpl:(backTo pos (starEach es X.env)).any (·.1)=false:=by rfl):PE X (.Call (.Name x p) (e::es) [] pos) (tCB r t):=by
 intro pins s σ H Q I h;refine wpAny_Call_Name_kw (a2c I hg hm hv ?_ hn hdb);exact PyProof.Rows.callWith_builtin1 (thn (ha pos pins s σ H _ I h) fun us s1 ⟨vs,H1,I1,r1,q1⟩=>hc pins s1 σ H1 vs us Q I1 r1 q1) he hpl
theorem a1a (hc:a1E X (.type T) r)(hg:Gl X x)(hm:X.mg x=none)(hv:bootBuiltins x=some (.type T))(ha:PA X (e::es) t)(hn:x≠"__name__":=by decide)(hdb:(x==("__debug__":Str))=false:=by decide)
  (he:starEach (e::es) X.env=(false,eval e X.env)::starEach es X.env:=by rfl) (hpl:(backTo pos (starEach es X.env)).any (·.1)=false:=by rfl):PE X (.Call (.Name x p) (e::es) [] pos) (tCB r t):=by
 intro pins s σ H Q I h;refine wpAny_Call_Name_kw (a2c I hg hm hv ?_ hn hdb);exact PyProof.Rows.callWith_type1 (thn (ha pos pins s σ H _ I h) fun us s1 ⟨vs,H1,I1,r1,q1⟩=>hc pins s1 σ H1 vs us Q I1 r1 q1) he hpl
end
end L2
namespace HT
open PySem PyProof.Rows
section
open PySem.SeqAt
open PySem.AutoSeq1 (wpAny_loadPart')
open PySem.MeetsSeq PySem.MeetsSeq2 PySem.MeetsSeq3
end
section
variable {prog:Program}{w:World}{A:Around}{E:Value->Shared->Prop}{s:Shared}
def sIx (n d:Nat):Option Int->Nat
 |none=>d
 |some v=>if v<0 then(v+(n:Int)).toNat else min v.toNat n
theorem a6d (n d:Nat):sIx n d none=d:=rfl
theorem b1N (v:Int)(n d:Nat):(if v<0 then max (v+(n:Int)) 0 else min v (n:Int))=((sIx n d (some v):Nat):Int):=by
 show(if v<0 then max (v+(n:Int)) 0 else min v (n:Int))=(((if v<0 then(v+(n:Int)).toNat else min v.toNat n):Nat):Int)
 by_cases hv:v<0
 ·simp only[if_pos hv];omega
 ·simp only[if_neg hv];omega
end
end HT
namespace L2
open PySem PySem.Spec PyProof.Rows
abbrev TO:=St->Hp->(Option Int->Hp->Prop)->Prop
def PO (X:Cx)(e:Option Expr)(t:TO):Prop:=
 ∀(pins:List (Addr×Obj)) (s:Shared) (σ:St) (H:Hp) (Q:Option Int->Hp->Prop),Inv X pins σ H s->t σ H Q →
  wpAny (model X.prog X.w) X.A (evalPart e X.env) (fun u s'=>∃o H',Inv X pins σ H' s'/\IsPart u o/\Q o H') X.xe s
def b0L:TO:=fun _ H Q=>Q none H
def b3F (t:TE):TO:=fun σ H Q=>t σ H fun x H1=>∃i,x=.int i/\Q (some i) H1
section
variable {X:Cx}{e:Expr}{te:TE}{lo hi:Option Expr}{tl th:TO}{pos p2:Pos}
theorem a2h:PO X none b0L:=by
 intro pins s σ H Q I h;rw[evalPart_none];exact wP0 ⟨none,H,I,.none,h⟩
theorem a2m (h:PE X e te):PO X (some e) (b3F te):=by
 intro pins s σ H Q I hw;rw[evalPart_some];refine thn (h pins s σ H _ I hw) fun u s1 ⟨x,H1,I1,r1,q1⟩=>?_;obtain⟨i,rfl,q⟩:=q1;obtain⟨t,rfl⟩:=r1;exact⟨some i,H1,I1,.int i t,q⟩
def SlR (X:Cx)(r:V->Option Int->Option Int->Hp->VK->Prop):Prop:=
 ∀(pins:List (Addr×Obj)) (s:Shared) (σ:St) (H:Hp) (x:V) (v vl vu:Value) (lo hi:Option Int) (sl:Addr) (Q:VK),Inv X pins σ H s->a1c x v->s.heap.IsSliceOf sl vl vu .none->IsPart vl lo->IsPart vu hi->r x lo hi H Q →
  ∃T id,typeLookup (.type T) "__getitem__"=pure (some (.builtin id))/\s.TypeIs v T/\wpAny (model X.prog X.w) X.A (getItem v (.ref sl)) (EP X pins σ Q) X.xe s
def tSl (r:V->Option Int->Option Int->Hp->VK->Prop)(te:TE)(tl th:TO):TE:=fun σ H Q=>te σ H fun x H1=>tl σ H1 fun l H2=>th σ H2 fun u H3=>r x l u H3 Q
theorem a1L {r:V->Option Int->Option Int->Hp->VK->Prop}(hr:SlR X r)(he:PE X e te)(hl:PO X lo tl)(hu:PO X hi th):PE X (.Subscript e (.Slice lo hi none p2) pos) (tSl r te tl th):=by
 intro pins s σ H Q I h;refine Subscript_ (thn (he pins s σ H _ I h) fun v s1 ⟨x,H1,I1,r1,q1⟩=>?_);refine wpAny_Slice (thn (hl pins s1 σ H1 _ I1 q1) fun vl s2 ⟨l,H2,I2,pl,q2⟩=>thn (hu pins s2 σ H2 _ I2 q2) fun vu s3 ⟨u,H3,I3,pu,q3⟩=>?_);rw[evalPart_none];refine wP0 ?_;have I4:Inv X pins σ H3 { s3 with heap:=s3.heap.push { cls:=.type "slice",data:=.fields #[vl,vu,.none] } }:=I3.kept (t':=s3.toks) fun b ob q=>hP0 _ q;obtain⟨T,id,hT,ht,hg⟩:=hr pins { s3 with heap:=s3.heap.push { cls:=.type "slice",data:=.fields #[vl,vu,.none] } } σ H3 x v vl vu l u s3.heap.objs.size Q I4 r1 (Heap.IsSliceOf.new ..) pl pu q3;show wpAny (model X.prog X.w) X.A (subscriptTail e (.Slice lo hi none p2) v (.ref s3.heap.objs.size)) (EP X pins σ Q) X.xe { s3 with heap:=s3.heap.push { cls:=.type "slice",data:=.fields #[vl,vu,.none] } };exact tail_any (ops:=[.ref s3.heap.objs.size,v]) ht hT hg (by with_unfolding_all rfl)
def b0z (xs:List V)(lo hi:Option Int):List V:=(xs.drop (HT.sIx xs.length 0 lo)).take (HT.sIx xs.length xs.length hi-HT.sIx xs.length 0 lo)
theorem a5O (xs:List V)(lo hi:Option Int):(b0z xs lo hi).length≤xs.length:=by
 unfold b0z;rw[List.length_take,List.length_drop]
 omega
end
def ixN (n:Nat)(i:Int):Option Nat:=if 0≤i then(if i<n then some i.toNat else none) else if -(n:Int)≤i then some (i+n).toNat else none
def atI {α:Type}(xs:List α)(i:Int):Option α:=(ixN xs.length i).bind fun j=>xs[j]?
theorem b1A {n:Nat}{i:Int}{j:Nat}(h:ixN n i=some j):seqIndex? i n=some j/\j<n/\-(n:Int)≤i/\i<n:=by
 unfold ixN at h
 by_cases h0:0≤i
 ·rw[if_pos h0] at h
  by_cases h1:i<n
  ·rw[if_pos h1] at h
   have e:i.toNat=j:=Option.some.inj h;exact⟨by rw[seqIndex_of h0 h1,e],by omega,by omega,h1⟩
  ·rw[if_neg h1] at h;cases h
 ·rw[if_neg h0] at h
  by_cases h1:-(n:Int)≤i
  ·rw[if_pos h1] at h
   have e:(i+n).toNat=j:=Option.some.inj h;exact⟨by rw[seqIndex_neg (by omega) h1,e],by omega,h1,by omega⟩
  ·rw[if_neg h1] at h;cases h
theorem a5J {α:Type}{xs:List α}{i:Int}{v:α}(h:atI xs i=some v):∃j,seqIndex? i xs.length=some j/\xs[j]? =some v/\j<xs.length/\-(xs.length:Int)≤i/\i<xs.length:=by
 unfold atI at h;cases e:ixN xs.length i with
 |none=>rw[e] at h;cases h
 |some j=>
  rw[e] at h;obtain⟨h1,h2,h3,h4⟩:=b1A e;exact⟨j,h1,h,h2,h3,h4⟩
theorem a3k {α:Type}{xs:List α}{j:Nat}{v:α}(h:xs[j]? =some v):atI xs (j:Int)=some v:=by
 have hj:j<xs.length:=(gS0.mp h).1;have e:ixN xs.length (j:Int)=some j:=by
  unfold ixN;rw[if_pos (by omega),if_pos (by omega)];simp
 unfold atI;rw[e];exact h
def b1J (b:Expr):Prop:=∀o i,subscripted b false o i=operate [o,i] (getItem o i)
def IxR (X:Cx)(r:R2):Prop:=
 ∀(value slice:Expr) (pins:List (Addr×Obj)) (s:Shared) (σ:St) (H:Hp) (x y:V) (v u:Value) (Q:VK),Inv X pins σ H s->a1c x v->a1c y u->r x y H Q →
  subscripted slice false v u=operate [v,u] (getItem v u)->wpAny (model X.prog X.w) X.A (subscriptTail value slice v u) (EP X pins σ Q) X.xe s
def MtR (X:Cx)(id:String)(r:V->List V->Hp->VK->Prop):Prop:=
 ∀(pins:List (Addr×Obj)) (s:Shared) (σ:St) (H:Hp) (x:V) (xs:List V) (v:Value) (us:List Value) (Q:VK),Inv X pins σ H s->a1c x v->a1m xs us->r x xs H Q →
  wpAny (model X.prog X.w) X.A (call (.builtin id) (v::us)) (EP X pins σ Q) X.xe s
section
variable {X:Cx}{a b:Expr}{ta tb:TE}{pos:Pos}
theorem a0F {r:R2}(hr:IxR X r)(ha:PE X a ta)(hb:PE X b tb)(hs:b1J b):PE X (.Subscript a b pos) (tOp r ta tb):=by
 intro pins s σ H Q I h;exact Subscript_ (b4c ha hb I h fun v u s2 x y H2 I2 rx ry q=>hr a b pins s2 σ H2 x y v u Q I2 rx ry q (hs _ _))
def a9O (K:Fg0):R2:=fun x y H Q=>∃p xs i v,x=.ref p/\y=.int i/\SqL K H p xs/\atI xs i=some v/\Q v H
def b3h (K:Fg0):R2:=fun x y H Q=>∃p xs i v,x=.ref p/\y=.int i/\SqT K H p xs/\atI xs i=some v/\Q v H
def rIxS:R2:=fun x y H Q=>∃z i c,x=.str z/\y=.int i/\z.length≤sizeLine/\atI z.cps.toList i=some c/\Q (.str ⟨#[c]⟩) H
theorem a0V:IxR X (a9O X.K):=by
 intro value slice pins s σ H x y v u Q I rx ry h hs;obtain⟨p,xs,i,z,rfl,rfl,hq,he,q⟩:=h;cases rx;obtain⟨t,rfl⟩:=ry;obtain⟨its,r,pl,hz⟩:=I.list hq;obtain⟨j,h1,h2,h3,h4,h5⟩:=a5J he;obtain⟨w,ew,rw'⟩:=r.get h2;have hl:=r.length;have hn:=a4U;have fin:EP X pins σ Q w s:=⟨z,H,I,rw',q⟩
 by_cases h0:0≤i
 ·have hj:i.toNat=j:=by
   rw[seqIndex_of h0 h5] at h1;exact Option.some.inj h1
  exact item_listR pl.isList h0 (by omega) (by rw[hj];simpa using ew) fin hs
 ·have hj:(i+(its.toArray.size:Int)).toNat=j:=by
   rw[seqIndex_neg (by omega) h4] at h1;rw[List.size_toArray,← hl];exact Option.some.inj h1
  exact subscriptTail_builtinR (x:=w) pl.isList.typeIs slot_list_getitem.lookup
   (wpAny_getItem_list_neg (Q:=fun r s'=>r=w/\EP X pins σ Q r s') pl.isList (by omega) (by rw[List.size_toArray]<;>omega) (by omega) (by rw[hj];simpa using ew) ⟨rfl,fin⟩) hs
theorem a0H:IxR X (b3h X.K):=by
 intro value slice pins s σ H x y v u Q I rx ry h hs;obtain⟨p,xs,i,z,rfl,rfl,hq,he,q⟩:=h;cases rx;obtain⟨t,rfl⟩:=ry;obtain⟨its,r,pl,hz⟩:=I.tuple hq;obtain⟨j,h1,h2,h3,h4,h5⟩:=a5J he;obtain⟨w,ew,rw'⟩:=r.get h2;have hl:=r.length;have hn:=a4U;have fin:EP X pins σ Q w s:=⟨z,H,I,rw',q⟩;exact subscriptTail_builtinR (x:=w) pl.typeIs slot_tuple_getitem.lookup
  (getItem_tuple (j:=j) (Q:=fun r s'=>r=w/\EP X pins σ Q r s') pl (by omega) (by omega) (by rw[List.size_toArray,← hl];exact h1) (by simpa using ew) ⟨rfl,fin⟩) hs
theorem a7J:IxR X rIxS:=by
 intro value slice pins s σ H x y v u Q I rx ry h hs;obtain⟨z,i,c,rfl,rfl,hz,he,q⟩:=h;obtain⟨t,rfl⟩:=rx;obtain⟨t',rfl⟩:=ry;obtain⟨j,h1,h2,h3,h4,h5⟩:=a5J he;have hl:z.cps.toList.length=z.length:=by simp[Str.length]
 rw[hl] at h1 h4 h5;have hn:=a4U;exact tail_any (typeIs_str s z t) slot_str_getitem.lookup (getItem_str (c:=c) (by
  have e1:decide (i < -(2 ^ 63:Int))=false:=decide_eq_false (by omega);have e2:decide (i≥2 ^ 63)=false:=decide_eq_false (by omega);rw[e1,e2,Bool.or_false]) (by rw[h1];simpa using h2) ⟨.str ⟨#[c]⟩,H,I.tok _,⟨_,rfl⟩,q⟩) hs
theorem a4H (lo hi:Option Int)(n:Nat):(sliceBounds lo hi none n).1=((HT.sIx n 0 lo:Nat):Int)/\(sliceBounds lo hi none n).2.1=((HT.sIx n n hi:Nat):Int)/\(sliceBounds lo hi none n).2.2=1:=by
 refine⟨?_,?_,rfl⟩
 ·cases lo with
  |none=>simp[sliceBounds,HT.sIx]
  |some i=>
   simp only[sliceBounds,HT.sIx,Option.getD_none,show(1:Int) > 0 by decide,if_true]
   by_cases h:i<0
   ·simp only[h,if_true]<;>omega
   ·simp only[h,if_false]<;>omega
 ·cases hi with
  |none=>simp[sliceBounds,HT.sIx]
  |some i=>
   simp only[sliceBounds,HT.sIx,Option.getD_none,show(1:Int) > 0 by decide,if_true]
   by_cases h:i<0
   ·simp only[h,if_true]<;>omega
   ·simp only[h,if_false]<;>omega
theorem a4g (its:List Value)(lo hi:Option Int):slicePick its.toArray lo hi none=((its.drop (HT.sIx its.length 0 lo)).take (HT.sIx its.length its.length hi-HT.sIx its.length 0 lo)).toArray:=by
 obtain⟨h1,h2,h3⟩:=a4H lo hi its.toArray.size;unfold slicePick;rw[h1,h2,h3];simp only[sliceRange_one,pick_run,List.size_toArray]<;>rfl
def rSlL (K:Fg0):V->Option Int->Option Int->Hp->VK->Prop:=fun x lo hi H Q=>∃a xs,x=.ref a/\SqL K H a xs/\∀p,H p=none->Q (.ref p) (upd H p (.lst (b0z xs lo hi)))
theorem a2H:SlR X (rSlL X.K):=by
 intro pins s σ H x v vl vu lo hi sl Q I rx hs pl pu h;obtain⟨a,xs,rfl,hx,q⟩:=h;cases rx;obtain⟨its,r,ht,hz⟩:=I.list hx;have hlen:=r.length;refine⟨"list",_,slot_list_getitem.lookup,ht.isList.typeIs,?_⟩;refine wpAny_getItem_list_slice ht.isList hs pl pu .none (by simp) ?_ (by rw[List.size_toArray]<;>omega);rw[a4g,← hlen];refine⟨.ref s.heap.objs.size,_,I.laid (t':=s.toks) (o:=.lst (b0z xs lo hi)) (fun b ob q=>hP0 _ q) (Nat.le_refl _) ?_,rfl,q _ (I.hok.fresh (Nat.le_refl _))⟩;exact⟨Nat.le_trans (a5O xs lo hi) hz,_,0,(r.drop (HT.sIx xs.length 0 lo)).take (HT.sIx xs.length xs.length hi-HT.sIx xs.length 0 lo),Heap.get?_push_size _ rfl⟩
def a5s:V->Bool
 | .non=>true
 | .bl _=>true
 | .int _=>true
 | .str _=>true
 |_=>false
def eqV:V->V->Bool
 | .non,.non=>true
 | .bl a,.bl b=>a==b
 | .bl a,.int b=>(if a then 1 else 0)==b
 | .int a,.bl b=>a==(if b then 1 else 0)
 | .int a,.int b=>a==b
 | .str a,.str b=>a==b
 |_,_=>false
theorem b2l {A:Around}{s:Shared}{y x:V}{u v:Value}(ry:a1c y u)(rx:a1c x v)(fy:a5s y=true)(fx:a5s x=true):SeqAt.EqAt A s u v (eqV y x):=by
 cases y with
 |non=>
  cases ry;cases x with
  |non=>cases rx;exact SeqAt.EqAt.same _
  |bl b=>cases rx;exact SeqAt.EqAt.none_bool b
  |int b=>obtain⟨t,rfl⟩:=rx;exact SeqAt.EqAt.none_int b t
  |str b=>obtain⟨t,rfl⟩:=rx;exact SeqAt.EqAt.none_str b t
  |_=>exact absurd (show false=true from fx) Bool.false_ne_true
 |bl a=>
  cases ry;cases x with
  |non=>cases rx;exact SeqAt.EqAt.bool_none a
  |bl b=>cases rx;exact SeqAt.EqAt.bool_bool a b
  |int b=>obtain⟨t,rfl⟩:=rx;exact SeqAt.EqAt.bool_int a b t
  |str b=>obtain⟨t,rfl⟩:=rx;exact SeqAt.EqAt.bool_str a b t
  |_=>exact absurd (show false=true from fx) Bool.false_ne_true
 |int a=>
  obtain⟨t',rfl⟩:=ry;cases x with
  |non=>cases rx;exact SeqAt.EqAt.int_none a t'
  |bl b=>cases rx;exact SeqAt.EqAt.int_bool a t' b
  |int b=>obtain⟨t,rfl⟩:=rx;exact SeqAt.EqAt.int_int a t' b t
  |str b=>obtain⟨t,rfl⟩:=rx;exact SeqAt.EqAt.int_str a t' b t
  |_=>exact absurd (show false=true from fx) Bool.false_ne_true
 |str a=>
  obtain⟨t',rfl⟩:=ry;cases x with
  |non=>cases rx;exact SeqAt.EqAt.str_none a t'
  |bl b=>cases rx;exact SeqAt.EqAt.str_bool a t' b
  |int b=>obtain⟨t,rfl⟩:=rx;exact SeqAt.EqAt.str_int a t' b t
  |str b=>obtain⟨t,rfl⟩:=rx;exact SeqAt.EqAt.str_str a t' b t
  |_=>exact absurd (show false=true from fx) Bool.false_ne_true
 |_=>exact absurd (show false=true from fy) Bool.false_ne_true
def eqU (x:V)(u:Value):Bool:=match u with
 | .none=>eqV .non x
 | .bool b=>eqV (.bl b) x
 | .int i _=>eqV (.int i) x
 | .str z _=>eqV (.str z) x
 |_=>false
theorem b0i {x y:V}{u:Value}(r:a1c y u)(f:a5s y=true):eqU x u=eqV y x:=by
 cases y with
 |non=>cases r;rfl
 |bl b=>cases r;rfl
 |int i=>obtain⟨t,rfl⟩:=r;rfl
 |str z=>obtain⟨t,rfl⟩:=r;rfl
 |_=>exact absurd (show false=true from f) Bool.false_ne_true
theorem a3q {x:V}:∀{xs:List V} {us:List Value},a1m xs us->xs.all a5s=true->us.any (eqU x)=xs.any fun y=>eqV y x
 |_,_,.nil,_=>rfl
 |y::xs,u::us,.cons r t,f=>by
  rw[List.all_cons,Bool.and_eq_true] at f;rw[List.any_cons,List.any_cons,b0i r f.1,a3q t f.2]
theorem a2B {A:Around}{s:Shared}{x:V}{v:Value}(rx:a1c x v)(fx:a5s x=true):∀{xs:List V} {us:List Value},a1m xs us->xs.all a5s=true->∀u∈us,SeqAt.EqAt A s u v (eqU x u)
 |_,_,.nil,_=>fun u hu=>by cases hu
 |y::xs,u::us,.cons r t,f=>fun u' hu=>by
  rw[List.all_cons,Bool.and_eq_true] at f;rcases List.mem_cons.mp hu with rfl |hu
  ·rw[b0i r f.1];exact b2l r rx f.1 fx
  ·exact a2B rx fx t f.2 u' hu
def inV (x:V)(xs:List V):Bool:=xs.any fun y=>eqV y x
def rIn (K:Fg0)(neg:Bool):R2:=fun x y H Q=>∃p xs,y=.ref p/\(SqL K H p xs\/SqT K H p xs)/\a5s x=true/\xs.all a5s=true/\Q (.bl (if neg then !inV x xs else inV x xs)) H
theorem a1S:OpR X (compareOp .In) (rIn X.K false):=by
 intro pins s σ H x y v u Q I rx ry h;obtain⟨p,xs,rfl,hq,fx,fs,q⟩:=h;cases ry;rcases hq with hq |hq
 ·obtain⟨its,r,pl,hz⟩:=I.list hq
  refine SeqAt.in_listAt (eqU x) pl.isList (fun w hw=>a2B rx fx r fs w (by simpa using hw)) ⟨.bl _,H,I,rfl,?_⟩;rw[show its.toArray.any (eqU x)=its.any (eqU x) by simp,a3q r fs];exact q
 ·obtain⟨its,r,pl,hz⟩:=I.tuple hq
  refine SeqAt.in_tupleAt (eqU x) pl (fun w hw=>a2B rx fx r fs w (by simpa using hw)) ⟨.bl _,H,I,rfl,?_⟩;rw[show its.toArray.any (eqU x)=its.any (eqU x) by simp,a3q r fs];exact q
theorem a4X:OpR X (compareOp .NotIn) (rIn X.K true):=by
 intro pins s σ H x y v u Q I rx ry h;obtain⟨p,xs,rfl,hq,fx,fs,q⟩:=h;cases ry;rcases hq with hq |hq
 ·obtain⟨its,r,pl,hz⟩:=I.list hq
  refine SeqAt.notIn_listAt (eqU x) pl.isList (fun w hw=>a2B rx fx r fs w (by simpa using hw)) ⟨.bl _,H,I,rfl,?_⟩;rw[show its.toArray.any (eqU x)=its.any (eqU x) by simp,a3q r fs];exact q
 ·obtain⟨its,r,pl,hz⟩:=I.tuple hq
  refine SeqAt.notIn_tupleAt (eqU x) pl (fun w hw=>a2B rx fx r fs w (by simpa using hw)) ⟨.bl _,H,I,rfl,?_⟩;rw[show its.toArray.any (eqU x)=its.any (eqU x) by simp,a3q r fs];exact q
theorem a0C:a1E X (.builtin "len") (fun xs H Q=>∃p ys,xs=[.ref p]/\(SqL X.K H p ys\/SqT X.K H p ys)/\Q (.int ys.length) H):=by
 intro pins s σ H xs us Q I r h;obtain⟨p,ys,rfl,hq,q⟩:=h;obtain⟨u,rfl,rx⟩:=a2n r;cases rx;have hn:=a4U;rcases hq with hq |hq
 ·obtain⟨its,r',pl,hz⟩:=I.list hq
  have hlen:=r'.length;exact Calls.call_len_list pl.isList (by simp only[List.size_toArray]<;>omega) ⟨.int ys.length,H,I.tok _,⟨s.toks+1,by rw[List.size_toArray,hlen]⟩,q⟩
 ·obtain⟨its,r',pl,hz⟩:=I.tuple hq
  have hlen:=r'.length;exact len_tuple pl (by simp only[List.size_toArray]<;>omega) ⟨.int ys.length,H,I.tok _,⟨s.toks+1,by rw[List.size_toArray,hlen]⟩,q⟩
theorem a2J:a1E X (.builtin "len") (fun xs H Q=>∃z,xs=[.str z]/\z.length≤sizeLine/\Q (.int z.length) H):=by
 intro pins s σ H xs us Q I r h;obtain⟨z,rfl,hz,q⟩:=h;obtain⟨u,rfl,t,rfl⟩:=a2n r;have hn:=a4U;exact len_str (by omega) ⟨.int z.length,H,I.tok _,⟨_,rfl⟩,q⟩
theorem a1X:a1E X (.type "tuple") (fun xs H Q=>∃p ys,xs=[.ref p]/\((SqL X.K H p ys/\∀l,H l=none->Q (.ref l) (upd H l (.tup ys)))\/(SqT X.K H p ys/\Q (.ref p) H))):=by
 intro pins s σ H xs us Q I r h;obtain⟨p,ys,rfl,h⟩:=h;obtain⟨u,rfl,rx⟩:=a2n r;cases rx;rcases h with ⟨hq,q⟩ |⟨hq,q⟩
 ·obtain⟨its,r',pl,hz⟩:=I.list hq
  have hlen:=r'.length;refine call_tuple_list pl.isList (fun h' kp=>?_) (by simp only[List.size_toArray]<;>omega);have I1:Inv X pins σ H { s with heap:=h' }:=I.kept (t':=s.toks) kp;have I2:Inv X pins σ (upd H h'.objs.size (.tup ys)) { s with heap:=h'.push { cls:=.type "tuple",data:=.seq its.toArray } }:=
   I1.laid (t':=s.toks) (fun b o e=>hP0 _ e) (Nat.le_refl _) (show a1q X.prog X.w _ _ _ (.tup ys) from⟨hz,its,r',IsTup.new _ _⟩)
  exact⟨.ref h'.objs.size,_,I2,rfl,q _ (I1.hok.fresh (Nat.le_refl _))⟩
 ·obtain⟨its,r',pl,hz⟩:=I.tuple hq
  exact call_tuple_same pl ⟨.ref p,H,I,rfl,q⟩
def tyV (K:Fg0)(T:String)(x:V)(H:Hp):Prop:=match x with
 | .str _=>T="str"
 | .int _=>T="int"
 | .ref p=>(T="list"/\∃xs,SqL K H p xs)\/(T="tuple"/\∃o,K.lookup p=some o/\o.cls=.type "tuple"/\o.dict=none) ∨
   (T="dict"/\((∃kvs,H p=some (.dK kvs))\/∃kvs,H p=some (.dT kvs)))\/(T="set"/\∃S n,H p=some (.set S n))
 |_=>False
theorem b3k {pins:List (Addr×Obj)}{σ:St}{H:Hp}{s:Shared}{T:String}{x:V}{v:Value}(I:Inv X pins σ H s)(r:a1c x v)(ty:tyV X.K T x H) :
  s.TypeIs v T/\∀a,v=.ref a->∃ob,s.heap.get? a=some ob/\ob.dict=none:=by
 cases x with
 |str z=>
  obtain⟨t,rfl⟩:=r
  cases(show T="str" from ty)
  exact⟨typeIs_str s z t,fun _ e=>nomatch e⟩
 |int i=>
  obtain⟨t,rfl⟩:=r
  cases(show T="int" from ty)
  exact⟨typeIs_int s i t,fun _ e=>nomatch e⟩
 |ref p=>
  cases r;rcases ty with ⟨rfl,xs,hq⟩ |⟨rfl,o,hk,hc,hd⟩ |⟨rfl,hk⟩ |⟨rfl,S,n,hk⟩
  ·obtain⟨its,_,pl,_⟩:=I.list hq
   refine⟨pl.isList.typeIs,fun a e=>?_⟩;cases e;obtain⟨o,n,e,c,hd,_⟩:=pl;exact⟨o,e,hd⟩
  ·refine⟨⟨o,I.kIn p o hk,hc⟩,fun a e=>?_⟩
   cases e;exact⟨o,I.kIn _ o hk,hd⟩
  ·have z:∃o,s.heap.get? p=some o/\o.ExactDict:=by
    rcases hk with ⟨kvs,hk⟩ |⟨kvs,hk⟩
    ·obtain⟨_,_,_,_,o,_,_,e,ex,_⟩:=I.hok p _ hk
     exact⟨o,e,ex⟩
    ·obtain⟨_,_,_,_,o,_,_,e,ex,_⟩:=I.hok p _ hk
     exact⟨o,e,ex⟩
   obtain⟨o,e,ex⟩:=z;refine⟨⟨o,e,ex.1⟩,fun a e2=>?_⟩;cases e2;exact⟨o,e,ex.2.1⟩
  ·obtain⟨o,_,_,_,e,ex,_⟩:=I.hok p _ hk
   refine⟨⟨o,e,ex.1⟩,fun a e2=>?_⟩;cases e2;exact⟨o,e,ex.2.1⟩
 |_=>exact False.elim ty
def tBM (K:Fg0)(T:String)(r:V->List V->Hp->VK->Prop)(to:TE)(t:TA):TE:=fun σ H Q=>to σ H fun x H1=>tyV K T x H1/\t σ H1 fun xs H2=>r x xs H2 Q
variable {o e:Expr}{es:List Expr}{to:TE}{t:TA}{name:Str}{apos cpos:Pos}{T id:String}{r:V->List V->Hp->VK->Prop}
theorem a4l (pa:PlainAttrs T)(slot:Slot T name id)(hty:typeOf (.builtin id)=pure (.type "method_descriptor"))(hm:MtR X id r)(ho:PE X o to)(ha:PA X (e::es) t)
  (hbase:attributeBase o name X.env (eval o X.env)=eval o X.env:=by rfl)
  (hfew:((backTo cpos (starEach (e::es) X.env)).all (fun x=>!x.1)&&(backToKw cpos (keywordEach [] X.env)).all (fun x=>x.1.isSome)
   && decide ((e::es).length+([]:List Keyword).length+(if ([]:List Keyword).isEmpty then 0 else 1)<30))=true:=by rfl)
  (hline:(apos.endLine==cpos.line)=true:=by rfl) (hs:starEach (e::es) X.env=(false,eval e X.env)::starEach es X.env:=by rfl) (hplain:(backTo cpos (starEach es X.env)).any (·.1)=false:=by rfl) :
  PE X (.Call (.Attribute o name apos) (e::es) [] cpos) (tBM X.K T r to t):=by
 intro pins s σ H Q I h;refine wpAny_Call_method_late hbase hfew hline rfl (thn (ho pins s σ H _ I h) fun v s1 ⟨x,H1,I1,r1,ty,q1⟩=>?_);obtain⟨h1,h2⟩:=b3k I1 r1 ty;refine⟨T,id,pa,slot,hty,h1,h2,?_⟩;have hA:=ha cpos pins s1 σ H1 _ I1 q1;rw[hs] at hA ⊢;refine Calls.callWith_builtin (by show(false || (backTo cpos (starEach es X.env)).any (·.1))=false;rw[hplain]<;>rfl) (Calls.evalArgs_plain ?_);exact thn hA fun us s2 ⟨vs,H2,I2,r2,q2⟩=>hm pins s2 σ H2 x vs v us Q I2 r1 r2 q2
end
def MtM (X:Cx)(id:String)(r:V->List V->Hp->VK->Prop):Prop:=
 ∀(pins:List (Addr×Obj)) (s:Shared) (σ:St) (H:Hp) (x:V) (xs:List V) (v:Value) (us:List Value) (Q:VK),Inv X pins σ H s->a1c x v->a1m xs us->r x xs H Q →
  wpAny (model X.prog X.w) X.A (call (.builtin id) (v::us)) (EP X pins σ Q) X.xe s
theorem a1m.one:∀{x:V} {us:List Value},a1m [x] us->∃u,us=[u]/\a1c x u
 |_,_,.cons r .nil=>⟨_,rfl,r⟩
theorem a1m.reverse {xs:List V}{us:List Value}(h:a1m xs us):a1m xs.reverse us.reverse:=by
 induction h with
 |nil=>exact .nil
 |cons r t ih=>rw[List.reverse_cons,List.reverse_cons];exact a1m.append ih (.cons r .nil)
section
variable {X:Cx}{pins:List (Addr×Obj)}{σ:St}{H:Hp}{s:Shared}{l b:Addr}{xs ys zs:List V}
theorem Inv.lset {its its':List Value}{n:Nat}{f:Array Value->Array Value}{t':Nat}(I:Inv X pins σ H s)(hH:H l=some (.lst xs))
  (e:s.heap.get? l=some { cls:=.type "list",data:=.seq its.toArray n }) (hf:f its.toArray=its'.toArray) (hv:a1m ys its') (hz:ys.length≤sizeLine) :
  Inv X pins σ (upd H l (.lst ys)) { s with heap:=s.heap.update l (Obj.mapSeq f),toks:=t' }:=by
 have q:=PySem.IsL.update e f;rw[hf] at q;refine I.write (x:=l) (e:=l) (by rw[hH];exact trivial) (.inl rfl) (fun b' u hb hu=>(Heap.get?_update_other s.heap (Obj.mapSeq f) (Ne.symm hb)).trans hu) ⟨_,q⟩ ?_;exact⟨hz,its',_,hv,q⟩
theorem Inv.lnew {its:List Value}{t':Nat}(I:Inv X pins σ H s)(hv:a1m ys its)(hz:ys.length≤sizeLine) :
  Inv X pins σ (upd H s.heap.objs.size (.lst ys)) { s with heap:=s.heap.push { cls:=.type "list",data:=.seq its.toArray },toks:=t' }:=
 I.laid (fun _ _ q=>hP0 _ q) (Nat.le_refl _) ⟨hz,its,0,hv,Heap.get?_push_size _ rfl⟩
theorem Inv.fresh (I:Inv X pins σ H s):H s.heap.objs.size=none:=I.hok.fresh (Nat.le_refl _)
theorem Inv.lstM (I:Inv X pins σ H s)(hH:H l=some (.lst xs)):xs.length≤sizeLine/\∃(its:List Value) (n:Nat),a1m xs its/\xs.length=its.length/\s.heap.get? l=some { cls:=.type "list",data:=.seq its.toArray n }:=by
 obtain⟨z,its,n,r,e⟩:=I.hok l _ hH;exact⟨z,its,n,r,r.length,e⟩
theorem a9N {n:Nat}(h:n≤sizeLine):Builtin.List.listTooLong n=false:=by
 unfold Builtin.List.listTooLong;exact decide_eq_false (by omega)
end
section
variable {X:Cx}
def a8v:V->List V->Hp->VK->Prop:=fun x vs H Q=>∃l xs y,x=.ref l/\vs=[y]/\H l=some (.lst xs)/\xs.length<sizeLine/\Q .non (upd H l (.lst (xs++[y])))
theorem a4V:MtM X "list.append" a8v:=by
 intro pins s σ H x vs v us Q I rx rv h;obtain⟨l,xs,y,rfl,rfl,hH,hz,q⟩:=h;cases rx;obtain⟨u,rfl,ru⟩:=rv.one;obtain⟨z,its,n,r,hl,e⟩:=I.lstM hH;refine call_meets F.slot_list_append ⟨_,e,rfl⟩ F.entry_list_append (F.args_list_append_2 _ _) (PySem.list_append l its.toArray n u (by rw[List.size_toArray];omega)) ⟨e,?_⟩;refine⟨.non,_,I.lset (its':=its++[u]) hH e (by simp) (r.append (.cons ru .nil)) ?_,rfl,q⟩;rw[List.length_append,List.length_singleton]
 omega
def b1M:V->List V->Hp->VK->Prop:=fun x vs H Q=>∃l b xs zs,x=.ref l/\vs=[.ref b]/\H l=some (.lst xs)/\H b=some (.lst zs)/\xs.length+zs.length≤sizeLine/\Q .non (upd H l (.lst (xs++zs)))
theorem b1W:MtM X "list.extend" b1M:=by
 intro pins s σ H x vs v us Q I rx rv h;obtain⟨l,b,xs,zs,rfl,rfl,hH,hB,hz,q⟩:=h;cases rx;obtain⟨u,rfl,ru⟩:=rv.one;cases ru;obtain⟨z,its,n,r,hl,e⟩:=I.lstM hH;obtain⟨z2,its2,n2,r2,hl2,e2⟩:=I.lstM hB;have hsz:its.toArray.size+its2.toArray.size≤sizeLine:=by rw[List.size_toArray,List.size_toArray];omega
 have hlong:¬(!its.toArray.isEmpty&&Builtin.List.listTooLong (its.toArray.size+its2.toArray.size))=true:=by
  rw[a9N hsz,Bool.and_false];exact Bool.false_ne_true
 refine call_meets F.slot_list_extend ⟨_,e,rfl⟩ F.entry_list_extend (F.args_list_extend_2 _ _)
  (AutoSeq1.list_extend_list_list_0 l its.toArray n b its2.toArray n2 hlong (by rw[List.size_toArray];omega) (by omega)) ⟨e,e2,?_⟩
 refine⟨.non,_,I.lset (its':=its++its2) hH e (by simp) (r.append r2) ?_,rfl,q⟩;rw[List.length_append]
 omega
def rCat:R2:=fun x y H Q=>∃l b xs zs,x=.ref l/\y=.ref b/\H l=some (.lst xs)/\H b=some (.lst zs)/\xs.length+zs.length≤sizeLine/\∀p,H p=none->Q (.ref p) (upd H p (.lst (xs++zs)))
theorem b0q:OpR X (binaryOp .Add) rCat:=by
 intro pins s σ H x y v u Q I rx ry h;obtain⟨l,b,xs,zs,rfl,rfl,hH,hB,hz,q⟩:=h;cases rx;cases ry;obtain⟨z,its,n,r,hl,e⟩:=I.lstM hH;obtain⟨z2,its2,n2,r2,hl2,e2⟩:=I.lstM hB;refine PySem.P.add_list e e2 ?_ (by rw[List.size_toArray,List.size_toArray];omega);have ea:its.toArray++its2.toArray=(its++its2).toArray:=by simp
 rw[ea];exact⟨.ref _,_,I.lnew (t':=s.toks) (r.append r2) (by rw[List.length_append];omega),rfl,q _ I.fresh⟩
end
section
variable {prog:Program}{w:World}{A:Around}{E:Value->Shared->Prop}{s:Shared}
set_option maxRecDepth 100000 in
end
section
variable {κ:Type}[DecidableEq κ]
def a3d (kvs:List (κ×V))(k:κ):Option V:=(kvs.find? fun kv=>decide (kv.1=k)).map (·.2)
def a2M (kvs:List (κ×V))(k:κ)(v:V):List (κ×V):=
 if (kvs.any fun kv=>decide (kv.1=k))=true then kvs.map (fun kv=>if kv.1=k then(kv.1,v) else kv) else kvs++[(k,v)]
def a3K (kvs:List (κ×V))(k:κ):List (κ×V):=kvs.filter fun kv=>decide (kv.1≠k)
theorem a4m {p:κ×V}{r:List (κ×V)}{k:κ}(e:p.1=k):a3d (p::r) k=some p.2:=by simp[a3d,List.find?_cons,e]
theorem a4i {p:κ×V}{r:List (κ×V)}{k:κ}(e:¬p.1=k):a3d (p::r) k=a3d r k:=by simp[a3d,List.find?_cons,e]
theorem a6z (k:κ):∀kvs:List (κ×V),(kvs.any fun kv=>decide (kv.1=k))=(a3d kvs k).isSome
 |[]=>rfl
 |p::r=>by
  rw[List.any_cons]
  by_cases e:p.1=k
  ·simp only[a4m e,decide_eq_true e,Bool.true_or,Option.isSome_some]
  ·rw[a4i e,decide_eq_false e,Bool.false_or];exact a6z k r
theorem a2x (kvs:List (κ×V))(k:κ)(v:V):(a2M kvs k v).length≤kvs.length+1:=by
 unfold a2M
 split
 ·rw[lM0];omega
 ·rw[List.length_append,List.length_cons,List.length_nil];omega
theorem a4E.isSome_eq {o:Option V}{u:Option Value}(r:a4E o u):o.isSome=u.isSome:=by
 cases o with
 |none=>cases u with
  |none=>rfl
  |some _=>exact(show False from r).elim
 |some _=>cases u with
  |none=>exact(show False from r).elim
  |some _=>rfl
theorem a4E.getD {o:Option V}{u:Option Value}{d:V}{d':Value}(r:a4E o u)(rd:a1c d d'):a1c (o.getD d) (u.getD d'):=by
 cases o with
 |none=>cases u with
  |none=>exact rd
  |some _=>exact(show False from r).elim
 |some _=>cases u with
  |none=>exact(show False from r).elim
  |some _=>exact r
theorem KV.val {kvs:List (κ×V)}{vs:List (κ×Value)}(r:KV kvs vs)(k:κ):a4E (a3d kvs k) (valueAt vs k):=by
 unfold KV at r
 induction r with
 |nil=>exact True.intro
 |@cons p q ps qs h t ih=>
  obtain⟨h1,h2⟩:=h
  by_cases e:p.1=k
  ·have e':q.1=k:=h1.symm.trans e
   have b:valueAt (q::qs) k=some q.2:=by simp[valueAt,List.find?_cons,e']
   rw[a4m e,b];exact h2
  ·have e':¬q.1=k:=fun z=>e (h1.trans z)
   have b:valueAt (q::qs) k=valueAt qs k:=by simp[valueAt,List.find?_cons,e']
   rw[a4i e,b];exact ih
theorem KV.any {kvs:List (κ×V)}{vs:List (κ×Value)}(r:KV kvs vs)(k:κ):(kvs.any fun kv=>decide (kv.1=k))=vs.any fun kv=>decide (kv.1=k):=by
 unfold KV at r
 induction r with
 |nil=>rfl
 |cons h t ih=>rw[List.any_cons,List.any_cons,ih,h.1]
theorem KV.repl {kvs:List (κ×V)}{vs:List (κ×Value)}(r:KV kvs vs)(k:κ){y:V}{u:Value}(ry:a1c y u) :
  KV (kvs.map fun kv=>if kv.1=k then(kv.1,y) else kv) (vs.map fun kv=>if kv.1=k then(kv.1,u) else kv):=by
 unfold KV at r ⊢
 induction r with
 |nil=>exact .nil
 |@cons p q ps qs h t ih=>
  rw[List.map_cons,List.map_cons];refine .cons ?_ ih;obtain⟨h1,h2⟩:=h
  by_cases e:p.1=k
  ·rw[if_pos e,if_pos (h1.symm.trans e)];exact⟨h1,ry⟩
  ·rw[if_neg e,if_neg (fun z=>e (h1.trans z))];exact⟨h1,h2⟩
theorem KV.put {kvs:List (κ×V)}{vs:List (κ×Value)}(r:KV kvs vs)(k:κ){y:V}{u:Value}(ry:a1c y u):KV (a2M kvs k y) (stored vs k u):=by
 unfold a2M stored;rw[r.any k]
 by_cases e:(vs.any fun kv=>decide (kv.1=k))=true
 ·rw[if_pos e,if_pos e];exact r.repl k ry
 ·rw[if_neg e,if_neg e];exact Paired.snoc r ⟨rfl,ry⟩
theorem KV.drop {kvs:List (κ×V)}{vs:List (κ×Value)}(r:KV kvs vs)(k:κ):KV (a3K kvs k) (without vs k):=by
 unfold KV at r ⊢;unfold a3K without
 induction r with
 |nil=>exact .nil
 |@cons p q ps qs h t ih=>
  obtain⟨h1,h2⟩:=h;rw[List.filter_cons,List.filter_cons]
  by_cases e:p.1=k
  ·have a:¬decide (p.1≠k)=true:=by simp[e]
   have b:¬decide (q.1≠k)=true:=by simp[h1.symm.trans e]
   rw[if_neg a,if_neg b];exact ih
  ·have e':¬q.1=k:=fun z=>e (h1.trans z)
   have a:decide (p.1≠k)=true:=by simp[e]
   have b:decide (q.1≠k)=true:=by simp[e']
   rw[if_pos a,if_pos b];exact .cons ⟨h1,h2⟩ ih
theorem KV.keys {kvs:List (κ×V)}{vs:List (κ×Value)}(r:KV kvs vs):kvs.map (·.1)=vs.map (·.1):=by
 unfold KV at r
 induction r with
 |nil=>rfl
 |cons h t ih=>rw[List.map_cons,List.map_cons,ih,h.1]
theorem KV.length {kvs:List (κ×V)}{vs:List (κ×Value)}(r:KV kvs vs):kvs.length=vs.length:=Paired.length r
theorem a6t (kvs:List (κ×V))(k:κ):(a3K kvs k).length≤kvs.length:=List.length_filter_le _ _
end
theorem a3J {P:Program}{w:World}{k:Key}{u:Value}(r:a1c (kV k) u):(a0l P w).is k u=true:=by
 cases k with
 |inl i=>obtain⟨t,e⟩:=(show ∃t,u=Value.int i t from r);subst e;exact a5I P w i t
 |inr x=>obtain⟨t,e⟩:=(show ∃t,u=Value.str x t from r);subst e;exact a5E P w x t
theorem a4K {P:Program}{w:World}:∀{ks:List Key} {us:List Value},a1m (ks.map kV) us->ItemsAre (a0l P w) ks us
 |[],_,r=>by rw[List.map_nil] at r;cases r;exact .nil
 |k::ks,_,r=>by
  rw[List.map_cons] at r;cases r with
  |cons h t=>exact .cons (a3J h) (a4K t)
abbrev KT (H:Hp):List (List Key×V)->List (List Key×Addr×Value)->Prop:=Paired fun p q=>p.1=q.1/\H q.2.1=some (.tup (p.1.map kV))/\a1c p.2 q.2.2
theorem KT.val {H:Hp}{kvs:List (List Key×V)}{xs:List (List Key×Addr×Value)}(r:KT H kvs xs)(k:List Key):a4E (a3d kvs k) ((atKey xs k).map (·.2)):=by
 induction r with
 |nil=>exact True.intro
 |@cons p q ps qs h t ih=>
  obtain⟨h1,_,h2⟩:=h
  by_cases e:p.1=k
  ·have e':q.1=k:=h1.symm.trans e
   have b:atKey (q::qs) k=some q.2:=by simp[atKey,List.find?_cons,e']
   rw[a4m e,b];exact h2
  ·have e':¬q.1=k:=fun z=>e (h1.trans z)
   have b:atKey (q::qs) k=atKey qs k:=by simp[atKey,List.find?_cons,e']
   rw[a4i e,b];exact ih
theorem KT.repl {H:Hp}{kvs:List (List Key×V)}{xs:List (List Key×Addr×Value)}(r:KT H kvs xs)(k:List Key){y:V}{u:Value}(ry:a1c y u) :
  KT H (kvs.map fun kv=>if kv.1=k then(kv.1,y) else kv) (xs.map (putAt k u)):=by
 induction r with
 |nil=>exact .nil
 |@cons p q ps qs h t ih=>
  rw[List.map_cons,List.map_cons];refine .cons ?_ ih;obtain⟨h1,h2,h3⟩:=h;unfold putAt
  by_cases e:p.1=k
  ·rw[if_pos e,if_pos (h1.symm.trans e)];exact⟨h1,h2,ry⟩
  ·rw[if_neg e,if_neg (fun z=>e (h1.trans z))];exact⟨h1,h2,h3⟩
theorem KT.put {H:Hp}{kvs:List (List Key×V)}{xs:List (List Key×Addr×Value)}(r:KT H kvs xs)(k:List Key){b:Addr}{y:V}{u:Value}(hb:H b=some (.tup (k.map kV)))(ry:a1c y u) :
  KT H (a2M kvs k y) (storedH xs k b u):=by
 have e:(kvs.any fun kv=>decide (kv.1=k))=(atKey xs k).isSome:=by
  rw[a6z,(r.val k).isSome_eq,Option.isSome_map]
 unfold a2M storedH;rw[e]
 by_cases q:(atKey xs k).isSome=true
 ·rw[if_pos q,if_pos q];exact r.repl k ry
 ·rw[if_neg q,if_neg q];exact Paired.snoc r ⟨rfl,hb,ry⟩
theorem KT.keeps {H H':Hp}{kvs:List (List Key×V)}{xs:List (List Key×Addr×Value)}(r:KT H kvs xs)(ht:∀b ys,H b=some (.tup ys)->H' b=some (.tup ys)):KT H' kvs xs:=
 Paired.mapP r fun _ _ z=>⟨z.1,ht _ _ z.2.1,z.2.2⟩
section
variable {P:Program}{w:World}{H:Hp}{h:Heap}{a:Addr}
theorem b2x {u:HO}(ok:HOk P w H h)(e:Rd H a u):a1q P w H h a u:=e.ok ok
theorem a2D {kvs:List (Key×V)}(ok:HOk P w H h)(e:Rd H a (.dK kvs)):kvs.length≤sizeLine/\(a==sysModules)=false/\∃vs,KV kvs vs/\h.DictOf (a0l P w) a vs:=
 show a1q P w H h a (.dK kvs) from b2x ok e
theorem a9Z {kvs:List (Key×V)}(ok:HOk P w H h)(e:H a=some (.dK kvs)):kvs.length≤sizeLine/\(a==sysModules)=false/\∃vs,KV kvs vs/\h.DictOf (a0l P w) a vs:=a2D ok (.inl e)
theorem a4Q {ks:List Key}(ok:HOk P w H h)(e:H a=some (.tup (ks.map kV))):(tupleKind (a0l P w)).is h ks a:=by
 obtain⟨_,its,r,o,h1,h2,n,h3⟩:=(show a1q P w H h a (.tup (ks.map kV)) from ok a _ e);exact⟨o,its.toArray,n,h1,h2,h3,by simpa using a4K r⟩
theorem a6S {kvs:List (List Key×V)}(ok:HOk P w H h)(e:Rd H a (.dT kvs)):kvs.length≤sizeLine/\(a==sysModules)=false ∧
  ∃xs,KT H kvs xs/\h.DictOfH (tupleKind (a0l P w)) a xs:=by
 obtain⟨z,y,xs,r,o,es,ep,h1,h2,h3,h4,h5⟩:=(show a1q P w H h a (.dT kvs) from b2x ok e);refine⟨z,y,xs,r,o,es,ep,h1,h2,h3,h4,fun x hx=>?_,h5⟩;have all:∀{l:List (List Key×V)} {m:List (List Key×Addr×Value)},KT H l m->∀x∈m,(tupleKind (a0l P w)).is h x.1 x.2.1:=by
  intro l m q
  induction q with
  |nil=>intro x hx;exact nomatch hx
  |@cons p q ps qs hq t ih=>
   intro x hx;rcases List.mem_cons.mp hx with e |hx
   ·subst e
    exact a4Q ok (by rw[← hq.1];exact hq.2.1)
   ·exact ih x hx
 exact all r x hx
theorem b3I {kvs:List (List Key×V)}(ok:HOk P w H h)(e:H a=some (.dT kvs)):kvs.length≤sizeLine/\(a==sysModules)=false ∧
  ∃xs,KT H kvs xs/\h.DictOfH (tupleKind (a0l P w)) a xs:=a6S ok (.inl e)
end
def b0O (H:Hp)(a:Addr)(y:V)(r:Option V):Prop:=
 (∃kvs k,Rd H a (.dK kvs)/\y=kV k/\r=a3d kvs k)\/∃kvs k b,Rd H a (.dT kvs)/\y=.ref b/\H b=some (.tup (k.map kV))/\r=a3d kvs k
def a9x (H:Hp)(a:Addr)(y v:V)(H':Hp):Prop:=
 (∃kvs k,H a=some (.dK kvs)/\y=kV k/\kvs.length<sizeLine/\H'=upd H a (.dK (a2M kvs k v))) ∨
 ∃kvs k b,H a=some (.dT kvs)/\y=.ref b/\H b=some (.tup (k.map kV))/\kvs.length<sizeLine/\H'=upd H a (.dT (a2M kvs k v))
theorem a9x.k {H:Hp}{a:Addr}{kvs:List (Key×V)}{k:Key}{v:V}(e:H a=some (.dK kvs))(hl:kvs.length<sizeLine):a9x H a (kV k) v (upd H a (.dK (a2M kvs k v))):=.inl ⟨kvs,k,e,rfl,hl,rfl⟩
section
variable {X:Cx}{pins:List (Addr×Obj)}{σ:St}{H:Hp}{s:Shared}{a:Addr}{y v:V}{u r:Value}{o:Option V}{A:Around}{E:Value->Shared->Prop}
theorem Inv.big (I:Inv X pins σ H s):sysModules<s.heap.objs.size:=by
 have h:mainGlobals<s.heap.objs.size:=(I.mod.glob.keeps I.bk).lt;exact Nat.lt_trans (by decide) h
theorem a7p {Q:Value->Shared->Prop}(hu:A.units+1<cLine)(I:Inv X pins σ H s)(g:b0O H a y (some v))(ry:a1c y u)(h:∀w' s',Inv X pins σ H s'->a1c v w'->Q w' s') :
  wpAny (model X.prog X.w) A (getItem (.ref a) u) Q E s:=by
 rcases g with ⟨kvs,k,e,ey,l⟩ |⟨kvs,k,b,e,ey,eb,l⟩
 ·subst ey
  obtain⟨z,hd,vs,rel,dd⟩:=a2D I.hok e;obtain⟨w',hw,rw'⟩:=a4E.some_of (v:=v) (o:=valueAt vs k) (by rw[l];exact rel.val k);exact wpAny_getItem_of (a3J ry) dd.mapOf hw (h w' _ (I.tok _) rw')
 ·subst ey
  cases(show u=Value.ref b from ry)
  obtain⟨z,hd,xs,rel,dd⟩:=a6S I.hok e;obtain⟨w',hw,rw'⟩:=a4E.some_of (v:=v) (o:=(atKey xs k).map (·.2)) (by rw[l];exact rel.val k);obtain⟨p,hp,hp2⟩:=Option.map_eq_some_iff.mp hw;refine wpAny_getItem_heap (tupleKind_room_in1 hu) (a4Q I.hok eb) dd hp ?_;rw[hp2];exact h w' _ (I.tok _) rw'
theorem b1h {Q:Value->Shared->Prop}(hu:A.units+1<cLine)(I:Inv X pins σ H s)(g:b0O H a y o)(ry:a1c y u)(h:∀s',Inv X pins σ H s'->Q (.bool (!o.isSome)) s') :
  wpAny (model X.prog X.w) A (compareOp .NotIn u (.ref a)) Q E s:=by
 rcases g with ⟨kvs,k,e,ey,l⟩ |⟨kvs,k,b,e,ey,eb,l⟩
 ·subst ey
  obtain⟨z,hd,vs,rel,dd⟩:=a2D I.hok e;refine wpAny_notIn_of (a3J ry) hd dd.mapOf ?_;rw[← (rel.val k).isSome_eq,← l];exact h _ (I.tok _)
 ·subst ey
  cases(show u=Value.ref b from ry)
  obtain⟨z,hd,xs,rel,dd⟩:=a6S I.hok e;refine wpAny_notIn_heap (tupleKind_room_in1 hu) (a4Q I.hok eb) hd dd ?_;have q:=(rel.val k).isSome_eq;rw[Option.isSome_map] at q;rw[← q,← l];exact h _ (I.tok _)
theorem a3D {h':Heap}{t':Nat}{ob:HO}(I:Inv X pins σ H s)(mu:Mut (H a))(hs:Heap.SameBut a s.heap h')(he:∃q,h'.get? a=some q)(new:a1q X.prog X.w (upd H a ob) h' a ob) :
  Inv X pins σ (upd H a ob) { s with heap:=h',toks:=t' }:=
 I.write (x:=a) (e:=a) mu (.inl rfl) (fun b q hb z=>(hs.2 b hb).trans z) he new
theorem a3w {P:Program}{w:World}{H':Hp}{h':Heap}{kvs:List (Key×V)}{vs:List (Key×Value)}(z:kvs.length≤sizeLine)(hd:(a==sysModules)=false)(rel:KV kvs vs)(dd:h'.DictOf (a0l P w) a vs) :
  a1q P w H' h' a (.dK kvs):=⟨z,hd,vs,rel,dd⟩
theorem a8f {H':Hp}{Q:Unit->Shared->Prop}(hu:A.units+1<cLine)(I:Inv X pins σ H s)(g:a9x H a y v H')(ry:a1c y u)(rv:a1c v r)(h:∀s',Inv X pins σ H' s'->Q () s') :
  wpAny (model X.prog X.w) A (setItem (.ref a) u r) Q E s:=by
 rcases g with ⟨kvs,k,e,ey,l,eH⟩ |⟨kvs,k,b,e,ey,eb,l,eH⟩
 ·subst ey eH
  obtain⟨z,hd,vs,rel,dd⟩:=a9Z I.hok e;have hz:vs.length≤sizeLine:=by rw[← rel.length];exact z
  have hl:(a2M kvs k v).length≤sizeLine:=by have:=a2x kvs k v;omega
  refine wpAny_setItem_pairs (hsz:=hz) (a3J ry) dd fun h' dd' hs=>h _ ?_;have he:∃q,h'.get? a=some q:=let ⟨q,_,_,hq,_⟩:=dd';⟨q,hq⟩
  exact a3D I (by rw[e];exact True.intro) hs he (a3w hl hd (rel.put k rv) dd')
 ·subst ey eH
  cases(show u=Value.ref b from ry)
  obtain⟨z,hd,xs,rel,dd⟩:=b3I I.hok e;have hz:xs.length≤sizeLine:=by rw[← Paired.length rel];exact z
  have hl:(a2M kvs k v).length≤sizeLine:=by have:=a2x kvs k v;omega
  refine wpAny_setItem_heap (hsz:=hz) (tupleKind_room_in1 hu) (a4Q I.hok eb) dd fun h' dd' hs=>h _ ?_;obtain⟨q,es,ep,hq,h2,h3,h4,_,h5⟩:=dd';refine a3D I (by rw[e];exact True.intro) hs ⟨q,hq⟩ ⟨hl,hd,_,(rel.put k eb rv).keeps fun c ys ec=>?_,q,es,ep,hq,h2,h3,h4,h5⟩;rw[a0h (b3J ec e (fun z=>nomatch z))];exact ec
end
section
variable {X:Cx}{pins:List (Addr×Obj)}{σ:St}{H:Hp}{s:Shared}{a:Addr}{kvs:List (Key×V)}{k:Key}{u:Value}{A:Around}{E:Value->Shared->Prop}
theorem b2V {Q:Unit->Shared->Prop}(I:Inv X pins σ H s)(e:H a=some (.dK kvs))(ry:a1c (kV k) u)(l:(a3d kvs k).isSome=true)(h:∀s',Inv X pins σ (upd H a (.dK (a3K kvs k))) s'->Q () s') :
  wpAny (model X.prog X.w) A (delItem (.ref a) u) Q E s:=by
 obtain⟨z,hd,vs,rel,dd⟩:=a9Z I.hok e;refine wpAny_delItem_slot dd.typeIs (by decide) PySem.F.slot_dict_delitem
  (call_meetsIn PySem.F.slot_dict_delitem dd.typeIs PySem.F.entry_dict_delitem (PySem.F.args_dict_delitem_2 _ _) (meets_dict_delitem_pairs (a0l X.prog X.w) a (a3J ry)) ⟨vs,dd,by rw[← rel.length];exact z,by rw[← (rel.val k).isSome_eq];exact l,fun h' dd' hs=>h _ ?_⟩)
 have he:∃q,h'.get? a=some q:=let ⟨q,_,_,hq,_⟩:=dd';⟨q,hq⟩
 exact a3D I (by rw[e];exact True.intro) hs he (a3w (Nat.le_trans (a6t kvs k) z) hd (rel.drop k) dd')
theorem b3E {v:V}{more:List Value}{Q:Value->Shared->Prop}(I:Inv X pins σ H s)(e:H a=some (.dK kvs))(ry:a1c (kV k) u)(l:a3d kvs k=some v)(hm:more=[]\/∃x,more=[x])
  (h:∀w' s',Inv X pins σ (upd H a (.dK (a3K kvs k))) s'->a1c v w'->Q w' s'):wpAny (model X.prog X.w) A (call (.builtin "dict.pop") (.ref a::u::more)) Q E s:=by
 obtain⟨z,hd,vs,rel,dd⟩:=a9Z I.hok e;obtain⟨w',hw,rw'⟩:=a4E.some_of (v:=v) (o:=valueAt vs k) (by rw[← l];exact rel.val k);have hp:(keyPart u).isSome=true:=by
  cases k with
  |inl i=>obtain⟨t,q⟩:=(show ∃t,u=Value.int i t from ry);subst q;rfl
  |inr x=>obtain⟨t,q⟩:=(show ∃t,u=Value.str x t from ry);subst q;rfl
 have ha:argsOk "dict.pop" ⟨.ref a::u::more,[]⟩:=by
  rcases hm with q |⟨x,q⟩
  ·subst q;exact PySem.F.args_dict_pop_2 _ _
  ·subst q;exact PySem.F.args_dict_pop_3 _ _ _
 refine call_meetsIn PySem.F.slot_dict_pop dd.typeIs PySem.F.entry_dict_pop ha (meets_dict_pop_there (a0l X.prog X.w) a (a3J ry) more hm hp)
  ⟨vs,w',dd,by rw[← rel.length];exact z,hw,fun h' dd' hs=>h w' _ ?_ rw'⟩
 have he:∃q,h'.get? a=some q:=let ⟨q,_,_,hq,_⟩:=dd';⟨q,hq⟩
 exact a3D I (by rw[e];exact True.intro) hs he (a3w (Nat.le_trans (a6t kvs k) z) hd (rel.drop k) dd')
end
def b5D (i:Expr):Prop:=∀ov iv,subscripted i false ov iv=operate [ov,iv] (getItem ov iv)
theorem b1x {prog:Program}{w:World}{A:Around}{E:Value->Shared->Prop}{s:Shared}{env:Env}{value slice:Expr}{pos:Pos}{T id:String}{Q:Value->Shared->Prop}
  (hl:typeLookup (.type T) "__getitem__"=pure (some (.builtin id))) (hs:b5D slice)
  (h:wpAny (model prog w) A (eval value env) (fun o s₁=>wpAny (model prog w) A (eval slice env) (fun i s₂=>s₂.TypeIs o T/\wpAny (model prog w) A (getItem o i) Q E s₂) E s₁) E s) :
  wpAny (model prog w) A (eval (.Subscript value slice pos) env) Q E s:=by
 refine Subscript_ (wpAny_mono h (fun o s₁ h₁=>wpAny_mono h₁ (fun i s₂ h₂=>?_) fun _ _ x=>x) fun _ _ x=>x);obtain⟨hT,h₂⟩:=h₂;unfold subscriptTail;refine wB0 ?_;rw[getitemInPython_of_ne hT.not_modules];refine wB0 (wpAny_specialOf hT hl ?_);have fin:wpAny (model prog w) A (subscripted slice false o i) (fun r s₃=>wpAny (model prog w) A (letTemporaryGo value o r >>= fun _=>pure r) Q E s₃) E s₂:=by
  rw[hs o i];exact wpAny_operating (wpAny_mono h₂ (fun r s₃ h₃=>wB0 (wpAny_letTemporaryGo (wP0 h₃))) fun _ _ x=>x)
 first
  |exact wP0 (wB0 fin)
  |exact wB0 (wP0 (wB0 fin))
  |exact wB0 fin
theorem a5y {X:Cx}{pins:List (Addr×Obj)}{σ:St}{H:Hp}{s:Shared}{a:Addr}{y:V}{o:Option V}(I:Inv X pins σ H s)(g:b0O H a y o):s.TypeIs (.ref a) "dict":=by
 rcases g with ⟨kvs,k,e,_,_⟩ |⟨kvs,k,b,e,_,_,_⟩
 ·obtain⟨_,_,vs,_,dd⟩:=a2D I.hok e
  exact dd.typeIs
 ·obtain⟨_,_,xs,_,dd⟩:=a6S I.hok e
  exact dd.typeIs
def b4w (td ty:TE):TE:=fun σ H Q=>td σ H fun x H1=>ty σ H1 fun y H2=>∃a v,x=.ref a/\b0O H2 a y (some v)/\Q v H2
def b1t (ty td:TE):TE:=fun σ H Q=>ty σ H fun y H1=>td σ H1 fun x H2=>∃a o,x=.ref a/\b0O H2 a y o/\Q (.bl (!o.isSome)) H2
def b4l (td ty tv:TE):TS:=fun D σ H=>tv σ H fun v H1=>td σ H1 fun x H2=>ty σ H2 fun y H3=>∃a H4,x=.ref a/\a9x H3 a y v H4/\D.nx σ H4
section
variable {X:Cx}{o i e value:Expr}{pos pos' tpos:Pos}{td ty tv:TE}
theorem a2k (hu:X.A.units+1<cLine)(ho:PE X o td)(hi:PE X i ty)(hs:b5D i):PE X (.Subscript o i pos) (b4w td ty):=by
 intro pins s σ H Q I h;refine b1x PySem.F.slot_dict_getitem.lookup hs (thn (ho pins s σ H _ I h) fun u s1 ⟨x,H1,I1,rx,q1⟩=>thn (hi pins s1 σ H1 _ I1 q1) fun iv s2 ⟨y,H2,I2,ry,a,v,ex,g,q2⟩=>?_);subst ex;obtain rfl:u=Value.ref a:=rx;exact⟨a5y I2 g,a7p hu I2 g ry fun w' s3 I3 rw'=>⟨v,H2,I3,rw',q2⟩⟩
theorem a8D (hu:X.A.units+1<cLine)(hi:PE X i ty)(ho:PE X o td):PC X .NotIn i o (b1t ty td):=by
 intro pins s σ H Q I h;refine thn (hi pins s σ H _ I h) fun iv s1 ⟨y,H1,I1,ry,q1⟩=>thn (ho pins s1 σ H1 _ I1 q1) fun u s2 ⟨x,H2,I2,rx,a,ov,ex,g,q2⟩=>?_;subst ex;obtain rfl:u=Value.ref a:=rx;exact b1h hu I2 g ry fun s3 I3=>⟨.bl (!ov.isSome),H2,I3,rfl,q2⟩
theorem a3f (hu:X.A.units+1<cLine)(ho:PE X o td)(hi:PE X i ty)(hv:PE X value tv)(hs:swapsWith value (some (.Subscript o i pos')) pos.line X.env=pure false) :
  PS X (.Assign [.Subscript o i pos'] value pos) (b4l td ty tv):=by
 intro pins s σ H D I h;refine wpAny_Assign_Subscript (thn (hv pins s σ H _ I h) fun r s1 ⟨v,H1,I1,rv,q1⟩=>thn (ho pins s1 σ H1 _ I1 q1) fun u s2 ⟨x,H2,I2,rx,q2⟩=>thn (hi pins s2 σ H2 _ I2 q2) fun iv s3 ⟨y,H3,I3,ry,a,H4,ex,g,q3⟩=>?_) hs;subst ex;obtain rfl:u=Value.ref a:=rx;exact a8f hu I3 g ry rv fun s4 I4=>⟨σ,H4,I4,q3⟩
end
theorem a6n {P:Program}{w:World}{H:Hp}(h:Heap)(hb:sysModules<h.objs.size):a1q P w H (h.push { cls:=.type "dict",data:=.dict #[] }) h.objs.size (.dK []):=
 ⟨Nat.zero_le _,beq_eq_false_iff_ne.mpr (Ne.symm (Nat.ne_of_lt hb)),[],.nil,Heap.DictOf.new h⟩
def b2M:TE:=fun _ H Q=>∀p,H p=none->Q (.ref p) (upd H p (.dK []))
section
variable {X:Cx}{pos:Pos}
theorem a9w:PE X (.Dict [] [] pos) b2M:=fun pins s σ H Q I h=>
 wpAny_Dict_empty ⟨.ref s.heap.objs.size,_,I.laid (a:=s.heap.objs.size) (o:=.dK []) (t':=s.toks) (fun _ _ q=>hP0 _ q) (Nat.le_refl _) (a6n s.heap I.big),rfl,h _ (I.hok.fresh (Nat.le_refl _))⟩
end
def a6v:List (TE×TE)->St->Hp->(List (V×V)->Hp->Prop)->Prop
 |[],_,H,Q=>Q [] H
 | (tk,tv)::r,σ,H,Q=>tk σ H fun x H1=>tv σ H1 fun y H2=>a6v r σ H2 fun ps H3=>Q ((x,y)::ps) H3
abbrev VV:List (V×V)->List (Value×Value)->Prop:=Paired fun p q=>a1c p.1 q.1/\a1c p.2 q.2
def PPs (X:Cx)(pos:Pos)(keys:List (Option Expr))(values:List Expr)(trs:List (TE×TE)):Prop:=
 ∀(pins:List (Addr×Obj)) (s:Shared) (σ:St) (H:Hp) (Q:List (V×V)->Hp->Prop),Inv X pins σ H s->a6v trs σ H Q →
  wpAny (model X.prog X.w) X.A (evalPairs (pairTrees keys values X.env pos)) (fun vs s'=>∃ps H',Inv X pins σ H' s'/\VV ps vs/\Q ps H') X.xe s
theorem a4w {X:Cx}{pos:Pos}:PPs X pos [] [] []:=fun pins s σ H Q I h=>pairTrees_nil_walk ⟨[],H,I,.nil,h⟩
theorem a2z {X:Cx}{pos:Pos}{k v:Expr}{ks:List (Option Expr)}{vs:List Expr}{tk tv:TE}{trs:List (TE×TE)}(hk:PE X k tk)(hv:PE X v tv)(hr:PPs X pos ks vs trs) :
  PPs X pos (some k::ks) (v::vs) ((tk,tv)::trs):=fun pins s σ H Q I h=>
 pairTrees_cons_walk (thn (hk pins s σ H _ I h) fun u s1 ⟨x,H1,I1,rx,q1⟩=>thn (hv pins s1 σ H1 _ I1 q1) fun w2 s2 ⟨y,H2,I2,ry,q2⟩=>
  thn (hr pins s2 σ H2 _ I2 q2) fun ws s3 ⟨ps,H3,I3,rel,q3⟩=>⟨(x,y)::ps,H3,I3,.cons ⟨rx,ry⟩ rel,q3⟩)
def a3b (kvs more:List (Key×V)):List (Key×V):=more.foldl (fun acc kv=>a2M acc kv.1 kv.2) kvs
theorem KV.merge:∀{more:List (Key×V)} {rs:List (Key×Value)} {kvs:List (Key×V)} {vs:List (Key×Value)},KV more rs->KV kvs vs->KV (a3b kvs more) (merged vs rs):=by
 intro more rs kvs vs r;unfold KV at r
 induction r generalizing kvs vs with
 |nil=>intro q;exact q
 |@cons p q ps qs h t ih=>
  intro r0;have e:KV (a2M kvs p.1 p.2) (stored vs q.1 q.2):=by
   have:=r0.put p.1 h.2
   rw[← h.1];exact this
  exact ih e
theorem a2C:∀(more kvs:List (Key×V)),(a3b kvs more).length≤kvs.length+more.length
 |[],kvs=>by show kvs.length≤kvs.length+0;omega
 |p::r,kvs=>by
  have h1:=a2C r (a2M kvs p.1 p.2);have h2:=a2x kvs p.1 p.2
  show(a3b (a2M kvs p.1 p.2) r).length≤_
  rw[List.length_cons];omega
theorem a3N {P:Program}{w:World}:∀{kvs:List (Key×V)} {ws:List (Value×Value)},VV (kvs.map fun kv=>(kV kv.1,kv.2)) ws->∃rs,Carries (a0l P w) ws rs/\KV kvs rs
 |[],_,r=>by rw[List.map_nil] at r;cases r;exact⟨[],True.intro,.nil⟩
 |p::kvs,_,r=>by
  rw[List.map_cons] at r;cases r with
  |@cons a b as bs h t=>
   obtain⟨rs,c,q⟩:=a3N (P:=P) (w:=w) t;obtain⟨b1,b2⟩:=b;exact⟨(p.1,b2)::rs,⟨a3J h.1,rfl,c⟩,.cons ⟨rfl,h.2⟩ q⟩
def b1F (trs:List (TE×TE)):TE:=fun σ H Q=>∀p,H p=none->a6v trs σ (upd H p (.dK [])) fun ps H2=>H2 p=some (.dK [])/\∃kvs:List (Key×V),ps=kvs.map (fun kv=>(kV kv.1,kv.2))/\kvs.length≤15/\Q (.ref p) (upd H2 p (.dK (a3b [] kvs)))
theorem a4e {X:Cx}{pos:Pos}{keys:List (Option Expr)}{values:List Expr}{trs:List (TE×TE)}(h:PPs X pos keys values trs)(hall:keys.all (·.isSome)=true)(hl:keys.length=values.length)(h0:keys≠[])
  (h15:keys.length≤15):PE X (.Dict keys values pos) (b1F trs):=by
 intro pins s σ H Q I q;have hn:=I.hok.fresh (Nat.le_refl s.heap.objs.size);have I1:=I.laid (a:=s.heap.objs.size) (o:=.dK []) (h':=s.heap.push { cls:=.type "dict",data:=.dict #[] }) (t':=s.toks) (fun _ _ q=>hP0 _ q) (Nat.le_refl _) (a6n s.heap I.big);refine wpAny_Dict_walk (knd:=a0l X.prog X.w) hall hl h0 h15 (thn (h pins _ σ _ _ I1 (q _ hn)) fun ws s2 ⟨ps,H2,I2,rel,e,kvs,ep,lk,q2⟩=>?_);subst ep;obtain⟨rs,c,rk⟩:=a3N (P:=X.prog) (w:=X.w) rel;obtain⟨z,hd,vs0,r0,dd⟩:=a9Z I2.hok e;cases r0;refine⟨rs,c,dd,fun h' dd' hs=>⟨.ref s.heap.objs.size,_,?_,rfl,q2⟩⟩;have hz:(a3b [] kvs).length≤sizeLine:=by
  have h1:=a2C kvs [];rw[List.length_nil] at h1;rw[sizeLine_eq];omega
 have he:∃q,h'.get? s.heap.objs.size=some q:=let ⟨q,_,_,hq,_⟩:=dd';⟨q,hq⟩
 exact a3D I2 (by rw[e];exact True.intro) hs he (a3w hz hd (rk.merge .nil) dd')
structure M1 (X:Cx) (o:Expr) (m:Str) (apos:Pos) (e:Expr) (cpos:Pos):Prop where
 base:attributeBase o m X.env (eval o X.env)=eval o X.env
 few:((backTo cpos (starEach [e] X.env)).all (fun x=>!x.1)&&(backToKw cpos (keywordEach [] X.env)).all (fun x=>x.1.isSome)
  && decide (([e]:List Expr).length+([]:List Keyword).length+(if ([]:List Keyword).isEmpty then 0 else 1)<30))=true
 line:(apos.endLine==cpos.line)=true
 trees:backTo cpos (starEach [e] X.env)=[(false,eval e X.env)]
def IsD (H:Hp)(a:Addr):Prop:=(∃kvs,Rd H a (.dK kvs))\/∃kvs,Rd H a (.dT kvs)
theorem b0y {X:Cx}{pins:List (Addr×Obj)}{σ:St}{H:Hp}{s:Shared}{a:Addr}(I:Inv X pins σ H s)(d:IsD H a) :
  s.TypeIs (.ref a) "dict"/\(∀b,Value.ref a=.ref b->∃ob,s.heap.get? b=some ob/\ob.dict=none)/\(a==sysModules)=false:=by
 rcases d with ⟨kvs,e⟩ |⟨kvs,e⟩
 ·obtain⟨_,hd,vs,_,dd⟩:=a2D I.hok e
  refine⟨dd.typeIs,fun b q=>?_,hd⟩;cases q;obtain⟨ob,_,_,h1,h2,_⟩:=dd;exact⟨ob,h1,h2.2.1⟩
 ·obtain⟨_,hd,xs,_,dd⟩:=a6S I.hok e
  refine⟨dd.typeIs,fun b q=>?_,hd⟩;cases q;obtain⟨ob,_,_,h1,h2,_⟩:=dd;exact⟨ob,h1,h2.2.1⟩
section
variable {X:Cx}{pins:List (Addr×Obj)}{σ:St}{H:Hp}{s:Shared}{a:Addr}{y d:V}{u r:Value}{o:Option V}{A:Around}{E:Value->Shared->Prop}
theorem b2Y {Q:Value->Shared->Prop}(hu:A.units+1<cLine)(I:Inv X pins σ H s)(g:b0O H a y o)(ry:a1c y u)(h:∀w' s',Inv X pins σ H s'->a1c (o.getD .non) w'->Q w' s') :
  wpAny (model X.prog X.w) A (call (.builtin "dict.get") [.ref a,u]) Q E s:=by
 rcases g with ⟨kvs,k,e,ey,l⟩ |⟨kvs,k,b,e,ey,eb,l⟩
 ·subst ey
  obtain⟨z,hd,vs,rel,dd⟩:=a2D I.hok e;refine call_meetsIn PySem.F.slot_dict_get dd.typeIs PySem.F.entry_dict_get (PySem.F.args_dict_get_2 _ _) (meets_dict_get (a0l X.prog X.w) a (a3J ry) hd) ⟨_,dd.mapOf,h _ _ (I.tok _) ?_⟩;rw[l];exact(rel.val k).getD rfl
 ·subst ey
  cases(show u=Value.ref b from ry)
  obtain⟨z,hd,xs,rel,dd⟩:=a6S I.hok e;refine call_meetsIn PySem.F.slot_dict_get dd.typeIs PySem.F.entry_dict_get (PySem.F.args_dict_get_2 _ _) (meetsH_dict_get (tupleKind (a0l X.prog X.w)) a b hd) ⟨tupleKind_room_in1 hu,k,xs,a4Q I.hok eb,dd,h _ _ (I.tok _) ?_⟩;rw[l];exact(rel.val k).getD rfl
end
def b2R (td ty:TE):TE:=fun σ H Q=>td σ H fun x H1=>∃a,x=.ref a/\IsD H1 a/\ty σ H1 fun y H2=>∃o,b0O H2 a y o/\Q (o.getD .non) H2
def b2b (td ty:TE):TE:=fun σ H Q=>td σ H fun x H1=>∃a,x=.ref a/\IsD H1 a/\ty σ H1 fun y H2=>∃kvs k v,H2 a=some (.dK kvs)/\y=kV k/\a3d kvs k=some v/\Q v (upd H2 a (.dK (a3K kvs k)))
section
variable {X:Cx}{o e f:Expr}{apos cpos:Pos}{td ty tx:TE}
theorem a6o (hu:X.A.units+1<cLine)(ho:PE X o td)(he:PE X e ty)(m:M1 X o "get" apos e cpos):PE X (.Call (.Attribute o "get" apos) [e] [] cpos) (b2R td ty):=by
 intro pins s σ H Q I h;refine wpAny_Call_method m.base m.few m.line PySem.F.plainAttrs_dict PySem.F.slot_dict_get PySem.F.type_dict_get (thn (ho pins s σ H _ I h) fun u s1 ⟨x,H1,I1,rx,a,ex,d,q1⟩=>?_);subst ex;obtain rfl:u=Value.ref a:=rx;obtain⟨t1,t2,_⟩:=b0y I1 d;refine⟨t1,t2,?_⟩;rw[m.trees];refine Calls.callWith_builtin rfl (Calls.evalArgs_plain (Calls.spliced_cons (thn (he pins s1 σ H1 _ I1 q1) fun iv s2 ⟨y,H2,I2,ry,ov,g,q2⟩=>Calls.spliced_nil ?_)));exact b2Y hu I2 g ry fun w' s3 I3 rw'=>⟨_,H2,I3,rw',q2⟩
theorem a6A (ho:PE X o td)(he:PE X e ty)(m:M1 X o "pop" apos e cpos):PE X (.Call (.Attribute o "pop" apos) [e] [] cpos) (b2b td ty):=by
 intro pins s σ H Q I h;refine wpAny_Call_method m.base m.few m.line PySem.F.plainAttrs_dict PySem.F.slot_dict_pop PySem.F.type_dict_pop (thn (ho pins s σ H _ I h) fun u s1 ⟨x,H1,I1,rx,a,ex,d,q1⟩=>?_);subst ex;obtain rfl:u=Value.ref a:=rx;obtain⟨t1,t2,_⟩:=b0y I1 d;refine⟨t1,t2,?_⟩;rw[m.trees];refine Calls.callWith_builtin rfl (Calls.evalArgs_plain (Calls.spliced_cons (thn (he pins s1 σ H1 _ I1 q1) fun iv s2 ⟨y,H2,I2,ry,kvs,k,v,ea,ey,l,q2⟩=>Calls.spliced_nil ?_)));subst ey;exact b3E I2 ea ry l (.inl rfl) fun w' s3 I3 rw'=>⟨v,_,I3,rw',q2⟩
end
section
variable {X:Cx}{pins:List (Addr×Obj)}{σ:St}{H:Hp}{s:Shared}{a:Addr}{kvs:List (Key×V)}{A:Around}{E:Value->Shared->Prop}
theorem a9c {Q:Value->Shared->Prop}(I:Inv X pins σ H s)(e:Rd H a (.dK kvs))(h:∀p s',H p=none->Inv X pins σ (upd H p (.dK kvs)) s'->Q (.ref p) s'):wpAny (model X.prog X.w) A (call (.type "dict") [.ref a]) Q E s:=by
 obtain⟨z,hd,vs,rel,dd⟩:=a2D I.hok e;refine kt_call_dict hd dd (by rw[← rel.length];exact z) fun h' dd' hs=>?_;refine h _ _ (I.hok.fresh (Nat.le_refl _)) (I.laid (a:=s.heap.objs.size) (o:=.dK kvs) (t':=s.toks) (fun b q hq=>?_) (Nat.le_refl _) (a3w z (beq_eq_false_iff_ne.mpr (Ne.symm (Nat.ne_of_lt I.big))) rel dd'));exact(hs.2 b (Nat.ne_of_lt (Heap.lt_size hq))).trans (hP0 _ hq)
end
end L2
namespace Att
open PySem PySem.W PySem.Calls PyProof.Rows
theorem a3y {P:Params}{h:Heap}:∀(ns:List Int) (vs:List Value),WellAll P h vs (ns.map WData.int)->IntsAre vs ns:=by
 intro ns
 induction ns with
 |nil=>
  intro vs w;rw[List.map_nil] at w;cases w;exact .nil
 |cons n ns ih=>
  intro vs w;rw[List.map_cons] at w;cases w with
  |cons a b=>
   cases a;exact .cons _ _ (ih _ b)
theorem a8S {l:OpenLaw}{n:Nat}(hn:l.most=some n){P:Params}{h:Heap}{args:List WData}{vals:List Value}
  (hpre:l.row.toRowW.claim.pre args=true) (hwl:WellAll P h vals args) :
  ∃a vs ns,vals=[Value.ref a]/\args=[WData.list (ns.map WData.int)]/\h.get? a=some { cls:=.type "list",data:=.seq vs.toArray }/\IntsAre vs ns/\ns.length≤n:=by
 have hsh:WShape.hasAll [] args [.list .int]=true:=(pre_splitW hpre).1;have hc:l.pre.holds [] { args:=args }=true:=(pre_splitW hpre).2;obtain⟨d,r,rfl,h1,h2⟩:=hasAllW_cons hsh;obtain rfl:=hasAllW_nil h2;obtain⟨xs,rfl,h3⟩:=hasW_list h1;obtain⟨ns,rfl⟩:=items_int h3;have hlen:ns.length≤n:=by
  unfold OpenLaw.pre at hc;have h4:(WTm.not (.lt (.lit (.int (n:Int))) (.len (.arg 0)))).holds [] { args:=[.list (ns.map .int)] }=true:=by
   have h4:=(holds_andW hc).1;rw[hn] at h4;exact h4
  have h5:=condW_of h4 (w_not (w_lt w_lit (w_len_list (w_arg rfl))));rw[lM0] at h5;refine Nat.le_of_not_lt fun q=>?_;have q':(n:Int)<((ns.length:Nat):Int):=by omega
  first
   | (rw[decide_eq_true q'] at h5;exact absurd h5 (by decide))
   | (simp at h5;omega)
 cases hwl with
 |cons w1 w2=>
  cases w2;cases w1 with
  |list ho hall=>exact⟨_,_,ns,rfl,rfl,ho,a3y ns _ hall,hlen⟩
theorem a8k (l:OpenLaw)(args:List WData):l.row.toRowW.claim.post args (.bool true) args=true:=
 postW_of (r:=l.row.toRowW) (X:=(true==true))
  (show WShape.has [] (.bool true) .bool=true by first |rfl |decide |simp[WShape.has,WShape.arms,WShape.armsAll])
  (show(WTm.eq .res (.lit (.bool true))).value [] { args:=args,res:=some (.bool true),after:=args }=some (.bool (true==true)) from w_eq_bool (w_res rfl) w_lit) rfl
theorem a3e {l:OpenLaw}{n:Nat}{q:Program}{loose:List Str}{XP:(Str->Option Value)->Heap->Prop}{YP:World->Heap->Prop}{d:DefRec}
  (hn:l.most=some n) (hdf:d.params.defaults=[])
  (call:∀(w:World) (s₀ s₁:Shared) (mg mb:Str->Option Value) (fa:Addr) (o:Obj) (pm cd doc:Value) (a:Addr) (vs:List Value) (ns:List Int),
   Ground q loose [] XP w s₀ mg mb s₁.heap->YP w s₁.heap →
   s₁.heap.get? fa=some o->o.data=.func (docDef d.name d.params d.body d.scope pm cd doc)->s₁.heap.CodeRec cd d.name->mg d.name=some (.ref fa) →
   s₁.heap.get? a=some { cls:=.type "list",data:=.seq vs.toArray }->IntsAre vs ns->ns.length≤n->s₁.gens=#[] →
   codeAny (model l.prog w) callerA (.call (.ref fa) ⟨[.ref a],[]⟩) (fun r s'=>r=.ok (.ret (.bool true))/\OldK s₁.heap s'.heap/\s'.os=s₁.os/\AllBare s'.gens) s₁) :
  WalkO q loose XP YP l.row.toRowW d [] (fun f vs=>PySem.call f vs):=by
 intro w s₀ s₁ mg mb G Y fa o pm cd doc dV kV ho hd hcd hD hmg hg args vals as hpre hlay hrd hwl hlo;obtain rfl:dV=.none:=Dflts.none hD hdf;obtain rfl:kV=.none:=Dflts.noKw hD;obtain⟨a,vs,ns,rfl,rfl,hobj,hints,hlen⟩:=a8S hn hpre hwl;refine enter_call (codeAny_mono (call w s₀ s₁ mg mb fa o pm cd doc a vs ns G Y ho (fd_plain hd) hcd hmg hobj hints hlen hg) fun r s' hq=>?_);obtain⟨rfl,h2,h3,h4⟩:=hq;exact⟨.inl ⟨.bool true,.bool true,[],rfl,fun _=>rfl,.bool true,a8k l _,fun _=>⟨List.Pairwise.nil,fun _ hm=>(nomatch hm)⟩⟩,h2,h3,h4⟩
end Att
namespace L2
open PySem PySem.Spec PyProof.Rows
theorem a3E:∀{vs:List Value} {ns:List Int},IntsAre vs ns->a1m (ns.map V.int) vs
 |_,_,.nil=>.nil
 |_,_,.cons n t h=>.cons ⟨t,rfl⟩ (a3E h)
def b3L (H:Hp):Prop:=∀b,H b=none\/∃o xs,H b=some (.frz o (.lst xs))
theorem a9t {P:Program}{w:World}{K:Fg0}{mg mb:Str->Option Value}{CX:CXT}{k:Nat}{fa a:Addr}{fd:FuncData}{x:Str}{sp:Sp}{s₁:Shared}{vs:List Value}{ns:List Int}
  (KX:K.In s₁.heap) (hns:s₁.heap.Ns mainGlobals mg) (hb:s₁.heap.Ns builtinsNs mb) (hbb:∀x:Str,x≠"__name__"->mb x=bootBuiltins x) (hlim:s₁.heap.NoLimit) (hg:s₁.gens=#[])
  (ha:s₁.heap.get? a=some { cls:=.type "list",data:=.seq vs.toArray }) (hi:IntsAre vs ns) (hl:ns.length≤sizeLine) (hr:a1o k callerA)
  (F:∀base:Heap,K.In base->base.Ns mainGlobals mg->a0w P w K mg base CX k fa fd [x] sp) (hbind:∀(s:Shared) (u:Value),BindsTo s fd ⟨[u],[]⟩ [(x,u)])
  (hsp:∀H:Hp,b3L H->SqL K H a (ns.map V.int)->sp [.ref a] H (fun v _=>v=.bl true) fun _ _ _=>False)
  (hCX:∀H e s',CX [] H s₁ (fun _ _ _=>False) e s'->False) :
  codeAny (model P w) callerA (.call (.ref fa) ⟨[.ref a],[]⟩) (fun r s'=>r=.ok (.ret (.bool true))/\OldK s₁.heap s'.heap/\s'.os=s₁.os/\AllBare s'.gens) s₁:=by
 have rv:=a3E hi;have lenV:=hi.length;have core:∀H:Hp,b3L H->SqL K H a (ns.map V.int)->HOk P w H s₁.heap->(∀b,H b≠none->b=a)->(H a≠none->K.lookup a=none) →
   codeAny (model P w) callerA (.call (.ref fa) ⟨[.ref a],[]⟩) (fun r s'=>r=.ok (.ret (.bool true))/\OldK s₁.heap s'.heap/\s'.os=s₁.os/\AllBare s'.gens) s₁:=by
  intro H hO hS hok hA hK;have base_of:∀{b:Addr} {o:Obj},s₁.heap.get? b=some o->H b=none->(a5Q s₁.heap H).get? b=some o:=fun e n=>a6f e n;have noA:∀{b:Addr} {o:Obj} {es:Array DictEntry} {ep:Nat},s₁.heap.get? b=some o->o.data=.dict es ep->H b=none:=fun {b o es ep} e d=>by
   cases q:H b with
   |none=>rfl
   |some u=>
    have e':b=a:=hA b (by rw[q];simp);subst e';rw[ha] at e;cases e;have d':Data.seq vs.toArray _=Data.dict es ep:=d;cases d'
  have nsK:∀{b:Addr} {m:Str->Option Value},s₁.heap.Ns b m->(a5Q s₁.heap H).Ns b m:=fun {b m} ⟨o,es,ep,e,d,r⟩=>⟨o,es,ep,base_of e (noA e d),d,r⟩;have hKb:K.In (a5Q s₁.heap H):=fun b o e=>base_of (KX b o e) (by
   cases q:H b with
   |none=>rfl
   |some u=>
    have e':b=a:=hA b (by rw[q];simp);subst e';rw[hK (by rw[q];simp)] at e;cases e)
  have hM:Mod K mg (a5Q s₁.heap H):=⟨hKb,nsK hns,⟨mb,nsK hb,hbb⟩,let ⟨mc,h1,h2⟩:=hlim;⟨mc,nsK h1,h2⟩⟩;have e0:a7i P w K mg (a5Q s₁.heap H) callerA [] s₁ H:=⟨rfl,hM,fun b o e=>a8T e,Nat.le_of_eq (a4Z _ _),trivial,fun b hb=>absurd (show b∈([]:List Addr) from hb) (by simp),hok,.of_eq hg⟩;refine codeAny_mono ((F _ hKb (nsK hns)).run callerA [] s₁ H ⟨[.ref a],[]⟩ [.ref a] [.ref a] _ _ hr e0 (hbind s₁ (.ref a)) (.cons rfl .nil) (hsp H hO hS)) fun r s' h=>?_;cases r with
  |error e=>exact(hCX H e s' h).elim
  |ok fl=>
   cases fl with
   |next=>exact False.elim h
   |brk=>exact False.elim h
   |cont=>exact False.elim h
   |ret u=>
    obtain⟨v,H',os,bare,un,hok',r',q⟩:=h;have q':v=.bl true:=q;subst q';obtain rfl:u=Value.bool true:=r';refine⟨rfl,OldK.of_keep fun b o e=>?_,os,bare⟩;cases q:H b with
    |none=>exact un.keep b o e q (by intro z;exact absurd (show b∈([]:List Addr) from z) (by simp)) (by simp)
    |some u=>
     rcases hO b with z |⟨ob,xs,z⟩
     ·rw[q] at z;cases z
     ·have z2:=un.frzs b ob _ z
      obtain⟨e1,_⟩:=hok b _ z;obtain⟨e2,_⟩:=hok' b _ z2;rw[e] at e1;cases e1;exact e2
 cases hk:K.lookup a with
 |some o=>
  have e:=KX a o hk;rw[ha] at e;cases e;refine core (fun _=>none) (fun _=>.inl rfl) (.inr ⟨_,vs.toArray,_,hk,rfl,rfl,rfl,by rw[List.size_toArray,lenV];exact hl,by simpa using rv⟩) (fun b u z=>by have z':(none:Option HO)=some u:=z;cases z') (fun b z=>absurd rfl z) fun z=>absurd rfl z
 |none=>
  refine core (fun b=>if b=a then some (.frz { cls:=.type "list",data:=.seq vs.toArray } (.lst (ns.map V.int))) else none) (fun b=>?_) (.inl (.inr ⟨{ cls:=.type "list",data:=.seq vs.toArray },if_pos rfl⟩)) (fun b u z=>?_) (fun b z=>?_) fun _=>hk
  ·by_cases hb:b=a
   ·exact .inr ⟨_,_,if_pos hb⟩
   ·exact .inl (if_neg hb)
  ·by_cases hb:b=a
   ·have z':=(if_pos hb).symm.trans z
    cases z';subst hb;exact⟨ha,by rw[lM0];exact hl,vs,_,rv,ha⟩
   ·have z':=(if_neg hb).symm.trans z
    cases z'
  ·by_cases hb:b=a
   ·exact hb
   ·exact absurd (if_neg hb) z
theorem b0N {l:PySem.W.OpenLaw}{n k:Nat}{q:Program}{loose:List Str}{XP:(Str->Option Value)->Heap->Prop}{YP:World->Heap->Prop}{d:DefRec}{K:Params->Fg0}{CX:World->CXT}{sp:World->Sp}{x:Str}
  (hn:l.most=some n) (hn2:n≤sizeLine) (hdf:d.params.defaults=[]) (hr:a1o k callerA)
  (hY:∀(w:World) (h:Heap),YP w h->(K w.params).In h)
  (F:∀(w:World) (mg:Str->Option Value) (fa:Addr) (h:Heap),(K w.params).In h->h.Ns mainGlobals mg->mg d.name=some (.ref fa) →
   ∃fd:FuncData,(∀(s:Shared) (u:Value),BindsTo s fd ⟨[u],[]⟩ [(x,u)]) ∧
    ∀base:Heap,(K w.params).In base->base.Ns mainGlobals mg->a0w l.prog w (K w.params) mg base (CX w) k fa fd [x] (sp w))
  (hsp:∀(w:World) (H:Hp) (a:Addr) (ns:List Int),ns.length≤n->b3L H->SqL (K w.params) H a (ns.map V.int)->sp w [.ref a] H (fun v _=>v=.bl true) fun _ _ _=>False)
  (hCX:∀(w:World) (H:Hp) (s:Shared) (e:Value) (s':Shared),CX w [] H s (fun _ _ _=>False) e s'->False) :
  PySem.W.WalkO q loose XP YP l.row.toRowW d [] (fun f vs=>PySem.call f vs):=by
 refine Att.a3e hn hdf fun w s₀ s₁ mg mb fa o pm cd doc a vs ns G Y ho hd hcd hmg hobj hints hlen hg=>?_;have KX:=hY w _ Y;obtain⟨fd,hb,hF⟩:=F w mg fa _ KX G.T.g hmg;exact a9t KX G.T.g G.T.b G.T.builtins G.T.nolimit hg hobj hints (Nat.le_trans hlen hn2) hr hF hb (fun H hO hS=>hsp w H a ns hlen hO hS) fun H e s'=>hCX w H s₁ e s'
def a3p (s:Stmt)(j:Nat):Stmt:=match s with
 | .ClassDef _ _ _ body _ _ _ _ _ _ _=>body.getD j (.Pass ⟨0,0,0,0⟩)
 |_=>.Pass ⟨0,0,0,0⟩
def a0K (s:Stmt):Arguments:=match s with
 | .FunctionDef _ a _ _ _ _ _ _ _ _=>a
 |_=>{ posonlyargs:=[],args:=[],vararg:=none,kwonlyargs:=[],kw_defaults:=[],kwarg:=none,defaults:=[] }
def a0G (s:Stmt):List Stmt:=match s with
 | .FunctionDef _ _ b _ _ _ _ _ _ _=>b
 |_=>[]
def a0e (s:Stmt):Scope:=match s with
 | .FunctionDef _ _ _ _ _ _ sc _ _ _=>sc
 |_=>{ kind:=.function,names:=[],isGenerator:=false,isCoroutine:=false }
abbrev CX0:CXT:=fun _ _ _ _ _ _=>False
abbrev E0:XK:=fun _ _ _=>False
theorem a0k {X:Cx}:a3G CX0 X E0:=fun _ _ _ _ _ _ _ h=>h.elim
structure Fun (K:Fg0) (x qual:Str) (st:Stmt) (f:Addr) (fd:FuncData):Prop where
 ex:∃(oc:Value) (od:Option Addr) (kV doc pm:Value) (an:Option Addr) (cdv ct:Value) (osl:Array (Option Value)),
  fd=PySem.W.fnOf x qual (a0K st) (a0G st) (a0e st) .none kV doc pm an cdv ct/\K.lookup f=some ⟨oc,od,.func fd,osl⟩/\PySem.W.codeIn K cdv qual=true
 kp:PySem.W.keepIn K (.ref f)=true
section
variable {P:Program}{w:World}{K:Fg0}{mg:Str->Option Value}{base:Heap}
theorem Fun.ok {x qual:Str}{st:Stmt}{f:Addr}{fd:FuncData}{N ps:List Str}{k:Nat}{sp:Sp}(F:Fun K x qual st f fd)(S:a0j N ps (a0e st))(len:∀vs H Q E,sp vs H Q E->vs.length=ps.length)
  (hbody:∀(cdv:Value) (A:Around) (outer:List Env) (s:Shared) (H:Hp) (vs:List V) (Q:VK) (E:XK),a1o k (A.deeper (envOfC qual (a0e st) s.heap.objs.size f cdv))->sp vs H Q E →
   ∃t,PSs (a7n CX0 P w K mg base N qual (a0e st) f cdv A outer s H E).nox (a0G st) t/\t { nx:=fun _ H'=>Q .non H',rt:=Q } (a2U N vs) H):a0w P w K mg base CX0 (k+1) f fd ps sp:=by
 obtain⟨oc,od,kV,doc,pm,an,cdv,ct,osl,rfl,lk,hcd⟩:=F.ex;refine b0Q lk hcd S len fun A outer s H vs Q E hr hsp=>?_;obtain⟨t,h,q⟩:=hbody cdv A outer s H vs Q E hr hsp;exact⟨t,h.nox,q⟩
theorem Fun.binds {x qual:Str}{st:Stmt}{f:Addr}{fd:FuncData}{ps:List Str}(F:Fun K x qual st f fd)
  (h:∀(kV doc pm:Value) (an:Option Addr) (cdv ct:Value) (us:List Value),us.length=ps.length->bindArgs (PySem.W.fnOf x qual (a0K st) (a0G st) (a0e st) .none kV doc pm an cdv ct) ⟨us,[]⟩=pure (ps.zip us)):a1s K fd ps []:=by
 obtain⟨oc,od,kV,doc,pm,an,cdv,ct,osl,rfl,lk,hcd⟩:=F.ex;exact .all (h kV doc pm an cdv ct)
theorem a6H {x qual:Str}{st:Stmt}{f:Addr}{oc:Value}{od an:Option Addr}{osl:Array (Option Value)}{kV doc pm cdv ct:Value}(l:K.lookup f=some ⟨oc,od,.func (PySem.W.fnOf x qual (a0K st) (a0G st) (a0e st) .none kV doc pm an cdv ct),osl⟩)
  (c:PySem.W.codeIn K cdv qual=true) (k:PySem.W.keepIn K (.ref f)=true):Fun K x qual st f (PySem.W.fnOf x qual (a0K st) (a0G st) (a0e st) .none kV doc pm an cdv ct):=⟨⟨oc,od,kV,doc,pm,an,cdv,ct,osl,rfl,l,c⟩,k⟩
end
theorem a2S {A:Around}{k:Nat}(hr:a1o k A):A.units+1<cLine:=Nat.lt_of_le_of_lt (Nat.add_le_add_left (by decide:1≤64) _) hr.units
section
variable {X:Cx}
theorem pv (i:Nat){x:Str}{pos:Pos}(hN:X.N[i]? =some x:=by rfl)(hv:Vis X.env.scope x:=by first |exact Or.inl rfl |exact Or.inr (Or.inl rfl) |exact Or.inr (Or.inr rfl))(hd:(x==("__debug__":Str))=false:=by decide)
  (hcd:(x==("__classdict__":Str))=false:=by decide):PE X (.Name x pos) (a2R i):=b2C hN hv hd hcd
theorem a2e {A B:Prop}(h:B):if false=true then A else B:=by
 rw[if_neg Bool.false_ne_true];exact h
theorem a9p {A B:Prop}(h:A):if true=true then A else B:=by
 rw[if_pos rfl];exact h
theorem b3A {c A B:Prop}[Decidable c](h1:c->A)(h2:¬c->B):if c then A else B:=by
 by_cases h:c
 ·rw[if_pos h]
  exact h1 h
 ·rw[if_neg h]
  exact h2 h
def a0o (H H':Hp):Prop:=∀b o,H b=some o->H' b=some o
theorem a0o.refl (H:Hp):a0o H H:=fun _ _ h=>h
theorem a0o.trans {H H1 H2:Hp}(a:a0o H H1)(b:a0o H1 H2):a0o H H2:=fun c o h=>b c o (a c o h)
theorem a0o.seq {K:Fg0}{H H':Hp}{a:Addr}{xs:List V}(e:a0o H H')(h:SqL K H a xs):SqL K H' a xs:=by
 rcases h with (h |⟨o,h⟩) |h
 ·exact .inl (.inl (e _ _ h))
 ·exact .inl (.inr ⟨o,e _ _ h⟩)
 ·exact .inr h
theorem Fun.b1 {K:Fg0}{x q:Str}{st:Stmt}{f:Addr}{fd:FuncData}(F:Fun K x q st f fd)(p0:Str)(h:∀(kV doc pm:Value) (an:Option Addr) (cdv ct u0:Value),bindArgs (PySem.W.fnOf x q (a0K st) (a0G st) (a0e st) .none kV doc pm an cdv ct) ⟨[u0],[]⟩=pure [(p0,u0)]):a1s K fd [p0] []:=F.binds fun kV doc pm an cdv ct us hl=>by
 match us,hl with
 |[u0],_=>exact h kV doc pm an cdv ct u0
theorem Fun.b2 {K:Fg0}{x q:Str}{st:Stmt}{f:Addr}{fd:FuncData}(F:Fun K x q st f fd)(p0 p1:Str)(h:∀(kV doc pm:Value) (an:Option Addr) (cdv ct u0 u1:Value),bindArgs (PySem.W.fnOf x q (a0K st) (a0G st) (a0e st) .none kV doc pm an cdv ct) ⟨[u0,u1],[]⟩=pure [(p0,u0),(p1,u1)]):a1s K fd [p0,p1] []:=F.binds fun kV doc pm an cdv ct us hl=>by
 match us,hl with
 |[u0,u1],_=>exact h kV doc pm an cdv ct u0 u1
theorem Fun.b3 {K:Fg0}{x q:Str}{st:Stmt}{f:Addr}{fd:FuncData}(F:Fun K x q st f fd)(p0 p1 p2:Str)(h:∀(kV doc pm:Value) (an:Option Addr) (cdv ct u0 u1 u2:Value),bindArgs (PySem.W.fnOf x q (a0K st) (a0G st) (a0e st) .none kV doc pm an cdv ct) ⟨[u0,u1,u2],[]⟩=pure [(p0,u0),(p1,u1),(p2,u2)]):a1s K fd [p0,p1,p2] []:=F.binds fun kV doc pm an cdv ct us hl=>by
 match us,hl with
 |[u0,u1,u2],_=>exact h kV doc pm an cdv ct u0 u1 u2
theorem Fun.b4 {K:Fg0}{x q:Str}{st:Stmt}{f:Addr}{fd:FuncData}(F:Fun K x q st f fd)(p0 p1 p2 p3:Str)(h:∀(kV doc pm:Value) (an:Option Addr) (cdv ct u0 u1 u2 u3:Value),bindArgs (PySem.W.fnOf x q (a0K st) (a0G st) (a0e st) .none kV doc pm an cdv ct) ⟨[u0,u1,u2,u3],[]⟩=pure [(p0,u0),(p1,u1),(p2,u2),(p3,u3)]):a1s K fd [p0,p1,p2,p3] []:=F.binds fun kV doc pm an cdv ct us hl=>by
 match us,hl with
 |[u0,u1,u2,u3],_=>exact h kV doc pm an cdv ct u0 u1 u2 u3
theorem Fun.b5 {K:Fg0}{x q:Str}{st:Stmt}{f:Addr}{fd:FuncData}(F:Fun K x q st f fd)(p0 p1 p2 p3 p4:Str)(h:∀(kV doc pm:Value) (an:Option Addr) (cdv ct u0 u1 u2 u3 u4:Value),bindArgs (PySem.W.fnOf x q (a0K st) (a0G st) (a0e st) .none kV doc pm an cdv ct) ⟨[u0,u1,u2,u3,u4],[]⟩=pure [(p0,u0),(p1,u1),(p2,u2),(p3,u3),(p4,u4)]):a1s K fd [p0,p1,p2,p3,p4] []:=F.binds fun kV doc pm an cdv ct us hl=>by
 match us,hl with
 |[u0,u1,u2,u3,u4],_=>exact h kV doc pm an cdv ct u0 u1 u2 u3 u4
theorem Fun.b6 {K:Fg0}{x q:Str}{st:Stmt}{f:Addr}{fd:FuncData}(F:Fun K x q st f fd)(p0 p1 p2 p3 p4 p5:Str)(h:∀(kV doc pm:Value) (an:Option Addr) (cdv ct u0 u1 u2 u3 u4 u5:Value),bindArgs (PySem.W.fnOf x q (a0K st) (a0G st) (a0e st) .none kV doc pm an cdv ct) ⟨[u0,u1,u2,u3,u4,u5],[]⟩=pure [(p0,u0),(p1,u1),(p2,u2),(p3,u3),(p4,u4),(p5,u5)]):a1s K fd [p0,p1,p2,p3,p4,p5] []:=F.binds fun kV doc pm an cdv ct us hl=>by
 match us,hl with
 |[u0,u1,u2,u3,u4,u5],_=>exact h kV doc pm an cdv ct u0 u1 u2 u3 u4 u5
theorem a0j.k {N P:List Str}{sc:Scope}(h:sc.kind=.function/\sc.isCoroutine=false/\sc.isGenerator=false/\N.Nodup/\N.take P.length=P/\(∀x∈P,sc.names.lookup x=some .local\/sc.names.lookup x=some .cell)/\∀y∈sc.names,y.2≠.free):a0j N P sc:=let ⟨a,b,c,d,e,f,g⟩:=h;⟨a,b,c,d,e,f,g⟩
def a3u (env:Env)(cs:List (Str×Addr))(y:Str×NameKind):List (Str×Addr):=
 if (y.2==NameKind.free)=true then(y.1,(env.cells.lookup y.1).getD 0)::cs else cs
def a5L (env:Env)(names:List (Str×NameKind)):List (Str×Addr):=names.foldl (a3u env) []
theorem a3v {env:Env}:∀(names:List (Str×NameKind)) (cs:List (Str×Addr)),(∀y∈names,y.2=.free->∃c,env.cells.lookup y.1=some c) →
  (forIn names cs fun y r=>(if (y.2==NameKind.free)=true then do let a ← cellOf env y.1;pure (ForInStep.yield ((y.1,a)::r)) else pure (ForInStep.yield r):Sem (ForInStep (List (Str×Addr)))))=pure (names.foldl (a3u env) cs)
 |[],cs,_=>rfl
 |y::r,cs,h=>by
  rw[List.forIn_cons,List.foldl_cons]
  by_cases hy:(y.2==NameKind.free)=true
  ·obtain⟨c,hc⟩:=h y List.mem_cons_self (eq_of_beq hy)
   have e:cellOf env y.1=pure c:=by unfold cellOf;rw[hc]
   rw[if_pos hy,e,pure_bind,pure_bind];have e2:a3u env cs y=(y.1,c)::cs:=by unfold a3u;rw[if_pos hy,hc];rfl
   rw[e2];exact a3v r _ fun z hz=>h z (List.mem_cons_of_mem _ hz)
  ·rw[if_neg hy,pure_bind]
   have e2:a3u env cs y=cs:=by unfold a3u;rw[if_neg hy]
   rw[e2];exact a3v r _ fun z hz=>h z (List.mem_cons_of_mem _ hz)
theorem a8Q {env:Env}{scope:Scope}(h:∀y∈scope.names,y.2=.free->∃c,env.cells.lookup y.1=some c):closureFor scope env=pure (a5L env scope.names):=by
 have e:=a3v (env:=env) scope.names [] h;unfold a5L;rw[← e];simp only[closureFor,bind_pure_comp,map_pure,bind_pure]
theorem a6h {env:Env}:∀(names:List (Str×NameKind)) (cs:List (Str×Addr)),(∀y∈names,y.2=.free->∃c,env.cells.lookup y.1=some c)->(∀x c,cs.lookup x=some c->env.cells.lookup x=some c) →
  ∀x c,(names.foldl (a3u env) cs).lookup x=some c->env.cells.lookup x=some c
 |[],cs,_,hc,x,c,e=>hc x c e
 |y::r,cs,h,hc,x,c,e=>by
  rw[List.foldl_cons] at e;refine a6h r _ (fun z hz=>h z (List.mem_cons_of_mem _ hz)) (fun z d q=>?_) x c e;unfold a3u at q
  by_cases hy:(y.2==NameKind.free)=true
  ·obtain⟨c',hc'⟩:=h y List.mem_cons_self (eq_of_beq hy)
   rw[if_pos hy,List.lookup_cons,hc'] at q;cases hz:z==y.1 with
   |true=>
    rw[hz] at q;have q':c'=d:=Option.some.inj q;rw[eq_of_beq hz,hc',q']
   |false=>
    rw[hz] at q;exact hc z d q
  ·rw[if_neg hy] at q
   exact hc z d q
theorem a4F {env:Env}:∀(names:List (Str×NameKind)) (cs:List (Str×Addr)) (x:Str),((x,NameKind.free)∈names\/∃c,cs.lookup x=some c)->∃c,(names.foldl (a3u env) cs).lookup x=some c
 |[],cs,x,h=>by
  rcases h with h |h
  ·cases h
  ·exact h
 |y::r,cs,x,h=>by
  rw[List.foldl_cons];refine a4F r _ x ?_;rcases h with h |⟨c,h⟩
  ·rcases List.mem_cons.mp h with e |e
   ·subst e
    refine .inr ⟨(env.cells.lookup x).getD 0,?_⟩;unfold a3u;rw[if_pos (show((x,NameKind.free).2==NameKind.free)=true from rfl),List.lookup_cons,beq_self_eq_true]
   ·exact .inl e
  ·refine .inr ?_
   unfold a3u
   by_cases hy:(y.2==NameKind.free)=true
   ·rw[if_pos hy,List.lookup_cons]
    cases hz:x==y.1 with
    |true=>exact⟨_,rfl⟩
    |false=>exact⟨c,h⟩
   ·rw[if_neg hy]
    exact⟨c,h⟩
abbrev a1z (X:Cx)(scope:Scope)(N:List Str)(s:Shared)(H:Hp)(fp:List Addr):Cx where
 prog:=X.prog
 w:=X.w
 K:=X.K
 mg:=X.mg
 base:=X.base
 A:=X.A
 N:=N
 s₀:=s
 H₀:=H
 env:=compEnvC scope (a5L X.env scope.names) s.heap.objs.size X.env
 outer:=X.stack
 stack:=X.stack
 ex:=fp
 fn:=fun _=>false
 calm:=X.calm
 pn:=[]
 xe:=fun _ _=>False
structure a4J (osc scope:Scope) (N0:List Str) (xs:List Str) (fr:List Nat):Prop where
 kind:scope.kind=.function
 nocell:∀y∈scope.names,y.2≠.cell
 names:∀y∈scope.names,y.2=.local->scope.names.lookup y.1=some .local
 free:∀y∈scope.names,y.2=.free->osc.names.lookup y.1=some .cell\/osc.names.lookup y.1=some .free
 fro:∀j∈fr,∃x,N0[j]? =some x/\scope.names.lookup x=some .free
 nd:(xs++fr.map fun j=>N0.getD j "").Nodup
def a1J (N0:List Str)(xs:List Str)(fr:List Nat):List Str:=xs++fr.map fun j=>N0.getD j ""
def a2N (xs:List Str)(fr:List Nat)(σ:St):St:=xs.map (fun _=>none)++fr.map fun j=>(σ[j]?).join
theorem a1i {κ:Type}:∀{l:List (Str×κ)} {x:Str} {k:κ},l.lookup x=some k->(x,k)∈l
 |[],_,_,h=>by cases h
 | (n,k')::r,x,k,h=>by
  rw[List.lookup_cons] at h;cases hx:x==n with
  |true=>
   rw[hx] at h;have h':k'=k:=Option.some.inj h;rw[eq_of_beq hx,h'];exact List.mem_cons_self
  |false=>
   rw[hx] at h;exact List.mem_cons_of_mem _ (a1i h)
theorem a2j {env:Env}:∀{names:List (Str×NameKind)} {x:Str} {k:NameKind},
  (names.map fun(n,k)=>if (k==NameKind.free&&env.scope.kind==.function&&env.kindOf n==some .cell) then(n,NameKind.cell) else(n,k)).lookup x=some k →
  names.lookup x=some k\/(k=.cell/\names.lookup x=some .free)
 |[],_,_,h=>by cases h
 | (n,k')::r,x,k,h=>by
  have ih:=@a2j env r x k;rw[List.map_cons] at h;rw[List.lookup_cons]
  by_cases hc:(k'==NameKind.free&&env.scope.kind==.function&&env.kindOf n==some .cell)=true
  ·have h':List.lookup x ((n,NameKind.cell)::(r.map fun(n,k)=>if (k==NameKind.free&&env.scope.kind==.function&&env.kindOf n==some .cell) then(n,NameKind.cell) else(n,k)))=some k:=by
    rw[← h];simp only[hc,if_true]
   rw[List.lookup_cons] at h';cases hx:x==n with
   |true=>
    rw[hx] at h';have h2:NameKind.cell=k:=Option.some.inj h';rw[Bool.and_eq_true,Bool.and_eq_true] at hc;exact .inr ⟨h2.symm,congrArg some (eq_of_beq hc.1.1)⟩
   |false=>
    rw[hx] at h';exact ih h'
  ·have h':List.lookup x ((n,k')::(r.map fun(n,k)=>if (k==NameKind.free&&env.scope.kind==.function&&env.kindOf n==some .cell) then(n,NameKind.cell) else(n,k)))=some k:=by
    rw[← h];simp only[hc];rfl
   rw[List.lookup_cons] at h';cases hx:x==n with
   |true=>
    rw[hx] at h';exact .inl h'
   |false=>
    rw[hx] at h';exact ih h'
theorem a2L {env:Env}:∀{names:List (Str×NameKind)} {x:Str},names.lookup x=some .free →
  (names.map fun(n,k)=>if (k==NameKind.free&&env.scope.kind==.function&&env.kindOf n==some .cell) then(n,NameKind.cell) else(n,k)).lookup x=some .cell ∨
  (names.map fun(n,k)=>if (k==NameKind.free&&env.scope.kind==.function&&env.kindOf n==some .cell) then(n,NameKind.cell) else(n,k)).lookup x=some .free
 |[],_,h=>by cases h
 | (n,k')::r,x,h=>by
  have ih:=@a2L env r x;rw[List.lookup_cons] at h;rw[List.map_cons]
  by_cases hc:(k'==NameKind.free&&env.scope.kind==.function&&env.kindOf n==some .cell)=true
  ·have e:(match (n,k') with | (n,k)=>if (k==NameKind.free&&env.scope.kind==.function&&env.kindOf n==some .cell) then(n,NameKind.cell) else(n,k))=(n,NameKind.cell):=by
    simp only[hc,if_true]
   rw[e,List.lookup_cons];cases hx:x==n with
   |true=>exact .inl rfl
   |false=>rw[hx] at h;exact ih h
  ·have e:(match (n,k') with | (n,k)=>if (k==NameKind.free&&env.scope.kind==.function&&env.kindOf n==some .cell) then(n,NameKind.cell) else(n,k))=(n,k'):=by
    simp only[hc];rfl
   rw[e,List.lookup_cons];cases hx:x==n with
   |true=>
    rw[hx] at h;exact .inr h
   |false=>rw[hx] at h;exact ih h
theorem a3s {osc scope:Scope}{N0 xs:List Str}{fr:List Nat}{pins:List (Addr×Obj)}{σ:St}{H:Hp}{s:Shared}(C:a4J osc scope N0 xs fr)(ho:X.env.scope=osc)(I:Inv X pins σ H s) :
  ∀y∈scope.names,y.2=.free->∃c,X.env.cells.lookup y.1=some c:=fun y hy e=>by
 refine I.ok.has y.1 ?_;rw[← ho] at C;exact C.free y hy e
theorem a7c {osc scope:Scope}{N0 xs:List Str}{fr:List Nat}{pins:List (Addr×Obj)}{σ:St}{H:Hp}{s:Shared}{fp:List Addr}{h₁:Heap}{tk:Nat}(C:a4J osc scope N0 xs fr)(ho:X.env.scope=osc)(hN0:X.N=N0)(I:Inv X pins σ H s)
  (hf:∀b∈fp,a2u X pins H b) (hlt:∀b∈fp,b<s.heap.objs.size) (hn:h₁.Ns s.heap.objs.size fun _=>none) (hk:∀b o,s.heap.get? b=some o->h₁.get? b=some o) :
  Inv (a1z X scope (a1J N0 xs fr) s H fp) [] (a2N xs fr σ) H { s with heap:=h₁,toks:=tk }:=by
 subst hN0;have hfree:=a3s C ho I;have sub:=a6h (env:=X.env) scope.names [] hfree (fun x c e=>by cases e);have nC:∀x c,X.env.cells.lookup x=some c->c≠s.heap.objs.size:=fun x c e z=>by
  obtain⟨v,q⟩:=I.cell x c e;exact absurd q.lt (by rw[z];exact Nat.lt_irrefl _)
 refine⟨⟨I.ok.mod,C.kind,I.ok.glob,I.ok.blt,Nat.le_refl _,fun x y c h1 h2=>I.ok.inj x y c (sub x c h1) (sub y c h2),fun x hx=>?_,fun x c h _=>(Bool.false_ne_true h).elim,I.ok.hd,I.ok.frames,.inl rfl,fun b hb=>?_,I.bs,Nat.le_trans I.ok.bsz I.sz,fun b o e hb=>?_,fun b hb hz=>?_,I.stack,I.stkFree⟩,
  rfl,I.bare,Un.kept hk,⟨_,hn,fun i x v h1 h2 h3=>?_⟩,fun x c h=>?_,I.hok.fresh (Nat.le_refl _),fun x c h=>I.freeC x c (sub x c h),fun p hp=>absurd (show p∈([]:List (Addr×Obj)) from hp) (by simp),I.hok.kept hk,?_⟩
 ·have hx':(relabel scope X.env).names.lookup x=some .cell\/(relabel scope X.env).names.lookup x=some .free:=hx
  refine a4F (env:=X.env) scope.names [] x (.inl ?_);rcases hx' with q |q
  ·rcases a2j q with z |⟨_,z⟩
   ·exact absurd rfl (C.nocell _ (a1i z))
   ·exact a1i z
  ·rcases a2j q with z |⟨z,_⟩
   ·exact a1i z
   ·cases z
 ·exact⟨Nat.ne_of_lt (hlt b hb),fun x c h=>(hf b hb).2.2.2.2.1 x c (sub x c h)⟩
 ·rcases (hf b hb).2.2.2.1 with z |z
  ·exact I.ok.noex b o e z
  ·exact absurd (Nat.lt_of_lt_of_le (Heap.lt_size e) (Nat.le_trans I.ok.bsz z)) (Nat.lt_irrefl _)
 ·rcases List.mem_cons.mp (I.stkSub b hz) with z |z
  ·exact(hf b hb).2.1 z
  ·exact(hf b hb).2.2.1 z
 ·
  have hi:¬i<xs.length:=fun hi=>by
   unfold a2N at h2;rw[List.getElem?_append_left (by rw[lM0];exact hi),gM0] at h2;cases q:xs[i]? with
   |none=>rw[q] at h2;cases h2
   |some y=>rw[q] at h2;cases h2
  have hi':xs.length≤i:=Nat.le_of_not_lt hi;have e2:(fr.map fun j=>(σ[j]?).join)[i-xs.length]? =some (some v):=by
   have:=h2
   unfold a2N at this;rw[List.getElem?_append_right (by rw[lM0];exact hi'),lM0] at this;exact this
  rw[gM0] at e2;cases q:fr[i-xs.length]? with
  |none=>rw[q] at e2;cases e2
  |some j=>
   rw[q] at e2;have e3:(σ[j]?).join=some v:=Option.some.inj e2;have e4:σ[j]? =some (some v):=by
    cases z:σ[j]? with
    |none=>rw[z] at e3;cases e3
    |some u=>rw[z] at e3;rw[show u=some v from e3]
   obtain⟨y,hy,hyf⟩:=C.fro j (List.mem_of_getElem? q);have ex:x=y:=by
    have h1':(a1J X.N xs fr)[i]? =some x:=h1;unfold a1J at h1';rw[List.getElem?_append_right hi',gM0,q] at h1';have h5:X.N.getD j ""=x:=Option.some.inj h1';rw[← h5,List.getD_eq_getElem?_getD,hy]
    rfl
   subst ex;obtain⟨m,_,hl⟩:=I.loc;have kf:=C.free _ (a1i hyf) rfl;rw[← ho] at kf;have vis:Vis X.env.scope x:=by
    rcases kf with z |z
    ·exact .inr (.inl z)
    ·exact .inr (.inr z)
   obtain⟨u,r,l⟩:=hl j x v hy e4 vis;refine⟨u,r,.inr ⟨a2L hyf,?_⟩⟩;rcases l with ⟨z,_⟩ |⟨_,c,hc,hcell⟩
   ·have z':X.env.scope.names.lookup x=some .local:=z
    rcases kf with w |w
    ·rw[z'] at w;cases w
    ·rw[z'] at w;cases w
   ·obtain⟨c',hc'⟩:=a4F (env:=X.env) scope.names [] x (.inl (a1i hyf))
    have e5:=sub x c' hc';rw[hc] at e5;cases e5;refine⟨c,hc',?_⟩;obtain⟨o,ho',hd⟩:=hcell;exact⟨o,hk _ _ ho',hd⟩
 ·obtain⟨v,o,ho',hd⟩:=I.cell x c (sub x c h)
  exact⟨v,o,hk _ _ ho',hd⟩
 ·show(a2N xs fr σ).length=(a1J X.N xs fr).length
  unfold a2N a1J;simp
def PIf (X:Cx)(ifs:List Expr)(t:TT):Prop:=
 ∀(pins:List (Addr×Obj)) (s:Shared) (σ:St) (H:Hp) (Q:Bool->Hp->Prop),Inv X pins σ H s->t σ H Q →
  wpAny (model X.prog X.w) X.A (forIn ifs true fun c r=>if r=true then do let ok ← isTrue c X.env (eval c X.env);pure (ForInStep.yield ok) else pure (ForInStep.yield r)) (TP X pins σ Q) X.xe s
def b3t:TT:=fun _ H Q=>Q true H
theorem a0S {X:Cx}:PIf X [] b3t:=fun _ _ σ H Q I h=>wpAny_tests_nil ⟨H,I,h⟩
def a6R (J:It)(g:TG)(tt:TT)(te:TE)(R:Addr->Hp->Prop)(D:Addr)(σ0:St)(H0:Hp):Prop:=
 ∃W:Nat->Nat->St->Hp->Prop,(∃m,W 0 m σ0 H0)/\∀i m σ H,W i m σ H →
  (J.stop i H/\R D H) ∨
  (J.go i H/\∃(N:St->V->Hp->Prop) (M:St->Hp->Prop),(∀σ2 y H4,N σ2 y H4->∃ys,H4 D=some (.lst ys)/\ys.length<sizeLine/\∃m',m'<m/\W (i+1) m' σ2 (upd H4 D (.lst (ys++[y])))) ∧
   (∀σ2 H3,M σ2 H3->∃m',m'<m/\W (i+1) m' σ2 H3) ∧
   ∀x H',J.yld i H x H'->g x σ H' fun σ2 H2=>tt σ2 H2 fun b H3=>if b=true then te σ2 H3 (N σ2) else M σ2 H3)
def b3V (xs:List Str)(fr:List Nat)(wi:TI)(g:TG)(tt:TT)(te:TE):TE:=fun σ H Q=>wi σ H fun J H1=>∀D,H1 D=none->a6R J g tt te (fun D H2=>Q (.ref D) H2) D (a2N xs fr σ) (upd H1 D (.lst []))
def b3X (i:Nat)(xs:List Str)(fr:List Nat)(wi:TI)(g:TG)(tt:TT)(te:TE):TS:=fun E σ H=>wi σ H fun J H1=>∀D,H1 D=none->a6R J g tt te (fun D H2=>E.nx (σ.set i (some (.ref D))) H2) D (a2N xs fr σ) (upd H1 D (.lst []))
theorem a3R {osc scope:Scope}{N0 xs:List Str}{fr:List Nat}{pins:List (Addr×Obj)}{σ:St}{H2:Hp}{s2:Shared}{fp:List Addr}{it:Addr}{tn:Nat->Heap->Prop}{J:It}{elt tg iter:Expr}{ifs:List Expr}{pos:Pos}
  {g:TG} {tt:TT} {te:TE} {E:Value->Shared->Prop} {R:Addr->Hp->Prop} {RR:Value->Addr->Result->Shared->Prop} (C:a4J osc scope N0 xs fr) (ho:X.env.scope=osc) (hN0:X.N=N0) (hc:X.calm=true)
  (hg:∀s H fp,PG (a1z X scope (a1J N0 xs fr) s H fp) tg g) (ht:∀s H fp,PIf (a1z X scope (a1J N0 xs fr) s H fp) ifs tt) (he:∀s H fp,PE (a1z X scope (a1J N0 xs fr) s H fp) elt te)
  (I2:Inv X pins σ H2 s2) (T:a8Y X.prog X.w X.K tg J fp it tn) (st2:tn 0 s2.heap) (f2:∀b∈fp,a2u X pins H2 b)
  (hR:∀D,H2 D=none->a6R J g tt te R D (a2N xs fr σ) (upd H2 D (.lst [])))
  (hRR:∀(D C:Addr) (s':Shared) (H':Hp) (m:Str->Option Value),Inv X pins σ H' s'->s'.heap.Ns C m->a2u X pins H' C->R D H'->RR (.ref D) C (.ok .next) s') :
  wpAny (model X.prog X.w) X.A (newList []) (fun acc s₃=>wpAny (model X.prog X.w) X.A (newFunctionEnv scope X.env.globals (a5L X.env scope.names) [] X.env.qual none .none (some X.env)) (fun cenv s₄=>
   codeAny (model X.prog X.w) X.A (.compStart (.ListComp elt [⟨tg,iter,ifs,0⟩] scope pos) 0 (.ref it) acc { cenv with scope:=relabel scope X.env }) (RR acc cenv.locals) s₄) E s₃) E s2:=by
 refine wpAny_newObj_type (wpAny_newFunctionEnv C.nocell (by intro y hy;simp at hy) (fun h₁ hns₁ hsb₁=>?_) C.kind)
 dsimp only at hns₁ hsb₁ ⊢
 have I3:Inv X pins σ (upd H2 s2.heap.objs.size (.lst [])) { s2 with heap:=s2.heap.push { cls:=.type "list",data:=.seq ([]:List Value).toArray } }:=I2.lnew (its:=[]) (t':=s2.toks) .nil (by simp);have flt:∀b∈fp,b<s2.heap.objs.size:=fun b hb=>by
  obtain⟨o,e,_⟩:=T.obj 0 _ st2 b hb;exact Heap.lt_size e
 have f3:∀b∈fp,a2u X pins (upd H2 s2.heap.objs.size (.lst [])) b:=fun b hb=>⟨by rw[a0h (Nat.ne_of_lt (flt b hb))];exact(f2 b hb).1,(f2 b hb).2⟩;have flt3:∀b∈fp,b<(s2.heap.push { cls:=.type "list",data:=.seq ([]:List Value).toArray }).objs.size:=fun b hb=>by
  rw[Heap.size_push];exact Nat.lt_succ_of_lt (flt b hb)
 obtain⟨W,⟨m0,w0⟩,turn⟩:=hR s2.heap.objs.size I2.fresh;generalize hD:s2.heap.objs.size=D at *;generalize hs3:s2.heap.push { cls:=.type "list",data:=.seq ([]:List Value).toArray }=h3 at *;have up2:∀b o,s2.heap.get? b=some o->h3.get? b=some o:=fun b o e=>by rw[← hs3];exact hP0 _ e
 have old:∀b o,h3.get? b=some o->h₁.get? b=some o:=fun b o e=>hsb₁.extBut b o (Nat.ne_of_lt (Heap.lt_size e)) (hP0 _ e);have Ic:=a7c (tk:=s2.toks+([]:List (Str×Value)).length) C ho hN0 I3 f3 flt3 hns₁ old;have st4:tn 0 h₁:=T.keep 0 _ _ st2 fun b hb o e=>old b o (up2 b o e);have stat:∀{H':Hp},(∀b∈fp,H' b=none)->∀b∈fp,a2u (a1z X scope (a1J N0 xs fr) { s2 with heap:=h3 } (upd H2 D (.lst [])) fp) [] H' b:=fun hn b hb=>
  ⟨hn b hb,Nat.ne_of_lt (flt3 b hb),fun z=>by
   rcases List.mem_cons.mp (I3.stkSub b z) with q |q
   ·exact(f3 b hb).2.1 q
   ·exact(f3 b hb).2.2.1 q,.inl hb,fun x c h=>(Ic.ok.exf b hb).2 x c h,fun p hp=>absurd (show p∈([]:List (Addr×Obj)) from hp) (by simp)⟩
 have fin:∀{σ':St} {H':Hp} {s':Shared},Inv (a1z X scope (a1J N0 xs fr) { s2 with heap:=h3 } (upd H2 D (.lst [])) fp) [] σ' H' s'->R D H'->RR (.ref D) h3.objs.size (.ok .next) s':=fun {σ' H' s'} I' q=>by
  obtain⟨m,hm,_⟩:=I'.loc;refine hRR D h3.objs.size s' H' m (I3.call' I'.os I'.base I'.hok I'.bare fun b hb=>?_) hm (I3.fpOk (Nat.le_refl _) I'.free) q;exact⟨(f3 b hb).2.2.2.1,(f3 b hb).2.1,(f3 b hb).2.2.2.2.1,(f3 b hb).2.2.2.2.2⟩
 have loop:codeAny (model X.prog X.w) X.A (.compLoop (.ListComp elt [⟨tg,iter,ifs,0⟩] scope pos) 0 (.ref it) (.ref D) (compEnvC scope (a5L X.env scope.names) h3.objs.size X.env)) (RR (.ref D) h3.objs.size) { s2 with heap:=h₁,toks:=s2.toks+([]:List (Str×Value)).length }:=by
  refine codeAny_loop rfl (fun n s'=>∃i σ' H',Inv (a1z X scope (a1J N0 xs fr) { s2 with heap:=h3 } (upd H2 D (.lst [])) fp) [] σ' H' s'/\tn i s'.heap/\(∀b∈fp,H' b=none)/\W i n σ' H') (fun n s' hI=>?_) m0 ⟨0,_,_,Ic,st4,fun b hb=>(f3 b hb).1,w0⟩;show wpAny _ X.A ((compTurn (.ListComp elt [⟨tg,iter,ifs,0⟩] scope pos) 0 (.ref it) (.ref D) (compEnvC scope (a5L X.env scope.names) h3.objs.size X.env)).onRaise (fun x=>do noteFrame x (compEnvC scope (a5L X.env scope.names) h3.objs.size X.env);theTreesLotGoes x)) _ _ s';refine wpAny_noted ?_;rw[compTurn_list];obtain⟨i,σ',H',I',st',fr',w'⟩:=hI;refine wB0 (wpAny_standAt (wB0 ?_));rcases turn i n σ' H' w' with ⟨stop,q⟩ |⟨go,N,M,hN,hM,step⟩
  ·refine thn (T.done (a1z X scope (a1J N0 xs fr) { s2 with heap:=h3 } (upd H2 D (.lst [])) fp) rfl rfl rfl hc i [] s' σ' H' _ I' (stat fr') st' stop) fun r s4 ⟨hr,I4⟩=>?_
   subst hr;exact wP0 (fin I4 q)
  ·refine thn (T.item (a1z X scope (a1J N0 xs fr) { s2 with heap:=h3 } (upd H2 D (.lst [])) fp) rfl rfl rfl hc i [] s' σ' H' _ I' (stat fr') st' go) fun r s4 ⟨u,hr,h4⟩=>?_
   subst hr;refine wB0 (thn h4 fun _ s5 ⟨x,H5,I5,r5,y5,st5,fr5⟩=>?_);have I5':=I5.pinned (stat fr5) (T.obj _ _ st5);have again:∀{σ7:St} {H7:Hp} {s7:Shared},Inv (a1z X scope (a1J N0 xs fr) { s2 with heap:=h3 } (upd H2 D (.lst [])) fp) ([]++a5t fp s5.heap) σ7 H7 s7->(∃m',m'<n/\W (i+1) m' σ7 H7) →
     ∃m,m<n/\∃i σ' H',Inv (a1z X scope (a1J N0 xs fr) { s2 with heap:=h3 } (upd H2 D (.lst [])) fp) [] σ' H' s7/\tn i s7.heap/\(∀b∈fp,H' b=none)/\W i m σ' H':=fun {σ7 H7 s7} I7 n7=>by
    obtain⟨m',hm,w7⟩:=n7;refine⟨m',hm,i+1,σ7,H7,I7.unpinned,T.keep _ _ _ st5 fun b hb o e=>(I7.pin (b,o) (List.mem_append_right _ (List.mem_append_right _ (a2o hb e)))).1,fun b hb=>?_,w7⟩;obtain⟨o,e,d⟩:=T.obj _ _ st5 b hb;exact(I7.pin (b,o) (List.mem_append_right _ (List.mem_append_right _ (a2o hb e)))).2.1
   refine wB0 (wpAny_mono (hg _ _ _ _ s5 σ' H5 x u _ I5' r5 (step x H5 y5)) (fun _ s6 ⟨σ6,H6,I6,q6⟩=>?_) fun _ _ z=>False.elim z);refine wB0 (wpAny_mono (ht _ _ _ _ s6 σ6 H6 _ I6 q6) (fun ok s7 ⟨H7,I7,q7⟩=>?_) fun _ _ z=>False.elim z);cases ok with
   |false=>
    rw[if_neg Bool.false_ne_true] at q7;exact wP0 ⟨rfl,again I7 (hM _ _ q7)⟩
   |true=>
    rw[if_pos rfl] at q7;refine wB0 (wB0 (wpAny_mono (he _ _ _ _ s7 σ6 H7 _ I7 q7) (fun y s8 ⟨v,H8,I8,r8,q8⟩=>?_) fun _ _ z=>False.elim z));obtain⟨ys,eD,hz,q8⟩:=hN _ _ _ q8;refine wB0 (wpAny_mono (a4V (X:=a1z X scope (a1J N0 xs fr) { s2 with heap:=h3 } (upd H2 D (.lst [])) fp) _ s8 σ6 H8 (.ref D) [v] (.ref D) [y] (fun _ H9=>∃m',m'<n/\W (i+1) m' σ6 H9) I8 rfl (.cons r8 .nil) ⟨D,ys,v,rfl,rfl,eD,hz,q8⟩) (fun _ s9 ⟨_,H9,I9,_,q9⟩=>?_) fun _ _ z=>False.elim z);exact wP0 (wP0 ⟨rfl,again I9 q9⟩)
 exact codeAny_compStart_list loop (T.self X.A 0 _ _ _ st4 loop)
variable {osc scope:Scope}{N0 xs:List Str}{fr:List Nat}{elt tg iter:Expr}{ifs:List Expr}{pos:Pos}{wi:TI}{g:TG}{tt:TT}{te:TE}
theorem a1d (C:a4J osc scope N0 xs fr)(ho:X.env.scope=osc)(hN0:X.N=N0)(hc:X.calm=true)(hi:PI X tg iter wi)
  (hg:∀s H fp,PG (a1z X scope (a1J N0 xs fr) s H fp) tg g) (ht:∀s H fp,PIf (a1z X scope (a1J N0 xs fr) s H fp) ifs tt) (he:∀s H fp,PE (a1z X scope (a1J N0 xs fr) s H fp) elt te)
  (hs:∀x,foldedSetIterable iter X.env x=pure x:=by intro _;rfl):PE X (.ListComp elt [⟨tg,iter,ifs,0⟩] scope pos) (b3V xs fr wi g tt te):=by
 intro pins s σ H Q I h;rw[eval_ListComp];refine wpAny_comprehension_free (use:=none) rfl hs (a8Q (a3s C ho I)) C.kind C.names (thn (hi pins s σ H _ I h) fun v s1 h1=>thn h1 fun itv s2 h2=>?_);obtain⟨it,fp,tn,J,H2,e,I2,T,st2,f2,hR⟩:=h2;subst e;refine a3R C ho hN0 hc hg ht he I2 T st2 f2 hR fun D C s' H' m I' hm fC q=>?_;refine⟨m,hm,fun h' sb=>⟨.ref D,H',?_,rfl,q⟩⟩;exact I'.turned (t':=s'.toks) (fun b o hb e=>(sb.2 b hb).trans e) fC.1 fC.2.1 fC.2.2.2.1 fC.2.2.2.2.1 fC.2.2.2.2.2
theorem a3h {i:Nat}{y:Str}{py spos:Pos}(C:a4J osc scope N0 xs fr)(ho:X.env.scope=osc)(hN0:X.N=N0)(hc:X.calm=true)(hi:PI X tg iter wi)
  (hg:∀s H fp,PG (a1z X scope (a1J N0 xs fr) s H fp) tg g) (ht:∀s H fp,PIf (a1z X scope (a1J N0 xs fr) s H fp) ifs tt) (he:∀s H fp,PE (a1z X scope (a1J N0 xs fr) s H fp) elt te)
  (hN:X.N.Nodup) (hy:X.N[i]? =some y) (hx:Loc X.env.scope y)
  (hsw:swapsWith (.ListComp elt [⟨tg,iter,ifs,0⟩] scope pos) (some (.Name y py)) spos.line X.env=pure true:=by rfl)
  (hf:X.fn y=true\/X.env.scope.names.lookup y=some .local:=by first |exact .inl rfl |exact .inr rfl |assumption)
  (hs:∀x,foldedSetIterable iter X.env x=pure x:=by intro _;rfl):PS X (.Assign [.Name y py] (.ListComp elt [⟨tg,iter,ifs,0⟩] scope pos) spos) (b3X i xs fr wi g tt te):=by
 intro pins s σ H D I h;rw[exec_Assign_Name_used _ _ _ _ hsw];refine wB0 (wpAny_standAt (wB0 ?_));show wpAny _ X.A (do let _ ← comprehension (.ListComp elt [⟨tg,iter,ifs,0⟩] scope pos) scope X.env _ (newList []) false (eval iter X.env) (some (assign (.Name y py) X.env))) _ _ s;refine wB0 (wpAny_mono (wpAny_comprehension_free (use:=some (assign (.Name y py) X.env)) (Q:=fun _ s'=>SP X pins D .next s') rfl hs (a8Q (a3s C ho I)) C.kind C.names
  (thn (hi pins s σ H _ I h) fun v s1 h1=>thn h1 fun itv s2 h2=>?_)) (fun _ s' hq=>wP0 (wP0 hq)) fun _ _ e=>e)
 obtain⟨it,fp,tn,J,H2,e,I2,T,st2,f2,hR⟩:=h2;subst e;refine a3R C ho hN0 hc hg ht he I2 T st2 f2 hR fun Dl C s' H' m I' hm fC q=>?_;refine wpAny_assign_Name (a5a I' hN hy hx (show a1c (.ref Dl) (.ref Dl) from rfl) (fun s3 I3 hsb=>?_) hf);obtain⟨a,sb,ha⟩:=hsb;have hCa:C≠a:=by
  rcases ha with z |z
  ·rw[z];exact fC.2.1
  ·exact fun w=>fC.2.2.2.2.1 y a z w.symm
 refine⟨m,hm.sameBut sb hCa,fun h' sb'=>⟨_,H',?_,q⟩⟩;exact I3.turned (t':=s3.toks) (fun b o hb e=>(sb'.2 b hb).trans e) fC.1 fC.2.1 fC.2.2.2.1 fC.2.2.2.2.1 fC.2.2.2.2.2
end
def Its (x:Str):It:=⟨fun i _=>i<x.cps.size,fun i H v H'=>H'=H/\∃c,x.cps[i]? =some c/\v=.str ⟨#[c]⟩,fun i _=>x.cps.size≤i⟩
theorem a2t (x:Str):strIterType x="str_ascii_iterator"\/strIterType x="str_iterator":=by
 unfold strIterType
 split
 ·exact .inl rfl
 ·exact .inr rfl
theorem a9z {P:Program}{w:World}{K:Fg0}{tg:Expr}(x:Str)(t:Tok)(it:Addr):a8Y P w K tg (Its x) [it] it (fun i h=>h.IsStrIter it (strIterType x) x t i) where
 mem:=by simp
 obj:=fun i h st b hb=>by
  have e:b=it:=by simpa using hb
  subst e;obtain⟨o,e,c,d⟩:=st;exact⟨o,e,fun v z=>by rw[d] at z;cases z⟩
 keep:=fun i h h' st k=>by
  obtain⟨o,e,r⟩:=st;exact⟨o,k it (by simp) o e,r⟩
 item:=by
  intro X hP hw hK hc i pins s σ H E I hf st hg;subst hP hw hK;have hg':i<x.cps.size:=hg;obtain⟨f0,f1,f2,f3,f4,f5⟩:=hf it (by simp);have key:∀h',h'.IsStrIter it (strIterType x) x t (i+1)->Heap.SameBut it s.heap h'->∃u,some (Value.str ⟨#[x.cps[i]]⟩ s.toks)=some u ∧
   wpAny (model X.prog X.w) X.A (letOwnedTupleGo tg (.ref it) u) (fun _ s2=>∃v H',Inv X pins σ H' s2/\a1c v u/\(Its x).yld i H v H'/\s2.heap.IsStrIter it (strIterType x) x t (i+1)/\∀b∈[it],H' b=none) E { s with heap:=h',toks:=s.toks+1 }:=fun h' st' sb=>by
   have I1:Inv X pins σ H { s with heap:=h',toks:=s.toks+1 }:=I.turned (t':=s.toks+1) (fun b o hb e=>(sb.2 b hb).trans e) f0 f1 f3 f4 f5;obtain⟨o,e,c,d⟩:=id st';refine⟨_,rfl,a9P (s:={ s with heap:=h',toks:=s.toks+1 }) e c d ?_ ⟨.str ⟨#[x.cps[i]]⟩,H,I1,⟨_,rfl⟩,⟨rfl,_,by simp[hg'],rfl⟩,st',fun b hb=>(hf b hb).1⟩⟩;rcases a2t x with z |z<;>rw[z]<;>decide
  rcases a2t x with z |z
  ·rw[z] at st key
   rw[z];exact wpAny_pyNext_ascii_item st (c:=x.cps[i]) (by simp[hg']) fun h' a b=>key h' a b
  ·rw[z] at st key
   rw[z];exact wpAny_pyNext_wide_item st (c:=x.cps[i]) (by simp[hg']) fun h' a b=>key h' a b
 done:=by
  intro X hP hw hK hc i pins s σ H E I hf st hg;subst hP hw hK;have hg':x.cps.size≤i:=hg;obtain⟨f0,f1,f2,f3,f4,f5⟩:=hf it (by simp);have hx:x.cps[i]? =none:=by simp[hg']
  rcases a2t x with z |z
  ·rw[z] at st
   exact wpAny_pyNext_ascii_end (I.ok.hd hc) st hx fun h' eb=>⟨rfl,I.turned (t':=s.toks) (fun b o hb e=>eb b o hb e) f0 f1 f3 f4 f5⟩
  ·rw[z] at st
   exact wpAny_pyNext_wide_end (I.ok.hd hc) st hx fun h' eb=>⟨rfl,I.turned (t':=s.toks) (fun b o hb e=>eb b o hb e) f0 f1 f3 f4 f5⟩
 self:=fun A i s Q E st h=>by
  rcases a2t x with z |z
  ·rw[z] at st
   exact wpAny_pyIter_striter_ascii st h
  ·rw[z] at st
   exact wpAny_pyIter_striter_wide st h
section
variable {X:Cx}{tg:Expr}
def iStr (tl:TE):TI:=fun σ H R=>tl σ H fun x H1=>∃z,x=.str z/\R (Its z) H1
theorem b2Q {l:Expr}{tl:TE}(hl:PE X l tl):PI X tg l (iStr tl):=by
 intro pins s σ H R I h;refine thn (hl pins s σ H _ I h) fun v s1 ⟨x,H1,I1,r1,q1⟩=>?_;obtain⟨z,e,q⟩:=q1;subst e;obtain⟨t,rfl⟩:=r1;refine wpAny_pyIter_strU ?_;refine⟨s1.heap.objs.size,[s1.heap.objs.size],_,_,H1,rfl,I1.kept (t':=s1.toks) fun b o e=>hP0 _ e,a9z z t _,⟨_,Heap.get?_push_size _ rfl,rfl,rfl⟩,fun b hb=>?_,q⟩;have e:b=s1.heap.objs.size:=by simpa using hb
 subst e;exact I1.fpOk (Nat.le_refl _) (I1.hok.fresh (Nat.le_refl _))
theorem a6u:∀{bs:List Bool} {us:List Value},a1m (bs.map V.bl) us->LSm.BoolsAre us bs
 |[],_,r=>by rw[List.map_nil] at r;cases r;exact .nil
 |b::bs,_,r=>by
  rw[List.map_cons] at r;cases r with
  |cons h t=>
   cases h;exact .cons b (a6u t)
theorem a2V (hc:X.calm=true):a1E X (.builtin "all") (fun xs H Q=>∃(p:Addr) (bs:List Bool),xs=[.ref p]/\SqL X.K H p (bs.map V.bl)/\Q (.bl (bs.all id)) H):=by
 intro pins s σ H xs us Q I r h;obtain⟨l,bs,rfl,hq,q⟩:=h;obtain⟨u,rfl,rx⟩:=a2n r;cases rx;obtain⟨vs,r',pl,hz⟩:=I.list hq;have hb:LSm.BoolsAre vs bs:=a6u r';have hl:=pl.isList;have hlt:l<s.heap.objs.size:=by obtain⟨_,e,_⟩:=hl;exact Heap.lt_size e
 refine call_all_walk (wpAny_pyIter_list hl ?_);refine⟨s.heap.objs.size,[s.heap.objs.size,l],[s.heap.objs.size],vs.toArray.size,_,_,fun i=>(bs[i]?).getD true,rfl,Walks.list (A:=X.A.in1) (I.ok.hd hc) _ l (Nat.ne_of_lt hlt) vs.toArray,
  ⟨⟨_,Heap.get?_push_size _ rfl,rfl,rfl⟩,hl.push _⟩,fun i v s' Q' E' hP hQ=>?_,fun h' tk hk=>?_⟩
 ·obtain⟨b,e,rfl⟩:=hb.get i v (by simpa using hP)
  simp only[e,Option.getD_some] at hQ;exact wpAny_truthy_bool hQ
 ·have e:((List.range vs.toArray.size).all fun i=>(bs[i]?).getD true)=bs.all id:=by
   rw[List.size_toArray,hb.length];exact LSm.range_all bs
  rw[e];exact⟨.bl (bs.all id),H,I.kept (LSm.kept_iter hk),rfl,q⟩
theorem a1V:a1E X (.builtin "isinstance") (fun xs H Q=>∃x n t b,xs=[x,.ty n]/\a6w X.K H x t/\PySem.W.kitOne X.K t (.type n)=some b/\Q (.bl b) H):=by
 intro pins s σ H xs us Q I r h;obtain⟨x,n,t,b,rfl,ty,e,q⟩:=h;obtain⟨u,w',rfl,rx,rc⟩:=a6L r
 cases(show w'=Value.type n from rc)
 exact a7T I rx ty e fun tk=>⟨.bl b,H,I.tok tk,rfl,q⟩
end
section
variable {X:Cx}
theorem b0n:SlR X (fun x lo hi H Q=>∃z,x=.str z/\z.length≤sizeLine/\Q (.str (Txt.slice z lo hi)) H):=by
 intro pins s σ H x v vl vu lo hi sl Q I rx hs pl pu h;obtain⟨z,rfl,hz,q⟩:=h;obtain⟨t,rfl⟩:=rx;refine⟨"str",_,F.slot_str_getitem.lookup,typeIs_str _ _ _,?_⟩;obtain⟨o,e1,e2,e3⟩:=hs;have fin:∀(l u:Option (Int×Tok)),vl=partValue l->vu=partValue u->l.map (·.1)=lo->u.map (·.1)=hi->wpAny (model X.prog X.w) X.A (getItem (.str z t) (.ref sl)) (EP X pins σ Q) X.xe s:=by
  intro l u h1 h2 h3 h4;subst h1 h2 h3 h4;refine wpAny_getItem_str_slice (l:=l) (u:=u) (st:=none) ⟨o,e1,e2,e3⟩ rfl (post_val_or_str ⟨Nat.le_trans (Txt.slice_le z (l.map (·.1)) (u.map (·.1))) hz,fun t' k=>?_⟩);exact⟨.str (Txt.slice z (l.map (·.1)) (u.map (·.1))),H,I.tok k,⟨t',rfl⟩,q⟩
 cases pl with
 |none=>
  cases pu with
  |none=>exact fin none none rfl rfl rfl rfl
  |int j tj=>exact fin none (some (j,tj)) rfl rfl rfl rfl
 |int i ti=>
  cases pu with
  |none=>exact fin (some (i,ti)) none rfl rfl rfl rfl
  |int j tj=>exact fin (some (i,ti)) (some (j,tj)) rfl rfl rfl rfl
end
theorem a9T (x:Str){k:Int}(h0:0≤k)(h1:k≤x.length):(Txt.slice x none (some k)).cps.toList=x.cps.toList.take k.toNat:=by
 have e:Txt.slice x none (some k)=StrLaws.sliceText x none (some k):=rfl;rw[e,StrLaws.sliceText_to ⟨h0,by simpa[Str.length] using h1⟩];simp
theorem a6Q (x:Str){k:Int}(h0:0≤k)(h1:k≤x.length):(Txt.slice x (some k) none).cps.toList=x.cps.toList.drop k.toNat:=by
 have e:Txt.slice x (some k) none=StrLaws.sliceText x (some k) none:=rfl;rw[e,StrLaws.sliceText_from ⟨h0,by simpa[Str.length] using h1⟩]
 show(((x.cps.toList.drop k.toNat).take ((x.cps.toList.length:Int)-k).toNat).toArray).toList=_
 rw[List.toList_toArray];refine List.take_of_length_le ?_;rw[List.length_drop]
 omega
theorem a3i {J:It}{g:TG}{te:TE}{R:Addr->Hp->Prop}{D:Addr}{σ0:St}{H0:Hp}(n:Nat)(ev:Nat->V)(Pv:Nat->St->Hp->Prop)(hn:n≤sizeLine)(h0:Pv 0 σ0 H0)(hD0:H0 D=some (.lst []))
  (hs:∀i σ H,i<n->Pv i σ H->H D=some (.lst ((List.range i).map ev))->J.go i H/\∀x H',J.yld i H x H'->g x σ H' fun σ2 H2=>te σ2 H2 fun y H4=>y=ev i/\H4 D=some (.lst ((List.range i).map ev))/\Pv (i+1) σ2 (upd H4 D (.lst ((List.range (i+1)).map ev))))
  (hd:∀σ H,Pv n σ H->H D=some (.lst ((List.range n).map ev))->J.stop n H/\R D H):a6R J g b3t te R D σ0 H0:=by
 refine⟨fun i m σ H=>m=n-i/\i≤n/\Pv i σ H/\H D=some (.lst ((List.range i).map ev)),⟨n,by omega,Nat.zero_le _,h0,hD0⟩,?_⟩;rintro i m σ H ⟨rfl,hi,p,hD⟩
 by_cases hlt:i<n
 ·obtain⟨go,st⟩:=hs i σ H hlt p hD
  refine .inr ⟨go,fun σ2 y H4=>y=ev i/\H4 D=some (.lst ((List.range i).map ev))/\Pv (i+1) σ2 (upd H4 D (.lst ((List.range (i+1)).map ev))),fun _ _=>False,?_,fun _ _ z=>z.elim,st⟩;rintro σ2 y H4 ⟨rfl,e,p'⟩;refine⟨_,e,by simp;omega,n-(i+1),by omega,rfl,hlt,?_,?_⟩
  ·rw[List.range_succ,List.map_append] at p'
   exact p'
  ·rw[a0b,List.range_succ,List.map_append]
   rfl
 ·have e:i=n:=by omega
  subst e;exact .inl (hd σ H p hD)
theorem a0o.upd {H:Hp}{D:Addr}{o:HO}(h:H D=none):a0o H (L2.upd H D o):=fun b u e=>by
 rw[a0h (a0x e h)];exact e
theorem a0o.seqT {K:Fg0}{H H':Hp}{a:Addr}{xs:List V}(e:a0o H H')(h:SqT K H a xs):SqT K H' a xs:=by
 rcases h with (h |⟨o,h⟩) |h
 ·exact .inl (.inl (e _ _ h))
 ·exact .inl (.inr ⟨o,e _ _ h⟩)
 ·exact .inr h
def a1U (a b:String):Option Bool:=if (Value.type a==Value.type b)=true then some true else if PySem.W.kitMeta b=true then(fastBuiltinMro a).map (·.contains (.type b)) else none
theorem a5r {K:Fg0}{a b:String}:PySem.W.kitOne K (.type a) (.type b)=a1U a b:=rfl
def a0W (K:Fg0)(x:Str)(st:Stmt):Prop:=∃(f:Addr) (oc:Value) (od:Option Addr) (kV doc pm:Value) (an:Option Addr) (cdv ct:Value) (osl:Array (Option Value)),
 PySem.W.nsIn K mainGlobals x=some (some (.ref f))/\K.lookup f=some ⟨oc,od,.func (PySem.W.fnOf x x (a0K st) (a0G st) (a0e st) .none kV doc pm an cdv ct),osl⟩/\PySem.W.codeIn K cdv x=true/\PySem.W.keepIn K (.ref f)=true
theorem a0s {K:Fg0}{x:Str}{st:Stmt}{f:Addr}{oc:Value}{od an:Option Addr}{osl:Array (Option Value)}{kV doc pm cdv ct:Value}(a:PySem.W.nsIn K mainGlobals x=some (some (.ref f)))
  (l:K.lookup f=some ⟨oc,od,.func (PySem.W.fnOf x x (a0K st) (a0G st) (a0e st) .none kV doc pm an cdv ct),osl⟩) (c:PySem.W.codeIn K cdv x=true) (k:PySem.W.keepIn K (.ref f)=true):a0W K x st:=
 ⟨f,oc,od,kV,doc,pm,an,cdv,ct,osl,a,l,c,k⟩
structure Df (K:Fg0) (mg:Str->Option Value) (x:Str) (st:Stmt) (f:Addr) (fd:FuncData):Prop where
 fn:Fun K x x st f fd
 mg:mg x=some (.ref f)
theorem a0W.df {K:Fg0}{h:Heap}{mg:Str->Option Value}{x:Str}{st:Stmt}(d:a0W K x st)(X:K.In h)(G:h.Ns mainGlobals mg):∃f fd,Df K mg x st f fd:=by
 obtain⟨f,oc,od,kV,doc,pm,an,cdv,ct,osl,a,l,c,k⟩:=d;exact⟨f,_,a6H l c k,PySem.W.mg_of X G a⟩
end L2
namespace PySem.SeqAt
open MeetsSeq
open AutoSeq1 (wpAny_loadPart')
end PySem.SeqAt
namespace L2
open PySem PySem.Spec PyProof.Rows
end L2
namespace My
open PySem L2 PyProof.Rows
theorem pos {j:Int}(h:decide ((0:Int)<j)=true):0<j:=of_decide_eq_true h
theorem a7N {ns:List Int}{k:Int}(h0:0≤k)(h1:k<ns.length):atI (ns.map V.int) k=some (.int (ns.getD k.toNat 0)):=by
 obtain⟨j,rfl⟩:=Int.eq_ofNat_of_zero_le h0;refine a3k ?_;have hj:j<ns.length:=by omega
 rw[gM0,gE0 hj];simp[List.getD_eq_getElem?_getD,gE0 hj]
theorem boot_isi:bootBuiltins "isinstance"=some (.builtin "isinstance"):=by decide +kernel
theorem boot_int:bootBuiltins "int"=some (.type "int"):=by decide +kernel
theorem boot_bool:bootBuiltins "bool"=some (.type "bool"):=by decide +kernel
theorem boot_str:bootBuiltins "str"=some (.type "str"):=by decide +kernel
theorem boot_list:bootBuiltins "list"=some (.type "list"):=by decide +kernel
theorem boot_tuple:bootBuiltins "tuple"=some (.type "tuple"):=by decide +kernel
theorem boot_dict:bootBuiltins "dict"=some (.type "dict"):=by decide +kernel
structure Bl (mg:Str->Option Value):Prop where
 len:mg "len"=none
 isi:mg "isinstance"=none
 int:mg "int"=none
 bool:mg "bool"=none
 str:mg "str"=none
 all:mg "all"=none
 range:mg "range"=none
 abs:mg "abs"=none
 ord:mg "ord"=none
 list:mg "list"=none
 tuple:mg "tuple"=none
 dict:mg "dict"=none
 any:mg "any"=none
 sorted:mg "sorted"=none
 set:mg "set"=none
 enum:mg "enumerate"=none
structure BlK (K:Fg0):Prop where
 len:PySem.W.nsIn K mainGlobals "len"=some none
 isi:PySem.W.nsIn K mainGlobals "isinstance"=some none
 int:PySem.W.nsIn K mainGlobals "int"=some none
 bool:PySem.W.nsIn K mainGlobals "bool"=some none
 str:PySem.W.nsIn K mainGlobals "str"=some none
 all:PySem.W.nsIn K mainGlobals "all"=some none
 range:PySem.W.nsIn K mainGlobals "range"=some none
 abs:PySem.W.nsIn K mainGlobals "abs"=some none
 ord:PySem.W.nsIn K mainGlobals "ord"=some none
 list:PySem.W.nsIn K mainGlobals "list"=some none
 tuple:PySem.W.nsIn K mainGlobals "tuple"=some none
 dict:PySem.W.nsIn K mainGlobals "dict"=some none
 any:PySem.W.nsIn K mainGlobals "any"=some none
 sorted:PySem.W.nsIn K mainGlobals "sorted"=some none
 set:PySem.W.nsIn K mainGlobals "set"=some none
 enum:PySem.W.nsIn K mainGlobals "enumerate"=some none
theorem BlK.bl {K:Fg0}{h:Heap}{mg:Str->Option Value}(b:BlK K)(X:K.In h)(G:h.Ns mainGlobals mg):Bl mg:=
 ⟨PySem.W.mg_none_of X G b.len,PySem.W.mg_none_of X G b.isi,PySem.W.mg_none_of X G b.int,PySem.W.mg_none_of X G b.bool,PySem.W.mg_none_of X G b.str,PySem.W.mg_none_of X G b.all,PySem.W.mg_none_of X G b.range,PySem.W.mg_none_of X G b.abs,PySem.W.mg_none_of X G b.ord,PySem.W.mg_none_of X G b.list,PySem.W.mg_none_of X G b.tuple,PySem.W.mg_none_of X G b.dict,PySem.W.mg_none_of X G b.any,PySem.W.mg_none_of X G b.sorted,PySem.W.mg_none_of X G b.set,PySem.W.mg_none_of X G b.enum⟩
theorem a3H {b:Bool}{A B:Prop}(h:b=true)(a:A):if b=true then A else B:=by rw[if_pos h];exact a
theorem a2s {b:Bool}{A B:Prop}(h:b=false)(a:B):if b=true then A else B:=by rw[h,if_neg Bool.false_ne_true];exact a
def b3d (K:Fg0):Sp:=fun vs H Q _=>∃(a:Addr) (ns:List Int),vs=[.ref a]/\SqL K H a (ns.map V.int)/\ns.length≤63/\∀H',Q (.bl true) H'
theorem walk (k:Nat){l:PySem.W.OpenLaw}{q:Program}{loose:List Str}{XP:(Str->Option Value)->Heap->Prop}{YP:World->Heap->Prop}{d:DefRec}{K:Params->Fg0}(hk:a1o k callerA)(hn:l.most=some 63)(hdf:d.params.defaults=[])
  (hY:∀(w:World) (h:Heap),YP w h->(K w.params).In h)
  (F:∀(w:World) (mg:Str->Option Value) (fa:Addr) (h:Heap),(K w.params).In h->h.Ns mainGlobals mg->mg d.name=some (.ref fa) →
   ∃fd:FuncData,(∀(s:Shared) (u:Value),BindsTo s fd ⟨[u],[]⟩ [("_law_script",u)])/\∀base:Heap,(K w.params).In base->base.Ns mainGlobals mg->a0w l.prog w (K w.params) mg base CX0 k fa fd ["_law_script"] (b3d (K w.params))) :
  PySem.W.WalkO q loose XP YP l.row.toRowW d [] (fun f vs=>PySem.call f vs):=
 L2.b0N (n:=63) (k:=k) (x:="_law_script") (CX:=fun _=>CX0) (sp:=fun w=>b3d (K w.params)) hn (by decide) hdf hk hY F (fun _ _ a ns hl _ hS=>⟨a,ns,rfl,hS,hl,fun _=>rfl⟩) fun _ _ _ _ _ z=>z
end My
namespace L2
open PySem PySem.Spec PyProof.Rows
section
variable {X:Cx}
theorem a9V:OpR X (binaryOp .Mult) (fun x y H Q=>∃(z:Str) (n:Nat),x=.str z/\y=.int n/\1<n/\n<1000/\0<z.length/\z.length≤10000/\Q (.str ⟨(List.replicate n z.cps).foldl (·++·) #[]⟩) H):=by
 intro pins s σ H x y v u Q I rx ry h;obtain⟨z,n,rfl,rfl,h1,h2,h3,h4,q⟩:=h;obtain⟨t,rfl⟩:=rx;obtain⟨t',rfl⟩:=ry;have e1:¬((n:Int)<1):=by omega
 have e2:((n:Int)==1 || z.length==0)=false:=by
  rw[Bool.or_eq_false_iff,beq_eq_false_iff_ne,beq_eq_false_iff_ne];exact⟨by omega,by omega⟩
 have hT:Builtin.Str.tooLong (z.length * (n:Int).toNat)=false:=by
  have hm:z.length * (n:Int).toNat≤10000 * 1000:=Nat.mul_le_mul h4 (by omega);have hs:sizeLine=16777216:=sizeLine_eq;unfold PySem.Builtin.Str.tooLong;exact decide_eq_false (by omega)
 refine P.mul_str (by rw[decide_eq_false (by omega),decide_eq_false (by omega)];rfl) (fun _ _=>?_) (fun _ _=>?_) ?_
 ·have:(1000:Int)≤(2 ^ 63-1)/(n:Int)/10:=by
   rw[Int.ediv_ediv_of_nonneg (by omega)];apply Int.le_ediv_of_mul_le (by omega)
   omega
  omega
 ·exact hT
 ·rw[if_neg e1,if_neg (by rw[e2];decide)]
  refine⟨fits_reps ?_,.str _,H,I.tok _,⟨_,rfl⟩,q⟩;exact hT
theorem a6k:∀(l:List (Array Nat)) (a:Array Nat),(l.foldl (·++·) a).toList=a.toList++(l.map (·.toList)).flatten
 |[],a=>by simp
 |x::r,a=>by
  rw[List.foldl_cons,a6k r (a++x),Array.toList_append,List.map_cons,List.flatten_cons,List.append_assoc]
theorem a9B:OpR X (binaryOp .Mult) (fun x y H Q=>∃(z:Str) (n:Nat),x=.str z/\y=.int n/\n<1000/\0<z.length/\z.length≤10000/\∀r:Str,r.cps.toList=(List.replicate n z.cps.toList).flatten->Q (.str r) H):=by
 intro pins s σ H x y v u Q I rx ry h;obtain⟨z,n,rfl,rfl,h2,h3,h4,q⟩:=h
 by_cases e0:n=0
 ·subst e0
  obtain⟨t,rfl⟩:=rx;obtain⟨t',rfl⟩:=ry;exact P.mul_str_none (by decide) (by decide) ⟨.str Str.empty,H,I.tok _,⟨_,rfl⟩,q _ rfl⟩
 by_cases e1:n=1
 ·subst e1
  obtain⟨t,rfl⟩:=rx;obtain⟨t',rfl⟩:=ry;refine P.mul_str (by decide) (fun _ h=>?_) (fun _ h=>?_) ?_
  ·rw[Bool.or_eq_false_iff] at h;exact absurd h.1 (by decide)
  ·rw[Bool.or_eq_false_iff] at h;exact absurd h.1 (by decide)
  ·rw[if_neg (by decide),if_pos (by rw[Bool.or_eq_true];exact .inl (by decide))]
   exact⟨.str z,H,I,⟨t,rfl⟩,q _ (by simp)⟩
 ·refine a9V pins s σ H _ _ v u Q I rx ry ⟨z,n,rfl,rfl,by omega,h2,h3,h4,q _ ?_⟩
  show((List.replicate n z.cps).foldl (·++·) #[]).toList=_
  rw[a6k,List.map_replicate]
  rfl
end
end L2
namespace L2
open PySem
end L2
namespace L2
open PySem PySem.Spec PyProof.Rows
structure Our (X:Cx) (pins:List (Addr×Obj)) (H:Hp) (b:Addr):Prop where
 new:X.s₀.heap.objs.size≤b
 loc:b≠X.env.locals
 cel:∀y c,X.env.cells.lookup y=some c->c≠b
 pin:∀p∈X.pn++pins,p.1≠b
 unt:H b=none
section
variable {X:Cx}{pins:List (Addr×Obj)}{σ:St}{H H':Hp}{s s':Shared}{x b:Addr}{C:Value}{od:Option Addr}
theorem Inv.our' (I:Inv X pins σ H s)(h:s.heap.objs.size≤b)(hn:H' b=none):Our X pins H' b:=by
 have lt:∀c o,s.heap.get? c=some o->c≠b:=fun c o e z=>by
  subst z;exact absurd (Nat.lt_of_lt_of_le (Heap.lt_size e) h) (Nat.lt_irrefl _)
 refine⟨Nat.le_trans I.sz h,fun z=>?_,fun y c e=>?_,fun p hp=>?_,hn⟩
 ·obtain⟨m,⟨o,_,_,ho,_⟩,_⟩:=I.loc
  exact lt _ o ho z.symm
 ·obtain⟨v,o,ho,_⟩:=I.cell y c e
  exact lt c o ho
 ·exact lt p.1 _ (I.pin p hp).1
theorem Inv.our (I:Inv X pins σ H s)(h:s.heap.objs.size≤b):Our X pins H b:=I.our' h (I.hok.fresh h)
end
end L2
namespace L2
open PySem PySem.Spec PyProof.Rows Builtin Builtin.ObjectAttr
abbrev bmV:List Value:=[.type "ValueError",.type "Exception",.type "BaseException",.type "object"]
def b0R:List Value->Bool
 |[]=>false
 |v::r=>(v::r)==bmV || match v with | .ref _=>b0R r |_=>false
structure XCl (K:Fg0) (C:Addr):Prop where
 at_:∃(nm q:Str) (N:Addr) (bs bm:List Value) (sn:List Str) (sub:List Value) (ab:Bool) (col:Option Bool) (dd:Option Addr) (k0 k1 k2 k3 k5:Option Value),K.lookup C=some (excClassObj nm q C N bs bm true sn sub ab col dd k0 k1 k2 k3 k5 "ValueError.__new__")/\b0R bm=true
 ga:PySem.W.findIn K (.ref C) "__getattribute__"=some (some (.builtin "BaseException.__getattribute__"))
 gx:PySem.W.findIn K (.ref C) "__getattr__"=some none
 sa:PySem.W.findIn K (.ref C) "__setattr__"=some (some (.builtin "object.__setattr__"))
 kp:PySem.W.keepIn K (.ref C)=true
theorem b5F {K:Fg0}{C N:Addr}{nm q:Str}{bs bm:List Value}{sn:List Str}{sub:List Value}{ab:Bool}{col:Option Bool}{dd:Option Addr}{k0 k1 k2 k3 k5:Option Value}
  (l:K.lookup C=some (excClassObj nm q C N bs bm true sn sub ab col dd k0 k1 k2 k3 k5 "ValueError.__new__")) (t:b0R bm=true) (ga:PySem.W.findIn K (.ref C) "__getattribute__"=some (some (.builtin "BaseException.__getattribute__")))
  (gx:PySem.W.findIn K (.ref C) "__getattr__"=some none) (sa:PySem.W.findIn K (.ref C) "__setattr__"=some (some (.builtin "object.__setattr__"))) (kp:PySem.W.keepIn K (.ref C)=true):XCl K C:=
 ⟨⟨nm,q,N,bs,bm,sn,sub,ab,col,dd,k0,k1,k2,k3,k5,l,t⟩,ga,gx,sa,kp⟩
section
variable {X:Cx}{pins:List (Addr×Obj)}{σ:St}{H:Hp}{s:Shared}{x dx C:Addr}{φ:Heap->Prop}{od:Option Addr}
theorem Inv.track {o:HO}(I:Inv X pins σ H s)(hx:Our X pins H x)(new:a1q X.prog X.w (upd H x o) s.heap x o):Inv X pins σ (upd H x o) s:=by
 have ne:∀b u,H b=some u->b≠x:=fun b u q z=>by rw[z,hx.unt] at q;cases q
 refine I.step (h':=s.heap) (g':=s.gens) (d':=s.drawn) (t':=s.toks) (ch:=[x]) (fun b hb=>?_) (fun b o _ _ _ e _=>e) (fun b o _ _ _ e _=>⟨o.slots,e⟩) (fun b o hc e n=>?_) (fun b o _ e=>⟨o,e⟩) (fun b xs e=>?_) (fun b u xs e=>?_) (fun b ps e=>⟨#[],?_⟩) (fun m hm=>hm) (fun b u q=>?_) I.bare
 ·rw[List.mem_singleton.mp hb]
  exact⟨.inr hx.new,hx.loc,hx.cel,hx.pin⟩
 ·rw[a0h fun z=>hc (by rw[z];exact List.mem_singleton.mpr rfl)]
  exact n
 ·rw[a0h (ne b _ e)];exact e
 ·rw[a0h (ne b _ e)];exact e
 ·rw[a0h (ne b _ e),e];simp
 ·by_cases hb:b=x
  ·subst hb
   rw[a0b] at q;cases q;exact new
  ·rw[a0h hb] at q
   exact(I.hok b u q).stay (fun _ _ _ r=>r) (fun c r=>by rw[a0h (ne c _ r)];exact r) fun c xs r=>by rw[a0h (ne c _ r)];exact r
end
abbrev Cx.within (X:Cx)(pn:List (Addr×Obj))(E:Value->Shared->Prop):Cx:={ X with pn:=pn,xe:=E }
section
variable {X:Cx}{pins:List (Addr×Obj)}{σ:St}{H:Hp}{s:Shared}{x:Addr}{E:Value->Shared->Prop}
theorem Inv.within (I:Inv X pins σ H s):Inv (X.within (X.pn++pins) E) [] σ H s:=
 ⟨⟨I.ok.mod,I.ok.kind,I.ok.glob,I.ok.blt,I.ok.above,I.ok.inj,I.ok.has,I.ok.cab,I.ok.hd,I.ok.frames,I.ok.stk,I.ok.exf,I.ok.bs,I.ok.bsz,I.ok.noex,I.ok.exfs,I.ok.funs,I.ok.frf⟩,I.os,I.bare,I.base,I.loc,I.cell,I.free,I.freeC,(by intro p hp;exact I.pin p (by simpa using hp)),I.hok,I.len⟩
theorem Inv.out {pins':List (Addr×Obj)}(ok:X.Ok)(I:Inv (X.within (X.pn++pins) E) pins' σ H s):Inv X pins σ H s:=⟨ok,I.os,I.bare,I.base,I.loc,I.cell,I.free,I.freeC,fun p hp=>I.pin p (List.mem_append_left _ hp),I.hok,I.len⟩
theorem SP.out {D:a5w}{f:Flow}{pins':List (Addr×Obj)}(ok:X.Ok)(h:SP (X.within (X.pn++pins) E) pins' D f s):SP X pins D f s:=by
 cases f with
 |next=>obtain⟨σ',H',I,q⟩:=h;exact⟨σ',H',I.out ok,q⟩
 |brk=>obtain⟨σ',H',I,q⟩:=h;exact⟨σ',H',I.out ok,q⟩
 |cont=>obtain⟨σ',H',I,q⟩:=h;exact⟨σ',H',I.out ok,q⟩
 |ret u=>obtain⟨v,σ',H',I,r,q⟩:=h;exact⟨v,σ',H',I.out ok,r,q⟩
end
end L2
namespace L2
open PySem PySem.Spec PyProof.Rows
section
variable {X:Cx}{pins:List (Addr×Obj)}{σ:St}{H:Hp}{s:Shared}{a:Addr}{kvs:List (Key×V)}{o:Obj}
theorem Inv.freeze (I:Inv X pins σ H s)(e:H a=some (.dK kvs))(ho:s.heap.get? a=some o):Inv X pins σ (upd H a (.frz o (.dK kvs))) s:=by
 have ne:∀b u,H b=some u->u≠.dK kvs->b≠a:=fun b u q n z=>by
  subst z;rw[e] at q;exact n (Option.some.inj q).symm
 have nn:∀b,H b=none->b≠a:=fun b q z=>by subst z;rw[e] at q;cases q
 refine⟨I.ok,I.os,I.bare,⟨I.base.keep,I.base.slot,fun b ob q n hx=>?_,I.base.there,fun b xs q=>?_,fun b ob u q=>?_,fun b ps q=>?_⟩,I.loc,I.cell,?_,fun x c q=>?_,fun p hp=>?_,fun b u q=>?_,I.len⟩
 ·have h:=I.base.free b ob q n hx
  rw[a0h (nn b h)];exact h
 ·have h:=I.base.tups b xs q
  rw[a0h (ne b _ h (by simp))];exact h
 ·have h:=I.base.frzs b ob u q
  rw[a0h (ne b _ h (by simp))];exact h
 ·obtain⟨m,h⟩:=I.base.tbls b ps q
  exact⟨m,by rw[a0h (ne b _ h (by simp))];exact h⟩
 ·rw[a0h (nn _ I.free)]
  exact I.free
 ·rw[a0h (nn _ (I.freeC x c q))]
  exact I.freeC x c q
 ·obtain⟨h1,h2,h3⟩:=I.pin p hp
  exact⟨h1,by rw[a0h (nn _ h2)];exact h2,h3⟩
 ·by_cases hb:b=a
  ·subst hb
   rw[a0b] at q;cases q;exact⟨ho,I.hok b _ e⟩
  ·rw[a0h hb] at q
   exact(I.hok b u q).stay (fun c v _ r=>r) (fun c r=>by rw[a0h (ne c _ r (by simp))];exact r) fun c xs r=>by rw[a0h (ne c _ r (by simp))];exact r
theorem Inv.thaw (I:Inv X pins σ H s)(n0:∀ob u,X.H₀ a≠some (.frz ob u))(e:H a=some (.frz o (.dK kvs))):Inv X pins σ (upd H a (.dK kvs)) s:=by
 have ne:∀b u,H b=some u->u≠.frz o (.dK kvs)->b≠a:=fun b u q n z=>by
  subst z;rw[e] at q;exact n (Option.some.inj q).symm
 have nn:∀b,H b=none->b≠a:=fun b q z=>by subst z;rw[e] at q;cases q
 refine⟨I.ok,I.os,I.bare,⟨I.base.keep,I.base.slot,fun b ob q n hx=>?_,I.base.there,fun b xs q=>?_,fun b ob u q=>?_,fun b ps q=>?_⟩,I.loc,I.cell,?_,fun x c q=>?_,fun p hp=>?_,fun b u q=>?_,I.len⟩
 ·have h:=I.base.free b ob q n hx
  rw[a0h (nn b h)];exact h
 ·have h:=I.base.tups b xs q
  rw[a0h (ne b _ h (by simp))];exact h
 ·have h:=I.base.frzs b ob u q
  rw[a0h (fun z=>by subst z;exact n0 _ _ q)];exact h
 ·obtain⟨m,h⟩:=I.base.tbls b ps q
  exact⟨m,by rw[a0h (ne b _ h (by simp))];exact h⟩
 ·rw[a0h (nn _ I.free)]
  exact I.free
 ·rw[a0h (nn _ (I.freeC x c q))]
  exact I.freeC x c q
 ·obtain⟨h1,h2,h3⟩:=I.pin p hp
  exact⟨h1,by rw[a0h (nn _ h2)];exact h2,h3⟩
 ·by_cases hb:b=a
  ·subst hb
   rw[a0b] at q;cases q;exact(I.hok b _ e).2
  ·rw[a0h hb] at q
   exact(I.hok b u q).stay (fun c v _ r=>r) (fun c r=>by rw[a0h (ne c _ r (by simp))];exact r) fun c xs r=>by rw[a0h (ne c _ r (by simp))];exact r
theorem Inv.dk_obj (I:Inv X pins σ H s)(e:H a=some (.dK kvs)):∃o,s.heap.get? a=some o:=by
 obtain⟨_,_,_,_,o,_,_,g,_⟩:=I.hok a _ e;exact⟨o,g⟩
theorem Inv.not_frz (I:Inv X pins σ H s)(e:H a=some (.dK kvs)):∀ob u,X.H₀ a≠some (.frz ob u):=fun ob u q=>by
 have:=I.base.frzs a ob u q
 rw[e] at this;cases this
def b4y (a:Addr)(o:Obj)(kvs:List (Key×V))(D:a5w):a5w where
 nx:=fun σ' H'=>H' a=some (.frz o (.dK kvs))/\D.nx σ' (upd H' a (.dK kvs))
 rt:=fun v H'=>H' a=some (.frz o (.dK kvs))/\D.rt v (upd H' a (.dK kvs))
 bk:=fun σ' H'=>H' a=some (.frz o (.dK kvs))/\D.bk σ' (upd H' a (.dK kvs))
 ct:=fun σ' H'=>H' a=some (.frz o (.dK kvs))/\D.ct σ' (upd H' a (.dK kvs))
def sFrz (t:TS):TS:=fun D σ H=>∃a kvs,H a=some (.dK kvs)/\∀o,t (b4y a o kvs D) σ (upd H a (.frz o (.dK kvs)))
theorem a6E {st:Stmt}{t:TS}(h:PS X st t):PS X st (sFrz t):=by
 intro pins s σ H D I hq;obtain⟨a,kvs,e,q⟩:=hq;obtain⟨o,ho⟩:=I.dk_obj e;have n0:=I.not_frz e;refine thn (h pins s σ _ _ (I.freeze e ho) (q o)) fun f s' hs=>?_;cases f with
 |next=>obtain⟨σ',H',I',e',z⟩:=hs;exact⟨σ',_,I'.thaw n0 e',z⟩
 |brk=>obtain⟨σ',H',I',e',z⟩:=hs;exact⟨σ',_,I'.thaw n0 e',z⟩
 |cont=>obtain⟨σ',H',I',e',z⟩:=hs;exact⟨σ',_,I'.thaw n0 e',z⟩
 |ret u=>obtain⟨v,σ',H',I',r,e',z⟩:=hs;exact⟨v,σ',_,I'.thaw n0 e',r,z⟩
end
def b1S (o:Obj):Nat:=match o.data with
 | .dict _ ep=>ep
 |_=>0
theorem b2S {P:Program}{w:World}:∀{k:Key} {u:Value},(a0l P w).is k u=true->a1c (kV k) u:=by
 intro k u h;rcases a0L (k:=k) (v:=u) h with ⟨i,t,rfl,rfl⟩ |⟨x,t,rfl,rfl⟩
 ·exact⟨t,rfl⟩
 ·exact⟨t,rfl⟩
section
variable {X:Cx}
theorem a6B:∀{kvs:List (Key×V)} {vs:List (Key×Value)} {i:Nat} {p:Key×V},KV kvs vs->kvs[i]? =some p->∃u,vs[i]? =some (p.1,u)/\a1c p.2 u
 |_,_,_,_,.nil,e=>by simp at e
 |_,_,0,_,.cons (b:=q) r _,e=>by
  simp at e;subst e;obtain⟨q1,q2⟩:=q;obtain⟨r1,r2⟩:=r;exact⟨q2,by rw[List.getElem?_cons_zero];exact congrArg (fun z=>some (z,q2)) r1.symm,r2⟩
 |_,_,i+1,p,.cons _ t,e=>by
  obtain⟨u,h1,h2⟩:=a6B (i:=i) (p:=p) t (by simpa using e);exact⟨u,by simpa using h1,h2⟩
theorem Inv.dictAt {pins:List (Addr×Obj)}{σ:St}{H:Hp}{s:Shared}{a:Addr}{o:Obj}{kvs:List (Key×V)}(I:Inv X pins σ H s)(e:H a=some (.frz o (.dK kvs))) :
  ∃vs,KV kvs vs/\s.heap.DictAt (a0l X.prog X.w) a vs (b1S o)/\(a==sysModules)=false:=by
 obtain⟨g,_,hs,vs,kv,o',es,ep,g',ex,hd,hk,hp,hn⟩:=I.hok a _ e;rw[g] at g';cases g';have he:b1S o=ep:=by unfold b1S;rw[hd]
 exact⟨vs,kv,⟨o,es,g,ex,by rw[he];exact hd,hk,hp,hn⟩,hs⟩
theorem KV.len {kvs:List (Key×V)}{vs:List (Key×Value)}(r:KV kvs vs):kvs.length=vs.length:=Paired.length r
theorem a7B:∀{zs:List Str} {us:List Value},a1m (zs.map V.str) us->StrsAre us zs
 |[],_,r=>by rw[List.map_nil] at r;cases r;exact .nil
 |z::zs,_,r=>by
  rw[List.map_cons] at r;cases r with
  |cons h t=>
   obtain⟨k,rfl⟩:=h;exact .cons _ _ (a7B t)
theorem a5v:∀{us:List Value} {zs:List Str},StrsAre us zs->a1m (zs.map V.str) us
 |_,_,.nil=>.nil
 |_,_,.cons _ k t=>.cons ⟨_,rfl⟩ (a5v t)
theorem a2v:entryFor table "dict_itemiterator.__iter__"=some Builtin.«dict_keyiterator.__iter__»:=
 entryFor_alias (id':="dict_keyiterator.__iter__") (by kernel_rfl) rfl (by decide +kernel) (by kernel_rfl)
theorem a4o {prog:Program}{w:World}{A:Around}{E:Value->Shared->Prop}{s:Shared}{it d:Addr}{i n ep:Nat}{ok ov:Value}{Q:Value->Shared->Prop}(hit:IsItemIter s.heap it d i n ep ok ov)(h:Q (.ref it) s):wpAny (model prog w) A (pyIter (.ref it)) Q E s:=by
 have hT:s.TypeIs (.ref it) "dict_itemiterator":=⟨_,hit,rfl⟩;refine wpAny_pyIter_slot hT F.slot_dict_itemiterator_iter (wpAny_call_entry F.slot_dict_itemiterator_iter hT a2v ?_ (F.args_dict_itemiterator_iter_1 _));show wpAny _ _ (ret (.ref it)) _ _ s;exact wP0 ⟨_,rfl,"dict_itemiterator",_,hT,F.slot_dict_itemiterator_next.lookup,h⟩
def Itm (a:Addr)(o:Obj)(kvs:List (Key×V)):It:=
 ⟨fun i H=>i<kvs.length/\H a=some (.frz o (.dK kvs)),fun i H x H'=>∃k v p,kvs[i]? =some (k,v)/\x=.ref p/\H p=none/\H'=upd H p (.tup [kV k,v]),fun i H=>kvs.length≤i/\H a=some (.frz o (.dK kvs))⟩
theorem a7e {P:Program}{w:World}{K:Fg0}{es:List Expr}{x1:Nat}{tp:Pos}(a it:Addr)(o:Obj)(kvs:List (Key×V)):a8Y P w K (.Tuple es x1 tp) (Itm a o kvs) [it] it (fun i h=>∃ok ov,IsItemIter h it a i kvs.length (b1S o) ok ov) where
 mem:=by simp
 obj:=fun i h st b hb=>by
  have e:b=it:=by simpa using hb
  subst e;obtain⟨ok,ov,st⟩:=st;exact⟨_,st,fun v z=>by cases z⟩
 keep:=fun i h h' st k=>by
  obtain⟨ok,ov,st⟩:=st;exact⟨ok,ov,k it (by simp) _ st⟩
 item:=by
  intro X hP hw hK hc i pins s σ H E I hf st hg;subst hP hw hK;obtain⟨hi,hq⟩:=hg;obtain⟨ok,ov,st⟩:=st;obtain⟨vs,kv,da,_⟩:=I.dictAt hq;have hl:=kv.len;obtain⟨u,hu,ru⟩:=a6B kv (show kvs[i]? =some (kvs[i].1,kvs[i].2) by simp[hi]);obtain⟨f0,f1,f2,f3,f4,f5⟩:=hf it (by simp);have hit:it<s.heap.objs.size:=Heap.lt_size st;rw[hl] at st;refine wpAny_pyNext_items_item st da hu fun key h' hkey st' ht hsz kp=>?_;refine⟨_,rfl,?_⟩;refine wpAny_letOwnedTupleGo_items (s:={ s with heap:=h' }) st' fun h'' st'' sb=>?_;rw[← hl] at st'';have I0:Inv X pins σ H { s with heap:=s.heap.update it fun _=>{ cls:=.type "dict_itemiterator",dict:=none,data:=.fields #[.none,.bool false,.ref a,.int (i+1:Nat) 0,.int kvs.length 0,.int (b1S o) 0,key,u],slots:=#[] } }:=
   I.turned (t':=s.toks) (fun b ob hb e=>by rw[Heap.get?_update_ne _ _ _ _ hb];exact e) f0 f1 f3 f4 f5
  have hp:H s.heap.objs.size=none:=I.hok.fresh (Nat.le_refl _);refine⟨.ref s.heap.objs.size,upd H s.heap.objs.size (.tup [kV kvs[i].1,kvs[i].2]),I0.laid (t':=s.toks) (h':=h'') (fun b ob e=>?_) (by rw[Heap.size_update];exact Nat.le_refl _) ?_,rfl,⟨_,_,_,by simp[hi],rfl,hp,rfl⟩,⟨key,u,st''⟩,fun b hb=>?_⟩
  ·by_cases hb:b=it
   ·subst hb
    rw[Heap.get?_update_self _ st rfl] at e;rw[← e];exact st''
   ·rw[Heap.get?_update_ne _ _ _ _ hb] at e
    exact(sb.2 b hb).trans (kp b ob hb e)
  ·refine⟨(show 2≤sizeLine by decide),[key,u],.cons (b2S hkey) (.cons ru .nil),⟨_,(sb.2 _ (Nat.ne_of_gt hit)).trans ht,rfl,_,rfl⟩⟩
  ·have e:b=it:=by simpa using hb
   subst e;rw[a0h (Nat.ne_of_lt hit)];exact f0
 done:=by
  intro X hP hw hK hc i pins s σ H E I hf st hg;subst hP hw hK;obtain⟨hi,hq⟩:=hg;obtain⟨ok,ov,st⟩:=st;obtain⟨vs,kv,da,_⟩:=I.dictAt hq;have hl:=kv.len;obtain⟨f0,f1,f2,f3,f4,f5⟩:=hf it (by simp);rw[hl] at st;exact wpAny_pyNext_items_end (I.ok.hd hc) st da (by simp;omega) fun h' eb=>⟨rfl,I.turned (t':=s.toks) (fun b o hb e=>eb b o hb e) f0 f1 f3 f4 f5⟩
 self:=fun A i s Q E st h=>by
  obtain⟨ok,ov,st⟩:=st;exact a4o st h
def b3s (tl:TE):TI:=fun σ H R=>tl σ H fun x H1=>∃a o kvs,x=.ref a/\H1 a=some (.frz o (.dK kvs))/\R (Itm a o kvs) H1
theorem a2X {es:List Expr}{x1:Nat}{tp:Pos}{l:Expr}{tl:TE}{apos cpos:Pos}(hl:PE X l tl)(hbase:attributeBase l "items" X.env (eval l X.env)=eval l X.env:=by rfl)(hline:(apos.endLine==cpos.line)=true:=by rfl) :
  PI X (.Tuple es x1 tp) (.Call (.Attribute l "items" apos) [] [] cpos) (b3s tl):=by
 intro pins s σ H R I h;refine wpAny_Call_method0_late hbase hline (thn (hl pins s σ H _ I h) fun v s1 ⟨x,H1,I1,r1,q1⟩=>?_);obtain⟨a,o,kvs,e,hq,q⟩:=q1;subst e;cases r1;obtain⟨vs,kv,da,hs⟩:=I1.dictAt hq;obtain⟨g,_⟩:=I1.hok a _ hq;have ex:o.ExactDict:=by
  obtain⟨o',es',g',x',_⟩:=id da;rw[g] at g';cases g';exact x'
 refine⟨"dict","dict.items",F.plainAttrs_dict,F.slot_dict_items,F.type_dict_items,da.dictOf.typeIs,(fun b e=>by cases e;exact⟨o,g,ex.2.1⟩),Calls.callWith_builtin rfl (PySem.evalArgs_none ?_)⟩;refine call_meetsIn F.slot_dict_items da.dictOf.typeIs F.entry_dict_items (F.args_dict_items_1 _) (meets_dict_items (a0l X.prog X.w) a hs) ⟨⟨vs,da.dictOf⟩,?_⟩;have I2:Inv X pins σ H1 { s1 with heap:=s1.heap.push { cls:=.type "dict_items",data:=.fields #[.ref a] } }:=I1.kept (t':=s1.toks) fun b o e=>hP0 _ e;refine wpAny_pyIter_items (s:={ s1 with heap:=s1.heap.push { cls:=.type "dict_items",data:=.fields #[.ref a] } }) (knd:=a0l X.prog X.w) (kvs:=vs) (ep:=b1S o) ⟨_,Heap.get?_push_size _ rfl,rfl,rfl⟩ (da.push _) ?_;refine⟨_,[_],_,_,H1,rfl,I2.kept (t':=s1.toks) fun b o e=>hP0 _ e,a7e a _ o kvs,⟨.none,.none,by rw[kv.len];exact Heap.get?_push_size _ rfl⟩,fun b hb=>?_,q⟩;have e:=List.mem_singleton.mp hb;subst e;exact I2.fpOk (Nat.le_refl _) (I2.hok.fresh (Nat.le_refl _))
theorem a5j {a:Addr}{o:Obj}{kvs:List (Key×V)}{g:TG}{tb:TS}{D:a5w}{σ:St}{H:Hp}(Pv:Nat->St->Hp->Prop)(h0:Pv 0 σ H)(hl:∀i σ H,i≤kvs.length->Pv i σ H->H a=some (.frz o (.dK kvs)))
  (hs:∀i k v p σ H,kvs[i]? =some (k,v)->Pv i σ H->H p=none->g (.ref p) σ (upd H p (.tup [kV k,v])) fun σ2 H2=>tb { D with nx:=Pv (i+1),ct:=Pv (i+1),bk:=D.nx } σ2 H2) (hd:∀σ H,Pv kvs.length σ H->D.nx σ H) :
  ∃W:Nat->Nat->St->Hp->Prop,(∃m,W 0 m σ H)/\∀i m σ H,W i m σ H →
   ((Itm a o kvs).stop i H/\D.nx σ H)\/((Itm a o kvs).go i H/\∃N:St->Hp->Prop,(∀σ' H',N σ' H'->∃m',m'<m/\W (i+1) m' σ' H')/\∀x H',(Itm a o kvs).yld i H x H'->g x σ H' fun σ2 H2=>tb { D with nx:=N,ct:=N,bk:=D.nx } σ2 H2):=by
 refine⟨fun i m σ H=>m=kvs.length-i/\i≤kvs.length/\Pv i σ H,⟨kvs.length,by simp,Nat.zero_le _,h0⟩,?_⟩;rintro i m σ H ⟨rfl,hi,p⟩;have q:=hl i σ H hi p
 by_cases hlt:i<kvs.length
 ·refine .inr ⟨⟨hlt,q⟩,Pv (i+1),fun σ' H' p'=>⟨kvs.length-(i+1),by omega,rfl,hlt,p'⟩,fun x H' y=>?_⟩
  obtain⟨k,v,pa,hk,ex,hn,e⟩:=y;subst e ex;exact hs i k v pa σ H hk p hn
 ·have e:i=kvs.length:=by omega
  subst e;exact .inl ⟨⟨Nat.le_refl _,q⟩,hd σ H p⟩
theorem a2I:a1E X (.type "dict") (fun xs H Q=>∃a kvs,xs=[.ref a]/\Rd H a (.dK kvs)/\∀p,H p=none->Q (.ref p) (upd H p (.dK kvs))):=by
 intro pins s σ H xs us Q I r h;obtain⟨a,kvs,rfl,e,q⟩:=h;obtain⟨u,rfl,rx⟩:=a2n r;cases rx;exact a9c I e fun p s' hp I'=>⟨.ref p,_,I',rfl,q p hp⟩
end
theorem a1q.there {P:Program}{w:World}{H:Hp}{h:Heap}{a:Addr}{o:HO}(x:a1q P w H h a o):∃ob,h.get? a=some ob:=by
 cases o with
 |lst xs=>obtain⟨_,_,_,_,e⟩:=x;exact⟨_,e⟩
 |tup xs=>obtain⟨_,_,_,o,e,_⟩:=x;exact⟨_,e⟩
 |dK kvs=>obtain⟨_,_,_,_,o,_,_,e,_⟩:=x;exact⟨_,e⟩
 |dT kvs=>obtain⟨_,_,_,_,o,_,_,e,_⟩:=x;exact⟨_,e⟩
 |set S n=>obtain⟨o,_,_,_,e,_⟩:=x;exact⟨_,e⟩
 |ins C dx fs=>obtain⟨_,_,_,e,_⟩:=x;exact⟨_,e⟩
 |own y=>exact x
 |xd fs=>obtain⟨_,⟨_,_,_,e,_⟩,_⟩:=x;exact⟨_,e⟩
 |met f y=>exact⟨_,x⟩
 |rng lo hi=>obtain⟨_,_,_,e⟩:=x;exact⟨_,e⟩
 |frz ob u=>exact⟨_,x.1⟩
 |tbl ps=>exact⟨_,x⟩
 |ext φ=>exact x.2.1
section
variable {X:Cx}{pins:List (Addr×Obj)}{σ:St}{H:Hp}{s:Shared}{h':Heap}{a:Addr}{o:HO}
theorem Inv.none_at (I:Inv X pins σ H s)(hn:s.heap.get? a=none):H a=none:=by
 cases e:H a with
 |none=>rfl
 |some u=>
  obtain⟨ob,q⟩:=(I.hok a u e).there;rw[hn] at q;cases q
theorem Inv.laidAt {t':Nat}(I:Inv X pins σ H s)(k:∀b u,s.heap.get? b=some u->h'.get? b=some u)(hn:s.heap.get? a=none)(new:a1q X.prog X.w (upd H a o) h' a o):Inv X pins σ (upd H a o) { s with heap:=h',toks:=t' }:=by
 have hH:=I.none_at hn;have ne:∀b u,s.heap.get? b=some u->b≠a:=fun b u q z=>by subst z;rw[hn] at q;cases q
 refine I.un ⟨fun b u q _ _ _=>k b u q,fun b u q _ _ _=>⟨u.slots,k b u q⟩,fun b u q n _=>by rw[a0h (ne b u q)];exact n,fun b u q _=>⟨u,k b u q⟩,
  fun b xs q=>by rw[a0h (a0x q hH)];exact q,fun b u xs q=>by rw[a0h (a0x q hH)];exact q,fun b ps q=>⟨#[],by rw[a0h (a0x q hH),q];simp⟩⟩ fun b u q=>?_
 by_cases hb:b=a
 ·subst hb
  rw[a0b] at q;cases q;exact new
 ·rw[a0h hb] at q
  exact(I.hok b u q).stay (fun c v _ r=>k c v r) (fun c r=>by rw[a0h (a0x r hH)];exact r) fun c xs r=>by rw[a0h (a0x r hH)];exact r
end
theorem a7E:∀(us:List Value) (zs:List Str),us.length=zs.length->(∀(j:Nat) (v:Value) (z:Str),us[j]? =some v->zs[j]? =some z->∃t,v=Value.str z t)->StrsAre us zs
 |[],[],_,_=>.nil
 |[],_::_,h,_=>by simp at h
 |_::_,[],h,_=>by simp at h
 |u::us,z::zs,h,f=>by
  obtain⟨t,rfl⟩:=f 0 u z rfl rfl;exact .cons _ _ (a7E us zs (by simpa using h) fun j v y h1 h2=>f (j+1) v y (by simpa using h1) (by simpa using h2))
theorem b0H:∀{kvs:List (Key×V)} {vs:List (Key×Value)} {i:Nat} {q:Key×Value},KV kvs vs->vs[i]? =some q->(kvs.map (·.1))[i]? =some q.1
 |_,_,_,_,.nil,e=>by simp at e
 |_,_,0,_,.cons r _,e=>by
  simp at e;subst e;simp[r.1]
 |_,_,i+1,q,.cons _ t,e=>by
  have h:=b0H (i:=i) (q:=q) t (by simpa using e);simpa using h
section
variable {X:Cx}
theorem a4T (hc:X.calm=true):a1E X (.builtin "sorted") (fun xs H Q=>∃p kvs zs,xs=[.ref p]/\Rd H p (.dK kvs)/\kvs.map (·.1)=zs.map Sum.inr/\zs.length<64/\∀l ys,H l=none->ys.Perm zs->sortedS ys=true->Q (.ref l) (upd H l (.lst (ys.map V.str)))):=by
 intro pins s σ H xs us Q I r h;obtain⟨p,kvs,zs,rfl,hq,hz,h64,q⟩:=h;obtain⟨u,rfl,rx⟩:=a2n r;cases rx;obtain⟨hlen,lo,vs,kv,dd⟩:=hq.ok I.hok;obtain⟨ep,da⟩:=dd.dictAt;have hl:=kv.len;have hl2:kvs.length=zs.length:=by simpa using congrArg List.length hz
 refine Calls.call_function_entry kind_sorted plain_sorted entry_sorted (args_sorted1 _) ?_;unfold Builtin.«sorted»;refine wB0 (m:=checkCount "sorted" 1 1 _) (wP0 ?_);refine wB0 (PySem.W.kdu_collect (PySem.W.kdl_dict (knd:=a0l X.prog X.w) (kvs:=vs) (ep:=ep) lo) (I.ok.hd hc) da (by rw[← hl];exact hlen) fun h' tk acc hk hacc=>?_);have hS:StrsAre acc.toList zs:=by
  refine a7E _ _ (by rw[Array.length_toList,hacc.1,← hl,hl2]) fun j v z h1 h2=>?_;obtain⟨k,x,hx,hkv⟩:=hacc.2 j v (by rw[← Array.getElem?_toList];exact h1);have hk':=b0H kv hx;rw[hz,gM0,h2] at hk';have e:Sum.inr z=k:=by simpa using hk'
  subst e;exact b2S hkv
 have hal:acc.toList.length=zs.length:=by
  rw[Array.length_toList,hacc.1,← hl,hl2]
 refine wB0 (wpAny_newList ?_ (by rw[hal,← hl2];exact hlen));have hoL:(h'.push (seqObj "list" acc.toList.toArray 0)).get? h'.objs.size=some (seqObj "list" acc.toList.toArray 0):=Heap.get?_push_size _ rfl;refine wB0 (wpAny_holding (wpAny_call_entry slot_list_sort ⟨_,hoL,rfl⟩ entry_list_sort (list_sort_treeK (s:={ s with heap:=h'.push (seqObj "list" acc.toList.toArray 0),toks:=tk }) strKind_oneLt hoL hS.keysOf (fun v₁ v₂ rest e=>keyKind_strs (by rw[← e];exact hS)) (by rw[hal];exact h64) fun st' hp hs=>⟨_,rfl,?_⟩) (args_list_sort _)));obtain⟨ss',h1,h2,h3⟩:=sorted_out_str hS hp hs;obtain⟨e,he⟩:=sortedHeap_at (out:=(arrOf st').map (·.2)) hoL;have hn:s.heap.get? h'.objs.size=none:=by
  cases q:s.heap.get? h'.objs.size with
  |none=>rfl
  |some ob=>exact absurd (Heap.lt_size (hk _ _ q)) (Nat.lt_irrefl _)
 refine wP0 ⟨_,rfl,.ref h'.objs.size,_,I.laidAt (t':=tk) (o:=.lst (ss'.map V.str)) (fun b ob q=>?_) hn ?_,rfl,q _ ss' (I.none_at hn) h2 h3⟩
 ·have q':=hk b ob q
  have hlt:=Heap.lt_size q';rw[sortedHeap_old (Nat.ne_of_lt hlt) (by rw[size_push'];exact Nat.lt_succ_of_lt hlt)];exact hP0 _ q'
 ·exact⟨by rw[lM0,h2.length_eq,← hl2];exact hlen,_,e,a5v h1,he⟩
def Ite (K:Fg0)(a:Addr):It:=
 ⟨fun i H=>∃xs x,SqL K H a xs/\xs[i]? =some x,fun i H x H'=>∃y p,(∀xs,SqL K H a xs->xs[i]? =some y)/\x=.ref p/\H p=none/\H'=upd H p (.tup [.int i,y]),fun i H=>∃xs,SqL K H a xs/\xs.length≤i⟩
theorem a8d {P:Program}{w:World}{K:Fg0}{es:List Expr}{x1:Nat}{tp:Pos}(a e it:Addr)(ne:e≠it):a8Y P w K (.Tuple es x1 tp) (Ite K a) [e,it] e (fun i h=>(∃old,IsEnum h e it i old)/\h.IsListIter it a i) where
 mem:=by simp
 obj:=fun i h st b hb=>by
  obtain⟨⟨old,s1⟩,s2⟩:=st;rcases List.mem_cons.mp hb with z |z
  ·subst z
   exact⟨_,s1,fun v z=>by cases z⟩
  ·have z:=List.mem_singleton.mp z
   subst z;obtain⟨o,e,c,d⟩:=s2;exact⟨o,e,fun v z=>by rw[d] at z;cases z⟩
 keep:=fun i h h' st k=>by
  obtain⟨⟨old,s1⟩,s2⟩:=st;exact⟨⟨old,k e (by simp) _ s1⟩,s2.at fun o e=>k it (by simp) o e⟩
 item:=by
  intro X hP hw hK hc i pins s σ H E I hf st hg;subst hP hw hK;obtain⟨⟨old,s1⟩,s2⟩:=st;obtain⟨xs,x,hq,hx⟩:=hg;obtain⟨its,rv,p,hz⟩:=I.list hq;obtain⟨u,hu,ru⟩:=rv.get hx;obtain⟨f0,f1,f2,f3,f4,f5⟩:=hf e (by simp);obtain⟨g0,g1,g2,g3,g4,g5⟩:=hf it (by simp);have le:e<s.heap.objs.size:=Heap.lt_size s1;have li:it<s.heap.objs.size:=by obtain⟨o,e,_⟩:=s2;exact Heap.lt_size e
  refine wpAny_pyNext_enum_item s1 s2 p.isList (x:=u) (by simpa using hu) ne fun h' st' si' ht hsz kp=>?_;refine⟨_,rfl,?_⟩;refine wpAny_letOwnedTupleGo_enum (s:={ s with heap:=h',toks:=s.toks+1 }) st' fun h'' st'' sb=>?_;have si'':h''.IsListIter it a (i+1):=si'.at fun o q=>(sb.2 it (Ne.symm ne)).trans q;obtain⟨oi,ei,ci,di⟩:=id si'';obtain⟨oi0,ei0,_⟩:=id s2;have I0:Inv X pins σ H { s with heap:=s.heap.update e fun _=>{ cls:=.type "enumerate",dict:=none,data:=.fields #[.none,.bool false,.ref it,rawInt ((i:Int)+1),.none,u],slots:=#[] } }:=
   I.turned (t':=s.toks) (fun b ob hb q=>by rw[Heap.get?_update_ne _ _ _ _ hb];exact q) f0 f1 f3 f4 f5
  have I1:Inv X pins σ H { s with heap:=(s.heap.update e fun _=>{ cls:=.type "enumerate",dict:=none,data:=.fields #[.none,.bool false,.ref it,rawInt ((i:Int)+1),.none,u],slots:=#[] }).update it fun _=>oi }:=
   I0.turned (t':=s.toks) (fun b ob hb q=>by rw[Heap.get?_update_ne _ _ _ _ hb];exact q) g0 g1 g3 g4 g5
  have hp:H s.heap.objs.size=none:=I.hok.fresh (Nat.le_refl _);have foi:oi.isFreed=false:=(Heap.get?_some_iff.mp ei).2;refine⟨.ref s.heap.objs.size,upd H s.heap.objs.size (.tup [.int i,x]),I1.laid (t':=s.toks+1) (h':=h'') (fun b ob q=>?_) (by rw[Heap.size_update,Heap.size_update];exact Nat.le_refl _) ?_,rfl,⟨x,_,fun ys hy=>by rw[I.list_inj hy hq];exact hx,rfl,hp,rfl⟩,⟨⟨u,?_⟩,si''⟩,fun b hb=>?_⟩
  ·by_cases hb:b=it
   ·subst hb
    rw[Heap.get?_update_self _ (show(s.heap.update e _).get? b=some oi0 by rw[Heap.get?_update_ne _ _ _ _ (Ne.symm ne)];exact ei0) foi] at q;rw[← q];exact ei
   ·rw[Heap.get?_update_ne _ _ _ _ hb] at q
    by_cases hb2:b=e
    ·subst hb2
     rw[Heap.get?_update_self _ s1 rfl] at q;rw[← q];exact st''
    ·rw[Heap.get?_update_ne _ _ _ _ hb2] at q
     exact(sb.2 b hb2).trans (kp b ob hb2 hb q)
  ·exact⟨(show 2≤sizeLine by decide),[.int i s.toks,u],.cons ⟨_,rfl⟩ (.cons ru .nil),⟨_,(sb.2 _ (Nat.ne_of_gt le)).trans ht,rfl,_,rfl⟩⟩
  ·exact st''
  ·rcases List.mem_cons.mp hb with z |z
   ·subst z
    rw[a0h (Nat.ne_of_lt le)];exact f0
   ·have z:=List.mem_singleton.mp z
    subst z;rw[a0h (Nat.ne_of_lt li)];exact g0
 done:=by
  intro X hP hw hK hc i pins s σ H E I hf st hg;subst hP hw hK;obtain⟨⟨old,s1⟩,s2⟩:=st;obtain⟨xs,hq,hx⟩:=hg;obtain⟨its,rv,p,hz⟩:=I.list hq;obtain⟨g0,g1,g2,g3,g4,g5⟩:=hf it (by simp);have hl:=rv.length;exact wpAny_pyNext_enum_end (I.ok.hd hc) s1 s2 p.isList (by simp;omega) fun h' eb=>⟨rfl,I.turned (t':=s.toks) (fun b o hb e=>eb b o hb e) g0 g1 g3 g4 g5⟩
 self:=fun A i s Q E st h=>by
  obtain⟨⟨old,s1⟩,_⟩:=st;exact wpAny_pyIter_enum s1 h
theorem boot_enum:bootBuiltins "enumerate"=some (.type "enumerate"):=by decide +kernel
def b3C (K:Fg0)(ta:TA):TI:=fun σ H R=>ta σ H fun vs H1=>∃a,vs=[.ref a]/\(∃xs,SqL K H1 a xs)/\R (Ite K a) H1
theorem b0U {es:List Expr}{x1:Nat}{tp:Pos}{l:Expr}{ta:TA}{p pos:Pos}(hg:Gl X "enumerate")(hm:X.mg "enumerate"=none)(ha:PA X [l] ta)(hs:starEach [l] X.env=[(false,eval l X.env)]:=by rfl) :
  PI X (.Tuple es x1 tp) (.Call (.Name "enumerate" p) [l] [] pos) (b3C X.K ta):=by
 intro pins s σ H R I h;refine Call_ (a2c I hg hm boot_enum (PyProof.Rows.callWith_type1 (thn (ha pos pins s σ H _ I h) fun us s1 ⟨vs,H1,I1,r1,q1⟩=>?_) hs rfl));obtain⟨a,e,⟨xs,hq⟩,q⟩:=q1;subst e;obtain⟨u,rfl,rx⟩:=a2n r1;cases rx;obtain⟨its,rv,pl,hz⟩:=I1.list hq;refine call_enumerate_list pl.isList fun h' he hi hsz hk=>?_;have I2:Inv X pins σ H1 { s1 with heap:=h' }:=I1.kept (t':=s1.toks) hk;refine wpAny_pyIter_enum (s:={ s1 with heap:=h' }) he ?_;refine⟨s1.heap.objs.size+1,[s1.heap.objs.size+1,s1.heap.objs.size],_,_,H1,rfl,I2,a8d a _ _ (Nat.succ_ne_self _),⟨⟨_,he⟩,hi⟩,fun b hb=>?_,q⟩;have nb:s1.heap.objs.size≤b:=by
  rcases List.mem_cons.mp hb with z |z
  ·rw[z];exact Nat.le_succ _
  ·rw[List.mem_singleton.mp z];exact Nat.le_refl _
 exact I1.fpOk nb (I1.hok.fresh nb)
def b3U (z:Str):Value->Bool
 | .str a _=>a==z
 |_=>false
theorem a6G {z:Str}:∀{us:List Value} {zs:List Str},StrsAre us zs->us.countP (b3U z)=zs.count z
 |_,_,.nil=>rfl
 |_,_,.cons y t r=>by
  rw[List.countP_cons,a6G r,List.count_cons]
  rfl
theorem a9k:MtR X "list.count" (fun x xs H Q=>∃(p:Addr) (zs:List Str) (z:Str),x=.ref p/\xs=[.str z]/\SqL X.K H p (zs.map V.str)/\Q (.int (zs.count z:Nat)) H):=by
 intro pins s σ H x xs v us Q I rx r h;obtain⟨p,zs,z,rfl,rfl,hq,q⟩:=h;cases rx;obtain⟨u,rfl,t,rfl⟩:=a2n r;obtain⟨its,r',pl,hz⟩:=I.list hq;have hS:=a7B r';obtain⟨⟨c,dd,dt,sl⟩,e,hc,n,hd⟩:=pl.isList;simp only at hc hd;subst hc hd;refine call_meets F.slot_list_count ⟨_,e,rfl⟩ F.entry_list_count (F.args_list_count_2 _ _) (SeqAt.list_countAt p its.toArray n dd sl (.str z t) (b3U z)) ⟨e,fun y hy=>?_,?_⟩
 ·obtain⟨a,ta,rfl⟩:=hS.all y (by simpa using hy)
  exact SeqAt.EqAt.str_str a ta z t
 ·refine⟨.int (zs.count z:Nat),H,I.tok _,⟨s.toks,?_⟩,q⟩
  show Value.int (its.toArray.toList.countP (b3U z):Nat) s.toks=Value.int (zs.count z:Nat) s.toks;rw[List.toList_toArray,a6G hS]
theorem a4q:∀{us:List Value} {zs:List Str} {j:Nat},StrsAre us zs->(h:j<us.length)->∃a t,us[j]=.str a t/\zs[j]? =some a
 |_,_,_,.nil,h=>by simp at h
 |_,_,0,.cons y t _,_=>⟨y,t,rfl,rfl⟩
 |_,_,j+1,.cons y t r,h=>by
  obtain⟨a,t',h1,h2⟩:=a4q (j:=j) r (by simpa using h);exact⟨a,t',by simpa using h1,by simpa using h2⟩
end
end L2
namespace Srt
open PySem PySem.W PyProof.Rows
structure Ord (N:Nat) (r:Nat->Nat->Bool):Prop where
 asym:∀a b,a<N->b<N->r a b=true->r b a=false
 trans:∀a b c,a<N->b<N->c<N->r b a=false->r c b=false->r c a=false
 dist:∀a b,a<N->b<N->a≠b->r a b=true\/r b a=true
def Cmp (N:Nat)(r:Nat->Nat->Bool)(cmp:Nat->Nat->(Bool->Shared->Prop)->Shared->Prop)(P:Shared->Prop):Prop:=
 ∀(i j:Nat) (C:Bool->Shared->Prop) (s:Shared),i<N->j<N->i≠j->P s->(∀s',P s'->C (r i j) s')->cmp i j C s
def PN (N:Nat)(p:Array Nat):Prop:=p.toList.Perm (List.range N)
def Up (r:Nat->Nat->Bool)(p:Array Nat)(k:Nat):Prop:=∀i j,i≤j->j<k->r (p.getD j 0) (p.getD i 0)=false
def Dn (r:Nat->Nat->Bool)(p:Array Nat)(k:Nat):Prop:=∀i j,i≤j->j<k->r (p.getD i 0) (p.getD j 0)=false
section
variable {N:Nat}{r:Nat->Nat->Bool}{cmp:Nat->Nat->(Bool->Shared->Prop)->Shared->Prop}{P:Shared->Prop}{p:Array Nat}
theorem Ord.refl (O:Ord N r){a:Nat}(h:a<N):r a a=false:=by
 cases e:r a a with
 |false=>rfl
 |true=>exact(O.asym a a h h e).symm.trans e |>.symm
theorem PN.size (h:PN N p):p.size=N:=by
 have:=h.length_eq
 simpa using this
theorem a1W {i:Nat}(hi:i<p.size):p.getD i 0=p[i]:=by simp[Array.getD,hi]
theorem PN.lt (h:PN N p){i:Nat}(hi:i<N):p.getD i 0<N:=by
 have hs:=h.size;rw[a1W (by omega)]
 have:p[i]'(by omega)∈p.toList:=by simp
 exact List.mem_range.mp (h.mem_iff.mp this)
theorem PN.inj (h:PN N p){i j:Nat}(hi:i<N)(hj:j<N)(e:p.getD i 0=p.getD j 0):i=j:=by
 have hs:=h.size;rw[a1W (by omega),a1W (by omega)] at e;have nd:p.toList.Nodup:=h.nodup_iff.mpr List.nodup_range;rcases Nat.lt_trichotomy i j with h1 |h1 |h1
 ·exact absurd (show p.toList[i]'(by simp;omega)=p.toList[j]'(by simp;omega) by rw[Array.getElem_toList,Array.getElem_toList];exact e) (List.pairwise_iff_getElem.mp nd i j (by simp;omega) (by simp;omega) h1)
 ·exact h1
 ·exact absurd (show p.toList[j]'(by simp;omega)=p.toList[i]'(by simp;omega) by rw[Array.getElem_toList,Array.getElem_toList];exact e.symm) (List.pairwise_iff_getElem.mp nd j i (by simp;omega) (by simp;omega) h1)
theorem asc (O:Ord N r)(hc:Cmp N r cmp P)(hp:PN N p):∀(f n:Nat) (s:Shared) (Q:Nat->Shared->Prop),1≤n->n+f≤N->Up r p n->P s →
  (∀m s',n≤m->m≤n+f->(m=n+f\/r (p.getD m 0) (p.getD (m-1) 0)=true)->Up r p m->P s'->Q m s')->(kas_asc p f n).kasWp cmp Q s
 |0,n,s,Q,h1,hn,hu,hP,hq=>hq n s (Nat.le_refl _) (Nat.le_refl _) (.inl rfl) hu hP
 |f+1,n,s,Q,h1,hn,hu,hP,hq=>by
  show cmp _ _ _ s;refine hc _ _ _ s (hp.lt (by omega)) (hp.lt (by omega)) (fun z=>by have:=hp.inj (by omega) (by omega) z;omega) hP fun s' hs'=>?_;cases e:r (p.getD n 0) (p.getD (n-1) 0) with
  |true=>
   dsimp only
   rw[if_pos rfl];exact hq n s' (Nat.le_refl _) (by omega) (.inr e) hu hs'
  |false=>
   dsimp only
   rw[if_neg (by decide)];refine asc O hc hp f (n+1) s' Q (by omega) (by omega) (fun i j hij hj=>?_) hs' fun m s'' h2 h3 h4 h5 h6=>hq m s'' (by omega) (by omega) (h4.imp (fun z=>by omega) id) h5 h6
   by_cases hjn:j<n
   ·exact hu i j hij hjn
   ·have ej:j=n:=by omega
    subst ej
    by_cases hi:i=j
    ·subst hi
     exact O.refl (hp.lt (by omega))
    ·exact O.trans _ _ _ (hp.lt (by omega)) (hp.lt (by omega)) (hp.lt (by omega)) (hu i (j-1) (by omega) (by omega)) e
theorem b5C (O:Ord N r)(hc:Cmp N r cmp P)(hp:PN N p):∀(f n:Nat) (s:Shared) (Q:Array Nat×Nat×Nat->Shared->Prop),1≤n->n+f≤N->Dn r p n->P s →
  (∀m s',n≤m->m≤n+f->Dn r p m->P s'->Q (p,m,0) s')->(kas_desc f p n 0).kasWp cmp Q s
 |0,n,s,Q,h1,hn,hu,hP,hq=>hq n s (Nat.le_refl _) (Nat.le_refl _) hu hP
 |f+1,n,s,Q,h1,hn,hu,hP,hq=>by
  show cmp _ _ _ s;refine hc _ _ _ s (hp.lt (by omega)) (hp.lt (by omega)) (fun z=>by have:=hp.inj (by omega) (by omega) z;omega) hP fun s' hs'=>?_;cases e:r (p.getD n 0) (p.getD (n-1) 0) with
  |true=>
   dsimp only
   rw[if_pos rfl,if_neg (by omega)];refine b5C O hc hp f (n+1) s' Q (by omega) (by omega) (fun i j hij hj=>?_) hs' fun m s'' h2 h3 h5 h6=>hq m s'' (by omega) (by omega) h5 h6
   by_cases hjn:j<n
   ·exact hu i j hij hjn
   ·have ej:j=n:=by omega
    subst ej
    by_cases hi:i=j
    ·subst hi
     exact O.refl (hp.lt (by omega))
    ·exact O.trans _ _ _ (hp.lt (by omega)) (hp.lt (by omega)) (hp.lt (by omega)) (O.asym _ _ (hp.lt (by omega)) (hp.lt (by omega)) e) (hu i (j-1) (by omega) (by omega))
  |false=>
   dsimp only
   rw[if_neg (by decide)];show cmp _ _ _ s';refine hc _ _ _ s' (hp.lt (by omega)) (hp.lt (by omega)) (fun z=>by have:=hp.inj (by omega) (by omega) z;omega) hs' fun s'' hs''=>?_;have hd:r (p.getD (n-1) 0) (p.getD n 0)=true:=by
    rcases O.dist _ _ (hp.lt (i:=n-1) (by omega)) (hp.lt (i:=n) (by omega)) (fun z=>by have:=hp.inj (by omega) (by omega) z;omega) with h |h
    ·exact h
    ·rw[e] at h;cases h
   dsimp only
   rw[hd,if_pos rfl];exact hq n s'' (Nat.le_refl _) (by omega) hu hs''
theorem b0v {i j:Nat}(hj:j≤p.size)(k:Nat):(kas_rev p i j).getD k 0=if i≤k/\k<j then p.getD (i+j-1-k) 0 else p.getD k 0:=by
 have h:=getElem?_mirror_all (xs:=p) (i:=i) (j:=j) hj k;unfold kas_rev;rw[Array.getD_eq_getD_getElem?,h]
 split<;>rw[Array.getD_eq_getD_getElem?]
theorem b0G {i j:Nat}(h:PN N p):PN N (kas_rev p i j):=(Array.perm_iff_toList_perm.mp (mirror_perm p i j _)).trans h
theorem b4O (O:Ord N r)(hc:Cmp N r cmp P)(hp:PN N p){n:Nat}{s:Shared}{Q:Nat×Array Nat->Shared->Prop}(h1:1≤n)(hn:n≤N)(hd:Dn r p n)(hP:P s)
  (hq:∀m p' s',n≤m->m≤N->PN N p'->Up r p' m->P s'->Q (m,p') s'):(kas_tail3 n N p).kasWp cmp Q s:=by
 unfold kas_tail3;rw[KasT.kasWp_bind];have hs:=hp.size;refine asc O hc (b0G hp) (N-n) n s _ h1 (by omega) (fun i j hij hj=>?_) hP fun m s' h2 h3 _ h5 h6=>hq m _ s' h2 (by omega) (b0G hp) h5 h6;rw[b0v (by omega),b0v (by omega),if_pos (by omega),if_pos (by omega)];exact hd _ _ (by omega) (by omega)
theorem b4X (O:Ord N r)(hc:Cmp N r cmp P)(hp:PN N p){s:Shared}{Q:Nat×Array Nat->Shared->Prop}(h1:1≤N)(hP:P s)
  (hq:∀m p' s',1≤m->m≤N->PN N p'->Up r p' m->P s'->Q (m,p') s'):(kas_count N p).kasWp cmp Q s:=by
 unfold kas_count;rw[KasT.kasWp_bind];refine asc O hc hp (N-1) 1 s _ (Nat.le_refl _) (by omega) (fun i j hij hj=>?_) hP fun m s' h2 h3 h4 h5 h6=>?_
 ·have ei:i=0:=by omega
  have ej:j=0:=by omega
  subst ei ej;exact O.refl (hp.lt (by omega))
 ·by_cases hm:m=N
  ·rw[if_pos (by rw[hm];exact beq_self_eq_true N)]
   exact hq m p s' h2 (by omega) hp h5 h6
  ·rw[if_neg (by rw[beq_iff_eq];exact hm)]
   have hr:r (p.getD m 0) (p.getD (m-1) 0)=true:=h4.resolve_left (by omega)
   by_cases hm1:m > 1
   ·rw[if_pos hm1]
    show cmp _ _ _ s';refine hc _ _ _ s' (hp.lt (by omega)) (hp.lt (by omega)) (fun z=>by have:=hp.inj (by omega) (by omega) z;omega) h6 fun s'' hs''=>?_;have hd:r (p.getD 0 0) (p.getD (m-1) 0)=true:=by
     rcases O.dist _ _ (hp.lt (i:=0) (by omega)) (hp.lt (i:=m-1) (by omega)) (fun z=>by have:=hp.inj (by omega) (by omega) z;omega) with h |h
     ·exact h
     ·rw[h5 0 (m-1) (by omega) (by omega)] at h;cases h
    dsimp only
    rw[hd,if_pos rfl];exact hq m p s'' h2 (by omega) hp h5 hs''
   ·rw[if_neg hm1]
    have em:m=1:=by omega
    subst em;unfold kas_descPart;rw[KasT.kasWp_bind];refine b5C O hc hp (N-(1+1)) (1+1) s' _ (by omega) (by omega) (fun i j hij hj=>?_) h6 fun m s'' g2 g3 g5 g6=>?_
    ·by_cases hi:i=j
     ·subst hi
      exact O.refl (hp.lt (by omega))
     ·have ei:i=0:=by omega
      have ej:j=1:=by omega
      subst ei ej;exact O.asym _ _ (hp.lt (by omega)) (hp.lt (by omega)) hr
    ·rw[if_neg (by show ¬(0 > 0);omega)]
     exact b4O O hc hp (by show 1≤m;omega) (by show m≤N;omega) g5 g6 fun m' p' s3 a1 a2 a3 a4 a5=>hq m' p' s3 (by have:m≤m':=a1;omega) a2 a3 a4 a5
theorem place (O:Ord N r)(hc:Cmp N r cmp P)(hp:PN N p){k:Nat}(hk:k<N)(hu:Up r p k):∀(f l q:Nat) (s:Shared) (Q:Nat->Shared->Prop),l≤q->q≤k->q-l≤f->(∀i,i<l->r (p.getD k 0) (p.getD i 0)=false) →
  (∀i,q≤i->i<k->r (p.getD k 0) (p.getD i 0)=true)->P s →
  (∀m s',m≤k->(∀i,i<m->r (p.getD k 0) (p.getD i 0)=false)->(∀i,m≤i->i<k->r (p.getD k 0) (p.getD i 0)=true)->P s'->Q m s')->(kas_place p k f l q).kasWp cmp Q s
 |0,l,q,s,Q,hl,hq,hf,lo,hi,hP,h=>h l s (by omega) lo (fun i h1 h2=>hi i (by omega) h2) hP
 |f+1,l,q,s,Q,hl,hq,hf,lo,hi,hP,h=>by
  unfold kas_place
  by_cases e:l≥q
  ·rw[if_pos e]
   exact h l s (by omega) lo (fun i h1 h2=>hi i (by omega) h2) hP
  ·rw[if_neg e]
   show cmp _ _ _ s;have hm:(l+q)/2<q:=by omega
   have hm2:l≤(l+q)/2:=by omega
   refine hc _ _ _ s (hp.lt (by omega)) (hp.lt (by omega)) (fun z=>by have:=hp.inj (by omega) (by omega) z;omega) hP fun s' hs'=>?_;cases c:r (p.getD k 0) (p.getD ((l+q)/2) 0) with
   |true=>
    dsimp only
    rw[if_pos rfl];refine place O hc hp hk hu f l ((l+q)/2) s' Q (by omega) (by omega) (by omega) lo (fun i h1 h2=>?_) hs' h;cases d:r (p.getD k 0) (p.getD i 0) with
    |true=>rfl
    |false=>
     have:=O.trans _ _ _ (hp.lt (i:=(l+q)/2) (by omega)) (hp.lt (i:=i) (by omega)) (hp.lt (i:=k) (by omega)) (hu _ i h1 h2) d
     rw[this] at c;cases c
   |false=>
    dsimp only
    rw[if_neg (by decide)];refine place O hc hp hk hu f ((l+q)/2+1) q s' Q (by omega) (by omega) (by omega) (fun i h1=>?_) hi hs' h;exact O.trans _ _ _ (hp.lt (by omega)) (hp.lt (by omega)) (hp.lt (by omega)) (hu i ((l+q)/2) (by omega) (by omega)) c
theorem b0s {src d:Nat}(hs:src<p.size)(hd:d≤src)(k:Nat):(bubble p src d).getD k 0=if k=src-d then p.getD src 0 else if src-d<k/\k≤src then p.getD (k-1) 0 else p.getD k 0:=by
 have h:=getElem?_bubble hs d hd k;rw[Array.getD_eq_getD_getElem?,h,Array.getD_eq_getD_getElem?,Array.getD_eq_getD_getElem?,Array.getD_eq_getD_getElem?]
 by_cases e1:k=src-d
 ·rw[if_pos e1,if_pos e1]
 ·rw[if_neg e1,if_neg e1]
  by_cases e2:src-d<k/\k≤src
  ·rw[if_pos e2,if_pos e2]
  ·rw[if_neg e2,if_neg e2]
theorem bin (O:Ord N r)(hc:Cmp N r cmp P):∀(f:Nat) (p:Array Nat) (k:Nat) (s:Shared) (Q:Array Nat->Shared->Prop),PN N p->k+f=N->Up r p k->P s →
  (∀p' s',PN N p'->Up r p' N->P s'->Q p' s')->(kas_bin f p k).kasWp cmp Q s
 |0,p,k,s,Q,hp,hk,hu,hP,h=>h p s hp ((show k=N from hk)▸hu) hP
 |f+1,p,k,s,Q,hp,hk,hu,hP,h=>by
  unfold kas_bin;rw[KasT.kasWp_bind];have hs:=hp.size;refine place O hc hp (k:=k) (by omega) hu k 0 k s _ (Nat.zero_le _) (Nat.le_refl _) (by omega) (fun i hi=>absurd hi (Nat.not_lt_zero _)) (fun i h1 h2=>absurd h2 (by omega)) hP fun m s' h1 lo hi hs'=>?_;refine bin O hc f _ (k+1) s' Q ((Array.perm_iff_toList_perm.mp (bubble_perm p k _)).trans hp) (by omega) (fun i j hij hj=>?_) hs' h;rw[b0s (by omega) (by omega),b0s (by omega) (by omega)];have e:k-(k-m)=m:=by omega
  rw[e];have hi':∀i,m≤i->i<k->r (p.getD i 0) (p.getD k 0)=false:=fun i a b=>O.asym _ _ (hp.lt (by omega)) (hp.lt (by omega)) (hi i a b)
  by_cases ej:j=m
  ·rw[if_pos ej]
   by_cases ei:i=m
   ·rw[if_pos ei]
    exact O.refl (hp.lt (by omega))
   ·rw[if_neg ei,if_neg (by omega)]
    exact lo i (by omega)
  ·rw[if_neg ej]
   by_cases ei:i=m
   ·rw[if_pos ei,if_pos (by omega)]
    exact hi' (j-1) (by omega) (by omega)
   ·rw[if_neg ei]
    by_cases bj:m<j/\j≤k
    ·rw[if_pos bj]
     by_cases bi:m<i/\i≤k
     ·rw[if_pos bi]
      exact hu _ _ (by omega) (by omega)
     ·rw[if_neg bi]
      exact hu _ _ (by omega) (by omega)
    ·rw[if_neg bj,if_neg (by omega)]
     exact hu _ _ hij (by omega)
theorem b5l (O:Ord N r)(hc:Cmp N r cmp P){s:Shared}{Q:Array Nat->Shared->Prop}(h1:1≤N)(hP:P s)(h:∀p' s',PN N p'->Up r p' N->P s'->Q p' s'):(kas_sort N).kasWp cmp Q s:=by
 unfold kas_sort;rw[KasT.kasWp_bind];refine b4X O hc (by unfold PN;simp) h1 hP fun m p' s' a1 a2 a3 a4 a5=>?_
 show(if m<N then kas_bin (N-max m 1) p' (max m 1) else .ret p').kasWp cmp Q s'
 have em:max m 1=m:=by omega
 rw[em]
 by_cases hm:m<N
 ·rw[if_pos hm]
  exact bin O hc _ p' m s' Q a3 (by omega) a4 a5 h
 ·rw[if_neg hm]
  have:m=N:=by omega
  subst this;exact h p' s' a3 a4 a5
end
def TA1 (h:Heap)(vs:List Value)(zs:List Str):Prop:=vs.length=zs.length/\∀(i:Nat) (z:Str),zs[i]? =some z->∃a o t rest n,vs[i]? =some (.ref a)/\h.get? a=some o/\o.cls=.type "tuple"/\o.data=.seq (Value.str z t::rest).toArray n
def rz (zs:List Str)(i j:Nat):Bool:=decide ((zs.getD i "").cps.toList<(zs.getD j "").cps.toList)
theorem a5K {a b:Str}(h:a.cps.toList=b.cps.toList):a=b:=by
 cases a;cases b;simp at h;rw[h]
theorem b3l {zs:List Str}(nd:zs.Nodup):Ord zs.length (rz zs) where
 asym:=fun a b _ _ h=>by
  unfold rz at h ⊢;rw[decide_eq_true_iff] at h;rw[decide_eq_false_iff_not];exact List.lt_asymm h
 trans:=fun a b c _ _ _ h1 h2=>by
  unfold rz at h1 h2 ⊢;rw[decide_eq_false_iff_not] at h1 h2 ⊢;rw[List.not_lt] at h1 h2 ⊢;exact List.le_trans h1 h2
 dist:=fun a b ha hb n=>by
  unfold rz;rw[decide_eq_true_iff,decide_eq_true_iff];apply Classical.byContradiction;intro h;rw[not_or,List.not_lt,List.not_lt] at h;have e:=a5K (List.le_antisymm h.2 h.1);simp only[List.getD_eq_getElem?_getD,gE0 ha,gE0 hb,Option.getD_some] at e;rcases Nat.lt_trichotomy a b with q |q |q
  ·exact List.pairwise_iff_getElem.mp nd a b ha hb q e
  ·exact n q
  ·exact List.pairwise_iff_getElem.mp nd b a hb ha q e.symm
theorem TA1.keep {h h':Heap}{vs:List Value}{zs:List Str}(t:TA1 h vs zs)(k:∀b o,o.cls=.type "tuple"->h.get? b=some o->h'.get? b=some o):TA1 h' vs zs:=
 ⟨t.1,fun i z e=>by
  obtain⟨a,o,tk,rest,n,h1,h2,h3,h4⟩:=t.2 i z e;exact⟨a,o,tk,rest,n,h1,k a o h3 h2,h3,h4⟩⟩
theorem TA1.kat {h:Heap}:∀{vs:List Value} {zs:List Str},TA1 h vs zs->∃fs,KatTups h vs fs/\fs.length=zs.length/\∀v∈fs,∃z t,v=Value.str z t
 |[],[],_=>⟨[],KatTups.nil,rfl,fun v hv=>by simp at hv⟩
 |[],_::_,t=>by have:=t.1;simp at this
 |_::_,[],t=>by have:=t.1;simp at this
 |v::vs,z::zs,t=>by
  obtain⟨a,o,tk,rest,n,h1,h2,h3,h4⟩:=t.2 0 z rfl;have ev:v=.ref a:=by simpa using h1
  subst ev;obtain⟨fs,k,hl,hs⟩:=TA1.kat (vs:=vs) (zs:=zs) ⟨by have:=t.1;simpa using this,fun i y e=>by
   obtain⟨a,o,tk,rest,n,g1,g2⟩:=t.2 (i+1) y (by simpa using e);exact⟨a,o,tk,rest,n,by simpa using g1,g2⟩⟩
  refine⟨.str z tk::fs,KatTups.cons h2 h3 h4 (by simp) k,by simp[hl],fun w hw=>?_⟩;rcases List.mem_cons.mp hw with e |hw
  ·exact⟨z,tk,e⟩
  ·exact hs w hw
section
variable {prog:Program}{w:World}{A:Around}{E:Value->Shared->Prop}{s:Shared}
theorem b4m {vs:List Value}{zs:List Str}{s1:Shared}(t:TA1 s1.heap vs zs)(nd:zs.Nodup):Cmp zs.length (rz zs) (kas_ask prog w A (tuples' true) vs) (fun s'=>s'=s1):=by
 intro i j C s' hi hj hij hs' hC;subst hs';obtain⟨a,o,tk,rest,n,h1,h2,h3,h4⟩:=t.2 i zs[i] (by simp[hi]);obtain⟨b,o',tk',rest',n',g1,g2,g3,g4⟩:=t.2 j zs[j] (by simp[hj]);unfold kas_ask;have e1:vs.getD i Value.none=.ref a:=by rw[List.getD_eq_getElem?_getD,h1];rfl
 have e2:vs.getD j Value.none=.ref b:=by rw[List.getD_eq_getElem?_getD,g1];rfl
 rw[e1,e2];refine kat_lt h2 h4 g2 g4 ?_;have ez:(Value.str zs[i] tk::rest).toArray.toList.zip (Value.str zs[j] tk'::rest').toArray.toList=(Value.str zs[i] tk,Value.str zs[j] tk')::rest.zip rest':=by simp
 rw[ez];refine kat_cons (wpAny_eqBool_str ?_);have en:decide (zs[i]=zs[j])=false:=by
  rw[decide_eq_false_iff_not];intro e;rcases Nat.lt_trichotomy i j with q |q |q
  ·exact List.pairwise_iff_getElem.mp nd i j hi hj q e
  ·exact hij q
  ·exact List.pairwise_iff_getElem.mp nd j i hj hi q e.symm
 rw[en];refine kat_no (oneLt_str ?_);have er:rz zs i j=decide (zs[i].cps.toList<zs[j].cps.toList):=by
  unfold rz;simp only[List.getD_eq_getElem?_getD,gE0 hi,gE0 hj,Option.getD_some]
 rw[← er];exact hC s' rfl
theorem a3Z {a:Addr}{vs:List Value}{zs:List Str}{n:Nat}{P:PySem.Fin->Shared->Prop}(ho:s.heap.get? a=some (seqObj "list" vs.toArray n))(t:TA1 s.heap vs zs)(nd:zs.Nodup)(h64:vs.length<64)
  (h:∀(p:Array Nat),PN vs.length p->Up (rz zs) p vs.length->P (.done (.ret .none)) { s with heap:=sortedHeap s.heap a vs (List.toArray (p.toList.map fun i=>vs.getD i Value.none)) }) :
  wpAny (model prog w) A (Builtin.«list.sort» ⟨[.ref a],[]⟩) P E s:=by
 rw[list_sort_plain];have ha:a<s.heap.objs.size:=Heap.lt_size ho;refine wB0 (listItems_at ho rfl ?_);refine wB0 (listUpdate_at ho rfl ?_ (by rw[List.size_toArray,sizeLine_eq];omega) (Nat.zero_le _));obtain⟨e1,ho1⟩:∃e1,(s.heap.update a (Obj.mapSeq fun _=>(#[]:Array Value))).get? a=some (seqObj "list" #[] e1):=⟨_,get?_update_seq ho (fun _=>#[])⟩;refine wB0 (seqEpoch_at ho1 rfl ?_);refine wB0 (wpAny_newTuple ?_ (by show vs.length≤_;rw[sizeLine_eq];omega));refine wB0 (wpAny_newList ?_ (Nat.zero_le _));refine wpAny_holding ?_;have ho6:(((s.heap.update a (Obj.mapSeq fun _=>(#[]:Array Value))).push (seqObj "tuple" vs.toArray 0)).push (seqObj "list" #[] 0)).get? a=some (seqObj "list" #[] e1):=by
  rw[Heap.get?_push_ne _ _ _ (by rw[size_push',Heap.size_update];exact Nat.ne_of_lt (Nat.lt_succ_of_lt ha)),Heap.get?_push_ne _ _ _ (by rw[Heap.size_update];exact Nat.ne_of_lt ha)];exact ho1
 have tk:TA1 (((s.heap.update a (Obj.mapSeq fun _=>(#[]:Array Value))).push (seqObj "tuple" vs.toArray 0)).push (seqObj "list" #[] 0)) vs zs:=t.keep fun b o hc e=>by
  have nb:b≠a:=fun z=>by
   rw[z,ho] at e;have e':=Option.some.inj e;rw[← e'] at hc;exact absurd (show Value.type "list"=Value.type "tuple" from hc) (by decide)
  exact hP0 _ (hP0 _ ((Heap.get?_update_ne _ _ _ _ nb).trans e))
 show wpAny (model prog w) A _ P E { s with heap:=((s.heap.update a (Obj.mapSeq fun _=>(#[]:Array Value))).push (seqObj "tuple" vs.toArray 0)).push (seqObj "list" #[] 0) }
 dsimp only
 have hsz:vs.toArray.size=vs.length:=by simp
 by_cases h2:vs.toArray.size<2
 ·rw[if_pos h2,if_pos h2]
  refine wB0 (wP0 ?_);rw[StateT.run_pure];refine wB0 (wP0 ?_)
  dsimp only
  have hout:=kat_snds (vs:=vs) (ks:=vs) rfl (st:=SortSt.mk' general' (vs.toArray.zip vs.toArray) #[] 7 none) (p:=List.toArray (List.range vs.length)) (by
   have e:=kas_range (vs.toArray.zip vs.toArray);rw[show(vs.toArray.zip vs.toArray).size=vs.length by simp] at e;exact e.symm)
  rw[hout];refine wB0 (seqEpoch_at ho6 rfl ?_);refine wB0 (listUpdate_at ho6 rfl ?_ (Nat.zero_le _) (by rw[List.size_toArray,lM0,List.length_range,sizeLine_eq];omega));simp only[bne_self_eq_false,Bool.false_eq_true,if_false];refine wP0 (h (List.toArray (List.range vs.length)) (by unfold PN;simp) fun i j hij hj=>?_);have ei:i=0:=by omega
  have ej:j=0:=by omega
  subst ei ej;unfold rz;rw[decide_eq_false_iff_not];exact List.lt_irrefl _
 ·have hn2:2≤vs.length:=by omega
  rw[if_neg h2,if_neg h2];obtain⟨fs,kt,hl,hs⟩:=tk.kat;refine wB0 (kat_kind (T:=.type "str") kt (by have:=t.1;omega) (fun v hv=>?_) rfl ?_)
  ·obtain⟨z,u,rfl⟩:=hs v hv
   exact PySem.W.Looks.of_pure rfl
  ·refine wB0 (wpAny_mono (kat_run (prog:=prog) (w:=w) (A:=A) (E:=E) (κ:=tuples' true) (ks:=vs) (vs:=vs) (s:={ s with heap:=((s.heap.update a (Obj.mapSeq fun _=>(#[]:Array Value))).push (seqObj "tuple" vs.toArray 0)).push (seqObj "list" #[] 0) })
    (Q:=fun st' s'=>∃p:Array Nat,p.size=vs.length/\arrOf st'=p.map (kas_item (vs.toArray.zip vs.toArray))/\failedOf st'=none/\PN vs.length p/\Up (rz zs) p vs.length/\s'={ s with heap:=((s.heap.update a (Obj.mapSeq fun _=>(#[]:Array Value))).push (seqObj "tuple" vs.toArray 0)).push (seqObj "list" #[] 0) })
    (G:=fun p s'=>PN vs.length p/\Up (rz zs) p vs.length/\s'={ s with heap:=((s.heap.update a (Obj.mapSeq fun _=>(#[]:Array Value))).push (seqObj "tuple" vs.toArray 0)).push (seqObj "list" #[] 0) })
    rfl hn2 h64 (fun p' st' s' a1 a2 a3 a4=>⟨p',a1,a2,a3,a4⟩) ?_) ?_ fun _ _ e=>e)
   ·have el:=t.1
    rw[el];exact b5l (b3l nd) (b4m (s1:={ s with heap:=((s.heap.update a (Obj.mapSeq fun _=>(#[]:Array Value))).push (seqObj "tuple" vs.toArray 0)).push (seqObj "list" #[] 0) }) tk nd) (by omega) rfl fun p' s' b1 b2 b3=>⟨b1,b2,b3⟩
   ·rintro⟨⟨⟩,st'⟩ s' ⟨p,hp,har,hf,pn,up,rfl⟩
    dsimp only
    have hout:=kat_snds (vs:=vs) (ks:=vs) rfl har;rw[hout];refine wB0 (seqEpoch_at ho6 rfl ?_);refine wB0 (listUpdate_at ho6 rfl ?_ (Nat.zero_le _) (by rw[List.size_toArray,lM0,Array.length_toList,hp,sizeLine_eq];omega));rw[hf];simp only[bne_self_eq_false,Bool.false_eq_true,if_false];exact wP0 (h p pn up)
theorem a6O {l:Addr}{vs:List Value}{zs:List Str}{Q:Value->Shared->Prop}(hl:s.heap.IsList l vs.toArray)(t:TA1 s.heap vs zs)(nd:zs.Nodup)(h64:vs.length<64)
  (h:∀(p:Array Nat),PN vs.length p->Up (rz zs) p vs.length->Q (.ref (s.heap.objs.size+1)) { s with heap:=sortedAll s.heap vs (List.toArray (p.toList.map fun i=>vs.getD i Value.none)) }) :
  wpAny (model prog w) A (call (.builtin "sorted") [.ref l]) Q E s:=by
 refine Calls.call_function_entry kind_sorted plain_sorted entry_sorted (args_sorted1 _) ?_;unfold Builtin.«sorted»;refine wB0 (m:=checkCount "sorted" 1 1 _) (wP0 ?_);refine wB0 (collect_list hl ?_ (by rw[sizeLine_eq];omega));refine wB0 (wpAny_newList ?_ (by rw[sizeLine_eq];omega));have hsz:((s.heap.push (seqObj "list" #[] 0)).update s.heap.objs.size (Obj.mapSeq (·++vs.toArray))).objs.size=s.heap.objs.size+1:=by
  rw[Heap.size_update,size_push']
 have hoL:(((s.heap.push (seqObj "list" #[] 0)).update s.heap.objs.size (Obj.mapSeq (·++vs.toArray))).push (seqObj "list" vs.toArray 0)).get? (s.heap.objs.size+1)=some (seqObj "list" vs.toArray 0):=by
  rw[← hsz];exact Heap.get?_push_size _ rfl
 have keep:∀b o,s.heap.get? b=some o->(((s.heap.push (seqObj "list" #[] 0)).update s.heap.objs.size (Obj.mapSeq (·++vs.toArray))).push (seqObj "list" vs.toArray 0)).get? b=some o:=fun b o q=>by
  have hlt:b<s.heap.objs.size:=Heap.lt_size q;rw[Heap.get?_push_ne _ _ _ (by rw[hsz];exact Nat.ne_of_lt (Nat.lt_succ_of_lt hlt)),Heap.get?_update_ne _ _ _ _ (Nat.ne_of_lt hlt),Heap.get?_push_ne _ _ _ (Nat.ne_of_lt hlt)];exact q
 show wpAny _ _ _ _ _ { s with heap:=((s.heap.push (seqObj "list" #[] 0)).update s.heap.objs.size (Obj.mapSeq (·++vs.toArray))).push (seqObj "list" vs.toArray 0) };rw[hsz];refine wB0 (wpAny_holding (wpAny_call_entry slot_list_sort ⟨_,hoL,rfl⟩ entry_list_sort (a3Z (zs:=zs) hoL (t.keep fun b o _ e=>keep b o e) nd h64 fun p a1 a2=>⟨_,rfl,?_⟩) (args_list_sort _)));exact wP0 ⟨_,rfl,h p a1 a2⟩
end
end Srt
namespace L2
open PySem PySem.Spec PyProof.Rows
theorem a4r {xs:List V}{us:List Value}(r:a1m xs us):∀(q:List Nat),(∀i∈q,i<xs.length)->a1m (q.map fun i=>xs.getD i .non) (q.map fun i=>us.getD i Value.none)
 |[],_=>.nil
 |i::q,h=>by
  refine .cons ?_ (a4r r q fun j hj=>h j (List.mem_cons_of_mem _ hj));have hi:=h i List.mem_cons_self;have hu:i<us.length:=by rw[← r.length];exact hi
  obtain⟨u,e,ru⟩:=r.get (i:=i) (x:=xs[i]) (by simp[hi]);simp only[List.getD_eq_getElem?_getD,gE0 hi,e,Option.getD_some];exact ru
def b1B (zs:List Str):Prop:=zs.Pairwise fun a b=>¬b.cps.toList<a.cps.toList
section
variable {X:Cx}
theorem a4M:a1E X (.builtin "sorted") (fun xs H Q=>∃(p:Addr) (as:List Addr) (zs:List Str),xs=[.ref p]/\SqL X.K H p (as.map V.ref)/\as.length=zs.length/\(∀(i:Nat) (a:Addr) (z:Str),as[i]? =some a->zs[i]? =some z->∃rest,SqT X.K H a (.str z::rest))/\zs.Nodup/\as.length<64 ∧
  ∀(l:Addr) (ix:List Nat),H l=none->ix.Perm (List.range as.length)->b1B (ix.map fun i=>zs.getD i "")->Q (.ref l) (upd H l (.lst ((ix.map fun i=>as.getD i 0).map V.ref)))):=by
 intro pins s σ H xs us Q I r h;obtain⟨p,as,zs,rfl,hq,hlen,ht,nd,h64,q⟩:=h;obtain⟨u,rfl,rx⟩:=a2n r;cases rx;obtain⟨its,r',pl,hz⟩:=I.list hq;have hl:=r'.length;rw[lM0] at hl;have ta:Srt.TA1 s.heap its zs:=⟨by omega,fun i z e=>by
  have hi:i<zs.length:=(gS0.mp e).1;obtain⟨rest,hs⟩:=ht i (as[i]'(by omega)) z (by simp) e;obtain⟨its',r2,⟨o,ho,hc,n,hd⟩,_⟩:=I.tuple hs;cases r2 with
  |cons r3 r4=>
   obtain⟨t,rfl⟩:=r3;obtain⟨v,hv,rv⟩:=r'.get (i:=i) (x:=.ref (as[i]'(by omega))) (by simp);cases rv;exact⟨_,o,t,_,n,hv,ho,hc,hd⟩⟩
 refine Srt.a6O pl.isList ta nd (by omega) fun p' pn up=>?_;obtain⟨e,he⟩:=sortedAll_at s.heap its (List.toArray (p'.toList.map fun i=>its.getD i Value.none));have hs:=pn.size;have lt:∀i∈p'.toList,i<its.length:=fun i hi=>List.mem_range.mp (pn.mem_iff.mp hi);have ev:(p'.toList.map fun i=>as.getD i 0).map V.ref=p'.toList.map fun i=>(as.map V.ref).getD i .non:=by
  rw[List.map_map];apply List.map_congr_left;intro i hi
  have:=lt i hi
  have h1:i<as.length:=by omega
  simp[List.getD_eq_getElem?_getD,h1]
 refine⟨.ref (s.heap.objs.size+1),_,I.laid (t':=s.toks) (o:=.lst ((p'.toList.map fun i=>as.getD i 0).map V.ref)) (fun b ob e'=>sortedAll_old e') (Nat.le_succ _) ?_,rfl,q _ p'.toList (I.hok.fresh (Nat.le_succ _)) (by rw[hl];exact pn) ?_⟩
 ·refine⟨by rw[lM0,lM0,Array.length_toList,hs,← hl];rw[lM0] at hz;exact hz,_,e,?_,he⟩
  rw[ev];exact a4r r' _ fun i hi=>by rw[lM0];have:=lt i hi;omega
 ·unfold b1B
  rw[List.pairwise_map,List.pairwise_iff_getElem];intro i j hi hj hij;have hi':i<p'.size:=by simpa using hi
  have hj':j<p'.size:=by simpa using hj
  have h0:=up i j (by omega) (by omega);unfold Srt.rz at h0;rw[decide_eq_false_iff_not,Srt.a1W hi',Srt.a1W hj'] at h0;rw[Array.getElem_toList,Array.getElem_toList];exact h0
end
end L2
namespace L2
open PySem PySem.Spec PyProof.Rows PySem.Builtin PySem.Builtin.Dict
theorem a4P (a b:Value):Builtin.«dict.__eq__» ⟨[a,b],[]⟩=(do
  let (self,other) ← dictSlotArgs "__eq__" ⟨[a,b],[]⟩
  if !(← isInstance other (.type "dict")) then rule s!"dict.{("__eq__" : String)}.not-a-dict";return ← ret .notImplemented
  ret (.bool ((← Dict.samePairs s!"dict.{("__eq__" : String)}" (← addrOf self) (← addrOf other))==true))):=rfl
theorem a2A:isSubtype (.type "dict") (.type "dict")=pure true:=by rw[isSubtype_type];kernel_rfl
theorem a3j {P:Program}{w:World}:∀{es:List DictEntry} {kvs:List (Key×Value)},Pairs (a0l P w) es kvs->es.length=kvs.length
 |_,_,.nil=>rfl
 |_,_,.cons _ _ r=>by simp[a3j r]
theorem a9h {prog:Program}{w:World}{A:Around}{E:Value->Shared->Prop}{s:Shared}{d:Addr}{o:Obj}{es:Array DictEntry}{ep j:Nat}{x:Str}{t:Tok}{hs:Int}{Q:Option Nat->Shared->Prop}(ho:s.heap.get? d=some o)(hd:o.data=.dict es ep)
  (hall:∀e∈es,∃z t,e.key=Value.str z t) (hj:es.findIdx? (fun e=>e.key.isStr x)=some j) (h:Q (some j) s):wpAny (model prog w) A (dictFind d (.str x t) hs) Q E s:=by
 obtain⟨hjs,hjt,_⟩:=Array.findIdx?_eq_some_iff_getElem.mp hj;have ha:(es.all fun e=>isExactStrKey e.key)=true:=by
  rw[Array.all_eq_true'];intro e he;obtain⟨z,t,q⟩:=hall e he;rw[q]
  rfl
 obtain⟨z,tz,ez⟩:=hall es[j] (Array.getElem_mem hjs);have zx:z=x:=by
  rw[ez] at hjt;exact eq_of_beq hjt
 subst zx;unfold dictFind;refine wpAny_holding ?_;refine wB0 (wpAny_dictEntries ho hd ?_)
 dsimp only
 rw[if_pos ha];unfold foundByValue;rw[hj]
 dsimp only
 rw[Array.getElem?_eq_getElem hjs]
 dsimp only
 rw[ez];refine wB0 (wpAny_dictEpoch ho hd (wB0 (wpAny_eqBool_str (wB0 (wpAny_dictEpoch ho hd ?_)))));rw[if_neg (by simp),if_pos (by simp)];exact wB0 (wpAny_rule (wP0 h))
end L2
namespace L2
open PySem PySem.Spec PyProof.Rows
theorem a3m:∀{kvs:List (Key×V)} {vs:List (Key×Value)} {k:Key} {u:Value} {i:Nat},KV kvs vs->vs[i]? =some (k,u)->∃v,kvs[i]? =some (k,v)/\a1c v u
 |_,_,_,_,_,.nil,e=>by simp at e
 |_,_,k,u,0,.cons (a:=p) r _,e=>by
  simp at e;subst e;obtain⟨p1,p2⟩:=p;obtain⟨r1,r2⟩:=r;simp only at r1;subst r1;exact⟨p2,rfl,r2⟩
 |_,_,k,u,i+1,.cons _ t,e=>by
  obtain⟨v,h1,h2⟩:=a3m (i:=i) t (by simpa using e);exact⟨v,by simpa using h1,h2⟩
end L2
namespace L2
open PySem PySem.Spec PyProof.Rows PySem.Builtin PySem.Builtin.Dict
theorem a4Y (a b:Value):Builtin.«dict.__ne__» ⟨[a,b],[]⟩=(do
  let (self,other) ← dictSlotArgs "__ne__" ⟨[a,b],[]⟩
  if !(← isInstance other (.type "dict")) then rule s!"dict.{("__ne__" : String)}.not-a-dict";return ← ret .notImplemented
  ret (.bool ((← Dict.samePairs s!"dict.{("__ne__" : String)}" (← addrOf self) (← addrOf other))==false))):=rfl
theorem a5B:typeLookup (.type "tuple") "keys"=pure none:=am_miss_of_fast (by decide +kernel)
theorem a8x {prog:Program}{w:World}{A:Around}{E:Value->Shared->Prop}{s:Shared}{a:Addr}{o:Obj}{xs:Array Value}{k:Nat}{Q:Option Value->Shared->Prop}
  (hx:s.heap.get? a=some o) (hc:o.cls=.type "tuple") (hdat:o.data=.seq xs k) (hd:o.dict=none) (hA:A.handled=none)
  (h:∀h' tk,(∀b ob,s.heap.get? b=some ob->h'.get? b=some ob)->Q none { s with heap:=h',toks:=tk }):wpAny (model prog w) A (getAttr? (.ref a) "keys") Q E s:=by
 obtain⟨c,dct,dat,sl⟩:=o;simp only at hc hdat hd;subst hc hdat hd;obtain⟨hp,g,d,tk,os⟩:=s;have hT:∀tk',(⟨hp,g,d,tk',os⟩:Shared).TypeIs (.ref a) "tuple":=fun _=>⟨_,hx,rfl⟩;have f1:=sub_AttributeError;have f3:=F.slot_tuple_getattribute.lookup;have f4:=F.slot_tuple_getattribute.bind (.ref a);have f5:=am_tuple_getattr_none;unfold getAttr? getAttrBy? getAttrBy
 repeat (any_goals (first |assumption |exact hT _ | ((with_reducible show wpAny _ _ (call (Value.builtin "tuple.__getattribute__") _ _) _ _ _);refine call_meets F.slot_tuple_getattribute (hT _) am_entry_tuple_getattribute (F.args_tuple_getattribute_2 _ _) (meets_getattribute_miss_tuple a xs k sl "keys" _ a5B (by decide +kernel) (by size_fits)) ⟨hx,hA,fun h' tk' e hx'=>?_⟩) |wp_step))
 obtain⟨t',u',he⟩:=hx'.there;show wpAny _ _ (getattributeRaised _ _ _ _ _ _ _) _ _ _;unfold getattributeRaised
 repeat (any_goals (first |assumption |wp_step))
 exact h _ _ hx'.keeps
theorem a1B:entryFor table "dict.update.loop"=some Builtin.«dict.update.loop»:=entryFor_of_tree (by kernel_rfl)
section
variable {prog:Program}{w:World}{A:Around}{R:Result->Shared->Prop}
theorem a6e {h0:Heap}{d it t:Addr}{items:Array Value}{ps:List (Key×Value)}(hh:A.handled=none)(ht:h0.IsTuple t items)(tne:t≠it/\t≠d)(idne:it≠d)(hl:ps.length=items.size)(hz:items.size≤1000)
  (hp:∀(j:Nat) (k:Key) (v:Value),ps[j]? =some (k,v)->∃a o key n,items[j]? =some (.ref a)/\h0.get? a=some o/\o.cls=.type "tuple"/\o.data=.seq #[key,v] n/\(a0l prog w).is k key=true/\a≠it/\a≠d)
  (nd:(ps.map (·.1)).Nodup):∀(m i:Nat) (tk:Tok) (s:Shared),i+m=items.size->s.heap.IsTupleIter it t i->s.heap.DictOf (a0l prog w) d (ps.take i)->(∀b o,b≠it->b≠d->h0.get? b=some o->s.heap.get? b=some o) →
  (∀(h':Heap) (k:Nat),h'.DictOf (a0l prog w) d ps->(∀b o,b≠it->b≠d->h0.get? b=some o->h'.get? b=some o)->R (.ok (.ret .none)) { s with heap:=h',toks:=k }) →
  codeAny (model prog w) A (.builtin "dict.update.loop" ⟨[.ref d,.ref it,.int i tk,.none],[]⟩) R s
 |0,i,tk,s,hi,hit,hd,kp,hq=>by
  refine codeAny_builtin a1B ?_;unfold Builtin.«dict.update.loop»
  dsimp only
  obtain⟨o,ho,hc,n,hdt⟩:=id ht;refine wB0 (wpAny_pyNext_tuple_end (items:=items) hh hit ⟨o,kp t o tne.1 tne.2 ho,hc,n,hdt⟩ (by rw[Array.getElem?_eq_none (by omega)]) fun h' ex=>?_)
  dsimp only
  refine wB0 (wP0 (wP0 ?_));have e:ps.take i=ps:=List.take_of_length_le (by omega);rw[e] at hd;exact hq h' s.toks (hd.extBut ex idne.symm) fun b o hb1 hb2 q=>ex b o hb1 (kp b o hb1 hb2 q)
 |m+1,i,tk,s,hi,hit,hd,kp,hq=>by
  refine codeAny_builtin a1B ?_;unfold Builtin.«dict.update.loop»
  dsimp only
  obtain⟨o,ho,hc,n,hdt⟩:=id ht;obtain⟨⟨k,v⟩,hk⟩:∃kv,ps[i]? =some kv:=⟨_,gE0 (by omega)⟩;obtain⟨a,oa,key,na,e1,e2,e3,e4,e5,e6,e7⟩:=hp i k v hk;refine wB0 (wpAny_pyNext_tuple_item (items:=items) hit ⟨o,kp t o tne.1 tne.2 ho,hc,n,hdt⟩ e1 fun h1 it1 sb=>?_)
  dsimp only
  have ha1:h1.get? a=some oa:=(sb.2 a e6).trans (kp a oa e6 e7 e2);have hd1:h1.DictOf (a0l prog w) d (ps.take i):=by
   obtain⟨od,es,ep,g,r⟩:=hd;exact⟨od,es,ep,(sb.2 d idne.symm).trans g,r⟩
  refine wB0 (wpAny_holding (wB0 (wpAny_tryCatch ?_)));unfold Dict.pairItems;refine wB0 (wpAny_typeOf (T:="tuple") ⟨oa,ha1,e3⟩ ?_);rw[if_pos (by decide)];refine wB0 (wpAny_seqItems ha1 e4 (wP0 ?_));show wpAny _ _ (holding [key,v] (dictSet d key v)) _ _ _;refine wpAny_holding (wpAny_dictSet_pairs (knd:=a0l prog w) (k:=k) e5 hd1 (fun h2 hd2 sb2=>?_) (by rw[List.length_take,sizeLine_eq];omega));refine wP0 ⟨Code.quiet_builtin _ (by decide +kernel),?_⟩;have es:stored (ps.take i) k v=ps.take (i+1):=by
   have no:((ps.take i).any fun kv=>decide (kv.1=k))=false:=by
    rw[List.any_eq_false];intro kv hkv;rw[decide_eq_true_iff];intro ek;obtain⟨j,hj,ej⟩:=List.mem_take_iff_getElem.mp hkv;have hj2:j<ps.length:=by omega
    have hij:j<i:=by omega
    have hi2:i<ps.length:=by omega
    have ei:ps[i]=(k,v):=(gS0.mp hk).2;refine List.pairwise_iff_getElem.mp nd j i (by simpa using hj2) (by simpa using hi2) hij ?_;rw[List.getElem_map,List.getElem_map,ej,ei,ek]
   unfold stored;rw[if_neg (by rw[no];decide),List.take_add_one,hk]
   rfl
  rw[es] at hd2;exact a6e hh ht tne idne hl hz hp nd m (i+1) _ _ (by omega) (by
   obtain⟨oi,g1,g2⟩:=it1;exact⟨oi,(sb2.2 it idne).trans g1,g2⟩) hd2 (fun b o hb1 hb2 q=>(sb2.2 b hb2).trans ((sb.2 b hb1).trans (kp b o hb1 hb2 q))) fun h' k' x y=>hq h' k' x y
end
theorem b4U {α β:Type}:∀(l:List α) (P:Nat->α->β->Prop),(∀(j:Nat) (x:α),l[j]? =some x->∃u,P j x u)->∃us:List β,us.length=l.length/\∀(j:Nat) (x:α),l[j]? =some x->∃u,us[j]? =some u/\P j x u
 |[],_,_=>⟨[],rfl,fun j x e=>by simp at e⟩
 |y::l,P,h=>by
  obtain⟨u,hu⟩:=h 0 y rfl;obtain⟨us,hl,hs⟩:=b4U l (fun j=>P (j+1)) fun j x e=>h (j+1) x (by simpa using e);refine⟨u::us,by simp[hl],fun j x e=>?_⟩;cases j with
  |zero=>
   simp at e;subst e;exact⟨u,rfl,hu⟩
  |succ j=>
   obtain⟨v,h1,h2⟩:=hs j x (by simpa using e);exact⟨v,by simpa using h1,h2⟩
theorem b1C:∀{kvs:List (Key×V)} {ps:List (Key×Value)},ps.length=kvs.length->(∀(j:Nat) (k:Key) (v:V),kvs[j]? =some (k,v)->∃u,ps[j]? =some (k,u)/\a1c v u)->KV kvs ps
 |[],[],_,_=>.nil
 |[],_::_,h,_=>by simp at h
 |_::_,[],h,_=>by simp at h
 | (k,v)::kvs,(k',u')::ps,h,f=>by
  obtain⟨u,e,r⟩:=f 0 k v rfl;simp at e;obtain⟨rfl,rfl⟩:=e;exact .cons ⟨rfl,r⟩ (b1C (by simpa using h) fun j k v e=>f (j+1) k v (by simpa using e))
section
variable {X:Cx}
theorem a3t:a1E X (.type "tuple") (fun xs H Q=>∃p ys,xs=[.ref p]/\SqL X.K H p ys/\∀l o,H l=none->o.dict=none->Q (.ref l) (upd H l (.frz o (.tup ys)))):=by
 intro pins s σ H xs us Q I r h;obtain⟨p,ys,rfl,hq,q⟩:=h;obtain⟨u,rfl,rx⟩:=a2n r;cases rx;obtain⟨its,r',pl,hz⟩:=I.list hq;have hlen:=r'.length;refine call_tuple_list pl.isList (fun h' kp=>?_) (by simp only[List.size_toArray]<;>omega);have I1:Inv X pins σ H { s with heap:=h' }:=I.kept (t':=s.toks) kp;have I2:Inv X pins σ (upd H h'.objs.size (.frz { cls:=.type "tuple",data:=.seq its.toArray } (.tup ys))) { s with heap:=h'.push { cls:=.type "tuple",data:=.seq its.toArray } }:=
  I1.laid (t':=s.toks) (fun b o e=>hP0 _ e) (Nat.le_refl _) (show a1q X.prog X.w _ _ _ (.frz _ (.tup ys)) from⟨Heap.get?_push_size _ rfl,hz,its,r',IsTup.new _ _⟩)
 exact⟨.ref h'.objs.size,_,I2,rfl,q _ _ (I1.hok.fresh (Nat.le_refl _)) rfl⟩
theorem a3V (hc:X.calm=true):a1E X (.type "dict") (fun xs H Q=>∃(t:Addr) (o:Obj) (ys:List V) (kvs:List (Key×V)),xs=[.ref t]/\H t=some (.frz o (.tup ys))/\o.dict=none/\ys.length≤1000/\kvs.length=ys.length ∧
  (∀(j:Nat) (k:Key) (v:V),kvs[j]? =some (k,v)->∃a,ys[j]? =some (.ref a)/\SqT X.K H a [kV k,v])/\(kvs.map (·.1)).Nodup/\∀p,H p=none->Q (.ref p) (upd H p (.dK kvs))):=by
 intro pins s σ H xs us Q I r h;obtain⟨t,o,ys,kvs,rfl,ht,hod,hys,hkl,hp,nd,q⟩:=h;obtain⟨u,rfl,rx⟩:=a2n r;cases rx;obtain⟨g,hz,its,r',tp⟩:=I.hok t _ ht;obtain⟨o',g',hcl,n,hdat⟩:=tp;rw[g] at g';cases g';have hlen:=r'.length;have hh:=I.ok.hd hc;have hpk:∃ps:List (Key×Value),ps.length=kvs.length/\∀(j:Nat) (kv:Key×V),kvs[j]? =some kv->∃u,ps[j]? =some u/\(u.1=kv.1/\a1c kv.2 u.2/\∃a oa key na,its[j]? =some (.ref a)/\s.heap.get? a=some oa/\oa.cls=.type "tuple"/\oa.data=.seq #[key,u.2] na/\(a0l X.prog X.w).is kv.1 key=true):=by
  refine b4U kvs (fun(j:Nat) (kv:Key×V) (u:Key×Value)=>u.1=kv.1/\a1c kv.2 u.2/\∃a oa key na,its[j]? =some (.ref a)/\s.heap.get? a=some oa/\oa.cls=.type "tuple"/\oa.data=.seq #[key,u.2] na/\(a0l X.prog X.w).is kv.1 key=true) fun j kv hj=>?_;obtain⟨k,v⟩:=kv;obtain⟨a,ea,sq⟩:=hp j k v hj;obtain⟨jts,rj,pj,_⟩:=I.tuple sq;cases rj with
  |@cons _ j1 _ jr rk rr=>cases rr with
   |@cons _ j2 _ jr2 rv rr2=>
    cases rr2;obtain⟨oa,ga,ca,na,da⟩:=pj;refine⟨(k,j2),rfl,rv,a,oa,j1,na,?_,ga,ca,da,a3J rk⟩;obtain⟨w,ew,rw1⟩:=a1m.get r' ea;cases rw1;exact ew
 obtain⟨ps,hpl,hps⟩:=hpk;have gt:s.heap.get? t=some o:=g;have tlt:t<s.heap.objs.size:=Heap.lt_size gt;refine callType_codes (Q₁:=fun obj s₁=>obj=.ref s.heap.objs.size/\s₁={ s with heap:=s.heap.push { cls:=.type "dict",data:=.dict #[] } }) F.kt_called_dict (F.kt_typeCall_dict_1 _) F.entry_dict_init (kt_code_dict_new _ ⟨rfl,rfl⟩) ?_;rintro obj s₁ ⟨rfl,rfl⟩;have hnew:(s.heap.push { cls:=.type "dict",data:=.dict #[] }).DictOf (a0l X.prog X.w) s.heap.objs.size []:=Heap.DictOf.new s.heap;have gt1:(s.heap.push { cls:=.type "dict",data:=.dict #[] }).get? t=some o:=hP0 _ gt;refine⟨hnew.typeIs,F.args_dict_init_2 _ _,?_⟩;unfold Builtin.«dict.__init__»;refine wB0 ?_;unfold Builtin.Dict.selfAndRest;refine wB0 (wpAny_notOrdered_dict hnew.typeIs ?_);show wpAny _ _ (pure (s.heap.objs.size,[Value.ref t])) _ _ _;refine wP0 ?_;show wpAny _ _ (Builtin.Dict.updateFrom "dict.__init__" s.heap.objs.size (.ref t) [] .none) _ _ _;unfold Builtin.Dict.updateFrom;refine wB0 (wpAny_typeOf (T:="tuple") ⟨o,gt1,hcl⟩ ?_);rw[if_pos (by decide)];refine wB0 (a8x (o:=o) (xs:=its.toArray) (k:=n) gt1 hcl hdat hod hh fun h1 tk1 kp1=>?_);rw[if_pos (show(none:Option Value).isNone=true from rfl)];have kp:∀b ob,s.heap.get? b=some ob->h1.get? b=some ob:=fun b ob e=>kp1 b ob (hP0 _ e);have gt2:=kp t o gt;have gd2:h1.get? s.heap.objs.size=some { cls:=.type "dict",data:=.dict #[] }:=kp1 _ _ (Heap.get?_push_size _ rfl);have dlt:s.heap.objs.size<h1.objs.size:=Heap.lt_size gd2;have dd1:h1.DictOf (a0l X.prog X.w) s.heap.objs.size []:=by
  obtain⟨od,es,ep,gg,rr⟩:=hnew;exact⟨od,es,ep,kp1 _ _ gg,rr⟩
 refine wB0 (wpAny_rule ?_);refine wB0 (wpAny_pyIter_tuple (items:=its.toArray) ⟨o,gt2,hcl,n,hdat⟩ ?_);refine wP0 ⟨Code.quiet_builtin _ (by decide +kernel),?_⟩;have epl:ps.length=its.toArray.size:=by simp;omega
 have fsts:ps.map (·.1)=kvs.map (·.1):=by
  refine List.ext_getElem (by simp[hpl]) fun j h1 h2=>?_;rw[List.getElem_map,List.getElem_map];rw[lM0] at h1 h2;obtain⟨u,eu,e1,_⟩:=hps j kvs[j] (gE0 h2);rw[gE0 h1] at eu;cases eu;exact e1
 refine a6e (A:=X.A.in1) (ps:=ps) (items:=its.toArray) (h0:=h1.push { cls:=.type "tuple_iterator",data:=.fields #[.ref t,.int 0 0] }) (t:=t) (d:=s.heap.objs.size) (it:=h1.objs.size) (show X.A.in1.handled=none from hh) ⟨o,hP0 _ gt2,hcl,n,hdat⟩ ⟨Nat.ne_of_lt (Nat.lt_trans tlt dlt),Nat.ne_of_lt tlt⟩ (Nat.ne_of_gt dlt) epl (by rw[← epl,hpl,hkl];exact hys) (fun j k v hj=>?_) (by rw[fsts];exact nd) its.toArray.size 0 _ { s with heap:=h1.push { cls:=.type "tuple_iterator",data:=.fields #[.ref t,.int 0 0] },toks:=tk1 } (by omega) ⟨_,Heap.get?_push_size _ rfl,rfl,rfl⟩ (dd1.push _) (fun b o _ _ e=>e) (fun h2 k2 dd2 kp2=>?_)
 ·have hjl:j<kvs.length:=by
   have:=(gS0.mp hj).1
   omega
  obtain⟨u,eu,e1,e2,a,oa,key,na,e3,e4,e5,e6,e7⟩:=hps j kvs[j] (gE0 hjl);rw[hj] at eu;cases eu;have alt:=Heap.lt_size e4;refine⟨a,oa,key,na,by simpa using e3,hP0 _ (kp a oa e4),e5,e6,?_,Nat.ne_of_lt (Nat.lt_trans alt dlt),Nat.ne_of_lt alt⟩;rw[show k=kvs[j].1 from e1];exact e7
 ·refine⟨rfl,.ref s.heap.objs.size,_,?_,rfl,q s.heap.objs.size (I.hok.fresh (Nat.le_refl _))⟩
  have rel:KV kvs ps:=b1C hpl fun j k v e=>by
   obtain⟨u,eu,e1,e2,_⟩:=hps j (k,v) e;obtain⟨u1,u2⟩:=u
   cases(show u1=k from e1)
   exact⟨u2,eu,e2⟩
  refine I.laid (a:=s.heap.objs.size) (o:=.dK kvs) (fun b qo hb=>?_) (Nat.le_refl _) (a3w (by rw[sizeLine_eq];omega) (beq_eq_false_iff_ne.mpr (Ne.symm (Nat.ne_of_lt I.big))) rel dd2);have blt:=Heap.lt_size hb;exact kp2 b qo (Nat.ne_of_lt (Nat.lt_trans blt dlt)) (Nat.ne_of_lt blt) (hP0 _ (kp b qo hb))
end
end L2
namespace L2
open PySem PySem.Spec PyProof.Rows
theorem a5X {n:Nat}(h:n≤4096):SetTable.sizeAbove n≤sizeLine:=by
 have go:∀(f z:Nat),z≤8192->SetTable.sizeAbove.go n f z≤8192:=by
  intro f
  induction f with
  |zero=>intro z hz;exact hz
  |succ f ih=>
   intro z hz;unfold SetTable.sizeAbove.go
   by_cases e:z≤n
   ·rw[if_pos e];exact ih (z * 2) (by omega)
   ·rw[if_neg e];exact hz
 refine Nat.le_trans (go 64 8 (by decide)) ?_;rw[sizeLine_eq]
 decide
theorem a9X {m:Nat}:SetTable.layClean m #[]=some (Array.replicate (m+1) none):=by
 unfold SetTable.layClean
 rfl
theorem a8P (m f mv:Nat)(a b:Bool):SetTable.laid m f mv a b #[]=some ({ mask:=m,place:=#[],dummies:=#[],finger:=f,led:=a,moves:=mv,plain:=b },#[]):=by
 unfold SetTable.laid;rw[a9X];have e:List.filterMap (fun j=>Option.map (fun x=>(j,x)) ((Array.replicate (m+1) (none:Option Nat)).getD j none)) (List.range (m+1))=[]:=by
  rw[List.filterMap_eq_nil_iff];intro j hj
  have:(Array.replicate (m+1) (none:Option Nat)).getD j none=none:=by
   simp[Array.getD]
  rw[this]
  rfl
 show some (_,_)=some (_,_);simp only[e]
 rfl
section
variable {P:Program}{w:World}{A:Around}{E:Value->Shared->Prop}{s:Shared}{a:Addr}
theorem a9S {led:Bool}{more:Nat}{Q:Unit->Shared->Prop}{ob:Obj}(ho:s.heap.get? a=some ob)(hx:ob.ExactSet)(hd:ob.data=.set #[] 0 (.fresh 0 0 led))(hm:more≤2000)
  (h:∀h',Heap.SameBut a s.heap h'->h'.SetOf (a0l P w) a (fun _=>false) 0->Q () { s with heap:=h' }):wpAny (model P w) A (setRoomFor a more) Q E s:=by
 unfold setRoomFor;refine wB0 (wpAny_setState_of ho hd rfl ?_);have hS:s.heap.SetOf (a0l P w) a (fun _=>false) 0:=⟨ob,#[],0,_,ho,hx,hd,fun e he=>by simp at he,fun k=>by simp,by decide,rfl,rfl⟩;cases e:(SetTable.fresh 0 0 led).roomFor more with
 |none=>
  exact wP0 (h s.heap (Heap.SameBut.refl a s.heap) hS)
 |some wanted=>
  have hw:wanted≤4096:=by
   unfold SetTable.roomFor at e
   split at e
   ·injection e with e
    rw[← e]
    show(0+more) * 2≤4096
    omega
   ·cases e
  show wpAny _ _ (setRelay a wanted) _ _ _;unfold setRelay;refine wB0 (wpAny_setState_of ho hd rfl ?_);show wpAny _ _ (if SetTable.sizeAbove wanted > sizeLine then _ else _) _ _ _;rw[if_neg (Nat.not_lt.mpr (a5X hw))];have er:(SetTable.fresh 0 0 led).relaid (Array.map (fun x:Int×Value=>x.1) #[]) wanted=some ({ mask:=SetTable.sizeAbove wanted-1,place:=#[],dummies:=#[],finger:=0,led:=led,moves:=(SetTable.fresh 0 0 led).movedTo (SetTable.sizeAbove wanted-1),plain:=true },#[]):=by
   unfold SetTable.relaid;rw[show Array.map (fun x:Int×Value=>x.1) #[]=#[] from by simp];exact a8P _ _ _ _ _
  rw[er];generalize eT:({ mask:=SetTable.sizeAbove wanted-1,place:=#[],dummies:=#[],finger:=0,led:=led,moves:=(SetTable.fresh 0 0 led).movedTo (SetTable.sizeAbove wanted-1),plain:=true }:SetTable)=T;have hT:T.fits 0=true:=by rw[← eT];rfl
  refine wB0 (show wpAny _ _ (pure ((#[]:Array (Int×Value)),T)) _ _ _ from wP0 ?_);refine wpAny_storeSet_of ho hd ?_ (Nat.zero_le _);obtain⟨_,hS2⟩:=SetOf_store (knd:=a0l P w) ho hx hd (es':=#[]) (t':=T) (S':=fun _=>false) (fun e he=>by simp at he) (fun k=>by simp) (by decide) hT;exact h _ (Heap.SameBut.update _ a _) hS2
theorem a9E {M:Model}{A:Around}{E:Value->Shared->Prop}{Q:PUnit->Shared->Prop}{body:Nat->PUnit->Sem (ForInStep PUnit)}(I:Nat->Shared->Prop)(N:Nat)
  (step:∀i s,i<N->I i s->wpAny M A (body i PUnit.unit) (fun r s'=>r=.yield PUnit.unit/\I (i+1) s') E s) (fin:∀s,I N s->Q PUnit.unit s) :
  ∀(n i:Nat) (s:Shared),n=N-i->i≤N->I i s->wpAny M A (forIn (List.range' i n) PUnit.unit body) Q E s:=by
 intro n
 induction n with
 |zero=>
  intro i s hn hi hI
  have:i=N:=by omega
  subst this;exact wP0 (fin s hI)
 |succ n ih=>
  intro i s hn hi hI;rw[List.range'_succ,List.forIn_cons];refine wB0 (wpAny_mono (step i s (by omega) hI) (fun r s' hr=>?_) fun _ _ z=>z);obtain⟨rfl,hI'⟩:=hr;exact ih (i+1) s' (by omega) (by omega) hI'
theorem a7z {h:Heap}{ks:List Key}{i:Nat}{e:Value}{hh:Int}{Q:Bool->Shared->Prop}(hlt:i<ks.length)(e1:(a0l P w).is ks[i] e=true)(e2:hh=(a0l P w).hash ks[i])(e3:e.scannable=true)(nd:ks.Nodup)(hb:ks.length+1<scanBound)
  (hS:s.heap.SetOf (a0l P w) a (fun k=>(ks.take i).any fun x=>decide (x=k)) i)
  (q:∀b h',Heap.SameBut a s.heap h'->h'.SetOf (a0l P w) a (fun k=>(ks.take (i+1)).any fun x=>decide (x=k)) (i+1)->Q b { s with heap:=h' }):wpAny (model P w) A (setAddHashed a e hh) Q E s:=by
 rw[e2];have hni:((ks.take i).any fun x=>decide (x=ks[i]))=false:=by
  rw[List.any_eq_false];intro x hx;rw[decide_eq_true_iff];intro q;obtain⟨j,hj,ej⟩:=List.mem_take_iff_getElem.mp hx
  have:j=i:=(List.getElem_inj nd).mp (ej.trans q)
  omega
 refine wpAny_setAddHashed_of (knd:=a0l P w) e1 e3 hS (by omega) fun h' sb hS'=>?_;rw[hni,if_neg Bool.false_ne_true] at hS';have ef:(fun k'=>((ks.take i).any fun x=>decide (x=k')) || decide (k'=ks[i]))=fun k'=>(ks.take (i+1)).any fun x=>decide (x=k'):=by
  funext k'
  rw[List.take_add_one,gE0 hlt];simp only[Option.toList_some,List.any_append,List.any_cons,List.any_nil,Bool.or_false]
  congr 1
  rw[Bool.eq_iff_iff,decide_eq_true_iff,decide_eq_true_iff];exact⟨Eq.symm,Eq.symm⟩
 rw[ef] at hS';exact q _ h' sb hS'
theorem a7j {d:Addr}{kvs:List (Key×Value)}{h:Heap}(hd:h.DictOf (a0l P w) d kvs):∃od es ep,h.get? d=some od/\od.cls=.type "dict"/\od.data=.dict es ep/\es.size=kvs.length/\(kvs.map (·.1)).Nodup/\∀(i:Nat) (k:Key),(kvs.map (·.1))[i]? =some k->∃e:DictEntry,es[i]? =some e/\(a0l P w).is k e.key=true/\e.hash=(a0l P w).hash k/\e.key.scannable=true:=by
 obtain⟨od,es,ep,h1,h2,h3,h4,h5,h6⟩:=hd;have hl:=h5.length;rw[Array.length_toList] at hl;refine⟨od,es,ep,h1,h2.1,h3,hl,h6,fun i k hi=>?_⟩;rw[gM0] at hi;obtain⟨⟨k',v⟩,hkv,rfl⟩:=Option.map_eq_some_iff.mp hi;have hie:i<es.size:=by have:=(gS0.mp hkv).1;omega
 have he:es[i]? =some es[i]:=Array.getElem?_eq_getElem hie;have hp:=h5.get? (i:=i) (e:=es[i]) (by rw[Array.getElem?_toList];exact he) hkv;obtain⟨k2,e1,e2⟩:=h4 es[i] (Array.getElem_mem hie);have ek:k2=k':=(a0l P w).inj _ _ _ e1 hp.1;subst ek;refine⟨es[i],he,hp.1,e2,?_⟩;rcases a0L hp.1 with ⟨j,t,_,e⟩ |⟨x,t,_,e⟩<;>rw[e]<;>rfl
theorem a5W {d:Addr}{kvs:List (Key×Value)}{Q:Value->Shared->Prop}(hd:s.heap.DictOf (a0l P w) d kvs)(hb:kvs.length≤1000)(hm:(d==sysModules)=false)
  (h:∀(h':Heap) (tk:Nat),h'.SetOf (a0l P w) s.heap.objs.size (fun k=>(kvs.map (·.1)).any fun x=>decide (x=k)) kvs.length->(∀b o,s.heap.get? b=some o->h'.get? b=some o)->Q (.ref s.heap.objs.size) { s with heap:=h',toks:=tk }) :
  wpAny (model P w) A (call (.type "set") [.ref d]) Q E s:=by
 obtain⟨c,tl,hmro⟩:=F.called_set.mro;have hmade:=F.called_set.made;have hsub:=F.called_set.sub;have q1:=F.called_set.notType;have q2:=F.called_set.canCreate;have q3:=F.typeCall_set_1 (.ref d);refine wpAny_call (codeAny_of_tree ?_);show wpAny _ _ (callAny (.type "set") ⟨[.ref d],[]⟩) _ _ s;refine wP0 ⟨Code.quiet_builtin _ (by decide +kernel),codeAny_builtin F.entry_type_call ?_⟩;rw[Around.under_plain (weight_type_call_type "set" [.ref d] []) rfl]
 repeat (any_goals (first |assumption |wp_step))
 refine codeAny_mono (code_set_new_1 (.ref d) (E:=E) (Q₁:=fun v s1=>∃led:Bool,v=.ref s.heap.objs.size/\s1={ s with heap:=s.heap.push { cls:=.type "set",dict:=none,data:=.set #[] 0 (.fresh 0 0 led) } }) fun led=>⟨led,rfl,rfl⟩) fun r s1 hr=>?_
 match r,hr with
 | .error e,hr=>exact hr
 | .ok (.next),hr=>exact hr.elim
 | .ok (.brk),hr=>exact hr.elim
 | .ok (.cont),hr=>exact hr.elim
 | .ok (.ret v),hr=>
  obtain⟨led,rfl,rfl⟩:=hr;have hS:(s.heap.push { cls:=.type "set",dict:=none,data:=.set #[] 0 (.fresh 0 0 led) }).get? s.heap.objs.size=some { cls:=.type "set",dict:=none,data:=.set #[] 0 (.fresh 0 0 led) }:=Heap.get?_push_size _ rfl;generalize eh:s.heap.push { cls:=.type "set",dict:=none,data:=.set #[] 0 (.fresh 0 0 led) }=h1 at hS ⊢;have k1:∀b o,s.heap.get? b=some o->h1.get? b=some o:=fun b o e=>by rw[← eh];exact hP0 _ e
  have hT:Shared.TypeIs { s with heap:=h1 } (.ref s.heap.objs.size) "set":=⟨_,hS,rfl⟩;have i1:=F.called_set.init.lookup;have i2:=F.called_set.init.bind (.ref s.heap.objs.size)
  repeat (any_goals (first |assumption |wp_step))
  refine codeAny_mono (codeAny_call_builtin (R:=wants (fun r s2=>r=.none/\∃h' tk,s2={ s with heap:=h',toks:=tk }/\h'.SetOf (a0l P w) s.heap.objs.size (fun k=>(kvs.map (·.1)).any fun x=>decide (x=k)) kvs.length/\∀b o,s.heap.get? b=some o->h'.get? b=some o) E) F.called_set.init.plain F.entry_set_init (check_set_init_1 hT ?_)) fun r2 s2 hr2=>?_
  ·obtain⟨od,es,ep,o1,o2,o3,o4,o5,o6⟩:=a7j hd
   have o1':=k1 _ _ o1;have hda:d≠s.heap.objs.size:=Nat.ne_of_lt (Heap.lt_size o1);obtain⟨ocls,odict,odata,oslots⟩:=od;simp only at o2 o3;subst o2 o3;have t1:isSubtype (.type "dict") (.type "set")=pure false:=by rw[isSubtype_type];kernel_rfl
   have t2:isSubtype (.type "dict") (.type "frozenset")=pure false:=by rw[isSubtype_type];kernel_rfl
   unfold Builtin.«set.__init__» noKeywords Builtin.Frozenset.updateFrom;generalize eR:setRoomFor=RF
   wp_walk
   subst eR;have sz:es.size≤1000:=by omega
   refine a9S hS ⟨rfl,rfl,rfl⟩ rfl (by omega) fun h2 sb2 hS2=>?_;have o1'':=(sb2.2 d hda).trans o1';refine wB0 (wpAny_dictEntries (s:={ s with heap:=h2 }) o1'' rfl ?_);rw[Std.Legacy.Range.forIn_eq_forIn_range'];refine wB0 (a9E (fun i s'=>∃h',s'={ s with heap:=h' }/\Heap.SameBut s.heap.objs.size h1 h'/\h'.SetOf (a0l P w) s.heap.objs.size (fun k=>((kvs.map (·.1)).take i).any fun x=>decide (x=k)) i) es.size ?_ ?_ _ 0 _ (by simp[Std.Legacy.Range.size]) (Nat.zero_le _) ⟨h2,rfl,sb2,hS2⟩)
   ·rintro i s' hi ⟨h',rfl,sb,hSi⟩
    have hlt:i<(kvs.map (·.1)).length:=by rw[lM0];omega
    obtain⟨e,he,e1,e2,e3⟩:=o6 i (kvs.map (·.1))[i] (gE0 hlt);have od':=(sb.2 d hda).trans o1';refine wB0 (wpAny_dictEntries (s:={ s with heap:=h' }) od' rfl ?_);rw[he];refine wB0 (wpAny_holding (a7z (s:={ s with heap:=h' }) (h:=h') hlt e1 e2 e3 o5 (by rw[lM0];unfold scanBound;omega) hSi fun b h'' sb' hS''=>?_));refine wB0 (wpAny_dictEpoch (s:={ s with heap:=h'' }) ((sb'.2 d hda).trans od') rfl ?_);rw[if_neg (by simp)];exact wP0 ⟨rfl,h'',rfl,sb.trans sb',hS''⟩
   ·rintro s' ⟨h',rfl,sb,hSn⟩
    have et:(kvs.map (·.1)).take es.size=kvs.map (·.1):=List.take_of_length_le (by rw[lM0];omega);rw[et,o4] at hSn;exact wP0 (wP0 ⟨rfl,h',_,rfl,hSn,fun b o e=>(sb.2 b (Nat.ne_of_lt (Heap.lt_size e))).trans (k1 b o e)⟩)
  ·match r2,hr2 with
   | .error e,hr2=>exact hr2
   | .ok (.next),hr2=>exact hr2.elim
   | .ok (.brk),hr2=>exact hr2.elim
   | .ok (.cont),hr2=>exact hr2.elim
   | .ok (.ret v),hr2=>
    obtain⟨rfl,h',tk,rfl,hSn,kp⟩:=hr2
    repeat (any_goals (first |assumption |wp_step))
    exact h h' tk hSn kp
end
def a4A (P:Program)(w:World)(p:Addr)(ks:List Key)(h:Heap):Prop:=h.SetOf (a0l P w) p (fun k=>ks.any fun x=>decide (x=k)) ks.length
theorem a8p {P:Program}{w:World}{H:Hp}{h:Heap}{p:Addr}{ks:List Key}(e:a4A P w p ks h):a1q P w H h p (.ext (a4A P w p ks)):=by
 refine⟨e,?_,fun h1 h2 x k=>?_⟩
 ·obtain⟨o,es,ep,t,ho,_⟩:=e
  exact⟨o,ho⟩
 ·obtain⟨o,es,ep,t,ho,rest⟩:=x
  exact⟨o,es,ep,t,k o ho,rest⟩
section
variable {X:Cx}
theorem a3l:a1E X (.type "set") (fun xs H Q=>∃a kvs,xs=[.ref a]/\Rd H a (.dK kvs)/\kvs.length≤1000/\∀p,H p=none->Q (.ref p) (upd H p (.ext (a4A X.prog X.w p (kvs.map (·.1)))))):=by
 intro pins s σ H xs us Q I r h;obtain⟨a,kvs,rfl,e,hl,q⟩:=h;obtain⟨u,rfl,rx⟩:=a2n r;cases rx;obtain⟨_,hsys,vs,kv,hd⟩:=a2D I.hok e;refine a5W hd (by rw[← kv.length];exact hl) hsys fun h' tk hS kp=>?_;have hS':a4A X.prog X.w s.heap.objs.size (kvs.map (·.1)) h':=by
  unfold a4A;rw[kv.keys,lM0];exact hS
 exact⟨.ref s.heap.objs.size,_,I.laid (a:=s.heap.objs.size) (t':=tk) kp (Nat.le_refl _) (a8p hS'),rfl,q _ (I.hok.fresh (Nat.le_refl _))⟩
end
section
variable {A:Around}{s:Shared}{P:Program}{w:World}{E:Value->Shared->Prop}
theorem a4s:entryFor table "set.__ne__"=some Builtin.«frozenset.__ne__»:=
 PySem.entryFor_alias (id':="frozenset.__ne__") (by kernel_rfl) rfl (by decide +kernel) (by kernel_rfl)
def a3B (ks ls:List Key):Bool:=decide (ks.length=ls.length)&&ks.all fun k=>ls.any fun x=>decide (x=k)
theorem a8w {id:String}{a b:Addr}{oa ob:Obj}{es fs:Array (Int×Value)}{ep fp:Nat}{t u:SetTable}{ks ls:List Key}{Q:Bool->Shared->Prop}(o1:s.heap.get? a=some oa)(o3:oa.data=.set es ep t)(o4:ElemsOf (a0l P w) es.toList)(o5:∀k:Key,(ks.any fun x=>decide (x=k))=true↔∃e∈es.toList,(a0l P w).is k e.2=true)(o7:t.fits es.size=true)
  (p1:s.heap.get? b=some ob) (p3:ob.data=.set fs fp u) (p4:ElemsOf (a0l P w) fs.toList) (p7:u.fits fs.size=true) (hS:a4A P w b ls s.heap) (hz:es.size≤fs.size)
  (hq:Q (ks.all fun k=>ls.any fun x=>decide (x=k)) s):wpAny (model P w) A (Builtin.Frozenset.subsetOf id a b) Q E s:=by
 unfold Builtin.Frozenset.subsetOf Builtin.Frozenset.sizeOf;refine wB0 (wB0 (wpAny_setEntries_of o1 o3 o7 (wP0 ?_)));refine wB0 (wB0 (wpAny_setEntries_of p1 p3 p7 (wP0 ?_)));rw[if_neg (Nat.not_lt.mpr hz)];refine wB0 (wpAny_setEpoch_of o1 o3 o7 ?_);have hw:∀R:List (Int×Value)->Shared->Prop,R es.toList s->wpAny (model P w) A (Builtin.Frozenset.walkUnseen a b) R E s:=fun R hR=>by
  unfold Builtin.Frozenset.walkUnseen;refine wB0 (wpAny_setEntries_of o1 o3 o7 ?_);refine wB0 (wpAny_setEntries_of p1 p3 p7 ?_);have hs:∀e∈es.toList++fs.toList,e.2.scannable=true:=fun e he=>by
   rcases List.mem_append.mp he with h |h
   ·exact(o4 e h).2
   ·exact(p4 e h).2
  refine wB0 (wpAny_forIn_list _ (fun rest b s'=>b=(none,())/\s'=s/\∀e∈rest,e.2.scannable=true) _ ?_ ?_ _ _ ⟨rfl,rfl,hs⟩)
  ·rintro⟨n,x⟩ rest b s' ⟨rfl,rfl,hr⟩
   have hx:=hr _ List.mem_cons_self;have hr':=fun e he=>hr e (List.mem_cons_of_mem _ he);cases x<;>first | (cases hx;done) |exact wB0 (wP0 (wP0 ⟨rfl,rfl,hr'⟩))
  ·rintro b s' ⟨rfl,rfl,_⟩
   exact wP0 hR
 refine wB0 (hw _ ?_);refine wB0 (wpAny_forIn_list _ (fun rest b s'=>b=(none,())/\s'=s/\(∀e∈rest,e∈es.toList)/\∀e∈es.toList,e∈rest\/∃k,(a0l P w).is k e.2=true/\(ls.any fun x=>decide (x=k))=true) _ ?_ ?_ _ _ ⟨rfl,rfl,fun e he=>he,fun e he=>.inl he⟩)
 ·rintro⟨n,x⟩ rest b' s' ⟨rfl,rfl,hr,hd⟩
  obtain⟨⟨k,k1,k2⟩,k3⟩:=o4 _ (hr _ List.mem_cons_self);have k2':n=(a0l P w).hash k:=k2;subst k2';refine wB0 (wpAny_holding (wpAny_setFind_of (knd:=a0l P w) k1 k3 hS fun r hr2=>?_));cases r with
  |none=>
   have hn:(ls.any fun x=>decide (x=k))=false:=hr2.symm;refine wP0 (wP0 ?_);have hk:(ks.any fun x=>decide (x=k))=true:=(o5 k).mpr ⟨_,hr _ List.mem_cons_self,k1⟩
   have:(ks.all fun k=>ls.any fun x=>decide (x=k))=false:=by
    rw[List.all_eq_false];obtain⟨y,hy,e⟩:=List.any_eq_true.mp hk;rw[of_decide_eq_true e] at hy;exact⟨k,hy,by rw[hn];decide⟩
   rw[this] at hq;exact hq
  |some j=>
   have hn:(ls.any fun x=>decide (x=k))=true:=hr2.symm;refine wB0 ?_;unfold Builtin.Frozenset.unchanged;refine wB0 (wpAny_setEpoch_of o1 o3 o7 ?_);rw[if_neg (by simp)];refine wP0 (wP0 ⟨rfl,rfl,fun e he=>hr e (List.mem_cons_of_mem _ he),fun e he=>?_⟩);rcases hd e he with h |h
   ·rcases List.mem_cons.mp h with h |h
    ·subst h
     exact .inr ⟨k,k1,hn⟩
    ·exact .inl h
   ·exact .inr h
 ·rintro b' s' ⟨rfl,rfl,_,hd⟩
  have:(ks.all fun k=>ls.any fun x=>decide (x=k))=true:=by
   rw[List.all_eq_true];intro k hk;obtain⟨e,he,e1⟩:=(o5 k).mp (List.any_eq_true.mpr ⟨k,hk,decide_eq_true rfl⟩);rcases hd e he with h |⟨k',h1,h2⟩
   ·cases h
   ·rw[(a0l P w).inj _ _ _ e1 h1]
    exact h2
  rw[this] at hq;exact wP0 hq
theorem b0Y {a b:Addr}{ks ls:List Key}{Q:Value->Shared->Prop}(ha:a4A P w a ks s.heap)(hb:a4A P w b ls s.heap)(hu:A.units<cLine)
  (hq:∀tk,Q (.bool (!a3B ks ls)) { s with toks:=tk }):wpAny (model P w) A (compareOp .NotEq (.ref a) (.ref b)) Q E s:=by
 obtain⟨oa,es,ep,t,o1,o2,o3,o4,o5,o6,o7,o8⟩:=ha;obtain⟨ob,fs,fp,u,p1,p2,p3,p4,p5,p6,p7,p8⟩:=hb;have Ta:s.TypeIs (.ref a) "set":=⟨oa,o1,o2.1⟩;have Tb:s.TypeIs (.ref b) "set":=⟨ob,p1,p2.1⟩;show wpAny _ _ (richCompare .NotEq (.ref a) (.ref b)) _ _ _;refine wpAny_richCompare_same_room Ta Tb F.slot_set_ne (wpAny_call_entry F.slot_set_ne Ta a4s ?_ (F.args_set_ne_2 _ _)) hu;have t0:isSubtype (.type "set") (.type "set")=pure true:=by rw[isSubtype_type];kernel_rfl
 have t1:isSubtype (.type "set") (.type "frozenset")=pure false:=by rw[isSubtype_type];kernel_rfl
 obtain⟨oc,od,oD,os⟩:=oa;obtain⟨pc,pd,pD,ps⟩:=ob;simp only[Obj.ExactSet] at o2 o3 p2 p3;obtain⟨rfl,rfl,rfl⟩:=o2;obtain⟨rfl,rfl,rfl⟩:=p2;subst o3 p3;refine wB0 ?_;generalize eS:Builtin.Frozenset.sizeOf=SO;generalize eB:Builtin.Frozenset.subsetOf=SB
 wp_walk
 subst eS;unfold Builtin.Frozenset.sizeOf;refine wB0 (wpAny_setEntries_of o1 rfl o7 (wP0 ?_));refine wB0 (wB0 (wpAny_setEntries_of p1 rfl p7 (wP0 ?_)));refine wB0 ?_
 by_cases e:es.size=fs.size
 ·rw[if_neg (by simpa using e)]
  refine wB0 (wB0 (wpAny_isInstance (T:="set") (b:=false) Ta t1 ?_));refine wP0 ?_;subst eB;refine a8w o1 rfl o4 o5 o7 p1 rfl p4 p7 ⟨_,fs,fp,u,p1,⟨rfl,rfl,rfl⟩,rfl,p4,p5,p6,p7,p8⟩ (Nat.le_of_eq e) ?_;refine wP0 ⟨_,rfl,(fun z=>nomatch z),?_⟩
  have:a3B ks ls=(ks.all fun k=>ls.any fun x=>decide (x=k)):=by unfold a3B;rw[decide_eq_true (by omega),Bool.true_and]
  rw[← this];exact hq s.toks
 ·rw[if_pos (by simpa using e)]
  refine wP0 (wP0 ⟨_,rfl,(fun z=>nomatch z),?_⟩)
  have:a3B ks ls=false:=by unfold a3B;rw[decide_eq_false (by omega),Bool.false_and]
  have q:=hq s.toks;rw[this] at q;exact q
end
section
variable {X:Cx}
theorem b0w (hu:X.A.units<cLine):OpR X (compareOp .NotEq) (fun x y H Q=>∃(a b:Addr) (ks ls:List Key),x=.ref a/\y=.ref b/\H a=some (.ext (a4A X.prog X.w a ks))/\H b=some (.ext (a4A X.prog X.w b ls))/\Q (.bl (!a3B ks ls)) H):=by
 intro pins s σ H x y v u Q I rx ry h;obtain⟨a,b,ks,ls,rfl,rfl,ha,hb,q⟩:=h;cases rx;cases ry;obtain⟨ha',_⟩:=I.hok a _ ha;obtain⟨hb',_⟩:=I.hok b _ hb;exact b0Y ha' hb' hu fun tk=>⟨.bl (!a3B ks ls),H,I.tok tk,rfl,q⟩
end
section
variable {P:Program}{w:World}{A:Around}{R:Result->Shared->Prop}{I:Addr}{fp wr:List Addr}{G:Array GenState->Array GenState->Prop}{n:Nat}{PV:Nat->Value->Prop}{St:Nat->Shared->Prop}
theorem a8A (W:WalksS P w A.in1 I fp wr G n PV St)(a:Addr)(haf:a∉fp)(ks:List Key)(hn:ks.length=n)(hv:∀i v,PV i v->∀k,ks[i]? =some k->(a0l P w).is k v=true/\v.scannable=true)(nd:ks.Nodup)(hb:ks.length+1<scanBound) :
  ∀(m i:Nat) (s:Shared),m=n-i->i≤n->St i s->s.heap.SetOf (a0l P w) a (fun k=>(ks.take i).any fun x=>decide (x=k)) i →
   (∀s',Moved (a::wr) G s s'->a4A P w a ks s'.heap->R (.ok (.ret .none)) s')->codeAny (model P w) A (.builtin "set.update.loop" ⟨[.ref a,.ref I],[]⟩) R s:=by
 have haw:a∉wr:=fun h=>haf (W.sub _ h);have sub:∀b∈wr,b∈a::wr:=fun b hb=>List.mem_cons_of_mem _ hb;have keep:∀{s s':Shared} {S:Key->Bool} {j:Nat},Moved wr G s s'->s.heap.SetOf (a0l P w) a S j->s'.heap.SetOf (a0l P w) a S j:=fun hm hS=>by
  obtain⟨o,es,ep,t,ho,rest⟩:=hS;exact⟨o,es,ep,t,hm.heap a _ haw ho,rest⟩
 intro m
 induction m with
 |zero=>
  intro i s hm hi st hS hR;have ei:i=n:=by omega
  subst ei;refine codeAny_builtin F.entry_set_update_loop ?_;rw[Around.under_plainId F.plain_set_update_loop _];refine wB0 (W.done s _ _ st fun s' mv=>?_);refine wP0 (hR s' (mv.mono sub) ?_)
  have:=keep mv hS
  rw[List.take_of_length_le (by omega)] at this;unfold a4A;rw[hn];exact this
 |succ m ih=>
  intro i s hm hi st hS hR;have hlt:i<n:=by omega
  have hlk:i<ks.length:=by omega
  refine codeAny_builtin F.entry_set_update_loop ?_;rw[Around.under_plainId F.plain_set_update_loop _];refine wB0 (W.item i s _ _ hlt st fun v s' hp st' mv=>?_);obtain⟨v1,v2⟩:=hv i v hp ks[i] (gE0 hlk);refine wB0 (wpAny_holding ?_);unfold setAdd;refine wpAny_holding (wB0 ((a0l P w).pyHash v1 ?_));have hS1:=keep mv hS;refine a7z (s:={ s' with toks:=s'.toks+1 }) (h:=s'.heap) hlk v1 rfl v2 nd hb hS1 fun b h' sb hS'=>?_;refine wP0 ⟨plainId_quiet F.plain_set_update_loop _,ih (i+1) _ (by omega) hlt (W.frame _ s' _ _ st' (Nat.le_succ _) fun b hb o e=>?_) hS' fun s'' mv2 hS2=>?_⟩
  ·rw[sb.2 b (fun q:b=a=>haf (by rw[← q];exact hb))]
   exact e
  ·refine hR s'' (Moved.trans W.gtrans ((mv.mono sub).then_heap (Nat.le_succ _) fun b o hb e=>?_) mv2) hS2
   rw[sb.2 b (fun q:b=a=>hb (by rw[q];exact List.mem_cons_self))];exact e
end
section
variable {P:Program}{w:World}{A:Around}{s:Shared}{E:Value->Shared->Prop}
theorem a5A {l:Addr}{items:Array Value}{ks:List Key}{Q:Value->Shared->Prop}(hh:A.handled=none)(hl:s.heap.IsList l items)(hn:ks.length=items.size)(hk:∀(i:Nat) (v:Value) (k:Key),items[i]? =some v->ks[i]? =some k->(a0l P w).is k v=true/\v.scannable=true)(nd:ks.Nodup)(hb:ks.length≤1000)
  (h:∀(h':Heap) (tk:Nat),a4A P w s.heap.objs.size ks h'->(∀b o,s.heap.get? b=some o->h'.get? b=some o)->Q (.ref s.heap.objs.size) { s with heap:=h',toks:=tk }) :
  wpAny (model P w) A (call (.type "set") [.ref l]) Q E s:=by
 obtain⟨c,tl,hmro⟩:=F.called_set.mro;have hmade:=F.called_set.made;have hsub:=F.called_set.sub;have q1:=F.called_set.notType;have q2:=F.called_set.canCreate;have q3:=F.typeCall_set_1 (.ref l);refine wpAny_call (codeAny_of_tree ?_);show wpAny _ _ (callAny (.type "set") ⟨[.ref l],[]⟩) _ _ s;refine wP0 ⟨Code.quiet_builtin _ (by decide +kernel),codeAny_builtin F.entry_type_call ?_⟩;rw[Around.under_plain (weight_type_call_type "set" [.ref l] []) rfl]
 repeat (any_goals (first |assumption |wp_step))
 refine codeAny_mono (code_set_new_1 (.ref l) (E:=E) (Q₁:=fun v s1=>∃led:Bool,v=.ref s.heap.objs.size/\s1={ s with heap:=s.heap.push { cls:=.type "set",dict:=none,data:=.set #[] 0 (.fresh 0 0 led) } }) fun led=>⟨led,rfl,rfl⟩) fun r s1 hr=>?_
 match r,hr with
 | .error e,hr=>exact hr
 | .ok (.next),hr=>exact hr.elim
 | .ok (.brk),hr=>exact hr.elim
 | .ok (.cont),hr=>exact hr.elim
 | .ok (.ret v),hr=>
  obtain⟨led,rfl,rfl⟩:=hr;have hS:(s.heap.push { cls:=.type "set",dict:=none,data:=.set #[] 0 (.fresh 0 0 led) }).get? s.heap.objs.size=some { cls:=.type "set",dict:=none,data:=.set #[] 0 (.fresh 0 0 led) }:=Heap.get?_push_size _ rfl;generalize eh:s.heap.push { cls:=.type "set",dict:=none,data:=.set #[] 0 (.fresh 0 0 led) }=h1 at hS ⊢;have k1:∀b o,s.heap.get? b=some o->h1.get? b=some o:=fun b o e=>by rw[← eh];exact hP0 _ e
  have z1:s.heap.objs.size<h1.objs.size:=by rw[← eh,Heap.size_push];exact Nat.lt_succ_self _
  have hT:Shared.TypeIs { s with heap:=h1 } (.ref s.heap.objs.size) "set":=⟨_,hS,rfl⟩;have i1:=F.called_set.init.lookup;have i2:=F.called_set.init.bind (.ref s.heap.objs.size)
  repeat (any_goals (first |assumption |wp_step))
  refine codeAny_mono (codeAny_call_builtin (R:=wants (fun r s2=>r=.none/\∃h' tk,s2={ s with heap:=h',toks:=tk }/\a4A P w s.heap.objs.size ks h'/\∀b o,s.heap.get? b=some o->h'.get? b=some o) E) F.called_set.init.plain F.entry_set_init (check_set_init_1 hT ?_)) fun r2 s2 hr2=>?_
  ·have hl0:=hl
   obtain⟨ol,o1,o2,nl,o3⟩:=hl;have o1':=k1 _ _ o1;have hlS:l<s.heap.objs.size:=Heap.lt_size o1;obtain⟨ocls,odict,odata,oslots⟩:=ol;simp only at o2 o3;subst o2 o3;have t1:=F.sub_list_set;have t2:=F.sub_list_frozenset;have t3:(Value.type "list"==Value.type "dict")=false:=by decide
   have hl1:h1.IsList l items:=⟨_,o1',rfl,nl,rfl⟩;unfold Builtin.«set.__init__» noKeywords Builtin.Frozenset.updateFrom;generalize eI:pyIter=IT
   wp_walk
   subst eI;refine wpAny_pyIter_list hl1 (wB0 (wpAny_runValue ?_));have hIl:l≠h1.objs.size:=Nat.ne_of_lt (Nat.lt_trans hlS z1);refine a8A ((Walks.list (by simp[hh]) _ l hIl items).toS) s.heap.objs.size ?_ ks hn (fun i v hp k hik=>hk i v k hp hik) nd (by unfold scanBound;omega) (items.size-0) 0 _ rfl (Nat.zero_le _) ⟨⟨_,Heap.get?_push_size _ rfl,rfl,rfl⟩,hl1.push _⟩ ?_ fun s' mv hS'=>?_
   ·simp only[List.mem_cons,List.not_mem_nil,or_false,not_or]
    exact⟨Nat.ne_of_lt z1,Nat.ne_of_gt hlS⟩
   ·exact⟨_,#[],0,_,hP0 _ hS,⟨rfl,rfl,rfl⟩,rfl,fun e he=>by simp at he,fun k=>by simp,by decide,rfl,rfl⟩
   ·obtain⟨h',g',d',tk',os'⟩:=s'
    have e1:g'=s.gens:=mv.gens;have e2:d'=s.drawn:=mv.drawn;have e3:os'=s.os:=mv.os;subst e1 e2 e3;refine wP0 (wP0 ⟨rfl,h',tk',rfl,hS',fun b o e=>mv.heap b o ?_ (hP0 _ (k1 b o e))⟩);have lb:=Heap.lt_size e;simp only[List.mem_cons,List.not_mem_nil,or_false,not_or];exact⟨Nat.ne_of_lt lb,Nat.ne_of_lt (Nat.lt_trans lb z1)⟩
  ·match r2,hr2 with
   | .error e,hr2=>exact hr2
   | .ok (.next),hr2=>exact hr2.elim
   | .ok (.brk),hr2=>exact hr2.elim
   | .ok (.cont),hr2=>exact hr2.elim
   | .ok (.ret v),hr2=>
    obtain⟨rfl,h',tk,rfl,hSn,kp⟩:=hr2
    repeat (any_goals (first |assumption |wp_step))
    exact h h' tk hSn kp
end
section
variable {X:Cx}
theorem a8I (hc:X.calm=true):a1E X (.type "set") (fun xs H Q=>∃(a:Addr) (zs:List Str),xs=[.ref a]/\SqL X.K H a (zs.map V.str)/\zs.Nodup/\zs.length≤1000/\∀p,H p=none->Q (.ref p) (upd H p (.ext (a4A X.prog X.w p (zs.map Sum.inr))))):=by
 intro pins s σ H xs us Q I r h;obtain⟨a,zs,rfl,hq,nd,hl,q⟩:=h;obtain⟨u,rfl,rx⟩:=a2n r;cases rx;obtain⟨its,rv,pl,hz⟩:=I.list hq;have hlen:its.length=zs.length:=by
  have:=rv.length
  rw[lM0] at this;exact this.symm
 refine a5A (ks:=zs.map Sum.inr) (I.ok.hd hc) pl.isList (by rw[lM0,List.size_toArray];exact hlen.symm) (fun i v k hv hk=>?_) ?_ (by rw[lM0];exact hl) fun h' tk hS kp=>?_
 ·rw[gM0] at hk
  obtain⟨z,hz',rfl⟩:=Option.map_eq_some_iff.mp hk;obtain⟨u,hu,ru⟩:=rv.get (show(zs.map V.str)[i]? =some (V.str z) by rw[gM0,hz'];rfl);have hv':its[i]? =some v:=by simpa using hv
  rw[hv'] at hu;cases hu;obtain⟨t,rfl⟩:=ru;exact⟨by show a4O (.inr z) (.str z t)=true;first |exact beq_self_eq_true z | (simp[a4O,Value.isStrOf]),rfl⟩
 ·exact List.Pairwise.map _ (fun a b hab h=>hab (by injection h)) nd
 ·exact⟨.ref s.heap.objs.size,_,I.laid (a:=s.heap.objs.size) (t':=tk) kp (Nat.le_refl _) (a8p hS),rfl,q _ (I.hok.fresh (Nat.le_refl _))⟩
end
end L2
namespace L2
open PySem PySem.Spec PyProof.Rows PySem.Builtin PySem.Builtin.Dict
end L2
namespace L2
open PySem PySem.Spec PyProof.Rows
theorem a1x {J:It}{g:TG}{te:TE}{R:Addr->Hp->Prop}{D:Addr}{σ0:St}{H0:Hp}(n:Nat)(Pv:Nat->List V->St->Hp->Prop)(hn:n≤sizeLine)(h0:Pv 0 [] σ0 H0)(hD0:H0 D=some (.lst []))
  (hs:∀i σ H ys,i<n->Pv i ys σ H->ys.length=i->H D=some (.lst ys)->J.go i H/\∀x H',J.yld i H x H'->g x σ H' fun σ2 H2=>te σ2 H2 fun y H4=>H4 D=some (.lst ys)/\Pv (i+1) (ys++[y]) σ2 (upd H4 D (.lst (ys++[y]))))
  (hd:∀σ H ys,Pv n ys σ H->H D=some (.lst ys)->ys.length=n->J.stop n H/\R D H):a6R J g b3t te R D σ0 H0:=by
 refine⟨fun i m σ H=>m=n-i/\i≤n/\∃ys,Pv i ys σ H/\H D=some (.lst ys)/\ys.length=i,⟨n,by omega,Nat.zero_le _,[],h0,hD0,rfl⟩,?_⟩;rintro i m σ H ⟨rfl,hi,ys,p,hD,hl⟩
 by_cases hlt:i<n
 ·obtain⟨go,st⟩:=hs i σ H ys hlt p hl hD
  refine .inr ⟨go,fun σ2 y H4=>H4 D=some (.lst ys)/\Pv (i+1) (ys++[y]) σ2 (upd H4 D (.lst (ys++[y]))),fun _ _=>False,?_,fun _ _ z=>z.elim,st⟩;rintro σ2 y H4 ⟨e,p'⟩;exact⟨_,e,by rw[hl];omega,n-(i+1),by omega,rfl,hlt,_,p',a0b,by simp[hl]⟩
 ·have e:i=n:=by omega
  subst e;exact .inl (hd σ H ys p hD hl)
theorem a4W {H H1:Hp}{a:Addr}{o:Obj}{kvs:List (Key×V)}(hc:H a=some (.dK kvs))(e:a0o (L2.upd H a (.frz o (.dK kvs))) H1):a0o H (L2.upd H1 a (.dK kvs)):=fun b u hb=>by
 by_cases eb:b=a
 ·subst eb
  rw[hc] at hb;rw[← hb];exact a0b
 ·rw[a0h eb]
  exact e b u (by rw[a0h eb];exact hb)
def flt:V->Bool
 | .non=>true
 | .bl _=>true
 | .int _=>true
 | .str _=>true
 |_=>false
inductive Dp where
 |fl (v:V)
 |tup (ds:List Dp)
 |lst (ds:List Dp)
 |dic (kds:List (Str×Dp))
inductive Dv (H:Hp):Nat->Dp->V->Prop
 |fl {n:Nat} {v:V} (h:flt v=true):Dv H n (.fl v) v
 |tup {n:Nat} {a:Addr} {vs:List V} {ds:List Dp} (ha:H a=some (.tup vs)) (hl:vs.length=ds.length) (h:∀(i:Nat) (v:V) (d:Dp),vs[i]? =some v->ds[i]? =some d->Dv H n d v):Dv H (n+1) (.tup ds) (.ref a)
 |lst {n:Nat} {a:Addr} {vs:List V} {ds:List Dp} (ha:H a=some (.lst vs)) (hl:vs.length=ds.length) (h:∀(i:Nat) (v:V) (d:Dp),vs[i]? =some v->ds[i]? =some d->Dv H n d v):Dv H (n+1) (.lst ds) (.ref a)
 |dic {n:Nat} {a:Addr} {vs:List V} {kds:List (Str×Dp)} (ha:H a=some (.dK ((kds.map (·.1)).zipWith (fun z v=>((Sum.inr z:Key),v)) vs))) (nd:(kds.map (·.1)).Nodup) (hl:vs.length=kds.length) (h:∀(i:Nat) (v:V) (k:Str×Dp),vs[i]? =some v->kds[i]? =some k->Dv H n k.2 v):Dv H (n+1) (.dic kds) (.ref a)
theorem Dv.same {H H':Hp}(s:a0o H H'):∀{n:Nat} {d:Dp} {v:V},Dv H n d v->Dv H' n d v:=fun {n d v} h=>by
 induction h with
 |fl h=>exact .fl h
 |tup ha hl _ ih=>exact .tup (s _ _ ha) hl ih
 |lst ha hl _ ih=>exact .lst (s _ _ ha) hl ih
 |dic ha nd hl _ ih=>exact .dic (s _ _ ha) nd hl ih
theorem a2a {zs:List Str}{vs:List V}{i:Nat}:(zs.zipWith (fun z v=>((Sum.inr z:Key),v)) vs)[i]? =match zs[i]?,vs[i]? with |some z,some v=>some (.inr z,v) |_,_=>none:=by
 rw[List.getElem?_zipWith];cases zs[i]?<;>cases vs[i]?<;>rfl
theorem a3P {zs:List Str}{vs:List V}(h:vs.length=zs.length):(zs.zipWith (fun z v=>((Sum.inr z:Key),v)) vs).length=zs.length:=by
 rw[List.length_zipWith];omega
theorem b0m {zs:List Str}{vs:List V}{k:Key}{v:V}(h:(k,v)∈zs.zipWith (fun z v=>((Sum.inr z:Key),v)) vs):∃(i:Nat) (z:Str),zs[i]? =some z/\vs[i]? =some v/\k=.inr z:=by
 obtain⟨i,hi⟩:=List.getElem?_of_mem h;rw[a2a] at hi;cases h1:zs[i]? with
 |none=>rw[h1] at hi;cases hi
 |some z=>
  cases h2:vs[i]? with
  |none=>rw[h1,h2] at hi;cases hi
  |some u=>
   rw[h1,h2] at hi
   injection hi with hi
   injection hi with e1 e2
   exact⟨i,z,h1,by rw[h2,e2],e1.symm⟩
end L2
namespace L2
open PySem PySem.Spec PyProof.Rows PySem.Builtin PySem.Builtin.Dict
theorem a1w {f:Nat->Bool}{n:Nat}(h:∀i,i<n->f i=true):(List.range n).all f=true:=List.all_eq_true.mpr fun i hi=>h i (List.mem_range.mp hi)
theorem a9H {f:Nat->Bool}{n i:Nat}(hi:i<n)(h:f i=false):(List.range n).all f=false:=by
 cases e:(List.range n).all f with
 |false=>rfl
 |true=>rw[List.all_eq_true.mp e i (List.mem_range.mpr hi)] at h;cases h
section
variable {prog:Program}{w:World}{A:Around}{E:Value->Shared->Prop}{s:Shared}{a b:Addr}{oa ob:Obj}{es fs:Array DictEntry}{ep fp:Nat}
theorem a6a {id:String}{Q:Bool->Shared->Prop}(g:Nat->Bool)(ha:s.heap.get? a=some oa)(da:oa.data=.dict es ep)(hb:s.heap.get? b=some ob)(db:ob.data=.dict fs fp)(na:(a==sysModules)=false)(nb:(b==sysModules)=false)(hsz:es.size=fs.size)
  (hf:∀(i:Nat) (e:DictEntry),es[i]? =some e->∃(j:Nat) (f:DictEntry),fs[j]? =some f/\(∀(R:Option Nat->Shared->Prop),R (some j) s->wpAny (model prog w) A (dictFind b e.key e.hash) R E s)/\∀(R:Bool->Shared->Prop),R (g i) s->wpAny (model prog w) A (eqBool e.val f.val) R E s)
  (hq:Q ((List.range es.size).all g) s):wpAny (model prog w) A (Dict.samePairs id a b) Q E s:=by
 unfold Dict.samePairs Dict.showsAll;simp only[na,nb,Bool.false_eq_true,if_false];refine wB0 (wP0 (wB0 (wP0 ?_)));refine wB0 (wpAny_dictEntries ha da ?_);refine wB0 (wpAny_dictEntries hb db ?_);rw[if_neg (by rw[hsz];simp)];refine wB0 (wpAny_dictEpoch ha da ?_);rw[Std.Legacy.Range.forIn_eq_forIn_range'];refine wB0 (wpAny_mono (wpAny_forIn_list _ (fun rest b s'=>b=(none,())/\s'=s/\(∃m,rest=List.range' m (es.size-m) 1/\m≤es.size/\∀x,x<m->g x=true)) (fun b s'=>s'=s/\((b=(none,())/\∀x,x<es.size->g x=true)\/(b=(some false,())/\∃x,x<es.size/\g x=false))) (fun i rest b s' hI=>?_) (fun b s' hI=>?_) _ _ ⟨rfl,rfl,0,?_⟩) (fun b s' hI=>?_) fun _ _ h=>h)
 ·obtain⟨rfl,rfl,m,hr,hm,hg⟩:=hI
  have hlt:m<es.size:=by
   rcases Nat.lt_or_ge m es.size with h |h
   ·exact h
   ·rw[Nat.sub_eq_zero_of_le h] at hr
    cases hr
  have e0:es.size-m=(es.size-(m+1))+1:=by omega
  rw[e0,List.range'_succ] at hr
  injection hr with h1 h2
  subst h1;obtain⟨j,f,hj,h1,h3⟩:=hf i es[i] (by simp[hlt]);refine wB0 (wpAny_dictEntries ha da ?_);have ei:es[i]? =some es[i]:=by simp[hlt]
  rw[ei]
  dsimp only
  refine wB0 (wpAny_holding (wB0 (h1 _ ?_)))
  dsimp only
  refine wB0 (wpAny_dictEntries hb db ?_);rw[hj]
  dsimp only
  refine wpAny_holding (h3 _ ?_);cases hgi:g i with
  |false=>
   rw[if_pos (by decide)];exact wP0 ⟨rfl,.inr ⟨rfl,i,hlt,hgi⟩⟩
  |true=>
   rw[if_neg (by decide)];refine wB0 (wpAny_dictEpoch ha da ?_);rw[if_neg (by simp)];refine wP0 ⟨rfl,rfl,i+1,h2,by omega,fun x hx=>?_⟩;rcases Nat.lt_or_ge x i with h |h
   ·exact hg x h
   ·obtain rfl:x=i:=by omega
    exact hgi
 ·obtain⟨rfl,rfl,m,hr,hm,hg⟩:=hI
  refine⟨rfl,.inl ⟨rfl,fun x hx=>hg x ?_⟩⟩
  have:es.size-m=0:=by
   have:=congrArg List.length hr
   simpa using this.symm
  omega
 ·exact⟨by simp[Std.Legacy.Range.size],Nat.zero_le _,fun x hx=>absurd hx (Nat.not_lt_zero x)⟩
 ·obtain⟨rfl,⟨rfl,hg⟩ |⟨rfl,x,hx,hg⟩⟩:=hI
  ·rw[a1w hg] at hq
   exact wP0 hq
  ·rw[a9H hx hg] at hq
   exact wP0 hq
end
section
variable {A:Around}{s:Shared}{P:Program}{w:World}
theorem b1O {a b:Addr}{kvs kws:List (Key×Value)}(g:Nat->Bool)(da:s.heap.DictOf (a0l P w) a kvs)(db:s.heap.DictOf (a0l P w) b kws)(na:(a==sysModules)=false)(nb:(b==sysModules)=false)(hl:kvs.length=kws.length)(tx:∀(k:Key) (v:Value),(k,v)∈kws->∃x,k=.inr x)
  (he:∀(i:Nat) (k:Key) (v:Value),kvs[i]? =some (k,v)->∃v',(k,v')∈kws/\SeqAt.EqAt A s v v' (g i)):∀(prog:Program) (w':World) (E:Value->Shared->Prop) (id:String) (Q:Bool->Shared->Prop),Q ((List.range kvs.length).all g) s->wpAny (model prog w') A (Dict.samePairs id a b) Q E s:=fun prog w' E id Q hq=>by
 obtain⟨oa,es,ep,ha,xa,dda,ka,pa,nda⟩:=da;obtain⟨ob,fs,fp,hb,xb,ddb,kb,pb,ndb⟩:=db;have la:es.size=kvs.length:=by have:=a3j pa;simpa using this
 have lb:fs.size=kws.length:=by have:=a3j pb;simpa using this
 have kb':∀e∈fs,∃z t,e.key=Value.str z t:=fun e he'=>by
  obtain⟨m,hm,rfl⟩:=Array.mem_iff_getElem.mp he';obtain⟨⟨k,v⟩,hk⟩:∃kv,kws[m]? =some kv:=⟨_,gE0 (by omega)⟩;obtain⟨g1,_⟩:=pb.get? (i:=m) (e:=fs[m]) (by simp[hm]) hk;obtain⟨x,rfl⟩:=tx k v (List.mem_of_getElem? hk);rcases a0L (k:=.inr x) (v:=fs[m].key) g1 with ⟨i,t,q,_⟩ |⟨z,t,q,q2⟩
  ·cases q
  ·exact⟨z,t,q2⟩
 refine a6a g ha dda hb ddb na nb (by omega) (fun i e ei=>?_) (by rw[la];exact hq);have hi:i<es.size:=(Array.getElem?_eq_some_iff.mp ei).1;obtain⟨⟨k,v⟩,hk⟩:∃kv,kvs[i]? =some kv:=⟨_,gE0 (by omega)⟩;obtain⟨g1,g2⟩:=pa.get? (i:=i) (e:=e) (by simpa using ei) hk;obtain⟨k2,g3,g4⟩:=ka e (Array.mem_of_getElem? ei);have ek:k2=k:=(a0l P w).inj _ _ _ g3 g1;subst ek;obtain⟨v',hv',eq⟩:=he i k2 v hk;obtain⟨x,rfl⟩:=tx k2 v' hv';obtain⟨t0,ek0⟩:∃t,e.key=Value.str x t:=by
  rcases a0L (k:=.inr x) (v:=e.key) g1 with ⟨i,t,q,_⟩ |⟨z,t,q,q2⟩
  ·cases q
  ·cases q
   exact⟨t,q2⟩
 obtain⟨m,hm⟩:=List.getElem?_of_mem hv';have hm':m<fs.size:=by have:=(gS0.mp hm).1;omega
 have em:fs.toList[m]? =some fs[m]:=by simp[hm']
 obtain⟨q1,q2⟩:=pb.get? em hm;obtain⟨j,hj⟩:∃j,fs.findIdx? (fun e=>e.key.isStr x)=some j:=by
  cases z:fs.findIdx? (fun e=>e.key.isStr x) with
  |some j=>exact⟨j,rfl⟩
  |none=>
   have:=Array.findIdx?_eq_none_iff.mp z fs[m] (Array.getElem_mem hm')
   have q1':fs[m].key.isStr x=true:=by
    rcases a0L (k:=.inr x) (v:=fs[m].key) q1 with ⟨i,t,q,_⟩ |⟨z,t,q,q2⟩
    ·cases q
    ·cases q
     rw[q2];exact beq_self_eq_true x
   rw[q1'] at this;cases this
 obtain⟨hjs,hjt,_⟩:=Array.findIdx?_eq_some_iff_getElem.mp hj;obtain⟨⟨k3,v3⟩,hk3⟩:∃kv,kws[j]? =some kv:=⟨_,gE0 (by omega)⟩;obtain⟨r1,r2⟩:=pb.get? (i:=j) (e:=fs[j]) (by simp[hjs]) hk3;have hjk:(a0l P w).is (.inr x) fs[j].key=true:=by
  obtain⟨z,t,q⟩:=kb' fs[j] (Array.getElem_mem hjs);rw[q] at hjt ⊢;have zx:z=x:=eq_of_beq hjt;rw[zx];rw[(a0l P w).strs (.inr x) x t0 _ (by rw[← ek0];exact g1)];exact beq_self_eq_true x
 have e3:k3=.inr x:=(a0l P w).inj _ _ _ r1 hjk;subst e3;have jm:j=m:=by
  have hj1:(kws.map (·.1))[j]? =some (Sum.inr x):=by rw[gM0,hk3];rfl
  have hm1:(kws.map (·.1))[m]? =some (Sum.inr x):=by rw[gM0,hm];rfl
  obtain⟨x1,y1⟩:=gS0.mp hj1;obtain⟨x2,y2⟩:=gS0.mp hm1;rcases Nat.lt_trichotomy j m with z |z |z
  ·exact absurd (y1.trans y2.symm) (List.pairwise_iff_getElem.mp ndb j m x1 x2 z)
  ·exact z
  ·exact absurd (y2.trans y1.symm) (List.pairwise_iff_getElem.mp ndb m j x2 x1 z)
 subst jm;rw[hm] at hk3;cases hk3;refine⟨j,fs[j],by simp[hjs],fun R hR=>?_,fun R hR=>?_⟩
 ·rw[ek0]
  exact a9h hb ddb kb' hj hR
 ·rw[g2,r2]
  exact eq prog w' E R hR
theorem a5l {a b:Addr}{kvs kws:List (Key×Value)}(g:Nat->Bool)(da:s.heap.DictOf (a0l P w) a kvs)(db:s.heap.DictOf (a0l P w) b kws)(na:(a==sysModules)=false)(nb:(b==sysModules)=false)(hl:kvs.length=kws.length)(tx:∀(k:Key) (v:Value),(k,v)∈kws->∃x,k=.inr x)
  (he:∀(i:Nat) (k:Key) (v:Value),kvs[i]? =some (k,v)->∃v',(k,v')∈kws/\SeqAt.EqAt A.in1 s v v' (g i)) (hu:A.units<cLine):SeqAt.RcAt A s (.ref a) (.ref b) ((List.range kvs.length).all g)/\SeqAt.RcNeAt A s (.ref a) (.ref b) (!(List.range kvs.length).all g):=by
 have key:=fun prog w' E id Q=>b1O (A:=A.in1) g da db na nb hl tx he prog w' E id Q;obtain⟨oa,es,ep,ha,xa,dda,ka,pa,nda⟩:=da;obtain⟨ob,fs,fp,hb,xb,ddb,kb,pb,ndb⟩:=db;have Ta:s.TypeIs (.ref a) "dict":=⟨oa,ha,xa.1⟩;have Tb:s.TypeIs (.ref b) "dict":=⟨ob,hb,xb.1⟩
 constructor
 ·intro prog w' E Q hq
  refine wpAny_richCompare_same_room Ta Tb F.slot_dict_eq (wpAny_call_entry F.slot_dict_eq Ta F.entry_dict_eq ?_ (F.args_dict_eq_2 _ _)) hu;rw[a4P];refine wB0 ?_;show wpAny _ _ (pure (Value.ref a,Value.ref b)) _ _ _;refine wP0 ?_
  dsimp only
  refine wB0 (wpAny_isInstance (T:="dict") (b:=true) Tb a2A ?_);simp only[Bool.not_true,Bool.false_eq_true,if_false];refine wB0 (wP0 (wB0 (wP0 (wB0 (key prog w' _ _ _ ?_)))));refine wP0 ⟨_,rfl,(fun z=>nomatch z),?_⟩;have e:∀b:Bool,(b==true)=b:=by decide
  rw[e];exact hq
 ·intro prog w' E Q hq
  refine wpAny_richCompare_same_room Ta Tb F.slot_dict_ne (wpAny_call_entry F.slot_dict_ne Ta F.entry_dict_ne ?_ (F.args_dict_ne_2 _ _)) hu;rw[a4Y];refine wB0 ?_;show wpAny _ _ (pure (Value.ref a,Value.ref b)) _ _ _;refine wP0 ?_
  dsimp only
  refine wB0 (wpAny_isInstance (T:="dict") (b:=true) Tb a2A ?_);simp only[Bool.not_true,Bool.false_eq_true,if_false];refine wB0 (wP0 (wB0 (wP0 (wB0 (key prog w' _ _ _ ?_)))));refine wP0 ⟨_,rfl,(fun z=>nomatch z),?_⟩;have e:∀b:Bool,(b==false)=!b:=by decide
  rw[e];exact hq
end
inductive Dw (H:Hp):Nat->Dp->V->Prop
 |fl {n:Nat} {v:V} (h:flt v=true):Dw H n (.fl v) v
 |tup {n:Nat} {a:Addr} {vs:List V} {ds:List Dp} (ha:Rd H a (.tup vs)) (hl:vs.length=ds.length) (h:∀(i:Nat) (v:V) (d:Dp),vs[i]? =some v->ds[i]? =some d->Dw H n d v):Dw H (n+1) (.tup ds) (.ref a)
 |lst {n:Nat} {a:Addr} {vs:List V} {ds:List Dp} (ha:H a=some (.lst vs)) (hl:vs.length=ds.length) (h:∀(i:Nat) (v:V) (d:Dp),vs[i]? =some v->ds[i]? =some d->Dw H n d v):Dw H (n+1) (.lst ds) (.ref a)
 |dic {n:Nat} {a:Addr} {vs:List V} {kds:List (Str×Dp)} (ha:Rd H a (.dK ((kds.map (·.1)).zipWith (fun z v=>((Sum.inr z:Key),v)) vs))) (hl:vs.length=kds.length) (h:∀(i:Nat) (v:V) (k:Str×Dp),vs[i]? =some v->kds[i]? =some k->Dw H n k.2 v):Dw H (n+1) (.dic kds) (.ref a)
def Ntb (H H':Hp):Prop:=∀b o,H b=some o->(∀zs,o≠.tbl zs)->H' b=some o
theorem Ntb.of {H H':Hp}(s:a0o H H'):Ntb H H':=fun b o e _=>s b o e
theorem Ntb.trans {H H' H2:Hp}(s:Ntb H H')(t:Ntb H' H2):Ntb H H2:=fun b o e h=>t b o (s b o e h) h
theorem Ntb.rd {H H':Hp}(s:Ntb H H'){a:Addr}{xs:List V}(e:Rd H a (.tup xs)):Rd H' a (.tup xs):=by
 rcases e with e |⟨o,e⟩
 ·exact .inl (s _ _ e (fun zs h=>by cases h))
 ·exact .inr ⟨o,s _ _ e (fun zs h=>by cases h)⟩
theorem Ntb.rdK {H H':Hp}(s:Ntb H H'){a:Addr}{kvs:List (Key×V)}(e:Rd H a (.dK kvs)):Rd H' a (.dK kvs):=by
 rcases e with e |⟨o,e⟩
 ·exact .inl (s _ _ e (fun zs h=>by cases h))
 ·exact .inr ⟨o,s _ _ e (fun zs h=>by cases h)⟩
theorem a3n {H:Hp}{a:Addr}{xs ys:List (Key×V)}(h:Rd H a (.dK xs))(g:Rd H a (.dK ys)):xs=ys:=by
 rcases h with h |⟨o,h⟩<;>rcases g with g |⟨o',g⟩<;>rw[h] at g<;>cases g<;>rfl
theorem Dw.nt {H H':Hp}(s:Ntb H H'){n:Nat}{d:Dp}{v:V}(h:Dw H n d v):Dw H' n d v:=by
 induction h with
 |fl h=>exact .fl h
 |tup ha hl _ ih=>exact .tup (s.rd ha) hl ih
 |lst ha hl _ ih=>exact .lst (s _ _ ha (fun zs h=>by cases h)) hl ih
 |dic ha hl _ ih=>exact .dic (s.rdK ha) hl ih
theorem Dw.same {H H':Hp}(s:a0o H H'){n:Nat}{d:Dp}{v:V}(h:Dw H n d v):Dw H' n d v:=h.nt (.of s)
theorem Dw.up {H:Hp}{n:Nat}{d:Dp}{v:V}(h:Dw H n d v):∀m,n≤m->Dw H m d v:=by
 induction h with
 |fl h=>exact fun m _=>.fl h
 |tup ha hl _ ih=>intro m hm;match m,hm with |m+1,hm=>exact .tup ha hl fun i v d a b=>ih i v d a b m (by omega)
 |lst ha hl _ ih=>intro m hm;match m,hm with |m+1,hm=>exact .lst ha hl fun i v d a b=>ih i v d a b m (by omega)
 |dic ha hl _ ih=>intro m hm;match m,hm with |m+1,hm=>exact .dic ha hl fun i v d a b=>ih i v d a b m (by omega)
inductive Deq:Dp->Dp->Bool->Prop
 |non:Deq (.fl .non) (.fl .non) true
 |bl {b:Bool}:Deq (.fl (.bl b)) (.fl (.bl b)) true
 |int {i j:Int}:Deq (.fl (.int i)) (.fl (.int j)) (i==j)
 |str {x y:Str}:Deq (.fl (.str x)) (.fl (.str y)) (x==y)
 |tup {ds es:List Dp} (f:Nat->Bool) (hl:ds.length=es.length) (h:∀(i:Nat) (d e:Dp),ds[i]? =some d->es[i]? =some e->Deq d e (f i)):Deq (.tup ds) (.tup es) ((List.range ds.length).all f)
 |lst {ds es:List Dp} (f:Nat->Bool) (hl:ds.length=es.length) (h:∀(i:Nat) (d e:Dp),ds[i]? =some d->es[i]? =some e->Deq d e (f i)):Deq (.lst ds) (.lst es) ((List.range ds.length).all f)
 |dic {ds es:List (Str×Dp)} (f:Nat->Bool) (hl:ds.map (·.1)=es.map (·.1)) (h:∀(i:Nat) (d e:Str×Dp),ds[i]? =some d->es[i]? =some e->Deq d.2 e.2 (f i)):Deq (.dic ds) (.dic es) ((List.range ds.length).all f)
 |dicP {ds es:List (Str×Dp)} (f:Nat->Bool) (p:Nat->Nat) (hl:ds.length=es.length) (nd:(es.map (·.1)).Nodup) (hk:∀(i:Nat) (d:Str×Dp),ds[i]? =some d->∃e,es[p i]? =some e/\e.1=d.1) (h:∀(i:Nat) (d e:Str×Dp),ds[i]? =some d->es[p i]? =some e->Deq d.2 e.2 (f i)):Deq (.dic ds) (.dic es) ((List.range ds.length).all f)
theorem Deq.to {d e:Dp}{b c:Bool}(h:Deq d e b)(hb:b=c):Deq d e c:=hb▸h
theorem a6W {H:Hp}{a:Addr}{xs ys:List V}(h:Rd H a (.tup xs))(g:Rd H a (.tup ys)):xs=ys:=by
 rcases h with h |⟨o,h⟩<;>rcases g with g |⟨o',g⟩<;>rw[h] at g<;>cases g<;>rfl
theorem Deq.self {H:Hp}{d e:Dp}{b:Bool}(h:Deq d e b):∀{n m:Nat} {v:V},Dw H n d v->Dw H m e v->b=true:=by
 induction h with
 |non=>intros;rfl
 |bl=>intros;rfl
 |int=>
  intro n m v h1 h2;cases h1;cases h2;exact beq_self_eq_true _
 |str=>
  intro n m v h1 h2;cases h1;cases h2;exact beq_self_eq_true _
 |tup f hl h ih=>
  intro n m v h1 h2;cases h1 with
  |tup ha hla h1=>
   cases h2 with
   |tup hb hlb h2=>
    obtain rfl:=a6W ha hb;refine a1w fun i hi=>?_;exact ih i _ _ (gE0 hi) (gE0 (by omega)) (h1 i _ _ (gE0 (by omega)) (gE0 hi)) (h2 i _ _ (gE0 (by omega)) (gE0 (by omega)))
 |lst f hl h ih=>
  intro n m v h1 h2;cases h1 with
  |lst ha hla h1=>
   cases h2 with
   |lst hb hlb h2=>
    rw[ha] at hb;cases hb;refine a1w fun i hi=>?_;exact ih i _ _ (gE0 hi) (gE0 (by omega)) (h1 i _ _ (gE0 (by omega)) (gE0 hi)) (h2 i _ _ (gE0 (by omega)) (gE0 (by omega)))
 |@dic ds es f hl h ih=>
  intro n m v h1 h2;have hl2:ds.length=es.length:=by have:=congrArg List.length hl;simpa using this
  cases h1 with
  |@dic _ _ vs _ ha hla h1=>
   cases h2 with
   |@dic _ _ ws _ hb hlb h2=>
    have hb:=a3n ha hb;refine a1w fun i hi=>?_;have e1:(List.zipWith (fun z v=>((Sum.inr z:Key),v)) (ds.map (·.1)) vs)[i]? =some (.inr ds[i].1,vs[i]'(by omega)):=by
     rw[a2a,gM0,gE0 hi,gE0 (by omega)];rfl
    have e2:(List.zipWith (fun z v=>((Sum.inr z:Key),v)) (es.map (·.1)) ws)[i]? =some (.inr (es[i]'(by omega)).1,ws[i]'(by omega)):=by
     rw[a2a,gM0,gE0 (by omega),gE0 (by omega)];rfl
    rw[hb,e2] at e1
    injection e1 with e1
    injection e1 with e3 e4
    exact ih i _ _ (gE0 hi) (gE0 (by omega)) (h1 i _ _ (gE0 (by omega)) (gE0 hi)) (by rw[← e4];exact h2 i _ _ (gE0 (by omega)) (gE0 (by omega)))
 |@dicP ds es f p hl2 nd hkp h ih=>
  intro n m v h1 h2;cases h1 with
  |@dic _ _ vs _ ha hla h1=>
   cases h2 with
   |@dic _ _ ws _ hb hlb h2=>
    have hb:=a3n ha hb;refine a1w fun i hi=>?_;have e1:(List.zipWith (fun z v=>((Sum.inr z:Key),v)) (ds.map (·.1)) vs)[i]? =some (.inr ds[i].1,vs[i]'(by omega)):=by
     rw[a2a,gM0,gE0 hi,gE0 (by omega)];rfl
    have e2:(List.zipWith (fun z v=>((Sum.inr z:Key),v)) (es.map (·.1)) ws)[i]? =some (.inr (es[i]'(by omega)).1,ws[i]'(by omega)):=by
     rw[a2a,gM0,gE0 (by omega),gE0 (by omega)];rfl
    rw[hb,e2] at e1
    injection e1 with e1
    injection e1 with e3 e4
    obtain⟨e,ee,ek⟩:=hkp i _ (gE0 hi);have hpi:=(gS0.mp ee).1;have e3':(es[i]'(by omega)).1=ds[i].1:=by injection e3
    have epi:p i=i:=by
     refine(List.getElem_inj (h₀:=by rw[lM0];exact hpi) (h₁:=by rw[lM0];omega) nd).mp ?_;rw[List.getElem_map,List.getElem_map,e3',← ek];rw[gE0 hpi] at ee;cases ee
     rfl
    exact ih i _ _ (gE0 hi) (by rw[epi];exact gE0 (by omega)) (h1 i _ _ (gE0 (by omega)) (gE0 hi)) (by rw[← e4];exact h2 i _ _ (gE0 (by omega)) (gE0 (by omega)))
theorem a4z {vs:List V}{us:List Value}(r:a1m vs us){j:Nat}(h:j<us.toArray.size):∃hj:j<vs.length,a1c vs[j] us.toArray[j]:=by
 have h':j<us.length:=by simpa using h
 have hj:j<vs.length:=by rw[r.length];exact h'
 obtain⟨u1,e1,k1⟩:=r.get (i:=j) (x:=vs[j]) (by simp);have w1:us.toArray[j]=u1:=by have:=(gS0.mp e1).2;simpa using this
 exact⟨hj,by rw[w1];exact k1⟩
section
variable {X:Cx}{pins:List (Addr×Obj)}{σ:St}{H:Hp}{s:Shared}
def RcB (A:Around)(s:Shared)(u u':Value)(b:Bool):Prop:=SeqAt.RcAt A s u u' b/\SeqAt.RcNeAt A s u u' (!b)
theorem a8o (I:Inv X pins σ H s){d e:Dp}{b:Bool}(h:Deq d e b):∀{n:Nat} {x y:V} {u u':Value} {A:Around},Dw H n d x->Dw H n e y->a1c x u->a1c y u'->A.units+n<cLine->SeqAt.EqAt A s u u' b/\∀a c,u=.ref a->u'=.ref c->RcB A s u u' b:=by
 induction h with
 |non=>intro n x y u u' A h1 h2 r1 r2 hu;cases h1;cases h2;cases r1;cases r2;exact⟨SeqAt.EqAt.same _,fun a c e=>by cases e⟩
 |bl=>intro n x y u u' A h1 h2 r1 r2 hu;cases h1;cases h2;cases r1;cases r2;exact⟨SeqAt.EqAt.same _,fun a c e=>by cases e⟩
 |@int i j=>
  intro n x y u u' A h1 h2 r1 r2 hu;cases h1;cases h2;obtain⟨t,rfl⟩:=r1;obtain⟨t',rfl⟩:=r2;exact⟨SeqAt.EqAt.int_int (A:=A) (s:=s) i t j t',fun a c e=>by cases e⟩
 |@str i j=>
  intro n x y u u' A h1 h2 r1 r2 hu;cases h1;cases h2;obtain⟨t,rfl⟩:=r1;obtain⟨t',rfl⟩:=r2;exact⟨SeqAt.EqAt.str_str (A:=A) (s:=s) i t j t',fun a c e=>by cases e⟩
 |@tup ds es f hl h ih=>
  intro n x y u u' A h1 h2 r1 r2 hu;have self:=(Deq.tup f hl h).self (H:=H) (n:=n) (m:=n) (v:=x) h1;cases h1 with
  |@tup n a vs _ ha hla h1=>
   cases h2 with
   |@tup _ b ws _ hb hlb h2=>
    cases r1;cases r2;obtain⟨its,q1,pl,_⟩:=I.tuple (xs:=vs) (.inl ha);obtain⟨jts,q2,ql,_⟩:=I.tuple (xs:=ws) (.inl hb);have l1:=q1.length;have l2:=q2.length;have el:∀j (g1:j<its.toArray.size) (g2:j<jts.toArray.size),SeqAt.EqAt A.in1 s its.toArray[j] jts.toArray[j] (f j):=fun j g1 g2=>by
     obtain⟨j1,k1⟩:=a4z q1 g1;obtain⟨j2,k2⟩:=a4z q2 g2;exact(ih j _ _ (gE0 (by omega)) (gE0 (by omega)) (h1 j _ _ (gE0 j1) (gE0 (by omega))) (h2 j _ _ (gE0 j2) (gE0 (by omega))) k1 k2 (by show A.units+1+n<cLine;omega)).1
    have e1:=SeqAt.RcAt.tuples (A:=A) (e:=f) pl ql (by omega) el;have e2:=SeqAt.RcNeAt.tuples (A:=A) (e:=f) pl ql (by omega) el;have hz:its.toArray.size=jts.toArray.size:=by simp;omega
    have hd:jts.toArray.size=ds.length:=by simp;omega
    rw[hz,Nat.min_self,beq_self_eq_true,Bool.and_true,hd] at e1 e2;refine⟨?_,fun _ _ _ _=>⟨e1,e2⟩⟩
    by_cases hab:a=b
    ·subst hab
     rw[self (.tup hb hlb h2)];exact SeqAt.EqAt.same _
    ·exact SeqAt.EqAt.of_refs hab e1
 |@lst ds es f hl h ih=>
  intro n x y u u' A h1 h2 r1 r2 hu;have self:=(Deq.lst f hl h).self (H:=H) (n:=n) (m:=n) (v:=x) h1;cases h1 with
  |@lst n a vs _ ha hla h1=>
   cases h2 with
   |@lst _ b ws _ hb hlb h2=>
    cases r1;cases r2;obtain⟨its,q1,pl,_⟩:=I.list (xs:=vs) (.inl (.inl ha));obtain⟨jts,q2,ql,_⟩:=I.list (xs:=ws) (.inl (.inl hb));have l1:=q1.length;have l2:=q2.length;have el:∀j (g1:j<its.toArray.size) (g2:j<jts.toArray.size),SeqAt.EqAt A.in1 s its.toArray[j] jts.toArray[j] (f j):=fun j g1 g2=>by
     obtain⟨j1,k1⟩:=a4z q1 g1;obtain⟨j2,k2⟩:=a4z q2 g2;exact(ih j _ _ (gE0 (by omega)) (gE0 (by omega)) (h1 j _ _ (gE0 j1) (gE0 (by omega))) (h2 j _ _ (gE0 j2) (gE0 (by omega))) k1 k2 (by show A.units+1+n<cLine;omega)).1
    have e1:=SeqAt.RcAt.lists (A:=A) (e:=f) pl.isList ql.isList (by simp;omega) (by omega) el;have e2:=SeqAt.RcNeAt.lists (A:=A) (e:=f) pl.isList ql.isList (by simp;omega) (by omega) el;have hd:its.toArray.size=ds.length:=by simp;omega
    rw[hd] at e1 e2;refine⟨?_,fun _ _ _ _=>⟨e1,e2⟩⟩
    by_cases hab:a=b
    ·subst hab
     rw[self (.lst hb hlb h2)];exact SeqAt.EqAt.same _
    ·exact SeqAt.EqAt.of_refs hab e1
 |@dic ds es f hl h ih=>
  intro n x y u u' A h1 h2 r1 r2 hu;have hl2:ds.length=es.length:=by have:=congrArg List.length hl;simpa using this
  have self:=(Deq.dic f hl h).self (H:=H) (n:=n) (m:=n) (v:=x) h1;cases h1 with
  |@dic n a vs _ ha hla h1=>
   cases h2 with
   |@dic _ b ws _ hb hlb h2=>
    cases r1;cases r2;obtain⟨_,na,us,kv,da⟩:=a2D I.hok ha;obtain⟨_,nb,us',kw,db⟩:=a2D I.hok hb;have l1:=kv.length;have l2:=kw.length;have z1:(List.zipWith (fun z v=>((Sum.inr z:Key),v)) (ds.map (·.1)) vs).length=ds.length:=by rw[a3P (by rw[lM0];exact hla),lM0]
    have z2:(List.zipWith (fun z v=>((Sum.inr z:Key),v)) (es.map (·.1)) ws).length=es.length:=by rw[a3P (by rw[lM0];exact hlb),lM0]
    have e0:=a5l (A:=A) f da db na nb (by omega) (fun k v hk=>?_) (fun i k v hk=>?_) (by omega)
    ·have hd:us.length=ds.length:=by omega
     rw[hd] at e0;refine⟨?_,fun _ _ _ _=>e0⟩
     by_cases hab:a=b
     ·subst hab
      rw[self (.dic hb hlb h2)];exact SeqAt.EqAt.same _
     ·exact SeqAt.EqAt.of_refs hab e0.1
    ·obtain⟨i,hi⟩:=List.getElem?_of_mem hk
     obtain⟨v0,e0,_⟩:=a3m kw hi;obtain⟨_,z,_,_,ez⟩:=b0m (List.mem_of_getElem? e0);exact⟨z,ez⟩
    ·obtain⟨v0,e0,rv⟩:=a3m kv hk
     have hi:i<ds.length:=by have:=(gS0.mp e0).1;omega
     rw[a2a,gM0,gE0 hi,gE0 (by omega)] at e0;have e0:=Option.some.inj e0
     injection e0 with ek ev
     subst ek;subst ev;have hk2:ds[i].1=(es[i]'(by omega)).1:=by
      have:=congrArg (fun l:List Str=>l[i]?) hl
      simp only[gM0] at this;rw[gE0 hi,gE0 (by omega)] at this;exact Option.some.inj this
     have hm:(List.zipWith (fun z v=>((Sum.inr z:Key),v)) (es.map (·.1)) ws)[i]? =some (.inr ds[i].1,ws[i]'(by omega)):=by
      rw[a2a,gM0,gE0 (by omega),gE0 (by omega),hk2]
      rfl
     obtain⟨u2,e2,rv2⟩:=a6B kw hm;exact⟨u2,List.mem_of_getElem? e2,(ih i _ _ (gE0 hi) (gE0 (by omega)) (h1 i _ _ (gE0 (by omega)) (gE0 hi)) (h2 i _ _ (gE0 (by omega)) (gE0 (by omega))) rv rv2 (by show A.units+1+n<cLine;omega)).1⟩
 |@dicP ds es f p hl2 nd hkp h ih=>
  intro n x y u u' A h1 h2 r1 r2 hu;have self:=(Deq.dicP f p hl2 nd hkp h).self (H:=H) (n:=n) (m:=n) (v:=x) h1;cases h1 with
  |@dic n a vs _ ha hla h1=>
   cases h2 with
   |@dic _ b ws _ hb hlb h2=>
    cases r1;cases r2;obtain⟨_,na,us,kv,da⟩:=a2D I.hok ha;obtain⟨_,nb,us',kw,db⟩:=a2D I.hok hb;have l1:=kv.length;have l2:=kw.length;have z1:(List.zipWith (fun z v=>((Sum.inr z:Key),v)) (ds.map (·.1)) vs).length=ds.length:=by rw[a3P (by rw[lM0];exact hla),lM0]
    have z2:(List.zipWith (fun z v=>((Sum.inr z:Key),v)) (es.map (·.1)) ws).length=es.length:=by rw[a3P (by rw[lM0];exact hlb),lM0]
    have e0:=a5l (A:=A) f da db na nb (by omega) (fun k v hk=>?_) (fun i k v hk=>?_) (by omega)
    ·have hd:us.length=ds.length:=by omega
     rw[hd] at e0;refine⟨?_,fun _ _ _ _=>e0⟩
     by_cases hab:a=b
     ·subst hab
      rw[self (.dic hb hlb h2)];exact SeqAt.EqAt.same _
     ·exact SeqAt.EqAt.of_refs hab e0.1
    ·obtain⟨i,hi⟩:=List.getElem?_of_mem hk
     obtain⟨v0,e0,_⟩:=a3m kw hi;obtain⟨_,z,_,_,ez⟩:=b0m (List.mem_of_getElem? e0);exact⟨z,ez⟩
    ·obtain⟨v0,e0,rv⟩:=a3m kv hk
     have hi:i<ds.length:=by have:=(gS0.mp e0).1;omega
     rw[a2a,gM0,gE0 hi,gE0 (by omega)] at e0;have e0:=Option.some.inj e0
     injection e0 with ek ev
     subst ek;subst ev;obtain⟨e,ee,ek⟩:=hkp i _ (gE0 hi);have hpi:=(gS0.mp ee).1;have hm:(List.zipWith (fun z v=>((Sum.inr z:Key),v)) (es.map (·.1)) ws)[p i]? =some (.inr ds[i].1,ws[p i]'(by omega)):=by
      rw[a2a,gM0,ee,gE0 (by omega),← ek]
      rfl
     obtain⟨u2,e2,rv2⟩:=a6B kw hm;exact⟨u2,List.mem_of_getElem? e2,(ih i _ _ (gE0 hi) ee (h1 i _ _ (gE0 (by omega)) (gE0 hi)) (h2 (p i) _ _ (gE0 (by omega)) ee) rv rv2 (by show A.units+1+n<cLine;omega)).1⟩
theorem b2X (hu:X.A.units+20<cLine):OpR X (compareOp .Eq) (fun x y H Q=>∃(n:Nat) (a c:Addr) (d e:Dp) (b:Bool),x=.ref a/\y=.ref c/\Dw H n d x/\Dw H n e y/\Deq d e b/\n≤16/\Q (.bl b) H):=by
 intro pins s σ H x y v u Q I rx ry h;obtain⟨n,a,c,d,e,b,rfl,rfl,h1,h2,hd,hn,q⟩:=h;cases rx;cases ry;exact((a8o I hd h1 h2 rfl rfl (A:=X.A) (by omega)).2 _ _ rfl rfl).1 X.prog X.w X.xe _ ⟨.bl b,H,I,rfl,q⟩
theorem a2O (hu:X.A.units+20<cLine):OpR X (compareOp .NotEq) (fun x y H Q=>∃(n:Nat) (a c:Addr) (d e:Dp) (b:Bool),x=.ref a/\y=.ref c/\Dw H n d x/\Dw H n e y/\Deq d e b/\n≤16/\Q (.bl (!b)) H):=by
 intro pins s σ H x y v u Q I rx ry h;obtain⟨n,a,c,d,e,b,rfl,rfl,h1,h2,hd,hn,q⟩:=h;cases rx;cases ry;exact((a8o I hd h1 h2 rfl rfl (A:=X.A) (by omega)).2 _ _ rfl rfl).2 X.prog X.w X.xe _ ⟨.bl (!b),H,I,rfl,q⟩
end
theorem Dw.refl {H:Hp}{n:Nat}{d:Dp}{v:V}(h:Dw H n d v):Deq d d true:=by
 induction h with
 |@fl n v h=>
  cases v with
  |non=>exact .non
  |bl b=>exact .bl
  |int i=>exact Deq.int.to (beq_self_eq_true i)
  |str z=>exact Deq.str.to (beq_self_eq_true z)
  |_=>cases h
 |@tup n a vs ds ha hl h ih=>exact(Deq.tup (fun _=>true) rfl fun i d e h1 h2=>by
   rw[h1] at h2;cases h2;have hi:=(gS0.mp h1).1;exact ih i _ d (gE0 (by omega)) h1).to (a1w fun _ _=>rfl)
 |@lst n a vs ds ha hl h ih=>exact(Deq.lst (fun _=>true) rfl fun i d e h1 h2=>by
   rw[h1] at h2;cases h2;have hi:=(gS0.mp h1).1;exact ih i _ d (gE0 (by omega)) h1).to (a1w fun _ _=>rfl)
 |@dic n a vs ds ha hl h ih=>exact(Deq.dic (fun _=>true) rfl fun i d e h1 h2=>by
   rw[h1] at h2;cases h2;have hi:=(gS0.mp h1).1;exact ih i _ d (gE0 (by omega)) h1).to (a1w fun _ _=>rfl)
inductive a3T:List Dp->List Dp->Bool->Prop
 |nil:a3T [] [] true
 |cons {d e:Dp} {ds es:List Dp} {b c:Bool} (h:Deq d e b) (t:a3T ds es c):a3T (d::ds) (e::es) (b&&c)
theorem a3T.fn {ds es:List Dp}{b:Bool}(h:a3T ds es b):∃f:Nat->Bool,ds.length=es.length/\(∀(i:Nat) (d e:Dp),ds[i]? =some d->es[i]? =some e->Deq d e (f i))/\(List.range ds.length).all f=b:=by
 induction h with
 |nil=>exact⟨fun _=>true,rfl,(fun i d e h=>by simp at h),rfl⟩
 |@cons d e ds es b c h t ih=>
  obtain⟨f,h1,h2,h3⟩:=ih;refine⟨fun i=>match i with |0=>b |i+1=>f i,by simp[h1],fun i d' e' a1 a2=>?_,?_⟩
  ·match i,a1,a2 with
   |0,a1,a2=>
    cases a1;cases a2;exact h
   |i+1,a1,a2=>exact h2 i d' e' a1 a2
  ·rw[List.length_cons,List.range_succ_eq_map,List.all_cons,List.all_map]
   show(b&&(List.range ds.length).all f)=_
   rw[h3]
theorem a3T.tup {ds es:List Dp}{b:Bool}(h:a3T ds es b):Deq (.tup ds) (.tup es) b:=by
 obtain⟨f,h1,h2,h3⟩:=h.fn;exact(Deq.tup f h1 h2).to h3
theorem a3T.lst {ds es:List Dp}{b:Bool}(h:a3T ds es b):Deq (.lst ds) (.lst es) b:=by
 obtain⟨f,h1,h2,h3⟩:=h.fn;exact(Deq.lst f h1 h2).to h3
theorem a3T.dic {ks:List Str}{ds es:List Dp}{b:Bool}(h:a3T ds es b)(hk:ks.length=ds.length):Deq (.dic (ks.zip ds)) (.dic (ks.zip es)) b:=by
 obtain⟨f,h1,h2,h3⟩:=h.fn;have l1:(ks.zip ds).length=ds.length:=by rw[List.length_zip];omega
 refine(Deq.dic f ?_ fun i d e a1 a2=>?_).to (by rw[l1];exact h3)
 ·rw[List.map_fst_zip (by omega),List.map_fst_zip (by omega)]
 ·obtain⟨x1,y1⟩:=List.getElem?_zip_eq_some.mp a1
  obtain⟨x2,y2⟩:=List.getElem?_zip_eq_some.mp a2;exact h2 i _ _ y1 y2
inductive DwL (H:Hp) (n:Nat):List Dp->List V->Prop
 |nil:DwL H n [] []
 |cons {d:Dp} {v:V} {ds:List Dp} {vs:List V} (h:Dw H n d v) (t:DwL H n ds vs):DwL H n (d::ds) (v::vs)
theorem DwL.at_ {H:Hp}{n:Nat}{ds:List Dp}{vs:List V}(h:DwL H n ds vs):vs.length=ds.length/\∀(i:Nat) (v:V) (d:Dp),vs[i]? =some v->ds[i]? =some d->Dw H n d v:=by
 induction h with
 |nil=>exact⟨rfl,(fun i v d h=>by simp at h)⟩
 |cons h t ih=>
  refine⟨by simp[ih.1],fun i v d a1 a2=>?_⟩
  match i,a1,a2 with
  |0,a1,a2=>
   cases a1;cases a2;exact h
  |i+1,a1,a2=>exact ih.2 i v d a1 a2
theorem DwL.tup {H:Hp}{n:Nat}{a:Addr}{ds:List Dp}{vs:List V}(ha:Rd H a (.tup vs))(h:DwL H n ds vs):Dw H (n+1) (.tup ds) (.ref a):=.tup ha h.at_.1 h.at_.2
theorem DwL.lst {H:Hp}{n:Nat}{a:Addr}{ds:List Dp}{vs:List V}(ha:H a=some (.lst vs))(h:DwL H n ds vs):Dw H (n+1) (.lst ds) (.ref a):=.lst ha h.at_.1 h.at_.2
theorem DwL.dic {H:Hp}{n:Nat}{a:Addr}{ks:List Str}{ds:List Dp}{vs:List V}(ha:Rd H a (.dK (ks.zipWith (fun z v=>((Sum.inr z:Key),v)) vs)))(h:DwL H n ds vs)(hk:ks.length=ds.length):Dw H (n+1) (.dic (ks.zip ds)) (.ref a):=by
 obtain⟨h1,h2⟩:=h.at_;refine .dic (vs:=vs) (by rw[List.map_fst_zip (by omega)];exact ha) (by rw[List.length_zip];omega) fun i v k a1 a2=>?_;obtain⟨_,y⟩:=List.getElem?_zip_eq_some.mp a2;exact h2 i v _ a1 y
end L2
namespace L2
open PySem PySem.Spec PyProof.Rows
section
variable {X:Cx}
theorem a8R:a1E X (.builtin "isinstance") (fun xs H Q=>∃a kvs n b,xs=[V.ref a,.ty n]/\Rd H a (.dK kvs)/\PySem.W.kitOne X.K (.type "dict") (.type n)=some b/\Q (.bl b) H):=by
 intro pins s σ H xs us Q I r h;obtain⟨a,kvs,n,b,rfl,ha,e,q⟩:=h;obtain⟨u,w',rfl,rx,rc⟩:=a6L r;cases rx
 cases(show w'=Value.type n from rc)
 obtain⟨_,_,vs,_,o,es,ep,h1,h2,_⟩:=a2D I.hok ha;exact PySem.W.kia_one PySem.W.kitx_dict I.kIn ⟨o,h1,h2.1⟩ e (fun z=>nomatch z) fun tk=>⟨.bl b,H,I.tok tk,rfl,q⟩
def b4b (t:TS):TS:=fun D σ H=>∃a kvs,Rd H a (.dK kvs)/\(∀o,H a=some (.frz o (.dK kvs))->t D σ H)/\(H a=some (.dK kvs)->∀o,t (b4y a o kvs D) σ (upd H a (.frz o (.dK kvs))))
theorem b1v {st:Stmt}{t:TS}(h:PS X st t):PS X st (b4b t):=by
 intro pins s σ H D I hq;obtain⟨a,kvs,rd,h1,h2⟩:=hq;rcases rd with e |⟨o,e⟩
 ·exact a6E h pins s σ H D I ⟨a,kvs,e,h2 e⟩
 ·exact h pins s σ H D I (h1 o e)
end
end L2
namespace L2
open PySem PySem.Spec PyProof.Rows PySem.Builtin PySem.Builtin.Dict
theorem a5M:typeLookup (.type "list") "keys"=pure none:=am_miss_of_fast (by decide +kernel)
theorem a6J {prog:Program}{w:World}{A:Around}{E:Value->Shared->Prop}{s:Shared}{a:Addr}{o:Obj}{xs:Array Value}{k:Nat}{Q:Option Value->Shared->Prop}
  (hx:s.heap.get? a=some o) (hc:o.cls=.type "list") (hdat:o.data=.seq xs k) (hd:o.dict=none) (hA:A.handled=none)
  (h:∀h' tk,(∀b ob,s.heap.get? b=some ob->h'.get? b=some ob)->Q none { s with heap:=h',toks:=tk }):wpAny (model prog w) A (getAttr? (.ref a) "keys") Q E s:=by
 obtain⟨c,dct,dat,sl⟩:=o;simp only at hc hdat hd;subst hc hdat hd;obtain⟨hp,g,d,tk,os⟩:=s;have hT:∀tk',(⟨hp,g,d,tk',os⟩:Shared).TypeIs (.ref a) "list":=fun _=>⟨_,hx,rfl⟩;have f1:=sub_AttributeError;have f3:=F.slot_list_getattribute.lookup;have f4:=F.slot_list_getattribute.bind (.ref a);have f5:=am_list_getattr_none;unfold getAttr? getAttrBy? getAttrBy
 repeat (any_goals (first |assumption |exact hT _ | ((with_reducible show wpAny _ _ (call (Value.builtin "list.__getattribute__") _ _) _ _ _);refine call_meets F.slot_list_getattribute (hT _) am_entry_list_getattribute (F.args_list_getattribute_2 _ _) (meets_getattribute_miss_list a xs k sl "keys" _ a5M (by decide +kernel) (by size_fits)) ⟨hx,hA,fun h' tk' e hx'=>?_⟩) |wp_step))
 obtain⟨t',u',he⟩:=hx'.there;show wpAny _ _ (getattributeRaised _ _ _ _ _ _ _) _ _ _;unfold getattributeRaised
 repeat (any_goals (first |assumption |wp_step))
 exact h _ _ hx'.keeps
section
variable {prog:Program}{w:World}{A:Around}{R:Result->Shared->Prop}
theorem a5h {h0:Heap}{d it t:Addr}{items:Array Value}{ps:List (Key×Value)}(hh:A.handled=none)(ht:h0.IsList t items)(tne:t≠it/\t≠d)(idne:it≠d)(hl:ps.length=items.size)(hz:items.size≤1000)
  (hp:∀(j:Nat) (k:Key) (v:Value),ps[j]? =some (k,v)->∃a o key n,items[j]? =some (.ref a)/\h0.get? a=some o/\o.cls=.type "tuple"/\o.data=.seq #[key,v] n/\(a0l prog w).is k key=true/\a≠it/\a≠d)
  (nd:(ps.map (·.1)).Nodup):∀(m i:Nat) (tk:Tok) (s:Shared),i+m=items.size->s.heap.IsListIter it t i->s.heap.DictOf (a0l prog w) d (ps.take i)->(∀b o,b≠it->b≠d->h0.get? b=some o->s.heap.get? b=some o) →
  (∀(h':Heap) (k:Nat),h'.DictOf (a0l prog w) d ps->(∀b o,b≠it->b≠d->h0.get? b=some o->h'.get? b=some o)->R (.ok (.ret .none)) { s with heap:=h',toks:=k }) →
  codeAny (model prog w) A (.builtin "dict.update.loop" ⟨[.ref d,.ref it,.int i tk,.none],[]⟩) R s
 |0,i,tk,s,hi,hit,hd,kp,hq=>by
  refine codeAny_builtin a1B ?_;unfold Builtin.«dict.update.loop»
  dsimp only
  obtain⟨o,ho,hc,n,hdt⟩:=id ht;refine wB0 (wpAny_pyNext_list_end (items:=items) hh hit ⟨o,kp t o tne.1 tne.2 ho,hc,n,hdt⟩ (by rw[Array.getElem?_eq_none (by omega)]) fun h' ex=>?_)
  dsimp only
  refine wB0 (wP0 (wP0 ?_));have e:ps.take i=ps:=List.take_of_length_le (by omega);rw[e] at hd;exact hq h' s.toks (hd.extBut ex idne.symm) fun b o hb1 hb2 q=>ex b o hb1 (kp b o hb1 hb2 q)
 |m+1,i,tk,s,hi,hit,hd,kp,hq=>by
  refine codeAny_builtin a1B ?_;unfold Builtin.«dict.update.loop»
  dsimp only
  obtain⟨o,ho,hc,n,hdt⟩:=id ht;obtain⟨⟨k,v⟩,hk⟩:∃kv,ps[i]? =some kv:=⟨_,gE0 (by omega)⟩;obtain⟨a,oa,key,na,e1,e2,e3,e4,e5,e6,e7⟩:=hp i k v hk;refine wB0 (wpAny_pyNext_list_item (items:=items) hit ⟨o,kp t o tne.1 tne.2 ho,hc,n,hdt⟩ e1 fun h1 it1 sb=>?_)
  dsimp only
  have ha1:h1.get? a=some oa:=(sb.2 a e6).trans (kp a oa e6 e7 e2);have hd1:h1.DictOf (a0l prog w) d (ps.take i):=by
   obtain⟨od,es,ep,g,r⟩:=hd;exact⟨od,es,ep,(sb.2 d idne.symm).trans g,r⟩
  refine wB0 (wpAny_holding (wB0 (wpAny_tryCatch ?_)));unfold Dict.pairItems;refine wB0 (wpAny_typeOf (T:="tuple") ⟨oa,ha1,e3⟩ ?_);rw[if_pos (by decide)];refine wB0 (wpAny_seqItems ha1 e4 (wP0 ?_));show wpAny _ _ (holding [key,v] (dictSet d key v)) _ _ _;refine wpAny_holding (wpAny_dictSet_pairs (knd:=a0l prog w) (k:=k) e5 hd1 (fun h2 hd2 sb2=>?_) (by rw[List.length_take,sizeLine_eq];omega));refine wP0 ⟨Code.quiet_builtin _ (by decide +kernel),?_⟩;have es:stored (ps.take i) k v=ps.take (i+1):=by
   have no:((ps.take i).any fun kv=>decide (kv.1=k))=false:=by
    rw[List.any_eq_false];intro kv hkv;rw[decide_eq_true_iff];intro ek;obtain⟨j,hj,ej⟩:=List.mem_take_iff_getElem.mp hkv;have hj2:j<ps.length:=by omega
    have hij:j<i:=by omega
    have hi2:i<ps.length:=by omega
    have ei:ps[i]=(k,v):=(gS0.mp hk).2;refine List.pairwise_iff_getElem.mp nd j i (by simpa using hj2) (by simpa using hi2) hij ?_;rw[List.getElem_map,List.getElem_map,ej,ei,ek]
   unfold stored;rw[if_neg (by rw[no];decide),List.take_add_one,hk]
   rfl
  rw[es] at hd2;exact a5h hh ht tne idne hl hz hp nd m (i+1) _ _ (by omega) (by
   obtain⟨oi,g1,g2⟩:=it1;exact⟨oi,(sb2.2 it idne).trans g1,g2⟩) hd2 (fun b o hb1 hb2 q=>(sb2.2 b hb2).trans ((sb.2 b hb1).trans (kp b o hb1 hb2 q))) fun h' k' x y=>hq h' k' x y
end
section
variable {X:Cx}
theorem a7a (hc:X.calm=true):a1E X (.type "dict") (fun xs H Q=>∃(t:Addr) (ys:List V) (kvs:List (Key×V)),xs=[.ref t]/\SqL X.K H t ys/\ys.length≤1000/\kvs.length=ys.length ∧
  (∀(j:Nat) (k:Key) (v:V),kvs[j]? =some (k,v)->∃a,ys[j]? =some (.ref a)/\SqT X.K H a [kV k,v])/\(kvs.map (·.1)).Nodup/\∀p,H p=none->Q (.ref p) (upd H p (.dK kvs))):=by
 intro pins s σ H xs us Q I r h;obtain⟨t,ys,kvs,rfl,ht,hys,hkl,hp,nd,q⟩:=h;obtain⟨u,rfl,rx⟩:=a2n r;cases rx;obtain⟨its,r',⟨o,n,g,hcl,hod,hdat⟩,_⟩:=I.list ht;have hlen:=r'.length;have hh:=I.ok.hd hc;have hpk:∃ps:List (Key×Value),ps.length=kvs.length/\∀(j:Nat) (kv:Key×V),kvs[j]? =some kv->∃u,ps[j]? =some u/\(u.1=kv.1/\a1c kv.2 u.2/\∃a oa key na,its[j]? =some (.ref a)/\s.heap.get? a=some oa/\oa.cls=.type "tuple"/\oa.data=.seq #[key,u.2] na/\(a0l X.prog X.w).is kv.1 key=true):=by
  refine b4U kvs (fun(j:Nat) (kv:Key×V) (u:Key×Value)=>u.1=kv.1/\a1c kv.2 u.2/\∃a oa key na,its[j]? =some (.ref a)/\s.heap.get? a=some oa/\oa.cls=.type "tuple"/\oa.data=.seq #[key,u.2] na/\(a0l X.prog X.w).is kv.1 key=true) fun j kv hj=>?_;obtain⟨k,v⟩:=kv;obtain⟨a,ea,sq⟩:=hp j k v hj;obtain⟨jts,rj,pj,_⟩:=I.tuple sq;cases rj with
  |@cons _ j1 _ jr rk rr=>cases rr with
   |@cons _ j2 _ jr2 rv rr2=>
    cases rr2;obtain⟨oa,ga,ca,na,da⟩:=pj;refine⟨(k,j2),rfl,rv,a,oa,j1,na,?_,ga,ca,da,a3J rk⟩;obtain⟨w,ew,rw1⟩:=a1m.get r' ea;cases rw1;exact ew
 obtain⟨ps,hpl,hps⟩:=hpk;have gt:s.heap.get? t=some o:=g;have tlt:t<s.heap.objs.size:=Heap.lt_size gt;refine callType_codes (Q₁:=fun obj s₁=>obj=.ref s.heap.objs.size/\s₁={ s with heap:=s.heap.push { cls:=.type "dict",data:=.dict #[] } }) F.kt_called_dict (F.kt_typeCall_dict_1 _) F.entry_dict_init (kt_code_dict_new _ ⟨rfl,rfl⟩) ?_;rintro obj s₁ ⟨rfl,rfl⟩;have hnew:(s.heap.push { cls:=.type "dict",data:=.dict #[] }).DictOf (a0l X.prog X.w) s.heap.objs.size []:=Heap.DictOf.new s.heap;have gt1:(s.heap.push { cls:=.type "dict",data:=.dict #[] }).get? t=some o:=hP0 _ gt;refine⟨hnew.typeIs,F.args_dict_init_2 _ _,?_⟩;unfold Builtin.«dict.__init__»;refine wB0 ?_;unfold Builtin.Dict.selfAndRest;refine wB0 (wpAny_notOrdered_dict hnew.typeIs ?_);show wpAny _ _ (pure (s.heap.objs.size,[Value.ref t])) _ _ _;refine wP0 ?_;show wpAny _ _ (Builtin.Dict.updateFrom "dict.__init__" s.heap.objs.size (.ref t) [] .none) _ _ _;unfold Builtin.Dict.updateFrom;refine wB0 (wpAny_typeOf (T:="list") ⟨o,gt1,hcl⟩ ?_);rw[if_pos (by decide)];refine wB0 (a6J (o:=o) (xs:=its.toArray) (k:=n) gt1 hcl hdat hod hh fun h1 tk1 kp1=>?_);rw[if_pos (show(none:Option Value).isNone=true from rfl)];have kp:∀b ob,s.heap.get? b=some ob->h1.get? b=some ob:=fun b ob e=>kp1 b ob (hP0 _ e);have gt2:=kp t o gt;have gd2:h1.get? s.heap.objs.size=some { cls:=.type "dict",data:=.dict #[] }:=kp1 _ _ (Heap.get?_push_size _ rfl);have dlt:s.heap.objs.size<h1.objs.size:=Heap.lt_size gd2;have dd1:h1.DictOf (a0l X.prog X.w) s.heap.objs.size []:=by
  obtain⟨od,es,ep,gg,rr⟩:=hnew;exact⟨od,es,ep,kp1 _ _ gg,rr⟩
 refine wB0 (wpAny_rule ?_);refine wB0 (wpAny_pyIter_list (items:=its.toArray) ⟨o,gt2,hcl,n,hdat⟩ ?_);refine wP0 ⟨Code.quiet_builtin _ (by decide +kernel),?_⟩;have epl:ps.length=its.toArray.size:=by simp;omega
 have fsts:ps.map (·.1)=kvs.map (·.1):=by
  refine List.ext_getElem (by simp[hpl]) fun j h1 h2=>?_;rw[List.getElem_map,List.getElem_map];rw[lM0] at h1 h2;obtain⟨u,eu,e1,_⟩:=hps j kvs[j] (gE0 h2);rw[gE0 h1] at eu;cases eu;exact e1
 refine a5h (A:=X.A.in1) (ps:=ps) (items:=its.toArray) (h0:=h1.push { cls:=.type "list_iterator",data:=.fields #[.ref t,.int 0 0] }) (t:=t) (d:=s.heap.objs.size) (it:=h1.objs.size) (show X.A.in1.handled=none from hh) ⟨o,hP0 _ gt2,hcl,n,hdat⟩ ⟨Nat.ne_of_lt (Nat.lt_trans tlt dlt),Nat.ne_of_lt tlt⟩ (Nat.ne_of_gt dlt) epl (by rw[← epl,hpl,hkl];exact hys) (fun j k v hj=>?_) (by rw[fsts];exact nd) its.toArray.size 0 _ { s with heap:=h1.push { cls:=.type "list_iterator",data:=.fields #[.ref t,.int 0 0] },toks:=tk1 } (by omega) ⟨_,Heap.get?_push_size _ rfl,rfl,rfl⟩ (dd1.push _) (fun b o _ _ e=>e) (fun h2 k2 dd2 kp2=>?_)
 ·have hjl:j<kvs.length:=by
   have:=(gS0.mp hj).1
   omega
  obtain⟨u,eu,e1,e2,a,oa,key,na,e3,e4,e5,e6,e7⟩:=hps j kvs[j] (gE0 hjl);rw[hj] at eu;cases eu;have alt:=Heap.lt_size e4;refine⟨a,oa,key,na,by simpa using e3,hP0 _ (kp a oa e4),e5,e6,?_,Nat.ne_of_lt (Nat.lt_trans alt dlt),Nat.ne_of_lt alt⟩;rw[show k=kvs[j].1 from e1];exact e7
 ·refine⟨rfl,.ref s.heap.objs.size,_,?_,rfl,q s.heap.objs.size (I.hok.fresh (Nat.le_refl _))⟩
  have rel:KV kvs ps:=b1C hpl fun j k v e=>by
   obtain⟨u,eu,e1,e2,_⟩:=hps j (k,v) e;obtain⟨u1,u2⟩:=u
   cases(show u1=k from e1)
   exact⟨u2,eu,e2⟩
  refine I.laid (a:=s.heap.objs.size) (o:=.dK kvs) (fun b qo hb=>?_) (Nat.le_refl _) (a3w (by rw[sizeLine_eq];omega) (beq_eq_false_iff_ne.mpr (Ne.symm (Nat.ne_of_lt I.big))) rel dd2);have blt:=Heap.lt_size hb;exact kp2 b qo (Nat.ne_of_lt (Nat.lt_trans blt dlt)) (Nat.ne_of_lt blt) (hP0 _ (kp b qo hb))
end
end L2
namespace L2
open PySem
section
variable {prog:Program}{w:World}{A:Around}{E:Value->Shared->Prop}{s:Shared}
theorem a3W {it t:Addr}{i:Nat}{xs:Array Value}{x:Value}{Q:Value->Shared->Prop}(hi:s.heap.IsTupleIter it t i)(ht:s.heap.IsTuple t xs)(hx:xs[i]? =some x)
  (hQ:∀h',h'.IsTupleIter it t (i+1)->Heap.SameBut it s.heap h'->Q x { s with heap:=h' }):wpAny (model prog w) A (Builtin.SmallTypes.nextOf (.ref it)) Q E s:=by
 obtain⟨o,ho,hc,hd⟩:=id hi;obtain⟨ot,hot,_,nt,hdt⟩:=ht;unfold Builtin.SmallTypes.nextOf;refine wB0 (wpAny_callSpecial?_slot (name:=Str.ofString "__next__") hi.typeIs F.slot_tuple_iterator_next (wpAny_call_entry F.slot_tuple_iterator_next hi.typeIs F.entry_tuple_iterator_next ?_ (F.args_tuple_iterator_next_1 _)));show wpAny _ _ (field (.ref it) 0 >>= _) _ _ s;refine wB0 (wpAny_field ho hd (x:=.ref t) rfl ?_);show wpAny _ _ (if (Value.ref t==Value.none)=true then _ else _) _ _ s;rw[if_neg (show ¬((Value.ref t==Value.none)=true) from Bool.false_ne_true)];show wpAny _ _ (field (.ref it) 1 >>= _) _ _ s;refine wB0 (wpAny_field ho hd (x:=.int i 0) rfl ?_);show wpAny _ _ (seqItems? (.ref t) >>= _) _ _ s;refine wB0 (wpAny_seqItems hot hdt ?_);simp only[Int.toNat_natCast,hx];refine wB0 (wpAny_setField ho hd (by simp) (wP0 ⟨x,rfl,wP0 (hQ _ ⟨_,Heap.get?_update_self _ ho (Obj.isFreed_of_fields (Obj.data_mapFields hd _)),(Obj.cls_mapFields ..).trans hc,?_⟩ (Heap.SameBut.update ..))⟩));rw[Obj.data_mapFields hd];simp[rawInt]
theorem a5g {it t:Addr}{i:Nat}{xs:Array Value}{Q:Value->Shared->Prop}(hh:A.handled=none)(hi:s.heap.IsTupleIter it t i)(ht:s.heap.IsTuple t xs)(hx:xs[i]? =none)
  (hE:∀h' e,Heap.ExtBut it s.heap h'->(∃o,h'.get? e=some o/\o.cls=.type "StopIteration")->E (.ref e) { s with heap:=h' }):wpAny (model prog w) A (Builtin.SmallTypes.nextOf (.ref it)) Q E s:=by
 obtain⟨o,ho,hc,hd⟩:=id hi;obtain⟨ot,hot,_,nt,hdt⟩:=ht;unfold Builtin.SmallTypes.nextOf;refine wB0 (wpAny_callSpecial?_slot (name:=Str.ofString "__next__") hi.typeIs F.slot_tuple_iterator_next (wpAny_call_entry F.slot_tuple_iterator_next hi.typeIs F.entry_tuple_iterator_next ?_ (F.args_tuple_iterator_next_1 _)));show wpAny _ _ (field (.ref it) 0 >>= _) _ _ s;refine wB0 (wpAny_field ho hd (x:=.ref t) rfl ?_);show wpAny _ _ (if (Value.ref t==Value.none)=true then _ else _) _ _ s;rw[if_neg (show ¬((Value.ref t==Value.none)=true) from Bool.false_ne_true)];show wpAny _ _ (field (.ref it) 1 >>= _) _ _ s;refine wB0 (wpAny_field ho hd (x:=.int i 0) rfl ?_);show wpAny _ _ (seqItems? (.ref t) >>= _) _ _ s;refine wB0 (wpAny_seqItems hot hdt ?_);simp only[Int.toNat_natCast,hx];refine wB0 (wpAny_rule (wB0 (wpAny_setField ho hd (by simp) ?_)));show wpAny _ _ (newExc (.type "StopIteration") [] >>= _) _ _ _;refine wB0 ?_;simp only[newExc,newTuple];refine wB0 (wpAny_newObj_type ?_ (by size_fits));refine wB0 (m:=firstArgMember _ _) (wpAny_of_eq (a:=Value.none) (by first |rfl | (simp only[firstArgMember];rfl)) ?_);refine wpAny_newObj_type ?_ (by size_fits);simp only[raiseNew];refine wB0 (wpAny_handled ?_)
 first |rw[show A.in1.handled=none from hh] |rw[hh]
 refine wB0 (wP0 (wpAny_throw ?_));exact hE _ _ (((Heap.SameBut.update ..).extBut.push _).push _) ⟨_,Heap.get?_push_size _ rfl,rfl⟩
end
end L2
namespace L2
open PySem PySem.Spec PyProof.Rows
section
variable {X:Cx}{pins:List (Addr×Obj)}{σ:St}{H:Hp}{s:Shared}{h':Heap}
theorem Inv.turnedL {t':Nat}{ch:List Addr}(I:Inv X pins σ H s)(k:∀b o,b∉ch->s.heap.get? b=some o->h'.get? b=some o)(f:∀b∈ch,a2u X pins H b):Inv X pins σ H { s with heap:=h',toks:=t' }:=by
 have nit:∀b u,H b=some u->b∉ch:=fun b u e z=>by rw[(f b z).1] at e;cases e
 refine I.step (g':=s.gens) (d':=s.drawn) (ch:=ch) (fun b hb=>?_) (fun b o _ _ hc e _=>k b o hc e) (fun b o _ _ hc e _=>⟨o.slots,k b o hc e⟩) (fun _ _ _ _ n=>n) (fun b o hc e=>⟨o,k b o hc e⟩) (fun _ _ e=>e) (fun _ _ _ e=>e) (fun b ps e=>⟨#[],by rw[e];simp⟩) (fun m hm=>?_) (fun b u e=>?_) I.bare
 ·obtain⟨f0,f1,f2,f3,f4,f5⟩:=f b hb
  exact⟨f3,f1,f4,f5⟩
 ·obtain⟨o,es,ep,ho,r⟩:=hm
  refine⟨o,es,ep,k _ o (fun z=>?_) ho,r⟩;obtain⟨f0,f1,_⟩:=f _ z;exact f1 rfl
 ·refine(I.hok b u e).stay (fun c v hc q=>k c v ?_ q) (fun _ q=>q) fun _ _ q=>q
  rcases hc with z |z
  ·rw[z];exact nit b u e
  ·exact nit c _ z
end
section
variable {X:Cx}
theorem boot_zip:bootBuiltins "zip"=some (.type "zip"):=by decide +kernel
end
structure a6l (K:Fg0) (x qual:Str) (st:Stmt) (f:Addr) (fd:FuncData):Prop where
 ex:∃(oc:Value) (od:Option Addr) (dV kV doc pm:Value) (an:Option Addr) (cdv ct:Value) (osl:Array (Option Value)),
  fd=PySem.W.fnOf x qual (a0K st) (a0G st) (a0e st) dV kV doc pm an cdv ct/\K.lookup f=some ⟨oc,od,.func fd,osl⟩/\PySem.W.codeIn K cdv qual=true
 kp:PySem.W.keepIn K (.ref f)=true
theorem a8L {K:Fg0}{x qual:Str}{st:Stmt}{f:Addr}{oc:Value}{od an:Option Addr}{osl:Array (Option Value)}{dV kV doc pm cdv ct:Value}(l:K.lookup f=some ⟨oc,od,.func (PySem.W.fnOf x qual (a0K st) (a0G st) (a0e st) dV kV doc pm an cdv ct),osl⟩)
  (c:PySem.W.codeIn K cdv qual=true) (k:PySem.W.keepIn K (.ref f)=true):a6l K x qual st f (PySem.W.fnOf x qual (a0K st) (a0G st) (a0e st) dV kV doc pm an cdv ct):=⟨⟨oc,od,dV,kV,doc,pm,an,cdv,ct,osl,rfl,l,c⟩,k⟩
section
variable {P:Program}{w:World}{K:Fg0}{mg:Str->Option Value}{base:Heap}
theorem a6l.ok {x qual:Str}{st:Stmt}{f:Addr}{fd:FuncData}{N ps:List Str}{k:Nat}{sp:Sp}(F:a6l K x qual st f fd)(S:a0j N ps (a0e st))(len:∀vs H Q E,sp vs H Q E->vs.length=ps.length)
  (hbody:∀(cdv:Value) (A:Around) (outer:List Env) (s:Shared) (H:Hp) (vs:List V) (Q:VK) (E:XK),a1o k (A.deeper (envOfC qual (a0e st) s.heap.objs.size f cdv))->sp vs H Q E →
   ∃t,PSs (a7n CX0 P w K mg base N qual (a0e st) f cdv A outer s H E).nox (a0G st) t/\t { nx:=fun _ H'=>Q .non H',rt:=Q } (a2U N vs) H):a0w P w K mg base CX0 (k+1) f fd ps sp:=by
 obtain⟨oc,od,dV,kV,doc,pm,an,cdv,ct,osl,rfl,lk,hcd⟩:=F.ex;refine b0Q lk hcd S len fun A outer s H vs Q E hr hsp=>?_;obtain⟨t,h,q⟩:=hbody cdv A outer s H vs Q E hr hsp;exact⟨t,h.nox,q⟩
end
structure ZL (h:Heap) (z TI TO i1 i2 a b:Addr) (k:Nat):Prop where
 zp:IsZip h z TI TO .none
 ti:IsPair h TI (.ref i1) (.ref i2)
 to:∃u v,IsPair h TO u v
 j1:h.IsListIter i1 a k
 j2:h.IsListIter i2 b k
def ItY (K:Fg0)(a b:Addr):It:=
 ⟨fun i H=>∃xs ys x y,SqL K H a xs/\SqL K H b ys/\xs[i]? =some x/\ys[i]? =some y,fun i H x H'=>∃u v p,(∀xs ys,SqL K H a xs->SqL K H b ys->xs[i]? =some u/\ys[i]? =some v)/\x=.ref p/\H p=none/\H'=upd H p (.tup [u,v]),fun i H=>∃xs ys,SqL K H a xs/\SqL K H b ys/\xs.length≤i⟩
theorem a7A {P:Program}{w:World}{K:Fg0}{es:List Expr}{x1:Nat}{tp:Pos}(a b z TI TO i1 i2:Addr)(D:ZipApart z TI TO i1 i2 a b):a8Y P w K (.Tuple es x1 tp) (ItY K a b) [z,TI,TO,i1,i2] z (fun i h=>ZL h z TI TO i1 i2 a b i) where
 mem:=by simp
 obj:=fun i h st c hc=>by
  obtain⟨s1,s2,⟨u,v,s3⟩,s4,s5⟩:=st;simp only[List.mem_cons,List.not_mem_nil,or_false] at hc;rcases hc with q |q |q |q |q
  ·subst q;exact⟨_,s1,fun v z=>by cases z⟩
  ·subst q;exact⟨_,s2,fun v z=>by cases z⟩
  ·subst q;exact⟨_,s3,fun v z=>by cases z⟩
  ·subst q;obtain⟨o,e,_,d⟩:=s4;exact⟨o,e,fun v z=>by rw[d] at z;cases z⟩
  ·subst q;obtain⟨o,e,_,d⟩:=s5;exact⟨o,e,fun v z=>by rw[d] at z;cases z⟩
 keep:=fun i h h' st k=>by
  obtain⟨s1,s2,⟨u,v,s3⟩,⟨o4,e4,r4⟩,⟨o5,e5,r5⟩⟩:=st;exact⟨k z (by simp) _ s1,k TI (by simp) _ s2,⟨u,v,k TO (by simp) _ s3⟩,⟨o4,k i1 (by simp) _ e4,r4⟩,⟨o5,k i2 (by simp) _ e5,r5⟩⟩
 item:=by
  intro X hP hw hK hc i pins s σ H E I hf st hg;subst hP hw hK;obtain⟨s1,s2,s3,s4,s5⟩:=st;obtain⟨xs,ys,x,y,hq1,hq2,hx,hy⟩:=hg;obtain⟨its,rv,p,hz⟩:=I.list hq1;obtain⟨jts,rw',p',hz'⟩:=I.list hq2;obtain⟨u,hu,ru⟩:=rv.get hx;obtain⟨v,hv,rv'⟩:=rw'.get hy;obtain⟨t3a,t3b,t3⟩:=id s3;refine wpAny_pyNext_zip_item D s1 s2 t3 s4 s5 p.isList p'.isList (x:=u) (y:=v) (by simpa using hu) (by simpa using hv) fun h' z1 z3 z4 z5 ht hsz kp=>?_;refine⟨_,rfl,?_⟩;refine wpAny_letOwnedTupleGo_zip (s:={ s with heap:=h' }) z1 fun h'' zp'' sb=>?_;have zlt:z<s.heap.objs.size:=Heap.lt_size s1;have kp2:∀c o,c∉[z,TI,TO,i1,i2]->s.heap.get? c=some o->h''.get? c=some o:=fun c o hc e=>by
   simp only[List.mem_cons,List.not_mem_nil,or_false,not_or] at hc;exact(sb.2 c hc.1).trans (kp c o hc.1 hc.2.2.1 hc.2.2.2.1 hc.2.2.2.2 e)
  have I1:Inv X pins σ H { s with heap:=h'' }:=I.turnedL (t':=s.toks) kp2 hf;have hp:H s.heap.objs.size=none:=I.hok.fresh (Nat.le_refl _);have e2:h''.get? s.heap.objs.size=some { cls:=.type "tuple",data:=.seq #[u,v] }:=(sb.2 _ (Nat.ne_of_gt zlt)).trans ht;have I2:Inv X pins σ (upd H s.heap.objs.size (.tup [x,y])) { s with heap:=h'' }:=I1.track (I.our (Nat.le_refl _)) ⟨(show 2≤sizeLine by decide),[u,v],.cons ru (.cons rv' .nil),⟨_,e2,rfl,_,rfl⟩⟩;refine⟨.ref s.heap.objs.size,_,I2,rfl,⟨x,y,_,fun ws us h1 h2=>?_,rfl,hp,rfl⟩,?_,fun c hc=>?_⟩
  ·rw[I.list_inj h1 hq1,I.list_inj h2 hq2]
   exact⟨hx,hy⟩
  ·have up:∀c o,c≠z->h'.get? c=some o->h''.get? c=some o:=fun c o hc e=>(sb.2 c hc).trans e
   obtain⟨o4,e4,r4⟩:=z4;obtain⟨o5,e5,r5⟩:=z5;exact⟨zp'',up _ _ D.TIz (kp _ _ D.TIz D.TITO D.TIi1 D.TIi2 s2),⟨_,_,up _ _ D.TOz z3⟩,⟨o4,up _ _ D.i1z e4,r4⟩,⟨o5,up _ _ D.i2z e5,r5⟩⟩
  ·obtain⟨f0,_⟩:=hf c hc
   rw[a0h fun q=>?_]
   ·exact f0
   ·have lt:∀c o,s.heap.get? c=some o->c≠s.heap.objs.size:=fun c o e=>Nat.ne_of_lt (Heap.lt_size e)
    obtain⟨q3a,q3b,q3⟩:=s3;obtain⟨o4,e4,_⟩:=s4;obtain⟨o5,e5,_⟩:=s5;simp only[List.mem_cons,List.not_mem_nil,or_false] at hc;rcases hc with r |r |r |r |r
    ·exact lt z _ s1 (r▸q)
    ·exact lt TI _ s2 (r▸q)
    ·exact lt TO _ q3 (r▸q)
    ·exact lt i1 _ e4 (r▸q)
    ·exact lt i2 _ e5 (r▸q)
 done:=by
  intro X hP hw hK hc i pins s σ H E I hf st hg;subst hP hw hK;obtain⟨s1,s2,s3,s4,s5⟩:=st;obtain⟨xs,ys,hq1,hq2,hx⟩:=hg;obtain⟨its,rv,p,hz⟩:=I.list hq1;obtain⟨jts,rw',p',hz'⟩:=I.list hq2;have hl:=rv.length;obtain⟨t3a,t3b,t3⟩:=id s3;refine wpAny_pyNext_zip_end (I.ok.hd hc) D s1 s2 t3 s4 s5 p.isList p'.isList (.inl (by simp;omega)) fun h' kp=>⟨rfl,I.turnedL (t':=s.toks) (fun c o hc e=>?_) hf⟩;simp only[List.mem_cons,List.not_mem_nil,or_false,not_or] at hc;exact kp c o hc.1 hc.2.2.1 hc.2.2.2.1 hc.2.2.2.2 e
 self:=fun A i s Q E st h=>wpAny_pyIter_zip st.zp h
section
variable {X:Cx}
def b4Y (K:Fg0)(ta:TA):TI:=fun σ H R=>ta σ H fun vs H1=>∃a b,vs=[.ref a,.ref b]/\(∃xs,SqL K H1 a xs)/\(∃ys,SqL K H1 b ys)/\R (ItY K a b) H1
theorem a4B {es:List Expr}{x1:Nat}{tp:Pos}{l m:Expr}{ta:TA}{p pos:Pos}(hg:Gl X "zip")(hm:X.mg "zip"=none)(ha:PA X [l,m] ta)(hs:starEach [l,m] X.env=(false,eval l X.env)::starEach [m] X.env:=by rfl)(hpl:(backTo pos (starEach [m] X.env)).any (·.1)=false:=by rfl) :
  PI X (.Tuple es x1 tp) (.Call (.Name "zip" p) [l,m] [] pos) (b4Y X.K ta):=by
 intro pins s σ H R I h;refine Call_ (a2c I hg hm boot_zip (PyProof.Rows.callWith_type1 (thn (ha pos pins s σ H _ I h) fun us s1 ⟨vs,H1,I1,r1,q1⟩=>?_) hs hpl));obtain⟨a,b,e,⟨xs,hq1⟩,⟨ys,hq2⟩,q⟩:=q1;subst e;obtain⟨u,v,rfl,rx,ry⟩:=a6L r1;cases rx;cases ry;obtain⟨its,rv,p1,hz⟩:=I1.list hq1;obtain⟨jts,rw',p2,hz'⟩:=I1.list hq2;have la:a<s1.heap.objs.size:=by obtain⟨o,e,_⟩:=p1.isList;exact Heap.lt_size e
 have lb:b<s1.heap.objs.size:=by obtain⟨o,e,_⟩:=p2.isList;exact Heap.lt_size e
 have D:ZipApart (s1.heap.objs.size+4) (s1.heap.objs.size+2) (s1.heap.objs.size+3) s1.heap.objs.size (s1.heap.objs.size+1) a b:=by
  generalize s1.heap.objs.size=n at la lb
  constructor<;>(intro z;simp only[Addr] at *;omega)
 refine call_zip_2 p1.isList p2.isList fun h' z1 z2 z3 z4 z5 hsz hk=>?_;have I2:Inv X pins σ H1 { s1 with heap:=h' }:=I1.kept (t':=s1.toks) hk;refine wpAny_pyIter_zip (s:={ s1 with heap:=h' }) z1 ?_;refine⟨s1.heap.objs.size+4,[s1.heap.objs.size+4,s1.heap.objs.size+2,s1.heap.objs.size+3,s1.heap.objs.size,s1.heap.objs.size+1],_,_,H1,rfl,I2,a7A a b _ _ _ _ _ D,⟨z1,z2,⟨_,_,z3⟩,z4,z5⟩,fun c hc=>?_,q⟩;have nb:s1.heap.objs.size≤c:=by
  simp only[List.mem_cons,List.not_mem_nil,or_false] at hc;rcases hc with r |r |r |r |r<;>(rw[r];first |exact Nat.le_refl _ |exact Nat.le_add_right _ _)
 exact I1.fpOk nb (I1.hok.fresh nb)
theorem a4k {K:Fg0}{a b:Addr}{xs ys:List V}{g:TG}{tb:TS}{D:a5w}{σ:St}{H:Hp}(Pv:Nat->St->Hp->Prop)(hlen:xs.length=ys.length)(h0:Pv 0 σ H)(hl:∀i σ H,i≤xs.length->Pv i σ H->SqL K H a xs/\SqL K H b ys)
  (hs:∀i x y p σ H,xs[i]? =some x->ys[i]? =some y->Pv i σ H->H p=none->g (.ref p) σ (upd H p (.tup [x,y])) fun σ2 H2=>tb { D with nx:=Pv (i+1),ct:=Pv (i+1),bk:=D.nx } σ2 H2) (hd:∀σ H,Pv xs.length σ H->D.nx σ H) :
  ∃W:Nat->Nat->St->Hp->Prop,(∃m,W 0 m σ H)/\∀i m σ H,W i m σ H →
   ((ItY K a b).stop i H/\D.nx σ H)\/((ItY K a b).go i H/\∃N:St->Hp->Prop,(∀σ' H',N σ' H'->∃m',m'<m/\W (i+1) m' σ' H')/\∀x H',(ItY K a b).yld i H x H'->g x σ H' fun σ2 H2=>tb { D with nx:=N,ct:=N,bk:=D.nx } σ2 H2):=by
 refine⟨fun i m σ H=>m=xs.length-i/\i≤xs.length/\Pv i σ H,⟨xs.length,by simp,Nat.zero_le _,h0⟩,?_⟩;rintro i m σ H ⟨rfl,hi,p⟩;obtain⟨q1,q2⟩:=hl i σ H hi p
 by_cases hlt:i<xs.length
 ·have hlt2:i<ys.length:=by omega
  refine .inr ⟨⟨xs,ys,xs[i],ys[i],q1,q2,by simp[hlt],by simp[hlt2]⟩,Pv (i+1),fun σ' H' p'=>⟨xs.length-(i+1),by omega,rfl,hlt,p'⟩,fun x H' y=>?_⟩;obtain⟨u,v,pa,hk,ex,hn,e⟩:=y;subst e ex;exact hs i u v pa σ H (hk xs ys q1 q2).1 (hk xs ys q1 q2).2 p hn
 ·have e:i=xs.length:=by omega
  subst e;exact .inl ⟨⟨xs,ys,q1,q2,Nat.le_refl _⟩,hd σ H p⟩
end
def b1s (tabs:List Addr)(H:Hp):Prop:=(∀b,H b=none\/(∃o xs,H b=some (.frz o (.lst xs)))\/(b∈tabs/\H b=some (.tbl #[])))/\∀b∈tabs,H b=some (.tbl #[])
def a5m (h:Heap)(mg:Str->Option Value):Prop:=∃bm ob,mg "__builtins__"=some (.ref bm)/\bm≠builtinsNs/\h.get? bm=some ob/\ob.cls=.type "module"/\ob.dict=some builtinsNs/\ob.data=.plain
theorem a8G {P:Program}{w:World}{K:Fg0}{mg mb:Str->Option Value}{CX:CXT}{k:Nat}{fa a:Addr}{fd:FuncData}{x:Str}{sp:Sp}{s₁:Shared}{vs:List Value}{ns:List Int}{tabs:List Addr}
  (KX:K.In s₁.heap) (hns:s₁.heap.Ns mainGlobals mg) (hb:s₁.heap.Ns builtinsNs mb) (hbb:∀x:Str,x≠"__name__"->mb x=bootBuiltins x) (hlim:s₁.heap.NoLimit) (hg:s₁.gens=#[])
  (ha:s₁.heap.get? a=some { cls:=.type "list",data:=.seq vs.toArray }) (hi:IntsAre vs ns) (hl:ns.length≤sizeLine) (hr:a1o k callerA)
  (hT:∀b∈tabs,(∃c,s₁.heap.TableAt c b #[])/\K.lookup b=none)
  (hbm:a5m s₁.heap mg)
  (F:∀base:Heap,K.In base->base.Ns mainGlobals mg->a5m base mg->a0w P w K mg base CX k fa fd [x] sp) (hbind:∀(s:Shared) (u:Value),BindsTo s fd ⟨[u],[]⟩ [(x,u)])
  (hsp:∀H:Hp,b1s tabs H->SqL K H a (ns.map V.int)->sp [.ref a] H (fun v _=>v=.bl true) fun _ _ _=>False)
  (hCX:∀H e s',CX [] H s₁ (fun _ _ _=>False) e s'->False) :
  codeAny (model P w) callerA (.call (.ref fa) ⟨[.ref a],[]⟩) (fun r s'=>r=.ok (.ret (.bool true))/\OldK s₁.heap s'.heap/\s'.os=s₁.os/\AllBare s'.gens) s₁:=by
 have rv:=a3E hi;have lenV:=hi.length;have tabG:∀b∈tabs,s₁.heap.get? b=some (PySem.W.tabObj #[]):=fun b hb=>(hT b hb).1.elim fun c h=>h.2;have core:∀H:Hp,b1s tabs H->SqL K H a (ns.map V.int)->HOk P w H s₁.heap->(∀b,H b≠none->b=a\/b∈tabs)->(H a≠none->K.lookup a=none) →
   codeAny (model P w) callerA (.call (.ref fa) ⟨[.ref a],[]⟩) (fun r s'=>r=.ok (.ret (.bool true))/\OldK s₁.heap s'.heap/\s'.os=s₁.os/\AllBare s'.gens) s₁:=by
  intro H hO hS hok hA hK;have base_of:∀{b:Addr} {o:Obj},s₁.heap.get? b=some o->H b=none->(a5Q s₁.heap H).get? b=some o:=fun e n=>a6f e n;have noA:∀{b:Addr} {o:Obj} {es:Array DictEntry} {ep:Nat},s₁.heap.get? b=some o->o.data=.dict es ep->H b=none:=fun {b o es ep} e d=>by
   cases q:H b with
   |none=>rfl
   |some u=>
    rcases hA b (by rw[q];simp) with e' |e'
    ·subst e'
     rw[ha] at e;cases e;have d':Data.seq vs.toArray _=Data.dict es ep:=d;cases d'
    ·rw[tabG b e'] at e;cases e
     have d':Data.fields #[]=Data.dict es ep:=d;cases d'
  have nsK:∀{b:Addr} {m:Str->Option Value},s₁.heap.Ns b m->(a5Q s₁.heap H).Ns b m:=fun {b m} ⟨o,es,ep,e,d,r⟩=>⟨o,es,ep,base_of e (noA e d),d,r⟩;have hKb:K.In (a5Q s₁.heap H):=fun b o e=>base_of (KX b o e) (by
   cases q:H b with
   |none=>rfl
   |some u=>
    rcases hA b (by rw[q];simp) with e' |e'
    ·subst e'
     rw[hK (by rw[q];simp)] at e;cases e
    ·rw[(hT b e').2] at e;cases e)
  have hM:Mod K mg (a5Q s₁.heap H):=⟨hKb,nsK hns,⟨mb,nsK hb,hbb⟩,let ⟨mc,h1,h2⟩:=hlim;⟨mc,nsK h1,h2⟩⟩;have e0:a7i P w K mg (a5Q s₁.heap H) callerA [] s₁ H:=⟨rfl,hM,fun b o e=>a8T e,Nat.le_of_eq (a4Z _ _),trivial,fun b hb=>absurd (show b∈([]:List Addr) from hb) (by simp),hok,.of_eq hg⟩;have hB:a5m (a5Q s₁.heap H) mg:=by
   obtain⟨bm,ob,b1,b2,b3,b4,b5,b6⟩:=hbm;refine⟨bm,ob,b1,b2,base_of b3 ?_,b4,b5,b6⟩;cases q:H bm with
   |none=>rfl
   |some u=>
    rcases hA bm (by rw[q];simp) with e' |e'
    ·rw[e',ha] at b3
     cases b3;cases b6
    ·rw[tabG bm e'] at b3
     cases b3;cases b6
  refine codeAny_mono ((F _ hKb (nsK hns) hB).run callerA [] s₁ H ⟨[.ref a],[]⟩ [.ref a] [.ref a] _ _ hr e0 (hbind s₁ (.ref a)) (.cons rfl .nil) (hsp H hO hS)) fun r s' h=>?_;cases r with
  |error e=>exact(hCX H e s' h).elim
  |ok fl=>
   cases fl with
   |next=>exact False.elim h
   |brk=>exact False.elim h
   |cont=>exact False.elim h
   |ret u=>
    obtain⟨v,H',os,bare,un,hok',r',q⟩:=h;have q':v=.bl true:=q;subst q';obtain rfl:u=Value.bool true:=r';refine⟨rfl,⟨fun b o e=>?_,fun b o e=>un.there b o e (by simp)⟩,os,bare⟩;cases q:H b with
    |none=>exact .inl (un.keep b o e q (by intro z;exact absurd (show b∈([]:List Addr) from z) (by simp)) (by simp))
    |some u=>
     rcases hO.1 b with z |⟨ob,xs,z⟩ |⟨hb,z⟩
     ·rw[q] at z;cases z
     ·have z2:=un.frzs b ob _ z
      obtain⟨e1,_⟩:=hok b _ z;obtain⟨e2,_⟩:=hok' b _ z2;rw[e] at e1;cases e1;exact .inl e2
     ·obtain⟨more,z2⟩:=un.tbls b _ z
      have e2:=hok' b _ z2;obtain⟨c,ht⟩:=(hT b hb).1;rw[tabG b hb] at e;cases e;exact .inr (.inl ⟨ht.isCodeTable,rfl,#[],more,rfl,e2⟩)
 have na:a∉tabs:=fun z=>by
  have e:=tabG a z;rw[ha] at e;have e':=congrArg Obj.data (Option.some.inj e);have e2:Data.seq vs.toArray 0=Data.fields #[]:=e';cases e2
 cases hk:K.lookup a with
 |some o=>
  have e:=KX a o hk;rw[ha] at e;cases e;refine core (fun b=>if b∈tabs then some (.tbl #[]) else none) ⟨fun b=>?_,fun b hb=>if_pos hb⟩ (.inr ⟨_,vs.toArray,_,hk,rfl,rfl,rfl,by rw[List.size_toArray,lenV];exact hl,by simpa using rv⟩) (fun b u z=>?_) (fun b z=>?_) (fun z=>absurd (if_neg na) z)
  ·by_cases hb:b∈tabs
   ·exact .inr (.inr ⟨hb,if_pos hb⟩)
   ·exact .inl (if_neg hb)
  ·by_cases hb:b∈tabs
   ·have z':=(if_pos hb).symm.trans z
    cases z';exact tabG b hb
   ·have z':=(if_neg hb).symm.trans z
    cases z'
  ·by_cases hb:b∈tabs
   ·exact .inr hb
   ·exact absurd (if_neg hb) z
 |none=>
  refine core (fun b=>if b∈tabs then some (.tbl #[]) else if b=a then some (.frz { cls:=.type "list",data:=.seq vs.toArray } (.lst (ns.map V.int))) else none) ⟨fun b=>?_,fun b hb=>if_pos hb⟩ (.inl (.inr ⟨{ cls:=.type "list",data:=.seq vs.toArray },by
   show(if a∈tabs then _ else if a=a then _ else _)=_
   rw[if_neg na,if_pos rfl]⟩)) (fun b u z=>?_) (fun b z=>?_) (fun _=>hk)
  ·by_cases hb:b∈tabs
   ·exact .inr (.inr ⟨hb,if_pos hb⟩)
   ·by_cases hb2:b=a
    ·refine .inr (.inl ⟨{ cls:=.type "list",data:=.seq vs.toArray },ns.map V.int,?_⟩)
     show(if b∈tabs then _ else if b=a then _ else _)=_
     rw[if_neg hb,if_pos hb2]
    ·refine .inl ?_
     show(if b∈tabs then _ else if b=a then _ else _)=_
     rw[if_neg hb,if_neg hb2]
  ·have z0:(if b∈tabs then some (HO.tbl #[]) else if b=a then some (.frz { cls:=.type "list",data:=.seq vs.toArray } (.lst (ns.map V.int))) else none)=some u:=z
   by_cases hb:b∈tabs
   ·rw[if_pos hb] at z0
    cases z0;exact tabG b hb
   ·rw[if_neg hb] at z0
    by_cases hb2:b=a
    ·rw[if_pos hb2] at z0
     cases z0;subst hb2;exact⟨ha,by rw[lM0];exact hl,vs,_,rv,ha⟩
    ·rw[if_neg hb2] at z0
     cases z0
  ·by_cases hb:b∈tabs
   ·exact .inr hb
   ·by_cases hb2:b=a
    ·exact .inl hb2
    ·refine absurd ?_ z
     show(if b∈tabs then _ else if b=a then _ else _)=_
     rw[if_neg hb,if_neg hb2]
theorem b2s {K:Fg0}{h:Heap}{c P:Addr}(X:K.In h)(g:h.get? P=some (PySem.W.tabObj #[]))(e:PySem.W.codeHdIn K c P=true)(n:K.lookup P=none):(∃c,h.TableAt c P #[])/\K.lookup P=none:=
 ⟨⟨c,(PySem.W.codeHd_of_K X e).tab g⟩,n⟩
theorem a9Q {l:PySem.W.OpenLaw}{n k:Nat}{q:Program}{loose:List Str}{XP:(Str->Option Value)->Heap->Prop}{YP:World->Heap->Prop}{d:DefRec}{K:Params->Fg0}{CX:World->CXT}{sp:World->Sp}{x:Str}{tx:World->List Addr}
  (hn:l.most=some n) (hn2:n≤sizeLine) (hdf:d.params.defaults=[]) (hr:a1o k callerA)
  (hY:∀(w:World) (h:Heap),YP w h->(K w.params).In h)
  (hT:∀(w:World) (h:Heap),YP w h->∀b∈tx w,(∃c,h.TableAt c b #[])/\(K w.params).lookup b=none)
  (F:∀(w:World) (mg:Str->Option Value) (fa:Addr) (h:Heap),(K w.params).In h->h.Ns mainGlobals mg->mg d.name=some (.ref fa) →
   ∃fd:FuncData,(∀(s:Shared) (u:Value),BindsTo s fd ⟨[u],[]⟩ [(x,u)]) ∧
    ∀base:Heap,(K w.params).In base->base.Ns mainGlobals mg->a5m base mg->a0w l.prog w (K w.params) mg base (CX w) k fa fd [x] (sp w))
  (hsp:∀(w:World) (H:Hp) (a:Addr) (ns:List Int),ns.length≤n->b1s (tx w) H->SqL (K w.params) H a (ns.map V.int)->sp w [.ref a] H (fun v _=>v=.bl true) fun _ _ _=>False)
  (hCX:∀(w:World) (H:Hp) (s:Shared) (e:Value) (s':Shared),CX w [] H s (fun _ _ _=>False) e s'->False) :
  PySem.W.WalkO q loose XP YP l.row.toRowW d [] (fun f vs=>PySem.call f vs):=by
 refine Att.a3e hn hdf fun w s₀ s₁ mg mb fa o pm cd doc a vs ns G Y ho hd hcd hmg hobj hints hlen hg=>?_;have KX:=hY w _ Y;obtain⟨fd,hb,hF⟩:=F w mg fa _ KX G.T.g hmg;exact a8G KX G.T.g G.T.b G.T.builtins G.T.nolimit hg hobj hints (Nat.le_trans hlen hn2) hr (hT w _ Y) G.T.bmain hF hb (fun H hO hS=>hsp w H a ns hlen hO hS) fun H e s'=>hCX w H s₁ e s'
def a4t (c:Addr)(q:Str)(h:Heap):Prop:=h.CodeRec (.ref c) q
def a8X (f:Addr)(q:Str)(params:Arguments)(body:Expr)(scope:Scope)(pm:Value)(c':Addr)(h:Heap):Prop:=∃ctv,h.get? f=some (PySem.W.kla_obj "<lambda>" q params body scope [] pm c' ctv)
section
variable {P:Program}{w:World}{H:Hp}{h:Heap}{f c:Addr}{q:Str}{params:Arguments}{body:Expr}{scope:Scope}{pm:Value}
theorem a9M (e:h.CodeRec (.ref c) q):a1q P w H h c (.ext (a4t c q)):=by
 refine⟨e,?_,fun h1 h2 x k=>?_⟩
 ·obtain⟨c',o,vs,t,e1,e2,_⟩:=e
  cases e1;exact⟨o,e2⟩
 ·obtain⟨c',o,vs,t,e1,e2,e3⟩:=x
  cases e1;exact⟨c,o,vs,t,rfl,k o e2,e3⟩
theorem a7R {ctv:Value}(e:h.get? f=some (PySem.W.kla_obj "<lambda>" q params body scope [] pm c ctv)):a1q P w H h f (.ext (a8X f q params body scope pm c)):=⟨⟨ctv,e⟩,⟨_,e⟩,fun _ _ ⟨ctv,e⟩ k=>⟨ctv,k _ e⟩⟩
end
def b5x (P:Addr)(pos:Pos)(q:Str)(params:Arguments)(body:Expr)(scope:Scope)(pm:Value):TE:=fun σ H Q=>∃ps,H P=some (.tbl ps)/\TriplesOk ps.toList ∧
 ((codeAmong pos ps.toList=none/\∀c' f,H c'=none->H f=none->c'≠f->c'≠P->f≠P->Q (.ref f) (upd (upd (upd H P (.tbl (ps++#[rawInt pos.line,rawInt pos.col,.ref c']))) c' (.ext (a4t c' q))) f (.ext (a8X f q params body scope pm c')))) ∨
  ∃c',codeAmong pos ps.toList=some (.ref c')/\∀f,H f=none->Q (.ref f) (upd H f (.ext (a8X f q params body scope pm c'))))
section
variable {X:Cx}{params:Arguments}{body:Expr}{scope:Scope}{pos:Pos}{c P:Addr}
theorem b2N (hcode:X.env.code=.ref c)(hC:PySem.W.codeHdIn X.K c P=true)(hB:a5m X.base X.mg)(hcl:closureFor scope X.env=pure []:=by rfl)(hdef:defaultsOf params X.env=([],[]):=by rfl) :
  PE X (.Lambda params body scope pos) (b5x P pos (X.env.qual++"<lambda>") params body scope ((X.mg "__name__").getD .none)):=by
 intro pins s σ H Q I h;obtain⟨ps,hp,tr,h⟩:=h;have hg:s.heap.Ns mainGlobals X.mg:=I.mod.glob.keeps I.bk;have C:=PySem.W.codeHd_of_K I.kIn hC;have hP:s.heap.get? P=some (PySem.W.tabObj ps):=I.hok P _ hp;have hgP:mainGlobals≠P:=fun z=>by
  obtain⟨o,es,ep,e,d,_⟩:=id hg;rw[z,hP] at e;cases e;cases d
 have hb:s.heap.BuiltinsAt X.mg P:=by
  obtain⟨bm,ob,b1,b2,b3,b4,b5,b6⟩:=hB;have b3':=I.bk _ _ b3;refine⟨bm,ob,b1,b2,fun z=>?_,fun z=>?_,b3',b4,b5,b6⟩
  ·obtain⟨o,es,ep,e,d,_⟩:=id hg
   rw[z,e] at b3';cases b3';rw[d] at b6;cases b6
  ·rw[z,hP] at b3'
   cases b3';cases b6
 refine PySem.W.kla_eval hdef ?_;rcases h with ⟨hnf,q⟩ |⟨c',hf,q⟩
 ·refine PySem.W.kla_makeFunction hcl I.ok.glob hg hcode C hP tr hnf hgP hb fun c' ctv h' tk hx hge hlt hrec htb=>?_
  have hcN:H c'=none:=I.hok.fresh hge;have hfN:H h'.objs.size=none:=I.hok.fresh (Nat.le_trans hge (Nat.le_of_lt hlt));have cf:c'≠h'.objs.size:=Nat.ne_of_lt hlt;have cP:c'≠P:=fun z=>by rw[z,hp] at hcN;cases hcN
  have fP:h'.objs.size≠P:=fun z=>by rw[z,hp] at hfN;cases hfN
  have keep:∀b o,b≠P->s.heap.get? b=some o->(h'.push (PySem.W.kla_obj "<lambda>" (X.env.qual++"<lambda>") params body scope [] ((X.mg "__name__").getD .none) c' ctv)).get? b=some o:=fun b o hb e=>hP0 _ (hx b o hb e);have nP:∀b,H b=none->b≠P:=fun b n z=>by rw[z,hp] at n;cases n
  have old:∀b u,H b=some u->b≠P->upd (upd (upd H P (.tbl (ps++#[rawInt pos.line,rawInt pos.col,.ref c']))) c' (.ext (a4t c' (X.env.qual++"<lambda>")))) h'.objs.size (.ext (a8X h'.objs.size (X.env.qual++"<lambda>") params body scope ((X.mg "__name__").getD .none) c')) b=some u:=fun b u e hb=>by
   rw[a0h (fun z=>by rw[z,hfN] at e;cases e),a0h (fun z=>by rw[z,hcN] at e;cases e),a0h hb];exact e
  have atP:upd (upd (upd H P (.tbl (ps++#[rawInt pos.line,rawInt pos.col,.ref c']))) c' (.ext (a4t c' (X.env.qual++"<lambda>")))) h'.objs.size (.ext (a8X h'.objs.size (X.env.qual++"<lambda>") params body scope ((X.mg "__name__").getD .none) c')) P=some (.tbl (ps++#[rawInt pos.line,rawInt pos.col,.ref c'])):=by
   rw[a0h (Ne.symm fP),a0h (Ne.symm cP),a0b]
  have noT:∀b u,H b=some u->(∀zs,u≠.tbl zs)->b≠P:=fun b u e hu z=>by
   rw[z,hp] at e;cases e;exact hu ps rfl
  refine⟨.ref h'.objs.size,_,I.un (t':=tk) ⟨fun b o e n _ _=>keep b o (nP b n) e,fun b o e n _ _=>⟨o.slots,keep b o (nP b n) e⟩,fun b o e n _=>?_,fun b o e _=>?_,fun b xs e=>old b _ e (noT b _ e fun zs z=>by cases z),fun b o u e=>old b _ e (noT b _ e fun zs z=>by cases z),fun b zs e=>?_⟩ fun b u e=>?_,rfl,q c' h'.objs.size hcN hfN cf cP fP⟩
  ·have hlt':b<s.heap.objs.size:=Heap.lt_size e
   rw[a0h (Nat.ne_of_lt (Nat.lt_of_lt_of_le hlt' (Nat.le_trans hge (Nat.le_of_lt hlt)))),a0h (Nat.ne_of_lt (Nat.lt_of_lt_of_le hlt' hge)),a0h (nP b n)];exact n
  ·by_cases hbP:b=P
   ·rw[hbP]
    exact⟨_,hP0 _ htb⟩
   ·exact⟨o,keep b o hbP e⟩
  ·by_cases hbP:b=P
   ·subst hbP
    rw[hp] at e;cases e;exact⟨_,atP⟩
   ·exact⟨#[],by rw[old b _ e hbP];simp⟩
  ·by_cases hbf:b=h'.objs.size
   ·subst hbf
    rw[a0b] at e;cases e;exact a7R (Heap.get?_push_size _ rfl)
   ·rw[a0h hbf] at e
    by_cases hbc:b=c'
    ·subst hbc
     rw[a0b] at e;cases e;exact a9M (hrec.push _)
    ·rw[a0h hbc] at e
     by_cases hbP:b=P
     ·subst hbP
      rw[a0b] at e;cases e;exact hP0 _ htb
     ·rw[a0h hbP] at e
      refine(I.hok b u e).stay (fun d v hd r=>keep d v ?_ r) (fun d r=>old d _ r (noT d _ r fun zs z=>by cases z)) fun d xs r=>old d _ r (noT d _ r fun zs z=>by cases z);rcases hd with rfl |hd
      ·exact hbP
      ·exact noT d _ hd fun zs z=>by cases z
 ·refine PySem.W.kla_makeFunctionHit hcl I.ok.glob hg hcode C hP tr hf hb fun ctv h' tk hk hsz=>?_
  have hfN:H h'.objs.size=none:=I.hok.fresh hsz;exact⟨.ref h'.objs.size,_,I.laid (a:=h'.objs.size) (t':=tk) (fun b o e=>hP0 _ (hk b o e)) hsz (a7R (Heap.get?_push_size _ rfl)),rfl,q _ hfN⟩
end
section
variable {X:Cx}{pins:List (Addr×Obj)}{σ:St}{H:Hp}{s:Shared}{Q:VK}{f c':Addr}{q x:Str}{params:Arguments}{body:Expr}{scope:Scope}{pm:Value}{u:Value}{v:V}{k:Nat}
theorem a9K {t:TE}{A:Around}{outer:List Env}(e0:a7i X.prog X.w X.K X.mg X.base A outer s H)(hr:a1o (k+1) A)(hf:H f=some (.ext (a8X f q params body scope pm c')))(hc:H c'=some (.ext (a4t c' q)))(S:a0j [x] [x] scope)
  (hb:∀(ctv u:Value),bindArgs (PySem.W.kla_fn "<lambda>" q params body scope [] pm (.ref c') ctv) ⟨[u],[]⟩=pure [(x,u)])
  (hbody:PE (a7n CX0 X.prog X.w X.K X.mg X.base [x] q scope f (.ref c') A outer s H E0).nox body t) (r:a1c v u) (ht:t [some v] H Q) :
  codeAny (model X.prog X.w) A (.call (.ref f) ⟨[u],[]⟩) (CR CX0 outer X.prog X.w H s Q E0) s:=by
 obtain⟨⟨ctv,ho⟩,_⟩:=e0.hok f _ hf;obtain⟨hcd,_⟩:=e0.hok c' _ hc;have lim:s.heap.NoLimit:=e0.mod.nolimit.keeps fun b o e=>(e0.bs b o e).1;have hkind:∀y∈([x].zip [u]),scope.names.lookup y.1=some .local\/(scope.names.lookup y.1=some .cell/\((cellsFrom (s.heap.objs.size+1) scope.names []).lookup y.1).isSome=true):=fun⟨n,v⟩ hy=>by
  rcases S.par n (List.of_mem_zip hy).1 with q |q
  ·exact .inl q
  ·exact .inr ⟨q,PySem.W.cellsFrom_some _ _ _ (.inl q)⟩
 refine PySem.W.kla_callFunE hr.depth ho rfl S.co S.gen rfl hcd ?_;rw[hb];refine wP0 (wpAny_newFunctionEnv_cells (binds:=[x].zip [u]) S.kind hkind fun env he s1 z=>?_);subst he;refine⟨lim.keeps z.toInCall.keep,PySem.W.kla_codeExpr ?_⟩;have I:Inv (a7n CX0 X.prog X.w X.K X.mg X.base [x] q scope f (.ref c') A outer s H E0) [] (a2U [x] [v]) H s1:=a5c S hr.hd e0 rfl (.cons r .nil) z;refine wpAny_mono (hbody.nox [] s1 (a2U [x] [v]) H Q I ht) (fun u' s' hs=>?_) fun e s' hs=>hs;obtain⟨v',H',J,rv,q'⟩:=hs;exact⟨v',H',J.os,J.bare,J.base,J.hok,rv,q'⟩
end
structure b1U (K:Fg0) (x qual:Str) (st:Stmt) (f:Addr) (fd:FuncData) (c:Addr):Prop where
 ex:∃(oc:Value) (od:Option Addr) (kV doc pm:Value) (an:Option Addr) (ct:Value) (osl:Array (Option Value)),
  fd=PySem.W.fnOf x qual (a0K st) (a0G st) (a0e st) .none kV doc pm an (.ref c) ct/\K.lookup f=some ⟨oc,od,.func fd,osl⟩/\PySem.W.codeIn K (.ref c) qual=true
 kp:PySem.W.keepIn K (.ref f)=true
section
variable {P:Program}{w:World}{K:Fg0}{mg:Str->Option Value}{base:Heap}
theorem b1U.fn {x qual:Str}{st:Stmt}{f c:Addr}{fd:FuncData}(F:b1U K x qual st f fd c):Fun K x qual st f fd:=by
 obtain⟨⟨oc,od,kV,doc,pm,an,ct,osl,h1,h2,h3⟩,kp⟩:=F;exact⟨⟨oc,od,kV,doc,pm,an,.ref c,ct,osl,h1,h2,h3⟩,kp⟩
theorem b1U.ok {x qual:Str}{st:Stmt}{f c:Addr}{fd:FuncData}{N ps:List Str}{k:Nat}{sp:Sp}(F:b1U K x qual st f fd c)(S:a0j N ps (a0e st))(len:∀vs H Q E,sp vs H Q E->vs.length=ps.length)
  (hbody:∀(A:Around) (outer:List Env) (s:Shared) (H:Hp) (vs:List V) (Q:VK) (E:XK),a1o k (A.deeper (envOfC qual (a0e st) s.heap.objs.size f (.ref c)))->sp vs H Q E →
   ∃t,PSs (a7n CX0 P w K mg base N qual (a0e st) f (.ref c) A outer s H E).nox (a0G st) t/\t { nx:=fun _ H'=>Q .non H',rt:=Q } (a2U N vs) H):a0w P w K mg base CX0 (k+1) f fd ps sp:=by
 obtain⟨oc,od,kV,doc,pm,an,ct,osl,rfl,lk,hcd⟩:=F.ex;refine b0Q lk hcd S len fun A outer s H vs Q E hr hsp=>?_;obtain⟨t,h,q⟩:=hbody A outer s H vs Q E hr hsp;exact⟨t,h.nox,q⟩
end
end L2
namespace L2
open PySem PySem.Spec PyProof.Rows PySem.W
theorem b5d {prog:Program}{w:World}{A:Around}{ks:List Value}{zs:List Str}{s1:Shared}(t:StrsAre ks zs):Srt.Cmp zs.length (Srt.rz zs) (kas_ask prog w A oneType' ks) (fun s'=>s'=s1):=by
 intro i j C s' hi hj hij hs' hC;subst hs';have hl:ks.length=zs.length:=t.length;obtain⟨a,ta,e1,e1'⟩:=a4q (j:=i) t (by omega);obtain⟨b,tb,e2,e2'⟩:=a4q (j:=j) t (by omega);unfold kas_ask;have g1:ks.getD i Value.none=.str a ta:=by rw[List.getD_eq_getElem?_getD,gE0 (by omega),Option.getD_some,e1]
 have g2:ks.getD j Value.none=.str b tb:=by rw[List.getD_eq_getElem?_getD,gE0 (by omega),Option.getD_some,e2]
 rw[g1,g2];refine kas_lt_str ?_;have er:Srt.rz zs i j=decide (a.cps.toList<b.cps.toList):=by
  unfold Srt.rz;rw[List.getD_eq_getElem?_getD,List.getD_eq_getElem?_getD,e1',e2',Option.getD_some,Option.getD_some]
 rw[← er];exact hC s' rfl
theorem a5p {z:Str}{t:Tok}:∀{vs:List Value} {zs:List Str},StrsAre vs zs->StrsAre (vs++[.str z t]) (zs++[z])
 |_,_,.nil=>.cons z t .nil
 |_,_,.cons y u r=>.cons y u (a5p r)
section
variable {X:Cx}{pins:List (Addr×Obj)}{σ:St}{H:Hp}{s:Shared}
theorem Inv.moved {h':Heap}{it:Addr}{t':Nat}(I:Inv X pins σ H s)(fp:a2u X pins H it)(k:∀b o,b≠it->s.heap.get? b=some o->h'.get? b=some o):Inv X pins σ H { s with heap:=h',toks:=t' }:=
 I.turned k fp.1 fp.2.1 fp.2.2.2.1 fp.2.2.2.2.1 fp.2.2.2.2.2
theorem a6b {A:Around}{E:Value->Shared->Prop}{a kS:Addr}{vs ks:List Value}{e e1:Nat}{p:Array Nat}{st:SortSt}{P:PySem.Fin->Shared->Prop}(I:Inv X pins σ H s)(fa:a2u X pins H a)(fk:a2u X pins H kS)(hka:kS≠a)
  (hk:s.heap.get? kS=some (seqObj "list" ks.toArray e)) (ha:s.heap.get? a=some (seqObj "list" #[] e1)) (hl:ks.length=vs.length) (h64:vs.length<64) (hp:p.size=vs.length) (har:arrOf st=p.map (kas_item (ks.toArray.zip vs.toArray))) (hf:failedOf st=none)
  (h:∀(s':Shared) (e:Nat),Inv X pins σ H s'->s'.heap.get? a=some (seqObj "list" (List.toArray (p.toList.map fun i=>vs.getD i Value.none)) e)->P (.done (.ret .none)) s') :
  wpAny (model X.prog X.w) A (ksk_tail a false e1 (.ref kS) st) P E s:=by
 have hout:=kat_snds (vs:=vs) (ks:=ks) hl har;unfold ksk_tail
 try dsimp only
 have s1:=Heap.SameBut.update s.heap kS (Obj.mapSeq fun _=>(#[]:Array Value));have ha1:(s.heap.update kS (Obj.mapSeq fun _=>(#[]:Array Value))).get? a=some (seqObj "list" #[] e1):=(s1.2 a hka.symm).trans ha;refine wB0 (listUpdate_at hk rfl ?_ (by rw[List.size_toArray,hl,sizeLine_eq];omega) (Nat.zero_le _));refine wB0 (wpAny_letGo ?_);refine wB0 (seqEpoch_at ha1 rfl ?_);simp only[Bool.false_eq_true,if_false];rw[hout];have s2:=Heap.SameBut.update (s.heap.update kS (Obj.mapSeq fun _=>(#[]:Array Value))) a (Obj.mapSeq fun _=>List.toArray (p.toList.map fun i=>vs.getD i Value.none));obtain⟨c2,hc2⟩:∃c2,((s.heap.update kS (Obj.mapSeq fun _=>(#[]:Array Value))).update a (Obj.mapSeq fun _=>List.toArray (p.toList.map fun i=>vs.getD i Value.none))).get? a=some (seqObj "list" (List.toArray (p.toList.map fun i=>vs.getD i Value.none)) c2):=
  ⟨_,get?_update_seq ha1 fun _=>List.toArray (p.toList.map fun i=>vs.getD i Value.none)⟩
 refine wB0 (listUpdate_at ha1 rfl ?_ (Nat.zero_le _) (by rw[List.size_toArray,lM0,Array.length_toList,hp,sizeLine_eq];omega));rw[hf];simp only[bne_self_eq_false,Bool.false_eq_true,if_false];have I1:Inv X pins σ H { s with heap:=s.heap.update kS (Obj.mapSeq fun _=>(#[]:Array Value)) }:=I.moved (t':=s.toks) fk fun b o hb q=>(s1.2 b hb).trans q;exact wP0 (h _ c2 (I1.moved (t':=s.toks) fa fun b o hb q=>(s2.2 b hb).trans q) hc2)
theorem a4a {A:Around}{E:Value->Shared->Prop}{a:Addr}{vs:List Value}{n:Nat}{f:Value}{zs:List Str}{P:PySem.Fin->Shared->Prop}(I:Inv X pins σ H s)(fa:a2u X pins H a)(ho:s.heap.get? a=some (seqObj "list" vs.toArray n))(hlen:zs.length=vs.length)(nd:zs.Nodup)(h64:vs.length<64)
  (turn:∀(i:Nat) (v:Value) (z:Str),vs[i]? =some v->zs[i]? =some z->∀s':Shared,Inv X pins σ H s'->wpAny (model X.prog X.w) A (call f [v]) (fun k s''=>(∃t,k=.str z t)/\Inv X pins σ H s''/\∀b o,a2u X pins H b->s'.heap.get? b=some o->s''.heap.get? b=some o) (fun _ _=>False) s')
  (h:∀(p:Array Nat) (s':Shared) (e:Nat),Srt.PN vs.length p->Srt.Up (Srt.rz zs) p vs.length->Inv X pins σ H s'->s'.heap.get? a=some (seqObj "list" (List.toArray (p.toList.map fun i=>vs.getD i Value.none)) e)->P (.done (.ret .none)) s') :
  wpAny (model X.prog X.w) A (ksk_tree a f false) P E s:=by
 have haL:a<s.heap.objs.size:=Heap.lt_size ho;have s1:=Heap.SameBut.update s.heap a (Obj.mapSeq fun _=>(#[]:Array Value));obtain⟨e1,ho1⟩:∃e1,(s.heap.update a (Obj.mapSeq fun _=>(#[]:Array Value))).get? a=some (seqObj "list" #[] e1):=⟨_,get?_update_seq ho fun _=>#[]⟩;have I1:Inv X pins σ H { s with heap:=s.heap.update a (Obj.mapSeq fun _=>(#[]:Array Value)) }:=I.moved (t':=s.toks) fa fun b o hb q=>(s1.2 b hb).trans q;have I2:Inv X pins σ H { s with heap:=(s.heap.update a (Obj.mapSeq fun _=>(#[]:Array Value))).push (seqObj "tuple" vs.toArray 0) }:=I1.kept (t':=s.toks) fun b o q=>hP0 _ q;have I3:Inv X pins σ H { s with heap:=((s.heap.update a (Obj.mapSeq fun _=>(#[]:Array Value))).push (seqObj "tuple" vs.toArray 0)).push (seqObj "list" #[] 0) }:=I2.kept (t':=s.toks) fun b o q=>hP0 _ q;have fk:a2u X pins H ((s.heap.update a (Obj.mapSeq fun _=>(#[]:Array Value))).push (seqObj "tuple" vs.toArray 0)).objs.size:=I2.fpOk (Nat.le_refl _) (I2.hok.fresh (Nat.le_refl _));have hkS:((s.heap.update a (Obj.mapSeq fun _=>(#[]:Array Value))).push (seqObj "tuple" vs.toArray 0)).objs.size=s.heap.objs.size+1:=by rw[size_push',Heap.size_update]
 have hka:((s.heap.update a (Obj.mapSeq fun _=>(#[]:Array Value))).push (seqObj "tuple" vs.toArray 0)).objs.size≠a:=by rw[hkS];exact Nat.ne_of_gt (Nat.lt_succ_of_lt haL)
 unfold ksk_tree;refine wB0 (listItems_at ho rfl ?_);refine wB0 (listUpdate_at ho rfl ?_ (by rw[List.size_toArray,sizeLine_eq];omega) (Nat.zero_le _));refine wB0 (seqEpoch_at ho1 rfl ?_);refine wB0 (wpAny_newTuple ?_ (by show vs.length≤_;rw[sizeLine_eq];omega));refine wB0 (wpAny_newList ?_ (Nat.zero_le _));refine wpAny_holding ?_;generalize ekS:((s.heap.update a (Obj.mapSeq fun _=>(#[]:Array Value))).push (seqObj "tuple" vs.toArray 0)).objs.size=kS at fk hka;show wpAny (model X.prog X.w) A (ksk_rest a f false vs.toArray e1 (.ref kS)) P E { s with heap:=((s.heap.update a (Obj.mapSeq fun _=>(#[]:Array Value))).push (seqObj "tuple" vs.toArray 0)).push (seqObj "list" #[] 0) };have hk0:(((s.heap.update a (Obj.mapSeq fun _=>(#[]:Array Value))).push (seqObj "tuple" vs.toArray 0)).push (seqObj "list" #[] 0)).get? kS=some (seqObj "list" #[] 0):=by rw[← ekS];exact Heap.get?_push_size _ rfl
 have ha0:(((s.heap.update a (Obj.mapSeq fun _=>(#[]:Array Value))).push (seqObj "tuple" vs.toArray 0)).push (seqObj "list" #[] 0)).get? a=some (seqObj "list" #[] e1):=hP0 _ (hP0 _ ho1);unfold ksk_rest;refine wB0 (wpAny_rule ?_)
 first
  |rw[List.forIn_toArray]
  | (rw[← Array.forIn_toList];simp only[List.toList_toArray])
  |rw[← Array.forIn_toList]
 refine wB0 (ksk_fold (fun i s'=>∃(kA:List Value) (e:Nat),Inv X pins σ H s'/\s'.heap.get? kS=some (seqObj "list" kA.toArray e)/\s'.heap.get? a=some (seqObj "list" #[] e1)/\StrsAre kA (zs.take i)) vs 0 _ ⟨[],0,I3,hk0,ha0,by simpa using StrsAre.nil⟩ ?step ?done)
 case step=>
  rintro j x s' hx ⟨kA,e,J,hk,ha,hs⟩;simp only[Nat.zero_add] at hs ⊢;have hj:j<vs.length:=(gS0.mp hx).1;obtain⟨z,hz⟩:∃z,zs[j]? =some z:=⟨_,gE0 (by omega)⟩;have hsz:kA.length≤vs.length:=by
   have h1:kA.length=(zs.take j).length:=hs.length;rw[List.length_take] at h1
   omega
  refine wB0 (wpAny_attempt (wpAny_mono (turn j x z hx hz s' J) (fun v s'' he=>?_) fun _ _ hF=>hF.elim));obtain⟨⟨t,rfl⟩,J2,kp⟩:=he
  try dsimp only
  have hk2:=kp kS _ fk hk;have ha2:=kp a _ fa ha;have u1:=Heap.SameBut.update s''.heap kS (Obj.mapSeq (·.push (.str z t)));obtain⟨c2,hc2⟩:∃c2,(s''.heap.update kS (Obj.mapSeq (·.push (.str z t)))).get? kS=some (seqObj "list" (kA.toArray.push (.str z t)) c2):=⟨_,get?_update_seq hk2 (·.push (.str z t))⟩;have ek:zs.take (j+1)=zs.take j++[z]:=by rw[List.take_add_one,hz];simp
  refine wB0 (listUpdate_at hk2 rfl ?_ (by rw[List.size_toArray,sizeLine_eq];omega) (Nat.le_trans (Nat.le_of_eq (Array.size_push ..)) (by rw[List.size_toArray,sizeLine_eq];omega)));exact wP0 ⟨rfl,kA++[.str z t],c2,J2.moved (t':=s''.toks) fk fun b o hb q=>(u1.2 b hb).trans q,by rw[hc2];simp,(u1.2 a hka.symm).trans ha2,by rw[ek];exact a5p hs⟩
 case done=>
  rintro s' ⟨kA,e,J,hk,ha,hs⟩;have hs':StrsAre kA zs:=by
   have e3:zs.take (0+vs.length)=zs:=List.take_of_length_le (by omega);rw[e3] at hs;exact hs
  have hl:kA.length=vs.length:=by have h1:kA.length=zs.length:=hs'.length;omega
  try dsimp only
  refine wB0 (listItems_at hk rfl ?_);unfold ksk_end
  try dsimp only
  rw[if_neg (by decide)]
  by_cases h2:vs.toArray.size<2
  ·rw[if_pos h2,if_pos h2]
   refine wB0 (wP0 ?_);rw[StateT.run_pure];refine wB0 (wP0 ?_)
   try dsimp only
   simp only[Bool.false_eq_true,if_false];refine a6b (vs:=vs) (ks:=kA) (p:=List.toArray (List.range vs.length)) J fa fk hka hk ha hl h64 (by simp) (by
    have e:=kas_range (kA.toArray.zip vs.toArray);rw[show(kA.toArray.zip vs.toArray).size=vs.length by simp[hl]] at e;exact e.symm) rfl fun s3 e3 J3 g3=>h (List.toArray (List.range vs.length)) s3 e3 (by unfold Srt.PN;simp) (fun i j hij hj=>?_) J3 g3
   rw[List.size_toArray] at h2;have ei:i=0:=by omega
   have ej:j=0:=by omega
   subst ei ej;unfold Srt.rz;rw[decide_eq_false_iff_not];exact List.lt_irrefl _
  ·have hn2:2≤vs.length:=by rw[List.size_toArray] at h2;omega
   rw[if_neg h2,if_neg h2];obtain⟨v₁,v₂,rest,ev⟩:∃v₁ v₂ rest,kA=v₁::v₂::rest:=by
    match kA,hl with
    |[],hl=>simp at hl;omega
    |[_],hl=>simp at hl;omega
    |v₁::v₂::rest,_=>exact⟨v₁,v₂,rest,rfl⟩
   have hkk:keyKind' kA.toArray=pure oneType':=by rw[ev];exact keyKind_strs (by rw[← ev];exact hs')
   rw[hkk];refine wB0 (wP0 ?_);simp only[Bool.false_eq_true,if_false];refine wB0 (wpAny_mono (kat_run (prog:=X.prog) (w:=X.w) (A:=A) (E:=E) (κ:=oneType') (ks:=kA) (vs:=vs) (s:=s')
    (Q:=fun st' s''=>∃p:Array Nat,p.size=vs.length/\arrOf st'=p.map (kas_item (kA.toArray.zip vs.toArray))/\failedOf st'=none/\Srt.PN vs.length p/\Srt.Up (Srt.rz zs) p vs.length/\s''=s')
    (G:=fun p s''=>Srt.PN vs.length p/\Srt.Up (Srt.rz zs) p vs.length/\s''=s')
    hl hn2 h64 (fun p' st' s'' a1 a2 a3 a4=>⟨p',a1,a2,a3,a4⟩) ?_) ?_ fun _ _ e=>e)
   ·rw[← hlen]
    exact Srt.b5l (Srt.b3l nd) (b5d (s1:=s') hs') (by omega) rfl fun p' s'' b1 b2 b3=>⟨b1,b2,b3⟩
   ·rintro⟨⟨⟩,st'⟩ s'' ⟨p,hp,har,hf,pn,up,rfl⟩
    try dsimp only
    exact a6b (vs:=vs) (ks:=kA) J fa fk hka hk ha hl h64 hp har hf fun s3 e3 J3 g3=>h p s3 e3 pn up J3 g3
end
section
variable {X:Cx}{pins:List (Addr×Obj)}{σ:St}{H:Hp}{s:Shared}{f c':Addr}{q x:Str}{params:Arguments}{body:Expr}{scope:Scope}{pm:Value}{k:Nat}
theorem a9D {t:TE}{A:Around}{u:Value}{v:V}{z:Str}(I:Inv X pins σ H s)(e0:a7i X.prog X.w X.K X.mg X.base A X.stack s H)(hr:a1o (k+1) A)(hf:H f=some (.ext (a8X f q params body scope pm c')))(hc:H c'=some (.ext (a4t c' q)))(S:a0j [x] [x] scope)
  (hb:∀(ctv u:Value),bindArgs (PySem.W.kla_fn "<lambda>" q params body scope [] pm (.ref c') ctv) ⟨[u],[]⟩=pure [(x,u)])
  (hbody:PE (a7n CX0 X.prog X.w X.K X.mg X.base [x] q scope f (.ref c') A X.stack s H E0).nox body t) (r:a1c v u) (ht:t [some v] H fun v' H'=>v'=.str z/\H'=H) :
  wpAny (model X.prog X.w) A (call (.ref f) [u]) (fun k s''=>(∃t,k=.str z t)/\Inv X pins σ H s''/\∀b o,a2u X pins H b->s.heap.get? b=some o->s''.heap.get? b=some o) (fun _ _=>False) s:=by
 refine wpAny_call (codeAny_mono (a9K e0 hr hf hc S hb hbody r ht) fun r s' hq=>?_);cases r with
 |error e=>exact hq
 |ok fl=>
  cases fl with
  |ret w'=>
   have hq':CE X.stack X.prog X.w H s (fun v' H'=>v'=.str z/\H'=H) w' s':=hq;obtain⟨v1,H1,J,rv,rfl,rfl⟩:=I.after hq';obtain⟨v2,H2,os,bare,un,hok,rv2,rfl,rfl⟩:=hq';refine⟨rv,J,fun b o fb e=>un.keep b o e fb.1 (fun hm=>?_) (by simp)⟩;rcases List.mem_cons.mp (I.stkSub b hm) with y |y
   ·exact fb.2.1 y
   ·exact fb.2.2.1 y
  |next=>exact False.elim hq
  |brk=>exact False.elim hq
  |cont=>exact False.elim hq
theorem a7h {p:Addr}{xs:List V}{zs:List Str}{fv:Value}{Q:VK}(I:Inv X pins σ H s)(hp:SqL X.K H p xs)(hlen:zs.length=xs.length)(nd:zs.Nodup)(h64:xs.length<64)(hfv:∃f,fv=.ref f)
  (turn:∀(i:Nat) (v:V) (u:Value) (z:Str),xs[i]? =some v->a1c v u->zs[i]? =some z->∀s':Shared,Inv X pins σ H s'->wpAny (model X.prog X.w) X.A.in1.in1 (call fv [u]) (fun k s''=>(∃t,k=.str z t)/\Inv X pins σ H s''/\∀b o,a2u X pins H b->s'.heap.get? b=some o->s''.heap.get? b=some o) (fun _ _=>False) s')
  (h:∀(l:Addr) (ix:List Nat),H l=none->ix.Perm (List.range xs.length)->b1B (ix.map fun i=>zs.getD i "")->Q (.ref l) (upd H l (.lst (ix.map fun i=>xs.getD i .non)))) :
  wpAny (model X.prog X.w) X.A (call (.builtin "sorted") [.ref p] [(Str.ofString "key",fv)]) (EP X pins σ Q) X.xe s:=by
 obtain⟨f,rfl⟩:=hfv;obtain⟨vs,r',pl,hz⟩:=I.list hp;have hl:=r'.length;refine call_function_entry_kw kind_sorted plain_sorted entry_sorted (ksk_s1 _ _) ?_;unfold Builtin.«sorted»;refine wB0 (m:=checkCount "sorted" 1 1 _) (wP0 ?_);refine wB0 (collect_list pl.isList ?_ (by rw[sizeLine_eq];omega));refine wB0 (wpAny_newList ?_ (by rw[sizeLine_eq];omega));have hsz:((s.heap.push (seqObj "list" #[] 0)).update s.heap.objs.size (Obj.mapSeq (·++vs.toArray))).objs.size=s.heap.objs.size+1:=by
  rw[Heap.size_update,size_push']
 have hoL:(((s.heap.push (seqObj "list" #[] 0)).update s.heap.objs.size (Obj.mapSeq (·++vs.toArray))).push (seqObj "list" vs.toArray 0)).get? (s.heap.objs.size+1)=some (seqObj "list" vs.toArray 0):=by
  rw[← hsz];exact Heap.get?_push_size _ rfl
 have keep:∀b o,s.heap.get? b=some o->(((s.heap.push (seqObj "list" #[] 0)).update s.heap.objs.size (Obj.mapSeq (·++vs.toArray))).push (seqObj "list" vs.toArray 0)).get? b=some o:=fun b o q=>by
  have hlt:b<s.heap.objs.size:=Heap.lt_size q;rw[Heap.get?_push_ne _ _ _ (by rw[hsz];exact Nat.ne_of_lt (Nat.lt_succ_of_lt hlt)),Heap.get?_update_ne _ _ _ _ (Nat.ne_of_lt hlt),Heap.get?_push_ne _ _ _ (Nat.ne_of_lt hlt)];exact q
 have I2:Inv X pins σ H { s with heap:=((s.heap.push (seqObj "list" #[] 0)).update s.heap.objs.size (Obj.mapSeq (·++vs.toArray))).push (seqObj "list" vs.toArray 0) }:=I.kept (t':=s.toks) keep;have fa:a2u X pins H (s.heap.objs.size+1):=I.fpOk (Nat.le_succ _) (I.hok.fresh (Nat.le_succ _));have our:Our X pins H (s.heap.objs.size+1):=⟨Nat.le_trans I.sz (Nat.le_succ _),fa.2.1,fa.2.2.2.2.1,fa.2.2.2.2.2,fa.1⟩;show wpAny _ _ _ _ _ { s with heap:=((s.heap.push (seqObj "list" #[] 0)).update s.heap.objs.size (Obj.mapSeq (·++vs.toArray))).push (seqObj "list" vs.toArray 0) };rw[hsz];refine wB0 (wpAny_holding (wpAny_call_entry_kw slot_list_sort ⟨_,hoL,rfl⟩ entry_list_sort ?body (ksk_l1 _ _)))
 case body=>
  show wpAny (model X.prog X.w) X.A.in1.in1 (Builtin.«list.sort» ⟨[.ref (s.heap.objs.size+1)],[(Str.ofString "key",.ref f)]⟩) _ _ _;rw[ksk_t1];refine a4a (zs:=zs) I2 fa hoL (by omega) nd (by omega) (fun i v z hv hzi s' J=>?_) fun p' s3 e pn up J3 g3=>⟨_,rfl,?_⟩
  ·have hi:i<vs.length:=(gS0.mp hv).1
   obtain⟨u,hu,ru⟩:=r'.get (i:=i) (x:=xs[i]'(by omega)) (by simp);rw[hv] at hu;cases hu;exact turn i (xs[i]'(by omega)) v z (by simp) ru hzi s' J
  ·have hs:=pn.size
   have lt:∀i∈p'.toList,i<vs.length:=fun i hi=>List.mem_range.mp (pn.mem_iff.mp hi);refine wP0 ⟨_,rfl,.ref (s.heap.objs.size+1),_,J3.track our (o:=.lst (p'.toList.map fun i=>xs.getD i .non)) ?_,rfl,h _ p'.toList (I.hok.fresh (Nat.le_succ _)) (by rw[hl];exact pn) ?_⟩
   ·refine⟨by rw[lM0,Array.length_toList,hs,← hl];exact hz,_,e,?_,g3⟩
    exact a4r r' _ fun i hi=>by have:=lt i hi;omega
   ·unfold b1B
    rw[List.pairwise_map,List.pairwise_iff_getElem];intro i j hi hj hij;have hi':i<p'.size:=by simpa using hi
    have hj':j<p'.size:=by simpa using hj
    have h0:=up i j (by omega) (by omega);unfold Srt.rz at h0;rw[decide_eq_false_iff_not,Srt.a1W hi',Srt.a1W hj'] at h0;rw[Array.getElem_toList,Array.getElem_toList];exact h0
def b2e (K:Fg0)(q:Str)(params:Arguments)(body:Expr)(scope:Scope)(pm:Value)(te tl tb:TE):TE:=fun σ H Q=>te σ H fun y H1=>tl σ H1 fun g H2=>∃(p f c':Addr) (xs:List V) (zs:List Str),y=.ref p/\g=.ref f ∧
 H2 f=some (.ext (a8X f q params body scope pm c'))/\H2 c'=some (.ext (a4t c' q))/\SqL K H2 p xs/\zs.length=xs.length/\zs.Nodup/\xs.length<64 ∧
 (∀(i:Nat) (v:V) (z:Str),xs[i]? =some v->zs[i]? =some z->tb [some v] H2 fun v' H'=>v'=.str z/\H'=H2) ∧
 ∀(l:Addr) (ix:List Nat),H2 l=none->ix.Perm (List.range xs.length)->b1B (ix.map fun i=>zs.getD i "")->Q (.ref l) (upd H2 l (.lst (ix.map fun i=>xs.getD i .non)))
theorem a6Z {e lam:Expr}{te tl tb:TE}{np kpos pos:Pos}(hr:a1o (k+3) X.A)(hg:Gl X "sorted")(hm:X.mg "sorted"=none)(he:PE X e te)(hlam:PE X lam tl)(S:a0j [x] [x] scope)
  (hb:∀(c':Addr) (ctv u:Value),bindArgs (PySem.W.kla_fn "<lambda>" q params body scope [] pm (.ref c') ctv) ⟨[u],[]⟩=pure [(x,u)])
  (hbody:∀(f c':Addr) (s:Shared) (H:Hp),PE (a7n CX0 X.prog X.w X.K X.mg X.base [x] q scope f (.ref c') X.A.in1.in1 X.stack s H E0).nox body tb) (hstar:starEach [e] X.env=[(false,eval e X.env)]:=by rfl) :
  PE X (.Call (.Name "sorted" np) [e] [⟨some "key",lam,kpos⟩] pos) (b2e X.K q params body scope pm te tl tb):=by
 intro pins s σ H Q I h;refine wpAny_Call_Name_kw (a2c I hg hm (show bootBuiltins "sorted"=some (.builtin "sorted") by decide +kernel) ?_ (by decide) (by decide));refine callWith_kw (e:=e) (rest:=[]) (kws:=[⟨some "key",lam,kpos⟩]) ?_ (by rw[hstar];rfl) (by rw[hstar];rfl);rw[hstar];show wpAny _ _ (spliced [(false,eval e X.env)]) _ _ s;refine Calls.spliced_cons (thn (he pins s σ H _ I h) fun u s1 ⟨y,H1,I1,ry,q1⟩=>Calls.spliced_nil ?_);show wpAny _ _ (evalAll [(do let v ← eval lam X.env;standAt pos;pure v)]) _ _ s1;refine wpAny_evalAll_cons (wB0 (thn (hlam pins s1 σ H1 _ I1 q1) fun gv s2 ⟨g,H2,I2,rg,q2⟩=>wB0 (wpAny_standAt (wP0 (wpAny_evalAll_nil ?_)))));obtain⟨p,f,c',xs,zs,rfl,rfl,hf,hc,hp,hlen,nd,h64,ht,hq⟩:=q2;cases ry;cases rg;have hr1:a1o (k+1) X.A.in1.in1:=hr.in1.in1;exact a7h I2 hp hlen nd h64 ⟨f,rfl⟩ (fun i v u z hv ru hz s' J=>a9D J J.env0.in1.in1 hr1 hf hc S (hb c') (hbody f c' s' H2) ru (ht i v z hv hz)) hq
end
end L2
namespace L2
open PySem PySem.Spec PyProof.Rows
section
variable {K:Fg0}{a b:Addr}{x y:V}{g:TG}{tb:TS}{D:a5w}{σ:St}{H:Hp}
theorem a7U (hl:SqL K H a [])(hq:D.nx σ H) :
  ∃W:Nat->Nat->St->Hp->Prop,(∃m,W 0 m σ H)/\∀i m σ H,W i m σ H →
   ((Itl K a).stop i H/\D.nx σ H)\/((Itl K a).go i H/\∃N:St->Hp->Prop,(∀σ' H',N σ' H'->∃m',m'<m/\W (i+1) m' σ' H')/\∀x H',(Itl K a).yld i H x H'->g x σ H' fun σ2 H2=>tb { D with nx:=N,ct:=N,bk:=D.nx } σ2 H2):=
 a1v (K:=K) (a:=a) (xs:=[]) (fun i σ' H'=>σ'=σ/\H'=H) ⟨rfl,rfl⟩ (fun i σ' H' _ p=>by rw[p.2];exact hl) (fun i x σ' H' h=>nomatch h) fun σ' H' p=>by rw[p.1,p.2];exact hq
theorem a4S (hl:SqL K H a [x])(hs:g x σ H fun σ2 H2=>tb { D with nx:=fun σ' H'=>SqL K H' a [x]/\D.nx σ' H',ct:=fun σ' H'=>SqL K H' a [x]/\D.nx σ' H',bk:=D.nx } σ2 H2) :
  ∃W:Nat->Nat->St->Hp->Prop,(∃m,W 0 m σ H)/\∀i m σ H,W i m σ H →
   ((Itl K a).stop i H/\D.nx σ H)\/((Itl K a).go i H/\∃N:St->Hp->Prop,(∀σ' H',N σ' H'->∃m',m'<m/\W (i+1) m' σ' H')/\∀x H',(Itl K a).yld i H x H'->g x σ H' fun σ2 H2=>tb { D with nx:=N,ct:=N,bk:=D.nx } σ2 H2):=
 a1v (K:=K) (a:=a) (xs:=[x]) (fun i σ' H'=>match i with |0=>σ'=σ/\H'=H |_=>SqL K H' a [x]/\D.nx σ' H') ⟨rfl,rfl⟩ (fun i σ' H' _ p=>by
   match i,p with
   |0,p=>rw[p.2];exact hl
   |i+1,p=>exact p.1) (fun i z σ' H' h p=>by
   match i,h,p with
   |0,h,p=>
    cases h;rw[p.1,p.2];exact hs
   |i+1,h,p=>cases h) fun σ' H' p=>p.2
theorem a9s (hl:SqT K H a [x])(hs:g x σ H fun σ2 H2=>tb { D with nx:=fun σ' H'=>SqT K H' a [x]/\D.nx σ' H',ct:=fun σ' H'=>SqT K H' a [x]/\D.nx σ' H',bk:=D.nx } σ2 H2) :
  ∃W:Nat->Nat->St->Hp->Prop,(∃m,W 0 m σ H)/\∀i m σ H,W i m σ H →
   ((Itt K a).stop i H/\D.nx σ H)\/((Itt K a).go i H/\∃N:St->Hp->Prop,(∀σ' H',N σ' H'->∃m',m'<m/\W (i+1) m' σ' H')/\∀x H',(Itt K a).yld i H x H'->g x σ H' fun σ2 H2=>tb { D with nx:=N,ct:=N,bk:=D.nx } σ2 H2):=
 b1D (K:=K) (a:=a) (xs:=[x]) (fun i σ' H'=>match i with |0=>σ'=σ/\H'=H |_=>SqT K H' a [x]/\D.nx σ' H') ⟨rfl,rfl⟩ (fun i σ' H' _ p=>by
   match i,p with
   |0,p=>rw[p.2];exact hl
   |i+1,p=>exact p.1) (fun i z σ' H' h p=>by
   match i,h,p with
   |0,h,p=>
    cases h;rw[p.1,p.2];exact hs
   |i+1,h,p=>cases h) fun σ' H' p=>p.2
theorem a6K {o:Obj}{k:Key}{v:V}(hl:H a=some (.frz o (.dK [(k,v)])))(hs:∀p,H p=none->g (.ref p) σ (upd H p (.tup [kV k,v])) fun σ2 H2=>tb { D with nx:=fun σ' H'=>H' a=some (.frz o (.dK [(k,v)]))/\D.nx σ' H',ct:=fun σ' H'=>H' a=some (.frz o (.dK [(k,v)]))/\D.nx σ' H',bk:=D.nx } σ2 H2) :
  ∃W:Nat->Nat->St->Hp->Prop,(∃m,W 0 m σ H)/\∀i m σ H,W i m σ H →
   ((Itm a o [(k,v)]).stop i H/\D.nx σ H)\/((Itm a o [(k,v)]).go i H/\∃N:St->Hp->Prop,(∀σ' H',N σ' H'->∃m',m'<m/\W (i+1) m' σ' H')/\∀x H',(Itm a o [(k,v)]).yld i H x H'->g x σ H' fun σ2 H2=>tb { D with nx:=N,ct:=N,bk:=D.nx } σ2 H2):=
 a5j (a:=a) (o:=o) (kvs:=[(k,v)]) (fun i σ' H'=>match i with |0=>σ'=σ/\H'=H |_=>H' a=some (.frz o (.dK [(k,v)]))/\D.nx σ' H') ⟨rfl,rfl⟩ (fun i σ' H' _ p=>by
   match i,p with
   |0,p=>rw[p.2];exact hl
   |i+1,p=>exact p.1) (fun i k' v' p1 σ' H' h p hp=>by
   match i,h,p with
   |0,h,p=>
    cases h;rw[p.1,p.2];rw[p.2] at hp;exact hs p1 hp
   |i+1,h,p=>cases h) fun σ' H' p=>p.2
theorem a7u (h1:SqL K H a [x])(h2:SqL K H b [y])(hs:∀p,H p=none->g (.ref p) σ (upd H p (.tup [x,y])) fun σ2 H2=>tb { D with nx:=fun σ' H'=>(SqL K H' a [x]/\SqL K H' b [y])/\D.nx σ' H',ct:=fun σ' H'=>(SqL K H' a [x]/\SqL K H' b [y])/\D.nx σ' H',bk:=D.nx } σ2 H2) :
  ∃W:Nat->Nat->St->Hp->Prop,(∃m,W 0 m σ H)/\∀i m σ H,W i m σ H →
   ((ItY K a b).stop i H/\D.nx σ H)\/((ItY K a b).go i H/\∃N:St->Hp->Prop,(∀σ' H',N σ' H'->∃m',m'<m/\W (i+1) m' σ' H')/\∀x H',(ItY K a b).yld i H x H'->g x σ H' fun σ2 H2=>tb { D with nx:=N,ct:=N,bk:=D.nx } σ2 H2):=
 a4k (K:=K) (a:=a) (b:=b) (xs:=[x]) (ys:=[y]) (fun i σ' H'=>match i with |0=>σ'=σ/\H'=H |_=>(SqL K H' a [x]/\SqL K H' b [y])/\D.nx σ' H') rfl ⟨rfl,rfl⟩ (fun i σ' H' _ p=>by
   match i,p with
   |0,p=>rw[p.2];exact⟨h1,h2⟩
   |i+1,p=>exact p.1) (fun i k' v' p1 σ' H' hx hy p hp=>by
   match i,hx,hy,p with
   |0,hx,hy,p=>
    cases hx;cases hy;rw[p.1,p.2];rw[p.2] at hp;exact hs p1 hp
   |i+1,h,_,p=>cases h) fun σ' H' p=>p.2
end
theorem a1I {J:It}{g:TG}{te:TE}{R:Addr->Hp->Prop}{D:Addr}{σ0:St}{H0:Hp}(hD0:H0 D=some (.lst []))(go:J.go 0 H0)
  (hs:∀x H',J.yld 0 H0 x H'->g x σ0 H' fun σ2 H2=>te σ2 H2 fun y H4=>H4 D=some (.lst [])/\J.stop 1 (upd H4 D (.lst [y]))/\R D (upd H4 D (.lst [y]))):a6R J g b3t te R D σ0 H0:=
 a1x 1 (fun i ys σ H=>match i with |0=>σ=σ0/\H=H0 |_=>J.stop 1 H/\R D H) (by decide) ⟨rfl,rfl⟩ hD0 (fun i σ H ys hi p hl hD=>by
  match i,p,hl,hi with
  |0,p,hl,_=>
   have:ys=[]:=List.length_eq_zero_iff.mp hl
   subst this;rw[p.1,p.2];exact⟨go,hs⟩
  |i+1,_,_,hi=>omega) fun σ H ys p _ _=>p
theorem a0o.put {H H1:Hp}{p:Addr}{o:HO}(s:a0o H H1)(h:H p=none):a0o H (L2.upd H1 p o):=fun b u e=>by
 rw[a0h (a0x e h)];exact s _ _ e
def cut (H0 H:Hp):Hp:=fun b=>match H0 b with |none=>H b |some _=>none
theorem a0t {H0 H:Hp}:a0o (cut H0 H) H:=fun b o e=>by
 unfold cut at e
 split at e
 ·exact e
 ·cases e
theorem a0T {H0 H:Hp}{b:Addr}{o:HO}(e:cut H0 H b=some o):H0 b=none:=by
 unfold cut at e
 split at e
 ·assumption
 ·cases e
theorem a0J {H0 H:Hp}{b:Addr}{o:HO}(h0:H0 b=none)(e:H b=some o):cut H0 H b=some o:=by
 unfold cut;rw[h0];exact e
theorem a1F {H0 H H':Hp}(s:a0o H H'):a0o (cut H0 H) (cut H0 H'):=fun b o e=>a0J (a0T e) (s _ _ (a0t _ _ e))
theorem a1e {H0 H1:Hp}{b:Addr}(s:a0o H0 H1)(h:H1 b=none):H0 b=none:=by
 cases e:H0 b with
 |none=>rfl
 |some o=>rw[s _ _ e] at h;cases h
theorem a8i {H0 H1 H:Hp}(s:a0o H0 H1):a0o (cut H1 H) (cut H0 H):=fun b o e=>a0J (a1e s (a0T e)) (a0t _ _ e)
theorem SqT.rd {K:Fg0}{H:Hp}{a:Addr}{xs:List V}(h:Rd H a (.tup xs)):SqT K H a xs:=.inl h
def TyW (K:Fg0)(H:Hp)(v:V)(n:String):Prop:=a6w K H v (.type n)\/(∃a ys,v=.ref a/\Rd H a (.tup ys)/\n="tuple")\/∃a kvs,v=.ref a/\Rd H a (.dK kvs)/\n="dict"
theorem a2q {X:Cx}:a1E X (.builtin "isinstance") (fun xs H Q=>∃x n m b,xs=[x,.ty m]/\TyW X.K H x n/\a1U n m=some b/\Q (.bl b) H):=by
 intro pins s σ H xs us Q I r h;obtain⟨x,n,m,b,rfl,hx,e,q⟩:=h;rcases hx with hx |⟨a,ys,rfl,ha,rfl⟩ |⟨a,kvs,rfl,ha,rfl⟩
 ·exact a1V pins s σ H _ us Q I r ⟨x,m,.type n,b,rfl,hx,a5r.trans e,q⟩
 ·obtain⟨u,w',rfl,rx,rc⟩:=a6L r
  cases rx
  cases(show w'=Value.type m from rc)
  obtain⟨its,_,⟨o,h1,h2,_⟩,_⟩:=I.tuple (SqT.rd ha);exact PySem.W.kia_one PySem.W.kitx_tuple I.kIn ⟨o,h1,h2⟩ (a5r.trans e) (fun z=>nomatch z) fun tk=>⟨.bl b,H,I.tok tk,rfl,q⟩
 ·exact a8R pins s σ H _ us Q I r ⟨a,kvs,m,b,rfl,ha,a5r.trans e,q⟩
def b4I (t:TS):TS:=fun D σ H=>∃(a:Addr) (kvs:List (Key×V)),Rd H a (.dK kvs)/\∀(H0:Hp) (o:Obj) (D':a5w),H0 a=some (.frz o (.dK kvs))->(∀b u,b≠a->H b=some u->H0 b=some u)->(∀b,H0 b=none->H b=none) →
 (∀v H',a0o H0 H'->(∀H2,a0o H H2->a0o (cut H0 H') (cut H H2)->D.rt v H2)->D'.rt v H')->t D' σ H0
theorem b1P {X:Cx}{st:Stmt}{t:TS}(h:PS X st t):PS X st (b4I t):=by
 intro pins s σ H D I hq;obtain⟨a,kvs,rd,q⟩:=hq;refine b1v h pins s σ H D I ⟨a,kvs,rd,fun o e=>?_,fun e o=>?_⟩
 ·exact q H o D e (fun b u _ h=>h) (fun b h=>h) fun v H' s' k=>k H' s' (a0o.refl _)
 ·have nH:∀b,(upd H a (.frz o (.dK kvs))) b=none->H b=none:=fun b h=>by
   have nb:b≠a:=fun z=>by rw[z,a0b] at h;cases h
   rwa [a0h nb] at h
  refine q _ o (b4y a o kvs D) a0b (fun b u nb h=>(a0h nb).trans h) nH fun v H' s' k=>⟨s' _ _ a0b,k _ (a4W e s') fun b u hb=>?_⟩;have n0:=a0T hb;have nb:b≠a:=fun z=>by rw[z,a0b] at n0;cases n0
  exact a0J (nH b n0) ((a0h nb).trans (a0t _ _ hb))
inductive Sm:Dp->Prop
 |fl {v:V}:Sm (.fl v)
 |tup {ds:List Dp} (hz:ds.length≤1000) (h:∀d∈ds,Sm d):Sm (.tup ds)
 |lst {ds:List Dp} (hz:ds.length≤1000) (h:∀d∈ds,Sm d):Sm (.lst ds)
 |dic {kds:List (Str×Dp)} (hz:kds.length≤1000) (nd:(kds.map (·.1)).Nodup) (h:∀k∈kds,Sm k.2):Sm (.dic kds)
theorem Dw.ty {K:Fg0}{H:Hp}{n:Nat}{v:V}(h:flt v=true):∃m,TyW K H v m/\a1U m "list"=some false/\a1U m "tuple"=some false/\a1U m "dict"=some false:=by
 cases v with
 |non=>exact⟨"NoneType",.inl .non,by decide +kernel,by decide +kernel,by decide +kernel⟩
 |bl b=>exact⟨"bool",.inl (.bl b),by decide +kernel,by decide +kernel,by decide +kernel⟩
 |int i=>exact⟨"int",.inl (.int i),by decide +kernel,by decide +kernel,by decide +kernel⟩
 |str z=>exact⟨"str",.inl (.str z),by decide +kernel,by decide +kernel,by decide +kernel⟩
 |_=>cases h
theorem Dw.frz {H H0:Hp}{a:Addr}{o:Obj}{kvs:List (Key×V)}(rd:Rd H a (.dK kvs))(h0:H0 a=some (.frz o (.dK kvs)))(s:∀b u,b≠a->H b=some u->H0 b=some u){n:Nat}{d:Dp}{v:V}(h:Dw H n d v):Dw H0 n d v:=by
 have ne:∀{b:Addr} {u:HO},H b=some u->(∀k,u≠.dK k)->(∀o k,u≠.frz o (.dK k))->b≠a:=fun {b u} e h1 h2 z=>by
  rw[z] at e;rcases rd with r |⟨o',r⟩
  ·rw[r] at e;cases e;exact h1 _ rfl
  ·rw[r] at e;cases e;exact h2 _ _ rfl
 induction h with
 |fl h=>exact .fl h
 |tup ha hl _ ih=>
  refine .tup ?_ hl ih;rcases ha with e |⟨o',e⟩
  ·exact .inl (s _ _ (ne e nofun (fun _ _ h=>by cases h)) e)
  ·exact .inr ⟨o',s _ _ (ne e nofun (fun _ _ h=>by cases h)) e⟩
 |lst ha hl _ ih=>exact .lst (s _ _ (ne ha nofun (fun _ _ h=>by cases h)) ha) hl ih
 |@dic n b vs kds ha hl _ ih=>
  refine .dic ?_ hl ih
  by_cases hb:b=a
  ·subst hb
   rw[a3n ha rd];exact .inr ⟨o,h0⟩
  ·rcases ha with e |⟨o',e⟩
   ·exact .inl (s _ _ hb e)
   ·exact .inr ⟨o',s _ _ hb e⟩
def nw (H:Hp)(D:Addr)(H':Hp):Hp:=fun b=>if b=D then none else cut H H' b
theorem a1b {H H':Hp}{D:Addr}:a0o (nw H D H') (cut H H'):=fun b o e=>by
 unfold nw at e
 split at e
 ·cases e
 ·exact e
theorem a5C {H H':Hp}{D b:Addr}{o:HO}(h:b≠D)(h0:H b=none)(e:H' b=some o):nw H D H' b=some o:=by
 unfold nw;rw[if_neg h];exact a0J h0 e
theorem b1y {H H':Hp}{D b:Addr}{o:HO}(e:nw H D H' b=some o):b≠D:=fun z=>by
 unfold nw at e;rw[if_pos z] at e;cases e
theorem a0X {H H':Hp}{D:Addr}{o:HO}:a0o (nw H D H') (nw H D (upd H' D o)):=fun b u e=>by
 have hb:=b1y e;have hc:=a1b _ _ e;exact a5C hb (a0T hc) ((a0h hb).trans (a0t _ _ hc))
theorem a2T {H H' H2:Hp}{D:Addr}(s:a0o H' H2):a0o (nw H D H') (nw H D H2):=fun b u e=>a5C (b1y e) (a0T (a1b _ _ e)) (s _ _ (a0t _ _ (a1b _ _ e)))
theorem a5F {H H1 H2:Hp}{D:Addr}{o:HO}(s:a0o H H1)(hD:H1 D=some o):a0o (cut H1 H2) (nw H D H2):=fun b u e=>a5C (fun z=>by have:=a0T e;rw[z,hD] at this;cases this) (a1e s (a0T e)) (a0t _ _ e)
theorem Dv.dw {H:Hp}{n:Nat}{d:Dp}{v:V}(h:Dv H n d v):Dw H n d v:=by
 induction h with
 |fl h=>exact .fl h
 |tup ha hl _ ih=>exact .tup (.inl ha) hl ih
 |lst ha hl _ ih=>exact .lst ha hl ih
 |dic ha nd hl _ ih=>exact .dic (.inl ha) hl ih
theorem a9U {X:Cx}:a1E X (.builtin "isinstance") (fun xs H Q=>∃a ys m b,xs=[.ref a,.ty m]/\SqT X.K H a ys/\a1U "tuple" m=some b/\Q (.bl b) H):=by
 intro pins s σ H xs us Q I r h;obtain⟨a,ys,m,b,rfl,ha,e,q⟩:=h;obtain⟨u,w',rfl,rx,rc⟩:=a6L r;cases rx
 cases(show w'=Value.type m from rc)
 obtain⟨its,_,⟨o,h1,h2,_⟩,_⟩:=I.tuple ha;exact PySem.W.kia_one PySem.W.kitx_tuple I.kIn ⟨o,h1,h2⟩ (a5r.trans e) (fun z=>nomatch z) fun tk=>⟨.bl b,H,I.tok tk,rfl,q⟩
inductive Tq (K:Fg0) (H:Hp):Nat->V->V->Prop
 |int {n:Nat} {i:Int}:Tq K H n (.int i) (.int i)
 |str {n:Nat} {z:Str}:Tq K H n (.str z) (.str z)
 |tup {n:Nat} {a b:Addr} {xs ys:List V} (ha:SqT K H a xs) (hb:SqT K H b ys) (hl:xs.length=ys.length) (h:∀(i:Nat) (x y:V),xs[i]? =some x->ys[i]? =some y->Tq K H n x y):Tq K H (n+1) (.ref a) (.ref b)
section
variable {X:Cx}{pins:List (Addr×Obj)}{σ:St}{H:Hp}{s:Shared}
theorem a8M (I:Inv X pins σ H s){n:Nat}{x y:V}(d:Tq X.K H n x y):∀{u u':Value} {A:Around},a1c x u->a1c y u'->A.units+n<cLine->SeqAt.EqAt A s u u' true/\∀a b,u=.ref a->u'=.ref b->SeqAt.RcAt A s u u' true/\SeqAt.RcNeAt A s u u' false:=by
 induction d with
 |@int n i=>
  intro u u' A r r' _;obtain⟨t,rfl⟩:=(show ∃t,u=Value.int i t from r);obtain⟨t',rfl⟩:=(show ∃t,u'=Value.int i t from r');have h:=SeqAt.EqAt.int_int (A:=A) (s:=s) i t i t';exact⟨by simpa using h,fun a b e=>nomatch e⟩
 |@str n z=>
  intro u u' A r r' _;obtain⟨t,rfl⟩:=(show ∃t,u=Value.str z t from r);obtain⟨t',rfl⟩:=(show ∃t,u'=Value.str z t from r');have h:=SeqAt.EqAt.str_str (A:=A) (s:=s) z t z t';exact⟨by simpa using h,fun a b e=>nomatch e⟩
 |@tup n a b xs ys ha hb hl h ih=>
  intro u u' A r r' hu;cases r;cases r';obtain⟨its,r1,pl,_⟩:=I.tuple ha;obtain⟨jts,r2,ql,_⟩:=I.tuple hb;have l1:=r1.length;have l2:=r2.length;have el:∀j (g1:j<its.toArray.size) (g2:j<jts.toArray.size),SeqAt.EqAt A.in1 s its.toArray[j] jts.toArray[j] true:=fun j g1 g2=>by
   have g1':j<its.length:=by simpa using g1
   have g2':j<jts.length:=by simpa using g2
   obtain⟨u1,e1,k1⟩:=r1.get (i:=j) (x:=xs[j]'(by omega)) (by simp);obtain⟨u2,e2,k2⟩:=r2.get (i:=j) (x:=ys[j]'(by omega)) (by simp);have w1:its.toArray[j]=u1:=by have:=(gS0.mp e1).2;simpa using this
   have w2:jts.toArray[j]=u2:=by have:=(gS0.mp e2).2;simpa using this
   rw[w1,w2];exact(ih j _ _ (by simp) (by simp) k1 k2 (by show A.units+1+n<cLine;omega)).1
  have h1:=SeqAt.RcAt.tuples (A:=A) (e:=fun _=>true) pl ql (by omega) el;have h2:=SeqAt.RcNeAt.tuples (A:=A) (e:=fun _=>true) pl ql (by omega) el;have hz:its.toArray.size=jts.toArray.size:=by simp;omega
  have ea:∀k:Nat,(List.range k).all (fun _=>true)=true:=fun k=>List.all_eq_true.mpr fun _ _=>rfl;rw[ea,hz,beq_self_eq_true] at h1 h2;refine⟨?_,fun _ _ _ _=>⟨h1,h2⟩⟩
  by_cases hab:a=b
  ·rw[hab];exact SeqAt.EqAt.same _
  ·exact SeqAt.EqAt.of_refs hab h1
theorem a7G (hu:X.A.units+20<cLine):OpR X (compareOp .Eq) (fun x y H Q=>∃(n:Nat) (a b:Addr),x=.ref a/\y=.ref b/\Tq X.K H n x y/\n≤16/\Q (.bl true) H):=by
 intro pins s σ H x y v u Q I rx ry h;obtain⟨n,a,b,rfl,rfl,hd,hn,q⟩:=h;cases rx;cases ry;exact((a8M I hd rfl rfl (A:=X.A) (by omega)).2 _ _ rfl rfl).1 X.prog X.w X.xe _ ⟨.bl true,H,I,rfl,q⟩
theorem b1d (hu:X.A.units+20<cLine):OpR X (compareOp .NotEq) (fun x y H Q=>∃(n:Nat) (a b:Addr),x=.ref a/\y=.ref b/\Tq X.K H n x y/\n≤16/\Q (.bl false) H):=by
 intro pins s σ H x y v u Q I rx ry h;obtain⟨n,a,b,rfl,rfl,hd,hn,q⟩:=h;cases rx;cases ry;exact((a8M I hd rfl rfl (A:=X.A) (by omega)).2 _ _ rfl rfl).2 X.prog X.w X.xe _ ⟨.bl false,H,I,rfl,q⟩
end
theorem PE.or {X:Cx}{e:Expr}{t u:TE}(h:PE X e t)(g:PE X e u):PE X e (fun σ H Q=>t σ H Q\/u σ H Q):=fun pins s σ H Q I q=>q.elim (h pins s σ H Q I) (g pins s σ H Q I)
end L2
namespace My
open PySem L2 PyProof.Rows
theorem a2K {X:Cx}:MtR X "list.append" a8v:=a4V
seal L2.PE L2.PT L2.PW L2.PS L2.PSs L2.PA L2.PI L2.PG L2.PGs L2.OpR L2.a1E L2.IxR L2.SlR L2.MtR L2.PIf L2.PO L2.MtM L2.PC
def top (i:Nat):Stmt:=PySem.Challenge.pw_halfmoved_k57_there_and_back.main.body.getD i (.Pass ⟨0,0,0,0⟩)
def abc:Str:="abcdefghijklmnopqrstuvwxyz"
theorem a8m:∀n<26,abc.cps.toList[n]? =some (97+n):=by decide +kernel
theorem a6F (x:Int):∃n:Nat,x%26=(n:Int)/\n<26:=by
 have n0:=Int.emod_nonneg x (show(26:Int)≠0 by decide);have n1:=Int.emod_lt_of_pos x (show(0:Int)<26 by decide);obtain⟨n,hn⟩:=Int.eq_ofNat_of_zero_le n0;exact⟨n,hn,by omega⟩
def nmA (w:Str)(c:Nat)(i:Nat):Str:=w++⟨(List.replicate i c).toArray⟩
theorem a5z {w:Str}{c i:Nat}:(nmA w c i).length=w.length+i:=by
 unfold nmA;rw[Str.length_append];show _+(List.replicate i c).toArray.size=_;simp
theorem a5K {a b:Str}(h:a.cps.toList=b.cps.toList):a=b:=by
 cases a;cases b
 congr 1
 exact Array.toList_inj.mp h
theorem b2g {w:Str}{c:Nat}(m:Nat):((List.range m).map (nmA w c)).Nodup:=by
 refine List.Pairwise.map _ (fun a b h e=>?_) List.nodup_range
 have:=congrArg Str.length e
 rw[a5z,a5z] at this
 omega
def nmB (w:Str)(at_:Int)(s st:Int)(i:Nat):Str:=Txt.slice w none (some at_)++⟨#[97+(s+st * (i:Nat)).toNat]⟩++Txt.slice w (some (at_+1)) none
theorem a4d {w:Str}{at_ s st:Int}{i:Nat}(h0:0≤at_)(h1:at_<w.length):(nmB w at_ s st i).cps.toList=w.cps.toList.take at_.toNat++[97+(s+st * (i:Nat)).toNat]++w.cps.toList.drop (at_+1).toNat:=by
 unfold nmB;rw[Str.cps_append,Array.toList_append,Str.cps_append,Array.toList_append,a9T w h0 (by omega),a6Q w (by omega) (by omega)]
theorem b0V {w:Str}{at_ s st:Int}{i:Nat}(h0:0≤at_)(h1:at_<w.length):(nmB w at_ s st i).length=w.length:=by
 have:=congrArg List.length (a4d (s:=s) (st:=st) (i:=i) h0 h1)
 have e:w.length=w.cps.toList.length:=(Array.length_toList ..).symm;rw[List.length_append,List.length_append,List.length_take,List.length_drop,← e] at this
 show(nmB w at_ s st i).cps.size=_
 rw[← Array.length_toList,this];simp
 omega
theorem b2n {w:Str}{at_ s st:Int}(h0:0≤at_)(h1:at_<w.length)(s0:0≤s)(t0:0<st)(m:Nat):((List.range m).map (nmB w at_ s st)).Nodup:=by
 refine List.Pairwise.map _ (fun a b h e=>?_) List.nodup_range
 have:=congrArg (fun z:Str=>z.cps.toList) e
 simp only[a4d h0 h1] at this;rw[List.append_assoc,List.append_assoc] at this;have h2:=List.append_cancel_left this
 injection h2 with h3
 have ha:0≤st * (a:Int):=Int.mul_nonneg (by omega) (by omega);have hb:0≤st * (b:Int):=Int.mul_nonneg (by omega) (by omega);have h4:st * (a:Int)=st * (b:Int):=by omega
 have:=Int.eq_of_mul_eq_mul_left (by omega) h4
 omega
def a5G (z:Str):Prop:=(1≤z.length/\z.length≤8)/\∀c∈z.cps.toList,97≤c/\c<123
def cel (ns:List Int)(k:Int):Int:=if k<ns.length then ns.getD k.toNat 0 else 0
def b1L (K:Fg0):Sp:=fun vs H Q _=>∃(a:Addr) (ns:List Int) (k:Int),vs=[.ref a,.int k]/\SqL K H a (ns.map V.int)/\0≤k/\Q (.int (cel ns k)) H
def a7W:Sp:=fun vs H Q _=>∃c m:Int,vs=[.int c,.int m]/\0≤m/\m≤3/\∀(l:Addr) (zs:List Str) (H':Hp),a0o H H'->cut H H' l=some (.lst (zs.map V.str))->(zs.length:Int)=m->zs.Nodup->(∀z∈zs,a5G z)->Q (.ref l) H'
def nmN:List Str:=["_law_cell_here","_law_many","_law_letters","_law_word","_law_k","_law_at","_law_start","_law_step"]
section
variable {P:Program}{w:World}{K:Fg0}{mg:Str->Option Value}{base:Heap}
theorem b0E {f:Addr}{fd:FuncData}(F:Fun K "_law_cell" "_law_cell" (top 66) f fd)(B:Bl mg):a0w P w K mg base CX0 1 f fd ["_law_script","_law_k"] (b1L K):=by
 have sc:a0j ["_law_script","_law_k"] ["_law_script","_law_k"] (a0e (top 66)):=.k (by decide +kernel);refine F.ok sc (fun vs H Q E h=>?_) (fun cdv A outer s H vs Q E hr h=>?_)
 ·obtain⟨a,ns,k,rfl,_⟩:=h
  rfl
 ·obtain⟨a,ns,k,rfl,ha,k0,q⟩:=h
  refine⟨_,a0d (a0R (a0z b2Z (pv 1) (a0y a0C (by rfl) B.len PySem.boot_len (a0a (pv 0) a0c)) (a0E _)) (a0f (a0p (a0F a0V (pv 0) (pv 1) (fun _ _=>rfl)))) a0u) (a0f (a0p a0i)),?_⟩;refine⟨_,rfl,_,rfl,_,_,rfl,.inl ha,_,_,rfl,rfl,_,rfl,?_⟩;have hl:(((ns.map V.int).length:Nat):Int)=ns.length:=by rw[lM0]
  refine b3A (fun c=>?_) (fun c=>?_)
  ·have c':k<ns.length:=by rw[← hl];exact of_decide_eq_true c
   have e:cel ns k=ns.getD k.toNat 0:=by unfold cel;rw[if_pos c']
   rw[e] at q;exact⟨_,rfl,_,rfl,_,_,_,_,rfl,rfl,ha,a7N k0 c',q⟩
  ·have c':¬k<ns.length:=fun z=>c (decide_eq_true (by rw[hl];exact z))
   have e:cel ns k=0:=by unfold cel;rw[if_neg c']
   rw[e] at q;exact q
theorem a9Y {f:Addr}{fd:FuncData}(F:Fun K "_law_names" "_law_names" (top 67) f fd)(B:Bl mg):a0w P w K mg base CX0 1 f fd ["_law_cell_here","_law_many"] a7W:=by
 have sc:a0j nmN ["_law_cell_here","_law_many"] (a0e (top 67)):=.k (by decide +kernel);refine F.ok sc (fun vs H Q E h=>?_) (fun cdv A outer s H vs Q E hr h=>?_)
 ·obtain⟨c,m,rfl,_⟩:=h
  rfl
 ·obtain⟨c,m,rfl,m0,m4,q⟩:=h
  have ndA:(["_law_k","_law_word","_law_letters","_law_cell_here"]:List Str).Nodup:=by decide +kernel
  have ndB:(["_law_k","_law_word","_law_at","_law_letters","_law_start","_law_step"]:List Str).Nodup:=by decide +kernel
  refine⟨_,a0d (a0r (i:=2) sc.nd rfl (Or.inr rfl) a0M) (a0d (a0r (i:=3) sc.nd rfl (Or.inr rfl) a0M)
   (a0d (a1p PassesOwn.never rfl (a2i rfl B.range (a0a (a0P a1Y a0i (a0P a1M (pv 0) a0i)) a0c)) (a0n (i:=4) sc.nd rfl (Or.inl rfl))
    (a0f (a0r (i:=3) sc.nd rfl (Or.inr rfl) (a0P a2r (pv 3) (a0F a7J (pv 2) (a0P a1M (a0P a1Y (a0P a1Q (pv 0) a0i) (a0P a5d a0i (pv 4))) a0i) (fun _ _=>rfl))))))
   (a0d (a0R (a0z a1R (a0P a1M (a0P a1Q (pv 0) a0i) a0i) a0i (a0E _)) (a0f (a0p (a1d (osc:=a0e (top 67)) (N0:=nmN) (xs:=["_law_k"]) (fr:=[3,2,0]) ⟨rfl,by decide +kernel,by decide +kernel,by decide +kernel,(fun j hj=>by
       have e:j=3\/j=2\/j=0:=by simpa using hj
       rcases e with rfl |rfl |rfl
       ·exact⟨_,rfl,by decide +kernel⟩
       ·exact⟨_,rfl,by decide +kernel⟩
       ·exact⟨_,rfl,by decide +kernel⟩),by decide +kernel⟩ rfl rfl rfl (a2i rfl B.range (a0a (pv 1) a0c))
      (fun s H fp=>a0n (i:=0) ndA rfl (Or.inl rfl)) (fun s H fp=>a0S)
      (fun s H fp=>a0P a2r (pv 1) (a0P a9B (a0F a7J (pv 2) (a0P a1M (a0P a1Q (pv 3) a0i) a0i) (fun _ _=>rfl)) (pv 0)))))) a0u)
   (a0d (a0r (i:=5) sc.nd rfl (Or.inr rfl) (a0P a1M (a0P a1Q (pv 0) a0i) (a0y a2J (by rfl) B.len PySem.boot_len (a0a (pv 3) a0c))))
   (a0d (a0r (i:=6) sc.nd rfl (Or.inr rfl) (a0P a1M (a0P a1Q (pv 0) a0i) a0i))
   (a0d (a0r (i:=7) sc.nd rfl (Or.inr rfl) (a0P a1Y a0i (a0P a1M (a0P a1Q (pv 0) a0i) a0i)))
   (a0f (a0p (a1d (osc:=a0e (top 67)) (N0:=nmN) (xs:=["_law_k"]) (fr:=[3,5,2,6,7]) ⟨rfl,by decide +kernel,by decide +kernel,by decide +kernel,(fun j hj=>by
       have e:j=3\/j=5\/j=2\/j=6\/j=7:=by simpa using hj
       rcases e with rfl |rfl |rfl |rfl |rfl
       ·exact⟨_,rfl,by decide +kernel⟩
       ·exact⟨_,rfl,by decide +kernel⟩
       ·exact⟨_,rfl,by decide +kernel⟩
       ·exact⟨_,rfl,by decide +kernel⟩
       ·exact⟨_,rfl,by decide +kernel⟩),by decide +kernel⟩ rfl rfl rfl (a2i rfl B.range (a0a (pv 1) a0c))
      (fun s H fp=>a0n (i:=0) ndB rfl (Or.inl rfl)) (fun s H fp=>a0S)
      (fun s H fp=>a0P a2r (a0P a2r (a1L b0n (pv 1) a2h (a2m (pv 2))) (a0F a7J (pv 3) (a0P a1Y (pv 4) (a0P a5d (pv 5) (pv 0))) (fun _ _=>rfl))) (a1L b0n (pv 1) (a2m (a0P a1Y (pv 2) a0i)) a2h))))))))))),?_⟩
  have a0:=Int.emod_nonneg c (show(4:Int)≠0 by decide);have a4:=Int.emod_lt_of_pos c (show(0:Int)<4 by decide);have abl:abc.length≤sizeLine:=by decide +kernel
  refine⟨_,rfl,_,_,rfl,rfl,(pos rfl),_,_,rfl,rfl,_,rfl,(by omega),(by omega),a5e (fun i σ H'=>H'=H/\∃(z:Str) (u4:Option V),σ=[some (.int c),some (.int m),some (.str abc),some (.str z),u4,none,none,none]/\z.length=i/\∀c∈z.cps.toList,97≤c/\c<123) ⟨rfl,"",_,rfl,by decide,fun c h=>nomatch h⟩ ?_ ?_⟩
  ·rintro i σ H' hi ⟨rfl,z,u4,rfl,hz,hlow⟩
   obtain⟨n,hn,n26⟩:=a6F (c/4+7 * (0+(i:Int)));refine⟨_,rfl,_,rfl,_,rfl,_,_,rfl,rfl,⟨by decide,by decide⟩,_,rfl,_,_,rfl,rfl,.inl ⟨by decide,by decide⟩,_,_,rfl,rfl,_,_,rfl,rfl,(pos rfl),_,_,_,rfl,rfl,abl,(by rw[hn];exact a3k (a8m n n26)),_,_,rfl,rfl,(by rw[sizeLine_eq];show z.length+1≤_;omega),rfl,_,_,rfl,?_,fun x hx=>?_⟩
   ·rw[Str.length_append,hz]
    rfl
   ·rw[Str.cps_append,Array.toList_append] at hx
    rcases List.mem_append.mp hx with h |h
    ·exact hlow x h
    ·have:x=97+n:=by simpa using h
     omega
  rintro σ H' ⟨rfl,z,u4,rfl,hz,hlow⟩;have zl:z.length≤sizeLine:=by rw[sizeLine_eq];omega
  refine⟨_,rfl,_,_,rfl,rfl,⟨by decide,by decide⟩,_,_,rfl,rfl,(pos rfl),rfl,_,rfl,?_⟩;refine b3A (fun _=>?_) (fun _=>?_)
  ·obtain⟨n,hn,n26⟩:=a6F (c/16)
   refine⟨_,rfl,_,rfl,(by omega),(by omega),fun D hD=>?_⟩;refine a3i m.toNat (fun i=>.str (nmA z (97+n) i)) (fun i σ' Hc=>(∃t,σ'=[t,some (.str z),some (.str abc),some (.int c)])/\a0o H' Hc) (by rw[sizeLine_eq];omega) ⟨⟨none,rfl⟩,a0o.upd hD⟩ a0b ?_ ?_
   ·rintro i σ' Hc hi ⟨⟨t,rfl⟩,sm⟩ hD'
    refine⟨hi,?_⟩;rintro y H'' ⟨rfl,rfl⟩;refine⟨_,rfl,_,rfl,_,rfl,_,_,rfl,rfl,⟨by decide,by decide⟩,_,_,rfl,rfl,(pos rfl),_,_,_,rfl,rfl,abl,(by rw[hn];exact a3k (a8m n n26)),_,rfl,?_⟩;refine⟨⟨#[97+n]⟩,i,rfl,(by rw[Int.zero_add]),(by omega),(by show 0<1;decide),(by show 1≤10000;decide),fun r hr'=>?_⟩;have er:r=⟨(List.replicate i (97+n)).toArray⟩:=a5K (by rw[hr'];simp);subst er;refine⟨_,_,rfl,rfl,?_,rfl,hD',⟨_,rfl⟩,sm.put hD⟩;have e2:Str.length ⟨(List.replicate i (97+n)).toArray⟩=i:=by show(List.replicate i (97+n)).toArray.size=i;simp
    rw[sizeLine_eq,e2]
    omega
   ·rintro σ' Hc ⟨_,sm⟩ hDn
    refine⟨Nat.le_refl _,?_⟩;have e1:(List.range m.toNat).map (fun i=>V.str (nmA z (97+n) i))=((List.range m.toNat).map (nmA z (97+n))).map V.str:=by rw[List.map_map];rfl
    rw[e1] at hDn;refine q D _ Hc sm (a0J hD hDn) (by rw[lM0,List.length_range];omega) (b2g _) (fun x hx=>?_);obtain⟨i,hi,rfl⟩:=List.mem_map.mp hx
    have:=List.mem_range.mp hi
    refine⟨by rw[a5z];omega,fun x hx=>?_⟩;unfold nmA at hx;rw[Str.cps_append,Array.toList_append] at hx;rcases List.mem_append.mp hx with h |h
    ·exact hlow x h
    ·have:x=97+n:=(List.mem_replicate.mp (by simpa using h)).2
     omega
  ·have lz:(0:Int)<(z.length:Nat):=by omega
   refine⟨_,rfl,_,_,rfl,rfl,⟨by decide,by decide⟩,_,rfl,_,rfl,zl,_,_,rfl,rfl,lz,?_⟩;have t0:=Int.emod_nonneg (c/16) (show((z.length:Nat):Int)≠0 by omega);have t1:=Int.emod_lt_of_pos (c/16) lz;refine⟨_,rfl,_,_,rfl,rfl,⟨by decide,by decide⟩,_,_,rfl,rfl,(pos rfl),?_⟩;have s0:=Int.emod_nonneg (c/64) (show(6:Int)≠0 by decide);have s1:=Int.emod_lt_of_pos (c/64) (show(0:Int)<6 by decide);refine⟨_,rfl,_,_,rfl,rfl,⟨by decide,by decide⟩,_,_,rfl,rfl,(pos rfl),_,_,rfl,rfl,?_⟩;have p0:=Int.emod_nonneg (c/512) (show(4:Int)≠0 by decide);have p1:=Int.emod_lt_of_pos (c/512) (show(0:Int)<4 by decide)
   dsimp only
   generalize c/16%((z.length:Nat):Int)=at_ at *;generalize c/64%6=st at *;generalize hsp:1+c/512%4=sp at *;have sp0:0<sp:=by omega
   have sp5:sp<5:=by omega
   refine⟨_,rfl,_,rfl,(by omega),(by omega),fun D hD=>?_⟩;refine a3i m.toNat (fun i=>.str (nmB z at_ st sp i)) (fun i σ' Hc=>(∃t,σ'=[t,some (.str z),some (.int at_),some (.str abc),some (.int st),some (.int sp)])/\a0o H' Hc) (by rw[sizeLine_eq];omega) ⟨⟨none,rfl⟩,a0o.upd hD⟩ a0b ?_ ?_
   ·rintro i σ' Hc hi ⟨⟨t,rfl⟩,sm⟩ hD'
    have hi4:i<4:=by omega
    refine⟨hi,?_⟩;rintro y H'' ⟨rfl,rfl⟩;have hb:0≤sp * (i:Int):=Int.mul_nonneg (by omega) (by omega);have hb2:sp * (i:Int)≤4 * 3:=Int.mul_le_mul (by omega) (by omega) (by omega) (by decide);obtain⟨n,hn⟩:=Int.eq_ofNat_of_zero_le (show 0≤st+sp * (i:Int) by omega);have n26:n<26:=by omega
    have hn':st+sp * (0+(i:Int))=(n:Int):=by rw[Int.zero_add];exact hn
    refine⟨_,rfl,_,rfl,_,rfl,z,rfl,zl,_,rfl,_,rfl,_,rfl,_,rfl,_,_,rfl,rfl,.inl ⟨by omega,by omega⟩,_,_,rfl,rfl,_,_,_,rfl,rfl,abl,(by rw[hn'];exact a3k (a8m n n26)),_,_,rfl,rfl,?_,_,rfl,_,rfl,_,_,rfl,rfl,_,rfl,z,rfl,zl,_,_,rfl,rfl,?_,?_,hD',⟨_,rfl⟩,sm.put hD⟩
    ·have:=Txt.slice_le z none (some at_)
     rw[sizeLine_eq];show _+1≤_
     omega
    ·have h1:=Txt.slice_le z none (some at_)
     have h2:=Txt.slice_le z (some (at_+1)) none;rw[sizeLine_eq,Str.length_append];show _+1+_≤_
     omega
    ·show V.str _=V.str (nmB z at_ st sp i)
     unfold nmB;rw[hn]
     rfl
   ·rintro σ' Hc ⟨_,sm⟩ hDn
    refine⟨Nat.le_refl _,?_⟩;have e1:(List.range m.toNat).map (fun i=>V.str (nmB z at_ st sp i))=((List.range m.toNat).map (nmB z at_ st sp)).map V.str:=by rw[List.map_map];rfl
    rw[e1] at hDn;refine q D _ Hc sm (a0J hD hDn) (by rw[lM0,List.length_range];omega) (b2n t0 (by omega) s0 sp0 _) (fun x hx=>?_);obtain⟨i,hi,rfl⟩:=List.mem_map.mp hx
    have:=List.mem_range.mp hi
    have hb:0≤sp * (i:Int):=Int.mul_nonneg (by omega) (by omega);have hb2:sp * (i:Int)≤4 * 3:=Int.mul_le_mul (by omega) (by omega) (by omega) (by decide);refine⟨by rw[b0V t0 (by omega)];omega,fun x hx=>?_⟩;rw[a4d t0 (by omega)] at hx;rcases List.mem_append.mp hx with h |h
    ·rcases List.mem_append.mp h with h |h
     ·exact hlow x (List.mem_of_mem_take h)
     ·have:x=97+(st+sp * (i:Nat)).toNat:=by simpa using h
      omega
    ·exact hlow x (List.mem_of_mem_drop h)
theorem kq {K:Fg0}{a b:String}{r:Bool}(h:a1U a b=some r):PySem.W.kitOne K (.type a) (.type b)=some r:=a5r.trans h
def b1T:Sp:=fun vs H Q _=>∃n:Int,vs=[.int n]/\Q (.bl true) H
theorem a8H {f:Addr}{fd:FuncData}(F:Fun K "is_whole" "is_whole" (top 12) f fd)(B:Bl mg):a0w P w K mg base CX0 1 f fd ["thing"] b1T:=by
 have sc:a0j ["thing"] ["thing"] (a0e (top 12)):=.k (by decide +kernel);refine F.ok sc (fun vs H Q E h=>?_) (fun cdv A outer s H vs Q E hr h=>?_)
 ·obtain⟨n,rfl,_⟩:=h
  rfl
 ·obtain⟨n,rfl,q⟩:=h
  refine⟨_,a0f (a0p (a3U (a0y a1V (by rfl) B.isi boot_isi (a0a (pv 0) (a0a (a1A (v:=.ty "int") (by rfl) B.int boot_int rfl) a0c)))
   (a3x (b2U (a0y a1V (by rfl) B.isi boot_isi (a0a (pv 0) (a0a (a1A (v:=.ty "bool") (by rfl) B.bool boot_bool rfl) a0c))))))),?_⟩
  refine⟨_,rfl,_,_,_,_,rfl,.int n,kq (show a1U "int" "int"=some true by decide +kernel),_,rfl,a9p ?_⟩;exact⟨_,rfl,_,_,_,_,rfl,.int n,kq (show a1U "int" "bool"=some false by decide +kernel),_,rfl,q⟩
inductive Kk where
 |wh
 |bel (n:Int)
 |upt (n:Int)
def Kk.vs:Kk->List V
 | .wh=>[.str "whole"]
 | .bel n=>[.str "below",.int n]
 | .upt n=>[.str "upto",.int n]
def Kk.ok:Kk->Prop
 | .bel n=>1≤n
 |_=>True
def KdH (K:Fg0)(H:Hp)(k:Addr)(kd:Kk):Prop:=SqT K H k kd.vs/\kd.ok
def b1V (K:Fg0):Sp:=fun vs H Q _=>∃(k:Addr) (kd:Kk),vs=[.ref k]/\KdH K H k kd/\∀H',a0o H H'->Q (.bl true) H'
def b5y:Sp:=fun vs H Q _=>∃n:Int,((vs=[.str "below",.int n]/\1≤n)\/vs=[.str "upto",.int n])/\Q (.bl true) H
theorem b4A {f fW:Addr}{fd fdW:FuncData}(F:Fun K "is_plain_pair" "is_plain_pair" (top 16) f fd)(B:Bl mg)(DW:Df K mg "is_whole" (top 12) fW fdW):a0w P w K mg base CX0 2 f fd ["sort","bound"] b5y:=by
 have sc:a0j ["sort","bound"] ["sort","bound"] (a0e (top 16)):=.k (by decide +kernel);have GW:a0w P w K mg base CX0 1 fW fdW ["thing"] b1T:=a8H DW.fn B;have bW:=DW.fn.b1 "thing" (by intros;rfl);refine F.ok sc (fun vs H Q E h=>?_) (fun cdv A outer s H vs Q E hr h=>?_)
 ·obtain⟨n,⟨rfl,_⟩ |rfl,_⟩:=h<;>rfl
 ·obtain⟨n,hv,q⟩:=h
  refine⟨_,a0d (a0R (a0z a1R (pv 0) a0M (a0E _)) (a0f (a0p (a3U (a0g GW hr (by rfl) DW.mg DW.fn.kp bW .nil a0k (a0a (pv 1) a0c)) (a3x (a1N b2P (pv 1) a0i (a0E _)))))) a0u)
   (a0d (a0R (a0z a1R (pv 0) a0M (a0E _)) (a0f (a0p (a0g GW hr (by rfl) DW.mg DW.fn.kp bW .nil a0k (a0a (pv 1) a0c)))) a0u) a0q),?_⟩
  rcases hv with ⟨rfl,n1⟩ |rfl
  ·refine⟨_,rfl,rfl,_,rfl,a3H (decide_eq_true rfl) ?_⟩
   refine⟨_,rfl,n,rfl,_,rfl,a9p ?_⟩;have e:decide ((1:Int)≤n)=true:=decide_eq_true n1;exact⟨_,rfl,_,_,rfl,rfl,(by dsimp only;rw[e];exact q)⟩
  ·refine⟨_,rfl,rfl,_,rfl,a2s (decide_eq_false (by decide)) ?_⟩
   exact⟨_,rfl,rfl,_,rfl,a3H (decide_eq_true rfl) ⟨_,rfl,n,rfl,q⟩⟩
theorem b4R {f fW fR:Addr}{fd fdW fdR:FuncData}(F:Fun K "is_plain" "is_plain" (top 15) f fd)(B:Bl mg)(DW:Df K mg "is_whole" (top 12) fW fdW)(DR:Df K mg "is_plain_pair" (top 16) fR fdR):a0w P w K mg base CX0 3 f fd ["thing"] (b1V K):=by
 have sc:a0j ["thing"] ["thing"] (a0e (top 15)):=.k (by decide +kernel);have GR:a0w P w K mg base CX0 2 fR fdR ["sort","bound"] b5y:=b4A DR.fn B DW;have bR:=DR.fn.b2 "sort" "bound" (by intros;rfl);refine F.ok sc (fun vs H Q E h=>?_) (fun cdv A outer s H vs Q E hr h=>?_)
 ·obtain⟨k,kd,rfl,_⟩:=h
  rfl
 ·obtain⟨k,kd,rfl,⟨hk,ok⟩,q⟩:=h
  refine⟨_,a0d (a0R (a1G (a1r (a0y a9U (by rfl) B.isi boot_isi (a0a (pv 0) (a0a (a1A (v:=.ty "tuple") (by rfl) B.tuple boot_tuple rfl) a0c))))) a0q a0u)
   (a0d (a0R (a0z a1R (a0y a0C (by rfl) B.len PySem.boot_len (a0a (pv 0) a0c)) a0i (a0E _)) (a0f (a0p (a1N a1S (a0F a0H (pv 0) a0i (fun _ _=>rfl)) (a0I (a0a a0M (a0a a0M a0c))) (by with_unfolding_all rfl)))) a0u)
   (a0f (a0p (a3U (a1N a1R (a0y a0C (by rfl) B.len PySem.boot_len (a0a (pv 0) a0c)) a0i (a0E _))
    (a3x (a0g GR hr (by rfl) DR.mg DR.fn.kp bR .nil a0k (a0a (a0F a0H (pv 0) a0i (fun _ _=>rfl)) (a0a (a0F a0H (pv 0) a0i (fun _ _=>rfl)) a0c)))))))),?_⟩
  refine⟨_,rfl,_,_,_,_,rfl,hk,(show a1U "tuple" "tuple"=some true by decide +kernel),_,rfl,a2e ?_⟩;cases kd with
  |wh=>
   refine⟨_,rfl,_,_,rfl,.inr (hk),rfl,_,rfl,a3H (decide_eq_true rfl) ?_⟩;refine⟨_,rfl,_,_,0,.str "whole",rfl,rfl,hk,rfl,(by show 2≤sizeLine;decide),fun p hp=>?_⟩;have T:=a0o.upd (o:=.tup [V.str "whole",.str "word"]) hp;refine⟨p,_,rfl,.inr (SqT.of a0b),rfl,rfl,?_⟩;exact q _ T
  |bel n=>
   refine⟨_,rfl,_,_,rfl,.inr (hk),rfl,_,rfl,a2s (decide_eq_false fun h=>absurd (show V.int 2=V.int 1 from h) (by decide)) ?_⟩;refine⟨_,rfl,_,_,rfl,.inr (hk),rfl,_,rfl,a3H (decide_eq_true rfl) ?_⟩;exact⟨_,rfl,_,_,0,_,rfl,rfl,hk,rfl,_,rfl,_,_,1,_,rfl,rfl,hk,rfl,n,.inl ⟨rfl,ok⟩,q H (a0o.refl H)⟩
  |upt n=>
   refine⟨_,rfl,_,_,rfl,.inr (hk),rfl,_,rfl,a2s (decide_eq_false fun h=>absurd (show V.int 2=V.int 1 from h) (by decide)) ?_⟩;refine⟨_,rfl,_,_,rfl,.inr (hk),rfl,_,rfl,a3H (decide_eq_true rfl) ?_⟩;exact⟨_,rfl,_,_,0,_,rfl,rfl,hk,rfl,_,rfl,_,_,1,_,rfl,rfl,hk,rfl,n,.inr rfl,q H (a0o.refl H)⟩
theorem b4D {f fP fW fR:Addr}{fd fdP fdW fdR:FuncData}(F:Fun K "is_kind" "is_kind" (top 17) f fd)(B:Bl mg)(DP:Df K mg "is_plain" (top 15) fP fdP)(DW:Df K mg "is_whole" (top 12) fW fdW)(DR:Df K mg "is_plain_pair" (top 16) fR fdR):a0w P w K mg base CX0 4 f fd ["thing"] (b1V K):=by
 have sc:a0j ["thing"] ["thing"] (a0e (top 17)):=.k (by decide +kernel);have GP:a0w P w K mg base CX0 3 fP fdP ["thing"] (b1V K):=b4R DP.fn B DW DR;have bP:=DP.fn.b1 "thing" (by intros;rfl);refine F.ok sc (fun vs H Q E h=>?_) (fun cdv A outer s H vs Q E hr h=>?_)
 ·obtain⟨k,kd,rfl,_⟩:=h
  rfl
 ·obtain⟨k,kd,rfl,hk,q⟩:=h
  refine⟨_,a0d (a0R (a1r (a0g GP hr (by rfl) DP.mg DP.fn.kp bP .nil a0k (a0a (pv 0) a0c))) (a0f (a0p b5f)) a0u) a0q,?_⟩;exact⟨_,rfl,k,kd,rfl,hk,fun H' s'=>⟨_,rfl,a9p (q H' s')⟩⟩
def b1R:Kk->Int->Prop
 | .wh,_=>True
 | .upt n,x=>x≤n
 | .bel _,_=>False
def a8t (K:Fg0):Sp:=fun vs H Q _=>∃(k:Addr) (n:Int) (sz:V) (kd:Kk),vs=[.ref k,.int n,sz]/\KdH K H k kd/\b1R kd n/\∀H',a0o H H'->Q (.bl true) H'
def b0e (K:Fg0):Sp:=fun vs H Q _=>∃(k:Addr) (n:Int) (kd:Kk),vs=[.ref k,.int n]/\KdH K H k kd/\b1R kd n/\∀H',a0o H H'->Q (.bl true) H'
theorem b1E {f fW:Addr}{fd fdW:FuncData}(F:Fun K "fits_plain" "fits_plain" (top 20) f fd)(B:Bl mg)(DW:Df K mg "is_whole" (top 12) fW fdW):a0w P w K mg base CX0 2 f fd ["kind","value"] (b0e K):=by
 have sc:a0j ["kind","value"] ["kind","value"] (a0e (top 20)):=.k (by decide +kernel);have GW:a0w P w K mg base CX0 1 fW fdW ["thing"] b1T:=a8H DW.fn B;have bW:=DW.fn.b1 "thing" (by intros;rfl);refine F.ok sc (fun vs H Q E h=>?_) (fun cdv A outer s H vs Q E hr h=>?_)
 ·obtain⟨k,n,kd,rfl,_⟩:=h
  rfl
 ·obtain⟨k,n,kd,rfl,⟨hk,_⟩,hfit,q⟩:=h
  refine⟨_,a0d (a0R (a0z a1S (a0F a0H (pv 0) a0i (fun _ _=>rfl)) (a0I (a0a a0M (a0a a0M a0c))) (by with_unfolding_all rfl)) a0q a0u)
   (a0d (a0R (a1G (a1r (a0g GW hr (by rfl) DW.mg DW.fn.kp bW .nil a0k (a0a (pv 1) a0c)))) a0q a0u)
   (a0d (a0R (a0z a1R (a0F a0H (pv 0) a0i (fun _ _=>rfl)) a0M (a0E _)) a0q a0u)
   (a0f (a0p (b4q (a1N a1R (a0F a0H (pv 0) a0i (fun _ _=>rfl)) a0M (a0E _)) (a3x (a1N b1c (pv 1) (a0F a0H (pv 0) a0i (fun _ _=>rfl)) (a0E _)))))))),?_⟩
  cases kd with
  |bel m=>exact hfit.elim
  |wh=>
   refine⟨_,rfl,k,_,0,.str "whole",rfl,rfl,hk,rfl,(by show 2≤sizeLine;decide),fun p hp=>?_⟩;have T:=a0o.upd (o:=.tup [V.str "word",.str "without"]) hp;refine⟨p,_,rfl,.inr (SqT.of a0b),rfl,rfl,_,rfl,a2e ?_⟩;have hk':=T.seqT hk;refine⟨_,rfl,n,rfl,_,rfl,a2e ?_⟩;refine⟨_,rfl,k,_,0,.str "whole",rfl,rfl,hk',rfl,rfl,_,rfl,a2s (decide_eq_false (by decide)) ?_⟩;exact⟨_,rfl,k,_,0,.str "whole",rfl,rfl,hk',rfl,rfl,_,rfl,a3H (decide_eq_true rfl) (q _ T)⟩
  |upt m=>
   refine⟨_,rfl,k,_,0,.str "upto",rfl,rfl,hk,rfl,(by show 2≤sizeLine;decide),fun p hp=>?_⟩;have T:=a0o.upd (o:=.tup [V.str "word",.str "without"]) hp;refine⟨p,_,rfl,.inr (SqT.of a0b),rfl,rfl,_,rfl,a2e ?_⟩;have hk':=T.seqT hk;refine⟨_,rfl,n,rfl,_,rfl,a2e ?_⟩;refine⟨_,rfl,k,_,0,.str "upto",rfl,rfl,hk',rfl,rfl,_,rfl,a2s (decide_eq_false (by decide)) ?_⟩;refine⟨_,rfl,k,_,0,.str "upto",rfl,rfl,hk',rfl,rfl,_,rfl,a2s (decide_eq_false (by decide)) ?_⟩;refine⟨_,rfl,_,rfl,k,_,1,.int m,rfl,rfl,hk',rfl,_,_,rfl,rfl,?_⟩
   dsimp only
   rw[decide_eq_true (show n≤m from hfit)];exact q _ T
theorem a8E {f fP fW:Addr}{fd fdP fdW:FuncData}(F:Fun K "fits" "fits" (top 18) f fd)(B:Bl mg)(DP:Df K mg "fits_plain" (top 20) fP fdP)(DW:Df K mg "is_whole" (top 12) fW fdW):a0w P w K mg base CX0 3 f fd ["kind","value","size"] (a8t K):=by
 have sc:a0j ["kind","value","size","sort"] ["kind","value","size"] (a0e (top 18)):=.k (by decide +kernel);have GP:a0w P w K mg base CX0 2 fP fdP ["kind","value"] (b0e K):=b1E DP.fn B DW;have bP:=DP.fn.b2 "kind" "value" (by intros;rfl);refine F.ok sc (fun vs H Q E h=>?_) (fun cdv A outer s H vs Q E hr h=>?_)
 ·obtain⟨k,n,sz,kd,rfl,_⟩:=h
  rfl
 ·obtain⟨k,n,sz,kd,rfl,⟨hk,kok⟩,hfit,q⟩:=h
  refine⟨_,a0d (a0r (i:=3) sc.nd rfl (Or.inl rfl) (a0F a0H (pv 0) a0i (fun _ _=>rfl)))
   (a0d (a0R (a0z a1R (pv 3) a0M (a0E _)) a0q a0u)
   (a0d (a0R (a0z a1R (pv 3) a0M (a0E _)) a0q a0u)
   (a0d (a0R (a0z a1S (pv 3) (a0I (a0a a0M (a0a a0M a0c))) (by with_unfolding_all rfl)) a0q a0u)
   (a0f (a0p (a0g GP hr (by rfl) DP.mg DP.fn.kp bP .nil a0k (a0a (pv 0) (a0a (pv 1) a0c)))))))),?_⟩
  cases kd with
  |bel m=>exact hfit.elim
  |wh=>
   refine⟨_,rfl,k,_,0,.str "whole",rfl,rfl,hk,rfl,?_⟩;refine⟨_,rfl,rfl,_,rfl,a2s (decide_eq_false (by decide)) ?_⟩;refine⟨_,rfl,rfl,_,rfl,a2s (decide_eq_false (by decide)) ?_⟩;refine⟨_,rfl,(by show 2≤sizeLine;decide),fun p hp=>?_⟩;have T:=a0o.upd (o:=.tup [V.str "list",.str "some"]) hp;refine⟨p,_,rfl,.inr (SqT.of a0b),rfl,rfl,_,rfl,a2e ?_⟩;exact⟨_,rfl,_,rfl,k,n,.wh,rfl,⟨T.seqT hk,kok⟩,hfit,fun H' s'=>q H' (T.trans s')⟩
  |upt m=>
   refine⟨_,rfl,k,_,0,.str "upto",rfl,rfl,hk,rfl,?_⟩;refine⟨_,rfl,rfl,_,rfl,a2s (decide_eq_false (by decide)) ?_⟩;refine⟨_,rfl,rfl,_,rfl,a2s (decide_eq_false (by decide)) ?_⟩;refine⟨_,rfl,(by show 2≤sizeLine;decide),fun p hp=>?_⟩;have T:=a0o.upd (o:=.tup [V.str "list",.str "some"]) hp;refine⟨p,_,rfl,.inr (SqT.of a0b),rfl,rfl,_,rfl,a2e ?_⟩;exact⟨_,rfl,_,rfl,k,n,.upt m,rfl,⟨T.seqT hk,kok⟩,hfit,fun H' s'=>q H' (T.trans s')⟩
def a3Q:Sp:=fun vs H Q _=>∃z:Str,vs=[.str z]/\a5G z/\∀H',a0o H H'->Q (.bl true) H'
def a7C:List Nat:=("abcdefghijklmnopqrstuvwxyz":Str).cps.toList
theorem b1l:∀c:Nat,97≤c->c<123->c∈a7C:=fun c h1 h2=>by
 have:∀n<26,97+n∈a7C:=by decide +kernel
 obtain⟨n,rfl⟩:=Nat.exists_eq_add_of_le h1;exact this n (by omega)
theorem b0P {f:Addr}{fd:FuncData}(F:Fun K "is_name" "is_name" (top 13) f fd)(B:Bl mg){uL uN:Value}(hL:mg "LETTERS"=some uL)(rL:a1c (.str "abcdefghijklmnopqrstuvwxyz") uL)(hN:mg "LONGEST_NAME"=some uN)(rN:a1c (.int 8) uN) :
  a0w P w K mg base CX0 1 f fd ["thing"] a3Q:=by
 have sc:a0j ["thing"] ["thing"] (a0e (top 13)):=.k (by decide +kernel);refine F.ok sc (fun vs H Q E h=>?_) (fun cdv A outer s H vs Q E hr h=>?_)
 ·obtain⟨z,rfl,_⟩:=h
  rfl
 ·obtain⟨z,rfl,⟨⟨z1,z8⟩,hz⟩,q⟩:=h
  have hzl:z.length≤sizeLine:=by rw[sizeLine_eq];omega
  refine⟨_,a0d (a0R (PW.pt (a5R (a1G (a1r (a0y a1V (by rfl) B.isi boot_isi (a0a (pv 0) (a0a (a1A (v:=.ty "str") (by rfl) B.str boot_str rfl) a0c)))))
    (a3L (a1G (a9g b1c b1c a0i (a0y a2J (by rfl) B.len PySem.boot_len (a0a (pv 0) a0c)) (a2G (by rfl) hN rN)))))) a0q a0u)
   (a0f (a0p (a0y (a2V rfl) (by rfl) B.all boot_all (a0a (a1d (osc:=a0e (top 13)) (N0:=["thing"]) (xs:=["sign"]) (fr:=[]) ⟨rfl,by decide +kernel,by decide +kernel,by decide +kernel,by decide,by decide +kernel⟩ rfl rfl rfl (b2Q (pv 0))
    (fun s H fp=>a0n (i:=0) (show(["sign"]:List Str).Nodup by decide +kernel) rfl (Or.inl rfl)) (fun s H fp=>a0S) (fun s H fp=>a1N a8g (pv 0) (a2G (by rfl) hL rL) (by with_unfolding_all rfl))) a0c)))),?_⟩
  refine⟨_,rfl,_,_,_,_,rfl,.str z,kq (show a1U "str" "str"=some true by decide +kernel),_,rfl,a2e ?_⟩;refine⟨_,rfl,_,rfl,hzl,_,_,rfl,rfl,_,rfl,a3H (decide_eq_true (by omega)) ?_⟩;refine⟨_,_,rfl,rfl,_,rfl,a2s (by rw[decide_eq_true (show((z.length:Nat):Int)≤8 by omega)];rfl) ?_⟩;refine⟨_,rfl,_,rfl,fun D hD=>?_⟩;have hlen:z.cps.toList.length=z.cps.size:=Array.length_toList;refine a3i z.cps.size (fun _=>.bl true) (fun i σ' Hc=>(∃a,σ'=[a])/\Hc=upd H D (.lst ((List.range i).map fun _=>.bl true))) hzl ⟨⟨none,rfl⟩,rfl⟩ a0b ?_ ?_
  ·rintro i σ' Hc hi ⟨⟨a,rfl⟩,rfl⟩ hD'
   refine⟨hi,?_⟩;rintro x H' ⟨rfl,c,hc,rfl⟩;refine⟨_,rfl,_,_,rfl,rfl,?_,hD',⟨_,rfl⟩,a2w⟩;have hm:c∈z.cps.toList:=by
    rw[← Array.getElem?_toList] at hc;exact List.mem_of_getElem? hc
   have:=StrLaws.found_one "abcdefghijklmnopqrstuvwxyz" c
   rw[decide_eq_true (show c∈("abcdefghijklmnopqrstuvwxyz":Str).cps.toList from b1l c (hz c hm).1 (hz c hm).2)] at this;exact congrArg V.bl this
  ·rintro σ' Hc ⟨_,rfl⟩ hDn
   refine⟨Nat.le_refl _,D,(List.range z.cps.size).map fun _=>true,rfl,SqL.of (by rw[a0b,List.map_map];rfl),?_⟩;rw[show((List.range z.cps.size).map fun _=>true).all id=true by simp];exact q _ (a0o.upd hD)
end
end My
namespace L2
open PySem PySem.Spec PyProof.Rows
theorem b0x {n d:Nat}{k:Int}(h0:0≤k)(h1:k≤n):HT.sIx n d (some k)=k.toNat:=by
 have e:=HT.b1N k n d;rw[if_neg (by omega)] at e
 omega
theorem a7H {xs:List V}{k:Int}(h0:0≤k)(h1:k≤xs.length):b0z xs none (some k)=xs.take k.toNat:=by
 unfold b0z;rw[b0x h0 h1,HT.a6d,List.drop_zero,Nat.sub_zero]
theorem a4p {xs:List V}{k:Int}(h0:0≤k)(h1:k≤xs.length):b0z xs (some k) none=xs.drop k.toNat:=by
 unfold b0z;rw[b0x h0 h1,HT.a6d];refine List.take_of_length_le ?_;rw[List.length_drop]
 omega
theorem a2f {X:Cx}{K:Fg0}{es:List Expr}{k:Nat}{pos:Pos}{t:TGs}{n:Nat}(hK:X.K=K)(hc:X.calm=true)(h:PGs X es t)
  (hn:(assignEach es X.env).length=n:=by rfl) (hst:(assignEach es X.env).findIdx? (·.1)=none:=by rfl):PG X (.Tuple es k pos) (b5u K n t):=by
 subst hK;exact a1Z hc h hn hst
def b2t (K:Fg0):List V->Hp->VK->Prop:=fun xs H Q=>∃(t:Addr) (o:Obj) (ys:List V) (kvs:List (Key×V)),xs=[.ref t]/\H t=some (.frz o (.tup ys))/\o.dict=none/\ys.length≤1000/\kvs.length=ys.length ∧
  (∀(i:Nat) (k:Key) (v:V),kvs[i]? =some (k,v)->∃p,ys[i]? =some (.ref p)/\SqT K H p [kV k,v])/\(kvs.map (·.1)).Nodup/\∀p,H p=none->Q (.ref p) (upd H p (.dK kvs))
theorem a5Z {X:Cx}{K:Fg0}(hK:X.K=K)(hc:X.calm=true):a1E X (.type "dict") (b2t K):=by
 subst hK;exact a3V hc
end L2
namespace My
open PySem L2 PyProof.Rows
seal L2.PE L2.PT L2.PW L2.PS L2.PSs L2.PA L2.PI L2.PG L2.PGs L2.OpR L2.a1E L2.IxR L2.SlR L2.MtR L2.PIf L2.PO L2.MtM L2.PC
abbrev Cl:=List (Str×Addr)
def b0k (H:Hp)(ct:Addr)(cols:Cl):Prop:=∃(o:Obj) (ps:List Addr),o.dict=none/\H ct=some (.frz o (.tup (ps.map V.ref)))/\ps.length=cols.length/\∀(j:Nat) (p:Addr) (c:Str×Addr),ps[j]? =some p->cols[j]? =some c->H p=some (.tup [.str c.1,.ref c.2])
def EnA (H:Hp)(e:Addr)(T:Str)(cols:Cl):Prop:=∃ct,H e=some (.tup [.str T,.str "head",.ref ct])/\b0k H ct cols
def FmA (H:Hp)(f:Addr)(sz:Int)(T:Str)(cols:Cl):Prop:=∃tt e:Addr,H f=some (.tup [.int sz,.ref tt])/\H tt=some (.tup [.ref e])/\EnA H e T cols
theorem b0k.nt {H H':Hp}(s:Ntb H H'){ct:Addr}{cols:Cl}(h:b0k H ct cols):b0k H' ct cols:=let ⟨o,p,a,b,l,c⟩:=h;⟨o,p,a,s _ _ b nofun,l,fun j x y e1 e2=>s _ _ (c j x y e1 e2) nofun⟩
theorem EnA.nt {H H':Hp}(s:Ntb H H'){e:Addr}{T:Str}{cols:Cl}(h:EnA H e T cols):EnA H' e T cols:=let ⟨ct,a,b⟩:=h;⟨ct,s _ _ a nofun,b.nt s⟩
theorem FmA.nt {H H':Hp}(s:Ntb H H'){f:Addr}{sz:Int}{T:Str}{cols:Cl}(h:FmA H f sz T cols):FmA H' f sz T cols:=let ⟨tt,e,a,b,c⟩:=h;⟨tt,e,s _ _ a nofun,s _ _ b nofun,c.nt s⟩
theorem FmA.same {H H':Hp}(s:a0o H H'){f:Addr}{sz:Int}{T:Str}{cols:Cl}(h:FmA H f sz T cols):FmA H' f sz T cols:=h.nt (.of s)
theorem Ntb.sqT {K:Fg0}{H H':Hp}(s:Ntb H H'){a:Addr}{xs:List V}(h:SqT K H a xs):SqT K H' a xs:=h.elim (fun h=>.inl (s.rd h)) .inr
theorem KdH.nt {K:Fg0}{H H':Hp}(s:Ntb H H'){k:Addr}{kd:Kk}(h:KdH K H k kd):KdH K H' k kd:=⟨Ntb.sqT s h.1,h.2⟩
structure a7m (K:Fg0) (H:Hp) (cols:Cl):Prop where
 nd:(cols.map (·.1)).Nodup
 le:cols.length≤12
 ok:∀c∈cols,a5G c.1/\∃kd,KdH K H c.2 kd
theorem a7m.nt {K:Fg0}{H H':Hp}(s:Ntb H H'){cols:Cl}(h:a7m K H cols):a7m K H' cols:=⟨h.nd,h.le,fun c hc=>⟨(h.ok c hc).1,let ⟨kd,e⟩:=(h.ok c hc).2;⟨kd,e.nt s⟩⟩⟩
def dC (cols:Cl):List (Key×V):=cols.map fun c=>(.inr c.1,.ref c.2)
theorem b2H {cols:Cl}(h:(cols.map (·.1)).Nodup):((dC cols).map (·.1)).Nodup:=by
 unfold dC;rw[List.map_map,show((fun x:Key×V=>x.1)∘fun c:Str×Addr=>((Sum.inr c.1:Key),V.ref c.2))=(Sum.inr∘fun c:Str×Addr=>c.1) from rfl,← List.map_map];exact List.Pairwise.map _ (fun a b hab h=>hab (by injection h)) h
theorem a5b:∀{cols:Cl} {c:Str×Addr},(cols.map (·.1)).Nodup->c∈cols->a3d (dC cols) (.inr c.1)=some (.ref c.2)
 |[],_,_,h=>nomatch h
 |d::r,c,nd,h=>by
  rw[List.map_cons,List.nodup_cons] at nd;rcases List.mem_cons.mp h with rfl |h
  ·unfold a3d dC
   simp
  ·have ne:d.1≠c.1:=fun e=>nd.1 (List.mem_map.mpr ⟨c,h,e.symm⟩)
   have ih:=a5b nd.2 h;unfold a3d dC at ih ⊢;rw[List.map_cons,List.find?_cons_of_neg (by simp[ne])];exact ih
theorem a1n {α:Type}{l:List α}{x y:α}{j:Nat}(h:(l++[x])[j]? =some y):l[j]? =some y\/(j=l.length/\y=x):=by
 by_cases hj:j<l.length
 ·rw[List.getElem?_append_left hj] at h
  exact .inl h
 ·have ej:j=l.length:=by
   have:=(gS0.mp h).1
   rw[List.length_append] at this;simp at this
   omega
  subst ej;rw[List.getElem?_append_right (Nat.le_refl _),Nat.sub_self] at h;cases h;exact .inr ⟨rfl,rfl⟩
def leS (a b:Str):Bool:=!decide (b.cps.toList<a.cps.toList)
theorem a3c {a b:Str}:leS a b=true↔a.cps.toList≤b.cps.toList:=by
 unfold leS;rw[Bool.not_eq_true',decide_eq_false_iff_not];exact Iff.rfl
theorem a8y (a b c:Str)(h:leS a b=true)(h':leS b c=true):leS a c=true:=a3c.mpr (List.le_trans (a3c.mp h) (a3c.mp h'))
theorem a7Z {a b:Str}(h:a.cps.toList=b.cps.toList):a=b:=Str.ext' (Array.toList_inj.mp h)
theorem a6p {a b:Str}(h:leS a b=true)(h':leS b a=true):a=b:=a7Z (List.le_antisymm (a3c.mp h) (a3c.mp h'))
theorem a5q:∀{l:List Str} {p:Str},PyProof.Rows.risingS p l=true->(p::l).Pairwise fun a b=>leS a b=true
 |[],p,_=>List.pairwise_singleton _ _
 |x::r,p,h=>by
  unfold PyProof.Rows.risingS at h;rw[Bool.and_eq_true] at h;have hx:leS p x=true:=by
   unfold leS;rw[PyProof.Rows.le_meets];exact h.1
  have ih:=a5q (l:=r) (p:=x) h.2;refine List.Pairwise.cons (fun y hy=>?_) ih;rcases List.mem_cons.mp hy with rfl |hy
  ·exact hx
  ·exact a8y p x y hx ((List.pairwise_cons.mp ih).1 y hy)
theorem a7g:∀{l:List Str},PyProof.Rows.sortedS l=true->l.Pairwise fun a b=>leS a b=true
 |[],_=>List.Pairwise.nil
 |x::r,h=>a5q h
def Srt (cols:Cl):Prop:=(cols.map (·.1)).Pairwise fun a b=>leS a b=true
theorem b4B {α:Type}{R1 R2:List (Str×α)}(nd:(R1.map (·.1)).Nodup)(p:R1.Perm R2)(h1:(R1.map (·.1)).Pairwise fun a b=>leS a b=true)(h2:(R2.map (·.1)).Pairwise fun a b=>leS a b=true):R1=R2:=by
 rw[List.pairwise_map] at h1 h2;refine List.Perm.eq_of_pairwise (fun a b ha hb h1 h2=>?_) h1 h2 p;have en:=a6p h1 h2;have mb:=p.mem_iff.mpr hb;obtain⟨i,hi,ei⟩:=List.mem_iff_getElem.mp ha;obtain⟨j,hj,ej⟩:=List.mem_iff_getElem.mp mb
 have:i=j:=by
  refine(List.getElem_inj (h₀:=by rw[lM0];exact hi) (h₁:=by rw[lM0];exact hj) nd).mp ?_;rw[List.getElem_map,List.getElem_map,ei,ej,en]
 subst this;exact ei.symm.trans ej
def kOf (cols:Cl)(z:Str):Addr:=((cols.find? fun c=>decide (c.1=z)).map (·.2)).getD 0
theorem b0c {cols:Cl}(nd:(cols.map (·.1)).Nodup){c:Str×Addr}(h:c∈cols):kOf cols c.1=c.2:=by
 induction cols with
 |nil=>cases h
 |cons d r ih=>
  rw[List.map_cons,List.nodup_cons] at nd;unfold kOf;rcases List.mem_cons.mp h with rfl |h
  ·rw[List.find?_cons_of_pos (by simp)]
   rfl
  ·have ne:d.1≠c.1:=fun e=>nd.1 (List.mem_map.mpr ⟨c,h,e.symm⟩)
   rw[List.find?_cons_of_neg (by simp[ne])];exact ih nd.2 h
theorem b1f {cols:Cl}(nd:(cols.map (·.1)).Nodup):(cols.map (·.1)).map (fun z=>(z,kOf cols z))=cols:=by
 rw[List.map_map];refine(List.map_congr_left (g:=id) fun c hc=>?_).trans (List.map_id _)
 show(c.1,kOf cols c.1)=c
 rw[b0c nd hc]
theorem a6m {K:Fg0}{H:Hp}{ps:List Addr}{cols:Cl}(hl:ps.length=cols.length)(hp:∀(j:Nat) (p:Addr) (c:Str×Addr),ps[j]? =some p->cols[j]? =some c->H p=some (.tup [.str c.1,.ref c.2])):∀(j:Nat) (k:Key) (v:V),(dC cols)[j]? =some (k,v)->∃p,(ps.map V.ref)[j]? =some (.ref p)/\SqT K H p [kV k,v]:=fun j k v hj=>by
 unfold dC at hj;rw[gM0] at hj;obtain⟨c,ec,e2⟩:=Option.map_eq_some_iff.mp hj;cases e2;have hjc:=(gS0.mp ec).1;have hjp:j<ps.length:=by omega
 exact⟨ps[j],by rw[gM0,gE0 hjp];rfl,SqT.of (hp j ps[j] c (gE0 hjp) ec)⟩
def a6c:Sp:=fun vs H Q _=>∃(f:Addr) (sz:Int) (T:Str) (cols:Cl),vs=[.ref f]/\FmA H f sz T cols/\∀p H',a0o H H'->H' p=some (.lst [.str T])->Q (.ref p) H'
def a4D:Sp:=fun vs H Q _=>∃(f:Addr) (sz:Int) (T:Str) (cols:Cl),vs=[.ref f,.str T]/\FmA H f sz T cols/\∀e,EnA H e T cols->Q (.ref e) H
def a1K:Sp:=fun vs H Q _=>∃(f:Addr) (sz:Int) (T:Str) (cols:Cl),vs=[.ref f,.str T]/\FmA H f sz T cols/\(cols.map (·.1)).Nodup/\cols.length≤12/\∀d H',a0o H H'->cut H H' d=some (.dK (dC cols))->Q (.ref d) H'
def a7Q:Sp:=fun vs H Q _=>∃(f:Addr) (sz:Int) (T:Str) (cols:Cl),vs=[.ref f]/\FmA H f sz T cols/\(cols.map (·.1)).Nodup/\cols.length≤12/\∀l e d H',a0o H H'->H' l=some (.lst [.ref e])->H' e=some (.tup [.str T,.str "head",.ref d])->H' d=some (.dK (dC cols))->Q (.ref l) H'
def b0o:Sp:=fun vs H Q _=>∃p:Addr,vs=[.ref p]/\H p=some (.lst [.str "head"])/\∀H',a0o H H'->Q .non H'
def b0t:Sp:=fun vs H Q _=>∃(p:Addr) (T:Str),vs=[.ref p]/\H p=some (.lst [.str T])/\a5G T/\∀H',a0o H H'->Q .non H'
def b0l (K:Fg0):Sp:=fun vs H Q _=>∃(d:Addr) (cols:Cl),vs=[.ref d]/\H d=some (.dK (dC cols))/\a7m K H cols/\∀ct cols' H',a0o H H'->cols'.Perm cols->Srt cols'->b0k H' ct cols'->Q (.ref ct) H'
theorem a3C {H:Hp}{D:Addr}{ys:List V}{o:HO}(e:H D=some (.lst ys)):∀b u,H b=some u->(∀zs,u≠.lst zs)->upd H D o b=some u:=fun b u h n=>by
 rw[a0h fun z=>by rw[z,e] at h;cases h;exact n ys rfl];exact h
theorem u20 {A:Around}{k:Nat}(hr:a1o k A):A.units+20<cLine:=by have:=hr.units;omega
theorem a8Z {K:Fg0}{H:Hp}{a b:Addr}{kd:Kk}(h:KdH K H a kd)(h':KdH K H b kd):Tq K H 1 (.ref a) (.ref b):=.tup h.1 h'.1 rfl fun i x y h1 h2=>by
 rw[h1] at h2;cases h2;have hm:=List.mem_of_getElem? h1;cases kd with
 |wh=>
  obtain rfl:x=_:=by simpa[Kk.vs] using hm
  exact .str
 |bel n=>
  rcases (show x=V.str "below"\/x=V.int n by simpa[Kk.vs] using hm) with rfl |rfl
  ·exact .str
  ·exact .int
 |upt n=>
  rcases (show x=V.str "upto"\/x=V.int n by simpa[Kk.vs] using hm) with rfl |rfl
  ·exact .str
  ·exact .int
section
variable {P:Program}{w:World}{K:Fg0}{mg:Str->Option Value}{base:Heap}
theorem a5S {f:Addr}{fd:FuncData}(F:Fun K "tables_of" "tables_of" (top 28) f fd):a0w P w K mg base CX0 1 f fd ["form"] a6c:=by
 have sc:a0j ["form"] ["form"] (a0e (top 28)):=.k (by decide +kernel);refine F.ok sc (fun vs H Q E h=>?_) (fun cdv A outer s H vs Q E hr h=>?_)
 ·obtain⟨f,sz,T,cols,rfl,_⟩:=h
  rfl
 ·obtain⟨f,sz,T,cols,rfl,⟨tt,e,h1,h2,ct,h3,h4⟩,q⟩:=h
  refine⟨_,a0f (a0p (a1d (osc:=a0e (top 28)) (N0:=["form"]) (xs:=["entry"]) (fr:=[]) ⟨rfl,by decide +kernel,by decide +kernel,by decide +kernel,by decide,by decide +kernel⟩ rfl rfl rfl (a6r (a0F a0H (pv 0) a0i (fun _ _=>rfl)))
    (fun s H fp=>a0n (i:=0) (show(["entry"]:List Str).Nodup by decide +kernel) rfl (Or.inl rfl)) (fun s H fp=>a0S) (fun s H fp=>a0F (r:=b3h K) a0H (pv 0) a0i (fun _ _=>rfl)))),?_⟩
  refine⟨_,rfl,_,_,1,_,rfl,rfl,SqT.of h1,rfl,tt,rfl,⟨_,SqT.of h2⟩,fun D hD=>?_⟩;have S:=a0o.upd (o:=.lst []) hD;refine a1I a0b ⟨_,V.ref e,SqT.of (S _ _ h2),rfl⟩ ?_;rintro x H' ⟨rfl,hx'⟩;cases hx' _ (SqT.of (S _ _ h2));refine⟨_,rfl,_,_,0,_,rfl,rfl,SqT.of (S _ _ h3),rfl,a0b,⟨_,SqT.of ((S.put hD) _ _ h2),Nat.le_refl _⟩,q D _ (S.put hD) a0b⟩
theorem a4j {f:Addr}{fd:FuncData}(F:Fun K "table_in" "table_in" (top 31) f fd):a0w P w K mg base CX0 1 f fd ["form","table"] a4D:=by
 have sc:a0j ["form","table","entry"] ["form","table"] (a0e (top 31)):=.k (by decide +kernel);refine F.ok sc (fun vs H Q E h=>?_) (fun cdv A outer s H vs Q E hr h=>?_)
 ·obtain⟨f,sz,T,cols,rfl,_⟩:=h
  rfl
 ·obtain⟨f,sz,T,cols,rfl,⟨tt,e,h1,h2,en⟩,q⟩:=h
  obtain⟨ct,h3,h4⟩:=id en;refine⟨_,a0d (a1p PassesOwn.never rfl (a6r (a0F a0H (pv 0) a0i (fun _ _=>rfl))) (a0n (i:=2) sc.nd rfl (Or.inl rfl))
    (a0f (a0R (a0z a1R (a0F a0H (pv 2) a0i (fun _ _=>rfl)) (pv 1) (a0E _)) (a0f (a0p (pv 2))) a0u))) a0q,?_⟩
  refine⟨_,rfl,_,_,1,_,rfl,rfl,SqT.of h1,rfl,tt,rfl,⟨_,SqT.of h2⟩,a9s (K:=K) (a:=tt) (x:=.ref e) (SqT.of h2) ?_⟩;exact⟨_,rfl,_,_,0,_,rfl,rfl,SqT.of h3,rfl,_,rfl,rfl,_,rfl,a3H (decide_eq_true rfl) ⟨_,rfl,q e en⟩⟩
theorem a4I {f fT:Addr}{fd fdT:FuncData}(F:Fun K "columns_of" "columns_of" (top 30) f fd)(B:Bl mg)(DT:Df K mg "table_in" (top 31) fT fdT):a0w P w K mg base CX0 2 f fd ["form","table"] a1K:=by
 have sc:a0j ["form","table"] ["form","table"] (a0e (top 30)):=.k (by decide +kernel);have GT:a0w P w K mg base CX0 1 fT fdT ["form","table"] a4D:=a4j DT.fn;have bT:=DT.fn.b2 "form" "table" (by intros;rfl);refine F.ok sc (fun vs H Q E h=>?_) (fun cdv A outer s H vs Q E hr h=>?_)
 ·obtain⟨f,sz,T,cols,rfl,_⟩:=h
  rfl
 ·obtain⟨f,sz,T,cols,rfl,hf,nd,le,q⟩:=h
  refine⟨_,a0f (a0p (a1a (a3V rfl) (by rfl) B.dict boot_dict (a0a (a0F a0H (a0g GT hr (by rfl) DT.mg DT.fn.kp bT .nil a0k (a0a (pv 0) (a0a (pv 1) a0c))) a0i (fun _ _=>rfl)) a0c))),?_⟩;refine⟨_,rfl,_,rfl,f,sz,T,cols,rfl,hf,fun e he=>?_⟩;obtain⟨ct,g1,o,ps,ho,hct,pl,hp⟩:=he;exact⟨_,_,2,_,rfl,rfl,SqT.of g1,rfl,ct,o,_,dC cols,rfl,hct,ho,(by rw[lM0];omega),(by unfold dC;rw[lM0,lM0,pl]),a6m pl hp,b2H nd,fun d hd=>q d _ (a0o.upd hd) (a0J hd a0b)⟩
theorem a9i {f:Addr}{fd:FuncData}(F:Fun K "parts_of" "parts_of" (top 32) f fd)(B:Bl mg):a0w P w K mg base CX0 1 f fd ["form"] a7Q:=by
 have sc:a0j ["form"] ["form"] (a0e (top 32)):=.k (by decide +kernel);refine F.ok sc (fun vs H Q E h=>?_) (fun cdv A outer s H vs Q E hr h=>?_)
 ·obtain⟨f,sz,T,cols,rfl,_⟩:=h
  rfl
 ·obtain⟨f,sz,T,cols,rfl,⟨tt,e,h1,h2,ct,h3,o,ps,ho,hct,pl,hp⟩,nd,le,q⟩:=h
  refine⟨_,a0f (a0p (a1d (osc:=a0e (top 32)) (N0:=["form"]) (xs:=["name","sort","columns"]) (fr:=[]) ⟨rfl,by decide +kernel,by decide +kernel,by decide +kernel,by decide,by decide +kernel⟩ rfl rfl rfl (a6r (a0F a0H (pv 0) a0i (fun _ _=>rfl)))
     (fun s H fp=>a2f (K:=K) (n:=3) rfl rfl (a0v (a0n (i:=0) (show(["name","sort","columns"]:List Str).Nodup by decide +kernel) rfl (Or.inl rfl)) (a0v (a0n (i:=1) (show(["name","sort","columns"]:List Str).Nodup by decide +kernel) rfl (Or.inl rfl)) (a0v (a0n (i:=2) (show(["name","sort","columns"]:List Str).Nodup by decide +kernel) rfl (Or.inl rfl)) a1g)))) (fun s H fp=>a0S)
     (fun s H fp=>a0I (a0a (pv 0) (a0a (pv 1) (a0a (a1a (a5Z (K:=K) rfl rfl) (by rfl) B.dict boot_dict (a0a (pv 2) a0c)) a0c)))))),?_⟩
  refine⟨_,rfl,_,_,1,_,rfl,rfl,SqT.of h1,rfl,tt,rfl,⟨_,SqT.of h2⟩,fun D hD=>?_⟩;have S:=a0o.upd (o:=.lst []) hD;refine a1I a0b ⟨_,V.ref e,SqT.of (S _ _ h2),rfl⟩ ?_;rintro x H' ⟨rfl,hx'⟩;cases hx' _ (SqT.of (S _ _ h2));refine⟨_,_,rfl,SqT.of (S _ _ h3),rfl,_,_,rfl,_,_,rfl,_,_,rfl,rfl,?_⟩;refine⟨_,rfl,_,rfl,_,rfl,ct,o,_,dC cols,rfl,S _ _ hct,ho,(by rw[lM0];omega),(by unfold dC;rw[lM0,lM0,pl]),a6m pl (fun j p c a b=>S _ _ (hp j p c a b)),b2H nd,fun d hd=>⟨(by show 3≤sizeLine;decide),fun g hg=>?_⟩⟩;have S2:=a0o.upd (o:=.dK (dC cols)) hd;have S3:=a0o.upd (o:=.tup [.str T,.str "head",.ref d]) hg;have hDn:=(S2.trans S3) D _ a0b;have SS:=((S.trans S2).trans S3).put (p:=D) (o:=.lst [V.ref g]) hD;refine⟨hDn,⟨_,SqT.of (SS _ _ h2),Nat.le_refl _⟩,q D g d _ SS a0b (a3C hDn _ _ a0b nofun) (a3C hDn _ _ (S3 _ _ a0b) nofun)⟩
theorem b0K {f sA:Addr}{fd:FuncData}(F:Fun K "ask_sorts" "ask_sorts" (top 25) f fd):a0w P w K mg base CX0 1 f fd ["sorts"] b0o:=by
 have sc:a0j ["sorts","sort"] ["sorts"] (a0e (top 25)):=.k (by decide +kernel);refine F.ok sc (fun vs H Q E h=>?_) (fun cdv A outer s H vs Q E hr h=>?_)
 ·obtain⟨p,rfl,_⟩:=h
  rfl
 ·obtain⟨p,rfl,hp,q⟩:=h
  have u:=u20 hr;refine⟨_,a0d (a0R (a0z (a2O u) (a1L a2H (pv 0) a2h (a2m a0i)) (a1t (a0a a0M a0c)) (a0E _)) a0q a0u)
   (a0f (a1p PassesOwn.never rfl (a0Q (a1L a2H (pv 0) (a2m a0i) a2h)) (a0n (i:=1) sc.nd rfl (Or.inl rfl)) a0q)),?_⟩
  refine⟨_,rfl,_,rfl,p,_,rfl,SqL.of hp,fun p1 e1=>?_⟩;rw[a7H (by decide) (by show(1:Int)≤1;decide)];have T1:=a0o.upd (o:=.lst [V.str "head"]) e1;refine⟨(by show 1≤sizeLine;decide),fun p2 e2=>?_⟩;have T2:=a0o.upd (o:=.lst [V.str "head"]) e2;have dh:∀{H:Hp} {p:Addr},H p=some (.lst [V.str "head"])->Dw H 1 (.lst [.fl (.str "head")]) (.ref p):=fun h=>DwL.lst h (.cons (.fl rfl) .nil);have d2:=dh (a0b (H:=upd H p1 (.lst [V.str "head"])) (a:=p2));refine⟨1,p1,p2,_,_,true,rfl,rfl,dh (T2 _ _ a0b),d2,d2.refl,(by decide),_,rfl,a2e ?_⟩;have S2:=T1.trans T2;refine⟨_,rfl,_,rfl,p,_,rfl,SqL.of (S2 _ _ hp),fun p3 e3=>?_⟩;rw[a4p (by decide) (by show(1:Int)≤1;decide)];have T3:=a0o.upd (o:=.lst ([]:List V)) e3;exact⟨p3,rfl,⟨_,SqL.of a0b⟩,a7U (K:=K) (SqL.of a0b) (q _ (S2.trans T3))⟩
theorem b1o {f fN:Addr}{fd fdN:FuncData}(F:Fun K "ask_names" "ask_names" (top 26) f fd)(DN:Df K mg "is_name" (top 13) fN fdN)(GN:a0w P w K mg base CX0 1 fN fdN ["thing"] a3Q):a0w P w K mg base CX0 2 f fd ["names"] b0t:=by
 have sc:a0j ["names","name"] ["names"] (a0e (top 26)):=.k (by decide +kernel);have bN:=DN.fn.b1 "thing" (by intros;rfl);refine F.ok sc (fun vs H Q E h=>?_) (fun cdv A outer s H vs Q E hr h=>?_)
 ·obtain⟨p,T,rfl,_⟩:=h
  rfl
 ·obtain⟨p,T,rfl,hp,hT,q⟩:=h
  refine⟨_,a0f (a1p PassesOwn.never rfl (a0Q (pv 0)) (a0n (i:=1) sc.nd rfl (Or.inl rfl))
    (a0d (a0R (a1G (a1r (a0g GN hr (by rfl) DN.mg DN.fn.kp bN .nil a0k (a0a (pv 1) a0c)))) a0q a0u)
    (a0f (a0R (a0z b0I (a4l PySem.F.plainAttrs_list PySem.F.slot_list_count PySem.F.type_list_count a9k (pv 0) (a0a (pv 1) a0c)) a0i (a0E _)) a0q a0u)))),?_⟩
  refine⟨_,rfl,p,rfl,⟨_,SqL.of hp⟩,a4S (K:=K) (a:=p) (x:=.str T) (SqL.of hp) ?_⟩;refine⟨_,rfl,T,rfl,hT,fun H5 s5=>⟨_,rfl,a2e ?_⟩⟩;have hp5:=s5 _ _ hp;refine⟨_,rfl,.inl ⟨rfl,_,SqL.of hp5⟩,_,rfl,p,[T],T,rfl,rfl,SqL.of hp5,_,_,rfl,rfl,_,rfl,?_⟩;have hc:[T].count T=1:=by simp
  exact a2s (decide_eq_false (by rw[hc];decide)) ⟨SqL.of hp5,q _ s5⟩
theorem b1g {f fN fK:Addr}{fd fdN fdK:FuncData}(F:Fun K "columns_made" "columns_made" (top 27) f fd)(B:Bl mg)(DN:Df K mg "is_name" (top 13) fN fdN)(GN:a0w P w K mg base CX0 1 fN fdN ["thing"] a3Q)(DK:Df K mg "is_kind" (top 17) fK fdK)(GK:a0w P w K mg base CX0 4 fK fdK ["thing"] (b1V K)) :
  a0w P w K mg base CX0 5 f fd ["columns"] (b0l K):=by
 have sc:a0j ["columns","column","kind"] ["columns"] (a0e (top 27)):=.k (by decide +kernel);have bN:=DN.fn.b1 "thing" (by intros;rfl);have bK:=DK.fn.b1 "thing" (by intros;rfl);refine F.ok sc (fun vs H Q E h=>?_) (fun cdv A outer s H vs Q E hr h=>?_)
 ·obtain⟨d,cols,rfl,_⟩:=h
  rfl
 ·obtain⟨d,cols,rfl,hd,ok,q⟩:=h
  have hr1:a1o 1 _:=hr.mono (by decide);have hu:=a2S hr;refine⟨_,a0d (a6E (a1p PassesOwn.never rfl (a2X (pv 0)) (a1Z rfl (a0v (a0n (i:=1) sc.nd rfl (Or.inl rfl)) (a0v (a0n (i:=2) sc.nd rfl (Or.inl rfl)) a1g)))
    (a0d (a0R (a1G (a1r (a0g GN hr1 (by rfl) DN.mg DN.fn.kp bN .nil a0k (a0a (pv 1) a0c)))) a0q a0u)
    (a0f (a0R (a1G (a1r (a0g GK hr (by rfl) DK.mg DK.fn.kp bK .nil a0k (a0a (pv 2) a0c)))) a0q a0u)))))
   (a0f (a0p (a1a a3t (by rfl) B.tuple boot_tuple (a0a (a1d (osc:=a0e (top 27)) (N0:=["columns","column","kind"]) (xs:=["column"]) (fr:=[0]) ⟨rfl,by decide +kernel,by decide +kernel,by decide +kernel,(fun j hj=>by
       have e:j=0:=by simpa using hj
       subst e;exact⟨_,rfl,by decide +kernel⟩),by decide +kernel⟩ rfl rfl rfl (a0Q (a0y (a4T rfl) (by rfl) B.sorted boot_sorted (a0a (pv 0) a0c)))
      (fun s H fp=>a0n (i:=0) (show(["column","columns"]:List Str).Nodup by decide +kernel) rfl (Or.inl rfl)) (fun s H fp=>a0S)
      (fun s H fp=>a0I (a0a (pv 0) (a0a (a2k hu (pv 1) (pv 0) (fun _ _=>rfl)) a0c)))) a0c)))),?_⟩
  refine⟨d,_,hd,fun o=>?_⟩;have hfa:(upd H d (.frz o (.dK (dC cols)))) d=some (.frz o (.dK (dC cols))):=a0b;have ok0:∀c∈cols,a5G c.1/\∃kd,KdH K (upd H d (.frz o (.dK (dC cols)))) c.2 kd:=fun c hc=>by
   obtain⟨n1,kd,e1,e2⟩:=ok.ok c hc;refine⟨n1,kd,?_,e2⟩;rcases e1 with (e1 |⟨o',e1⟩) |e1
   ·exact .inl (.inl ((a0h (fun z=>by rw[z,hd] at e1;cases e1)).trans e1))
   ·exact .inl (.inr ⟨o',(a0h (fun z=>by rw[z,hd] at e1;cases e1)).trans e1⟩)
   ·exact .inr e1
  have bs:=fun H1=>a4W (H1:=H1) (o:=o) hd;generalize upd H d (.frz o (.dK (dC cols)))=H0 at *;refine⟨_,rfl,d,o,_,rfl,hfa,a5j (a:=d) (o:=o) (kvs:=dC cols) (fun i σ H1=>a0o H0 H1/\∃u1 u2,σ=[some (.ref d),u1,u2]) ⟨a0o.refl _,_,_,rfl⟩ (fun i σ H1 _ p=>p.1 _ _ hfa) ?_ ?_⟩
  ·rintro i k v p σ H1 hk ⟨s1,u1,u2,rfl⟩ hp
   obtain⟨c,hm,e⟩:=List.mem_map.mp (List.mem_of_getElem? hk);cases e;obtain⟨n1,kd,hkd⟩:=ok0 c hm;have T:=a0o.upd (o:=.tup [kV (.inr c.1),V.ref c.2]) hp;refine⟨p,_,rfl,SqT.of a0b,rfl,_,_,rfl,_,_,rfl,rfl,?_⟩;refine⟨_,rfl,c.1,rfl,n1,fun H5 s5=>⟨_,rfl,a2e ?_⟩⟩;have S5:=s1.trans (T.trans s5);refine⟨_,rfl,c.2,kd,rfl,hkd.nt (.of S5),fun H6 s6=>⟨_,rfl,a2e ?_⟩⟩;exact⟨S5.trans s6,_,_,rfl⟩
  ·rintro σ H1 ⟨s1,u1,u2,rfl⟩
   refine⟨s1 _ _ hfa,?_⟩;have S1:a0o H (upd H1 d (.dK (dC cols))):=bs _ s1;generalize upd H1 d (.dK (dC cols))=H2 at S1 ⊢;have hd2:=S1 _ _ hd;have hkm:(dC cols).map (·.1)=(cols.map (·.1)).map Sum.inr:=by
    unfold dC;rw[List.map_map,List.map_map]
    rfl
   refine⟨_,rfl,d,_,cols.map (·.1),rfl,.inl hd2,hkm,(by rw[lM0];have:=ok.le;omega),fun l zs hl hpm hso=>?_⟩;have T3:=a0o.upd (o:=.lst (zs.map V.str)) hl;have S3:=S1.trans T3;have e3:=a0b (H:=H2) (a:=l) (o:=.lst (zs.map V.str));generalize upd H2 l (.lst (zs.map V.str))=H3 at *;refine⟨l,rfl,⟨_,SqL.of e3⟩,fun D hD=>?_⟩;refine a1x zs.length (fun i ys σ' Hc=>(∃t,σ'=[t,some (.ref d)])/\a0o H3 Hc/\∃ts:List Addr,ys=ts.map V.ref/\∀(j:Nat) (t:Addr) (z:Str),ts[j]? =some t->zs[j]? =some z->nw H3 D Hc t=some (.tup [.str z,.ref (kOf cols z)])) (by have:=hpm.length_eq;rw[lM0] at this;have:=ok.le;rw[sizeLine_eq];omega) ⟨⟨none,rfl⟩,a0o.upd hD,[],rfl,(fun j t z h=>nomatch h)⟩ a0b ?_ ?_
   ·rintro i σ' Hc ys hi ⟨⟨t,rfl⟩,sm,ts,rfl,hts⟩ hyl hD'
    rw[lM0] at hyl;refine⟨⟨_,V.str zs[i],SqL.of (sm _ _ e3),by rw[gM0,gE0 hi];rfl⟩,?_⟩;rintro x H' ⟨rfl,hx'⟩;have ex:=hx' _ (SqL.of (sm _ _ e3));rw[gM0,gE0 hi] at ex;cases ex;obtain⟨c,hc,ec⟩:=List.mem_map.mp (hpm.mem_iff.mp (List.getElem_mem hi));refine⟨_,rfl,_,rfl,_,rfl,d,.ref c.2,rfl,.inl ⟨_,.inr zs[i],.inl ((S3.trans sm) _ _ hd),rfl,(by rw[← ec];exact(a5b ok.nd hc).symm)⟩,(by show 2≤sizeLine;decide),fun g hg=>?_⟩;have T5:=a0o.upd (o:=.tup [V.str zs[i],.ref c.2]) hg;refine⟨T5 _ _ hD',⟨_,rfl⟩,(sm.trans T5).put hD,ts++[g],by rw[List.map_append];rfl,fun j t' z h1 h2=>?_⟩;rcases a1n h1 with h1 |⟨rfl,rfl⟩
    ·exact a0X _ _ (a2T T5 _ _ (hts j t' z h1 h2))
    ·rw[hyl,gE0 hi] at h2
     cases h2;rw[← ec,b0c ok.nd hc,ec];exact a0X _ _ (a5F sm hD' _ _ (a0J hg a0b))
   ·rintro σ' Hc ys ⟨_,sm,ts,rfl,hts⟩ hDn hyl
    rw[lM0] at hyl;refine⟨⟨_,SqL.of (sm _ _ e3),by rw[lM0];exact Nat.le_refl _⟩,D,_,rfl,SqL.of hDn,fun ct o hct ho=>?_⟩;have T6:=a0o.upd (o:=.frz o (.tup (ts.map V.ref))) hct;refine q ct (zs.map fun z=>(z,kOf cols z)) _ ((S3.trans sm).trans T6) ?_ ?_ ⟨o,ts,ho,a0b,by rw[lM0];exact hyl,fun j t c h1 h2=>?_⟩
    ·have:=hpm.map (fun z=>(z,kOf cols z))
     rw[b1f ok.nd] at this;exact this
    ·unfold Srt
     rw[List.map_map];exact(List.map_id zs).symm▸a7g hso
    ·rw[gM0] at h2
     obtain⟨z,e2,rfl⟩:=Option.map_eq_some_iff.mp h2;exact T6 _ _ (a0t _ _ (a1b _ _ (hts j t z h1 e2)))
def a0O (P:Addr)(pos:Pos)(q:Str)(H:Hp):Prop:=H P=some (.tbl #[])\/∃c',H P=some (.tbl #[rawInt pos.line,rawInt pos.col,.ref c'])/\H c'=some (.ext (a4t c' q))
def Fr (P:Addr)(H H':Hp):Prop:=∀b o,b≠P->H b=some o->H' b=some o
theorem Fr.of {P:Addr}{H H':Hp}(s:a0o H H'):Fr P H H':=fun b o _ e=>s b o e
theorem Fr.trans {P:Addr}{H H1 H2:Hp}(s:Fr P H H1)(t:Fr P H1 H2):Fr P H H2:=fun b o n e=>t b o n (s b o n e)
theorem a0O.tbl {P:Addr}{pos:Pos}{q:Str}{H:Hp}(h:a0O P pos q H):∃zs,H P=some (.tbl zs):=by
 rcases h with h |⟨c',h,_⟩
 ·exact⟨_,h⟩
 ·exact⟨_,h⟩
theorem Fr.nt {P:Addr}{pos:Pos}{q:Str}{H H':Hp}(s:Fr P H H')(h:a0O P pos q H):Ntb H H':=fun b o e n=>s b o (fun z=>by
 obtain⟨zs,h⟩:=h.tbl;rw[z,h] at e;cases e;exact n zs rfl) e
theorem a0O.same {P:Addr}{pos:Pos}{q:Str}{H H':Hp}(h:a0O P pos q H)(s:a0o H H'):a0O P pos q H':=by
 rcases h with h |⟨c',h1,h2⟩
 ·exact .inl (s _ _ h)
 ·exact .inr ⟨c',s _ _ h1,s _ _ h2⟩
theorem a9G {P:Addr}{pos:Pos}{q:Str}{params:Arguments}{body:Expr}{scope:Scope}{pm:Value}{σ:L2.St}{H:Hp}{Q:VK}(h:a0O P pos q H)
  (hq:∀f c' H',Fr P H H'->a0O P pos q H'->H' f=some (.ext (a8X f q params body scope pm c'))->H' c'=some (.ext (a4t c' q))->Q (.ref f) H'):b5x P pos q params body scope pm σ H Q:=by
 rcases h with h |⟨c',h1,h2⟩
 ·refine⟨#[],h,trivial,.inl ⟨rfl,fun c' f n1 n2 n3 n4 n5=>?_⟩⟩
  refine hq f c' _ (fun a o n e=>?_) ?_ a0b (by rw[a0h n3];exact a0b)
  ·rw[a0h (fun z=>by rw[z,n2] at e;cases e),a0h (fun z=>by rw[z,n1] at e;cases e),a0h n]
   exact e
  ·refine .inr ⟨c',?_,by rw[a0h n3];exact a0b⟩
   rw[a0h (Ne.symm n5),a0h (Ne.symm n4)];exact a0b
 ·refine⟨_,h1,trivial,.inr ⟨c',by simp[codeAmong,rawInt],fun f n=>?_⟩⟩
  have S:=a0o.upd (o:=.ext (a8X f q params body scope pm c')) n;exact hq f c' _ (.of S) (.inr ⟨c',S _ _ h1,S _ _ h2⟩) a0b (S _ _ h2)
def b3D:Stmt->Expr
 | .Assign _ (.Call _ _ [⟨_,e,_⟩] _) _=>e
 | .Return (some e) _=>e
 |_=>.Constant .none 0 ⟨0,0,0,0⟩
def b2p:Expr->Pos
 | .Lambda _ _ _ p=>p
 |_=>⟨0,0,0,0⟩
def a9b:Expr:=b3D ((a0G (top 24)).getD 4 (.Pass ⟨0,0,0,0⟩))
def b1j:Expr->Arguments
 | .Lambda a _ _ _=>a
 |_=>a0K (top 24)
def b0M:Expr->Expr
 | .Lambda _ b _ _=>b
 |e=>e
def a9v:Expr->Scope
 | .Lambda _ _ s _=>s
 |_=>a0e (top 24)
def a0Z:Pos:=b2p a9b
def foQ:Str:="form_of.<locals>.<lambda>"
def a8b (K:Fg0)(PF:Addr):Sp:=fun vs H Q _=>∃(l e d:Addr) (sz:Int) (T:Str) (cols:Cl),vs=[.int sz,.ref l]/\1≤sz/\H l=some (.lst [.ref e])/\H e=some (.tup [.str T,.str "head",.ref d])/\H d=some (.dK (dC cols))/\a5G T/\a7m K H cols/\a0O PF a0Z foQ H ∧
 ∀f cols' H',Fr PF H H'->a0O PF a0Z foQ H'->cols'.Perm cols->Srt cols'->FmA H' f sz T cols'->Q (.ref f) H'
theorem b0k.up {H H':Hp}(s:∀b u,H b=some u->(∀zs,u≠.lst zs)->H' b=some u){ct:Addr}{cols:Cl}(h:b0k H ct cols):b0k H' ct cols:=let ⟨o,p,a,b,l,c⟩:=h;⟨o,p,a,s _ _ b nofun,l,fun j x y e1 e2=>s _ _ (c j x y e1 e2) nofun⟩
theorem b1G {f c PF fW fS fN fC:Addr}{fd fdW fdS fdN fdC:FuncData}(F:b1U K "form_of" "form_of" (top 24) f fd c)(B:Bl mg)(hC:PySem.W.codeHdIn K c PF=true)(hB:L2.a5m base mg)
  (DW:Df K mg "is_whole" (top 12) fW fdW) (GW:a0w P w K mg base CX0 1 fW fdW ["thing"] b1T) (DS:Df K mg "ask_sorts" (top 25) fS fdS) (GS:a0w P w K mg base CX0 1 fS fdS ["sorts"] b0o) (DN:Df K mg "ask_names" (top 26) fN fdN) (GN:a0w P w K mg base CX0 2 fN fdN ["names"] b0t)
  (DC:Df K mg "columns_made" (top 27) fC fdC) (GC:a0w P w K mg base CX0 5 fC fdC ["columns"] (b0l K)):a0w P w K mg base CX0 6 f fd ["size","tables"] (a8b K PF):=by
 have sc:a0j ["size","tables","made","sides"] ["size","tables"] (a0e (top 24)):=.k (by decide +kernel);have bW:=DW.fn.b1 "thing" (by intros;rfl);have bS:=DS.fn.b1 "sorts" (by intros;rfl);have bN:=DN.fn.b1 "names" (by intros;rfl);have bC:=DC.fn.b1 "columns" (by intros;rfl);refine F.ok sc (fun vs H Q E h=>?_) (fun A outer s H vs Q E hr h=>?_)
 ·obtain⟨l,e,d,sz,T,cols,rfl,_⟩:=h
  rfl
 ·obtain⟨l,e,d,sz,T,cols,rfl,sz1,hl,he,hd,hT,ok,tab,q⟩:=h
  have hr1:a1o 1 _:=hr.mono (by decide);have hr2:a1o 2 _:=hr.mono (by decide);have nd3:(["name","sort","columns"]:List Str).Nodup:=by decide +kernel
  refine⟨_,a0d (a0R (PW.pt (a5R (a1G (a1r (a0g GW hr1 (by rfl) DW.mg DW.fn.kp bW .nil a0k (a0a (pv 0) a0c)))) (a3L (a0z b2Z (pv 0) a0i (a0E _))))) a0q a0u)
   (a0d (a0Y (a0g GS hr1 (by rfl) DS.mg DS.fn.kp bS .nil a0k (a0a (a1d (osc:=a0e (top 24)) (N0:=["size","tables","made","sides"]) (xs:=["name","sort","columns"]) (fr:=[]) ⟨rfl,by decide +kernel,by decide +kernel,by decide +kernel,by decide,by decide +kernel⟩ rfl rfl rfl (a0Q (pv 1))
     (fun s H fp=>a2f (K:=K) (n:=3) rfl rfl (a0v (a0n (i:=0) nd3 rfl (Or.inl rfl)) (a0v (a0n (i:=1) nd3 rfl (Or.inl rfl)) (a0v (a0n (i:=2) nd3 rfl (Or.inl rfl)) a1g)))) (fun s H fp=>a0S)
     (fun s H fp=>pv 1)) a0c)))
   (a0d (a0Y (a0g GN hr2 (by rfl) DN.mg DN.fn.kp bN .nil a0k (a0a (a1d (osc:=a0e (top 24)) (N0:=["size","tables","made","sides"]) (xs:=["name","sort","columns"]) (fr:=[]) ⟨rfl,by decide +kernel,by decide +kernel,by decide +kernel,by decide,by decide +kernel⟩ rfl rfl rfl (a0Q (pv 1))
     (fun s H fp=>a2f (K:=K) (n:=3) rfl rfl (a0v (a0n (i:=0) nd3 rfl (Or.inl rfl)) (a0v (a0n (i:=1) nd3 rfl (Or.inl rfl)) (a0v (a0n (i:=2) nd3 rfl (Or.inl rfl)) a1g)))) (fun s H fp=>a0S)
     (fun s H fp=>pv 0)) a0c)))
   (a0d (a3h (i:=2) (osc:=a0e (top 24)) (N0:=["size","tables","made","sides"]) (xs:=["name","sort","columns"]) (fr:=[]) ⟨rfl,by decide +kernel,by decide +kernel,by decide +kernel,by decide,by decide +kernel⟩ rfl rfl rfl (a0Q (pv 1))
     (fun s H fp=>a2f (K:=K) (n:=3) rfl rfl (a0v (a0n (i:=0) nd3 rfl (Or.inl rfl)) (a0v (a0n (i:=1) nd3 rfl (Or.inl rfl)) (a0v (a0n (i:=2) nd3 rfl (Or.inl rfl)) a1g)))) (fun s H fp=>a0S)
     (fun s H fp=>a0I (a0a (pv 0) (a0a (pv 1) (a0a (a0g GC hr (by rfl) DC.mg DC.fn.kp bC .nil a0k (a0a (pv 2) a0c)) a0c)))) sc.nd rfl (Or.inl rfl))
   (a0d (a0r (i:=3) sc.nd rfl (Or.inl rfl) (a6Z (k:=2) (x:="table") (q:=foQ) (params:=b1j a9b) (body:=b0M a9b) (scope:=a9v a9b) (pm:=(mg "__name__").getD .none) (tb:=tOp (b3h K) (a2R 0) (tC (.int 0))) hr (by rfl) B.sorted (a1L a2H (pv 2) (a2m a0i) a2h) (b2N rfl hC hB) ⟨rfl,rfl,rfl,by decide +kernel,rfl,by decide +kernel,by decide +kernel⟩ (fun _ _ _=>rfl) (fun f c' s H=>a0F (r:=b3h K) a0H (pv 0) a0i (fun _ _=>rfl))))
   (a0f (a0p (a0I (a0a (pv 0) (a0a (a1a a1X (by rfl) B.tuple boot_tuple (a0a (a0P b0q (a1L a2H (pv 2) a2h (a2m a0i)) (pv 3)) a0c)) a0c)))))))))
   ,?_⟩
  refine⟨_,rfl,sz,rfl,_,rfl,a2e ?_⟩;refine⟨_,rfl,_,_,rfl,rfl,_,rfl,a2s (decide_eq_false (by omega)) ?_⟩;refine⟨_,rfl,l,rfl,⟨_,SqL.of hl⟩,fun D1 hD1=>?_⟩;have T1:=a0o.upd (o:=.lst []) hD1;refine a1I a0b ⟨_,V.ref e,SqL.of (T1 _ _ hl),rfl⟩ ?_;rintro x H' ⟨rfl,hx'⟩;cases hx' _ (SqL.of (T1 _ _ hl));refine⟨_,_,rfl,SqT.of (T1 _ _ he),rfl,_,_,rfl,_,_,rfl,_,_,rfl,rfl,_,rfl,a0b,?_⟩;have S1:a0o H (upd (upd H D1 (.lst [])) D1 (.lst [V.str "head"])):=T1.put hD1;refine⟨⟨_,SqL.of (S1 _ _ hl),Nat.le_refl _⟩,D1,rfl,a0b,fun H2 s2=>?_⟩;have S2:=S1.trans s2;refine⟨_,rfl,l,rfl,⟨_,SqL.of (S2 _ _ hl)⟩,fun D3 hD3=>?_⟩;have T3:=a0o.upd (o:=.lst []) hD3;have S3':=S2.trans T3;refine a1I a0b ⟨_,V.ref e,SqL.of (S3' _ _ hl),rfl⟩ ?_;rintro x H' ⟨rfl,hx'⟩;cases hx' _ (SqL.of (S3' _ _ hl));refine⟨_,_,rfl,SqT.of (S3' _ _ he),rfl,_,_,rfl,_,_,rfl,_,_,rfl,rfl,_,rfl,a0b,?_⟩;have S3:a0o H (upd (upd H2 D3 (.lst [])) D3 (.lst [V.str T])):=S2.trans (T3.put hD3);refine⟨⟨_,SqL.of (S3 _ _ hl),Nat.le_refl _⟩,D3,T,rfl,a0b,hT,fun H4 s4=>?_⟩;have S4:=S3.trans s4;refine⟨_,rfl,l,rfl,⟨_,SqL.of (S4 _ _ hl)⟩,fun D5 hD5=>?_⟩;have T5:=a0o.upd (o:=.lst []) hD5;have S5:=S4.trans T5;refine a1I a0b ⟨_,V.ref e,SqL.of (S5 _ _ hl),rfl⟩ ?_;rintro x H' ⟨rfl,hx'⟩;cases hx' _ (SqL.of (S5 _ _ hl));refine⟨_,_,rfl,SqT.of (S5 _ _ he),rfl,_,_,rfl,_,_,rfl,_,_,rfl,rfl,?_⟩;refine⟨_,rfl,_,rfl,_,rfl,d,cols,rfl,S5 _ _ hd,ok.nt (.of S5),fun ct cols' H6 s6 hpm hsr hct=>⟨(by show 3≤sizeLine;decide),fun g hg=>?_⟩⟩;have T7:=a0o.upd (o:=.tup [.str T,.str "head",.ref ct]) hg;have hDn:=(s6.trans T7) D5 _ a0b;have S7:=((S5.trans s6).trans T7).put (p:=D5) (o:=.lst [V.ref g]) (a1e S4 hD5);have up:∀b u,H6 b=some u->(∀zs,u≠.lst zs)->(upd (upd H6 g (.tup [.str T,.str "head",.ref ct])) D5 (.lst [V.ref g])) b=some u:=fun b u h n=>a3C hDn b u (T7 _ _ h) n;have eg:(upd (upd H6 g (.tup [.str T,.str "head",.ref ct])) D5 (.lst [V.ref g])) g=some (.tup [.str T,.str "head",.ref ct]):=a3C hDn g _ a0b nofun
  have eD:(upd (upd H6 g (.tup [.str T,.str "head",.ref ct])) D5 (.lst [V.ref g])) D5=some (.lst [V.ref g]):=a0b;have hct7:=hct.up up;refine⟨hDn,⟨_,SqL.of (S7 _ _ hl),Nat.le_refl _⟩,?_⟩;generalize upd (upd H6 g (.tup [.str T,.str "head",.ref ct])) D5 (.lst [V.ref g])=H7 at *;refine⟨_,rfl,_,rfl,D5,_,rfl,SqL.of eD,fun p8 e8=>?_⟩;rw[a4p (by decide) (by show(1:Int)≤1;decide)];have T8:=a0o.upd (o:=.lst ([]:List V)) e8;have S8:=S7.trans T8;refine a9G (tab.same S8) fun lf c' H9 fr9 tab9 hlf hc9=>?_;have pf:∃zs,(upd H7 p8 (.lst ([]:List V))) PF=some (.tbl zs):=(tab.same S8).tbl;have n9:Ntb (upd H7 p8 (.lst ([]:List V))) H9:=fr9.nt (tab.same S8);have N9:Ntb H7 H9:=(Ntb.of T8).trans n9;refine⟨p8,lf,c',[],[],rfl,rfl,hlf,hc9,SqL.of (n9 _ _ a0b nofun),rfl,List.nodup_nil,(by decide),(fun i v z h1 h2=>nomatch h1),fun l9 ix nl9 hix hri=>?_⟩;have eix:ix=[]:=by
   have:=hix.length_eq
   exact List.length_eq_zero_iff.mp this
  subst eix;have T10:=a0o.upd (o:=.lst ([]:List V)) nl9;have eD9:=N9 _ _ eD nofun
  refine⟨_,rfl,_,rfl,_,rfl,D5,_,rfl,SqL.of (T10 _ _ eD9),fun p11 e11=>?_⟩;rw[a7H (by decide) (by show(1:Int)≤1;decide)];have T11:=a0o.upd (o:=.lst [V.ref g]) e11;refine⟨_,rfl,p11,l9,[V.ref g],[],rfl,rfl,a0b,T11 _ _ a0b,(by show 1+0≤sizeLine;decide),fun p12 e12=>?_⟩;have T12:=a0o.upd (o:=.lst ([V.ref g]++[])) e12;refine⟨p12,_,rfl,.inl ⟨SqL.of a0b,fun p13 e13=>⟨(by show 2≤sizeLine;decide),fun p14 e14=>?_⟩⟩⟩;have T13:=a0o.upd (o:=.tup [V.ref g]) e13;have T14:=a0o.upd (o:=.tup [.int sz,V.ref p13]) e14;have SL:=(T10.trans (T11.trans T12)).trans (T13.trans T14);exact q p14 cols' _ (fun b o nb hb=>SL _ _ (fr9 b o nb (S8 _ _ hb))) (tab9.same SL) hpm hsr ⟨p13,g,a0b,T14 _ _ a0b,ct,SL _ _ (N9 _ _ eg nofun),hct7.nt (N9.trans (.of SL))⟩
end
def a3g (K:Fg0)(PF:Addr):Sp:=fun vs H Q _=>∃(f cd:Addr) (sz:Int) (T:Str) (cols cols':Cl),vs=[.ref f,.str T,.ref cd]/\FmA H f sz T cols/\(cols.map (·.1)).Nodup/\cols.length≤12/\1≤sz/\H cd=some (.dK (dC cols'))/\a5G T/\a7m K H cols'/\a0O PF a0Z foQ H ∧
 ∀f' cols2 H',Fr PF H H'->a0O PF a0Z foQ H'->cols2.Perm cols'->Srt cols2->FmA H' f' sz T cols2->Q (.ref f') H'
def a7o (cols:Cl)(C:Str)(k:Addr):Cl:=cols.map fun c=>if c.1=C then(C,k) else c
theorem a2W {cols:Cl}{C:Str}{k:Addr}:(a7o cols C k).map (·.1)=cols.map (·.1):=by
 unfold a7o;rw[List.map_map];refine List.map_congr_left fun c _=>?_
 show(if c.1=C then(C,k) else c).1=c.1
 split
 ·rename_i h;exact h.symm
 ·rfl
theorem b2h {cols:Cl}{C:Str}{k kn:Addr}(hm:(C,k)∈cols)(nd:(cols.map (·.1)).Nodup):a2M (dC cols) (.inr C) (.ref kn)=dC (a7o cols C kn):=by
 unfold a2M;have hany:((dC cols).any fun kv=>decide (kv.1=(.inr C:Key)))=true:=List.any_eq_true.mpr ⟨(.inr C,.ref k),List.mem_map.mpr ⟨_,hm,rfl⟩,decide_eq_true rfl⟩;rw[if_pos hany];unfold dC a7o;rw[List.map_map,List.map_map];refine List.map_congr_left fun c _=>?_
 show(if (Sum.inr c.1:Key)=.inr C then((Sum.inr c.1:Key),V.ref kn) else(.inr c.1,.ref c.2))=(.inr (if c.1=C then(C,kn) else c).1,.ref (if c.1=C then(C,kn) else c).2)
 by_cases h:c.1=C
 ·rw[if_pos h,if_pos (by rw[h]),h]
 ·rw[if_neg h,if_neg (fun e=>h (by injection e))]
theorem b0J {K:Fg0}{H:Hp}{cols:Cl}{C:Str}{kn:Addr}{kd:Kk}(h:a7m K H cols)(hk:KdH K H kn kd):a7m K H (a7o cols C kn):=by
 refine⟨by rw[a2W];exact h.nd,by unfold a7o;rw[lM0];exact h.le,fun c hc=>?_⟩;obtain⟨c0,h0,rfl⟩:=List.mem_map.mp hc
 by_cases e:c0.1=C
 ·rw[if_pos e]
  exact⟨by rw[← e];exact(h.ok c0 h0).1,kd,hk⟩
 ·rw[if_neg e]
  exact h.ok c0 h0
def a4v (K:Fg0)(PF:Addr):Sp:=fun vs H Q _=>∃(f:Addr) (sz:Int) (T C:Str) (cols:Cl) (k ko kn:Addr) (kd kd':Kk),vs=[.ref f,.str T,.str C,.ref ko,.ref kn]/\FmA H f sz T cols/\1≤sz/\(C,k)∈cols/\KdH K H k kd/\SqT K H ko kd.vs/\KdH K H kn kd'/\a5G T/\a7m K H cols/\Srt cols/\a0O PF a0Z foQ H ∧
 ∀f' H',Fr PF H H'->a0O PF a0Z foQ H'->FmA H' f' sz T (a7o cols C kn)->Q (.ref f') H'
def a5U:Sp:=fun vs H Q _=>vs=[.bl true]/\Q .non H
section
variable {P:Program}{w:World}{K:Fg0}{mg:Str->Option Value}{base:Heap}{PF:Addr}
theorem a9d {fself fF fP fT:Addr}{fd fdF fdP fdT:FuncData}(F:Fun K "with_columns" "with_columns" (top 33) fself fd)(DF:Df K mg "form_of" (top 24) fF fdF)(GF:a0w P w K mg base CX0 6 fF fdF ["size","tables"] (a8b K PF))(B:Bl mg)(DP:Df K mg "parts_of" (top 32) fP fdP)(DT:Df K mg "table_in" (top 31) fT fdT) :
  a0w P w K mg base CX0 7 fself fd ["form","table","columns"] (a3g K PF):=by
 have sc:a0j ["form","table","columns","parts","name","sort","had"] ["form","table","columns"] (a0e (top 33)):=.k (by decide +kernel);have GP:a0w P w K mg base CX0 1 fP fdP ["form"] a7Q:=a9i DP.fn B;have GT:a0w P w K mg base CX0 1 fT fdT ["form","table"] a4D:=a4j DT.fn;have bF:=DF.fn.b2 "size" "tables" (by intros;rfl);have bP:=DP.fn.b1 "form" (by intros;rfl);have bT:=DT.fn.b2 "form" "table" (by intros;rfl);refine F.ok sc (fun vs H Q E h=>?_) (fun cdv A outer s H vs Q E hr h=>?_)
 ·obtain⟨f,cd,sz,T,cols,cols',rfl,_⟩:=h
  rfl
 ·obtain⟨f,cd,sz,T,cols,cols',rfl,hf,nd,le,sz1,hcd,hT,ok,tab,q⟩:=h
  have hr1:a1o 1 _:=hr.mono (by decide);refine⟨_,a0d (a0Y (a0g GT hr1 (by rfl) DT.mg DT.fn.kp bT .nil a0k (a0a (pv 0) (a0a (pv 1) a0c))))
   (a0d (a0r (i:=3) sc.nd rfl (Or.inl rfl) (a1t a0c))
   (a0d (a1p PassesOwn.never rfl (a0Q (a0g GP hr1 (by rfl) DP.mg DP.fn.kp bP .nil a0k (a0a (pv 0) a0c))) (a1Z rfl (a0v (a0n (i:=4) sc.nd rfl (Or.inl rfl)) (a0v (a0n (i:=5) sc.nd rfl (Or.inl rfl)) (a0v (a0n (i:=6) sc.nd rfl (Or.inl rfl)) a1g))))
    (a0f (a0Y (a4l PySem.F.plainAttrs_list PySem.F.slot_list_append PySem.F.type_list_append a2K (pv 3) (a0a (a0I (a0a (pv 4) (a0a (pv 5) (a0a (a2Y (a0z a1R (pv 4) (pv 1) (a0E _)) (pv 2) (pv 6)) a0c)))) a0c)))))
   (a0f (a0p (a0g GF hr (by rfl) DF.mg DF.fn.kp bF .nil a0k (a0a (a0F a0H (pv 0) a0i (fun _ _=>rfl)) (a0a (pv 3) a0c))))))),?_⟩
  refine⟨_,rfl,_,rfl,f,sz,T,cols,rfl,hf,fun e _=>?_⟩;refine⟨Nat.zero_le _,fun D hD=>?_⟩;have T1:=a0o.upd (o:=.lst ([]:List V)) hD;refine⟨_,rfl,f,sz,T,cols,rfl,hf.same T1,nd,le,fun l e d H2 s2 hl he hd=>?_⟩;have S2:=T1.trans s2;have hD2:H2 D=some (.lst []):=s2 _ _ a0b;refine⟨l,rfl,⟨_,SqL.of hl⟩,a4S (K:=K) (a:=l) (x:=.ref e) (SqL.of hl) ?_⟩;refine⟨_,_,rfl,SqT.of he,rfl,_,_,rfl,_,_,rfl,_,_,rfl,rfl,?_⟩;refine⟨_,rfl,.inl ⟨rfl,_,SqL.of hD2⟩,_,rfl,_,rfl,_,rfl,_,rfl,rfl,_,rfl,a3H (decide_eq_true rfl) ⟨_,rfl,(by show 3≤sizeLine;decide),fun g hg=>?_⟩⟩;have T3:=a0o.upd (o:=.tup [.str T,.str "head",.ref cd]) hg;have hDn:=T3 _ _ hD2;have nl:l≠D:=fun e=>by rw[e,hD2] at hl;cases hl
  refine⟨D,_,_,rfl,rfl,hDn,(by show 0<sizeLine;decide),SqL.of (by rw[a0h nl];exact T3 _ _ hl),?_⟩;have SC:=(S2.trans T3).put (p:=D) (o:=.lst ([]++[V.ref g])) hD;have hg3:=a3C hDn (o:=.lst ([]++[V.ref g])) g _ a0b nofun
  have hDD:=a0b (H:=upd H2 g (.tup [.str T,.str "head",.ref cd])) (a:=D) (o:=.lst ([]++[V.ref g]));generalize upd (upd H2 g (.tup [.str T,.str "head",.ref cd])) D (.lst ([]++[V.ref g]))=H4 at *;obtain⟨tt,e',h1,_⟩:=hf;refine⟨_,rfl,_,_,0,_,rfl,rfl,SqT.of (SC _ _ h1),rfl,_,rfl,?_⟩;exact⟨D,g,cd,sz,T,cols',rfl,sz1,hDD,hg3,SC _ _ hcd,hT,ok.nt (.of SC),tab.same SC,fun f' cols2 H' fr tab'=>q f' cols2 H' ((Fr.of SC).trans fr) tab'⟩
theorem a3X {f:Addr}{fd:FuncData}(F:Fun K "ask_fit" "ask_fit" (top 43) f fd):a0w P w K mg base CX0 1 f fd ["fine"] a5U:=by
 have sc:a0j ["fine"] ["fine"] (a0e (top 43)):=.k (by decide +kernel);refine F.ok sc (fun vs H Q E h=>?_) (fun cdv A outer s H vs Q E hr h=>?_)
 ·obtain⟨rfl,_⟩:=h
  rfl
 ·obtain⟨rfl,q⟩:=h
  refine⟨_,a0f (a0R (a1G (a1r (pv 0))) a0q a0u),?_⟩;exact⟨_,rfl,_,rfl,a2e q⟩
theorem a8V {f fA fT fO fI:Addr}{fd fdA fdT fdO fdI:FuncData}(F:Fun K "columns_in" "columns_in" (top 44) f fd)(B:Bl mg)(DA:Df K mg "ask_fit" (top 43) fA fdA)(DT:Df K mg "tables_of" (top 28) fT fdT)(DO:Df K mg "columns_of" (top 30) fO fdO)(DI:Df K mg "table_in" (top 31) fI fdI):a0w P w K mg base CX0 3 f fd ["form","table"] a1K:=by
 have sc:a0j ["form","table"] ["form","table"] (a0e (top 44)):=.k (by decide +kernel);have GA:a0w P w K mg base CX0 1 fA fdA ["fine"] a5U:=a3X DA.fn;have GT:a0w P w K mg base CX0 1 fT fdT ["form"] a6c:=a5S DT.fn;have GO:a0w P w K mg base CX0 2 fO fdO ["form","table"] a1K:=a4I DO.fn B DI;have bA:=DA.fn.b1 "fine" (by intros;rfl);have bT:=DT.fn.b1 "form" (by intros;rfl);have bO:=DO.fn.b2 "form" "table" (by intros;rfl);refine F.ok sc (fun vs H Q E h=>?_) (fun cdv A outer s H vs Q E hr h=>?_)
 ·obtain⟨f,sz,T,cols,rfl,_⟩:=h
  rfl
 ·obtain⟨f,sz,T,cols,rfl,hf,nd,le,q⟩:=h
  have hr1:a1o 1 _:=hr.mono (by decide);refine⟨_,a0d (a0Y (a0g GA hr1 (by rfl) DA.mg DA.fn.kp bA .nil a0k (a0a (a1N a1S (pv 1) (a0g GT hr1 (by rfl) DT.mg DT.fn.kp bT .nil a0k (a0a (pv 0) a0c)) (by with_unfolding_all rfl)) a0c)))
   (a0f (a0p (a0g GO hr (by rfl) DO.mg DO.fn.kp bO .nil a0k (a0a (pv 0) (a0a (pv 1) a0c))))),?_⟩
  refine⟨_,rfl,_,rfl,f,sz,T,cols,rfl,hf,fun p H1 s1 hp=>?_⟩;have hin:inV (.str T) [V.str T]=true:=by
   show(eqV (.str T) (.str T) || false)=true
   rw[Bool.or_false]
   show(T==T)=true
   exact beq_self_eq_true T
  refine⟨p,_,rfl,.inl (SqL.of hp),rfl,rfl,?_⟩;refine⟨(by show[V.bl (inV (.str T) [V.str T])]=[V.bl true];rw[hin]),_,rfl,_,rfl,f,sz,T,cols,rfl,hf.same s1,nd,le,fun d H' s' hd=>q d H' (s1.trans s') (a8i s1 _ _ hd)⟩
theorem a9n {f fI fA fN fW:Addr}{fd fdI fdA fdN fdW:FuncData}(F:Fun K "with_kind" "with_kind" (top 45) f fd)(DI:Df K mg "columns_in" (top 44) fI fdI)(GI:a0w P w K mg base CX0 3 fI fdI ["form","table"] a1K)(DA:Df K mg "ask_fit" (top 43) fA fdA)(DN:Df K mg "is_name" (top 13) fN fdN)(GN:a0w P w K mg base CX0 1 fN fdN ["thing"] a3Q)
  (DW:Df K mg "with_columns" (top 33) fW fdW) (GW:a0w P w K mg base CX0 7 fW fdW ["form","table","columns"] (a3g K PF)):a0w P w K mg base CX0 8 f fd ["form","table","column","old","new"] (a4v K PF):=by
 have sc:a0j ["form","table","column","old","new","columns"] ["form","table","column","old","new"] (a0e (top 45)):=.k (by decide +kernel);have GA:a0w P w K mg base CX0 1 fA fdA ["fine"] a5U:=a3X DA.fn;have bI:=DI.fn.b2 "form" "table" (by intros;rfl);have bA:=DA.fn.b1 "fine" (by intros;rfl);have bN:=DN.fn.b1 "thing" (by intros;rfl);have bW:=DW.fn.b3 "form" "table" "columns" (by intros;rfl);refine F.ok sc (fun vs H Q E h=>?_) (fun cdv A outer s H vs Q E hr h=>?_)
 ·obtain⟨f,sz,T,C,cols,k,ko,kn,kd,kd',rfl,_⟩:=h
  rfl
 ·obtain⟨fm,sz,T,C,cols,k,ko,kn,kd,kd',rfl,hf,sz1,hm,hk,hko,hkn,hT,ok,srt,tab,q⟩:=h
  have hr1:a1o 1 _:=hr.mono (by decide);have hr3:a1o 3 _:=hr.mono (by decide);have hu:=a2S hr;refine⟨_,a0d (a0r (i:=5) sc.nd rfl (Or.inl rfl) (a0g GI hr3 (by rfl) DI.mg DI.fn.kp bI .nil a0k (a0a (pv 0) (a0a (pv 1) a0c))))
   (a0d (a0Y (a0g GA hr1 (by rfl) DA.mg DA.fn.kp bA .nil a0k (a0a (a3U (a0g GN hr1 (by rfl) DN.mg DN.fn.kp bN .nil a0k (a0a (pv 2) a0c)) (a3x (a1N (a7G (u20 hr)) (a6o hu (pv 5) (pv 2) ⟨rfl,rfl,rfl,rfl⟩) (pv 3) (a0E _)))) a0c)))
   (a0d (a3f hu (pv 5) (pv 2) (pv 4) rfl)
   (a0f (a0p (a0g GW hr (by rfl) DW.mg DW.fn.kp bW .nil a0k (a0a (pv 0) (a0a (pv 1) (a0a (pv 5) a0c)))))))),?_⟩
  have hC:=(ok.ok _ hm).1;refine⟨_,rfl,_,rfl,fm,sz,T,cols,rfl,hf,ok.nd,ok.le,fun d H1 s1 hd=>?_⟩;have hd1:=a0t _ _ hd;refine⟨_,rfl,C,rfl,hC,fun H2 s2=>?_⟩;have S2:=s1.trans s2;have hd2:=s2 _ _ hd1;refine⟨_,rfl,a9p ⟨_,rfl,d,rfl,.inl ⟨_,.inl hd2⟩,_,rfl,some (.ref k),.inl ⟨_,.inr C,.inl hd2,rfl,(a5b ok.nd hm).symm⟩,_,rfl,1,k,ko,rfl,rfl,a8Z (hk.nt (.of S2)) ⟨S2.seqT hko,hk.2⟩,(by decide),rfl,?_⟩⟩;refine⟨_,rfl,_,rfl,_,rfl,d,_,rfl,a9x.k (k:=.inr C) hd2 (by unfold dC;rw[lM0,sizeLine_eq];have:=ok.le;omega),?_⟩;rw[b2h hm ok.nd];have SP:=S2.put (p:=d) (o:=.dK (dC (a7o cols C kn))) (a0T hd);exact⟨_,rfl,_,rfl,_,rfl,fm,d,sz,T,cols,a7o cols C kn,rfl,hf.same SP,ok.nd,ok.le,sz1,a0b,hT,b0J (ok.nt (.of SP)) (hkn.nt (.of SP)),tab.same SP,fun f' cols2 H' fr tab' hp hs hf'=>q f' H' ((Fr.of SP).trans fr) tab' (by
   have nd2:((a7o cols C kn).map (·.1)).Nodup:=by rw[a2W];exact ok.nd
   rw[← b4B ((hp.map (·.1)).nodup_iff.mpr nd2) hp hs (by rw[a2W];exact srt)];exact hf')⟩
end
abbrev Row:=List (Str×Int)
def rK (row:Row):List (Key×V):=row.map fun c=>(.inr c.1,.int c.2)
def tL (T:Str)(l:Addr):List (Key×V):=[(.inr T,.ref l)]
def PcA (H:Hp)(p:Addr)(T:Str)(row:Row):Prop:=∃l r:Addr,H p=some (.dK (tL T l))/\H l=some (.lst [.ref r])/\H r=some (.dK (rK row))
theorem b2A {row:Row}{T:Str}{l:Addr}:tL T l≠rK row:=fun e=>by
 have h:((.inr T:Key),V.ref l)∈rK row:=by rw[← e];exact List.mem_singleton.mpr rfl
 obtain⟨c,_,h⟩:=List.mem_map.mp h;cases h
theorem PcA.nt {H H':Hp}(s:Ntb H H'){p:Addr}{T:Str}{row:Row}(h:PcA H p T row):PcA H' p T row:=let ⟨l,r,a,b,c⟩:=h;⟨l,r,s _ _ a nofun,s _ _ b nofun,s _ _ c nofun⟩
theorem PcA.same {H H':Hp}(s:a0o H H'){p:Addr}{T:Str}{row:Row}(h:PcA H p T row):PcA H' p T row:=h.nt (.of s)
def rwD (row:Row):Dp:=.dic (row.map fun c=>(c.1,.fl (.int c.2)))
def pcD (T:Str)(row:Row):Dp:=.dic [(T,.lst [rwD row])]
theorem b2T (row:Row):((row.map fun c=>(c.1,Dp.fl (.int c.2))).map (·.1)).zipWith (fun z v=>((Sum.inr z:Key),v)) (row.map fun c=>V.int c.2)=rK row:=by
 induction row with
 |nil=>rfl
 |cons c r ih=>
  rw[List.map_cons,List.map_cons,List.map_cons,List.zipWith_cons_cons,ih]
  rfl
theorem b4p {H:Hp}{r:Addr}{row:Row}(h:H r=some (.dK (rK row))):Dw H 1 (rwD row) (.ref r):=by
 refine .dic (vs:=row.map fun c=>V.int c.2) (.inl (by rw[b2T];exact h)) (by rw[lM0,lM0]) fun i v k h1 h2=>?_;rw[gM0] at h1 h2;obtain⟨c,e1,rfl⟩:=Option.map_eq_some_iff.mp h1;rw[e1] at h2;cases h2;exact .fl rfl
theorem PcA.dw {H:Hp}{p:Addr}{T:Str}{row:Row}(h:PcA H p T row):Dw H 3 (pcD T row) (.ref p):=by
 obtain⟨l,r,a,b,c⟩:=h;exact DwL.dic (ks:=[T]) (ds:=[.lst [rwD row]]) (vs:=[.ref l]) (.inl a) (.cons (DwL.lst b (.cons (b4p c) .nil)) .nil) rfl
theorem a7F:∀{r1 r2:Row},r1.length=r2.length->a3T (r1.map fun c=>.fl (.int c.2)) (r2.map fun c=>.fl (.int c.2)) (r1.map (·.2)==r2.map (·.2))
 |[],[],_=>.nil
 |c::r1,d::r2,h=>by
  rw[List.map_cons,List.map_cons,List.map_cons,List.map_cons,List.cons_beq_cons];exact .cons .int (a7F (by simpa using h))
theorem b0Z {r1 r2:Row}(h:r1.map (·.1)=r2.map (·.1)):Deq (rwD r1) (rwD r2) (r1.map (·.2)==r2.map (·.2)):=by
 have hl:r1.length=r2.length:=by have:=congrArg List.length h;simpa using this
 have e:=(a7F hl).dic (ks:=r1.map (·.1)) (by rw[lM0,lM0]);have z:∀r:Row,(r.map (·.1)).zip (r.map fun c=>Dp.fl (.int c.2))=r.map fun c=>(c.1,Dp.fl (.int c.2)):=fun r=>by
  induction r with
  |nil=>rfl
  |cons c r ih=>rw[List.map_cons,List.map_cons,List.zip_cons_cons,ih];rfl
 rw[z r1,h,z r2] at e;exact e
theorem b4g {T:Str}{r1 r2:Row}(h:r1.map (·.1)=r2.map (·.1)):Deq (pcD T r1) (pcD T r2) (r1.map (·.2)==r2.map (·.2)):=
 (a3T.dic (ks:=[T]) (ds:=[.lst [rwD r1]]) (es:=[.lst [rwD r2]]) (.cons (a3T.lst (.cons (b0Z h) .nil)) .nil) rfl).to (by rw[Bool.and_true,Bool.and_true])
theorem a8z {row:Row}{C:Str}{x:Int}(nd:(row.map (·.1)).Nodup)(h:(C,x)∈row):a3d (rK row) (.inr C)=some (.int x):=by
 induction row with
 |nil=>cases h
 |cons d r ih=>
  rw[List.map_cons,List.nodup_cons] at nd;rcases List.mem_cons.mp h with rfl |h
  ·unfold a3d rK
   simp
  ·have ne:d.1≠C:=fun e=>nd.1 (List.mem_map.mpr ⟨(C,x),h,e.symm⟩)
   have ih:=ih nd.2 h;unfold a3d rK at ih ⊢;rw[List.map_cons,List.find?_cons_of_neg (by simp[ne])];exact ih
def b3w (row:Row)(C:Str)(y:Int):Row:=row.map fun c=>if c.1=C then(C,y) else c
def a9I (row:Row)(C:Str)(y:Int):Row:=if (row.any fun c=>decide (c.1=C))=true then b3w row C y else row++[(C,y)]
theorem b3e {row:Row}{C:Str}{y:Int}:a2M (rK row) (.inr C) (.int y)=rK (a9I row C y):=by
 have e:((rK row).any fun kv=>decide (kv.1=(.inr C:Key)))=row.any fun c=>decide (c.1=C):=by
  unfold rK;rw[List.any_map]
  congr 1
  funext c
  show decide ((Sum.inr c.1:Key)=.inr C)=decide (c.1=C);rw[Bool.eq_iff_iff,decide_eq_true_iff,decide_eq_true_iff];exact⟨fun h=>by injection h,fun h=>by rw[h]⟩
 unfold a2M a9I;rw[e]
 split
 ·unfold rK b3w
  rw[List.map_map,List.map_map];refine List.map_congr_left fun c _=>?_
  show(if (Sum.inr c.1:Key)=.inr C then((Sum.inr c.1:Key),V.int y) else(.inr c.1,.int c.2))=(.inr (if c.1=C then(C,y) else c).1,.int (if c.1=C then(C,y) else c).2)
  by_cases h:c.1=C
  ·rw[if_pos h,if_pos (by rw[h]),h]
  ·rw[if_neg h,if_neg (fun e=>h (by injection e))]
 ·unfold rK
  rw[List.map_append]
  rfl
def a8h (row:Row)(C:Str):Row:=row.filter fun c=>decide (c.1≠C)
theorem b1m {row:Row}{C:Str}:a3K (rK row) (.inr C)=rK (a8h row C):=by
 unfold a3K rK a8h;rw[List.filter_map]
 congr 1
 refine List.filter_congr fun c _=>?_;show decide ((Sum.inr c.1:Key)≠.inr C)=decide (c.1≠C);rw[Bool.eq_iff_iff,decide_eq_true_iff,decide_eq_true_iff];exact⟨fun h e=>h (by rw[e]),fun h e=>h (by injection e)⟩
structure b4L (row:Row) (C:Str) (x:Int):Prop where
 nd:(row.map (·.1)).Nodup
 le:row.length≤12
 hm:(C,x)∈row
def a2p:Sp:=fun vs H Q _=>∃(p:Addr) (T:Str) (row:Row),vs=[.ref p]/\PcA H p T row/\∀p' H',a0o H H'->PcA (cut H H') p' T row->Q (.ref p') H'
def b2i:Sp:=fun vs H Q _=>∃(p:Addr) (T C:Str) (row:Row) (x:Int),vs=[.ref p,.str T,.str C]/\PcA H p T row/\b4L row C x/\∀l H',a0o H H'->cut H H' l=some (.lst [.int x])->Q (.ref l) H'
def b1Q:Sp:=fun vs H Q _=>∃(p vl:Addr) (T C:Str) (row:Row) (y:Int),vs=[.ref p,.str T,.str C,.ref vl]/\PcA H p T row/\row.length≤12/\H vl=some (.lst [.int y])/\∀p' H',a0o H H'->PcA (cut H H') p' T (a9I row C y)->Q (.ref p') H'
theorem a7K {C:Str}{v:V}:a3d [((.inr C:Key),v)] (.inr C)=some v:=by unfold a3d;simp
theorem put1 {C:Str}{v u:V}:a2M [((.inr C:Key),v)] (.inr C) u=[(.inr C,u)]:=by unfold a2M;simp
section
variable {P:Program}{w:World}{K:Fg0}{mg:Str->Option Value}{base:Heap}
theorem a2l {f:Addr}{fd:FuncData}(F:Fun K "copied" "copied" (top 37) f fd)(B:Bl mg):a0w P w K mg base CX0 1 f fd ["piece"] a2p:=by
 have sc:a0j ["piece","fresh","table","rows"] ["piece"] (a0e (top 37)):=.k (by decide +kernel);refine F.ok sc (fun vs H Q E h=>?_) (fun cdv A outer s H vs Q E hr h=>?_)
 ·obtain⟨p,T,row,rfl,_⟩:=h
  rfl
 ·obtain⟨p,T,row,rfl,⟨l,r,hp,hl,hrr⟩,q⟩:=h
  have hu:=a2S hr;refine⟨_,a0d (a0r (i:=1) sc.nd rfl (Or.inl rfl) a9w) (a0d (a6E (a1p PassesOwn.never rfl (a2X (pv 0)) (a1Z rfl (a0v (a0n (i:=2) sc.nd rfl (Or.inl rfl)) (a0v (a0n (i:=3) sc.nd rfl (Or.inl rfl)) a1g)))
    (a0f (a3f hu (pv 1) (pv 2) (a1d (osc:=a0e (top 37)) (N0:=["piece","fresh","table","rows"]) (xs:=["row"]) (fr:=[]) ⟨rfl,by decide +kernel,by decide +kernel,by decide +kernel,by decide,by decide +kernel⟩ rfl rfl rfl (a0Q (pv 3))
     (fun s H fp=>a0n (i:=0) (show(["row"]:List Str).Nodup by decide +kernel) rfl (Or.inl rfl)) (fun s H fp=>a0S) (fun s H fp=>a1a a2I (by rfl) B.dict boot_dict (a0a (pv 0) a0c))) rfl)))) (a0f (a0p (pv 1)))),?_⟩
  intro fr hfr;have S0:a0o H (upd H fr (.dK [])):=a0o.upd hfr;refine⟨p,_,S0 _ _ hp,fun o=>?_⟩;have np:p≠fr:=fun e=>by rw[← e,hp] at hfr;cases hfr
  have d0:(upd H fr (.dK [])) fr=some (.dK []):=a0b;have hfa:(upd (upd H fr (.dK [])) p (.frz o (.dK (tL T l)))) p=some (.frz o (.dK (tL T l))):=a0b;have nlp:l≠p:=fun e=>by rw[e,hp] at hl;cases hl
  have nrp:r≠p:=fun e=>by rw[e,hp] at hrr;injection hrr with hrr;injection hrr with hrr;exact b2A hrr
  have hl1:(upd (upd H fr (.dK [])) p (.frz o (.dK (tL T l)))) l=some (.lst [.ref r]):=by rw[a0h nlp];exact S0 _ _ hl
  have hr1:(upd (upd H fr (.dK [])) p (.frz o (.dK (tL T l)))) r=some (.dK (rK row)):=by rw[a0h nrp];exact S0 _ _ hrr
  have hf1:(upd (upd H fr (.dK [])) p (.frz o (.dK (tL T l)))) fr=some (.dK []):=by rw[a0h np.symm];exact d0
  have hk1:∀b u,b≠p->H b=some u->(upd (upd H fr (.dK [])) p (.frz o (.dK (tL T l)))) b=some u:=fun b u nb e=>by rw[a0h nb];exact S0 _ _ e
  have nH:∀b,(upd (upd H fr (.dK [])) p (.frz o (.dK (tL T l)))) b=none->H b=none:=fun b e=>by
   have n1:b≠p:=fun z=>by rw[z,hfa] at e;cases e
   rw[a0h n1] at e;exact a1e S0 e
  generalize upd (upd H fr (.dK [])) p (.frz o (.dK (tL T l)))=H1 at *;refine⟨_,rfl,p,o,_,rfl,hfa,a6K (a:=p) (o:=o) (k:=.inr T) (v:=.ref l) hfa fun t1 ht1=>?_⟩;have T1:=a0o.upd (o:=.tup [kV (.inr T),V.ref l]) ht1;refine⟨t1,_,rfl,SqT.of a0b,rfl,_,_,rfl,_,_,rfl,rfl,?_⟩;generalize upd H1 t1 (.tup [kV (.inr T),V.ref l])=H2 at *;refine⟨_,rfl,l,rfl,⟨_,SqL.of (T1 _ _ hl1)⟩,fun D hD=>?_⟩;have T2:=a0o.upd (o:=.lst []) hD;refine a1I a0b ⟨_,V.ref r,SqL.of ((T1.trans T2) _ _ hl1),rfl⟩ ?_;rintro y H' ⟨rfl,hx'⟩;cases hx' _ (SqL.of ((T1.trans T2) _ _ hl1));refine⟨_,rfl,r,_,rfl,.inl ((T1.trans T2) _ _ hr1),fun r' hr'=>?_⟩;have T3:=a0o.upd (o:=.dK (rK row)) hr';have hDn:=T3 D _ a0b;have S3:a0o H2 (upd (upd (upd H2 D (.lst [])) r' (.dK (rK row))) D (.lst [V.ref r'])):=(T2.trans T3).put hD;have nrD:r'≠D:=fun e=>by rw[e,a0b] at hr';cases hr'
  have er':(upd (upd (upd H2 D (.lst [])) r' (.dK (rK row))) D (.lst [V.ref r'])) r'=some (.dK (rK row)):=by rw[a0h nrD];exact a0b
  have eD':(upd (upd (upd H2 D (.lst [])) r' (.dK (rK row))) D (.lst [V.ref r'])) D=some (.lst [V.ref r']):=a0b;have fr4:(upd (upd (upd H2 D (.lst [])) r' (.dK (rK row))) D (.lst [V.ref r'])) fr=some (.dK []):=(T1.trans S3) _ _ hf1;have nrf:r'≠fr:=fun e=>by rw[e,(T1.trans T2) _ _ hf1] at hr';cases hr'
  have hnr:H r'=none:=nH r' (a1e (T1.trans T2) hr');have hnD:H D=none:=nH D (a1e T1 hD);refine⟨hDn,⟨_,SqL.of ((T1.trans S3) _ _ hl1),Nat.le_refl _⟩,?_⟩;generalize upd (upd (upd H2 D (.lst [])) r' (.dK (rK row))) D (.lst [V.ref r'])=H3 at *;refine⟨_,rfl,_,rfl,fr,_,rfl,a9x.k (k:=.inr T) fr4 (by show 0<sizeLine;decide),?_⟩;have ep:a2M [] (.inr T) (.ref D)=tL T D:=rfl;rw[ep];have S4:a0o H (upd (upd H3 fr (.dK (tL T D))) p (.dK (tL T l))):=fun b u e=>by
   by_cases hb:b=p
   ·rw[hb,a0b]
    rw[hb,hp] at e;exact e
   ·rw[a0h hb,a0h (a0x e hfr)]
    exact(T1.trans S3) _ _ (hk1 b u hb e)
  have p4:(upd H3 fr (.dK (tL T D))) p=some (.frz o (.dK (tL T l))):=by rw[a0h np];exact(T1.trans S3) _ _ hfa
  refine⟨p4,p4,_,rfl,q fr _ S4 ⟨D,r',a0J hfr (by rw[a0h np.symm];exact a0b),a0J hnD ?_,a0J hnr ?_⟩⟩
  ·rw[a0h (fun e=>by rw[e,(T1.trans S3) _ _ hfa] at eD';cases eD'),a0h (fun e=>by rw[e,fr4] at eD';cases eD')]
   exact eD'
  ·rw[a0h (fun e=>by rw[e,(T1.trans S3) _ _ hfa] at er';cases er'),a0h nrf]
   exact er'
theorem a9f {f:Addr}{fd:FuncData}(F:Fun K "values_in" "values_in" (top 48) f fd):a0w P w K mg base CX0 1 f fd ["piece","table","column"] b2i:=by
 have sc:a0j ["piece","table","column"] ["piece","table","column"] (a0e (top 48)):=.k (by decide +kernel);refine F.ok sc (fun vs H Q E h=>?_) (fun cdv A outer s H vs Q E hr h=>?_)
 ·obtain⟨p,T,C,row,x,rfl,_⟩:=h
  rfl
 ·obtain⟨p,T,C,row,x,rfl,⟨l,r,hp,hl,hrr⟩,ok,q⟩:=h
  have hu:=a2S hr;refine⟨_,a0f (a0p (a1d (osc:=a0e (top 48)) (N0:=["piece","table","column"]) (xs:=["row"]) (fr:=[2]) ⟨rfl,by decide +kernel,by decide +kernel,by decide +kernel,(fun j hj=>by
       have e:j=2:=by simpa using hj
       subst e;exact⟨_,rfl,by decide +kernel⟩),by decide +kernel⟩ rfl rfl rfl (a0Q (a2k hu (pv 0) (pv 1) (fun _ _=>rfl)))
      (fun s H fp=>a0n (i:=0) (show(["row","column"]:List Str).Nodup by decide +kernel) rfl (Or.inl rfl)) (fun s H fp=>a0S)
      (fun s H fp=>a2k hu (pv 0) (pv 1) (fun _ _=>rfl)))),?_⟩
  refine⟨_,rfl,_,rfl,p,.ref l,rfl,.inl ⟨_,.inr T,.inl hp,rfl,a7K.symm⟩,l,rfl,⟨_,SqL.of hl⟩,fun D hD=>?_⟩;have S:=a0o.upd (o:=.lst []) hD;refine a1I a0b ⟨_,V.ref r,SqL.of (S _ _ hl),rfl⟩ ?_;rintro y H' ⟨rfl,hx'⟩;cases hx' _ (SqL.of (S _ _ hl));exact⟨_,rfl,_,rfl,r,.int x,rfl,.inl ⟨_,.inr C,.inl (S _ _ hrr),rfl,(a8z ok.nd ok.hm).symm⟩,a0b,⟨_,SqL.of ((S.put hD) _ _ hl),Nat.le_refl _⟩,q D _ (S.put hD) (a0J hD a0b)⟩
theorem b1i {f fC:Addr}{fd fdC:FuncData}(F:Fun K "with_values" "with_values" (top 47) f fd)(B:Bl mg)(hz:mg "zip"=none)(DC:Df K mg "copied" (top 37) fC fdC):a0w P w K mg base CX0 2 f fd ["piece","table","column","values"] b1Q:=by
 have sc:a0j ["piece","table","column","values","fresh","row","value"] ["piece","table","column","values"] (a0e (top 47)):=.k (by decide +kernel);have GC:a0w P w K mg base CX0 1 fC fdC ["piece"] a2p:=a2l DC.fn B;have bC:=DC.fn.b1 "piece" (by intros;rfl);refine F.ok sc (fun vs H Q E h=>?_) (fun cdv A outer s H vs Q E hr h=>?_)
 ·obtain⟨p,vl,T,C,row,y,rfl,_⟩:=h
  rfl
 ·obtain⟨p,vl,T,C,row,y,rfl,hp,le,hvl,q⟩:=h
  have hu:=a2S hr;refine⟨_,a0d (a0r (i:=4) sc.nd rfl (Or.inl rfl) (a0g GC hr (by rfl) DC.mg DC.fn.kp bC .nil a0k (a0a (pv 0) a0c)))
   (a0d (a1p PassesOwn.never rfl (a4B (by rfl) hz (a0a (a2k hu (pv 4) (pv 1) (fun _ _=>rfl)) (a0a (pv 3) a0c))) (a1Z rfl (a0v (a0n (i:=5) sc.nd rfl (Or.inl rfl)) (a0v (a0n (i:=6) sc.nd rfl (Or.inl rfl)) a1g)))
    (a0f (a3f hu (pv 5) (pv 2) (pv 6) rfl))) (a0f (a0p (pv 4)))),?_⟩
  refine⟨_,rfl,p,T,row,rfl,hp,fun p' H1 s1 ⟨l,r,c1,c2,c3⟩=>?_⟩;have e1:=a0t _ _ c1;have e2:=a0t _ _ c2;have e3:=a0t _ _ c3;refine⟨_,rfl,_,rfl,p',.ref l,rfl,.inl ⟨_,.inr T,.inl e1,rfl,a7K.symm⟩,_,rfl,l,vl,rfl,⟨_,SqL.of e2⟩,⟨_,SqL.of (s1 _ _ hvl)⟩,?_⟩;refine a7u (K:=K) (x:=.ref r) (y:=.int y) (SqL.of e2) (SqL.of (s1 _ _ hvl)) fun tp htp=>?_;have T1:=a0o.upd (o:=.tup [V.ref r,.int y]) htp;refine⟨tp,_,rfl,SqT.of a0b,rfl,_,_,rfl,_,_,rfl,rfl,?_⟩;generalize upd H1 tp (.tup [V.ref r,.int y])=H2 at *;refine⟨_,rfl,_,rfl,_,rfl,r,_,rfl,a9x.k (k:=.inr C) (T1 _ _ e3) (by unfold rK;rw[lM0,sizeLine_eq];omega),?_⟩;rw[b3e];have nr:H r=none:=a0T c3;have S2:a0o H (upd H2 r (.dK (rK (a9I row C y)))):=(s1.trans T1).put nr;have el:(upd H2 r (.dK (rK (a9I row C y)))) l=some (.lst [.ref r]):=by rw[a0h (fun e=>by rw[e,e3] at e2;cases e2)];exact T1 _ _ e2
  have npr:p'≠r:=fun e=>by
   rw[e,e3] at e1
   injection e1 with e1
   injection e1 with e1
   exact b2A e1.symm
  exact⟨⟨SqL.of el,SqL.of (S2 _ _ hvl)⟩,_,rfl,q p' _ S2 ⟨l,r,a0J (a0T c1) (by rw[a0h npr];exact T1 _ _ e1),a0J (a0T c2) el,a0J nr a0b⟩⟩
def b3x (n:Nat):Sp:=fun vs H Q _=>∃(v:V) (d:Dp) (dep:Int),vs=[v,.int dep]/\(n:Int)<dep/\Dw H n d v/\Sm d/\∀v' H',a0o H H'->Dv (cut H H') n d v'->Q v' H'
theorem b4v {f:Addr}{fd:FuncData}(F:a6l K "owned" "owned" (top 51) f fd)(B:Bl mg)(mO:mg "owned"=some (.ref f))(bO:a1s K fd ["thing","depth"] []):∀n:Nat,a0w P w K mg base CX0 (n+1) f fd ["thing","depth"] (b3x n):=by
 have sc:a0j ["thing","depth"] ["thing","depth"] (a0e (top 51)):=.k (by decide +kernel);intro n
 induction n with
 |zero=>
  refine F.ok sc (fun vs H Q E h=>?_) (fun cdv A outer s H vs Q E hr h=>?_)
  ·obtain⟨v,d,dep,rfl,_⟩:=h
   rfl
  ·obtain⟨v,d,dep,rfl,hd,dw,sm,q⟩:=h
   cases dw with
   |fl hf=>
    obtain⟨ty,t1,t2,t3,t4⟩:=Dw.ty (K:=K) (H:=H) (n:=0) hf;refine⟨_,a0d (a0R (a0z a1R (pv 1) a0i (a0E _)) (a0f (a0p (pv 0))) a0u)
     (a0d (a0R (a1r (a0y a2q (by rfl) B.isi boot_isi (a0a (pv 0) (a0a (a1A (v:=.ty "list") (by rfl) B.list boot_list rfl) a0c)))) a0q a0u)
     (a0d (a0R (a1r (a0y a2q (by rfl) B.isi boot_isi (a0a (pv 0) (a0a (a1A (v:=.ty "tuple") (by rfl) B.tuple boot_tuple rfl) a0c)))) a0q a0u)
     (a0d (a0R (a1r (a0y a2q (by rfl) B.isi boot_isi (a0a (pv 0) (a0a (a1A (v:=.ty "dict") (by rfl) B.dict boot_dict rfl) a0c)))) a0q a0u)
     (a0f (a0p (pv 0)))))),?_⟩
    refine⟨_,rfl,rfl,_,rfl,b3A (fun _=>⟨_,rfl,q v H (a0o.refl H) (.fl hf)⟩) (fun _=>?_)⟩;refine⟨_,rfl,_,_,_,_,rfl,t1,t2,_,rfl,a2e ?_⟩;refine⟨_,rfl,_,_,_,_,rfl,t1,t3,_,rfl,a2e ?_⟩;refine⟨_,rfl,_,_,_,_,rfl,t1,t4,_,rfl,a2e ?_⟩;exact⟨_,rfl,q v H (a0o.refl H) (.fl hf)⟩
 |succ n ih=>
  refine F.ok sc (fun vs H Q E h=>?_) (fun cdv A outer s H vs Q E hr h=>?_)
  ·obtain⟨v,d,dep,rfl,_⟩:=h
   rfl
  ·obtain⟨v,d,dep,rfl,hd,dw,sm,q⟩:=h
   have ndP:(["part","depth"]:List Str).Nodup:=by decide +kernel
   have ndK:(["key","part","depth"]:List Str).Nodup:=by decide +kernel
   refine⟨_,a0d (a0R (a0z a1R (pv 1) a0i (a0E _)) a0q a0u)
    (a0d (a0R (a1r (a0y a2q (by rfl) B.isi boot_isi (a0a (pv 0) (a0a (a1A (v:=.ty "list") (by rfl) B.list boot_list rfl) a0c)))) (a0f (a0p (a1d (osc:=a0e (top 51)) (N0:=["thing","depth"]) (xs:=["part"]) (fr:=[1]) ⟨rfl,by decide +kernel,by decide +kernel,by decide +kernel,(fun j hj=>by
       have e:j=1:=by simpa using hj
       subst e;exact⟨_,rfl,by decide +kernel⟩),by decide +kernel⟩ rfl rfl rfl (a0Q (pv 0))
      (fun s H fp=>a0n (i:=0) ndP rfl (Or.inl rfl)) (fun s H fp=>a0S)
      (fun s H fp=>a0g ih hr (by rfl) mO F.kp bO .nil a0k (a0a (pv 0) (a0a (a0P a3Y (pv 1) a0i) a0c)))))) a0u)
    (a0d (a0R (a1r (a0y a2q (by rfl) B.isi boot_isi (a0a (pv 0) (a0a (a1A (v:=.ty "tuple") (by rfl) B.tuple boot_tuple rfl) a0c)))) (a0f (a0p (a1a a1X (by rfl) B.tuple boot_tuple (a0a (a1d (osc:=a0e (top 51)) (N0:=["thing","depth"]) (xs:=["part"]) (fr:=[1]) ⟨rfl,by decide +kernel,by decide +kernel,by decide +kernel,(fun j hj=>by
       have e:j=1:=by simpa using hj
       subst e;exact⟨_,rfl,by decide +kernel⟩),by decide +kernel⟩ rfl rfl rfl (a6r (pv 0))
      (fun s H fp=>a0n (i:=0) ndP rfl (Or.inl rfl)) (fun s H fp=>a0S)
      (fun s H fp=>a0g ih hr (by rfl) mO F.kp bO .nil a0k (a0a (pv 0) (a0a (a0P a3Y (pv 1) a0i) a0c)))) a0c)))) a0u)
    (a0d (a0R (a1r (a0y a2q (by rfl) B.isi boot_isi (a0a (pv 0) (a0a (a1A (v:=.ty "dict") (by rfl) B.dict boot_dict rfl) a0c)))) (a0f (b1P (a0p (a1a (a7a rfl) (by rfl) B.dict boot_dict (a0a (a1d (osc:=a0e (top 51)) (N0:=["thing","depth"]) (xs:=["key","part"]) (fr:=[1]) ⟨rfl,by decide +kernel,by decide +kernel,by decide +kernel,(fun j hj=>by
       have e:j=1:=by simpa using hj
       subst e;exact⟨_,rfl,by decide +kernel⟩),by decide +kernel⟩ rfl rfl rfl (a2X (pv 0))
      (fun s H fp=>a2f (K:=K) (n:=2) rfl rfl (a0v (a0n (i:=0) ndK rfl (Or.inl rfl)) (a0v (a0n (i:=1) ndK rfl (Or.inl rfl)) a1g))) (fun s H fp=>a0S)
      (fun s H fp=>a0I (a0a (pv 0) (a0a (a0g ih hr (by rfl) mO F.kp bO .nil a0k (a0a (pv 1) (a0a (a0P a3Y (pv 2) a0i) a0c))) a0c)))) a0c))))) a0u)
    (a0f (a0p (pv 0)))))),?_⟩
   have hne:¬(V.int dep=V.int 0):=fun e=>by injection e;omega
   have hd':(n:Int)<dep-1:=by omega
   refine⟨_,rfl,rfl,_,rfl,a2s (decide_eq_false hne) ?_⟩;cases dw with
   |fl hf=>
    obtain⟨ty,t1,t2,t3,t4⟩:=Dw.ty (K:=K) (H:=H) (n:=0) hf;refine⟨_,rfl,_,_,_,_,rfl,t1,t2,_,rfl,a2e ?_⟩;refine⟨_,rfl,_,_,_,_,rfl,t1,t3,_,rfl,a2e ?_⟩;refine⟨_,rfl,_,_,_,_,rfl,t1,t4,_,rfl,a2e ?_⟩;exact⟨_,rfl,q v H (a0o.refl H) (.fl hf)⟩
   |@lst _ a vs ds ha hl hx=>
    cases sm with
    |lst hz hsm=>
    refine⟨_,rfl,_,_,_,_,rfl,.inl (.lst ha),(show a1U "list" "list"=some true by decide +kernel),_,rfl,a9p ?_⟩;refine⟨_,rfl,a,rfl,⟨_,SqL.of ha⟩,fun D hD=>?_⟩;refine a1x vs.length (fun i ys σ' Hc=>(∃t,σ'=[t,some (.int dep)])/\a0o H Hc/\∀(j:Nat) (y:V) (d:Dp),ys[j]? =some y->ds[j]? =some d->Dv (nw H D Hc) n d y) (by rw[sizeLine_eq];omega) ⟨⟨none,rfl⟩,a0o.upd hD,(fun j y d h=>nomatch h)⟩ a0b ?_ ?_
    ·rintro i σ' Hc ys hi ⟨⟨t,rfl⟩,sc',hys⟩ hyl hD'
     refine⟨⟨_,vs[i],SqL.of (sc' _ _ ha),gE0 hi⟩,?_⟩;rintro x H' ⟨rfl,hx'⟩;have ex:=hx' _ (SqL.of (sc' _ _ ha));rw[gE0 hi] at ex;cases ex;have hid:i<ds.length:=by omega
     refine⟨_,rfl,_,rfl,_,_,rfl,rfl,_,ds[i],_,rfl,hd',(hx i _ _ (gE0 hi) (gE0 hid)).same sc',hsm _ (List.getElem_mem hid),fun v' H2 s2 dw2=>?_⟩;refine⟨s2 _ _ hD',⟨_,rfl⟩,(sc'.trans s2).put hD,fun j y d h1 h2=>?_⟩;rcases a1n h1 with h1 |⟨rfl,rfl⟩
     ·exact(hys j y d h1 h2).same ((a2T s2).trans a0X)
     ·rw[hyl,gE0 hid] at h2
      cases h2;exact dw2.same ((a5F sc' hD').trans a0X)
    ·rintro σ' Hc ys ⟨_,sc',hys⟩ hDn hyl
     exact⟨⟨_,SqL.of (sc' _ _ ha),Nat.le_refl _⟩,q _ _ sc' (.lst (a0J hD hDn) (by omega) fun i v d h1 h2=>(hys i v d h1 h2).same a1b)⟩
   |@tup _ a vs ds ha hl hx=>
    cases sm with
    |tup hz hsm=>
    refine⟨_,rfl,_,_,_,_,rfl,.inr (.inl ⟨_,_,rfl,ha,rfl⟩),(show a1U "tuple" "list"=some false by decide +kernel),_,rfl,a2e ?_⟩;refine⟨_,rfl,_,_,_,_,rfl,.inr (.inl ⟨_,_,rfl,ha,rfl⟩),(show a1U "tuple" "tuple"=some true by decide +kernel),_,rfl,a9p ?_⟩;refine⟨_,rfl,a,rfl,⟨_,SqT.rd ha⟩,fun D hD=>?_⟩;refine a1x vs.length (fun i ys σ' Hc=>(∃t,σ'=[t,some (.int dep)])/\a0o H Hc/\∀(j:Nat) (y:V) (d:Dp),ys[j]? =some y->ds[j]? =some d->Dv (nw H D Hc) n d y) (by rw[sizeLine_eq];omega) ⟨⟨none,rfl⟩,a0o.upd hD,(fun j y d h=>nomatch h)⟩ a0b ?_ ?_
    ·rintro i σ' Hc ys hi ⟨⟨t,rfl⟩,sc',hys⟩ hyl hD'
     have ha':Rd Hc a (.tup vs):=(Ntb.of sc').rd ha;refine⟨⟨_,vs[i],SqT.rd ha',gE0 hi⟩,?_⟩;rintro x H' ⟨rfl,hx'⟩;have ex:=hx' _ (SqT.rd ha');rw[gE0 hi] at ex;cases ex;have hid:i<ds.length:=by omega
     refine⟨_,rfl,_,rfl,_,_,rfl,rfl,_,ds[i],_,rfl,hd',(hx i _ _ (gE0 hi) (gE0 hid)).same sc',hsm _ (List.getElem_mem hid),fun v' H2 s2 dw2=>?_⟩;refine⟨s2 _ _ hD',⟨_,rfl⟩,(sc'.trans s2).put hD,fun j y d h1 h2=>?_⟩;rcases a1n h1 with h1 |⟨rfl,rfl⟩
     ·exact(hys j y d h1 h2).same ((a2T s2).trans a0X)
     ·rw[hyl,gE0 hid] at h2
      cases h2;exact dw2.same ((a5F sc' hD').trans a0X)
    ·rintro σ' Hc ys ⟨_,sc',hys⟩ hDn hyl
     refine⟨⟨_,SqT.rd ((Ntb.of sc').rd ha),Nat.le_refl _⟩,D,ys,rfl,.inl ⟨SqL.of hDn,fun l hl'=>?_⟩⟩;have T:=a0o.upd (o:=.tup ys) hl';exact q _ _ (sc'.trans T) (.tup (a0J (a1e sc' hl') a0b) (by omega) fun i v d h1 h2=>(hys i v d h1 h2).same (a1b.trans (a1F T)))
   |@dic _ a vs kds ha hl hx=>
    cases sm with
    |dic hz nd hsm=>
    refine⟨_,rfl,_,_,_,_,rfl,.inr (.inr ⟨_,_,rfl,ha,rfl⟩),(show a1U "dict" "list"=some false by decide +kernel),_,rfl,a2e ?_⟩;refine⟨_,rfl,_,_,_,_,rfl,.inr (.inr ⟨_,_,rfl,ha,rfl⟩),(show a1U "dict" "tuple"=some false by decide +kernel),_,rfl,a2e ?_⟩;refine⟨_,rfl,_,_,_,_,rfl,.inr (.inr ⟨_,_,rfl,ha,rfl⟩),(show a1U "dict" "dict"=some true by decide +kernel),_,rfl,a9p ?_⟩;refine⟨a,_,ha,fun H0 o D' h0 hk hn fin=>?_⟩;have hx0:∀(i:Nat) (v:V) (k:Str×Dp),vs[i]? =some v->kds[i]? =some k->Dw H0 n k.2 v:=fun i v k h1 h2=>(hx i v k h1 h2).frz ha h0 hk;have zl:(List.zipWith (fun z v=>((Sum.inr z:Key),v)) (kds.map (·.1)) vs).length=kds.length:=by rw[a3P (by rw[lM0];exact hl),lM0]
    generalize hkv:List.zipWith (fun z v=>((Sum.inr z:Key),v)) (kds.map (·.1)) vs=kvs at *;refine⟨_,rfl,a,o,_,rfl,h0,fun D hD=>?_⟩;refine a1x kvs.length (fun i ys σ' Hc=>(∃t0 t1,σ'=[t0,t1,some (.int dep)])/\a0o H0 Hc/\∃(ts:List Addr) (us:List V),ys=ts.map V.ref/\us.length=ts.length/\∀(j:Nat) (t:Addr) (u:V) (k:Str×Dp),ts[j]? =some t->us[j]? =some u->kds[j]? =some k->nw H0 D Hc t=some (.tup [.str k.1,u])/\Dv (nw H0 D Hc) n k.2 u) (by rw[sizeLine_eq];omega) ⟨⟨none,none,rfl⟩,a0o.upd hD,[],[],rfl,rfl,(fun j t u k h=>nomatch h)⟩ a0b ?_ ?_
    ·rintro i σ' Hc ys hi ⟨⟨t0,t1,rfl⟩,sc',ts,us,rfl,ul,hts⟩ hyl hD'
     rw[lM0] at hyl;refine⟨⟨hi,sc' _ _ h0⟩,?_⟩;rintro x H' ⟨k,v,p,hkk,rfl,hp,rfl⟩;have hid:i<kds.length:=by omega
     rw[← hkv,a2a,gM0,gE0 hid,gE0 (by omega)] at hkk;have hkk:=Option.some.inj hkk
     injection hkk with e1 e2
     subst e1;subst e2;have T1:=a0o.upd (o:=.tup [kV (.inr kds[i].1),vs[i]'(by omega)]) hp;refine⟨p,_,rfl,SqT.of a0b,rfl,_,_,rfl,_,_,rfl,rfl,?_⟩;have S1:=sc'.trans T1;have hD1:=T1 _ _ hD';generalize upd Hc p (.tup [kV (.inr kds[i].1),vs[i]'(by omega)])=H1 at *;refine⟨_,rfl,_,rfl,_,rfl,_,_,rfl,rfl,_,kds[i].2,_,rfl,hd',(hx0 i _ _ (gE0 (by omega)) (gE0 hid)).same S1,hsm _ (List.getElem_mem hid),fun v' H2 s2 dw2=>⟨(by show 2≤sizeLine;decide),fun t ht=>?_⟩⟩;have T3:=a0o.upd (o:=.tup [kV (.inr kds[i].1),v']) ht;have hD2:=s2 _ _ hD1;have ntD:t≠D:=fun e=>by rw[e,hD2] at ht;cases ht
     refine⟨T3 _ _ hD2,⟨_,_,rfl⟩,((S1.trans s2).trans T3).put hD,ts++[t],us++[v'],by rw[List.map_append];rfl,by rw[List.length_append,List.length_append,ul];rfl,fun j t' u k h1 h2 h3=>?_⟩;rcases a1n h1 with h1 |⟨rfl,rfl⟩
     ·rcases a1n h2 with h2 |⟨rfl,rfl⟩
      ·obtain⟨g1,g2⟩:=hts j t' u k h1 h2 h3
       have S:=(a2T (H:=H0) (D:=D) ((T1.trans s2).trans T3)).trans (a0X (o:=.lst (ts.map V.ref++[V.ref t])));exact⟨S _ _ g1,g2.same S⟩
      ·have:=(gS0.mp h1).1
       omega
     ·rcases a1n h2 with h2 |⟨_,rfl⟩
      ·have:=(gS0.mp h2).1
       omega
      ·rw[hyl,gE0 hid] at h3
       cases h3;refine⟨a0X _ _ (a5C ntD (a1e (S1.trans s2) ht) a0b),dw2.same ((a5F S1 hD1).trans ((a2T T3).trans a0X))⟩
    ·rintro σ' Hc ys ⟨_,sc',ts,us,rfl,ul,hts⟩ hDn hyl
     rw[lM0] at hyl;have ukl:us.length=kds.length:=by omega
     have zl2:(List.zipWith (fun z v=>((Sum.inr z:Key),v)) (kds.map (·.1)) us).length=kds.length:=by rw[a3P (by rw[lM0];exact ukl),lM0]
     refine⟨⟨Nat.le_refl _,sc' _ _ h0⟩,D,_,List.zipWith (fun z v=>((Sum.inr z:Key),v)) (kds.map (·.1)) us,rfl,SqL.of hDn,(by rw[lM0];omega),(by rw[zl2,lM0];omega),(fun j k v hj=>?_),?_,fun p hp=>?_⟩
     ·rw[a2a,gM0] at hj
      have hjk:j<kds.length:=by
       by_cases h:j<kds.length
       ·exact h
       ·rw[List.getElem?_eq_none (by omega)] at hj
        cases hj
      rw[gE0 hjk,gE0 (by omega)] at hj;have hj:=Option.some.inj hj
      injection hj with e1 e2
      subst e1;subst e2;have hjt:j<ts.length:=by omega
      obtain⟨g1,_⟩:=hts j ts[j] _ kds[j] (gE0 hjt) (gE0 (by omega)) (gE0 hjk);exact⟨ts[j],by rw[gM0,gE0 hjt];rfl,SqT.of (a0t _ _ (a1b _ _ g1))⟩
     ·have e:(List.zipWith (fun z v=>((Sum.inr z:Key),v)) (kds.map (·.1)) us).map (·.1)=(kds.map (·.1)).map Sum.inr:=by
       refine List.ext_getElem? fun j=>?_;rw[gM0,a2a,gM0,gM0,gM0]
       by_cases h:j<kds.length
       ·rw[gE0 h,gE0 (by omega)]
        rfl
       ·rw[List.getElem?_eq_none (by omega)]
        rfl
      rw[e];exact List.Pairwise.map _ (fun a b hab h=>hab (by injection h)) nd
     ·have T:=a0o.upd (o:=.dK (List.zipWith (fun z v=>((Sum.inr z:Key),v)) (kds.map (·.1)) us)) hp
      refine fin _ _ (sc'.trans T) fun H2 s2 c2=>q _ _ s2 (.dic (vs:=us) (c2 _ _ (a0J (a1e sc' hp) a0b)) nd ukl fun i v k h1 h2=>?_);have hit:i<ts.length:=by have:=(gS0.mp h1).1;omega
      exact((hts i ts[i] v k (gE0 hit) h1 h2).2.same (a1b.trans (a1F T))).same c2
def b5c:Sp:=fun vs H Q _=>∃(r:Addr) (row:Row) (C:Str) (x:Int),vs=[.ref r,.str C]/\H r=some (.dK (rK row))/\b4L row C x/\∀r' H',a0o H H'->cut H H' r'=some (.dK (rK (a8h row C)))->Q (.ref r') H'
def b5v:Sp:=fun vs H Q _=>∃(G:Hp) (p lr r':Addr) (T:Str) (row row':Row),vs=[.ref p,.str T,.ref lr]/\a0o G H/\PcA H p T row/\cut G H lr=some (.lst [.ref r'])/\cut G H r'=some (.dK (rK row'))/\∀p' H',a0o H H'->PcA (cut G H') p' T row'->Q (.ref p') H'
theorem b4a {f:Addr}{fd:FuncData}(F:Fun K "without_column" "without_column" (top 49) f fd)(B:Bl mg):a0w P w K mg base CX0 1 f fd ["row","column"] b5c:=by
 have sc:a0j ["row","column","fresh"] ["row","column"] (a0e (top 49)):=.k (by decide +kernel);refine F.ok sc (fun vs H Q E h=>?_) (fun cdv A outer s H vs Q E hr h=>?_)
 ·obtain⟨r,row,C,x,rfl,_⟩:=h
  rfl
 ·obtain⟨r,row,C,x,rfl,e,ok,q⟩:=h
  refine⟨_,a0d (a0r (i:=2) sc.nd rfl (Or.inl rfl) (a1a a2I (by rfl) B.dict boot_dict (a0a (pv 0) a0c)))
   (a0d (a0Y (a6A (pv 2) (pv 1) ⟨rfl,rfl,rfl,rfl⟩)) (a0f (a0p (pv 2)))),?_⟩
  refine⟨_,rfl,r,_,rfl,.inl e,fun r' hr'=>?_⟩;refine⟨_,rfl,r',rfl,.inl ⟨_,.inl a0b⟩,_,rfl,_,.inr C,.int x,a0b,rfl,a8z ok.nd ok.hm,?_⟩;rw[a2w,b1m];exact⟨_,rfl,q r' _ (a0o.upd hr') (a0J hr' a0b)⟩
theorem b4z {f fC:Addr}{fd fdC:FuncData}(F:Fun K "with_rows" "with_rows" (top 46) f fd)(B:Bl mg)(DC:Df K mg "copied" (top 37) fC fdC):a0w P w K mg base CX0 2 f fd ["piece","table","rows"] b5v:=by
 have sc:a0j ["piece","table","rows","fresh"] ["piece","table","rows"] (a0e (top 46)):=.k (by decide +kernel);have GC:a0w P w K mg base CX0 1 fC fdC ["piece"] a2p:=a2l DC.fn B;have bC:=DC.fn.b1 "piece" (by intros;rfl);refine F.ok sc (fun vs H Q E h=>?_) (fun cdv A outer s H vs Q E hr h=>?_)
 ·obtain⟨G,p,lr,r',T,row,row',rfl,_⟩:=h
  rfl
 ·obtain⟨G,p,lr,r',T,row,row',rfl,sG,hp,hl,hrr,q⟩:=h
  have hu:=a2S hr;refine⟨_,a0d (a0r (i:=3) sc.nd rfl (Or.inl rfl) (a0g GC hr (by rfl) DC.mg DC.fn.kp bC .nil a0k (a0a (pv 0) a0c)))
   (a0d (a3f hu (pv 3) (pv 1) (pv 2) rfl) (a0f (a0p (pv 3)))),?_⟩
  refine⟨_,rfl,p,T,row,rfl,hp,fun p' H1 s1 ⟨l,r,c1,c2,c3⟩=>?_⟩;refine⟨_,rfl,_,rfl,_,rfl,p',_,rfl,a9x.k (k:=.inr T) (a0t _ _ c1) (by show 1<sizeLine;decide),?_⟩;rw[show tL T l=[((.inr T:Key),V.ref l)] from rfl,put1];have np:H p'=none:=a0T c1;have keep:∀b o,cut G H b=some o->cut G (upd H1 p' (.dK [((.inr T:Key),V.ref lr)])) b=some o:=fun b o e=>a0J (a0T e) (by rw[a0h (a0x (a0t _ _ e) np)];exact s1 _ _ (a0t _ _ e));exact⟨_,rfl,q p' _ (s1.put np) ⟨lr,r',a0J (a1e sG np) a0b,keep _ _ hl,keep _ _ hrr⟩⟩
end
end My
namespace L2
open PySem PySem.Spec PyProof.Rows
theorem a0w.to {P:Program}{w:World}{K:Fg0}{mg:Str->Option Value}{base:Heap}{k k':Nat}{f:Addr}{fd:FuncData}{ps:List Str}{sp sp':Sp}(F:a0w P w K mg base CX0 k f fd ps sp)(hk:k≤k')(h:∀vs H Q E,sp' vs H Q E->sp vs H Q E):a0w P w K mg base CX0 k' f fd ps sp':=
 ⟨fun vs H Q E z=>F.len vs H Q E (h _ _ _ _ z),fun A outer s H args us vs Q E hr e b r z=>F.run A outer s H args us vs Q E (hr.mono hk) e b r (h _ _ _ _ z)⟩
end L2
namespace My
open PySem L2 PyProof.Rows
seal L2.PE L2.PT L2.PW L2.PS L2.PSs L2.PA L2.PI L2.PG L2.PGs L2.OpR L2.a1E L2.IxR L2.SlR L2.MtR L2.PIf L2.PO L2.MtM L2.PC
structure Dt where
 T:Str
 c1:Str
 c2:Str
 top:Int
structure Dt.Ok (d:Dt):Prop where
 hT:a5G d.T
 h1:a5G d.c1
 h2:a5G d.c2
 ne:d.c1≠d.c2
def FoK (K:Fg0)(d:Dt)(ko:Option Kk)(H:Hp)(f:Addr):Prop:=∃(cols:Cl) (k2:Addr),FmA H f 2 d.T cols/\Srt cols/\KdH K H k2 .wh/\((ko=none/\cols=[(d.c2,k2)])\/∃kd k1,ko=some kd/\cols.Perm [(d.c1,k1),(d.c2,k2)]/\KdH K H k1 kd)
theorem FoK.nt {K:Fg0}{d:Dt}{ko:Option Kk}{H H':Hp}{f:Addr}(h:FoK K d ko H f)(s:Ntb H H'):FoK K d ko H' f:=by
 obtain⟨cols,k2,a,b,c,e⟩:=h;refine⟨cols,k2,a.nt s,b,c.nt s,?_⟩;rcases e with e |⟨kd,k1,e1,e2,e3⟩
 ·exact .inl e
 ·exact .inr ⟨kd,k1,e1,e2,e3.nt s⟩
inductive Rs where
 |no
 |one (o:Option Int)
 |two (a b:Rs)
def oV:Option Int->V
 |none=>.non
 |some i=>.int i
inductive RsA (H:Hp):Rs->V->Prop
 |no:RsA H .no .non
 |one {o:Option Int} {l:Addr} (h:H l=some (.lst [oV o])):RsA H (.one o) (.ref l)
 |two {a b:Rs} {l:Addr} {u v:V} (h:H l=some (.lst [u,v])) (ha:RsA H a u) (hb:RsA H b v):RsA H (.two a b) (.ref l)
theorem RsA.nt {H H':Hp}(s:Ntb H H'){r:Rs}{v:V}(h:RsA H r v):RsA H' r v:=by
 induction h with
 |no=>exact .no
 |one h=>exact .one (s _ _ h nofun)
 |two h _ _ ih1 ih2=>exact .two (s _ _ h nofun) ih1 ih2
abbrev MvP:=Dt->Hp->Addr->Prop
abbrev Pt:=Int×Int
structure Sem where
 a:Dt->Option Kk
 b:Dt->Option Kk
 SA:Dt->Row->Pt->Prop
 SB:Dt->Row->Pt->Prop
 fw:Dt->Pt->Rs->Pt×Rs
 bw:Dt->Pt->Rs->Pt×Rs
 lf:Dt->Pt->Rs->Rs
 ri:Dt->Pt->Rs->Rs
 okF:Rs->Prop
 okB:Rs->Prop
 okL:Rs->Prop
 okR:Rs->Prop
def Sem.turn (S:Sem):Sem:=⟨S.b,S.a,S.SB,S.SA,S.bw,S.fw,S.ri,S.lf,S.okB,S.okF,S.okR,S.okL⟩
structure Sem.Ok (S:Sem):Prop where
 lF:∀d p r,S.okL r->S.okF (S.lf d p r)
 rB:∀d p r,S.okR r->S.okB (S.ri d p r)
 l0:S.okL .no
 r0:S.okR .no
def a8U (K:Fg0)(PF:Addr)(Mv:MvP)(a b:Dt->Option Kk):Sp:=fun vs H Q _=>∃(x f:Addr) (d:Dt),vs=[.ref x,.ref f]/\Mv d H x/\FoK K d (a d) H f/\d.Ok/\a0O PF a0Z foQ H/\∀f' H',Fr PF H H'->a0O PF a0Z foQ H'->FoK K d (b d) H' f'->Q (.ref f') H'
def a6P (K:Fg0)(PF:Addr)(Mv:MvP)(a:Dt->Option Kk)(SA SB:Dt->Row->Pt->Prop)(ok:Rs->Prop)(g:Dt->Pt->Rs->Pt×Rs):Sp:=fun vs H Q _=>∃(x f p:Addr) (rv:V) (d:Dt) (row:Row) (z:Pt) (rs:Rs),vs=[.ref x,.ref f,.ref p,rv]/\Mv d H x/\FoK K d (a d) H f/\PcA H p d.T row/\SA d row z/\RsA H rs rv/\ok rs/\d.Ok/\a0O PF a0Z foQ H ∧
 ∀t p' v row' H',Fr PF H H'->a0O PF a0Z foQ H'->PcA (cut H H') p' d.T row'->SB d row' (g d z rs).1->RsA (cut H H') (g d z rs).2 v->H' t=some (.tup [.ref p',v])->Q (.ref t) H'
def a7x (K:Fg0)(PF:Addr)(Mv:MvP)(a:Dt->Option Kk)(SA:Dt->Row->Pt->Prop)(ok:Rs->Prop)(g:Dt->Pt->Rs->Rs):Sp:=fun vs H Q _=>∃(x f p:Addr) (rv:V) (d:Dt) (row:Row) (z:Pt) (rs:Rs),vs=[.ref x,.ref f,.ref p,rv]/\Mv d H x/\FoK K d (a d) H f/\PcA H p d.T row/\SA d row z/\RsA H rs rv/\ok rs/\d.Ok/\a0O PF a0Z foQ H ∧
 ∀v H',Fr PF H H'->a0O PF a0Z foQ H'->RsA (cut H H') (g d z rs) v->Q v H'
def P2:List Str:=["self","form"]
def P4:List Str:=["self","form","piece","rest"]
section
variable (P:Program)(w:World)(K:Fg0)(mg:Str->Option Value)(base:Heap)(PF:Addr)
def MO (k:Nat)(C:Addr)(m:Str)(ps:List Str)(sp:Sp):Prop:=∃f fd,a7l K C m f/\a1s K fd ps []/\a0w P w K mg base CX0 k f fd ps sp
def MO1 (k:Nat)(C:Addr)(m:Str)(ps:List Str)(sp:Sp):Prop:=∃f fd,a7l K C m f/\a1s K fd ps []/\a1s K fd ps [.none]/\a0w P w K mg base CX0 k f fd ps sp
structure Itf (k:Nat) (C:Addr) (Mv:MvP) (S:Sem):Prop where
 ins:∀{d:Dt} {H:Hp} {a:Addr},Mv d H a->∃dx fs,H a=some (.ins C dx fs)/\∀m:Str,(m="after"\/m="before"\/m="forth"\/m="back"\/m="left"\/m="right")->fs.lookup m=none
 nt:∀{d:Dt} {H H':Hp} {a:Addr},Mv d H a->Ntb H H'->Mv d H' a
 cl:Cls K C
 af:MO P w K mg base k C "after" P2 (a8U K PF Mv S.a S.b)
 bf:MO P w K mg base k C "before" P2 (a8U K PF Mv S.b S.a)
 fo:MO P w K mg base k C "forth" P4 (a6P K PF Mv S.a S.SA S.SB S.okF S.fw)
 bk:MO P w K mg base k C "back" P4 (a6P K PF Mv S.b S.SB S.SA S.okB S.bw)
 le:MO1 P w K mg base k C "left" P4 (a7x K PF Mv S.a S.SA S.okL S.lf)
 ri:MO1 P w K mg base k C "right" P4 (a7x K PF Mv S.b S.SB S.okR S.ri)
end
abbrev td (i:Nat):Stmt:=a3p (top 63) i
structure ClD (K:Fg0) (C:Addr):Prop where
 cl:Cls K C
 nM:a1D K C "move"
def dfs (y:Addr):List (Str×V):=a1y "move" (.ref y) []
theorem a6T {y:Addr}:(dfs y).lookup ("move":Str)=some (V.ref y):=by unfold dfs;rw[a0m,if_pos rfl]
theorem b2K {y:Addr}{m:Str}(h:m≠"move"):(dfs y).lookup m=none:=by
 unfold dfs;rw[a0m,if_neg h]
 rfl
def TuA (CD:Addr)(Mv:MvP):MvP:=fun d H x=>∃dx y,H x=some (.ins CD dx (dfs y))/\Mv d H y
def b5h (CD:Addr):Sp:=fun vs H Q _=>∃(x dx y:Addr),vs=[.ref x,.ref y]/\H x=some (.ins CD dx [])/\∀H',(∀b o,b≠x->H b=some o->H' b=some o)->H' x=some (.ins CD dx (dfs y))->Q .non H'
section
variable {P:Program}{w:World}{K:Fg0}{mg:Str->Option Value}{base:Heap}{PF C CD:Addr}{Mv:MvP}{S:Sem}{k:Nat}
theorem b2w {f:Addr}{fd:FuncData}(F:Fun K "__init__" "Turned.__init__" (td 0) f fd)(L:ClD K CD):a0w P w K mg base CX0 1 f fd ["self","move"] (b5h CD):=by
 have sc:a0j ["self","move"] ["self","move"] (a0e (td 0)):=.k (by decide +kernel);refine F.ok sc (fun vs H Q E h=>?_) (fun cdv A outer s H vs Q E hr h=>?_)
 ·obtain⟨x,dx,y,rfl,_⟩:=h
  rfl
 ·obtain⟨x,dx,y,rfl,e,q⟩:=h
  refine⟨_,a0f (a2g (pv 0) (pv 1) rfl),?_⟩;refine⟨_,rfl,_,rfl,x,CD,dx,_,rfl,e,L.cl,L.nM,(by decide),?_⟩;exact q _ (fun b o nb eb=>(a0h nb).trans eb) a0b
theorem b4Z {f:Addr}{fd:FuncData}(F:Fun K "after" "Turned.after" (td 1) f fd)(L:ClD K CD)(I:Itf P w K mg base PF k C Mv S):a0w P w K mg base CX0 (k+1) f fd P2 (a8U K PF (TuA CD Mv) S.b S.a):=by
 obtain⟨fB,fdB,MB,bB,GB⟩:=I.bf;have sc:a0j P2 P2 (a0e (td 1)):=.k (by decide +kernel);refine F.ok sc (fun vs H Q E h=>?_) (fun cdv A outer s H vs Q E hr h=>?_)
 ·obtain⟨x,f,d,rfl,_⟩:=h
  rfl
 ·obtain⟨x,fm,d,rfl,⟨dx,y,e,mv⟩,r⟩:=h
  obtain⟨dx',fs,e',n⟩:=I.ins mv;refine⟨_,a0f (a0p (a0A (a0B (pv 0) rfl) I.cl MB GB hr bB .nil a0k (a0a (pv 1) a0c))),?_⟩;exact⟨_,rfl,x,CD,dx,_,_,rfl,e,L.cl,L.nM,a6T,y,dx',_,rfl,e',n _ (by simp),_,rfl,y,fm,d,rfl,mv,r⟩
theorem b4r {f:Addr}{fd:FuncData}(F:Fun K "before" "Turned.before" (td 2) f fd)(L:ClD K CD)(I:Itf P w K mg base PF k C Mv S):a0w P w K mg base CX0 (k+1) f fd P2 (a8U K PF (TuA CD Mv) S.a S.b):=by
 obtain⟨fB,fdB,MB,bB,GB⟩:=I.af;have sc:a0j P2 P2 (a0e (td 2)):=.k (by decide +kernel);refine F.ok sc (fun vs H Q E h=>?_) (fun cdv A outer s H vs Q E hr h=>?_)
 ·obtain⟨x,f,d,rfl,_⟩:=h
  rfl
 ·obtain⟨x,fm,d,rfl,⟨dx,y,e,mv⟩,r⟩:=h
  obtain⟨dx',fs,e',n⟩:=I.ins mv;refine⟨_,a0f (a0p (a0A (a0B (pv 0) rfl) I.cl MB GB hr bB .nil a0k (a0a (pv 1) a0c))),?_⟩;exact⟨_,rfl,x,CD,dx,_,_,rfl,e,L.cl,L.nM,a6T,y,dx',_,rfl,e',n _ (by simp),_,rfl,y,fm,d,rfl,mv,r⟩
theorem b3Y {f:Addr}{fd:FuncData}(F:Fun K "forth" "Turned.forth" (td 3) f fd)(L:ClD K CD)(I:Itf P w K mg base PF k C Mv S):a0w P w K mg base CX0 (k+1) f fd P4 (a6P K PF (TuA CD Mv) S.b S.SB S.SA S.okB S.bw):=by
 obtain⟨fB,fdB,MB,bB,GB⟩:=I.bk;have sc:a0j P4 P4 (a0e (td 3)):=.k (by decide +kernel);refine F.ok sc (fun vs H Q E h=>?_) (fun cdv A outer s H vs Q E hr h=>?_)
 ·obtain⟨x,f,p,rv,d,row,z,rs,rfl,_⟩:=h
  rfl
 ·obtain⟨x,fm,p,rv,d,row,z,rs,rfl,⟨dx,y,e,mv⟩,r⟩:=h
  obtain⟨dx',fs,e',n⟩:=I.ins mv;refine⟨_,a0f (a0p (a0A (a0B (pv 0) rfl) I.cl MB GB hr bB .nil a0k (a0a (pv 1) (a0a (pv 2) (a0a (pv 3) a0c))))),?_⟩;exact⟨_,rfl,x,CD,dx,_,_,rfl,e,L.cl,L.nM,a6T,y,dx',_,rfl,e',n _ (by simp),_,rfl,_,rfl,_,rfl,y,fm,p,rv,d,row,z,rs,rfl,mv,r⟩
theorem b4V {f:Addr}{fd:FuncData}(F:Fun K "back" "Turned.back" (td 4) f fd)(L:ClD K CD)(I:Itf P w K mg base PF k C Mv S):a0w P w K mg base CX0 (k+1) f fd P4 (a6P K PF (TuA CD Mv) S.a S.SA S.SB S.okF S.fw):=by
 obtain⟨fB,fdB,MB,bB,GB⟩:=I.fo;have sc:a0j P4 P4 (a0e (td 4)):=.k (by decide +kernel);refine F.ok sc (fun vs H Q E h=>?_) (fun cdv A outer s H vs Q E hr h=>?_)
 ·obtain⟨x,f,p,rv,d,row,z,rs,rfl,_⟩:=h
  rfl
 ·obtain⟨x,fm,p,rv,d,row,z,rs,rfl,⟨dx,y,e,mv⟩,r⟩:=h
  obtain⟨dx',fs,e',n⟩:=I.ins mv;refine⟨_,a0f (a0p (a0A (a0B (pv 0) rfl) I.cl MB GB hr bB .nil a0k (a0a (pv 1) (a0a (pv 2) (a0a (pv 3) a0c))))),?_⟩;exact⟨_,rfl,x,CD,dx,_,_,rfl,e,L.cl,L.nM,a6T,y,dx',_,rfl,e',n _ (by simp),_,rfl,_,rfl,_,rfl,y,fm,p,rv,d,row,z,rs,rfl,mv,r⟩
theorem b3R {f:Addr}{fd:FuncData}(F:a6l K "left" "Turned.left" (td 5) f fd)(L:ClD K CD)(I:Itf P w K mg base PF k C Mv S):a0w P w K mg base CX0 (k+1) f fd P4 (a7x K PF (TuA CD Mv) S.b S.SB S.okR S.ri):=by
 obtain⟨fB,fdB,MB,bB,_,GB⟩:=I.ri;have sc:a0j P4 P4 (a0e (td 5)):=.k (by decide +kernel);refine F.ok sc (fun vs H Q E h=>?_) (fun cdv A outer s H vs Q E hr h=>?_)
 ·obtain⟨x,f,p,rv,d,row,z,rs,rfl,_⟩:=h
  rfl
 ·obtain⟨x,fm,p,rv,d,row,z,rs,rfl,⟨dx,y,e,mv⟩,r⟩:=h
  obtain⟨dx',fs,e',n⟩:=I.ins mv;refine⟨_,a0f (a0p (a0A (a0B (pv 0) rfl) I.cl MB GB hr bB .nil a0k (a0a (pv 1) (a0a (pv 2) (a0a (pv 3) a0c))))),?_⟩;exact⟨_,rfl,x,CD,dx,_,_,rfl,e,L.cl,L.nM,a6T,y,dx',_,rfl,e',n _ (by simp),_,rfl,_,rfl,_,rfl,y,fm,p,rv,d,row,z,rs,rfl,mv,r⟩
theorem b4k {f:Addr}{fd:FuncData}(F:a6l K "right" "Turned.right" (td 6) f fd)(L:ClD K CD)(I:Itf P w K mg base PF k C Mv S):a0w P w K mg base CX0 (k+1) f fd P4 (a7x K PF (TuA CD Mv) S.a S.SA S.okL S.lf):=by
 obtain⟨fB,fdB,MB,bB,_,GB⟩:=I.le;have sc:a0j P4 P4 (a0e (td 6)):=.k (by decide +kernel);refine F.ok sc (fun vs H Q E h=>?_) (fun cdv A outer s H vs Q E hr h=>?_)
 ·obtain⟨x,f,p,rv,d,row,z,rs,rfl,_⟩:=h
  rfl
 ·obtain⟨x,fm,p,rv,d,row,z,rs,rfl,⟨dx,y,e,mv⟩,r⟩:=h
  obtain⟨dx',fs,e',n⟩:=I.ins mv;refine⟨_,a0f (a0p (a0A (a0B (pv 0) rfl) I.cl MB GB hr bB .nil a0k (a0a (pv 1) (a0a (pv 2) (a0a (pv 3) a0c))))),?_⟩;exact⟨_,rfl,x,CD,dx,_,_,rfl,e,L.cl,L.nM,a6T,y,dx',_,rfl,e',n _ (by simp),_,rfl,_,rfl,_,rfl,y,fm,p,rv,d,row,z,rs,rfl,mv,r⟩
end
theorem boot_min:bootBuiltins "min"=some (.builtin "min"):=by decide +kernel
def a1k (d:Dt)(row:Row)(z:Pt):Prop:=row=[(d.c1,z.1),(d.c2,z.2)]\/row=[(d.c2,z.2),(d.c1,z.1)]
def a7f (d:Dt)(row:Row)(z:Pt):Prop:=row=[(d.c2,z.2)]/\z.1=0
theorem a1k.ok {d:Dt}(h:d.Ok){row:Row}{z:Pt}(f:a1k d row z):b4L row d.c1 z.1:=by
 rcases f with rfl |rfl
 ·exact⟨by show[d.c1,d.c2].Nodup;simp[h.ne],(by show 2≤12;decide),by simp⟩
 ·exact⟨by show[d.c2,d.c1].Nodup;simp[h.ne.symm],(by show 2≤12;decide),by simp⟩
theorem a1k.set {d:Dt}(h:d.Ok){row:Row}{z:Pt}(f:a1k d row z)(y:Int):a1k d (a9I row d.c1 y) (y,z.2):=by
 rcases f with rfl |rfl
 ·left
  unfold a9I b3w;simp[h.ne.symm]
 ·right
  unfold a9I b3w;simp[h.ne.symm]
def rsO:Rs->Option Int
 | .one o=>o
 |_=>none
def a2Z:Sem where
 a _:=some .wh
 b d:=some (.upt d.top)
 SA:=a1k
 SB:=a1k
 fw d z _:=((if d.top<z.1 then d.top else z.1,z.2),.one (if d.top<z.1 then some z.1 else none))
 bw d z r:=(((rsO r).getD z.1,z.2),.no)
 lf _ _ _:=.no
 ri d z r:=.one (if z.1=d.top then rsO r else none)
 okF _:=True
 okB r:=∃o,r=.one o
 okL _:=True
 okR r:=r=.no\/∃o,r=.one o
theorem a5D:a2Z.Ok:=⟨fun _ _ _ _=>trivial,fun _ _ _ _=>⟨_,rfl⟩,trivial,.inl rfl⟩
abbrev ca (i:Nat):Stmt:=a3p (top 42) i
structure ClC (K:Fg0) (C:Addr):Prop where
 cl:Cls K C
 nT:a1D K C "table"
 nC:a1D K C "column"
 nP:a1D K C "top"
 nO:a1D K C "told"
def cfs (T C:Str)(n:Int)(t:V):List (Str×V):=a1y "told" t (a1y "top" (.int n) (a1y "column" (.str C) (a1y "table" (.str T) [])))
section
variable {T C:Str}{n:Int}{t:V}
theorem a5V:(cfs T C n t).lookup ("table":Str)=some (V.str T):=by unfold cfs;rw[a0m,if_neg (by decide),a0m,if_neg (by decide),a0m,if_neg (by decide),a0m,if_pos rfl]
theorem a5x:(cfs T C n t).lookup ("column":Str)=some (V.str C):=by unfold cfs;rw[a0m,if_neg (by decide),a0m,if_neg (by decide),a0m,if_pos rfl]
theorem a5H:(cfs T C n t).lookup ("top":Str)=some (V.int n):=by unfold cfs;rw[a0m,if_neg (by decide),a0m,if_pos rfl]
theorem b3f {m:Str}(h:m="after"\/m="before"\/m="forth"\/m="back"\/m="left"\/m="right"):(cfs T C n t).lookup m=none:=by
 unfold cfs;rcases h with rfl |rfl |rfl |rfl |rfl |rfl<;>(rw[a0m,if_neg (by decide),a0m,if_neg (by decide),a0m,if_neg (by decide),a0m,if_neg (by decide)];rfl)
end
def MvC (CC:Addr):MvP:=fun d H x=>∃dx t,H x=some (.ins CC dx (cfs d.T d.c1 d.top t))
def b5n (CC:Addr):Sp:=fun vs H Q _=>∃(x dx:Addr) (T C:Str) (n:Int),vs=[.ref x,.str T,.str C,.int n]/\H x=some (.ins CC dx [])/\∀t H',(∀b o,b≠x->H b=some o->H' b=some o)->H' x=some (.ins CC dx (cfs T C n t))->Q .non H'
def b1u:Sp:=fun vs H Q _=>∃(rv:V) (n:Nat) (ot:V),vs=[rv,.int n,ot]/\((rv=.non/\Q ot H)\/∃(l:Addr) (xs:List V) (v:V),rv=.ref l/\H l=some (.lst xs)/\xs[n]? =some v/\Q v H)
theorem a7D {cols:Cl}{C:Str}{kn:Addr}(h:Srt cols):Srt (a7o cols C kn):=by
 unfold Srt;rw[a2W];exact h
theorem a6q {d:Dt}(ok:d.Ok){cols:Cl}{k1 k2 kn:Addr}(hp:cols.Perm [(d.c1,k1),(d.c2,k2)]):(a7o cols d.c1 kn).Perm [(d.c1,kn),(d.c2,k2)]:=by
 have:=hp.map fun c:Str×Addr=>if c.1=d.c1 then(d.c1,kn) else c
 refine this.trans ?_;rw[List.map_cons,List.map_cons,List.map_nil,if_pos rfl,if_neg ok.ne.symm]
theorem a8j {vs:List V}(h:vs.length≤1000):Sm (.tup (vs.map Dp.fl)):=.tup (by rw[lM0];exact h) fun d hd=>by
 obtain⟨v,_,rfl⟩:=List.mem_map.mp hd;exact .fl
theorem a8l {K:Fg0}{d:Dt}{H:Hp}{cols:Cl}{k1 k2:Addr}{kd:Kk}(ok:d.Ok)(hp:cols.Perm [(d.c1,k1),(d.c2,k2)])(h1:KdH K H k1 kd)(h2:KdH K H k2 .wh):a7m K H cols:=by
 refine⟨(hp.map (·.1)).nodup_iff.mpr (by show[d.c1,d.c2].Nodup;simp[ok.ne]),by rw[hp.length_eq];show 2≤12;decide,fun c hc=>?_⟩;rcases (show c=_\/c=_ by simpa using hp.mem_iff.mp hc) with rfl |rfl
 ·exact⟨ok.h1,kd,h1⟩
 ·exact⟨ok.h2,.wh,h2⟩
section
variable {P:Program}{w:World}{K:Fg0}{mg:Str->Option Value}{base:Heap}{PF CC:Addr}
theorem a9l {f:Addr}{fd:FuncData}(F:Fun K "at_place" "at_place" (top 50) f fd)(B:Bl mg):a0w P w K mg base CX0 1 f fd ["rest","place","other"] b1u:=by
 have sc:a0j ["rest","place","other"] ["rest","place","other"] (a0e (top 50)):=.k (by decide +kernel);refine F.ok sc (fun vs H Q E h=>?_) (fun cdv A outer s H vs Q E hr h=>?_)
 ·obtain⟨rv,n,ot,rfl,_⟩:=h
  rfl
 ·obtain⟨rv,n,ot,rfl,h⟩:=h
  refine⟨_,a0d (a0R (PW.pt (a5R (a0z b0h (pv 0) a1u (a0E _)) (a3L (a0z b2P (pv 1) (a0y a0C (by rfl) B.len PySem.boot_len (a0a (pv 0) a0c)) (a0E _))))) (a0f (a0p (pv 2))) a0u)
   (a0f (a0p (a0F a0V (pv 0) (pv 1) (fun _ _=>rfl)))),?_⟩
  rcases h with ⟨rfl,q⟩ |⟨l,xs,v,rfl,hl,hv,q⟩
  ·exact⟨_,rfl,rfl,_,rfl,a3H rfl ⟨_,rfl,q⟩⟩
  ·have hn:=(gS0.mp hv).1
   refine⟨_,rfl,rfl,_,rfl,a2s rfl ?_⟩;refine⟨_,rfl,_,rfl,l,_,rfl,.inl (SqL.of hl),_,_,rfl,rfl,_,rfl,a2s (decide_eq_false (by omega)) ?_⟩;exact⟨_,rfl,_,rfl,l,_,n,v,rfl,rfl,SqL.of hl,a3k hv,q⟩
theorem b4F {f fO:Addr}{fd fdO:FuncData}{tk:Tok}(F:Fun K "__init__" "Cap.__init__" (ca 0) f fd)(L:ClC K CC)(mO:mg "owned"=some (.ref fO))(kO:PySem.W.keepIn K (.ref fO)=true)(GO:a0w P w K mg base CX0 4 fO fdO ["thing","depth"] (b3x 3))(bO1:a1s K fdO ["thing","depth"] [.int 20 tk]):a0w P w K mg base CX0 5 f fd ["self","table","column","top"] (b5n CC):=by
 have sc:a0j ["self","table","column","top"] ["self","table","column","top"] (a0e (ca 0)):=.k (by decide +kernel);refine F.ok sc (fun vs H Q E h=>?_) (fun cdv A outer s H vs Q E hr h=>?_)
 ·obtain⟨x,dx,T,C,n,rfl,_⟩:=h
  rfl
 ·obtain⟨x,dx,T,C,n,rfl,e,q⟩:=h
  refine⟨_,a0d (a2g (pv 0) (pv 1) rfl) (a0d (a2g (pv 0) (pv 2) rfl) (a0d (a2g (pv 0) (pv 3) rfl)
   (a0f (a2g (pv 0) (a0g GO hr (by rfl) mO kO bO1 (show a1m [V.int 20] [Value.int 20 tk] from .cons ⟨tk,rfl⟩ .nil) a0k (a0a (a0I (a0a a0M (a0a (pv 1) (a0a (pv 2) (a0a (pv 3) a0c))))) a0c)) rfl)))),?_⟩
  have l1:=a1h "table" (.str T) [];have l2:=a1h "column" (.str C) (a1y "table" (.str T) []);have l3:=a1h "top" (.int n) (a1y "column" (.str C) (a1y "table" (.str T) []));rw[List.length_nil] at l1;refine⟨_,rfl,_,rfl,x,CC,dx,_,rfl,e,L.cl,L.nT,(by decide),?_⟩;refine⟨_,rfl,_,rfl,x,CC,dx,_,rfl,a0b,L.cl,L.nC,(by omega),?_⟩;rw[a2w];refine⟨_,rfl,_,rfl,x,CC,dx,_,rfl,a0b,L.cl,L.nP,(by omega),?_⟩;rw[a2w];have keep:∀b o,b≠x->H b=some o->upd H x (.ins CC dx (a1y "top" (.int n) (a1y "column" (.str C) (a1y "table" (.str T) [])))) b=some o:=fun b o nb eb=>(a0h nb).trans eb;have ex:=a0b (H:=H) (a:=x) (o:=.ins CC dx (a1y "top" (.int n) (a1y "column" (.str C) (a1y "table" (.str T) []))));generalize upd H x (.ins CC dx (a1y "top" (.int n) (a1y "column" (.str C) (a1y "table" (.str T) []))))=H1 at *;refine⟨_,rfl,_,rfl,_,rfl,(show 4≤sizeLine by decide),fun tp htp=>?_⟩;have T1:=a0o.upd (o:=.tup [.str "cap",.str T,.str C,.int n]) htp;refine⟨_,.tup ([V.str "cap",.str T,.str C,.int n].map Dp.fl),20,rfl,(by decide),DwL.tup (n:=2) (.inl a0b) (.cons (.fl rfl) (.cons (.fl rfl) (.cons (.fl rfl) (.cons (.fl rfl) .nil)))),a8j (by show 4≤1000;decide),fun v' H2 s2 _=>?_⟩;refine⟨_,rfl,x,CC,dx,_,rfl,s2 _ _ (T1 _ _ ex),L.cl,L.nO,(by omega),?_⟩;exact q v' _ (fun b o nb eb=>(a0h nb).trans (s2 _ _ (T1 _ _ (keep b o nb eb)))) a0b
theorem b3N {f fA fW fK wA:Addr}{fd fdA fdW fdK:FuncData}(F:Fun K "after" "Cap.after" (ca 1) f fd)(L:ClC K CC)(B:Bl mg)(DA:Df K mg "ask_fit" (top 43) fA fdA)(DW:Df K mg "is_whole" (top 12) fW fdW)(mW:mg "WHOLE"=some (.ref wA))(qW:∀H,SqT K H wA [.str "whole"])
  (DK:Df K mg "with_kind" (top 45) fK fdK) (GK:a0w P w K mg base CX0 8 fK fdK ["form","table","column","old","new"] (a4v K PF)):a0w P w K mg base CX0 9 f fd P2 (a8U K PF (MvC CC) a2Z.a a2Z.b):=by
 have sc:a0j P2 P2 (a0e (ca 1)):=.k (by decide +kernel);have GA:a0w P w K mg base CX0 1 fA fdA ["fine"] a5U:=a3X DA.fn;have GW:a0w P w K mg base CX0 1 fW fdW ["thing"] b1T:=a8H DW.fn B;have bA:=DA.fn.b1 "fine" (by intros;rfl);have bW:=DW.fn.b1 "thing" (by intros;rfl);have bK:=DK.fn.b5 "form" "table" "column" "old" "new" (by intros;rfl);refine F.ok sc (fun vs H Q E h=>?_) (fun cdv A outer s H vs Q E hr h=>?_)
 ·obtain⟨x,f,d,rfl,_⟩:=h
  rfl
 ·obtain⟨x,fm,d,rfl,⟨dx,t,e⟩,⟨cols,k2,hf,srt,hk2,hc⟩,ok,tab,q⟩:=h
  rcases hc with ⟨z,_⟩ |⟨kd,k1,ek,hp,hk1⟩
  ·cases z
  obtain rfl:Kk.wh=kd:=by injection ek
  have hr1:a1o 1 _:=hr.mono (by decide);refine⟨_,a0d (a0Y (a0g GA hr1 (by rfl) DA.mg DA.fn.kp bA .nil a0k (a0a (a0g GW hr1 (by rfl) DW.mg DW.fn.kp bW .nil a0k (a0a (a0B (pv 0) rfl) a0c)) a0c)))
   (a0f (a0p (a0g GK hr (by rfl) DK.mg DK.fn.kp bK .nil a0k (a0a (pv 1) (a0a (a0B (pv 0) rfl) (a0a (a0B (pv 0) rfl) (a0a (a2G (v:=.ref wA) (by rfl) mW rfl) (a0a (a0I (a0a a0M (a0a (a0B (pv 0) rfl) a0c))) a0c)))))))),?_⟩
  refine⟨_,rfl,x,CC,dx,_,_,rfl,e,L.cl,L.nP,a5H,d.top,rfl,rfl,?_⟩;refine⟨_,rfl,_,rfl,x,CC,dx,_,_,rfl,e,L.cl,L.nT,a5V,_,rfl,x,CC,dx,_,_,rfl,e,L.cl,L.nC,a5x,_,rfl,x,CC,dx,_,_,rfl,e,L.cl,L.nP,a5H,(by show 2≤sizeLine;decide),fun kn hkn=>?_⟩;have S:=a0o.upd (o:=.tup [V.str "upto",.int d.top]) hkn;have hkn':KdH K (upd H kn (.tup [V.str "upto",.int d.top])) kn (.upt d.top):=⟨SqT.of a0b,trivial⟩;refine⟨fm,2,d.T,d.c1,cols,k1,wA,kn,.wh,.upt d.top,rfl,hf.same S,by decide,hp.mem_iff.mpr (by simp),hk1.nt (.of S),qW _,hkn',ok.hT,(a8l ok hp hk1 hk2).nt (.of S),srt,tab.same S,fun f' H' fr tab' hf'=>q f' H' ((Fr.of S).trans fr) tab' ?_⟩;have N:=(fr.nt (tab.same S));exact⟨_,k2,hf',a7D srt,(hk2.nt (.of S)).nt N,.inr ⟨_,kn,rfl,a6q ok hp,hkn'.nt N⟩⟩
theorem b4u {f fA fW fK wA:Addr}{fd fdA fdW fdK:FuncData}(F:Fun K "before" "Cap.before" (ca 2) f fd)(L:ClC K CC)(B:Bl mg)(DA:Df K mg "ask_fit" (top 43) fA fdA)(DW:Df K mg "is_whole" (top 12) fW fdW)(mW:mg "WHOLE"=some (.ref wA))(qW:∀H,SqT K H wA [.str "whole"])
  (DK:Df K mg "with_kind" (top 45) fK fdK) (GK:a0w P w K mg base CX0 8 fK fdK ["form","table","column","old","new"] (a4v K PF)):a0w P w K mg base CX0 9 f fd P2 (a8U K PF (MvC CC) a2Z.b a2Z.a):=by
 have sc:a0j P2 P2 (a0e (ca 2)):=.k (by decide +kernel);have GA:a0w P w K mg base CX0 1 fA fdA ["fine"] a5U:=a3X DA.fn;have GW:a0w P w K mg base CX0 1 fW fdW ["thing"] b1T:=a8H DW.fn B;have bA:=DA.fn.b1 "fine" (by intros;rfl);have bW:=DW.fn.b1 "thing" (by intros;rfl);have bK:=DK.fn.b5 "form" "table" "column" "old" "new" (by intros;rfl);refine F.ok sc (fun vs H Q E h=>?_) (fun cdv A outer s H vs Q E hr h=>?_)
 ·obtain⟨x,f,d,rfl,_⟩:=h
  rfl
 ·obtain⟨x,fm,d,rfl,⟨dx,t,e⟩,⟨cols,k2,hf,srt,hk2,hc⟩,ok,tab,q⟩:=h
  rcases hc with ⟨z,_⟩ |⟨kd,k1,ek,hp,hk1⟩
  ·cases z
  obtain rfl:Kk.upt d.top=kd:=by injection ek
  have hr1:a1o 1 _:=hr.mono (by decide);refine⟨_,a0d (a0Y (a0g GA hr1 (by rfl) DA.mg DA.fn.kp bA .nil a0k (a0a (a0g GW hr1 (by rfl) DW.mg DW.fn.kp bW .nil a0k (a0a (a0B (pv 0) rfl) a0c)) a0c)))
   (a0f (a0p (a0g GK hr (by rfl) DK.mg DK.fn.kp bK .nil a0k (a0a (pv 1) (a0a (a0B (pv 0) rfl) (a0a (a0B (pv 0) rfl) (a0a (a0I (a0a a0M (a0a (a0B (pv 0) rfl) a0c))) (a0a (a2G (v:=.ref wA) (by rfl) mW rfl) a0c)))))))),?_⟩
  refine⟨_,rfl,x,CC,dx,_,_,rfl,e,L.cl,L.nP,a5H,d.top,rfl,rfl,?_⟩;refine⟨_,rfl,_,rfl,x,CC,dx,_,_,rfl,e,L.cl,L.nT,a5V,_,rfl,x,CC,dx,_,_,rfl,e,L.cl,L.nC,a5x,_,rfl,x,CC,dx,_,_,rfl,e,L.cl,L.nP,a5H,(by show 2≤sizeLine;decide),fun ko hko=>?_⟩;have S:=a0o.upd (o:=.tup [V.str "upto",.int d.top]) hko;have hw:∀H',KdH K H' wA .wh:=fun H'=>⟨qW H',trivial⟩;refine⟨fm,2,d.T,d.c1,cols,k1,ko,wA,.upt d.top,.wh,rfl,hf.same S,by decide,hp.mem_iff.mpr (by simp),hk1.nt (.of S),SqT.of a0b,hw _,ok.hT,(a8l ok hp hk1 hk2).nt (.of S),srt,tab.same S,fun f' H' fr tab' hf'=>q f' H' ((Fr.of S).trans fr) tab' ?_⟩;have N:=(fr.nt (tab.same S));exact⟨_,k2,hf',a7D srt,(hk2.nt (.of S)).nt N,.inr ⟨_,wA,rfl,a6q ok hp,hw _⟩⟩
theorem b3H {f fV fW fC:Addr}{fd fdV fdW fdC:FuncData}(F:Fun K "forth" "Cap.forth" (ca 3) f fd)(L:ClC K CC)(B:Bl mg)(hz:mg "zip"=none)(hmin:mg "min"=none)(DV:Df K mg "values_in" (top 48) fV fdV)(DW:Df K mg "with_values" (top 47) fW fdW)(DC:Df K mg "copied" (top 37) fC fdC):a0w P w K mg base CX0 3 f fd P4 (a6P K PF (MvC CC) a2Z.a a2Z.SA a2Z.SB a2Z.okF a2Z.fw):=by
 have sc:a0j ["self","form","piece","rest","numbers","capped","above"] P4 (a0e (ca 3)):=.k (by decide +kernel);have GV:a0w P w K mg base CX0 1 fV fdV ["piece","table","column"] b2i:=a9f DV.fn;have GW:a0w P w K mg base CX0 2 fW fdW ["piece","table","column","values"] b1Q:=b1i DW.fn B hz DC;have bV:=DV.fn.b3 "piece" "table" "column" (by intros;rfl);have bW:=DW.fn.b4 "piece" "table" "column" "values" (by intros;rfl);have ndA:(["number","self"]:List Str).Nodup:=by decide +kernel
 refine F.ok sc (fun vs H Q E h=>?_) (fun cdv A outer s H vs Q E hr h=>?_)
 ·obtain⟨x,f,p,rv,d,row,z,rs,rfl,_⟩:=h
  rfl
 ·obtain⟨x,fm,p,rv,d,row,z,rs,rfl,⟨dx,t,e⟩,_,hp,fl,_,_,ok,tab,q⟩:=h
  have rok:=a1k.ok ok fl;have hr1:a1o 1 _:=hr.mono (by decide);refine⟨_,a0d (a0r (i:=4) sc.nd rfl (Or.inl rfl) (a0g GV hr1 (by rfl) DV.mg DV.fn.kp bV .nil a0k (a0a (pv 2) (a0a (a0B (pv 0) rfl) (a0a (a0B (pv 0) rfl) a0c)))))
   (a0d (a3h (i:=5) (te:=tCB (fun xs H Q=>∃i j,xs=[.int i,.int j]/\Q (.int (if j<i then j else i)) H) (a1H (a2R 0) (a1H (a8W K (a2R 1) "top") a7V))) (osc:=a0e (ca 3)) (N0:=["self","form","piece","rest","numbers","capped","above"]) (xs:=["number"]) (fr:=[0]) ⟨rfl,by decide +kernel,by decide +kernel,by decide +kernel,(fun j hj=>by
       have e:j=0:=by simpa using hj
       subst e;exact⟨_,rfl,by decide +kernel⟩),by decide +kernel⟩ rfl rfl rfl (a0Q (pv 4))
      (fun s H fp=>a0n (i:=0) ndA rfl (Or.inl rfl)) (fun s H fp=>a0S)
      (fun s H fp=>a0y (a4R rfl) (by rfl) hmin boot_min (a0a (pv 0) (a0a (a0B (pv 1) rfl) a0c))) sc.nd rfl (Or.inl rfl))
   (a0d (a3h (i:=6) (te:=tIf (a9e (tOp (rI0 fun i j=>.bl (decide (j<i))) (a2R 0) (a8W K (a2R 1) "top"))) (a2R 0) (tC .non)) (osc:=a0e (ca 3)) (N0:=["self","form","piece","rest","numbers","capped","above"]) (xs:=["number"]) (fr:=[0]) ⟨rfl,by decide +kernel,by decide +kernel,by decide +kernel,(fun j hj=>by
       have e:j=0:=by simpa using hj
       subst e;exact⟨_,rfl,by decide +kernel⟩),by decide +kernel⟩ rfl rfl rfl (a0Q (pv 4))
      (fun s H fp=>a0n (i:=0) ndA rfl (Or.inl rfl)) (fun s H fp=>a0S)
      (fun s H fp=>a2Y (a0z b0I (pv 0) (a0B (pv 1) rfl) (a0E _)) (pv 0) a1u) sc.nd rfl (Or.inl rfl))
   (a0f (a0p (a0I (a0a (a0g GW hr (by rfl) DW.mg DW.fn.kp bW .nil a0k (a0a (pv 2) (a0a (a0B (pv 0) rfl) (a0a (a0B (pv 0) rfl) (a0a (pv 5) a0c))))) (a0a (pv 6) a0c))))))),?_⟩
  refine⟨_,rfl,_,rfl,x,CC,dx,_,_,rfl,e,L.cl,L.nT,a5V,_,rfl,x,CC,dx,_,_,rfl,e,L.cl,L.nC,a5x,p,d.T,d.c1,row,z.1,rfl,hp,rok,fun l H1 s1 hl=>?_⟩;have hl:=a0t _ _ hl;refine⟨_,rfl,l,rfl,⟨_,SqL.of hl⟩,fun D hD=>?_⟩;have S:=a0o.upd (o:=.lst []) hD;refine a1I a0b ⟨_,V.int z.1,SqL.of (S _ _ hl),rfl⟩ ?_;rintro y' H' ⟨rfl,hx'⟩;cases hx' _ (SqL.of (S _ _ hl));refine⟨_,rfl,_,rfl,x,CC,dx,_,_,rfl,S _ _ (s1 _ _ e),L.cl,L.nP,a5H,z.1,d.top,rfl,a0b,?_⟩;have S2:=S.put (o:=.lst [V.int (if d.top<z.1 then d.top else z.1)]) hD;have eD:=a0b (H:=upd H1 D (.lst [])) (a:=D) (o:=.lst [V.int (if d.top<z.1 then d.top else z.1)]);refine⟨⟨_,SqL.of (S2 _ _ hl),Nat.le_refl _⟩,?_⟩;generalize upd (upd H1 D (.lst [])) D (.lst [V.int (if d.top<z.1 then d.top else z.1)])=H2 at *;refine⟨_,rfl,l,rfl,⟨_,SqL.of (S2 _ _ hl)⟩,fun D3 hD3=>?_⟩;have S3:=a0o.upd (o:=.lst []) hD3;refine a1I a0b ⟨_,V.int z.1,SqL.of (S3 _ _ (S2 _ _ hl)),rfl⟩ ?_;rintro y' H' ⟨rfl,hx'⟩;cases hx' _ (SqL.of (S3 _ _ (S2 _ _ hl)));have rest:∀v:V,(upd H2 D3 (.lst [])) D3=some (.lst [])/\(Itl K l).stop 1 (upd (upd H2 D3 (.lst [])) D3 (.lst [v])):=fun v=>⟨a0b,⟨_,SqL.of ((S3.put hD3) _ _ (S2 _ _ hl)),Nat.le_refl _⟩⟩;have S4:∀v:V,a0o H (upd (upd H2 D3 (.lst [])) D3 (.lst [v])):=fun v=>(s1.trans S2).trans (S3.put hD3);have D4:∀v:V,(upd (upd H2 D3 (.lst [])) D3 (.lst [v])) D=some (.lst [V.int (if d.top<z.1 then d.top else z.1)]):=fun v=>(S3.put hD3) _ _ eD;have E4:∀v:V,(upd (upd H2 D3 (.lst [])) D3 (.lst [v])) D3=some (.lst [v]):=fun v=>a0b;have done:∀(v:V) (o:Option Int),v=oV o->o=(if d.top<z.1 then some z.1 else none)->(b4G (b3M (a1H (a6U b1Q [] E0 (a1H (a2R 2) (a1H (a8W K (a2R 0) "table") (a1H (a8W K (a2R 0) "column") (a1H (a2R 5) a7V))))) (a1H (a2R 6) a7V)))) { nx:=fun _ H'=>Q .non H',rt:=Q } [some (.ref x),some (.ref fm),some (.ref p),some rv,some (.ref l),some (.ref D),some (.ref D3)] (upd (upd H2 D3 (.lst [])) D3 (.lst [v])):=fun v o ev eo=>by
   refine⟨_,rfl,_,rfl,x,CC,dx,_,_,rfl,S4 _ _ _ e,L.cl,L.nT,a5V,_,rfl,x,CC,dx,_,_,rfl,S4 _ _ _ e,L.cl,L.nC,a5x,_,rfl,p,D,d.T,d.c1,row,_,rfl,hp.same (S4 _),rok.le,D4 _,fun p' H5 s5 hp'=>?_⟩;refine⟨_,rfl,(by show 2≤sizeLine;decide),fun t' ht=>?_⟩;have T1:=a0o.upd (o:=.tup [.ref p',.ref D3]) ht;have SS:=(S4 v).trans (s5.trans T1);refine q t' p' (.ref D3) _ _ (.of SS) (tab.same SS) ((hp'.same (a1F T1)).same (a8i (S4 v))) (a1k.set ok fl _) ?_ a0b;show RsA _ (.one (if d.top<z.1 then some z.1 else none)) _;rw[← eo];exact .one (a0J (a1e (s1.trans S2) hD3) ((s5.trans T1) _ _ (by rw[E4,ev])))
  refine⟨_,rfl,_,rfl,x,CC,dx,_,_,rfl,S3 _ _ (S2 _ _ (s1 _ _ e)),L.cl,L.nP,a5H,_,_,rfl,rfl,_,rfl,?_⟩
  by_cases hlt:d.top<z.1
  ·exact a3H (decide_eq_true hlt) ⟨_,rfl,(rest (.int z.1)).1,(rest (.int z.1)).2,done _ (some z.1) rfl (by rw[if_pos hlt])⟩
  ·exact a2s (decide_eq_false hlt) ⟨(rest .non).1,(rest .non).2,done _ none rfl (by rw[if_neg hlt])⟩
abbrev mo (i:Nat):Stmt:=a3p (top 40) i
def a8F:Sp:=fun vs H Q _=>∃x y z r:V,vs=[x,y,z,r]/\Q .non H
theorem a6s {Mv:MvP}{a:Dt->Option Kk}{SA:Dt->Row->Pt->Prop}{ok:Rs->Prop}{g:Dt->Pt->Rs->Rs}(hg:∀d z r,g d z r=.no)(vs:List V)(H:Hp)(Q:VK)(E:XK)(h:a7x K PF Mv a SA ok g vs H Q E):a8F vs H Q E:=by
 obtain⟨x,f,p,rv,d,row,z,rs,rfl,_,_,_,_,_,_,_,tab,q⟩:=h;exact⟨_,_,_,_,rfl,q .non H (.of (a0o.refl _)) tab (by rw[hg];exact .no)⟩
theorem a7y {f:Addr}{fd:FuncData}(F:a6l K "left" "Move.left" (mo 4) f fd):a0w P w K mg base CX0 1 f fd P4 a8F:=by
 have sc:a0j P4 P4 (a0e (mo 4)):=.k (by decide +kernel);refine F.ok sc (fun vs H Q E h=>?_) (fun cdv A outer s H vs Q E hr h=>?_)
 ·obtain⟨x,y,z,r,rfl,_⟩:=h
  rfl
 ·obtain⟨x,y,z,r,rfl,q⟩:=h
  exact⟨_,a0f (a0p a1u),q⟩
theorem a6C {f:Addr}{fd:FuncData}(F:a6l K "right" "Move.right" (mo 5) f fd):a0w P w K mg base CX0 1 f fd P4 a8F:=by
 have sc:a0j P4 P4 (a0e (mo 5)):=.k (by decide +kernel);refine F.ok sc (fun vs H Q E h=>?_) (fun cdv A outer s H vs Q E hr h=>?_)
 ·obtain⟨x,y,z,r,rfl,_⟩:=h
  rfl
 ·obtain⟨x,y,z,r,rfl,q⟩:=h
  exact⟨_,a0f (a0p a1u),q⟩
theorem b3O {f fV fW fC:Addr}{fd fdV fdW fdC:FuncData}(F:Fun K "back" "Cap.back" (ca 4) f fd)(L:ClC K CC)(B:Bl mg)(hz:mg "zip"=none)(DV:Df K mg "values_in" (top 48) fV fdV)(DW:Df K mg "with_values" (top 47) fW fdW)(DC:Df K mg "copied" (top 37) fC fdC):a0w P w K mg base CX0 3 f fd P4 (a6P K PF (MvC CC) a2Z.b a2Z.SB a2Z.SA a2Z.okB a2Z.bw):=by
 have sc:a0j ["self","form","piece","rest","numbers","raised"] P4 (a0e (ca 4)):=.k (by decide +kernel);have GV:a0w P w K mg base CX0 1 fV fdV ["piece","table","column"] b2i:=a9f DV.fn;have GW:a0w P w K mg base CX0 2 fW fdW ["piece","table","column","values"] b1Q:=b1i DW.fn B hz DC;have bV:=DV.fn.b3 "piece" "table" "column" (by intros;rfl);have bW:=DW.fn.b4 "piece" "table" "column" "values" (by intros;rfl);have ndA:(["number","above"]:List Str).Nodup:=by decide +kernel
 refine F.ok sc (fun vs H Q E h=>?_) (fun cdv A outer s H vs Q E hr h=>?_)
 ·obtain⟨x,f,p,rv,d,row,z,rs,rfl,_⟩:=h
  rfl
 ·obtain⟨x,fm,p,rv,d,row,z,rs,rfl,⟨dx,t,e⟩,_,hp,fl,hrs,⟨o,rfl⟩,ok,tab,q⟩:=h
  have rok:=a1k.ok ok fl;cases hrs with
  |@one _ rl hrl=>
  have hr1:a1o 1 _:=hr.mono (by decide);refine⟨_,a0d (a0r (i:=4) sc.nd rfl (Or.inl rfl) (a0g GV hr1 (by rfl) DV.mg DV.fn.kp bV .nil a0k (a0a (pv 2) (a0a (a0B (pv 0) rfl) (a0a (a0B (pv 0) rfl) a0c)))))
   (a0d (a3h (i:=5) (osc:=a0e (ca 4)) (N0:=["self","form","piece","rest","numbers","raised"]) (xs:=["number","above"]) (fr:=[]) ⟨rfl,by decide +kernel,by decide +kernel,by decide +kernel,by decide,by decide +kernel⟩ rfl rfl rfl (a4B (by rfl) hz (a0a (pv 4) (a0a (pv 3) a0c)))
      (fun s H fp=>a2f (K:=K) (n:=2) rfl rfl (a0v (a0n (i:=0) ndA rfl (Or.inl rfl)) (a0v (a0n (i:=1) ndA rfl (Or.inl rfl)) a1g))) (fun s H fp=>a0S)
      (fun s H fp=>a2Y (a0z b0h (pv 1) a1u (a0E _)) (pv 0) (pv 1)) sc.nd rfl (Or.inl rfl))
   (a0f (a0p (a0I (a0a (a0g GW hr (by rfl) DW.mg DW.fn.kp bW .nil a0k (a0a (pv 2) (a0a (a0B (pv 0) rfl) (a0a (a0B (pv 0) rfl) (a0a (pv 5) a0c))))) (a0a a1u a0c)))))),?_⟩
  refine⟨_,rfl,_,rfl,x,CC,dx,_,_,rfl,e,L.cl,L.nT,a5V,_,rfl,x,CC,dx,_,_,rfl,e,L.cl,L.nC,a5x,p,d.T,d.c1,row,z.1,rfl,hp,rok,fun l H1 s1 hl=>?_⟩;have hl:=a0t _ _ hl;have hrl1:=s1 _ _ hrl;refine⟨_,rfl,_,rfl,l,rl,rfl,⟨_,SqL.of hl⟩,⟨_,SqL.of hrl1⟩,fun D hD=>?_⟩;have S:=a0o.upd (o:=.lst []) hD;refine a1I a0b ⟨_,_,_,_,SqL.of (S _ _ hl),SqL.of (S _ _ hrl1),rfl,rfl⟩ ?_;rintro y' H' ⟨u,v,tp,huv,rfl,htp,rfl⟩;obtain⟨e1,e2⟩:=huv _ _ (SqL.of (S _ _ hl)) (SqL.of (S _ _ hrl1));cases e1;cases e2;have T1:=a0o.upd (o:=.tup [V.int z.1,oV o]) htp;refine⟨tp,_,rfl,SqT.of a0b,rfl,_,_,rfl,_,_,rfl,rfl,?_⟩;have eD:=T1 _ _ (a0b (H:=H1) (a:=D) (o:=.lst []));have ST:=S.trans T1;generalize upd (upd H1 D (.lst [])) tp (.tup [V.int z.1,oV o])=H2 at *;have S3:∀v:V,a0o H1 (upd H2 D (.lst [v])):=fun v=>ST.put hD;have stp:∀v:V,(ItY K l rl).stop 1 (upd H2 D (.lst [v])):=fun v=>⟨_,_,SqL.of (S3 v _ _ hl),SqL.of (S3 v _ _ hrl1),Nat.le_refl _⟩;have done:∀i:Int,i=o.getD z.1->(b4G (b3M (a1H (a6U b1Q [] E0 (a1H (a2R 2) (a1H (a8W K (a2R 0) "table") (a1H (a8W K (a2R 0) "column") (a1H (a2R 5) a7V))))) (a1H (tC .non) a7V)))) { nx:=fun _ H'=>Q .non H',rt:=Q } [some (.ref x),some (.ref fm),some (.ref p),some (.ref rl),some (.ref l),some (.ref D)] (upd H2 D (.lst [.int i])):=fun i ei=>by
   have SS:=s1.trans (S3 (.int i));refine⟨_,rfl,_,rfl,x,CC,dx,_,_,rfl,SS _ _ e,L.cl,L.nT,a5V,_,rfl,x,CC,dx,_,_,rfl,SS _ _ e,L.cl,L.nC,a5x,_,rfl,p,D,d.T,d.c1,row,i,rfl,hp.same SS,rok.le,a0b,fun p' H5 s5 hp'=>?_⟩;refine⟨(by show 2≤sizeLine;decide),fun t' ht=>?_⟩;have T6:=a0o.upd (o:=.tup [.ref p',.non]) ht;have S6:=SS.trans (s5.trans T6);refine q t' p' .non _ _ (.of S6) (tab.same S6) ((hp'.same (a1F T6)).same (a8i SS)) ?_ .no a0b;rw[ei];exact a1k.set ok fl _
  cases o with
  |none=>exact⟨_,rfl,rfl,_,rfl,a3H rfl ⟨_,rfl,eD,stp _,done _ rfl⟩⟩
  |some i=>exact⟨_,rfl,rfl,_,rfl,a2s rfl ⟨_,rfl,eD,stp _,done _ rfl⟩⟩
theorem b4P {f fV fA:Addr}{fd fdV fdA:FuncData}(F:a6l K "right" "Cap.right" (ca 5) f fd)(L:ClC K CC)(B:Bl mg)(DV:Df K mg "values_in" (top 48) fV fdV)(DA:Df K mg "at_place" (top 50) fA fdA):a0w P w K mg base CX0 2 f fd P4 (a7x K PF (MvC CC) a2Z.b a2Z.SB a2Z.okR a2Z.ri):=by
 have sc:a0j ["self","form","piece","rest","numbers"] P4 (a0e (ca 5)):=.k (by decide +kernel);have GV:a0w P w K mg base CX0 1 fV fdV ["piece","table","column"] b2i:=a9f DV.fn;have GA:a0w P w K mg base CX0 1 fA fdA ["rest","place","other"] b1u:=a9l DA.fn B;have bV:=DV.fn.b3 "piece" "table" "column" (by intros;rfl);have bA:=DA.fn.b3 "rest" "place" "other" (by intros;rfl);have ndA:(["place","number","self","rest"]:List Str).Nodup:=by decide +kernel
 refine F.ok sc (fun vs H Q E h=>?_) (fun cdv A outer s H vs Q E hr h=>?_)
 ·obtain⟨x,f,p,rv,d,row,z,rs,rfl,_⟩:=h
  rfl
 ·obtain⟨x,fm,p,rv,d,row,z,rs,rfl,⟨dx,t,e⟩,_,hp,fl,hrs,okr,ok,tab,q⟩:=h
  have rok:=a1k.ok ok fl;refine⟨_,a0d (a0r (i:=4) sc.nd rfl (Or.inl rfl) (a0g GV hr (by rfl) DV.mg DV.fn.kp bV .nil a0k (a0a (pv 2) (a0a (a0B (pv 0) rfl) (a0a (a0B (pv 0) rfl) a0c)))))
   (a0f (a0p (a1d (te:=tIf (a9e (tOp rEq (a2R 1) (a8W K (a2R 2) "top"))) (a6U b1u [] E0 (a1H (a2R 3) (a1H (a2R 0) (a1H (tC .non) a7V)))) (tC .non)) (osc:=a0e (ca 5)) (N0:=["self","form","piece","rest","numbers"]) (xs:=["place","number"]) (fr:=[0,3]) ⟨rfl,by decide +kernel,by decide +kernel,by decide +kernel,(fun j hj=>by
       have e:j=0\/j=3:=by simpa using hj
       rcases e with rfl |rfl
       ·exact⟨_,rfl,by decide +kernel⟩
       ·exact⟨_,rfl,by decide +kernel⟩),by decide +kernel⟩ rfl rfl rfl (b0U (by rfl) B.enum (a0a (pv 4) a0c))
      (fun s H fp=>a2f (K:=K) (n:=2) rfl rfl (a0v (a0n (i:=0) ndA rfl (Or.inl rfl)) (a0v (a0n (i:=1) ndA rfl (Or.inl rfl)) a1g))) (fun s H fp=>a0S)
      (fun s H fp=>a2Y (a0z a1R (pv 1) (a0B (pv 2) rfl) (a0E _)) (a0g GA hr (by rfl) DA.mg DA.fn.kp bA .nil a0k (a0a (pv 3) (a0a (pv 0) (a0a a1u a0c)))) a1u)))),?_⟩
  refine⟨_,rfl,_,rfl,x,CC,dx,_,_,rfl,e,L.cl,L.nT,a5V,_,rfl,x,CC,dx,_,_,rfl,e,L.cl,L.nC,a5x,p,d.T,d.c1,row,z.1,rfl,hp,rok,fun l H1 s1 hl=>?_⟩;have hl:=a0t _ _ hl;refine⟨_,rfl,l,rfl,⟨_,SqL.of hl⟩,fun D hD=>?_⟩;have S:=a0o.upd (o:=.lst []) hD;refine a1I a0b ⟨_,_,SqL.of (S _ _ hl),rfl⟩ ?_;rintro y' H' ⟨u,tp,hu,rfl,htp,rfl⟩;cases hu _ (SqL.of (S _ _ hl));have T1:=a0o.upd (o:=.tup [V.int ((0:Nat):Int),V.int z.1]) htp;refine⟨tp,_,rfl,SqT.of a0b,rfl,_,_,rfl,_,_,rfl,rfl,?_⟩;have eD:=T1 _ _ (a0b (H:=H1) (a:=D) (o:=.lst []));have ST:=S.trans T1;generalize upd (upd H1 D (.lst [])) tp (.tup [V.int ((0:Nat):Int),V.int z.1])=H2 at *;have S3:∀v:V,a0o H1 (upd H2 D (.lst [v])):=fun v=>ST.put hD;have S4:∀v:V,a0o H (upd H2 D (.lst [v])):=fun v=>s1.trans (S3 v);have stp:∀v:V,(Ite K l).stop 1 (upd H2 D (.lst [v])):=fun v=>⟨_,SqL.of (S3 v _ _ hl),Nat.le_refl _⟩;have done:∀o:Option Int,o=(if z.1=d.top then rsO rs else none)->H2 D=some (.lst [])/\(Ite K l).stop 1 (upd H2 D (.lst [oV o]))/\Q (.ref D) (upd H2 D (.lst [oV o])):=fun o eo=>⟨eD,stp _,q (.ref D) _ (.of (S4 _)) (tab.same (S4 _)) (by
   show RsA _ (.one (if z.1=d.top then rsO rs else none)) _;rw[← eo];exact .one (a0J (a1e s1 hD) a0b))⟩
  have S2:=(s1.trans S).trans T1;refine⟨_,rfl,_,rfl,x,CC,dx,_,_,rfl,(s1.trans ST) _ _ e,L.cl,L.nP,a5H,rfl,_,rfl,?_⟩
  by_cases hlt:z.1=d.top
  ·refine a3H (decide_eq_true (by rw[hlt])) ?_
   refine⟨_,rfl,_,rfl,rv,0,.non,rfl,?_⟩;cases hrs with
   |no=>exact .inl ⟨rfl,done none (by rw[if_pos hlt];rfl)⟩
   |@one o rl hrl=>exact .inr ⟨rl,_,oV o,rfl,(s1.trans ST) _ _ hrl,rfl,done o (by rw[if_pos hlt];rfl)⟩
   |two _ _ _=>rcases okr with okr |⟨o,okr⟩<;>cases okr
  ·exact a2s (decide_eq_false fun e=>hlt (by injection e)) (done none (by rw[if_neg hlt]))
end
def a2Q:Sem where
 a _:=none
 b _:=some .wh
 SA:=a7f
 SB:=a1k
 fw _ z r:=(((rsO r).getD 0,z.2),.no)
 bw _ z _:=((0,z.2),.one (some z.1))
 lf d _ r:=.one (some ((rsO r).getD d.top))
 ri _ _ _:=.no
 okF r:=∃i,r=.one (some i)
 okB _:=True
 okL r:=r=.no\/∃i,r=.one (some i)
 okR _:=True
theorem a4G:a2Q.Ok:=⟨fun _ _ _ _=>⟨_,rfl⟩,fun _ _ _ _=>trivial,.inl rfl,trivial⟩
abbrev pu (i:Nat):Stmt:=a3p (top 41) i
structure ClP (K:Fg0) (C:Addr):Prop where
 cl:Cls K C
 nT:a1D K C "table"
 nC:a1D K C "column"
 nK:a1D K C "kind"
 nV:a1D K C "value"
 nO:a1D K C "told"
def pfs (T C:Str)(k v t:V):List (Str×V):=a1y "told" t (a1y "value" v (a1y "kind" k (a1y "column" (.str C) (a1y "table" (.str T) []))))
section
variable {T C:Str}{k v t:V}
theorem a4y:(pfs T C k v t).lookup ("table":Str)=some (V.str T):=by unfold pfs;rw[a0m,if_neg (by decide),a0m,if_neg (by decide),a0m,if_neg (by decide),a0m,if_neg (by decide),a0m,if_pos rfl]
theorem a5n:(pfs T C k v t).lookup ("column":Str)=some (V.str C):=by unfold pfs;rw[a0m,if_neg (by decide),a0m,if_neg (by decide),a0m,if_neg (by decide),a0m,if_pos rfl]
theorem a7s:(pfs T C k v t).lookup ("kind":Str)=some k:=by unfold pfs;rw[a0m,if_neg (by decide),a0m,if_neg (by decide),a0m,if_pos rfl]
theorem b3a:(pfs T C k v t).lookup ("value":Str)=some v:=by unfold pfs;rw[a0m,if_neg (by decide),a0m,if_pos rfl]
theorem a7w {m:Str}(h:m="after"\/m="before"\/m="forth"\/m="back"\/m="left"\/m="right"\/m="is_sound"):(pfs T C k v t).lookup m=none:=by
 unfold pfs;rcases h with rfl |rfl |rfl |rfl |rfl |rfl |rfl<;>(rw[a0m,if_neg (by decide),a0m,if_neg (by decide),a0m,if_neg (by decide),a0m,if_neg (by decide),a0m,if_neg (by decide)];rfl)
end
def PuA (K:Fg0)(CP:Addr):MvP:=fun d H x=>∃dx k t,H x=some (.ins CP dx (pfs d.T d.c1 (.ref k) (.int d.top) t))/\KdH K H k .wh
theorem PuA.nt {K:Fg0}{CP:Addr}{d:Dt}{H H':Hp}{x:Addr}(h:PuA K CP d H x)(s:Ntb H H'):PuA K CP d H' x:=let ⟨dx,k,t,e,hk⟩:=h;⟨dx,k,t,s _ _ e nofun,hk.nt s⟩
def b5G (CP:Addr):Sp:=fun vs H Q _=>∃(x dx ka:Addr) (T C:Str) (n:Int),vs=[.ref x,.str T,.str C,.ref ka,.int n]/\H x=some (.ins CP dx [])/\H ka=some (.tup [.str "whole"])/\∀t H',(∀b o,b≠x->H b=some o->H' b=some o)->H' x=some (.ins CP dx (pfs T C (.ref ka) (.int n) t))->Q .non H'
def a9a (K:Fg0)(CP:Addr):Sp:=fun vs H Q _=>∃(x:Addr) (d:Dt) (v:V),vs=[.ref x,v]/\PuA K CP d H x/\d.Ok/\∀H',a0o H H'->Q (.bl true) H'
theorem a1k.drop {d:Dt}(h:d.Ok){row:Row}{z:Pt}(f:a1k d row z):a8h row d.c1=[(d.c2,z.2)]:=by
 rcases f with rfl |rfl<;>(unfold a8h;simp[h.ne.symm])
theorem b1n {cols:Cl}{C:Str}:a3K (dC cols) (.inr C)=dC (cols.filter fun c=>decide (c.1≠C)):=by
 unfold a3K dC;rw[List.filter_map]
 congr 1
 refine List.filter_congr fun c _=>?_;show decide ((Sum.inr c.1:Key)≠.inr C)=decide (c.1≠C);rw[Bool.eq_iff_iff,decide_eq_true_iff,decide_eq_true_iff];exact⟨fun h e=>h (by rw[e]),fun h e=>h (by injection e)⟩
section
variable {P:Program}{w:World}{K:Fg0}{mg:Str->Option Value}{base:Heap}{PF CP:Addr}
theorem b4s {f fO:Addr}{fd fdO:FuncData}{tk:Tok}(F:Fun K "__init__" "Put.__init__" (pu 0) f fd)(L:ClP K CP)(mO:mg "owned"=some (.ref fO))(kO:PySem.W.keepIn K (.ref fO)=true)(GO:a0w P w K mg base CX0 4 fO fdO ["thing","depth"] (b3x 3))(bO1:a1s K fdO ["thing","depth"] [.int 20 tk]):a0w P w K mg base CX0 5 f fd ["self","table","column","kind","value"] (b5G CP):=by
 have sc:a0j ["self","table","column","kind","value"] ["self","table","column","kind","value"] (a0e (pu 0)):=.k (by decide +kernel);refine F.ok sc (fun vs H Q E h=>?_) (fun cdv A outer s H vs Q E hr h=>?_)
 ·obtain⟨x,dx,ka,T,C,n,rfl,_⟩:=h
  rfl
 ·obtain⟨x,dx,ka,T,C,n,rfl,e,hk,q⟩:=h
  refine⟨_,a0d (a2g (pv 0) (pv 1) rfl) (a0d (a2g (pv 0) (pv 2) rfl) (a0d (a2g (pv 0) (pv 3) rfl) (a0d (a2g (pv 0) (pv 4) rfl)
   (a0f (a2g (pv 0) (a0g GO hr (by rfl) mO kO bO1 (show a1m [V.int 20] [Value.int 20 tk] from .cons ⟨tk,rfl⟩ .nil) a0k (a0a (a0I (a0a a0M (a0a (pv 1) (a0a (pv 2) (a0a (pv 3) (a0a (pv 4) a0c)))))) a0c)) rfl))))),?_⟩
  have l1:=a1h "table" (.str T) [];have l2:=a1h "column" (.str C) (a1y "table" (.str T) []);have l3:=a1h "kind" (.ref ka) (a1y "column" (.str C) (a1y "table" (.str T) []));have l4:=a1h "value" (.int n) (a1y "kind" (.ref ka) (a1y "column" (.str C) (a1y "table" (.str T) [])));rw[List.length_nil] at l1;refine⟨_,rfl,_,rfl,x,CP,dx,_,rfl,e,L.cl,L.nT,(by decide),?_⟩;refine⟨_,rfl,_,rfl,x,CP,dx,_,rfl,a0b,L.cl,L.nC,(by omega),?_⟩;rw[a2w];refine⟨_,rfl,_,rfl,x,CP,dx,_,rfl,a0b,L.cl,L.nK,(by omega),?_⟩;rw[a2w];refine⟨_,rfl,_,rfl,x,CP,dx,_,rfl,a0b,L.cl,L.nV,(by omega),?_⟩;rw[a2w];have nk:ka≠x:=fun z=>by rw[z,e] at hk;cases hk
  have keep:∀b o,b≠x->H b=some o->upd H x (.ins CP dx (a1y "value" (.int n) (a1y "kind" (.ref ka) (a1y "column" (.str C) (a1y "table" (.str T) []))))) b=some o:=fun b o nb eb=>(a0h nb).trans eb;have ex:=a0b (H:=H) (a:=x) (o:=.ins CP dx (a1y "value" (.int n) (a1y "kind" (.ref ka) (a1y "column" (.str C) (a1y "table" (.str T) [])))));generalize upd H x (.ins CP dx (a1y "value" (.int n) (a1y "kind" (.ref ka) (a1y "column" (.str C) (a1y "table" (.str T) [])))))=H1 at *;refine⟨_,rfl,_,rfl,_,rfl,_,rfl,(show 5≤sizeLine by decide),fun tp htp=>?_⟩;have T1:=a0o.upd (o:=.tup [.str "put",.str T,.str C,.ref ka,.int n]) htp;have hka:(upd H1 tp (.tup [.str "put",.str T,.str C,.ref ka,.int n])) ka=some (.tup [.str "whole"]):=T1 _ _ (keep _ _ nk hk);refine⟨_,.tup [.fl (.str "put"),.fl (.str T),.fl (.str C),.tup [.fl (.str "whole")],.fl (.int n)],20,rfl,(by decide),DwL.tup (n:=2) (.inl a0b) (.cons (.fl rfl) (.cons (.fl rfl) (.cons (.fl rfl) (.cons (DwL.tup (n:=1) (.inl hka) (.cons (.fl rfl) .nil)) (.cons (.fl rfl) .nil))))),.tup (show 5≤1000 by decide) (fun d hd=>?_),fun v' H2 s2 _=>?_⟩
  ·rcases (show d=_\/d=_\/d=_\/d=_\/d=_ by simpa using hd) with rfl |rfl |rfl |rfl |rfl
   ·exact .fl
   ·exact .fl
   ·exact .fl
   ·exact a8j (vs:=[.str "whole"]) (by decide)
   ·exact .fl
  refine⟨_,rfl,x,CP,dx,_,rfl,s2 _ _ (T1 _ _ ex),L.cl,L.nO,(by omega),?_⟩;exact q v' _ (fun b o nb eb=>(a0h nb).trans (s2 _ _ (T1 _ _ (keep b o nb eb)))) a0b
theorem b3c {f fN fK fF fP fW:Addr}{fd fdN fdK fdF fdP fdW:FuncData}(F:Fun K "is_sound" "Put.is_sound" (pu 3) f fd)(L:ClP K CP)(B:Bl mg)(DN:Df K mg "is_name" (top 13) fN fdN)(GN:a0w P w K mg base CX0 1 fN fdN ["thing"] a3Q)(DK:Df K mg "is_kind" (top 17) fK fdK)(GK:a0w P w K mg base CX0 4 fK fdK ["thing"] (b1V K))
  (DF:Df K mg "fits" (top 18) fF fdF) (DP:Df K mg "fits_plain" (top 20) fP fdP) (DW:Df K mg "is_whole" (top 12) fW fdW):a0w P w K mg base CX0 5 f fd ["self","size"] (a9a K CP):=by
 have sc:a0j ["self","size"] ["self","size"] (a0e (pu 3)):=.k (by decide +kernel);have GF:a0w P w K mg base CX0 3 fF fdF ["kind","value","size"] (a8t K):=a8E DF.fn B DP DW;have bN:=DN.fn.b1 "thing" (by intros;rfl);have bK:=DK.fn.b1 "thing" (by intros;rfl);have bF:=DF.fn.b3 "kind" "value" "size" (by intros;rfl);refine F.ok sc (fun vs H Q E h=>?_) (fun cdv A outer s H vs Q E hr h=>?_)
 ·obtain⟨x,d,v,rfl,_⟩:=h
  rfl
 ·obtain⟨x,d,v,rfl,⟨dx,k,t,e,hk⟩,ok,q⟩:=h
  have hr1:a1o 1 _:=hr.mono (by decide);have hr3:a1o 3 _:=hr.mono (by decide);refine⟨_,a0d (a0R (PW.pt (a5R (a1G (a1r (a0g GN hr1 (by rfl) DN.mg DN.fn.kp bN .nil a0k (a0a (a0B (pv 0) rfl) a0c)))) (a5R (a1G (a1r (a0g GK hr (by rfl) DK.mg DK.fn.kp bK .nil a0k (a0a (a0B (pv 0) rfl) a0c))))
    (a3L (a0z a1S (a0F a0H (a0B (pv 0) rfl) a0i (fun _ _=>rfl)) (a0I (a0a a0M (a0a a0M a0c))) (by with_unfolding_all rfl)))))) a0q a0u)
   (a0f (a0p (a0g GF hr3 (by rfl) DF.mg DF.fn.kp bF .nil a0k (a0a (a0B (pv 0) rfl) (a0a (a0B (pv 0) rfl) (a0a (pv 1) a0c)))))),?_⟩
  refine⟨_,rfl,x,CP,dx,_,_,rfl,e,L.cl,L.nC,a5n,d.c1,rfl,ok.h1,fun H1 s1=>⟨_,rfl,a2e ?_⟩⟩;refine⟨_,rfl,x,CP,dx,_,_,rfl,s1 _ _ e,L.cl,L.nK,a7s,k,_,rfl,hk.nt (.of s1),fun H2 s2=>⟨_,rfl,a2e ?_⟩⟩;have S2:=s1.trans s2;refine⟨_,rfl,x,CP,dx,_,_,rfl,S2 _ _ e,L.cl,L.nK,a7s,k,_,0,.str "whole",rfl,rfl,S2.seqT hk.1,rfl,(by show 2≤sizeLine;decide),fun p hp=>?_⟩;have T:=a0o.upd (o:=.tup [V.str "key",.str "once"]) hp;have S3:=S2.trans T;refine⟨p,_,rfl,.inr (SqT.of a0b),rfl,rfl,_,rfl,a2e ?_⟩;exact⟨_,rfl,x,CP,dx,_,_,rfl,S3 _ _ e,L.cl,L.nK,a7s,_,rfl,x,CP,dx,_,_,rfl,S3 _ _ e,L.cl,L.nV,b3a,_,rfl,k,d.top,v,.wh,rfl,hk.nt (.of S3),trivial,fun H' s'=>q H' (S3.trans s')⟩
theorem b4E {f fS fI fA fW:Addr}{fd fdS fdI fdA fdW:FuncData}(F:Fun K "before" "Put.before" (pu 2) f fd)(L:ClP K CP)(MS:a7l K CP "is_sound" fS)(GS:a0w P w K mg base CX0 5 fS fdS ["self","size"] (a9a K CP))(bS:a1s K fdS ["self","size"] [])(DI:Df K mg "columns_in" (top 44) fI fdI)(GI:a0w P w K mg base CX0 3 fI fdI ["form","table"] a1K)(DA:Df K mg "ask_fit" (top 43) fA fdA)
  (DW:Df K mg "with_columns" (top 33) fW fdW) (GW:a0w P w K mg base CX0 7 fW fdW ["form","table","columns"] (a3g K PF)):a0w P w K mg base CX0 8 f fd P2 (a8U K PF (PuA K CP) a2Q.b a2Q.a):=by
 have sc:a0j ["self","form","columns"] P2 (a0e (pu 2)):=.k (by decide +kernel);have GA:a0w P w K mg base CX0 1 fA fdA ["fine"] a5U:=a3X DA.fn;have bI:=DI.fn.b2 "form" "table" (by intros;rfl);have bA:=DA.fn.b1 "fine" (by intros;rfl);have bW:=DW.fn.b3 "form" "table" "columns" (by intros;rfl);refine F.ok sc (fun vs H Q E h=>?_) (fun cdv A outer s H vs Q E hr h=>?_)
 ·obtain⟨x,f,d,rfl,_⟩:=h
  rfl
 ·obtain⟨x,fm,d,rfl,pu,⟨cols,k2,hf,srt,hk2,hc⟩,ok,tab,q⟩:=h
  rcases hc with ⟨z,_⟩ |⟨kd,k1,ek,hpm,hk1⟩
  ·cases z
  obtain rfl:Kk.wh=kd:=by injection ek
  obtain⟨dx,k,t,e,hk⟩:=id pu;have hr1:a1o 1 _:=hr.mono (by decide);have hr3:a1o 3 _:=hr.mono (by decide);have hu:=a2S hr;refine⟨_,a0d (a0r (i:=2) sc.nd rfl (Or.inl rfl) (a0g GI hr3 (by rfl) DI.mg DI.fn.kp bI .nil a0k (a0a (pv 1) (a0a (a0B (pv 0) rfl) a0c))))
   (a0d (a0Y (a0g GA hr1 (by rfl) DA.mg DA.fn.kp bA .nil a0k (a0a (a3U (a0A (pv 0) L.cl MS GS (hr.mono (by decide)) bS .nil a0k (a0a (a0F a0H (pv 1) a0i (fun _ _=>rfl)) a0c)) (a3x (a1N (a7G (u20 hr)) (a6o hu (pv 2) (a0B (pv 0) rfl) ⟨rfl,rfl,rfl,rfl⟩) (a0B (pv 0) rfl) (a0E _)))) a0c)))
   (a0d (a0Y (a6A (pv 2) (a0B (pv 0) rfl) ⟨rfl,rfl,rfl,rfl⟩))
   (a0f (a0p (a0g GW hr (by rfl) DW.mg DW.fn.kp bW .nil a0k (a0a (pv 1) (a0a (a0B (pv 0) rfl) (a0a (pv 2) a0c)))))))),?_⟩
  have cs:=a8l ok hpm hk1 hk2;have hm:(d.c1,k1)∈cols:=hpm.mem_iff.mpr (by simp);refine⟨_,rfl,_,rfl,x,CP,dx,_,_,rfl,e,L.cl,L.nT,a4y,fm,2,d.T,_,rfl,hf,cs.nd,cs.le,fun cd H1 s1 hd=>?_⟩;have hd1:=a0t _ _ hd;obtain⟨tt,en,h1,_⟩:=id hf;refine⟨_,rfl,x,dx,_,rfl,s1 _ _ e,a7w (by simp),_,rfl,fm,_,0,_,rfl,rfl,SqT.of (s1 _ _ h1),rfl,x,d,_,rfl,pu.nt (.of s1),ok,fun H2 s2=>?_⟩;have S2:=s1.trans s2;have hd2:=s2 _ _ hd1;refine⟨_,rfl,a9p ⟨_,rfl,cd,rfl,.inl ⟨_,.inl hd2⟩,_,rfl,x,CP,dx,_,_,rfl,S2 _ _ e,L.cl,L.nC,a5n,some (.ref k1),.inl ⟨_,.inr d.c1,.inl hd2,rfl,(a5b cs.nd hm).symm⟩,_,rfl,x,CP,dx,_,_,rfl,S2 _ _ e,L.cl,L.nK,a7s,1,k1,k,rfl,rfl,a8Z (hk1.nt (.of S2)) (hk.nt (.of S2)),(by decide),rfl,?_⟩⟩;refine⟨_,rfl,cd,rfl,.inl ⟨_,.inl hd2⟩,_,rfl,x,CP,dx,_,_,rfl,S2 _ _ e,L.cl,L.nC,a5n,_,.inr d.c1,.ref k1,hd2,rfl,a5b cs.nd hm,?_⟩;rw[b1n];have ef:cols.filter (fun c=>decide (c.1≠d.c1))=[(d.c2,k2)]:=by
   refine List.perm_singleton.mp ((hpm.filter _).trans ?_);simp[ok.ne.symm]
  rw[ef];have SP:=S2.put (p:=cd) (o:=.dK (dC [(d.c2,k2)])) (a0T hd);have cs':a7m K (upd H2 cd (.dK (dC [(d.c2,k2)]))) [(d.c2,k2)]:=⟨by simp,(by show 1≤12;decide),fun c hc=>by
   obtain rfl:c=(d.c2,k2):=by simpa using hc
   exact⟨ok.h2,.wh,hk2.nt (.of SP)⟩⟩
  exact⟨_,rfl,_,rfl,x,CP,dx,_,_,rfl,SP _ _ e,L.cl,L.nT,a4y,_,rfl,fm,cd,2,d.T,cols,[(d.c2,k2)],rfl,hf.same SP,cs.nd,cs.le,by decide,a0b,ok.hT,cs',tab.same SP,fun f' cols2 H' fr tab' hp2 hs2 hf2=>q f' H' ((Fr.of SP).trans fr) tab' ⟨cols2,k2,hf2,hs2,(hk2.nt (.of SP)).nt (fr.nt (tab.same SP)),.inl ⟨rfl,List.perm_singleton.mp hp2⟩⟩⟩
theorem b5g {f fW fC fO fV:Addr}{fd fdW fdC fdO fdV:FuncData}(F:Fun K "back" "Put.back" (pu 5) f fd)(L:ClP K CP)(B:Bl mg)(DW:Df K mg "with_rows" (top 46) fW fdW)(DC:Df K mg "copied" (top 37) fC fdC)(DO:Df K mg "without_column" (top 49) fO fdO)(DV:Df K mg "values_in" (top 48) fV fdV):a0w P w K mg base CX0 3 f fd P4 (a6P K PF (PuA K CP) a2Q.b a2Q.SB a2Q.SA a2Q.okB a2Q.bw):=by
 have sc:a0j ["self","form","piece","rest","rows"] P4 (a0e (pu 5)):=.k (by decide +kernel);have GW:a0w P w K mg base CX0 2 fW fdW ["piece","table","rows"] b5v:=b4z DW.fn B DC;have GO:a0w P w K mg base CX0 1 fO fdO ["row","column"] b5c:=b4a DO.fn B;have GV:a0w P w K mg base CX0 1 fV fdV ["piece","table","column"] b2i:=a9f DV.fn;have bW:=DW.fn.b3 "piece" "table" "rows" (by intros;rfl);have bO:=DO.fn.b2 "row" "column" (by intros;rfl);have bV:=DV.fn.b3 "piece" "table" "column" (by intros;rfl);have ndA:(["row","self"]:List Str).Nodup:=by decide +kernel
 refine F.ok sc (fun vs H Q E h=>?_) (fun cdv A outer s H vs Q E hr h=>?_)
 ·obtain⟨x,f,p,rv,d,row,z,rs,rfl,_⟩:=h
  rfl
 ·obtain⟨x,fm,p,rv,d,row,z,rs,rfl,⟨dx,k,t,e,hk⟩,_,hp,fl,_,_,ok,tab,q⟩:=h
  have rok:=a1k.ok ok fl;obtain⟨l,rr,p1,p2,p3⟩:=id hp;have hr1:a1o 1 _:=hr.mono (by decide);have hu:=a2S hr;refine⟨_,a0d (a3h (i:=4) (te:=a6U b5c [] E0 (a1H (a2R 0) (a1H (a8W K (a2R 1) "column") a7V))) (osc:=a0e (pu 5)) (N0:=["self","form","piece","rest","rows"]) (xs:=["row"]) (fr:=[0]) ⟨rfl,by decide +kernel,by decide +kernel,by decide +kernel,(fun j hj=>by
       have e:j=0:=by simpa using hj
       subst e;exact⟨_,rfl,by decide +kernel⟩),by decide +kernel⟩ rfl rfl rfl (a0Q (a2k hu (pv 2) (a0B (pv 0) rfl) (fun _ _=>rfl)))
      (fun s H fp=>a0n (i:=0) ndA rfl (Or.inl rfl)) (fun s H fp=>a0S)
      (fun s H fp=>a0g GO hr1 (by rfl) DO.mg DO.fn.kp bO .nil a0k (a0a (pv 0) (a0a (a0B (pv 1) rfl) a0c))) sc.nd rfl (Or.inl rfl))
   (a0f (a0p (a0I (a0a (a0g GW hr (by rfl) DW.mg DW.fn.kp bW .nil a0k (a0a (pv 2) (a0a (a0B (pv 0) rfl) (a0a (pv 4) a0c)))) (a0a (a0g GV hr1 (by rfl) DV.mg DV.fn.kp bV .nil a0k (a0a (pv 2) (a0a (a0B (pv 0) rfl) (a0a (a0B (pv 0) rfl) a0c)))) a0c))))),?_⟩
  refine⟨_,rfl,_,rfl,x,CP,dx,_,_,rfl,e,L.cl,L.nT,a4y,p,.ref l,rfl,.inl ⟨_,.inr d.T,.inl p1,rfl,a7K.symm⟩,l,rfl,⟨_,SqL.of p2⟩,fun D hD=>?_⟩;have S:=a0o.upd (o:=.lst []) hD;refine a1I a0b ⟨_,V.ref rr,SqL.of (S _ _ p2),rfl⟩ ?_;rintro y' H' ⟨rfl,hx'⟩;cases hx' _ (SqL.of (S _ _ p2));refine⟨_,rfl,_,rfl,x,CP,dx,_,_,rfl,S _ _ e,L.cl,L.nC,a5n,rr,row,d.c1,z.1,rfl,S _ _ p3,rok,fun r' H1 s1 hr'=>?_⟩;rw[a1k.drop ok fl] at hr';have hDn:=s1 D _ a0b;have S1:=(S.trans s1).put (p:=D) (o:=.lst [V.ref r']) hD;have er:cut H (upd H1 D (.lst [V.ref r'])) r'=some (.dK (rK [(d.c2,z.2)])):=a0J (a1e S (a0T hr')) (by rw[a0h (fun z=>by have:=a0T hr';rw[z,a0b] at this;cases this)];exact a0t _ _ hr');refine⟨hDn,⟨_,SqL.of (S1 _ _ p2),Nat.le_refl _⟩,?_⟩;have eD:cut H (upd H1 D (.lst [V.ref r'])) D=some (.lst [V.ref r']):=a0J hD a0b;generalize upd H1 D (.lst [V.ref r'])=H2 at *;refine⟨_,rfl,_,rfl,x,CP,dx,_,_,rfl,S1 _ _ e,L.cl,L.nT,a4y,_,rfl,H,p,D,r',d.T,row,[(d.c2,z.2)],rfl,S1,hp.same S1,eD,er,fun p' H3 s3 hp'=>?_⟩;have S3:=S1.trans s3;refine⟨_,rfl,_,rfl,x,CP,dx,_,_,rfl,S3 _ _ e,L.cl,L.nT,a4y,_,rfl,x,CP,dx,_,_,rfl,S3 _ _ e,L.cl,L.nC,a5n,p,d.T,d.c1,row,z.1,rfl,hp.same S3,rok,fun vl H4 s4 hvl=>⟨(by show 2≤sizeLine;decide),fun t' ht=>?_⟩⟩;have T1:=a0o.upd (o:=.tup [.ref p',.ref vl]) ht;have S5:=S3.trans (s4.trans T1);exact q t' p' (.ref vl) _ _ (.of S5) (tab.same S5) (hp'.same (a1F (s4.trans T1))) ⟨rfl,rfl⟩ (.one (a0J (a1e S3 (a0T hvl)) (T1 _ _ (a0t _ _ hvl)))) a0b
theorem b5a {f fS fI fA fW:Addr}{fd fdS fdI fdA fdW:FuncData}(F:Fun K "after" "Put.after" (pu 1) f fd)(L:ClP K CP)(MS:a7l K CP "is_sound" fS)(GS:a0w P w K mg base CX0 5 fS fdS ["self","size"] (a9a K CP))(bS:a1s K fdS ["self","size"] [])(DI:Df K mg "columns_in" (top 44) fI fdI)(GI:a0w P w K mg base CX0 3 fI fdI ["form","table"] a1K)(DA:Df K mg "ask_fit" (top 43) fA fdA)
  (DW:Df K mg "with_columns" (top 33) fW fdW) (GW:a0w P w K mg base CX0 7 fW fdW ["form","table","columns"] (a3g K PF)):a0w P w K mg base CX0 8 f fd P2 (a8U K PF (PuA K CP) a2Q.a a2Q.b):=by
 have sc:a0j ["self","form","columns"] P2 (a0e (pu 1)):=.k (by decide +kernel);have GA:a0w P w K mg base CX0 1 fA fdA ["fine"] a5U:=a3X DA.fn;have bI:=DI.fn.b2 "form" "table" (by intros;rfl);have bA:=DA.fn.b1 "fine" (by intros;rfl);have bW:=DW.fn.b3 "form" "table" "columns" (by intros;rfl);refine F.ok sc (fun vs H Q E h=>?_) (fun cdv A outer s H vs Q E hr h=>?_)
 ·obtain⟨x,f,d,rfl,_⟩:=h
  rfl
 ·obtain⟨x,fm,d,rfl,pu,⟨cols,k2,hf,srt,hk2,hc⟩,ok,tab,q⟩:=h
  obtain rfl:cols=[(d.c2,k2)]:=by
   rcases hc with ⟨_,z⟩ |⟨kd,k1,ek,_⟩
   ·exact z
   ·cases ek
  obtain⟨dx,k,t,e,hk⟩:=id pu;have hr1:a1o 1 _:=hr.mono (by decide);have hr3:a1o 3 _:=hr.mono (by decide);have hu:=a2S hr;refine⟨_,a0d (a0r (i:=2) sc.nd rfl (Or.inl rfl) (a0g GI hr3 (by rfl) DI.mg DI.fn.kp bI .nil a0k (a0a (pv 1) (a0a (a0B (pv 0) rfl) a0c))))
   (a0d (a0Y (a0g GA hr1 (by rfl) DA.mg DA.fn.kp bA .nil a0k (a0a (a3U (a0A (pv 0) L.cl MS GS (hr.mono (by decide)) bS .nil a0k (a0a (a0F a0H (pv 1) a0i (fun _ _=>rfl)) a0c)) (a3x (b2z (a8D hu (a0B (pv 0) rfl) (pv 2))))) a0c)))
   (a0d (a3f hu (pv 2) (a0B (pv 0) rfl) (a0B (pv 0) rfl) rfl)
   (a0f (a0p (a0g GW hr (by rfl) DW.mg DW.fn.kp bW .nil a0k (a0a (pv 1) (a0a (a0B (pv 0) rfl) (a0a (pv 2) a0c)))))))),?_⟩
  have nd1:(([(d.c2,k2)]:Cl).map (·.1)).Nodup:=by simp
  refine⟨_,rfl,_,rfl,x,CP,dx,_,_,rfl,e,L.cl,L.nT,a4y,fm,2,d.T,_,rfl,hf,nd1,(by show 1≤12;decide),fun cd H1 s1 hd=>?_⟩;have hd1:=a0t _ _ hd;obtain⟨tt,en,h1,_⟩:=id hf;refine⟨_,rfl,x,dx,_,rfl,s1 _ _ e,a7w (by simp),_,rfl,fm,_,0,_,rfl,rfl,SqT.of (s1 _ _ h1),rfl,x,d,_,rfl,pu.nt (.of s1),ok,fun H2 s2=>?_⟩;have S2:=s1.trans s2;have hd2:=s2 _ _ hd1;have hv:a3d (dC [(d.c2,k2)]) (.inr d.c1)=none:=by unfold a3d dC;simp[ok.ne.symm]
  refine⟨_,rfl,a9p ⟨_,rfl,x,CP,dx,_,_,rfl,S2 _ _ e,L.cl,L.nC,a5n,_,rfl,cd,none,rfl,.inl ⟨_,.inr d.c1,.inl hd2,rfl,hv.symm⟩,rfl,?_⟩⟩;refine⟨_,rfl,x,CP,dx,_,_,rfl,S2 _ _ e,L.cl,L.nK,a7s,_,rfl,_,rfl,x,CP,dx,_,_,rfl,S2 _ _ e,L.cl,L.nC,a5n,cd,_,rfl,a9x.k (k:=.inr d.c1) hd2 (by show 1<sizeLine;decide),?_⟩;have ep:a2M (dC [(d.c2,k2)]) (.inr d.c1) (.ref k)=dC [(d.c2,k2),(d.c1,k)]:=by
   unfold a2M dC;rw[if_neg (by simp[ok.ne.symm])]
   rfl
  rw[ep];have SP:=S2.put (p:=cd) (o:=.dK (dC [(d.c2,k2),(d.c1,k)])) (a0T hd);have hsw:([(d.c2,k2),(d.c1,k)]:Cl).Perm [(d.c1,k),(d.c2,k2)]:=List.Perm.swap _ _ _;have cs':=a8l (K:=K) ok hsw (hk.nt (.of SP)) (hk2.nt (.of SP));exact⟨_,rfl,_,rfl,x,CP,dx,_,_,rfl,SP _ _ e,L.cl,L.nT,a4y,_,rfl,fm,cd,2,d.T,_,[(d.c2,k2),(d.c1,k)],rfl,hf.same SP,nd1,(by show 1≤12;decide),by decide,a0b,ok.hT,cs',tab.same SP,fun f' cols2 H' fr tab' hp2 hs2 hf2=>q f' H' ((Fr.of SP).trans fr) tab' ⟨cols2,k2,hf2,hs2,(hk2.nt (.of SP)).nt (fr.nt (tab.same SP)),.inr ⟨_,k,rfl,hp2.trans hsw,(hk.nt (.of SP)).nt (fr.nt (tab.same SP))⟩⟩⟩
theorem b4K {f fW fC:Addr}{fd fdW fdC:FuncData}(F:Fun K "forth" "Put.forth" (pu 4) f fd)(L:ClP K CP)(B:Bl mg)(hz:mg "zip"=none)(DW:Df K mg "with_values" (top 47) fW fdW)(DC:Df K mg "copied" (top 37) fC fdC):a0w P w K mg base CX0 3 f fd P4 (a6P K PF (PuA K CP) a2Q.a a2Q.SA a2Q.SB a2Q.okF a2Q.fw):=by
 have sc:a0j P4 P4 (a0e (pu 4)):=.k (by decide +kernel);have GW:a0w P w K mg base CX0 2 fW fdW ["piece","table","column","values"] b1Q:=b1i DW.fn B hz DC;have bW:=DW.fn.b4 "piece" "table" "column" "values" (by intros;rfl);refine F.ok sc (fun vs H Q E h=>?_) (fun cdv A outer s H vs Q E hr h=>?_)
 ·obtain⟨x,f,p,rv,d,row,z,rs,rfl,_⟩:=h
  rfl
 ·obtain⟨x,fm,p,rv,d,row,z,rs,rfl,⟨dx,k,t,e,hk⟩,_,hp,⟨rfl,_⟩,hrs,⟨i,rfl⟩,ok,tab,q⟩:=h
  cases hrs with
  |@one _ rl hrl=>
  refine⟨_,a0f (a0p (a0I (a0a (a0g GW hr (by rfl) DW.mg DW.fn.kp bW .nil a0k (a0a (pv 2) (a0a (a0B (pv 0) rfl) (a0a (a0B (pv 0) rfl) (a0a (pv 3) a0c))))) (a0a a1u a0c)))),?_⟩;refine⟨_,rfl,_,rfl,x,CP,dx,_,_,rfl,e,L.cl,L.nT,a4y,_,rfl,x,CP,dx,_,_,rfl,e,L.cl,L.nC,a5n,_,rfl,p,rl,d.T,d.c1,_,i,rfl,hp,(by show 1≤12;decide),hrl,fun p' H1 s1 hp'=>⟨(by show 2≤sizeLine;decide),fun t' ht=>?_⟩⟩;have T1:=a0o.upd (o:=.tup [.ref p',.non]) ht;have SS:=s1.trans T1;refine q t' p' .non _ _ (.of SS) (tab.same SS) (hp'.same (a1F T1)) (.inr ?_) .no a0b;unfold a9I;rw[if_neg (by simp[ok.ne.symm])]
  rfl
theorem b4S {f fA:Addr}{fd fdA:FuncData}(F:a6l K "left" "Put.left" (pu 6) f fd)(L:ClP K CP)(B:Bl mg)(DA:Df K mg "at_place" (top 50) fA fdA):a0w P w K mg base CX0 2 f fd P4 (a7x K PF (PuA K CP) a2Q.a a2Q.SA a2Q.okL a2Q.lf):=by
 have sc:a0j P4 P4 (a0e (pu 6)):=.k (by decide +kernel);have GA:a0w P w K mg base CX0 1 fA fdA ["rest","place","other"] b1u:=a9l DA.fn B;have bA:=DA.fn.b3 "rest" "place" "other" (by intros;rfl);have ndA:(["place","self","rest"]:List Str).Nodup:=by decide +kernel
 refine F.ok sc (fun vs H Q E h=>?_) (fun cdv A outer s H vs Q E hr h=>?_)
 ·obtain⟨x,f,p,rv,d,row,z,rs,rfl,_⟩:=h
  rfl
 ·obtain⟨x,fm,p,rv,d,row,z,rs,rfl,⟨dx,k,t,e,hk⟩,_,⟨l,rr,p1,p2,p3⟩,_,hrs,okl,ok,tab,q⟩:=h
  have hu:=a2S hr;refine⟨_,a0f (a0p (a1d (te:=a6U b1u [] E0 (a1H (a2R 2) (a1H (a2R 0) (a1H (a8W K (a2R 1) "value") a7V)))) (osc:=a0e (pu 6)) (N0:=P4) (xs:=["place"]) (fr:=[0,3]) ⟨rfl,by decide +kernel,by decide +kernel,by decide +kernel,(fun j hj=>by
       have e:j=0\/j=3:=by simpa using hj
       rcases e with rfl |rfl
       ·exact⟨_,rfl,by decide +kernel⟩
       ·exact⟨_,rfl,by decide +kernel⟩),by decide +kernel⟩ rfl rfl rfl (a2i rfl B.range (a0a (a0y a0C (by rfl) B.len PySem.boot_len (a0a (a2k hu (pv 2) (a0B (pv 0) rfl) (fun _ _=>rfl)) a0c)) a0c))
      (fun s H fp=>a0n (i:=0) ndA rfl (Or.inl rfl)) (fun s H fp=>a0S)
      (fun s H fp=>a0g GA hr (by rfl) DA.mg DA.fn.kp bA .nil a0k (a0a (pv 2) (a0a (pv 0) (a0a (a0B (pv 1) rfl) a0c)))))),?_⟩
  refine⟨_,rfl,_,rfl,x,CP,dx,_,_,rfl,e,L.cl,L.nT,a4y,p,.ref l,rfl,.inl ⟨_,.inr d.T,.inl p1,rfl,a7K.symm⟩,l,_,rfl,.inl (SqL.of p2),_,rfl,(by show(-2 ^ 62:Int)≤1;decide),(by show(1:Int)<2 ^ 62;decide),fun D hD=>?_⟩;have S:=a0o.upd (o:=.lst []) hD;refine a1I a0b (by show 0<1;decide) ?_;rintro y' H' ⟨rfl,rfl⟩;have S3:∀v:V,a0o H (upd (upd H D (.lst [])) D (.lst [v])):=fun v=>S.put hD;have done:∀i:Int,i=(rsO rs).getD d.top->(upd H D (.lst [])) D=some (.lst [])/\_/\Q (.ref D) (upd (upd H D (.lst [])) D (.lst [.int i])):=fun i ei=>⟨a0b,(Nat.le_refl 1),q (.ref D) _ (.of (S3 _)) (tab.same (S3 _)) (by
   show RsA _ (.one (some ((rsO rs).getD d.top))) _;rw[← ei];exact .one (a0J hD a0b))⟩
  refine⟨_,rfl,_,rfl,_,rfl,x,CP,dx,_,_,rfl,S _ _ e,L.cl,L.nV,b3a,rv,0,.int d.top,rfl,?_⟩;cases hrs with
  |no=>exact .inl ⟨rfl,done d.top rfl⟩
  |@one o rl hrl=>
   rcases okl with okl |⟨i,okl⟩
   ·cases okl
   ·cases okl
    exact .inr ⟨rl,_,.int i,rfl,S _ _ hrl,rfl,done i rfl⟩
  |two _ _ _=>rcases okl with okr |⟨o,okr⟩<;>cases okr
end
end My
namespace L2
open PySem PySem.Spec PyProof.Rows
theorem a7Y:typeLookup (.type "list_reverseiterator") "__len__"=pure none:=by rw[typeLookup_type,builtinLookup_eq_fast];kernel_rfl
theorem a9A:typeLookup (.type "list_reverseiterator") "__length_hint__"=pure (some (.builtin "list_reverseiterator.__length_hint__")):=by rw[typeLookup_type,builtinLookup_eq_fast];kernel_rfl
section
variable {prog:Program}{w:World}{A:Around}{E:Value->Shared->Prop}{s:Shared}{R:Result->Shared->Prop}
variable {I:Addr}{fp wr:List Addr}{G:Array GenState->Array GenState->Prop}{n:Nat}{P:Nat->Value->Prop}{St:Nat->Shared->Prop}
theorem a6Y (W:WalksS prog w A.in1 I fp wr G n P St)(hT:∀i s,St i s->s.TypeIs (.ref I) "list_reverseiterator")(S:Addr)(res:Value)(c₀:Nat)(hst:St 0 s)(hSf:S∉fp)(hI:I∈fp)
  (hS:s.heap.get? S=some { cls:=.type "list",data:=.seq #[] c₀ })
  (hR:∀s' acc' c',Moved (S::wr) G s s'->s'.heap.get? S=some { cls:=.type "list",dict:=none,data:=.seq acc' c',slots:=#[] }->ItemsOf P acc' n->R (.ok (.ret res)) s') (hn:n≤sizeLine) :
  wpAny (model prog w) A.in1 (Builtin.List.listExtendWith (.ref S) (.ref I) res)
   (fun fin s'=>match fin with | .done f=>R (.ok f) s' | .again c'=>c'.quiet=true/\codeAny (model prog w) A c' R s') (fun e s'=>R (.error e) s') s:=by
 have hSI:S≠I:=fun e=>hSf (e▸hI);unfold Builtin.List.listExtendWith;refine wB0 (wpAny_typeOf (hT 0 _ hst) ?_);have h1:Builtin.List.listSameRef (.ref S) (.ref I)=false:=by simp[Builtin.List.listSameRef,hSI]
 rw[if_neg (by rw[h1];decide)];refine wB0 (W.self 0 _ _ _ hst ?_);refine wB0 (wpAny_holding ?_);unfold Builtin.List.listLengthHint;refine wB0 (wpAny_specialOf (hT 0 _ hst) a7Y ?_);show wpAny _ A.in1 (specialOf (Value.ref I) (Str.ofString "__length_hint__") >>= _) _ _ _;refine wB0 (wpAny_specialOf (hT 0 _ hst) a9A ?_)
 (generalize hid:("list_reverseiterator.__length_hint__":String)=id0;(fail_if_success (clear hid id0));wp_delta;rw[show splitId id0=some ("list_reverseiterator","__length_hint__") from by subst hid;decide +kernel];subst hid)
 refine wB0 (wpAny_isInstance (b:=true) (hT 0 _ hst) (by rw[isSubtype_type];kernel_rfl) ?_);refine wP0 ?_;rw[if_neg (by decide)];exact wP0 ⟨plainId_quiet F.plain_extend_loop _,codeAny_extend_loopS W hn _ hSf _ n 0 _ _ _ rfl (Nat.zero_le _) hst hS (ItemsOf.nil P) fun s' acc' c' hm hS' hacc=>hR s' acc' c' hm hS' hacc⟩
theorem a9C (W:WalksS prog w A.in1 I fp wr G n P St)(hT:∀i s,St i s->s.TypeIs (.ref I) "list_reverseiterator")(S:Addr)(hst:St 0 s)(hSf:S∉fp)(hI:I∈fp)
  (hS:s.heap.get? S=some { cls:=.type "list",data:=.seq #[] })
  (hR:∀s' acc' c',Moved (S::wr) G s s'->s'.heap.get? S=some { cls:=.type "list",dict:=none,data:=.seq acc' c',slots:=#[] }->ItemsOf P acc' n->R (.ok (.ret .none)) s') (hn:n≤sizeLine) :
  wpAny (model prog w) A.in1 (Builtin.«list.__init__» ⟨[.ref S,.ref I],[]⟩)
   (fun fin s'=>match fin with | .done f=>R (.ok f) s' | .again c'=>c'.quiet=true/\codeAny (model prog w) A c' R s') (fun e s'=>R (.error e) s') s:=by
 show wpAny _ A.in1 (do let old ← Builtin.List.listItems (.ref S);Builtin.List.listUpdate (.ref S) (fun _=>#[]);letGo old.toList.reverse;Builtin.List.listExtendWith (.ref S) (.ref I) .none) _ _ s;refine wB0 ?_;unfold Builtin.List.listItems;refine wB0 (wpAny_seqItems hS rfl (wP0 ?_));show wpAny _ A.in1 (updateSeq S (fun _=>#[]) >>= fun _=>letGo (#[]:Array Value).toList.reverse >>= fun _=>Builtin.List.listExtendWith (.ref S) (.ref I) .none) _ _ s;refine wB0 (wpAny_updateSeq hS rfl ?_);have hS₂:=Heap.get?_update_self (Obj.mapSeq (fun _=>(#[]:Array Value))) hS rfl;have oth:∀b o,b≠S->s.heap.get? b=some o->(s.heap.update S (Obj.mapSeq (fun _=>(#[]:Array Value)))).get? b=some o:=
  fun b o hb e=>(Heap.get?_update_other _ _ (Ne.symm hb)).trans e
 refine wB0 (wpAny_letGo ?_);refine a6Y (hn:=hn) W hT S .none _ (W.frame 0 s _ s.toks hst (Nat.le_refl _) fun b hb o e=>oth b o (fun h=>hSf (h▸hb)) e) hSf hI hS₂ fun s' acc' c' hm hS' hacc=>?_;exact hR s' acc' c' (Moved.trans W.gtrans ((Moved.refl W.grefl).then_heap (Nat.le_refl _) fun b o hb e=>oth b o (fun h=>hb (h▸List.mem_cons_self)) e) hm) hS' hacc
theorem a4h {Q:Value->Shared->Prop}(W:WalksS prog w A.in1.in1 I fp wr G n P St)(hT:∀i s,St i s->s.TypeIs (.ref I) "list_reverseiterator")(hst:St 0 s)(hfp:∀b∈fp,b<s.heap.objs.size)(hI:I∈fp)
  (hQ:∀s' acc' c',Moved (s.heap.objs.size::wr) G { s with heap:=s.heap.push { cls:=.type "list",data:=.seq #[] } } s' →
   s'.heap.get? s.heap.objs.size=some { cls:=.type "list",dict:=none,data:=.seq acc' c',slots:=#[] }->ItemsOf P acc' n->Q (.ref s.heap.objs.size) s') (hn:n≤sizeLine) :
  wpAny (model prog w) A (call (.type "list") [.ref I]) Q E s:=by
 have hSf:s.heap.objs.size∉fp:=fun hm=>Nat.lt_irrefl _ (hfp _ hm);refine callType_codes (Q₁:=fun obj s₁=>obj=.ref s.heap.objs.size/\s₁={ s with heap:=s.heap.push { cls:=.type "list",data:=.seq #[] } }) F.called_list (F.typeCall_list_1 _) F.entry_list_init
  (code_list_new _ ⟨rfl,rfl⟩) fun obj s₁ h₁=>?_
 obtain⟨rfl,rfl⟩:=h₁;have hS:(s.heap.push { cls:=.type "list",data:=.seq #[] }).get? s.heap.objs.size=some { cls:=.type "list",data:=.seq #[] }:=Heap.get?_push_size _ rfl;refine⟨⟨_,hS,rfl⟩,F.args_list_init_2 _ _,a9C (hn:=hn) W hT _ (W.frame 0 s _ s.toks hst (Nat.le_refl _) fun b _ o e=>hP0 _ e) hSf hI hS fun s' acc' c' hm hS' hacc=>?_⟩;exact⟨rfl,hQ s' acc' c' hm hS' hacc⟩
end
section
variable {X:Cx}
def b4e (K:Fg0)(tl:TE):TE:=fun σ H Q=>tl σ H fun x H1=>∃a xs,[x]=[V.ref a]/\SqL K H1 a xs/\∀p,H1 p=none->Q (.ref p) (upd H1 p (.lst xs.reverse))
theorem a2F {l:Expr}{tl:TE}{p1 p2 pos1 pos2:Pos}(hc:X.calm=true)(hgL:Gl X "list")(hmL:X.mg "list"=none)(hgR:Gl X "reversed")(hmR:X.mg "reversed"=none)(hl:PE X l tl)
  (hs:starEach [l] X.env=[(false,eval l X.env)]:=by rfl) (hs2:starEach [Expr.Call (.Name "reversed" p2) [l] [] pos2] X.env=[(false,eval (.Call (.Name "reversed" p2) [l] [] pos2) X.env)]:=by rfl) :
  PE X (.Call (.Name "list" p1) [.Call (.Name "reversed" p2) [l] [] pos2] [] pos1) (b4e X.K tl):=by
 intro pins s σ H Q I h;refine wpAny_Call_Name_kw (a2c I hgL hmL boot_list ?_);refine PyProof.Rows.callWith_type1 ?_ hs2 rfl;rw[hs2];show wpAny _ _ (spliced ((false,eval (.Call (.Name "reversed" p2) [l] [] pos2) X.env)::backTo pos1 [])) _ _ s;refine Calls.spliced_cons ?_;refine Call_ (a2c I hgR hmR boot_reversed (PyProof.Rows.callWith_type1 (thn ((a0a hl a0c hs) pos2 pins s σ H (fun vs H1=>∃a xs,vs=[V.ref a]/\SqL X.K H1 a xs/\∀p,H1 p=none->Q (.ref p) (upd H1 p (.lst xs.reverse))) I h) fun us s1 ⟨vs,H1,I1,r1,q1⟩=>?_) hs rfl));obtain⟨a,xs,e,hq,q⟩:=q1;subst e;obtain⟨u,rfl,rx⟩:=a2n r1;cases rx;obtain⟨its,rv,pl,hz⟩:=I1.list hq;have hl':=rv.length;have hlt:a<s1.heap.objs.size:=by obtain⟨_,e,_⟩:=pl.isList;exact Heap.lt_size e
 refine call_reversed_list pl.isList (Calls.spliced_nil ?_);have I2:Inv X pins σ H1 { s1 with heap:=s1.heap.push (revObj a ((its.toArray.size:Int)-1)) }:=I1.kept (t':=s1.toks) fun b o e=>hP0 _ e;have W:=(Walks.listRev (prog:=X.prog) (w:=X.w) (A:=X.A.in1.in1) (I.ok.hd hc) s1.heap.objs.size a (Nat.ne_of_lt hlt) its.toArray).toS;have hsz:(s1.heap.push (revObj a ((its.toArray.size:Int)-1))).objs.size=s1.heap.objs.size+1:=Heap.size_push ..;refine a4h W (fun i s st=>st.2.1.typeIs) ⟨Nat.zero_le _,⟨_,Heap.get?_push_size _ rfl,rfl,by simp[revObj]⟩,pl.isList.push _⟩ (fun b hb=>?_) (by simp) (fun s' acc c' hm hS' hacc=>?_) (by rw[List.size_toArray];omega)
 ·show b<(s1.heap.push _).objs.size
  rw[hsz];rcases List.mem_cons.mp hb with rfl |hb
  ·exact Nat.lt_succ_self _
  ·rw[List.mem_singleton.mp hb]
   exact Nat.lt_succ_of_lt hlt
 ·have ea:acc.toList=its.reverse:=by
   apply List.ext_getElem?;intro i;have h1:acc.size=its.length:=by rw[hacc.1,List.size_toArray]
   by_cases hi:i<its.length
   ·have h2:its.toArray[its.toArray.size-1-i]? =some acc[i]:=hacc.2 i acc[i] (Array.getElem?_eq_getElem (by omega))
    rw[List.getElem?_toArray,List.size_toArray] at h2;rw[List.getElem?_reverse hi,Array.getElem?_toList,Array.getElem?_eq_getElem (by omega),← h2]
   ·rw[List.getElem?_eq_none (by rw[Array.length_toList];omega),List.getElem?_eq_none (by rw[List.length_reverse];omega)]
  have hS0:s1.heap.objs.size+1=(s1.heap.push (revObj a ((its.toArray.size:Int)-1))).objs.size:=hsz.symm;have I3:=I2.turned (it:=s1.heap.objs.size) (h':=s'.heap) (t':=s'.toks) (fun b o hb e=>hm.heap b o (fun hmem=>?_) (hP0 _ e)) (I1.hok.fresh (Nat.le_refl _)) (I1.fpOk (Nat.le_refl _) (I1.hok.fresh (Nat.le_refl _))).2.1 (I1.fpOk (Nat.le_refl _) (I1.hok.fresh (Nat.le_refl _))).2.2.2.1 (I1.fpOk (Nat.le_refl _) (I1.hok.fresh (Nat.le_refl _))).2.2.2.2.1 (I1.fpOk (Nat.le_refl _) (I1.hok.fresh (Nat.le_refl _))).2.2.2.2.2
  ·rw[Moved.eq_with hm]
   refine⟨.ref _,_,I3.track (o:=.lst xs.reverse) (I2.our (Nat.le_refl _)) ⟨by rw[List.length_reverse];exact hz,acc.toList,c',by rw[ea];exact rv.reverse,by simpa using hS'⟩,rfl,q _ (I2.hok.fresh (Nat.le_refl _))⟩
  ·rcases List.mem_cons.mp hmem with e' |hmem
   ·exact absurd (Heap.lt_size e) (by rw[e'];exact Nat.lt_irrefl _)
   ·exact hb (List.mem_singleton.mp hmem)
end
end L2
namespace L2
open PySem PySem.Spec PyProof.Rows PySem.Builtin PySem.Builtin.Dict
theorem a9j {M:Model}{A:Around}{E:Value->Shared->Prop}{s:Shared}{a:Addr}{Q:Option Obj->Shared->Prop}(h:Q (s.heap.get? a) s):wpAny M A (loadIfAlive a) Q E s:=fun Γ p _=>by
 unfold loadIfAlive;rw[Sem.wp_loadIfAlive];exact h
end L2
namespace L2
open PySem PySem.Spec PyProof.Rows
end L2
namespace Nm
open PySem PySem.NumText PySem.W PyProof.Rows
end Nm
namespace L2
open PySem PySem.Spec PyProof.Rows
end L2
namespace Rp
open PySem PySem.StrLaws PySem.Builtin PySem.Builtin.Str
end Rp
namespace L2
open PySem PySem.Spec PyProof.Rows
end L2
namespace Rp
open PySem PySem.StrLaws PySem.Builtin PySem.Builtin.Str
end Rp
namespace L2
open PySem PySem.Spec PyProof.Rows PyProof.V
end L2
namespace L2
open PySem PySem.Spec PyProof.Rows
section
variable {prog:Program}{w:World}{A:Around}{E:Value->Shared->Prop}{s:Shared}
theorem a6X {z j t:Addr}{i:Nat}{xs:Array Value}{x old:Value}{Q:Value->Shared->Prop}(hz:IsEnum s.heap z j i old)(hj:s.heap.IsTupleIter j t i)(ht:s.heap.IsTuple t xs)(hx:xs[i]? =some x)(ne:z≠j)
  (hQ:∀h',IsEnumOut h' z j ((i:Int)+1) x s.heap.objs.size->h'.IsTupleIter j t (i+1)->h'.get? s.heap.objs.size=some { cls:=.type "tuple",data:=.seq #[.int i s.toks,x] }->h'.objs.size=s.heap.objs.size+1->(∀b o,b≠z->b≠j->s.heap.get? b=some o->h'.get? b=some o)->Q (.ref s.heap.objs.size) { s with heap:=h',toks:=s.toks+1 }) :
  wpAny (model prog w) A (Builtin.«enumerate.__next__» ⟨[.ref z],[]⟩) (fun fin s'=>∃v,fin=.done (.ret v)/\Q v s') E s:=by
 obtain⟨h0,gs,dr,tk,os⟩:=s;show wpAny _ _ (field (.ref z) 2 >>= _) _ _ _;refine wB0 (wpAny_field hz rfl (x:=.ref j) rfl (wB0 (a3W hj ht hx fun h1 hj1 sb1=>?_)))
 replace sb1:Heap.SameBut j h0 h1:=sb1
 have z1:IsEnum h1 z j i old:=(sb1.2 z ne).trans hz;show wpAny _ _ (field (.ref z) 3 >>= _) _ _ ⟨h1,gs,dr,tk,os⟩;refine wB0 (wpAny_field z1 rfl (x:=rawInt i) rfl ?_);show wpAny _ _ (field (.ref z) 4 >>= _) _ _ ⟨h1,gs,dr,tk,os⟩;refine wB0 (wpAny_field z1 rfl (x:=.none) rfl ?_);show wpAny _ _ (mkInt i >>= _) _ _ ⟨h1,gs,dr,tk,os⟩;refine wB0 (wpAny_mkInt ?_);show wpAny _ _ (setField (.ref z) 3 (rawInt ((i:Int)+1)) >>= _) _ _ ⟨h1,gs,dr,tk+1,os⟩;refine wB0 (wpAny_setField_rec z1 (by simp) fun h2 z2 sb2=>?_)
 replace sb2:Heap.SameBut z h1 h2:=sb2
 replace z2:IsEnum h2 z j ((i:Int)+1) old:=z2
 show wpAny _ _ (setField (.ref z) 4 .none >>= _) _ _ ⟨h2,gs,dr,tk+1,os⟩;refine wB0 (wpAny_setField_rec z2 (by simp) fun h3 z3 sb3=>?_)
 replace sb3:Heap.SameBut z h2 h3:=sb3
 replace z3:IsEnum h3 z j ((i:Int)+1) old:=z3
 show wpAny _ _ (newTuple [.int i tk,x] >>= _) _ _ ⟨h3,gs,dr,tk+1,os⟩;refine wB0 (wpAny_newTuple ?_);have size3:h3.objs.size=h0.objs.size:=by rw[sb3.1,sb2.1,sb1.1]
 have zlt:z<h0.objs.size:=Heap.lt_size hz;have z4:IsEnum (h3.push { cls:=.type "tuple",data:=.seq #[.int i tk,x] }) z j ((i:Int)+1) old:=hP0 _ z3;have g4:(h3.push { cls:=.type "tuple",data:=.seq #[.int i tk,x] }).get? h0.objs.size=some { cls:=.type "tuple",data:=.seq #[.int i tk,x] }:=by rw[← size3];exact Heap.get?_push_size _ rfl
 have n4:(h3.push { cls:=.type "tuple",data:=.seq #[.int i tk,x] }).objs.size=h0.objs.size+1:=by rw[Heap.size_push,size3]
 have k4:∀b o,b≠z->b≠j->h0.get? b=some o->(h3.push { cls:=.type "tuple",data:=.seq #[.int i tk,x] }).get? b=some o:=fun b o bz bj e=>hP0 _ (sb3.extBut b o bz (sb2.extBut b o bz (sb1.extBut b o bj e)));have j4:(h3.push { cls:=.type "tuple",data:=.seq #[.int i tk,x] }).IsTupleIter j t (i+1):=((hj1.extBut sb2.extBut (Ne.symm ne)).extBut sb3.extBut (Ne.symm ne)).at fun o e=>hP0 _ e;rw[size3];generalize h3.push { cls:=.type "tuple",data:=.seq #[.int i tk,x] }=h4 at z4 g4 n4 k4 j4;show wpAny _ _ (Builtin.SmallTypes.ownedTupleIsFree (.ref z) >>= _) _ _ ⟨h4,gs,dr,tk+1,os⟩;clear sb3 z3 sb2 z2 sb1 z1 hj1 size3;refine wB0 ?_;unfold Builtin.SmallTypes.ownedTupleIsFree;refine wB0 (wpAny_field z4 rfl (x:=.none) rfl (wP0 ?_));simp only[if_true];refine wB0 (wpAny_rule (wB0 (wpAny_field z4 rfl (x:=old) rfl (wB0 (wpAny_setField_rec z4 (by simp) fun h5 z5 sb5=>?_)))))
 replace sb5:Heap.SameBut z h4 h5:=sb5
 replace z5:IsEnum h5 z j ((i:Int)+1) x:=z5
 show wpAny _ _ (Builtin.SmallTypes.ownedTupleHandOut (.ref z) (.ref h0.objs.size) >>= _) _ _ ⟨h5,gs,dr,tk+1,os⟩;refine wB0 ?_;unfold Builtin.SmallTypes.ownedTupleHandOut;refine wB0 (wpAny_setField_rec z5 (by simp) fun h6 z6 sb6=>?_)
 replace sb6:Heap.SameBut z h5 h6:=sb6
 replace z6:IsEnumOut h6 z j ((i:Int)+1) x h0.objs.size:=z6
 refine wpAny_setField_rec z6 (by simp) fun h7 z7 sb7=>?_
 replace sb7:Heap.SameBut z h6 h7:=sb7
 replace z7:IsEnumOut h7 z j ((i:Int)+1) x h0.objs.size:=z7
 have k7:∀b o,b≠z->h4.get? b=some o->h7.get? b=some o:=fun b o bz e=>sb7.extBut b o bz (sb6.extBut b o bz (sb5.extBut b o bz e));refine wB0 (wpAny_letGo (wP0 ⟨_,rfl,hQ h7 z7 (j4.at fun o e=>k7 _ _ (Ne.symm ne) e) (k7 _ _ (Nat.ne_of_gt zlt) g4) (by rw[sb7.1,sb6.1,sb5.1,n4]) fun b o bz bj e=>k7 b o bz (k4 b o bz bj e)⟩))
theorem a3O {z j t:Addr}{i:Nat}{xs:Array Value}{x old:Value}{Q:Option Value->Shared->Prop}(hz:IsEnum s.heap z j i old)(hj:s.heap.IsTupleIter j t i)(ht:s.heap.IsTuple t xs)(hx:xs[i]? =some x)(ne:z≠j)
  (hQ:∀h',IsEnumOut h' z j ((i:Int)+1) x s.heap.objs.size->h'.IsTupleIter j t (i+1)->h'.get? s.heap.objs.size=some { cls:=.type "tuple",data:=.seq #[.int i s.toks,x] }->h'.objs.size=s.heap.objs.size+1->(∀b o,b≠z->b≠j->s.heap.get? b=some o->h'.get? b=some o)->Q (some (.ref s.heap.objs.size)) { s with heap:=h',toks:=s.toks+1 }) :
  wpAny (model prog w) A (pyNext (.ref z)) Q E s:=by
 have ty:s.TypeIs (.ref z) "enumerate":=⟨_,hz,rfl⟩;unfold pyNext;exact wB0 (wpAny_attempt (wpAny_callSpecial?_slot (name:=Str.ofString "__next__") ty F.slot_enumerate_next (wpAny_call_entry F.slot_enumerate_next ty F.entry_enumerate_next (a6X hz hj ht hx ne fun h' a b c d k=>wP0 (hQ h' a b c d k)) (F.args_enumerate_next_1 _))))
theorem a8e {z j t:Addr}{i:Nat}{xs:Array Value}{old:Value}{Q:Option Value->Shared->Prop}(hh:A.handled=none)(hz:IsEnum s.heap z j i old)(hj:s.heap.IsTupleIter j t i)(ht:s.heap.IsTuple t xs)(hx:xs[i]? =none)
  (hQ:∀h',Heap.ExtBut j s.heap h'->Q none { s with heap:=h' }):wpAny (model prog w) A (pyNext (.ref z)) Q E s:=by
 have ty:s.TypeIs (.ref z) "enumerate":=⟨_,hz,rfl⟩;unfold pyNext;refine wB0 (wpAny_attempt (wpAny_callSpecial?_slot (name:=Str.ofString "__next__") ty F.slot_enumerate_next (wpAny_call_entry F.slot_enumerate_next ty F.entry_enumerate_next ?_ (F.args_enumerate_next_1 _))));show wpAny _ _ (field (.ref z) 2 >>= _) _ _ _;refine wB0 (wpAny_field hz rfl (x:=.ref j) rfl (wB0 (a5g hh hj ht hx fun h' e hb ⟨o,ho,hc⟩=>?_)));exact wB0 (wpAny_isInstance (T:="StopIteration") (b:=true) ⟨o,ho,hc⟩ isSubtype_stop (wP0 (hQ _ hb)))
theorem a5N (t:Addr)(xs:Array Value) :
  Meets (Builtin.«enumerate.__new__» ⟨[.type "enumerate",.ref t],[]⟩) (fun _ R s=>s.heap.IsTuple t xs ∧
   R (.ok (.ret (.ref (s.heap.objs.size+1)))) { s with heap:=(s.heap.push { cls:=.type "tuple_iterator",data:=.fields #[.ref t,.int 0 0] }).push { cls:=.type "enumerate",data:=.fields #[.none,.bool false,.ref s.heap.objs.size,rawInt 0,.none,.none] } }):=
 .of_wp fun prog w A R s h=>by
  obtain⟨h0,gs,dr,tk,os⟩:=s;obtain⟨ht,h⟩:=h;obtain⟨o,ho,hc,n,hd⟩:=id ht;have hsub:=sub_enumerate;have hz:(h0.push { cls:=.type "tuple_iterator",data:=.fields #[.ref t,.int 0 0] }).objs.size=h0.objs.size+1:=Heap.size_push ..;rw[← hz] at h
  wp_walk using AutoSeq1.wpAny_loadPart' ho
  refine wpAny_stack_any fun st=>wP0 ?_
  split
  ·rename_i c _ _ _ _ _
   cases(c==Value.type "enumerate")
   ·wp_walk using AutoSeq1.wpAny_loadPart' ho,wpAny_pyIter_tuple ht
    exact⟨_,rfl,h⟩
   ·wp_walk using AutoSeq1.wpAny_loadPart' ho,wpAny_pyIter_tuple ht
    exact⟨_,rfl,h⟩
  ·wp_walk using AutoSeq1.wpAny_loadPart' ho,wpAny_pyIter_tuple ht
   exact⟨_,rfl,h⟩
theorem a3S {t:Addr}{xs:Array Value}{Q:Value->Shared->Prop}(ht:s.heap.IsTuple t xs)
  (h:∀h',IsEnum h' (s.heap.objs.size+1) s.heap.objs.size 0 .none->h'.IsTupleIter s.heap.objs.size t 0->(∀b o,s.heap.get? b=some o->h'.get? b=some o)->Q (.ref (s.heap.objs.size+1)) { s with heap:=h' }) :
  wpAny (model prog w) A (call (.type "enumerate") [.ref t]) Q E s:=by
 refine callType_new F.called_enumerate (by decide) (F.typeCall_enumerate_1 _) (F.newCall_enumerate_1 _) (fun obj=>F.args_object_init_2 obj _) F.entry_enumerate_new (a5N t xs) ⟨ht,?_⟩;have hz:(s.heap.push { cls:=.type "tuple_iterator",data:=.fields #[.ref t,.int 0 0] }).objs.size=s.heap.objs.size+1:=Heap.size_push ..;have he:IsEnum ((s.heap.push { cls:=.type "tuple_iterator",data:=.fields #[.ref t,.int 0 0] }).push { cls:=.type "enumerate",data:=.fields #[.none,.bool false,.ref s.heap.objs.size,rawInt 0,.none,.none] }) (s.heap.objs.size+1) s.heap.objs.size 0 .none:=by
  rw[← hz];exact Heap.get?_push_size _ rfl
 exact⟨⟨_,he,rfl⟩,h _ he ⟨_,hP0 _ (Heap.get?_push_size _ rfl),rfl,rfl⟩ fun b o x=>hP0 _ (hP0 _ x)⟩
end
def b2m (K:Fg0)(a:Addr):It:=
 ⟨fun i H=>∃xs x,SqT K H a xs/\xs[i]? =some x,fun i H x H'=>∃y p,(∀xs,SqT K H a xs->xs[i]? =some y)/\x=.ref p/\H p=none/\H'=upd H p (.tup [.int i,y]),fun i H=>∃xs,SqT K H a xs/\xs.length≤i⟩
theorem a7b {P:Program}{w:World}{K:Fg0}{es:List Expr}{x1:Nat}{tp:Pos}(a z j:Addr)(ne:z≠j):a8Y P w K (.Tuple es x1 tp) (b2m K a) [z,j] z (fun i h=>(∃old,IsEnum h z j i old)/\h.IsTupleIter j a i) where
 mem:=by simp
 obj:=fun i h st b hb=>by
  obtain⟨⟨old,s1⟩,s2⟩:=st;rcases List.mem_cons.mp hb with e |e
  ·subst e
   exact⟨_,s1,fun v z=>by cases z⟩
  ·have e:=List.mem_singleton.mp e
   subst e;obtain⟨o,g,c,d⟩:=s2;exact⟨o,g,fun v z=>by rw[d] at z;cases z⟩
 keep:=fun i h h' st k=>by
  obtain⟨⟨old,s1⟩,s2⟩:=st;exact⟨⟨old,k z (by simp) _ s1⟩,s2.at fun o g=>k j (by simp) o g⟩
 item:=by
  intro X hP hw hK hc i pins s σ H E I hf st hg;subst hP hw hK;obtain⟨⟨old,s1⟩,s2⟩:=st;obtain⟨xs,x,hq,hx⟩:=hg;obtain⟨its,rv,p,hsz⟩:=I.tuple hq;obtain⟨u,hu,ru⟩:=rv.get hx;have lz:z<s.heap.objs.size:=Heap.lt_size s1;have lj:j<s.heap.objs.size:=by obtain⟨o,g,_⟩:=s2;exact Heap.lt_size g
  refine a3O s1 s2 (show s.heap.IsTuple a its.toArray from p) (x:=u) (by simpa using hu) ne fun h' st' si' ht hs' kp=>⟨_,rfl,?_⟩;refine wpAny_letOwnedTupleGo_enum (s:={ s with heap:=h',toks:=s.toks+1 }) st' fun h'' st'' sb=>?_;have si'':h''.IsTupleIter j a (i+1):=si'.at fun o q=>(sb.2 j (Ne.symm ne)).trans q;have hp:H s.heap.objs.size=none:=I.hok.fresh (Nat.le_refl _);obtain⟨oj,ej,cj,dj⟩:=id si'';obtain⟨oj0,ej0,_⟩:=id s2;obtain⟨f0,f1,f2,f3,f4,f5⟩:=hf z (by simp);obtain⟨g0,g1,g2,g3,g4,g5⟩:=hf j (by simp);have I0:Inv X pins σ H { s with heap:=s.heap.update z fun _=>{ cls:=.type "enumerate",dict:=none,data:=.fields #[.none,.bool false,.ref j,rawInt ((i:Int)+1),.none,u],slots:=#[] } }:=
   I.turned (t':=s.toks) (fun b ob hb q=>(Heap.get?_update_ne _ _ _ _ hb).trans q) f0 f1 f3 f4 f5
  have I1:Inv X pins σ H { s with heap:=(s.heap.update z fun _=>{ cls:=.type "enumerate",dict:=none,data:=.fields #[.none,.bool false,.ref j,rawInt ((i:Int)+1),.none,u],slots:=#[] }).update j fun _=>oj }:=
   I0.turned (t':=s.toks) (fun b ob hb q=>(Heap.get?_update_ne _ _ _ _ hb).trans q) g0 g1 g3 g4 g5
  have fj:oj.isFreed=false:=(Heap.get?_some_iff.mp ej).2;refine⟨.ref s.heap.objs.size,upd H s.heap.objs.size (.tup [.int i,x]),I1.laid (t':=s.toks+1) (h':=h'') (fun b ob q=>?_) (by rw[Heap.size_update,Heap.size_update];exact Nat.le_refl _) ⟨(show 2≤sizeLine by decide),[.int i s.toks,u],.cons ⟨_,rfl⟩ (.cons ru .nil),⟨_,(sb.2 _ (Nat.ne_of_gt lz)).trans ht,rfl,_,rfl⟩⟩,rfl,⟨x,_,fun ys hy=>by rw[I.tuple_inj hy hq];exact hx,rfl,hp,rfl⟩,⟨⟨u,st''⟩,si''⟩,fun b hb=>?_⟩
  ·by_cases hb:b=j
   ·subst hb
    rw[Heap.get?_update_self _ (show(s.heap.update z _).get? b=some oj0 from(Heap.get?_update_ne _ _ _ _ (Ne.symm ne)).trans ej0) fj] at q;exact ej.trans q
   ·rw[Heap.get?_update_ne _ _ _ _ hb] at q
    by_cases hb2:b=z
    ·subst hb2
     rw[Heap.get?_update_self _ s1 rfl] at q;exact st''.trans q
    ·rw[Heap.get?_update_ne _ _ _ _ hb2] at q
     exact(sb.2 b hb2).trans (kp b ob hb2 hb q)
  ·rcases List.mem_cons.mp hb with e |e
   ·subst e
    rw[a0h (Nat.ne_of_lt lz)];exact(hf _ (by simp)).1
   ·have e:=List.mem_singleton.mp e
    subst e;rw[a0h (Nat.ne_of_lt lj)];exact(hf _ (by simp)).1
 done:=by
  intro X hP hw hK hc i pins s σ H E I hf st hg;subst hP hw hK;obtain⟨⟨old,s1⟩,s2⟩:=st;obtain⟨xs,hq,hx⟩:=hg;obtain⟨its,rv,p,hsz⟩:=I.tuple hq;obtain⟨g0,g1,g2,g3,g4,g5⟩:=hf j (by simp);have hl:=rv.length;exact a8e (I.ok.hd hc) s1 s2 (show s.heap.IsTuple a its.toArray from p) (by simp;omega) fun h' eb=>⟨rfl,I.turned (t':=s.toks) (fun b o hb g=>eb b o hb g) g0 g1 g3 g4 g5⟩
 self:=fun A i s Q E st h=>by
  obtain⟨⟨old,s1⟩,_⟩:=st;exact wpAny_pyIter_enum s1 h
section
variable {X:Cx}
def b2J (K:Fg0)(ta:TA):TI:=fun σ H R=>ta σ H fun vs H1=>∃a,vs=[.ref a]/\(∃xs,SqT K H1 a xs)/\R (b2m K a) H1
theorem a4n {es:List Expr}{x1:Nat}{tp:Pos}{l:Expr}{ta:TA}{p pos:Pos}(hg:Gl X "enumerate")(hm:X.mg "enumerate"=none)(ha:PA X [l] ta)(hs:starEach [l] X.env=[(false,eval l X.env)]:=by rfl) :
  PI X (.Tuple es x1 tp) (.Call (.Name "enumerate" p) [l] [] pos) (b2J X.K ta):=by
 intro pins s σ H R I h;refine Call_ (a2c I hg hm boot_enum (PyProof.Rows.callWith_type1 (thn (ha pos pins s σ H _ I h) fun us s1 ⟨vs,H1,I1,r1,q1⟩=>?_) hs rfl));obtain⟨a,e,⟨xs,hq⟩,q⟩:=q1;subst e;obtain⟨u,rfl,rx⟩:=a2n r1;cases rx;obtain⟨its,rv,pl,hz⟩:=I1.tuple hq;refine a3S (show s1.heap.IsTuple a its.toArray from pl) fun h' he hi hk=>?_;have I2:Inv X pins σ H1 { s1 with heap:=h' }:=I1.kept (t':=s1.toks) hk;refine wpAny_pyIter_enum (s:={ s1 with heap:=h' }) he ?_;refine⟨s1.heap.objs.size+1,[s1.heap.objs.size+1,s1.heap.objs.size],_,_,H1,rfl,I2,a7b a _ _ (Nat.succ_ne_self _),⟨⟨_,he⟩,hi⟩,fun b hb=>?_,q⟩;have nb:s1.heap.objs.size≤b:=by
  rcases List.mem_cons.mp hb with z |z
  ·rw[z];exact Nat.le_succ _
  ·rw[List.mem_singleton.mp z];exact Nat.le_refl _
 exact I1.fpOk nb (I1.hok.fresh nb)
end
def a4L (h:Heap)(e it S:Addr)(i:Int):Prop:=∃(f0 f1 item:Value),h.get? e=some { cls:=.type "enumerate",dict:=none,data:=.fields #[f0,f1,.ref it,rawInt i,.none,item],slots:=#[] }/\((f0=.none/\f1=.bool false)\/∃(a:Nat) (o:Obj) (b:Bool),f0=rawInt a/\f1=.bool b/\a≠e/\a≠it/\a≠S/\h.get? a=some o)
theorem a4L.but {h h':Heap}{e it S:Addr}{i:Int}(x:a4L h e it S i)(hS:e≠S)(k:∀b o,b≠S->h.get? b=some o->h'.get? b=some o):a4L h' e it S i:=by
 obtain⟨f0,f1,t,he,hf⟩:=x;refine⟨f0,f1,t,k _ _ hS he,?_⟩;rcases hf with hf |⟨a,o,b,h0,h1,h2,h3,h4,h5⟩
 ·exact .inl hf
 ·exact .inr ⟨a,o,b,h0,h1,h2,h3,h4,k _ _ h4 h5⟩
theorem a9r:typeLookup (.type "enumerate") "__len__"=pure none:=by rw[typeLookup_type,builtinLookup_eq_fast];kernel_rfl
theorem a8C:typeLookup (.type "enumerate") "__length_hint__"=pure none:=by rw[typeLookup_type,builtinLookup_eq_fast];kernel_rfl
section
variable {prog:Program}{w:World}{A:Around}{E:Value->Shared->Prop}{s:Shared}
theorem a3I {e it l S:Addr}{i:Nat}{items:Array Value}{x:Value}{Q:Option Value->Shared->Prop}
  (he:a4L s.heap e it S i) (hSl:S<s.heap.objs.size) (hit:s.heap.IsTupleIter it l i) (hl:s.heap.IsTuple l items) (hx:items[i]? =some x) (hne:e≠it)
  (hQ:∀h',a4L h' e it S ((i:Int)+1)->h'.IsTupleIter it l (i+1) →
   h'.get? s.heap.objs.size=some { cls:=.type "tuple",data:=.seq #[.int i s.toks,x] }->h'.objs.size=s.heap.objs.size+1 →
   (∀b o,b≠e->b≠it->s.heap.get? b=some o->h'.get? b=some o)->Q (some (.ref s.heap.objs.size)) { s with heap:=h',toks:=s.toks+1 }) :
  wpAny (model prog w) A (pyNext (.ref e)) Q E s:=by
 obtain⟨f0,f1,old,he,hf⟩:=he;rcases hf with ⟨rfl,rfl⟩ |⟨a,oa,b,rfl,rfl,ae,ai,aS,ha⟩
 ·have hel:e<s.heap.objs.size:=Heap.lt_size he
  have hil:it<s.heap.objs.size:=by obtain⟨o,ho,_⟩:=id hit;exact Heap.lt_size ho
  exact a3O he hit hl hx hne fun h' a b c d k=>hQ h' ⟨_,_,_,a,.inr ⟨_,_,_,rfl,rfl,Nat.ne_of_gt hel,Nat.ne_of_gt hil,Nat.ne_of_gt hSl,c⟩⟩ b c d k
 ·have hT:s.TypeIs (.ref e) "enumerate":=⟨_,he,rfl⟩
  unfold pyNext;refine wB0 (wpAny_attempt (wpAny_callSpecial?_slot (name:=Str.ofString "__next__") hT F.slot_enumerate_next (wpAny_call_entry F.slot_enumerate_next hT F.entry_enumerate_next ?_ (F.args_enumerate_next_1 _))));obtain⟨hp,g,d,tk,os⟩:=s;show wpAny _ _ (field (.ref e) 2 >>= _) _ _ _;refine wB0 (wpAny_field he rfl (x:=.ref it) rfl ?_);refine wB0 (a3W hit hl hx fun h₁ hit₁ hs₁=>?_)
  replace hs₁:Heap.SameBut it hp h₁:=hs₁
  have he₁:=(hs₁.2 e hne).trans he;show wpAny _ _ (field (.ref e) 3 >>= _) _ _ ⟨h₁,g,d,tk,os⟩;refine wB0 (wpAny_field he₁ rfl (x:=rawInt i) rfl ?_);show wpAny _ _ (field (.ref e) 4 >>= _) _ _ ⟨h₁,g,d,tk,os⟩;refine wB0 (wpAny_field he₁ rfl (x:=.none) rfl ?_);show wpAny _ _ (mkInt i >>= _) _ _ ⟨h₁,g,d,tk,os⟩;refine wB0 (wpAny_mkInt ?_);show wpAny _ _ (setField (.ref e) 3 (rawInt ((i:Int)+1)) >>= _) _ _ ⟨h₁,g,d,tk+1,os⟩;refine wB0 (wpAny_setField_rec he₁ (by simp) fun h₂ he₂ hs₂=>?_)
  replace hs₂:Heap.SameBut e h₁ h₂:=hs₂
  show wpAny _ _ (setField (.ref e) 4 .none >>= _) _ _ ⟨h₂,g,d,tk+1,os⟩;refine wB0 (wpAny_setField_rec he₂ (by simp) fun h₃ he₃ hs₃=>?_)
  replace hs₃:Heap.SameBut e h₂ h₃:=hs₃
  replace he₃:h₃.get? e=some { cls:=.type "enumerate",dict:=none,data:=.fields #[rawInt a,.bool b,.ref it,rawInt ((i:Int)+1),.none,old],slots:=#[] }:=he₃
  show wpAny _ _ (newTuple [.int i tk,x] >>= _) _ _ ⟨h₃,g,d,tk+1,os⟩;refine wB0 (wpAny_newTuple ?_);have he₄:=hP0 { cls:=.type "tuple",data:=.seq #[.int i tk,x] } he₃;generalize hh₄:h₃.push { cls:=.type "tuple",data:=.seq #[.int i tk,x] }=h₄ at he₄;have hsz:h₃.objs.size=hp.objs.size:=by rw[hs₃.1,hs₂.1,hs₁.1]
  have hel:e<hp.objs.size:=Heap.lt_size he;have ht₄:h₄.get? hp.objs.size=some { cls:=.type "tuple",data:=.seq #[.int i tk,x] }:=by rw[← hh₄,← hsz];exact Heap.get?_push_size _ rfl
  have hz₄:h₄.objs.size=hp.objs.size+1:=by rw[← hh₄,Heap.size_push,hsz]
  have hk₄:∀b o,b≠e->b≠it->hp.get? b=some o->h₄.get? b=some o:=fun b o hbe hbi hb=>by
   rw[← hh₄];exact hP0 _ (hs₃.extBut b o hbe (hs₂.extBut b o hbe (hs₁.extBut b o hbi hb)))
  have hit₄:h₄.IsTupleIter it l (i+1):=by
   rw[← hh₄];exact((hit₁.extBut hs₂.extBut (Ne.symm hne)).extBut hs₃.extBut (Ne.symm hne)).at fun o e=>hP0 _ e
  have ha₄:=hk₄ a oa ae ai ha;show wpAny _ _ (Builtin.SmallTypes.ownedTupleIsFree (.ref e) >>= _) _ _ ⟨h₄,g,d,tk+1,os⟩;rw[hsz];clear hh₄ he₃ hs₃ he₂ hs₂ he₁ hs₁ hit₁ hsz h₃ h₂ h₁;refine wB0 ?_;unfold Builtin.SmallTypes.ownedTupleIsFree;refine wB0 (wpAny_field he₄ rfl (x:=rawInt a) rfl ?_);show wpAny _ _ (loadIfAlive (Int.toNat a) >>= _) _ _ _;rw[Int.toNat_natCast];refine wB0 (a9j ?_);rw[show(Shared.heap ⟨h₄,g,d,tk+1,os⟩).get? a=some oa from ha₄];show wpAny _ _ (field (.ref e) 1 >>= _) _ _ _;refine wB0 (wpAny_field he₄ rfl (x:=.bool b) rfl ?_);cases b with
  |true=>
   rw[if_neg (by decide)];refine wP0 ?_;simp only[Bool.false_eq_true,if_false];exact wP0 ⟨_,rfl,wP0 (hQ h₄ ⟨_,_,_,he₄,.inr ⟨a,oa,true,rfl,rfl,ae,ai,aS,ha₄⟩⟩ hit₄ ht₄ hz₄ hk₄)⟩
  |false=>
   rw[if_pos (by decide)];refine wB0 (wpAny_setField_rec he₄ (by simp) fun h₅ he₅ hs₅=>?_)
   replace hs₅:Heap.SameBut e h₄ h₅:=hs₅
   refine wP0 ?_;simp only[Bool.false_eq_true,if_false];refine wP0 ⟨_,rfl,wP0 (hQ h₅ ⟨_,_,_,he₅,.inr ⟨a,oa,true,rfl,rfl,ae,ai,aS,(hs₅.2 a ae).trans ha₄⟩⟩ (hit₄.extBut hs₅.extBut (Ne.symm hne)) ?_ ?_ ?_)⟩
   ·exact hs₅.extBut _ _ (Nat.ne_of_gt hel) ht₄
   ·rw[hs₅.1,hz₄]
   ·exact fun b o hbe hbi hb=>hs₅.extBut b o hbe (hk₄ b o hbe hbi hb)
theorem a4b {e it l S:Addr}{i:Nat}{items:Array Value}{Q:Option Value->Shared->Prop}(hh:A.handled=none)
  (he:a4L s.heap e it S i) (hit:s.heap.IsTupleIter it l i) (hl:s.heap.IsTuple l items) (hx:items[i]? =none)
  (hQ:∀h',Heap.ExtBut it s.heap h'->Q none { s with heap:=h' }):wpAny (model prog w) A (pyNext (.ref e)) Q E s:=by
 obtain⟨f0,f1,old,he,_⟩:=he;have hT:s.TypeIs (.ref e) "enumerate":=⟨_,he,rfl⟩;unfold pyNext;refine wB0 (wpAny_attempt (wpAny_callSpecial?_slot (name:=Str.ofString "__next__") hT F.slot_enumerate_next
  (wpAny_call_entry F.slot_enumerate_next hT F.entry_enumerate_next ?_ (F.args_enumerate_next_1 _))))
 show wpAny _ _ (field (.ref e) 2 >>= _) _ _ _;refine wB0 (wpAny_field he rfl (x:=.ref it) rfl (wB0 (a5g hh hit hl hx fun h' e hb ⟨o,ho,hc⟩=>?_)));exact wB0 (wpAny_isInstance (T:="StopIteration") (b:=true) ⟨o,ho,hc⟩ isSubtype_stop (wP0 (hQ _ hb)))
end
section
variable {X:Cx}{pins:List (Addr×Obj)}{σ:St}{H0:Hp}
theorem a2u.upd {H:Hp}{b a:Addr}{o:HO}(f:a2u X pins H b)(n:b≠a):a2u X pins (upd H a o) b:=⟨(a0h n).trans f.1,f.2⟩
theorem Inv.fp {H:Hp}{s:Shared}{b:Addr}{h':Heap}{t':Nat}(I:Inv X pins σ H s)(f:a2u X pins H b)(k:∀c o,c≠b->s.heap.get? c=some o->h'.get? c=some o):Inv X pins σ H { s with heap:=h',toks:=t' }:=I.turned k f.1 f.2.1 f.2.2.2.1 f.2.2.2.2.1 f.2.2.2.2.2
theorem b1a {A:Around}(hh:A.handled=none){z j a S:Addr}{xs:List V}(hzj:z≠j)(hzS:z≠S)(hjS:j≠S)(hz:xs.length≤1000){res:Value}{R:Result->Shared->Prop}
  (hR:∀(s:Shared) (H:Hp) (ts:List Addr) (c:Nat),Inv X pins σ H s->a0o H0 H->a2u X pins H S->s.heap.get? S=some { cls:=.type "list",dict:=none,data:=.seq (ts.map Value.ref).toArray c,slots:=#[] }->ts.length=xs.length->(∀(n:Nat) (t:Addr) (x:V),ts[n]? =some t->xs[n]? =some x->H t=some (.tup [.int n,x]))->R (.ok (.ret res)) s) :
  ∀(k i:Nat) (s:Shared) (H:Hp) (ts:List Addr) (c:Nat),xs.length-i=k->i≤xs.length->Inv X pins σ H s->a0o H0 H->SqT X.K H a xs->a2u X pins H z->a2u X pins H j->a2u X pins H S->a4L s.heap z j S i->s.heap.IsTupleIter j a i →
   s.heap.get? S=some { cls:=.type "list",dict:=none,data:=.seq (ts.map Value.ref).toArray c,slots:=#[] }->ts.length=i->(∀(n:Nat) (t:Addr) (x:V),ts[n]? =some t->xs[n]? =some x->H t=some (.tup [.int n,x])) →
   codeAny (model X.prog X.w) A (.builtin "list.extend.loop" ⟨[.ref S,.ref z,res],[]⟩) R s:=by
 intro k
 induction k with
 |zero=>
  intro i s H ts c hk hi I sm hq fz fj fS he hit hS hl ht;have hin:i=xs.length:=by omega
  obtain⟨its,rv,p,hsz⟩:=I.tuple hq;have hrl:=rv.length;refine codeAny_builtin F.entry_extend_loop ?_;rw[Around.under_plainId F.plain_extend_loop _];show wpAny _ A.in1 (pyNext (.ref z) >>= _) _ _ s;refine wB0 (a4b hh he hit (show s.heap.IsTuple a its.toArray from p) (by simp;omega) fun h' eb=>?_);exact wP0 (hR { s with heap:=h' } H ts c (I.fp (t':=s.toks) fj eb) sm fS (eb _ _ (Ne.symm hjS) hS) (by omega) ht)
 |succ k ih=>
  intro i s H ts c hk hi I sm hq fz fj fS he hit hS hl ht;have hlt:i<xs.length:=by omega
  obtain⟨its,rv,p,hsz⟩:=I.tuple hq;have hrl:=rv.length;obtain⟨u,hu,ru⟩:=rv.get (gE0 hlt);have lS:S<s.heap.objs.size:=Heap.lt_size hS;have lz:z<s.heap.objs.size:=by obtain⟨_,_,_,e,_⟩:=id he;exact Heap.lt_size e
  have lj:j<s.heap.objs.size:=by obtain⟨o,g,_⟩:=id hit;exact Heap.lt_size g
  refine codeAny_builtin F.entry_extend_loop ?_;rw[Around.under_plainId F.plain_extend_loop _];show wpAny _ A.in1 (pyNext (.ref z) >>= _) _ _ s;refine wB0 (a3I he lS hit (show s.heap.IsTuple a its.toArray from p) (x:=u) (by simpa using hu) hzj fun h' he' hit' htp hs' kp=>?_);have hS':=kp S _ (Ne.symm hzS) (Ne.symm hjS) hS;show wpAny _ A.in1 (updateSeq S (·.push (.ref s.heap.objs.size)) >>= _) _ _ _;refine wB0 ?_;have hp:H s.heap.objs.size=none:=I.hok.fresh (Nat.le_refl _);obtain⟨f0,f1,itm,ez,hf⟩:=id he';obtain⟨g0,g1,itm0,ez0,hf0⟩:=id he;obtain⟨oj,ej,cj,dj⟩:=id hit';obtain⟨oj0,ej0,_⟩:=id hit;have I0:Inv X pins σ H { s with heap:=s.heap.update z fun _=>{ cls:=.type "enumerate",dict:=none,data:=.fields #[f0,f1,.ref j,rawInt ((i:Int)+1),.none,itm],slots:=#[] } }:=I.fp (t':=s.toks) fz fun b ob hb q=>(Heap.get?_update_ne _ _ _ _ hb).trans q;have I1:Inv X pins σ H { s with heap:=(s.heap.update z fun _=>{ cls:=.type "enumerate",dict:=none,data:=.fields #[f0,f1,.ref j,rawInt ((i:Int)+1),.none,itm],slots:=#[] }).update j fun _=>oj }:=I0.fp (t':=s.toks) fj fun b ob hb q=>(Heap.get?_update_ne _ _ _ _ hb).trans q;have fjf:oj.isFreed=false:=(Heap.get?_some_iff.mp ej).2;have I2:Inv X pins σ (upd H s.heap.objs.size (.tup [.int i,xs[i]])) { s with heap:=h',toks:=s.toks+1 }:=I1.laid (t':=s.toks+1) (h':=h') (fun b ob q=>by
    by_cases hb:b=j
    ·subst hb
     rw[Heap.get?_update_self _ (show(s.heap.update z _).get? b=some oj0 from(Heap.get?_update_ne _ _ _ _ (Ne.symm hzj)).trans ej0) fjf] at q;exact ej.trans q
    ·rw[Heap.get?_update_ne _ _ _ _ hb] at q
     by_cases hb2:b=z
     ·subst hb2
      rw[Heap.get?_update_self _ ez0 rfl] at q;exact ez.trans q
     ·rw[Heap.get?_update_ne _ _ _ _ hb2] at q
      exact kp b ob hb2 hb q) (by rw[Heap.size_update,Heap.size_update];exact Nat.le_refl _) ⟨(show 2≤sizeLine by decide),[.int i s.toks,u],.cons ⟨_,rfl⟩ (.cons ru .nil),⟨_,htp,rfl,_,rfl⟩⟩
  have nz:z≠s.heap.objs.size:=Nat.ne_of_lt lz;have nj:j≠s.heap.objs.size:=Nat.ne_of_lt lj;have nS:S≠s.heap.objs.size:=Nat.ne_of_lt lS;have T:=a0o.upd (o:=.tup [.int i,xs[i]]) hp;have kS:∀(b:Addr) (o:Obj),b≠S->h'.get? b=some o->(h'.update S (Obj.mapSeq (·.push (.ref s.heap.objs.size)))).get? b=some o:=fun b o hb e=>(Heap.get?_update_other _ _ (Ne.symm hb)).trans e;have I3:=I2.fp (t':=s.toks+1) (fS.upd (o:=.tup [.int i,xs[i]]) nS) kS;refine wpAny_updateSeq hS' rfl (wP0 ⟨plainId_quiet F.plain_extend_loop _,ih (i+1) _ _ (ts++[s.heap.objs.size]) _ (by omega) hlt I3 (sm.trans T) (T.seqT hq) (fz.upd nz) (fj.upd nj) (fS.upd nS) (he'.but hzS kS) (hit'.at fun o e=>kS _ _ hjS e) (by
    rw[Heap.get?_update_self _ hS' rfl];simp[Obj.mapSeq]
    rfl) (by rw[List.length_append,hl];rfl) fun n t x h1 h2=>?_⟩) (by simp;omega) (by simp;omega)
  by_cases hn:n<ts.length
  ·rw[List.getElem?_append_left hn] at h1
   exact T _ _ (ht n t x h1 h2)
  ·have en:n=ts.length:=by
    have:=(gS0.mp h1).1
    rw[List.length_append] at this;simp at this
    omega
   subst en;rw[List.getElem?_append_right (Nat.le_refl _),Nat.sub_self] at h1;cases h1
   have:(ts.length:Int)=i:=by omega
   have hx:xs[i]=x:=by
    have e2:xs[ts.length]? =some xs[i]:=by rw[hl];exact gE0 hlt
    rw[e2] at h2;exact Option.some.inj h2
   rw[← hx,this];exact a0b
def tLEn (K:Fg0)(tl:TE):TE:=fun σ H Q=>tl σ H fun x H1=>∃a xs,[x]=[V.ref a]/\SqT K H1 a xs/\xs.length≤1000/\∀(p:Addr) (ts:List Addr) (H2:Hp),a0o H1 H2->ts.length=xs.length->(∀(n:Nat) (t:Addr) (x:V),ts[n]? =some t->xs[n]? =some x->H2 t=some (.tup [.int n,x]))->H2 p=some (.lst (ts.map V.ref))->Q (.ref p) H2
theorem a5u:∀ts:List Addr,a1m (ts.map V.ref) (ts.map Value.ref)
 |[]=>.nil
 |_::ts=>.cons rfl (a5u ts)
theorem a5f {l:Expr}{tl:TE}{p1 p2 pos1 pos2:Pos}(hc:X.calm=true)(hgL:Gl X "list")(hmL:X.mg "list"=none)(hgR:Gl X "enumerate")(hmR:X.mg "enumerate"=none)(hl:PE X l tl)
  (hs:starEach [l] X.env=[(false,eval l X.env)]:=by rfl) (hs2:starEach [Expr.Call (.Name "enumerate" p2) [l] [] pos2] X.env=[(false,eval (.Call (.Name "enumerate" p2) [l] [] pos2) X.env)]:=by rfl) :
  PE X (.Call (.Name "list" p1) [.Call (.Name "enumerate" p2) [l] [] pos2] [] pos1) (tLEn X.K tl):=by
 intro pins s σ H Q I h;refine wpAny_Call_Name_kw (a2c I hgL hmL boot_list ?_);refine PyProof.Rows.callWith_type1 ?_ hs2 rfl;rw[hs2];show wpAny _ _ (spliced ((false,eval (.Call (.Name "enumerate" p2) [l] [] pos2) X.env)::backTo pos1 [])) _ _ s;refine Calls.spliced_cons ?_;refine Call_ (a2c I hgR hmR boot_enum (PyProof.Rows.callWith_type1 (thn ((a0a hl a0c hs) pos2 pins s σ H (fun vs H1=>∃a xs,vs=[V.ref a]/\SqT X.K H1 a xs/\xs.length≤1000/\∀(p:Addr) (ts:List Addr) (H2:Hp),a0o H1 H2->ts.length=xs.length->(∀(n:Nat) (t:Addr) (x:V),ts[n]? =some t->xs[n]? =some x->H2 t=some (.tup [.int n,x]))->H2 p=some (.lst (ts.map V.ref))->Q (.ref p) H2) I h) fun us s1 ⟨vs,H1,I1,r1,q1⟩=>?_) hs rfl));obtain⟨a,xs,e,hq,hxl,q⟩:=q1;subst e;obtain⟨u,rfl,rx⟩:=a2n r1;cases rx;obtain⟨its,rv,pl,hz⟩:=I1.tuple hq;refine a3S (show s1.heap.IsTuple a its.toArray from pl) fun h' he hi hk=>?_;refine Calls.spliced_nil ?_;have I2:Inv X pins σ H1 { s1 with heap:=h' }:=I1.kept (t':=s1.toks) hk;have lz:s1.heap.objs.size+1<h'.objs.size:=Heap.lt_size he;have lj:s1.heap.objs.size<h'.objs.size:=Nat.lt_of_succ_lt lz;have fz:a2u X pins H1 (s1.heap.objs.size+1):=I1.fpOk (Nat.le_succ _) (I1.hok.fresh (Nat.le_succ _));have fj:a2u X pins H1 s1.heap.objs.size:=I1.fpOk (Nat.le_refl _) (I1.hok.fresh (Nat.le_refl _));have fS:a2u X pins H1 h'.objs.size:=I2.fpOk (Nat.le_refl _) (I2.hok.fresh (Nat.le_refl _));have ourS:∀H',H' h'.objs.size=none->Our X pins H' h'.objs.size:=fun H' hn=>I2.our' (Nat.le_refl _) hn;have he0:a4L h' (s1.heap.objs.size+1) s1.heap.objs.size h'.objs.size 0:=⟨_,_,_,he,.inl ⟨rfl,rfl⟩⟩;generalize s1.heap.objs.size+1=z at *;generalize s1.heap.objs.size=j at *;have hzj:z≠j:=fun e=>by
  obtain⟨_,_,_,e1,_⟩:=he0;obtain⟨o,e2,c2,_⟩:=hi;rw[← e,e1] at e2;cases e2;exact absurd (show Value.type "enumerate"=.type "tuple_iterator" from c2) (by simp)
 refine callType_codes (Q₁:=fun obj s₁=>obj=.ref h'.objs.size/\s₁={ s1 with heap:=h'.push { cls:=.type "list",data:=.seq #[] } }) F.called_list (F.typeCall_list_1 _) F.entry_list_init
  (code_list_new _ ⟨rfl,rfl⟩) fun obj s₁ h₁=>?_
 obtain⟨rfl,rfl⟩:=h₁;have hzS:z≠h'.objs.size:=Nat.ne_of_lt lz;have hjS:j≠h'.objs.size:=Nat.ne_of_lt lj;have hS:(h'.push { cls:=.type "list",data:=.seq #[] }).get? h'.objs.size=some { cls:=.type "list",data:=.seq #[] }:=Heap.get?_push_size _ rfl;have kP:∀b o,h'.get? b=some o->(h'.push { cls:=.type "list",data:=.seq #[] }).get? b=some o:=fun b o e=>hP0 _ e;have I3:Inv X pins σ H1 { s1 with heap:=h'.push { cls:=.type "list",data:=.seq #[] } }:=I2.kept (t':=s1.toks) kP;have he1:=he0.but hzS (fun b o _ e=>kP b o e);have hi1:=hi.at fun o e=>kP _ o e;generalize h'.objs.size=S at *;generalize h'.push { cls:=.type "list",data:=.seq #[] }=h2 at *;refine⟨⟨_,hS,rfl⟩,F.args_list_init_2 _ _,?_⟩;show wpAny _ _ (do let old ← Builtin.List.listItems (.ref S);Builtin.List.listUpdate (.ref S) (fun _=>#[]);letGo old.toList.reverse;Builtin.List.listExtendWith (.ref S) (.ref z) .none) _ _ _;refine wB0 ?_;unfold Builtin.List.listItems;refine wB0 (wpAny_seqItems hS rfl (wP0 ?_));show wpAny _ _ (updateSeq S (fun _=>#[]) >>= fun _=>letGo (#[]:Array Value).toList.reverse >>= fun _=>Builtin.List.listExtendWith (.ref S) (.ref z) .none) _ _ _;refine wB0 (wpAny_updateSeq hS rfl ?_);have hS₂:=Heap.get?_update_self (Obj.mapSeq (fun _=>(#[]:Array Value))) hS rfl;have kS:∀(b:Addr) (o:Obj),b≠S->h2.get? b=some o->(h2.update S (Obj.mapSeq (fun _=>(#[]:Array Value)))).get? b=some o:=fun b o hb e=>(Heap.get?_update_other _ _ (Ne.symm hb)).trans e;have I4:=I3.fp (t':=s1.toks) fS kS;have he2:=he1.but hzS kS;have hi2:=hi1.at fun o e=>kS _ o hjS e;refine wB0 (wpAny_letGo ?_);obtain⟨f0,f1,itm,ez,hf⟩:=id he2;have hT:Shared.TypeIs { s1 with heap:=h2.update S (Obj.mapSeq (fun _=>(#[]:Array Value))) } (.ref z) "enumerate":=⟨_,ez,rfl⟩;unfold Builtin.List.listExtendWith;refine wB0 (wpAny_typeOf hT ?_);have h1:Builtin.List.listSameRef (.ref S) (.ref z)=false:=by simp[Builtin.List.listSameRef,Ne.symm hzS]
 rw[if_neg (by rw[h1];decide)];refine wB0 (wpAny_pyIter_enum (s:={ s1 with heap:=h2.update S (Obj.mapSeq (fun _=>(#[]:Array Value))) }) (kS _ _ hzS (kP _ _ he)) ?_);refine wB0 (wpAny_holding ?_);unfold Builtin.List.listLengthHint;refine wB0 (wpAny_specialOf hT a9r ?_);show wpAny _ _ (specialOf (Value.ref z) (Str.ofString "__length_hint__") >>= _) _ _ _;refine wB0 (wpAny_specialOf hT a8C ?_);refine wP0 ?_;show wpAny _ _ (rule "list.extend.makes-room" >>= fun _=>Builtin.List.listTouch (.ref S) >>= fun _=>
  again (.builtin "list.extend.loop" ⟨[.ref S,.ref z,.none],[]⟩)) _ _ _
 refine wB0 (wpAny_rule ?_);refine wB0 ?_;show wpAny _ _ (updateSeq S (·.push .none) >>= fun _=>updateSeq S (·.pop)) _ _ _;refine wB0 (wpAny_updateSeq hS₂ rfl ?_);have hS₃:=Heap.get?_update_self (Obj.mapSeq (·.push Value.none)) hS₂ rfl;refine wpAny_updateSeq (hz:=by seq_fits) hS₃ rfl ?_;have hS₄:=Heap.get?_update_self (Obj.mapSeq (·.pop)) hS₃ rfl;have kT:∀(b:Addr) (o:Obj),b≠S->(h2.update S (Obj.mapSeq (fun _=>(#[]:Array Value)))).get? b=some o->(((h2.update S (Obj.mapSeq (fun _=>(#[]:Array Value)))).update S (Obj.mapSeq (·.push Value.none))).update S (Obj.mapSeq (·.pop))).get? b=some o:=
  fun b o hb e=>(Heap.get?_update_other _ _ (Ne.symm hb)).trans ((Heap.get?_update_other _ _ (Ne.symm hb)).trans e)
 have I5:=I4.fp (t':=s1.toks) fS kT;refine wP0 ⟨plainId_quiet F.plain_extend_loop _,b1a (A:=X.A.in1) (H0:=H1) (show X.A.in1.handled=none from I.ok.hd hc) hzj hzS hjS hxl (fun s' H' ts c' I' sm fS' hS' hl' ht'=>?_) xs.length 0 _ H1 [] _ rfl (Nat.zero_le _) I5 (a0o.refl _) hq fz fj fS (he2.but hzS kT) (hi2.at fun o e=>kT _ o hjS e) hS₄ rfl (fun n t x h=>nomatch h)⟩;refine⟨rfl,.ref S,upd H' S (.lst (ts.map V.ref)),I'.track (o:=.lst (ts.map V.ref)) (ourS H' fS'.1) ⟨by rw[lM0,sizeLine_eq];omega,ts.map Value.ref,c',a5u ts,hS'⟩,rfl,q S ts _ (sm.trans (a0o.upd fS'.1)) hl' (fun n t x h1 h2=>(a0o.upd fS'.1) _ _ (ht' n t x h1 h2)) a0b⟩
end
section
variable {X:Cx}
theorem b0X {body:List Stmt}{h1:ExceptHandler}{hs:List ExceptHandler}{pos:Pos}{t:TS}(hb:∀pn,PSs (X.within pn (fun _ _=>False)) body t):PS X (.Try body (h1::hs) [] [] pos) t:=by
 intro pins s σ H D I h;refine wpAny_Try_except ?_;refine wpAny_mono (hb (X.pn++pins) [] s σ H D I.within h) (fun f s₁ hf=>?_) fun e s₁ z=>z.elim;have hf':=hf.out I.ok;cases f with
 |next=>exact wP0 hf'
 |brk=>exact hf'
 |cont=>exact hf'
 |ret u=>exact hf'
end
theorem a3a {K:Fg0}{a:Addr}{xs:List V}{g:TG}{tb:TS}{D:a5w}{σ:St}{H:Hp}(Pv:Nat->St->Hp->Prop)(h0:Pv 0 σ H)(hl:∀i σ H,i≤xs.length->Pv i σ H->SqT K H a xs)
  (hs:∀i x p σ H,xs[i]? =some x->Pv i σ H->H p=none->g (.ref p) σ (upd H p (.tup [.int i,x])) fun σ2 H2=>tb { D with nx:=Pv (i+1),ct:=Pv (i+1),bk:=D.nx } σ2 H2) (hd:∀σ H,Pv xs.length σ H->D.nx σ H) :
  ∃W:Nat->Nat->St->Hp->Prop,(∃m,W 0 m σ H)/\∀i m σ H,W i m σ H →
   ((b2m K a).stop i H/\D.nx σ H)\/((b2m K a).go i H/\∃N:St->Hp->Prop,(∀σ' H',N σ' H'->∃m',m'<m/\W (i+1) m' σ' H')/\∀x H',(b2m K a).yld i H x H'->g x σ H' fun σ2 H2=>tb { D with nx:=N,ct:=N,bk:=D.nx } σ2 H2):=by
 refine⟨fun i m σ H=>m=xs.length-i/\i≤xs.length/\Pv i σ H,⟨xs.length,by simp,Nat.zero_le _,h0⟩,?_⟩;rintro i m σ H ⟨rfl,hi,p⟩;have q:=hl i σ H hi p
 by_cases hlt:i<xs.length
 ·refine .inr ⟨⟨xs,xs[i],q,by simp[hlt]⟩,Pv (i+1),fun σ' H' p'=>⟨xs.length-(i+1),by omega,rfl,hlt,p'⟩,fun x H' y=>?_⟩
  obtain⟨z,pa,hk,ex,hn,e⟩:=y;subst e ex;exact hs i z pa σ H (hk xs q) p hn
 ·have e:i=xs.length:=by omega
  subst e;exact .inl ⟨⟨xs,q,Nat.le_refl _⟩,hd σ H p⟩
end L2
namespace My
open PySem L2 PyProof.Rows
seal L2.PE L2.PT L2.PW L2.PS L2.PSs L2.PA L2.PI L2.PG L2.PGs L2.OpR L2.a1E L2.IxR L2.SlR L2.MtR L2.PIf L2.PO L2.MtM L2.PC
def idS:Sem where
 a _:=some .wh
 b _:=some .wh
 SA:=a1k
 SB:=a1k
 fw _ z _:=(z,.no)
 bw _ z _:=(z,.no)
 lf _ _ _:=.no
 ri _ _ _:=.no
 okF _:=True
 okB _:=True
 okL _:=True
 okR _:=True
def IdA (CM:Addr):MvP:=fun _ H x=>∃dx,H x=some (.ins CM dx [])
def b3o:Sp:=fun vs H Q _=>∃x y:V,vs=[x,y]/\Q y H
def b1Z:Sp:=fun vs H Q _=>∃(x y r:V) (p:Addr) (T:Str) (row:Row),vs=[x,y,.ref p,r]/\PcA H p T row/\∀t p' H',a0o H H'->PcA (cut H H') p' T row->H' t=some (.tup [.ref p',.non])->Q (.ref t) H'
abbrev ch (i:Nat):Stmt:=a3p (top 64) i
structure ClH (K:Fg0) (C:Addr):Prop where
 cl:Cls K C
 nM:a1D K C "moves"
def sfs (t:Addr):List (Str×V):=a1y "moves" (.ref t) []
theorem a9F {t:Addr}:(sfs t).lookup ("moves":Str)=some (V.ref t):=by unfold sfs;rw[a0m,if_pos rfl]
theorem a7L {t:Addr}{m:Str}(h:m≠"moves"):(sfs t).lookup m=none:=by
 unfold sfs;rw[a0m,if_neg h]
 rfl
def ChA (CH:Addr)(Mv0 Mv1:MvP):MvP:=fun d H x=>∃dx t m n,H x=some (.ins CH dx (sfs t))/\H t=some (.tup [.ref m,.ref n])/\Mv0 d H m/\Mv1 d H n
def b5t (CH:Addr):Sp:=fun vs H Q _=>∃(x dx l m n:Addr),vs=[.ref x,.ref l]/\H x=some (.ins CH dx [])/\H l=some (.lst [.ref m,.ref n])/\∀t H',(∀b o,b≠x->H b=some o->H' b=some o)->H' x=some (.ins CH dx (sfs t))->H' t=some (.tup [.ref m,.ref n])->Q .non H'
def b3y (CH:Addr):Sp:=fun vs H Q _=>∃(x dx t m n:Addr),vs=[.ref x]/\H x=some (.ins CH dx (sfs t))/\H t=some (.tup [.ref m,.ref n])/\∀l p1 p0 H',a0o H H'->H' l=some (.lst [.ref p1,.ref p0])->H' p1=some (.tup [.int 1,.ref n])->H' p0=some (.tup [.int 0,.ref m])->Q (.ref l) H'
section
variable {P:Program}{w:World}{K:Fg0}{mg:Str->Option Value}{base:Heap}{PF CH C0 C1:Addr}{Mv0 Mv1:MvP}{S:Sem}{k:Nat}
theorem b2a {i:Nat}{f:Addr}{fd:FuncData}(hi:i=0\/i=1){m q:Str}(F:Fun K m q (mo i) f fd):a0w P w K mg base CX0 1 f fd P2 b3o:=by
 rcases hi with rfl |rfl
 ·have sc:a0j P2 P2 (a0e (mo 0)):=.k (by decide +kernel)
  refine F.ok sc (fun vs H Q E h=>?_) (fun cdv A outer s H vs Q E hr h=>?_)
  ·obtain⟨x,y,rfl,_⟩:=h
   rfl
  ·obtain⟨x,y,rfl,q⟩:=h
   exact⟨_,a0f (a0p (pv 1)),_,rfl,q⟩
 ·have sc:a0j P2 P2 (a0e (mo 1)):=.k (by decide +kernel)
  refine F.ok sc (fun vs H Q E h=>?_) (fun cdv A outer s H vs Q E hr h=>?_)
  ·obtain⟨x,y,rfl,_⟩:=h
   rfl
  ·obtain⟨x,y,rfl,q⟩:=h
   exact⟨_,a0f (a0p (pv 1)),_,rfl,q⟩
theorem b0d {i:Nat}{f fC:Addr}{fd fdC:FuncData}(hi:i=2\/i=3){m q:Str}(F:Fun K m q (mo i) f fd)(B:Bl mg)(DC:Df K mg "copied" (top 37) fC fdC):a0w P w K mg base CX0 2 f fd P4 b1Z:=by
 have GC:a0w P w K mg base CX0 1 fC fdC ["piece"] a2p:=a2l DC.fn B;have bC:=DC.fn.b1 "piece" (by intros;rfl);rcases hi with rfl |rfl
 ·have sc:a0j P4 P4 (a0e (mo 2)):=.k (by decide +kernel)
  refine F.ok sc (fun vs H Q E h=>?_) (fun cdv A outer s H vs Q E hr h=>?_)
  ·obtain⟨x,y,r,p,T,row,rfl,_⟩:=h
   rfl
  ·obtain⟨x,y,r,p,T,row,rfl,hp,q⟩:=h
   refine⟨_,a0f (a0p (a0I (a0a (a0g GC hr (by rfl) DC.mg DC.fn.kp bC .nil a0k (a0a (pv 2) a0c)) (a0a a1u a0c)))),?_⟩;refine⟨_,rfl,p,T,row,rfl,hp,fun p' H1 s1 hp'=>⟨(by show 2≤sizeLine;decide),fun t ht=>?_⟩⟩;have T1:=a0o.upd (o:=.tup [.ref p',.non]) ht;exact q t p' _ (s1.trans T1) (hp'.same (a1F T1)) a0b
 ·have sc:a0j P4 P4 (a0e (mo 3)):=.k (by decide +kernel)
  refine F.ok sc (fun vs H Q E h=>?_) (fun cdv A outer s H vs Q E hr h=>?_)
  ·obtain⟨x,y,r,p,T,row,rfl,_⟩:=h
   rfl
  ·obtain⟨x,y,r,p,T,row,rfl,hp,q⟩:=h
   refine⟨_,a0f (a0p (a0I (a0a (a0g GC hr (by rfl) DC.mg DC.fn.kp bC .nil a0k (a0a (pv 2) a0c)) (a0a a1u a0c)))),?_⟩;refine⟨_,rfl,p,T,row,rfl,hp,fun p' H1 s1 hp'=>⟨(by show 2≤sizeLine;decide),fun t ht=>?_⟩⟩;have T1:=a0o.upd (o:=.tup [.ref p',.non]) ht;exact q t p' _ (s1.trans T1) (hp'.same (a1F T1)) a0b
theorem b3Z {f:Addr}{fd:FuncData}(F:Fun K "__init__" "Chain.__init__" (ch 0) f fd)(L:ClH K CH)(B:Bl mg):a0w P w K mg base CX0 1 f fd ["self","moves"] (b5t CH):=by
 have sc:a0j ["self","moves"] ["self","moves"] (a0e (ch 0)):=.k (by decide +kernel);refine F.ok sc (fun vs H Q E h=>?_) (fun cdv A outer s H vs Q E hr h=>?_)
 ·obtain⟨x,dx,l,m,n,rfl,_⟩:=h
  rfl
 ·obtain⟨x,dx,l,m,n,rfl,e,hl,q⟩:=h
  refine⟨_,a0f (a2g (pv 0) (a1a a1X (by rfl) B.tuple boot_tuple (a0a (pv 1) a0c)) rfl),?_⟩;refine⟨_,rfl,l,_,rfl,.inl ⟨SqL.of hl,fun t ht=>?_⟩⟩;have T1:=a0o.upd (o:=.tup [.ref m,.ref n]) ht;have nt:t≠x:=fun z=>by rw[z,e] at ht;cases ht
  refine⟨_,rfl,x,CH,dx,_,rfl,T1 _ _ e,L.cl,L.nM,(by decide),?_⟩;exact q t _ (fun b o nb eb=>(a0h nb).trans (T1 _ _ eb)) a0b (by rw[a0h nt];exact a0b)
theorem b3Q {f:Addr}{fd:FuncData}(F:Fun K "from_the_last" "Chain.from_the_last" (ch 3) f fd)(L:ClH K CH)(B:Bl mg)(hrev:mg "reversed"=none):a0w P w K mg base CX0 1 f fd ["self"] (b3y CH):=by
 have sc:a0j ["self"] ["self"] (a0e (ch 3)):=.k (by decide +kernel);refine F.ok sc (fun vs H Q E h=>?_) (fun cdv A outer s H vs Q E hr h=>?_)
 ·obtain⟨x,dx,t,m,n,rfl,_⟩:=h
  rfl
 ·obtain⟨x,dx,t,m,n,rfl,e,ht,q⟩:=h
  refine⟨_,a0f (a0p (a2F rfl (by rfl) B.list (by rfl) hrev (a5f rfl (by rfl) B.list (by rfl) B.enum (a0B (pv 0) rfl)))),?_⟩;refine⟨_,rfl,x,CH,dx,_,_,rfl,e,L.cl,L.nM,a9F,t,_,rfl,SqT.of ht,(by show 2≤1000;decide),fun p ts H1 s1 hl hts hp=>?_⟩;obtain⟨p0,p1,rfl⟩:∃p0 p1,ts=[p0,p1]:=by
   match ts,hl with
   |[p0,p1],_=>exact⟨p0,p1,rfl⟩
  refine⟨p,_,rfl,SqL.of hp,fun l hl=>?_⟩;have T1:=a0o.upd (o:=.lst ([p0,p1].map V.ref).reverse) hl;exact q l p1 p0 _ (s1.trans T1) a0b (T1 _ _ (hts 1 p1 (.ref n) rfl rfl)) (T1 _ _ (hts 0 p0 (.ref m) rfl rfl))
def rsA:Rs->Rs
 | .two a _=>a
 |_=>.no
def rsB:Rs->Rs
 | .two _ b=>b
 |_=>.no
def chS (S:Sem):Sem where
 a:=S.a
 b:=S.a
 SA:=S.SA
 SB:=S.SA
 fw d z r:=((S.bw d (S.fw d z (rsA r)).1 (rsB r)).1,.two (S.fw d z (rsA r)).2 (S.bw d (S.fw d z (rsA r)).1 (rsB r)).2)
 bw d z r:=((S.bw d (S.fw d z (rsB r)).1 (rsA r)).1,.two (S.bw d (S.fw d z (rsB r)).1 (rsA r)).2 (S.fw d z (rsB r)).2)
 lf d z _:=.two (S.lf d z .no) (S.ri d (S.fw d z (S.lf d z .no)).1 .no)
 ri d z r:=.two (S.ri d (S.fw d z (S.lf d z (rsB r))).1 (rsA r)) (S.lf d z (rsB r))
 okF r:=∃r0 r1,r=.two r0 r1/\S.okF r0/\S.okB r1
 okB r:=∃r0 r1,r=.two r0 r1/\S.okB r0/\S.okF r1
 okL r:=r=.no
 okR r:=∃e0 e1,r=.two e0 e1/\S.okR e0/\S.okL e1
theorem Fr.none {P:Addr}{pos:Pos}{q:Str}{H0 H1:Hp}(fr:Fr P H0 H1)(t:a0O P pos q H1){b:Addr}(h:H1 b=none):H0 b=none:=by
 cases e:H0 b with
 |none=>rfl
 |some o=>
  by_cases hb:b=P
  ·obtain⟨zs,t⟩:=t.tbl
   rw[hb,t] at h;cases h
  ·rw[fr b o hb e] at h
   cases h
theorem a1T {H H' H2:Hp}{D:Addr}(s:Ntb H' H2):Ntb (nw H D H') (nw H D H2):=fun b u e n=>a5C (b1y e) (a0T (a1b _ _ e)) (s _ _ (a0t _ _ (a1b _ _ e)) n)
theorem a2b {H H1 H2:Hp}{D:Addr}{o:HO}(z:∀b,H1 b=none->H b=none)(hD:H1 D=some o):a0o (cut H1 H2) (nw H D H2):=fun b u e=>a5C (fun x=>by have:=a0T e;rw[x,hD] at this;cases this) (z b (a0T e)) (a0t _ _ e)
theorem b0f {H H1:Hp}{D:Addr}{o:HO}(hD:H1 D=none):a0o (cut H H1) (nw H D (L2.upd H1 D o)):=fun b u e=>by
 have nb:b≠D:=fun x=>by have:=a0t _ _ e;rw[x,hD] at this;cases this
 exact a5C nb (a0T e) ((a0h nb).trans (a0t _ _ e))
def exD (D:Addr)(H:Hp):Hp:=fun b=>if b=D then none else H b
theorem a1j {D:Addr}{H:Hp}:a0o (exD D H) H:=fun b o e=>by
 unfold exD at e
 by_cases h:b=D
 ·rw[if_pos h] at e;cases e
 ·rwa [if_neg h] at e
theorem a2y {D b:Addr}{H:Hp}{o:HO}(n:b≠D)(e:H b=some o):exD D H b=some o:=by unfold exD;rw[if_neg n];exact e
theorem a6g {D b:Addr}{H:Hp}{o:HO}(e:exD D H b=some o):b≠D:=fun h=>by unfold exD at e;rw[if_pos h] at e;cases e
theorem a1l {D:Addr}{H:Hp}{o:HO}:a0o (exD D H) (exD D (L2.upd H D o)):=fun b u e=>a2y (a6g e) ((a0h (a6g e)).trans (a1j _ _ e))
theorem a1f {D:Addr}{H H':Hp}(s:Ntb H H'):Ntb (exD D H) (exD D H'):=fun b u e n=>a2y (a6g e) (s _ _ (a1j _ _ e) n)
theorem a3o {D:Addr}{H1 H2:Hp}{o:HO}(hD:H1 D=some o):a0o (cut H1 H2) (exD D H2):=fun b u e=>a2y (fun x=>by have:=a0T e;rw[x,hD] at this;cases this) (a0t _ _ e)
theorem a1O {P:Addr}{pos:Pos}{q:Str}{H:Hp}{rl:Addr}{xs:List V}{o:HO}(t:a0O P pos q H)(h:H rl=some (.lst xs)):a0O P pos q (L2.upd H rl o):=by
 have k:∀b u,H b=some u->(∀zs,u≠.lst zs)->(L2.upd H rl o) b=some u:=fun b u e n=>(a0h (fun z=>by rw[z,h] at e;cases e;exact n _ rfl)).trans e;rcases t with t |⟨c',t1,t2⟩
 ·exact .inl (k _ _ t nofun)
 ·exact .inr ⟨c',k _ _ t1 nofun,k _ _ t2 nofun⟩
theorem a1P {K:Fg0}{d:Dt}{ko:Option Kk}{H:Hp}{f rl:Addr}{xs:List V}{o:HO}(h:FoK K d ko H f)(hr:H rl=some (.lst xs)):FoK K d ko (L2.upd H rl o) f:=by
 have k:∀b u,H b=some u->(∀zs,u≠.lst zs)->(L2.upd H rl o) b=some u:=fun b u e n=>(a0h (fun z=>by rw[z,hr] at e;cases e;exact n _ rfl)).trans e;have kd:∀{a:Addr} {kk:Kk},KdH K H a kk->KdH K (L2.upd H rl o) a kk:=fun {a kk} hk=>by
  refine⟨?_,hk.2⟩;rcases hk.1 with (h1 |⟨o',h1⟩) |h1
  ·exact .inl (.inl (k _ _ h1 nofun))
  ·exact .inl (.inr ⟨o',k _ _ h1 nofun⟩)
  ·exact .inr h1
 obtain⟨cols,k2,⟨tt,e,a1,a2,ct,a3,a4⟩,b,c,g⟩:=h;refine⟨cols,k2,⟨tt,e,k _ _ a1 nofun,k _ _ a2 nofun,ct,k _ _ a3 nofun,a4.up k⟩,b,kd c,?_⟩;rcases g with g |⟨kk,k1,e1,e2,e3⟩
 ·exact .inl g
 ·exact .inr ⟨kk,k1,e1,e2,kd e3⟩
theorem RsA.same {H H':Hp}(s:a0o H H'){r:Rs}{v:V}(h:RsA H r v):RsA H' r v:=h.nt (.of s)
abbrev ivF (K:Fg0)(PF:Addr)(S:Sem)(H:Hp)(d:Dt)(z:Pt)(r0:Rs)(r1:Rs)(x:Addr)(rl:Addr)(lr:Addr):Nat->L2.St->Hp->Prop:=fun i σ H'=>Fr PF H H'/\a0O PF a0Z foQ H'/\∃f' p' u5 u6 u7 row',σ=[some (.ref x),some (.ref f'),some (.ref p'),some (.ref lr),some (.ref rl),u5,u6,u7]/\PcA (nw H rl H') p' d.T row'/\        ((i=0/\FoK K d (S.a d) H' f'/\S.SA d row' z/\H' rl=some (.lst []))\/         (i=1/\FoK K d (S.b d) H' f'/\S.SB d row' (S.fw d z r0).1/\∃w0,H' rl=some (.lst [w0])/\RsA (nw H rl H') (S.fw d z r0).2 w0)\/         (i=2/\FoK K d (S.a d) H' f'/\S.SA d row' (S.bw d (S.fw d z r0).1 r1).1/\∃w0 w1,H' rl=some (.lst [w0,w1])/\RsA (nw H rl H') (S.fw d z r0).2 w0/\RsA (nw H rl H') (S.bw d (S.fw d z r0).1 r1).2 w1))
theorem b3W (I0:Itf P w K mg base PF k C0 Mv0 S)(I1:Itf P w K mg base PF k C1 Mv1 S.turn){d:Dt}{H H':Hp}{x:Addr}(h:ChA CH Mv0 Mv1 d H x)(s:Ntb H H'):ChA CH Mv0 Mv1 d H' x:=by
 obtain⟨dx,t,m,n,a,b,c,e⟩:=h;exact⟨dx,t,m,n,s _ _ a nofun,s _ _ b nofun,I0.nt c s,I1.nt e s⟩
theorem b4C {f:Addr}{fd:FuncData}(F:Fun K "after" "Chain.after" (ch 1) f fd)(L:ClH K CH)(B:Bl mg)(I0:Itf P w K mg base PF k C0 Mv0 S)(I1:Itf P w K mg base PF k C1 Mv1 S.turn):a0w P w K mg base CX0 (k+1) f fd P2 (a8U K PF (ChA CH Mv0 Mv1) S.a S.a):=by
 obtain⟨fA,fdA,MA,bA,GA⟩:=I0.af;obtain⟨fB,fdB,MB,bB,GB⟩:=I1.af;have sc:a0j ["self","form","number","move"] P2 (a0e (ch 1)):=.k (by decide +kernel);refine F.ok sc (fun vs H Q E h=>?_) (fun cdv A outer s H vs Q E hr h=>?_)
 ·obtain⟨x,f,d,rfl,_⟩:=h
  rfl
 ·obtain⟨x,fm,d,rfl,⟨dx,t,m,n,e,ht,mv0,mv1⟩,fo,ok,tab,q⟩:=h
  refine⟨_,a0d (a1p PassesOwn.never rfl (a4n (by rfl) B.enum (a0a (a0B (pv 0) rfl) a0c)) (a1Z rfl (a0v (a0n (i:=2) sc.nd rfl (Or.inl rfl)) (a0v (a0n (i:=3) sc.nd rfl (Or.inl rfl)) a1g)))
    (a0f (b0X fun pn=>a0f (a0r (i:=1) sc.nd rfl (Or.inl rfl) (PE.or (a0A (pv 3) I0.cl MA GA hr bA .nil a0k (a0a (pv 1) a0c)) (a0A (pv 3) I1.cl MB GB hr bB .nil a0k (a0a (pv 1) a0c)))))))
   (a0f (a0p (pv 1))),?_⟩
  refine⟨_,rfl,x,CH,dx,_,_,rfl,e,L.cl,L.nM,a9F,t,rfl,⟨_,SqT.of ht⟩,a3a (K:=K) (a:=t) (xs:=[.ref m,.ref n]) (fun i σ H'=>Fr PF H H'/\a0O PF a0Z foQ H'/\∃f' u2 u3,σ=[some (.ref x),some (.ref f'),u2,u3]/\((i=1/\FoK K d (S.b d) H' f')\/(i≠1/\FoK K d (S.a d) H' f'))) ⟨.of (a0o.refl _),tab,fm,_,_,rfl,.inr ⟨by decide,fo⟩⟩ (fun i σ H' _ p=>SqT.of ((p.1.nt tab) _ _ ht nofun)) ?_ ?_⟩
  ·rintro i y tp σ H' hy ⟨fr,tab',f',u2,u3,rfl,hf⟩ htp
   have N:=fr.nt tab;have T:=a0o.upd (o:=.tup [.int i,y]) htp;refine⟨tp,_,rfl,SqT.of a0b,rfl,_,_,rfl,_,_,rfl,rfl,?_⟩;generalize upd H' tp (.tup [.int i,y])=H2 at *
   match i,hy with
   |0,hy=>
    cases hy;have mvx:=I0.nt mv0 (N.trans (.of T));obtain⟨dx',fs,e',nn⟩:=I0.ins mvx;rcases hf with ⟨z,_⟩ |⟨_,hf⟩
    ·cases z
    refine .inl ⟨_,rfl,m,dx',_,rfl,e',nn _ (by simp),_,rfl,m,f',d,rfl,mvx,hf.nt (.of T),ok,tab'.same T,fun f2 H3 fr3 tab3 hf3=>?_⟩;exact⟨(fr.trans (.of T)).trans fr3,tab3,f2,_,_,rfl,.inl ⟨rfl,hf3⟩⟩
   |1,hy=>
    cases hy;have mvx:=I1.nt mv1 (N.trans (.of T));obtain⟨dx',fs,e',nn⟩:=I1.ins mvx;have hf:FoK K d (S.b d) H' f':=by
     rcases hf with ⟨_,hf⟩ |⟨z,_⟩
     ·exact hf
     ·exact absurd rfl z
    refine .inr ⟨_,rfl,n,dx',_,rfl,e',nn _ (by simp),_,rfl,n,f',d,rfl,mvx,hf.nt (.of T),ok,tab'.same T,fun f2 H3 fr3 tab3 hf3=>?_⟩;exact⟨(fr.trans (.of T)).trans fr3,tab3,f2,_,_,rfl,.inr ⟨by decide,hf3⟩⟩
   |i+2,hy=>cases hy
  ·rintro σ H' ⟨fr,tab',f',u2,u3,rfl,hf⟩
   rcases hf with ⟨z,_⟩ |⟨_,hf⟩
   ·cases z
   exact⟨_,rfl,q f' H' fr tab' hf⟩
theorem b4o {f fC:Addr}{fd fdC:FuncData}(F:Fun K "forth" "Chain.forth" (ch 4) f fd)(L:ClH K CH)(B:Bl mg)(k2:1≤k)(DC:Df K mg "copied" (top 37) fC fdC)(I0:Itf P w K mg base PF k C0 Mv0 S)(I1:Itf P w K mg base PF k C1 Mv1 S.turn) :
  a0w P w K mg base CX0 (k+1) f fd P4 (a6P K PF (ChA CH Mv0 Mv1) S.a S.SA S.SA (chS S).okF (chS S).fw):=by
 obtain⟨fA,fdA,MA,bA,GA⟩:=I0.af;obtain⟨fB,fdB,MB,bB,GB⟩:=I1.af;obtain⟨fF,fdF,MF,bF,GF⟩:=I0.fo;obtain⟨fG,fdG,MG,bG,GG⟩:=I1.fo;have GC:a0w P w K mg base CX0 1 fC fdC ["piece"] a2p:=a2l DC.fn B;have bC:=DC.fn.b1 "piece" (by intros;rfl);have sc:a0j ["self","form","piece","rest","rights","number","move","told"] P4 (a0e (ch 4)):=.k (by decide +kernel);refine F.ok sc (fun vs H Q E h=>?_) (fun cdv A outer s H vs Q E hr h=>?_)
 ·obtain⟨x,f,p,rv,d,row,z,rs,rfl,_⟩:=h
  rfl
 ·obtain⟨x,fm,p,rv,d,row,z,rs,rfl,⟨dx,t,m,n,e,ht,mv0,mv1⟩,fo,hp,sa,hrs,⟨r0,r1,rfl,ok0,ok1⟩,ok,tab,q⟩:=h
  have hr1:a1o 1 _:=hr.mono k2;refine⟨_,a0d (a0r (i:=2) sc.nd rfl (Or.inl rfl) (a0g GC hr1 (by rfl) DC.mg DC.fn.kp bC .nil a0k (a0a (pv 2) a0c)))
   (a0d (a0r (i:=4) sc.nd rfl (Or.inl rfl) (a1t a0c))
   (a0d (a1p PassesOwn.never rfl (a4n (by rfl) B.enum (a0a (a0B (pv 0) rfl) a0c)) (a1Z rfl (a0v (a0n (i:=5) sc.nd rfl (Or.inl rfl)) (a0v (a0n (i:=6) sc.nd rfl (Or.inl rfl)) a1g)))
    (a0d (a0r (i:=7) sc.nd rfl (Or.inl rfl) (PE.or (a0A (pv 6) I0.cl MF GF hr bF .nil a0k (a0a (pv 1) (a0a (pv 2) (a0a (a0F a0V (pv 3) (pv 5) (fun _ _=>rfl)) a0c)))) (a0A (pv 6) I1.cl MG GG hr bG .nil a0k (a0a (pv 1) (a0a (pv 2) (a0a (a0F a0V (pv 3) (pv 5) (fun _ _=>rfl)) a0c))))))
    (a0d (a0r (i:=2) sc.nd rfl (Or.inl rfl) (a0F a0H (pv 7) a0i (fun _ _=>rfl)))
    (a0d (a0Y (a4l PySem.F.plainAttrs_list PySem.F.slot_list_append PySem.F.type_list_append a2K (pv 4) (a0a (a0F a0H (pv 7) a0i (fun _ _=>rfl)) a0c)))
    (a0f (a0r (i:=1) sc.nd rfl (Or.inl rfl) (PE.or (a0A (pv 6) I0.cl MA GA hr bA .nil a0k (a0a (pv 1) a0c)) (a0A (pv 6) I1.cl MB GB hr bB .nil a0k (a0a (pv 1) a0c)))))))))
   (a0f (a0p (a0I (a0a (pv 2) (a0a (pv 4) a0c))))))),?_⟩
  cases hrs with
  |@two _ _ lr v0 v1 hlr hv0 hv1=>
  refine⟨_,rfl,p,d.T,row,rfl,hp,fun p1 H1 s1 hp1=>⟨Nat.zero_le _,fun rl hrl=>?_⟩⟩;have S2:=s1.trans (a0o.upd (o:=.lst ([]:List V)) hrl);have hrl0:H rl=none:=a1e s1 hrl;refine⟨_,rfl,x,CH,dx,_,_,rfl,S2 _ _ e,L.cl,L.nM,a9F,t,rfl,⟨_,SqT.of (S2 _ _ ht)⟩,a3a (K:=K) (a:=t) (xs:=[.ref m,.ref n]) (ivF K PF S H d z r0 r1 x rl lr) ⟨.of S2,tab.same S2,fm,p1,_,_,_,row,rfl,hp1.same (b0f hrl),.inl ⟨rfl,fo.nt (.of S2),sa,a0b⟩⟩ (fun i σ H' _ p=>SqT.of ((p.1.nt tab) _ _ ht nofun)) ?_ ?_⟩
  ·rintro i y tp σ H' hy ⟨fr,tab',f',p',u5,u6,u7,row',rfl,hp',hst⟩ htp
   have T:=a0o.upd (o:=.tup [.int i,y]) htp;refine⟨tp,_,rfl,SqT.of a0b,rfl,_,_,rfl,_,_,rfl,rfl,?_⟩;generalize upd H' tp (.tup [.int i,y])=H2 at *;have fr2:=fr.trans (.of T);have tab2:=tab'.same T;have N2:Ntb H H2:=fr2.nt tab;have z2:∀b,H2 b=none->H b=none:=fun b h=>fr2.none tab2 h;have hp2:=hp'.same (a2T T);have hpc:=(hp2.same a1b).same a0t;have hlr2:=N2 _ _ hlr nofun
   match i,hy,hst with
   |0,hy,.inr (.inl hst)=>exact absurd hst.1 (by decide)
   |0,hy,.inr (.inr hst)=>exact absurd hst.1 (by decide)
   |0,hy,.inl ⟨_,hf,hsa,hrlv⟩=>
    cases hy;have mvx:=I0.nt mv0 N2;obtain⟨dx',fs,e',nn⟩:=I0.ins mvx;refine .inl ⟨_,rfl,m,dx',_,rfl,e',nn _ (by simp),_,rfl,_,rfl,_,rfl,_,rfl,lr,_,0,v0,rfl,rfl,SqL.of hlr2,rfl,m,f',p',v0,d,row',z,r0,rfl,mvx,hf.nt (.of T),hpc,hsa,hv0.nt N2,ok0,ok,tab2,fun t2 p3 w0 row3 H3 fr3 tab3 hp3 hsb hw0 ht2=>?_⟩;have N3:Ntb H2 H3:=fr3.nt tab2;have hrl2:=T _ _ hrlv;have hrl3:=N3 _ _ hrl2 nofun
    have hp4:=hp3.same (a2b z2 hrl2);have hw4:=hw0.same (a2b z2 hrl2);refine⟨_,rfl,t2,_,0,_,rfl,rfl,SqT.of ht2,rfl,_,rfl,.inl ⟨rfl,_,SqL.of hrl3⟩,_,rfl,t2,_,1,_,rfl,rfl,SqT.of ht2,rfl,rl,_,_,rfl,rfl,hrl3,(by show 0<sizeLine;decide),?_⟩;have fr4:=fr2.trans fr3;have frP:Fr PF H (upd H3 rl (.lst ([]++[w0]))):=fun b o nb eb=>(a0h (a0x eb hrl0)).trans (fr4 b o nb eb);have npf:PF≠rl:=fun h=>by
     obtain⟨zs,hz⟩:=tab.tbl;rw[h,hrl0] at hz;cases hz
    have tabP:a0O PF a0Z foQ (upd H3 rl (.lst ([]++[w0]))):=a1O tab3 hrl3;have hfP:=(a1P ((hf.nt (.of T)).nt N3) hrl3 (o:=.lst ([]++[w0])));have mvy:=I0.nt mv0 (frP.nt tab);obtain⟨dx2,fs2,e2,nn2⟩:=I0.ins mvy;refine .inl ⟨_,rfl,m,dx2,_,rfl,e2,nn2 _ (by simp),_,rfl,m,f',d,rfl,mvy,hfP,ok,tabP,fun f5 H5 fr5 tab5 hf5=>?_⟩;have N5:Ntb _ H5:=fr5.nt tabP;refine⟨frP.trans fr5,tab5,f5,p3,_,_,_,row3,rfl,(hp4.same a0X).nt (a1T N5),.inr (.inl ⟨rfl,hf5,hsb,w0,N5 _ _ a0b nofun,(hw4.same a0X).nt (a1T N5)⟩)⟩
   |1,hy,.inl hst=>exact absurd hst.1 (by decide)
   |1,hy,.inr (.inr hst)=>exact absurd hst.1 (by decide)
   |1,hy,.inr (.inl ⟨_,hf,hsa,w0,hrlv,hw0⟩)=>
    cases hy;have mvx:=I1.nt mv1 N2;obtain⟨dx',fs,e',nn⟩:=I1.ins mvx;refine .inr ⟨_,rfl,n,dx',_,rfl,e',nn _ (by simp),_,rfl,_,rfl,_,rfl,_,rfl,lr,_,1,v1,rfl,rfl,SqL.of hlr2,rfl,n,f',p',v1,d,row',(S.fw d z r0).1,r1,rfl,mvx,hf.nt (.of T),hpc,hsa,hv1.nt N2,ok1,ok,tab2,fun t2 p3 w1 row3 H3 fr3 tab3 hp3 hsb hw1 ht2=>?_⟩;have N3:Ntb H2 H3:=fr3.nt tab2;have hrl2:=T _ _ hrlv;have hrl3:=N3 _ _ hrl2 nofun
    have hp4:=hp3.same (a2b z2 hrl2);have hw4:=hw1.same (a2b z2 hrl2);have hw0':=(hw0.same (a2T T)).nt (a1T N3);refine⟨_,rfl,t2,_,0,_,rfl,rfl,SqT.of ht2,rfl,_,rfl,.inl ⟨rfl,_,SqL.of hrl3⟩,_,rfl,t2,_,1,_,rfl,rfl,SqT.of ht2,rfl,rl,_,_,rfl,rfl,hrl3,(by show 1<sizeLine;decide),?_⟩;have fr4:=fr2.trans fr3;have frP:Fr PF H (upd H3 rl (.lst ([w0]++[w1]))):=fun b o nb eb=>(a0h (a0x eb hrl0)).trans (fr4 b o nb eb);have tabP:a0O PF a0Z foQ (upd H3 rl (.lst ([w0]++[w1]))):=a1O tab3 hrl3;have hfP:=(a1P ((hf.nt (.of T)).nt N3) hrl3 (o:=.lst ([w0]++[w1])));have mvy:=I1.nt mv1 (frP.nt tab);obtain⟨dx2,fs2,e2,nn2⟩:=I1.ins mvy;refine .inr ⟨_,rfl,n,dx2,_,rfl,e2,nn2 _ (by simp),_,rfl,n,f',d,rfl,mvy,hfP,ok,tabP,fun f5 H5 fr5 tab5 hf5=>?_⟩;have N5:Ntb _ H5:=fr5.nt tabP;refine⟨frP.trans fr5,tab5,f5,p3,_,_,_,row3,rfl,(hp4.same a0X).nt (a1T N5),.inr (.inr ⟨rfl,hf5,hsb,w0,w1,N5 _ _ a0b nofun,(hw0'.same a0X).nt (a1T N5),(hw4.same a0X).nt (a1T N5)⟩)⟩
   |i+2,hy,_=>cases hy
  ·rintro σ H' ⟨fr,tab',f',p',u5,u6,u7,row',rfl,hp',hst⟩
   rcases hst with hst |hst |⟨_,hf,hsa,w0,w1,hrlv,hw0,hw1⟩
   ·exact absurd hst.1 (by show ¬(2=0);decide)
   ·exact absurd hst.1 (by show ¬(2=1);decide)
   refine⟨_,rfl,_,rfl,(by show 2≤sizeLine;decide),fun tr htr=>?_⟩;have T:=a0o.upd (o:=.tup [.ref p',.ref rl]) htr;exact q tr p' (.ref rl) row' _ (fr.trans (.of T)) (tab'.same T) ((hp'.same a1b).same (a1F T)) hsa (.two (a0J hrl0 (T _ _ hrlv)) ((hw0.same a1b).same (a1F T)) ((hw1.same a1b).same (a1F T))) a0b
theorem b0A {D:Addr}{H:Hp}{o:HO}(h:H D=none):a0o H (exD D (L2.upd H D o)):=fun b u e=>by
 have nb:b≠D:=fun z=>by rw[z,h] at e;cases e
 exact a2y nb ((a0h nb).trans e)
abbrev ivK (K:Fg0)(PF:Addr)(S:Sem)(H:Hp)(d:Dt)(z:Pt)(r0:Rs)(r1:Rs)(m:Addr)(n:Addr)(x:Addr)(rl:Addr)(lr:Addr)(l:Addr)(q1:Addr)(q0:Addr):Nat->L2.St->Hp->Prop:=fun i σ H'=>Fr PF H H'/\a0O PF a0Z foQ H'/\exD rl H' l=some (.lst [.ref q1,.ref q0])/\H' q1=some (.tup [.int 1,.ref n])/\H' q0=some (.tup [.int 0,.ref m])/\∃f' p' u5 u6 u7 row',σ=[some (.ref x),some (.ref f'),some (.ref p'),some (.ref lr),some (.ref rl),u5,u6,u7]/\PcA (nw H rl H') p' d.T row'/\        ((i=0/\FoK K d (S.a d) H' f'/\S.SA d row' z/\H' rl=some (.lst []))\/         (i=1/\FoK K d (S.b d) H' f'/\S.SB d row' (S.fw d z r1).1/\∃w0,H' rl=some (.lst [w0])/\RsA (nw H rl H') (S.fw d z r1).2 w0)\/         (i=2/\S.SA d row' (S.bw d (S.fw d z r1).1 r0).1/\∃w0 w1,H' rl=some (.lst [w0,w1])/\RsA (nw H rl H') (S.fw d z r1).2 w0/\RsA (nw H rl H') (S.bw d (S.fw d z r1).1 r0).2 w1))
abbrev ivL (K:Fg0)(PF:Addr)(S:Sem)(H:Hp)(d:Dt)(z:Pt)(x:Addr)(rl:Addr):Nat->L2.St->Hp->Prop:=fun i σ H'=>Fr PF H H'/\a0O PF a0Z foQ H'/\∃f' p' u5 u6 u7 row',σ=[some (.ref x),some (.ref f'),some (.ref p'),some .non,some (.ref rl),u5,u6,u7]/\        ((i=0/\FoK K d (S.a d) H' f'/\PcA (exD rl H') p' d.T row'/\S.SA d row' z/\H' rl=some (.lst []))\/         (i=1/\FoK K d (S.b d) H' f'/\PcA (exD rl H') p' d.T row'/\S.SB d row' (S.fw d z (S.lf d z .no)).1/\∃w0,H' rl=some (.lst [w0])/\RsA (nw H rl H') (S.lf d z .no) w0)\/         (i=2/\∃w0 w1,H' rl=some (.lst [w0,w1])/\RsA (nw H rl H') (S.lf d z .no) w0/\RsA (nw H rl H') (S.ri d (S.fw d z (S.lf d z .no)).1 .no) w1))
abbrev ivR (K:Fg0)(PF:Addr)(S:Sem)(H:Hp)(d:Dt)(z:Pt)(r0:Rs)(r1:Rs)(m:Addr)(n:Addr)(x:Addr)(rl:Addr)(lr:Addr)(l:Addr)(q1:Addr)(q0:Addr):Nat->L2.St->Hp->Prop:=fun i σ H'=>Fr PF H H'/\a0O PF a0Z foQ H'/\exD rl H' l=some (.lst [.ref q1,.ref q0])/\H' q1=some (.tup [.int 1,.ref n])/\H' q0=some (.tup [.int 0,.ref m])/\∃f' p' u5 u6 u7 row',σ=[some (.ref x),some (.ref f'),some (.ref p'),some (.ref lr),some (.ref rl),u5,u6,u7]/\        ((i=0/\FoK K d (S.a d) H' f'/\PcA (exD rl H') p' d.T row'/\S.SA d row' z/\H' rl=some (.lst []))\/         (i=1/\FoK K d (S.b d) H' f'/\PcA (exD rl H') p' d.T row'/\S.SB d row' (S.fw d z (S.lf d z r1)).1/\∃w0,H' rl=some (.lst [w0])/\RsA (nw H rl H') (S.lf d z r1) w0)\/         (i=2/\∃w0 w1,H' rl=some (.lst [w0,w1])/\RsA (nw H rl H') (S.lf d z r1) w0/\RsA (nw H rl H') (S.ri d (S.fw d z (S.lf d z r1)).1 r0) w1))
theorem b3S {f fC fL:Addr}{fd fdC fdL:FuncData}(F:Fun K "back" "Chain.back" (ch 5) f fd)(L:ClH K CH)(B:Bl mg)(k2:1≤k)(DC:Df K mg "copied" (top 37) fC fdC)(ML:a7l K CH "from_the_last" fL)(GL:a0w P w K mg base CX0 1 fL fdL ["self"] (b3y CH))(bL:a1s K fdL ["self"] [])(hrev:mg "reversed"=none)(I0:Itf P w K mg base PF k C0 Mv0 S)(I1:Itf P w K mg base PF k C1 Mv1 S.turn) :
  a0w P w K mg base CX0 (k+1) f fd P4 (a6P K PF (ChA CH Mv0 Mv1) S.a S.SA S.SA (chS S).okB (chS S).bw):=by
 obtain⟨fA,fdA,MA,bA,GA⟩:=I0.bf;obtain⟨fB,fdB,MB,bB,GB⟩:=I1.bf;obtain⟨fF,fdF,MF,bF,GF⟩:=I0.bk;obtain⟨fG,fdG,MG,bG,GG⟩:=I1.bk;have GC:a0w P w K mg base CX0 1 fC fdC ["piece"] a2p:=a2l DC.fn B;have bC:=DC.fn.b1 "piece" (by intros;rfl);have sc:a0j ["self","form","piece","rest","lefts","number","move","told"] P4 (a0e (ch 5)):=.k (by decide +kernel);refine F.ok sc (fun vs H Q E h=>?_) (fun cdv A outer s H vs Q E hr h=>?_)
 ·obtain⟨x,f,p,rv,d,row,z,rs,rfl,_⟩:=h
  rfl
 ·obtain⟨x,fm,p,rv,d,row,z,rs,rfl,⟨dx,t,m,n,e,ht,mv0,mv1⟩,fo,hp,sa,hrs,⟨r0,r1,rfl,ok0,ok1⟩,ok,tab,q⟩:=h
  have hr1:a1o 1 _:=hr.mono k2;refine⟨_,(a0d (a0r (i:=2) sc.nd rfl (Or.inl rfl) (a0g GC hr1 (by rfl) DC.mg DC.fn.kp bC .nil a0k (a0a (pv 2) a0c)))
    (a0d (a0r (i:=4) sc.nd rfl (Or.inl rfl) (a1t a0c))
    (a0d (a1p PassesOwn.never rfl (a0Q (a6i (pv 0) L.cl ML GL hr1 bL .nil a0k)) (a1Z rfl (a0v (a0n (i:=5) sc.nd rfl (Or.inl rfl)) (a0v (a0n (i:=6) sc.nd rfl (Or.inl rfl)) a1g)))
    (a0d (a0r (i:=7) sc.nd rfl (Or.inl rfl) (PE.or (a0A (pv 6) I0.cl MF GF hr bF .nil a0k (a0a (pv 1) (a0a (pv 2) (a0a (a0F a0V (pv 3) (pv 5) (fun _ _=>rfl)) a0c)))) (a0A (pv 6) I1.cl MG GG hr bG .nil a0k (a0a (pv 1) (a0a (pv 2) (a0a (a0F a0V (pv 3) (pv 5) (fun _ _=>rfl)) a0c))))))
    (a0d (a0r (i:=2) sc.nd rfl (Or.inl rfl) (a0F a0H (pv 7) a0i (fun _ _=>rfl)))
    (a0d (a0Y (a4l PySem.F.plainAttrs_list PySem.F.slot_list_append PySem.F.type_list_append a2K (pv 4) (a0a (a0F a0H (pv 7) a0i (fun _ _=>rfl)) a0c)))
    (a0f (a0r (i:=1) sc.nd rfl (Or.inl rfl) (PE.or (a0A (pv 6) I0.cl MA GA hr bA .nil a0k (a0a (pv 1) a0c)) (a0A (pv 6) I1.cl MB GB hr bB .nil a0k (a0a (pv 1) a0c)))))))))
    (a0f (a0p (a0I (a0a (pv 2) (a0a (a2F rfl (by rfl) B.list (by rfl) hrev (pv 4)) a0c)))))))),?_⟩
  cases hrs with
  |@two _ _ lr v0 v1 hlr hv0 hv1=>
  refine⟨_,rfl,p,d.T,row,rfl,hp,fun p1 H1 s1 hp1=>⟨Nat.zero_le _,fun rl hrl=>?_⟩⟩;have S2:=s1.trans (a0o.upd (o:=.lst ([]:List V)) hrl);have erl:=a0b (H:=H1) (a:=rl) (o:=.lst ([]:List V));have hp1:=hp1.same (b0f (o:=.lst ([]:List V)) hrl);have hrl0:H rl=none:=a1e s1 hrl;generalize upd H1 rl (.lst ([]:List V))=Hx at *;refine⟨_,rfl,x,dx,_,rfl,S2 _ _ e,a7L (by decide),x,dx,t,m,n,rfl,S2 _ _ e,S2 _ _ ht,fun l q1 q0 Hy sy hl hq1 hq0=>?_⟩;have S3:=S2.trans sy;refine⟨l,rfl,⟨_,SqL.of hl⟩,a1v (K:=K) (a:=l) (xs:=[.ref q1,.ref q0]) (ivK K PF S H d z r0 r1 m n x rl lr l q1 q0) ⟨.of S3,tab.same S3,a2y (fun z=>by rw[z,sy _ _ erl] at hl;cases hl) hl,hq1,hq0,fm,p1,_,_,_,row,rfl,hp1.same (a2T sy),.inl ⟨rfl,fo.nt (.of S3),sa,sy _ _ erl⟩⟩ (fun i σ H' _ p=>SqL.of (a1j _ _ p.2.2.1)) ?_ ?_⟩
  ·rintro i y σ H2 hy ⟨fr2,tab2,hl2,hq1,hq0,f',p',u5,u6,u7,row',rfl,hp2,hst⟩
   have N2:Ntb H H2:=fr2.nt tab;have z2:∀b,H2 b=none->H b=none:=fun b h=>fr2.none tab2 h;have hpc:=(hp2.same a1b).same a0t;have hlr2:=N2 _ _ hlr nofun
   match i,hy,hst with
   |0,hy,.inr (.inl hst)=>exact absurd hst.1 (by decide)
   |0,hy,.inr (.inr hst)=>exact absurd hst.1 (by decide)
   |0,hy,.inl ⟨_,hf,hsa,hrlv⟩=>
    cases hy;refine⟨q1,_,rfl,SqT.of hq1,rfl,_,_,rfl,_,_,rfl,rfl,?_⟩;have mvx:=I1.nt mv1 N2;obtain⟨dx',fs,e',nn⟩:=I1.ins mvx;refine .inr ⟨_,rfl,n,dx',_,rfl,e',nn _ (by simp),_,rfl,_,rfl,_,rfl,_,rfl,lr,_,1,v1,rfl,rfl,SqL.of hlr2,rfl,n,f',p',v1,d,row',z,r1,rfl,mvx,hf,hpc,hsa,hv1.nt N2,ok1,ok,tab2,fun t2 p3 w0 row3 H3 fr3 tab3 hp3 hsb hw0 ht2=>?_⟩;have N3:Ntb H2 H3:=fr3.nt tab2;have hrl3:=N3 _ _ hrlv nofun
    have hp4:=hp3.same (a2b z2 hrlv);have hw4:=hw0.same (a2b z2 hrlv);refine⟨_,rfl,t2,_,0,_,rfl,rfl,SqT.of ht2,rfl,_,rfl,.inl ⟨rfl,_,SqL.of hrl3⟩,_,rfl,t2,_,1,_,rfl,rfl,SqT.of ht2,rfl,rl,_,_,rfl,rfl,hrl3,(by show 0<sizeLine;decide),?_⟩;have fr4:=fr2.trans fr3;have frP:Fr PF H (upd H3 rl (.lst ([]++[w0]))):=fun b o nb eb=>(a0h (a0x eb hrl0)).trans (fr4 b o nb eb);have tabP:a0O PF a0Z foQ (upd H3 rl (.lst ([]++[w0]))):=a1O tab3 hrl3;have hfP:=(a1P (hf.nt N3) hrl3 (o:=.lst ([]++[w0])));have mvy:=I1.nt mv1 (frP.nt tab);obtain⟨dx2,fs2,e2,nn2⟩:=I1.ins mvy;refine .inr ⟨_,rfl,n,dx2,_,rfl,e2,nn2 _ (by simp),_,rfl,n,f',d,rfl,mvy,hfP,ok,tabP,fun f5 H5 fr5 tab5 hf5=>?_⟩;have N5:Ntb _ H5:=fr5.nt tabP;have tq:∀{b:Addr} {xs:List V},H2 b=some (.tup xs)->H5 b=some (.tup xs):=fun {b xs} h=>N5 _ _ ((a0h (fun z=>by rw[z,hrlv] at h;cases h)).trans (N3 _ _ h nofun)) nofun
    refine⟨frP.trans fr5,tab5,a1f N5 _ _ (a1l _ _ (a1f N3 _ _ hl2 nofun)) nofun,tq hq1,tq hq0,f5,p3,_,_,_,row3,rfl,(hp4.same a0X).nt (a1T N5),.inr (.inl ⟨rfl,hf5,hsb,w0,N5 _ _ a0b nofun,(hw4.same a0X).nt (a1T N5)⟩)⟩
   |1,hy,.inl hst=>exact absurd hst.1 (by decide)
   |1,hy,.inr (.inr hst)=>exact absurd hst.1 (by decide)
   |1,hy,.inr (.inl ⟨_,hf,hsa,w0,hrlv,hw0⟩)=>
    cases hy;refine⟨q0,_,rfl,SqT.of hq0,rfl,_,_,rfl,_,_,rfl,rfl,?_⟩;have mvx:=I0.nt mv0 N2;obtain⟨dx',fs,e',nn⟩:=I0.ins mvx;refine .inl ⟨_,rfl,m,dx',_,rfl,e',nn _ (by simp),_,rfl,_,rfl,_,rfl,_,rfl,lr,_,0,v0,rfl,rfl,SqL.of hlr2,rfl,m,f',p',v0,d,row',(S.fw d z r1).1,r0,rfl,mvx,hf,hpc,hsa,hv0.nt N2,ok0,ok,tab2,fun t2 p3 w1 row3 H3 fr3 tab3 hp3 hsb hw1 ht2=>?_⟩;have N3:Ntb H2 H3:=fr3.nt tab2;have hrl3:=N3 _ _ hrlv nofun
    have hp4:=hp3.same (a2b z2 hrlv);have hw4:=hw1.same (a2b z2 hrlv);have hw0':=hw0.nt (a1T N3);refine⟨_,rfl,t2,_,0,_,rfl,rfl,SqT.of ht2,rfl,_,rfl,.inl ⟨rfl,_,SqL.of hrl3⟩,_,rfl,t2,_,1,_,rfl,rfl,SqT.of ht2,rfl,rl,_,_,rfl,rfl,hrl3,(by show 1<sizeLine;decide),?_⟩;have fr4:=fr2.trans fr3;have frP:Fr PF H (upd H3 rl (.lst ([w0]++[w1]))):=fun b o nb eb=>(a0h (a0x eb hrl0)).trans (fr4 b o nb eb);have tabP:a0O PF a0Z foQ (upd H3 rl (.lst ([w0]++[w1]))):=a1O tab3 hrl3;have hfP:=(a1P (hf.nt N3) hrl3 (o:=.lst ([w0]++[w1])));have mvy:=I0.nt mv0 (frP.nt tab);obtain⟨dx2,fs2,e2,nn2⟩:=I0.ins mvy;refine .inl ⟨_,rfl,m,dx2,_,rfl,e2,nn2 _ (by simp),_,rfl,m,f',d,rfl,mvy,hfP,ok,tabP,fun f5 H5 fr5 tab5 hf5=>?_⟩;have N5:Ntb _ H5:=fr5.nt tabP;have tq:∀{b:Addr} {xs:List V},H2 b=some (.tup xs)->H5 b=some (.tup xs):=fun {b xs} h=>N5 _ _ ((a0h (fun z=>by rw[z,hrlv] at h;cases h)).trans (N3 _ _ h nofun)) nofun
    refine⟨frP.trans fr5,tab5,a1f N5 _ _ (a1l _ _ (a1f N3 _ _ hl2 nofun)) nofun,tq hq1,tq hq0,f5,p3,_,_,_,row3,rfl,(hp4.same a0X).nt (a1T N5),.inr (.inr ⟨rfl,hsb,w0,w1,N5 _ _ a0b nofun,(hw0'.same a0X).nt (a1T N5),(hw4.same a0X).nt (a1T N5)⟩)⟩
   |i+2,hy,_=>cases hy
  ·rintro σ H' ⟨fr,tab',_,_,_,f',p',u5,u6,u7,row',rfl,hp',hst⟩
   rcases hst with hst |hst |⟨_,hsa,w0,w1,hrlv,hw0,hw1⟩
   ·exact absurd hst.1 (by show ¬(2=0);decide)
   ·exact absurd hst.1 (by show ¬(2=1);decide)
   have z':∀b,H' b=none->H b=none:=fun b h=>fr.none tab' h;refine⟨_,rfl,_,rfl,rl,_,rfl,SqL.of hrlv,fun rr hrr=>?_⟩;have T1:=a0o.upd (o:=.lst [w1,w0]) hrr;refine⟨(by show 2≤sizeLine;decide),fun tr htr=>?_⟩;have T:=T1.trans (a0o.upd (o:=.tup [.ref p',.ref rr]) htr);exact q tr p' (.ref rr) row' _ (fr.trans (.of T)) (tab'.same T) ((hp'.same a1b).same (a1F T)) hsa (.two (a0J (z' _ hrr) ((a0o.upd htr) _ _ a0b)) ((hw1.same a1b).same (a1F T)) ((hw0.same a1b).same (a1F T))) a0b
theorem b5j {f fP:Addr}{fd fdP:FuncData}(F:a6l K "left" "Chain.left" (ch 6) f fd)(L:ClH K CH)(B:Bl mg)(k2:1≤k)(so:S.Ok)(DP:Df K mg "at_place" (top 50) fP fdP)  (I0:Itf P w K mg base PF k C0 Mv0 S)(I1:Itf P w K mg base PF k C1 Mv1 S.turn) :
  a0w P w K mg base CX0 (k+1) f fd P4 (a7x K PF (ChA CH Mv0 Mv1) S.a S.SA (chS S).okL (chS S).lf):=by
 obtain⟨fA,fdA,MA,bA,GA⟩:=I0.af;obtain⟨fB,fdB,MB,bB,GB⟩:=I1.af;obtain⟨fF,fdF,MF,bF,GF⟩:=I0.fo;obtain⟨fG,fdG,MG,bG,GG⟩:=I1.fo;obtain⟨fQ,fdQ,ML,bL,_,GL⟩:=I0.le;obtain⟨fN,fdN,MN,bN,_,GN⟩:=I1.le;have GP:a0w P w K mg base CX0 1 fP fdP ["rest","place","other"] b1u:=a9l DP.fn B;have bP:=DP.fn.b3 "rest" "place" "other" (by intros;rfl);have sc:a0j ["self","form","piece","rest","lefts","number","move","own"] P4 (a0e (ch 6)):=.k (by decide +kernel);refine F.ok sc (fun vs H Q E h=>?_) (fun cdv A outer s H vs Q E hr h=>?_)
 ·obtain⟨x,f,p,rv,d,row,z,rs,rfl,_⟩:=h
  rfl
 ·obtain⟨x,fm,p,rv,d,row,z,rs,rfl,⟨dx,t,m,n,e,ht,mv0,mv1⟩,fo,hp,sa,hrs,okr,ok,tab,q⟩:=h
  have hr1:a1o 1 _:=hr.mono k2;refine⟨_,(a0d (a0r (i:=4) sc.nd rfl (Or.inl rfl) (a1t a0c))
    (a0d (a1p PassesOwn.never rfl (a4n (by rfl) B.enum (a0a (a0B (pv 0) rfl) a0c)) (a1Z rfl (a0v (a0n (i:=5) sc.nd rfl (Or.inl rfl)) (a0v (a0n (i:=6) sc.nd rfl (Or.inl rfl)) a1g)))
    (a0d (a0r (i:=7) sc.nd rfl (Or.inl rfl) (PE.or (a0A (pv 6) I0.cl ML GL hr bL .nil a0k (a0a (pv 1) (a0a (pv 2) (a0a (a0g GP hr1 (by rfl) DP.mg DP.fn.kp bP .nil a0k (a0a (pv 3) (a0a (pv 5) (a0a a1u a0c)))) a0c)))) (a0A (pv 6) I1.cl MN GN hr bN .nil a0k (a0a (pv 1) (a0a (pv 2) (a0a (a0g GP hr1 (by rfl) DP.mg DP.fn.kp bP .nil a0k (a0a (pv 3) (a0a (pv 5) (a0a a1u a0c)))) a0c))))))
    (a0d (a0Y (a4l PySem.F.plainAttrs_list PySem.F.slot_list_append PySem.F.type_list_append a2K (pv 4) (a0a (pv 7) a0c)))
    (a0d (a0r (i:=2) sc.nd rfl (Or.inl rfl) (a0F a0H (PE.or (a0A (pv 6) I0.cl MF GF hr bF .nil a0k (a0a (pv 1) (a0a (pv 2) (a0a (pv 7) a0c)))) (a0A (pv 6) I1.cl MG GG hr bG .nil a0k (a0a (pv 1) (a0a (pv 2) (a0a (pv 7) a0c))))) a0i (fun _ _=>rfl)))
    (a0f (a0r (i:=1) sc.nd rfl (Or.inl rfl) (PE.or (a0A (pv 6) I0.cl MA GA hr bA .nil a0k (a0a (pv 1) a0c)) (a0A (pv 6) I1.cl MB GB hr bB .nil a0k (a0a (pv 1) a0c)))))))))
    (a0f (a0p (pv 4))))),?_⟩
  cases(show rs=.no from okr)
  cases hrs;refine⟨Nat.zero_le _,fun rl hrl0=>?_⟩;have S2:=a0o.upd (o:=.lst ([]:List V)) hrl0;refine⟨_,rfl,x,CH,dx,_,_,rfl,S2 _ _ e,L.cl,L.nM,a9F,t,rfl,⟨_,SqT.of (S2 _ _ ht)⟩,a3a (K:=K) (a:=t) (xs:=[.ref m,.ref n]) (ivL K PF S H d z x rl) ⟨.of S2,tab.same S2,fm,p,_,_,_,row,rfl,.inl ⟨rfl,fo.nt (.of S2),hp.same (b0A hrl0),sa,a0b⟩⟩ (fun i σ H' _ p=>SqT.of ((p.1.nt tab) _ _ ht nofun)) ?_ ?_⟩
  ·rintro i y tp σ H' hy ⟨fr,tab',f',p',u5,u6,u7,row',rfl,hst⟩ htp
   have T:=a0o.upd (o:=.tup [.int i,y]) htp;refine⟨tp,_,rfl,SqT.of a0b,rfl,_,_,rfl,_,_,rfl,rfl,?_⟩;generalize upd H' tp (.tup [.int i,y])=H2 at *;have fr2:=fr.trans (.of T);have tab2:=tab'.same T;have N2:Ntb H H2:=fr2.nt tab;have z2:∀b,H2 b=none->H b=none:=fun b h=>fr2.none tab2 h
   match i,hy,hst with
   |0,hy,.inr (.inl hst)=>exact absurd hst.1 (by decide)
   |0,hy,.inr (.inr hst)=>exact absurd hst.1 (by decide)
   |0,hy,.inl ⟨_,hf,hpx,hsa,hrlv⟩=>
    cases hy;have hf:=hf.nt (.of T);have hrlv:=T _ _ hrlv;have hpx:=hpx.nt (a1f (.of T));have hpc:=hpx.same a1j;have mvx:=I0.nt mv0 N2;obtain⟨dx',fs,e',nn⟩:=I0.ins mvx;refine .inl ⟨_,rfl,m,dx',_,rfl,e',nn _ (by simp),_,rfl,_,rfl,_,rfl,_,rfl,.non,0,.non,rfl,.inl ⟨rfl,m,f',p',.non,d,row',z,.no,rfl,mvx,hf,hpc,hsa,.no,so.l0,ok,tab2,fun w0 H3 fr3 tab3 hw=>?_⟩⟩;have N3:Ntb H2 H3:=fr3.nt tab2;have hrl3:=N3 _ _ hrlv nofun
    have hw4:=hw.same (a2b z2 hrlv);refine⟨_,rfl,.inl ⟨rfl,_,SqL.of hrl3⟩,_,rfl,rl,_,_,rfl,rfl,hrl3,(by show 0<sizeLine;decide),?_⟩;have fr4:=fr2.trans fr3;have frP:Fr PF H (upd H3 rl (.lst ([]++[w0]))):=fun b o nb eb=>(a0h (a0x eb hrl0)).trans (fr4 b o nb eb);have tabP:a0O PF a0Z foQ (upd H3 rl (.lst ([]++[w0]))):=a1O tab3 hrl3;have hfP:=(a1P (hf.nt N3) hrl3 (o:=.lst ([]++[w0])));have hrlP:=a0b (H:=H3) (a:=rl) (o:=.lst ([]++[w0]));have hwP:=hw4.same (a0X (o:=.lst ([]++[w0])));have hpP:=((hpx.nt (a1f N3)).same (a1l (o:=.lst ([]++[w0])))).same a1j;generalize upd H3 rl (.lst ([]++[w0]))=H4 at *;have NP:Ntb H H4:=frP.nt tab;have mvy:=I0.nt mv0 NP;obtain⟨dx2,fs2,e2,nn2⟩:=I0.ins mvy;have zP:∀b,H4 b=none->H b=none:=fun b h=>frP.none tabP h;refine .inl ⟨_,rfl,m,dx2,_,rfl,e2,nn2 _ (by simp),_,rfl,_,rfl,_,rfl,m,f',p',_,d,row',z,_,rfl,mvy,hfP,hpP,hsa,(hwP.same a1b).same a0t,(so.lF _ _ _ so.l0),ok,tabP,fun t2 p3 v3 row3 H5 fr5 tab5 hp5 hsb hv5 ht2=>?_⟩;have N5:Ntb H4 H5:=fr5.nt tabP;refine⟨t2,_,0,_,rfl,rfl,SqT.of ht2,rfl,?_⟩;have mvz:=I0.nt mvy N5;obtain⟨dx3,fs3,e3,nn3⟩:=I0.ins mvz;refine .inl ⟨_,rfl,m,dx3,_,rfl,e3,nn3 _ (by simp),_,rfl,m,f',d,rfl,mvz,hfP.nt N5,ok,tab5,fun f6 H6 fr6 tab6 hf6=>?_⟩;have N6:Ntb H4 H6:=N5.trans (fr6.nt tab5);have hp5:=hp5.same (a3o hrlP);exact⟨frP.trans (fr5.trans fr6),tab6,f6,p3,_,_,_,row3,rfl,.inr (.inl ⟨rfl,hf6,hp5.nt (a1f (fr6.nt tab5)),hsb,w0,N6 _ _ hrlP nofun,hwP.nt (a1T N6)⟩)⟩
   |1,hy,.inl hst=>exact absurd hst.1 (by decide)
   |1,hy,.inr (.inr hst)=>exact absurd hst.1 (by decide)
   |1,hy,.inr (.inl ⟨_,hf,hpx,hsa,w0,hrlv,hw0⟩)=>
    cases hy;have hf:=hf.nt (.of T);have hrlv:=T _ _ hrlv;have hw0:=hw0.same (a2T T);have hpx:=hpx.nt (a1f (.of T));have hpc:=hpx.same a1j;have mvx:=I1.nt mv1 N2;obtain⟨dx',fs,e',nn⟩:=I1.ins mvx;refine .inr ⟨_,rfl,n,dx',_,rfl,e',nn _ (by simp),_,rfl,_,rfl,_,rfl,_,rfl,.non,1,.non,rfl,.inl ⟨rfl,n,f',p',.non,d,row',(S.fw d z (S.lf d z .no)).1,.no,rfl,mvx,hf,hpc,hsa,.no,so.r0,ok,tab2,fun w1 H3 fr3 tab3 hw=>?_⟩⟩;have N3:Ntb H2 H3:=fr3.nt tab2;have hrl3:=N3 _ _ hrlv nofun
    have hw4:=hw.same (a2b z2 hrlv);have hw0':=hw0.nt (a1T N3);refine⟨_,rfl,.inl ⟨rfl,_,SqL.of hrl3⟩,_,rfl,rl,_,_,rfl,rfl,hrl3,(by show 1<sizeLine;decide),?_⟩;have fr4:=fr2.trans fr3;have frP:Fr PF H (upd H3 rl (.lst ([w0]++[w1]))):=fun b o nb eb=>(a0h (a0x eb hrl0)).trans (fr4 b o nb eb);have tabP:a0O PF a0Z foQ (upd H3 rl (.lst ([w0]++[w1]))):=a1O tab3 hrl3;have hfP:=(a1P (hf.nt N3) hrl3 (o:=.lst ([w0]++[w1])));have hrlP:=a0b (H:=H3) (a:=rl) (o:=.lst ([w0]++[w1]));have hwP:=hw4.same (a0X (o:=.lst ([w0]++[w1])));have hpP:=((hpx.nt (a1f N3)).same (a1l (o:=.lst ([w0]++[w1])))).same a1j;have hw0P:=hw0'.same (a0X (o:=.lst ([w0]++[w1])));generalize upd H3 rl (.lst ([w0]++[w1]))=H4 at *;have NP:Ntb H H4:=frP.nt tab;have mvy:=I1.nt mv1 NP;obtain⟨dx2,fs2,e2,nn2⟩:=I1.ins mvy;have zP:∀b,H4 b=none->H b=none:=fun b h=>frP.none tabP h;refine .inr ⟨_,rfl,n,dx2,_,rfl,e2,nn2 _ (by simp),_,rfl,_,rfl,_,rfl,n,f',p',_,d,row',(S.fw d z (S.lf d z .no)).1,_,rfl,mvy,hfP,hpP,hsa,(hwP.same a1b).same a0t,(so.rB _ _ _ so.r0),ok,tabP,fun t2 p3 v3 row3 H5 fr5 tab5 hp5 hsb hv5 ht2=>?_⟩;have N5:Ntb H4 H5:=fr5.nt tabP;refine⟨t2,_,0,_,rfl,rfl,SqT.of ht2,rfl,?_⟩;have mvz:=I1.nt mvy N5;obtain⟨dx3,fs3,e3,nn3⟩:=I1.ins mvz;refine .inr ⟨_,rfl,n,dx3,_,rfl,e3,nn3 _ (by simp),_,rfl,n,f',d,rfl,mvz,hfP.nt N5,ok,tab5,fun f6 H6 fr6 tab6 hf6=>?_⟩;have N6:Ntb H4 H6:=N5.trans (fr6.nt tab5);exact⟨frP.trans (fr5.trans fr6),tab6,f6,p3,_,_,_,row3,rfl,.inr (.inr ⟨rfl,w0,w1,N6 _ _ hrlP nofun,hw0P.nt (a1T N6),hwP.nt (a1T N6)⟩)⟩
   |i+2,hy,_=>cases hy
  ·rintro σ H' ⟨fr,tab',f',p',u5,u6,u7,row',rfl,hst⟩
   rcases hst with hst |hst |⟨_,w0,w1,hrlv,hw0,hw1⟩
   ·exact absurd hst.1 (by show ¬(2=0);decide)
   ·exact absurd hst.1 (by show ¬(2=1);decide)
   exact⟨_,rfl,q (.ref rl) H' fr tab' (.two (a0J hrl0 hrlv) (hw0.same a1b) (hw1.same a1b))⟩
theorem b4x {f fP fL:Addr}{fd fdP fdL:FuncData}(F:a6l K "right" "Chain.right" (ch 7) f fd)(L:ClH K CH)(B:Bl mg)(k2:1≤k)(so:S.Ok)(DP:Df K mg "at_place" (top 50) fP fdP)(ML:a7l K CH "from_the_last" fL)(GL:a0w P w K mg base CX0 1 fL fdL ["self"] (b3y CH))(bL:a1s K fdL ["self"] [])(hrev:mg "reversed"=none)(I0:Itf P w K mg base PF k C0 Mv0 S)(I1:Itf P w K mg base PF k C1 Mv1 S.turn) :
  a0w P w K mg base CX0 (k+1) f fd P4 (a7x K PF (ChA CH Mv0 Mv1) S.a S.SA (chS S).okR (chS S).ri):=by
 obtain⟨fA,fdA,MA,bA,GA⟩:=I0.bf;obtain⟨fB,fdB,MB,bB,GB⟩:=I1.bf;obtain⟨fF,fdF,MF,bF,GF⟩:=I0.bk;obtain⟨fG,fdG,MG,bG,GG⟩:=I1.bk;obtain⟨fQ,fdQ,MQ,bQ,_,GQ⟩:=I0.ri;obtain⟨fN,fdN,MN,bN,_,GN⟩:=I1.ri;have GP:a0w P w K mg base CX0 1 fP fdP ["rest","place","other"] b1u:=a9l DP.fn B;have bP:=DP.fn.b3 "rest" "place" "other" (by intros;rfl);have sc:a0j ["self","form","piece","rest","rights","number","move","own"] P4 (a0e (ch 7)):=.k (by decide +kernel);refine F.ok sc (fun vs H Q E h=>?_) (fun cdv A outer s H vs Q E hr h=>?_)
 ·obtain⟨x,f,p,rv,d,row,z,rs,rfl,_⟩:=h
  rfl
 ·obtain⟨x,fm,p,rv,d,row,z,rs,rfl,⟨dx,t,m,n,e,ht,mv0,mv1⟩,fo,hp,sa,hrs,okr,ok,tab,q⟩:=h
  have hr1:a1o 1 _:=hr.mono k2;refine⟨_,(a0d (a0r (i:=4) sc.nd rfl (Or.inl rfl) (a1t a0c))
    (a0d (a1p PassesOwn.never rfl (a0Q (a6i (pv 0) L.cl ML GL hr1 bL .nil a0k)) (a1Z rfl (a0v (a0n (i:=5) sc.nd rfl (Or.inl rfl)) (a0v (a0n (i:=6) sc.nd rfl (Or.inl rfl)) a1g)))
    (a0d (a0r (i:=7) sc.nd rfl (Or.inl rfl) (PE.or (a0A (pv 6) I0.cl MQ GQ hr bQ .nil a0k (a0a (pv 1) (a0a (pv 2) (a0a (a0g GP hr1 (by rfl) DP.mg DP.fn.kp bP .nil a0k (a0a (pv 3) (a0a (pv 5) (a0a a1u a0c)))) a0c)))) (a0A (pv 6) I1.cl MN GN hr bN .nil a0k (a0a (pv 1) (a0a (pv 2) (a0a (a0g GP hr1 (by rfl) DP.mg DP.fn.kp bP .nil a0k (a0a (pv 3) (a0a (pv 5) (a0a a1u a0c)))) a0c))))))
    (a0d (a0Y (a4l PySem.F.plainAttrs_list PySem.F.slot_list_append PySem.F.type_list_append a2K (pv 4) (a0a (pv 7) a0c)))
    (a0d (a0r (i:=2) sc.nd rfl (Or.inl rfl) (a0F a0H (PE.or (a0A (pv 6) I0.cl MF GF hr bF .nil a0k (a0a (pv 1) (a0a (pv 2) (a0a (pv 7) a0c)))) (a0A (pv 6) I1.cl MG GG hr bG .nil a0k (a0a (pv 1) (a0a (pv 2) (a0a (pv 7) a0c))))) a0i (fun _ _=>rfl)))
    (a0f (a0r (i:=1) sc.nd rfl (Or.inl rfl) (PE.or (a0A (pv 6) I0.cl MA GA hr bA .nil a0k (a0a (pv 1) a0c)) (a0A (pv 6) I1.cl MB GB hr bB .nil a0k (a0a (pv 1) a0c)))))))))
    (a0f (a0p (a2F rfl (by rfl) B.list (by rfl) hrev (pv 4)))))),?_⟩
  obtain⟨r0,r1,rfl,ok0,ok1⟩:=okr;cases hrs with
  |@two _ _ lr v0 v1 hlr hv0 hv1=>
  refine⟨Nat.zero_le _,fun rl hrl0=>?_⟩;have S2:=a0o.upd (o:=.lst ([]:List V)) hrl0;have erl:=a0b (H:=H) (a:=rl) (o:=.lst ([]:List V));have hp0:=hp.same (b0A (o:=.lst ([]:List V)) hrl0);generalize upd H rl (.lst ([]:List V))=Hx at *;refine⟨_,rfl,x,dx,_,rfl,S2 _ _ e,a7L (by decide),x,dx,t,m,n,rfl,S2 _ _ e,S2 _ _ ht,fun l q1 q0 Hy sy hl hq1 hq0=>?_⟩;have S3:=S2.trans sy;refine⟨l,rfl,⟨_,SqL.of hl⟩,a1v (K:=K) (a:=l) (xs:=[.ref q1,.ref q0]) (ivR K PF S H d z r0 r1 m n x rl lr l q1 q0) ⟨.of S3,tab.same S3,a2y (fun z=>by rw[z,sy _ _ erl] at hl;cases hl) hl,hq1,hq0,fm,p,_,_,_,row,rfl,.inl ⟨rfl,fo.nt (.of S3),hp0.nt (a1f (.of sy)),sa,sy _ _ erl⟩⟩ (fun i σ H' _ p=>SqL.of (a1j _ _ p.2.2.1)) ?_ ?_⟩
  ·rintro i y σ H2 hy ⟨fr2,tab2,hl2,hq1,hq0,f',p',u5,u6,u7,row',rfl,hst⟩
   have N2:Ntb H H2:=fr2.nt tab;have z2:∀b,H2 b=none->H b=none:=fun b h=>fr2.none tab2 h;have hlr2:=N2 _ _ hlr nofun
   match i,hy,hst with
   |0,hy,.inr (.inl hst)=>exact absurd hst.1 (by decide)
   |0,hy,.inr (.inr hst)=>exact absurd hst.1 (by decide)
   |0,hy,.inl ⟨_,hf,hpx,hsa,hrlv⟩=>
    cases hy;refine⟨q1,_,rfl,SqT.of hq1,rfl,_,_,rfl,_,_,rfl,rfl,?_⟩;have hpc:=hpx.same a1j;have mvx:=I1.nt mv1 N2;obtain⟨dx',fs,e',nn⟩:=I1.ins mvx;refine .inr ⟨_,rfl,n,dx',_,rfl,e',nn _ (by simp),_,rfl,_,rfl,_,rfl,_,rfl,(.ref lr),1,.non,rfl,.inr ⟨lr,_,v1,rfl,hlr2,rfl,n,f',p',v1,d,row',z,r1,rfl,mvx,hf,hpc,hsa,hv1.nt N2,ok1,ok,tab2,fun w0 H3 fr3 tab3 hw=>?_⟩⟩;have N3:Ntb H2 H3:=fr3.nt tab2;have hrl3:=N3 _ _ hrlv nofun
    have hw4:=hw.same (a2b z2 hrlv);refine⟨_,rfl,.inl ⟨rfl,_,SqL.of hrl3⟩,_,rfl,rl,_,_,rfl,rfl,hrl3,(by show 0<sizeLine;decide),?_⟩;have fr4:=fr2.trans fr3;have frP:Fr PF H (upd H3 rl (.lst ([]++[w0]))):=fun b o nb eb=>(a0h (a0x eb hrl0)).trans (fr4 b o nb eb);have tabP:a0O PF a0Z foQ (upd H3 rl (.lst ([]++[w0]))):=a1O tab3 hrl3;have hfP:=(a1P (hf.nt N3) hrl3 (o:=.lst ([]++[w0])));have hrlP:=a0b (H:=H3) (a:=rl) (o:=.lst ([]++[w0]));have hwP:=hw4.same (a0X (o:=.lst ([]++[w0])));have hpP:=((hpx.nt (a1f N3)).same (a1l (o:=.lst ([]++[w0])))).same a1j;have tq:∀{b:Addr} {xs:List V},H2 b=some (.tup xs)->(upd H3 rl (.lst ([]++[w0]))) b=some (.tup xs):=fun {b xs} h=>(a0h (fun z=>by rw[z,hrlv] at h;cases h)).trans (N3 _ _ h nofun);have hqa:=tq hq1;have hqb:=tq hq0;have hlP:=a1l (o:=.lst ([]++[w0])) _ _ (a1f N3 _ _ hl2 nofun);generalize upd H3 rl (.lst ([]++[w0]))=H4 at *;have NP:Ntb H H4:=frP.nt tab;have mvy:=I1.nt mv1 NP;obtain⟨dx2,fs2,e2,nn2⟩:=I1.ins mvy;have zP:∀b,H4 b=none->H b=none:=fun b h=>frP.none tabP h;refine .inr ⟨_,rfl,n,dx2,_,rfl,e2,nn2 _ (by simp),_,rfl,_,rfl,_,rfl,n,f',p',_,d,row',z,_,rfl,mvy,hfP,hpP,hsa,(hwP.same a1b).same a0t,(so.lF _ _ _ ok1),ok,tabP,fun t2 p3 v3 row3 H5 fr5 tab5 hp5 hsb hv5 ht2=>?_⟩;have N5:Ntb H4 H5:=fr5.nt tabP;refine⟨t2,_,0,_,rfl,rfl,SqT.of ht2,rfl,?_⟩;have mvz:=I1.nt mvy N5;obtain⟨dx3,fs3,e3,nn3⟩:=I1.ins mvz;refine .inr ⟨_,rfl,n,dx3,_,rfl,e3,nn3 _ (by simp),_,rfl,n,f',d,rfl,mvz,hfP.nt N5,ok,tab5,fun f6 H6 fr6 tab6 hf6=>?_⟩;have N6:Ntb H4 H6:=N5.trans (fr6.nt tab5);have hp5:=hp5.same (a3o hrlP);exact⟨frP.trans (fr5.trans fr6),tab6,a1f N6 _ _ hlP nofun,N6 _ _ hqa nofun,N6 _ _ hqb nofun,f6,p3,_,_,_,row3,rfl,.inr (.inl ⟨rfl,hf6,hp5.nt (a1f (fr6.nt tab5)),hsb,w0,N6 _ _ hrlP nofun,hwP.nt (a1T N6)⟩)⟩
   |1,hy,.inl hst=>exact absurd hst.1 (by decide)
   |1,hy,.inr (.inr hst)=>exact absurd hst.1 (by decide)
   |1,hy,.inr (.inl ⟨_,hf,hpx,hsa,w0,hrlv,hw0⟩)=>
    cases hy;refine⟨q0,_,rfl,SqT.of hq0,rfl,_,_,rfl,_,_,rfl,rfl,?_⟩;have hpc:=hpx.same a1j;have mvx:=I0.nt mv0 N2;obtain⟨dx',fs,e',nn⟩:=I0.ins mvx;refine .inl ⟨_,rfl,m,dx',_,rfl,e',nn _ (by simp),_,rfl,_,rfl,_,rfl,_,rfl,(.ref lr),0,.non,rfl,.inr ⟨lr,_,v0,rfl,hlr2,rfl,m,f',p',v0,d,row',(S.fw d z (S.lf d z r1)).1,r0,rfl,mvx,hf,hpc,hsa,hv0.nt N2,ok0,ok,tab2,fun w1 H3 fr3 tab3 hw=>?_⟩⟩;have N3:Ntb H2 H3:=fr3.nt tab2;have hrl3:=N3 _ _ hrlv nofun
    have hw4:=hw.same (a2b z2 hrlv);have hw0':=hw0.nt (a1T N3);refine⟨_,rfl,.inl ⟨rfl,_,SqL.of hrl3⟩,_,rfl,rl,_,_,rfl,rfl,hrl3,(by show 1<sizeLine;decide),?_⟩;have fr4:=fr2.trans fr3;have frP:Fr PF H (upd H3 rl (.lst ([w0]++[w1]))):=fun b o nb eb=>(a0h (a0x eb hrl0)).trans (fr4 b o nb eb);have tabP:a0O PF a0Z foQ (upd H3 rl (.lst ([w0]++[w1]))):=a1O tab3 hrl3;have hfP:=(a1P (hf.nt N3) hrl3 (o:=.lst ([w0]++[w1])));have hrlP:=a0b (H:=H3) (a:=rl) (o:=.lst ([w0]++[w1]));have hwP:=hw4.same (a0X (o:=.lst ([w0]++[w1])));have hpP:=((hpx.nt (a1f N3)).same (a1l (o:=.lst ([w0]++[w1])))).same a1j;have hw0P:=hw0'.same (a0X (o:=.lst ([w0]++[w1])));have tq:∀{b:Addr} {xs:List V},H2 b=some (.tup xs)->(upd H3 rl (.lst ([w0]++[w1]))) b=some (.tup xs):=fun {b xs} h=>(a0h (fun z=>by rw[z,hrlv] at h;cases h)).trans (N3 _ _ h nofun);have hqa:=tq hq1;have hqb:=tq hq0;have hlP:=a1l (o:=.lst ([w0]++[w1])) _ _ (a1f N3 _ _ hl2 nofun);generalize upd H3 rl (.lst ([w0]++[w1]))=H4 at *;have NP:Ntb H H4:=frP.nt tab;have mvy:=I0.nt mv0 NP;obtain⟨dx2,fs2,e2,nn2⟩:=I0.ins mvy;have zP:∀b,H4 b=none->H b=none:=fun b h=>frP.none tabP h;refine .inl ⟨_,rfl,m,dx2,_,rfl,e2,nn2 _ (by simp),_,rfl,_,rfl,_,rfl,m,f',p',_,d,row',(S.fw d z (S.lf d z r1)).1,_,rfl,mvy,hfP,hpP,hsa,(hwP.same a1b).same a0t,(so.rB _ _ _ ok0),ok,tabP,fun t2 p3 v3 row3 H5 fr5 tab5 hp5 hsb hv5 ht2=>?_⟩;have N5:Ntb H4 H5:=fr5.nt tabP;refine⟨t2,_,0,_,rfl,rfl,SqT.of ht2,rfl,?_⟩;have mvz:=I0.nt mvy N5;obtain⟨dx3,fs3,e3,nn3⟩:=I0.ins mvz;refine .inl ⟨_,rfl,m,dx3,_,rfl,e3,nn3 _ (by simp),_,rfl,m,f',d,rfl,mvz,hfP.nt N5,ok,tab5,fun f6 H6 fr6 tab6 hf6=>?_⟩;have N6:Ntb H4 H6:=N5.trans (fr6.nt tab5);exact⟨frP.trans (fr5.trans fr6),tab6,a1f N6 _ _ hlP nofun,N6 _ _ hqa nofun,N6 _ _ hqb nofun,f6,p3,_,_,_,row3,rfl,.inr (.inr ⟨rfl,w0,w1,N6 _ _ hrlP nofun,hw0P.nt (a1T N6),hwP.nt (a1T N6)⟩)⟩
   |i+2,hy,_=>cases hy
  ·rintro σ H' ⟨fr,tab',_,_,_,f',p',u5,u6,u7,row',rfl,hst⟩
   rcases hst with hst |hst |⟨_,w0,w1,hrlv,hw0,hw1⟩
   ·exact absurd hst.1 (by show ¬(2=0);decide)
   ·exact absurd hst.1 (by show ¬(2=1);decide)
   have z':∀b,H' b=none->H b=none:=fun b h=>fr.none tab' h;refine⟨_,rfl,rl,_,rfl,SqL.of hrlv,fun rr hrr=>?_⟩;have T1:=a0o.upd (o:=.lst [w1,w0]) hrr;exact q (.ref rr) _ (fr.trans (.of T1)) (tab'.same T1) (.two (a0J (z' _ hrr) a0b) ((hw1.same a1b).same (a1F T1)) ((hw0.same a1b).same (a1F T1)))
end
theorem a3M {ks ls:List Key}(p:ks.Perm ls):a3B ks ls=true:=by
 unfold a3B;rw[p.length_eq,decide_eq_true rfl,Bool.true_and,List.all_eq_true];intro k hk;rw[List.any_eq_true];exact⟨k,p.mem_iff.mp hk,decide_eq_true rfl⟩
structure RF (K:Fg0) (H:Hp) (cols:Cl) (row:Row):Prop where
 cs:a7m K H cols
 nd:(row.map (·.1)).Nodup
 le:row.length≤12
 pm:(row.map (·.1)).Perm (cols.map (·.1))
 fit:∀c∈cols,∃x kd,(c.1,x)∈row/\KdH K H c.2 kd/\b1R kd x
theorem RF.same {K:Fg0}{H H':Hp}(s:a0o H H'){cols:Cl}{row:Row}(h:RF K H cols row):RF K H' cols row:=⟨h.cs.nt (.of s),h.nd,h.le,h.pm,fun c hc=>let ⟨x,kd,a,b,e⟩:=h.fit c hc;⟨x,kd,a,b.nt (.of s),e⟩⟩
def b5A:Sp:=fun vs H Q _=>∃(f:Addr) (sz:Int) (T:Str) (cols:Cl),vs=[.ref f,.str T]/\FmA H f sz T cols/\Q (.str "head") H
def b5z (K:Fg0):Sp:=fun vs H Q _=>∃(f r:Addr) (sz:Int) (T:Str) (cols:Cl) (row:Row),vs=[.ref f,.str T,.ref r]/\FmA H f sz T cols/\H r=some (.dK (rK row))/\RF K H cols row/\∀H',a0o H H'->Q (.bl true) H'
def b5s (K:Fg0):Sp:=fun vs H Q _=>∃(f l r:Addr) (sz:Int) (T:Str) (cols:Cl) (row:Row),vs=[.ref f,.str T,.ref l]/\FmA H f sz T cols/\H l=some (.lst [.ref r])/\H r=some (.dK (rK row))/\RF K H cols row/\∀H',a0o H H'->Q (.bl true) H'
def b3v (K:Fg0):Sp:=fun vs H Q _=>∃(f p:Addr) (d:Dt) (ko:Option Kk) (row:Row) (z:Pt),vs=[.ref f,.ref p]/\FoK K d ko H f/\PcA H p d.T row/\d.Ok/\((ko=none/\a7f d row z)\/∃kd,ko=some kd/\a1k d row z/\b1R kd z.1)/\∀H',a0o H H'->Q (.bl true) H'
section
variable {P:Program}{w:World}{K:Fg0}{mg:Str->Option Value}{base:Heap}
theorem b4f {f fT:Addr}{fd fdT:FuncData}(F:Fun K "sort_of" "sort_of" (top 29) f fd)(DT:Df K mg "table_in" (top 31) fT fdT):a0w P w K mg base CX0 2 f fd ["form","table"] b5A:=by
 have sc:a0j ["form","table"] ["form","table"] (a0e (top 29)):=.k (by decide +kernel);have GT:a0w P w K mg base CX0 1 fT fdT ["form","table"] a4D:=a4j DT.fn;have bT:=DT.fn.b2 "form" "table" (by intros;rfl);refine F.ok sc (fun vs H Q E h=>?_) (fun cdv A outer s H vs Q E hr h=>?_)
 ·obtain⟨f,sz,T,cols,rfl,_⟩:=h
  rfl
 ·obtain⟨fm,sz,T,cols,rfl,hf,q⟩:=h
  refine⟨_,a0f (a0p (a0F a0H (a0g GT hr (by rfl) DT.mg DT.fn.kp bT .nil a0k (a0a (pv 0) (a0a (pv 1) a0c))) a0i (fun _ _=>rfl))),?_⟩;exact⟨_,rfl,_,rfl,fm,sz,T,cols,rfl,hf,fun e ⟨ct,h1,_⟩=>⟨e,_,1,_,rfl,rfl,SqT.of h1,rfl,q⟩⟩
theorem b4j {f fT fC fI fF fP fW:Addr}{fd fdT fdC fdI fdF fdP fdW:FuncData}(F:Fun K "is_row" "is_row" (top 34) f fd)(B:Bl mg)(DT:Df K mg "tables_of" (top 28) fT fdT)(DC:Df K mg "columns_of" (top 30) fC fdC)(DI:Df K mg "table_in" (top 31) fI fdI)(DF:Df K mg "fits" (top 18) fF fdF)(DP:Df K mg "fits_plain" (top 20) fP fdP)(DW:Df K mg "is_whole" (top 12) fW fdW) :
  a0w P w K mg base CX0 4 f fd ["form","table","row"] (b5z K):=by
 have sc:a0j ["form","table","row","columns"] ["form","table","row"] (a0e (top 34)):=.k (by decide +kernel);have GT:a0w P w K mg base CX0 1 fT fdT ["form"] a6c:=a5S DT.fn;have bT:=DT.fn.b1 "form" (by intros;rfl);have GC:a0w P w K mg base CX0 2 fC fdC ["form","table"] a1K:=a4I DC.fn B DI;have bC:=DC.fn.b2 "form" "table" (by intros;rfl);have GF:a0w P w K mg base CX0 3 fF fdF ["kind","value","size"] (a8t K):=a8E DF.fn B DP DW;have bF:=DF.fn.b3 "kind" "value" "size" (by intros;rfl);refine F.ok sc (fun vs H Q E h=>?_) (fun cdv A outer s H vs Q E hr h=>?_)
 ·obtain⟨f,r,sz,T,cols,row,rfl,_⟩:=h
  rfl
 ·obtain⟨fo,r,sz,T,cols,row,rfl,hf,hr0,rf,q⟩:=h
  have hr1:a1o 1 _:=hr.mono (by decide);have hr2:a1o 2 _:=hr.mono (by decide);have hu:=a2S hr;have hu0:(A.deeper (envOfC "is_row" (a0e (top 34)) s.heap.objs.size f cdv)).units<cLine:=by omega
  have ndA:(["column","kind","row","form"]:List Str).Nodup:=by decide +kernel
  refine⟨_,a0d (a0R (PW.pt (a5R (a0z a4X (pv 1) (a0g GT hr1 (by rfl) DT.mg DT.fn.kp bT .nil a0k (a0a (pv 0) a0c)) (by with_unfolding_all rfl)) (a3L (a1G (a1r (a0y a1V (by rfl) B.isi boot_isi (a0a (pv 2) (a0a (a1A (v:=.ty "dict") (by rfl) B.dict boot_dict rfl) a0c)))))))) a0q a0u)
   (a0d (a0r (i:=3) sc.nd rfl (Or.inl rfl) (a0g GC hr2 (by rfl) DC.mg DC.fn.kp bC .nil a0k (a0a (pv 0) (a0a (pv 1) a0c))))
   (a0d (a0R (a0z (b0w hu0) (a1a a3l (by rfl) B.set boot_set (a0a (pv 2) a0c)) (a1a a3l (by rfl) B.set boot_set (a0a (pv 3) a0c)) (a0E _)) a0q a0u)
   (a0f (a6E (a0p (a0y (a2V rfl) (by rfl) B.all boot_all (a0a (a1d (osc:=a0e (top 34)) (N0:=["form","table","row","columns"]) (xs:=["column","kind"]) (fr:=[2,0]) ⟨rfl,by decide +kernel,by decide +kernel,by decide +kernel,(fun j hj=>by
       have e:j=2\/j=0:=by simpa using hj
       rcases e with rfl |rfl
       ·exact⟨_,rfl,by decide +kernel⟩
       ·exact⟨_,rfl,by decide +kernel⟩),by decide +kernel⟩ rfl rfl rfl (a2X (pv 3))
     (fun s H fp=>a2f (n:=2) (K:=K) rfl rfl (a0v (a0n (i:=0) ndA rfl (Or.inl rfl)) (a0v (a0n (i:=1) ndA rfl (Or.inl rfl)) a1g))) (fun s H fp=>a0S)
     (fun s H fp=>a0g GF hr (by rfl) DF.mg DF.fn.kp bF .nil a0k (a0a (pv 1) (a0a (a2k hu (pv 2) (pv 0) (fun _ _=>rfl)) (a0a (a0F (r:=b3h K) a0H (pv 3) a0i (fun _ _=>rfl)) a0c))))) a0c))))))),?_⟩
  refine⟨_,rfl,_,rfl,fo,sz,T,cols,rfl,hf,fun p H1 s1 p1=>?_⟩;have hin:inV (.str T) [V.str T]=true:=by
   show(eqV (.str T) (.str T) || false)=true
   rw[Bool.or_false]
   show(T==T)=true
   exact beq_self_eq_true T
  refine⟨p,_,rfl,.inl (SqL.of p1),rfl,rfl,_,rfl,a2s (by show(!inV _ _)=false;rw[hin];rfl) ?_⟩;refine⟨_,rfl,_,_,_,_,rfl,.dK (s1 _ _ hr0),kq (show a1U "dict" "dict"=some true by decide +kernel),_,rfl,a2e ?_⟩;refine⟨_,rfl,_,rfl,fo,sz,T,cols,rfl,hf.same s1,rf.cs.nd,rf.cs.le,fun cd H2 s2 c2=>?_⟩;have hcd0:H cd=none:=a1e s1 (a0T c2);have c2:=a0t _ _ c2;have S2:=s1.trans s2;refine⟨_,rfl,r,_,rfl,.inl (S2 _ _ hr0),(by unfold rK;rw[lM0];have:=rf.le;omega),fun q1 hq1=>?_⟩;generalize hX3:upd H2 q1 _=H3;have T3:a0o H2 H3:=hX3▸a0o.upd hq1;have e3:H3 q1=some (.ext (a4A P w q1 ((rK row).map (·.1)))):=by rw[← hX3];exact a0b
  refine⟨_,rfl,cd,_,rfl,.inl (T3 _ _ c2),(by unfold dC;rw[lM0];have:=rf.cs.le;omega),fun q2 hq2=>?_⟩;generalize hX4:upd H3 q2 _=H4;have T4:a0o H3 H4:=hX4▸a0o.upd hq2;have e4:H4 q2=some (.ext (a4A P w q2 ((dC cols).map (·.1)))):=by rw[← hX4];exact a0b
  have S4:=S2.trans (T3.trans T4);refine⟨q1,q2,_,_,rfl,rfl,T4 _ _ e3,e4,_,rfl,?_⟩;have esk:a3B ((rK row).map (·.1)) ((dC cols).map (·.1))=true:=by
   refine a3M ?_
   have:=rf.pm.map (Sum.inr:Str->Key)
   unfold rK dC;rw[List.map_map,List.map_map] at *;exact this
  rw[esk];refine a2e ?_;have c4:=(T3.trans T4) _ _ c2;refine⟨cd,_,c4,fun o=>?_⟩;have cf:(upd H4 cd (.frz o (.dK (dC cols)))) cd=some (.frz o (.dK (dC cols))):=a0b;have SF:a0o H (upd H4 cd (.frz o (.dK (dC cols)))):=S4.put hcd0;generalize upd H4 cd (.frz o (.dK (dC cols)))=HF at *;obtain⟨tt,es,f1,_⟩:=id hf;have dl:(dC cols).length=cols.length:=lM0 ..;refine⟨_,rfl,cd,o,_,rfl,cf,fun D hD=>?_⟩;refine a1x cols.length (fun i ys σ' Hc=>(∃t0 t1,σ'=[t0,t1,some (.ref r),some (.ref fo)])/\a0o HF Hc/\ys=(List.range i).map fun _=>V.bl true) (by have:=rf.cs.le;rw[sizeLine_eq];omega) ⟨⟨none,none,rfl⟩,a0o.upd hD,rfl⟩ a0b ?_ ?_
  ·rintro i σ' Hc ys hi ⟨⟨t0,t1,rfl⟩,sm,rfl⟩ hyl hD'
   refine⟨⟨by rw[dl];omega,sm _ _ cf⟩,?_⟩;rintro x H' ⟨k,v,p,hk,rfl,hp',rfl⟩;have hk2:(dC cols)[i]? =some ((.inr cols[i].1:Key),V.ref cols[i].2):=by unfold dC;rw[gM0,gE0 hi];rfl
   rw[hk2] at hk;cases hk;obtain⟨x,kd,hxr,hkd,hfit⟩:=rf.fit cols[i] (List.getElem_mem hi);have T5:=a0o.upd (o:=.tup [kV (.inr cols[i].1),.ref cols[i].2]) hp';refine⟨p,_,rfl,SqT.of a0b,rfl,_,_,rfl,_,_,rfl,rfl,?_⟩;generalize upd Hc p (.tup [kV (.inr cols[i].1),.ref cols[i].2])=H5 at T5;have S5:=SF.trans (sm.trans T5);refine⟨_,rfl,_,rfl,_,rfl,r,_,rfl,.inl ⟨rK row,.inr cols[i].1,.inl (S5 _ _ hr0),rfl,(a8z rf.nd hxr).symm⟩,_,rfl,fo,_,0,_,rfl,rfl,SqT.of (S5 _ _ f1),rfl,cols[i].2,x,.int sz,kd,rfl,hkd.nt (.of S5),hfit,fun H6 s6=>?_⟩;have T6:=T5.trans s6;refine⟨T6 _ _ hD',⟨_,_,rfl⟩,(sm.trans T6).put hD,?_⟩;rw[List.range_succ,List.map_append]
   rfl
  ·rintro σ' Hc ys ⟨_,sm,rfl⟩ hDn hyl
   refine⟨⟨by rw[dl];omega,sm _ _ cf⟩,?_⟩;refine⟨D,(List.range cols.length).map fun _=>true,rfl,SqL.of (by rw[hDn,List.map_map];rfl),sm _ _ cf,?_⟩;have eb:((List.range cols.length).map fun _=>true).all id=true:=by rw[List.all_map];exact List.all_eq_true.mpr fun _ _=>rfl
   rw[eb];exact q _ ((SF.trans sm).put hcd0)
theorem b5b {f fS fR fT fC fI fF fP fW lA:Addr}{fd fdS fdR fdT fdC fdI fdF fdP fdW:FuncData}(F:Fun K "are_rows" "are_rows" (top 36) f fd)(B:Bl mg)(mL:mg "LONE_SORTS"=some (.ref lA))(qL:∀H,SqT K H lA [.str "head",.str "twin"])(DS:Df K mg "sort_of" (top 29) fS fdS)(DR:Df K mg "is_row" (top 34) fR fdR)(DT:Df K mg "tables_of" (top 28) fT fdT)(DC:Df K mg "columns_of" (top 30) fC fdC)(DI:Df K mg "table_in" (top 31) fI fdI)(DF:Df K mg "fits" (top 18) fF fdF)(DP:Df K mg "fits_plain" (top 20) fP fdP)(DW:Df K mg "is_whole" (top 12) fW fdW) :
  a0w P w K mg base CX0 5 f fd ["form","table","rows"] (b5s K):=by
 have sc:a0j ["form","table","rows","sort"] ["form","table","rows"] (a0e (top 36)):=.k (by decide +kernel);have GS:a0w P w K mg base CX0 2 fS fdS ["form","table"] b5A:=b4f DS.fn DI;have bS:=DS.fn.b2 "form" "table" (by intros;rfl);have GR:a0w P w K mg base CX0 4 fR fdR ["form","table","row"] (b5z K):=b4j DR.fn B DT DC DI DF DP DW;have bR:=DR.fn.b3 "form" "table" "row" (by intros;rfl);refine F.ok sc (fun vs H Q E h=>?_) (fun cdv A outer s H vs Q E hr h=>?_)
 ·obtain⟨f,l,r,sz,T,cols,row,rfl,_⟩:=h
  rfl
 ·obtain⟨fo,l,r,sz,T,cols,row,rfl,hf,hl,hr0,rf,q⟩:=h
  have hr2:a1o 2 _:=hr.mono (by decide);have ndA:(["row","form","table"]:List Str).Nodup:=by decide +kernel
  refine⟨_,a0d (a0R (a1G (a1r (a0y a1V (by rfl) B.isi boot_isi (a0a (pv 2) (a0a (a1A (v:=.ty "list") (by rfl) B.list boot_list rfl) a0c))))) a0q a0u)
   (a0d (a0r (i:=3) sc.nd rfl (Or.inl rfl) (a0g GS hr2 (by rfl) DS.mg DS.fn.kp bS .nil a0k (a0a (pv 0) (a0a (pv 1) a0c))))
   (a0d (a0R (PW.pt (b0g (a0z a1S (pv 3) (a2G (v:=.ref lA) (by rfl) mL rfl) (by with_unfolding_all rfl)) (a7P (a0z b4M (a0y a0C (by rfl) B.len PySem.boot_len (a0a (pv 2) a0c)) a0i (a0E _))))) a0q a0u)
   (a0d (a0R (PW.pt (b0g (a0z a1R (pv 3) a0M (a0E _)) (a7P (a0z a1R (a0y a0C (by rfl) B.len PySem.boot_len (a0a (pv 2) a0c)) a0i (a0E _))))) a0q a0u)
   (a0f (a0p (a0y (a2V rfl) (by rfl) B.all boot_all (a0a (a1d (osc:=a0e (top 36)) (N0:=["form","table","rows","sort"]) (xs:=["row"]) (fr:=[0,1]) ⟨rfl,by decide +kernel,by decide +kernel,by decide +kernel,(fun j hj=>by
       have e:j=0\/j=1:=by simpa using hj
       rcases e with rfl |rfl
       ·exact⟨_,rfl,by decide +kernel⟩
       ·exact⟨_,rfl,by decide +kernel⟩),by decide +kernel⟩ rfl rfl rfl (a0Q (pv 2))
     (fun s H fp=>a0n (i:=0) ndA rfl (Or.inl rfl)) (fun s H fp=>a0S)
     (fun s H fp=>a0g GR hr (by rfl) DR.mg DR.fn.kp bR .nil a0k (a0a (pv 1) (a0a (pv 2) (a0a (pv 0) a0c))))) a0c))))))),?_⟩
  refine⟨_,rfl,_,_,_,_,rfl,.lst hl,kq (show a1U "list" "list"=some true by decide +kernel),_,rfl,a2e ?_⟩;refine⟨_,rfl,_,rfl,fo,sz,T,cols,rfl,hf,?_⟩;refine⟨_,rfl,lA,_,rfl,.inr (qL H),rfl,rfl,_,rfl,a3H rfl ⟨_,rfl,l,_,rfl,.inl (SqL.of hl),rfl,_,rfl,a2s rfl ?_⟩⟩;refine⟨_,rfl,rfl,_,rfl,a2s (decide_eq_false (by decide)) (a2e ?_)⟩;refine⟨_,rfl,l,rfl,⟨_,SqL.of hl⟩,fun D hD=>?_⟩;have S:=a0o.upd (o:=.lst []) hD;refine a1I a0b ⟨_,V.ref r,SqL.of (S _ _ hl),rfl⟩ ?_;rintro y' H' ⟨rfl,hx'⟩;cases hx' _ (SqL.of (S _ _ hl));refine⟨_,rfl,_,rfl,_,rfl,fo,r,sz,T,cols,row,rfl,hf.same S,S _ _ hr0,rf.same S,fun H6 s6=>?_⟩;have SS:=(S.trans s6).put (o:=.lst [V.bl true]) hD;exact⟨s6 _ _ a0b,⟨_,SqL.of (SS _ _ hl),Nat.le_refl _⟩,D,[true],rfl,SqL.of a0b,q _ SS⟩
theorem b3B {H:Hp}{f:Addr}{d:Dt}{ko:Option Kk}{row:Row}{z:Pt}(ok:d.Ok)(h:FoK K d ko H f)(hr:(ko=none/\a7f d row z)\/∃kd,ko=some kd/\a1k d row z/\b1R kd z.1):∃cols,FmA H f 2 d.T cols/\RF K H cols row:=by
 obtain⟨cols,k2,hf,srt,hk2,hc⟩:=h;refine⟨cols,hf,?_⟩;rcases hr with ⟨rfl,rfl,_⟩ |⟨kd,rfl,fl,hfit⟩
 ·have hc:cols=[(d.c2,k2)]:=by
   rcases hc with ⟨_,z⟩ |⟨_,_,e,_⟩
   ·exact z
   ·cases e
  subst hc;exact⟨⟨by simp,(by show 1≤12;decide),fun c hc=>by
   obtain rfl:c=(d.c2,k2):=by simpa using hc
   exact⟨ok.h2,.wh,hk2⟩⟩,by simp,(by show 1≤12;decide),List.Perm.refl _,fun c hc=>by
   obtain rfl:c=(d.c2,k2):=by simpa using hc
   exact⟨z.2,.wh,by simp,hk2,trivial⟩⟩
 ·obtain⟨k1,hp,hk1⟩:∃k1,cols.Perm [(d.c1,k1),(d.c2,k2)]/\KdH K H k1 kd:=by
   rcases hc with ⟨e,_⟩ |⟨kd',k1,e,hp,hk1⟩
   ·cases e
   ·cases e
    exact⟨k1,hp,hk1⟩
  have rok:=a1k.ok ok fl;have hpn:(row.map (·.1)).Perm [d.c1,d.c2]:=by
   rcases fl with rfl |rfl
   ·exact List.Perm.refl _
   ·exact List.Perm.swap _ _ _
  refine⟨a8l ok hp hk1 hk2,rok.nd,rok.le,hpn.trans (show[d.c1,d.c2].Perm (cols.map (·.1)) from(hp.map (fun c:Str×Addr=>c.1)).symm),fun c hc=>?_⟩;rcases (show c=_\/c=_ by simpa using hp.mem_iff.mp hc) with rfl |rfl
  ·exact⟨z.1,kd,rok.hm,hk1,hfit⟩
  ·refine⟨z.2,.wh,?_,hk2,trivial⟩
   rcases fl with rfl |rfl<;>simp
theorem b4T {f fA fT:Addr}{fd fdA fdT:FuncData}(F:Fun K "is_piece" "is_piece" (top 35) f fd)(B:Bl mg)(DT:Df K mg "tables_of" (top 28) fT fdT)(DA:Df K mg "are_rows" (top 36) fA fdA)(GA:a0w P w K mg base CX0 5 fA fdA ["form","table","rows"] (b5s K)):a0w P w K mg base CX0 6 f fd ["form","piece"] (b3v K):=by
 have sc:a0j ["form","piece"] ["form","piece"] (a0e (top 35)):=.k (by decide +kernel);have GT:a0w P w K mg base CX0 1 fT fdT ["form"] a6c:=a5S DT.fn;have bT:=DT.fn.b1 "form" (by intros;rfl);have bA:=DA.fn.b3 "form" "table" "rows" (by intros;rfl);refine F.ok sc (fun vs H Q E h=>?_) (fun cdv A outer s H vs Q E hr h=>?_)
 ·obtain⟨f,p,d,ko,row,z,rfl,_⟩:=h
  rfl
 ·obtain⟨fo,p,d,ko,row,z,rfl,hfo,⟨l,r,h1,h2,h3⟩,ok,hrow,q⟩:=h
  obtain⟨cols,hf,rf⟩:=b3B ok hfo hrow;have hr1:a1o 1 _:=hr.mono (by decide);have hu:=a2S hr;have hu0:(A.deeper (envOfC "is_piece" (a0e (top 35)) s.heap.objs.size f cdv)).units<cLine:=by omega
  have ndA:(["table","form","piece"]:List Str).Nodup:=by decide +kernel
  refine⟨_,a0d (a0R (PW.pt (a5R (a1G (a1r (a0y a1V (by rfl) B.isi boot_isi (a0a (pv 1) (a0a (a1A (v:=.ty "dict") (by rfl) B.dict boot_dict rfl) a0c))))) (a3L (a0z (b0w hu0) (a1a a3l (by rfl) B.set boot_set (a0a (pv 1) a0c)) (a1a (a8I rfl) (by rfl) B.set boot_set (a0a (a0g GT hr1 (by rfl) DT.mg DT.fn.kp bT .nil a0k (a0a (pv 0) a0c)) a0c)) (a0E _))))) a0q a0u)
   (a0f (a0p (a0y (a2V rfl) (by rfl) B.all boot_all (a0a (a1d (osc:=a0e (top 35)) (N0:=["form","piece"]) (xs:=["table"]) (fr:=[0,1]) ⟨rfl,by decide +kernel,by decide +kernel,by decide +kernel,(fun j hj=>by
       have e:j=0\/j=1:=by simpa using hj
       rcases e with rfl |rfl
       ·exact⟨_,rfl,by decide +kernel⟩
       ·exact⟨_,rfl,by decide +kernel⟩),by decide +kernel⟩ rfl rfl rfl (a0Q (a0g GT hr1 (by rfl) DT.mg DT.fn.kp bT .nil a0k (a0a (pv 0) a0c)))
     (fun s H fp=>a0n (i:=0) ndA rfl (Or.inl rfl)) (fun s H fp=>a0S)
     (fun s H fp=>a0g GA hr (by rfl) DA.mg DA.fn.kp bA .nil a0k (a0a (pv 1) (a0a (pv 0) (a0a (a2k hu (pv 2) (pv 0) (fun _ _=>rfl)) a0c))))) a0c)))),?_⟩
  refine⟨_,rfl,_,_,_,_,rfl,.dK h1,kq (show a1U "dict" "dict"=some true by decide +kernel),_,rfl,a2e ?_⟩;refine⟨_,rfl,p,_,rfl,.inl h1,(by show 1≤1000;decide),fun q1 hq1=>?_⟩;generalize hX3:upd H q1 _=H3;have T3:a0o H H3:=hX3▸a0o.upd hq1;have e3:H3 q1=some (.ext (a4A P w q1 ((tL d.T l).map (·.1)))):=by rw[← hX3];exact a0b
  refine⟨_,rfl,fo,2,d.T,cols,rfl,hf.same T3,fun pp H1 s1 p1=>⟨pp,[d.T],rfl,SqL.of p1,by simp,(by show 1≤1000;decide),fun q2 hq2=>?_⟩⟩;generalize hX4:upd H1 q2 _=H4;have T4:a0o H1 H4:=hX4▸a0o.upd hq2;have e4:H4 q2=some (.ext (a4A P w q2 ([d.T].map Sum.inr))):=by rw[← hX4];exact a0b
  have S4:=T3.trans (s1.trans T4);refine⟨q1,q2,_,_,rfl,rfl,(s1.trans T4) _ _ e3,e4,_,rfl,?_⟩;have esk:a3B ((tL d.T l).map (·.1)) ([d.T].map Sum.inr)=true:=a3M (List.Perm.refl _);rw[esk];refine a2e ?_;refine⟨_,rfl,fo,2,d.T,cols,rfl,hf.same S4,fun p' H5 s5 p5=>⟨p',rfl,⟨_,SqL.of p5⟩,fun D hD=>?_⟩⟩;have S5:=S4.trans s5;have S:=a0o.upd (o:=.lst []) hD;refine a1I a0b ⟨_,V.str d.T,SqL.of (S _ _ p5),rfl⟩ ?_;rintro y' H' ⟨rfl,hx'⟩;cases hx' _ (SqL.of (S _ _ p5));have S6:=S5.trans S;refine⟨_,rfl,_,rfl,_,rfl,_,rfl,p,.ref l,rfl,.inl ⟨_,.inr d.T,.inl (S6 _ _ h1),rfl,a7K.symm⟩,fo,l,r,2,d.T,cols,row,rfl,hf.same S6,S6 _ _ h2,S6 _ _ h3,rf.same S6,fun H6 s6=>?_⟩;have SS:=(S.trans s6).put (o:=.lst [V.bl true]) hD;exact⟨s6 _ _ a0b,⟨_,SqL.of (SS _ _ p5),Nat.le_refl _⟩,D,[true],rfl,SqL.of a0b,q _ (S5.trans SS)⟩
end
def b3u (d:Dt)(ko:Option Kk)(row:Row)(z:Pt):Prop:=(ko=none/\a7f d row z)\/∃kd,ko=some kd/\a1k d row z/\b1R kd z.1
structure a8n (S:Sem) (Val:Dt->Pt->Prop):Prop where
 fA:∀d row z,S.SA d row z->b3u d (S.a d) row z
 fB:∀d row y,S.SB d row y->Val d y->b3u d (S.b d) row y
 v:∀d z r,Val d (S.fw d z r).1
 lf:∀d z,S.lf d z .no=.no
 oF:S.okF .no
 oB:∀d z,S.okB (S.fw d z .no).2
 k1:∀d z,S.bw d (S.fw d z .no).1 (S.fw d z .no).2=(z,.no)
 oR:∀d z,S.okR (S.fw d z .no).2
 k2:∀d z y,Val d y->(S.bw d y (S.ri d y (S.fw d z .no).2)).2=.no/\S.fw d (S.bw d y (S.ri d y (S.fw d z .no).2)).1 .no=(y,S.ri d y (S.fw d z .no).2)
 n2:∀d y r a b,S.ri d y r≠.two a b
theorem a4f:a8n a2Z (fun d y=>y.1≤d.top) where
 fA:=fun d row z h=>.inr ⟨.wh,rfl,h,trivial⟩
 fB:=fun d row y h v=>.inr ⟨_,rfl,h,v⟩
 v:=fun d z r=>by show(if d.top<z.1 then d.top else z.1)≤d.top;split<;>omega
 lf:=fun _ _=>rfl
 oF:=trivial
 oB:=fun _ _=>⟨_,rfl⟩
 k1:=fun d z=>by
  show((((if d.top<z.1 then some z.1 else none:Option Int).getD (if d.top<z.1 then d.top else z.1)),z.2),Rs.no)=(z,.no)
  by_cases h:d.top<z.1
  ·rw[if_pos h];rfl
  ·rw[if_neg h,if_neg h];rfl
 oR:=fun _ _=>.inr ⟨_,rfl⟩
 k2:=fun d z y v=>by
  refine⟨rfl,?_⟩
  show((if d.top<((if y.1=d.top then(if d.top<z.1 then some z.1 else none) else none:Option Int).getD y.1) then d.top else((if y.1=d.top then(if d.top<z.1 then some z.1 else none) else none:Option Int).getD y.1),y.2),Rs.one (if d.top<((if y.1=d.top then(if d.top<z.1 then some z.1 else none) else none:Option Int).getD y.1) then some ((if y.1=d.top then(if d.top<z.1 then some z.1 else none) else none:Option Int).getD y.1) else none))=(y,Rs.one (if y.1=d.top then(if d.top<z.1 then some z.1 else none) else none))
  by_cases h1:y.1=d.top
  ·rw[if_pos h1]
   by_cases h2:d.top<z.1
   ·rw[if_pos h2]
    show((if d.top<z.1 then d.top else z.1,y.2),Rs.one (if d.top<z.1 then some z.1 else none))=_
    rw[if_pos h2,if_pos h2,← h1]
   ·rw[if_neg h2]
    show((if d.top<y.1 then d.top else y.1,y.2),Rs.one (if d.top<y.1 then some y.1 else none))=_
    rw[if_neg (by omega),if_neg (by omega)]
  ·rw[if_neg h1]
   show((if d.top<y.1 then d.top else y.1,y.2),Rs.one (if d.top<y.1 then some y.1 else none))=_
   have hv:y.1≤d.top:=v;rw[if_neg (by omega),if_neg (by omega)]
 n2:=fun _ _ _ _ _ h=>by cases h
theorem a3z:a8n a2Q.turn (fun _ y=>y.1=0) where
 fA:=fun d row z h=>.inr ⟨.wh,rfl,h,trivial⟩
 fB:=fun d row y h v=>.inl ⟨rfl,h⟩
 v:=fun d z r=>rfl
 lf:=fun _ _=>rfl
 oF:=trivial
 oB:=fun _ _=>⟨_,rfl⟩
 k1:=fun d z=>rfl
 oR:=fun _ _=>.inr ⟨_,rfl⟩
 k2:=fun d z y v=>by
  refine⟨rfl,?_⟩
  show(((0:Int),y.2),Rs.one (some z.1))=(y,Rs.one (some z.1))
  rw[← show y.1=0 from v]
 n2:=fun _ _ _ _ _ h=>by cases h
theorem a3A {a b:Pt}:(a==b)=(a.1==b.1&&a.2==b.2):=rfl
theorem a6D {d:Dt}(ok:d.Ok){T:Str}{r r':Row}{z z':Pt}(h:a1k d r z)(h':a1k d r' z'):Deq (pcD T r) (pcD T r') (z==z'):=by
 have up:∀{b:Bool},Deq (rwD r) (rwD r') b->Deq (pcD T r) (pcD T r') b:=fun {b} hb=>(a3T.dic (ks:=[T]) (ds:=[.lst [rwD r]]) (es:=[.lst [rwD r']]) (.cons (a3T.lst (.cons hb .nil)) .nil) rfl).to (by rw[Bool.and_true,Bool.and_true]);refine up ?_;rcases h with rfl |rfl<;>rcases h' with rfl |rfl
 ·refine(b0Z (r1:=[(d.c1,z.1),(d.c2,z.2)]) (r2:=[(d.c1,z'.1),(d.c2,z'.2)]) rfl).to ?_
  rw[a3A]
  show([z.1,z.2]==[z'.1,z'.2])=_
  rw[List.cons_beq_cons,List.cons_beq_cons]
  show(z.1==z'.1&&(z.2==z'.2&&true))=_
  rw[Bool.and_true]
 ·refine(Deq.dicP (ds:=[(d.c1,.fl (.int z.1)),(d.c2,.fl (.int z.2))]) (es:=[(d.c2,.fl (.int z'.2)),(d.c1,.fl (.int z'.1))]) (fun i=>if i=0 then z.1==z'.1 else z.2==z'.2) (fun i=>1-i) rfl (by show[d.c2,d.c1].Nodup;simp[ok.ne.symm]) (fun i e he=>?_) (fun i e f he hf=>?_)).to ?_
  ·match i,he with
   |0,he=>cases he;exact⟨_,rfl,rfl⟩
   |1,he=>cases he;exact⟨_,rfl,rfl⟩
   |i+2,he=>cases he
  ·match i,he,hf with
   |0,he,hf=>cases he;cases hf;exact .int
   |1,he,hf=>cases he;cases hf;exact .int
   |i+2,he,hf=>cases he
  ·rw[a3A]
   show((z.1==z'.1)&&((z.2==z'.2)&&true))=_
   rw[Bool.and_true]
 ·refine(Deq.dicP (ds:=[(d.c2,.fl (.int z.2)),(d.c1,.fl (.int z.1))]) (es:=[(d.c1,.fl (.int z'.1)),(d.c2,.fl (.int z'.2))]) (fun i=>if i=0 then z.2==z'.2 else z.1==z'.1) (fun i=>1-i) rfl (by show[d.c1,d.c2].Nodup;simp[ok.ne]) (fun i e he=>?_) (fun i e f he hf=>?_)).to ?_
  ·match i,he with
   |0,he=>cases he;exact⟨_,rfl,rfl⟩
   |1,he=>cases he;exact⟨_,rfl,rfl⟩
   |i+2,he=>cases he
  ·match i,he,hf with
   |0,he,hf=>cases he;cases hf;exact .int
   |1,he,hf=>cases he;cases hf;exact .int
   |i+2,he,hf=>cases he
  ·rw[a3A]
   show((z.2==z'.2)&&((z.1==z'.1)&&true))=_
   rw[Bool.and_true,Bool.and_comm]
 ·refine(b0Z (r1:=[(d.c2,z.2),(d.c1,z.1)]) (r2:=[(d.c2,z'.2),(d.c1,z'.1)]) rfl).to ?_
  rw[a3A]
  show([z.2,z.1]==[z'.2,z'.1])=_
  rw[List.cons_beq_cons,List.cons_beq_cons]
  show(z.2==z'.2&&(z.1==z'.1&&true))=_
  rw[Bool.and_true,Bool.and_comm]
theorem b2f {H:Hp}{r:Rs}(nt:∀a b,r≠.two a b){v v':V}(h:RsA H r v)(h':RsA H r v'):∃D,Dw H 1 D v/\Dw H 1 D v'/\Deq D D true:=by
 cases h with
 |no=>cases h';exact⟨_,.fl rfl,.fl rfl,.non⟩
 |@one o l h=>
  cases h' with
  |@one _ l' h'=>
   have f:flt (oV o)=true:=by cases o<;>rfl
   have d:=DwL.lst (n:=0) h (.cons (.fl f) .nil);exact⟨_,d,DwL.lst h' (.cons (.fl f) .nil),d.refl⟩
 |two=>exact absurd rfl (nt _ _)
theorem b3b {d:Dt}(ok:d.Ok){ko:Option Kk}{T:Str}{row row':Row}{z:Pt}(h:b3u d ko row z)(h':b3u d ko row' z):Deq (pcD T row) (pcD T row') true:=by
 rcases h with ⟨rfl,rfl,_⟩ |⟨kd,rfl,f,_⟩
 ·rcases h' with ⟨_,rfl,_⟩ |⟨_,e,_⟩
  ·exact(b4g rfl).to (beq_self_eq_true _)
  ·cases e
 ·rcases h' with ⟨e,_⟩ |⟨_,_,f',_⟩
  ·cases e
  ·exact(a6D ok f f').to (by rw[a3A,beq_self_eq_true,beq_self_eq_true];rfl)
def b5p (K:Fg0)(PF:Addr)(Mv:MvP)(S:Sem):Sp:=fun vs H Q _=>∃(x f p t pc:Addr) (vc:V) (d:Dt) (row row':Row) (z:Pt),vs=[.ref x,.ref f,.ref p,.non,.ref t]/\Mv d H x/\FoK K d (S.b d) H f/\PcA H p d.T row/\S.SA d row z/\H t=some (.tup [.ref pc,vc])/\PcA H pc d.T row'/\S.SB d row' (S.fw d z .no).1/\RsA H (S.fw d z .no).2 vc/\d.Ok/\a0O PF a0Z foQ H/\∀H',Fr PF H H'->a0O PF a0Z foQ H'->Q .non H'
def b5r (K:Fg0)(PF:Addr)(Mv:MvP)(S:Sem)(Val:Dt->Pt->Prop):Sp:=fun vs H Q _=>∃(x f fn p:Addr) (o ev:V) (d:Dt) (row:Row) (z y:Pt),vs=[.ref x,.ref f,.ref fn,o,ev,.ref p]/\Mv d H x/\FoK K d (S.a d) H f/\FoK K d (S.b d) H fn/\RsA H (S.fw d z .no).2 ev/\PcA H p d.T row/\S.SB d row y/\Val d y/\d.Ok/\a0O PF a0Z foQ H/\∀H',Fr PF H H'->a0O PF a0Z foQ H'->Q .non H'
section
variable {P:Program}{w:World}{K:Fg0}{mg:Str->Option Value}{base:Heap}{PF C:Addr}{Mv:MvP}{S:Sem}{Val:Dt->Pt->Prop}{k:Nat}
theorem b2y {f fP:Addr}{fd fdP:FuncData}(F:Fun K "broken_forth" "broken_forth" (top 55) f fd)(hk:6≤k)(DP:Df K mg "is_piece" (top 35) fP fdP)(GP:a0w P w K mg base CX0 6 fP fdP ["form","piece"] (b3v K))(I:Itf P w K mg base PF k C Mv S)(kl:a8n S Val):a0w P w K mg base CX0 (k+1) f fd ["move","new","old","left","came"] (b5p K PF Mv S):=by
 obtain⟨fK,fdK,MK,bK,GK⟩:=I.bk;have sc:a0j ["move","new","old","left","came","again"] ["move","new","old","left","came"] (a0e (top 55)):=.k (by decide +kernel);have bP:=DP.fn.b2 "form" "piece" (by intros;rfl);refine F.ok sc (fun vs H Q E h=>?_) (fun cdv A outer s H vs Q E hr h=>?_)
 ·obtain⟨x,f,p,t,pc,vc,d,row,row',z,rfl,_⟩:=h
  rfl
 ·obtain⟨x,fm,p,t,pc,vc,d,row,row',z,rfl,mv,fo,hp,sa,ht,hpc,sb,hvc,ok,tab,q⟩:=h
  have hr6:a1o 6 _:=hr.mono hk;have u:=u20 hr;refine⟨_,a0d (a0R (a1G (a1r (a0g GP hr6 (by rfl) DP.mg DP.fn.kp bP .nil a0k (a0a (pv 1) (a0a (a0F a0H (pv 4) a0i (fun _ _=>rfl)) a0c))))) a0q a0u)
   (a0d (a0r (i:=5) sc.nd rfl (Or.inl rfl) (a0A (pv 0) I.cl MK GK hr bK .nil a0k (a0a (pv 1) (a0a (a0F a0H (pv 4) a0i (fun _ _=>rfl)) (a0a (a0F a0H (pv 4) a0i (fun _ _=>rfl)) a0c)))))
   (a0d (a0R (a0z (a2O u) (pv 5) (a0I (a0a (pv 2) (a0a (pv 3) a0c))) (a0E _)) a0q a0u)
   (a0f (a0p a1u)))),?_⟩
  have fb:=kl.fB d row' _ sb (kl.v d z .no);refine⟨_,rfl,_,rfl,t,_,0,_,rfl,rfl,SqT.of ht,rfl,fm,pc,d,_,row',_,rfl,fo,hpc,ok,fb,fun H1 s1=>⟨_,rfl,a2e ?_⟩⟩;have mv1:=I.nt mv (.of s1);obtain⟨dx,fs,e,nn⟩:=I.ins mv1;have ht1:=s1 _ _ ht;refine⟨_,rfl,x,dx,_,rfl,e,nn _ (by simp),_,rfl,_,rfl,t,_,0,_,rfl,rfl,SqT.of ht1,rfl,_,rfl,t,_,1,_,rfl,rfl,SqT.of ht1,rfl,x,fm,pc,vc,d,row',_,_,rfl,mv1,fo.nt (.of s1),hpc.same s1,sb,hvc.same s1,kl.oB d z,ok,tab.same s1,fun t2 p2 v2 row2 H2 fr2 tab2 hp2 sa2 hv2 ht2=>?_⟩;rw[kl.k1] at sa2 hv2;have N2:Ntb H H2:=(Ntb.of s1).trans (fr2.nt (tab.same s1));refine⟨_,rfl,_,rfl,_,rfl,(by show 2≤sizeLine;decide),fun tt htt=>?_⟩;have T:=a0o.upd (o:=.tup [.ref p,.non]) htt;have fa:=kl.fA d row2 _ sa2;have fa0:=kl.fA d row _ sa;obtain⟨D,d1,d2,dq⟩:=b2f (r:=.no) (fun _ _ h=>by cases h) ((hv2.same a0t).same T) .no;exact⟨4,t2,tt,_,_,true,rfl,rfl,DwL.tup (.inl (T _ _ ht2)) (.cons ((hp2.same a0t).same T).dw (.cons (d1.up 3 (by decide)) .nil)),DwL.tup (.inl a0b) (.cons ((hp.nt N2).same T).dw (.cons (d2.up 3 (by decide)) .nil)),(a3T.tup (.cons (b3b ok fa fa0) (.cons dq .nil))).to rfl,(by decide),_,rfl,a2e (q _ ((Fr.of s1).trans (fr2.trans (.of T))) (tab2.same T))⟩
theorem b2j {f fP:Addr}{fd fdP:FuncData}(F:Fun K "broken_back" "broken_back" (top 56) f fd)(hk:6≤k)(so:S.Ok)(DP:Df K mg "is_piece" (top 35) fP fdP)(GP:a0w P w K mg base CX0 6 fP fdP ["form","piece"] (b3v K))(I:Itf P w K mg base PF k C Mv S)(kl:a8n S Val):a0w P w K mg base CX0 (k+1) f fd ["move","form","new","old","earlier","piece"] (b5r K PF Mv S Val):=by
 obtain⟨fK,fdK,MK,bK,GK⟩:=I.bk;obtain⟨fF,fdF,MF,bF,GF⟩:=I.fo;obtain⟨fR,fdR,MR,bR,_,GR⟩:=I.ri;have sc:a0j ["move","form","new","old","earlier","piece","right","came","again"] ["move","form","new","old","earlier","piece"] (a0e (top 56)):=.k (by decide +kernel);have bP:=DP.fn.b2 "form" "piece" (by intros;rfl);refine F.ok sc (fun vs H Q E h=>?_) (fun cdv A outer s H vs Q E hr h=>?_)
 ·obtain⟨x,f,fn,p,o,ev,d,row,z,y,rfl,_⟩:=h
  rfl
 ·obtain⟨x,fm,fn,p,o,ev,d,row,z,y,rfl,mv,fo,fo',hev,hp,sb,vy,ok,tab,q⟩:=h
  have hr6:a1o 6 _:=hr.mono hk;have u:=u20 hr;refine⟨_,a0d (a0r (i:=6) sc.nd rfl (Or.inl rfl) (a0A (pv 0) I.cl MR GR hr bR .nil a0k (a0a (pv 2) (a0a (pv 5) (a0a (pv 4) a0c)))))
   (a0d (a0r (i:=7) sc.nd rfl (Or.inl rfl) (a0A (pv 0) I.cl MK GK hr bK .nil a0k (a0a (pv 2) (a0a (pv 5) (a0a (pv 6) a0c)))))
   (a0d (a0R (a1G (a1r (a0g GP hr6 (by rfl) DP.mg DP.fn.kp bP .nil a0k (a0a (pv 1) (a0a (a0F a0H (pv 7) a0i (fun _ _=>rfl)) a0c))))) a0q a0u)
   (a0d (a0r (i:=8) sc.nd rfl (Or.inl rfl) (a0A (pv 0) I.cl MF GF hr bF .nil a0k (a0a (pv 1) (a0a (a0F a0H (pv 7) a0i (fun _ _=>rfl)) (a0a (a0F a0H (pv 7) a0i (fun _ _=>rfl)) a0c)))))
   (a0d (a0R (a0z (a2O u) (pv 8) (a0I (a0a (pv 5) (a0a (pv 6) a0c))) (a0E _)) a0q a0u)
   (a0f (a0p a1u)))))),?_⟩
  obtain⟨ek1,ek2⟩:=kl.k2 d z y vy;obtain⟨dx,fs,e,nn⟩:=I.ins mv;refine⟨_,rfl,x,dx,_,rfl,e,nn _ (by simp),_,rfl,_,rfl,_,rfl,x,fn,p,ev,d,row,y,_,rfl,mv,fo',hp,sb,hev,kl.oR d z,ok,tab,fun rv H1 fr1 tab1 hrv=>?_⟩;have N1:Ntb H H1:=fr1.nt tab;have hrv:=hrv.same a0t;have mv1:=I.nt mv N1;obtain⟨dx1,fs1,e1,nn1⟩:=I.ins mv1;refine⟨_,rfl,x,dx1,_,rfl,e1,nn1 _ (by simp),_,rfl,_,rfl,_,rfl,x,fn,p,rv,d,row,y,_,rfl,mv1,fo'.nt N1,hp.nt N1,sb,hrv,so.rB _ _ _ (kl.oR d z),ok,tab1,fun t2 p2 v2 row2 H2 fr2 tab2 hp2 sa2 hv2 ht2=>?_⟩;rw[ek1] at hv2;have hp2:=hp2.same a0t;have hv2:=hv2.same a0t;have N2:Ntb H1 H2:=fr2.nt tab1;refine⟨_,rfl,_,rfl,t2,_,0,_,rfl,rfl,SqT.of ht2,rfl,fm,p2,d,_,row2,_,rfl,(fo.nt N1).nt N2,hp2,ok,kl.fA d row2 _ sa2,fun H3 s3=>⟨_,rfl,a2e ?_⟩⟩;have mv3:=(I.nt (I.nt mv1 N2) (.of s3));obtain⟨dx3,fs3,e3,nn3⟩:=I.ins mv3;have ht3:=s3 _ _ ht2;refine⟨_,rfl,x,dx3,_,rfl,e3,nn3 _ (by simp),_,rfl,_,rfl,t2,_,0,_,rfl,rfl,SqT.of ht3,rfl,_,rfl,t2,_,1,_,rfl,rfl,SqT.of ht3,rfl,x,fm,p2,v2,d,row2,_,.no,rfl,mv3,((fo.nt N1).nt N2).nt (.of s3),hp2.same s3,sa2,hv2.same s3,kl.oF,ok,tab2.same s3,fun t4 p4 v4 row4 H4 fr4 tab4 hp4 sb4 hv4 ht4=>?_⟩;rw[ek2] at sb4 hv4;have N4:Ntb H2 H4:=(Ntb.of s3).trans (fr4.nt (tab2.same s3));refine⟨_,rfl,_,rfl,_,rfl,(by show 2≤sizeLine;decide),fun tt htt=>?_⟩;have T:=a0o.upd (o:=.tup [.ref p,rv]) htt;have fb:=kl.fB d row4 _ sb4 vy;have fb0:=kl.fB d row _ sb vy;have NT:Ntb H1 _:=(N2.trans N4).trans (.of T);obtain⟨D,d1,d2,dq⟩:=b2f (fun _ _=>kl.n2 _ _ _ _ _) ((hv4.same a0t).same T) (hrv.nt NT);exact⟨4,t4,tt,_,_,true,rfl,rfl,DwL.tup (.inl (T _ _ ht4)) (.cons ((hp4.same a0t).same T).dw (.cons (d1.up 3 (by decide)) .nil)),DwL.tup (.inl a0b) (.cons ((hp.nt N1).nt NT).dw (.cons (d2.up 3 (by decide)) .nil)),(a3T.tup (.cons (b3b ok fb fb0) (.cons dq .nil))).to rfl,(by decide),_,rfl,a2e (q _ ((((fr1.trans fr2).trans (.of s3)).trans fr4).trans (.of T)) (tab4.same T))⟩
def OlP (H:Hp)(l:Addr)(T:Str)(R:Row->Pt->Prop)(zs:List Pt):Prop:=∃ps:List Addr,H l=some (.lst (ps.map V.ref))/\ps.length=zs.length/\∀(j:Nat) (p:Addr) (z:Pt),ps[j]? =some p->zs[j]? =some z->∃row,PcA H p T row/\R row z
def a9R:Sp:=fun vs H Q _=>∃(p:Addr) (xs:List V),vs=[.ref p]/\H p=some (.lst xs)/\xs.length≤60/\Q .non H
def b0b (K:Fg0)(PF:Addr)(Mv:MvP)(S:Sem)(Val:Dt->Pt->Prop):Sp:=fun vs H Q _=>∃(x f lo ln:Addr) (d:Dt) (zs ys:List Pt),vs=[.ref x,.ref f,.ref lo,.ref ln]/\Mv d H x/\FoK K d (S.a d) H f/\d.Ok/\a0O PF a0Z foQ H/\OlP H lo d.T (S.SA d) zs/\OlP H ln d.T (fun row y=>S.SB d row y/\Val d y) ys/\zs.length≤60/\ys.length≤60 ∧
 ∀t H',Fr PF H H'->a0O PF a0Z foQ H'->H' t=some (.tup [.str "kept",.int zs.length,.int ys.length])->Q (.ref t) H'
def skN:List Str:=["move","form","olds","news","new","rights","old","left","came","broken","right","piece"]
theorem b3j {f:Addr}{fd:FuncData}(F:Fun K "ask_few" "ask_few" (top 58) f fd)(B:Bl mg){uM:Value}(hM:mg "MOST_PIECES"=some uM)(rM:a1c (.int 60) uM):a0w P w K mg base CX0 1 f fd ["pieces"] a9R:=by
 have sc:a0j ["pieces"] ["pieces"] (a0e (top 58)):=.k (by decide +kernel);refine F.ok sc (fun vs H Q E h=>?_) (fun cdv A outer s H vs Q E hr h=>?_)
 ·obtain⟨p,xs,rfl,_⟩:=h
  rfl
 ·obtain⟨p,xs,rfl,hp,hx,q⟩:=h
  refine⟨_,a0f (a0R (a0z b0I (a0y a0C (by rfl) B.len PySem.boot_len (a0a (pv 0) a0c)) (a2G (by rfl) hM rM) (a0E _)) a0q a0u),?_⟩;exact⟨_,rfl,p,_,rfl,.inl (SqL.of hp),_,_,rfl,rfl,_,rfl,a2s (decide_eq_false (by omega)) q⟩
theorem a8N {f fE fF fB:Addr}{fd fdE fdF fdB:FuncData}(F:Fun K "show_kept" "show_kept" (top 54) f fd)(B:Bl mg)(hz:mg "zip"=none)(so:S.Ok)(I:Itf P w K mg base PF k C Mv S)(kl:a8n S Val)(DE:Df K mg "ask_few" (top 58) fE fdE)(GE:a0w P w K mg base CX0 1 fE fdE ["pieces"] a9R)
  (DF:Df K mg "broken_forth" (top 55) fF fdF) (GF:a0w P w K mg base CX0 (k+1) fF fdF ["move","new","old","left","came"] (b5p K PF Mv S)) (DB:Df K mg "broken_back" (top 56) fB fdB) (GB:a0w P w K mg base CX0 (k+1) fB fdB ["move","form","new","old","earlier","piece"] (b5r K PF Mv S Val)) :
  a0w P w K mg base CX0 (k+2) f fd ["move","form","olds","news"] (b0b K PF Mv S Val):=by
 obtain⟨fA,fdA,MA,bA,GA⟩:=I.af;obtain⟨fG,fdG,MG,bG,GG⟩:=I.fo;obtain⟨fL,fdL,ML,_,bL,GL⟩:=I.le;have sc:a0j skN ["move","form","olds","news"] (a0e (top 54)):=.k (by decide +kernel);have bE:=DE.fn.b1 "pieces" (by intros;rfl);have bF:=DF.fn.b5 "move" "new" "old" "left" "came" (by intros;rfl);have bB:=DB.fn.b6 "move" "form" "new" "old" "earlier" "piece" (by intros;rfl);refine F.ok sc (fun vs H Q E h=>?_) (fun cdv A outer s H vs Q E hr h=>?_)
 ·obtain⟨x,f,lo,ln,d,zs,ys,rfl,_⟩:=h
  rfl
 ·obtain⟨x,fm,lo,ln,d,zs,ys,rfl,mv,fo,ok,tab,ho,hn,z60,y60,q⟩:=h
  have hr1:a1o 1 _:=hr.mono (by omega);have hrk:a1o k _:=hr.mono (by omega);refine⟨_,a0d (a0r (i:=4) sc.nd rfl (Or.inl rfl) (a0A (pv 0) I.cl MA GA hrk bA .nil a0k (a0a (pv 1) a0c)))
   (a0d (a0Y (a0g GE hr1 (by rfl) DE.mg DE.fn.kp bE .nil a0k (a0a (pv 2) a0c)))
   (a0d (a0Y (a0g GE hr1 (by rfl) DE.mg DE.fn.kp bE .nil a0k (a0a (pv 3) a0c)))
   (a0d (a0r (i:=5) sc.nd rfl (Or.inl rfl) (a1t a0c))
   (a0d (a1p PassesOwn.never rfl (a0Q (pv 2)) (a0n (i:=6) sc.nd rfl (Or.inl rfl))
    (a0d (a0r (i:=7) sc.nd rfl (Or.inl rfl) (a0A (pv 0) I.cl ML GL hrk bL (show a1m [V.non] [Value.none] from .cons rfl .nil) a0k (a0a (pv 1) (a0a (pv 6) a0c))))
    (a0d (a0r (i:=8) sc.nd rfl (Or.inl rfl) (a0A (pv 0) I.cl MG GG hrk bG .nil a0k (a0a (pv 1) (a0a (pv 6) (a0a (pv 7) a0c)))))
    (a0d (a0r (i:=9) sc.nd rfl (Or.inl rfl) (a0g GF hr (by rfl) DF.mg DF.fn.kp bF .nil a0k (a0a (pv 0) (a0a (pv 4) (a0a (pv 6) (a0a (pv 7) (a0a (pv 8) a0c)))))))
    (a0d (a0R (a0z a8q (pv 9) a1u (a0E _)) a0q a0u)
    (a0f (a0Y (a4l PySem.F.plainAttrs_list PySem.F.slot_list_append PySem.F.type_list_append a2K (pv 5) (a0a (a0F a0H (pv 8) a0i (fun _ _=>rfl)) a0c)))))))))
   (a0d (a1p PassesOwn.never rfl (a4B (by rfl) hz (a0a (pv 2) (a0a (pv 5) a0c))) (a1Z rfl (a0v (a0n (i:=6) sc.nd rfl (Or.inl rfl)) (a0v (a0n (i:=10) sc.nd rfl (Or.inl rfl)) a1g)))
    (a0f (a1p PassesOwn.never rfl (a0Q (pv 3)) (a0n (i:=11) sc.nd rfl (Or.inl rfl))
     (a0d (a0r (i:=9) sc.nd rfl (Or.inl rfl) (a0g GB hr (by rfl) DB.mg DB.fn.kp bB .nil a0k (a0a (pv 0) (a0a (pv 1) (a0a (pv 4) (a0a (pv 6) (a0a (pv 10) (a0a (pv 11) a0c))))))))
     (a0f (a0R (a0z a8q (pv 9) a1u (a0E _)) a0q a0u))))))
   (a0f (a0p (a0I (a0a a0M (a0a (a0y a0C (by rfl) B.len PySem.boot_len (a0a (pv 2) a0c)) (a0a (a0y a0C (by rfl) B.len PySem.boot_len (a0a (pv 3) a0c)) a0c))))))))))),?_⟩
  obtain⟨dx,fs,e,nn⟩:=I.ins mv;refine⟨_,rfl,x,dx,_,rfl,e,nn _ (by simp),_,rfl,x,fm,d,rfl,mv,fo,ok,tab,fun fn H1 fr1 tab1 hfn=>?_⟩;have N1:Ntb H H1:=fr1.nt tab;obtain⟨ps,hps,pl,hpp⟩:=ho;obtain⟨rs,hrs,rl,hrp⟩:=hn;refine⟨_,rfl,lo,_,rfl,N1 _ _ hps nofun,(by rw[lM0];omega),_,rfl,ln,_,rfl,N1 _ _ hrs nofun,(by rw[lM0];omega),?_⟩;refine⟨Nat.zero_le _,fun rg hrg=>?_⟩;have hrg0:H rg=none:=fr1.none tab1 hrg;have S2:=a0o.upd (o:=.lst ([]:List V)) hrg;have erg:=a0b (H:=H1) (a:=rg) (o:=.lst ([]:List V));generalize upd H1 rg (.lst ([]:List V))=H2 at *;have fr2:=fr1.trans (.of S2);have tab2:=tab1.same S2;refine⟨_,rfl,lo,rfl,⟨_,SqL.of ((fr2.nt tab) _ _ hps nofun)⟩,a1v (K:=K) (a:=lo) (xs:=ps.map V.ref) (fun i σ H'=>Fr PF H H'/\a0O PF a0Z foQ H'/\FoK K d (S.b d) H' fn/\(∃u6 u7 u8 u9,σ=[some (.ref x),some (.ref fm),some (.ref lo),some (.ref ln),some (.ref fn),some (.ref rg),u6,u7,u8,u9,none,none])/\∃vs:List V,H' rg=some (.lst vs)/\vs.length=i/\∀(j:Nat) (v:V) (z:Pt),vs[j]? =some v->zs[j]? =some z->RsA (exD rg H') (S.fw d z .no).2 v)
   ⟨fr2,tab2,hfn.nt (.of S2),⟨_,_,_,_,rfl⟩,[],erg,rfl,(fun j v z h=>nomatch h)⟩ (fun i σ H' _ p=>SqL.of ((p.1.nt tab) _ _ hps nofun)) ?_ ?_⟩
  ·rintro i y σ H3 hy ⟨fr3,tab3,hf3,⟨u6,u7,u8,u9,rfl⟩,vs,hvs,vl,hvv⟩
   have hip:i<ps.length:=by have:=(gS0.mp hy).1;rwa [lM0] at this
   have hiz:i<zs.length:=by omega
   rw[gM0,gE0 hip] at hy;cases hy;have N3:Ntb H H3:=fr3.nt tab;obtain⟨row,hp0,sa⟩:=hpp i ps[i] zs[i] (gE0 hip) (gE0 hiz);have mv3:=I.nt mv N3;obtain⟨dx3,fs3,e3,nn3⟩:=I.ins mv3;refine⟨_,rfl,x,dx3,_,rfl,e3,nn3 _ (by simp),_,rfl,_,rfl,x,fm,ps[i],.non,d,row,zs[i],.no,rfl,mv3,fo.nt N3,hp0.nt N3,sa,.no,so.l0,ok,tab3,fun lv H4 fr4 tab4 hlv=>?_⟩;rw[kl.lf] at hlv;cases hlv;have N4:Ntb H3 H4:=fr4.nt tab3;have M4:=N3.trans N4;have mv4:=I.nt mv M4;obtain⟨dx4,fs4,e4,nn4⟩:=I.ins mv4;refine⟨_,rfl,x,dx4,_,rfl,e4,nn4 _ (by simp),_,rfl,_,rfl,_,rfl,x,fm,ps[i],.non,d,row,zs[i],.no,rfl,mv4,fo.nt M4,hp0.nt M4,sa,.no,kl.oF,ok,tab4,fun t p5 v5 row5 H5 fr5 tab5 hp5 sb5 hv5 ht=>?_⟩;have N5:Ntb H4 H5:=fr5.nt tab4;have M5:=M4.trans N5;have hvs4:=N4 _ _ hvs nofun
   have hvs5:=N5 _ _ hvs4 nofun
   have hf5:=(hf3.nt N4).nt N5;refine⟨_,rfl,_,rfl,_,rfl,_,rfl,_,rfl,x,fn,ps[i],t,p5,v5,d,row,row5,zs[i],rfl,I.nt mv M5,hf5,hp0.nt M5,sa,ht,hp5.same a0t,sb5,hv5.same a0t,ok,tab5,fun H6 fr6 tab6=>?_⟩;have N6:Ntb H5 H6:=fr6.nt tab5;have hvs6:=N6 _ _ hvs5 nofun
   refine⟨_,rfl,rfl,_,rfl,a2s rfl ?_⟩;refine⟨_,rfl,.inl ⟨rfl,_,SqL.of hvs6⟩,_,rfl,t,_,1,_,rfl,rfl,SqT.of (N6 _ _ ht nofun),rfl,rg,_,_,rfl,rfl,hvs6,(by rw[sizeLine_eq];omega),?_⟩;have frA:=((fr3.trans fr4).trans fr5).trans fr6;refine⟨fun b o nb eb=>(a0h (a0x eb hrg0)).trans (frA b o nb eb),a1O tab6 hvs6,a1P (hf5.nt N6) hvs6,⟨_,_,_,_,rfl⟩,vs++[v5],a0b,by rw[List.length_append,vl];rfl,fun j v z h1 h2=>?_⟩;rcases a1n h1 with h1 |⟨rfl,rfl⟩
   ·exact((((hvv j v z h1 h2).nt (a1f N4)).nt (a1f N5)).nt (a1f N6)).same a1l
   ·rw[vl,gE0 hiz] at h2
    cases h2;exact((hv5.same (a3o hvs4)).nt (a1f N6)).same a1l
  rintro σ H3 ⟨fr3,tab3,hf3,⟨u6,u7,u8,u9,rfl⟩,vs,hvs,vl,hvv⟩;rw[lM0] at vl;have N3:Ntb H H3:=fr3.nt tab;refine⟨_,rfl,_,rfl,lo,rg,rfl,⟨_,SqL.of (N3 _ _ hps nofun)⟩,⟨_,SqL.of hvs⟩,?_⟩;refine a4k (K:=K) (xs:=ps.map V.ref) (ys:=vs) (fun i σ H'=>Fr PF H3 H'/\a0O PF a0Z foQ H'/\∃u6 u7 u8 u9 u10 u11,σ=[some (.ref x),some (.ref fm),some (.ref lo),some (.ref ln),some (.ref fn),some (.ref rg),u6,u7,u8,u9,u10,u11]) (by rw[lM0];omega) ⟨.of (a0o.refl _),tab3,_,_,_,_,_,_,rfl⟩ (fun i σ H' _ p=>⟨SqL.of ((p.1.nt tab3) _ _ (N3 _ _ hps nofun) nofun),SqL.of ((p.1.nt tab3) _ _ hvs nofun)⟩) ?_ ?_
  ·rintro i y v tp σ H4 hy hv ⟨fr4,tab4,v6,v7,v8,v9,v10,v11,rfl⟩ htp
   have hip:i<ps.length:=by have:=(gS0.mp hy).1;rwa [lM0] at this
   have hiz:i<zs.length:=by omega
   rw[gM0,gE0 hip] at hy;cases hy;have T:=a0o.upd (o:=.tup [.ref ps[i],v]) htp;refine⟨tp,_,rfl,SqT.of a0b,rfl,_,_,rfl,_,_,rfl,rfl,?_⟩;generalize upd H4 tp (.tup [.ref ps[i],v])=H5 at *;have fr5:=fr4.trans (.of T);have tab5:=tab4.same T;have N5:Ntb H3 H5:=fr5.nt tab3;have hv5:=((hvv i v zs[i] hv (gE0 hiz)).same a1j);refine⟨_,rfl,ln,rfl,⟨_,SqL.of ((N3.trans N5) _ _ hrs nofun)⟩,a1v (K:=K) (a:=ln) (xs:=rs.map V.ref) (fun j σ H6=>Fr PF H3 H6/\a0O PF a0Z foQ H6/\∃u7 u8 u9 u11,σ=[some (.ref x),some (.ref fm),some (.ref lo),some (.ref ln),some (.ref fn),some (.ref rg),some (.ref ps[i]),u7,u8,u9,some v,u11]) ⟨fr5,tab5,_,_,_,_,rfl⟩ (fun j σ H6 _ p=>SqL.of ((N3.trans (p.1.nt tab3)) _ _ hrs nofun)) ?_ ?_⟩
   ·rintro j y σ H6 hy ⟨fr6,tab6,w7,w8,w9,w11,rfl⟩
    have hjr:j<rs.length:=by have:=(gS0.mp hy).1;rwa [lM0] at this
    have hjy:j<ys.length:=by omega
    rw[gM0,gE0 hjr] at hy;cases hy;have N6:Ntb H3 H6:=fr6.nt tab3;have M6:=N3.trans N6;obtain⟨row,hp0,sb,vy⟩:=hrp j rs[j] ys[j] (gE0 hjr) (gE0 hjy);refine⟨_,rfl,_,rfl,_,rfl,_,rfl,_,rfl,_,rfl,x,fm,fn,rs[j],_,v,d,row,zs[i],ys[j],rfl,I.nt mv M6,fo.nt M6,hf3.nt N6,hv5.nt N6,hp0.nt M6,sb,vy,ok,tab6,fun H7 fr7 tab7=>?_⟩;exact⟨_,rfl,rfl,_,rfl,a2s rfl ⟨fr6.trans fr7,tab7,_,_,_,_,rfl⟩⟩
   ·rintro σ H6 ⟨fr6,tab6,w7,w8,w9,w11,rfl⟩
    exact⟨fr6,tab6,_,_,_,_,_,_,rfl⟩
  ·rintro σ H4 ⟨fr4,tab4,v6,v7,v8,v9,v10,v11,rfl⟩
   have M4:=N3.trans (fr4.nt tab3);refine⟨_,rfl,lo,_,rfl,.inl (SqL.of (M4 _ _ hps nofun)),_,rfl,ln,_,rfl,.inl (SqL.of (M4 _ _ hrs nofun)),(by show 3≤sizeLine;decide),fun t ht=>?_⟩;rw[lM0,lM0,pl,rl];have T:=a0o.upd (o:=.tup [V.str "kept",.int (zs.length:Nat),.int (ys.length:Nat)]) ht;exact q t _ ((fr3.trans fr4).trans (.of T)) (tab4.same T) a0b
end
theorem b4n {K:Fg0}{d:Dt}(ok:d.Ok){kd:Kk}{H:Hp}{f f':Addr}(h:FoK K d (some kd) H f)(h':FoK K d (some kd) H f'):Tq K H 6 (.ref f) (.ref f'):=by
 obtain⟨cols,k2,⟨tt,e,a1,a2,ct,a3,o,ps,_,a4,a5,a6⟩,sr,w2,g⟩:=h;obtain⟨cols',k2',⟨tt',e',b1,b2,ct',b3,o',ps',_,b4,b5,b6⟩,sr',w2',g'⟩:=h';rcases g with ⟨z,_⟩ |⟨_,k1,z,p,w1⟩
 ·cases z
 cases z;rcases g' with ⟨z,_⟩ |⟨_,k1',z,p',w1'⟩
 ·cases z
 cases z;have en:cols.map (·.1)=cols'.map (·.1):=List.Perm.eq_of_pairwise (fun a b _ _ h1 h2=>a6p h1 h2) sr sr' ((p.map (·.1)).trans (p'.map (·.1)).symm);have hl:cols.length=cols'.length:=by have:=congrArg List.length en;simpa using this
 refine .tup (.inl (.inl a1)) (.inl (.inl b1)) rfl fun i x y h1 h2=>?_
 match i,h1,h2 with
 |0,h1,h2=>cases h1;cases h2;exact .int
 |1,h1,h2=>
  cases h1;cases h2;refine .tup (.inl (.inl a2)) (.inl (.inl b2)) rfl fun i x y h1 h2=>?_
  match i,h1,h2 with
  |0,h1,h2=>
   cases h1;cases h2;refine .tup (.inl (.inl a3)) (.inl (.inl b3)) rfl fun i x y h1 h2=>?_
   match i,h1,h2 with
   |0,h1,h2=>cases h1;cases h2;exact .str
   |1,h1,h2=>cases h1;cases h2;exact .str
   |2,h1,h2=>
    cases h1;cases h2;refine .tup (.inl (.inr ⟨o,a4⟩)) (.inl (.inr ⟨o',b4⟩)) (by rw[lM0,lM0];omega) fun i x y h1 h2=>?_;rw[gM0] at h1 h2;obtain⟨q,e1,rfl⟩:=Option.map_eq_some_iff.mp h1;obtain⟨q',e2,rfl⟩:=Option.map_eq_some_iff.mp h2;have hi:i<cols.length:=by have:=(gS0.mp e1).1;omega
    have t1:=a6 i q cols[i] e1 (gE0 hi);have t2:=b6 i q' (cols'[i]'(by omega)) e2 (gE0 (by omega));have m1:=p.mem_iff.mp (List.getElem_mem hi);have m2:=p'.mem_iff.mp (List.getElem_mem (show i<cols'.length by omega));have ei:cols[i].1=(cols'[i]'(by omega)).1:=by
     have:=congrArg (fun l:List Str=>l[i]?) en
     simp only[gM0] at this;rw[gE0 hi,gE0 (by omega)] at this;exact Option.some.inj this
    generalize cols[i]=c at *;generalize (cols'[i]'(by omega))=c' at *;refine .tup (.inl (.inl t1)) (.inl (.inl t2)) rfl fun i x y h1 h2=>?_
    match i,h1,h2 with
    |0,h1,h2=>
     cases h1;cases h2;rw[ei];exact .str
    |1,h1,h2=>
     cases h1;cases h2;rcases (show c=_\/c=_ by simpa using m1) with rfl |rfl<;>rcases (show c'=_\/c'=_ by simpa using m2) with rfl |rfl
     ·exact a8Z w1 w1'
     ·exact absurd ei ok.ne
     ·exact absurd ei.symm ok.ne
     ·exact a8Z w2 w2'
    |i+2,h1,h2=>cases h1
   |i+3,h1,h2=>cases h1
  |i+1,h1,h2=>cases h1
 |i+2,h1,h2=>cases h1
def rsp (wd:Str)(l:List Dp):Dp:=.tup [.fl (.str "unlike"),.fl (.str wd),.lst l]
def alk (a b:Nat):Dp:=.tup [.fl (.str "alike"),.fl (.int a),.fl (.int b)]
inductive Ot where
 |un (wd:Str) (zs:List Pt)
 |al (a b:Nat)
def a8a (g:Pt->Pt)(os ns:List Pt):Ot:=match os.find? (fun z=>g z != z) with
 |some z=>.un "forth" [z,g z,z]
 |none=>match ns.find? (fun y=>g y != y) with
  |some y=>.un "back" [os.headD (0,0),y,g y,y]
  |none=>.al os.length ns.length
def Rws (d:Dt)(l:List Dp)(zs:List Pt):Prop:=l.length=zs.length/\∀(i:Nat) (D:Dp) (z:Pt),l[i]? =some D->zs[i]? =some z->∃row,D=pcD d.T row/\a1k d row z
def OtA (H:Hp)(d:Dt)(v:V):Ot->Prop
 | .un wd zs=>∃l,Dv H 8 (rsp wd l) v/\Rws d l zs
 | .al a b=>Dv H 8 (alk a b) v
theorem OtA.same {H H':Hp}(s:a0o H H'){d:Dt}{v:V}:∀{o:Ot},OtA H d v o->OtA H' d v o
 | .un _ _,⟨l,h,r⟩=>⟨l,h.same s,r⟩
 | .al _ _,h=>Dv.same s h
theorem b2q {d:Dt}(ok:d.Ok){l l':List Dp}{zs:List Pt}(h:Rws d l zs)(h':Rws d l' zs):Deq (.lst l) (.lst l') true:=by
 have hl:=h.1;have hl':=h'.1;refine(Deq.lst (fun _=>true) (by omega) fun i e f he hf=>?_).to (a1w fun _ _=>rfl);have hi:i<zs.length:=by have:=(gS0.mp he).1;omega
 obtain⟨r,rfl,hr⟩:=h.2 i e _ he (gE0 hi);obtain⟨r',rfl,hr'⟩:=h'.2 i f _ hf (gE0 hi);exact(a6D ok hr hr').to (by rw[a3A,beq_self_eq_true,beq_self_eq_true];rfl)
theorem a4C {os:List Pt}{g:Pt->Bool}{i:Nat}{o:Pt}(hi:os[i]? =some o)(ho:g o=true)(hp:∀(j:Nat) (y:Pt),j<i->os[j]? =some y->g y=false):os.find? g=some o:=by
 induction os generalizing i with
 |nil=>simp at hi
 |cons y ys ih=>
  match i,hi with
  |0,hi=>
   cases hi;rw[List.find?_cons_of_pos ho]
  |i+1,hi=>
   rw[List.find?_cons_of_neg (by rw[hp 0 y (by omega) rfl];decide)];exact ih hi fun j z hj hz=>hp (j+1) z (by omega) hz
theorem a4u {os:List Pt}{g:Pt->Bool}(hp:∀(j:Nat) (y:Pt),os[j]? =some y->g y=false):os.find? g=none:=by
 rw[List.find?_eq_none];intro y hy;obtain⟨j,hj⟩:=List.getElem?_of_mem hy;rw[hp j y hj]
 decide
theorem a5P {H0 H1 H:Hp}(h:∀b,H1 b=none->H0 b=none):a0o (cut H1 H) (cut H0 H):=fun b o e=>a0J (h b (a0T e)) (a0t _ _ e)
theorem a5Y {H:Hp}{n:Nat}{t:Addr}{x y z:V}{d e f:Dp}(ht:H t=some (.tup [x,y,z]))(hx:Dv H n d x)(hy:Dv H n e y)(hz:Dv H n f z):Dv H (n+1) (.tup [d,e,f]) (.ref t):=.tup ht rfl fun i v k h1 h2=>by
 match i,h1,h2 with
 |0,h1,h2=>cases h1;cases h2;exact hx
 |1,h1,h2=>cases h1;cases h2;exact hy
 |2,h1,h2=>cases h1;cases h2;exact hz
 |i+3,h1,h2=>cases h1
theorem b2c {T:Str}{row:Row}(nd:(row.map (·.1)).Nodup)(le:row.length≤12):Sm (pcD T row):=by
 refine .dic (show 1≤1000 by decide) (List.nodup_cons.mpr ⟨List.not_mem_nil,List.nodup_nil⟩) fun k hk=>?_;obtain rfl:k=_:=by simpa using hk
 refine .lst (show 1≤1000 by decide) fun e he=>?_;obtain rfl:e=rwD row:=by simpa using he
 refine .dic (by rw[lM0];omega) (by rw[List.map_map];exact nd) fun k hk=>?_;obtain⟨c,_,rfl⟩:=List.mem_map.mp hk;exact .fl
theorem a1k.sm {d:Dt}(ok:d.Ok){T:Str}{row:Row}{z:Pt}(f:a1k d row z):Sm (pcD T row):=b2c (f.ok ok).nd (f.ok ok).le
section
variable (P:Program)(w:World)(K:Fg0)(mg:Str->Option Value)(base:Heap)(PF:Addr)
structure It5 (k:Nat) (C:Addr) (Mv:MvP) (S:Sem):Prop where
 ins:∀{d:Dt} {H:Hp} {a:Addr},Mv d H a->∃dx fs,H a=some (.ins C dx fs)/\∀m:Str,(m="after"\/m="before"\/m="forth"\/m="back"\/m="left"\/m="right")->fs.lookup m=none
 nt:∀{d:Dt} {H H':Hp} {a:Addr},Mv d H a->Ntb H H'->Mv d H' a
 cl:Cls K C
 af:MO P w K mg base k C "after" P2 (a8U K PF Mv S.a S.b)
 fo:MO P w K mg base k C "forth" P4 (a6P K PF Mv S.a S.SA S.SB S.okF S.fw)
 bk:MO P w K mg base k C "back" P4 (a6P K PF Mv S.b S.SB S.SA S.okB S.bw)
 le:MO1 P w K mg base k C "left" P4 (a7x K PF Mv S.a S.SA S.okL S.lf)
 ri:MO1 P w K mg base k C "right" P4 (a7x K PF Mv S.b S.SB S.okR S.ri)
end
structure AlL (S:Sem) (g:Dt->Pt->Pt):Prop where
 ha:∀d,S.a d=some .wh
 hb:∀d,S.b d=some .wh
 sa:S.SA=a1k
 sb:S.SB=a1k
 l0:S.okL .no
 lF:∀d z,S.okF (S.lf d z .no)
 g1:∀d z,(S.fw d z (S.lf d z .no)).1=g d z
 oR:∀d z,S.okR (S.fw d z (S.lf d z .no)).2
 rB:∀d y r,S.okR r->S.okB (S.ri d y r)
 g2:∀d z y,g d z=z->(S.bw d y (S.ri d y (S.fw d z (S.lf d z .no)).2)).1=g d y
theorem b2r:AlL idS (fun _ z=>z):=⟨fun _=>rfl,fun _=>rfl,rfl,rfl,trivial,fun _ _=>trivial,fun _ _=>rfl,fun _ _=>trivial,fun _ _ _ _=>trivial,fun _ _ _ _=>rfl⟩
def b5q (d:Dt)(z:Pt):Pt:=(if d.top<z.1 then d.top else z.1,z.2)
def b5B (d:Dt)(z:Pt):Pt:=(d.top,z.2)
theorem b2I:AlL (chS a2Z) b5q where
 ha _:=rfl
 hb _:=rfl
 sa:=rfl
 sb:=rfl
 l0:=rfl
 lF _ _:=⟨_,_,rfl,trivial,_,rfl⟩
 g1 d z:=by
  show((((if (if d.top<z.1 then d.top else z.1)=d.top then none else none:Option Int)).getD (if d.top<z.1 then d.top else z.1)),z.2)=_
  rw[ite_self]
  rfl
 oR _ _:=⟨_,_,rfl,.inr ⟨_,rfl⟩,trivial⟩
 rB d y r h:=by
  obtain⟨e0,e1,rfl,_,_⟩:=h;exact⟨_,_,rfl,⟨_,rfl⟩,trivial⟩
 g2 d z y h:=by
  have h1:(if d.top<z.1 then d.top else z.1)=z.1:=congrArg Prod.fst h;have h2:¬d.top<z.1:=fun h'=>by rw[if_pos h'] at h1;omega
  show((((if (if d.top<y.1 then d.top else y.1)=d.top then(if d.top<z.1 then some z.1 else none) else none:Option Int)).getD (if d.top<y.1 then d.top else y.1)),y.2)=_
  rw[if_neg h2,ite_self]
  rfl
theorem b2W:AlL (chS a2Q.turn) b5B where
 ha _:=rfl
 hb _:=rfl
 sa:=rfl
 sb:=rfl
 l0:=rfl
 lF _ _:=⟨_,_,rfl,trivial,_,rfl⟩
 g1 d z:=rfl
 oR _ _:=⟨_,_,rfl,.inr ⟨_,rfl⟩,trivial⟩
 rB d y r h:=by
  obtain⟨e0,e1,rfl,_,_⟩:=h;exact⟨_,_,rfl,⟨_,rfl⟩,trivial⟩
 g2 d z y h:=by
  have h1:d.top=z.1:=congrArg Prod.fst h
  show((z.1:Int),y.2)=(d.top,y.2)
  rw[h1]
def spLf (K:Fg0)(PF:Addr)(Mv:MvP)(S:Sem):Sp:=fun vs H Q _=>∃(x f p:Addr) (d:Dt) (row:Row) (z:Pt),vs=[.ref x,.ref f,.ref p]/\Mv d H x/\FoK K d (S.a d) H f/\PcA H p d.T row/\S.SA d row z/\d.Ok/\a0O PF a0Z foQ H ∧
 ∀t p' v row' H',Fr PF H H'->a0O PF a0Z foQ H'->PcA (cut H H') p' d.T row'->S.SB d row' (S.fw d z (S.lf d z .no)).1->RsA (cut H H') (S.fw d z (S.lf d z .no)).2 v->H' t=some (.tup [.ref p',v])->Q (.ref t) H'
def spLb (K:Fg0)(PF:Addr)(Mv:MvP)(S:Sem):Sp:=fun vs H Q _=>∃(x f p:Addr) (ev:V) (d:Dt) (row:Row) (y:Pt) (e:Rs),vs=[.ref x,.ref f,.ref p,ev]/\Mv d H x/\FoK K d (S.b d) H f/\PcA H p d.T row/\S.SB d row y/\RsA H e ev/\S.okR e/\d.Ok/\a0O PF a0Z foQ H ∧
 ∀p' row' H',Fr PF H H'->a0O PF a0Z foQ H'->PcA H' p' d.T row'->S.SA d row' (S.bw d y (S.ri d y e)).1->Q (.ref p') H'
def b4h:Sp:=fun vs H Q _=>∃(a b:Str) (l:V) (d:Dp),vs=[.str a,.str b,l]/\Dw H 7 d l/\Sm d/\∀t l' H',a0o H H'->Dv (cut H H') 7 d l'->cut H H' t=some (.tup [.str a,.str b,l'])->Q (.ref t) H'
section
variable {P:Program}{w:World}{K:Fg0}{mg:Str->Option Value}{base:Heap}{PF C:Addr}{Mv:MvP}{S:Sem}{k:Nat}
theorem b3p {f:Addr}{fd:FuncData}{g:Dt->Pt->Pt}(F:Fun K "led_forth" "led_forth" (top 59) f fd)(I:It5 P w K mg base PF k C Mv S)(al:AlL S g):a0w P w K mg base CX0 (k+1) f fd ["move","form","old"] (spLf K PF Mv S):=by
 obtain⟨fG,fdG,MG,bG,GG⟩:=I.fo;obtain⟨fL,fdL,ML,_,bL,GL⟩:=I.le;have sc:a0j ["move","form","old"] ["move","form","old"] (a0e (top 59)):=.k (by decide +kernel);refine F.ok sc (fun vs H Q E h=>?_) (fun cdv A outer s H vs Q E hr h=>?_)
 ·obtain⟨x,f,p,d,row,z,rfl,_⟩:=h
  rfl
 ·obtain⟨x,fm,p,d,row,z,rfl,mv,fo,hp,sa,ok,tab,q⟩:=h
  refine⟨_,a0f (a0p (a0A (pv 0) I.cl MG GG hr bG .nil a0k (a0a (pv 1) (a0a (pv 2) (a0a (a0A (pv 0) I.cl ML GL hr bL (show a1m [V.non] [Value.none] from .cons rfl .nil) a0k (a0a (pv 1) (a0a (pv 2) a0c))) a0c))))),?_⟩;obtain⟨dx,fs,e,nn⟩:=I.ins mv;refine⟨_,rfl,x,dx,_,rfl,e,nn _ (by simp),_,rfl,_,rfl,_,rfl,x,dx,_,rfl,e,nn _ (by simp),_,rfl,_,rfl,x,fm,p,.non,d,row,z,.no,rfl,mv,fo,hp,sa,.no,al.l0,ok,tab,fun lv H1 fr1 tab1 hlv=>?_⟩;have N1:Ntb H H1:=fr1.nt tab;refine⟨x,fm,p,lv,d,row,z,_,rfl,I.nt mv N1,fo.nt N1,hp.nt N1,sa,hlv.same a0t,al.lF d z,ok,tab1,fun t p' v row' H' fr' tab' hp' sb hv ht=>?_⟩;have z1:∀b,H1 b=none->H b=none:=fun b h=>fr1.none tab1 h;exact q t p' v row' H' (fr1.trans fr') tab' (hp'.same (a5P z1)) sb (hv.same (a5P z1)) ht
theorem b2D {f:Addr}{fd:FuncData}{g:Dt->Pt->Pt}(F:Fun K "led_back" "led_back" (top 60) f fd)(I:It5 P w K mg base PF k C Mv S)(al:AlL S g):a0w P w K mg base CX0 (k+1) f fd ["move","new","piece","earlier"] (spLb K PF Mv S):=by
 obtain⟨fG,fdG,MG,bG,GG⟩:=I.bk;obtain⟨fL,fdL,ML,bL,_,GL⟩:=I.ri;have sc:a0j ["move","new","piece","earlier"] ["move","new","piece","earlier"] (a0e (top 60)):=.k (by decide +kernel);refine F.ok sc (fun vs H Q E h=>?_) (fun cdv A outer s H vs Q E hr h=>?_)
 ·obtain⟨x,f,p,ev,d,row,y,e,rfl,_⟩:=h
  rfl
 ·obtain⟨x,fm,p,ev,d,row,y,er,rfl,mv,fo,hp,sb,hev,oR,ok,tab,q⟩:=h
  refine⟨_,a0f (a0p (a0F a0H (a0A (pv 0) I.cl MG GG hr bG .nil a0k (a0a (pv 1) (a0a (pv 2) (a0a (a0A (pv 0) I.cl ML GL hr bL .nil a0k (a0a (pv 1) (a0a (pv 2) (a0a (pv 3) a0c)))) a0c)))) a0i (fun _ _=>rfl))),?_⟩;obtain⟨dx,fs,e,nn⟩:=I.ins mv;refine⟨_,rfl,x,dx,_,rfl,e,nn _ (by simp),_,rfl,_,rfl,_,rfl,x,dx,_,rfl,e,nn _ (by simp),_,rfl,_,rfl,_,rfl,x,fm,p,ev,d,row,y,er,rfl,mv,fo,hp,sb,hev,oR,ok,tab,fun lv H1 fr1 tab1 hlv=>?_⟩;have N1:Ntb H H1:=fr1.nt tab;refine⟨x,fm,p,lv,d,row,y,_,rfl,I.nt mv N1,fo.nt N1,hp.nt N1,sb,hlv.same a0t,al.rB d y er oR,ok,tab1,fun t p' v row' H' fr' tab' hp' sa hv ht=>?_⟩;exact⟨t,_,0,_,rfl,rfl,SqT.of ht,rfl,q p' row' H' (fr1.trans fr') tab' (hp'.same a0t) sa⟩
theorem b1r {f fO:Addr}{fd fdO:FuncData}{tk:Tok}(F:Fun K "told_of" "told_of" (top 61) f fd)(mO:mg "owned"=some (.ref fO))(kO:PySem.W.keepIn K (.ref fO)=true)(GO:a0w P w K mg base CX0 8 fO fdO ["thing","depth"] (b3x 7))(bO1:a1s K fdO ["thing","depth"] [.int 20 tk]):a0w P w K mg base CX0 9 f fd ["verdict","word","trail"] b4h:=by
 have sc:a0j ["verdict","word","trail"] ["verdict","word","trail"] (a0e (top 61)):=.k (by decide +kernel);refine F.ok sc (fun vs H Q E h=>?_) (fun cdv A outer s H vs Q E hr h=>?_)
 ·obtain⟨a,b,l,d,rfl,_⟩:=h
  rfl
 ·obtain⟨a,b,l,d,rfl,hd,sm,q⟩:=h
  refine⟨_,a0f (a0p (a0I (a0a (pv 0) (a0a (pv 1) (a0a (a0g GO hr (by rfl) mO kO bO1 (show a1m [V.int 20] [Value.int 20 tk] from .cons ⟨tk,rfl⟩ .nil) a0k (a0a (pv 2) a0c)) a0c))))),?_⟩;refine⟨_,rfl,_,rfl,_,rfl,l,d,20,rfl,(by decide),hd,sm,fun l' H' s' hl'=>⟨(by show 3≤sizeLine;decide),fun t ht=>?_⟩⟩;have T:=a0o.upd (o:=.tup [V.str a,.str b,l']) ht;exact q t l' _ (s'.trans T) (hl'.same (a1F T)) (a0J (a1e s' ht) a0b)
end
theorem Rws.nil {d:Dt}:Rws d [] []:=⟨rfl,fun i D z h=>nomatch h⟩
theorem Rws.cons {d:Dt}{row:Row}{z:Pt}{l:List Dp}{zs:List Pt}(h:a1k d row z)(t:Rws d l zs):Rws d (pcD d.T row::l) (z::zs):=⟨by rw[List.length_cons,List.length_cons,t.1],fun i D y h1 h2=>by
 match i,h1,h2 with
 |0,h1,h2=>cases h1;cases h2;exact⟨row,rfl,h⟩
 |i+1,h1,h2=>exact t.2 i D y h1 h2⟩
def b3r (K:Fg0)(PF:Addr)(Mv1 Mv2:MvP)(g:Dt->Pt->Pt):Sp:=fun vs H Q _=>∃(x1 x2 f lo ln:Addr) (d:Dt) (os ns:List Pt),vs=[.ref x1,.ref x2,.ref f,.ref lo,.ref ln]/\Mv1 d H x1/\Mv2 d H x2/\FoK K d (some .wh) H f/\d.Ok/\a0O PF a0Z foQ H/\OlP H lo d.T (a1k d) os/\OlP H ln d.T (a1k d) ns/\(0<os.length/\os.length≤60/\ns.length≤60) ∧
 ∀r H',Fr PF H H'->a0O PF a0Z foQ H'->OtA (cut H H') d (.ref r) (a8a (g d) os ns)->Q (.ref r) H'
def shN:List Str:=["one","other","form","olds","news","new","other_new","rights","old","came","other_came","earlier","piece"]
section
variable {P:Program}{w:World}{K:Fg0}{mg:Str->Option Value}{base:Heap}{PF C1 C2:Addr}{Mv1 Mv2:MvP}{S1 S2:Sem}{k:Nat}
theorem a7q {f fF fB fT fE:Addr}{fd fdF fdB fdT fdE:FuncData}{g:Dt->Pt->Pt}(F:Fun K "show_alike" "show_alike" (top 57) f fd)(B:Bl mg)(hz:mg "zip"=none)(k8:8≤k)(I1:It5 P w K mg base PF k C1 Mv1 S1)(al1:AlL S1 g)(I2:It5 P w K mg base PF k C2 Mv2 S2)(al2:AlL S2 (fun _ z=>z))
  (DF:Df K mg "led_forth" (top 59) fF fdF) (DB:Df K mg "led_back" (top 60) fB fdB)
  (DT:Df K mg "told_of" (top 61) fT fdT) (GT:a0w P w K mg base CX0 9 fT fdT ["verdict","word","trail"] b4h) (DE:Df K mg "ask_few" (top 58) fE fdE) (GE:a0w P w K mg base CX0 1 fE fdE ["pieces"] a9R):a0w P w K mg base CX0 (k+2) f fd ["one","other","form","olds","news"] (b3r K PF Mv1 Mv2 g):=by
 obtain⟨fA,fdA,MA,bA,GA⟩:=I1.af;obtain⟨fA2,fdA2,MA2,bA2,GA2⟩:=I2.af;have GF:=b3p DF.fn I1 al1;have GF2:=b3p DF.fn I2 al2;have GB:=b2D DB.fn I1 al1;have GB2:=b2D DB.fn I2 al2;have sc:a0j shN ["one","other","form","olds","news"] (a0e (top 57)):=.k (by decide +kernel);have bF:=DF.fn.b3 "move" "form" "old" (by intros;rfl);have bB:=DB.fn.b4 "move" "new" "piece" "earlier" (by intros;rfl);have bT:=DT.fn.b3 "verdict" "word" "trail" (by intros;rfl);have bE:=DE.fn.b1 "pieces" (by intros;rfl);refine F.ok sc (fun vs H Q E h=>?_) (fun cdv A outer s H vs Q E hr h=>?_)
 ·obtain⟨x1,x2,f,lo,ln,d,os,ns,rfl,_⟩:=h
  rfl
 ·obtain⟨x1,x2,fm,lo,ln,d,os,ns,rfl,mv1,mv2,fo,ok,tab,ho,hn,⟨o0,o60,n60⟩,q⟩:=h
  have hr1:a1o 1 _:=hr.mono (by omega);have hrk:a1o k _:=hr.mono (by omega);have hr9:a1o 9 _:=hr.mono (by omega);have u:=u20 hr;refine⟨_,a0d (a0r (i:=5) sc.nd rfl (Or.inl rfl) (a0A (pv 0) I1.cl MA GA hrk bA .nil a0k (a0a (pv 2) a0c)))
   (a0d (a0r (i:=6) sc.nd rfl (Or.inl rfl) (a0A (pv 1) I2.cl MA2 GA2 hrk bA2 .nil a0k (a0a (pv 2) a0c)))
   (a0d (a0Y (a0g GE hr1 (by rfl) DE.mg DE.fn.kp bE .nil a0k (a0a (pv 3) a0c)))
   (a0d (a0Y (a0g GE hr1 (by rfl) DE.mg DE.fn.kp bE .nil a0k (a0a (pv 4) a0c)))
   (a0d (a0R (a0z (b1d u) (pv 5) (pv 6) (a0E _)) a0q a0u)
   (a0d (a0r (i:=7) sc.nd rfl (Or.inl rfl) (a1t a0c))
   (a0d (a1p PassesOwn.never rfl (a0Q (pv 3)) (a0n (i:=8) sc.nd rfl (Or.inl rfl))
    (a0d (a0r (i:=9) sc.nd rfl (Or.inl rfl) (a0g GF hr (by rfl) DF.mg DF.fn.kp bF .nil a0k (a0a (pv 0) (a0a (pv 2) (a0a (pv 8) a0c)))))
    (a0d (a0r (i:=10) sc.nd rfl (Or.inl rfl) (a0g GF2 hr (by rfl) DF.mg DF.fn.kp bF .nil a0k (a0a (pv 1) (a0a (pv 2) (a0a (pv 8) a0c)))))
    (a0d (a0R (a0z (a2O u) (a0F a0H (pv 9) a0i (fun _ _=>rfl)) (a0F a0H (pv 10) a0i (fun _ _=>rfl)) (a0E _)) (a0f (a0p (a0g GT hr9 (by rfl) DT.mg DT.fn.kp bT .nil a0k (a0a a0M (a0a a0M (a0a (a1t (a0a (pv 8) (a0a (a0F a0H (pv 9) a0i (fun _ _=>rfl)) (a0a (a0F a0H (pv 10) a0i (fun _ _=>rfl)) a0c)))) a0c)))))) a0u)
    (a0f (a0Y (a4l PySem.F.plainAttrs_list PySem.F.slot_list_append PySem.F.type_list_append a2K (pv 7) (a0a (a0I (a0a (a0F a0H (pv 9) a0i (fun _ _=>rfl)) (a0a (a0F a0H (pv 10) a0i (fun _ _=>rfl)) a0c))) a0c))))))))
   (a0d (a1p PassesOwn.never rfl (a4B (by rfl) hz (a0a (pv 3) (a0a (pv 7) a0c))) (a1Z rfl (a0v (a0n (i:=8) sc.nd rfl (Or.inl rfl)) (a0v (a0n (i:=11) sc.nd rfl (Or.inl rfl)) a1g)))
    (a0f (a1p PassesOwn.never rfl (a0Q (pv 4)) (a0n (i:=12) sc.nd rfl (Or.inl rfl))
     (a0d (a0r (i:=9) sc.nd rfl (Or.inl rfl) (a0g GB hr (by rfl) DB.mg DB.fn.kp bB .nil a0k (a0a (pv 0) (a0a (pv 5) (a0a (pv 12) (a0a (a0F a0H (pv 11) a0i (fun _ _=>rfl)) a0c))))))
     (a0d (a0r (i:=10) sc.nd rfl (Or.inl rfl) (a0g GB2 hr (by rfl) DB.mg DB.fn.kp bB .nil a0k (a0a (pv 1) (a0a (pv 5) (a0a (pv 12) (a0a (a0F a0H (pv 11) a0i (fun _ _=>rfl)) a0c))))))
     (a0f (a0R (a0z (a2O u) (pv 9) (pv 10) (a0E _)) (a0f (a0p (a0g GT hr9 (by rfl) DT.mg DT.fn.kp bT .nil a0k (a0a a0M (a0a a0M (a0a (a1t (a0a (pv 8) (a0a (pv 12) (a0a (pv 9) (a0a (pv 10) a0c))))) a0c)))))) a0u)))))))
   (a0f (a0p (a0I (a0a a0M (a0a (a0y a0C (by rfl) B.len PySem.boot_len (a0a (pv 3) a0c)) (a0a (a0y a0C (by rfl) B.len PySem.boot_len (a0a (pv 4) a0c)) a0c))))))))))))),?_⟩
  have fo1:FoK K d (S1.a d) H fm:=by rw[al1.ha];exact fo
  have fo2:FoK K d (S2.a d) H fm:=by rw[al2.ha];exact fo
  obtain⟨dx1,fs1,e1,nn1⟩:=I1.ins mv1;refine⟨_,rfl,x1,dx1,_,rfl,e1,nn1 _ (by simp),_,rfl,x1,fm,d,rfl,mv1,fo1,ok,tab,fun fa H1 fr1 tab1 hfa=>?_⟩;rw[al1.hb] at hfa;have N1:Ntb H H1:=fr1.nt tab;obtain⟨dx2,fs2,e2,nn2⟩:=I2.ins (I2.nt mv2 N1);refine⟨_,rfl,x2,dx2,_,rfl,e2,nn2 _ (by simp),_,rfl,x2,fm,d,rfl,I2.nt mv2 N1,fo2.nt N1,ok,tab1,fun fb H2 fr2 tab2 hfb=>?_⟩;rw[al2.hb] at hfb;have N2:Ntb H1 H2:=fr2.nt tab1;have N02:=N1.trans N2;have F2:=fr1.trans fr2;obtain⟨ps,hps,pl,hpp⟩:=ho;obtain⟨rs,hrs,rl,hrp⟩:=hn;have fa2:=hfa.nt N2;refine⟨_,rfl,lo,_,rfl,N02 _ _ hps nofun,(by rw[lM0];omega),_,rfl,ln,_,rfl,N02 _ _ hrs nofun,(by rw[lM0];omega),?_⟩;refine⟨_,rfl,_,rfl,6,fa,fb,rfl,rfl,b4n ok fa2 hfb,(by decide),_,rfl,a2s rfl ?_⟩;have fin:∀(t:Addr) (H6 H':Hp) (o:Ot),Fr PF H H6->a0O PF a0Z foQ H6->a0o H6 H'->OtA (cut H6 H') d (.ref t) o->o=a8a (g d) os ns->Q (.ref t) H':=fun t H6 H' o fr6 tab6 s' ho e=>by
   rw[e] at ho;exact q t H' (fr6.trans (.of s')) (tab6.same s') (ho.same (a5P fun b h=>fr6.none tab6 h))
  clear q;refine⟨Nat.zero_le _,fun rg hrg=>?_⟩;have hrg0:H rg=none:=F2.none tab2 hrg;have S3:=a0o.upd (o:=.lst ([]:List V)) hrg;have erg:=a0b (H:=H2) (a:=rg) (o:=.lst ([]:List V));generalize upd H2 rg (.lst ([]:List V))=H3 at *;have fr3:=F2.trans (.of S3);have tab3:=tab2.same S3;have fa3:=fa2.nt (.of S3);refine⟨_,rfl,lo,rfl,⟨_,SqL.of ((fr3.nt tab) _ _ hps nofun)⟩,a1v (K:=K) (a:=lo) (xs:=ps.map V.ref) (fun i σ H'=>Fr PF H H'/\a0O PF a0Z foQ H'/\FoK K d (some .wh) H' fa/\(∃u8 u9 u10,σ=[some (.ref x1),some (.ref x2),some (.ref fm),some (.ref lo),some (.ref ln),some (.ref fa),some (.ref fb),some (.ref rg),u8,u9,u10,none,none])/\(∃gs:List Addr,H' rg=some (.lst (gs.map V.ref))/\gs.length=i/\∀(j:Nat) (t:Addr) (z:Pt),gs[j]? =some t->os[j]? =some z->∃v1 v2,exD rg H' t=some (.tup [v1,v2])/\RsA (exD rg H') (S1.fw d z (S1.lf d z .no)).2 v1/\RsA (exD rg H') (S2.fw d z (S2.lf d z .no)).2 v2)/\∀(j:Nat) (o:Pt),j<i->os[j]? =some o->g d o=o)
   ⟨fr3,tab3,fa3,⟨_,_,_,rfl⟩,⟨[],erg,rfl,(fun j t z h=>nomatch h)⟩,(fun j o hj=>absurd hj (Nat.not_lt_zero j))⟩ (fun i σ H' _ p=>SqL.of ((p.1.nt tab) _ _ hps nofun)) ?_ ?_⟩
  ·rintro i x σ H3 hx ⟨fr3,tab3,fa3,⟨u8,u9,u10,rfl⟩,⟨gs,g1,g2,g3⟩,heq⟩
   have hip:i<ps.length:=by have:=(gS0.mp hx).1;rwa [lM0] at this
   have hio:i<os.length:=by omega
   rw[gM0,gE0 hip] at hx;cases hx;have N3:Ntb H H3:=fr3.nt tab;obtain⟨row,hp0,fp⟩:=hpp i ps[i] os[i] (gE0 hip) (gE0 hio);refine⟨_,rfl,_,rfl,_,rfl,x1,fm,ps[i],d,row,os[i],rfl,I1.nt mv1 N3,fo1.nt N3,hp0.nt N3,(by rw[al1.sa];exact fp),ok,tab3,fun c1 p1 v1 row1 H4 fr4 tab4 hp1 sb1 hv1 hc1=>?_⟩;rw[al1.sb,al1.g1] at sb1;have N4:Ntb H3 H4:=fr4.nt tab3;have M4:=N3.trans N4;refine⟨_,rfl,_,rfl,_,rfl,x2,fm,ps[i],d,row,os[i],rfl,I2.nt mv2 M4,fo2.nt M4,hp0.nt M4,(by rw[al2.sa];exact fp),ok,tab4,fun c2 p2 v2 row2 H5 fr5 tab5 hp2 sb2 hv2 hc2=>?_⟩;rw[al2.sb,al2.g1] at sb2;have N5:Ntb H4 H5:=fr5.nt tab4;have M5:=M4.trans N5;have frA:=(fr3.trans fr4).trans fr5;have hp1':=(hp1.same a0t).nt N5;have hp2':=hp2.same a0t;have hc1':=N5 _ _ hc1 nofun
   have g14:=N4 _ _ g1 nofun
   have g15:=N5 _ _ g14 nofun
   refine⟨_,rfl,c1,_,0,_,rfl,rfl,SqT.of hc1',rfl,_,rfl,c2,_,0,_,rfl,rfl,SqT.of hc2,rfl,3,p1,p2,_,_,_,rfl,rfl,hp1'.dw,hp2'.dw,a6D ok sb1 sb2,(by decide),_,rfl,?_⟩;cases hq:(g d os[i]==os[i]) with
   |false=>
    refine a3H rfl ?_;refine⟨_,rfl,_,rfl,c1,_,0,_,rfl,rfl,SqT.of hc1',rfl,_,rfl,c2,_,0,_,rfl,rfl,SqT.of hc2,rfl,(by show 3≤sizeLine;decide),fun l hl=>?_⟩;have S6:=a0o.upd (o:=.lst [V.ref ps[i],.ref p1,.ref p2]) hl;have up7:∀{v:V} {D:Dp},Dw H5 3 D v->Dw (upd H5 l (.lst [V.ref ps[i],.ref p1,.ref p2])) 6 D v:=fun h=>(h.up 6 (by decide)).same S6;refine⟨_,_,_,.lst [pcD d.T row,pcD d.T row1,pcD d.T row2],rfl,DwL.lst a0b (.cons (up7 (hp0.nt M5).dw) (.cons (up7 hp1'.dw) (.cons (up7 hp2'.dw) .nil))),.lst (show 3≤1000 by decide) (fun D hD=>?_),fun t l' H' s' hl' ht=>fin t _ H' (.un "forth" [os[i],g d os[i],os[i]]) (frA.trans (.of S6)) (tab5.same S6) s' ⟨_,a5Y ht (.fl rfl) (.fl rfl) hl',.cons fp (.cons sb1 (.cons sb2 .nil))⟩ ?_⟩
    ·rcases (show D=_\/D=_\/D=_ by simpa using hD) with rfl |rfl |rfl
     ·exact fp.sm ok
     ·exact sb1.sm ok
     ·exact sb2.sm ok
    ·unfold a8a
     rw[a4C (g:=fun o=>g d o != o) (i:=i) (o:=os[i]) (gE0 hio) (by unfold bne;rw[hq];rfl) fun j y hj hy=>by rw[heq j y hj hy];exact bne_self_eq_false _]
   |true=>
    refine a2s rfl ?_;refine⟨_,rfl,.inl ⟨rfl,_,SqL.of g15⟩,_,rfl,c1,_,1,_,rfl,rfl,SqT.of hc1',rfl,_,rfl,c2,_,1,_,rfl,rfl,SqT.of hc2,rfl,(by show 2≤sizeLine;decide),fun tg htg=>?_⟩;have S6:=a0o.upd (o:=.tup [v1,v2]) htg;have g16:=S6 _ _ g15;have ntg:tg≠rg:=fun z=>by rw[z,g15] at htg;cases htg
    refine⟨rg,_,_,rfl,rfl,g16,(by rw[lM0,sizeLine_eq];omega),?_⟩;refine⟨fun b o nb eb=>(a0h (a0x eb hrg0)).trans ((frA.trans (.of S6)) b o nb eb),a1O (tab5.same S6) g16,a1P (((fa3.nt N4).nt N5).nt (.of S6)) g16,⟨_,_,_,rfl⟩,⟨gs++[tg],by rw[a0b,List.map_append];rfl,by rw[List.length_append,g2];rfl,fun j t z h1 h2=>?_⟩,fun j o hj ho=>?_⟩
    ·rcases a1n h1 with h1 |⟨rfl,rfl⟩
     ·obtain⟨w1,w2,a1,a2,a3⟩:=g3 j t z h1 h2
      have NN:=((a1f (D:=rg) N4).trans (a1f N5)).trans (a1f (.of S6));exact⟨w1,w2,a1l _ _ (NN _ _ a1 nofun),(a2.nt NN).same a1l,(a3.nt NN).same a1l⟩
     ·rw[g2,gE0 hio] at h2
      cases h2;exact⟨v1,v2,a1l _ _ (a2y ntg a0b),(((hv1.same (a3o g1)).nt (a1f N5)).nt (a1f (.of S6))).same a1l,((hv2.same (a3o g14)).nt (a1f (.of S6))).same a1l⟩
    ·by_cases hj':j<i
     ·exact heq j o hj' ho
     ·obtain rfl:j=i:=by omega
      rw[gE0 hio] at ho;cases ho;exact eq_of_beq hq
  rintro σ H3 ⟨fr3,tab3,fa3,⟨u8,u9,u10,rfl⟩,⟨gs,g1,g2,g3⟩,heq⟩;rw[lM0] at g2 heq;have N3:Ntb H H3:=fr3.nt tab;have fa1:FoK K d (S1.b d) H3 fa:=by rw[al1.hb];exact fa3
  have fa2':FoK K d (S2.b d) H3 fa:=by rw[al2.hb];exact fa3
  have hno:os.find? (fun o=>g d o != o)=none:=a4u fun j y hy=>by
   have hj:j<ps.length:=by have:=(gS0.mp hy).1;omega
   rw[heq j y hj hy];exact bne_self_eq_false _
  have hres:a8a (g d) os ns=match ns.find? (fun y=>g d y != y) with
    |some y=>.un "back" [os.headD (0,0),y,g d y,y]
    |none=>.al os.length ns.length:=by
   unfold a8a;rw[hno]
   try rfl
  refine⟨_,rfl,_,rfl,lo,rg,rfl,⟨_,SqL.of (N3 _ _ hps nofun)⟩,⟨_,SqL.of g1⟩,?_⟩;refine a4k (K:=K) (xs:=ps.map V.ref) (ys:=gs.map V.ref) (fun i σ H'=>Fr PF H3 H'/\a0O PF a0Z foQ H'/\(∃u8 u9 u10 u11 u12,σ=[some (.ref x1),some (.ref x2),some (.ref fm),some (.ref lo),some (.ref ln),some (.ref fa),some (.ref fb),some (.ref rg),u8,u9,u10,u11,u12])/\(0<i->∀(j:Nat) (y:Pt),ns[j]? =some y->g d y=y)) (by rw[lM0,lM0];omega) ⟨.of (a0o.refl _),tab3,⟨_,_,_,_,_,rfl⟩,(fun h=>absurd h (Nat.lt_irrefl 0))⟩ (fun i σ H' _ p=>⟨SqL.of ((N3.trans (p.1.nt tab3)) _ _ hps nofun),SqL.of ((p.1.nt tab3) _ _ g1 nofun)⟩) ?_ ?_
  ·rintro i x y tp σ H4 hx hy ⟨fr4,tab4,⟨v8,v9,v10,v11,v12,rfl⟩,hall⟩ htp
   have hip:i<ps.length:=by have:=(gS0.mp hx).1;rwa [lM0] at this
   have hio:i<os.length:=by omega
   have hig:i<gs.length:=by omega
   rw[gM0,gE0 hip] at hx;rw[gM0,gE0 hig] at hy;cases hx;cases hy;have Tp:=a0o.upd (o:=.tup [V.ref ps[i],.ref gs[i]]) htp;refine⟨tp,_,rfl,SqT.of a0b,rfl,_,_,rfl,_,_,rfl,rfl,?_⟩;generalize upd H4 tp (.tup [V.ref ps[i],.ref gs[i]])=H5 at *;have fr5:=fr4.trans (.of Tp);have tab5:=tab4.same Tp;obtain⟨w1,w2,a1,a2,a3⟩:=g3 i gs[i] os[i] (gE0 hig) (gE0 hio);have a1:=a1j _ _ a1;have a2:=a2.same a1j;have a3:=a3.same a1j;have hfix:=heq i os[i] hip (gE0 hio);refine⟨_,rfl,ln,rfl,⟨_,SqL.of ((N3.trans (fr5.nt tab3)) _ _ hrs nofun)⟩,a1v (K:=K) (a:=ln) (xs:=rs.map V.ref) (fun j σ H6=>Fr PF H3 H6/\a0O PF a0Z foQ H6/\(∃u9 u10 u12,σ=[some (.ref x1),some (.ref x2),some (.ref fm),some (.ref lo),some (.ref ln),some (.ref fa),some (.ref fb),some (.ref rg),some (.ref ps[i]),u9,u10,some (.ref gs[i]),u12])/\∀(j':Nat) (y:Pt),j'<j->ns[j']? =some y->g d y=y) ⟨fr5,tab5,⟨_,_,_,rfl⟩,(fun j' y h=>absurd h (Nat.not_lt_zero _))⟩ (fun j σ H6 _ p=>SqL.of ((N3.trans (p.1.nt tab3)) _ _ hrs nofun)) ?_ ?_⟩
   ·rintro j z σ H6 hz ⟨fr6,tab6,⟨w9,w10,w12,rfl⟩,hb⟩
    have hjr:j<rs.length:=by have:=(gS0.mp hz).1;rwa [lM0] at this
    have hjn:j<ns.length:=by omega
    rw[gM0,gE0 hjr] at hz;cases hz;have N6:Ntb H3 H6:=fr6.nt tab3;have M6:=N3.trans N6;obtain⟨row,hp0,fp⟩:=hrp j rs[j] ns[j] (gE0 hjr) (gE0 hjn);have hg6:=N6 _ _ a1 nofun
    refine⟨_,rfl,_,rfl,_,rfl,_,rfl,gs[i],_,0,_,rfl,rfl,SqT.of hg6,rfl,x1,fa,rs[j],w1,d,row,ns[j],_,rfl,I1.nt mv1 M6,fa1.nt N6,hp0.nt M6,(by rw[al1.sb];exact fp),a2.nt N6,al1.oR d os[i],ok,tab6,fun p1 row1 H7 fr7 tab7 hp1 sa1=>?_⟩;rw[al1.sa,al1.g2 d os[i] ns[j] hfix] at sa1;have N7:Ntb H6 H7:=fr7.nt tab6;have M7:=M6.trans N7;have N37:=N6.trans N7;refine⟨_,rfl,_,rfl,_,rfl,_,rfl,gs[i],_,1,_,rfl,rfl,SqT.of (N7 _ _ hg6 nofun),rfl,x2,fa,rs[j],w2,d,row,ns[j],_,rfl,I2.nt mv2 M7,fa2'.nt N37,hp0.nt M7,(by rw[al2.sb];exact fp),a3.nt N37,al2.oR d os[i],ok,tab7,fun p2 row2 H8 fr8 tab8 hp2 sa2=>?_⟩;rw[al2.sa,al2.g2 d os[i] ns[j] rfl] at sa2;have N8:Ntb H7 H8:=fr8.nt tab7;have M8:=M7.trans N8;have frB:=(fr6.trans fr7).trans fr8;have hp1':=hp1.nt N8;refine⟨_,rfl,_,rfl,3,p1,p2,_,_,_,rfl,rfl,hp1'.dw,hp2.dw,a6D ok sa1 sa2,(by decide),_,rfl,?_⟩;cases hq:(g d ns[j]==ns[j]) with
    |false=>
     refine a3H rfl ?_;have i0:i=0:=by
      rcases Nat.eq_zero_or_pos i with h |h
      ·exact h
      ·rw[hall h j ns[j] (gE0 hjn),beq_self_eq_true] at hq
       cases hq
     refine⟨_,rfl,_,rfl,_,rfl,_,rfl,(by show 4≤sizeLine;decide),fun l hl=>?_⟩;have S9:=a0o.upd (o:=.lst [V.ref ps[i],.ref rs[j],.ref p1,.ref p2]) hl;have up7:∀{v:V} {D:Dp},Dw H8 3 D v->Dw (upd H8 l (.lst [V.ref ps[i],.ref rs[j],.ref p1,.ref p2])) 6 D v:=fun h=>(h.up 6 (by decide)).same S9;obtain⟨rowo,hpo,fpo⟩:=hpp i ps[i] os[i] (gE0 hip) (gE0 hio);have eo:os.headD (0,0)=os[i]:=by
      subst i0;cases os with
      |nil=>simp at o0
      |cons a r=>rfl
     refine⟨_,_,_,.lst [pcD d.T rowo,pcD d.T row,pcD d.T row1,pcD d.T row2],rfl,DwL.lst a0b (.cons (up7 (hpo.nt M8).dw) (.cons (up7 (hp0.nt M8).dw) (.cons (up7 hp1'.dw) (.cons (up7 hp2.dw) .nil)))),.lst (show 4≤1000 by decide) (fun D hD=>?_),fun t l' H' s' hl' ht=>fin t _ H' (.un "back" [os[i],ns[j],g d ns[j],ns[j]]) (fr3.trans (frB.trans (.of S9))) (tab8.same S9) s' ⟨_,a5Y ht (.fl rfl) (.fl rfl) hl',.cons fpo (.cons fp (.cons sa1 (.cons sa2 .nil)))⟩ ?_⟩
     ·rcases (show D=_\/D=_\/D=_\/D=_ by simpa using hD) with rfl |rfl |rfl |rfl
      ·exact fpo.sm ok
      ·exact fp.sm ok
      ·exact sa1.sm ok
      ·exact sa2.sm ok
     ·rw[hres,a4C (g:=fun x=>g d x != x) (i:=j) (o:=ns[j]) (gE0 hjn) (by unfold bne;rw[hq];rfl) fun j' y hj hy=>by rw[hb j' y hj hy];exact bne_self_eq_false _]
      dsimp only
      rw[eo]
    |true=>
     refine a2s rfl ?_;refine⟨frB,tab8,⟨_,_,_,rfl⟩,fun j' y hj hy=>?_⟩
     by_cases hj':j'<j
     ·exact hb j' y hj' hy
     ·obtain rfl:j'=j:=by omega
      rw[gE0 hjn] at hy;cases hy;exact eq_of_beq hq
   ·rintro σ H6 ⟨fr6,tab6,⟨w9,w10,w12,rfl⟩,hb⟩
    rw[lM0] at hb;exact⟨fr6,tab6,⟨_,_,_,_,_,rfl⟩,fun _ j y hy=>hb j y (by have:=(gS0.mp hy).1;omega) hy⟩
  ·rintro σ H4 ⟨fr4,tab4,⟨v8,v9,v10,v11,v12,rfl⟩,hall⟩
   rw[lM0] at hall;have M4:=N3.trans (fr4.nt tab3);have hnn:ns.find? (fun x=>g d x != x)=none:=a4u fun j y hy=>by
    rw[hall (by omega) j y hy];exact bne_self_eq_false _
   rw[hnn] at hres;refine⟨_,rfl,lo,_,rfl,.inl (SqL.of (M4 _ _ hps nofun)),_,rfl,ln,_,rfl,.inl (SqL.of (M4 _ _ hrs nofun)),(by show 3≤sizeLine;decide),fun t ht=>?_⟩;rw[lM0,lM0,pl,rl];have S5:=a0o.upd (o:=.tup [V.str "alike",.int (os.length:Nat),.int (ns.length:Nat)]) ht;exact fin t H4 _ (.al os.length ns.length) (fr3.trans fr4) tab4 S5 (show Dv _ 8 (alk _ _) _ from a5Y (a0J ht a0b) (.fl rfl) (.fl rfl) (.fl rfl)) hres.symm
end
end My
namespace L2
open PySem PySem.Spec PyProof.Rows My
def b2k (t:TS):TS:=fun D σ H=>∃R:St->Hp->Prop,t { D with nx:=R } σ H/\∀σ' H',R σ' H'->D.nx σ' H'
theorem a9o {X:Cx}{st:Stmt}{t:TS}(h:PS X st t):PS X st (b2k t):=by
 intro pins s σ H D I hq;obtain⟨R,h1,h2⟩:=hq;refine thn (h pins s σ H _ I h1) fun f s' hs=>?_;cases f with
 |next=>obtain⟨σ',H',I',z⟩:=hs;exact⟨σ',H',I',h2 _ _ z⟩
 |brk=>exact hs
 |cont=>exact hs
 |ret u=>exact hs
end L2
namespace My
open PySem L2 PyProof.Rows
seal L2.PE L2.PT L2.PW L2.PS L2.PSs L2.PA L2.PI L2.PG L2.PGs L2.OpR L2.a1E L2.IxR L2.SlR L2.MtR L2.PIf L2.PO L2.MtM L2.PC
def a5T (H:Hp)(l:Addr)(d:Dt):Prop:=H l=some (.lst [.str d.T,.str d.c1,.str d.c2])
def RwA (H:Hp)(l:Addr)(ab:List Pt):Prop:=∃rs:List Addr,H l=some (.lst (rs.map V.ref))/\rs.length=ab.length/\∀(j:Nat) (r:Addr) (p:Pt),rs[j]? =some r->ab[j]? =some p->H r=some (.lst [.int p.1,.int p.2])
theorem RwA.nt {H H':Hp}(s:Ntb H H'){l:Addr}{ab:List Pt}(h:RwA H l ab):RwA H' l ab:=let ⟨rs,a,b,c⟩:=h;⟨rs,s _ _ a nofun,b,fun j r p x y=>s _ _ (c j r p x y) nofun⟩
def gW (wv top:Int)(z:Pt):Pt:=if wv=0 then(if top<z.1 then top else z.1,z.2) else(top,z.2)
def fr2 (d:Dt)(z:Pt):Row:=[(d.c1,z.1),(d.c2,z.2)]
def OlA (H:Hp)(l:Addr)(T:Str)(rs:List Row):Prop:=∃ps:List Addr,H l=some (.lst (ps.map V.ref))/\ps.length=rs.length/\∀(j:Nat) (p:Addr) (r:Row),ps[j]? =some p->rs[j]? =some r->PcA H p T r
theorem OlA.dw {H:Hp}{l:Addr}{T:Str}{rs:List Row}(h:OlA H l T rs):Dw H 4 (.lst (rs.map (pcD T))) (.ref l):=by
 obtain⟨ps,a,b,c⟩:=h;refine .lst a (by rw[lM0,lM0];exact b) fun i v d h1 h2=>?_;rw[gM0] at h1 h2;obtain⟨p,e1,rfl⟩:=Option.map_eq_some_iff.mp h1;obtain⟨o,e2,rfl⟩:=Option.map_eq_some_iff.mp h2;exact(c i p o e1 e2).dw
theorem OlA.p {H:Hp}{l:Addr}{d:Dt}{zs:List Pt}{R:Row->Pt->Prop}{fr:Pt->Row}(h:OlA H l d.T (zs.map fr))(hR:∀z∈zs,R (fr z) z):OlP H l d.T R zs:=by
 obtain⟨ps,a,b,c⟩:=h;refine⟨ps,a,by rw[b,lM0],fun j p z h1 h2=>⟨fr z,c j p _ h1 (by rw[gM0,h2];rfl),hR z (List.mem_of_getElem? h2)⟩⟩
theorem b0B (d:Dt):∀zs:List Pt,Rws d ((zs.map (fr2 d)).map (pcD d.T)) zs
 |[]=>.nil
 |z::zs=>.cons (.inl rfl) (b0B d zs)
def OtW (H:Hp)(d:Dt)(v:V):Ot->Prop
 | .un wd zs=>∃l,Dw H 8 (rsp wd l) v/\Rws d l zs
 | .al a b=>Dw H 8 (alk a b) v
theorem b2o {H:Hp}{d:Dt}(ok:d.Ok){v v':V}{o:Ot}(h:OtA H d v o)(h':OtW H d v' o):∃D D',Dw H 8 D v/\Dw H 8 D' v'/\Deq D D' true:=by
 cases o with
 |un wd zs=>
  obtain⟨l,a,b⟩:=h;obtain⟨l',a',b'⟩:=h';exact⟨_,_,a.dw,a',(a3T.tup (.cons .str (.cons .str (.cons (b2q ok b b') .nil)))).to (by rw[beq_self_eq_true,beq_self_eq_true];rfl)⟩
 |al a b=>exact⟨_,_,Dv.dw h,h',(Dv.dw h).refl⟩
theorem a8r {σ:L2.St}{H:Hp}{Q:VK}{tk:TE}{trs:List (TE×TE)}{T:Str}{row:Row}(h0:∀(H1:Hp) (R:VK),a0o H H1->R (.str T) H1->tk σ H1 R)(h1:∀(H1:Hp) (R:List (V×V)->Hp->Prop),a0o H H1->R (row.map fun c=>(V.str c.1,V.int c.2)) H1->a6v trs σ H1 R)
  (hl:row.length≤15) (hm:a3b [] (rK row)=rK row) (q:∀p H',a0o H H'->PcA (cut H H') p T row->Q (.ref p) H'):b1F [(tk,b5w (a1H (b1F trs) a7V))] σ H Q:=by
 intro p hp;have T1:=a0o.upd (o:=.dK []) hp;refine h0 _ _ T1 ?_;intro r hr';have T2:=a0o.upd (o:=.dK []) hr';refine h1 _ _ (T1.trans T2) ⟨a0b,rK row,(by unfold rK;rw[List.map_map];rfl),by unfold rK;rw[lM0];exact hl,?_⟩;rw[hm];have S2:=T2.put (o:=.dK (rK row)) hr';refine⟨(by show 1≤sizeLine;decide),fun g hg=>?_⟩;have T3:=a0o.upd (o:=.lst [V.ref r]) hg;have hpn:=(S2.trans T3) p _ a0b;refine⟨hpn,[(.inr T,.ref g)],rfl,(by show 1≤15;decide),?_⟩;have e1:a3b [] [((.inr T:Key),V.ref g)]=tL T g:=rfl;rw[e1];have nrp:r≠p:=fun z=>by rw[z,a0b] at hr';cases hr'
 have ngp:g≠p:=fun e=>by
  rw[e] at hg
  have:=S2 p _ (a0b (H:=H) (a:=p) (o:=.dK []))
  rw[hg] at this;cases this
 have er:=T3 r _ (a0b (H:=upd (upd H p (.dK [])) r (.dK [])) (a:=r) (o:=.dK (rK row)));refine q p _ ((T1.trans (S2.trans T3)).put hp) ⟨g,r,a0J hp a0b,a0J (a1e (T1.trans S2) hg) ?_,a0J (a1e T1 hr') ?_⟩
 ·rw[a0h ngp];exact a0b
 ·rw[a0h nrp];exact er
def b0F (K:Fg0):Sp:=fun vs H Q _=>∃(a:Addr) (ns:List Int) (at_ tp:Int),vs=[.ref a,.int at_,.int tp]/\SqL K H a (ns.map V.int)/\0≤at_/\∀(l:Addr) (ab:List Pt) (H':Hp),a0o H H'->RwA H' l ab->0<ab.length->ab.length≤5->Q (.ref l) H'
def a9J:Sp:=fun vs H Q _=>∃(l lr:Addr) (d:Dt) (zs:List Pt),vs=[.ref l,.ref lr]/\a5T H l d/\d.c1≠d.c2/\RwA H lr zs/\zs.length≤60/\∀lo H',a0o H H'->OlA H' lo d.T (zs.map (fr2 d))->Q (.ref lo) H'
def b1p:Sp:=fun vs H Q _=>∃(r:Addr) (tp wv:Int) (z:Pt),vs=[.ref r,.int tp,.int wv]/\H r=some (.lst [.int z.1,.int z.2])/\∀l H',a0o H H'->cut H H' l=some (.lst [.int (gW wv tp z).1,.int (gW wv tp z).2])->Q (.ref l) H'
def rwN:List Str:=["_law_script","_law_at","_law_top","_law_rows_here","_law_many","_law_start","_law_k","_law_number"]
section
variable {P:Program}{w:World}{K:Fg0}{mg:Str->Option Value}{base:Heap}
theorem b1I {f fC:Addr}{fd fdC:FuncData}(F:Fun K "_law_rows" "_law_rows" (top 68) f fd)(B:Bl mg)(DC:Df K mg "_law_cell" (top 66) fC fdC):a0w P w K mg base CX0 2 f fd ["_law_script","_law_at","_law_top"] (b0F K):=by
 have sc:a0j rwN ["_law_script","_law_at","_law_top"] (a0e (top 68)):=.k (by decide +kernel);have GC:a0w P w K mg base CX0 1 fC fdC ["_law_script","_law_k"] (b1L K):=b0E DC.fn B;have bC:=DC.fn.b2 "_law_script" "_law_k" (by intros;rfl);refine F.ok sc (fun vs H Q E h=>?_) (fun cdv A outer s H vs Q E hr h=>?_)
 ·obtain⟨a,ns,at_,tp,rfl,_⟩:=h
  rfl
 ·obtain⟨a,ns,at_,tp,rfl,ha,a0,q⟩:=h
  refine⟨_,a0d (a0r (i:=3) sc.nd rfl (Or.inl rfl) (a1t a0c))
   (a0d (a0r (i:=4) sc.nd rfl (Or.inl rfl) (a0P a1Y a0i (a0P a1M (a0g GC hr (by rfl) DC.mg DC.fn.kp bC .nil a0k (a0a (pv 0) (a0a (pv 1) a0c))) a0i)))
   (a0d (a0r (i:=5) sc.nd rfl (Or.inl rfl) (a0P a1Q (a0g GC hr (by rfl) DC.mg DC.fn.kp bC .nil a0k (a0a (pv 0) (a0a (pv 1) a0c))) a0i))
   (a0d (a1p PassesOwn.never rfl (a2i rfl B.range (a0a (pv 4) a0c)) (a0n (i:=6) sc.nd rfl (Or.inl rfl))
    (a0d (a0r (i:=7) sc.nd rfl (Or.inl rfl) (a0P a1Y (a0P a3Y (pv 2) a0i) (a0P a1M (a0P a1Y (a0P a5d (a0P a1Q (pv 5) a0i) (pv 6)) (pv 5)) a0i)))
    (a0d (a9o (a0R (a0z a1R (a0P a1M (a0P a1Q (a0g GC hr (by rfl) DC.mg DC.fn.kp bC .nil a0k (a0a (pv 0) (a0a (a0P a1Y (pv 1) a0i) a0c))) (a0P a1Y (pv 6) a0i)) a0i) a0i (a0E _)) (a0f (a0r (i:=7) sc.nd rfl (Or.inl rfl) (pv 2))) a0u))
    (a0f (a0Y (a4l PySem.F.plainAttrs_list PySem.F.slot_list_append PySem.F.type_list_append a2K (pv 3) (a0a (a1t (a0a (pv 7) (a0a (a0P a3Y (a0P a5d (pv 6) (a0P a1Y a0i (a0P a1M (pv 5) a0i))) (pv 2)) a0c))) a0c)))))))
   (a0f (a0p (pv 3)))))),?_⟩
  refine⟨Nat.zero_le _,fun l hl=>?_⟩;have T1:=a0o.upd (o:=.lst ([]:List V)) hl;have e0:=a0b (H:=H) (a:=l) (o:=.lst ([]:List V));generalize upd H l (.lst ([]:List V))=H1 at *;refine⟨_,rfl,_,rfl,a,ns,at_,rfl,T1.seq ha,a0,_,_,rfl,rfl,(pos rfl),_,_,rfl,rfl,?_⟩;refine⟨_,rfl,_,rfl,a,ns,at_,rfl,T1.seq ha,a0,_,_,rfl,rfl,⟨by decide,by decide⟩,?_⟩;have m0:=Int.emod_nonneg (cel ns at_) (show(5:Int)≠0 by decide);have m5:=Int.emod_lt_of_pos (cel ns at_) (show(0:Int)<5 by decide)
  dsimp only
  generalize cel ns at_%5=mn at *;generalize cel ns at_/5=st at *;obtain⟨m,em⟩:=Int.eq_ofNat_of_zero_le (show 0≤1+mn by omega);rw[em];refine⟨_,rfl,_,rfl,(by omega),(by omega),a5e (fun i σ H'=>a0o H H'/\(∃u6 u7,σ=[some (.ref a),some (.int at_),some (.int tp),some (.ref l),some (.int m),some (.int st),u6,u7])/\∃(rs:List Addr) (ab:List Pt),H' l=some (.lst (rs.map V.ref))/\rs.length=i/\ab.length=i/\∀(j:Nat) (r:Addr) (p:Pt),rs[j]? =some r->ab[j]? =some p->exD l H' r=some (.lst [.int p.1,.int p.2])) ⟨T1,⟨_,_,rfl⟩,[],[],e0,rfl,rfl,(fun j r p h=>nomatch h)⟩ ?_ ?_⟩
  ·rintro i σ H' hi ⟨sm,⟨u6,u7,rfl⟩,rs,ab,g1,g2,g3,g4⟩
   have hi5:i<5:=by omega
   refine⟨_,rfl,_,_,rfl,rfl,_,rfl,_,_,rfl,rfl,⟨by decide,by decide⟩,_,rfl,_,_,rfl,rfl,.inr ⟨by omega,by omega⟩,_,rfl,_,_,rfl,rfl,_,_,rfl,rfl,(pos rfl),_,_,rfl,rfl,?_⟩;refine⟨fun σ' H''=>H''=H'/\∃nb:Int,σ'=[some (.ref a),some (.int at_),some (.int tp),some (.ref l),some (.int m),some (.int st),some (.int (0+(i:Int))),some (.int nb)],?_,?_⟩
   ·refine⟨_,rfl,_,rfl,_,_,rfl,rfl,a,ns,at_+1,rfl,sm.seq ha,by omega,_,rfl,_,_,rfl,rfl,_,_,rfl,rfl,⟨by omega,by omega⟩,_,_,rfl,rfl,(pos rfl),rfl,_,rfl,b3A (fun _=>?_) (fun _=>?_)⟩
    ·exact⟨_,rfl,rfl,_,rfl⟩
    ·exact⟨rfl,_,rfl⟩
   rintro σ' H'' ⟨rfl,nb,rfl⟩;refine⟨_,rfl,.inl ⟨rfl,_,SqL.of g1⟩,_,rfl,_,rfl,_,rfl,_,_,rfl,rfl,(pos rfl),_,_,rfl,rfl,_,_,rfl,rfl,.inl ⟨by omega,by omega⟩,_,rfl,_,_,rfl,rfl,(by show 2≤sizeLine;decide),fun r hr'=>?_⟩;have T2:=a0o.upd (o:=.lst [V.int nb,.int ((0+(i:Int)) * (1+st%4)-tp)]) hr';have nr:r≠l:=fun z=>by rw[z,g1] at hr';cases hr'
   refine⟨l,_,_,rfl,rfl,T2 _ _ g1,(by rw[lM0,sizeLine_eq];omega),?_⟩;refine⟨(sm.trans T2).put hl,⟨_,_,rfl⟩,rs++[r],ab++[(nb,(0+(i:Int)) * (1+st%4)-tp)],by rw[a0b,List.map_append];rfl,by rw[List.length_append,g2];rfl,by rw[List.length_append,g3];rfl,fun j r' p h1 h2=>?_⟩;rcases a1n h1 with h1 |⟨rfl,rfl⟩
   ·rcases a1n h2 with h2 |⟨rfl,rfl⟩
    ·have:=a1j _ _ (g4 j r' p h1 h2)
     exact a1l _ _ (a2y (a6g (g4 j r' p h1 h2)) (T2 _ _ this))
    ·have:=(gS0.mp h1).1
     omega
   ·rcases a1n h2 with h2 |⟨_,rfl⟩
    ·have:=(gS0.mp h2).1
     omega
    ·exact a1l _ _ (a2y nr a0b)
  ·rintro σ H' ⟨sm,⟨u6,u7,rfl⟩,rs,ab,g1,g2,g3,g4⟩
   have em':((m:Nat):Int).toNat=m:=Int.toNat_natCast m;refine⟨_,rfl,q l ab H' sm ⟨rs,g1,by omega,fun j r p h1 h2=>a1j _ _ (g4 j r p h1 h2)⟩ (by omega) (by omega)⟩
theorem a8K {f:Addr}{fd:FuncData}(F:Fun K "_law_pieces" "_law_pieces" (top 69) f fd):a0w P w K mg base CX0 1 f fd ["_law_names_here","_law_rows_here"] a9J:=by
 have sc:a0j ["_law_names_here","_law_rows_here"] ["_law_names_here","_law_rows_here"] (a0e (top 69)):=.k (by decide +kernel);have nd1:(["_law_row","_law_names_here"]:List Str).Nodup:=by decide +kernel
 refine F.ok sc (fun vs H Q E h=>?_) (fun cdv A outer s H vs Q E hr h=>?_)
 ·obtain⟨l,lr,d,zs,rfl,_⟩:=h
  rfl
 ·obtain⟨l,lr,d,zs,rfl,hl,ne,⟨rs,hrs,rl,hrr⟩,z60,q⟩:=h
  have hl:H l=some (.lst [.str d.T,.str d.c1,.str d.c2]):=hl;refine⟨_,a0f (a0p (a1d (osc:=a0e (top 69)) (N0:=["_law_names_here","_law_rows_here"]) (xs:=["_law_row"]) (fr:=[0]) ⟨rfl,by decide +kernel,by decide +kernel,by decide +kernel,(fun j hj=>by
       have e:j=0:=by simpa using hj
       subst e;exact⟨_,rfl,by decide +kernel⟩),by decide +kernel⟩ rfl rfl rfl (a0Q (pv 1))
      (fun s H fp=>a0n (i:=0) nd1 rfl (Or.inl rfl)) (fun s H fp=>a0S)
      (fun s H fp=>a4e (a2z (a0F (r:=a9O K) a0V (pv 1) a0i (fun _ _=>rfl)) (a1t (a0a (a4e (a2z (a0F (r:=a9O K) a0V (pv 1) a0i (fun _ _=>rfl)) (a0F (r:=a9O K) a0V (pv 0) a0i (fun _ _=>rfl)) (a2z (a0F (r:=a9O K) a0V (pv 1) a0i (fun _ _=>rfl)) (a0F (r:=a9O K) a0V (pv 0) a0i (fun _ _=>rfl)) a4w)) rfl rfl (by simp) (by decide)) a0c)) a4w) rfl rfl (by simp) (by decide)))),?_⟩
  refine⟨_,rfl,lr,rfl,⟨_,SqL.of hrs⟩,fun D hD=>?_⟩;refine a1x rs.length (fun i ys σ' Hc=>(∃t,σ'=[t,some (.ref l)])/\a0o H Hc/\∃ps:List Addr,ys=ps.map V.ref/\∀(j:Nat) (p:Addr) (o:Pt),ps[j]? =some p->zs[j]? =some o->PcA (nw H D Hc) p d.T (fr2 d o)) (by rw[sizeLine_eq];omega) ⟨⟨none,rfl⟩,a0o.upd hD,[],rfl,(fun j p o h=>nomatch h)⟩ a0b ?_ ?_
  ·rintro i σ' Hc ys hi ⟨⟨t,rfl⟩,sm,ps,rfl,hps⟩ hyl hD'
   rw[lM0] at hyl;have hia:i<zs.length:=by omega
   refine⟨⟨_,V.ref rs[i],SqL.of (sm _ _ hrs),by rw[gM0,gE0 hi];rfl⟩,?_⟩;rintro x H' ⟨rfl,hx'⟩;have ex:=hx' _ (SqL.of (sm _ _ hrs));rw[gM0,gE0 hi] at ex;cases ex;have hlc:=sm _ _ hl;have hrc:=sm _ _ (hrr i rs[i] zs[i] (gE0 hi) (gE0 hia));unfold b0a;refine a8r (T:=d.T) (row:=fr2 d zs[i]) (fun H1 R s1 r=>⟨_,rfl,l,_,0,_,rfl,rfl,SqL.of (s1 _ _ hlc),rfl,r⟩) (fun H1 R s1 r=>⟨_,rfl,l,_,1,_,rfl,rfl,SqL.of (s1 _ _ hlc),rfl,_,rfl,rs[i],_,0,_,rfl,rfl,SqL.of (s1 _ _ hrc),rfl,_,rfl,l,_,2,_,rfl,rfl,SqL.of (s1 _ _ hlc),rfl,_,rfl,rs[i],_,1,_,rfl,rfl,SqL.of (s1 _ _ hrc),rfl,r⟩) (by show 2≤15;decide) ?_ fun p H2 s2 hp=>?_
   ·show a2M [((.inr d.c1:Key),V.int zs[i].1)] (.inr d.c2) (.int zs[i].2)=_
    unfold a2M;rw[if_neg (by simp[ne])]
    rfl
   refine⟨s2 _ _ hD',⟨_,rfl⟩,(sm.trans s2).put hD,ps++[p],by rw[List.map_append];rfl,fun j p' o h1 h2=>?_⟩;rcases a1n h1 with h1 |⟨rfl,rfl⟩
   ·exact(hps j p' o h1 h2).same ((a2T s2).trans a0X)
   ·rw[hyl,gE0 hia] at h2
    cases h2;exact hp.same ((a5F sm hD').trans a0X)
  ·rintro σ' Hc ys ⟨_,sm,ps,rfl,hps⟩ hDn hyl
   rw[lM0] at hyl;refine⟨⟨_,SqL.of (sm _ _ hrs),by rw[lM0];exact Nat.le_refl _⟩,q D Hc sm ⟨ps,hDn,by rw[lM0];omega,fun j p o h1 h2=>?_⟩⟩;rw[gM0] at h2;obtain⟨z,e2,rfl⟩:=Option.map_eq_some_iff.mp h2;exact((hps j p z h1 e2).same a1b).same a0t
theorem b0r {f:Addr}{fd:FuncData}(F:Fun K "_law_led" "_law_led" (top 70) f fd)(hmin:mg "min"=none):a0w P w K mg base CX0 1 f fd ["_law_row","_law_top","_law_way"] b1p:=by
 have sc:a0j ["_law_row","_law_top","_law_way"] ["_law_row","_law_top","_law_way"] (a0e (top 70)):=.k (by decide +kernel);refine F.ok sc (fun vs H Q E h=>?_) (fun cdv A outer s H vs Q E hr h=>?_)
 ·obtain⟨r,tp,wv,z,rfl,_⟩:=h
  rfl
 ·obtain⟨r,tp,wv,z,rfl,hrr,q⟩:=h
  refine⟨_,a0d (a0R (a0z a1R (pv 2) a0i (a0E _)) (a0f (a0p (a1t (a0a (a0y (a4R rfl) (by rfl) hmin boot_min (a0a (a0F a0V (pv 0) a0i (fun _ _=>rfl)) (a0a (pv 1) a0c))) (a0a (a0F a0V (pv 0) a0i (fun _ _=>rfl)) a0c))))) a0u)
   (a0f (a0p (a1t (a0a (pv 1) (a0a (a0F a0V (pv 0) a0i (fun _ _=>rfl)) a0c))))),?_⟩
  refine⟨_,rfl,rfl,_,rfl,?_⟩
  by_cases h0:wv=0
  ·refine a3H (decide_eq_true (by rw[h0])) ?_
   refine⟨_,rfl,r,_,0,_,rfl,rfl,SqL.of hrr,rfl,_,rfl,_,_,rfl,_,rfl,r,_,1,_,rfl,rfl,SqL.of hrr,rfl,(by show 2≤sizeLine;decide),fun l hl=>?_⟩;refine q l _ (a0o.upd hl) (a0J hl ?_);rw[a0b];unfold gW;rw[if_pos h0]
  ·refine a2s (decide_eq_false fun e=>h0 (by injection e)) ?_
   refine⟨_,rfl,_,rfl,r,_,1,_,rfl,rfl,SqL.of hrr,rfl,(by show 2≤sizeLine;decide),fun l hl=>?_⟩;refine q l _ (a0o.upd hl) (a0J hl ?_);rw[a0b];unfold gW;rw[if_neg h0]
end
def ptD (z:Pt):Dp:=.lst [.fl (.int z.1),.fl (.int z.2)]
theorem a9L {H:Hp}{l:Addr}{z:Pt}(h:H l=some (.lst [.int z.1,.int z.2])):Dw H 1 (ptD z) (.ref l):=DwL.lst h (.cons (.fl rfl) (.cons (.fl rfl) .nil))
theorem b0p {z z':Pt}:Deq (ptD z) (ptD z') (z==z'):=(a3T.lst (.cons .int (.cons .int .nil))).to (by rw[a3A,Bool.and_true])
theorem b1X {H:Hp}{d:Dt}{lo t:Addr}{wd:Str}{zs:List Pt}(h:OlA H lo d.T (zs.map (fr2 d)))(ht:H t=some (.tup [.str "unlike",.str wd,.ref lo])):OtW H d (.ref t) (.un wd zs):=⟨_,DwL.tup (.inl ht) (.cons (.fl rfl) (.cons (.fl rfl) (.cons (h.dw.up 7 (by decide)) .nil))),b0B d zs⟩
theorem OlA.same {H H':Hp}(s:a0o H H'){l:Addr}{T:Str}{rs:List Row}(h:OlA H l T rs):OlA H' l T rs:=let ⟨ps,a,b,c⟩:=h;⟨ps,s _ _ a,b,fun j p o x y=>(c j p o x y).same s⟩
def b0T:Sp:=fun vs H Q _=>∃(l lo ln:Addr) (d:Dt) (wv:Int) (os ns:List Pt),vs=[.ref l,.ref lo,.ref ln,.int d.top,.int wv]/\a5T H l d/\d.c1≠d.c2/\RwA H lo os/\RwA H ln ns/\(0<os.length/\os.length≤5/\ns.length≤5)/\∀t H',a0o H H'->OtW H' d (.ref t) (a8a (gW wv d.top) os ns)->Q (.ref t) H'
def a8u:Sp:=fun vs H Q _=>∃(l lr:Addr) (d:Dt) (wv:Int) (zs:List Pt),vs=[.ref l,.ref lr,.int d.top,.int wv]/\a5T H l d/\d.c1≠d.c2/\RwA H lr zs/\zs.length≤5/\∀lo H',a0o H H'->(wv=0->OlP H' lo d.T (fun row y=>a1k d row y/\y.1≤d.top) (zs.map (gW 0 d.top)))->(wv≠0->OlP H' lo d.T (fun row y=>a7f d row y/\y.1=0) (zs.map fun z=>(0,z.2)))->Q (.ref lo) H'
def b5k (K:Fg0)(CC CD CP:Addr):Sp:=fun vs H Q _=>∃(l:Addr) (d:Dt) (wv:Int),vs=[.ref l,.int d.top,.int wv]/\a5T H l d/\∀x H',a0o H H'->(wv=0->MvC CC d H' x)->(wv≠0->TuA CD (PuA K CP) d H' x)->Q (.ref x) H'
def duN:List Str:=["_law_names_here","_law_olds","_law_news_here","_law_top","_law_way","_law_old","_law_gone","_law_new"]
section
variable {P:Program}{w:World}{K:Fg0}{mg:Str->Option Value}{base:Heap}{CC CP CD:Addr}
theorem b2d {f fL fP:Addr}{fd fdL fdP:FuncData}(F:Fun K "_law_due" "_law_due" (top 71) f fd)(B:Bl mg)(hmin:mg "min"=none)(DL:Df K mg "_law_led" (top 70) fL fdL)(DP:Df K mg "_law_pieces" (top 69) fP fdP):a0w P w K mg base CX0 2 f fd ["_law_names_here","_law_olds","_law_news_here","_law_top","_law_way"] b0T:=by
 have sc:a0j duN ["_law_names_here","_law_olds","_law_news_here","_law_top","_law_way"] (a0e (top 71)):=.k (by decide +kernel);have GL:a0w P w K mg base CX0 1 fL fdL ["_law_row","_law_top","_law_way"] b1p:=b0r DL.fn hmin;have GP:a0w P w K mg base CX0 1 fP fdP ["_law_names_here","_law_rows_here"] a9J:=a8K DP.fn;have bL:=DL.fn.b3 "_law_row" "_law_top" "_law_way" (by intros;rfl);have bP:=DP.fn.b2 "_law_names_here" "_law_rows_here" (by intros;rfl);refine F.ok sc (fun vs H Q E h=>?_) (fun cdv A outer s H vs Q E hr h=>?_)
 ·obtain⟨l,lo,ln,d,wv,os,ns,rfl,_⟩:=h
  rfl
 ·obtain⟨l,lo,ln,d,wv,os,ns,rfl,hl,ne,⟨ps,hps,pl,hpp⟩,⟨rs,hrs,rl,hrp⟩,⟨o0,o5,n5⟩,q⟩:=h
  have u:=u20 hr;refine⟨_,a0d (a1p PassesOwn.never rfl (a0Q (pv 1)) (a0n (i:=5) sc.nd rfl (Or.inl rfl))
    (a0d (a0r (i:=6) sc.nd rfl (Or.inl rfl) (a0g GL hr (by rfl) DL.mg DL.fn.kp bL .nil a0k (a0a (pv 5) (a0a (pv 3) (a0a (pv 4) a0c)))))
    (a0f (a0R (a0z (a2O u) (pv 6) (pv 5) (a0E _)) (a0f (a0p (a0I (a0a a0M (a0a a0M (a0a (a0g GP hr (by rfl) DP.mg DP.fn.kp bP .nil a0k (a0a (pv 0) (a0a (a1t (a0a (pv 5) (a0a (pv 6) (a0a (pv 5) a0c)))) a0c))) a0c)))))) a0u))))
   (a0d (a1p PassesOwn.never rfl (a0Q (pv 1)) (a0n (i:=5) sc.nd rfl (Or.inl rfl))
    (a0f (a1p PassesOwn.never rfl (a0Q (pv 2)) (a0n (i:=7) sc.nd rfl (Or.inl rfl))
     (a0d (a0r (i:=6) sc.nd rfl (Or.inl rfl) (a0g GL hr (by rfl) DL.mg DL.fn.kp bL .nil a0k (a0a (pv 7) (a0a (pv 3) (a0a (pv 4) a0c)))))
     (a0f (a0R (a0z (a2O u) (pv 6) (pv 7) (a0E _)) (a0f (a0p (a0I (a0a a0M (a0a a0M (a0a (a0g GP hr (by rfl) DP.mg DP.fn.kp bP .nil a0k (a0a (pv 0) (a0a (a1t (a0a (pv 5) (a0a (pv 7) (a0a (pv 6) (a0a (pv 7) a0c))))) a0c))) a0c)))))) a0u))))))
   (a0f (a0p (a0I (a0a a0M (a0a (a0y a0C (by rfl) B.len PySem.boot_len (a0a (pv 1) a0c)) (a0a (a0y a0C (by rfl) B.len PySem.boot_len (a0a (pv 2) a0c)) a0c))))))),?_⟩
  have hl:H l=some (.lst [.str d.T,.str d.c1,.str d.c2]):=hl;refine⟨_,rfl,lo,rfl,⟨_,SqL.of hps⟩,a1v (K:=K) (a:=lo) (xs:=ps.map V.ref) (fun i σ H'=>a0o H H'/\(∃u5 u6,σ=[some (.ref l),some (.ref lo),some (.ref ln),some (.int d.top),some (.int wv),u5,u6,none])/\∀(j:Nat) (o:Pt),j<i->os[j]? =some o->gW wv d.top o=o)
   ⟨a0o.refl _,⟨_,_,rfl⟩,(fun j o hj=>absurd hj (Nat.not_lt_zero j))⟩ (fun i σ H' _ p=>SqL.of (p.1 _ _ hps)) ?_ ?_⟩
  ·rintro i x σ H1 hx ⟨sm,⟨u5,u6,rfl⟩,heq⟩
   have hip:i<ps.length:=by have:=(gS0.mp hx).1;rwa [lM0] at this
   have hio:i<os.length:=by omega
   rw[gM0,gE0 hip] at hx;cases hx;have hp0:=sm _ _ (hpp i ps[i] os[i] (gE0 hip) (gE0 hio));refine⟨_,rfl,_,rfl,_,rfl,ps[i],d.top,wv,os[i],rfl,hp0,fun g H2 s2 hg=>?_⟩;have hg:=a0t _ _ hg;have S2:=sm.trans s2;refine⟨_,rfl,_,rfl,1,g,ps[i],_,_,_,rfl,rfl,a9L hg,a9L (s2 _ _ hp0),b0p,(by decide),_,rfl,?_⟩;cases hq:(gW wv d.top os[i]==os[i]) with
   |false=>
    refine a3H rfl ?_;refine⟨_,rfl,_,rfl,_,rfl,_,rfl,(by show 3≤sizeLine;decide),fun ll hll=>?_⟩;have T3:=a0o.upd (o:=.lst [V.ref ps[i],.ref g,.ref ps[i]]) hll;refine⟨l,ll,d,[os[i],gW wv d.top os[i],os[i]],rfl,(S2.trans T3) _ _ hl,ne,⟨[ps[i],g,ps[i]],a0b,rfl,fun j r p h1 h2=>?_⟩,(by show 3≤60;decide),fun lp H4 s4 hol=>⟨(by show 3≤sizeLine;decide),fun t ht=>?_⟩⟩
    ·match j,h1,h2 with
     |0,h1,h2=>cases h1;cases h2;exact(s2.trans T3) _ _ hp0
     |1,h1,h2=>cases h1;cases h2;exact T3 _ _ hg
     |2,h1,h2=>cases h1;cases h2;exact(s2.trans T3) _ _ hp0
     |j+3,h1,h2=>cases h1
    ·have T5:=a0o.upd (o:=.tup [V.str "unlike",.str "forth",.ref lp]) ht
     refine q t _ ((S2.trans T3).trans (s4.trans T5)) ?_;unfold a8a;rw[a4C (g:=fun o=>gW wv d.top o != o) (i:=i) (o:=os[i]) (gE0 hio) (by unfold bne;rw[hq];rfl) fun j y hj hy=>by rw[heq j y hj hy];exact bne_self_eq_false _];exact b1X (hol.same T5) a0b
   |true=>
    refine a2s rfl ⟨S2,⟨_,_,rfl⟩,fun j o hj ho=>?_⟩
    by_cases hj':j<i
    ·exact heq j o hj' ho
    ·obtain rfl:j=i:=by omega
     rw[gE0 hio] at ho;cases ho;exact eq_of_beq hq
  rintro σ H3 ⟨sm3,⟨u5,u6,rfl⟩,heq⟩;rw[lM0] at heq;have hno:os.find? (fun o=>gW wv d.top o != o)=none:=a4u fun j y hy=>by
   have hj:j<ps.length:=by have:=(gS0.mp hy).1;omega
   rw[heq j y hj hy];exact bne_self_eq_false _
  have hres:a8a (gW wv d.top) os ns=match ns.find? (fun y=>gW wv d.top y != y) with
    |some y=>.un "back" [os.headD (0,0),y,gW wv d.top y,y]
    |none=>.al os.length ns.length:=by
   unfold a8a;rw[hno]
   try rfl
  refine⟨_,rfl,lo,rfl,⟨_,SqL.of (sm3 _ _ hps)⟩,a1v (K:=K) (a:=lo) (xs:=ps.map V.ref) (fun i σ H'=>a0o H H'/\(∃u5 u6 u7,σ=[some (.ref l),some (.ref lo),some (.ref ln),some (.int d.top),some (.int wv),u5,u6,u7])/\(0<i->∀(j:Nat) (y:Pt),ns[j]? =some y->gW wv d.top y=y))
   ⟨sm3,⟨_,_,_,rfl⟩,(fun h=>absurd h (Nat.lt_irrefl 0))⟩ (fun i σ H' _ p=>SqL.of (p.1 _ _ hps)) ?_ ?_⟩
  ·rintro i x σ H4 hx ⟨sm4,⟨v5,v6,v7,rfl⟩,hall⟩
   have hip:i<ps.length:=by have:=(gS0.mp hx).1;rwa [lM0] at this
   have hio:i<os.length:=by omega
   rw[gM0,gE0 hip] at hx;cases hx;refine⟨_,rfl,ln,rfl,⟨_,SqL.of (sm4 _ _ hrs)⟩,a1v (K:=K) (a:=ln) (xs:=rs.map V.ref) (fun j σ H'=>a0o H H'/\(∃u6 u7,σ=[some (.ref l),some (.ref lo),some (.ref ln),some (.int d.top),some (.int wv),some (.ref ps[i]),u6,u7])/\∀(j':Nat) (y:Pt),j'<j->ns[j']? =some y->gW wv d.top y=y)
    ⟨sm4,⟨_,_,rfl⟩,(fun j' y h=>absurd h (Nat.not_lt_zero _))⟩ (fun j σ H' _ p=>SqL.of (p.1 _ _ hrs)) ?_ ?_⟩
   ·rintro j z σ H5 hz ⟨sm5,⟨w6,w7,rfl⟩,hb⟩
    have hjr:j<rs.length:=by have:=(gS0.mp hz).1;rwa [lM0] at this
    have hjn:j<ns.length:=by omega
    rw[gM0,gE0 hjr] at hz;cases hz;have hp0:=sm5 _ _ (hrp j rs[j] ns[j] (gE0 hjr) (gE0 hjn));have hpo:=sm5 _ _ (hpp i ps[i] os[i] (gE0 hip) (gE0 hio));refine⟨_,rfl,_,rfl,_,rfl,rs[j],d.top,wv,ns[j],rfl,hp0,fun g H2 s2 hg=>?_⟩;have hg:=a0t _ _ hg;have S2:=sm5.trans s2;refine⟨_,rfl,_,rfl,1,g,rs[j],_,_,_,rfl,rfl,a9L hg,a9L (s2 _ _ hp0),b0p,(by decide),_,rfl,?_⟩;cases hq:(gW wv d.top ns[j]==ns[j]) with
    |false=>
     refine a3H rfl ?_;have i0:i=0:=by
      rcases Nat.eq_zero_or_pos i with h |h
      ·exact h
      ·rw[hall h j ns[j] (gE0 hjn),beq_self_eq_true] at hq
       cases hq
     have eo:os.headD (0,0)=os[i]:=by
      subst i0;cases os with
      |nil=>simp at o0
      |cons a r=>rfl
     refine⟨_,rfl,_,rfl,_,rfl,_,rfl,_,rfl,(by show 4≤sizeLine;decide),fun ll hll=>?_⟩;have T3:=a0o.upd (o:=.lst [V.ref ps[i],.ref rs[j],.ref g,.ref rs[j]]) hll;refine⟨l,ll,d,[os[i],ns[j],gW wv d.top ns[j],ns[j]],rfl,(S2.trans T3) _ _ hl,ne,⟨[ps[i],rs[j],g,rs[j]],a0b,rfl,fun j' r p h1 h2=>?_⟩,(by show 4≤60;decide),fun lp H6 s6 hol=>⟨(by show 3≤sizeLine;decide),fun t ht=>?_⟩⟩
     ·match j',h1,h2 with
      |0,h1,h2=>cases h1;cases h2;exact(s2.trans T3) _ _ hpo
      |1,h1,h2=>cases h1;cases h2;exact(s2.trans T3) _ _ hp0
      |2,h1,h2=>cases h1;cases h2;exact T3 _ _ hg
      |3,h1,h2=>cases h1;cases h2;exact(s2.trans T3) _ _ hp0
      |j'+4,h1,h2=>cases h1
     ·have T5:=a0o.upd (o:=.tup [V.str "unlike",.str "back",.ref lp]) ht
      refine q t _ ((S2.trans T3).trans (s6.trans T5)) ?_;rw[hres,a4C (g:=fun o=>gW wv d.top o != o) (i:=j) (o:=ns[j]) (gE0 hjn) (by unfold bne;rw[hq];rfl) fun j y hj hy=>by rw[hb j y hj hy];exact bne_self_eq_false _]
      dsimp only
      rw[eo];exact b1X (hol.same T5) a0b
    |true=>
     refine a2s rfl ⟨S2,⟨_,_,rfl⟩,fun j' y hj hy=>?_⟩
     by_cases hj':j'<j
     ·exact hb j' y hj' hy
     ·obtain rfl:j'=j:=by omega
      rw[gE0 hjn] at hy;cases hy;exact eq_of_beq hq
   ·rintro σ H5 ⟨sm5,⟨w6,w7,rfl⟩,hb⟩
    rw[lM0] at hb;exact⟨sm5,⟨_,_,_,rfl⟩,fun _ j y hy=>hb j y (by have:=(gS0.mp hy).1;omega) hy⟩
  ·rintro σ H4 ⟨sm4,⟨v5,v6,v7,rfl⟩,hall⟩
   rw[lM0] at hall;have hnn:ns.find? (fun x=>gW wv d.top x != x)=none:=a4u fun j y hy=>by
    rw[hall (by omega) j y hy];exact bne_self_eq_false _
   rw[hnn] at hres;refine⟨_,rfl,lo,_,rfl,.inl (SqL.of (sm4 _ _ hps)),_,rfl,ln,_,rfl,.inl (SqL.of (sm4 _ _ hrs)),(by show 3≤sizeLine;decide),fun t ht=>?_⟩;rw[lM0,lM0,pl,rl];have S5:=a0o.upd (o:=.tup [V.str "alike",.int (os.length:Nat),.int (ns.length:Nat)]) ht;refine q t _ (sm4.trans S5) ?_;rw[hres];exact DwL.tup (.inl a0b) (.cons (.fl rfl) (.cons (.fl rfl) (.cons (.fl rfl) .nil)))
theorem b1e {f fL fP:Addr}{fd fdL fdP:FuncData}(F:Fun K "_law_news" "_law_news" (top 73) f fd)(hmin:mg "min"=none)(DL:Df K mg "_law_led" (top 70) fL fdL)(DP:Df K mg "_law_pieces" (top 69) fP fdP):a0w P w K mg base CX0 2 f fd ["_law_names_here","_law_rows_here","_law_top","_law_way"] a8u:=by
 have sc:a0j ["_law_names_here","_law_rows_here","_law_top","_law_way"] ["_law_names_here","_law_rows_here","_law_top","_law_way"] (a0e (top 73)):=.k (by decide +kernel);have GL:a0w P w K mg base CX0 1 fL fdL ["_law_row","_law_top","_law_way"] b1p:=b0r DL.fn hmin;have GP:a0w P w K mg base CX0 1 fP fdP ["_law_names_here","_law_rows_here"] a9J:=a8K DP.fn;have bL:=DL.fn.b3 "_law_row" "_law_top" "_law_way" (by intros;rfl);have bP:=DP.fn.b2 "_law_names_here" "_law_rows_here" (by intros;rfl);have nd1:(["_law_row","_law_names_here"]:List Str).Nodup:=by decide +kernel
 have nd2:(["_law_row","_law_top","_law_way"]:List Str).Nodup:=by decide +kernel
 refine F.ok sc (fun vs H Q E h=>?_) (fun cdv A outer s H vs Q E hr h=>?_)
 ·obtain⟨l,lr,d,wv,zs,rfl,_⟩:=h
  rfl
 ·obtain⟨l,lr,d,wv,zs,rfl,hl,ne,⟨rs,hrs,rl,hrr⟩,z5,q⟩:=h
  have hl:H l=some (.lst [.str d.T,.str d.c1,.str d.c2]):=hl;refine⟨_,a0d (a0R (a0z a1R (pv 3) a0i (a0E _)) (a0f (a0p (a0g GP hr (by rfl) DP.mg DP.fn.kp bP .nil a0k (a0a (pv 0) (a0a (a1d (osc:=a0e (top 73)) (N0:=["_law_names_here","_law_rows_here","_law_top","_law_way"]) (xs:=["_law_row"]) (fr:=[2,3]) ⟨rfl,by decide +kernel,by decide +kernel,by decide +kernel,(fun j hj=>by
       have e:j=2\/j=3:=by simpa using hj
       rcases e with rfl |rfl
       ·exact⟨_,rfl,by decide +kernel⟩
       ·exact⟨_,rfl,by decide +kernel⟩),by decide +kernel⟩ rfl rfl rfl (a0Q (pv 1))
      (fun s H fp=>a0n (i:=0) nd2 rfl (Or.inl rfl)) (fun s H fp=>a0S)
      (fun s H fp=>a0g GL hr (by rfl) DL.mg DL.fn.kp bL .nil a0k (a0a (pv 0) (a0a (pv 1) (a0a (pv 2) a0c))))) a0c))))) a0u)
   (a0f (a0p (a1d (osc:=a0e (top 73)) (N0:=["_law_names_here","_law_rows_here","_law_top","_law_way"]) (xs:=["_law_row"]) (fr:=[0]) ⟨rfl,by decide +kernel,by decide +kernel,by decide +kernel,(fun j hj=>by
       have e:j=0:=by simpa using hj
       subst e;exact⟨_,rfl,by decide +kernel⟩),by decide +kernel⟩ rfl rfl rfl (a0Q (pv 1))
      (fun s H fp=>a0n (i:=0) nd1 rfl (Or.inl rfl)) (fun s H fp=>a0S)
      (fun s H fp=>a4e (a2z (a0F (r:=a9O K) a0V (pv 1) a0i (fun _ _=>rfl)) (a1t (a0a (a4e (a2z (a0F (r:=a9O K) a0V (pv 1) a0i (fun _ _=>rfl)) (a0F (r:=a9O K) a0V (pv 0) a0i (fun _ _=>rfl)) a4w) rfl rfl (by simp) (by decide)) a0c)) a4w) rfl rfl (by simp) (by decide))))),?_⟩
  refine⟨_,rfl,rfl,_,rfl,?_⟩
  by_cases h0:wv=0
  ·subst h0
   refine a3H (decide_eq_true rfl) ?_;refine⟨_,rfl,_,rfl,lr,rfl,⟨_,SqL.of hrs⟩,fun D hD=>?_⟩;refine a1x rs.length (fun i ys σ' Hc=>(∃t,σ'=[t,some (.int d.top),some (.int 0)])/\a0o H Hc/\∃ps:List Addr,ys=ps.map V.ref/\∀(j:Nat) (p:Addr) (o:Pt),ps[j]? =some p->zs[j]? =some o->nw H D Hc p=some (.lst [.int (gW 0 d.top o).1,.int (gW 0 d.top o).2])) (by rw[sizeLine_eq];omega) ⟨⟨none,rfl⟩,a0o.upd hD,[],rfl,(fun j p o h=>nomatch h)⟩ a0b ?_ ?_
   ·rintro i σ' Hc ys hi ⟨⟨t,rfl⟩,sm,ps,rfl,hps⟩ hyl hD'
    rw[lM0] at hyl;have hia:i<zs.length:=by omega
    refine⟨⟨_,V.ref rs[i],SqL.of (sm _ _ hrs),by rw[gM0,gE0 hi];rfl⟩,?_⟩;rintro x H' ⟨rfl,hx'⟩;have ex:=hx' _ (SqL.of (sm _ _ hrs));rw[gM0,gE0 hi] at ex;cases ex;refine⟨_,rfl,_,rfl,_,rfl,rs[i],d.top,0,zs[i],rfl,sm _ _ (hrr i _ _ (gE0 hi) (gE0 hia)),fun p H2 s2 hp=>⟨s2 _ _ hD',⟨_,rfl⟩,(sm.trans s2).put hD,ps++[p],by rw[List.map_append];rfl,fun j p' o h1 h2=>?_⟩⟩;rcases a1n h1 with h1 |⟨rfl,rfl⟩
    ·exact a0X _ _ (a2T s2 _ _ (hps j p' o h1 h2))
    ·rw[hyl,gE0 hia] at h2
     cases h2;exact a0X _ _ (a5F sm hD' _ _ hp)
   ·rintro σ' Hc ys ⟨_,sm,ps,rfl,hps⟩ hDn hyl
    rw[lM0] at hyl;refine⟨⟨_,SqL.of (sm _ _ hrs),by rw[lM0];exact Nat.le_refl _⟩,?_⟩;refine⟨l,D,d,zs.map (gW 0 d.top),rfl,sm _ _ hl,ne,⟨ps,hDn,by rw[lM0];omega,fun j p o h1 h2=>?_⟩,by rw[lM0];omega,fun lo H2 s2 hol=>?_⟩
    ·rw[gM0] at h2
     obtain⟨z,e2,rfl⟩:=Option.map_eq_some_iff.mp h2;exact a0t _ _ (a1b _ _ (hps j p z h1 e2))
    ·refine q lo H2 (sm.trans s2) (fun _=>hol.p (R:=fun row y=>a1k d row y/\y.1≤d.top) fun z hz=>⟨.inl rfl,?_⟩) (fun h=>absurd rfl h)
     obtain⟨y,_,rfl⟩:=List.mem_map.mp hz
     show(if d.top<y.1 then d.top else y.1)≤d.top
     split<;>omega
  ·refine a2s (decide_eq_false fun e=>h0 (by injection e)) ?_
   refine⟨_,rfl,lr,rfl,⟨_,SqL.of hrs⟩,fun D hD=>?_⟩;refine a1x rs.length (fun i ys σ' Hc=>(∃t,σ'=[t,some (.ref l)])/\a0o H Hc/\∃ps:List Addr,ys=ps.map V.ref/\∀(j:Nat) (p:Addr) (o:Pt),ps[j]? =some p->zs[j]? =some o->PcA (nw H D Hc) p d.T [(d.c2,o.2)]) (by rw[sizeLine_eq];omega) ⟨⟨none,rfl⟩,a0o.upd hD,[],rfl,(fun j p o h=>nomatch h)⟩ a0b ?_ ?_
   ·rintro i σ' Hc ys hi ⟨⟨t,rfl⟩,sm,ps,rfl,hps⟩ hyl hD'
    rw[lM0] at hyl;have hia:i<zs.length:=by omega
    refine⟨⟨_,V.ref rs[i],SqL.of (sm _ _ hrs),by rw[gM0,gE0 hi];rfl⟩,?_⟩;rintro x H' ⟨rfl,hx'⟩;have ex:=hx' _ (SqL.of (sm _ _ hrs));rw[gM0,gE0 hi] at ex;cases ex;have hlc:=sm _ _ hl;have hrc:=sm _ _ (hrr i rs[i] zs[i] (gE0 hi) (gE0 hia));unfold b0a;refine a8r (T:=d.T) (row:=[(d.c2,zs[i].2)]) (fun H1 R s1 r=>⟨_,rfl,l,_,0,_,rfl,rfl,SqL.of (s1 _ _ hlc),rfl,r⟩) (fun H1 R s1 r=>⟨_,rfl,l,_,2,_,rfl,rfl,SqL.of (s1 _ _ hlc),rfl,_,rfl,rs[i],_,1,_,rfl,rfl,SqL.of (s1 _ _ hrc),rfl,r⟩) (by show 1≤15;decide) rfl fun p H2 s2 hp=>?_;refine⟨s2 _ _ hD',⟨_,rfl⟩,(sm.trans s2).put hD,ps++[p],by rw[List.map_append];rfl,fun j p' o h1 h2=>?_⟩;rcases a1n h1 with h1 |⟨rfl,rfl⟩
    ·exact(hps j p' o h1 h2).same ((a2T s2).trans a0X)
    ·rw[hyl,gE0 hia] at h2
     cases h2;exact hp.same ((a5F sm hD').trans a0X)
   ·rintro σ' Hc ys ⟨_,sm,ps,rfl,hps⟩ hDn hyl
    rw[lM0] at hyl;refine⟨⟨_,SqL.of (sm _ _ hrs),by rw[lM0];exact Nat.le_refl _⟩,q D Hc sm (fun h=>absurd h h0) (fun _=>⟨ps,hDn,by rw[lM0];omega,fun j p o h1 h2=>?_⟩)⟩;rw[gM0] at h2;obtain⟨z,e2,rfl⟩:=Option.map_eq_some_iff.mp h2;exact⟨_,((hps j p z h1 e2).same a1b).same a0t,⟨rfl,rfl⟩,rfl⟩
theorem b1K {f cI pI dI:Addr}{fd cdI pdI ddI:FuncData}(F:Fun K "_law_move" "_law_move" (top 72) f fd)
  (mC:mg "Cap"=some (.ref CC)) (MC:Mk K CC cI) (FC:Fun K "__init__" "Cap.__init__" (ca 0) cI cdI) (GC:a0w P w K mg base CX0 5 cI cdI ["self","table","column","top"] (b5n CC))
  (mP:mg "Put"=some (.ref CP)) (MP:Mk K CP pI) (FP:Fun K "__init__" "Put.__init__" (pu 0) pI pdI) (GP:a0w P w K mg base CX0 5 pI pdI ["self","table","column","kind","value"] (b5G CP))
  (mD:mg "Turned"=some (.ref CD)) (MD:Mk K CD dI) (FD:Fun K "__init__" "Turned.__init__" (td 0) dI ddI) (LD:ClD K CD) :
  a0w P w K mg base CX0 7 f fd ["_law_names_here","_law_top","_law_way"] (b5k K CC CD CP):=by
 have sc:a0j ["_law_names_here","_law_top","_law_way"] ["_law_names_here","_law_top","_law_way"] (a0e (top 72)):=.k (by decide +kernel);have GD:a0w P w K mg base CX0 1 dI ddI ["self","move"] (b5h CD):=b2w FD LD;have bD:=FD.b2 "self" "move" (by intros;rfl);have bC:=FC.b4 "self" "table" "column" "top" (by intros;rfl);have bP:=FP.b5 "self" "table" "column" "kind" "value" (by intros;rfl);refine F.ok sc (fun vs H Q E h=>?_) (fun cdv A outer s H vs Q E hr h=>?_)
 ·obtain⟨l,d,wv,rfl,_⟩:=h
  rfl
 ·obtain⟨l,d,wv,rfl,hl,q⟩:=h
  have hl:H l=some (.lst [.str d.T,.str d.c1,.str d.c2]):=hl;refine⟨_,a0d (a0R (a0z a1R (pv 2) a0i (a0E _))
    (a0f (a0p (a3r MC GC (hr.mono (by decide)) (by rfl) mC bC .nil a0k (a0a (a0F a0V (pv 0) a0i (fun _ _=>rfl)) (a0a (a0F a0V (pv 0) a0i (fun _ _=>rfl)) (a0a (pv 1) a0c)))))) a0u)
   (a0f (a0p (a3r MD GD (hr.mono (by decide)) (by rfl) mD bD .nil a0k (a0a (a3r MP GP (hr.mono (by decide)) (by rfl) mP bP .nil a0k (a0a (a0F a0V (pv 0) a0i (fun _ _=>rfl)) (a0a (a0F a0V (pv 0) a0i (fun _ _=>rfl)) (a0a (a0I (a0a a0M a0c)) (a0a (pv 1) a0c))))) a0c)))),?_⟩
  refine⟨_,rfl,rfl,_,rfl,?_⟩
  by_cases h1:wv=0
  ·refine a3H (decide_eq_true (by rw[h1])) ?_
   refine⟨_,rfl,l,_,0,_,rfl,rfl,SqL.of hl,rfl,_,rfl,l,_,1,_,rfl,rfl,SqL.of hl,rfl,_,rfl,?_⟩;intro x dx hx hdx ndx;have T5:=a0o.upd (o:=.own x) hdx;have hx5:upd H dx (.own x) x=none:=by rw[a0h (Ne.symm ndx)];exact hx
   have T6:=a0o.upd (o:=.ins CC dx []) hx5;have S6:=T5.trans T6;refine⟨x,dx,d.T,d.c1,_,rfl,a0b,fun t H' keep hx'=>⟨rfl,?_⟩⟩;have S7:a0o H H':=fun b o e=>keep b o (a0x e hx) (S6 _ _ e);exact q x H' S7 (fun _=>⟨dx,t,hx'⟩) (fun h=>absurd h1 h)
  ·refine a2s (decide_eq_false fun e=>h1 (by injection e)) ?_
   refine⟨_,rfl,l,_,0,_,rfl,rfl,SqL.of hl,rfl,_,rfl,l,_,1,_,rfl,rfl,SqL.of hl,rfl,(by show 1≤sizeLine;decide),fun ka hka=>?_⟩;have T1:=a0o.upd (o:=.tup [V.str "whole"]) hka;have e1:=a0b (H:=H) (a:=ka) (o:=.tup [V.str "whole"]);generalize upd H ka (.tup [V.str "whole"])=H1 at *;refine⟨_,rfl,?_⟩;intro x dx hx hdx ndx;have T5:=a0o.upd (o:=.own x) hdx;have hx5:upd H1 dx (.own x) x=none:=by rw[a0h (Ne.symm ndx)];exact hx
   have T6:=a0o.upd (o:=.ins CP dx []) hx5;have S6:=T5.trans T6;refine⟨x,dx,ka,d.T,d.c1,d.top,rfl,a0b,S6 _ _ e1,fun t H' keep hx'=>⟨rfl,?_⟩⟩;have S7:a0o H1 H':=fun b o e=>keep b o (a0x e hx) (S6 _ _ e);intro y dy hy hdy ndy;have T8:=a0o.upd (o:=.own y) hdy;have hy8:upd H' dy (.own y) y=none:=by rw[a0h (Ne.symm ndy)];exact hy
   have T9:=a0o.upd (o:=.ins CD dy []) hy8;have S9:=T8.trans T9;refine⟨y,dy,x,rfl,a0b,fun H2 keep2 hy'=>⟨rfl,?_⟩⟩;have S10:a0o H' H2:=fun b o e=>keep2 b o (a0x e hy) (S9 _ _ e);exact q y H2 (T1.trans (S7.trans S10)) (fun h=>absurd h h1) (fun _=>⟨dy,x,hy',dx,ka,t,S10 _ _ hx',SqT.of ((S7.trans S10) _ _ e1),trivial⟩)
end
end My
namespace L2
open PySem PySem.Spec PyProof.Rows
section
variable {X:Cx}{pos:Pos}
structure Mk0 (K:Fg0) (C:Addr):Prop where
 makes:PySem.W.makesIn K C=true
 init:PySem.W.findIn K (.ref C) "__init__"=some (some (.builtin "object.__init__"))
 kp:PySem.W.keepIn K (.ref C)=true
theorem b3q {C:Addr}{x:Str}{p:Pos}(M:Mk0 X.K C)(hg:Gl X x)(hm:X.mg x=some (.ref C))(hdb:(x==("__debug__":Str))=false:=by decide) :
  PE X (.Call (.Name x p) [] [] pos) (fun σ H Q=>∀a dx,H a=none->H dx=none->dx≠a->Q (.ref a) (upd (upd H dx (.own a)) a (.ins C dx []))):=by
 intro pins s σ H Q I h;refine wpAny_Call_Name_kw (a4c I hg hm ?_ hdb);have hq:=h (s.heap.objs.size+1) s.heap.objs.size (I.hok.fresh (Nat.le_succ _)) (I.hok.fresh (Nat.le_refl _)) (Nat.ne_of_lt (Nat.lt_succ_self _));have I2:=Inv.made (C:=C) I;have Y:=PySem.W.makes_of (M:=model X.prog X.w) I.kIn M.makes;have kp:∀b o,s.heap.get? b=some o->((s.heap.push PySem.W.emptyDict).push (PySem.W.instObj C s.heap.objs.size)).get? b=some o:=fun b o e=>hP0 _ (hP0 _ e);have gx:((s.heap.push PySem.W.emptyDict).push (PySem.W.instObj C s.heap.objs.size)).get? (s.heap.objs.size+1)=some (PySem.W.instObj C s.heap.objs.size):=by
  have:=Heap.get?_push_size (s.heap.push PySem.W.emptyDict) (o:=PySem.W.instObj C s.heap.objs.size) rfl
  rwa [Heap.size_push] at this
 refine PySem.W.callWith_K0 I.kIn M.kp (wpAny_call (a7I I.kIn M.makes M.init (fun self=>PySem.W.Looks.of_pure (PySem.W.oi_bind self)) ?_));have t1:PySem.W.Looks (model X.prog X.w) ((s.heap.push PySem.W.emptyDict).push (PySem.W.instObj C s.heap.objs.size)) (typeOf (.ref (s.heap.objs.size+1))) (.ref C):=(PySem.W.Looks.ld gx).andThen .now;have t2:PySem.W.Looks (model X.prog X.w) ((s.heap.push PySem.W.emptyDict).push (PySem.W.instObj C s.heap.objs.size)) (isInstance (.ref (s.heap.objs.size+1)) (.type "object")) true:=t1.andThen (Y.top.keeps kp);refine codeAny_call_builtin PySem.W.oi_plain PySem.W.entry_oi (@PySem.W.check_slot (model X.prog X.w) _ _ _ "object.__init__" "object" "__init__" (.ref (s.heap.objs.size+1)) [] [] _ PySem.W.oi_kind PySem.W.oi_split t2 (PySem.W.oi_args _) ?_);rw[PySem.W.oi_run];exact wP0 ⟨rfl,V.ref (s.heap.objs.size+1),_,I2,rfl,hq⟩
end
def a0N (K:Fg0)(C:Addr)(m qual:Str)(st:Stmt):Prop:=∃f fd,Fun K m qual st f fd/\a7l K C m f
theorem a0D {K:Fg0}{C f:Addr}{m qual:Str}{st:Stmt}{oc:Value}{od an:Option Addr}{osl:Array (Option Value)}{kV doc pm cdv ct:Value}(a:PySem.W.findIn K (.ref C) m=some (some (.ref f)))(i:PySem.W.isFn K (.ref f)=true)
  (l:K.lookup f=some ⟨oc,od,.func (PySem.W.fnOf m qual (a0K st) (a0G st) (a0e st) .none kV doc pm an cdv ct),osl⟩) (c:PySem.W.codeIn K cdv qual=true) (k:PySem.W.keepIn K (.ref f)=true):a0N K C m qual st:=
 ⟨f,_,a6H l c k,⟨a,i,k⟩⟩
def a2d (K:Fg0)(C:Addr)(m qual:Str)(st:Stmt)(ps:List Str):Prop:=∃f fd,a6l K m qual st f fd/\a7l K C m f/\a1s K fd ps []/\a1s K fd ps [.none]
end L2
namespace My
open PySem L2 PyProof.Rows
seal L2.PE L2.PT L2.PW L2.PS L2.PSs L2.PA L2.PI L2.PG L2.PGs L2.OpR L2.a1E L2.IxR L2.SlR L2.MtR L2.PIf L2.PO L2.MtM L2.PC
section
variable {P:Program}{w:World}{K:Fg0}{mg:Str->Option Value}{base:Heap}{PF C CC CP CD CH CM C0 C1:Addr}{Mv Mv0 Mv1:MvP}{S:Sem}{k k':Nat}
theorem mo2 {m q:Str}{st:Stmt}{sp:Sp}(h:a0N K C m q st)(hb:∀{f fd},Fun K m q st f fd->a1s K fd P2 [])(g:∀{f fd},Fun K m q st f fd->a0w P w K mg base CX0 k f fd P2 sp):MO P w K mg base k C m P2 sp:=let ⟨f,fd,F,M⟩:=h;⟨f,fd,M,hb F,g F⟩
theorem mo4 {m q:Str}{st:Stmt}{sp:Sp}(h:a0N K C m q st)(hb:∀{f fd},Fun K m q st f fd->a1s K fd P4 [])(g:∀{f fd},Fun K m q st f fd->a0w P w K mg base CX0 k f fd P4 sp):MO P w K mg base k C m P4 sp:=let ⟨f,fd,F,M⟩:=h;⟨f,fd,M,hb F,g F⟩
theorem moX {m q:Str}{st:Stmt}{sp:Sp}(h:a2d K C m q st P4)(g:∀{f fd},a6l K m q st f fd->a0w P w K mg base CX0 k f fd P4 sp):MO1 P w K mg base k C m P4 sp:=let ⟨f,fd,F,M,b,b'⟩:=h;⟨f,fd,M,b,b',g F⟩
theorem MO.up {m:Str}{ps:List Str}{sp:Sp}(h:MO P w K mg base k C m ps sp)(hk:k≤k'):MO P w K mg base k' C m ps sp:=let ⟨f,fd,M,b,G⟩:=h;⟨f,fd,M,b,G.to hk fun _ _ _ _ z=>z⟩
theorem MO1.up {m:Str}{ps:List Str}{sp:Sp}(h:MO1 P w K mg base k C m ps sp)(hk:k≤k'):MO1 P w K mg base k' C m ps sp:=let ⟨f,fd,M,b,b',G⟩:=h;⟨f,fd,M,b,b',G.to hk fun _ _ _ _ z=>z⟩
theorem Itf.up (I:Itf P w K mg base PF k C Mv S)(hk:k≤k'):Itf P w K mg base PF k' C Mv S:=⟨I.ins,I.nt,I.cl,I.af.up hk,I.bf.up hk,I.fo.up hk,I.bk.up hk,I.le.up hk,I.ri.up hk⟩
theorem b1q {d:Dt}{H:Hp}{a:Addr}(h:MvC CC d H a):∃dx fs,H a=some (.ins CC dx fs)/\∀m:Str,(m="after"\/m="before"\/m="forth"\/m="back"\/m="left"\/m="right")->fs.lookup m=none:=let ⟨dx,t,e⟩:=h;⟨dx,_,e,fun m h=>b3f h⟩
theorem b0u {d:Dt}{H H':Hp}{a:Addr}(h:MvC CC d H a)(s:Ntb H H'):MvC CC d H' a:=let ⟨dx,t,e⟩:=h;⟨dx,t,s _ _ e nofun⟩
theorem b0S {d:Dt}{H:Hp}{a:Addr}(h:PuA K CP d H a):∃dx fs,H a=some (.ins CP dx fs)/\∀m:Str,(m="after"\/m="before"\/m="forth"\/m="back"\/m="left"\/m="right")->fs.lookup m=none:=let ⟨dx,k,t,e,_⟩:=h;⟨dx,_,e,fun m h=>a7w (by rcases h with h |h |h |h |h |h<;>simp[h])⟩
theorem b2L {d:Dt}{H:Hp}{a:Addr}(h:TuA CD Mv d H a):∃dx fs,H a=some (.ins CD dx fs)/\∀m:Str,(m="after"\/m="before"\/m="forth"\/m="back"\/m="left"\/m="right")->fs.lookup m=none:=let ⟨dx,y,e,_⟩:=h;⟨dx,_,e,fun m h=>b2K (by rcases h with rfl |rfl |rfl |rfl |rfl |rfl<;>decide)⟩
theorem b1Y {d:Dt}{H:Hp}{a:Addr}(h:ChA CH Mv0 Mv1 d H a):∃dx fs,H a=some (.ins CH dx fs)/\∀m:Str,(m="after"\/m="before"\/m="forth"\/m="back"\/m="left"\/m="right")->fs.lookup m=none:=let ⟨dx,t,m,n,e,_⟩:=h;⟨dx,_,e,fun m h=>a7L (by rcases h with rfl |rfl |rfl |rfl |rfl |rfl<;>decide)⟩
theorem a8B (L:ClD K CD)(I:Itf P w K mg base PF k C Mv S)(h1:a0N K CD "after" "Turned.after" (td 1))(h2:a0N K CD "before" "Turned.before" (td 2))(h3:a0N K CD "forth" "Turned.forth" (td 3))(h4:a0N K CD "back" "Turned.back" (td 4))(h5:a2d K CD "left" "Turned.left" (td 5) P4)(h6:a2d K CD "right" "Turned.right" (td 6) P4):Itf P w K mg base PF (k+1) CD (TuA CD Mv) S.turn:=
 ⟨b2L,fun⟨dx,y,e,m⟩ s=>⟨dx,y,s _ _ e nofun,I.nt m s⟩,L.cl,
  mo2 h1 (fun F=>F.b2 "self" "form" (by intros;rfl)) (fun F=>b4Z F L I),
  mo2 h2 (fun F=>F.b2 "self" "form" (by intros;rfl)) (fun F=>b4r F L I),
  mo4 h3 (fun F=>F.b4 "self" "form" "piece" "rest" (by intros;rfl)) (fun F=>b3Y F L I),
  mo4 h4 (fun F=>F.b4 "self" "form" "piece" "rest" (by intros;rfl)) (fun F=>b4V F L I),
  moX h5 (fun F=>b3R F L I),moX h6 (fun F=>b4k F L I)⟩
theorem b2u {fC fP:Addr}{fdC fdP:FuncData}(L:ClH K CH)(B:Bl mg)(hrev:mg "reversed"=none)(so:S.Ok)(k1:1≤k)(DC:Df K mg "copied" (top 37) fC fdC)(DP:Df K mg "at_place" (top 50) fP fdP)(I0:Itf P w K mg base PF k C0 Mv0 S)(I1:Itf P w K mg base PF k C1 Mv1 S.turn)
  (h1:a0N K CH "after" "Chain.after" (ch 1)) (h3:a0N K CH "from_the_last" "Chain.from_the_last" (ch 3)) (h4:a0N K CH "forth" "Chain.forth" (ch 4)) (h5:a0N K CH "back" "Chain.back" (ch 5)) (h6:a2d K CH "left" "Chain.left" (ch 6) P4) (h7:a2d K CH "right" "Chain.right" (ch 7) P4):It5 P w K mg base PF (k+1) CH (ChA CH Mv0 Mv1) (chS S):=by
 obtain⟨fL,fdL,FL,ML⟩:=h3;have GL:a0w P w K mg base CX0 1 fL fdL ["self"] (b3y CH):=b3Q FL L B hrev;have bL:=FL.b1 "self" (by intros;rfl);exact⟨b1Y,b3W I0 I1,L.cl,
  mo2 h1 (fun F=>F.b2 "self" "form" (by intros;rfl)) (fun F=>b4C (S:=S) F L B I0 I1),
  mo4 h4 (fun F=>F.b4 "self" "form" "piece" "rest" (by intros;rfl)) (fun F=>b4o (S:=S) F L B k1 DC I0 I1),
  mo4 h5 (fun F=>F.b4 "self" "form" "piece" "rest" (by intros;rfl)) (fun F=>b3S (S:=S) F L B k1 DC ML GL bL hrev I0 I1),
  moX h6 (fun F=>b5j (S:=S) F L B k1 so DP I0 I1),moX h7 (fun F=>b4x (S:=S) F L B k1 so DP ML GL bL hrev I0 I1)⟩
theorem b4W (vs:List V)(H:Hp)(Q:VK)(E:XK)(h:a8U K PF (IdA CM) idS.a idS.b vs H Q E):b3o vs H Q E:=let ⟨x,f,d,e,_,fo,_,tab,q⟩:=h;⟨.ref x,.ref f,e,q f H (.of (a0o.refl _)) tab fo⟩
theorem b2E (vs:List V)(H:Hp)(Q:VK)(E:XK)(h:a6P K PF (IdA CM) idS.a idS.SA idS.SB idS.okF idS.fw vs H Q E):b1Z vs H Q E:=let ⟨x,f,p,rv,d,row,z,rs,e,_,_,hp,sa,_,_,_,tab,q⟩:=h;⟨.ref x,.ref f,rv,p,d.T,row,e,hp,fun t p' H' s hp' ht=>q t p' .non row H' (.of s) (tab.same s) hp' sa .no ht⟩
theorem b4Q {fC:Addr}{fdC:FuncData}(cl:Cls K CM)(B:Bl mg)(k2:2≤k)(DC:Df K mg "copied" (top 37) fC fdC)(h0:a0N K CM "after" "Move.after" (mo 0))(h2:a0N K CM "forth" "Move.forth" (mo 2))(h3:a0N K CM "back" "Move.back" (mo 3))(h4:a2d K CM "left" "Move.left" (mo 4) P4)(h5:a2d K CM "right" "Move.right" (mo 5) P4):It5 P w K mg base PF k CM (IdA CM) idS:=
 ⟨fun⟨dx,e⟩=>⟨dx,[],e,fun _ _=>rfl⟩,fun⟨dx,e⟩ s=>⟨dx,s _ _ e nofun⟩,cl,
  mo2 h0 (fun F=>F.b2 "self" "form" (by intros;rfl)) (fun F=>(b2a (.inl rfl) F).to (by omega) b4W),
  mo4 h2 (fun F=>F.b4 "self" "form" "piece" "rest" (by intros;rfl)) (fun F=>(b0d (.inl rfl) F B DC).to k2 b2E),
  mo4 h3 (fun F=>F.b4 "self" "form" "piece" "rest" (by intros;rfl)) (fun F=>(b0d (.inr rfl) F B DC).to k2 b2E),
  moX h4 (fun F=>(a7y F).to (by omega) (a6s (fun _ _ _=>rfl))),moX h5 (fun F=>(a6C F).to (by omega) (a6s (fun _ _ _=>rfl)))⟩
end
def lwN:List Str:=["_law_script","_law_drawn","_law_at","_law_names_here","_law_shape","_law_form","_law_top","_law_way","_law_olds","_law_news_here","_law_move_here","_law_kept","_law_again","_law_found"]
def b2v (K:Fg0)(PF:Addr)(wv:Int):Sp:=fun vs H Q _=>∃(a:Addr) (ns:List Int),vs=[.ref a]/\SqL K H a (ns.map V.int)/\ns.length≤63/\H PF=some (.tbl #[])/\cel ns 2%2=wv/\∀H',Q (.bl true) H'
theorem rot3 {zs:List Str}(h:zs.length=3)(nd:zs.Nodup)(hz:∀z∈zs,a5G z){n:Nat}(hn:n<3):∃T c1 c2,zs.drop n++zs.take n=[T,c1,c2]/\a5G T/\a5G c1/\a5G c2/\c1≠c2:=by
 match zs,h with
 |[a,b,c],_=>
  have ha:=hz a (by simp);have hb:=hz b (by simp);have hc:=hz c (by simp);have n1:a≠b:=by rintro rfl;simp at nd
  have n2:a≠c:=by rintro rfl;simp at nd
  have n3:b≠c:=by rintro rfl;simp at nd
  match n,hn with
  |0,_=>exact⟨a,b,c,rfl,ha,hb,hc,n3⟩
  |1,_=>exact⟨b,c,a,rfl,hb,hc,ha,n2.symm⟩
  |2,_=>exact⟨c,a,b,rfl,hc,ha,hb,n1⟩
theorem b4t {ix:List Nat}(h:ix.Perm [0,1]):ix=[0,1]\/ix=[1,0]:=by
 have hl:=h.length_eq;have nd:ix.Nodup:=h.nodup_iff.mpr (by decide)
 match ix,hl with
 |[x,y],_=>
  have hx:x=0\/x=1:=by simpa using h.mem_iff.mp (show x∈[x,y] by simp)
  have hy:y=0\/y=1:=by simpa using h.mem_iff.mp (show y∈[x,y] by simp)
  have ne:x≠y:=by rintro rfl;simp at nd
  rcases hx with rfl |rfl<;>rcases hy with rfl |rfl
  ·exact absurd rfl ne
  ·exact .inl rfl
  ·exact .inr rfl
  ·exact absurd rfl ne
theorem big:(0:Int)<2 * 10 ^ (39:Int).toNat+1:=by decide +kernel
theorem b2B {K:Fg0}{d:Dt}{H:Hp}{fm tt e ct k1 k2 p1 p2:Addr}{o:Obj}{ix:List Nat}(hx:ix.Perm [0,1])(hr:b1B (ix.map fun i=>[d.c1,d.c2].getD i ""))(hf:H fm=some (.tup [.int 2,.ref tt]))(ht:H tt=some (.tup [.ref e]))(he:H e=some (.tup [.str d.T,.str "head",.ref ct]))
  (ho:o.dict=none) (hc:H ct=some (.frz o (.tup ((ix.map fun i=>[p1,p2].getD i 0).map V.ref)))) (h1:H p1=some (.tup [.str d.c1,.ref k1])) (h2:H p2=some (.tup [.str d.c2,.ref k2])) (hk1:H k1=some (.tup [.str "whole"])) (hk2:H k2=some (.tup [.str "whole"])):FoK K d (some .wh) H fm:=by
 have kd:∀{k:Addr},H k=some (.tup [.str "whole"])->KdH K H k .wh:=fun h=>⟨SqT.of h,trivial⟩;have pw:∀{l:List Str},b1B l->l.Pairwise fun a b=>leS a b=true:=fun h=>h.imp fun {a b} h=>by
  unfold leS;rw[Bool.not_eq_true',decide_eq_false_iff_not];exact h
 rcases b4t hx with rfl |rfl
 ·exact⟨[(d.c1,k1),(d.c2,k2)],k2,⟨tt,e,hf,ht,ct,he,o,[p1,p2],ho,hc,rfl,fun j p c e1 e2=>by
   match j,e1,e2 with
   |0,e1,e2=>cases e1;cases e2;exact h1
   |1,e1,e2=>cases e1;cases e2;exact h2⟩,pw hr,kd hk2,.inr ⟨.wh,k1,rfl,.refl _,kd hk1⟩⟩
 ·exact⟨[(d.c2,k2),(d.c1,k1)],k2,⟨tt,e,hf,ht,ct,he,o,[p2,p1],ho,hc,rfl,fun j p c e1 e2=>by
   match j,e1,e2 with
   |0,e1,e2=>cases e1;cases e2;exact h2
   |1,e1,e2=>cases e1;cases e2;exact h1⟩,pw hr,kd hk2,.inr ⟨.wh,k1,rfl,.swap _ _ _,kd hk1⟩⟩
structure b3G (K:Fg0) (CC CD CP:Addr) (wv:Int) (Mv:MvP) (S:Sem) (Val:Dt->Pt->Prop) (g:Dt->Pt->Pt):Prop where
 mv:∀{d:Dt} {H:Hp} {x:Addr},(wv=0->MvC CC d H x)->(wv≠0->TuA CD (PuA K CP) d H x)->Mv d H x
 nt:∀{d:Dt} {H H':Hp} {a:Addr},Mv d H a->Ntb H H'->Mv d H' a
 ha:∀d,S.a d=some .wh
 sa:S.SA=a1k
 nw:∀{d:Dt} {H:Hp} {lo:Addr} {zs:List Pt},(wv=0->OlP H lo d.T (fun row y=>a1k d row y/\y.1≤d.top) (zs.map (gW 0 d.top)))->(wv≠0->OlP H lo d.T (fun row y=>a7f d row y/\y.1=0) (zs.map fun z=>(0,z.2)))->∃ys:List Pt,ys.length=zs.length/\OlP H lo d.T (fun row y=>S.SB d row y/\Val d y) ys
 g:∀d z,g d z=gW wv d.top z
theorem way0 {K:Fg0}{CC CD CP:Addr}:b3G K CC CD CP 0 (MvC CC) a2Z (fun d y=>y.1≤d.top) b5q where
 mv h _:=h rfl
 nt:=b0u
 ha _:=rfl
 sa:=rfl
 nw h _:=⟨_,lM0 ..,h rfl⟩
 g _ _:=rfl
theorem way1 {K:Fg0}{CC CD CP:Addr}:b3G K CC CD CP 1 (TuA CD (PuA K CP)) a2Q.turn (fun _ y=>y.1=0) b5B where
 mv _ h:=h (by decide)
 nt:=fun⟨dx,y,e,m⟩ s=>⟨dx,y,s _ _ e nofun,m.nt s⟩
 ha _:=rfl
 sa:=rfl
 nw _ h:=⟨_,lM0 ..,h (by decide)⟩
 g _ _:=rfl
section
variable {P:Program}{w:World}{K:Fg0}{mg:Str->Option Value}{base:Heap}{PF CC CP CD CH CM:Addr}{Mv:MvP}{S:Sem}{Val:Dt->Pt->Prop}{g:Dt->Pt->Pt}{wv:Int}
theorem b0C {f fC fN fR fM fP fE fW fK fS hI dI:Addr}{fd fdC fdN fdR fdM fdP fdE fdW fdK fdS hdI ddI:FuncData}(F:Fun K "law" "law" (top 74) f fd)(B:Bl mg)(wl:b3G K CC CD CP wv Mv S Val g)(hmin:mg "min"=none)
  (DC:Df K mg "_law_cell" (top 66) fC fdC) (DN:Df K mg "_law_names" (top 67) fN fdN) (DR:Df K mg "_law_rows" (top 68) fR fdR) (DP:Df K mg "_law_pieces" (top 69) fP fdP)
  (DE:Df K mg "_law_due" (top 71) fE fdE) (GE:a0w P w K mg base CX0 2 fE fdE ["_law_names_here","_law_olds","_law_news_here","_law_top","_law_way"] b0T)
  (DM:Df K mg "_law_move" (top 72) fM fdM) (GM:a0w P w K mg base CX0 7 fM fdM ["_law_names_here","_law_top","_law_way"] (b5k K CC CD CP))
  (DW:Df K mg "_law_news" (top 73) fW fdW) (GW:a0w P w K mg base CX0 2 fW fdW ["_law_names_here","_law_rows_here","_law_top","_law_way"] a8u)
  (DK:Df K mg "show_kept" (top 54) fK fdK) (GK:a0w P w K mg base CX0 12 fK fdK ["move","form","olds","news"] (b0b K PF Mv S Val))
  (DS:Df K mg "show_alike" (top 57) fS fdS) (GS:a0w P w K mg base CX0 14 fS fdS ["one","other","form","olds","news"] (b3r K PF (ChA CH Mv (TuA CD Mv)) (IdA CM) g))
  (mH:mg "Chain"=some (.ref CH)) (MH:Mk K CH hI) (FH:Fun K "__init__" "Chain.__init__" (ch 0) hI hdI) (LH:ClH K CH)
  (mD:mg "Turned"=some (.ref CD)) (MD:Mk K CD dI) (FD:Fun K "__init__" "Turned.__init__" (td 0) dI ddI) (LD:ClD K CD)
  (mM:mg "Move"=some (.ref CM)) (MM:Mk0 K CM):a0w P w K mg base CX0 15 f fd ["_law_script"] (b2v K PF wv):=by
 have sc:a0j lwN ["_law_script"] (a0e (top 74)):=.k (by decide +kernel);have GC:a0w P w K mg base CX0 1 fC fdC ["_law_script","_law_k"] (b1L K):=b0E DC.fn B;have GN:a0w P w K mg base CX0 1 fN fdN ["_law_cell_here","_law_many"] a7W:=a9Y DN.fn B;have GR:a0w P w K mg base CX0 2 fR fdR ["_law_script","_law_at","_law_top"] (b0F K):=b1I DR.fn B DC;have GP:a0w P w K mg base CX0 1 fP fdP ["_law_names_here","_law_rows_here"] a9J:=a8K DP.fn;have GH:a0w P w K mg base CX0 1 hI hdI ["self","moves"] (b5t CH):=b3Z FH LH B;have GD:a0w P w K mg base CX0 1 dI ddI ["self","move"] (b5h CD):=b2w FD LD;have bC:=DC.fn.b2 "_law_script" "_law_k" (by intros;rfl);have bN:=DN.fn.b2 "_law_cell_here" "_law_many" (by intros;rfl);have bR:=DR.fn.b3 "_law_script" "_law_at" "_law_top" (by intros;rfl);have bP:=DP.fn.b2 "_law_names_here" "_law_rows_here" (by intros;rfl);have bE:=DE.fn.b5 "_law_names_here" "_law_olds" "_law_news_here" "_law_top" "_law_way" (by intros;rfl);have bM:=DM.fn.b3 "_law_names_here" "_law_top" "_law_way" (by intros;rfl);have bW:=DW.fn.b4 "_law_names_here" "_law_rows_here" "_law_top" "_law_way" (by intros;rfl);have bK:=DK.fn.b4 "move" "form" "olds" "news" (by intros;rfl);have bS:=DS.fn.b5 "one" "other" "form" "olds" "news" (by intros;rfl);have bH:=FH.b2 "self" "moves" (by intros;rfl);have bD:=FD.b2 "self" "move" (by intros;rfl);refine F.ok sc (fun vs H Q E h=>?_) (fun cdv A outer s H vs Q E hr h=>?_)
 ·obtain⟨a,ns,rfl,_⟩:=h
  rfl
 ·obtain⟨a,ns,rfl,ha,n63,hPF,hwv,q⟩:=h
  have u:=u20 hr;refine⟨_,(a0d (a0r (i:=1) sc.nd rfl (Or.inl rfl) (a0g GN (hr.mono (by decide)) (by rfl) DN.mg DN.fn.kp bN .nil a0k (a0a (a0g GC (hr.mono (by decide)) (by rfl) DC.mg DC.fn.kp bC .nil a0k (a0a (pv 0) (a0a a0i a0c))) (a0a a0i a0c))))
   (a0d (a0r (i:=2) sc.nd rfl (Or.inl rfl) (a0P a1M (a0P a1Q (a0g GC (hr.mono (by decide)) (by rfl) DC.mg DC.fn.kp bC .nil a0k (a0a (pv 0) (a0a a0i a0c))) a0i) a0i))
   (a0d (a0r (i:=3) sc.nd rfl (Or.inl rfl) (a0P b0q (a1L a2H (pv 1) (a2m (pv 2)) a2h) (a1L a2H (pv 1) a2h (a2m (pv 2)))))
   (a0d (a0r (i:=4) sc.nd rfl (Or.inl rfl) (a0y a4M (by rfl) B.sorted boot_sorted (a0a (a1t (a0a (a0I (a0a (a0F a0V (pv 3) a0i (fun _ _=>rfl)) (a0a (a0I (a0a a0M a0c)) a0c))) (a0a (a0I (a0a (a0F a0V (pv 3) a0i (fun _ _=>rfl)) (a0a (a0I (a0a a0M a0c)) a0c))) a0c))) a0c)))
   (a0d (a0r (i:=5) sc.nd rfl (Or.inl rfl) (a0I (a0a a0i (a0a (a0I (a0a (a0I (a0a (a0F a0V (pv 3) a0i (fun _ _=>rfl)) (a0a a0M (a0a (a1a a3t (by rfl) B.tuple boot_tuple (a0a (pv 4) a0c)) a0c)))) a0c)) a0c))))
   (a0d (a0r (i:=6) sc.nd rfl (Or.inl rfl) (a0P a3Y (a0P a1M (a0g GC (hr.mono (by decide)) (by rfl) DC.mg DC.fn.kp bC .nil a0k (a0a (pv 0) (a0a a0i a0c))) (a0P a1Y (a0P a5d a0i (a0P b0j a0i a0i)) a0i)) (a0P b0j a0i a0i)))
   (a0d (a0r (i:=7) sc.nd rfl (Or.inl rfl) (a0P a1M (a0g GC (hr.mono (by decide)) (by rfl) DC.mg DC.fn.kp bC .nil a0k (a0a (pv 0) (a0a a0i a0c))) a0i))
   (a0d (a0r (i:=8) sc.nd rfl (Or.inl rfl) (a0g GR (hr.mono (by decide)) (by rfl) DR.mg DR.fn.kp bR .nil a0k (a0a (pv 0) (a0a a0i (a0a (pv 6) a0c)))))
   (a0d (a0r (i:=9) sc.nd rfl (Or.inl rfl) (a0g GR (hr.mono (by decide)) (by rfl) DR.mg DR.fn.kp bR .nil a0k (a0a (pv 0) (a0a a0i (a0a (pv 6) a0c)))))
   (a0d (a0r (i:=10) sc.nd rfl (Or.inl rfl) (a0g GM (hr.mono (by decide)) (by rfl) DM.mg DM.fn.kp bM .nil a0k (a0a (pv 3) (a0a (pv 6) (a0a (pv 7) a0c)))))
   (a0d (a0r (i:=11) sc.nd rfl (Or.inl rfl) (a0g GK (hr.mono (by decide)) (by rfl) DK.mg DK.fn.kp bK .nil a0k (a0a (pv 10) (a0a (pv 5) (a0a (a0g GP (hr.mono (by decide)) (by rfl) DP.mg DP.fn.kp bP .nil a0k (a0a (pv 3) (a0a (pv 8) a0c))) (a0a (a0g GW (hr.mono (by decide)) (by rfl) DW.mg DW.fn.kp bW .nil a0k (a0a (pv 3) (a0a (pv 9) (a0a (pv 6) (a0a (pv 7) a0c))))) a0c))))))
   (a0d (a0R (a0z (a2O u) (pv 11) (a0I (a0a a0M (a0a (a0y a0C (by rfl) B.len PySem.boot_len (a0a (pv 8) a0c)) (a0a (a0y a0C (by rfl) B.len PySem.boot_len (a0a (pv 9) a0c)) a0c)))) (a0E _)) a0q a0u)
   (a0d (a0r (i:=12) sc.nd rfl (Or.inl rfl) (a3r MH GH (hr.mono (by decide)) (by rfl) mH bH .nil a0k (a0a (a1t (a0a (pv 10) (a0a (a3r MD GD (hr.mono (by decide)) (by rfl) mD bD .nil a0k (a0a (pv 10) a0c)) a0c))) a0c)))
   (a0d (a0r (i:=13) sc.nd rfl (Or.inl rfl) (a0g GS (hr.mono (by decide)) (by rfl) DS.mg DS.fn.kp bS .nil a0k (a0a (pv 12) (a0a (b3q MM (by rfl) mM) (a0a (pv 5) (a0a (a0g GP (hr.mono (by decide)) (by rfl) DP.mg DP.fn.kp bP .nil a0k (a0a (pv 3) (a0a (pv 8) a0c))) (a0a (a0g GP (hr.mono (by decide)) (by rfl) DP.mg DP.fn.kp bP .nil a0k (a0a (pv 3) (a0a (pv 9) a0c))) a0c)))))))
   (a0f (a0p (a1N (b2X u) (pv 13) (a0g GE (hr.mono (by decide)) (by rfl) DE.mg DE.fn.kp bE .nil a0k (a0a (pv 3) (a0a (pv 8) (a0a (pv 9) (a0a (pv 6) (a0a (pv 7) a0c)))))) (a0E _)))))))))))))))))),?_⟩
  refine⟨_,rfl,a,ns,0,rfl,ha,(by decide),_,3,rfl,(by decide),(by decide),fun l0 zs H1 s1 hl0 hzl nd hz=>?_⟩;have hl1:=a0t _ _ hl0;have ha1:=s1.seq ha;refine⟨_,rfl,a,ns,0,rfl,ha1,(by decide),_,_,rfl,rfl,⟨by decide,by decide⟩,_,_,rfl,rfl,(pos rfl),?_⟩;have m0:=Int.emod_nonneg (cel ns 0/5) (show(3:Int)≠0 by decide);have m3:=Int.emod_lt_of_pos (cel ns 0/5) (show(0:Int)<3 by decide)
  dsimp only
  generalize cel ns 0/5%3=at_ at *;obtain⟨n,rfl⟩:=Int.eq_ofNat_of_zero_le m0;have zl:zs.length=3:=by omega
  have zlm:(zs.map V.str).length=3:=by rw[lM0];exact zl
  obtain⟨T,c1,c2,hrot,hT,h1,h2,ne⟩:=rot3 zl nd hz (show n<3 by omega);refine⟨_,rfl,_,rfl,_,rfl,l0,_,rfl,SqL.of hl1,fun q1 e1=>?_⟩;rw[a4p (by omega) (by omega),Int.toNat_natCast,← List.map_drop];have T1:=a0o.upd (o:=.lst ((zs.drop n).map V.str)) e1;refine⟨_,rfl,_,rfl,_,rfl,l0,_,rfl,SqL.of (T1 _ _ hl1),fun q2 e2=>?_⟩;rw[a7H (by omega) (by omega),Int.toNat_natCast,← List.map_take];have T2:=a0o.upd (o:=.lst ((zs.take n).map V.str)) e2;refine⟨q1,q2,_,_,rfl,rfl,T2 _ _ a0b,a0b,(by rw[lM0,lM0,List.length_drop,List.length_take,sizeLine_eq];omega),fun l e3=>?_⟩;rw[← List.map_append,hrot];have T3:=a0o.upd (o:=.lst ([T,c1,c2].map V.str)) e3;have S3:=s1.trans (T1.trans (T2.trans T3));have hl:upd (upd (upd H1 q1 (.lst ((zs.drop n).map V.str))) q2 (.lst ((zs.take n).map V.str))) l (.lst ([T,c1,c2].map V.str)) l=some (.lst [.str T,.str c1,.str c2]):=a0b;generalize upd (upd (upd H1 q1 (.lst ((zs.drop n).map V.str))) q2 (.lst ((zs.take n).map V.str))) l (.lst ([T,c1,c2].map V.str))=H3 at *;clear T1 T2 T3;refine⟨_,rfl,l,_,1,_,rfl,rfl,SqL.of hl,rfl,(by show 1≤sizeLine;decide),fun k1 hk1=>?_⟩;have T1:=a0o.upd (o:=.tup [V.str "whole"]) hk1;refine⟨(by show 2≤sizeLine;decide),fun p1 hp1=>?_⟩;have T2:=a0o.upd (o:=.tup [V.str c1,.ref k1]) hp1;refine⟨_,rfl,l,_,2,_,rfl,rfl,SqL.of ((T1.trans T2) _ _ hl),rfl,(by show 1≤sizeLine;decide),fun k2 hk2=>?_⟩;have T3:=a0o.upd (o:=.tup [V.str "whole"]) hk2;refine⟨(by show 2≤sizeLine;decide),fun p2 hp2=>?_⟩;have T4:=a0o.upd (o:=.tup [V.str c2,.ref k2]) hp2;refine⟨(by show 2≤sizeLine;decide),fun ll hll=>?_⟩;have T5:=a0o.upd (o:=.lst [V.ref p1,.ref p2]) hll;have X4:=T4.trans T5;have X3:=T3.trans X4;have X2:=T2.trans X3;refine⟨ll,[p1,p2],[c1,c2],rfl,SqL.of a0b,rfl,(fun i a z g1 g2=>?_),(by simp[ne]),(by show 2<64;decide),fun ls ix hls hpm hri=>?_⟩
  ·match i,g1,g2 with
   |0,g1,g2=>cases g1;cases g2;exact⟨_,SqT.of (X3 _ _ a0b)⟩
   |1,g1,g2=>cases g1;cases g2;exact⟨_,SqT.of (T5 _ _ a0b)⟩
   |i+2,g1,g2=>cases g1
  have T6:=a0o.upd (o:=.lst ((ix.map fun i=>[p1,p2].getD i 0).map V.ref)) hls;have X5:=T5.trans T6;have hp1':=(X3.trans T6) _ _ a0b;have hp2':=X5 _ _ a0b;have hk1':=(X2.trans T6) _ _ a0b;have hk2':=(X4.trans T6) _ _ a0b;have hls':=a0b (H:=upd (upd (upd (upd (upd H3 k1 (.tup [V.str "whole"])) p1 (.tup [V.str c1,.ref k1])) k2 (.tup [V.str "whole"])) p2 (.tup [V.str c2,.ref k2])) ll (.lst [V.ref p1,.ref p2])) (a:=ls) (o:=.lst ((ix.map fun i=>[p1,p2].getD i 0).map V.ref));have X1:=T1.trans (X2.trans T6);generalize upd (upd (upd (upd (upd (upd H3 k1 (.tup [V.str "whole"])) p1 (.tup [V.str c1,.ref k1])) k2 (.tup [V.str "whole"])) p2 (.tup [V.str c2,.ref k2])) ll (.lst [V.ref p1,.ref p2])) ls (.lst ((ix.map fun i=>[p1,p2].getD i 0).map V.ref))=H4 at *;clear T2 T3 T4 T5 T6 X2 X3 X4 X5 T1;have hl4:=X1 _ _ hl;refine⟨_,rfl,l,_,0,_,rfl,rfl,SqL.of hl4,rfl,_,rfl,ls,_,rfl,SqL.of hls',fun ct o hct ho=>?_⟩;have T1:=a0o.upd (o:=.frz o (.tup ((ix.map fun i=>[p1,p2].getD i 0).map V.ref))) hct;refine⟨(by show 3≤sizeLine;decide),fun e he=>?_⟩;have T2:=a0o.upd (o:=.tup [V.str T,.str "head",.ref ct]) he;refine⟨(by show 1≤sizeLine;decide),fun tt htt=>?_⟩;have T3:=a0o.upd (o:=.tup [V.ref e]) htt;refine⟨(by show 2≤sizeLine;decide),fun fm hfm=>?_⟩;have T4:=a0o.upd (o:=.tup [V.int 2,.ref tt]) hfm;have X3:=T3.trans T4;have X2:=T2.trans X3;have X0:=T1.trans X2;have ha4:=(S3.trans (X1.trans X0)).seq ha;have fo0:∀tp:Int,FoK K ⟨T,c1,c2,tp⟩ (some .wh) _ fm:=fun tp=>b2B (K:=K) (d:=⟨T,c1,c2,tp⟩) hpm hri a0b (T4 _ _ a0b) (X3 _ _ a0b) ho (X2 _ _ a0b) (X0 _ _ hp1') (X0 _ _ hp2') (X0 _ _ hk1') (X0 _ _ hk2');have hl5:=X0 _ _ hl4;have S5:=S3.trans (X1.trans X0);generalize upd (upd (upd (upd H4 ct (.frz o (.tup ((ix.map fun i=>[p1,p2].getD i 0).map V.ref)))) e (.tup [V.str T,.str "head",.ref ct])) tt (.tup [V.ref e])) fm (.tup [V.int 2,.ref tt])=H5 at *;clear T1 T2 T3 T4 X3 X2 X0 X1;refine⟨_,rfl,a,ns,1,rfl,ha4,(by decide),_,_,rfl,rfl,⟨by decide,by decide,by decide⟩,_,_,rfl,rfl,.inl ⟨by decide,by decide⟩,_,_,rfl,rfl,_,_,rfl,rfl,big,_,_,rfl,rfl,⟨by decide,by decide,by decide⟩,_,_,rfl,rfl,?_⟩
  dsimp only
  generalize cel ns 1%(2 * 10 ^ (39:Int).toNat+1)-10 ^ (39:Int).toNat=tp at *;refine⟨_,rfl,a,ns,2,rfl,ha4,(by decide),_,_,rfl,rfl,(pos rfl),?_⟩
  dsimp only
  rw[hwv];have fo0:=fo0 tp;have nms0:a5T H5 l ⟨T,c1,c2,tp⟩:=hl5;have ok:(⟨T,c1,c2,tp⟩:Dt).Ok:=⟨hT,h1,h2,ne⟩;have ne':(⟨T,c1,c2,tp⟩:Dt).c1≠(⟨T,c1,c2,tp⟩:Dt).c2:=ne;obtain⟨d,ed⟩:∃d:Dt,d=⟨T,c1,c2,tp⟩:=⟨_,rfl⟩;rw[← ed] at fo0 nms0 ok ne';obtain rfl:tp=d.top:=by rw[ed]
  have tab0:a0O PF a0Z foQ H5:=.inl (S5 _ _ hPF);refine⟨_,rfl,_,rfl,a,ns,3,d.top,rfl,ha4,(by decide),fun lo os H6 s6 ho6 o0 o5=>?_⟩;refine⟨_,rfl,_,rfl,a,ns,5,d.top,rfl,s6.seq ha4,(by decide),fun ln nn H7 s7 hn7 n0 n5=>?_⟩;have S57:=s6.trans s7;refine⟨_,rfl,_,rfl,_,rfl,l,d,wv,rfl,S57 _ _ nms0,fun mv H8 s8 hm0 hm1=>?_⟩;have hmv:=wl.mv hm0 hm1;have S58:=S57.trans s8;have ho8:=ho6.nt (.of (s7.trans s8));have hn8:=hn7.nt (.of s8);have nms8:a5T H8 l d:=S58 _ _ nms0;have fo8:=fo0.nt (.of S58);have tab8:=tab0.same S58;clear fo0 tab0 nms0 ho6 hn7 hm0 hm1;refine⟨_,rfl,_,rfl,_,rfl,_,rfl,l,lo,d,os,rfl,nms8,ne',ho8,(by omega),fun lp H9 s9 hol=>?_⟩;refine⟨_,rfl,_,rfl,_,rfl,_,rfl,l,ln,d,wv,nn,rfl,s9 _ _ nms8,ne',hn8.nt (.of s9),n5,fun lq H10 s10 hq0 hq1=>?_⟩;obtain⟨ys,yl,hys⟩:=wl.nw hq0 hq1;have S10:=s9.trans s10;refine⟨mv,fm,lp,lq,d,os,ys,rfl,wl.nt hmv (.of S10),(by rw[wl.ha];exact fo8.nt (.of S10)),ok,tab8.same S10,(by rw[wl.sa];exact(hol.same s10).p fun z _=>.inl rfl),hys,(by omega),(by omega),fun t H11 fr11 tab11 ht=>?_⟩;have N11:Ntb H8 H11:=(Ntb.of S10).trans (fr11.nt (tab8.same S10));have ho11:=ho8.nt N11;have hn11:=hn8.nt N11;obtain⟨ps,hps,pl,hpp⟩:=ho11;obtain⟨rs,hrs,rl,hrp⟩:=hn11;refine⟨_,rfl,_,rfl,lo,_,rfl,.inl (SqL.of hps),_,rfl,ln,_,rfl,.inl (SqL.of hrs),(by show 3≤sizeLine;decide),fun t2 ht2=>?_⟩;rw[lM0,lM0,pl,rl,← yl];have T1:=a0o.upd (o:=.tup [V.str "kept",.int (os.length:Nat),.int (ys.length:Nat)]) ht2;have dk:∀{H:Hp} {t:Addr},H t=some (.tup [V.str "kept",.int (os.length:Nat),.int (ys.length:Nat)])->Dw H 1 (.tup [.fl (.str "kept"),.fl (.int (os.length:Nat)),.fl (.int (ys.length:Nat))]) (.ref t):=fun h=>DwL.tup (.inl h) (.cons (.fl rfl) (.cons (.fl rfl) (.cons (.fl rfl) .nil)));have dk1:=dk (T1 _ _ ht);refine⟨1,t,t2,_,_,true,rfl,rfl,dk1,dk a0b,dk1.refl,(by decide),_,rfl,a2s rfl ?_⟩;have N12:=N11.trans (.of T1);have tab12:=tab11.same T1;generalize upd H11 t2 (.tup [V.str "kept",.int (os.length:Nat),.int (ys.length:Nat)])=H12 at *;clear dk1 T1;refine⟨_,rfl,_,rfl,?_⟩;intro y dy hy hdy ndy;have T5:=a0o.upd (o:=.own y) hdy;have hy5:upd H12 dy (.own y) y=none:=by rw[a0h (Ne.symm ndy)];exact hy
  have T6:=a0o.upd (o:=.ins CD dy []) hy5;have S6:=T5.trans T6;refine⟨y,dy,mv,rfl,a0b,fun H13 keep hy'=>⟨rfl,?_⟩⟩;have S13:a0o H12 H13:=fun b o e=>keep b o (a0x e hy) (S6 _ _ e);refine⟨(by show 2≤sizeLine;decide),fun lc hlc=>?_⟩;have T7:=a0o.upd (o:=.lst [V.ref mv,.ref y]) hlc;have e7:=a0b (H:=H13) (a:=lc) (o:=.lst [V.ref mv,.ref y]);have hy7:=T7 _ _ hy';generalize upd H13 lc (.lst [V.ref mv,.ref y])=H14 at *;intro x dx hx hdx ndx;have T8:=a0o.upd (o:=.own x) hdx;have hx8:upd H14 dx (.own x) x=none:=by rw[a0h (Ne.symm ndx)];exact hx
  have T9:=a0o.upd (o:=.ins CH dx []) hx8;have S9:=T8.trans T9;refine⟨x,dx,lc,mv,y,rfl,a0b,S9 _ _ e7,fun tc H15 keep2 hx' htc=>⟨rfl,?_⟩⟩;have S15:a0o H14 H15:=fun b o e=>keep2 b o (a0x e hx) (S9 _ _ e);have S125:=S13.trans (T7.trans S15);have N15:=N12.trans (.of S125);have mv15:=wl.nt hmv N15;have hch:ChA CH Mv (TuA CD Mv) d H15 x:=⟨dx,tc,mv,y,hx',htc,mv15,dy,mv,S15 _ _ hy7,mv15⟩;have tab15:=tab12.same S125;have nms15:a5T H15 l d:=N15 _ _ nms8 nofun
  have fo15:=fo8.nt N15;have ho15:=ho8.nt N15;have hn15:=hn8.nt N15;clear hch;have hch:∀{H':Hp},a0o H15 H'->ChA CH Mv (TuA CD Mv) d H' x:=fun {H'} s=>⟨dx,tc,mv,y,s _ _ hx',s _ _ htc,wl.nt mv15 (.of s),dy,mv,s _ _ (S15 _ _ hy7),wl.nt mv15 (.of s)⟩;refine⟨_,rfl,?_⟩;intro xm dm hxm hdm ndm;have T10:=a0o.upd (o:=.own xm) hdm;have hx10:upd H15 dm (.own xm) xm=none:=by rw[a0h (Ne.symm ndm)];exact hxm
  have T11:=a0o.upd (o:=.ins CM dm []) hx10;have hid:=a0b (H:=upd H15 dm (.own xm)) (a:=xm) (o:=.ins CM dm []);have S16:=T10.trans T11;generalize upd (upd H15 dm (.own xm)) xm (.ins CM dm [])=H16 at *;clear T10 T11;refine⟨_,rfl,_,rfl,_,rfl,l,lo,d,os,rfl,S16 _ _ nms15,ne',ho15.nt (.of S16),(by omega),fun lp2 H17 s17 hol2=>?_⟩;have S17:=S16.trans s17;refine⟨_,rfl,_,rfl,l,ln,d,nn,rfl,S17 _ _ nms15,ne',hn15.nt (.of S17),(by omega),fun lq2 H18 s18 hol3=>?_⟩;have S18:=S17.trans s18;refine⟨x,xm,fm,lp2,lq2,d,os,nn,rfl,hch S18,⟨dm,(s17.trans s18) _ _ hid⟩,fo15.nt (.of S18),ok,tab15.same S18,(hol2.same s18).p (fun z _=>.inl rfl),hol3.p (fun z _=>.inl rfl),⟨o0,by omega,by omega⟩,fun r H19 fr19 tab19 hot=>?_⟩;have N19:Ntb H15 H19:=(Ntb.of S18).trans (fr19.nt (tab15.same S18));have hot:=hot.same a0t;refine⟨_,rfl,_,rfl,_,rfl,_,rfl,_,rfl,_,rfl,l,lo,ln,d,wv,os,nn,rfl,N19 _ _ nms15 nofun,ne',ho15.nt N19,hn15.nt N19,⟨o0,o5,n5⟩,fun td H20 s20 hdu=>?_⟩;have eg:a8a (g d) os nn=a8a (gW wv d.top) os nn:=by
   rw[show g d=gW wv d.top from funext fun z=>wl.g d z]
  rw[eg] at hot;obtain⟨D,D',d1,d2,hd⟩:=b2o ok (hot.same s20) hdu;exact⟨8,r,td,D,D',true,rfl,rfl,d1,d2,hd,(by decide),q _⟩
end
end My
namespace L2
open PySem PySem.Spec PyProof.Rows
theorem a1C {K:Fg0}{C f:Addr}{m qual:Str}{st:Stmt}{oc:Value}{od an:Option Addr}{osl:Array (Option Value)}{dV kV doc pm cdv ct:Value}(a:PySem.W.findIn K (.ref C) m=some (some (.ref f)))(i:PySem.W.isFn K (.ref f)=true)
  (l:K.lookup f=some ⟨oc,od,.func (PySem.W.fnOf m qual (a0K st) (a0G st) (a0e st) dV kV doc pm an cdv ct),osl⟩) (c:PySem.W.codeIn K cdv qual=true) (k:PySem.W.keepIn K (.ref f)=true)
  (w4:∀(u v x y:Value) (S:Setting),PySem.W.peek K S (bindArgs (PySem.W.fnOf m qual (a0K st) (a0G st) (a0e st) dV kV doc pm an cdv ct) ⟨[u,v,x,y],[]⟩)=some ([("self",u),("form",v),("piece",x),("rest",y)]:List (Str×Value)))
  (w3:∀(u v x:Value) (S:Setting),PySem.W.peek K S (bindArgs (PySem.W.fnOf m qual (a0K st) (a0G st) (a0e st) dV kV doc pm an cdv ct) ⟨[u,v,x],[]⟩)=some ([("self",u),("form",v),("piece",x),("rest",.none)]:List (Str×Value))):a2d K C m qual st ["self","form","piece","rest"]:=
 ⟨f,_,a8L (st:=st) l c k,⟨a,i,k⟩,(fun s us kin hl=>by
  have h1:us.length=4:=by simpa using hl
  match us,h1 with
  |[u,v,x,y],_=>exact PySem.W.kp_binds kin (w4 u v x y)),(fun s us kin hl=>by
  have h1:us.length=3:=by simpa using hl
  match us,h1 with
  |[u,v,x],_=>exact PySem.W.kp_binds kin (w3 u v x))⟩
def a2P (K:Fg0)(x:Str)(st:Stmt)(P:Addr):Prop:=∃(f c:Addr) (oc:Value) (od:Option Addr) (kV doc pm:Value) (an:Option Addr) (ct:Value) (osl:Array (Option Value)),
 PySem.W.nsIn K mainGlobals x=some (some (.ref f))/\K.lookup f=some ⟨oc,od,.func (PySem.W.fnOf x x (a0K st) (a0G st) (a0e st) .none kV doc pm an (.ref c) ct),osl⟩/\PySem.W.codeIn K (.ref c) x=true/\PySem.W.keepIn K (.ref f)=true/\PySem.W.codeHdIn K c P=true/\K.lookup P=none
theorem a7X {K:Fg0}{x:Str}{st:Stmt}{P f c:Addr}{oc:Value}{od an:Option Addr}{osl:Array (Option Value)}{kV doc pm ct:Value}(a:PySem.W.nsIn K mainGlobals x=some (some (.ref f)))
  (l:K.lookup f=some ⟨oc,od,.func (PySem.W.fnOf x x (a0K st) (a0G st) (a0e st) .none kV doc pm an (.ref c) ct),osl⟩) (cd:PySem.W.codeIn K (.ref c) x=true) (k:PySem.W.keepIn K (.ref f)=true) (t:PySem.W.codeHdIn K c P=true) (n:K.lookup P=none):a2P K x st P:=
 ⟨f,c,oc,od,kV,doc,pm,an,ct,osl,a,l,cd,k,t,n⟩
theorem a2P.get {K:Fg0}{h:Heap}{mg:Str->Option Value}{x:Str}{st:Stmt}{P:Addr}(d:a2P K x st P)(X:K.In h)(G:h.Ns mainGlobals mg):∃f fd c,b1U K x x st f fd c/\mg x=some (.ref f)/\PySem.W.codeHdIn K c P=true:=by
 obtain⟨f,c,oc,od,kV,doc,pm,an,ct,osl,a,l,cd,k,t,n⟩:=d;exact⟨f,_,c,⟨⟨oc,od,kV,doc,pm,an,ct,osl,rfl,l,cd⟩,k⟩,PySem.W.mg_of X G a,t⟩
theorem a2P.tab {K:Fg0}{x:Str}{st:Stmt}{P:Addr}(d:a2P K x st P):(∃c,PySem.W.codeHdIn K c P=true)/\K.lookup P=none:=by
 obtain⟨f,c,oc,od,kV,doc,pm,an,ct,osl,a,l,cd,k,t,n⟩:=d;exact⟨⟨c,t⟩,n⟩
end L2
namespace My
open PySem L2
def a9W (K:Fg0)(PF:Addr):Sp:=fun vs H Q E=>∃wv:Int,(wv=0\/wv=1)/\b2v K PF wv vs H Q E
theorem b1k {P:Program}{w:World}{K:Fg0}{mg:Str->Option Value}{base:Heap}{PF f:Addr}{fd:FuncData}{k:Nat}{ps:List Str}(h0:a0w P w K mg base CX0 k f fd ps (b2v K PF 0))(h1:a0w P w K mg base CX0 k f fd ps (b2v K PF 1)):a0w P w K mg base CX0 k f fd ps (a9W K PF):=by
 have all:∀wv:Int,(wv=0\/wv=1)->a0w P w K mg base CX0 k f fd ps (b2v K PF wv):=fun wv h=>by
  rcases h with rfl |rfl
  ·exact h0
  ·exact h1
 exact⟨fun vs H Q E ⟨i,z,h⟩=>(all i z).len vs H Q E h,fun A outer s H args us vs Q E hr e b r ⟨i,z,h⟩=>(all i z).run A outer s H args us vs Q E hr e b r h⟩
theorem all_mk {l:PySem.W.OpenLaw}{w:World}{K:Fg0}{h:Heap}{mg:Str->Option Value}{fa CC CP CD CH CM wA zA fO PF:Addr}{tk tL tN tM tw ts1 ts2:Tok}{nK nS:Nat}{ocO dVO kVO docO pmO cdO ctO:Value}{odO anO odW odS:Option Addr}{slO slW slS:Array (Option Value)}(X:K.In h)(G:h.Ns mainGlobals mg)(hfa:mg "law"=some (.ref fa))
  (dF:a2P K "form_of" (top 24) PF)
  (gL:PySem.W.nsIn K mainGlobals "LETTERS"=some (some (.str "abcdefghijklmnopqrstuvwxyz" tL)))
  (gN:PySem.W.nsIn K mainGlobals "LONGEST_NAME"=some (some (.int 8 tN)))
  (gM:PySem.W.nsIn K mainGlobals "MOST_PIECES"=some (some (.int 60 tM)))
  (gW:PySem.W.nsIn K mainGlobals "WHOLE"=some (some (.ref wA)))
  (lW:K.lookup wA=some ⟨.type "tuple",odW,.seq #[.str "whole" tw] nK,slW⟩)
  (gS:PySem.W.nsIn K mainGlobals "LONE_SORTS"=some (some (.ref zA)))
  (lS:K.lookup zA=some ⟨.type "tuple",odS,.seq #[.str "head" ts1,.str "twin" ts2] nS,slS⟩)
  (aMC:PySem.W.nsIn K mainGlobals "Cap"=some (some (.ref CC)))
  (pgC:PySem.W.plainGet K CC Str.empty=true)
  (hdC:PySem.W.hasDictIn K CC=true)
  (poC:PySem.W.plainOver K CC=true)
  (psaC:PySem.W.findIn K (.ref CC) "__setattr__"=some (some (.builtin "object.__setattr__")))
  (mkC:PySem.W.makesIn K CC=true)
  (kcC:PySem.W.keepIn K (.ref CC)=true)
  (nC0:PySem.W.findIn K (.ref CC) "table"=some none)
  (nC1:PySem.W.findIn K (.ref CC) "column"=some none)
  (nC2:PySem.W.findIn K (.ref CC) "top"=some none)
  (nC3:PySem.W.findIn K (.ref CC) "told"=some none)
  (aMP:PySem.W.nsIn K mainGlobals "Put"=some (some (.ref CP)))
  (pgP:PySem.W.plainGet K CP Str.empty=true)
  (hdP:PySem.W.hasDictIn K CP=true)
  (poP:PySem.W.plainOver K CP=true)
  (psaP:PySem.W.findIn K (.ref CP) "__setattr__"=some (some (.builtin "object.__setattr__")))
  (mkP:PySem.W.makesIn K CP=true)
  (kcP:PySem.W.keepIn K (.ref CP)=true)
  (nP0:PySem.W.findIn K (.ref CP) "table"=some none)
  (nP1:PySem.W.findIn K (.ref CP) "column"=some none)
  (nP2:PySem.W.findIn K (.ref CP) "kind"=some none)
  (nP3:PySem.W.findIn K (.ref CP) "value"=some none)
  (nP4:PySem.W.findIn K (.ref CP) "told"=some none)
  (aMD:PySem.W.nsIn K mainGlobals "Turned"=some (some (.ref CD)))
  (pgD:PySem.W.plainGet K CD Str.empty=true)
  (hdD:PySem.W.hasDictIn K CD=true)
  (poD:PySem.W.plainOver K CD=true)
  (psaD:PySem.W.findIn K (.ref CD) "__setattr__"=some (some (.builtin "object.__setattr__")))
  (mkD:PySem.W.makesIn K CD=true)
  (kcD:PySem.W.keepIn K (.ref CD)=true)
  (nD0:PySem.W.findIn K (.ref CD) "move"=some none)
  (aMH:PySem.W.nsIn K mainGlobals "Chain"=some (some (.ref CH)))
  (pgH:PySem.W.plainGet K CH Str.empty=true)
  (hdH:PySem.W.hasDictIn K CH=true)
  (poH:PySem.W.plainOver K CH=true)
  (psaH:PySem.W.findIn K (.ref CH) "__setattr__"=some (some (.builtin "object.__setattr__")))
  (mkH:PySem.W.makesIn K CH=true)
  (kcH:PySem.W.keepIn K (.ref CH)=true)
  (nH0:PySem.W.findIn K (.ref CH) "moves"=some none)
  (aMM:PySem.W.nsIn K mainGlobals "Move"=some (some (.ref CM)))
  (pgM:PySem.W.plainGet K CM Str.empty=true)
  (hdM:PySem.W.hasDictIn K CM=true)
  (poM:PySem.W.plainOver K CM=true)
  (psaM:PySem.W.findIn K (.ref CM) "__setattr__"=some (some (.builtin "object.__setattr__")))
  (mkM:PySem.W.makesIn K CM=true)
  (kcM:PySem.W.keepIn K (.ref CM)=true)
  (inM:PySem.W.findIn K (.ref CM) "__init__"=some (some (.builtin "object.__init__")))
  (iO:PySem.W.nsIn K mainGlobals "owned"=some (some (.ref fO)))
  (lO:K.lookup fO=some ⟨ocO,odO,.func (PySem.W.fnOf "owned" "owned" (a0K (top 51)) (a0G (top 51)) (a0e (top 51)) dVO kVO docO pmO anO cdO ctO),slO⟩)
  (cO:PySem.W.codeIn K cdO "owned"=true)
  (kO:PySem.W.keepIn K (.ref fO)=true)
  (pO:∀(u v:Value) (S:Setting),PySem.W.peek K S (bindArgs (PySem.W.fnOf "owned" "owned" (a0K (top 51)) (a0G (top 51)) (a0e (top 51)) dVO kVO docO pmO anO cdO ctO) ⟨[u,v],[]⟩)=some ([("thing",u),("depth",v)]:List (Str×Value)))
  (qO:∀(u:Value) (S:Setting),PySem.W.peek K S (bindArgs (PySem.W.fnOf "owned" "owned" (a0K (top 51)) (a0G (top 51)) (a0e (top 51)) dVO kVO docO pmO anO cdO ctO) ⟨[u],[]⟩)=some ([("thing",u),("depth",.int 20 tk)]:List (Str×Value)))
  (hC0:a0N K CC "__init__" "Cap.__init__" (ca 0))
  (hC1:a0N K CC "after" "Cap.after" (ca 1))
  (hC2:a0N K CC "before" "Cap.before" (ca 2))
  (hC3:a0N K CC "forth" "Cap.forth" (ca 3))
  (hC4:a0N K CC "back" "Cap.back" (ca 4))
  (hP0:a0N K CP "__init__" "Put.__init__" (pu 0))
  (hP1:a0N K CP "after" "Put.after" (pu 1))
  (hP2:a0N K CP "before" "Put.before" (pu 2))
  (hP3:a0N K CP "is_sound" "Put.is_sound" (pu 3))
  (hP4:a0N K CP "forth" "Put.forth" (pu 4))
  (hP5:a0N K CP "back" "Put.back" (pu 5))
  (hD0:a0N K CD "__init__" "Turned.__init__" (td 0))
  (hD1:a0N K CD "after" "Turned.after" (td 1))
  (hD2:a0N K CD "before" "Turned.before" (td 2))
  (hD3:a0N K CD "forth" "Turned.forth" (td 3))
  (hD4:a0N K CD "back" "Turned.back" (td 4))
  (hH0:a0N K CH "__init__" "Chain.__init__" (ch 0))
  (hH1:a0N K CH "after" "Chain.after" (ch 1))
  (hH3:a0N K CH "from_the_last" "Chain.from_the_last" (ch 3))
  (hH4:a0N K CH "forth" "Chain.forth" (ch 4))
  (hH5:a0N K CH "back" "Chain.back" (ch 5))
  (hM0:a0N K CM "after" "Move.after" (mo 0))
  (hM2:a0N K CM "forth" "Move.forth" (mo 2))
  (hM3:a0N K CM "back" "Move.back" (mo 3))
  (xCl:a2d K CC "left" "Move.left" (mo 4) P4)
  (xCr:a2d K CC "right" "Cap.right" (ca 5) P4)
  (xPl:a2d K CP "left" "Put.left" (pu 6) P4)
  (xPr:a2d K CP "right" "Move.right" (mo 5) P4)
  (xDl:a2d K CD "left" "Turned.left" (td 5) P4)
  (xDr:a2d K CD "right" "Turned.right" (td 6) P4)
  (xHl:a2d K CH "left" "Chain.left" (ch 6) P4)
  (xHr:a2d K CH "right" "Chain.right" (ch 7) P4)
  (xMl:a2d K CM "left" "Move.left" (mo 4) P4)
  (xMr:a2d K CM "right" "Move.right" (mo 5) P4)
  (d12:a0W K "is_whole" (top 12))
  (d13:a0W K "is_name" (top 13))
  (d15:a0W K "is_plain" (top 15))
  (d16:a0W K "is_plain_pair" (top 16))
  (d17:a0W K "is_kind" (top 17))
  (d18:a0W K "fits" (top 18))
  (d20:a0W K "fits_plain" (top 20))
  (d25:a0W K "ask_sorts" (top 25))
  (d26:a0W K "ask_names" (top 26))
  (d27:a0W K "columns_made" (top 27))
  (d28:a0W K "tables_of" (top 28))
  (d29:a0W K "sort_of" (top 29))
  (d30:a0W K "columns_of" (top 30))
  (d31:a0W K "table_in" (top 31))
  (d32:a0W K "parts_of" (top 32))
  (d33:a0W K "with_columns" (top 33))
  (d34:a0W K "is_row" (top 34))
  (d35:a0W K "is_piece" (top 35))
  (d36:a0W K "are_rows" (top 36))
  (d37:a0W K "copied" (top 37))
  (d43:a0W K "ask_fit" (top 43))
  (d44:a0W K "columns_in" (top 44))
  (d45:a0W K "with_kind" (top 45))
  (d46:a0W K "with_rows" (top 46))
  (d47:a0W K "with_values" (top 47))
  (d48:a0W K "values_in" (top 48))
  (d49:a0W K "without_column" (top 49))
  (d50:a0W K "at_place" (top 50))
  (d54:a0W K "show_kept" (top 54))
  (d55:a0W K "broken_forth" (top 55))
  (d56:a0W K "broken_back" (top 56))
  (d57:a0W K "show_alike" (top 57))
  (d58:a0W K "ask_few" (top 58))
  (d59:a0W K "led_forth" (top 59))
  (d60:a0W K "led_back" (top 60))
  (d61:a0W K "told_of" (top 61))
  (d66:a0W K "_law_cell" (top 66))
  (d67:a0W K "_law_names" (top 67))
  (d68:a0W K "_law_rows" (top 68))
  (d69:a0W K "_law_pieces" (top 69))
  (d70:a0W K "_law_led" (top 70))
  (d71:a0W K "_law_due" (top 71))
  (d72:a0W K "_law_move" (top 72))
  (d73:a0W K "_law_news" (top 73))
  (d74:a0W K "law" (top 74))
  (zb:BlK K) (zz:PySem.W.nsIn K mainGlobals "zip"=some none) (zm:PySem.W.nsIn K mainGlobals "min"=some none) (zr:PySem.W.nsIn K mainGlobals "reversed"=some none) :
  ∃fd:FuncData,(∀(s:Shared) (v:Value),BindsTo s fd ⟨[v],[]⟩ [("_law_script",v)])/\∀base:Heap,K.In base->base.Ns mainGlobals mg->L2.a5m base mg->a0w l.prog w K mg base CX0 15 fa fd ["_law_script"] (a9W K PF):=by
 have B:Bl mg:=zb.bl X G;have hz:mg "zip"=none:=PySem.W.mg_none_of X G zz;have hM:mg "min"=none:=PySem.W.mg_none_of X G zm;have hrev:mg "reversed"=none:=PySem.W.mg_none_of X G zr;have mL:=PySem.W.mg_of X G gL;have mN:=PySem.W.mg_of X G gN;have mM:=PySem.W.mg_of X G gM;have LO:=a8L (st:=top 51) lO cO kO;have mO:mg "owned"=some (.ref fO):=PySem.W.mg_of X G iO;have mW:mg "WHOLE"=some (.ref wA):=PySem.W.mg_of X G gW;have qW:∀H,SqT K H wA [.str "whole"]:=fun H=>.inr ⟨_,_,_,lW,rfl,rfl,(by show 1≤sizeLine;decide),.cons ⟨tw,rfl⟩ .nil⟩;have mS:mg "LONE_SORTS"=some (.ref zA):=PySem.W.mg_of X G gS;have qS:∀H,SqT K H zA [.str "head",.str "twin"]:=fun H=>.inr ⟨_,_,_,lS,rfl,rfl,(by show 2≤sizeLine;decide),.cons ⟨ts1,rfl⟩ (.cons ⟨ts2,rfl⟩ .nil)⟩;have bO0:a1s K (PySem.W.fnOf "owned" "owned" (a0K (top 51)) (a0G (top 51)) (a0e (top 51)) dVO kVO docO pmO anO cdO ctO) ["thing","depth"] []:=fun s us kin hl=>by
  have h1:us.length=2:=by simpa using hl
  match us,h1 with
  |[u,v],_=>exact PySem.W.kp_binds kin (pO u v)
 have bO1:a1s K (PySem.W.fnOf "owned" "owned" (a0K (top 51)) (a0G (top 51)) (a0e (top 51)) dVO kVO docO pmO anO cdO ctO) ["thing","depth"] [.int 20 tk]:=fun s us kin hl=>by
  have h1:us.length=1:=by simpa using hl
  match us,h1 with
  |[u],_=>exact PySem.W.kp_binds kin (qO u)
 have LC:ClC K CC:=⟨⟨pgC,hdC,poC,psaC⟩,nC0,nC1,nC2,nC3⟩;have LP:ClP K CP:=⟨⟨pgP,hdP,poP,psaP⟩,nP0,nP1,nP2,nP3,nP4⟩;have LD:ClD K CD:=⟨⟨pgD,hdD,poD,psaD⟩,nD0⟩;have LH:ClH K CH:=⟨⟨pgH,hdH,poH,psaH⟩,nH0⟩;obtain⟨gC0,gdC0,FC0,MC0⟩:=hC0;obtain⟨gP0,gdP0,FP0,MP0⟩:=hP0;obtain⟨gP3,gdP3,FP3,MP3⟩:=hP3;obtain⟨gD0,gdD0,FD0,MD0⟩:=hD0;obtain⟨gH0,gdH0,FH0,MH0⟩:=hH0;have bP3:=FP3.b2 "self" "size" (by intros;rfl);obtain⟨f12,fd12,D12⟩:=d12.df X G;obtain⟨f13,fd13,D13⟩:=d13.df X G;obtain⟨f15,fd15,D15⟩:=d15.df X G;obtain⟨f16,fd16,D16⟩:=d16.df X G;obtain⟨f17,fd17,D17⟩:=d17.df X G;obtain⟨f18,fd18,D18⟩:=d18.df X G;obtain⟨f20,fd20,D20⟩:=d20.df X G;obtain⟨f25,fd25,D25⟩:=d25.df X G;obtain⟨f26,fd26,D26⟩:=d26.df X G;obtain⟨f27,fd27,D27⟩:=d27.df X G;obtain⟨f28,fd28,D28⟩:=d28.df X G;obtain⟨f29,fd29,D29⟩:=d29.df X G;obtain⟨f30,fd30,D30⟩:=d30.df X G;obtain⟨f31,fd31,D31⟩:=d31.df X G;obtain⟨f32,fd32,D32⟩:=d32.df X G;obtain⟨f33,fd33,D33⟩:=d33.df X G;obtain⟨f34,fd34,D34⟩:=d34.df X G;obtain⟨f35,fd35,D35⟩:=d35.df X G;obtain⟨f36,fd36,D36⟩:=d36.df X G;obtain⟨f37,fd37,D37⟩:=d37.df X G;obtain⟨f43,fd43,D43⟩:=d43.df X G;obtain⟨f44,fd44,D44⟩:=d44.df X G;obtain⟨f45,fd45,D45⟩:=d45.df X G;obtain⟨f46,fd46,D46⟩:=d46.df X G;obtain⟨f47,fd47,D47⟩:=d47.df X G;obtain⟨f48,fd48,D48⟩:=d48.df X G;obtain⟨f49,fd49,D49⟩:=d49.df X G;obtain⟨f50,fd50,D50⟩:=d50.df X G;obtain⟨f54,fd54,D54⟩:=d54.df X G;obtain⟨f55,fd55,D55⟩:=d55.df X G;obtain⟨f56,fd56,D56⟩:=d56.df X G;obtain⟨f57,fd57,D57⟩:=d57.df X G;obtain⟨f58,fd58,D58⟩:=d58.df X G;obtain⟨f59,fd59,D59⟩:=d59.df X G;obtain⟨f60,fd60,D60⟩:=d60.df X G;obtain⟨f61,fd61,D61⟩:=d61.df X G;obtain⟨f66,fd66,D66⟩:=d66.df X G;obtain⟨f67,fd67,D67⟩:=d67.df X G;obtain⟨f68,fd68,D68⟩:=d68.df X G;obtain⟨f69,fd69,D69⟩:=d69.df X G;obtain⟨f70,fd70,D70⟩:=d70.df X G;obtain⟨f71,fd71,D71⟩:=d71.df X G;obtain⟨f72,fd72,D72⟩:=d72.df X G;obtain⟨f73,fd73,D73⟩:=d73.df X G;obtain⟨f24,fd24,c24,F24,m24,t24⟩:=dF.get X G;have D24:Df K mg "form_of" (top 24) f24 fd24:=⟨F24.fn,m24⟩;obtain⟨f,oc,od,kV,doc,pm,an,cdv,ct,osl,a,lk,c,k⟩:=d74;have e:=hfa.symm.trans (PySem.W.mg_of X G a);cases e;refine⟨PySem.W.fnOf "law" "law" (a0K (top 74)) (a0G (top 74)) (a0e (top 74)) .none kV doc pm an cdv ct,fun s v=>.of_eq rfl,fun base _ _ hB=>?_⟩;have GN:a0w l.prog w K mg base CX0 1 f13 fd13 ["thing"] a3Q:=b0P D13.fn B mL ⟨tL,rfl⟩ mN ⟨tN,rfl⟩;have GK:a0w l.prog w K mg base CX0 4 f17 fd17 ["thing"] (b1V K):=b4D D17.fn B D15 D12 D16;have GF:a0w l.prog w K mg base CX0 6 f24 fd24 ["size","tables"] (a8b K PF):=b1G F24 B t24 hB D12 (a8H D12.fn B) D25 (b0K (sA:=0) D25.fn) D26 (b1o D26.fn D13 GN) D27 (b1g D27.fn B D13 GN D17 GK);have GWC:a0w l.prog w K mg base CX0 7 f33 fd33 ["form","table","columns"] (a3g K PF):=a9d D33.fn D24 GF B D32 D31;have GCI:a0w l.prog w K mg base CX0 3 f44 fd44 ["form","table"] a1K:=a8V D44.fn B D43 D28 D30 D31;have GWK:a0w l.prog w K mg base CX0 8 f45 fd45 ["form","table","column","old","new"] (a4v K PF):=a9n D45.fn D44 GCI D43 D13 GN D33 GWC;have GOw:=b4v (P:=l.prog) (w:=w) (base:=base) LO B mO bO0;have GFw:a0w l.prog w K mg base CX0 1 f58 fd58 ["pieces"] a9R:=b3j D58.fn B mM ⟨tM,rfl⟩;have GSn:a0w l.prog w K mg base CX0 5 gP3 gdP3 ["self","size"] (a9a K CP):=b3c FP3 LP B D13 GN D17 GK D18 D20 D12;have IC:Itf l.prog w K mg base PF 10 CC (MvC CC) a2Z:=⟨b1q,b0u,LC.cl,mo2 hC1 (fun F=>F.b2 "self" "form" (by intros;rfl)) (fun F=>(b3N F LC B D43 D12 mW qW D45 GWK).to (by decide) fun _ _ _ _ z=>z),mo2 hC2 (fun F=>F.b2 "self" "form" (by intros;rfl)) (fun F=>(b4u F LC B D43 D12 mW qW D45 GWK).to (by decide) fun _ _ _ _ z=>z),
  mo4 hC3 (fun F=>F.b4 "self" "form" "piece" "rest" (by intros;rfl)) (fun F=>(b3H F LC B hz hM D48 D47 D37).to (by decide) fun _ _ _ _ z=>z),mo4 hC4 (fun F=>F.b4 "self" "form" "piece" "rest" (by intros;rfl)) (fun F=>(b3O F LC B hz D48 D47 D37).to (by decide) fun _ _ _ _ z=>z),moX xCl (fun F=>(a7y F).to (by decide) (a6s fun _ _ _=>rfl)),moX xCr (fun F=>(b4P F LC B D48 D50).to (by decide) fun _ _ _ _ z=>z)⟩
 have IP:Itf l.prog w K mg base PF 9 CP (PuA K CP) a2Q:=⟨b0S,PuA.nt,LP.cl,mo2 hP1 (fun F=>F.b2 "self" "form" (by intros;rfl)) (fun F=>(b5a F LP MP3 GSn bP3 D44 GCI D43 D33 GWC).to (by decide) fun _ _ _ _ z=>z),mo2 hP2 (fun F=>F.b2 "self" "form" (by intros;rfl)) (fun F=>(b4E F LP MP3 GSn bP3 D44 GCI D43 D33 GWC).to (by decide) fun _ _ _ _ z=>z),
  mo4 hP4 (fun F=>F.b4 "self" "form" "piece" "rest" (by intros;rfl)) (fun F=>(b4K F LP B hz D47 D37).to (by decide) fun _ _ _ _ z=>z),mo4 hP5 (fun F=>F.b4 "self" "form" "piece" "rest" (by intros;rfl)) (fun F=>(b5g F LP B D46 D37 D49 D48).to (by decide) fun _ _ _ _ z=>z),moX xPl (fun F=>(b4S F LP B D50).to (by decide) fun _ _ _ _ z=>z),moX xPr (fun F=>(a6C F).to (by decide) (a6s fun _ _ _=>rfl))⟩
 have IT:Itf l.prog w K mg base PF 10 CD (TuA CD (PuA K CP)) a2Q.turn:=a8B LD IP hD1 hD2 hD3 hD4 xDl xDr;have so1:a2Q.turn.Ok:=⟨a4G.rB,a4G.lF,a4G.r0,a4G.l0⟩;have J0:It5 l.prog w K mg base PF 12 CH (ChA CH (MvC CC) (TuA CD (MvC CC))) (chS a2Z):=b2u LH B hrev a5D (by decide) D37 D50 (IC.up (by decide)) (a8B LD IC hD1 hD2 hD3 hD4 xDl xDr) hH1 hH3 hH4 hH5 xHl xHr;have J1:It5 l.prog w K mg base PF 12 CH (ChA CH (TuA CD (PuA K CP)) (TuA CD (TuA CD (PuA K CP)))) (chS a2Q.turn):=b2u LH B hrev so1 (by decide) D37 D50 (IT.up (by decide)) (a8B LD IT hD1 hD2 hD3 hD4 xDl xDr) hH1 hH3 hH4 hH5 xHl xHr;have JM:It5 l.prog w K mg base PF 12 CM (IdA CM) idS:=b4Q ⟨pgM,hdM,poM,psaM⟩ B (by decide) D37 hM0 hM2 hM3 xMl xMr;have GIp:a0w l.prog w K mg base CX0 6 f35 fd35 ["form","piece"] (b3v K):=b4T D35.fn B D28 D36 (b5b D36.fn B mS qS D29 D34 D28 D30 D31 D18 D20 D12);have GTd:a0w l.prog w K mg base CX0 9 f61 fd61 ["verdict","word","trail"] b4h:=b1r D61.fn mO kO (GOw 7) bO1;have GK0:=a8N D54.fn B hz a5D IC a4f D58 GFw D55 (b2y D55.fn (by decide) D35 GIp IC a4f) D56 (b2j D56.fn (by decide) a5D D35 GIp IC a4f);have GK1:=a8N D54.fn B hz so1 IT a3z D58 GFw D55 (b2y D55.fn (by decide) D35 GIp IT a3z) D56 (b2j D56.fn (by decide) so1 D35 GIp IT a3z);have GS0:=a7q D57.fn B hz (by decide) J0 b2I JM b2r D59 D60 D61 GTd D58 GFw;have GS1:=a7q D57.fn B hz (by decide) J1 b2W JM b2r D59 D60 D61 GTd D58 GFw;have mD:=PySem.W.mg_of X G aMD;have mH:=PySem.W.mg_of X G aMH;have mQ:=PySem.W.mg_of X G aMM;have KD:Mk K CD gD0:=⟨mkD,MD0.at_,MD0.fn,kcD⟩;have KH:Mk K CH gH0:=⟨mkH,MH0.at_,MH0.fn,kcH⟩;have GMv:=b1K (P:=l.prog) (w:=w) (base:=base) D72.fn (PySem.W.mg_of X G aMC) ⟨mkC,MC0.at_,MC0.fn,kcC⟩ FC0 (b4F FC0 LC mO kO (GOw 3) bO1) (PySem.W.mg_of X G aMP) ⟨mkP,MP0.at_,MP0.fn,kcP⟩ FP0 (b4s FP0 LP mO kO (GOw 3) bO1) mD KD FD0 LD;have GDu:a0w l.prog w K mg base CX0 2 f71 fd71 ["_law_names_here","_law_olds","_law_news_here","_law_top","_law_way"] b0T:=b2d D71.fn B hM D70 D69;have GNw:a0w l.prog w K mg base CX0 2 f73 fd73 ["_law_names_here","_law_rows_here","_law_top","_law_way"] a8u:=b1e D73.fn hM D70 D69;exact b1k (b0C (a6H lk c k) B way0 hM D66 D67 D68 D69 D71 GDu D72 GMv D73 GNw D54 GK0 D57 GS0 mH KH FH0 LH mD KD FD0 LD mQ ⟨mkM,inM,kcM⟩) (b0C (a6H lk c k) B way1 hM D66 D67 D68 D69 D71 GDu D72 GMv D73 GNw D54 GK1 D57 GS1 mH KH FH0 LH mD KD FD0 LD mQ ⟨mkM,inM,kcM⟩)
theorem b3K {l:PySem.W.OpenLaw}{q:Program}{loose:List Str}{XP:(Str->Option Value)->Heap->Prop}{d:DefRec}{K:Params->Fg0}{as:List Addr}{e:∀P,as=(K P).map (·.1)}{PF:Addr}(hk:a1o 15 callerA)(hn:l.most=some 63)(hdf:d.params.defaults=[])
  (DF:∀w:World,a2P (K w.params) "form_of" (top 24) PF)
  (F:∀(w:World) (mg:Str->Option Value) (fa:Addr) (h:Heap),(K w.params).In h->h.Ns mainGlobals mg->mg d.name=some (.ref fa)->a2P (K w.params) "form_of" (top 24) PF →
   ∃fd:FuncData,(∀(s:Shared) (u:Value),BindsTo s fd ⟨[u],[]⟩ [("_law_script",u)])/\∀base:Heap,(K w.params).In base->base.Ns mainGlobals mg->L2.a5m base mg->a0w l.prog w (K w.params) mg base CX0 15 fa fd ["_law_script"] (a9W (K w.params) PF)) :
  PySem.W.WalkO q loose XP (PySem.W.kmHook K as e [PF]).says l.row.toRowW d [] (fun f vs=>PySem.call f vs):=by
 refine L2.a9Q (n:=63) (k:=15) (x:="_law_script") (CX:=fun _=>CX0) (sp:=fun w=>a9W (K w.params) PF) (tx:=fun _=>[PF]) hn (by decide) hdf hk (fun w h Y=>PySem.W.km_in_of Y) (fun w h Y b hb=>?_) (fun w mg fa h X G m=>F w mg fa h X G m (DF w)) (fun w H a ns hl hO hS=>?_) fun _ _ _ _ _ z=>z
 ·have g:=PySem.W.km_tabs_of Y b hb
  have e:b=PF:=by simpa using hb
  subst e;obtain⟨⟨c,t⟩,n⟩:=(DF w).tab;exact L2.b2s (PySem.W.km_in_of Y) g t n
 ·have h0:=Int.emod_nonneg (cel ns 2) (show(2:Int)≠0 by decide)
  have h1:=Int.emod_lt_of_pos (cel ns 2) (show(0:Int)<2 by decide);exact⟨cel ns 2%2,by omega,a,ns,rfl,hS,hl,hO.2 PF (by simp),rfl,fun _=>rfl⟩
end My
namespace PySem.W.Fast
def tw3025194295244679402:Unit:=()
def tw15868910532012571866:Unit:=()
def tw16682995774992026638:Unit:=()
def tw1411602404526015205:Unit:=()
def tw12921646250841965325:Unit:=()
def tw13027934636255103043:Unit:=()
def tw3608437651611887524:Unit:=()
def tw3550471260480613710:Unit:=()
def tw15097275936258372247:Unit:=()
def tw18089305467381685075:Unit:=()
def tw13366248200914216352:Unit:=()
def tw10646934016200979773:Unit:=()
def tw15221734142609489023:Unit:=()
def tw4180096207551222099:Unit:=()
def tw4850858119444590147:Unit:=()
def tw2100763239177194701:Unit:=()
def tw13441985322712990938:Unit:=()
def tw2576779878732582448:Unit:=()
def tw18424848359356572927:Unit:=()
def tw8859816837414250355:Unit:=()
def tw6027034576551609152:Unit:=()
def tw7213968087480572782:Unit:=()
def tw17235909455246762026:Unit:=()
def tw9644819192893707938:Unit:=()
def tw13641611451050665282:Unit:=()
def tw8744467576189921508:Unit:=()
def tw6644606214140675733:Unit:=()
def tw14993163249142225418:Unit:=()
def tw8727475584841300223:Unit:=()
def tw15834740343770213744:Unit:=()
def tw10975101757355311248:Unit:=()
def tw10005261533480856322:Unit:=()
def tw14047023194596456755:Unit:=()
def tw13387614175256823148:Unit:=()
def tw2514610565747623720:Unit:=()
def tw9653302855019244624:Unit:=()
def tw9224074361597688466:Unit:=()
def tw15051641526616508849:Unit:=()
def tw9051945344179361349:Unit:=()
def tw18036661614924149783:Unit:=()
def tw8759036578719030405:Unit:=()
def tw6605158739987476312:Unit:=()
def tw6865412540859672762:Unit:=()
def tw17304580996848816190:Unit:=()
def tw10134197964255232223:Unit:=()
def tw584175994112581138:Unit:=()
def tw10693923171441851779:Unit:=()
def tw923100220430633298:Unit:=()
def tw10771398124658868196:Unit:=()
def tw1966719053007919090:Unit:=()
def tw6215043330066706491:Unit:=()
def tw2809268280785865241:Unit:=()
def tw17617986037518294728:Unit:=()
def tw10187144188172711992:Unit:=()
def tw7370147697024133125:Unit:=()
def tw3725171555519381670:Unit:=()
def tw2411181324948714905:Unit:=()
def tw7671637810943516205:Unit:=()
def tw8035176606375304115:Unit:=()
def tw8462599049770646323:Unit:=()
def tw546562134296888565:Unit:=()
def tw9228465351288257257:Unit:=()
def tw12981993681357918289:Unit:=()
def tw5795026883539802492:Unit:=()
def tw2912342037824083927:Unit:=()
def tw14239143333490009645:Unit:=()
def tw9619855622513799320:Unit:=()
def tw2663043761974500194:Unit:=()
def tw12163064123192445058:Unit:=()
def tw13278984188108916767:Unit:=()
def tw266755034835200258:Unit:=()
def tw16442681632497402527:Unit:=()
def tw781029524217303196:Unit:=()
def tw4499331477463157223:Unit:=()
def tw13405162497973678311:Unit:=()
def tw8308534816698097577:Unit:=()
def tw7021502839509267844:Unit:=()
def tw5924108597263784891:Unit:=()
def tw11025985358762981102:Unit:=()
def tw17913266000807379351:Unit:=()
def tw15100961910094320397:Unit:=()
def tw1337037240787654354:Unit:=()
def tw328826318876924393:Unit:=()
def tw16956001161980759829:Unit:=()
def tw15622115546638605279:Unit:=()
def tw5297785037702625479:Unit:=()
def tw7582139192315897189:Unit:=()
def tw9360434752060662727:Unit:=()
def tw4307735302346010064:Unit:=()
def tw17749160714184872530:Unit:=()
def tw2903468648559068823:Unit:=()
def tw3019641426465362423:Unit:=()
def tw13674110921500759145:Unit:=()
def tw13608469230513316373:Unit:=()
def tw10090065315268491473:Unit:=()
def tw11292436009202507207:Unit:=()
def tw8512284185917858327:Unit:=()
def tw13293319002989414564:Unit:=()
def tw12400561223788200833:Unit:=()
def tw9532601716288375322:Unit:=()
def tw2956508776794712599:Unit:=()
def tw12267930828461739651:Unit:=()
def tw16366127822943402158:Unit:=()
def tw17763714256793144543:Unit:=()
def tw2958676418505630714:Unit:=()
def tw10466913291042400244:Unit:=()
def tw10332678996898745872:Unit:=()
def tw16858735311202143070:Unit:=()
def tw17683295143943314455:Unit:=()
def tw5179534028142504369:Unit:=()
def tw2618223472483880964:Unit:=()
def tw1702599238522042748:Unit:=()
def tw3694167528093418866:Unit:=()
def tw1638521895769629774:Unit:=()
def tw16947418326561465062:Unit:=()
def tw1314798544414079499:Unit:=()
def tw1175031800769156999:Unit:=()
def tw2006956200101628237:Unit:=()
def tw5214343722674630337:Unit:=()
def tw6675499189738105753:Unit:=()
def tw16843115036071753165:Unit:=()
def tw3236311540431987532:Unit:=()
def tw12438002128349035472:Unit:=()
def tw10593500954428083972:Unit:=()
def tw13119305597805263882:Unit:=()
def tw2531426236065936814:Unit:=()
def tw13026551702027256327:Unit:=()
def tw14924125261051782411:Unit:=()
def tw14348518447119089589:Unit:=()
def tw7138236686612716465:Unit:=()
def tw7445446485977429642:Unit:=()
def tw8551899017965798054:Unit:=()
def tw11396470210856682181:Unit:=()
def tw10236513074718276303:Unit:=()
def tw9935959719357791320:Unit:=()
def tw14300455933086687344:Unit:=()
def tw15925969162571581224:Unit:=()
def tw7046375436245340746:Unit:=()
def tw3245161528143531845:Unit:=()
def tw18238720406130225988:Unit:=()
def tw6979499766658352775:Unit:=()
def tw15783097159619495602:Unit:=()
def tw16827529490030138506:Unit:=()
def tw14963702090228703926:Unit:=()
def tw700485063273779993:Unit:=()
def tw16657546442381643731:Unit:=()
def tw9634136903064111304:Unit:=()
def tw9209961370107892498:Unit:=()
def tw11795478524003890066:Unit:=()
def tw4053041753744878628:Unit:=()
def tw12865203608845951504:Unit:=()
def tw12608840553514469905:Unit:=()
def tw6941314578680615777:Unit:=()
def tw5070549179023845799:Unit:=()
def tw13009454793887170455:Unit:=()
def tw2497454558333108816:Unit:=()
def tw3432052951968970933:Unit:=()
def tw1577798256040302789:Unit:=()
def tw5419746850645264567:Unit:=()
def tw11081543369945223700:Unit:=()
def tw5989478097224487112:Unit:=()
def tw2459892917832690225:Unit:=()
def tw4722529987799904187:Unit:=()
def tw1927066043550065642:Unit:=()
def tw3581663564065819551:Unit:=()
def tw17257864530675360419:Unit:=()
def tw13789410450204932728:Unit:=()
def tw16377682437027928788:Unit:=()
def tw18110137942112700679:Unit:=()
def tw8784331060204376937:Unit:=()
def tw8315405664464124166:Unit:=()
def tw17281773466904271686:Unit:=()
def tw779709422005385562:Unit:=()
def tw416027564586948942:Unit:=()
def tw14046069714313149513:Unit:=()
def tw17316665841118084226:Unit:=()
def tw18183676352215004903:Unit:=()
def tw17525096930350858970:Unit:=()
def tw771590881292828131:Unit:=()
def tw8830415868026034649:Unit:=()
def tw10745383014332128080:Unit:=()
def tw6662529656354330933:Unit:=()
def tw15757470290979503852:Unit:=()
def tw2858625349124742141:Unit:=()
def tw13307684048026054259:Unit:=()
def tw16506055397865157372:Unit:=()
def tw8196561041502638226:Unit:=()
def tw9654157900739280089:Unit:=()
def tw1783117622510914644:Unit:=()
def tw6015625355901459853:Unit:=()
def tw5350803413944497820:Unit:=()
def tw13110514761662037863:Unit:=()
def tw18428168116876586933:Unit:=()
def tw18230322523906656745:Unit:=()
def tw3281490568009947198:Unit:=()
def tw7766947673219360045:Unit:=()
def tw6054611394946924406:Unit:=()
def tw4311453568422892769:Unit:=()
def tw7128674791647579343:Unit:=()
def tw5024084258322960165:Unit:=()
def tw2535724887728286278:Unit:=()
def tw10854814943575271568:Unit:=()
def tw3816580277933174308:Unit:=()
def tw17823771077377285632:Unit:=()
def tw11272032359415030796:Unit:=()
def tw6882157073830801121:Unit:=()
def tw6146657446067857319:Unit:=()
def tw2086882665847320656:Unit:=()
def tw17502797158406730849:Unit:=()
def tw10629701559773296705:Unit:=()
def tw9618113641953094015:Unit:=()
def tw3595216104019496524:Unit:=()
def tw3495482156270130573:Unit:=()
def tw11052952209097117568:Unit:=()
def tw6375843904997249783:Unit:=()
def tw175153973205369782:Unit:=()
def tw6716026827994835787:Unit:=()
def tw15587681932105800280:Unit:=()
def tw5826500826392284177:Unit:=()
def tw13762019867645410418:Unit:=()
def tw14129565558489622406:Unit:=()
def tw10534713915325598125:Unit:=()
def tw5980025850615665058:Unit:=()
def tw717109176549569102:Unit:=()
def tw1079646360879559317:Unit:=()
def tw4661851097871034726:Unit:=()
def tw17055825316268552000:Unit:=()
def tw9535612249043436251:Unit:=()
def tw12902027139307134164:Unit:=()
def tw2632621507112759123:Unit:=()
def tw13187305852153202619:Unit:=()
def tw18126078890699726210:Unit:=()
def tw7180238161703680901:Unit:=()
def tw11725455491953530954:Unit:=()
def tw13987910534346541061:Unit:=()
def tw1527548103819088399:Unit:=()
def tw13339026002435291141:Unit:=()
def tw16848948225440016738:Unit:=()
def tw16219075383219077482:Unit:=()
def tw10370722296425324055:Unit:=()
def tw9399634751675810266:Unit:=()
def tw13284163009418362064:Unit:=()
def tw8078250942497161136:Unit:=()
def tw10140380201116461946:Unit:=()
def tw776006058572808068:Unit:=()
def tw349281330147131559:Unit:=()
def tw10105308170517896810:Unit:=()
def tw16909476766930272255:Unit:=()
def tw776100737812230048:Unit:=()
def tw13233182826659542852:Unit:=()
def tw17698031617718609247:Unit:=()
def tw717371653730180487:Unit:=()
def tw6168503790782577603:Unit:=()
def tw10301174555287767231:Unit:=()
def tw17644380001194952439:Unit:=()
def tw13015018445869252443:Unit:=()
def tw1218835060128791089:Unit:=()
def tw10944175294718713148:Unit:=()
def tw16859739325695685989:Unit:=()
def tw10360979336524198328:Unit:=()
def tw2136073787882822565:Unit:=()
def tw10177663875800703995:Unit:=()
def tw3568586874362616563:Unit:=()
def tw1944543782974976166:Unit:=()
def tw17819983960203913556:Unit:=()
def tw4831320859630487358:Unit:=()
def tw15862927882422633367:Unit:=()
def tw7251952777979578892:Unit:=()
def tw5586509949741365159:Unit:=()
def tw6007185816774282832:Unit:=()
def tw17070620152422131094:Unit:=()
def tw14496895759419850746:Unit:=()
def tw5808901534084100361:Unit:=()
def tw5168163812994251878:Unit:=()
def tw5579922106694415629:Unit:=()
def tw4064970042891431812:Unit:=()
def tw4058042399384970035:Unit:=()
def tw8368193786303514283:Unit:=()
def tw17257971168135888742:Unit:=()
def tw1239709204563985886:Unit:=()
def tw9495200499013220323:Unit:=()
def tw6612887123540877497:Unit:=()
def tw18405668210455985607:Unit:=()
def tw10531118331522666660:Unit:=()
def tw14847822023663666107:Unit:=()
def tw5118187000092544797:Unit:=()
def tw5094047780580527614:Unit:=()
def tw7673552126908112686:Unit:=()
def tw9654200819854494614:Unit:=()
def tw7290036472035952612:Unit:=()
def tw4974344590814241092:Unit:=()
def tw13106310839418982400:Unit:=()
def tw9300192520383089422:Unit:=()
def tw6158748990893269408:Unit:=()
def tw7648762903816628575:Unit:=()
def tw12306082690669779007:Unit:=()
def tw5730834196542400510:Unit:=()
def tw16208949401230713881:Unit:=()
def tw10942347768304782989:Unit:=()
def tw2984997169144370416:Unit:=()
def tw11091241668081761597:Unit:=()
def tw2745978428477214521:Unit:=()
def tw8204330910248475152:Unit:=()
def tw12753325595591363501:Unit:=()
def tw17285271696092604061:Unit:=()
def tw16556349337371888211:Unit:=()
def tw14710865398677737220:Unit:=()
def tw10989567700601017144:Unit:=()
def tw7496435940875047929:Unit:=()
def tw4324969155877047505:Unit:=()
def tw14864877690379664436:Unit:=()
def tw13698421118152865554:Unit:=()
def tw15074013054454757070:Unit:=()
def tw7013725603331242313:Unit:=()
def tw5554639719734867385:Unit:=()
def tw13834469228632461016:Unit:=()
def tw1262220369206057146:Unit:=()
def tw294263099476420734:Unit:=()
def tw201732564476022535:Unit:=()
def tw13700905100009474456:Unit:=()
def tw2422592447418734924:Unit:=()
def tw9678111478295729756:Unit:=()
def tw1272458163635680434:Unit:=()
def tw8837969301860492945:Unit:=()
def tw5915688253014624708:Unit:=()
def tw10593830550568925082:Unit:=()
def tw6800038720008292445:Unit:=()
def tw8485406440128073470:Unit:=()
def tw4582768097636469765:Unit:=()
def tw14835547614475307525:Unit:=()
def tw10490651617432073583:Unit:=()
def tw9762370436948739281:Unit:=()
def tw17054421496752064894:Unit:=()
def tw5098652953608389916:Unit:=()
def tw14039420780931756725:Unit:=()
def tw14466928243056076023:Unit:=()
def tw13064252179050339937:Unit:=()
def tw17812210841614138958:Unit:=()
def tw15175242073492610844:Unit:=()
def tw15100875833657801411:Unit:=()
def tw1191152663923167385:Unit:=()
def tw3894752621020408979:Unit:=()
def tw2905310896756742561:Unit:=()
def tw12233181094398960047:Unit:=()
def tw9980885321887759754:Unit:=()
def tw16841922033607460051:Unit:=()
def tw2918970757857182645:Unit:=()
def tw15301973487081819033:Unit:=()
def tw6960738173809688438:Unit:=()
def tw13881718093435934098:Unit:=()
def tw12262963135594373721:Unit:=()
def tw12005133830206644414:Unit:=()
def tw15839210667675981038:Unit:=()
def tw12192405837431117627:Unit:=()
def tw10151504369777669224:Unit:=()
def tw6517155688899847514:Unit:=()
def tw1890497569509965877:Unit:=()
def tw5543057825693690739:Unit:=()
def tw4465776661771911123:Unit:=()
def tw2956524442737468690:Unit:=()
def tw1860710772496860288:Unit:=()
def tw18070507067565919264:Unit:=()
def tw16829435539585912250:Unit:=()
def tw15902385072897984741:Unit:=()
def tw14536373762806128975:Unit:=()
def tw4407988357653405391:Unit:=()
def tw212603876330458700:Unit:=()
def tw16152443320709477679:Unit:=()
def tw14353381869892430272:Unit:=()
def tw14099734538250986665:Unit:=()
def tw875585380228918800:Unit:=()
def tw11300458776769953529:Unit:=()
def tw6048661377008984193:Unit:=()
def tw243730864152960974:Unit:=()
def tw14162091620000289160:Unit:=()
def tw4464063373802896061:Unit:=()
def tw4082042276112038551:Unit:=()
def tw12953072786654255523:Unit:=()
def tw9688419772095645595:Unit:=()
def tw7571441410572261380:Unit:=()
def tw5408192022216374459:Unit:=()
def tw17019075766464501026:Unit:=()
def tw14214877044617904835:Unit:=()
def tw12079281018547563640:Unit:=()
def tw10668625809549249665:Unit:=()
def tw623439327108137838:Unit:=()
def tw16895758569436549494:Unit:=()
def tw13628978181334567182:Unit:=()
def tw918617351616239776:Unit:=()
def tw9836002014074582402:Unit:=()
def tw13181098889671183543:Unit:=()
def tw12024271459166891620:Unit:=()
def tw11912514123864395054:Unit:=()
def tw9148974335752930074:Unit:=()
def tw6689326999573828646:Unit:=()
def tw10780867217522000853:Unit:=()
def tw8991410064404807360:Unit:=()
def tw17648873283299592860:Unit:=()
def tw17274865526585979625:Unit:=()
def tw15992995396841079113:Unit:=()
def tw11752539946689029932:Unit:=()
def tw11669769260671416249:Unit:=()
def tw9733923583857844560:Unit:=()
def tw8116686990463297026:Unit:=()
def tw3169297363560778512:Unit:=()
def tw2840087398267918340:Unit:=()
def tw15077102686154915428:Unit:=()
def tw1137560726315493706:Unit:=()
def tw9833820531661455607:Unit:=()
def tw7276464333126811759:Unit:=()
def tw17352058777082259363:Unit:=()
def tw1465092866496331017:Unit:=()
def tw13307387758946582473:Unit:=()
def tw8034719305617775801:Unit:=()
def tw14551066129336743550:Unit:=()
def tw1446959615358762725:Unit:=()
def tw13107298464399759318:Unit:=()
def tw11290591380174174205:Unit:=()
def tw7639352267494168183:Unit:=()
def tw6709429859965821442:Unit:=()
def tw1290205096949126270:Unit:=()
def tw10917250947186684934:Unit:=()
def tw9262181168808927721:Unit:=()
def tw3533006120111789611:Unit:=()
def tw13420879712263105025:Unit:=()
def tw12913167668174408981:Unit:=()
def tw8101623722740376603:Unit:=()
def tw5244683074637703365:Unit:=()
def tw6368703610723272037:Unit:=()
def tw4139591580671118982:Unit:=()
def tw16614989644338180379:Unit:=()
def tw4540692061141281984:Unit:=()
def tw2897273510051037299:Unit:=()
def tw17276764010454606568:Unit:=()
def tw9749521714998989757:Unit:=()
def tw7354913314999295353:Unit:=()
def tw15639998448188984217:Unit:=()
def tw5613876868041710734:Unit:=()
def tw1090737666505885945:Unit:=()
def tw5628336267306586988:Unit:=()
def tw10636122520925807139:Unit:=()
def tw2260953385333029410:Unit:=()
def tw15181181061592349648:Unit:=()
def tw11239167482098912039:Unit:=()
def tw3322156806152410091:Unit:=()
def tw2989178363404925536:Unit:=()
def tw2233144737765454034:Unit:=()
def tw13208629906708128177:Unit:=()
def tw7812974161368639157:Unit:=()
def tw74161335427051026:Unit:=()
def tw710391478642179604:Unit:=()
def tw4430190556837771585:Unit:=()
def tw12562130724119136119:Unit:=()
def tw18387453673756874920:Unit:=()
def tw690971063272041296:Unit:=()
def tw925734843861215311:Unit:=()
def tw6233344443899661707:Unit:=()
def tw18274138098314363975:Unit:=()
def tw17428231312479570475:Unit:=()
def tw4046966641459777645:Unit:=()
def tw317890794199718427:Unit:=()
def tw2718702274952726854:Unit:=()
def tw4723842697599477169:Unit:=()
def tw5045823695973772016:Unit:=()
def tw10528309538437103921:Unit:=()
def tw8944546749786938002:Unit:=()
def tw6252707758190859867:Unit:=()
def tw14477533192657493665:Unit:=()
def tw16689985794125237342:Unit:=()
def tw15099775699539637954:Unit:=()
def tw13829039036815946647:Unit:=()
def tw13052784235892778231:Unit:=()
def tw3051438789349902090:Unit:=()
def tw2647152767112916204:Unit:=()
def tw2840460045549989445:Unit:=()
def tw18395458473212926442:Unit:=()
def tw12809918246507435843:Unit:=()
def tw10776763530114066067:Unit:=()
def tw1903126920662526470:Unit:=()
def tw11992460000226728270:Unit:=()
def tw17172406288326637638:Unit:=()
def tw5787112333955621975:Unit:=()
def tw18294822219190746721:Unit:=()
def tw1108059530107455164:Unit:=()
def tw9035046422862098621:Unit:=()
def tw17058195583136479871:Unit:=()
def tw12598826161603124466:Unit:=()
def tw6977033389585476087:Unit:=()
def tw248351661667440304:Unit:=()
def tw13666826629002813755:Unit:=()
def tw12782451164306033529:Unit:=()
def tw10369188015019050803:Unit:=()
def tw15997818762413146326:Unit:=()
def tw8279919043011334243:Unit:=()
def tw4374606287560679985:Unit:=()
def tw3791876400316301692:Unit:=()
def tw3776945896112005532:Unit:=()
def tw3538901921446112119:Unit:=()
def tw314682552228118314:Unit:=()
def tw2237454378378612686:Unit:=()
def tw16053414467739592594:Unit:=()
def tw16014330205655177549:Unit:=()
def tw13651942517455887393:Unit:=()
def tw10946442721210576793:Unit:=()
def tw10802848538453771739:Unit:=()
def tw10374209482891335593:Unit:=()
def tw1972251535010607294:Unit:=()
def tw10561862640375157875:Unit:=()
def tw15070398339926923506:Unit:=()
def tw3561091531755497547:Unit:=()
def tw2775868516662077442:Unit:=()
def tw17072324313575705548:Unit:=()
def tw13199811595424885023:Unit:=()
def tw207774515461950199:Unit:=()
def tw4834639134003240242:Unit:=()
def tw17279573655613958734:Unit:=()
def tw8927228388505534110:Unit:=()
def tw11917885901758720086:Unit:=()
def tw9298484286599485864:Unit:=()
def tw728349111999551735:Unit:=()
def tw9155093063505917938:Unit:=()
def tw9829540669820409019:Unit:=()
def tw2359722290736525245:Unit:=()
def tw3194320308377756054:Unit:=()
def tw18006579600544532426:Unit:=()
def tw17803739091258900051:Unit:=()
def tw4146155850192469370:Unit:=()
def tw16865217896745419674:Unit:=()
def tw11781957752030190468:Unit:=()
def tw10060131029061862473:Unit:=()
def tw7672854304288395004:Unit:=()
def tw9995053577672380877:Unit:=()
def tw378845564843226047:Unit:=()
def tw2452546269952189555:Unit:=()
def tw18188779316247388497:Unit:=()
def tw2326379987823180901:Unit:=()
def tw18261195301454161048:Unit:=()
def tw2244613641159574326:Unit:=()
def tw11679569800783742808:Unit:=()
def tw16851328708349300112:Unit:=()
def tw9578274699781549742:Unit:=()
def tw16918261414098317432:Unit:=()
def tw11046448886496119559:Unit:=()
def tw2232173240491917693:Unit:=()
def tw5586405799023784302:Unit:=()
def tw2537040211057943077:Unit:=()
def tw3866743612280031306:Unit:=()
def tw17470441793243668675:Unit:=()
def tw16985146407625196600:Unit:=()
def tw11729154563498848450:Unit:=()
def tw9580291568402100993:Unit:=()
def tw9549245437450020971:Unit:=()
def tw7731536879666618517:Unit:=()
def tw2905540976462706238:Unit:=()
def tw14254966732831483041:Unit:=()
def tw5845172542856344547:Unit:=()
def tw910069825203655323:Unit:=()
def tw7559160076260041078:Unit:=()
def tw5714113084599792431:Unit:=()
def tw17962261712175166117:Unit:=()
def tw16484639149275108848:Unit:=()
def tw1436973802428049559:Unit:=()
def tw14176424929464765009:Unit:=()
def tw6808463251154205678:Unit:=()
def tw8134436215160777407:Unit:=()
def tw2083574157147269550:Unit:=()
def tw18197038770462430682:Unit:=()
def tw9679483824114114443:Unit:=()
def tw528710873376583207:Unit:=()
def tw9985236920124621495:Unit:=()
def tw7598542092483832734:Unit:=()
def tw7057290836844180231:Unit:=()
def tw3441334781608059088:Unit:=()
def tw3214201718107830484:Unit:=()
def tw1886632328750129371:Unit:=()
def tw1840754688677055410:Unit:=()
def tw17258735677111343449:Unit:=()
def tw13272459487121351072:Unit:=()
def tw13106441120178481200:Unit:=()
def tw12990492541062164999:Unit:=()
def tw7464314077334320724:Unit:=()
def tw7272861824624758736:Unit:=()
def tw7237240261458223299:Unit:=()
def tw6642165261002544625:Unit:=()
def tw5642947553014221168:Unit:=()
def tw2638594916507348717:Unit:=()
def tw1677301091753961114:Unit:=()
def tw15502643271074772828:Unit:=()
def tw14178331259966939585:Unit:=()
def tw12051633904451025850:Unit:=()
def tw10752486530825578797:Unit:=()
def tw10271848047572019567:Unit:=()
def tw8907687692988025155:Unit:=()
def tw8560864758709061861:Unit:=()
def tw2343262873548115684:Unit:=()
def tw16407750311214283887:Unit:=()
def tw10905546418833054739:Unit:=()
def tw832869444110000696:Unit:=()
def tw2040970661148693157:Unit:=()
def tw17608887910534232531:Unit:=()
def tw15278713415916448935:Unit:=()
def tw15039792448855798310:Unit:=()
def tw11630701135488901854:Unit:=()
def tw5277047669814934006:Unit:=()
def tw4996689359962774807:Unit:=()
def tw3949263320887311583:Unit:=()
def tw3854147788723140138:Unit:=()
def tw2369521465881502050:Unit:=()
def tw2021383043112972836:Unit:=()
def tw1864262176117840149:Unit:=()
def tw16947507707360544928:Unit:=()
def tw16896823766938044007:Unit:=()
def tw16638442543181162744:Unit:=()
def tw15243303801530215171:Unit:=()
def tw15067773690643569963:Unit:=()
def tw14580708388777370648:Unit:=()
def tw14428504787517064606:Unit:=()
def tw14369093101656793533:Unit:=()
def tw12045026195567101568:Unit:=()
def tw11019425602754943823:Unit:=()
def tw1100826912879906668:Unit:=()
def tw10618718645017231949:Unit:=()
def tw10364662189674770109:Unit:=()
def tw3118849969632812729:Unit:=()
def tw16295051921538308779:Unit:=()
def tw9356031719993051961:Unit:=()
def tw8684563443741952910:Unit:=()
def tw7721025836560470706:Unit:=()
def tw5924708670530155496:Unit:=()
def tw5506962700717935592:Unit:=()
def tw4237478314840483174:Unit:=()
def tw213695487363788984:Unit:=()
def tw17835347992649403448:Unit:=()
def tw15649217351433256501:Unit:=()
def tw14690752931699148080:Unit:=()
def tw14443638948986838832:Unit:=()
def tw14305224509125220286:Unit:=()
def tw10328667857494136374:Unit:=()
def tw9649360532871027373:Unit:=()
def tw6712979795623684789:Unit:=()
def tw5948874323095657979:Unit:=()
def tw5150418114862415474:Unit:=()
def tw4102166505674600456:Unit:=()
def tw2027549553391183846:Unit:=()
def tw18359971429513124881:Unit:=()
def tw1686129339349488561:Unit:=()
def tw13757991065903185347:Unit:=()
def tw13671879413041206808:Unit:=()
def tw11668488661084675524:Unit:=()
def tw13751602398456063589:Unit:=()
def tw5515411715477392038:Unit:=()
def tw16923078687049634827:Unit:=()
def tw9339306631663753743:Unit:=()
def tw6071264425361620677:Unit:=()
def tw562117177924797673:Unit:=()
def tw4914696839896456182:Unit:=()
def tw489726116167644863:Unit:=()
def tw1906539801825331965:Unit:=()
def tw17275043031439518398:Unit:=()
def tw17022521445753387907:Unit:=()
def tw16762486982361940360:Unit:=()
def tw15426313356859113080:Unit:=()
def tw12627072301198897868:Unit:=()
def tw8708412401626421682:Unit:=()
def tw791856930364313047:Unit:=()
def tw77139455374207696:Unit:=()
def tw7384348491639520533:Unit:=()
def tw5358281412006966768:Unit:=()
def tw2691415048678551560:Unit:=()
def tw2441055589133714852:Unit:=()
def tw16758342211578611066:Unit:=()
def tw14208587984338601114:Unit:=()
def tw13941653206376691617:Unit:=()
def tw10968829504626929147:Unit:=()
def tw9614578226779853097:Unit:=()
def tw9095704370158524088:Unit:=()
def tw8297974605329490664:Unit:=()
def tw7081037504714700682:Unit:=()
def tw4125845121310134535:Unit:=()
def tw3177770011073559520:Unit:=()
def tw1973597373698337314:Unit:=()
def tw17277580696836408792:Unit:=()
def tw1694490738940603866:Unit:=()
def tw16870380935152448195:Unit:=()
def tw11955823269622923173:Unit:=()
def tw10037640427739481015:Unit:=()
def tw9958237914873335333:Unit:=()
def tw9844475589054828099:Unit:=()
def tw9721172472973223089:Unit:=()
def tw9606576285992748871:Unit:=()
def tw9606351846727752227:Unit:=()
def tw9587348202307949589:Unit:=()
def tw9531886898985671943:Unit:=()
def tw9523351930888684070:Unit:=()
def tw9469855679122181621:Unit:=()
def tw9431408954759140351:Unit:=()
def tw9254741198556681346:Unit:=()
def tw9236830329664066866:Unit:=()
def tw9211168299902105641:Unit:=()
def tw9119256846187070620:Unit:=()
def tw90725776564725059:Unit:=()
def tw9027075516298906937:Unit:=()
def tw9002101423697714173:Unit:=()
def tw8677215055578597273:Unit:=()
def tw8445579669767556790:Unit:=()
def tw8369831680404463977:Unit:=()
def tw8351942850763742062:Unit:=()
def tw8284001383809151059:Unit:=()
def tw8220339936671196848:Unit:=()
def tw8213401906444302368:Unit:=()
def tw821329981945227126:Unit:=()
def tw8212231454725415269:Unit:=()
def tw8006365558644982576:Unit:=()
def tw7862991127382221396:Unit:=()
def tw783334400490996586:Unit:=()
def tw7766009453128974623:Unit:=()
def tw7672614061499828389:Unit:=()
def tw7630603385178004798:Unit:=()
def tw7618206432043460629:Unit:=()
def tw7526310812600863835:Unit:=()
def tw7456716555168122010:Unit:=()
def tw7377450561321137712:Unit:=()
def tw735091558536436813:Unit:=()
def tw7215679805101844219:Unit:=()
def tw7204306483906337238:Unit:=()
def tw7200572524084920202:Unit:=()
def tw718349607804066250:Unit:=()
def tw7020255476377014319:Unit:=()
def tw6981026378103644144:Unit:=()
def tw6822066164090307941:Unit:=()
def tw678247952433356970:Unit:=()
def tw6722224418548932838:Unit:=()
def tw6562863390770870098:Unit:=()
def tw65108231740653427:Unit:=()
def tw6385858440519396734:Unit:=()
def tw6204349454820920648:Unit:=()
def tw6186989323848151253:Unit:=()
def tw577011193708212364:Unit:=()
def tw5677914564786914297:Unit:=()
def tw566855534631771565:Unit:=()
def tw5523278223972745107:Unit:=()
def tw5438318957128172141:Unit:=()
def tw5018849811729322682:Unit:=()
def tw5002741033457971324:Unit:=()
def tw4987855081104512799:Unit:=()
def tw4970645816171411970:Unit:=()
def tw4919435896329301055:Unit:=()
def tw4890109943331337227:Unit:=()
def tw4821485968780130466:Unit:=()
def tw4738307129165408429:Unit:=()
def tw4700233639595038862:Unit:=()
def tw468681937923100117:Unit:=()
def tw4513408713078077693:Unit:=()
def tw444014892232595862:Unit:=()
def tw4303873671983433791:Unit:=()
def tw4297168138217405485:Unit:=()
def tw4206083255208169110:Unit:=()
def tw4183650522027707842:Unit:=()
def tw4164147190730651680:Unit:=()
def tw412437638608894883:Unit:=()
def tw4044800908254995336:Unit:=()
def tw3906807797031128483:Unit:=()
def tw3801534496583267264:Unit:=()
def tw3785846050289598964:Unit:=()
def tw3680282121320637947:Unit:=()
def tw3631115312727873625:Unit:=()
def tw3624824744044244148:Unit:=()
def tw347943768038234492:Unit:=()
def tw336576772782191566:Unit:=()
def tw3230382512372401616:Unit:=()
def tw3229530600867023984:Unit:=()
def tw3195659165274211264:Unit:=()
def tw3090887646242328911:Unit:=()
def tw3049894144137919216:Unit:=()
def tw3000810615852163708:Unit:=()
def tw2987644372588087881:Unit:=()
def tw2846199299050855029:Unit:=()
def tw2758228068167221075:Unit:=()
def tw2740069748539135189:Unit:=()
def tw2728945536586882804:Unit:=()
def tw270570260128111301:Unit:=()
def tw2646601332228916568:Unit:=()
def tw2628385878858440292:Unit:=()
def tw2480306003548396472:Unit:=()
def tw2466882510516869120:Unit:=()
def tw2449153070594017699:Unit:=()
def tw2425385965662013242:Unit:=()
def tw2396780693600181262:Unit:=()
def tw2313056084900025724:Unit:=()
def tw1908819597692708412:Unit:=()
def tw18440557110451139674:Unit:=()
def tw18436722165361994366:Unit:=()
def tw1833800148061786772:Unit:=()
def tw18273987752619869412:Unit:=()
def tw18255758540368301641:Unit:=()
def tw18248333120191278489:Unit:=()
def tw18189834645019563836:Unit:=()
def tw18179081426292260270:Unit:=()
def tw1816457395083811180:Unit:=()
def tw18047338690376844113:Unit:=()
def tw1795110609708840482:Unit:=()
def tw1794490415094473568:Unit:=()
def tw17922948414569450174:Unit:=()
def tw17878853902268158020:Unit:=()
def tw17859231362924342231:Unit:=()
def tw17709144911811159075:Unit:=()
def tw17525318737326145212:Unit:=()
def tw17513011795240805998:Unit:=()
def tw17506958521748466574:Unit:=()
def tw17445189767857772811:Unit:=()
def tw17433354499362277146:Unit:=()
def tw17378254950944320808:Unit:=()
def tw17375097962736076616:Unit:=()
def tw17268374465892088801:Unit:=()
def tw17260043823623071003:Unit:=()
def tw17098165048626858043:Unit:=()
def tw17016765901149797361:Unit:=()
def tw16989142184638504040:Unit:=()
def tw1687536031315903030:Unit:=()
def tw16820501795939489910:Unit:=()
def tw16808465036100561829:Unit:=()
def tw16775154982203746007:Unit:=()
def tw16523004821252226372:Unit:=()
def tw16459471054535356003:Unit:=()
def tw16392969550844406244:Unit:=()
def tw16376807988497943524:Unit:=()
def tw16325520357951611815:Unit:=()
def tw16143639377171142798:Unit:=()
def tw16106640061740207113:Unit:=()
def tw16095598931323638350:Unit:=()
def tw16042556099940596005:Unit:=()
def tw1601924481705442531:Unit:=()
def tw15980631555295108007:Unit:=()
def tw15959039748715201036:Unit:=()
def tw15836134611933665870:Unit:=()
def tw1581879027462186925:Unit:=()
def tw1561287033237528411:Unit:=()
def tw15570915160836943386:Unit:=()
def tw15565336703076832319:Unit:=()
def tw15523284328491803365:Unit:=()
def tw15479367130038057847:Unit:=()
def tw15416979408350634439:Unit:=()
def tw15337390078117807273:Unit:=()
def tw15319626477953874828:Unit:=()
def tw15282642756410736612:Unit:=()
def tw1527982731291173837:Unit:=()
def tw15250383686548031593:Unit:=()
def tw15208657418671755451:Unit:=()
def tw15120708109518442255:Unit:=()
def tw15105034238124104203:Unit:=()
def tw15006244717685491702:Unit:=()
def tw14985877934400524336:Unit:=()
def tw14876715837648468112:Unit:=()
def tw14832296147666951984:Unit:=()
def tw14770740503217094694:Unit:=()
def tw14726971086705415721:Unit:=()
def tw14674861190163520233:Unit:=()
def tw1464229423712417929:Unit:=()
def tw14629048409000884182:Unit:=()
def tw14620050417081629724:Unit:=()
def tw1453899523300475608:Unit:=()
def tw14478408370610413538:Unit:=()
def tw1441446539195783111:Unit:=()
def tw1439132716905139676:Unit:=()
def tw14328259568201346748:Unit:=()
def tw14258943829670310523:Unit:=()
def tw1414170242618609428:Unit:=()
def tw14078791096073802239:Unit:=()
def tw14039698478345203313:Unit:=()
def tw14021975958680045278:Unit:=()
def tw13969312955867680198:Unit:=()
def tw13726790617225380600:Unit:=()
def tw13721299778942517726:Unit:=()
def tw13598707278730813468:Unit:=()
def tw13570241632033301191:Unit:=()
def tw13542424098686111272:Unit:=()
def tw13531663676335905360:Unit:=()
def tw13420027809555995359:Unit:=()
def tw13291706191985044409:Unit:=()
def tw13273926746686700229:Unit:=()
def tw13155644760730376410:Unit:=()
def tw13148892040891189368:Unit:=()
def tw13139925370913478305:Unit:=()
def tw13131719323185429406:Unit:=()
def tw13096170972648458544:Unit:=()
def tw1285509468926472049:Unit:=()
def tw12853020829729949773:Unit:=()
def tw12807613707832727132:Unit:=()
def tw12755247106906116125:Unit:=()
def tw12717528612761948767:Unit:=()
def tw12627789541193815182:Unit:=()
def tw12509309497560224726:Unit:=()
def tw12485736352151323770:Unit:=()
def tw12358090792427481906:Unit:=()
def tw12341585273863682791:Unit:=()
def tw12320755308014585864:Unit:=()
def tw12310840273091779869:Unit:=()
def tw121730186482749631:Unit:=()
def tw12166494292778293317:Unit:=()
def tw12046194503798637414:Unit:=()
def tw12018608010884523281:Unit:=()
def tw11998628382617767093:Unit:=()
def tw11841754633032481379:Unit:=()
def tw11801496193849888853:Unit:=()
def tw11776631629993614007:Unit:=()
def tw11631279027297848575:Unit:=()
def tw11623413598549674468:Unit:=()
def tw11590816042543317604:Unit:=()
def tw11590220039483667353:Unit:=()
def tw11488749775241361917:Unit:=()
def tw11488363286991110277:Unit:=()
def tw11469685092261876959:Unit:=()
def tw11249757659980270060:Unit:=()
def tw11247236272917486040:Unit:=()
def tw11241042072177834504:Unit:=()
def tw11238126931810569932:Unit:=()
def tw1110077993230915506:Unit:=()
def tw11099394057709812798:Unit:=()
def tw11059662087869587061:Unit:=()
def tw11055854197283415386:Unit:=()
def tw10997648860844321739:Unit:=()
def tw10985686566261620275:Unit:=()
def tw10890347406886465429:Unit:=()
def tw10871335410965290499:Unit:=()
def tw10868602564993041577:Unit:=()
def tw10830819417622089640:Unit:=()
def tw10804723259400582373:Unit:=()
def tw10803882660163523866:Unit:=()
def tw10786737158717871359:Unit:=()
def tw10729789208029166428:Unit:=()
def tw10725719947457695272:Unit:=()
def tw10633822901151915772:Unit:=()
def tw10631853905149327896:Unit:=()
def tw10477882535786466931:Unit:=()
def tw10444875097826759351:Unit:=()
def tw1035939711449123166:Unit:=()
def tw10240900134886292167:Unit:=()
def tw10038422380846880120:Unit:=()
end PySem.W.Fast
open PySem PySem.W PyProof.Rows
set_option maxRecDepth 100000 in
set_option maxHeartbeats 0 in
theorem PySem.Challenge.cw_halfmoved_k57_there_and_back_holds : PySem.Challenge.rw_halfmoved_k57_there_and_back.Holds := by
 w_on;o_law;k_head;(case hw=>w_witness2)
 k_fill
 refine' My.b3K (l:=PySem.Challenge.rw_halfmoved_k57_there_and_back) ⟨rfl,by decide,by decide⟩ rfl rfl ?DF ?F
 case DF=>
  intro w;refine' L2.a7X ?a ?l ?c ?k ?t ?n;(case a=>k_is);(case l=>k_is);(case c=>k_is);(case k=>k_is);(case t=>rfl);(case n=>rfl)
 case F=>
  intro w mg fa h KX G hmg dF;refine' My.all_mk KX G hmg dF ?gL ?gN ?gM ?gW ?lW ?gS ?lS ?aMC ?pgC ?hdC ?poC ?psaC ?mkC ?kcC ?nC0 ?nC1 ?nC2 ?nC3 ?aMP ?pgP ?hdP ?poP ?psaP ?mkP ?kcP ?nP0 ?nP1 ?nP2 ?nP3 ?nP4 ?aMD ?pgD ?hdD ?poD ?psaD ?mkD ?kcD ?nD0 ?aMH ?pgH ?hdH ?poH ?psaH ?mkH ?kcH ?nH0 ?aMM ?pgM ?hdM ?poM ?psaM ?mkM ?kcM ?inM ?iO ?lO ?cO ?kO ?pO ?qO ?hC0 ?hC1 ?hC2 ?hC3 ?hC4 ?hP0 ?hP1 ?hP2 ?hP3 ?hP4 ?hP5 ?hD0 ?hD1 ?hD2 ?hD3 ?hD4 ?hH0 ?hH1 ?hH3 ?hH4 ?hH5 ?hM0 ?hM2 ?hM3 ?xCl ?xCr ?xPl ?xPr ?xDl ?xDr ?xHl ?xHr ?xMl ?xMr ?d12 ?d13 ?d15 ?d16 ?d17 ?d18 ?d20 ?d25 ?d26 ?d27 ?d28 ?d29 ?d30 ?d31 ?d32 ?d33 ?d34 ?d35 ?d36 ?d37 ?d43 ?d44 ?d45 ?d46 ?d47 ?d48 ?d49 ?d50 ?d54 ?d55 ?d56 ?d57 ?d58 ?d59 ?d60 ?d61 ?d66 ?d67 ?d68 ?d69 ?d70 ?d71 ?d72 ?d73 ?d74 ?zb ?zz ?zm ?zr
  (case gL=>k_is)
  (case gN=>k_is)
  (case gM=>k_is)
  (case gW=>k_is)
  (case lW=>k_is)
  (case gS=>k_is)
  (case lS=>k_is)
  (case aMC=>k_is)
  (case pgC=>k_is)
  (case hdC=>k_is)
  (case poC=>k_is)
  (case psaC=>k_is)
  (case mkC=>k_is)
  (case kcC=>k_is)
  (case nC0=>k_is)
  (case nC1=>k_is)
  (case nC2=>k_is)
  (case nC3=>k_is)
  (case aMP=>k_is)
  (case pgP=>k_is)
  (case hdP=>k_is)
  (case poP=>k_is)
  (case psaP=>k_is)
  (case mkP=>k_is)
  (case kcP=>k_is)
  (case nP0=>k_is)
  (case nP1=>k_is)
  (case nP2=>k_is)
  (case nP3=>k_is)
  (case nP4=>k_is)
  (case aMD=>k_is)
  (case pgD=>k_is)
  (case hdD=>k_is)
  (case poD=>k_is)
  (case psaD=>k_is)
  (case mkD=>k_is)
  (case kcD=>k_is)
  (case nD0=>k_is)
  (case aMH=>k_is)
  (case pgH=>k_is)
  (case hdH=>k_is)
  (case poH=>k_is)
  (case psaH=>k_is)
  (case mkH=>k_is)
  (case kcH=>k_is)
  (case nH0=>k_is)
  (case aMM=>k_is)
  (case pgM=>k_is)
  (case hdM=>k_is)
  (case poM=>k_is)
  (case psaM=>k_is)
  (case mkM=>k_is)
  (case kcM=>k_is)
  (case inM=>k_is)
  (case iO=>k_is)
  (case lO=>k_is)
  (case cO=>k_is)
  (case kO=>k_is)
  (case pO=>intro u v S;rfl)
  (case qO=>intro u S;rfl)
  (case hC0=>refine' L2.a0D ?a ?i ?l ?c ?k;(case a=>k_is);(case i=>k_is);(case l=>k_is);(case c=>k_is);(case k=>k_is))
  (case hC1=>refine' L2.a0D ?a ?i ?l ?c ?k;(case a=>k_is);(case i=>k_is);(case l=>k_is);(case c=>k_is);(case k=>k_is))
  (case hC2=>refine' L2.a0D ?a ?i ?l ?c ?k;(case a=>k_is);(case i=>k_is);(case l=>k_is);(case c=>k_is);(case k=>k_is))
  (case hC3=>refine' L2.a0D ?a ?i ?l ?c ?k;(case a=>k_is);(case i=>k_is);(case l=>k_is);(case c=>k_is);(case k=>k_is))
  (case hC4=>refine' L2.a0D ?a ?i ?l ?c ?k;(case a=>k_is);(case i=>k_is);(case l=>k_is);(case c=>k_is);(case k=>k_is))
  (case hP0=>refine' L2.a0D ?a ?i ?l ?c ?k;(case a=>k_is);(case i=>k_is);(case l=>k_is);(case c=>k_is);(case k=>k_is))
  (case hP1=>refine' L2.a0D ?a ?i ?l ?c ?k;(case a=>k_is);(case i=>k_is);(case l=>k_is);(case c=>k_is);(case k=>k_is))
  (case hP2=>refine' L2.a0D ?a ?i ?l ?c ?k;(case a=>k_is);(case i=>k_is);(case l=>k_is);(case c=>k_is);(case k=>k_is))
  (case hP3=>refine' L2.a0D ?a ?i ?l ?c ?k;(case a=>k_is);(case i=>k_is);(case l=>k_is);(case c=>k_is);(case k=>k_is))
  (case hP4=>refine' L2.a0D ?a ?i ?l ?c ?k;(case a=>k_is);(case i=>k_is);(case l=>k_is);(case c=>k_is);(case k=>k_is))
  (case hP5=>refine' L2.a0D ?a ?i ?l ?c ?k;(case a=>k_is);(case i=>k_is);(case l=>k_is);(case c=>k_is);(case k=>k_is))
  (case hD0=>refine' L2.a0D ?a ?i ?l ?c ?k;(case a=>k_is);(case i=>k_is);(case l=>k_is);(case c=>k_is);(case k=>k_is))
  (case hD1=>refine' L2.a0D ?a ?i ?l ?c ?k;(case a=>k_is);(case i=>k_is);(case l=>k_is);(case c=>k_is);(case k=>k_is))
  (case hD2=>refine' L2.a0D ?a ?i ?l ?c ?k;(case a=>k_is);(case i=>k_is);(case l=>k_is);(case c=>k_is);(case k=>k_is))
  (case hD3=>refine' L2.a0D ?a ?i ?l ?c ?k;(case a=>k_is);(case i=>k_is);(case l=>k_is);(case c=>k_is);(case k=>k_is))
  (case hD4=>refine' L2.a0D ?a ?i ?l ?c ?k;(case a=>k_is);(case i=>k_is);(case l=>k_is);(case c=>k_is);(case k=>k_is))
  (case hH0=>refine' L2.a0D ?a ?i ?l ?c ?k;(case a=>k_is);(case i=>k_is);(case l=>k_is);(case c=>k_is);(case k=>k_is))
  (case hH1=>refine' L2.a0D ?a ?i ?l ?c ?k;(case a=>k_is);(case i=>k_is);(case l=>k_is);(case c=>k_is);(case k=>k_is))
  (case hH3=>refine' L2.a0D ?a ?i ?l ?c ?k;(case a=>k_is);(case i=>k_is);(case l=>k_is);(case c=>k_is);(case k=>k_is))
  (case hH4=>refine' L2.a0D ?a ?i ?l ?c ?k;(case a=>k_is);(case i=>k_is);(case l=>k_is);(case c=>k_is);(case k=>k_is))
  (case hH5=>refine' L2.a0D ?a ?i ?l ?c ?k;(case a=>k_is);(case i=>k_is);(case l=>k_is);(case c=>k_is);(case k=>k_is))
  (case hM0=>refine' L2.a0D ?a ?i ?l ?c ?k;(case a=>k_is);(case i=>k_is);(case l=>k_is);(case c=>k_is);(case k=>k_is))
  (case hM2=>refine' L2.a0D ?a ?i ?l ?c ?k;(case a=>k_is);(case i=>k_is);(case l=>k_is);(case c=>k_is);(case k=>k_is))
  (case hM3=>refine' L2.a0D ?a ?i ?l ?c ?k;(case a=>k_is);(case i=>k_is);(case l=>k_is);(case c=>k_is);(case k=>k_is))
  (case xCl=>refine' L2.a1C ?a ?i ?l ?c ?k ?w4 ?w3;(case a=>k_is);(case i=>k_is);(case l=>k_is);(case c=>k_is);(case k=>k_is);(case w4=>intro u v x y S;rfl);(case w3=>intro u v x S;rfl))
  (case xCr=>refine' L2.a1C ?a ?i ?l ?c ?k ?w4 ?w3;(case a=>k_is);(case i=>k_is);(case l=>k_is);(case c=>k_is);(case k=>k_is);(case w4=>intro u v x y S;rfl);(case w3=>intro u v x S;rfl))
  (case xPl=>refine' L2.a1C ?a ?i ?l ?c ?k ?w4 ?w3;(case a=>k_is);(case i=>k_is);(case l=>k_is);(case c=>k_is);(case k=>k_is);(case w4=>intro u v x y S;rfl);(case w3=>intro u v x S;rfl))
  (case xPr=>refine' L2.a1C ?a ?i ?l ?c ?k ?w4 ?w3;(case a=>k_is);(case i=>k_is);(case l=>k_is);(case c=>k_is);(case k=>k_is);(case w4=>intro u v x y S;rfl);(case w3=>intro u v x S;rfl))
  (case xDl=>refine' L2.a1C ?a ?i ?l ?c ?k ?w4 ?w3;(case a=>k_is);(case i=>k_is);(case l=>k_is);(case c=>k_is);(case k=>k_is);(case w4=>intro u v x y S;rfl);(case w3=>intro u v x S;rfl))
  (case xDr=>refine' L2.a1C ?a ?i ?l ?c ?k ?w4 ?w3;(case a=>k_is);(case i=>k_is);(case l=>k_is);(case c=>k_is);(case k=>k_is);(case w4=>intro u v x y S;rfl);(case w3=>intro u v x S;rfl))
  (case xHl=>refine' L2.a1C ?a ?i ?l ?c ?k ?w4 ?w3;(case a=>k_is);(case i=>k_is);(case l=>k_is);(case c=>k_is);(case k=>k_is);(case w4=>intro u v x y S;rfl);(case w3=>intro u v x S;rfl))
  (case xHr=>refine' L2.a1C ?a ?i ?l ?c ?k ?w4 ?w3;(case a=>k_is);(case i=>k_is);(case l=>k_is);(case c=>k_is);(case k=>k_is);(case w4=>intro u v x y S;rfl);(case w3=>intro u v x S;rfl))
  (case xMl=>refine' L2.a1C ?a ?i ?l ?c ?k ?w4 ?w3;(case a=>k_is);(case i=>k_is);(case l=>k_is);(case c=>k_is);(case k=>k_is);(case w4=>intro u v x y S;rfl);(case w3=>intro u v x S;rfl))
  (case xMr=>refine' L2.a1C ?a ?i ?l ?c ?k ?w4 ?w3;(case a=>k_is);(case i=>k_is);(case l=>k_is);(case c=>k_is);(case k=>k_is);(case w4=>intro u v x y S;rfl);(case w3=>intro u v x S;rfl))
  (case d12=>refine' L2.a0s ?a ?l ?c ?k;(case a=>k_is);(case l=>k_is);(case c=>k_is);(case k=>k_is))
  (case d13=>refine' L2.a0s ?a ?l ?c ?k;(case a=>k_is);(case l=>k_is);(case c=>k_is);(case k=>k_is))
  (case d15=>refine' L2.a0s ?a ?l ?c ?k;(case a=>k_is);(case l=>k_is);(case c=>k_is);(case k=>k_is))
  (case d16=>refine' L2.a0s ?a ?l ?c ?k;(case a=>k_is);(case l=>k_is);(case c=>k_is);(case k=>k_is))
  (case d17=>refine' L2.a0s ?a ?l ?c ?k;(case a=>k_is);(case l=>k_is);(case c=>k_is);(case k=>k_is))
  (case d18=>refine' L2.a0s ?a ?l ?c ?k;(case a=>k_is);(case l=>k_is);(case c=>k_is);(case k=>k_is))
  (case d20=>refine' L2.a0s ?a ?l ?c ?k;(case a=>k_is);(case l=>k_is);(case c=>k_is);(case k=>k_is))
  (case d25=>refine' L2.a0s ?a ?l ?c ?k;(case a=>k_is);(case l=>k_is);(case c=>k_is);(case k=>k_is))
  (case d26=>refine' L2.a0s ?a ?l ?c ?k;(case a=>k_is);(case l=>k_is);(case c=>k_is);(case k=>k_is))
  (case d27=>refine' L2.a0s ?a ?l ?c ?k;(case a=>k_is);(case l=>k_is);(case c=>k_is);(case k=>k_is))
  (case d28=>refine' L2.a0s ?a ?l ?c ?k;(case a=>k_is);(case l=>k_is);(case c=>k_is);(case k=>k_is))
  (case d29=>refine' L2.a0s ?a ?l ?c ?k;(case a=>k_is);(case l=>k_is);(case c=>k_is);(case k=>k_is))
  (case d30=>refine' L2.a0s ?a ?l ?c ?k;(case a=>k_is);(case l=>k_is);(case c=>k_is);(case k=>k_is))
  (case d31=>refine' L2.a0s ?a ?l ?c ?k;(case a=>k_is);(case l=>k_is);(case c=>k_is);(case k=>k_is))
  (case d32=>refine' L2.a0s ?a ?l ?c ?k;(case a=>k_is);(case l=>k_is);(case c=>k_is);(case k=>k_is))
  (case d33=>refine' L2.a0s ?a ?l ?c ?k;(case a=>k_is);(case l=>k_is);(case c=>k_is);(case k=>k_is))
  (case d34=>refine' L2.a0s ?a ?l ?c ?k;(case a=>k_is);(case l=>k_is);(case c=>k_is);(case k=>k_is))
  (case d35=>refine' L2.a0s ?a ?l ?c ?k;(case a=>k_is);(case l=>k_is);(case c=>k_is);(case k=>k_is))
  (case d36=>refine' L2.a0s ?a ?l ?c ?k;(case a=>k_is);(case l=>k_is);(case c=>k_is);(case k=>k_is))
  (case d37=>refine' L2.a0s ?a ?l ?c ?k;(case a=>k_is);(case l=>k_is);(case c=>k_is);(case k=>k_is))
  (case d43=>refine' L2.a0s ?a ?l ?c ?k;(case a=>k_is);(case l=>k_is);(case c=>k_is);(case k=>k_is))
  (case d44=>refine' L2.a0s ?a ?l ?c ?k;(case a=>k_is);(case l=>k_is);(case c=>k_is);(case k=>k_is))
  (case d45=>refine' L2.a0s ?a ?l ?c ?k;(case a=>k_is);(case l=>k_is);(case c=>k_is);(case k=>k_is))
  (case d46=>refine' L2.a0s ?a ?l ?c ?k;(case a=>k_is);(case l=>k_is);(case c=>k_is);(case k=>k_is))
  (case d47=>refine' L2.a0s ?a ?l ?c ?k;(case a=>k_is);(case l=>k_is);(case c=>k_is);(case k=>k_is))
  (case d48=>refine' L2.a0s ?a ?l ?c ?k;(case a=>k_is);(case l=>k_is);(case c=>k_is);(case k=>k_is))
  (case d49=>refine' L2.a0s ?a ?l ?c ?k;(case a=>k_is);(case l=>k_is);(case c=>k_is);(case k=>k_is))
  (case d50=>refine' L2.a0s ?a ?l ?c ?k;(case a=>k_is);(case l=>k_is);(case c=>k_is);(case k=>k_is))
  (case d54=>refine' L2.a0s ?a ?l ?c ?k;(case a=>k_is);(case l=>k_is);(case c=>k_is);(case k=>k_is))
  (case d55=>refine' L2.a0s ?a ?l ?c ?k;(case a=>k_is);(case l=>k_is);(case c=>k_is);(case k=>k_is))
  (case d56=>refine' L2.a0s ?a ?l ?c ?k;(case a=>k_is);(case l=>k_is);(case c=>k_is);(case k=>k_is))
  (case d57=>refine' L2.a0s ?a ?l ?c ?k;(case a=>k_is);(case l=>k_is);(case c=>k_is);(case k=>k_is))
  (case d58=>refine' L2.a0s ?a ?l ?c ?k;(case a=>k_is);(case l=>k_is);(case c=>k_is);(case k=>k_is))
  (case d59=>refine' L2.a0s ?a ?l ?c ?k;(case a=>k_is);(case l=>k_is);(case c=>k_is);(case k=>k_is))
  (case d60=>refine' L2.a0s ?a ?l ?c ?k;(case a=>k_is);(case l=>k_is);(case c=>k_is);(case k=>k_is))
  (case d61=>refine' L2.a0s ?a ?l ?c ?k;(case a=>k_is);(case l=>k_is);(case c=>k_is);(case k=>k_is))
  (case d66=>refine' L2.a0s ?a ?l ?c ?k;(case a=>k_is);(case l=>k_is);(case c=>k_is);(case k=>k_is))
  (case d67=>refine' L2.a0s ?a ?l ?c ?k;(case a=>k_is);(case l=>k_is);(case c=>k_is);(case k=>k_is))
  (case d68=>refine' L2.a0s ?a ?l ?c ?k;(case a=>k_is);(case l=>k_is);(case c=>k_is);(case k=>k_is))
  (case d69=>refine' L2.a0s ?a ?l ?c ?k;(case a=>k_is);(case l=>k_is);(case c=>k_is);(case k=>k_is))
  (case d70=>refine' L2.a0s ?a ?l ?c ?k;(case a=>k_is);(case l=>k_is);(case c=>k_is);(case k=>k_is))
  (case d71=>refine' L2.a0s ?a ?l ?c ?k;(case a=>k_is);(case l=>k_is);(case c=>k_is);(case k=>k_is))
  (case d72=>refine' L2.a0s ?a ?l ?c ?k;(case a=>k_is);(case l=>k_is);(case c=>k_is);(case k=>k_is))
  (case d73=>refine' L2.a0s ?a ?l ?c ?k;(case a=>k_is);(case l=>k_is);(case c=>k_is);(case k=>k_is))
  (case d74=>refine' L2.a0s ?a ?l ?c ?k;(case a=>k_is);(case l=>k_is);(case c=>k_is);(case k=>k_is))
  (case zb=>refine' My.BlK.mk ?b0 ?b1 ?b2 ?b3 ?b4 ?b5 ?b6 ?b7 ?b8 ?b9 ?b10 ?b11 ?b12 ?b13 ?b14 ?b15;(case b0=>k_is);(case b1=>k_is);(case b2=>k_is);(case b3=>k_is);(case b4=>k_is);(case b5=>k_is);(case b6=>k_is);(case b7=>k_is);(case b8=>k_is);(case b9=>k_is);(case b10=>k_is);(case b11=>k_is);(case b12=>k_is);(case b13=>k_is);(case b14=>k_is);(case b15=>k_is))
  (case zz=>k_is)
  (case zm=>k_is)
  (case zr=>k_is)
#print axioms PySem.Challenge.cw_halfmoved_k57_there_and_back_holds
