import PyProof.Rows.All
import Wide.All
import OpenK.AllK
import Wide.FinOn
import Lean
import PyProof.EqAt
import PyProof.EqKinds
import PyProof.TupleCall
import PyProof.StrBlock
import PyProof.StrBlockL
import PyProof.Rows.StrJoin2
import KE.KIntText
import PyProof.StrCalls6
import PyProof.StationsW
import PyProof.RulesTry
import PyProof.InstStoreFacts
import PyProof.ExcBaseAll.ValueError
import PyProof.ExcAttrAll.ValueError
import PyProof.NsDelKeeps
import KE.KTabLook
import PyProof.MeetsStr
import PyProof.ZipIter
import PyProof.TupleIter
import KE.KDictSum
import PyProof.EnumMake
import PyProof.EnumStmt
import KE.KSortTup
import PyProof.NeKinds
import PyProof.AttrMissSeq
import KE.KDictOf
import KE.KLam
import KE.KNestM
import KE.KSortKey
import PyProof.FactsAll.set_2
import PyProof.Rows.SetFrom
import PyProof.DictValues
import PyProof.FactsAll.dict_valueiterator_1
import PyProof.DictWalks
import PyProof.ListRange
import PySem.Challenge.RW_halfmoved_k08_rows_and_pieces
set_option Elab.async false
set_option linter.all false
set_option maxRecDepth 100000
set_option maxHeartbeats 4000000
namespace L2
theorem ln0 {α:Type} {l:List α} (h:l.length = 0):l = []:=List.eq_nil_of_length_eq_zero h
theorem ln1 {α:Type} {l:List α} (h:l.length = 1):∃ a,l = [a]:=List.length_eq_one_iff.mp h
theorem ln2 {α:Type} {l:List α} (h:l.length = 2):∃ a b,l = [a,b]:=by
 cases l with
 | nil=>cases h
 | cons a r=>obtain ⟨b,rfl⟩:=ln1 (Nat.succ.inj h);exact ⟨a,b,rfl⟩
theorem ln3 {α:Type} {l:List α} (h:l.length = 3):∃ a b c,l = [a,b,c]:=by
 cases l with
 | nil=>cases h
 | cons a r=>obtain ⟨b,c,rfl⟩:=ln2 (Nat.succ.inj h);exact ⟨a,b,c,rfl⟩
theorem ln4 {α:Type} {l:List α} (h:l.length = 4):∃ a b c d,l = [a,b,c,d]:=by
 cases l with
 | nil=>cases h
 | cons a r=>obtain ⟨b,c,d,rfl⟩:=ln3 (Nat.succ.inj h);exact ⟨a,b,c,d,rfl⟩
end L2
namespace L2
open PySem PySem.Spec PyProof.Rows
abbrev Key:=Sum Int Str
def keyIs:Key->Value->Bool
 | .inl k,v=>Value.isInt k v
 | .inr x,v=>Value.isStrOf x v
def keyH (w:World):Key->Int
 | .inl k=>hashInt k
 | .inr x=>hashStr w x
theorem keyIs_shape:∀ {k:Key} {v:Value},keyIs k v = true->(∃ i t,k = Sum.inl i/\v = Value.int i t)\/(∃ x t,k = Sum.inr x/\v = Value.str x t)
 | .inl i,v,h=>by
  obtain ⟨t,e⟩:=Value.isInt_shape (k:=i) (v:=v) h
  exact .inl ⟨i,t,rfl,e⟩
 | .inr x,v,h=>by
  obtain ⟨t,e⟩:=Value.isStrOf_shape (x:=x) (v:=v) h
  exact .inr ⟨x,t,rfl,e⟩
theorem keyIs_int (i:Int) (t:Tok):keyIs (.inl i) (.int i t) = true:=by simp [keyIs,Value.isInt]
theorem keyIs_str (x:Str) (t:Tok):keyIs (.inr x) (.str x t) = true:=by simp [keyIs,Value.isStrOf]
theorem key_ll (a b:Int):decide ((Sum.inl a:Key) = Sum.inl b) = (a == b):=by
 by_cases e:a = b
 ·subst e;simp
 ·have h:¬ (Sum.inl a:Key) = Sum.inl b:=fun q=>e (Sum.inl.inj q)
  rw [decide_eq_false h]
  exact (beq_eq_false_iff_ne.mpr e).symm
theorem key_rr (a b:Str):decide ((Sum.inr a:Key) = Sum.inr b) = decide (a = b):=by
 by_cases e:a = b
 ·subst e;simp
 ·have h:¬ (Sum.inr a:Key) = Sum.inr b:=fun q=>e (Sum.inr.inj q)
  rw [decide_eq_false h,decide_eq_false e]
theorem key_lr (a:Int) (b:Str):decide ((Sum.inl a:Key) = Sum.inr b) = false:=decide_eq_false (fun q=>nomatch q)
theorem key_rl (a:Str) (b:Int):decide ((Sum.inr a:Key) = Sum.inl b) = false:=decide_eq_false (fun q=>nomatch q)
def mixKind (prog:Program) (w:World):PySem.KeyKind prog w Key where
 is:=keyIs
 hash:=keyH w
 inj:=fun v a b ha hb=>by
  rcases keyIs_shape ha with ⟨i,t,rfl,rfl⟩ | ⟨x,t,rfl,rfl⟩
  ·rcases keyIs_shape hb with ⟨j,u,rfl,e⟩ | ⟨y,u,rfl,e⟩
   ·injection e with e1 _;rw [e1]
   ·exact nomatch e
  ·rcases keyIs_shape hb with ⟨j,u,rfl,e⟩ | ⟨y,u,rfl,e⟩
   ·exact nomatch e
   ·injection e with e1 _;rw [e1]
 byValue:=fun k v h=>by
  rcases keyIs_shape h with ⟨i,t,rfl,rfl⟩ | ⟨x,t,rfl,rfl⟩ <;> rfl
 pyHash:=fun hv h=>by
  rcases keyIs_shape hv with ⟨i,t,rfl,rfl⟩ | ⟨x,t,rfl,rfl⟩
  ·exact wpAny_pyHash_int h
  ·exact wpAny_pyHash_str h
 eqBool:=fun hu hv h=>by
  rcases keyIs_shape hu with ⟨i,t,rfl,rfl⟩ | ⟨x,t,rfl,rfl⟩
  ·rcases keyIs_shape hv with ⟨j,u,rfl,rfl⟩ | ⟨y,u,rfl,rfl⟩
   ·rw [key_ll] at h;exact wpAny_eqBool_int h
   ·rw [key_lr] at h;exact SeqAt.EqAt.int_str i t y u _ _ _ _ h
  ·rcases keyIs_shape hv with ⟨j,u,rfl,rfl⟩ | ⟨y,u,rfl,rfl⟩
   ·rw [key_rl] at h;exact SeqAt.EqAt.str_int x t j u _ _ _ _ h
   ·rw [key_rr] at h;exact wpAny_eqBool_str h
 «strs»:=fun k x t v h=>by
  rcases keyIs_shape h with ⟨i,u,rfl,e⟩ | ⟨y,u,rfl,e⟩
  ·exact nomatch e
  ·injection e with e1 _
   subst e1
   cases v <;> rfl
theorem mixKind_int (prog:Program) (w:World) (i:Int) (t:Tok):(mixKind prog w).is (.inl i) (.int i t) = true:=keyIs_int i t
theorem mixKind_str (prog:Program) (w:World) (x:Str) (t:Tok):(mixKind prog w).is (.inr x) (.str x t) = true:=keyIs_str x t
end L2
namespace L2
open PySem PySem.Spec PyProof.Rows
inductive V where
 | non | bl (b:Bool) | int (i:Int) | str (x:Str) | byt (b:Array UInt8) | flt (b:UInt64) | ref (a:Addr) | ty (n:String)
 deriving DecidableEq
def RelV:V->Value->Prop
 | .non,u=>u = Value.none
 | .bl b,u=>u = Value.bool b
 | .int i,u=>∃ t,u = Value.int i t
 | .str x,u=>∃ t,u = Value.str x t
 | .byt b,u=>∃ t,u = Value.bytes b t
 | .flt b,u=>∃ t,u = Value.float b t
 | .ref a,u=>u = Value.ref a
 | .ty n,u=>u = Value.type n
abbrev Vals:List V->List Value->Prop:=Paired RelV
theorem Vals.length {xs:List V} {us:List Value} (r:Vals xs us):xs.length = us.length:=Paired.length r
theorem Vals.get:∀ {xs:List V} {us:List Value} {i:Nat} {x:V},Vals xs us->xs[i]? = some x->∃ u,us[i]? = some u/\RelV x u
 | _,_,_,_,.nil,e=>by simp at e
 | _,_,0,_,.cons r _,e=>by simp at e;subst e;exact ⟨_,rfl,r⟩
 | _,_,i + 1,x,.cons _ t,e=>by
  obtain ⟨u,h1,h2⟩:=Vals.get (i:=i) (x:=x) t (by simpa using e)
  exact ⟨u,by simpa using h1,h2⟩
theorem Vals.append:∀ {xs ys:List V} {us ws:List Value},Vals xs us->Vals ys ws->Vals (xs ++ ys) (us ++ ws)
 | _,_,_,_,.nil,s=>s
 | _,_,_,_,.cons r t,s=>.cons r (Vals.append t s)
theorem Vals.take:∀ {xs:List V} {us:List Value} (n:Nat),Vals xs us->Vals (xs.take n) (us.take n)
 | _,_,0,_=>.nil
 | _,_,_ + 1,.nil=>.nil
 | _,_,n + 1,.cons r t=>.cons r (Vals.take n t)
theorem Vals.drop:∀ {xs:List V} {us:List Value} (n:Nat),Vals xs us->Vals (xs.drop n) (us.drop n)
 | _,_,0,r=>r
 | _,_,_ + 1,.nil=>.nil
 | _,_,n + 1,.cons _ t=>Vals.drop n t
def RelO:Option V->Option Value->Prop
 | some v,some u=>RelV v u
 | none,none=>True
 | _,_=>False
def KV {κ:Type}:List (κ × V)->List (κ × Value)->Prop:=Paired fun (p:κ × V) (q:κ × Value)=>p.1 = q.1/\RelV p.2 q.2
def kV:Key->V
 | .inl i=>.int i
 | .inr x=>.str x
inductive HO where
 | lst (xs:List V)
 | tup (xs:List V)
 | dK (kvs:List (Key × V)) | dT (kvs:List (List Key × V))
 | set (S:Int->Bool) (n:Nat)
 | ins (C dx:Addr) (fs:List (Str × V))
 | own (x:Addr)
 | xd (fs:List (Str × V))
 | met (f x:Addr)
 | rng (lo hi:Int)
 | frz (o:Obj) (u:HO)
 | tbl (ps:Array Value)
 | ext (φ:Heap->Prop)
abbrev Hp:=Addr->Option HO
def upd (H:Hp) (a:Addr) (o:HO):Hp:=fun b=>if b = a then some o else H b
theorem upd_same {H:Hp} {a:Addr} {o:HO}:upd H a o a = some o:=by unfold upd;rw [if_pos rfl]
theorem upd_ne {H:Hp} {a b:Addr} {o:HO} (h:b ≠ a):upd H a o b = H b:=by unfold upd;rw [if_neg h]
theorem upd_upd {H:Hp} {a:Addr} {o u:HO}:upd (upd H a o) a u = upd H a u:=by
 funext b;unfold upd;split <;> rfl
theorem ne_of {H:Hp} {a b:Addr} {o u:HO} (h:H a = some o) (h':H b = some u) (d:o ≠ u):a ≠ b:=by
 intro e;subst e;rw [h] at h';exact d (Option.some.inj h')
theorem ne_of_none {H:Hp} {a b:Addr} {o:HO} (h:H a = some o) (h':H b = none):a ≠ b:=by
 intro e;subst e;rw [h] at h';cases h'
section
variable (P:Program) (w:World)
def ObjOk (H:Hp) (h:Heap) (a:Addr):HO->Prop
 | .lst xs=>xs.length ≤ sizeLine/\∃ (its:List Value) (n:Nat),Vals xs its/\h.get? a = some { cls:=.type "list",data:=.seq its.toArray n }
 | .tup xs=>xs.length ≤ sizeLine/\∃ its:List Value,Vals xs its/\IsTup h a its.toArray
 | .dK kvs=>kvs.length ≤ sizeLine/\(a == sysModules) = false/\∃ vs,KV kvs vs/\h.DictOf (mixKind P w) a vs
 | .dT kvs=>kvs.length ≤ sizeLine/\(a == sysModules) = false/\∃ xs:List (List Key × Addr × Value),
   Paired (fun (p:List Key × V) (q:List Key × Addr × Value)=>p.1 = q.1/\H q.2.1 = some (.tup (p.1.map kV))/\RelV p.2 q.2.2) kvs xs ∧
   ∃ o es ep,h.get? a = some o/\o.ExactDict/\o.data = .dict es ep/\es.toList = xs.map (entryOfKey (tupleKind (mixKind P w)))/\(xs.map (·.1)).Nodup
 | .set S n=>h.SetOf (intKind P w) a S n
 | .ins C dx fs=>H dx = some (.own a)/\fs.length ≤ 1000/\dx ≠ a/\h.get? a = some (PySem.W.instObj C dx) ∧
   ∃ mA,h.Ns1 dx mA/\(∀ f,RelO (fs.lookup f) (mA f))/\PySem.Within mA (fs.map (·.1))
 | .own _=>∃ o,h.get? a = some o
 | .xd fs=>∃ mA,h.Ns1 a mA/\∀ f,RelO (fs.lookup f) (mA f)
 | .rng lo hi=>∃ t u v,h.get? a = some { cls:=.type "range",data:=.fields #[.int lo t,.int hi u,.int 1 v] }
 | .frz o u=>h.get? a = some o/\ObjOk H h a u
 | .tbl ps=>h.get? a = some { cls:=.none,data:=.fields ps }
 | .met f x=>h.get? a = some (PySem.W.methodObj (.ref f) (.ref x))
 | .ext φ=>φ h/\(∃ o,h.get? a = some o)/\∀ h1 h2:Heap,φ h1->(∀ o,h1.get? a = some o->h2.get? a = some o)->φ h2
def HOk (H:Hp) (h:Heap):Prop:=∀ a o,H a = some o->ObjOk P w H h a o
end
section
variable {P:Program} {w:World} {H H':Hp} {h h':Heap} {a:Addr} {o:HO}
theorem ObjOk.lt (x:ObjOk P w H h a o):a < h.objs.size:=by
 cases o with
 | lst xs=>obtain ⟨_,_,_,_,e⟩:=x;exact Heap.lt_size e
 | tup xs=>obtain ⟨_,_,_,p⟩:=x;exact p.lt
 | dK kvs=>obtain ⟨_,_,_,_,o,_,_,e,_⟩:=x;exact Heap.lt_size e
 | dT kvs=>obtain ⟨_,_,_,_,o,_,_,e,_⟩:=x;exact Heap.lt_size e
 | set S n=>obtain ⟨o,_,_,_,e,_⟩:=x;exact Heap.lt_size e
 | ins C dx fs=>obtain ⟨_,_,_,e,_⟩:=x;exact Heap.lt_size e
 | own y=>obtain ⟨_,e⟩:=x;exact Heap.lt_size e
 | xd fs=>obtain ⟨_,⟨_,_,_,e,_⟩,_⟩:=x;exact Heap.lt_size e
 | rng lo hi=>obtain ⟨_,_,_,e⟩:=x;exact Heap.lt_size e
 | frz ob u=>obtain ⟨e,_⟩:=x;exact Heap.lt_size e
 | tbl ps=>exact Heap.lt_size (show h.get? a = some _ from x)
 | met f y=>exact Heap.lt_size (show h.get? a = some _ from x)
 | ext φ=>obtain ⟨_,⟨_,e⟩,_⟩:=x;exact Heap.lt_size e
theorem Paired.mapP {α β:Type} {F G:α->β->Prop}:∀ {l₁:List α} {l₂:List β},Paired F l₁ l₂->(∀ a b,F a b->G a b)->Paired G l₁ l₂
 | _,_,.nil,_=>.nil
 | _,_,.cons r t,f=>.cons (f _ _ r) (Paired.mapP t f)
theorem ObjOk.stay (x:ObjOk P w H h a o) (k:∀ b u,(b = a\/H b = some (.own a))->h.get? b = some u->h'.get? b = some u)
  (ho:∀ b,H b = some (.own a)->H' b = some (.own a)) (ht:∀ b xs,H b = some (.tup xs)->H' b = some (.tup xs)):ObjOk P w H' h' a o:=by
 induction o with
 | lst xs=>obtain ⟨z,its,n,r,e⟩:=x;exact ⟨z,its,n,r,k _ _ (.inl rfl) e⟩
 | tup xs=>obtain ⟨z,its,r,ob,e,c⟩:=x;exact ⟨z,its,r,ob,k _ _ (.inl rfl) e,c⟩
 | dK kvs=>obtain ⟨z,y,vs,r,ob,es,ep,e,c⟩:=x;exact ⟨z,y,vs,r,ob,es,ep,k _ _ (.inl rfl) e,c⟩
 | dT kvs=>
  obtain ⟨z,y,xs,r,ob,es,ep,e,c⟩:=x
  exact ⟨z,y,xs,Paired.mapP r fun p q z=>⟨z.1,ht _ _ z.2.1,z.2.2⟩,ob,es,ep,k _ _ (.inl rfl) e,c⟩
 | set S n=>obtain ⟨ob,es,ep,t,e,c⟩:=x;exact ⟨ob,es,ep,t,k _ _ (.inl rfl) e,c⟩
 | ins C dx fs=>
  obtain ⟨d,z,ne,e,mA,⟨od,es,ep,e2,c⟩,r⟩:=x
  exact ⟨ho _ d,z,ne,k _ _ (.inl rfl) e,mA,⟨od,es,ep,k _ _ (.inr d) e2,c⟩,r⟩
 | own y=>obtain ⟨ob,e⟩:=x;exact ⟨ob,k _ _ (.inl rfl) e⟩
 | xd fs=>obtain ⟨mA,⟨od,es,ep,e,c⟩,r⟩:=x;exact ⟨mA,⟨od,es,ep,k _ _ (.inl rfl) e,c⟩,r⟩
 | rng lo hi=>obtain ⟨t,u,v,e⟩:=x;exact ⟨t,u,v,k _ _ (.inl rfl) e⟩
 | frz ob u ih=>obtain ⟨e,q⟩:=x;exact ⟨k _ _ (.inl rfl) e,ih q⟩
 | tbl ps=>
  have e:h.get? a = some { cls:=.none,data:=.fields ps }:=x
  show h'.get? a = some { cls:=.none,data:=.fields ps }
  exact k a _ (.inl rfl) e
 | met f y=>
  have e:h.get? a = some (PySem.W.methodObj (.ref f) (.ref y)):=x
  show h'.get? a = some (PySem.W.methodObj (.ref f) (.ref y))
  exact k a _ (.inl rfl) e
 | ext φ=>obtain ⟨p,⟨o,e⟩,st⟩:=x;exact ⟨st _ _ p fun o q=>k _ _ (.inl rfl) q,⟨o,k _ _ (.inl rfl) e⟩,st⟩
theorem HOk.lt (x:HOk P w H h) (e:H a = some o):a < h.objs.size:=(x a o e).lt
theorem HOk.fresh (x:HOk P w H h) (e:h.objs.size ≤ a):H a = none:=by
 cases q:H a with
 | none=>rfl
 | some u=>exact absurd (Nat.lt_of_lt_of_le (x.lt q) e) (Nat.lt_irrefl _)
theorem HOk.kept (x:HOk P w H h) (k:∀ b u,h.get? b = some u->h'.get? b = some u):HOk P w H h':=fun a o e=>
 (x a o e).stay (fun b u _ q=>k b u q) (fun _ q=>q) fun _ _ q=>q
theorem HOk.laid (x:HOk P w H h) (k:∀ b u,h.get? b = some u->h'.get? b = some u) (hp:h.objs.size ≤ a) (new:ObjOk P w (upd H a o) h' a o):HOk P w (upd H a o) h':=fun b u e=>by
 have hn:=x.fresh hp
 by_cases hb:b = a
 ·subst hb;rw [upd_same] at e;cases e;exact new
 ·rw [upd_ne hb] at e
  exact (x b u e).stay (fun c v _ q=>k c v q) (fun c q=>by rw [upd_ne (ne_of_none q hn)];exact q) fun c xs q=>by rw [upd_ne (ne_of_none q hn)];exact q
end
def Rd (H:Hp) (a:Addr) (u:HO):Prop:=H a = some u\/∃ o,H a = some (.frz o u)
theorem Rd.ok {P:Program} {w:World} {H:Hp} {h:Heap} {a:Addr} {u:HO} (r:Rd H a u) (x:HOk P w H h):ObjOk P w H h a u:=by
 rcases r with r | ⟨o,r⟩
 ·exact x a u r
 ·obtain ⟨_,q⟩:=x a _ r
  exact q
def Mut:Option HO->Prop
 | some (.lst _)=>True
 | some (.dK _)=>True
 | some (.dT _)=>True
 | some (.set _ _)=>True
 | some (.ins _ _ _)=>True
 | some (.ext _)=>True
 | _=>False
section
variable {P:Program} {w:World} {H:Hp} {h h':Heap} {x e:Addr} {o':HO}
theorem HOk.write (ok:HOk P w H h) (mu:Mut (H x)) (he:e = x\/H e = some (.own x)) (k:∀ b u,b ≠ e->h.get? b = some u->h'.get? b = some u) (heo:∃ u,h'.get? e = some u)
  (new:ObjOk P w (upd H x o') h' x o'):HOk P w (upd H x o') h':=fun b u q=>by
 have nown:∀ c y,H c = some (.own y)->c ≠ x:=fun c y r z=>by subst z;rw [r] at mu;exact mu
 have ntup:∀ c xs,H c = some (.tup xs)->c ≠ x:=fun c xs r z=>by subst z;rw [r] at mu;exact mu
 by_cases hb:b = x
 ·subst hb;rw [upd_same] at q;cases q;exact new
 ·rw [upd_ne hb] at q
  by_cases hbe:b = e
  ·have q':H b = some (.own x):=by
    rcases he with z | z
    ·exact absurd (hbe.trans z) hb
    ·rw [hbe];exact z
   rw [q] at q';cases q'
   obtain ⟨v,hv⟩:=heo
   exact ⟨v,by rw [hbe];exact hv⟩
  ·refine (ok b u q).stay (fun c v hc r=>k c v ?_ r) (fun c r=>by rw [upd_ne (nown c b r)];exact r) fun c xs r=>by rw [upd_ne (ntup c xs r)];exact r
   rcases hc with rfl | hc
   ·exact hbe
   ·rintro rfl
    rcases he with z | z
    ·exact nown c b hc z
    ·rw [hc] at z;cases z;exact hb rfl
end
structure Un (fs ex:List Addr) (H H':Hp) (h h':Heap):Prop where
 keep:∀ b o,h.get? b = some o->H b = none->b ∉ fs->b ∉ ex->h'.get? b = some o
 slot:∀ b o,h.get? b = some o->H b = none->b ∈ fs->b ∉ ex->∃ sl,h'.get? b = some { o with slots:=sl }
 free:∀ b o,h.get? b = some o->H b = none->b ∉ ex->H' b = none
 there:∀ b o,h.get? b = some o->b ∉ ex->∃ o',h'.get? b = some o'
 tups:∀ b xs,H b = some (.tup xs)->H' b = some (.tup xs)
 frzs:∀ b o u,H b = some (.frz o u)->H' b = some (.frz o u)
 tbls:∀ b ps,H b = some (.tbl ps)->∃ more,H' b = some (.tbl (ps ++ more))
section
variable {fs fs' ex ex':List Addr} {H H1 H2:Hp} {h h1 h2 h':Heap} {a x e:Addr} {o:HO}
theorem Un.any (u:Un fs ex H H1 h h1) {b:Addr} {ob:Obj} (q:h.get? b = some ob) (n:H b = none) (hx:b ∉ ex):∃ sl,h1.get? b = some { ob with slots:=sl }:=by
 by_cases hb:b ∈ fs
 ·exact u.slot b ob q n hb hx
 ·exact ⟨ob.slots,u.keep b ob q n hb hx⟩
theorem Un.kept (k:∀ b u,h.get? b = some u->h'.get? b = some u):Un fs ex H H h h':=
 ⟨fun b ob q _ _ _=>k b ob q,fun b ob q _ _ _=>⟨ob.slots,k b ob q⟩,fun _ _ _ n _=>n,fun b ob q _=>⟨ob,k b ob q⟩,fun _ _ q=>q,fun _ _ _ q=>q,fun _ ps q=>⟨#[],by rw [q];simp⟩⟩
theorem Un.refl:Un fs ex H H h h:=Un.kept fun _ _ q=>q
theorem Un.laid (k:∀ b u,h.get? b = some u->h'.get? b = some u) (hp:h.objs.size ≤ a) (hn:H a = none):Un fs ex H (upd H a o) h h' where
 keep:=fun b u q _ _ _=>k b u q
 slot:=fun b u q _ _ _=>⟨u.slots,k b u q⟩
 free:=fun b u q n _=>by rw [upd_ne (Nat.ne_of_lt (Nat.lt_of_lt_of_le (Heap.lt_size q) hp))];exact n
 there:=fun b u q _=>⟨u,k b u q⟩
 tups:=fun b xs q=>by rw [upd_ne (ne_of_none q hn)];exact q
 frzs:=fun b u xs q=>by rw [upd_ne (ne_of_none q hn)];exact q
 tbls:=fun b ps q=>⟨#[],by rw [upd_ne (ne_of_none q hn),q];simp⟩
theorem Un.write (mu:Mut (H x)) (he:e = x\/H e = some (.own x)) (k:∀ b u,b ≠ e->h.get? b = some u->h'.get? b = some u) (heo:∃ u,h'.get? e = some u):Un fs ex H (upd H x o) h h':=by
 have hx:∀ b,H b = none->b ≠ x:=fun b n z=>by subst z;rw [n] at mu;exact mu
 have hb:∀ b,H b = none->b ≠ e:=fun b n z=>by
  subst z
  rcases he with r | r
  ·exact hx b n r
  ·rw [n] at r;cases r
 have hm:∀ b u,H b = some u->¬ Mut (some u)->b ≠ x:=fun b u q nm z=>by subst z;rw [q] at mu;exact nm mu
 refine ⟨fun b u q n _ _=>k b u (hb b n) q,fun b u q n _ _=>⟨u.slots,k b u (hb b n) q⟩,fun b u q n _=>by rw [upd_ne (hx b n)];exact n,fun b u q _=>?_,
  fun b xs q=>by rw [upd_ne (hm b _ q fun z=>z)];exact q,fun b u xs q=>by rw [upd_ne (hm b _ q fun z=>z)];exact q,fun b ps q=>⟨#[],by rw [upd_ne (hm b _ q fun z=>z),q];simp⟩⟩
 by_cases hbe:b = e
 ·subst hbe;exact heo
 ·exact ⟨u,k b u hbe q⟩
end
def trk (h:Heap) (H:Hp):List Addr:=(List.range h.objs.size).filter fun a=>(H a).isSome
def hidT (h:Heap) (H:Hp):Heap:=PySem.W.hideAll h (trk h H)
theorem hidT_size (h:Heap) (H:Hp):(hidT h H).objs.size = h.objs.size:=PySem.W.hideAll_size _ _
theorem hidT_get {h:Heap} {H:Hp} {b:Addr} {o:Obj} (e:h.get? b = some o) (n:H b = none):(hidT h H).get? b = some o:=
 PySem.W.hideAll_get _ e fun hm=>by
  have q:(H b).isSome = true:=(List.mem_filter.mp hm).2
  rw [n] at q;simp at q
theorem of_hidT {h:Heap} {H:Hp} {b:Addr} {o:Obj} (e:(hidT h H).get? b = some o):h.get? b = some o/\H b = none:=by
 have e':h.get? b = some o:=PySem.W.of_hideAll (trk h H) e
 refine ⟨e',?_⟩
 cases q:H b with
 | none=>rfl
 | some x=>
  have hm:b ∈ trk h H:=List.mem_filter.mpr ⟨List.mem_range.mpr (Heap.lt_size e'),by simp [q]⟩
  have z:(hidT h H).get? b = none:=PySem.W.hideAll_none (trk h H) hm
  rw [z] at e;cases e
end L2
namespace L2
open PySem PySem.Spec PyProof.Rows
structure Mod (K:PySem.W.Frag) (mg:Str->Option Value) (base:Heap):Prop where
 kin:K.In base
 glob:base.Ns mainGlobals mg
 blt:∃ mb,base.Ns builtinsNs mb/\∀ x:Str,x ≠ "__name__"->mb x = bootBuiltins x
 nolimit:base.NoLimit
structure Cx where
 prog:Program
 w:World
 K:PySem.W.Frag
 mg:Str->Option Value
 base:Heap
 A:Around
 N:List Str
 s₀:Shared
 H₀:Hp
 env:Env
 outer:List Env
 stack:List Env
 ex:List Addr
 fn:Str->Bool
 calm:Bool
 pn:List (Addr × Obj)
 xe:Value->Shared->Prop
def frs (l:List Env):List Addr:=l.filterMap (·.frame)
abbrev Cx.fs (X:Cx):List Addr:=frs X.outer
def Vis (sc:Scope) (x:Str):Prop:=sc.names.lookup x = some .local\/sc.names.lookup x = some .cell\/sc.names.lookup x = some .free
def Loc (sc:Scope) (x:Str):Prop:=sc.names.lookup x = some .local\/sc.names.lookup x = some .cell
def Look (env:Env) (h:Heap) (m:Str->Option Value) (x:Str) (u:Value):Prop:=
 (env.kindOf x = some .local/\m x = some u)\/((env.kindOf x = some .cell\/env.kindOf x = some .free)/\∃ c,env.cells.lookup x = some c/\h.IsCell c (some u))
structure Cx.Ok (X:Cx):Prop where
 mod:Mod X.K X.mg X.base
 kind:X.env.scope.kind = .function
 glob:X.env.globals = mainGlobals
 blt:X.env.builtins = builtinsNs
 above:X.s₀.heap.objs.size ≤ X.env.locals
 inj:∀ x y c,X.env.cells.lookup x = some c->X.env.cells.lookup y = some c->x = y
 has:∀ x,(X.env.kindOf x = some .cell\/X.env.kindOf x = some .free)->∃ c,X.env.cells.lookup x = some c
 cab:∀ x c,X.fn x = true->X.env.cells.lookup x = some c->X.s₀.heap.objs.size ≤ c
 hd:X.calm = true->X.A.handled = none
 frames:X.A.frames = some X.stack
 stk:X.stack = X.outer\/(X.stack = X.env :: X.outer/\X.env.frame = some X.env.locals)
 exf:∀ b ∈ X.ex,b ≠ X.env.locals/\∀ x c,X.env.cells.lookup x = some c->c ≠ b
 bs:∀ b o,X.base.get? b = some o->X.s₀.heap.get? b = some o/\X.H₀ b = none
 bsz:X.base.objs.size ≤ X.s₀.heap.objs.size
 noex:∀ b o,X.base.get? b = some o->b ∉ X.ex
 exfs:∀ b ∈ X.ex,b ∉ X.fs
 funs:X.s₀.heap.FunFrames X.base X.outer
 frf:∀ b ∈ X.fs,X.H₀ b = none
structure Inv (X:Cx) (pins:List (Addr × Obj)) (σ:List (Option V)) (H:Hp) (s:Shared):Prop where
 ok:X.Ok
 os:s.os = X.s₀.os
 bare:AllBare s.gens
 base:Un X.fs X.ex X.H₀ H X.s₀.heap s.heap
 loc:∃ m,s.heap.Ns X.env.locals m/\∀ (i:Nat) (x:Str) (v:V),X.N[i]? = some x->σ[i]? = some (some v)->Vis X.env.scope x->∃ u,RelV v u/\Look X.env s.heap m x u
 cell:∀ x c,X.env.cells.lookup x = some c->∃ v,s.heap.IsCell c v
 free:H X.env.locals = none
 freeC:∀ x c,X.env.cells.lookup x = some c->H c = none
 pin:∀ p ∈ X.pn ++ pins,s.heap.get? p.1 = some p.2/\H p.1 = none/\p.1 ≠ X.env.locals/\p.1 ∉ X.fs/\∀ v,p.2.data ≠ .cell v
 hok:HOk X.prog X.w H s.heap
 len:σ.length = X.N.length
section
variable {X:Cx} {pins:List (Addr × Obj)} {σ:List (Option V)} {H H':Hp} {s:Shared} {h':Heap}
theorem Cx.Ok.nofr (ok:X.Ok) {b:Addr} {o:Obj} (e:X.base.get? b = some o):b ∉ X.fs:=fun hb=>by
 have:=(ok.funs.mem hb).1
 rw [e] at this;cases this
theorem Inv.bs (I:Inv X pins σ H s):∀ b o,X.base.get? b = some o->s.heap.get? b = some o/\H b = none:=fun b o e=>
 ⟨I.base.keep b o (I.ok.bs b o e).1 (I.ok.bs b o e).2 (I.ok.nofr e) (I.ok.noex b o e),I.base.free b o (I.ok.bs b o e).1 (I.ok.bs b o e).2 (I.ok.noex b o e)⟩
theorem Inv.bk (I:Inv X pins σ H s):∀ b o,X.base.get? b = some o->s.heap.get? b = some o:=fun b o e=>(I.bs b o e).1
theorem Inv.mod (I:Inv X pins σ H s):Mod X.K X.mg X.base:=I.ok.mod
theorem Inv.kIn (I:Inv X pins σ H s):X.K.In s.heap:=I.ok.mod.kin.keeps I.bk
theorem Inv.lt (I:Inv X pins σ H s):X.env.locals < s.heap.objs.size:=let ⟨_,hn,_⟩:=I.loc;hn.lt
theorem Inv.sz (I:Inv X pins σ H s):X.s₀.heap.objs.size ≤ s.heap.objs.size:=Nat.le_trans I.ok.above (Nat.le_of_lt I.lt)
theorem Inv.nofs (I:Inv X pins σ H s) {a:Addr} (h:s.heap.objs.size ≤ a):a ∉ X.fs:=fun hb=>by
 obtain ⟨_,o,ho,_⟩:=I.ok.funs.mem hb
 exact absurd (Nat.lt_of_lt_of_le (Heap.lt_size ho) (Nat.le_trans I.sz h)) (Nat.lt_irrefl _)
theorem Inv.cne (I:Inv X pins σ H s):∀ x c,X.env.cells.lookup x = some c->c ≠ X.env.locals:=fun x c e z=>by
 obtain ⟨v,o,ho,hd⟩:=I.cell x c e
 obtain ⟨m,⟨o',es,ep,ho',hd',_⟩,_⟩:=I.loc
 rw [z,ho'] at ho;cases ho;rw [hd'] at hd;cases hd
theorem Inv.funs (I:Inv X pins σ H s):s.heap.FunFrames X.base X.outer:=by
 have all:∀ (l:List Env),(∀ b ∈ frs l,b ∈ X.fs)->X.s₀.heap.FunFrames X.base l->s.heap.FunFrames X.base l:=by
  intro l
  induction l with
  | nil=>intro _ _;trivial
  | cons env r ih=>
   intro hs hl
   obtain ⟨hk,⟨L,o,hf,hn,ho,hd⟩,hr⟩:=hl
   have hL:L ∈ X.fs:=hs L (by unfold frs;rw [List.filterMap_cons,hf];exact List.mem_cons_self)
   obtain ⟨sl,e⟩:=I.base.slot L o ho (I.ok.frf L hL) hL fun z=>I.ok.exfs L z hL
   exact ⟨hk,⟨L,_,hf,hn,e,hd⟩,ih (fun b hb=>hs b (by unfold frs;rw [List.filterMap_cons,hf];exact List.mem_cons_of_mem _ hb)) hr⟩
 exact all X.outer (fun _ hb=>hb) I.ok.funs
theorem Inv.stack (I:Inv X pins σ H s):s.heap.FunFrames X.base X.stack:=by
 rcases I.ok.stk with e | ⟨e,hf⟩
 ·rw [e];exact I.funs
 ·rw [e]
  obtain ⟨m,hn,_⟩:=I.loc
  refine .cons (by rw [I.ok.kind];decide) hf hn ?_ I.funs
  exact Heap.get?_none_of_le (Nat.le_trans I.ok.bsz I.ok.above)
theorem Inv.stkSub (I:Inv X pins σ H s):∀ b ∈ frs X.stack,b ∈ X.env.locals :: X.fs:=fun b hb=>by
 rcases I.ok.stk with e | ⟨e,hf⟩
 ·rw [e] at hb;exact List.mem_cons_of_mem _ hb
 ·rw [e] at hb
  unfold frs at hb
  rw [List.filterMap_cons,hf] at hb
  exact hb
theorem Inv.stkFree (I:Inv X pins σ H s):∀ b ∈ frs X.stack,H b = none:=fun b hb=>by
 rcases List.mem_cons.mp (I.stkSub b hb) with e | hb
 ·rw [e];exact I.free
 ·obtain ⟨_,o,ho,_⟩:=I.ok.funs.mem hb
  exact I.base.free b o ho (I.ok.frf b hb) fun z=>I.ok.exfs b z hb
theorem Inv.step {g':Array GenState} {t':Nat} {d':Drawn} {ch:List Addr} (I:Inv X pins σ H s)
  (hch:∀ b ∈ ch,(b ∈ X.ex\/X.s₀.heap.objs.size ≤ b)/\b ≠ X.env.locals/\(∀ x c,X.env.cells.lookup x = some c->c ≠ b)/\∀ p ∈ X.pn ++ pins,p.1 ≠ b)
  (keep:∀ b o,b ≠ X.env.locals->b ∉ X.fs->b ∉ ch->s.heap.get? b = some o->H b = none->h'.get? b = some o)
  (slot:∀ b o,b ≠ X.env.locals->b ∈ X.fs->b ∉ ch->s.heap.get? b = some o->H b = none->∃ sl,h'.get? b = some { o with slots:=sl }) (free:∀ b o,b ∉ ch->s.heap.get? b = some o->H b = none->H' b = none)
  (there:∀ b o,b ∉ ch->s.heap.get? b = some o->∃ o',h'.get? b = some o')
  (tups:∀ b xs,H b = some (.tup xs)->H' b = some (.tup xs)) (frzs:∀ b o u,H b = some (.frz o u)->H' b = some (.frz o u)) (tbls:∀ b ps,H b = some (.tbl ps)->∃ more,H' b = some (.tbl (ps ++ more)))
  (ns:∀ m,s.heap.Ns X.env.locals m->h'.Ns X.env.locals m) (hok:HOk X.prog X.w H' h') (hg:AllBare g') :
  Inv X pins σ H' { s with heap:=h',gens:=g',drawn:=d',toks:=t' }:=by
 have neL:∀ b o,X.s₀.heap.get? b = some o->b ≠ X.env.locals:=fun b o e=>Nat.ne_of_lt (Nat.lt_of_lt_of_le (Heap.lt_size e) I.ok.above)
 have neC:∀ b o,X.s₀.heap.get? b = some o->b ∉ X.ex->b ∉ ch:=fun b o e hx hb=>by
  rcases (hch b hb).1 with z | z
  ·exact hx z
  ·exact absurd (Nat.lt_of_lt_of_le (Heap.lt_size e) z) (Nat.lt_irrefl _)
 have cellK:∀ x c,X.env.cells.lookup x = some c->∀ v,s.heap.IsCell c v->h'.IsCell c v:=fun x c e v ⟨o,ho,hd⟩=>by
  have nch:c ∉ ch:=fun z=>(hch c z).2.2.1 x c e rfl
  by_cases hc:c ∈ X.fs
  ·obtain ⟨sl,q⟩:=slot c o (I.cne x c e) hc nch ho (I.freeC x c e)
   exact ⟨_,q,hd⟩
  ·exact ⟨o,keep c o (I.cne x c e) hc nch ho (I.freeC x c e),hd⟩
 refine ⟨I.ok,I.os,hg,⟨fun b o e n hb hx=>?_,fun b o e n hb hx=>?_,fun b o e n hx=>?_,fun b o e hx=>?_,fun b xs e=>tups b xs (I.base.tups b xs e),fun b o xs e=>frzs b o xs (I.base.frzs b o xs e),fun b ps e=>?_⟩,?_,fun x c e=>?_,?_,fun x c e=>?_,fun p hp=>?_,hok,I.len⟩
 ·exact keep b o (neL b o e) hb (neC b o e hx) (I.base.keep b o e n hb hx) (I.base.free b o e n hx)
 ·obtain ⟨sl,e1⟩:=I.base.slot b o e n hb hx
  obtain ⟨sl',e2⟩:=slot b _ (neL b o e) hb (neC b o e hx) e1 (I.base.free b o e n hx)
  exact ⟨sl',e2⟩
 ·obtain ⟨o',e1⟩:=I.base.there b o e hx
  exact free b o' (neC b o e hx) e1 (I.base.free b o e n hx)
 ·obtain ⟨o',e1⟩:=I.base.there b o e hx
  exact there b o' (neC b o e hx) e1
 ·obtain ⟨m1,e1⟩:=I.base.tbls b ps e
  obtain ⟨m2,e2⟩:=tbls b _ e1
  exact ⟨m1 ++ m2,by rw [e2,Array.append_assoc]⟩
 ·obtain ⟨m,hn,hl⟩:=I.loc
  refine ⟨m,ns m hn,fun i x v e1 e2 e3=>?_⟩
  obtain ⟨u,r,l⟩:=hl i x v e1 e2 e3
  refine ⟨u,r,?_⟩
  rcases l with l | ⟨k,c,e,z⟩
  ·exact .inl l
  ·exact .inr ⟨k,c,e,cellK x c e _ z⟩
 ·obtain ⟨v,z⟩:=I.cell x c e
  exact ⟨v,cellK x c e v z⟩
 ·obtain ⟨m,⟨o,_,_,ho,_⟩,_⟩:=I.loc
  exact free _ o (fun z=>(hch _ z).2.1 rfl) ho I.free
 ·obtain ⟨v,o,ho,hd⟩:=I.cell x c e
  exact free c o (fun z=>(hch c z).2.2.1 x c e rfl) ho (I.freeC x c e)
 ·obtain ⟨e,n,ne,nf,d⟩:=I.pin p hp
  have nch:p.1 ∉ ch:=fun z=>(hch p.1 z).2.2.2 p hp rfl
  exact ⟨keep p.1 p.2 ne nf nch e n,free p.1 p.2 nch e n,ne,nf,d⟩
theorem Inv.un {t':Nat} (I:Inv X pins σ H s) (u:Un X.fs [] H H' s.heap h') (hok:HOk X.prog X.w H' h'):Inv X pins σ H' { s with heap:=h',toks:=t' }:=by
 obtain ⟨m,⟨o,es,ep,ho,r⟩,_⟩:=id I.loc
 obtain ⟨sl,hL⟩:=u.any ho I.free (by simp)
 exact I.step (g':=s.gens) (d':=s.drawn) (ch:=[]) (fun _ z=>nomatch z) (fun b o _ hb _ e n=>u.keep b o e n hb (by simp)) (fun b o _ hb _ e n=>u.slot b o e n hb (by simp)) (fun b o _ e n=>u.free b o e n (by simp)) (fun b o _ e=>u.there b o e (by simp)) u.tups u.frzs u.tbls (fun m' hm=>by
  obtain ⟨o',es',ep',ho',r'⟩:=hm
  rw [ho] at ho';cases ho'
  exact ⟨_,es',ep',hL,r'⟩) hok I.bare
theorem Inv.call {g':Array GenState} {t':Nat} {d':Drawn} {ch:List Addr} (I:Inv X pins σ H s) (u:Un (frs X.stack) ch H H' s.heap h') (hok:HOk X.prog X.w H' h') (hg:AllBare g')
  (hch:∀ b ∈ ch,(b ∈ X.ex\/X.s₀.heap.objs.size ≤ b)/\b ≠ X.env.locals/\(∀ x c,X.env.cells.lookup x = some c->c ≠ b)/\∀ p ∈ X.pn ++ pins,p.1 ≠ b) :
  Inv X pins σ H' { s with heap:=h',gens:=g',drawn:=d',toks:=t' }:=by
 obtain ⟨m,⟨o,es,ep,ho,r⟩,_⟩:=id I.loc
 obtain ⟨sl,hL⟩:=u.any ho I.free fun z=>(hch _ z).2.1 rfl
 exact I.step (ch:=ch) hch (fun b o hL hb hc e n=>u.keep b o e n (fun z=>(List.mem_cons.mp (I.stkSub b z)).elim hL hb) hc) (fun b o _ _ hc e n=>u.any e n hc) (fun b o hc e n=>u.free b o e n hc) (fun b o hc e=>u.there b o e hc) u.tups u.frzs u.tbls (fun m' hm=>by
  obtain ⟨o',es',ep',ho',r'⟩:=hm
  rw [ho] at ho';cases ho'
  exact ⟨_,es',ep',hL,r'⟩) hok hg
theorem Inv.turned {t':Nat} {it:Addr} (I:Inv X pins σ H s) (k:∀ b o,b ≠ it->s.heap.get? b = some o->h'.get? b = some o) (hn:H it = none) (hL:it ≠ X.env.locals)
  (h1:it ∈ X.ex\/X.s₀.heap.objs.size ≤ it) (h2:∀ x c,X.env.cells.lookup x = some c->c ≠ it) (h3:∀ p ∈ X.pn ++ pins,p.1 ≠ it):Inv X pins σ H { s with heap:=h',toks:=t' }:=by
 have nit:∀ b u,H b = some u->b ≠ it:=fun b u e z=>by rw [z,hn] at e;cases e
 refine I.step (g':=s.gens) (d':=s.drawn) (ch:=[it]) (fun b hb=>?_) (fun b o _ _ hc e _=>k b o (fun z=>hc (by simp [z])) e) (fun b o _ _ hc e _=>⟨o.slots,k b o (fun z=>hc (by simp [z])) e⟩) (fun _ _ _ _ n=>n)
  (fun b o hc e=>⟨o,k b o (fun z=>hc (by simp [z])) e⟩) (fun _ _ e=>e) (fun _ _ _ e=>e) (fun b ps e=>⟨#[],by rw [e];simp⟩) (fun m hm=>?_) (fun b u e=>?_) I.bare
 ·have e:b = it:=by simpa using hb
  subst e
  exact ⟨h1,hL,h2,h3⟩
 ·obtain ⟨o,es,ep,ho,r⟩:=hm
  exact ⟨o,es,ep,k _ o (Ne.symm hL) ho,r⟩
 ·refine (I.hok b u e).stay (fun c v hc q=>k c v ?_ q) (fun _ q=>q) fun _ _ q=>q
  rcases hc with z | z
  ·rw [z];exact nit b u e
  ·exact nit c _ z
theorem Inv.tok (I:Inv X pins σ H s) (t:Nat):Inv X pins σ H { s with toks:=t }:=I.un (h':=s.heap) (t':=t) Un.refl I.hok
theorem Inv.kept {t':Nat} (I:Inv X pins σ H s) (k:∀ b u,s.heap.get? b = some u->h'.get? b = some u):Inv X pins σ H { s with heap:=h',toks:=t' }:=I.un (Un.kept k) (I.hok.kept k)
theorem Inv.laid {a:Addr} {o:HO} {t':Nat} (I:Inv X pins σ H s) (k:∀ b u,s.heap.get? b = some u->h'.get? b = some u) (hp:s.heap.objs.size ≤ a) (new:ObjOk X.prog X.w (upd H a o) h' a o) :
  Inv X pins σ (upd H a o) { s with heap:=h',toks:=t' }:=I.un (Un.laid k hp (I.hok.fresh hp)) (I.hok.laid k hp new)
theorem Inv.write {x e:Addr} {o:HO} {t':Nat} (I:Inv X pins σ H s) (mu:Mut (H x)) (he:e = x\/H e = some (.own x)) (k:∀ b u,b ≠ e->s.heap.get? b = some u->h'.get? b = some u) (heo:∃ u,h'.get? e = some u)
  (new:ObjOk X.prog X.w (upd H x o) h' x o):Inv X pins σ (upd H x o) { s with heap:=h',toks:=t' }:=I.un (Un.write mu he k heo) (I.hok.write mu he k heo new)
theorem Inv.pins_of {pins':List (Addr × Obj)} (I:Inv X pins σ H s) (h:∀ p ∈ pins',s.heap.get? p.1 = some p.2/\H p.1 = none/\p.1 ≠ X.env.locals/\p.1 ∉ X.fs/\∀ v,p.2.data ≠ .cell v):Inv X pins' σ H s:=
 ⟨I.ok,I.os,I.bare,I.base,I.loc,I.cell,I.free,I.freeC,fun p hp=>(List.mem_append.mp hp).elim (fun z=>I.pin p (List.mem_append_left _ z)) (h p),I.hok,I.len⟩
theorem nodup_ix {N:List Str} (hN:N.Nodup) {i j:Nat} {x:Str} (a:N[i]? = some x) (b:N[j]? = some x):i = j:=by
 obtain ⟨h1,e1⟩:=List.getElem?_eq_some_iff.mp a
 obtain ⟨h2,e2⟩:=List.getElem?_eq_some_iff.mp b
 exact (List.getElem_inj hN).mp (e1.trans e2.symm)
theorem store_ok2 {M:Model} {A:Around} {E:Value->Shared->Prop} {i:Nat} {x:Str} {v:V} {u:Value} {Q:Unit->Shared->Prop} (I:Inv X pins σ H s) (hN:X.N.Nodup) (hi:X.N[i]? = some x) (hx:Loc X.env.scope x) (r:RelV v u)
  (h:∀ s',Inv X pins (σ.set i (some v)) H s'->(∃ a,Heap.SameBut a s.heap s'.heap/\(a = X.env.locals\/X.env.cells.lookup x = some a))->Q () s') (hf:X.fn x = true\/X.env.scope.names.lookup x = some .local:=by first | exact .inl rfl | exact .inr rfl | assumption):wpAny M A (storeName X.env x u) Q E s:=by
 obtain ⟨m,hn,hl⟩:=id I.loc
 have hcls:(X.env.scope.kind == .class || (X.env.scope.kind == .module && X.env.locals != X.env.globals)) = false:=by rw [I.ok.kind];rfl
 have hiσ:i < σ.length:=by rw [I.len];exact (List.getElem?_eq_some_iff.mp hi).1
 have cne:=I.cne
 have tracked:∀ {a:Addr} {h':Heap},(∃ o,s.heap.get? a = some o/\H a = none)->Heap.SameBut a s.heap h'->HOk X.prog X.w H h':=fun {a h'} ha hs b ob e=>by
  obtain ⟨_,_,hfree⟩:=ha
  refine (I.hok b ob e).stay (fun c w' hc q=>(hs.2 c ?_).trans q) (fun _ q=>q) fun _ _ q=>q
  rintro rfl
  rcases hc with rfl | hc
  ·rw [hfree] at e;cases e
  ·rw [hfree] at hc;cases hc
 rcases hx with hk | hk
 ·refine wpAny_storeName_local hk hn (fun h' hn' hs=>?_) hcls
  obtain ⟨oL,_,_,hoL,_⟩:=id hn
  refine h _ ⟨I.ok,I.os,I.bare,⟨fun b o e n hb hx=>?_,fun b o e n hb hx=>?_,I.base.free,fun b o e hx=>?_,I.base.tups,I.base.frzs,I.base.tbls⟩,⟨_,hn',fun j y v' e1 e2 e3=>?_⟩,fun y c e=>?_,I.free,I.freeC,fun p hp=>?_,tracked ⟨oL,hoL,I.free⟩ hs,by simpa using I.len⟩ ⟨_,hs,.inl rfl⟩
  ·exact (hs.2 b (Nat.ne_of_lt (Nat.lt_of_lt_of_le (Heap.lt_size e) I.ok.above))).trans (I.base.keep b o e n hb hx)
  ·obtain ⟨sl,e1⟩:=I.base.slot b o e n hb hx
   exact ⟨sl,(hs.2 b (Nat.ne_of_lt (Nat.lt_of_lt_of_le (Heap.lt_size e) I.ok.above))).trans e1⟩
  ·obtain ⟨o',e1⟩:=I.base.there b o e hx
   exact ⟨o',(hs.2 b (Nat.ne_of_lt (Nat.lt_of_lt_of_le (Heap.lt_size e) I.ok.above))).trans e1⟩
  ·by_cases hj:j = i
   ·subst hj
    rw [hi] at e1;cases e1
    rw [List.getElem?_set_self hiσ] at e2
    cases e2
    exact ⟨u,r,.inl ⟨hk,by simp⟩⟩
   ·rw [List.getElem?_set_ne (Ne.symm hj)] at e2
    obtain ⟨u',r',q⟩:=hl j y v' e1 e2 e3
    refine ⟨u',r',?_⟩
    rcases q with ⟨k,e⟩ | ⟨k,c,e,z⟩
    ·refine .inl ⟨k,?_⟩
     have:y ≠ x:=fun e=>hj (nodup_ix hN e1 (e ▸ hi))
     simp [this,e]
    ·exact .inr ⟨k,c,e,z.sameBut hs (cne y c e)⟩
  ·obtain ⟨w',z⟩:=I.cell y c e
   exact ⟨w',z.sameBut hs (cne y c e)⟩
  ·obtain ⟨e,n,ne,nf,d⟩:=I.pin p hp
   exact ⟨(hs.2 p.1 ne).trans e,n,ne,nf,d⟩
 ·have hfn:X.fn x = true:=by
   rcases hf with z | z
   ·exact z
   ·rw [z] at hk;cases hk
  obtain ⟨c,hc⟩:=I.ok.has x (.inl hk)
  obtain ⟨w',z⟩:=I.cell x c hc
  refine wpAny_storeName_cell I.ok.kind hk hc z (fun h' hc' hs=>?_)
  obtain ⟨oc,hoc,hocd⟩:=id z
  refine h { s with heap:=h' } ⟨I.ok,I.os,I.bare,⟨fun b o e n hb hx=>?_,fun b o e n hb hx=>?_,I.base.free,fun b o e hx=>?_,I.base.tups,I.base.frzs,I.base.tbls⟩,⟨m,hn.sameBut hs (Ne.symm (cne x c hc)),fun j y v' e1 e2 e3=>?_⟩,fun y c' e=>?_,I.free,I.freeC,fun p hp=>?_,tracked ⟨oc,hoc,I.freeC x c hc⟩ hs,by simpa using I.len⟩ ⟨c,hs,.inr hc⟩
  ·exact (hs.2 b (Nat.ne_of_lt (Nat.lt_of_lt_of_le (Heap.lt_size e) (I.ok.cab x c hfn hc)))).trans (I.base.keep b o e n hb hx)
  ·obtain ⟨sl,e1⟩:=I.base.slot b o e n hb hx
   exact ⟨sl,(hs.2 b (Nat.ne_of_lt (Nat.lt_of_lt_of_le (Heap.lt_size e) (I.ok.cab x c hfn hc)))).trans e1⟩
  ·obtain ⟨o',e1⟩:=I.base.there b o e hx
   exact ⟨o',(hs.2 b (Nat.ne_of_lt (Nat.lt_of_lt_of_le (Heap.lt_size e) (I.ok.cab x c hfn hc)))).trans e1⟩
  ·by_cases hj:j = i
   ·subst hj
    rw [hi] at e1;cases e1
    rw [List.getElem?_set_self hiσ] at e2
    cases e2
    exact ⟨u,r,.inr ⟨.inl hk,c,hc,hc'⟩⟩
   ·rw [List.getElem?_set_ne (Ne.symm hj)] at e2
    obtain ⟨u',r',q⟩:=hl j y v' e1 e2 e3
    refine ⟨u',r',?_⟩
    rcases q with q | ⟨k,c',e,z'⟩
    ·exact .inl q
    ·refine .inr ⟨k,c',e,z'.sameBut hs ?_⟩
     rintro rfl
     exact hj (nodup_ix hN e1 (I.ok.inj _ _ _ e hc ▸ hi))
  ·by_cases hcc:c' = c
   ·subst hcc;exact ⟨_,hc'⟩
   ·obtain ⟨w2,z2⟩:=I.cell y c' e
    exact ⟨w2,z2.sameBut hs hcc⟩
  ·obtain ⟨e,n,ne,nf,d⟩:=I.pin p hp
   refine ⟨(hs.2 p.1 ?_).trans e,n,ne,nf,d⟩
   intro q
   rw [q,hoc] at e
   have q':oc = p.2:=Option.some.inj e
   exact d w' (by rw [← q'];exact hocd)
theorem store_ok {M:Model} {A:Around} {E:Value->Shared->Prop} {i:Nat} {x:Str} {v:V} {u:Value} {Q:Unit->Shared->Prop} (I:Inv X pins σ H s) (hN:X.N.Nodup) (hi:X.N[i]? = some x) (hx:Loc X.env.scope x) (r:RelV v u)
  (h:∀ s',Inv X pins (σ.set i (some v)) H s'->Q () s') (hf:X.fn x = true\/X.env.scope.names.lookup x = some .local:=by first | exact .inl rfl | exact .inr rfl | assumption):wpAny M A (storeName X.env x u) Q E s:=
 store_ok2 I hN hi hx r (fun s' I' _=>h s' I') hf
theorem Inv.call' {s':Shared} {ch:List Addr} (I:Inv X pins σ H s) (ho:s'.os = s.os) (u:Un (frs X.stack) ch H H' s.heap s'.heap) (hok:HOk X.prog X.w H' s'.heap) (hg:AllBare s'.gens)
  (hch:∀ b ∈ ch,(b ∈ X.ex\/X.s₀.heap.objs.size ≤ b)/\b ≠ X.env.locals/\(∀ x c,X.env.cells.lookup x = some c->c ≠ b)/\∀ p ∈ X.pn ++ pins,p.1 ≠ b):Inv X pins σ H' s':=by
 obtain ⟨h',g',d',t',o'⟩:=s'
 have e:o' = s.os:=ho
 subst e
 exact I.call (g':=g') (t':=t') (d':=d') u hok hg hch
end
abbrev XK:=Value->Option Addr->Hp->Prop
abbrev St:=List (Option V)
abbrev VK:=V->Hp->Prop
abbrev TE:=St->Hp->VK->Prop
abbrev TT:=St->Hp->(Bool->Hp->Prop)->Prop
abbrev TA:=St->Hp->(List V->Hp->Prop)->Prop
structure Ends where
 nx:St->Hp->Prop
 rt:VK
 bk:St->Hp->Prop:=fun _ _=>False
 ct:St->Hp->Prop:=fun _ _=>False
abbrev TS:=Ends->St->Hp->Prop
def EP (X:Cx) (pins:List (Addr × Obj)) (σ:St) (Q:VK) (u:Value) (s':Shared):Prop:=∃ v H',Inv X pins σ H' s'/\RelV v u/\Q v H'
def TP (X:Cx) (pins:List (Addr × Obj)) (σ:St) (Q:Bool->Hp->Prop) (b:Bool) (s':Shared):Prop:=∃ H',Inv X pins σ H' s'/\Q b H'
def AP (X:Cx) (pins:List (Addr × Obj)) (σ:St) (Q:List V->Hp->Prop) (us:List Value) (s':Shared):Prop:=∃ vs H',Inv X pins σ H' s'/\Vals vs us/\Q vs H'
def SP (X:Cx) (pins:List (Addr × Obj)) (D:Ends) (f:Flow) (s':Shared):Prop:=
 match f with
 | .next=>∃ σ' H',Inv X pins σ' H' s'/\D.nx σ' H'
 | .brk=>∃ σ' H',Inv X pins σ' H' s'/\D.bk σ' H'
 | .cont=>∃ σ' H',Inv X pins σ' H' s'/\D.ct σ' H'
 | .ret u=>∃ v σ' H',Inv X pins σ' H' s'/\RelV v u/\D.rt v H'
def PE (X:Cx) (e:Expr) (t:TE):Prop:=
 ∀ (pins:List (Addr × Obj)) (s:Shared) (σ:St) (H:Hp) (Q:VK),Inv X pins σ H s->t σ H Q->wpAny (model X.prog X.w) X.A (eval e X.env) (EP X pins σ Q) X.xe s
def PT (X:Cx) (e:Expr) (t:TT):Prop:=
 ∀ (pins:List (Addr × Obj)) (s:Shared) (σ:St) (H:Hp) (Q:Bool->Hp->Prop),Inv X pins σ H s->t σ H Q->wpAny (model X.prog X.w) X.A (isTrue e X.env (eval e X.env)) (TP X pins σ Q) X.xe s
def PW (X:Cx) (e:Expr) (t:TT):Prop:=
 ∀ (whole:Sem Value) (pins:List (Addr × Obj)) (s:Shared) (σ:St) (H:Hp) (Q:Bool->Hp->Prop),Inv X pins σ H s->t σ H Q->wpAny (model X.prog X.w) X.A (isTrue e X.env whole) (TP X pins σ Q) X.xe s
theorem PW.pt {X:Cx} {e:Expr} {t:TT} (h:PW X e t):PT X e t:=h _
def PA (X:Cx) (es:List Expr) (t:TA):Prop:=
 ∀ (pos:Pos) (pins:List (Addr × Obj)) (s:Shared) (σ:St) (H:Hp) (Q:List V->Hp->Prop),Inv X pins σ H s->t σ H Q->wpAny (model X.prog X.w) X.A (spliced (backTo pos (starEach es X.env))) (AP X pins σ Q) X.xe s
def PS (X:Cx) (st:Stmt) (t:TS):Prop:=
 ∀ (pins:List (Addr × Obj)) (s:Shared) (σ:St) (H:Hp) (D:Ends),Inv X pins σ H s->t D σ H->wpAny (model X.prog X.w) X.A (exec st X.env) (SP X pins D) X.xe s
def PSs (X:Cx) (st:List Stmt) (t:TS):Prop:=
 ∀ (pins:List (Addr × Obj)) (s:Shared) (σ:St) (H:Hp) (D:Ends),Inv X pins σ H s->t D σ H->wpAny (model X.prog X.w) X.A (execs st X.env) (SP X pins D) X.xe s
theorem thn {α:Type} {t:Sem α} {Q Q':α->Shared->Prop} {M:Model} {A:Around} {E:Value->Shared->Prop} {s:Shared} (h:wpAny M A t Q E s) (hQ:∀ a s,Q a s->Q' a s):wpAny M A t Q' E s:=wpAny_mono h hQ fun _ _ x=>x
end L2
namespace L2
open PySem PySem.Spec PyProof.Rows
section
variable {X:Cx}
theorem bin {a b:Expr} {ta tb:TE} (ha:PE X a ta) (hb:PE X b tb) {pins:List (Addr × Obj)} {s:Shared} {σ:St} {H:Hp} {R:V->V->Hp->Prop} (I:Inv X pins σ H s) (h:ta σ H fun x H1=>tb σ H1 fun y H2=>R x y H2)
  {α:Type} {Q:α->Shared->Prop} {f:Value->Value->Sem α}
  (hf:∀ v u s2 x y H2,Inv X pins σ H2 s2->RelV x v->RelV y u->R x y H2->wpAny (model X.prog X.w) X.A (f v u) Q X.xe s2) :
  wpAny (model X.prog X.w) X.A (eval a X.env) (fun v s₁=>wpAny (model X.prog X.w) X.A (eval b X.env) (fun u s₂=>wpAny (model X.prog X.w) X.A (f v u) Q X.xe s₂) X.xe s₁) X.xe s:=by
 refine thn (ha pins s σ H _ I h) fun v s1 ⟨x,H1,I1,r1,q1⟩=>?_
 refine thn (hb pins s1 σ H1 _ I1 q1) fun u s2 ⟨y,H2,I2,r2,q2⟩=>?_
 exact hf v u s2 x y H2 I2 r1 r2 q2
def tVar (i:Nat):TE:=fun σ H Q=>∃ v,σ[i]? = some (some v)/\Q v H
def tC (v:V):TE:=fun _ H Q=>Q v H
theorem pe_var {i:Nat} {x:Str} {pos:Pos} (hN:X.N[i]? = some x) (hv:Vis X.env.scope x) (hd:(x == ("__debug__":Str)) = false:=by decide) (hcd:(x == ("__classdict__":Str)) = false:=by decide):PE X (.Name x pos) (tVar i):=by
 intro pins s σ H Q I h
 obtain ⟨v,e,h⟩:=h
 obtain ⟨m,hn,hl⟩:=I.loc
 obtain ⟨u,r,l⟩:=hl i x v hN e hv
 have fin:EP X pins σ Q u s:=⟨v,H,I,r,h⟩
 rcases l with ⟨hk,hm⟩ | ⟨hk,c,hc,hcell⟩
 ·exact wpAny_Name (wpAny_loadName_local I.ok.kind hk hn hm fin) hd
 ·rcases hk with hk | hk
  ·exact wpAny_Name (wpAny_loadName_cell I.ok.kind hk hc hcell fin) hd
  ·exact wpAny_Name (wpAny_loadName_free I.ok.kind hk hc hcell fin hcd) hd
theorem pe_int {i j pos}:PE X (.Constant (.int i) j pos) (tC (.int i)):=fun _ _ _ H _ I h=>wpAny_Constant_int ⟨.int i,H,I.tok _,⟨_,rfl⟩,h⟩
theorem pe_bl {b j pos}:PE X (.Constant (.bool b) j pos) (tC (.bl b)):=fun _ _ _ H _ I h=>Constant_bool ⟨.bl b,H,I,rfl,h⟩
theorem pe_non {j pos}:PE X (.Constant .none j pos) (tC .non):=fun _ _ _ H _ I h=>Constant_none ⟨.non,H,I,rfl,h⟩
theorem pe_str {x j pos}:PE X (.Constant (.str x) j pos) (tC (.str x)):=fun _ _ _ H _ I h=>Calls.Constant_str ⟨.str x,H,I.tok _,⟨_,rfl⟩,h⟩
def Gl (X:Cx) (x:Str):Prop:=X.env.kindOf x = some .globalImplicit
theorem ld_glob {E:Value->Shared->Prop} {pins:List (Addr × Obj)} {s:Shared} {σ:St} {H:Hp} {x:Str} {u:Value} {pos:Pos} {Q:Value->Shared->Prop} (I:Inv X pins σ H s) (hg:Gl X x) (hm:X.mg x = some u) (h:Q u s)
  (hd:(x == ("__debug__":Str)) = false:=by decide):wpAny (model X.prog X.w) X.A (eval (.Name x pos) X.env) Q E s:=
 Calls.Name_function_global I.ok.kind hg (Calls.loadGlobal_global (by rw [I.ok.glob];exact I.mod.glob.keeps I.bk) hm h) hd
theorem ld_blt {E:Value->Shared->Prop} {pins:List (Addr × Obj)} {s:Shared} {σ:St} {H:Hp} {x:Str} {u:Value} {pos:Pos} {Q:Value->Shared->Prop} (I:Inv X pins σ H s) (hg:Gl X x) (hm:X.mg x = none) (hv:bootBuiltins x = some u) (h:Q u s)
  (hn:x ≠ "__name__":=by decide) (hd:(x == ("__debug__":Str)) = false:=by decide):wpAny (model X.prog X.w) X.A (eval (.Name x pos) X.env) Q E s:=by
 obtain ⟨mb,h1,h2⟩:=I.mod.blt
 exact Calls.Name_function_global I.ok.kind hg (Calls.loadGlobal_builtin (by rw [I.ok.glob];exact I.mod.glob.keeps I.bk) hm (by rw [I.ok.blt];exact h1.keeps I.bk) ((h2 x hn).trans hv) h) hd
theorem pe_glob {x:Str} {v:V} {u:Value} {pos:Pos} (hg:Gl X x) (hm:X.mg x = some u) (r:RelV v u) (hd:(x == ("__debug__":Str)) = false:=by decide):PE X (.Name x pos) (tC v):=
 fun _ _ _ H _ I h=>ld_glob I hg hm ⟨v,H,I,r,h⟩ hd
theorem pe_bltn {x:Str} {v:V} {u:Value} {pos:Pos} (hg:Gl X x) (hm:X.mg x = none) (hv:bootBuiltins x = some u) (r:RelV v u) (hn:x ≠ "__name__":=by decide) (hd:(x == ("__debug__":Str)) = false:=by decide):PE X (.Name x pos) (tC v):=
 fun _ _ _ H _ I h=>ld_blt I hg hm hv ⟨v,H,I,r,h⟩ hn hd
variable {a b:Expr} {ta tb:TE} {pos:Pos}
def PC (X:Cx) (op:CmpOp) (a b:Expr) (t:TE):Prop:=
 ∀ (pins:List (Addr × Obj)) (s:Shared) (σ:St) (H:Hp) (Q:VK),Inv X pins σ H s->t σ H Q →
  wpAny (model X.prog X.w) X.A (eval a X.env) (fun v s₁=>wpAny (model X.prog X.w) X.A (eval b X.env) (fun u s₂=>wpAny (model X.prog X.w) X.A (compareOp op v u) (EP X pins σ Q) X.xe s₂) X.xe s₁) X.xe s
def tB (t:TE):TT:=fun σ H Q=>t σ H fun x H1=>∃ c,x = .bl c/\Q c H1
theorem pt_cmp {op:CmpOp} {t:TE} (h:PC X op a b t) (h1:behindInMarks op b = false:=by first | exact nobehind _ (by decide) (by decide) | rfl):PT X (.Compare a [op] [b] pos) (tB t):=by
 intro pins s σ H Q I hw
 refine wpAny_isTrue_Compare1 (thn (h pins s σ H _ I hw) fun v s1 h1=>thn h1 fun u s2 h2=>thn h2 fun c s3 ⟨x,H1,I1,r1,q1⟩=>?_) h1
 obtain ⟨d,rfl,q⟩:=q1
 cases r1
 exact wpAny_truthy_bool ⟨H1,I1,q⟩
theorem pt_val {e:Expr} {t:TE} (h:PE X e t) (he:∀ whole,isTrue e X.env whole = (do let v ← whole;standAt e.pos;holding [v] (truthy v)):=by intro _;rfl):PT X e (tB t):=by
 intro pins s σ H Q I hw
 refine isTrue_plain (thn (h pins s σ H _ I hw) fun v s1 ⟨x,H1,I1,r1,q1⟩=>?_) (he _)
 obtain ⟨d,rfl,q⟩:=q1
 cases r1
 exact wpAny_truthy_bool ⟨H1,I1,q⟩
variable {tA tB':TT} {rest:List Expr}
def tAnd (t u:TT):TT:=fun σ H Q=>t σ H fun c H1=>if c = true then u σ H1 Q else Q false H1
def tOr (t u:TT):TT:=fun σ H Q=>t σ H fun c H1=>if c = true then Q true H1 else u σ H1 Q
def tNot (t:TT):TT:=fun σ H Q=>t σ H fun c H1=>Q (!c) H1
theorem pw_and1 (ha:PT X a tA):PW X (.BoolOp .And [a] pos) tA:=by
 intro wh pins s σ H Q I h
 refine isTrue_and (thn (ha pins s σ H Q I h) fun c s1 e=>?_)
 cases c with
 | true=>exact isTrue_and_nil e
 | false=>exact e
theorem pw_or1 (ha:PT X a tA):PW X (.BoolOp .Or [a] pos) tA:=by
 intro wh pins s σ H Q I h
 refine isTrue_or (thn (ha pins s σ H Q I h) fun c s1 e=>?_)
 cases c with
 | false=>exact isTrue_or_nil e
 | true=>exact e
theorem pw_and (ha:PT X a tA) (hb:PW X (.BoolOp .And (b :: rest) pos) tB'):PW X (.BoolOp .And (a :: b :: rest) pos) (tAnd tA tB'):=by
 intro wh pins s σ H Q I h
 refine isTrue_and (thn (ha pins s σ H _ I h) fun c s1 ⟨H1,I1,q1⟩=>?_)
 cases c with
 | true=>exact hb wh pins s1 σ H1 Q I1 q1
 | false=>exact ⟨H1,I1,q1⟩
theorem pw_or (ha:PT X a tA) (hb:PW X (.BoolOp .Or (b :: rest) pos) tB'):PW X (.BoolOp .Or (a :: b :: rest) pos) (tOr tA tB'):=by
 intro wh pins s σ H Q I h
 refine isTrue_or (thn (ha pins s σ H _ I h) fun c s1 ⟨H1,I1,q1⟩=>?_)
 cases c with
 | true=>exact ⟨H1,I1,q1⟩
 | false=>exact hb wh pins s1 σ H1 Q I1 q1
theorem pt_not (ha:PT X a tA):PT X (.UnaryOp .Not a pos) (tNot tA):=by
 intro pins s σ H Q I h
 exact isTrue_not (ha pins s σ H (fun c H1=>Q (!c) H1) I h)
def tAndV (ta tb:TE):TE:=fun σ H Q=>ta σ H fun x H1=>∃ c,x = .bl c/\if c = true then tb σ H1 Q else Q (.bl false) H1
def tOrV (ta tb:TE):TE:=fun σ H Q=>ta σ H fun x H1=>∃ c,x = .bl c/\if c = true then Q (.bl true) H1 else tb σ H1 Q
def tNotV (ta:TE):TE:=fun σ H Q=>ta σ H fun x H1=>∃ c,x = .bl c/\Q (.bl (!c)) H1
theorem pe_one {op} {t:TE} (h:PE X a t):PE X (.BoolOp op [a] pos) t:=fun pins s σ H Q I hw=>BoolOp_one (h pins s σ H Q I hw)
theorem pe_and (ha:PE X a ta) (hb:PE X (.BoolOp .And (b :: rest) pos) tb):PE X (.BoolOp .And (a :: b :: rest) pos) (tAndV ta tb):=by
 intro pins s σ H Q I h
 refine BoolOp_and (thn (ha pins s σ H _ I h) fun v s1 ⟨x,H1,I1,r1,q1⟩=>?_)
 obtain ⟨c,rfl,q1⟩:=q1
 cases r1
 refine wpAny_truthy_bool ?_
 cases c with
 | true=>exact hb pins s1 σ H1 Q I1 q1
 | false=>exact ⟨.bl false,H1,I1,rfl,q1⟩
theorem pe_or (ha:PE X a ta) (hb:PE X (.BoolOp .Or (b :: rest) pos) tb):PE X (.BoolOp .Or (a :: b :: rest) pos) (tOrV ta tb):=by
 intro pins s σ H Q I h
 refine BoolOp_or (thn (ha pins s σ H _ I h) fun v s1 ⟨x,H1,I1,r1,q1⟩=>?_)
 obtain ⟨c,rfl,q1⟩:=q1
 cases r1
 refine wpAny_truthy_bool ?_
 cases c with
 | false=>exact hb pins s1 σ H1 Q I1 q1
 | true=>exact ⟨.bl true,H1,I1,rfl,q1⟩
theorem pe_not (ha:PE X a ta):PE X (.UnaryOp .Not a pos) (tNotV ta):=by
 intro pins s σ H Q I h
 refine UnaryOp_ (thn (ha pins s σ H _ I h) fun v s1 ⟨x,H1,I1,r1,q1⟩=>?_)
 obtain ⟨c,rfl,q1⟩:=q1
 cases r1
 exact not_of (wpAny_truthy_bool ⟨.bl (!c),H1,I1,rfl,q1⟩)
end
end L2
namespace L2
open PySem PySem.Spec PyProof.Rows
def SqL (K:PySem.W.Frag) (H:Hp) (a:Addr) (xs:List V):Prop:=
 Rd H a (.lst xs) ∨
  ∃ (o:Obj) (its:Array Value) (n:Nat),K.lookup a = some o/\o.cls = .type "list"/\o.dict = none/\o.data = .seq its n/\its.size ≤ sizeLine/\Vals xs its.toList
def SqT (K:PySem.W.Frag) (H:Hp) (a:Addr) (xs:List V):Prop:=
 Rd H a (.tup xs) ∨
  ∃ (o:Obj) (its:Array Value) (n:Nat),K.lookup a = some o/\o.cls = .type "tuple"/\o.data = .seq its n/\its.size ≤ sizeLine/\Vals xs its.toList
def absV:Value->Option V
 | .none=>some .non
 | .bool b=>some (.bl b)
 | .int i _=>some (.int i)
 | .str x _=>some (.str x)
 | .bytes b _=>some (.byt b)
 | .float b _=>some (.flt b)
 | .ref a=>some (.ref a)
 | .type n=>some (.ty n)
 | _=>none
theorem RelV.abs {x:V} {u:Value} (r:RelV x u):absV u = some x:=by
 cases x with
 | non=>cases r;rfl
 | bl _=>cases r;rfl
 | int _=>obtain ⟨t,rfl⟩:=r;rfl
 | str _=>obtain ⟨t,rfl⟩:=r;rfl
 | byt _=>obtain ⟨t,rfl⟩:=r;rfl
 | flt _=>obtain ⟨t,rfl⟩:=r;rfl
 | ref _=>cases r;rfl
 | ty _=>cases r;rfl
theorem RelV.inj {x y:V} {u:Value} (r:RelV x u) (q:RelV y u):x = y:=Option.some.inj (r.abs.symm.trans q.abs)
theorem Vals.inj:∀ {xs ys:List V} {us:List Value},Vals xs us->Vals ys us->xs = ys
 | _,_,_,.nil,.nil=>rfl
 | _,_,_,.cons r t,.cons r' t'=>by rw [r.inj r',Vals.inj t t']
section
variable {X:Cx} {pins:List (Addr × Obj)} {σ:St} {H:Hp} {s:Shared} {a:Addr} {xs ys:List V}
theorem SqL.of {K:PySem.W.Frag} (h:H a = some (.lst xs)):SqL K H a xs:=.inl (.inl h)
theorem SqT.of {K:PySem.W.Frag} (h:H a = some (.tup xs)):SqT K H a xs:=.inl (.inl h)
theorem Inv.list (I:Inv X pins σ H s) (h:SqL X.K H a xs):∃ its:List Value,Vals xs its/\PlainL s.heap a its.toArray/\xs.length ≤ sizeLine:=by
 rcases h with h | ⟨o,its,n,hk,hc,hd,hs,hz,r⟩
 ·obtain ⟨z,its,n,r,e⟩:=h.ok I.hok
  exact ⟨its,r,⟨_,n,e,rfl,rfl,rfl⟩,z⟩
 ·refine ⟨its.toList,r,⟨o,n,I.kIn a o hk,hc,hd,by simpa using hs⟩,?_⟩
  have e:=r.length
  simp only [Array.length_toList] at e
  omega
theorem Inv.tuple (I:Inv X pins σ H s) (h:SqT X.K H a xs):∃ its:List Value,Vals xs its/\IsTup s.heap a its.toArray/\xs.length ≤ sizeLine:=by
 rcases h with h | ⟨o,its,n,hk,hc,hs,hz,r⟩
 ·obtain ⟨z,its,r,p⟩:=h.ok I.hok
  exact ⟨its,r,p,z⟩
 ·refine ⟨its.toList,r,⟨o,I.kIn a o hk,hc,n,by simpa using hs⟩,?_⟩
  have e:=r.length
  simp only [Array.length_toList] at e
  omega
theorem Inv.list_inj (I:Inv X pins σ H s) (h:SqL X.K H a xs) (h':SqL X.K H a ys):xs = ys:=by
 obtain ⟨its,r,⟨o,n,e,_,_,d⟩,_⟩:=I.list h
 obtain ⟨its',r',⟨o',n',e',_,_,d'⟩,_⟩:=I.list h'
 rw [e] at e';cases e'
 rw [d] at d'
 injection d' with d1 _
 have:its = its':=by simpa using congrArg Array.toList d1
 subst this
 exact r.inj r'
theorem Inv.tuple_inj (I:Inv X pins σ H s) (h:SqT X.K H a xs) (h':SqT X.K H a ys):xs = ys:=by
 obtain ⟨its,r,⟨o,e,_,n,d⟩,_⟩:=I.tuple h
 obtain ⟨its',r',⟨o',e',_,n',d'⟩,_⟩:=I.tuple h'
 rw [e] at e';cases e'
 rw [d] at d'
 injection d' with d1 _
 have:its = its':=by simpa using congrArg Array.toList d1
 subst this
 exact r.inj r'
end
abbrev Cx.wish (X:Cx) (E:Value->Shared->Prop):Cx:={ X with xe:=E }
abbrev Cx.nox (X:Cx):Cx:=X.wish fun _ _=>False
theorem Cx.Ok.wish {X:Cx} (ok:X.Ok) (E:Value->Shared->Prop):(X.wish E).Ok:=
 ⟨ok.mod,ok.kind,ok.glob,ok.blt,ok.above,ok.inj,ok.has,ok.cab,ok.hd,ok.frames,ok.stk,ok.exf,ok.bs,ok.bsz,ok.noex,ok.exfs,ok.funs,ok.frf⟩
theorem Cx.Ok.unwish {X:Cx} {E:Value->Shared->Prop} (ok:(X.wish E).Ok):X.Ok:=
 ⟨ok.mod,ok.kind,ok.glob,ok.blt,ok.above,ok.inj,ok.has,ok.cab,ok.hd,ok.frames,ok.stk,ok.exf,ok.bs,ok.bsz,ok.noex,ok.exfs,ok.funs,ok.frf⟩
section
variable {X:Cx} {pins:List (Addr × Obj)} {σ:St} {H:Hp} {s:Shared} {E:Value->Shared->Prop}
theorem Inv.wish (I:Inv X pins σ H s) (E:Value->Shared->Prop):Inv (X.wish E) pins σ H s:=⟨I.ok.wish E,I.os,I.bare,I.base,I.loc,I.cell,I.free,I.freeC,I.pin,I.hok,I.len⟩
theorem Inv.unwish (I:Inv (X.wish E) pins σ H s):Inv X pins σ H s:=⟨I.ok.unwish,I.os,I.bare,I.base,I.loc,I.cell,I.free,I.freeC,I.pin,I.hok,I.len⟩
theorem SP.unwish {D:Ends} {f:Flow} {s':Shared} (h:SP (X.wish E) pins D f s'):SP X pins D f s':=by
 cases f with
 | next=>obtain ⟨σ',H',I,q⟩:=h;exact ⟨σ',H',I.unwish,q⟩
 | brk=>obtain ⟨σ',H',I,q⟩:=h;exact ⟨σ',H',I.unwish,q⟩
 | cont=>obtain ⟨σ',H',I,q⟩:=h;exact ⟨σ',H',I.unwish,q⟩
 | ret u=>obtain ⟨v,σ',H',I,r,q⟩:=h;exact ⟨v,σ',H',I.unwish,r,q⟩
theorem PE.nox {e:Expr} {t:TE} (h:PE X.nox e t):PE X e t:=fun pins s σ H Q I hw=>
 wpAny_mono (h pins s σ H Q (I.wish _) hw) (fun _ _ ⟨v,H',I',r,q⟩=>⟨v,H',I'.unwish,r,q⟩) fun _ _ z=>False.elim z
theorem PSs.nox {st:List Stmt} {t:TS} (h:PSs X.nox st t):PSs X st t:=fun pins s σ H D I hw=>
 wpAny_mono (h pins s σ H D (I.wish _) hw) (fun _ _ q=>q.unwish) fun _ _ z=>False.elim z
end
section
variable {X:Cx} {st:Stmt} {rest:List Stmt} {t u:TS} {e:Expr} {te:TE} {pos:Pos}
def tNext:TS:=fun D σ H=>D.nx σ H
def tSeq (t u:TS):TS:=fun D σ H=>t { D with nx:=u D } σ H
theorem pss_nil:PSs X [] tNext:=fun _ _ σ H _ I h=>wpAny_execs_nil ⟨σ,H,I,h⟩
theorem pss_cons (h1:PS X st t) (h2:PSs X rest u):PSs X (st :: rest) (tSeq t u):=by
 intro pins s σ H D I h
 refine wpAny_execs_cons (thn (h1 pins s σ H { D with nx:=u D } I h) fun f s1 q=>?_)
 cases f with
 | next=>
  obtain ⟨σ',H',I',q⟩:=q
  exact h2 pins s1 σ' H' D I' q
 | ret v=>exact q
 | brk=>exact q
 | cont=>exact q
theorem pss_one (h1:PS X st t):PSs X [st] t:=by
 intro pins s σ H D I h
 refine wpAny_execs_cons (thn (h1 pins s σ H D I h) fun f s1 q=>?_)
 cases f with
 | next=>exact wpAny_execs_nil q
 | ret v=>exact q
 | brk=>exact q
 | cont=>exact q
theorem Inv.quiet {pins:List (Addr × Obj)} {σ:St} {H:Hp} {s:Shared} (I:Inv X pins σ H s):interactive X.env = false:=by simp [interactive,I.ok.kind]
def tDrop (te:TE):TS:=fun D σ H=>te σ H fun _ H1=>D.nx σ H1
theorem ps_expr (he:PE X e te) (hs:swapsWith e none pos.line X.env = pure false:=by rfl):PS X (.Expr e pos) (tDrop te):=by
 intro pins s σ H D I h
 exact wpAny_Expr_any (thn (he pins s σ H _ I h) fun v s1 ⟨x,H1,I1,r1,q1⟩=>⟨σ,H1,I1,q1⟩) I.quiet hs
def tRet (te:TE):TS:=fun D σ H=>te σ H D.rt
theorem ps_ret (he:PE X e te):PS X (.Return (some e) pos) (tRet te):=by
 intro pins s σ H D I h
 exact wpAny_Return_some (thn (he pins s σ H _ I h) fun v s1 ⟨x,H1,I1,r1,q1⟩=>⟨x,σ,H1,I1,r1,q1⟩)
def tIfS (c:TT) (t u:TS):TS:=fun D σ H=>c σ H fun b H1=>if b = true then t D σ H1 else u D σ H1
theorem ps_if {c:Expr} {a b:List Stmt} {tc:TT} (hc:PT X c tc) (ha:PSs X a t) (hb:PSs X b u):PS X (.If c a b pos) (tIfS tc t u):=by
 intro pins s σ H D I h
 refine wpAny_If (thn (hc pins s σ H _ I h) fun d s1 ⟨H1,I1,q1⟩=>?_)
 cases d with
 | true=>exact ha pins s1 σ H1 D I1 q1
 | false=>exact hb pins s1 σ H1 D I1 q1
def tNever:TS:=fun _ _ _=>False
theorem pss_never {sts:List Stmt}:PSs X sts tNever:=fun _ _ _ _ _ _ h=>h.elim
end
abbrev TG:=V->St->Hp->(St->Hp->Prop)->Prop
abbrev TGs:=List V->St->Hp->(St->Hp->Prop)->Prop
def PG (X:Cx) (target:Expr) (t:TG):Prop:=
 ∀ (pins:List (Addr × Obj)) (s:Shared) (σ:St) (H:Hp) (v:V) (u:Value) (Q:St->Hp->Prop),Inv X pins σ H s->RelV v u->t v σ H Q →
  wpAny (model X.prog X.w) X.A (assign target X.env u) (fun _ s'=>∃ σ' H',Inv X pins σ' H' s'/\Q σ' H') X.xe s
def PGs (X:Cx) (ts:List Expr) (t:TGs):Prop:=
 ∀ (pins:List (Addr × Obj)) (s:Shared) (σ:St) (H:Hp) (vs:List V) (us:List Value) (Q:St->Hp->Prop),Inv X pins σ H s->Vals vs us->t vs σ H Q →
  wpAny (model X.prog X.w) X.A (assignInOrder ((assignEach ts X.env).map (·.2)) us) (fun _ s'=>∃ σ' H',Inv X pins σ' H' s'/\Q σ' H') X.xe s
section
variable {X:Cx} {pos:Pos}
def gName (i:Nat):TG:=fun v σ H Q=>Q (σ.set i (some v)) H
theorem pg_name {i:Nat} {x:Str} (hN:X.N.Nodup) (hi:X.N[i]? = some x) (hx:Loc X.env.scope x) (hf:X.fn x = true\/X.env.scope.names.lookup x = some .local:=by first | exact .inl rfl | exact .inr rfl | assumption):PG X (.Name x pos) (gName i):=by
 intro pins s σ H v u Q I r h
 exact wpAny_assign_Name (store_ok I hN hi hx r (fun s' I'=>⟨_,H,I',h⟩) hf)
def gNil:TGs:=fun vs σ H Q=>vs = []/\Q σ H
def gCons (t:TG) (u:TGs):TGs:=fun vs σ H Q=>∃ v r,vs = v :: r/\t v σ H fun σ' H'=>u r σ' H' Q
theorem pgs_nil:PGs X [] gNil:=by
 intro pins s σ H vs us Q I r h
 obtain ⟨e,h⟩:=h
 subst e
 cases r
 exact assignInOrder_nil ⟨σ,H,I,h⟩
theorem pgs_cons {e:Expr} {es:List Expr} {t:TG} {u:TGs} (h1:PG X e t) (h2:PGs X es u)
  (hs:(assignEach (e :: es) X.env).map (·.2) = assign e X.env :: (assignEach es X.env).map (·.2):=by rfl):PGs X (e :: es) (gCons t u):=by
 intro pins s σ H vs us Q I r h
 obtain ⟨v,vr,e1,h⟩:=h
 subst e1
 cases r with
 | cons r rr=>
  rw [hs]
  refine assignInOrder_cons (thn (h1 pins s σ H _ _ _ I r h) fun _ s1 ⟨σ1,H1,I1,q1⟩=>?_)
  exact h2 pins s1 σ1 H1 _ _ Q I1 rr q1
def gTup (K:PySem.W.Frag) (n:Nat) (t:TGs):TG:=fun v σ H Q=>∃ a xs,v = .ref a/\SqT K H a xs/\xs.length = n/\t xs σ H Q
theorem pg_tup {es:List Expr} {k:Nat} {t:TGs} {n:Nat} (hc:X.calm = true) (h:PGs X es t)
  (hn:(assignEach es X.env).length = n:=by rfl) (hst:(assignEach es X.env).findIdx? (·.1) = none:=by rfl):PG X (.Tuple es k pos) (gTup X.K n t):=by
 intro pins s σ H v u Q I r hw
 obtain ⟨a,xs,e1,hq,hl,hw⟩:=hw
 subst e1
 cases r
 obtain ⟨its,rv,ht,hz⟩:=I.tuple hq
 refine assign_Tuple_tuple (I.ok.hd hc) ht (by simp [hn,← hl,rv.length]) hst fun h' hx=>?_
 have I1:Inv X pins σ H { s with heap:=h' }:=I.kept (t':=s.toks) fun b o e=>hx b o (Nat.ne_of_lt (Heap.lt_size e)) e
 exact h pins _ σ H xs _ Q I1 (by simpa using rv) hw
def tAsg (te:TE) (g:TG):TS:=fun D σ H=>te σ H fun x H1=>g x σ H1 D.nx
theorem ps_asg {tg e:Expr} {te:TE} {g:TG} (he:PE X e te) (hg:PG X tg g) (hs:swapsWithSole [tg] e pos.line X.env = pure false:=by rfl) (hw:swappedStores [tg] e X.env = pure none:=by rfl)
  (h1:(assignEach [tg] X.env).map (·.2) = [assign tg X.env]:=by rfl):PS X (.Assign [tg] e pos) (tAsg te g):=by
 intro pins s σ H D I h
 refine wpAny_Assign_stores (thn (he pins s σ H _ I h) fun v s1 ⟨x,H1,I1,r1,q1⟩=>?_) hs hw
 rw [h1]
 exact thn (hg pins s1 σ H1 x v _ I1 r1 q1) fun _ s2 q=>q
theorem ps_set {i:Nat} {x:Str} {e:Expr} {te:TE} {pos':Pos} (hN:X.N.Nodup) (hi:X.N[i]? = some x) (hx:Loc X.env.scope x) (he:PE X e te) (hs:swapsWith e (some (.Name x pos')) pos.line X.env = pure false:=by rfl) (hf:X.fn x = true\/X.env.scope.names.lookup x = some .local:=by first | exact .inl rfl | exact .inr rfl | assumption) :
  PS X (.Assign [.Name x pos'] e pos) (tAsg te (gName i)):=by
 intro pins s σ H D I h
 refine wpAny_Assign_Name (thn (he pins s σ H _ I h) fun v s1 ⟨y,H1,I1,r1,q1⟩=>?_) hs
 exact store_ok I1 hN hi hx r1 (fun s2 I2=>⟨_,H1,I2,q1⟩) hf
end
section
variable {X:Cx} {pos:Pos}
end
structure It where
 go:Nat->Hp->Prop
 yld:Nat->Hp->V->Hp->Prop
 stop:Nat->Hp->Prop
def FpOk (X:Cx) (pins:List (Addr × Obj)) (H:Hp) (b:Addr):Prop:=
 H b = none/\b ≠ X.env.locals/\b ∉ X.fs/\(b ∈ X.ex\/X.s₀.heap.objs.size ≤ b)/\(∀ x c,X.env.cells.lookup x = some c->c ≠ b)/\∀ p ∈ X.pn ++ pins,p.1 ≠ b
theorem Inv.fpOk {X:Cx} {pins:List (Addr × Obj)} {σ:St} {H H':Hp} {s:Shared} {b:Addr} (I:Inv X pins σ H s) (hb:s.heap.objs.size ≤ b) (hn:H' b = none):FpOk X pins H' b:=by
 refine ⟨hn,Nat.ne_of_gt (Nat.lt_of_lt_of_le I.lt hb),I.nofs hb,.inr (Nat.le_trans I.sz hb),fun x c e z=>?_,fun p hp z=>?_⟩
 ·obtain ⟨v,q⟩:=I.cell x c e
  exact absurd (Nat.lt_of_lt_of_le q.lt (by rw [z];exact hb)) (Nat.lt_irrefl _)
 ·exact absurd (Nat.lt_of_lt_of_le (Heap.lt_size (I.pin p hp).1) (by rw [z];exact hb)) (Nat.lt_irrefl _)
structure Turn (P:Program) (w:World) (K:PySem.W.Frag) (tg:Expr) (J:It) (fp:List Addr) (it:Addr) (tn:Nat->Heap->Prop):Prop where
 mem:it ∈ fp
 obj:∀ i h,tn i h->∀ b ∈ fp,∃ o,h.get? b = some o/\∀ v,o.data ≠ .cell v
 keep:∀ i h h',tn i h->(∀ b ∈ fp,∀ o,h.get? b = some o->h'.get? b = some o)->tn i h'
 item:∀ (X:Cx),X.prog = P->X.w = w->X.K = K->X.calm = true->∀ (i:Nat) (pins:List (Addr × Obj)) (s:Shared) (σ:St) (H:Hp) (E:Value->Shared->Prop),Inv X pins σ H s->(∀ b ∈ fp,FpOk X pins H b)->tn i s.heap->J.go i H →
  wpAny (model P w) X.A (pyNext (.ref it)) (fun r s1=>∃ u,r = some u ∧
   wpAny (model P w) X.A (letOwnedTupleGo tg (.ref it) u) (fun _ s2=>∃ x H',Inv X pins σ H' s2/\RelV x u/\J.yld i H x H'/\tn (i + 1) s2.heap/\∀ b ∈ fp,H' b = none) E s1) E s
 done:∀ (X:Cx),X.prog = P->X.w = w->X.K = K->X.calm = true->∀ (i:Nat) (pins:List (Addr × Obj)) (s:Shared) (σ:St) (H:Hp) (E:Value->Shared->Prop),Inv X pins σ H s->(∀ b ∈ fp,FpOk X pins H b)->tn i s.heap->J.stop i H →
  wpAny (model P w) X.A (pyNext (.ref it)) (fun r s1=>r = none/\Inv X pins σ H s1) E s
 self:∀ (A:Around) (i:Nat) (s:Shared) (Q:Value->Shared->Prop) (E:Value->Shared->Prop),tn i s.heap->Q (.ref it) s->wpAny (model P w) A (pyIter (.ref it)) Q E s
abbrev TI:=St->Hp->(It->Hp->Prop)->Prop
def PIE (X:Cx) (pins:List (Addr × Obj)) (σ:St) (tg:Expr) (R:It->Hp->Prop) (itv:Value) (s2:Shared):Prop:=
 ∃ (it:Addr) (fp:List Addr) (tn:Nat->Heap->Prop) (J:It) (H':Hp),itv = .ref it/\Inv X pins σ H' s2/\Turn X.prog X.w X.K tg J fp it tn/\tn 0 s2.heap/\(∀ b ∈ fp,FpOk X pins H' b)/\R J H'
def PI (X:Cx) (tg iter:Expr) (wi:TI):Prop:=
 ∀ (pins:List (Addr × Obj)) (s:Shared) (σ:St) (H:Hp) (R:It->Hp->Prop),Inv X pins σ H s->wi σ H R →
  wpAny (model X.prog X.w) X.A (eval iter X.env) (fun v s1=>wpAny (model X.prog X.w) X.A (pyIter v) (PIE X pins σ tg R) X.xe s1) X.xe s
theorem go_of {M:Model} {A:Around} {E:Value->Shared->Prop} {s:Shared} {tg:Expr} {it:Addr} {u:Value} {o:Obj} {n:String} {vs:Array Value} {Q:Unit->Shared->Prop} (ho:s.heap.get? it = some o) (hc:o.cls = .type n) (hd:o.data = .fields vs)
  (hn:["enumerate","zip","dict_itemiterator","dict_reverseitemiterator","odict_iterator","itertools.zip_longest","itertools.pairwise"].contains n = false) (hQ:Q () s):wpAny M A (letOwnedTupleGo tg (.ref it) u) Q E s:=by
 unfold letOwnedTupleGo
 cases tg <;> first
  | exact wpAny_pure hQ
  | (cases u <;> first
    | exact wpAny_pure hQ
    | (refine wpAny_bind (wpAny_load ho ?_)
       rw [hc,hd]
       show wpAny M A (if (["enumerate","zip","dict_itemiterator","dict_reverseitemiterator","odict_iterator","itertools.zip_longest","itertools.pairwise"].contains n && vs[0]? == some (rawInt _)) = true then _ else _) Q E s
       rw [if_neg (by intro h;rw [hn,Bool.false_and] at h;cases h)]
       exact wpAny_pure hQ))
def Itl (K:PySem.W.Frag) (a:Addr):It:=
 ⟨fun i H=>∃ xs x,SqL K H a xs/\xs[i]? = some x,fun i H x H'=>H' = H/\∀ xs,SqL K H a xs->xs[i]? = some x,fun i H=>∃ xs,SqL K H a xs/\xs.length ≤ i⟩
def Itt (K:PySem.W.Frag) (a:Addr):It:=
 ⟨fun i H=>∃ xs x,SqT K H a xs/\xs[i]? = some x,fun i H x H'=>H' = H/\∀ xs,SqT K H a xs->xs[i]? = some x,fun i H=>∃ xs,SqT K H a xs/\xs.length ≤ i⟩
def Itr (lo:Int) (n:Nat):It:=⟨fun i _=>i < n,fun i H x H'=>H' = H/\x = .int (lo + i),fun i _=>n ≤ i⟩
theorem turn_list {P:Program} {w:World} {K:PySem.W.Frag} {tg:Expr} (a it:Addr):Turn P w K tg (Itl K a) [it] it (fun i h=>h.IsListIter it a i) where
 mem:=by simp
 obj:=fun i h st b hb=>by
  have e:b = it:=by simpa using hb
  subst e
  obtain ⟨o,e,c,d⟩:=st
  exact ⟨o,e,fun v z=>by rw [d] at z;cases z⟩
 keep:=fun i h h' st k=>st.at fun o e=>k it (by simp) o e
 item:=by
  intro X hP hw hK hc i pins s σ H E I hf st hg
  subst hP hw hK
  obtain ⟨xs,x,hq,hx⟩:=hg
  obtain ⟨its,rv,p,hz⟩:=I.list hq
  obtain ⟨u,hu,ru⟩:=rv.get hx
  obtain ⟨f0,f1,f2,f3,f4,f5⟩:=hf it (by simp)
  refine wpAny_pyNext_list_item st p.isList (x:=u) (by simpa using hu) fun h' st' sb=>?_
  have I1:Inv X pins σ H { s with heap:=h' }:=I.turned (t':=s.toks) (fun b o hb e=>(sb.2 b hb).trans e) f0 f1 f3 f4 f5
  obtain ⟨o,e,c,d⟩:=id st'
  exact ⟨u,rfl,go_of (s:={ s with heap:=h' }) e c d (by decide) ⟨x,H,I1,ru,⟨rfl,fun ys hy=>by rw [I.list_inj hy hq];exact hx⟩,st',fun b hb=>(hf b hb).1⟩⟩
 done:=by
  intro X hP hw hK hc i pins s σ H E I hf st hg
  subst hP hw hK
  obtain ⟨xs,hq,hx⟩:=hg
  obtain ⟨its,rv,p,hz⟩:=I.list hq
  obtain ⟨f0,f1,f2,f3,f4,f5⟩:=hf it (by simp)
  have hl:=rv.length
  exact wpAny_pyNext_list_end (I.ok.hd hc) st p.isList (by simp;omega) fun h' eb=>⟨rfl,I.turned (t':=s.toks) (fun b o hb e=>eb b o hb e) f0 f1 f3 f4 f5⟩
 self:=fun _ _ _ _ _ st h=>wpAny_pyIter_listiter st h
theorem turn_tuple {P:Program} {w:World} {K:PySem.W.Frag} {tg:Expr} (a it:Addr):Turn P w K tg (Itt K a) [it] it (fun i h=>h.IsTupleIter it a i) where
 mem:=by simp
 obj:=fun i h st b hb=>by
  have e:b = it:=by simpa using hb
  subst e
  obtain ⟨o,e,c,d⟩:=st
  exact ⟨o,e,fun v z=>by rw [d] at z;cases z⟩
 keep:=fun i h h' st k=>st.at fun o e=>k it (by simp) o e
 item:=by
  intro X hP hw hK hc i pins s σ H E I hf st hg
  subst hP hw hK
  obtain ⟨xs,x,hq,hx⟩:=hg
  obtain ⟨its,rv,p,hz⟩:=I.tuple hq
  obtain ⟨u,hu,ru⟩:=rv.get hx
  obtain ⟨f0,f1,f2,f3,f4,f5⟩:=hf it (by simp)
  refine wpAny_pyNext_tuple_item st (show s.heap.IsTuple a its.toArray from p) (x:=u) (by simpa using hu) fun h' st' sb=>?_
  have I1:Inv X pins σ H { s with heap:=h' }:=I.turned (t':=s.toks) (fun b o hb e=>(sb.2 b hb).trans e) f0 f1 f3 f4 f5
  obtain ⟨o,e,c,d⟩:=id st'
  exact ⟨u,rfl,go_of (s:={ s with heap:=h' }) e c d (by decide) ⟨x,H,I1,ru,⟨rfl,fun ys hy=>by rw [I.tuple_inj hy hq];exact hx⟩,st',fun b hb=>(hf b hb).1⟩⟩
 done:=by
  intro X hP hw hK hc i pins s σ H E I hf st hg
  subst hP hw hK
  obtain ⟨xs,hq,hx⟩:=hg
  obtain ⟨its,rv,p,hz⟩:=I.tuple hq
  obtain ⟨f0,f1,f2,f3,f4,f5⟩:=hf it (by simp)
  have hl:=rv.length
  exact wpAny_pyNext_tuple_end (I.ok.hd hc) st (show s.heap.IsTuple a its.toArray from p) (by simp;omega) fun h' eb=>⟨rfl,I.turned (t':=s.toks) (fun b o hb e=>eb b o hb e) f0 f1 f3 f4 f5⟩
 self:=fun _ _ _ _ _ st h=>wpAny_pyIter_tupleiter st h
theorem turn_range {P:Program} {w:World} {K:PySem.W.Frag} {tg:Expr} (it:Addr) (lo:Int) (n:Nat):Turn P w K tg (Itr lo n) [it] it (fun i h=>IsRangeIter h it (lo + (i:Nat) * 1) ((n:Int) - (i:Nat)) 1) where
 mem:=by simp
 obj:=fun i h st b hb=>by
  have e:b = it:=by simpa using hb
  subst e
  exact ⟨_,st,fun v z=>by
   have z':Data.fields _ = Data.cell v:=z
   cases z'⟩
 keep:=fun i h h' st k=>k it (by simp) _ st
 item:=by
  intro X hP hw hK hc i pins s σ H E I hf st hg
  subst hP hw hK
  obtain ⟨f0,f1,f2,f3,f4,f5⟩:=hf it (by simp)
  have W:=Walks.range (prog:=X.prog) (w:=X.w) (I.ok.hd hc) it lo 1 n
  refine W.item i s _ _ hg st fun v h' tk hv st' kk=>?_
  obtain ⟨t,rfl⟩:=hv
  have I1:Inv X pins σ H { s with heap:=h',toks:=tk }:=I.turned (fun b o hb e=>kk b o (by simpa using hb) e) f0 f1 f3 f4 f5
  refine ⟨_,rfl,go_of (s:={ s with heap:=h',toks:=tk }) (n:="range_iterator") st' rfl rfl (by decide) ⟨.int (lo + i),H,I1,⟨t,?_⟩,⟨rfl,rfl⟩,st',fun b hb=>(hf b hb).1⟩⟩
  rw [Int.mul_one]
 done:=by
  intro X hP hw hK hc i pins s σ H E I hf st hg
  subst hP hw hK
  obtain ⟨f0,f1,f2,f3,f4,f5⟩:=hf it (by simp)
  exact wpAny_pyNext_range_end (I.ok.hd hc) st (by have:n ≤ i:=hg;omega) fun h' eb=>⟨rfl,I.turned (t':=s.toks) (fun b o hb e=>eb b o hb e) f0 f1 f3 f4 f5⟩
 self:=fun _ _ _ _ _ st h=>wpAny_pyIter_rangeiter st h
end L2
namespace L2
open PySem PySem.Spec PyProof.Rows
section
variable {X:Cx} {tg:Expr}
def iList (K:PySem.W.Frag) (tl:TE):TI:=fun σ H R=>tl σ H fun x H1=>∃ a,x = .ref a/\(∃ xs,SqL K H1 a xs)/\R (Itl K a) H1
def iTup (K:PySem.W.Frag) (tl:TE):TI:=fun σ H R=>tl σ H fun x H1=>∃ a,x = .ref a/\(∃ xs,SqT K H1 a xs)/\R (Itt K a) H1
theorem pi_list {l:Expr} {tl:TE} (hl:PE X l tl):PI X tg l (iList X.K tl):=by
 intro pins s σ H R I h
 refine thn (hl pins s σ H _ I h) fun v s1 ⟨x,H1,I1,r1,q1⟩=>?_
 obtain ⟨a,e,⟨xs,hq⟩,q⟩:=q1
 subst e
 cases r1
 obtain ⟨its,rv,p,hz⟩:=I1.list hq
 refine wpAny_pyIter_list p.isList ?_
 refine ⟨s1.heap.objs.size,[s1.heap.objs.size],_,_,H1,rfl,I1.kept (t':=s1.toks) fun b o e=>Heap.get?_push_of_some _ e,turn_list a _,⟨_,Heap.get?_push_size _ rfl,rfl,rfl⟩,fun b hb=>?_,q⟩
 have e:b = s1.heap.objs.size:=by simpa using hb
 subst e
 exact I1.fpOk (Nat.le_refl _) (I1.hok.fresh (Nat.le_refl _))
theorem pi_tup {l:Expr} {tl:TE} (hl:PE X l tl):PI X tg l (iTup X.K tl):=by
 intro pins s σ H R I h
 refine thn (hl pins s σ H _ I h) fun v s1 ⟨x,H1,I1,r1,q1⟩=>?_
 obtain ⟨a,e,⟨xs,hq⟩,q⟩:=q1
 subst e
 cases r1
 obtain ⟨its,rv,p,hz⟩:=I1.tuple hq
 refine wpAny_pyIter_tuple (show s1.heap.IsTuple a its.toArray from p) ?_
 refine ⟨s1.heap.objs.size,[s1.heap.objs.size],_,_,H1,rfl,I1.kept (t':=s1.toks) fun b o e=>Heap.get?_push_of_some _ e,turn_tuple a _,⟨_,Heap.get?_push_size _ rfl,rfl,rfl⟩,fun b hb=>?_,q⟩
 have e:b = s1.heap.objs.size:=by simpa using hb
 subst e
 exact I1.fpOk (Nat.le_refl _) (I1.hok.fresh (Nat.le_refl _))
theorem range_it {pins:List (Addr × Obj)} {σ:St} {H:Hp} {s:Shared} {R:It->Hp->Prop} {E:Value->Shared->Prop} {lo hi:Int} {t u v:Tok} {tk:Nat} (I:Inv X pins σ H s) (h1:-(2 ^ 62) ≤ lo) (h2:lo < 2 ^ 62) (h3:-(2 ^ 62) ≤ hi) (h4:hi < 2 ^ 62)
  (q:R (Itr lo (hi - lo).toNat) H):wpAny (model X.prog X.w) X.A (pyIter (.ref s.heap.objs.size)) (PIE X pins σ tg R) E { s with heap:=s.heap.push { cls:=.type "range",data:=.fields #[.int lo t,.int hi u,.int 1 v] },toks:=tk }:=by
 refine wpAny_pyIter_range (IsRange.new ..) (small_one h1 h2 h3 h4) ?_
 have I1:Inv X pins σ H { s with heap:=s.heap.push { cls:=.type "range",data:=.fields #[.int lo t,.int hi u,.int 1 v] },toks:=tk }:=I.kept fun b o e=>Heap.get?_push_of_some _ e
 refine ⟨(s.heap.push { cls:=.type "range",data:=.fields #[.int lo t,.int hi u,.int 1 v] }).objs.size,[(s.heap.push { cls:=.type "range",data:=.fields #[.int lo t,.int hi u,.int 1 v] }).objs.size],_,_,H,rfl,
  I1.kept (t':=tk) fun b o e=>Heap.get?_push_of_some _ e,turn_range _ lo (hi - lo).toNat,?_,fun b hb=>?_,q⟩
 ·have e1:lo + ((0:Nat):Int) * 1 = lo:=by simp
  have e2:(((hi - lo).toNat:Nat):Int) - ((0:Nat):Int) = Builtin.Range.rangeSize lo hi 1:=by rw [rangeSize_one];split <;> omega
  show IsRangeIter _ _ (lo + ((0:Nat):Int) * 1) ((((hi - lo).toNat:Nat):Int) - ((0:Nat):Int)) 1
  rw [e1,e2]
  exact Heap.get?_push_size _ rfl
 ·have e:b = (s.heap.push { cls:=.type "range",data:=.fields #[.int lo t,.int hi u,.int 1 v] }).objs.size:=by simpa using hb
  subst e
  exact I1.fpOk (Nat.le_refl _) (I1.hok.fresh (Nat.le_refl _))
def iRng1 (ta:TA):TI:=fun σ H R=>ta σ H fun vs H1=>∃ j:Int,vs = [.int j]/\-(2 ^ 62) ≤ j/\j < 2 ^ 62/\R (Itr 0 j.toNat) H1
def iRng2 (ta:TA):TI:=fun σ H R=>ta σ H fun vs H1=>∃ i j:Int,vs = [.int i,.int j]/\(-(2 ^ 62) ≤ i/\i < 2 ^ 62/\-(2 ^ 62) ≤ j/\j < 2 ^ 62)/\R (Itr i (j - i).toNat) H1
theorem pi_range1 {a:Expr} {ta:TA} {p pos:Pos} (hg:Gl X "range") (hm:X.mg "range" = none) (ha:PA X [a] ta) (hs:starEach [a] X.env = [(false,eval a X.env)]:=by rfl):PI X tg (.Call (.Name "range" p) [a] [] pos) (iRng1 ta):=by
 intro pins s σ H R I h
 refine Call_ (ld_blt I hg hm boot_range (PyProof.Rows.callWith_type1 (thn (ha pos pins s σ H _ I h) fun us s1 ⟨vs,H1,I1,r1,q1⟩=>?_) hs rfl))
 obtain ⟨j,e,q1,q2,q⟩:=q1
 subst e
 cases r1 with
 | cons r rr=>
  cases rr
  obtain ⟨t,rfl⟩:=r
  exact call_range_1 (range_it I1 (by omega) (by omega) q1 q2 (by simpa using q))
theorem pi_range2 {a b:Expr} {ta:TA} {p pos:Pos} (hg:Gl X "range") (hm:X.mg "range" = none) (ha:PA X [a,b] ta) (hs:starEach [a,b] X.env = [(false,eval a X.env),(false,eval b X.env)]:=by rfl) (hs2:starEach [b] X.env = [(false,eval b X.env)]:=by rfl) :
  PI X tg (.Call (.Name "range" p) [a,b] [] pos) (iRng2 ta):=by
 intro pins s σ H R I h
 refine Call_ (ld_blt I hg hm boot_range (PyProof.Rows.callWith_type1 (thn (ha pos pins s σ H _ I h) fun us s1 ⟨vs,H1,I1,r1,q1⟩=>?_) (by rw [hs,hs2]) (by rw [hs2];rfl)))
 obtain ⟨i,j,e,⟨q1,q2,q3,q4⟩,q⟩:=q1
 subst e
 cases r1 with
 | cons r rr=>
  cases rr with
  | cons r' rr=>
   cases rr
   obtain ⟨t,rfl⟩:=r
   obtain ⟨t',rfl⟩:=r'
   exact call_range_2 (range_it I1 q1 q2 q3 q4 q)
def tFor (wi:TI) (g:TG) (tb:TS):TS:=fun D σ H=>wi σ H fun J H1=>∃ W:Nat->Nat->St->Hp->Prop,(∃ m,W 0 m σ H1)/\∀ i m σ H,W i m σ H →
 (J.stop i H/\D.nx σ H)\/(J.go i H/\∃ N:St->Hp->Prop,(∀ σ' H',N σ' H'->∃ m',m' < m/\W (i + 1) m' σ' H')/\∀ x H',J.yld i H x H'->g x σ H' fun σ2 H2=>tb { D with nx:=N,ct:=N,bk:=D.nx } σ2 H2)
def pinsAt (fp:List Addr) (h:Heap):List (Addr × Obj):=fp.filterMap fun b=>(h.get? b).map fun o=>(b,o)
theorem mem_pinsAt {fp:List Addr} {h:Heap} {b:Addr} {o:Obj} (hb:b ∈ fp) (e:h.get? b = some o):(b,o) ∈ pinsAt fp h:=List.mem_filterMap.mpr ⟨b,hb,by rw [e];rfl⟩
theorem of_pinsAt {fp:List Addr} {h:Heap} {p:Addr × Obj} (hp:p ∈ pinsAt fp h):p.1 ∈ fp/\h.get? p.1 = some p.2:=by
 obtain ⟨b,hb,e⟩:=List.mem_filterMap.mp hp
 cases q:h.get? b with
 | none=>rw [q] at e;cases e
 | some o=>
  rw [q] at e
  have e':(b,o) = p:=Option.some.inj e
  subst e'
  exact ⟨hb,q⟩
theorem Inv.pinned {pins:List (Addr × Obj)} {σ:St} {H:Hp} {s:Shared} {fp:List Addr} (I:Inv X pins σ H s) (hf:∀ b ∈ fp,FpOk X pins H b) (ho:∀ b ∈ fp,∃ o,s.heap.get? b = some o/\∀ v,o.data ≠ .cell v):Inv X (pins ++ pinsAt fp s.heap) σ H s:=
 I.pins_of fun p hp=>(List.mem_append.mp hp).elim (fun z=>I.pin p (List.mem_append_right _ z)) fun z=>by
  obtain ⟨hb,e⟩:=of_pinsAt z
  obtain ⟨f0,f1,f2,_⟩:=hf p.1 hb
  obtain ⟨o,e',d⟩:=ho p.1 hb
  rw [e] at e';cases e'
  exact ⟨e,f0,f1,f2,d⟩
theorem Inv.unpinned {pins pl:List (Addr × Obj)} {σ:St} {H:Hp} {s:Shared} (I:Inv X (pins ++ pl) σ H s):Inv X pins σ H s:=I.pins_of fun p hp=>I.pin p (List.mem_append_right _ (List.mem_append_left _ hp))
theorem ps_for {iter:Expr} {body:List Stmt} {wi:TI} {g:TG} {tb:TS} {pos:Pos} (hp:PassesOwn (model X.prog X.w) X.A X.env X.xe) (hc:X.calm = true) (hi:PI X tg iter wi) (hg:PG X tg g) (hb:PSs X body tb)
  (hs:∀ x,foldedSetIterable iter X.env x = pure x:=by intro _;rfl):PS X (.For tg iter body [] pos) (tFor wi g tb):=by
 intro pins s σ H D I h
 refine wpAny_For (thn (hi pins s σ H _ I h) fun v s1 h1=>thn h1 fun itv s2 h2=>?_) hs
 obtain ⟨it,fp,tn,J,H2,e,I2,T,st2,f2,W,⟨m0,w0⟩,turn⟩:=h2
 subst e
 have stat:∀ {H':Hp},(∀ b ∈ fp,H' b = none)->∀ b ∈ fp,FpOk X pins H' b:=fun hn b hb=>⟨hn b hb,(f2 b hb).2⟩
 refine codeAny_forLoop_any (fun n s'=>∃ i σ' H',Inv X pins σ' H' s'/\tn i s'.heap/\(∀ b ∈ fp,H' b = none)/\W i n σ' H') ?_ m0 ⟨0,σ,H2,I2,st2,fun b hb=>(f2 b hb).1,w0⟩
 rintro n s3 ⟨i,σ3,H3,I3,st3,fr3,w3⟩
 rcases turn i n σ3 H3 w3 with ⟨stop,qn⟩ | ⟨go,N,hN,step⟩
 ·refine wpAny_passesOwn hp (thn (T.done X rfl rfl rfl hc i pins s3 σ3 H3 X.xe I3 (stat fr3) st3 stop) fun r s4 ⟨hr,I4⟩=>?_)
  subst hr
  exact wpAny_execs_nil ⟨σ3,H3,I4,qn⟩
 ·refine wpAny_passesOwn hp (thn (T.item X rfl rfl rfl hc i pins s3 σ3 H3 X.xe I3 (stat fr3) st3 go) fun r s4 ⟨u,hr,h4⟩=>?_)
  subst hr
  refine wpAny_passesOwn hp (thn h4 fun _ s5 ⟨x,H5,I5,r5,y5,st5,fr5⟩=>?_)
  have I5':=I5.pinned (stat fr5) (T.obj _ _ st5)
  refine wpAny_passesOwn hp (thn (hg _ s5 σ3 H5 x u _ I5' r5 (step x H5 y5)) fun _ s6 ⟨σ6,H6,I6,q6⟩=>?_)
  refine wpAny_passesOwn hp (thn (hb _ s6 σ6 H6 _ I6 q6) fun f s7 q7=>?_)
  have again:∀ {σ7:St} {H7:Hp},Inv X (pins ++ pinsAt fp s5.heap) σ7 H7 s7->N σ7 H7->∃ m,m < n/\∃ i σ' H',Inv X pins σ' H' s7/\tn i s7.heap/\(∀ b ∈ fp,H' b = none)/\W i m σ' H':=fun {σ7 H7} I7 n7=>by
   obtain ⟨m',hm,w7⟩:=hN σ7 H7 n7
   refine ⟨m',hm,i + 1,σ7,H7,I7.unpinned,T.keep _ _ _ st5 fun b hb o e=>(I7.pin (b,o) (List.mem_append_right _ (List.mem_append_right _ (mem_pinsAt hb e)))).1,fun b hb=>?_,w7⟩
   obtain ⟨o,e,d⟩:=T.obj _ _ st5 b hb
   exact (I7.pin (b,o) (List.mem_append_right _ (List.mem_append_right _ (mem_pinsAt hb e)))).2.1
  cases f with
  | next=>obtain ⟨σ7,H7,I7,n7⟩:=q7;exact again I7 n7
  | cont=>obtain ⟨σ7,H7,I7,n7⟩:=q7;exact again I7 n7
  | brk=>obtain ⟨σ7,H7,I7,q7⟩:=q7;exact ⟨σ7,H7,I7.unpinned,q7⟩
  | ret v=>obtain ⟨x7,σ7,H7,I7,r7,q7⟩:=q7;exact ⟨x7,σ7,H7,I7.unpinned,r7,q7⟩
end
theorem for_list {K:PySem.W.Frag} {a:Addr} {xs:List V} {g:TG} {tb:TS} {D:Ends} {σ:St} {H:Hp} (Pv:Nat->St->Hp->Prop) (h0:Pv 0 σ H) (hl:∀ i σ H,i ≤ xs.length->Pv i σ H->SqL K H a xs)
  (hs:∀ i x σ H,xs[i]? = some x->Pv i σ H->g x σ H fun σ2 H2=>tb { D with nx:=Pv (i + 1),ct:=Pv (i + 1),bk:=D.nx } σ2 H2) (hd:∀ σ H,Pv xs.length σ H->D.nx σ H) :
  ∃ W:Nat->Nat->St->Hp->Prop,(∃ m,W 0 m σ H)/\∀ i m σ H,W i m σ H →
   ((Itl K a).stop i H/\D.nx σ H)\/((Itl K a).go i H/\∃ N:St->Hp->Prop,(∀ σ' H',N σ' H'->∃ m',m' < m/\W (i + 1) m' σ' H')/\∀ x H',(Itl K a).yld i H x H'->g x σ H' fun σ2 H2=>tb { D with nx:=N,ct:=N,bk:=D.nx } σ2 H2):=by
 refine ⟨fun i m σ H=>m = xs.length - i/\i ≤ xs.length/\Pv i σ H,⟨xs.length,by simp,Nat.zero_le _,h0⟩,?_⟩
 rintro i m σ H ⟨rfl,hi,p⟩
 have q:=hl i σ H hi p
 by_cases hlt:i < xs.length
 ·refine .inr ⟨⟨xs,xs[i],q,by simp [hlt]⟩,Pv (i + 1),fun σ' H' p'=>⟨xs.length - (i + 1),by omega,rfl,hlt,p'⟩,fun x H' y=>?_⟩
  obtain ⟨e,y⟩:=y
  subst e
  exact hs i x σ _ (y xs q) p
 ·have e:i = xs.length:=by omega
  subst e
  exact .inl ⟨⟨xs,q,Nat.le_refl _⟩,hd σ H p⟩
theorem for_tup {K:PySem.W.Frag} {a:Addr} {xs:List V} {g:TG} {tb:TS} {D:Ends} {σ:St} {H:Hp} (Pv:Nat->St->Hp->Prop) (h0:Pv 0 σ H) (hl:∀ i σ H,i ≤ xs.length->Pv i σ H->SqT K H a xs)
  (hs:∀ i x σ H,xs[i]? = some x->Pv i σ H->g x σ H fun σ2 H2=>tb { D with nx:=Pv (i + 1),ct:=Pv (i + 1),bk:=D.nx } σ2 H2) (hd:∀ σ H,Pv xs.length σ H->D.nx σ H) :
  ∃ W:Nat->Nat->St->Hp->Prop,(∃ m,W 0 m σ H)/\∀ i m σ H,W i m σ H →
   ((Itt K a).stop i H/\D.nx σ H)\/((Itt K a).go i H/\∃ N:St->Hp->Prop,(∀ σ' H',N σ' H'->∃ m',m' < m/\W (i + 1) m' σ' H')/\∀ x H',(Itt K a).yld i H x H'->g x σ H' fun σ2 H2=>tb { D with nx:=N,ct:=N,bk:=D.nx } σ2 H2):=by
 refine ⟨fun i m σ H=>m = xs.length - i/\i ≤ xs.length/\Pv i σ H,⟨xs.length,by simp,Nat.zero_le _,h0⟩,?_⟩
 rintro i m σ H ⟨rfl,hi,p⟩
 have q:=hl i σ H hi p
 by_cases hlt:i < xs.length
 ·refine .inr ⟨⟨xs,xs[i],q,by simp [hlt]⟩,Pv (i + 1),fun σ' H' p'=>⟨xs.length - (i + 1),by omega,rfl,hlt,p'⟩,fun x H' y=>?_⟩
  obtain ⟨e,y⟩:=y
  subst e
  exact hs i x σ _ (y xs q) p
 ·have e:i = xs.length:=by omega
  subst e
  exact .inl ⟨⟨xs,q,Nat.le_refl _⟩,hd σ H p⟩
theorem for_range {lo:Int} {n:Nat} {g:TG} {tb:TS} {D:Ends} {σ:St} {H:Hp} (Pv:Nat->St->Hp->Prop) (h0:Pv 0 σ H)
  (hs:∀ i σ H,i < n->Pv i σ H->g (.int (lo + i)) σ H fun σ2 H2=>tb { D with nx:=Pv (i + 1),ct:=Pv (i + 1),bk:=D.nx } σ2 H2) (hd:∀ σ H,Pv n σ H->D.nx σ H) :
  ∃ W:Nat->Nat->St->Hp->Prop,(∃ m,W 0 m σ H)/\∀ i m σ H,W i m σ H →
   ((Itr lo n).stop i H/\D.nx σ H)\/((Itr lo n).go i H/\∃ N:St->Hp->Prop,(∀ σ' H',N σ' H'->∃ m',m' < m/\W (i + 1) m' σ' H')/\∀ x H',(Itr lo n).yld i H x H'->g x σ H' fun σ2 H2=>tb { D with nx:=N,ct:=N,bk:=D.nx } σ2 H2):=by
 refine ⟨fun i m σ H=>m = n - i/\i ≤ n/\Pv i σ H,⟨n,by simp,Nat.zero_le _,h0⟩,?_⟩
 rintro i m σ H ⟨rfl,hi,p⟩
 by_cases hlt:i < n
 ·refine .inr ⟨hlt,Pv (i + 1),fun σ' H' p'=>⟨n - (i + 1),by omega,rfl,hlt,p'⟩,fun x H' y=>?_⟩
  obtain ⟨e,y⟩:=y
  subst e y
  exact hs i σ _ hlt p
 ·have e:i = n:=by omega
  subst e
  exact .inl ⟨Nat.le_refl _,hd σ H p⟩
end L2
namespace L2
open PySem PySem.Spec PyProof.Rows
abbrev R2:=V->V->Hp->VK->Prop
def OpR (X:Cx) (f:Value->Value->Sem Value) (r:R2):Prop:=
 ∀ (pins:List (Addr × Obj)) (s:Shared) (σ:St) (H:Hp) (x y:V) (v u:Value) (Q:VK),Inv X pins σ H s->RelV x v->RelV y u->r x y H Q →
  wpAny (model X.prog X.w) X.A (f v u) (EP X pins σ Q) X.xe s
def UnR (X:Cx) (f:Value->Sem Value) (r:V->Hp->VK->Prop):Prop:=
 ∀ (pins:List (Addr × Obj)) (s:Shared) (σ:St) (H:Hp) (x:V) (v:Value) (Q:VK),Inv X pins σ H s->RelV x v->r x H Q →
  wpAny (model X.prog X.w) X.A (f v) (EP X pins σ Q) X.xe s
def CallR (X:Cx) (f:Value) (r:List V->Hp->VK->Prop):Prop:=
 ∀ (pins:List (Addr × Obj)) (s:Shared) (σ:St) (H:Hp) (xs:List V) (us:List Value) (Q:VK),Inv X pins σ H s->Vals xs us->r xs H Q →
  wpAny (model X.prog X.w) X.A (call f us) (EP X pins σ Q) X.xe s
def tOp (r:R2) (ta tb:TE):TE:=fun σ H Q=>ta σ H fun x H1=>tb σ H1 fun y H2=>r x y H2 Q
def tUn (r:V->Hp->VK->Prop) (ta:TE):TE:=fun σ H Q=>ta σ H fun x H1=>r x H1 Q
def rI (C:Int->Int->Prop) (g:Int->Int->V):R2:=fun x y H Q=>∃ i j,x = .int i/\y = .int j/\C i j/\Q (g i j) H
def rI0 (g:Int->Int->V):R2:=fun x y H Q=>∃ i j,x = .int i/\y = .int j/\Q (g i j) H
def rU (g:Int->V):V->Hp->VK->Prop:=fun x H Q=>∃ i,x = .int i/\Q (g i) H
section
variable {X:Cx} {a b c:Expr} {ta tb tc:TE} {pos:Pos}
theorem binT (ha:PE X a ta) (hb:PE X b tb) {pins:List (Addr × Obj)} {s:Shared} {σ:St} {H:Hp} {R:V->V->Hp->Prop} (I:Inv X pins σ H s)
  (h:ta σ H fun x H1=>tb σ H1 fun y H2=>R x y H2) {Q:Value->Shared->Prop} {f:Value->Value->Sem Value}
  (hf:∀ v u s2 x y H2,Inv X pins σ H2 s2->RelV x v->RelV y u->R x y H2->wpAny (model X.prog X.w) X.A (f v u) Q X.xe s2) :
  wpAny (model X.prog X.w) X.A (eval a X.env) (fun v s₁=>wpAny (model X.prog X.w) X.A (eval b X.env) (fun u s₂=>wpAny (model X.prog X.w) X.A (f v u) Q X.xe s₂) X.xe s₁) X.xe s:=by
 refine thn (ha pins s σ H _ I h) fun v s1 ⟨x,H1,I1,r1,q1⟩=>?_
 refine thn (hb pins s1 σ H1 _ I1 q1) fun u s2 ⟨y,H2,I2,r2,q2⟩=>?_
 exact hf v u s2 x y H2 I2 r1 r2 q2
theorem pe_op {op:Operator} {r:R2} (ho:OpR X (binaryOp op) r) (ha:PE X a ta) (hb:PE X b tb):PE X (.BinOp a op b pos) (tOp r ta tb):=by
 intro pins s σ H Q I h
 exact wpAny_BinOp (binT ha hb I h fun v u s2 x y H2 I2 rx ry q=>ho pins s2 σ H2 x y v u Q I2 rx ry q)
theorem pe_un {op:UnaryOp} {r:V->Hp->VK->Prop} (ho:UnR X (unaryOp op) r) (ha:PE X a ta):PE X (.UnaryOp op a pos) (tUn r ta):=by
 intro pins s σ H Q I h
 exact UnaryOp_ (thn (ha pins s σ H _ I h) fun v s1 ⟨x,H1,I1,r1,q1⟩=>ho pins s1 σ H1 x v Q I1 r1 q1)
theorem opI {f:Value->Value->Sem Value} {C:Int->Int->Prop} {g:Int->Int->Int}
  (rule:∀ (i j:Int) (t u:Tok) (s:Shared) (Q:Value->Shared->Prop) (E:Value->Shared->Prop),C i j->Q (.int (g i j) s.toks) { s with toks:=s.toks + 1 }->wpAny (model X.prog X.w) X.A (f (.int i t) (.int j u)) Q E s) :
  OpR X f (rI C fun i j=>.int (g i j)):=by
 intro pins s σ H x y v u Q I rx ry h
 obtain ⟨i,j,rfl,rfl,hc,q⟩:=h
 obtain ⟨t,rfl⟩:=rx
 obtain ⟨t',rfl⟩:=ry
 exact rule i j t t' s _ _ hc ⟨.int (g i j),H,I.tok _,⟨_,rfl⟩,q⟩
theorem opI0 {f:Value->Value->Sem Value} {g:Int->Int->Int}
  (rule:∀ (i j:Int) (t u:Tok) (s:Shared) (Q:Value->Shared->Prop) (E:Value->Shared->Prop),Q (.int (g i j) s.toks) { s with toks:=s.toks + 1 }->wpAny (model X.prog X.w) X.A (f (.int i t) (.int j u)) Q E s) :
  OpR X f (rI0 fun i j=>.int (g i j)):=by
 intro pins s σ H x y v u Q I rx ry h
 obtain ⟨i,j,rfl,rfl,q⟩:=h
 obtain ⟨t,rfl⟩:=rx
 obtain ⟨t',rfl⟩:=ry
 exact rule i j t t' s _ _ ⟨.int (g i j),H,I.tok _,⟨_,rfl⟩,q⟩
theorem opB0 {f:Value->Value->Sem Value} {g:Int->Int->Bool}
  (rule:∀ (i j:Int) (t u:Tok) (s:Shared) (Q:Value->Shared->Prop) (E:Value->Shared->Prop),Q (.bool (g i j)) s->wpAny (model X.prog X.w) X.A (f (.int i t) (.int j u)) Q E s) :
  OpR X f (rI0 fun i j=>.bl (g i j)):=by
 intro pins s σ H x y v u Q I rx ry h
 obtain ⟨i,j,rfl,rfl,q⟩:=h
 obtain ⟨t,rfl⟩:=rx
 obtain ⟨t',rfl⟩:=ry
 exact rule i j t t' s _ _ ⟨.bl (g i j),H,I,rfl,q⟩
def CDiv (i j:Int):Prop:=0 < j/\j < 1073741824
def CPow (i j:Int):Prop:=0 ≤ j/\j ≤ 1000000/\i.natAbs < 2 ^ 64
def CMul (i j:Int):Prop:=(-(2 ^ 64) < i/\i < 2 ^ 64)\/(-(2 ^ 64) < j/\j < 2 ^ 64)
theorem CMul.ok {i j:Int} (h:CMul i j):IntMulOk i j:=by
 rcases h with ⟨h1,h2⟩ | ⟨h1,h2⟩
 ·exact .of_left (intBits_le_64 h1 h2)
 ·exact .of_right (intBits_le_64 h1 h2)
theorem two_pow_nn (k:Nat):(0:Int) ≤ 2 ^ k:=by
 rw [two_pow_cast]
 exact Int.natCast_nonneg _
theorem op_add:OpR X (binaryOp .Add) (rI0 fun i j=>.int (i + j)):=opI0 fun _ _ _ _ _ _ _ q=>add_int q
theorem op_sub:OpR X (binaryOp .Sub) (rI0 fun i j=>.int (i - j)):=opI0 fun _ _ _ _ _ _ _ q=>sub_int q
theorem op_mul:OpR X (binaryOp .Mult) (rI CMul fun i j=>.int (i * j)):=opI fun _ _ _ _ _ _ _ hc q=>mul_int q hc.ok
theorem op_fdiv:OpR X (binaryOp .FloorDiv) (rI CDiv fun i j=>.int (i / j)):=opI fun i j _ _ _ _ _ hc q=>by
 have h1:(0:Int) < j:=hc.1
 have h2:j < 1073741824:=hc.2
 exact floordiv_int (by omega) (by rw [Int.fdiv_eq_ediv_of_nonneg i (by omega)];exact q) (.inl (PyProof.noPylong_small (by omega)))
theorem op_mod:OpR X (binaryOp .Mod) (rI (fun _ j=>0 < j) fun i j=>.int (i % j)):=opI fun i j _ _ _ _ _ hc q=>by
 have h1:(0:Int) < j:=hc
 exact mod_int' (by omega) (by rw [Int.fmod_eq_emod_of_nonneg i (by omega)];exact q)
theorem op_pow:OpR X (binaryOp .Pow) (rI CPow fun i j=>.int (i ^ j.toNat)):=opI fun _ _ _ _ _ _ _ hc q=>pow_int_small hc.1 hc.2.1 hc.2.2 q
theorem unI {f:Value->Sem Value} {g:Int->Int}
  (rule:∀ (i:Int) (t:Tok) (s:Shared) (Q:Value->Shared->Prop) (E:Value->Shared->Prop),Q (.int (g i) s.toks) { s with toks:=s.toks + 1 }->wpAny (model X.prog X.w) X.A (f (.int i t)) Q E s) :
  UnR X f (rU fun i=>.int (g i)):=by
 intro pins s σ H x v Q I rx h
 obtain ⟨i,rfl,q⟩:=h
 obtain ⟨t,rfl⟩:=rx
 exact rule i t s _ _ ⟨.int (g i),H,I.tok _,⟨_,rfl⟩,q⟩
theorem un_neg:UnR X (unaryOp .USub) (rU fun i=>.int (-i)):=unI fun _ _ _ _ _ q=>neg_int q
end
def scal:V->V->Bool
 | .non,.non=>true | .non,.int _=>true | .int _,.non=>true | .non,.bl _=>true | .bl _,.non=>true | .non,.str _=>true | .str _,.non=>true
 | .int _,.int _=>true | .bl _,.bl _=>true | .str _,.str _=>true | .byt _,.byt _=>true
 | .int _,.str _=>true | .str _,.int _=>true | .bl _,.str _=>true | .str _,.bl _=>true
 | _,_=>false
def rEq:R2:=fun x y H Q=>scal x y = true/\Q (.bl (decide (x = y))) H
def rNe:R2:=fun x y H Q=>scal x y = true/\Q (.bl (!decide (x = y))) H
theorem dec_int {i j:Int}:decide (V.int i = V.int j) = (i == j):=by
 rw [Bool.eq_iff_iff]
 simp
theorem dec_bl {i j:Bool}:decide (V.bl i = V.bl j) = (i == j):=by
 rw [Bool.eq_iff_iff]
 simp
theorem dec_str {i j:Str}:decide (V.str i = V.str j) = (i == j):=by
 rw [Bool.eq_iff_iff]
 simp
theorem dec_byt {i j:Array UInt8}:decide (V.byt i = V.byt j) = (i.toList == j.toList):=by
 rw [Bool.eq_iff_iff]
 cases i
 cases j
 simp
section
variable {X:Cx} {a b c:Expr} {ta tb tc:TE} {pos:Pos}
theorem fin_bl {pins:List (Addr × Obj)} {σ:St} {H:Hp} {s:Shared} {Q:VK} {k k':Bool} (I:Inv X pins σ H s) (q:Q (.bl k) H) (e:k = k'):EP X pins σ Q (.bool k') s:=by
 subst e
 exact ⟨.bl k,H,I,rfl,q⟩
theorem op_eq:OpR X (compareOp .Eq) rEq:=by
 intro pins s σ H x y v u Q I rx ry h
 obtain ⟨hs,q⟩:=h
 cases x with
 | non=>
  cases rx
  cases y with
  | non=>cases ry;exact PySem.EqNone.eq_none_none (fin_bl I q (by simp))
  | bl j=>cases ry;exact PySem.EqNone.eq_none_bool (fin_bl I q (by simp))
  | int j=>obtain ⟨t',rfl⟩:=ry;exact PySem.EqNone.eq_none_int (fin_bl I q (by simp))
  | str j=>obtain ⟨t',rfl⟩:=ry;exact PySem.EqNone.eq_none_str (fin_bl I q (by simp))
  | _=>exact absurd (show false = true from hs) Bool.false_ne_true
 | bl i=>
  cases rx
  cases y with
  | non=>cases ry;exact PySem.EqNone.eq_bool_none (fin_bl I q (by simp))
  | bl j=>cases ry;exact eq_bool (fin_bl I q dec_bl)
  | str j=>obtain ⟨t',rfl⟩:=ry;exact PySem.EqMixed.eq_bool_str (fin_bl I q (by simp))
  | _=>exact absurd (show false = true from hs) Bool.false_ne_true
 | int i=>
  obtain ⟨t,rfl⟩:=rx
  cases y with
  | non=>cases ry;exact PySem.EqNone.eq_int_none (fin_bl I q (by simp))
  | int j=>obtain ⟨t',rfl⟩:=ry;exact eq_int (fin_bl I q dec_int)
  | str j=>obtain ⟨t',rfl⟩:=ry;exact PySem.EqMixed.eq_int_str (fin_bl I q (by simp))
  | _=>exact absurd (show false = true from hs) Bool.false_ne_true
 | str i=>
  obtain ⟨t,rfl⟩:=rx
  cases y with
  | non=>cases ry;exact PySem.EqNone.eq_str_none (fin_bl I q (by simp))
  | bl j=>cases ry;exact PySem.EqMixed.eq_str_bool (fin_bl I q (by simp))
  | int j=>obtain ⟨t',rfl⟩:=ry;exact PySem.EqMixed.eq_str_int (fin_bl I q (by simp))
  | str j=>obtain ⟨t',rfl⟩:=ry;exact eq_str (fin_bl I q dec_str)
  | _=>exact absurd (show false = true from hs) Bool.false_ne_true
 | byt i=>
  obtain ⟨t,rfl⟩:=rx
  cases y with
  | byt j=>obtain ⟨t',rfl⟩:=ry;exact PySem.W.eq_bytes (fin_bl I q dec_byt)
  | _=>exact absurd (show false = true from hs) Bool.false_ne_true
 | _=>cases y <;> exact absurd (show false = true from hs) Bool.false_ne_true
theorem op_ne:OpR X (compareOp .NotEq) rNe:=by
 intro pins s σ H x y v u Q I rx ry h
 obtain ⟨hs,q⟩:=h
 cases x with
 | non=>
  cases rx
  cases y with
  | non=>cases ry;exact PySem.EqNone.ne_none_none (fin_bl I q (by simp))
  | bl j=>cases ry;exact PySem.EqNone.ne_none_bool (fin_bl I q (by simp))
  | int j=>obtain ⟨t',rfl⟩:=ry;exact PySem.EqNone.ne_none_int (fin_bl I q (by simp))
  | str j=>obtain ⟨t',rfl⟩:=ry;exact PySem.EqNone.ne_none_str (fin_bl I q (by simp))
  | _=>exact absurd (show false = true from hs) Bool.false_ne_true
 | bl i=>
  cases rx
  cases y with
  | non=>cases ry;exact PySem.EqNone.ne_bool_none (fin_bl I q (by simp))
  | bl j=>cases ry;exact ne_bool (fin_bl I q (congrArg not dec_bl))
  | str j=>obtain ⟨t',rfl⟩:=ry;exact PySem.EqMixed.ne_bool_str (fin_bl I q (by simp))
  | _=>exact absurd (show false = true from hs) Bool.false_ne_true
 | int i=>
  obtain ⟨t,rfl⟩:=rx
  cases y with
  | non=>cases ry;exact PySem.EqNone.ne_int_none (fin_bl I q (by simp))
  | int j=>obtain ⟨t',rfl⟩:=ry;exact ne_int (fin_bl I q (congrArg not dec_int))
  | str j=>obtain ⟨t',rfl⟩:=ry;exact PySem.EqMixed.ne_int_str (fin_bl I q (by simp))
  | _=>exact absurd (show false = true from hs) Bool.false_ne_true
 | str i=>
  obtain ⟨t,rfl⟩:=rx
  cases y with
  | non=>cases ry;exact PySem.EqNone.ne_str_none (fin_bl I q (by simp))
  | bl j=>cases ry;exact PySem.EqMixed.ne_str_bool (fin_bl I q (by simp))
  | int j=>obtain ⟨t',rfl⟩:=ry;exact PySem.EqMixed.ne_str_int (fin_bl I q (by simp))
  | str j=>obtain ⟨t',rfl⟩:=ry;exact ne_str (fin_bl I q (congrArg not dec_str))
  | _=>exact absurd (show false = true from hs) Bool.false_ne_true
 | byt i=>
  obtain ⟨t,rfl⟩:=rx
  cases y with
  | byt j=>obtain ⟨t',rfl⟩:=ry;exact PySem.W.ne_bytes (fin_bl I q (congrArg not dec_byt))
  | _=>exact absurd (show false = true from hs) Bool.false_ne_true
 | _=>cases y <;> exact absurd (show false = true from hs) Bool.false_ne_true
theorem op_lt:OpR X (compareOp .Lt) (rI0 fun i j=>.bl (decide (i < j))):=opB0 fun _ _ _ _ _ _ _ q=>lt_int q
theorem op_le:OpR X (compareOp .LtE) (rI0 fun i j=>.bl (decide (i ≤ j))):=opB0 fun _ _ _ _ _ _ _ q=>le_int q
theorem op_gt:OpR X (compareOp .Gt) (rI0 fun i j=>.bl (decide (j < i))):=opB0 fun _ _ _ _ _ _ _ q=>gt_int q
theorem op_ge:OpR X (compareOp .GtE) (rI0 fun i j=>.bl (decide (j ≤ i))):=opB0 fun _ _ _ _ _ _ _ q=>ge_int q
theorem op_in_str:OpR X (compareOp .In) (fun x y H Q=>∃ i j,x = .str i/\y = .str j/\Q (.bl (!(Builtin.Str.occurrences j i 0 j.length 1).isEmpty)) H):=by
 intro pins s σ H x y v u Q I rx ry h
 obtain ⟨i,j,rfl,rfl,q⟩:=h
 obtain ⟨t,rfl⟩:=rx
 obtain ⟨t',rfl⟩:=ry
 exact in_str (fin_bl I q rfl)
theorem op_isN:OpR X (compareOp .Is) (fun x y H Q=>y = .non/\Q (.bl (decide (x = .non))) H):=by
 intro pins s σ H x y v u Q I rx ry h
 obtain ⟨rfl,q⟩:=h
 cases ry
 refine is_none_gen (fin_bl I q ?_)
 cases x <;> first
  | (cases rx;rfl)
  | (obtain ⟨t,rfl⟩:=rx;rfl)
theorem nomark (b:Expr) {op:CmpOp} (h:op ≠ .In:=by decide) (h2:op ≠ .NotIn:=by decide):behindInMarks op b = false:=by
 have e1:(op == CmpOp.In) = false:=by cases op <;> first | rfl | exact absurd rfl h
 have e2:(op == CmpOp.NotIn) = false:=by cases op <;> first | rfl | exact absurd rfl h2
 cases b <;> simp [behindInMarks,e1,e2]
theorem pe_cmpR {op:CmpOp} {r:R2} (ho:OpR X (compareOp op) r) (ha:PE X a ta) (hb:PE X b tb) (hm:behindInMarks op b = false):PE X (.Compare a [op] [b] pos) (tOp r ta tb):=by
 intro pins s σ H Q I h
 exact wpAny_Compare1 (binT ha hb I h fun v u s2 x y H2 I2 rx ry q=>ho pins s2 σ H2 x y v u Q I2 rx ry q) hm
def tTest (t:TE):TT:=fun σ H Q=>t σ H fun x H'=>∃ k,x = .bl k/\Q k H'
theorem pt_cmpR {op:CmpOp} {r:R2} (ho:OpR X (compareOp op) r) (ha:PE X a ta) (hb:PE X b tb) (hm:behindInMarks op b = false):PT X (.Compare a [op] [b] pos) (tTest (tOp r ta tb)):=by
 intro pins s σ H Q I h
 refine wpAny_isTrue_Compare1 (thn (ha pins s σ H _ I h) fun v s1 ⟨x,H1,I1,r1,q1⟩=>thn (hb pins s1 σ H1 _ I1 q1) fun u s2 ⟨y,H2,I2,r2,q2⟩=>
  thn (ho pins s2 σ H2 x y v u _ I2 r1 r2 q2) fun c s3 ⟨z,H3,I3,r3,k,e,q3⟩=>?_) hm
 subst e
 cases r3
 exact wpAny_truthy_bool ⟨H3,I3,q3⟩
def tChain (r r':R2) (ta tb tc:TE):TE:=fun σ H Q=>ta σ H fun x H1=>tb σ H1 fun y H2=>r x y H2 fun z H3=>∃ k,z = .bl k ∧
 (if k = true then tc σ H3 fun w' H4=>r' y w' H4 Q else Q (.bl false) H3)
theorem pe_chain {op op':CmpOp} {r r':R2} (ho:OpR X (compareOp op) r) (ho':OpR X (compareOp op') r') (ha:PE X a ta) (hb:PE X b tb) (hc:PE X c tc)
  (hm:lastMarks [op,op'] [b,c] = false:=by with_unfolding_all rfl):PE X (.Compare a [op,op'] [b,c] pos) (tChain r r' ta tb tc):=by
 intro pins s σ H Q I h
 refine Compare_chain (thn (ha pins s σ H _ I h) fun v s1 ⟨x,H1,I1,r1,q1⟩=>chain_link (thn (hb pins s1 σ H1 _ I1 q1) fun u s2 ⟨y,H2,I2,r2,q2⟩=>
  thn (ho pins s2 σ H2 x y v u _ I2 r1 r2 q2) fun d s3 ⟨z,H3,I3,r3,k,e,q3⟩=>?_)) hm
 subst e
 cases r3
 refine wpAny_truthy_bool ?_
 cases k with
 | false=>exact ite_ff ⟨.bl false,H3,I3,rfl,q3⟩
 | true=>exact ite_tt (chain_last (thn (hc pins s3 σ H3 _ I3 q3) fun w' s4 ⟨z',H4,I4,r4,q4⟩=>ho' pins s4 σ H4 y z' u w' Q I4 r2 r4 q4))
theorem pt_chain {op op':CmpOp} {r r':R2} (ho:OpR X (compareOp op) r) (ho':OpR X (compareOp op') r') (ha:PE X a ta) (hb:PE X b tb) (hc:PE X c tc)
  (hm:lastMarks [op,op'] [b,c] = false:=by with_unfolding_all rfl):PT X (.Compare a [op,op'] [b,c] pos) (tTest (tChain r r' ta tb tc)):=by
 intro pins s σ H Q I h
 refine isTrue_chain (thn (ha pins s σ H _ I h) fun v s1 ⟨x,H1,I1,r1,q1⟩=>test_link (thn (hb pins s1 σ H1 _ I1 q1) fun u s2 ⟨y,H2,I2,r2,q2⟩=>
  thn (ho pins s2 σ H2 x y v u _ I2 r1 r2 q2) fun d s3 ⟨z,H3,I3,r3,k,e,q3⟩=>?_)) hm
 subst e
 cases r3
 refine wpAny_truthy_bool ?_
 cases k with
 | false=>
  obtain ⟨k',e',q'⟩:=q3
  cases e'
  exact ite_ff ⟨H3,I3,q'⟩
 | true=>
  refine ite_tt (test_last (thn (hc pins s3 σ H3 _ I3 q3) fun w' s4 ⟨z',H4,I4,r4,q4⟩=>thn (ho' pins s4 σ H4 y z' u w' _ I4 r2 r4 q4) fun d' s5 ⟨z2,H5,I5,r5,k2,e2,q5⟩=>?_))
  subst e2
  cases r5
  exact wpAny_truthy_bool ⟨H5,I5,q5⟩
theorem line63:(sizeLine:Nat) < 2 ^ 63:=by rw [sizeLine_eq];decide
theorem op_add_str:OpR X (binaryOp .Add) (fun x y H Q=>∃ i j,x = .str i/\y = .str j/\i.length + j.length ≤ sizeLine/\Q (.str (i ++ j)) H):=by
 intro pins s σ H x y v u Q I rx ry h
 obtain ⟨i,j,rfl,rfl,hz,q⟩:=h
 obtain ⟨t,rfl⟩:=rx
 obtain ⟨t',rfl⟩:=ry
 exact add_str (fun t' tk=>⟨.str (i ++ j),H,I.tok _,⟨_,rfl⟩,q⟩) hz
theorem vals1 {x:V} {us:List Value} (r:Vals [x] us):∃ u,us = [u]/\RelV x u:=by
 cases r with
 | cons r1 r2=>cases r2;exact ⟨_,rfl,r1⟩
theorem vals2 {x y:V} {us:List Value} (r:Vals [x,y] us):∃ u w',us = [u,w']/\RelV x u/\RelV y w':=by
 cases r with
 | cons r1 r2=>
  cases r2 with
  | cons r3 r4=>cases r4;exact ⟨_,_,rfl,r1,r3⟩
theorem call_max2 (hc:X.calm = true):CallR X (.builtin "max") (fun xs H Q=>∃ i j,xs = [.int i,.int j]/\Q (.int (if j > i then j else i)) H):=by
 intro pins s σ H xs us Q I r h
 obtain ⟨i,j,rfl,q⟩:=h
 obtain ⟨u,w',rfl,⟨t,rfl⟩,⟨t',rfl⟩⟩:=vals2 r
 refine max_two_ints (I.ok.hd hc) fun h' tk k=>⟨_,H,I.kept k,?_,q⟩
 by_cases hj:j > i
 ·rw [if_pos hj,if_pos hj];exact ⟨_,rfl⟩
 ·rw [if_neg hj,if_neg hj];exact ⟨_,rfl⟩
theorem call_int1:CallR X (.type "int") (fun xs H Q=>(∃ i,xs = [.int i]/\Q (.int i) H)\/∃ k,xs = [.bl k]/\Q (.int (if k then 1 else 0)) H):=by
 intro pins s σ H xs us Q I r h
 rcases h with ⟨i,rfl,q⟩ | ⟨k,rfl,q⟩
 ·obtain ⟨u,rfl,t,rfl⟩:=vals1 r
  exact call_int_int ⟨.int i,H,I,⟨_,rfl⟩,q⟩
 ·obtain ⟨u,rfl,r1⟩:=vals1 r
  cases r1
  exact call_int_bool ⟨.int (if k then 1 else 0),H,I.tok _,⟨_,rfl⟩,q⟩
theorem call_ord:CallR X (.builtin "ord") (fun xs H Q=>∃ x,xs = [.str x]/\x.length = 1/\Q (.int (x.cps.getD 0 0:Nat)) H):=by
 intro pins s σ H xs us Q I r h
 obtain ⟨x,rfl,hz,q⟩:=h
 obtain ⟨u,rfl,t,rfl⟩:=vals1 r
 exact ord_of_one hz ⟨.int _,H,I.tok _,⟨_,rfl⟩,q⟩
end
end L2
namespace L2
open PySem PySem.Spec PyProof.Rows
structure ObjM (h:Heap) (x dx C:Addr) (mA:Str->Option Value):Prop where
 obj:h.get? x = some (PySem.W.instObj C dx)
 ns:h.Ns1 dx mA
 ne:dx ≠ x
theorem lookIn_ns {h:Heap} {dx:Addr} {mA:Str->Option Value} (n:h.Ns1 dx mA):∃ od,h.get? dx = some od/\∀ name,PySem.W.lookIn name od = some (mA name):=by
 obtain ⟨o,es,ep,ho,hd,hk,_,hm⟩:=n
 refine ⟨o,ho,fun name=>?_⟩
 have e:=hm name
 unfold nsFind findBy at e
 rw [← Array.find?_toList] at e
 unfold PySem.W.lookIn
 rw [hd]
 dsimp only
 split
 ·rename_i y q
  rw [q] at e
  exact congrArg some e
 ·rename_i q
  rw [q] at e
  have a:es.toList.any (·.refKey) = false:=by
   rw [List.any_eq_false]
   intro y hy
   obtain ⟨z,t,hkey⟩:=hk y (Array.mem_toList_iff.mp hy)
   simp [DictEntry.refKey,hkey]
  have a':¬ es.toList.any (·.refKey) = true:=by rw [a];exact Bool.false_ne_true
  rw [if_neg a']
  exact congrArg some e
theorem ObjM.look {h:Heap} {x dx C:Addr} {mA:Str->Option Value} (I:ObjM h x dx C mA):∃ od,PySem.W.InstAt h x (PySem.W.instObj C dx) C (some od)/\∀ name,PySem.W.lookIn name od = some (mA name):=
 let ⟨od,ho,hl⟩:=lookIn_ns I.ns
 ⟨od,⟨I.obj,rfl,rfl,ho⟩,hl⟩
section
variable {prog:Program} {w:World} {A:Around} {E:Value->Shared->Prop} {s:Shared} {K:PySem.W.Frag} {x dx C f:Addr} {mA:Str->Option Value} {name:Str} {v:Value}
end
theorem RelO.some_of {v:V} {o:Option Value} (r:RelO (some v) o):∃ u,o = some u/\RelV v u:=by
 cases o with
 | none=>exact (show False from r).elim
 | some u=>exact ⟨u,rfl,r⟩
section
variable {P:Program} {w:World} {H H':Hp} {h h':Heap} {a C dx:Addr} {fs fs':List (Str × V)}
theorem ins_get (hok:HOk P w H h) (e:H a = some (.ins C dx fs)):∃ mA,ObjM h a dx C mA/\(∀ f,RelO (fs.lookup f) (mA f))/\PySem.Within mA (fs.map (·.1))/\fs.length ≤ 1000/\H dx = some (.own a):=by
 obtain ⟨d,z,ne,ob,mA,n,r,q⟩:=(show ObjOk P w H h a (.ins C dx fs) from hok a _ e)
 exact ⟨mA,⟨ob,n,ne⟩,r,q,z,d⟩
end
structure Cls (K:PySem.W.Frag) (C:Addr):Prop where
 pg:PySem.W.plainGet K C Str.empty = true
 hd:PySem.W.hasDictIn K C = true
 po:PySem.W.plainOver K C = true
 sa:PySem.W.findIn K (.ref C) "__setattr__" = some (some (.builtin "object.__setattr__"))
theorem Cls.get {K:PySem.W.Frag} {C:Addr} (c:Cls K C) (f:Str):PySem.W.plainGet K C f = true:=c.pg
section
variable {X:Cx} {pins:List (Addr × Obj)} {σ:St} {H:Hp} {s:Shared} {a C dx:Addr} {fs:List (Str × V)} {f:Str} {v:V} {A:Around} {E:Value->Shared->Prop}
end
section
variable {X:Cx} {o e value:Expr} {f:Str} {pos pos' tpos:Pos} {ta tv:TE}
end
section
variable {X:Cx} {pins:List (Addr × Obj)} {σ:St} {H:Hp} {s:Shared} {A:Around} {E:Value->Shared->Prop} {Q:Value->Shared->Prop} {c:Value} {b:Bool}
inductive TyOf (K:PySem.W.Frag) (H:Hp):V->Value->Prop where
 | non:TyOf K H .non (.type "NoneType")
 | bl (x:Bool):TyOf K H (.bl x) (.type "bool")
 | int (i:Int):TyOf K H (.int i) (.type "int")
 | str (x:Str):TyOf K H (.str x) (.type "str")
 | flt (x:UInt64):TyOf K H (.flt x) (.type "float")
 | lst {a:Addr} {xs:List V} (e:H a = some (.lst xs)):TyOf K H (.ref a) (.type "list")
 | frz {a:Addr} {o:Obj} {xs:List V} (e:H a = some (.frz o (.lst xs))):TyOf K H (.ref a) (.type "list")
 | tup {a:Addr} {xs:List V} (e:H a = some (.tup xs)):TyOf K H (.ref a) (.type "tuple")
 | dK {a:Addr} {kvs:List (Key × V)} (e:H a = some (.dK kvs)):TyOf K H (.ref a) (.type "dict")
 | dT {a:Addr} {kvs:List (List Key × V)} (e:H a = some (.dT kvs)):TyOf K H (.ref a) (.type "dict")
 | ins {a C dx:Addr} {fs:List (Str × V)} (e:H a = some (.ins C dx fs)) (cl:Cls K C) (ha:PySem.W.findIn K (.ref C) "__class__" = some (some (.builtin "object.__class__")))
   (hn:PySem.W.specialIn K (.builtin "object.__class__") "__get__" = some (some (.builtin "getset_descriptor.__get__"))) (htk:PySem.W.takesIn K (.builtin "object.__class__") = some true)
   (hm:PySem.W.mroIn K C (.type "object") = some true):TyOf K H (.ref a) (.ref C)
theorem isinst_ok {x:V} {u t:Value} (I:Inv X pins σ H s) (rx:RelV x u) (ty:TyOf X.K H x t) (e:PySem.W.kitOne X.K t c = some b) (h:∀ tk,Q (.bool b) { s with toks:=tk }) :
  wpAny (model X.prog X.w) A (call (.builtin "isinstance") [u,c]) Q E s:=by
 cases ty with
 | non=>cases (show u = Value.none from rx);exact PySem.W.kia_one PySem.W.kitx_none I.kIn True.intro e (fun z=>nomatch z) h
 | bl y=>cases (show u = Value.bool y from rx);exact PySem.W.kia_one PySem.W.kitx_bool I.kIn True.intro e (fun z=>nomatch z) h
 | int i=>obtain ⟨t,q⟩:=(show ∃ t,u = Value.int i t from rx);cases q;exact PySem.W.kia_one PySem.W.kitx_int I.kIn True.intro e (fun z=>nomatch z) h
 | str y=>obtain ⟨t,q⟩:=(show ∃ t,u = Value.str y t from rx);cases q;exact PySem.W.kia_one PySem.W.kitx_str I.kIn True.intro e (fun z=>nomatch z) h
 | flt y=>obtain ⟨t,q⟩:=(show ∃ t,u = Value.float y t from rx);cases q;exact PySem.W.kia_one PySem.W.kitx_float I.kIn True.intro e (fun z=>nomatch z) h
 | @lst a xs ea=>
  cases (show u = Value.ref a from rx)
  obtain ⟨_,_,n,_,h1⟩:=(show ObjOk X.prog X.w H s.heap a (.lst xs) from I.hok a _ ea)
  exact PySem.W.kia_one PySem.W.kitx_list I.kIn ⟨_,h1,rfl⟩ e (fun z=>nomatch z) h
 | @frz a ob xs ea=>
  cases (show u = Value.ref a from rx)
  obtain ⟨_,_,_,n,_,h1⟩:=(show ObjOk X.prog X.w H s.heap a (.frz ob (.lst xs)) from I.hok a _ ea)
  exact PySem.W.kia_one PySem.W.kitx_list I.kIn ⟨_,h1,rfl⟩ e (fun z=>nomatch z) h
 | @tup a xs ea=>
  cases (show u = Value.ref a from rx)
  obtain ⟨_,_,_,p⟩:=(show ObjOk X.prog X.w H s.heap a (.tup xs) from I.hok a _ ea)
  obtain ⟨o,h1,h2,_⟩:=p
  exact PySem.W.kia_one PySem.W.kitx_tuple I.kIn ⟨o,h1,h2⟩ e (fun z=>nomatch z) h
 | @dK a kvs ea=>
  cases (show u = Value.ref a from rx)
  obtain ⟨_,_,vs,_,p⟩:=(show ObjOk X.prog X.w H s.heap a (.dK kvs) from I.hok a _ ea)
  obtain ⟨o,es,ep,h1,h2,_⟩:=p
  exact PySem.W.kia_one PySem.W.kitx_dict I.kIn ⟨o,h1,h2.1⟩ e (fun z=>nomatch z) h
 | @dT a kvs ea=>
  cases (show u = Value.ref a from rx)
  obtain ⟨_,_,xs,_,o,es,ep,h1,h2,_⟩:=(show ObjOk X.prog X.w H s.heap a (.dT kvs) from I.hok a _ ea)
  exact PySem.W.kia_one PySem.W.kitx_dict I.kIn ⟨o,h1,h2.1⟩ e (fun z=>nomatch z) h
 | @ins a C dx fs ea cl ha hn htk hm=>
  cases (show u = Value.ref a from rx)
  obtain ⟨mA,O,_⟩:=ins_get I.hok ea
  obtain ⟨od,J,_⟩:=O.look
  exact PySem.W.kia_one (PySem.W.kitx_own (cl.get _) cl.hd ha hn htk hm) I.kIn J e (fun z=>nomatch z) h
end
end L2
namespace L2
open PySem PySem.Spec PyProof.Rows
structure Room (k:Nat) (A:Around):Prop where
 hd:A.handled = none
 dp:A.depth + 3 * k + 5 < recursionLimit
 un:A.units + 16 * k + 200 < cLine
theorem Room.mono {j k:Nat} {A:Around} (r:Room k A) (h:j ≤ k):Room j A:=⟨r.hd,by have:=r.dp;omega,by have:=r.un;omega⟩
theorem Room.deeper {k:Nat} {A:Around} (r:Room (k + 1) A) (env:Env):Room k (A.deeper env):=
 ⟨r.hd,by have:=r.dp;show A.depth + 1 + 3 * k + 5 < _;omega,by have:=r.un;show A.units + 3 + 16 * k + 200 < _;omega⟩
theorem Room.in1 {k:Nat} {A:Around} (r:Room (k + 1) A):Room k A.in1:=
 ⟨r.hd,by have:=r.dp;show A.depth + 3 * k + 5 < _;omega,by have:=r.un;show A.units + 1 + 16 * k + 200 < _;omega⟩
theorem Room.depth {k:Nat} {A:Around} (r:Room k A):A.depth < recursionLimit:=by have:=r.dp;omega
theorem Room.units {k:Nat} {A:Around} (r:Room k A):A.units + 64 < cLine:=by have:=r.un;omega
theorem Room.units0 {k:Nat} {A:Around} (r:Room k A):A.units < cLine:=by have:=r.un;omega
def tNil:TA:=fun _ H Q=>Q [] H
def tCons (ta:TE) (tr:TA):TA:=fun σ H Q=>ta σ H fun x H1=>tr σ H1 fun xs H2=>Q (x :: xs) H2
section
variable {X:Cx} {e:Expr} {es:List Expr} {te:TE} {t:TA} {pos:Pos}
theorem pa_nil:PA X [] tNil:=fun _ _ _ _ H Q I h=>Calls.spliced_nil ⟨[],H,I,.nil,h⟩
theorem pa_cons (ha:PE X e te) (hr:PA X es t) (hs:starEach (e :: es) X.env = (false,eval e X.env) :: starEach es X.env:=by rfl):PA X (e :: es) (tCons te t):=by
 intro pos pins s σ H Q I h
 rw [hs]
 show wpAny _ _ (spliced ((false,eval e X.env) :: backTo pos (starEach es X.env))) _ _ s
 refine Calls.spliced_cons (thn (ha pins s σ H _ I h) fun u s1 ⟨x,H1,I1,r1,q1⟩=>?_)
 exact thn (hr pos pins s1 σ H1 _ I1 q1) fun us s2 ⟨xs,H2,I2,r2,q2⟩=>⟨x :: xs,H2,I2,.cons r1 r2,q2⟩
def tTup (t:TA):TE:=fun σ H Q=>t σ H fun xs H1=>xs.length ≤ sizeLine/\∀ p,H1 p = none->Q (.ref p) (upd H1 p (.tup xs))
def tLst (t:TA):TE:=fun σ H Q=>t σ H fun xs H1=>xs.length ≤ sizeLine/\∀ p,H1 p = none->Q (.ref p) (upd H1 p (.lst xs))
theorem pe_tup {x1} (h:PA X es t):PE X (.Tuple es x1 pos) (tTup t):=by
 intro pins s σ H Q I hq
 refine wpAny_Tuple_spliced (thn (h pos pins s σ H _ I hq) fun us s1 ⟨xs,H1,I1,r,z,q⟩=>⟨by rw [← r.length];exact z,?_⟩)
 have hf:H1 s1.heap.objs.size = none:=I1.hok.fresh (Nat.le_refl _)
 refine ⟨.ref s1.heap.objs.size,upd H1 s1.heap.objs.size (.tup xs),I1.laid (t':=s1.toks) (fun b u e=>Heap.get?_push_of_some _ e) (Nat.le_refl _) ?_,rfl,q _ hf⟩
 exact ⟨z,us,r,⟨_,Heap.get?_push_size _ rfl,rfl,_,rfl⟩⟩
theorem pe_lst (h:PA X es t):PE X (.List es pos) (tLst t):=by
 intro pins s σ H Q I hq
 refine wpAny_List_spliced (thn (h pos pins s σ H _ I hq) fun us s1 ⟨xs,H1,I1,r,z,q⟩=>⟨by rw [← r.length];exact z,?_⟩)
 have hf:H1 s1.heap.objs.size = none:=I1.hok.fresh (Nat.le_refl _)
 refine ⟨.ref s1.heap.objs.size,upd H1 s1.heap.objs.size (.lst xs),I1.laid (t':=s1.toks) (fun b u e=>Heap.get?_push_of_some _ e) (Nat.le_refl _) ?_,rfl,q _ hf⟩
 exact ⟨z,us,0,r,Heap.get?_push_size _ rfl⟩
end
abbrev Sp:=List V->Hp->VK->XK->Prop
abbrev CXT:=List Env->Hp->Shared->XK->Value->Shared->Prop
structure Env0 (P:Program) (w:World) (K:PySem.W.Frag) (mg:Str->Option Value) (base:Heap) (A:Around) (outer:List Env) (s:Shared) (H:Hp):Prop where
 frames:A.frames = some outer
 mod:Mod K mg base
 bs:∀ b o,base.get? b = some o->s.heap.get? b = some o/\H b = none
 bsz:base.objs.size ≤ s.heap.objs.size
 funs:s.heap.FunFrames base outer
 frf:∀ b ∈ frs outer,H b = none
 hok:HOk P w H s.heap
 bare:AllBare s.gens
def CE (outer:List Env) (P:Program) (w:World) (H:Hp) (s:Shared) (Q:VK) (u:Value) (s':Shared):Prop:=
 ∃ v H',s'.os = s.os/\AllBare s'.gens/\Un (frs outer) [] H H' s.heap s'.heap/\HOk P w H' s'.heap/\RelV v u/\Q v H'
def CR (CX:CXT) (outer:List Env) (P:Program) (w:World) (H:Hp) (s:Shared) (Q:VK) (E:XK) (r:Result) (s':Shared):Prop:=
 match r with
 | .ok (.ret u)=>CE outer P w H s Q u s'
 | .ok _=>False
 | .error e=>CX outer H s E e s'
structure FnOk (P:Program) (w:World) (K:PySem.W.Frag) (mg:Str->Option Value) (base:Heap) (CX:CXT) (k:Nat) (f:Addr) (fd:FuncData) (ps:List Str) (sp:Sp):Prop where
 len:∀ vs H Q E,sp vs H Q E->vs.length = ps.length
 run:∀ (A:Around) (outer:List Env) (s:Shared) (H:Hp) (args:Args) (us:List Value) (vs:List V) (Q:VK) (E:XK),Room k A->Env0 P w K mg base A outer s H->BindsTo s fd args (ps.zip us)->Vals vs us->sp vs H Q E →
  codeAny (model P w) A (.call (.ref f) args) (CR CX outer P w H s Q E) s
theorem Env0.in1 {P:Program} {w:World} {K:PySem.W.Frag} {mg:Str->Option Value} {base:Heap} {A:Around} {outer:List Env} {s:Shared} {H:Hp} (e:Env0 P w K mg base A outer s H) :
  Env0 P w K mg base A.in1 outer s H:=⟨e.frames,e.mod,e.bs,e.bsz,e.funs,e.frf,e.hok,e.bare⟩
section
variable {X:Cx} {pins:List (Addr × Obj)} {σ:St} {H:Hp} {s s':Shared}
theorem Inv.env0 (I:Inv X pins σ H s):Env0 X.prog X.w X.K X.mg X.base X.A X.stack s H:=
 ⟨I.ok.frames,I.ok.mod,I.bs,Nat.le_trans I.ok.bsz I.sz,I.stack,I.stkFree,I.hok,I.bare⟩
theorem Inv.after {Q:VK} {u:Value} (I:Inv X pins σ H s) (h:CE X.stack X.prog X.w H s Q u s'):EP X pins σ Q u s':=by
 obtain ⟨v,H',os,bare,un,hok,r,q⟩:=h
 obtain ⟨hh,g,d,t,os'⟩:=s'
 obtain rfl:os' = s.os:=os
 exact ⟨v,H',I.call (h':=hh) (g':=g) (d':=d) (t':=t) (ch:=[]) un hok bare (fun b z=>absurd z (by simp)),r,q⟩
end
def tCall (sp:Sp) (dvs:List V) (E:XK) (t:TA):TE:=fun σ H Q=>t σ H fun vs H1=>sp (vs ++ dvs) H1 Q E
def Binds (K:PySem.W.Frag) (fd:FuncData) (ps:List Str) (ds:List Value):Prop:=
 ∀ (s:Shared) (us:List Value),K.In s.heap->(us ++ ds).length = ps.length->BindsTo s fd ⟨us,[]⟩ (ps.zip (us ++ ds))
theorem Binds.all {K:PySem.W.Frag} {fd:FuncData} {ps:List Str} (h:∀ us:List Value,us.length = ps.length->bindArgs fd ⟨us,[]⟩ = pure (ps.zip us)):Binds K fd ps []:=fun s us _ hl=>by
 rw [List.append_nil] at hl ⊢
 exact .of_eq (h us hl)
def Passes (CX:CXT) (X:Cx) (E:XK):Prop:=∀ (pins:List (Addr × Obj)) (σ:St) (H:Hp) (s:Shared) (e:Value) (s':Shared),Inv X pins σ H s->CX X.stack H s E e s'->X.xe e s'
section
variable {X:Cx} {CX:CXT} {k:Nat} {f C:Addr} {fd:FuncData} {ps:List Str} {sp:Sp} {dvs:List V} {ds:List Value} {E:XK} {x m:Str} {p pos apos:Pos} {e o:Expr} {es:List Expr} {ta:TE} {t:TA}
theorem run_fn {pins:List (Addr × Obj)} {σ:St} {H:Hp} {s:Shared} {Q:VK} {us:List Value} {vs:List V} (F:FnOk X.prog X.w X.K X.mg X.base CX k f fd ps sp) (hr:Room k X.A) (hb:Binds X.K fd ps ds) (hd:Vals dvs ds) (hx:Passes CX X E)
  (I:Inv X pins σ H s) (r:Vals vs us) (h:sp (vs ++ dvs) H Q E):wpAny (model X.prog X.w) X.A (call (.ref f) us) (EP X pins σ Q) X.xe s:=by
 have r2:Vals (vs ++ dvs) (us ++ ds):=r.append hd
 have hl:(us ++ ds).length = ps.length:=by rw [← r2.length];exact F.len _ _ _ _ h
 refine wpAny_call (codeAny_mono (F.run X.A X.stack s H ⟨us,[]⟩ (us ++ ds) (vs ++ dvs) Q E hr I.env0 (hb s us I.kIn hl) r2 h) fun r s' hq=>?_)
 cases r with
 | error e=>exact hx pins σ H s e s' I hq
 | ok fl=>
  cases fl with
  | ret u=>exact I.after hq
  | next=>exact False.elim hq
  | brk=>exact False.elim hq
  | cont=>exact False.elim hq
theorem pe_call (F:FnOk X.prog X.w X.K X.mg X.base CX k f fd ps sp) (hr:Room k X.A) (hg:Gl X x) (hm:X.mg x = some (.ref f)) (hk:PySem.W.keepIn X.K (.ref f) = true) (hb:Binds X.K fd ps ds) (hd:Vals dvs ds) (hx:Passes CX X E)
  (ha:PA X (e :: es) t) (hdb:(x == ("__debug__":Str)) = false:=by decide) (he:starEach (e :: es) X.env = (false,eval e X.env) :: starEach es X.env:=by rfl) (hpl:(backTo pos (starEach es X.env)).any (·.1) = false:=by rfl) :
  PE X (.Call (.Name x p) (e :: es) [] pos) (tCall sp dvs E t):=by
 intro pins s σ H Q I h
 refine wpAny_Call_Name_kw (ld_glob I hg hm ?_ hdb)
 refine PySem.W.callWith_K (h₀:=X.base) I.ok.mod.kin hk (thn (ha pos pins s σ H _ I h) fun us s1 ⟨vs,H1,I1,r,q⟩=>⟨I1.kIn,?_⟩) he hpl
 exact run_fn F hr hb hd hx I1 r q
end
section
variable {X:Cx} {CX:CXT} {k:Nat} {f C:Addr} {fd:FuncData} {ps ks:List Str} {sp:Sp} {E:XK} {x m:Str} {p pos apos kpos:Pos} {e o:Expr} {es:List Expr} {kws:List Keyword} {te ta:TE} {t tk:TA} {nm:Option Str}
variable {g:List Value->List Value->List Value} {gV:List V->List V->List V}
end
structure FnScope (N P:List Str) (sc:Scope):Prop where
 kind:sc.kind = .function
 co:sc.isCoroutine = false
 gen:sc.isGenerator = false
 nd:N.Nodup
 pre:N.take P.length = P
 par:∀ x ∈ P,sc.names.lookup x = some .local\/sc.names.lookup x = some .cell
 nofree:∀ y ∈ sc.names,y.2 ≠ .free
theorem bindL_out {kindOf:Str->Option NameKind} {x:Str}:∀ {binds:List (Str × Value)} {m:Str->Option Value},(∀ v,(x,v) ∉ binds)->bindL kindOf binds m x = m x
 | [],_,_=>rfl
 | (n,v) :: r,m,h=>by
  unfold bindL
  rw [bindL_out fun w hw=>h w (List.mem_cons_of_mem _ hw)]
  split
  ·have:x ≠ n:=by rintro rfl;exact h v List.mem_cons_self
   simp [this]
  ·rfl
theorem bindC_out {kindOf:Str->Option NameKind} {x:Str}:∀ {binds:List (Str × Value)} {m:Str->Option Value},(∀ v,(x,v) ∉ binds)->bindC kindOf binds m x = m x
 | [],_,_=>rfl
 | (n,v) :: r,m,h=>by
  unfold bindC
  rw [bindC_out fun w hw=>h w (List.mem_cons_of_mem _ hw)]
  split
  ·rfl
  ·have:x ≠ n:=by rintro rfl;exact h v List.mem_cons_self
   simp [this]
theorem bindL_get {kindOf:Str->Option NameKind} {x:Str} {v:Value}:∀ {P:List Str} {vs:List Value} {i:Nat} {m:Str->Option Value},P.Nodup->P[i]? = some x->vs[i]? = some v->kindOf x = some .local →
  bindL kindOf (P.zip vs) m x = some v
 | [],_,_,_,_,h,_,_=>by simp at h
 | _ :: _,[],_,_,_,_,h,_=>by simp at h
 | p :: P,w :: vs,0,m,nd,h1,h2,hk=>by
  simp at h1 h2;subst h1;subst h2
  show bindL kindOf ((p,w) :: P.zip vs) m p = _
  unfold bindL
  rw [bindL_out fun v hv=>(List.nodup_cons.mp nd).1 (List.of_mem_zip hv).1,if_pos hk]
  simp
 | p :: P,w :: vs,i + 1,m,nd,h1,h2,hk=>by
  show bindL kindOf ((p,w) :: P.zip vs) m x = _
  unfold bindL
  exact bindL_get (i:=i) (List.nodup_cons.mp nd).2 (by simpa using h1) (by simpa using h2) hk
theorem bindC_get {kindOf:Str->Option NameKind} {x:Str} {v:Value}:∀ {P:List Str} {vs:List Value} {i:Nat} {m:Str->Option Value},P.Nodup->P[i]? = some x->vs[i]? = some v->kindOf x ≠ some .local →
  bindC kindOf (P.zip vs) m x = some v
 | [],_,_,_,_,h,_,_=>by simp at h
 | _ :: _,[],_,_,_,_,h,_=>by simp at h
 | p :: P,w :: vs,0,m,nd,h1,h2,hk=>by
  simp at h1 h2;subst h1;subst h2
  show bindC kindOf ((p,w) :: P.zip vs) m p = _
  unfold bindC
  rw [bindC_out fun v hv=>(List.nodup_cons.mp nd).1 (List.of_mem_zip hv).1,if_neg hk]
  simp
 | p :: P,w :: vs,i + 1,m,nd,h1,h2,hk=>by
  show bindC kindOf ((p,w) :: P.zip vs) m x = _
  unfold bindC
  exact bindC_get (i:=i) (List.nodup_cons.mp nd).2 (by simpa using h1) (by simpa using h2) hk
def start (N:List Str) (vs:List V):St:=vs.map some ++ List.replicate (N.length - vs.length) none
def cxOf (CX:CXT) (P:Program) (w:World) (K:PySem.W.Frag) (mg:Str->Option Value) (base:Heap) (N:List Str) (qual:Str) (scope:Scope) (f:Addr) (cd:Value) (A:Around) (outer:List Env) (s:Shared) (H:Hp) (E:XK):Cx where
 prog:=P
 w:=w
 K:=K
 mg:=mg
 base:=base
 A:=A.deeper (envOfC qual scope s.heap.objs.size f cd)
 N:=N
 s₀:=s
 H₀:=H
 env:=envOfC qual scope s.heap.objs.size f cd
 outer:=outer
 stack:=envOfC qual scope s.heap.objs.size f cd :: outer
 ex:=[]
 calm:=true
 fn:=fun _=>true
 pn:=[]
 xe:=fun e s'=>wpAny (model P w) (A.deeper (envOfC qual scope s.heap.objs.size f cd)) (leaving (envOfC qual scope s.heap.objs.size f cd) e) (fun _ s''=>CX outer H s E e s'') (fun e' s''=>CX outer H s E e' s'') s'
theorem cell_has {sc:Scope} {n:Nat} {x:Str} (h:sc.names.lookup x = some .cell):∃ c,(cellsFrom n sc.names []).lookup x = some c:=by
 have q:=PySem.W.cellsFrom_some sc.names n [] (.inl h)
 exact Option.isSome_iff_exists.mp q
theorem inv_start {CX:CXT} {P:Program} {w:World} {K:PySem.W.Frag} {mg:Str->Option Value} {base:Heap} {N ps:List Str} {qual:Str} {scope:Scope} {f:Addr} {cd:Value} {A:Around} {outer:List Env} {s s1:Shared} {H:Hp} {E:XK} {us:List Value} {vs:List V}
  (S:FnScope N ps scope) (hd:A.handled = none) (e0:Env0 P w K mg base A outer s H) (hl:vs.length = ps.length) (r:Vals vs us)
  (x:InCallC s s.heap.objs.size (bindL (envOfC qual scope s.heap.objs.size f cd).kindOf (ps.zip us) fun _=>none) (cellsFrom (s.heap.objs.size + 1) scope.names []) (bindC (envOfC qual scope s.heap.objs.size f cd).kindOf (ps.zip us) fun _=>none) s1) :
  Inv (cxOf CX P w K mg base N qual scope f cd A outer s H E) [] (start N vs) H s1:=by
 have hpl:ps.length ≤ N.length:=by have:=congrArg List.length S.pre;rw [List.length_take] at this;omega
 obtain ⟨h1,tk,rfl,hk⟩:=x.done
 have noA:∀ b:Addr,b ∉ (cxOf CX P w K mg base N qual scope f cd A outer s H E).ex:=fun b z=>absurd (show b ∈ ([]:List Addr) from z) (by simp)
 refine ⟨⟨e0.mod,S.kind,rfl,rfl,Nat.le_refl _,fun y z c h1 h2=>?_,fun y hy=>?_,fun y c _ h=>?_,fun _=>hd,Around.frames_deeper e0.frames,.inr ⟨rfl,rfl⟩,fun b z=>absurd z (noA b),e0.bs,e0.bsz,fun b _ _=>noA b,fun b z=>absurd z (noA b),e0.funs,e0.frf⟩,
  rfl,e0.bare,Un.kept hk,⟨_,x.toInCall.ns,fun i y v h1 h2 h3=>?_⟩,fun y c h=>⟨_,x.cell y c h⟩,e0.hok.fresh (Nat.le_refl _),fun y c h=>?_,fun p hp=>absurd (show p ∈ ([]:List (Addr × Obj)) from hp) (by simp),e0.hok.kept hk,?_⟩
 ·exact name_of_addr x.apart (PySem.mem_of_lookup h1) (PySem.mem_of_lookup h2)
 ·have hy:scope.names.lookup y = some .cell\/scope.names.lookup y = some .free:=hy
  rcases hy with hy | hy
  ·exact cell_has hy
  ·exact absurd rfl (S.nofree _ (PySem.mem_of_lookup hy))
 ·exact Nat.le_of_lt (x.above y c (PySem.mem_of_lookup h))
 ·have hi:i < vs.length:=by
   unfold start at h2
   by_cases hi:i < vs.length
   ·exact hi
   ·rw [List.getElem?_append_right (by simpa using hi)] at h2
    rw [List.getElem?_replicate] at h2
    split at h2 <;> cases h2
  have ha:vs[i]? = some v:=by
   unfold start at h2
   rw [List.getElem?_append_left (by simpa using hi),List.getElem?_map] at h2
   cases e:vs[i]? with
   | none=>rw [e] at h2;cases h2
   | some a=>rw [e] at h2;cases h2;rfl
  obtain ⟨u,hu,rv⟩:=r.get ha
  have hp:ps[i]? = some y:=by
   rw [← S.pre,List.getElem?_take_of_lt (by omega)];exact h1
  have ndP:ps.Nodup:=by rw [← S.pre];exact S.nd.sublist (List.take_sublist _ _)
  refine ⟨u,rv,?_⟩
  rcases S.par y (List.mem_of_getElem? hp) with k | k
  ·exact .inl ⟨k,bindL_get ndP hp hu k⟩
  ·obtain ⟨c,e⟩:=cell_has (n:=s.heap.objs.size + 1) k
   refine .inr ⟨.inl k,c,e,?_⟩
   have q:=x.cell y c e
   rw [bindC_get ndP hp hu (by show scope.names.lookup y ≠ _;rw [k];decide)] at q
   exact q
 ·exact e0.hok.fresh (Nat.le_of_lt (x.above y c (PySem.mem_of_lookup h)))
 ·unfold start
  show _ = N.length
  rw [List.length_append,List.length_map,List.length_replicate]
  omega
theorem fn_of {CX:CXT} {P:Program} {w:World} {K:PySem.W.Frag} {mg:Str->Option Value} {base:Heap} {k:Nat} {f:Addr} {name qual:Str} {params:Arguments} {body:List Stmt} {scope:Scope} {dV kV doc pm cdv ct oc:Value} {an od:Option Addr}
  {osl:Array (Option Value)} {N ps:List Str} {sp:Sp} (lk:K.lookup f = some ⟨oc,od,.func (PySem.W.fnOf name qual params body scope dV kV doc pm an cdv ct),osl⟩) (hcd:PySem.W.codeIn K cdv qual = true) (S:FnScope N ps scope)
  (len:∀ vs H Q E,sp vs H Q E->vs.length = ps.length)
  (hbody:∀ (A:Around) (outer:List Env) (s:Shared) (H:Hp) (vs:List V) (Q:VK) (E:XK),Room k (A.deeper (envOfC qual scope s.heap.objs.size f cdv))->sp vs H Q E →
   ∃ t,PSs (cxOf CX P w K mg base N qual scope f cdv A outer s H E) body t/\t { nx:=fun _ H'=>Q .non H',rt:=Q } (start N vs) H) :
  FnOk P w K mg base CX (k + 1) f (PySem.W.fnOf name qual params body scope dV kV doc pm an cdv ct) ps sp:=by
 refine ⟨len,fun A outer s H args us vs Q E hr e0 hb r hsp=>?_⟩
 have hl:=len _ _ _ _ hsp
 have KX:K.In s.heap:=e0.mod.kin.keeps fun b o e=>(e0.bs b o e).1
 have lim:s.heap.NoLimit:=e0.mod.nolimit.keeps fun b o e=>(e0.bs b o e).1
 have hkind:∀ y ∈ ps.zip us,scope.names.lookup y.1 = some .local\/(scope.names.lookup y.1 = some .cell/\((cellsFrom (s.heap.objs.size + 1) scope.names []).lookup y.1).isSome = true):=fun ⟨n,v⟩ hy=>by
  rcases S.par n (List.of_mem_zip hy).1 with q | q
  ·exact .inl q
  ·exact .inr ⟨q,PySem.W.cellsFrom_some _ _ _ (.inl q)⟩
 refine codeAny_call_function hr.depth (KX _ _ lk) rfl S.co S.gen rfl (PySem.W.codeRec_of KX hcd) (hb _ _ _ _ ?_)
 refine wpAny_newFunctionEnv_cells S.kind hkind fun env he s1 x=>?_
 subst he
 refine ⟨lim.keeps x.toInCall.keep,codeAny_func ?_⟩
 obtain ⟨t,ht,hq⟩:=hbody A outer s H vs Q E (hr.deeper _) hsp
 have I:Inv (cxOf CX P w K mg base N qual scope f cdv A outer s H E) [] (start N vs) H s1:=inv_start S hr.hd e0 hl r x
 refine wpAny_mono (ht [] s1 (start N vs) H _ I hq) (fun fl s' hs=>?_) fun e s' hs=>hs
 have fin:∀ {σ':St} {H':Hp} {v:V} {u:Value},Inv (cxOf CX P w K mg base N qual scope f cdv A outer s H E) [] σ' H' s'->RelV v u->Q v H'->CE outer P w H s Q u s':=
  fun {σ' H' v u} J rv q=>⟨v,H',J.os,J.bare,J.base,J.hok,rv,q⟩
 cases fl with
 | ret u=>
  obtain ⟨v,σ',H',J,rv,q⟩:=hs
  exact fin J rv q
 | next=>
  obtain ⟨σ',H',J,q⟩:=hs
  exact fin (v:=V.non) (u:=Value.none) J rfl q
 | brk=>
  obtain ⟨_,_,_,q⟩:=hs
  exact False.elim q
 | cont=>
  obtain ⟨_,_,_,q⟩:=hs
  exact False.elim q
end L2
namespace L2
open PySem PySem.Spec PyProof.Rows
section
variable {X:Cx} {x:Str} {p pos:Pos} {e:Expr} {es:List Expr} {t:TA} {id T:String} {r:List V->Hp->VK->Prop}
def tCB (r:List V->Hp->VK->Prop) (t:TA):TE:=fun σ H Q=>t σ H fun vs H1=>r vs H1 Q
theorem pe_callB (hc:CallR X (.builtin id) r) (hg:Gl X x) (hm:X.mg x = none) (hv:bootBuiltins x = some (.builtin id)) (ha:PA X (e :: es) t) (hn:x ≠ "__name__":=by decide) (hdb:(x == ("__debug__":Str)) = false:=by decide)
  (he:starEach (e :: es) X.env = (false,eval e X.env) :: starEach es X.env:=by rfl) (hpl:(backTo pos (starEach es X.env)).any (·.1) = false:=by rfl):PE X (.Call (.Name x p) (e :: es) [] pos) (tCB r t):=by
 intro pins s σ H Q I h
 refine wpAny_Call_Name_kw (ld_blt I hg hm hv ?_ hn hdb)
 exact PyProof.Rows.callWith_builtin1 (thn (ha pos pins s σ H _ I h) fun us s1 ⟨vs,H1,I1,r1,q1⟩=>hc pins s1 σ H1 vs us Q I1 r1 q1) he hpl
theorem pe_callTy (hc:CallR X (.type T) r) (hg:Gl X x) (hm:X.mg x = none) (hv:bootBuiltins x = some (.type T)) (ha:PA X (e :: es) t) (hn:x ≠ "__name__":=by decide) (hdb:(x == ("__debug__":Str)) = false:=by decide)
  (he:starEach (e :: es) X.env = (false,eval e X.env) :: starEach es X.env:=by rfl) (hpl:(backTo pos (starEach es X.env)).any (·.1) = false:=by rfl):PE X (.Call (.Name x p) (e :: es) [] pos) (tCB r t):=by
 intro pins s σ H Q I h
 refine wpAny_Call_Name_kw (ld_blt I hg hm hv ?_ hn hdb)
 exact PyProof.Rows.callWith_type1 (thn (ha pos pins s σ H _ I h) fun us s1 ⟨vs,H1,I1,r1,q1⟩=>hc pins s1 σ H1 vs us Q I1 r1 q1) he hpl
end
end L2
namespace HT
open PySem PyProof.Rows
section
open PySem.SeqAt
open PySem.AutoSeq1 (wpAny_loadPart')
open PySem.MeetsSeq PySem.MeetsSeq2 PySem.MeetsSeq3
end
section
variable {prog:Program} {w:World} {A:Around} {E:Value->Shared->Prop} {s:Shared}
def sIx (n d:Nat):Option Int->Nat
 | none=>d
 | some v=>if v < 0 then (v + (n:Int)).toNat else min v.toNat n
theorem sIx_none (n d:Nat):sIx n d none = d:=rfl
theorem clip_eq (v:Int) (n d:Nat):(if v < 0 then max (v + (n:Int)) 0 else min v (n:Int)) = ((sIx n d (some v):Nat):Int):=by
 show (if v < 0 then max (v + (n:Int)) 0 else min v (n:Int)) = (((if v < 0 then (v + (n:Int)).toNat else min v.toNat n):Nat):Int)
 by_cases hv:v < 0
 ·simp only [if_pos hv];omega
 ·simp only [if_neg hv];omega
end
end HT
namespace L2
open PySem PySem.Spec PyProof.Rows
abbrev TO:=St->Hp->(Option Int->Hp->Prop)->Prop
def PO (X:Cx) (e:Option Expr) (t:TO):Prop:=
 ∀ (pins:List (Addr × Obj)) (s:Shared) (σ:St) (H:Hp) (Q:Option Int->Hp->Prop),Inv X pins σ H s->t σ H Q →
  wpAny (model X.prog X.w) X.A (evalPart e X.env) (fun u s'=>∃ o H',Inv X pins σ H' s'/\IsPart u o/\Q o H') X.xe s
def tNoPart:TO:=fun _ H Q=>Q none H
def tPart (t:TE):TO:=fun σ H Q=>t σ H fun x H1=>∃ i,x = .int i/\Q (some i) H1
section
variable {X:Cx} {e:Expr} {te:TE} {lo hi:Option Expr} {tl th:TO} {pos p2:Pos}
theorem po_none:PO X none tNoPart:=by
 intro pins s σ H Q I h
 rw [evalPart_none]
 exact wpAny_pure ⟨none,H,I,.none,h⟩
theorem po_some (h:PE X e te):PO X (some e) (tPart te):=by
 intro pins s σ H Q I hw
 rw [evalPart_some]
 refine thn (h pins s σ H _ I hw) fun u s1 ⟨x,H1,I1,r1,q1⟩=>?_
 obtain ⟨i,rfl,q⟩:=q1
 obtain ⟨t,rfl⟩:=r1
 exact ⟨some i,H1,I1,.int i t,q⟩
def SlR (X:Cx) (r:V->Option Int->Option Int->Hp->VK->Prop):Prop:=
 ∀ (pins:List (Addr × Obj)) (s:Shared) (σ:St) (H:Hp) (x:V) (v vl vu:Value) (lo hi:Option Int) (sl:Addr) (Q:VK),Inv X pins σ H s->RelV x v->s.heap.IsSliceOf sl vl vu .none->IsPart vl lo->IsPart vu hi->r x lo hi H Q →
  ∃ T id,typeLookup (.type T) "__getitem__" = pure (some (.builtin id))/\s.TypeIs v T/\wpAny (model X.prog X.w) X.A (getItem v (.ref sl)) (EP X pins σ Q) X.xe s
def tSl (r:V->Option Int->Option Int->Hp->VK->Prop) (te:TE) (tl th:TO):TE:=fun σ H Q=>te σ H fun x H1=>tl σ H1 fun l H2=>th σ H2 fun u H3=>r x l u H3 Q
theorem pe_slice {r:V->Option Int->Option Int->Hp->VK->Prop} (hr:SlR X r) (he:PE X e te) (hl:PO X lo tl) (hu:PO X hi th):PE X (.Subscript e (.Slice lo hi none p2) pos) (tSl r te tl th):=by
 intro pins s σ H Q I h
 refine Subscript_ (thn (he pins s σ H _ I h) fun v s1 ⟨x,H1,I1,r1,q1⟩=>?_)
 refine wpAny_Slice (thn (hl pins s1 σ H1 _ I1 q1) fun vl s2 ⟨l,H2,I2,pl,q2⟩=>thn (hu pins s2 σ H2 _ I2 q2) fun vu s3 ⟨u,H3,I3,pu,q3⟩=>?_)
 rw [evalPart_none]
 refine wpAny_pure ?_
 have I4:Inv X pins σ H3 { s3 with heap:=s3.heap.push { cls:=.type "slice",data:=.fields #[vl,vu,.none] } }:=I3.kept (t':=s3.toks) fun b ob q=>Heap.get?_push_of_some _ q
 obtain ⟨T,id,hT,ht,hg⟩:=hr pins { s3 with heap:=s3.heap.push { cls:=.type "slice",data:=.fields #[vl,vu,.none] } } σ H3 x v vl vu l u s3.heap.objs.size Q I4 r1 (Heap.IsSliceOf.new ..) pl pu q3
 show wpAny (model X.prog X.w) X.A (subscriptTail e (.Slice lo hi none p2) v (.ref s3.heap.objs.size)) (EP X pins σ Q) X.xe { s3 with heap:=s3.heap.push { cls:=.type "slice",data:=.fields #[vl,vu,.none] } }
 exact tail_any (ops:=[.ref s3.heap.objs.size,v]) ht hT hg (by with_unfolding_all rfl)
def cutV (xs:List V) (lo hi:Option Int):List V:=(xs.drop (HT.sIx xs.length 0 lo)).take (HT.sIx xs.length xs.length hi - HT.sIx xs.length 0 lo)
theorem cutV_length (xs:List V) (lo hi:Option Int):(cutV xs lo hi).length ≤ xs.length:=by
 unfold cutV
 rw [List.length_take,List.length_drop]
 omega
end
end L2
namespace L2
open PySem PySem.Spec PyProof.Rows
def ixN (n:Nat) (i:Int):Option Nat:=if 0 ≤ i then (if i < n then some i.toNat else none) else if -(n:Int) ≤ i then some (i + n).toNat else none
def atI {α:Type} (xs:List α) (i:Int):Option α:=(ixN xs.length i).bind fun j=>xs[j]?
theorem ixN_seq {n:Nat} {i:Int} {j:Nat} (h:ixN n i = some j):seqIndex? i n = some j/\j < n/\-(n:Int) ≤ i/\i < n:=by
 unfold ixN at h
 by_cases h0:0 ≤ i
 ·rw [if_pos h0] at h
  by_cases h1:i < n
  ·rw [if_pos h1] at h
   have e:i.toNat = j:=Option.some.inj h
   exact ⟨by rw [seqIndex_of h0 h1,e],by omega,by omega,h1⟩
  ·rw [if_neg h1] at h;cases h
 ·rw [if_neg h0] at h
  by_cases h1:-(n:Int) ≤ i
  ·rw [if_pos h1] at h
   have e:(i + n).toNat = j:=Option.some.inj h
   exact ⟨by rw [seqIndex_neg (by omega) h1,e],by omega,h1,by omega⟩
  ·rw [if_neg h1] at h;cases h
theorem atI_get {α:Type} {xs:List α} {i:Int} {v:α} (h:atI xs i = some v):∃ j,seqIndex? i xs.length = some j/\xs[j]? = some v/\j < xs.length/\-(xs.length:Int) ≤ i/\i < xs.length:=by
 unfold atI at h
 cases e:ixN xs.length i with
 | none=>rw [e] at h;cases h
 | some j=>
  rw [e] at h
  obtain ⟨h1,h2,h3,h4⟩:=ixN_seq e
  exact ⟨j,h1,h,h2,h3,h4⟩
theorem atI_nat {α:Type} {xs:List α} {j:Nat} {v:α} (h:xs[j]? = some v):atI xs (j:Int) = some v:=by
 have hj:j < xs.length:=(List.getElem?_eq_some_iff.mp h).1
 have e:ixN xs.length (j:Int) = some j:=by
  unfold ixN
  rw [if_pos (by omega),if_pos (by omega)];simp
 unfold atI;rw [e];exact h
def PlainIx (b:Expr):Prop:=∀ o i,subscripted b false o i = operate [o,i] (getItem o i)
def IxR (X:Cx) (r:R2):Prop:=
 ∀ (value slice:Expr) (pins:List (Addr × Obj)) (s:Shared) (σ:St) (H:Hp) (x y:V) (v u:Value) (Q:VK),Inv X pins σ H s->RelV x v->RelV y u->r x y H Q →
  subscripted slice false v u = operate [v,u] (getItem v u)->wpAny (model X.prog X.w) X.A (subscriptTail value slice v u) (EP X pins σ Q) X.xe s
def MtR (X:Cx) (id:String) (r:V->List V->Hp->VK->Prop):Prop:=
 ∀ (pins:List (Addr × Obj)) (s:Shared) (σ:St) (H:Hp) (x:V) (xs:List V) (v:Value) (us:List Value) (Q:VK),Inv X pins σ H s->RelV x v->Vals xs us->r x xs H Q →
  wpAny (model X.prog X.w) X.A (call (.builtin id) (v :: us)) (EP X pins σ Q) X.xe s
section
variable {X:Cx} {a b:Expr} {ta tb:TE} {pos:Pos}
theorem pe_ix {r:R2} (hr:IxR X r) (ha:PE X a ta) (hb:PE X b tb) (hs:PlainIx b):PE X (.Subscript a b pos) (tOp r ta tb):=by
 intro pins s σ H Q I h
 exact Subscript_ (binT ha hb I h fun v u s2 x y H2 I2 rx ry q=>hr a b pins s2 σ H2 x y v u Q I2 rx ry q (hs _ _))
def rIxL (K:PySem.W.Frag):R2:=fun x y H Q=>∃ p xs i v,x = .ref p/\y = .int i/\SqL K H p xs/\atI xs i = some v/\Q v H
def rIxT (K:PySem.W.Frag):R2:=fun x y H Q=>∃ p xs i v,x = .ref p/\y = .int i/\SqT K H p xs/\atI xs i = some v/\Q v H
def rIxS:R2:=fun x y H Q=>∃ z i c,x = .str z/\y = .int i/\z.length ≤ sizeLine/\atI z.cps.toList i = some c/\Q (.str ⟨#[c]⟩) H
theorem ix_list:IxR X (rIxL X.K):=by
 intro value slice pins s σ H x y v u Q I rx ry h hs
 obtain ⟨p,xs,i,z,rfl,rfl,hq,he,q⟩:=h
 cases rx
 obtain ⟨t,rfl⟩:=ry
 obtain ⟨its,r,pl,hz⟩:=I.list hq
 obtain ⟨j,h1,h2,h3,h4,h5⟩:=atI_get he
 obtain ⟨w,ew,rw'⟩:=r.get h2
 have hl:=r.length
 have hn:=line63
 have fin:EP X pins σ Q w s:=⟨z,H,I,rw',q⟩
 by_cases h0:0 ≤ i
 ·have hj:i.toNat = j:=by
   rw [seqIndex_of h0 h5] at h1
   exact Option.some.inj h1
  exact item_listR pl.isList h0 (by omega) (by rw [hj];simpa using ew) fin hs
 ·have hj:(i + (its.toArray.size:Int)).toNat = j:=by
   rw [seqIndex_neg (by omega) h4] at h1
   rw [List.size_toArray,← hl]
   exact Option.some.inj h1
  exact subscriptTail_builtinR (x:=w) pl.isList.typeIs slot_list_getitem.lookup
   (wpAny_getItem_list_neg (Q:=fun r s'=>r = w/\EP X pins σ Q r s') pl.isList (by omega) (by rw [List.size_toArray] <;> omega) (by omega) (by rw [hj];simpa using ew) ⟨rfl,fin⟩) hs
theorem ix_tup:IxR X (rIxT X.K):=by
 intro value slice pins s σ H x y v u Q I rx ry h hs
 obtain ⟨p,xs,i,z,rfl,rfl,hq,he,q⟩:=h
 cases rx
 obtain ⟨t,rfl⟩:=ry
 obtain ⟨its,r,pl,hz⟩:=I.tuple hq
 obtain ⟨j,h1,h2,h3,h4,h5⟩:=atI_get he
 obtain ⟨w,ew,rw'⟩:=r.get h2
 have hl:=r.length
 have hn:=line63
 have fin:EP X pins σ Q w s:=⟨z,H,I,rw',q⟩
 exact subscriptTail_builtinR (x:=w) pl.typeIs slot_tuple_getitem.lookup
  (getItem_tuple (j:=j) (Q:=fun r s'=>r = w/\EP X pins σ Q r s') pl (by omega) (by omega) (by rw [List.size_toArray,← hl];exact h1) (by simpa using ew) ⟨rfl,fin⟩) hs
theorem ix_str:IxR X rIxS:=by
 intro value slice pins s σ H x y v u Q I rx ry h hs
 obtain ⟨z,i,c,rfl,rfl,hz,he,q⟩:=h
 obtain ⟨t,rfl⟩:=rx
 obtain ⟨t',rfl⟩:=ry
 obtain ⟨j,h1,h2,h3,h4,h5⟩:=atI_get he
 have hl:z.cps.toList.length = z.length:=by simp [Str.length]
 rw [hl] at h1 h4 h5
 have hn:=line63
 exact tail_any (typeIs_str s z t) slot_str_getitem.lookup (getItem_str (c:=c) (by
  have e1:decide (i < -(2 ^ 63:Int)) = false:=decide_eq_false (by omega)
  have e2:decide (i ≥ 2 ^ 63) = false:=decide_eq_false (by omega)
  rw [e1,e2,Bool.or_false]) (by rw [h1];simpa using h2) ⟨.str ⟨#[c]⟩,H,I.tok _,⟨_,rfl⟩,q⟩) hs
theorem slice_bounds (lo hi:Option Int) (n:Nat):(sliceBounds lo hi none n).1 = ((HT.sIx n 0 lo:Nat):Int)/\(sliceBounds lo hi none n).2.1 = ((HT.sIx n n hi:Nat):Int)/\(sliceBounds lo hi none n).2.2 = 1:=by
 refine ⟨?_,?_,rfl⟩
 ·cases lo with
  | none=>simp [sliceBounds,HT.sIx]
  | some i=>
   simp only [sliceBounds,HT.sIx,Option.getD_none,show (1:Int) > 0 by decide,if_true]
   by_cases h:i < 0
   ·simp only [h,if_true] <;> omega
   ·simp only [h,if_false] <;> omega
 ·cases hi with
  | none=>simp [sliceBounds,HT.sIx]
  | some i=>
   simp only [sliceBounds,HT.sIx,Option.getD_none,show (1:Int) > 0 by decide,if_true]
   by_cases h:i < 0
   ·simp only [h,if_true] <;> omega
   ·simp only [h,if_false] <;> omega
theorem slicePick_cut (its:List Value) (lo hi:Option Int):slicePick its.toArray lo hi none = ((its.drop (HT.sIx its.length 0 lo)).take (HT.sIx its.length its.length hi - HT.sIx its.length 0 lo)).toArray:=by
 obtain ⟨h1,h2,h3⟩:=slice_bounds lo hi its.toArray.size
 unfold slicePick
 rw [h1,h2,h3]
 simp only [sliceRange_one,pick_run,List.size_toArray] <;> rfl
def rSlL (K:PySem.W.Frag):V->Option Int->Option Int->Hp->VK->Prop:=fun x lo hi H Q=>∃ a xs,x = .ref a/\SqL K H a xs/\∀ p,H p = none->Q (.ref p) (upd H p (.lst (cutV xs lo hi)))
theorem sl_list:SlR X (rSlL X.K):=by
 intro pins s σ H x v vl vu lo hi sl Q I rx hs pl pu h
 obtain ⟨a,xs,rfl,hx,q⟩:=h
 cases rx
 obtain ⟨its,r,ht,hz⟩:=I.list hx
 have hlen:=r.length
 refine ⟨"list",_,slot_list_getitem.lookup,ht.isList.typeIs,?_⟩
 refine wpAny_getItem_list_slice ht.isList hs pl pu .none (by simp) ?_ (by rw [List.size_toArray] <;> omega)
 rw [slicePick_cut,← hlen]
 refine ⟨.ref s.heap.objs.size,_,I.laid (t':=s.toks) (o:=.lst (cutV xs lo hi)) (fun b ob q=>Heap.get?_push_of_some _ q) (Nat.le_refl _) ?_,rfl,q _ (I.hok.fresh (Nat.le_refl _))⟩
 exact ⟨Nat.le_trans (cutV_length xs lo hi) hz,_,0,(r.drop (HT.sIx xs.length 0 lo)).take (HT.sIx xs.length xs.length hi - HT.sIx xs.length 0 lo),Heap.get?_push_size _ rfl⟩
def flatV:V->Bool
 | .non=>true
 | .bl _=>true
 | .int _=>true
 | .str _=>true
 | _=>false
def eqV:V->V->Bool
 | .non,.non=>true
 | .bl a,.bl b=>a == b
 | .bl a,.int b=>(if a then 1 else 0) == b
 | .int a,.bl b=>a == (if b then 1 else 0)
 | .int a,.int b=>a == b
 | .str a,.str b=>a == b
 | _,_=>false
theorem eqAt_V {A:Around} {s:Shared} {y x:V} {u v:Value} (ry:RelV y u) (rx:RelV x v) (fy:flatV y = true) (fx:flatV x = true):SeqAt.EqAt A s u v (eqV y x):=by
 cases y with
 | non=>
  cases ry
  cases x with
  | non=>cases rx;exact SeqAt.EqAt.same _
  | bl b=>cases rx;exact SeqAt.EqAt.none_bool b
  | int b=>obtain ⟨t,rfl⟩:=rx;exact SeqAt.EqAt.none_int b t
  | str b=>obtain ⟨t,rfl⟩:=rx;exact SeqAt.EqAt.none_str b t
  | _=>exact absurd (show false = true from fx) Bool.false_ne_true
 | bl a=>
  cases ry
  cases x with
  | non=>cases rx;exact SeqAt.EqAt.bool_none a
  | bl b=>cases rx;exact SeqAt.EqAt.bool_bool a b
  | int b=>obtain ⟨t,rfl⟩:=rx;exact SeqAt.EqAt.bool_int a b t
  | str b=>obtain ⟨t,rfl⟩:=rx;exact SeqAt.EqAt.bool_str a b t
  | _=>exact absurd (show false = true from fx) Bool.false_ne_true
 | int a=>
  obtain ⟨t',rfl⟩:=ry
  cases x with
  | non=>cases rx;exact SeqAt.EqAt.int_none a t'
  | bl b=>cases rx;exact SeqAt.EqAt.int_bool a t' b
  | int b=>obtain ⟨t,rfl⟩:=rx;exact SeqAt.EqAt.int_int a t' b t
  | str b=>obtain ⟨t,rfl⟩:=rx;exact SeqAt.EqAt.int_str a t' b t
  | _=>exact absurd (show false = true from fx) Bool.false_ne_true
 | str a=>
  obtain ⟨t',rfl⟩:=ry
  cases x with
  | non=>cases rx;exact SeqAt.EqAt.str_none a t'
  | bl b=>cases rx;exact SeqAt.EqAt.str_bool a t' b
  | int b=>obtain ⟨t,rfl⟩:=rx;exact SeqAt.EqAt.str_int a t' b t
  | str b=>obtain ⟨t,rfl⟩:=rx;exact SeqAt.EqAt.str_str a t' b t
  | _=>exact absurd (show false = true from fx) Bool.false_ne_true
 | _=>exact absurd (show false = true from fy) Bool.false_ne_true
def eqU (x:V) (u:Value):Bool:=match u with
 | .none=>eqV .non x
 | .bool b=>eqV (.bl b) x
 | .int i _=>eqV (.int i) x
 | .str z _=>eqV (.str z) x
 | _=>false
theorem eqU_of {x y:V} {u:Value} (r:RelV y u) (f:flatV y = true):eqU x u = eqV y x:=by
 cases y with
 | non=>cases r;rfl
 | bl b=>cases r;rfl
 | int i=>obtain ⟨t,rfl⟩:=r;rfl
 | str z=>obtain ⟨t,rfl⟩:=r;rfl
 | _=>exact absurd (show false = true from f) Bool.false_ne_true
theorem any_eqU {x:V}:∀ {xs:List V} {us:List Value},Vals xs us->xs.all flatV = true->us.any (eqU x) = xs.any fun y=>eqV y x
 | _,_,.nil,_=>rfl
 | y :: xs,u :: us,.cons r t,f=>by
  rw [List.all_cons,Bool.and_eq_true] at f
  rw [List.any_cons,List.any_cons,eqU_of r f.1,any_eqU t f.2]
theorem mem_eqAt {A:Around} {s:Shared} {x:V} {v:Value} (rx:RelV x v) (fx:flatV x = true):∀ {xs:List V} {us:List Value},Vals xs us->xs.all flatV = true->∀ u ∈ us,SeqAt.EqAt A s u v (eqU x u)
 | _,_,.nil,_=>fun u hu=>by cases hu
 | y :: xs,u :: us,.cons r t,f=>fun u' hu=>by
  rw [List.all_cons,Bool.and_eq_true] at f
  rcases List.mem_cons.mp hu with rfl | hu
  ·rw [eqU_of r f.1];exact eqAt_V r rx f.1 fx
  ·exact mem_eqAt rx fx t f.2 u' hu
def inV (x:V) (xs:List V):Bool:=xs.any fun y=>eqV y x
def rIn (K:PySem.W.Frag) (neg:Bool):R2:=fun x y H Q=>∃ p xs,y = .ref p/\(SqL K H p xs\/SqT K H p xs)/\flatV x = true/\xs.all flatV = true/\Q (.bl (if neg then !inV x xs else inV x xs)) H
theorem op_in_seq:OpR X (compareOp .In) (rIn X.K false):=by
 intro pins s σ H x y v u Q I rx ry h
 obtain ⟨p,xs,rfl,hq,fx,fs,q⟩:=h
 cases ry
 rcases hq with hq | hq
 ·obtain ⟨its,r,pl,hz⟩:=I.list hq
  refine SeqAt.in_listAt (eqU x) pl.isList (fun w hw=>mem_eqAt rx fx r fs w (by simpa using hw)) ⟨.bl _,H,I,rfl,?_⟩
  rw [show its.toArray.any (eqU x) = its.any (eqU x) by simp,any_eqU r fs]
  exact q
 ·obtain ⟨its,r,pl,hz⟩:=I.tuple hq
  refine SeqAt.in_tupleAt (eqU x) pl (fun w hw=>mem_eqAt rx fx r fs w (by simpa using hw)) ⟨.bl _,H,I,rfl,?_⟩
  rw [show its.toArray.any (eqU x) = its.any (eqU x) by simp,any_eqU r fs]
  exact q
theorem op_notIn_seq:OpR X (compareOp .NotIn) (rIn X.K true):=by
 intro pins s σ H x y v u Q I rx ry h
 obtain ⟨p,xs,rfl,hq,fx,fs,q⟩:=h
 cases ry
 rcases hq with hq | hq
 ·obtain ⟨its,r,pl,hz⟩:=I.list hq
  refine SeqAt.notIn_listAt (eqU x) pl.isList (fun w hw=>mem_eqAt rx fx r fs w (by simpa using hw)) ⟨.bl _,H,I,rfl,?_⟩
  rw [show its.toArray.any (eqU x) = its.any (eqU x) by simp,any_eqU r fs]
  exact q
 ·obtain ⟨its,r,pl,hz⟩:=I.tuple hq
  refine SeqAt.notIn_tupleAt (eqU x) pl (fun w hw=>mem_eqAt rx fx r fs w (by simpa using hw)) ⟨.bl _,H,I,rfl,?_⟩
  rw [show its.toArray.any (eqU x) = its.any (eqU x) by simp,any_eqU r fs]
  exact q
theorem op_notIn_str:OpR X (compareOp .NotIn) (fun x y H Q=>∃ i j,x = .str i/\y = .str j/\Q (.bl (!(!(Builtin.Str.occurrences j i 0 j.length 1).isEmpty))) H):=by
 intro pins s σ H x y v u Q I rx ry h
 obtain ⟨i,j,rfl,rfl,q⟩:=h
 obtain ⟨t,rfl⟩:=rx
 obtain ⟨t',rfl⟩:=ry
 exact notIn_str ⟨.bl _,H,I,rfl,q⟩
theorem call_len_seq:CallR X (.builtin "len") (fun xs H Q=>∃ p ys,xs = [.ref p]/\(SqL X.K H p ys\/SqT X.K H p ys)/\Q (.int ys.length) H):=by
 intro pins s σ H xs us Q I r h
 obtain ⟨p,ys,rfl,hq,q⟩:=h
 obtain ⟨u,rfl,rx⟩:=vals1 r
 cases rx
 have hn:=line63
 rcases hq with hq | hq
 ·obtain ⟨its,r',pl,hz⟩:=I.list hq
  have hlen:=r'.length
  exact Calls.call_len_list pl.isList (by simp only [List.size_toArray] <;> omega) ⟨.int ys.length,H,I.tok _,⟨s.toks + 1,by rw [List.size_toArray,hlen]⟩,q⟩
 ·obtain ⟨its,r',pl,hz⟩:=I.tuple hq
  have hlen:=r'.length
  exact len_tuple pl (by simp only [List.size_toArray] <;> omega) ⟨.int ys.length,H,I.tok _,⟨s.toks + 1,by rw [List.size_toArray,hlen]⟩,q⟩
theorem call_len_str:CallR X (.builtin "len") (fun xs H Q=>∃ z,xs = [.str z]/\z.length ≤ sizeLine/\Q (.int z.length) H):=by
 intro pins s σ H xs us Q I r h
 obtain ⟨z,rfl,hz,q⟩:=h
 obtain ⟨u,rfl,t,rfl⟩:=vals1 r
 have hn:=line63
 exact len_str (by omega) ⟨.int z.length,H,I.tok _,⟨_,rfl⟩,q⟩
theorem call_tuple_of:CallR X (.type "tuple") (fun xs H Q=>∃ p ys,xs = [.ref p]/\((SqL X.K H p ys/\∀ l,H l = none->Q (.ref l) (upd H l (.tup ys)))\/(SqT X.K H p ys/\Q (.ref p) H))):=by
 intro pins s σ H xs us Q I r h
 obtain ⟨p,ys,rfl,h⟩:=h
 obtain ⟨u,rfl,rx⟩:=vals1 r
 cases rx
 rcases h with ⟨hq,q⟩ | ⟨hq,q⟩
 ·obtain ⟨its,r',pl,hz⟩:=I.list hq
  have hlen:=r'.length
  refine call_tuple_list pl.isList (fun h' kp=>?_) (by simp only [List.size_toArray] <;> omega)
  have I1:Inv X pins σ H { s with heap:=h' }:=I.kept (t':=s.toks) kp
  have I2:Inv X pins σ (upd H h'.objs.size (.tup ys)) { s with heap:=h'.push { cls:=.type "tuple",data:=.seq its.toArray } }:=
   I1.laid (t':=s.toks) (fun b o e=>Heap.get?_push_of_some _ e) (Nat.le_refl _) (show ObjOk X.prog X.w _ _ _ (.tup ys) from ⟨hz,its,r',IsTup.new _ _⟩)
  exact ⟨.ref h'.objs.size,_,I2,rfl,q _ (I1.hok.fresh (Nat.le_refl _))⟩
 ·obtain ⟨its,r',pl,hz⟩:=I.tuple hq
  exact call_tuple_same pl ⟨.ref p,H,I,rfl,q⟩
def tyV (K:PySem.W.Frag) (T:String) (x:V) (H:Hp):Prop:=match x with
 | .str _=>T = "str"
 | .int _=>T = "int"
 | .ref p=>(T = "list"/\∃ xs,SqL K H p xs)\/(T = "tuple"/\∃ o,K.lookup p = some o/\o.cls = .type "tuple"/\o.dict = none) ∨
   (T = "dict"/\((∃ kvs,H p = some (.dK kvs))\/∃ kvs,H p = some (.dT kvs)))\/(T = "set"/\∃ S n,H p = some (.set S n))
 | _=>False
theorem tyV_is {pins:List (Addr × Obj)} {σ:St} {H:Hp} {s:Shared} {T:String} {x:V} {v:Value} (I:Inv X pins σ H s) (r:RelV x v) (ty:tyV X.K T x H) :
  s.TypeIs v T/\∀ a,v = .ref a->∃ ob,s.heap.get? a = some ob/\ob.dict = none:=by
 cases x with
 | str z=>
  obtain ⟨t,rfl⟩:=r
  cases (show T = "str" from ty)
  exact ⟨typeIs_str s z t,fun _ e=>nomatch e⟩
 | int i=>
  obtain ⟨t,rfl⟩:=r
  cases (show T = "int" from ty)
  exact ⟨typeIs_int s i t,fun _ e=>nomatch e⟩
 | ref p=>
  cases r
  rcases ty with ⟨rfl,xs,hq⟩ | ⟨rfl,o,hk,hc,hd⟩ | ⟨rfl,hk⟩ | ⟨rfl,S,n,hk⟩
  ·obtain ⟨its,_,pl,_⟩:=I.list hq
   refine ⟨pl.isList.typeIs,fun a e=>?_⟩
   cases e
   obtain ⟨o,n,e,c,hd,_⟩:=pl
   exact ⟨o,e,hd⟩
  ·refine ⟨⟨o,I.kIn p o hk,hc⟩,fun a e=>?_⟩
   cases e
   exact ⟨o,I.kIn _ o hk,hd⟩
  ·have z:∃ o,s.heap.get? p = some o/\o.ExactDict:=by
    rcases hk with ⟨kvs,hk⟩ | ⟨kvs,hk⟩
    ·obtain ⟨_,_,_,_,o,_,_,e,ex,_⟩:=I.hok p _ hk
     exact ⟨o,e,ex⟩
    ·obtain ⟨_,_,_,_,o,_,_,e,ex,_⟩:=I.hok p _ hk
     exact ⟨o,e,ex⟩
   obtain ⟨o,e,ex⟩:=z
   refine ⟨⟨o,e,ex.1⟩,fun a e2=>?_⟩
   cases e2
   exact ⟨o,e,ex.2.1⟩
  ·obtain ⟨o,_,_,_,e,ex,_⟩:=I.hok p _ hk
   refine ⟨⟨o,e,ex.1⟩,fun a e2=>?_⟩
   cases e2
   exact ⟨o,e,ex.2.1⟩
 | _=>exact False.elim ty
def tBM0 (K:PySem.W.Frag) (T:String) (r:V->List V->Hp->VK->Prop) (to:TE):TE:=fun σ H Q=>to σ H fun x H1=>tyV K T x H1/\r x [] H1 Q
def tBM (K:PySem.W.Frag) (T:String) (r:V->List V->Hp->VK->Prop) (to:TE) (t:TA):TE:=fun σ H Q=>to σ H fun x H1=>tyV K T x H1/\t σ H1 fun xs H2=>r x xs H2 Q
variable {o e:Expr} {es:List Expr} {to:TE} {t:TA} {name:Str} {apos cpos:Pos} {T id:String} {r:V->List V->Hp->VK->Prop}
theorem pe_bm0 (pa:PlainAttrs T) (slot:Slot T name id) (hty:typeOf (.builtin id) = pure (.type "method_descriptor")) (hm:MtR X id r) (ho:PE X o to)
  (hbase:attributeBase o name X.env (eval o X.env) = eval o X.env:=by rfl) (hline:(apos.endLine == cpos.line) = true:=by rfl):PE X (.Call (.Attribute o name apos) [] [] cpos) (tBM0 X.K T r to):=by
 intro pins s σ H Q I h
 refine wpAny_Call_method0_late hbase hline (thn (ho pins s σ H _ I h) fun v s1 ⟨x,H1,I1,r1,ty,q1⟩=>?_)
 obtain ⟨h1,h2⟩:=tyV_is I1 r1 ty
 exact ⟨T,id,pa,slot,hty,h1,h2,Calls.callWith_builtin rfl (PySem.evalArgs_none (hm pins s1 σ H1 x [] v [] Q I1 r1 .nil q1))⟩
theorem pe_bm (pa:PlainAttrs T) (slot:Slot T name id) (hty:typeOf (.builtin id) = pure (.type "method_descriptor")) (hm:MtR X id r) (ho:PE X o to) (ha:PA X (e :: es) t)
  (hbase:attributeBase o name X.env (eval o X.env) = eval o X.env:=by rfl)
  (hfew:((backTo cpos (starEach (e :: es) X.env)).all (fun x=>!x.1) && (backToKw cpos (keywordEach [] X.env)).all (fun x=>x.1.isSome)
   && decide ((e :: es).length + ([]:List Keyword).length + (if ([]:List Keyword).isEmpty then 0 else 1) < 30)) = true:=by rfl)
  (hline:(apos.endLine == cpos.line) = true:=by rfl) (hs:starEach (e :: es) X.env = (false,eval e X.env) :: starEach es X.env:=by rfl) (hplain:(backTo cpos (starEach es X.env)).any (·.1) = false:=by rfl) :
  PE X (.Call (.Attribute o name apos) (e :: es) [] cpos) (tBM X.K T r to t):=by
 intro pins s σ H Q I h
 refine wpAny_Call_method_late hbase hfew hline rfl (thn (ho pins s σ H _ I h) fun v s1 ⟨x,H1,I1,r1,ty,q1⟩=>?_)
 obtain ⟨h1,h2⟩:=tyV_is I1 r1 ty
 refine ⟨T,id,pa,slot,hty,h1,h2,?_⟩
 have hA:=ha cpos pins s1 σ H1 _ I1 q1
 rw [hs] at hA ⊢
 refine Calls.callWith_builtin (by show (false || (backTo cpos (starEach es X.env)).any (·.1)) = false;rw [hplain] <;> rfl) (Calls.evalArgs_plain ?_)
 exact thn hA fun us s2 ⟨vs,H2,I2,r2,q2⟩=>hm pins s2 σ H2 x vs v us Q I2 r1 r2 q2
end
end L2
namespace L2
open PySem PySem.Spec PyProof.Rows
def MtM (X:Cx) (id:String) (r:V->List V->Hp->VK->Prop):Prop:=
 ∀ (pins:List (Addr × Obj)) (s:Shared) (σ:St) (H:Hp) (x:V) (xs:List V) (v:Value) (us:List Value) (Q:VK),Inv X pins σ H s->RelV x v->Vals xs us->r x xs H Q →
  wpAny (model X.prog X.w) X.A (call (.builtin id) (v :: us)) (EP X pins σ Q) X.xe s
theorem Vals.one:∀ {x:V} {us:List Value},Vals [x] us->∃ u,us = [u]/\RelV x u
 | _,_,.cons r .nil=>⟨_,rfl,r⟩
theorem Vals.zero:∀ {us:List Value},Vals [] us->us = []
 | _,.nil=>rfl
theorem Vals.dropLast {xs:List V} {us:List Value} (h:Vals xs us):Vals xs.dropLast us.dropLast:=by
 induction h with
 | nil=>exact .nil
 | cons r t ih=>
  cases t with
  | nil=>exact .nil
  | cons q t'=>exact .cons r ih
theorem erase_last {α:Type} (l:List α):l.eraseIdx (l.length - 1) = l.dropLast:=by
 induction l with
 | nil=>rfl
 | cons a r ih=>
  cases r with
  | nil=>rfl
  | cons b r=>
   have e:(a :: b :: r).length - 1 = ((b :: r).length - 1) + 1:=by
    have h1:(a :: b :: r).length = r.length + 2:=rfl
    have h2:(b :: r).length = r.length + 1:=rfl
    omega
   rw [e,List.eraseIdx_cons_succ,ih]
   all_goals rfl
section
variable {X:Cx} {pins:List (Addr × Obj)} {σ:St} {H:Hp} {s:Shared} {l b:Addr} {xs ys zs:List V}
theorem Inv.lset {its its':List Value} {n:Nat} {f:Array Value->Array Value} {t':Nat} (I:Inv X pins σ H s) (hH:H l = some (.lst xs))
  (e:s.heap.get? l = some { cls:=.type "list",data:=.seq its.toArray n }) (hf:f its.toArray = its'.toArray) (hv:Vals ys its') (hz:ys.length ≤ sizeLine) :
  Inv X pins σ (upd H l (.lst ys)) { s with heap:=s.heap.update l (Obj.mapSeq f),toks:=t' }:=by
 have q:=PySem.IsL.update e f
 rw [hf] at q
 refine I.write (x:=l) (e:=l) (by rw [hH];exact trivial) (.inl rfl) (fun b' u hb hu=>(Heap.get?_update_other s.heap (Obj.mapSeq f) (Ne.symm hb)).trans hu) ⟨_,q⟩ ?_
 exact ⟨hz,its',_,hv,q⟩
theorem Inv.lnew {its:List Value} {t':Nat} (I:Inv X pins σ H s) (hv:Vals ys its) (hz:ys.length ≤ sizeLine) :
  Inv X pins σ (upd H s.heap.objs.size (.lst ys)) { s with heap:=s.heap.push { cls:=.type "list",data:=.seq its.toArray },toks:=t' }:=
 I.laid (fun _ _ q=>Heap.get?_push_of_some _ q) (Nat.le_refl _) ⟨hz,its,0,hv,Heap.get?_push_size _ rfl⟩
theorem Inv.fresh (I:Inv X pins σ H s):H s.heap.objs.size = none:=I.hok.fresh (Nat.le_refl _)
theorem Inv.lstM (I:Inv X pins σ H s) (hH:H l = some (.lst xs)):xs.length ≤ sizeLine/\∃ (its:List Value) (n:Nat),Vals xs its/\xs.length = its.length/\s.heap.get? l = some { cls:=.type "list",data:=.seq its.toArray n }:=by
 obtain ⟨z,its,n,r,e⟩:=I.hok l _ hH
 exact ⟨z,its,n,r,r.length,e⟩
theorem notLongL {n:Nat} (h:n ≤ sizeLine):Builtin.List.listTooLong n = false:=by
 unfold Builtin.List.listTooLong
 exact decide_eq_false (by omega)
end
section
variable {X:Cx}
def rAppend:V->List V->Hp->VK->Prop:=fun x vs H Q=>∃ l xs y,x = .ref l/\vs = [y]/\H l = some (.lst xs)/\xs.length < sizeLine/\Q .non (upd H l (.lst (xs ++ [y])))
theorem mt_append:MtM X "list.append" rAppend:=by
 intro pins s σ H x vs v us Q I rx rv h
 obtain ⟨l,xs,y,rfl,rfl,hH,hz,q⟩:=h
 cases rx
 obtain ⟨u,rfl,ru⟩:=rv.one
 obtain ⟨z,its,n,r,hl,e⟩:=I.lstM hH
 refine call_meets F.slot_list_append ⟨_,e,rfl⟩ F.entry_list_append (F.args_list_append_2 _ _) (PySem.list_append l its.toArray n u (by rw [List.size_toArray];omega)) ⟨e,?_⟩
 refine ⟨.non,_,I.lset (its':=its ++ [u]) hH e (by simp) (r.append (.cons ru .nil)) ?_,rfl,q⟩
 rw [List.length_append,List.length_singleton]
 omega
def rExtend:V->List V->Hp->VK->Prop:=fun x vs H Q=>∃ l b xs zs,x = .ref l/\vs = [.ref b]/\H l = some (.lst xs)/\H b = some (.lst zs)/\xs.length + zs.length ≤ sizeLine/\Q .non (upd H l (.lst (xs ++ zs)))
theorem mt_extend:MtM X "list.extend" rExtend:=by
 intro pins s σ H x vs v us Q I rx rv h
 obtain ⟨l,b,xs,zs,rfl,rfl,hH,hB,hz,q⟩:=h
 cases rx
 obtain ⟨u,rfl,ru⟩:=rv.one
 cases ru
 obtain ⟨z,its,n,r,hl,e⟩:=I.lstM hH
 obtain ⟨z2,its2,n2,r2,hl2,e2⟩:=I.lstM hB
 have hsz:its.toArray.size + its2.toArray.size ≤ sizeLine:=by rw [List.size_toArray,List.size_toArray];omega
 have hlong:¬ (!its.toArray.isEmpty && Builtin.List.listTooLong (its.toArray.size + its2.toArray.size)) = true:=by
  rw [notLongL hsz,Bool.and_false]
  exact Bool.false_ne_true
 refine call_meets F.slot_list_extend ⟨_,e,rfl⟩ F.entry_list_extend (F.args_list_extend_2 _ _)
  (AutoSeq1.list_extend_list_list_0 l its.toArray n b its2.toArray n2 hlong (by rw [List.size_toArray];omega) (by omega)) ⟨e,e2,?_⟩
 refine ⟨.non,_,I.lset (its':=its ++ its2) hH e (by simp) (r.append r2) ?_,rfl,q⟩
 rw [List.length_append]
 omega
def rPop:V->List V->Hp->VK->Prop:=fun x vs H Q=>∃ l xs y,x = .ref l/\vs = []/\H l = some (.lst xs)/\xs[xs.length - 1]? = some y/\Q y (upd H l (.lst xs.dropLast))
theorem mt_pop:MtM X "list.pop" rPop:=by
 intro pins s σ H x vs v us Q I rx rv h
 obtain ⟨l,xs,y,rfl,rfl,hH,hy,q⟩:=h
 cases rx
 have hus:=rv.zero
 subst hus
 obtain ⟨z,its,n,r,hl,e⟩:=I.lstM hH
 obtain ⟨u,hu,ru⟩:=r.get hy
 have hy':its.toArray[its.toArray.size - 1]? = some u:=by
  show its.toArray[its.length - 1]? = some u
  rw [← Array.getElem?_toList,← hl]
  exact hu
 refine call_meets F.slot_list_pop ⟨_,e,rfl⟩ F.entry_list_pop (F.args_list_pop_1 _) (MeetsSeq.list_pop_last l its.toArray n u hy' (by rw [List.size_toArray];omega)) ⟨e,?_⟩
 refine ⟨y,_,I.lset (its':=its.dropLast) hH e ?_ r.dropLast ?_,ru,q⟩
 ·show its.toArray.eraseIdxIfInBounds (its.toArray.size - 1) = its.dropLast.toArray
  rw [List.size_toArray,List.eraseIdxIfInBounds_toArray,erase_last]
 ·rw [List.length_dropLast]
  omega
def rClear:V->List V->Hp->VK->Prop:=fun x vs H Q=>∃ l xs,x = .ref l/\vs = []/\H l = some (.lst xs)/\Q .non (upd H l (.lst []))
theorem mt_clear:MtM X "list.clear" rClear:=by
 intro pins s σ H x vs v us Q I rx rv h
 obtain ⟨l,xs,rfl,rfl,hH,q⟩:=h
 cases rx
 have hus:=rv.zero
 subst hus
 obtain ⟨z,its,n,r,hl,e⟩:=I.lstM hH
 refine call_meets F.slot_list_clear ⟨_,e,rfl⟩ F.entry_list_clear (F.args_list_clear_1 _) (AutoSeq1.list_clear_list_0 l its.toArray n (by rw [List.size_toArray];omega)) ⟨e,?_⟩
 exact ⟨.non,_,I.lset (its':=[]) (ys:=[]) hH e rfl .nil (Nat.zero_le _),rfl,q⟩
def rCat:R2:=fun x y H Q=>∃ l b xs zs,x = .ref l/\y = .ref b/\H l = some (.lst xs)/\H b = some (.lst zs)/\xs.length + zs.length ≤ sizeLine/\∀ p,H p = none->Q (.ref p) (upd H p (.lst (xs ++ zs)))
theorem op_cat:OpR X (binaryOp .Add) rCat:=by
 intro pins s σ H x y v u Q I rx ry h
 obtain ⟨l,b,xs,zs,rfl,rfl,hH,hB,hz,q⟩:=h
 cases rx
 cases ry
 obtain ⟨z,its,n,r,hl,e⟩:=I.lstM hH
 obtain ⟨z2,its2,n2,r2,hl2,e2⟩:=I.lstM hB
 refine PySem.P.add_list e e2 ?_ (by rw [List.size_toArray,List.size_toArray];omega)
 have ea:its.toArray ++ its2.toArray = (its ++ its2).toArray:=by simp
 rw [ea]
 exact ⟨.ref _,_,I.lnew (t':=s.toks) (r.append r2) (by rw [List.length_append];omega),rfl,q _ I.fresh⟩
end
section
variable {prog:Program} {w:World} {A:Around} {E:Value->Shared->Prop} {s:Shared}
set_option maxRecDepth 100000 in
end
section
variable {X:Cx}
end
end L2
namespace L2
open PySem PySem.Spec PyProof.Rows
section
variable {κ:Type} [DecidableEq κ]
def valV (kvs:List (κ × V)) (k:κ):Option V:=(kvs.find? fun kv=>decide (kv.1 = k)).map (·.2)
def putK (kvs:List (κ × V)) (k:κ) (v:V):List (κ × V):=
 if (kvs.any fun kv=>decide (kv.1 = k)) = true then kvs.map (fun kv=>if kv.1 = k then (kv.1,v) else kv) else kvs ++ [(k,v)]
def dropK (kvs:List (κ × V)) (k:κ):List (κ × V):=kvs.filter fun kv=>decide (kv.1 ≠ k)
theorem valV_pos {p:κ × V} {r:List (κ × V)} {k:κ} (e:p.1 = k):valV (p :: r) k = some p.2:=by simp [valV,List.find?_cons,e]
theorem valV_neg {p:κ × V} {r:List (κ × V)} {k:κ} (e:¬ p.1 = k):valV (p :: r) k = valV r k:=by simp [valV,List.find?_cons,e]
theorem valV_any (k:κ):∀ kvs:List (κ × V),(kvs.any fun kv=>decide (kv.1 = k)) = (valV kvs k).isSome
 | []=>rfl
 | p :: r=>by
  rw [List.any_cons]
  by_cases e:p.1 = k
  ·simp only [valV_pos e,decide_eq_true e,Bool.true_or,Option.isSome_some]
  ·rw [valV_neg e,decide_eq_false e,Bool.false_or];exact valV_any k r
theorem valV_map (k j:κ) (y:V):∀ kvs:List (κ × V),valV (kvs.map fun kv=>if kv.1 = k then (kv.1,y) else kv) j = (valV kvs j).map fun x=>if j = k then y else x
 | []=>rfl
 | p :: r=>by
  have ih:=valV_map k j y r
  rw [List.map_cons]
  by_cases h:p.1 = k
  ·rw [if_pos h]
   by_cases e:p.1 = j
   ·rw [valV_pos (p:=(p.1,y)) e,valV_pos e,Option.map_some,if_pos (e.symm.trans h)]
   ·rw [valV_neg (p:=(p.1,y)) e,valV_neg e,ih]
  ·rw [if_neg h]
   by_cases e:p.1 = j
   ·rw [valV_pos (p:=p) e,valV_pos e,Option.map_some,if_neg (fun z=>h (e.trans z))]
   ·rw [valV_neg (p:=p) e,valV_neg e,ih]
theorem valV_snoc (k j:κ) (y:V):∀ kvs:List (κ × V),valV kvs k = none->valV (kvs ++ [(k,y)]) j = if j = k then some y else valV kvs j
 | [],_=>by
  by_cases e:k = j
  ·rw [if_pos e.symm];exact valV_pos (p:=(k,y)) e
  ·rw [if_neg (fun z=>e z.symm)];exact valV_neg (p:=(k,y)) e
 | p :: r,hn=>by
  rw [List.cons_append]
  have hk:¬ p.1 = k:=fun z=>by rw [valV_pos z] at hn;cases hn
  rw [valV_neg hk] at hn
  have ih:=valV_snoc k j y r hn
  by_cases e:p.1 = j
  ·rw [valV_pos e,valV_pos e,if_neg (fun z=>hk (e.trans z))]
  ·rw [valV_neg e,valV_neg e,ih]
theorem valV_put (kvs:List (κ × V)) (k j:κ) (y:V):valV (putK kvs k y) j = if j = k then some y else valV kvs j:=by
 unfold putK
 by_cases a:(kvs.any fun kv=>decide (kv.1 = k)) = true
 ·rw [if_pos a,valV_map]
  rw [valV_any] at a
  by_cases e:j = k
  ·obtain ⟨x,hx⟩:=Option.isSome_iff_exists.mp a
   rw [if_pos e,e,hx,Option.map_some,if_pos rfl]
  ·rw [if_neg e]
   cases valV kvs j with
   | none=>rfl
   | some x=>rw [Option.map_some,if_neg e]
 ·rw [if_neg a]
  refine valV_snoc k j y kvs ?_
  rw [valV_any] at a
  cases q:valV kvs k with
  | none=>rfl
  | some x=>rw [q] at a;exact (a rfl).elim
theorem length_putK (kvs:List (κ × V)) (k:κ) (v:V):(putK kvs k v).length ≤ kvs.length + 1:=by
 unfold putK
 split
 ·rw [List.length_map];omega
 ·rw [List.length_append,List.length_cons,List.length_nil];omega
theorem putK_new {kvs:List (κ × V)} {k:κ} (v:V) (h:valV kvs k = none):putK kvs k v = kvs ++ [(k,v)]:=by
 unfold putK
 rw [valV_any,h]
 exact if_neg (by decide)
theorem RelO.isSome_eq {o:Option V} {u:Option Value} (r:RelO o u):o.isSome = u.isSome:=by
 cases o with
 | none=>cases u with
  | none=>rfl
  | some _=>exact (show False from r).elim
 | some _=>cases u with
  | none=>exact (show False from r).elim
  | some _=>rfl
theorem KV.val {kvs:List (κ × V)} {vs:List (κ × Value)} (r:KV kvs vs) (k:κ):RelO (valV kvs k) (valueAt vs k):=by
 unfold KV at r
 induction r with
 | nil=>exact True.intro
 | @cons p q ps qs h t ih=>
  obtain ⟨h1,h2⟩:=h
  by_cases e:p.1 = k
  ·have e':q.1 = k:=h1.symm.trans e
   have b:valueAt (q :: qs) k = some q.2:=by simp [valueAt,List.find?_cons,e']
   rw [valV_pos e,b];exact h2
  ·have e':¬ q.1 = k:=fun z=>e (h1.trans z)
   have b:valueAt (q :: qs) k = valueAt qs k:=by simp [valueAt,List.find?_cons,e']
   rw [valV_neg e,b];exact ih
theorem KV.any {kvs:List (κ × V)} {vs:List (κ × Value)} (r:KV kvs vs) (k:κ):(kvs.any fun kv=>decide (kv.1 = k)) = vs.any fun kv=>decide (kv.1 = k):=by
 unfold KV at r
 induction r with
 | nil=>rfl
 | cons h t ih=>rw [List.any_cons,List.any_cons,ih,h.1]
theorem KV.repl {kvs:List (κ × V)} {vs:List (κ × Value)} (r:KV kvs vs) (k:κ) {y:V} {u:Value} (ry:RelV y u) :
  KV (kvs.map fun kv=>if kv.1 = k then (kv.1,y) else kv) (vs.map fun kv=>if kv.1 = k then (kv.1,u) else kv):=by
 unfold KV at r ⊢
 induction r with
 | nil=>exact .nil
 | @cons p q ps qs h t ih=>
  rw [List.map_cons,List.map_cons]
  refine .cons ?_ ih
  obtain ⟨h1,h2⟩:=h
  by_cases e:p.1 = k
  ·rw [if_pos e,if_pos (h1.symm.trans e)];exact ⟨h1,ry⟩
  ·rw [if_neg e,if_neg (fun z=>e (h1.trans z))];exact ⟨h1,h2⟩
theorem KV.put {kvs:List (κ × V)} {vs:List (κ × Value)} (r:KV kvs vs) (k:κ) {y:V} {u:Value} (ry:RelV y u):KV (putK kvs k y) (stored vs k u):=by
 unfold putK stored
 rw [r.any k]
 by_cases e:(vs.any fun kv=>decide (kv.1 = k)) = true
 ·rw [if_pos e,if_pos e];exact r.repl k ry
 ·rw [if_neg e,if_neg e];exact Paired.snoc r ⟨rfl,ry⟩
theorem KV.drop {kvs:List (κ × V)} {vs:List (κ × Value)} (r:KV kvs vs) (k:κ):KV (dropK kvs k) (without vs k):=by
 unfold KV at r ⊢
 unfold dropK without
 induction r with
 | nil=>exact .nil
 | @cons p q ps qs h t ih=>
  obtain ⟨h1,h2⟩:=h
  rw [List.filter_cons,List.filter_cons]
  by_cases e:p.1 = k
  ·have a:¬ decide (p.1 ≠ k) = true:=by simp [e]
   have b:¬ decide (q.1 ≠ k) = true:=by simp [h1.symm.trans e]
   rw [if_neg a,if_neg b];exact ih
  ·have e':¬ q.1 = k:=fun z=>e (h1.trans z)
   have a:decide (p.1 ≠ k) = true:=by simp [e]
   have b:decide (q.1 ≠ k) = true:=by simp [e']
   rw [if_pos a,if_pos b];exact .cons ⟨h1,h2⟩ ih
theorem KV.keys {kvs:List (κ × V)} {vs:List (κ × Value)} (r:KV kvs vs):kvs.map (·.1) = vs.map (·.1):=by
 unfold KV at r
 induction r with
 | nil=>rfl
 | cons h t ih=>rw [List.map_cons,List.map_cons,ih,h.1]
theorem KV.length {kvs:List (κ × V)} {vs:List (κ × Value)} (r:KV kvs vs):kvs.length = vs.length:=Paired.length r
theorem dropK_le (kvs:List (κ × V)) (k:κ):(dropK kvs k).length ≤ kvs.length:=List.length_filter_le _ _
end
theorem kV_is {P:Program} {w:World} {k:Key} {u:Value} (r:RelV (kV k) u):(mixKind P w).is k u = true:=by
 cases k with
 | inl i=>obtain ⟨t,e⟩:=(show ∃ t,u = Value.int i t from r);subst e;exact mixKind_int P w i t
 | inr x=>obtain ⟨t,e⟩:=(show ∃ t,u = Value.str x t from r);subst e;exact mixKind_str P w x t
theorem items_are {P:Program} {w:World}:∀ {ks:List Key} {us:List Value},Vals (ks.map kV) us->ItemsAre (mixKind P w) ks us
 | [],_,r=>by rw [List.map_nil] at r;cases r;exact .nil
 | k :: ks,_,r=>by
  rw [List.map_cons] at r
  cases r with
  | cons h t=>exact .cons (kV_is h) (items_are t)
abbrev KT (H:Hp):List (List Key × V)->List (List Key × Addr × Value)->Prop:=Paired fun p q=>p.1 = q.1/\H q.2.1 = some (.tup (p.1.map kV))/\RelV p.2 q.2.2
theorem KT.val {H:Hp} {kvs:List (List Key × V)} {xs:List (List Key × Addr × Value)} (r:KT H kvs xs) (k:List Key):RelO (valV kvs k) ((atKey xs k).map (·.2)):=by
 induction r with
 | nil=>exact True.intro
 | @cons p q ps qs h t ih=>
  obtain ⟨h1,_,h2⟩:=h
  by_cases e:p.1 = k
  ·have e':q.1 = k:=h1.symm.trans e
   have b:atKey (q :: qs) k = some q.2:=by simp [atKey,List.find?_cons,e']
   rw [valV_pos e,b];exact h2
  ·have e':¬ q.1 = k:=fun z=>e (h1.trans z)
   have b:atKey (q :: qs) k = atKey qs k:=by simp [atKey,List.find?_cons,e']
   rw [valV_neg e,b];exact ih
theorem KT.repl {H:Hp} {kvs:List (List Key × V)} {xs:List (List Key × Addr × Value)} (r:KT H kvs xs) (k:List Key) {y:V} {u:Value} (ry:RelV y u) :
  KT H (kvs.map fun kv=>if kv.1 = k then (kv.1,y) else kv) (xs.map (putAt k u)):=by
 induction r with
 | nil=>exact .nil
 | @cons p q ps qs h t ih=>
  rw [List.map_cons,List.map_cons]
  refine .cons ?_ ih
  obtain ⟨h1,h2,h3⟩:=h
  unfold putAt
  by_cases e:p.1 = k
  ·rw [if_pos e,if_pos (h1.symm.trans e)];exact ⟨h1,h2,ry⟩
  ·rw [if_neg e,if_neg (fun z=>e (h1.trans z))];exact ⟨h1,h2,h3⟩
theorem KT.put {H:Hp} {kvs:List (List Key × V)} {xs:List (List Key × Addr × Value)} (r:KT H kvs xs) (k:List Key) {b:Addr} {y:V} {u:Value} (hb:H b = some (.tup (k.map kV))) (ry:RelV y u) :
  KT H (putK kvs k y) (storedH xs k b u):=by
 have e:(kvs.any fun kv=>decide (kv.1 = k)) = (atKey xs k).isSome:=by
  rw [valV_any,(r.val k).isSome_eq,Option.isSome_map]
 unfold putK storedH
 rw [e]
 by_cases q:(atKey xs k).isSome = true
 ·rw [if_pos q,if_pos q];exact r.repl k ry
 ·rw [if_neg q,if_neg q];exact Paired.snoc r ⟨rfl,hb,ry⟩
theorem KT.keeps {H H':Hp} {kvs:List (List Key × V)} {xs:List (List Key × Addr × Value)} (r:KT H kvs xs) (ht:∀ b ys,H b = some (.tup ys)->H' b = some (.tup ys)):KT H' kvs xs:=
 Paired.mapP r fun _ _ z=>⟨z.1,ht _ _ z.2.1,z.2.2⟩
section
variable {P:Program} {w:World} {H:Hp} {h:Heap} {a:Addr}
theorem rd_of {u:HO} (ok:HOk P w H h) (e:Rd H a u):ObjOk P w H h a u:=e.ok ok
theorem dk_rd {kvs:List (Key × V)} (ok:HOk P w H h) (e:Rd H a (.dK kvs)):kvs.length ≤ sizeLine/\(a == sysModules) = false/\∃ vs,KV kvs vs/\h.DictOf (mixKind P w) a vs:=
 show ObjOk P w H h a (.dK kvs) from rd_of ok e
theorem dk_of {kvs:List (Key × V)} (ok:HOk P w H h) (e:H a = some (.dK kvs)):kvs.length ≤ sizeLine/\(a == sysModules) = false/\∃ vs,KV kvs vs/\h.DictOf (mixKind P w) a vs:=dk_rd ok (.inl e)
theorem key_of {ks:List Key} (ok:HOk P w H h) (e:H a = some (.tup (ks.map kV))):(tupleKind (mixKind P w)).is h ks a:=by
 obtain ⟨_,its,r,o,h1,h2,n,h3⟩:=(show ObjOk P w H h a (.tup (ks.map kV)) from ok a _ e)
 exact ⟨o,its.toArray,n,h1,h2,h3,by simpa using items_are r⟩
theorem dt_rd {kvs:List (List Key × V)} (ok:HOk P w H h) (e:Rd H a (.dT kvs)):kvs.length ≤ sizeLine/\(a == sysModules) = false ∧
  ∃ xs,KT H kvs xs/\h.DictOfH (tupleKind (mixKind P w)) a xs:=by
 obtain ⟨z,y,xs,r,o,es,ep,h1,h2,h3,h4,h5⟩:=(show ObjOk P w H h a (.dT kvs) from rd_of ok e)
 refine ⟨z,y,xs,r,o,es,ep,h1,h2,h3,h4,fun x hx=>?_,h5⟩
 have all:∀ {l:List (List Key × V)} {m:List (List Key × Addr × Value)},KT H l m->∀ x ∈ m,(tupleKind (mixKind P w)).is h x.1 x.2.1:=by
  intro l m q
  induction q with
  | nil=>intro x hx;exact nomatch hx
  | @cons p q ps qs hq t ih=>
   intro x hx
   rcases List.mem_cons.mp hx with e | hx
   ·subst e
    exact key_of ok (by rw [← hq.1];exact hq.2.1)
   ·exact ih x hx
 exact all r x hx
theorem dt_of {kvs:List (List Key × V)} (ok:HOk P w H h) (e:H a = some (.dT kvs)):kvs.length ≤ sizeLine/\(a == sysModules) = false ∧
  ∃ xs,KT H kvs xs/\h.DictOfH (tupleKind (mixKind P w)) a xs:=dt_rd ok (.inl e)
end
def DGet (H:Hp) (a:Addr) (y:V) (r:Option V):Prop:=
 (∃ kvs k,Rd H a (.dK kvs)/\y = kV k/\r = valV kvs k)\/∃ kvs k b,Rd H a (.dT kvs)/\y = .ref b/\H b = some (.tup (k.map kV))/\r = valV kvs k
def DPut (H:Hp) (a:Addr) (y v:V) (H':Hp):Prop:=
 (∃ kvs k,H a = some (.dK kvs)/\y = kV k/\kvs.length < sizeLine/\H' = upd H a (.dK (putK kvs k v))) ∨
 ∃ kvs k b,H a = some (.dT kvs)/\y = .ref b/\H b = some (.tup (k.map kV))/\kvs.length < sizeLine/\H' = upd H a (.dT (putK kvs k v))
section
variable {X:Cx} {pins:List (Addr × Obj)} {σ:St} {H:Hp} {s:Shared} {a:Addr} {y v:V} {u r:Value} {o:Option V} {A:Around} {E:Value->Shared->Prop}
theorem Inv.big (I:Inv X pins σ H s):sysModules < s.heap.objs.size:=by
 have h:mainGlobals < s.heap.objs.size:=(I.mod.glob.keeps I.bk).lt
 exact Nat.lt_trans (by decide) h
theorem d_getItem {Q:Value->Shared->Prop} (hu:A.units + 1 < cLine) (I:Inv X pins σ H s) (g:DGet H a y (some v)) (ry:RelV y u) (h:∀ w' s',Inv X pins σ H s'->RelV v w'->Q w' s') :
  wpAny (model X.prog X.w) A (getItem (.ref a) u) Q E s:=by
 rcases g with ⟨kvs,k,e,ey,l⟩ | ⟨kvs,k,b,e,ey,eb,l⟩
 ·subst ey
  obtain ⟨z,hd,vs,rel,dd⟩:=dk_rd I.hok e
  obtain ⟨w',hw,rw'⟩:=RelO.some_of (v:=v) (o:=valueAt vs k) (by rw [l];exact rel.val k)
  exact wpAny_getItem_of (kV_is ry) dd.mapOf hw (h w' _ (I.tok _) rw')
 ·subst ey
  cases (show u = Value.ref b from ry)
  obtain ⟨z,hd,xs,rel,dd⟩:=dt_rd I.hok e
  obtain ⟨w',hw,rw'⟩:=RelO.some_of (v:=v) (o:=(atKey xs k).map (·.2)) (by rw [l];exact rel.val k)
  obtain ⟨p,hp,hp2⟩:=Option.map_eq_some_iff.mp hw
  refine wpAny_getItem_heap (tupleKind_room_in1 hu) (key_of I.hok eb) dd hp ?_
  rw [hp2]
  exact h w' _ (I.tok _) rw'
theorem d_write {h':Heap} {t':Nat} {ob:HO} (I:Inv X pins σ H s) (mu:Mut (H a)) (hs:Heap.SameBut a s.heap h') (he:∃ q,h'.get? a = some q) (new:ObjOk X.prog X.w (upd H a ob) h' a ob) :
  Inv X pins σ (upd H a ob) { s with heap:=h',toks:=t' }:=
 I.write (x:=a) (e:=a) mu (.inl rfl) (fun b q hb z=>(hs.2 b hb).trans z) he new
theorem dk_new {P:Program} {w:World} {H':Hp} {h':Heap} {kvs:List (Key × V)} {vs:List (Key × Value)} (z:kvs.length ≤ sizeLine) (hd:(a == sysModules) = false) (rel:KV kvs vs) (dd:h'.DictOf (mixKind P w) a vs) :
  ObjOk P w H' h' a (.dK kvs):=⟨z,hd,vs,rel,dd⟩
theorem d_setItem {H':Hp} {Q:Unit->Shared->Prop} (hu:A.units + 1 < cLine) (I:Inv X pins σ H s) (g:DPut H a y v H') (ry:RelV y u) (rv:RelV v r) (h:∀ s',Inv X pins σ H' s'->Q () s') :
  wpAny (model X.prog X.w) A (setItem (.ref a) u r) Q E s:=by
 rcases g with ⟨kvs,k,e,ey,l,eH⟩ | ⟨kvs,k,b,e,ey,eb,l,eH⟩
 ·subst ey eH
  obtain ⟨z,hd,vs,rel,dd⟩:=dk_of I.hok e
  have hz:vs.length ≤ sizeLine:=by rw [← rel.length];exact z
  have hl:(putK kvs k v).length ≤ sizeLine:=by have:=length_putK kvs k v;omega
  refine wpAny_setItem_pairs (hsz:=hz) (kV_is ry) dd fun h' dd' hs=>h _ ?_
  have he:∃ q,h'.get? a = some q:=let ⟨q,_,_,hq,_⟩:=dd';⟨q,hq⟩
  exact d_write I (by rw [e];exact True.intro) hs he (dk_new hl hd (rel.put k rv) dd')
 ·subst ey eH
  cases (show u = Value.ref b from ry)
  obtain ⟨z,hd,xs,rel,dd⟩:=dt_of I.hok e
  have hz:xs.length ≤ sizeLine:=by rw [← Paired.length rel];exact z
  have hl:(putK kvs k v).length ≤ sizeLine:=by have:=length_putK kvs k v;omega
  refine wpAny_setItem_heap (hsz:=hz) (tupleKind_room_in1 hu) (key_of I.hok eb) dd fun h' dd' hs=>h _ ?_
  obtain ⟨q,es,ep,hq,h2,h3,h4,_,h5⟩:=dd'
  refine d_write I (by rw [e];exact True.intro) hs ⟨q,hq⟩ ⟨hl,hd,_,(rel.put k eb rv).keeps fun c ys ec=>?_,q,es,ep,hq,h2,h3,h4,h5⟩
  rw [upd_ne (ne_of ec e (fun z=>nomatch z))]
  exact ec
end
section
variable {X:Cx} {pins:List (Addr × Obj)} {σ:St} {H:Hp} {s:Shared} {a:Addr} {kvs:List (Key × V)} {k:Key} {u:Value} {A:Around} {E:Value->Shared->Prop}
theorem d_delItem {Q:Unit->Shared->Prop} (I:Inv X pins σ H s) (e:H a = some (.dK kvs)) (ry:RelV (kV k) u) (l:(valV kvs k).isSome = true) (h:∀ s',Inv X pins σ (upd H a (.dK (dropK kvs k))) s'->Q () s') :
  wpAny (model X.prog X.w) A (delItem (.ref a) u) Q E s:=by
 obtain ⟨z,hd,vs,rel,dd⟩:=dk_of I.hok e
 refine wpAny_delItem_slot dd.typeIs (by decide) PySem.F.slot_dict_delitem
  (call_meetsIn PySem.F.slot_dict_delitem dd.typeIs PySem.F.entry_dict_delitem (PySem.F.args_dict_delitem_2 _ _) (meets_dict_delitem_pairs (mixKind X.prog X.w) a (kV_is ry)) ⟨vs,dd,by rw [← rel.length];exact z,by rw [← (rel.val k).isSome_eq];exact l,fun h' dd' hs=>h _ ?_⟩)
 have he:∃ q,h'.get? a = some q:=let ⟨q,_,_,hq,_⟩:=dd';⟨q,hq⟩
 exact d_write I (by rw [e];exact True.intro) hs he (dk_new (Nat.le_trans (dropK_le kvs k) z) hd (rel.drop k) dd')
theorem d_pop {v:V} {more:List Value} {Q:Value->Shared->Prop} (I:Inv X pins σ H s) (e:H a = some (.dK kvs)) (ry:RelV (kV k) u) (l:valV kvs k = some v) (hm:more = []\/∃ x,more = [x])
  (h:∀ w' s',Inv X pins σ (upd H a (.dK (dropK kvs k))) s'->RelV v w'->Q w' s'):wpAny (model X.prog X.w) A (call (.builtin "dict.pop") (.ref a :: u :: more)) Q E s:=by
 obtain ⟨z,hd,vs,rel,dd⟩:=dk_of I.hok e
 obtain ⟨w',hw,rw'⟩:=RelO.some_of (v:=v) (o:=valueAt vs k) (by rw [← l];exact rel.val k)
 have hp:(keyPart u).isSome = true:=by
  cases k with
  | inl i=>obtain ⟨t,q⟩:=(show ∃ t,u = Value.int i t from ry);subst q;rfl
  | inr x=>obtain ⟨t,q⟩:=(show ∃ t,u = Value.str x t from ry);subst q;rfl
 have ha:argsOk "dict.pop" ⟨.ref a :: u :: more,[]⟩:=by
  rcases hm with q | ⟨x,q⟩
  ·subst q;exact PySem.F.args_dict_pop_2 _ _
  ·subst q;exact PySem.F.args_dict_pop_3 _ _ _
 refine call_meetsIn PySem.F.slot_dict_pop dd.typeIs PySem.F.entry_dict_pop ha (meets_dict_pop_there (mixKind X.prog X.w) a (kV_is ry) more hm hp)
  ⟨vs,w',dd,by rw [← rel.length];exact z,hw,fun h' dd' hs=>h w' _ ?_ rw'⟩
 have he:∃ q,h'.get? a = some q:=let ⟨q,_,_,hq,_⟩:=dd';⟨q,hq⟩
 exact d_write I (by rw [e];exact True.intro) hs he (dk_new (Nat.le_trans (dropK_le kvs k) z) hd (rel.drop k) dd')
theorem d_clear {Q:Value->Shared->Prop} (I:Inv X pins σ H s) (e:H a = some (.dK kvs)) (h:∀ s',Inv X pins σ (upd H a (.dK [])) s'->Q .none s'):wpAny (model X.prog X.w) A (call (.builtin "dict.clear") [.ref a]) Q E s:=by
 obtain ⟨z,hd,vs,rel,dd⟩:=dk_of I.hok e
 refine call_meetsIn PySem.F.slot_dict_clear dd.typeIs PySem.F.entry_dict_clear (PySem.F.args_dict_clear_1 _) (meets_dict_clear (mixKind X.prog X.w) a) ⟨vs,dd,by rw [← rel.length];exact z,fun h' dd' hs=>h _ ?_⟩
 have he:∃ q,h'.get? a = some q:=let ⟨q,_,_,hq,_⟩:=dd';⟨q,hq⟩
 exact d_write (t':=s.toks) I (by rw [e];exact True.intro) hs he (dk_new (Nat.zero_le _) hd .nil dd')
theorem d_len {Q:Value->Shared->Prop} (I:Inv X pins σ H s) (e:Rd H a (.dK kvs)) (h:∀ t s',Inv X pins σ H s'->Q (.int kvs.length t) s'):wpAny (model X.prog X.w) A (call (.builtin "len") [.ref a]) Q E s:=by
 obtain ⟨z,hd,vs,rel,dd⟩:=dk_rd I.hok e
 refine call_len_dict hd dd (by rw [← rel.length];rw [sizeLine_eq] at z;omega) ?_
 rw [← rel.length]
 exact h _ _ (I.tok _)
end
def NoSl (i:Expr):Prop:=∀ ov iv,subscripted i false ov iv = operate [ov,iv] (getItem ov iv)
theorem subD_of {prog:Program} {w:World} {A:Around} {E:Value->Shared->Prop} {s:Shared} {env:Env} {value slice:Expr} {pos:Pos} {T id:String} {Q:Value->Shared->Prop}
  (hl:typeLookup (.type T) "__getitem__" = pure (some (.builtin id))) (hs:NoSl slice)
  (h:wpAny (model prog w) A (eval value env) (fun o s₁=>wpAny (model prog w) A (eval slice env) (fun i s₂=>s₂.TypeIs o T/\wpAny (model prog w) A (getItem o i) Q E s₂) E s₁) E s) :
  wpAny (model prog w) A (eval (.Subscript value slice pos) env) Q E s:=by
 refine Subscript_ (wpAny_mono h (fun o s₁ h₁=>wpAny_mono h₁ (fun i s₂ h₂=>?_) fun _ _ x=>x) fun _ _ x=>x)
 obtain ⟨hT,h₂⟩:=h₂
 unfold subscriptTail
 refine wpAny_bind ?_
 rw [getitemInPython_of_ne hT.not_modules]
 refine wpAny_bind (wpAny_specialOf hT hl ?_)
 have fin:wpAny (model prog w) A (subscripted slice false o i) (fun r s₃=>wpAny (model prog w) A (letTemporaryGo value o r >>= fun _=>pure r) Q E s₃) E s₂:=by
  rw [hs o i]
  exact wpAny_operating (wpAny_mono h₂ (fun r s₃ h₃=>wpAny_bind (wpAny_letTemporaryGo (wpAny_pure h₃))) fun _ _ x=>x)
 first
  | exact wpAny_pure (wpAny_bind fin)
  | exact wpAny_bind (wpAny_pure (wpAny_bind fin))
  | exact wpAny_bind fin
theorem dict_typeIs {X:Cx} {pins:List (Addr × Obj)} {σ:St} {H:Hp} {s:Shared} {a:Addr} {y:V} {o:Option V} (I:Inv X pins σ H s) (g:DGet H a y o):s.TypeIs (.ref a) "dict":=by
 rcases g with ⟨kvs,k,e,_,_⟩ | ⟨kvs,k,b,e,_,_,_⟩
 ·obtain ⟨_,_,vs,_,dd⟩:=dk_rd I.hok e
  exact dd.typeIs
 ·obtain ⟨_,_,xs,_,dd⟩:=dt_rd I.hok e
  exact dd.typeIs
def tDGet (td ty:TE):TE:=fun σ H Q=>td σ H fun x H1=>ty σ H1 fun y H2=>∃ a v,x = .ref a/\DGet H2 a y (some v)/\Q v H2
def sDPut (td ty tv:TE):TS:=fun D σ H=>tv σ H fun v H1=>td σ H1 fun x H2=>ty σ H2 fun y H3=>∃ a H4,x = .ref a/\DPut H3 a y v H4/\D.nx σ H4
section
variable {X:Cx} {o i e value:Expr} {pos pos' tpos:Pos} {td ty tv:TE}
theorem pe_dget (hu:X.A.units + 1 < cLine) (ho:PE X o td) (hi:PE X i ty) (hs:NoSl i):PE X (.Subscript o i pos) (tDGet td ty):=by
 intro pins s σ H Q I h
 refine subD_of PySem.F.slot_dict_getitem.lookup hs (thn (ho pins s σ H _ I h) fun u s1 ⟨x,H1,I1,rx,q1⟩=>thn (hi pins s1 σ H1 _ I1 q1) fun iv s2 ⟨y,H2,I2,ry,a,v,ex,g,q2⟩=>?_)
 subst ex
 obtain rfl:u = Value.ref a:=rx
 exact ⟨dict_typeIs I2 g,d_getItem hu I2 g ry fun w' s3 I3 rw'=>⟨v,H2,I3,rw',q2⟩⟩
theorem ps_dput (hu:X.A.units + 1 < cLine) (ho:PE X o td) (hi:PE X i ty) (hv:PE X value tv) (hs:swapsWith value (some (.Subscript o i pos')) pos.line X.env = pure false) :
  PS X (.Assign [.Subscript o i pos'] value pos) (sDPut td ty tv):=by
 intro pins s σ H D I h
 refine wpAny_Assign_Subscript (thn (hv pins s σ H _ I h) fun r s1 ⟨v,H1,I1,rv,q1⟩=>thn (ho pins s1 σ H1 _ I1 q1) fun u s2 ⟨x,H2,I2,rx,q2⟩=>thn (hi pins s2 σ H2 _ I2 q2) fun iv s3 ⟨y,H3,I3,ry,a,H4,ex,g,q3⟩=>?_) hs
 subst ex
 obtain rfl:u = Value.ref a:=rx
 exact d_setItem hu I3 g ry rv fun s4 I4=>⟨σ,H4,I4,q3⟩
end
theorem dk_empty {P:Program} {w:World} {H:Hp} (h:Heap) (hb:sysModules < h.objs.size):ObjOk P w H (h.push { cls:=.type "dict",data:=.dict #[] }) h.objs.size (.dK []):=
 ⟨Nat.zero_le _,beq_eq_false_iff_ne.mpr (Ne.symm (Nat.ne_of_lt hb)),[],.nil,Heap.DictOf.new h⟩
def tDNewK:TE:=fun _ H Q=>∀ p,H p = none->Q (.ref p) (upd H p (.dK []))
section
variable {X:Cx} {pos:Pos}
theorem pe_dnewK:PE X (.Dict [] [] pos) tDNewK:=fun pins s σ H Q I h=>
 wpAny_Dict_empty ⟨.ref s.heap.objs.size,_,I.laid (a:=s.heap.objs.size) (o:=.dK []) (t':=s.toks) (fun _ _ q=>Heap.get?_push_of_some _ q) (Nat.le_refl _) (dk_empty s.heap I.big),rfl,h _ (I.hok.fresh (Nat.le_refl _))⟩
end
structure M1 (X:Cx) (o:Expr) (m:Str) (apos:Pos) (e:Expr) (cpos:Pos):Prop where
 base:attributeBase o m X.env (eval o X.env) = eval o X.env
 few:((backTo cpos (starEach [e] X.env)).all (fun x=>!x.1) && (backToKw cpos (keywordEach [] X.env)).all (fun x=>x.1.isSome)
  && decide (([e]:List Expr).length + ([]:List Keyword).length + (if ([]:List Keyword).isEmpty then 0 else 1) < 30)) = true
 line:(apos.endLine == cpos.line) = true
 trees:backTo cpos (starEach [e] X.env) = [(false,eval e X.env)]
def IsD (H:Hp) (a:Addr):Prop:=(∃ kvs,Rd H a (.dK kvs))\/∃ kvs,Rd H a (.dT kvs)
theorem isD_at {X:Cx} {pins:List (Addr × Obj)} {σ:St} {H:Hp} {s:Shared} {a:Addr} (I:Inv X pins σ H s) (d:IsD H a) :
  s.TypeIs (.ref a) "dict"/\(∀ b,Value.ref a = .ref b->∃ ob,s.heap.get? b = some ob/\ob.dict = none)/\(a == sysModules) = false:=by
 rcases d with ⟨kvs,e⟩ | ⟨kvs,e⟩
 ·obtain ⟨_,hd,vs,_,dd⟩:=dk_rd I.hok e
  refine ⟨dd.typeIs,fun b q=>?_,hd⟩
  cases q
  obtain ⟨ob,_,_,h1,h2,_⟩:=dd
  exact ⟨ob,h1,h2.2.1⟩
 ·obtain ⟨_,hd,xs,_,dd⟩:=dt_rd I.hok e
  refine ⟨dd.typeIs,fun b q=>?_,hd⟩
  cases q
  obtain ⟨ob,_,_,h1,h2,_⟩:=dd
  exact ⟨ob,h1,h2.2.1⟩
section
variable {X:Cx} {pins:List (Addr × Obj)} {σ:St} {H:Hp} {s:Shared} {a:Addr} {y d:V} {u r:Value} {o:Option V} {A:Around} {E:Value->Shared->Prop}
end
def tDPop1 (td ty:TE):TE:=fun σ H Q=>td σ H fun x H1=>∃ a,x = .ref a/\IsD H1 a/\ty σ H1 fun y H2=>∃ kvs k v,H2 a = some (.dK kvs)/\y = kV k/\valV kvs k = some v/\Q v (upd H2 a (.dK (dropK kvs k)))
section
variable {X:Cx} {o e f:Expr} {apos cpos:Pos} {td ty tx:TE}
theorem pe_dpop1 (ho:PE X o td) (he:PE X e ty) (m:M1 X o "pop" apos e cpos):PE X (.Call (.Attribute o "pop" apos) [e] [] cpos) (tDPop1 td ty):=by
 intro pins s σ H Q I h
 refine wpAny_Call_method m.base m.few m.line PySem.F.plainAttrs_dict PySem.F.slot_dict_pop PySem.F.type_dict_pop (thn (ho pins s σ H _ I h) fun u s1 ⟨x,H1,I1,rx,a,ex,d,q1⟩=>?_)
 subst ex
 obtain rfl:u = Value.ref a:=rx
 obtain ⟨t1,t2,_⟩:=isD_at I1 d
 refine ⟨t1,t2,?_⟩
 rw [m.trees]
 refine Calls.callWith_builtin rfl (Calls.evalArgs_plain (Calls.spliced_cons (thn (he pins s1 σ H1 _ I1 q1) fun iv s2 ⟨y,H2,I2,ry,kvs,k,v,ea,ey,l,q2⟩=>Calls.spliced_nil ?_)))
 subst ey
 exact d_pop I2 ea ry l (.inl rfl) fun w' s3 I3 rw'=>⟨v,_,I3,rw',q2⟩
end
section
variable {X:Cx} {pins:List (Addr × Obj)} {σ:St} {H:Hp} {s:Shared} {a:Addr} {kvs:List (Key × V)} {A:Around} {E:Value->Shared->Prop}
theorem d_copyOf {Q:Value->Shared->Prop} (I:Inv X pins σ H s) (e:Rd H a (.dK kvs)) (h:∀ p s',H p = none->Inv X pins σ (upd H p (.dK kvs)) s'->Q (.ref p) s'):wpAny (model X.prog X.w) A (call (.type "dict") [.ref a]) Q E s:=by
 obtain ⟨z,hd,vs,rel,dd⟩:=dk_rd I.hok e
 refine kt_call_dict hd dd (by rw [← rel.length];exact z) fun h' dd' hs=>?_
 refine h _ _ (I.hok.fresh (Nat.le_refl _)) (I.laid (a:=s.heap.objs.size) (o:=.dK kvs) (t':=s.toks) (fun b q hq=>?_) (Nat.le_refl _) (dk_new z (beq_eq_false_iff_ne.mpr (Ne.symm (Nat.ne_of_lt I.big))) rel dd'))
 exact (hs.2 b (Nat.ne_of_lt (Heap.lt_size hq))).trans (Heap.get?_push_of_some _ hq)
end
section
variable {X:Cx} {pins:List (Addr × Obj)} {σ:St} {H:Hp} {s:Shared} {a:Addr} {y:V} {u:Value} {A:Around} {E:Value->Shared->Prop}
end
end L2
namespace Att
open PySem PySem.W PySem.Calls PyProof.Rows
theorem ints_of_wellAll {P:Params} {h:Heap}:∀ (ns:List Int) (vs:List Value),WellAll P h vs (ns.map WData.int)->IntsAre vs ns:=by
 intro ns
 induction ns with
 | nil=>
  intro vs w
  rw [List.map_nil] at w
  cases w
  exact .nil
 | cons n ns ih=>
  intro vs w
  rw [List.map_cons] at w
  cases w with
  | cons a b=>
   cases a
   exact .cons _ _ (ih _ b)
theorem script_of {l:OpenLaw} {n:Nat} (hn:l.most = some n) {P:Params} {h:Heap} {args:List WData} {vals:List Value}
  (hpre:l.row.toRowW.claim.pre args = true) (hwl:WellAll P h vals args) :
  ∃ a vs ns,vals = [Value.ref a]/\args = [WData.list (ns.map WData.int)]/\h.get? a = some { cls:=.type "list",data:=.seq vs.toArray }/\IntsAre vs ns/\ns.length ≤ n:=by
 have hsh:WShape.hasAll [] args [.list .int] = true:=(pre_splitW hpre).1
 have hc:l.pre.holds [] { args:=args } = true:=(pre_splitW hpre).2
 obtain ⟨d,r,rfl,h1,h2⟩:=hasAllW_cons hsh
 obtain rfl:=hasAllW_nil h2
 obtain ⟨xs,rfl,h3⟩:=hasW_list h1
 obtain ⟨ns,rfl⟩:=items_int h3
 have hlen:ns.length ≤ n:=by
  unfold OpenLaw.pre at hc
  have h4:(WTm.not (.lt (.lit (.int (n:Int))) (.len (.arg 0)))).holds [] { args:=[.list (ns.map .int)] } = true:=by
   have h4:=(holds_andW hc).1
   rw [hn] at h4
   exact h4
  have h5:=condW_of h4 (w_not (w_lt w_lit (w_len_list (w_arg rfl))))
  rw [List.length_map] at h5
  refine Nat.le_of_not_lt fun q=>?_
  have q':(n:Int) < ((ns.length:Nat):Int):=by omega
  first
   | (rw [decide_eq_true q'] at h5;exact absurd h5 (by decide))
   | (simp at h5;omega)
 cases hwl with
 | cons w1 w2=>
  cases w2
  cases w1 with
  | list ho hall=>exact ⟨_,_,ns,rfl,rfl,ho,ints_of_wellAll ns _ hall,hlen⟩
theorem post_true (l:OpenLaw) (args:List WData):l.row.toRowW.claim.post args (.bool true) args = true:=
 postW_of (r:=l.row.toRowW) (X:=(true == true))
  (show WShape.has [] (.bool true) .bool = true by first | rfl | decide | simp [WShape.has,WShape.arms,WShape.armsAll])
  (show (WTm.eq .res (.lit (.bool true))).value [] { args:=args,res:=some (.bool true),after:=args } = some (.bool (true == true)) from w_eq_bool (w_res rfl) w_lit) rfl
theorem attach_call {l:OpenLaw} {n:Nat} {q:Program} {loose:List Str} {XP:(Str->Option Value)->Heap->Prop} {YP:World->Heap->Prop} {d:DefRec}
  (hn:l.most = some n) (hdf:d.params.defaults = [])
  (call:∀ (w:World) (s₀ s₁:Shared) (mg mb:Str->Option Value) (fa:Addr) (o:Obj) (pm cd doc:Value) (a:Addr) (vs:List Value) (ns:List Int),
   Ground q loose [] XP w s₀ mg mb s₁.heap->YP w s₁.heap →
   s₁.heap.get? fa = some o->o.data = .func (docDef d.name d.params d.body d.scope pm cd doc)->s₁.heap.CodeRec cd d.name->mg d.name = some (.ref fa) →
   s₁.heap.get? a = some { cls:=.type "list",data:=.seq vs.toArray }->IntsAre vs ns->ns.length ≤ n->s₁.gens = #[] →
   codeAny (model l.prog w) callerA (.call (.ref fa) ⟨[.ref a],[]⟩) (fun r s'=>r = .ok (.ret (.bool true))/\OldK s₁.heap s'.heap/\s'.os = s₁.os/\AllBare s'.gens) s₁) :
  WalkO q loose XP YP l.row.toRowW d [] (fun f vs=>PySem.call f vs):=by
 intro w s₀ s₁ mg mb G Y fa o pm cd doc dV kV ho hd hcd hD hmg hg args vals as hpre hlay hrd hwl hlo
 obtain rfl:dV = .none:=Dflts.none hD hdf
 obtain rfl:kV = .none:=Dflts.noKw hD
 obtain ⟨a,vs,ns,rfl,rfl,hobj,hints,hlen⟩:=script_of hn hpre hwl
 refine enter_call (codeAny_mono (call w s₀ s₁ mg mb fa o pm cd doc a vs ns G Y ho (fd_plain hd) hcd hmg hobj hints hlen hg) fun r s' hq=>?_)
 obtain ⟨rfl,h2,h3,h4⟩:=hq
 exact ⟨.inl ⟨.bool true,.bool true,[],rfl,fun _=>rfl,.bool true,post_true l _,fun _=>⟨List.Pairwise.nil,fun _ hm=>(nomatch hm)⟩⟩,h2,h3,h4⟩
section
variable {prog:Program} {w:World} {A:Around} {E:Value->Shared->Prop} {s:Shared} {K:Frag}
end
end Att
namespace L2
open PySem PySem.Spec PyProof.Rows
theorem vals_ints:∀ {vs:List Value} {ns:List Int},IntsAre vs ns->Vals (ns.map V.int) vs
 | _,_,.nil=>.nil
 | _,_,.cons n t h=>.cons ⟨t,rfl⟩ (vals_ints h)
end L2
namespace L2
open PySem PySem.Spec PyProof.Rows
end L2
namespace L2
open PySem PySem.Spec PyProof.Rows
def defArgs (s:Stmt):Arguments:=match s with
 | .FunctionDef _ a _ _ _ _ _ _ _ _=>a
 | _=>{ posonlyargs:=[],args:=[],vararg:=none,kwonlyargs:=[],kw_defaults:=[],kwarg:=none,defaults:=[] }
def defBody (s:Stmt):List Stmt:=match s with
 | .FunctionDef _ _ b _ _ _ _ _ _ _=>b
 | _=>[]
def defScope (s:Stmt):Scope:=match s with
 | .FunctionDef _ _ _ _ _ _ sc _ _ _=>sc
 | _=>{ kind:=.function,names:=[],isGenerator:=false,isCoroutine:=false }
abbrev CX0:CXT:=fun _ _ _ _ _ _=>False
abbrev E0:XK:=fun _ _ _=>False
theorem pass0 {X:Cx}:Passes CX0 X E0:=fun _ _ _ _ _ _ _ h=>h.elim
structure Fun (K:PySem.W.Frag) (x qual:Str) (st:Stmt) (f:Addr) (fd:FuncData):Prop where
 ex:∃ (oc:Value) (od:Option Addr) (kV doc pm:Value) (an:Option Addr) (cdv ct:Value) (osl:Array (Option Value)),
  fd = PySem.W.fnOf x qual (defArgs st) (defBody st) (defScope st) .none kV doc pm an cdv ct/\K.lookup f = some ⟨oc,od,.func fd,osl⟩/\PySem.W.codeIn K cdv qual = true
 kp:PySem.W.keepIn K (.ref f) = true
section
variable {P:Program} {w:World} {K:PySem.W.Frag} {mg:Str->Option Value} {base:Heap}
theorem Fun.ok {x qual:Str} {st:Stmt} {f:Addr} {fd:FuncData} {N ps:List Str} {k:Nat} {sp:Sp} (F:Fun K x qual st f fd) (S:FnScope N ps (defScope st)) (len:∀ vs H Q E,sp vs H Q E->vs.length = ps.length)
  (hbody:∀ (cdv:Value) (A:Around) (outer:List Env) (s:Shared) (H:Hp) (vs:List V) (Q:VK) (E:XK),Room k (A.deeper (envOfC qual (defScope st) s.heap.objs.size f cdv))->sp vs H Q E →
   ∃ t,PSs (cxOf CX0 P w K mg base N qual (defScope st) f cdv A outer s H E).nox (defBody st) t/\t { nx:=fun _ H'=>Q .non H',rt:=Q } (start N vs) H):FnOk P w K mg base CX0 (k + 1) f fd ps sp:=by
 obtain ⟨oc,od,kV,doc,pm,an,cdv,ct,osl,rfl,lk,hcd⟩:=F.ex
 refine fn_of lk hcd S len fun A outer s H vs Q E hr hsp=>?_
 obtain ⟨t,h,q⟩:=hbody cdv A outer s H vs Q E hr hsp
 exact ⟨t,h.nox,q⟩
theorem Fun.binds {x qual:Str} {st:Stmt} {f:Addr} {fd:FuncData} {ps:List Str} (F:Fun K x qual st f fd)
  (h:∀ (kV doc pm:Value) (an:Option Addr) (cdv ct:Value) (us:List Value),us.length = ps.length->bindArgs (PySem.W.fnOf x qual (defArgs st) (defBody st) (defScope st) .none kV doc pm an cdv ct) ⟨us,[]⟩ = pure (ps.zip us)):Binds K fd ps []:=by
 obtain ⟨oc,od,kV,doc,pm,an,cdv,ct,osl,rfl,lk,hcd⟩:=F.ex
 exact .all (h kV doc pm an cdv ct)
theorem fun_mk {x qual:Str} {st:Stmt} {f:Addr} {oc:Value} {od an:Option Addr} {osl:Array (Option Value)} {kV doc pm cdv ct:Value} (l:K.lookup f = some ⟨oc,od,.func (PySem.W.fnOf x qual (defArgs st) (defBody st) (defScope st) .none kV doc pm an cdv ct),osl⟩)
  (c:PySem.W.codeIn K cdv qual = true) (k:PySem.W.keepIn K (.ref f) = true):Fun K x qual st f (PySem.W.fnOf x qual (defArgs st) (defBody st) (defScope st) .none kV doc pm an cdv ct):=⟨⟨oc,od,kV,doc,pm,an,cdv,ct,osl,rfl,l,c⟩,k⟩
end
theorem hu_of {A:Around} {k:Nat} (hr:Room k A):A.units + 1 < cLine:=Nat.lt_of_le_of_lt (Nat.add_le_add_left (by decide:1 ≤ 64) _) hr.units
section
variable {X:Cx}
theorem pv (i:Nat) {x:Str} {pos:Pos} (hN:X.N[i]? = some x:=by rfl) (hv:Vis X.env.scope x:=by first | exact Or.inl rfl | exact Or.inr (Or.inl rfl) | exact Or.inr (Or.inr rfl)) (hd:(x == ("__debug__":Str)) = false:=by decide)
  (hcd:(x == ("__classdict__":Str)) = false:=by decide):PE X (.Name x pos) (tVar i):=pe_var hN hv hd hcd
end
theorem iteF {A B:Prop} (h:B):if false = true then A else B:=by
 rw [if_neg Bool.false_ne_true]
 exact h
theorem iteT {A B:Prop} (h:A):if true = true then A else B:=by
 rw [if_pos rfl]
 exact h
theorem ite2 {c A B:Prop} [Decidable c] (h1:c->A) (h2:¬ c->B):if c then A else B:=by
 by_cases h:c
 ·rw [if_pos h]
  exact h1 h
 ·rw [if_neg h]
  exact h2 h
def Same (H H':Hp):Prop:=∀ b o,H b = some o->H' b = some o
theorem Same.refl (H:Hp):Same H H:=fun _ _ h=>h
theorem Same.trans {H H1 H2:Hp} (a:Same H H1) (b:Same H1 H2):Same H H2:=fun c o h=>b c o (a c o h)
theorem Same.seq {K:PySem.W.Frag} {H H':Hp} {a:Addr} {xs:List V} (e:Same H H') (h:SqL K H a xs):SqL K H' a xs:=by
 rcases h with (h | ⟨o,h⟩) | h
 ·exact .inl (.inl (e _ _ h))
 ·exact .inl (.inr ⟨o,e _ _ h⟩)
 ·exact .inr h
section
variable {X:Cx}
theorem call_lenD:CallR X (.builtin "len") (fun xs H Q=>∃ a kvs,xs = [V.ref a]/\H a = some (.dK kvs)/\Q (.int kvs.length) H):=by
 intro pins s σ H xs us Q I r h
 obtain ⟨a,kvs,rfl,ha,q⟩:=h
 obtain ⟨u,rfl,ru⟩:=vals1 r
 cases ru
 exact d_len I (.inl ha) fun t s' I'=>⟨.int kvs.length,H,I',⟨t,rfl⟩,q⟩
end
section
variable {κ:Type} [DecidableEq κ]
theorem valV_in {kvs:List (κ × V)} {k:κ} {v:V} (h:valV kvs k = some v):k ∈ kvs.map (·.1):=by
 have q:(kvs.any fun kv=>decide (kv.1 = k)) = true:=by
  rw [valV_any,h]
  all_goals rfl
 obtain ⟨p,hp,e⟩:=List.any_eq_true.mp q
 exact List.mem_map.mpr ⟨p,hp,of_decide_eq_true e⟩
theorem dropK_pos {p:κ × V} {r:List (κ × V)} {k:κ} (e:p.1 = k):dropK (p :: r) k = dropK r k:=by
 unfold dropK
 rw [List.filter_cons,if_neg (by simp [e])]
theorem dropK_neg {p:κ × V} {r:List (κ × V)} {k:κ} (e:¬ p.1 = k):dropK (p :: r) k = p :: dropK r k:=by
 unfold dropK
 rw [List.filter_cons,if_pos (by simp [e])]
theorem dropK_no:∀ {kvs:List (κ × V)} {k:κ},¬ k ∈ kvs.map (·.1)->dropK kvs k = kvs
 | [],_,_=>rfl
 | p :: r,k,h=>by
  have h':¬ k ∈ r.map (·.1):=fun m=>by
   obtain ⟨q,hq,e⟩:=List.mem_map.mp m
   exact h (List.mem_map.mpr ⟨q,List.mem_cons.mpr (Or.inr hq),e⟩)
  rw [dropK_neg fun e=>h (List.mem_map.mpr ⟨p,List.mem_cons.mpr (Or.inl rfl),e⟩),dropK_no h']
theorem dropK_len:∀ {kvs:List (κ × V)} {k:κ},(kvs.map (·.1)).Nodup->k ∈ kvs.map (·.1)->(dropK kvs k).length + 1 = kvs.length
 | [],_,_,m=>by simp at m
 | p :: r,k,h,m=>by
  have h:(p.1 :: r.map (·.1)).Nodup:=h
  have m:k = p.1\/k ∈ r.map (·.1):=List.mem_cons.mp m
  obtain ⟨h1,h2⟩:=List.nodup_cons.mp h
  by_cases e:p.1 = k
  ·subst e
   rw [dropK_pos rfl,dropK_no h1]
   all_goals rfl
  ·have m':k ∈ r.map (·.1):=m.resolve_left fun z=>e z.symm
   have q:=dropK_len h2 m'
   rw [dropK_neg e,List.length_cons,List.length_cons]
   omega
end
end L2
namespace L2
open PySem PySem.Spec PyProof.Rows
def closF (env:Env) (cs:List (Str × Addr)) (y:Str × NameKind):List (Str × Addr):=
 if (y.2 == NameKind.free) = true then (y.1,(env.cells.lookup y.1).getD 0) :: cs else cs
def closL (env:Env) (names:List (Str × NameKind)):List (Str × Addr):=names.foldl (closF env) []
theorem clos_from {env:Env}:∀ (names:List (Str × NameKind)) (cs:List (Str × Addr)),(∀ y ∈ names,y.2 = .free->∃ c,env.cells.lookup y.1 = some c) →
  (forIn names cs fun y r=>(if (y.2 == NameKind.free) = true then do let a ← cellOf env y.1;pure (ForInStep.yield ((y.1,a) :: r)) else pure (ForInStep.yield r):Sem (ForInStep (List (Str × Addr))))) = pure (names.foldl (closF env) cs)
 | [],cs,_=>rfl
 | y :: r,cs,h=>by
  rw [List.forIn_cons,List.foldl_cons]
  by_cases hy:(y.2 == NameKind.free) = true
  ·obtain ⟨c,hc⟩:=h y List.mem_cons_self (eq_of_beq hy)
   have e:cellOf env y.1 = pure c:=by unfold cellOf;rw [hc]
   rw [if_pos hy,e,pure_bind,pure_bind]
   have e2:closF env cs y = (y.1,c) :: cs:=by unfold closF;rw [if_pos hy,hc];rfl
   rw [e2]
   exact clos_from r _ fun z hz=>h z (List.mem_cons_of_mem _ hz)
  ·rw [if_neg hy,pure_bind]
   have e2:closF env cs y = cs:=by unfold closF;rw [if_neg hy]
   rw [e2]
   exact clos_from r _ fun z hz=>h z (List.mem_cons_of_mem _ hz)
theorem clos_ok {env:Env} {scope:Scope} (h:∀ y ∈ scope.names,y.2 = .free->∃ c,env.cells.lookup y.1 = some c):closureFor scope env = pure (closL env scope.names):=by
 have e:=clos_from (env:=env) scope.names [] h
 unfold closL
 rw [← e]
 simp only [closureFor,bind_pure_comp,map_pure,bind_pure]
theorem clos_sub {env:Env}:∀ (names:List (Str × NameKind)) (cs:List (Str × Addr)),(∀ y ∈ names,y.2 = .free->∃ c,env.cells.lookup y.1 = some c)->(∀ x c,cs.lookup x = some c->env.cells.lookup x = some c) →
  ∀ x c,(names.foldl (closF env) cs).lookup x = some c->env.cells.lookup x = some c
 | [],cs,_,hc,x,c,e=>hc x c e
 | y :: r,cs,h,hc,x,c,e=>by
  rw [List.foldl_cons] at e
  refine clos_sub r _ (fun z hz=>h z (List.mem_cons_of_mem _ hz)) (fun z d q=>?_) x c e
  unfold closF at q
  by_cases hy:(y.2 == NameKind.free) = true
  ·obtain ⟨c',hc'⟩:=h y List.mem_cons_self (eq_of_beq hy)
   rw [if_pos hy,List.lookup_cons,hc'] at q
   cases hz:z == y.1 with
   | true=>
    rw [hz] at q
    have q':c' = d:=Option.some.inj q
    rw [eq_of_beq hz,hc',q']
   | false=>
    rw [hz] at q
    exact hc z d q
  ·rw [if_neg hy] at q
   exact hc z d q
theorem clos_has {env:Env}:∀ (names:List (Str × NameKind)) (cs:List (Str × Addr)) (x:Str),((x,NameKind.free) ∈ names\/∃ c,cs.lookup x = some c)->∃ c,(names.foldl (closF env) cs).lookup x = some c
 | [],cs,x,h=>by
  rcases h with h | h
  ·cases h
  ·exact h
 | y :: r,cs,x,h=>by
  rw [List.foldl_cons]
  refine clos_has r _ x ?_
  rcases h with h | ⟨c,h⟩
  ·rcases List.mem_cons.mp h with e | e
   ·subst e
    refine .inr ⟨(env.cells.lookup x).getD 0,?_⟩
    unfold closF
    rw [if_pos (show ((x,NameKind.free).2 == NameKind.free) = true from rfl),List.lookup_cons,beq_self_eq_true]
   ·exact .inl e
  ·refine .inr ?_
   unfold closF
   by_cases hy:(y.2 == NameKind.free) = true
   ·rw [if_pos hy,List.lookup_cons]
    cases hz:x == y.1 with
    | true=>exact ⟨_,rfl⟩
    | false=>exact ⟨c,h⟩
   ·rw [if_neg hy]
    exact ⟨c,h⟩
abbrev cxComp (X:Cx) (scope:Scope) (N:List Str) (s:Shared) (H:Hp) (fp:List Addr):Cx where
 prog:=X.prog
 w:=X.w
 K:=X.K
 mg:=X.mg
 base:=X.base
 A:=X.A
 N:=N
 s₀:=s
 H₀:=H
 env:=compEnvC scope (closL X.env scope.names) s.heap.objs.size X.env
 outer:=X.stack
 stack:=X.stack
 ex:=fp
 fn:=fun _=>false
 calm:=X.calm
 pn:=[]
 xe:=fun _ _=>False
structure CompTx (osc scope:Scope) (N0:List Str) (xs:List Str) (fr:List Nat):Prop where
 kind:scope.kind = .function
 nocell:∀ y ∈ scope.names,y.2 ≠ .cell
 names:∀ y ∈ scope.names,y.2 = .local->scope.names.lookup y.1 = some .local
 free:∀ y ∈ scope.names,y.2 = .free->osc.names.lookup y.1 = some .cell\/osc.names.lookup y.1 = some .free
 fro:∀ j ∈ fr,∃ x,N0[j]? = some x/\scope.names.lookup x = some .free
 nd:(xs ++ fr.map fun j=>N0.getD j "").Nodup
def compN (N0:List Str) (xs:List Str) (fr:List Nat):List Str:=xs ++ fr.map fun j=>N0.getD j ""
def compSt (xs:List Str) (fr:List Nat) (σ:St):St:=xs.map (fun _=>none) ++ fr.map fun j=>(σ[j]?).join
theorem mem_of_lookup' {κ:Type}:∀ {l:List (Str × κ)} {x:Str} {k:κ},l.lookup x = some k->(x,k) ∈ l
 | [],_,_,h=>by cases h
 | (n,k') :: r,x,k,h=>by
  rw [List.lookup_cons] at h
  cases hx:x == n with
  | true=>
   rw [hx] at h
   have h':k' = k:=Option.some.inj h
   rw [eq_of_beq hx,h']
   exact List.mem_cons_self
  | false=>
   rw [hx] at h
   exact List.mem_cons_of_mem _ (mem_of_lookup' h)
theorem relabel_look {env:Env}:∀ {names:List (Str × NameKind)} {x:Str} {k:NameKind},
  (names.map fun (n,k)=>if (k == NameKind.free && env.scope.kind == .function && env.kindOf n == some .cell) then (n,NameKind.cell) else (n,k)).lookup x = some k →
  names.lookup x = some k\/(k = .cell/\names.lookup x = some .free)
 | [],_,_,h=>by cases h
 | (n,k') :: r,x,k,h=>by
  have ih:=@relabel_look env r x k
  rw [List.map_cons] at h
  rw [List.lookup_cons]
  by_cases hc:(k' == NameKind.free && env.scope.kind == .function && env.kindOf n == some .cell) = true
  ·have h':List.lookup x ((n,NameKind.cell) :: (r.map fun (n,k)=>if (k == NameKind.free && env.scope.kind == .function && env.kindOf n == some .cell) then (n,NameKind.cell) else (n,k))) = some k:=by
    rw [← h];simp only [hc,if_true]
   rw [List.lookup_cons] at h'
   cases hx:x == n with
   | true=>
    rw [hx] at h'
    have h2:NameKind.cell = k:=Option.some.inj h'
    rw [Bool.and_eq_true,Bool.and_eq_true] at hc
    exact .inr ⟨h2.symm,congrArg some (eq_of_beq hc.1.1)⟩
   | false=>
    rw [hx] at h'
    exact ih h'
  ·have h':List.lookup x ((n,k') :: (r.map fun (n,k)=>if (k == NameKind.free && env.scope.kind == .function && env.kindOf n == some .cell) then (n,NameKind.cell) else (n,k))) = some k:=by
    rw [← h];simp only [hc];rfl
   rw [List.lookup_cons] at h'
   cases hx:x == n with
   | true=>
    rw [hx] at h'
    exact .inl h'
   | false=>
    rw [hx] at h'
    exact ih h'
theorem relabel_free {env:Env}:∀ {names:List (Str × NameKind)} {x:Str},names.lookup x = some .free →
  (names.map fun (n,k)=>if (k == NameKind.free && env.scope.kind == .function && env.kindOf n == some .cell) then (n,NameKind.cell) else (n,k)).lookup x = some .cell ∨
  (names.map fun (n,k)=>if (k == NameKind.free && env.scope.kind == .function && env.kindOf n == some .cell) then (n,NameKind.cell) else (n,k)).lookup x = some .free
 | [],_,h=>by cases h
 | (n,k') :: r,x,h=>by
  have ih:=@relabel_free env r x
  rw [List.lookup_cons] at h
  rw [List.map_cons]
  by_cases hc:(k' == NameKind.free && env.scope.kind == .function && env.kindOf n == some .cell) = true
  ·have e:(match (n,k') with | (n,k)=>if (k == NameKind.free && env.scope.kind == .function && env.kindOf n == some .cell) then (n,NameKind.cell) else (n,k)) = (n,NameKind.cell):=by
    simp only [hc,if_true]
   rw [e,List.lookup_cons]
   cases hx:x == n with
   | true=>exact .inl rfl
   | false=>rw [hx] at h;exact ih h
  ·have e:(match (n,k') with | (n,k)=>if (k == NameKind.free && env.scope.kind == .function && env.kindOf n == some .cell) then (n,NameKind.cell) else (n,k)) = (n,k'):=by
    simp only [hc];rfl
   rw [e,List.lookup_cons]
   cases hx:x == n with
   | true=>
    rw [hx] at h
    exact .inr h
   | false=>rw [hx] at h;exact ih h
section
variable {X:Cx}
theorem comp_free {osc scope:Scope} {N0 xs:List Str} {fr:List Nat} {pins:List (Addr × Obj)} {σ:St} {H:Hp} {s:Shared} (C:CompTx osc scope N0 xs fr) (ho:X.env.scope = osc) (I:Inv X pins σ H s) :
  ∀ y ∈ scope.names,y.2 = .free->∃ c,X.env.cells.lookup y.1 = some c:=fun y hy e=>by
 refine I.ok.has y.1 ?_
 rw [← ho] at C
 exact C.free y hy e
theorem comp_start {osc scope:Scope} {N0 xs:List Str} {fr:List Nat} {pins:List (Addr × Obj)} {σ:St} {H:Hp} {s:Shared} {fp:List Addr} {h₁:Heap} {tk:Nat} (C:CompTx osc scope N0 xs fr) (ho:X.env.scope = osc) (hN0:X.N = N0) (I:Inv X pins σ H s)
  (hf:∀ b ∈ fp,FpOk X pins H b) (hlt:∀ b ∈ fp,b < s.heap.objs.size) (hn:h₁.Ns s.heap.objs.size fun _=>none) (hk:∀ b o,s.heap.get? b = some o->h₁.get? b = some o) :
  Inv (cxComp X scope (compN N0 xs fr) s H fp) [] (compSt xs fr σ) H { s with heap:=h₁,toks:=tk }:=by
 subst hN0
 have hfree:=comp_free C ho I
 have sub:=clos_sub (env:=X.env) scope.names [] hfree (fun x c e=>by cases e)
 have nC:∀ x c,X.env.cells.lookup x = some c->c ≠ s.heap.objs.size:=fun x c e z=>by
  obtain ⟨v,q⟩:=I.cell x c e
  exact absurd q.lt (by rw [z];exact Nat.lt_irrefl _)
 refine ⟨⟨I.ok.mod,C.kind,I.ok.glob,I.ok.blt,Nat.le_refl _,fun x y c h1 h2=>I.ok.inj x y c (sub x c h1) (sub y c h2),fun x hx=>?_,fun x c h _=>(Bool.false_ne_true h).elim,I.ok.hd,I.ok.frames,.inl rfl,fun b hb=>?_,I.bs,Nat.le_trans I.ok.bsz I.sz,fun b o e hb=>?_,fun b hb hz=>?_,I.stack,I.stkFree⟩,
  rfl,I.bare,Un.kept hk,⟨_,hn,fun i x v h1 h2 h3=>?_⟩,fun x c h=>?_,I.hok.fresh (Nat.le_refl _),fun x c h=>I.freeC x c (sub x c h),fun p hp=>absurd (show p ∈ ([]:List (Addr × Obj)) from hp) (by simp),I.hok.kept hk,?_⟩
 ·have hx':(relabel scope X.env).names.lookup x = some .cell\/(relabel scope X.env).names.lookup x = some .free:=hx
  refine clos_has (env:=X.env) scope.names [] x (.inl ?_)
  rcases hx' with q | q
  ·rcases relabel_look q with z | ⟨_,z⟩
   ·exact absurd rfl (C.nocell _ (mem_of_lookup' z))
   ·exact mem_of_lookup' z
  ·rcases relabel_look q with z | ⟨z,_⟩
   ·exact mem_of_lookup' z
   ·cases z
 ·exact ⟨Nat.ne_of_lt (hlt b hb),fun x c h=>(hf b hb).2.2.2.2.1 x c (sub x c h)⟩
 ·rcases (hf b hb).2.2.2.1 with z | z
  ·exact I.ok.noex b o e z
  ·exact absurd (Nat.lt_of_lt_of_le (Heap.lt_size e) (Nat.le_trans I.ok.bsz z)) (Nat.lt_irrefl _)
 ·rcases List.mem_cons.mp (I.stkSub b hz) with z | z
  ·exact (hf b hb).2.1 z
  ·exact (hf b hb).2.2.1 z
 ·
  have hi:¬ i < xs.length:=fun hi=>by
   unfold compSt at h2
   rw [List.getElem?_append_left (by rw [List.length_map];exact hi),List.getElem?_map] at h2
   cases q:xs[i]? with
   | none=>rw [q] at h2;cases h2
   | some y=>rw [q] at h2;cases h2
  have hi':xs.length ≤ i:=Nat.le_of_not_lt hi
  have e2:(fr.map fun j=>(σ[j]?).join)[i - xs.length]? = some (some v):=by
   have:=h2
   unfold compSt at this
   rw [List.getElem?_append_right (by rw [List.length_map];exact hi'),List.length_map] at this
   exact this
  rw [List.getElem?_map] at e2
  cases q:fr[i - xs.length]? with
  | none=>rw [q] at e2;cases e2
  | some j=>
   rw [q] at e2
   have e3:(σ[j]?).join = some v:=Option.some.inj e2
   have e4:σ[j]? = some (some v):=by
    cases z:σ[j]? with
    | none=>rw [z] at e3;cases e3
    | some u=>rw [z] at e3;rw [show u = some v from e3]
   obtain ⟨y,hy,hyf⟩:=C.fro j (List.mem_of_getElem? q)
   have ex:x = y:=by
    have h1':(compN X.N xs fr)[i]? = some x:=h1
    unfold compN at h1'
    rw [List.getElem?_append_right hi',List.getElem?_map,q] at h1'
    have h5:X.N.getD j "" = x:=Option.some.inj h1'
    rw [← h5,List.getD_eq_getElem?_getD,hy]
    rfl
   subst ex
   obtain ⟨m,_,hl⟩:=I.loc
   have kf:=C.free _ (mem_of_lookup' hyf) rfl
   rw [← ho] at kf
   have vis:Vis X.env.scope x:=by
    rcases kf with z | z
    ·exact .inr (.inl z)
    ·exact .inr (.inr z)
   obtain ⟨u,r,l⟩:=hl j x v hy e4 vis
   refine ⟨u,r,.inr ⟨relabel_free hyf,?_⟩⟩
   rcases l with ⟨z,_⟩ | ⟨_,c,hc,hcell⟩
   ·have z':X.env.scope.names.lookup x = some .local:=z
    rcases kf with w | w
    ·rw [z'] at w;cases w
    ·rw [z'] at w;cases w
   ·obtain ⟨c',hc'⟩:=clos_has (env:=X.env) scope.names [] x (.inl (mem_of_lookup' hyf))
    have e5:=sub x c' hc'
    rw [hc] at e5
    cases e5
    refine ⟨c,hc',?_⟩
    obtain ⟨o,ho',hd⟩:=hcell
    exact ⟨o,hk _ _ ho',hd⟩
 ·obtain ⟨v,o,ho',hd⟩:=I.cell x c (sub x c h)
  exact ⟨v,o,hk _ _ ho',hd⟩
 ·show (compSt xs fr σ).length = (compN X.N xs fr).length
  unfold compSt compN
  simp
end
end L2
namespace L2
open PySem PySem.Spec PyProof.Rows
def PIf (X:Cx) (ifs:List Expr) (t:TT):Prop:=
 ∀ (pins:List (Addr × Obj)) (s:Shared) (σ:St) (H:Hp) (Q:Bool->Hp->Prop),Inv X pins σ H s->t σ H Q →
  wpAny (model X.prog X.w) X.A (forIn ifs true fun c r=>if r = true then do let ok ← isTrue c X.env (eval c X.env);pure (ForInStep.yield ok) else pure (ForInStep.yield r)) (TP X pins σ Q) X.xe s
def tYes:TT:=fun _ H Q=>Q true H
theorem pif_nil {X:Cx}:PIf X [] tYes:=fun _ _ σ H Q I h=>wpAny_tests_nil ⟨H,I,h⟩
def CompW (J:It) (g:TG) (tt:TT) (te:TE) (R:Addr->Hp->Prop) (D:Addr) (σ0:St) (H0:Hp):Prop:=
 ∃ W:Nat->Nat->St->Hp->Prop,(∃ m,W 0 m σ0 H0)/\∀ i m σ H,W i m σ H →
  (J.stop i H/\R D H) ∨
  (J.go i H/\∃ (N:St->V->Hp->Prop) (M:St->Hp->Prop),(∀ σ2 y H4,N σ2 y H4->∃ ys,H4 D = some (.lst ys)/\ys.length < sizeLine/\∃ m',m' < m/\W (i + 1) m' σ2 (upd H4 D (.lst (ys ++ [y])))) ∧
   (∀ σ2 H3,M σ2 H3->∃ m',m' < m/\W (i + 1) m' σ2 H3) ∧
   ∀ x H',J.yld i H x H'->g x σ H' fun σ2 H2=>tt σ2 H2 fun b H3=>if b = true then te σ2 H3 (N σ2) else M σ2 H3)
def tComp (xs:List Str) (fr:List Nat) (wi:TI) (g:TG) (tt:TT) (te:TE):TE:=fun σ H Q=>wi σ H fun J H1=>∀ D,H1 D = none->CompW J g tt te (fun D H2=>Q (.ref D) H2) D (compSt xs fr σ) (upd H1 D (.lst []))
def sComp (i:Nat) (xs:List Str) (fr:List Nat) (wi:TI) (g:TG) (tt:TT) (te:TE):TS:=fun E σ H=>wi σ H fun J H1=>∀ D,H1 D = none->CompW J g tt te (fun D H2=>E.nx (σ.set i (some (.ref D))) H2) D (compSt xs fr σ) (upd H1 D (.lst []))
section
variable {X:Cx}
theorem comp_block {osc scope:Scope} {N0 xs:List Str} {fr:List Nat} {pins:List (Addr × Obj)} {σ:St} {H2:Hp} {s2:Shared} {fp:List Addr} {it:Addr} {tn:Nat->Heap->Prop} {J:It} {elt tg iter:Expr} {ifs:List Expr} {pos:Pos}
  {g:TG} {tt:TT} {te:TE} {E:Value->Shared->Prop} {R:Addr->Hp->Prop} {RR:Value->Addr->Result->Shared->Prop} (C:CompTx osc scope N0 xs fr) (ho:X.env.scope = osc) (hN0:X.N = N0) (hc:X.calm = true)
  (hg:∀ s H fp,PG (cxComp X scope (compN N0 xs fr) s H fp) tg g) (ht:∀ s H fp,PIf (cxComp X scope (compN N0 xs fr) s H fp) ifs tt) (he:∀ s H fp,PE (cxComp X scope (compN N0 xs fr) s H fp) elt te)
  (I2:Inv X pins σ H2 s2) (T:Turn X.prog X.w X.K tg J fp it tn) (st2:tn 0 s2.heap) (f2:∀ b ∈ fp,FpOk X pins H2 b)
  (hR:∀ D,H2 D = none->CompW J g tt te R D (compSt xs fr σ) (upd H2 D (.lst [])))
  (hRR:∀ (D C:Addr) (s':Shared) (H':Hp) (m:Str->Option Value),Inv X pins σ H' s'->s'.heap.Ns C m->FpOk X pins H' C->R D H'->RR (.ref D) C (.ok .next) s') :
  wpAny (model X.prog X.w) X.A (newList []) (fun acc s₃=>wpAny (model X.prog X.w) X.A (newFunctionEnv scope X.env.globals (closL X.env scope.names) [] X.env.qual none .none (some X.env)) (fun cenv s₄=>
   codeAny (model X.prog X.w) X.A (.compStart (.ListComp elt [⟨tg,iter,ifs,0⟩] scope pos) 0 (.ref it) acc { cenv with scope:=relabel scope X.env }) (RR acc cenv.locals) s₄) E s₃) E s2:=by
 refine wpAny_newObj_type (wpAny_newFunctionEnv C.nocell (by intro y hy;simp at hy) (fun h₁ hns₁ hsb₁=>?_) C.kind)
 dsimp only at hns₁ hsb₁ ⊢
 have I3:Inv X pins σ (upd H2 s2.heap.objs.size (.lst [])) { s2 with heap:=s2.heap.push { cls:=.type "list",data:=.seq ([]:List Value).toArray } }:=I2.lnew (its:=[]) (t':=s2.toks) .nil (by simp)
 have flt:∀ b ∈ fp,b < s2.heap.objs.size:=fun b hb=>by
  obtain ⟨o,e,_⟩:=T.obj 0 _ st2 b hb
  exact Heap.lt_size e
 have f3:∀ b ∈ fp,FpOk X pins (upd H2 s2.heap.objs.size (.lst [])) b:=fun b hb=>⟨by rw [upd_ne (Nat.ne_of_lt (flt b hb))];exact (f2 b hb).1,(f2 b hb).2⟩
 have flt3:∀ b ∈ fp,b < (s2.heap.push { cls:=.type "list",data:=.seq ([]:List Value).toArray }).objs.size:=fun b hb=>by
  rw [Heap.size_push]
  exact Nat.lt_succ_of_lt (flt b hb)
 obtain ⟨W,⟨m0,w0⟩,turn⟩:=hR s2.heap.objs.size I2.fresh
 generalize hD:s2.heap.objs.size = D at *
 generalize hs3:s2.heap.push { cls:=.type "list",data:=.seq ([]:List Value).toArray } = h3 at *
 have up2:∀ b o,s2.heap.get? b = some o->h3.get? b = some o:=fun b o e=>by rw [← hs3];exact Heap.get?_push_of_some _ e
 have old:∀ b o,h3.get? b = some o->h₁.get? b = some o:=fun b o e=>hsb₁.extBut b o (Nat.ne_of_lt (Heap.lt_size e)) (Heap.get?_push_of_some _ e)
 have Ic:=comp_start (tk:=s2.toks + ([]:List (Str × Value)).length) C ho hN0 I3 f3 flt3 hns₁ old
 have st4:tn 0 h₁:=T.keep 0 _ _ st2 fun b hb o e=>old b o (up2 b o e)
 have stat:∀ {H':Hp},(∀ b ∈ fp,H' b = none)->∀ b ∈ fp,FpOk (cxComp X scope (compN N0 xs fr) { s2 with heap:=h3 } (upd H2 D (.lst [])) fp) [] H' b:=fun hn b hb=>
  ⟨hn b hb,Nat.ne_of_lt (flt3 b hb),fun z=>by
   rcases List.mem_cons.mp (I3.stkSub b z) with q | q
   ·exact (f3 b hb).2.1 q
   ·exact (f3 b hb).2.2.1 q,.inl hb,fun x c h=>(Ic.ok.exf b hb).2 x c h,fun p hp=>absurd (show p ∈ ([]:List (Addr × Obj)) from hp) (by simp)⟩
 have fin:∀ {σ':St} {H':Hp} {s':Shared},Inv (cxComp X scope (compN N0 xs fr) { s2 with heap:=h3 } (upd H2 D (.lst [])) fp) [] σ' H' s'->R D H'->RR (.ref D) h3.objs.size (.ok .next) s':=fun {σ' H' s'} I' q=>by
  obtain ⟨m,hm,_⟩:=I'.loc
  refine hRR D h3.objs.size s' H' m (I3.call' I'.os I'.base I'.hok I'.bare fun b hb=>?_) hm (I3.fpOk (Nat.le_refl _) I'.free) q
  exact ⟨(f3 b hb).2.2.2.1,(f3 b hb).2.1,(f3 b hb).2.2.2.2.1,(f3 b hb).2.2.2.2.2⟩
 have loop:codeAny (model X.prog X.w) X.A (.compLoop (.ListComp elt [⟨tg,iter,ifs,0⟩] scope pos) 0 (.ref it) (.ref D) (compEnvC scope (closL X.env scope.names) h3.objs.size X.env)) (RR (.ref D) h3.objs.size) { s2 with heap:=h₁,toks:=s2.toks + ([]:List (Str × Value)).length }:=by
  refine codeAny_loop rfl (fun n s'=>∃ i σ' H',Inv (cxComp X scope (compN N0 xs fr) { s2 with heap:=h3 } (upd H2 D (.lst [])) fp) [] σ' H' s'/\tn i s'.heap/\(∀ b ∈ fp,H' b = none)/\W i n σ' H') (fun n s' hI=>?_) m0 ⟨0,_,_,Ic,st4,fun b hb=>(f3 b hb).1,w0⟩
  show wpAny _ X.A ((compTurn (.ListComp elt [⟨tg,iter,ifs,0⟩] scope pos) 0 (.ref it) (.ref D) (compEnvC scope (closL X.env scope.names) h3.objs.size X.env)).onRaise (fun x=>do noteFrame x (compEnvC scope (closL X.env scope.names) h3.objs.size X.env);theTreesLotGoes x)) _ _ s'
  refine wpAny_noted ?_
  rw [compTurn_list]
  obtain ⟨i,σ',H',I',st',fr',w'⟩:=hI
  refine wpAny_bind (wpAny_standAt (wpAny_bind ?_))
  rcases turn i n σ' H' w' with ⟨stop,q⟩ | ⟨go,N,M,hN,hM,step⟩
  ·refine thn (T.done (cxComp X scope (compN N0 xs fr) { s2 with heap:=h3 } (upd H2 D (.lst [])) fp) rfl rfl rfl hc i [] s' σ' H' _ I' (stat fr') st' stop) fun r s4 ⟨hr,I4⟩=>?_
   subst hr
   exact wpAny_pure (fin I4 q)
  ·refine thn (T.item (cxComp X scope (compN N0 xs fr) { s2 with heap:=h3 } (upd H2 D (.lst [])) fp) rfl rfl rfl hc i [] s' σ' H' _ I' (stat fr') st' go) fun r s4 ⟨u,hr,h4⟩=>?_
   subst hr
   refine wpAny_bind (thn h4 fun _ s5 ⟨x,H5,I5,r5,y5,st5,fr5⟩=>?_)
   have I5':=I5.pinned (stat fr5) (T.obj _ _ st5)
   have again:∀ {σ7:St} {H7:Hp} {s7:Shared},Inv (cxComp X scope (compN N0 xs fr) { s2 with heap:=h3 } (upd H2 D (.lst [])) fp) ([] ++ pinsAt fp s5.heap) σ7 H7 s7->(∃ m',m' < n/\W (i + 1) m' σ7 H7) →
     ∃ m,m < n/\∃ i σ' H',Inv (cxComp X scope (compN N0 xs fr) { s2 with heap:=h3 } (upd H2 D (.lst [])) fp) [] σ' H' s7/\tn i s7.heap/\(∀ b ∈ fp,H' b = none)/\W i m σ' H':=fun {σ7 H7 s7} I7 n7=>by
    obtain ⟨m',hm,w7⟩:=n7
    refine ⟨m',hm,i + 1,σ7,H7,I7.unpinned,T.keep _ _ _ st5 fun b hb o e=>(I7.pin (b,o) (List.mem_append_right _ (List.mem_append_right _ (mem_pinsAt hb e)))).1,fun b hb=>?_,w7⟩
    obtain ⟨o,e,d⟩:=T.obj _ _ st5 b hb
    exact (I7.pin (b,o) (List.mem_append_right _ (List.mem_append_right _ (mem_pinsAt hb e)))).2.1
   refine wpAny_bind (wpAny_mono (hg _ _ _ _ s5 σ' H5 x u _ I5' r5 (step x H5 y5)) (fun _ s6 ⟨σ6,H6,I6,q6⟩=>?_) fun _ _ z=>False.elim z)
   refine wpAny_bind (wpAny_mono (ht _ _ _ _ s6 σ6 H6 _ I6 q6) (fun ok s7 ⟨H7,I7,q7⟩=>?_) fun _ _ z=>False.elim z)
   cases ok with
   | false=>
    rw [if_neg Bool.false_ne_true] at q7
    exact wpAny_pure ⟨rfl,again I7 (hM _ _ q7)⟩
   | true=>
    rw [if_pos rfl] at q7
    refine wpAny_bind (wpAny_bind (wpAny_mono (he _ _ _ _ s7 σ6 H7 _ I7 q7) (fun y s8 ⟨v,H8,I8,r8,q8⟩=>?_) fun _ _ z=>False.elim z))
    obtain ⟨ys,eD,hz,q8⟩:=hN _ _ _ q8
    refine wpAny_bind (wpAny_mono (mt_append (X:=cxComp X scope (compN N0 xs fr) { s2 with heap:=h3 } (upd H2 D (.lst [])) fp) _ s8 σ6 H8 (.ref D) [v] (.ref D) [y] (fun _ H9=>∃ m',m' < n/\W (i + 1) m' σ6 H9) I8 rfl (.cons r8 .nil) ⟨D,ys,v,rfl,rfl,eD,hz,q8⟩) (fun _ s9 ⟨_,H9,I9,_,q9⟩=>?_) fun _ _ z=>False.elim z)
    exact wpAny_pure (wpAny_pure ⟨rfl,again I9 q9⟩)
 exact codeAny_compStart_list loop (T.self X.A 0 _ _ _ st4 loop)
variable {osc scope:Scope} {N0 xs:List Str} {fr:List Nat} {elt tg iter:Expr} {ifs:List Expr} {pos:Pos} {wi:TI} {g:TG} {tt:TT} {te:TE}
theorem pe_comp (C:CompTx osc scope N0 xs fr) (ho:X.env.scope = osc) (hN0:X.N = N0) (hc:X.calm = true) (hi:PI X tg iter wi)
  (hg:∀ s H fp,PG (cxComp X scope (compN N0 xs fr) s H fp) tg g) (ht:∀ s H fp,PIf (cxComp X scope (compN N0 xs fr) s H fp) ifs tt) (he:∀ s H fp,PE (cxComp X scope (compN N0 xs fr) s H fp) elt te)
  (hs:∀ x,foldedSetIterable iter X.env x = pure x:=by intro _;rfl):PE X (.ListComp elt [⟨tg,iter,ifs,0⟩] scope pos) (tComp xs fr wi g tt te):=by
 intro pins s σ H Q I h
 rw [eval_ListComp]
 refine wpAny_comprehension_free (use:=none) rfl hs (clos_ok (comp_free C ho I)) C.kind C.names (thn (hi pins s σ H _ I h) fun v s1 h1=>thn h1 fun itv s2 h2=>?_)
 obtain ⟨it,fp,tn,J,H2,e,I2,T,st2,f2,hR⟩:=h2
 subst e
 refine comp_block C ho hN0 hc hg ht he I2 T st2 f2 hR fun D C s' H' m I' hm fC q=>?_
 refine ⟨m,hm,fun h' sb=>⟨.ref D,H',?_,rfl,q⟩⟩
 exact I'.turned (t':=s'.toks) (fun b o hb e=>(sb.2 b hb).trans e) fC.1 fC.2.1 fC.2.2.2.1 fC.2.2.2.2.1 fC.2.2.2.2.2
theorem ps_comp {i:Nat} {y:Str} {py spos:Pos} (C:CompTx osc scope N0 xs fr) (ho:X.env.scope = osc) (hN0:X.N = N0) (hc:X.calm = true) (hi:PI X tg iter wi)
  (hg:∀ s H fp,PG (cxComp X scope (compN N0 xs fr) s H fp) tg g) (ht:∀ s H fp,PIf (cxComp X scope (compN N0 xs fr) s H fp) ifs tt) (he:∀ s H fp,PE (cxComp X scope (compN N0 xs fr) s H fp) elt te)
  (hN:X.N.Nodup) (hy:X.N[i]? = some y) (hx:Loc X.env.scope y)
  (hsw:swapsWith (.ListComp elt [⟨tg,iter,ifs,0⟩] scope pos) (some (.Name y py)) spos.line X.env = pure true:=by rfl)
  (hf:X.fn y = true\/X.env.scope.names.lookup y = some .local:=by first | exact .inl rfl | exact .inr rfl | assumption)
  (hs:∀ x,foldedSetIterable iter X.env x = pure x:=by intro _;rfl):PS X (.Assign [.Name y py] (.ListComp elt [⟨tg,iter,ifs,0⟩] scope pos) spos) (sComp i xs fr wi g tt te):=by
 intro pins s σ H D I h
 rw [exec_Assign_Name_used _ _ _ _ hsw]
 refine wpAny_bind (wpAny_standAt (wpAny_bind ?_))
 show wpAny _ X.A (do let _ ← comprehension (.ListComp elt [⟨tg,iter,ifs,0⟩] scope pos) scope X.env _ (newList []) false (eval iter X.env) (some (assign (.Name y py) X.env))) _ _ s
 refine wpAny_bind (wpAny_mono (wpAny_comprehension_free (use:=some (assign (.Name y py) X.env)) (Q:=fun _ s'=>SP X pins D .next s') rfl hs (clos_ok (comp_free C ho I)) C.kind C.names
  (thn (hi pins s σ H _ I h) fun v s1 h1=>thn h1 fun itv s2 h2=>?_)) (fun _ s' hq=>wpAny_pure (wpAny_pure hq)) fun _ _ e=>e)
 obtain ⟨it,fp,tn,J,H2,e,I2,T,st2,f2,hR⟩:=h2
 subst e
 refine comp_block C ho hN0 hc hg ht he I2 T st2 f2 hR fun Dl C s' H' m I' hm fC q=>?_
 refine wpAny_assign_Name (store_ok2 I' hN hy hx (show RelV (.ref Dl) (.ref Dl) from rfl) (fun s3 I3 hsb=>?_) hf)
 obtain ⟨a,sb,ha⟩:=hsb
 have hCa:C ≠ a:=by
  rcases ha with z | z
  ·rw [z];exact fC.2.1
  ·exact fun w=>fC.2.2.2.2.1 y a z w.symm
 refine ⟨m,hm.sameBut sb hCa,fun h' sb'=>⟨_,H',?_,q⟩⟩
 exact I3.turned (t':=s3.toks) (fun b o hb e=>(sb'.2 b hb).trans e) fC.1 fC.2.1 fC.2.2.2.1 fC.2.2.2.2.1 fC.2.2.2.2.2
end
def Its (x:Str):It:=⟨fun i _=>i < x.cps.size,fun i H v H'=>H' = H/\∃ c,x.cps[i]? = some c/\v = .str ⟨#[c]⟩,fun i _=>x.cps.size ≤ i⟩
theorem strIter_ty (x:Str):strIterType x = "str_ascii_iterator"\/strIterType x = "str_iterator":=by
 unfold strIterType
 split
 ·exact .inl rfl
 ·exact .inr rfl
theorem turn_str {P:Program} {w:World} {K:PySem.W.Frag} {tg:Expr} (x:Str) (t:Tok) (it:Addr):Turn P w K tg (Its x) [it] it (fun i h=>h.IsStrIter it (strIterType x) x t i) where
 mem:=by simp
 obj:=fun i h st b hb=>by
  have e:b = it:=by simpa using hb
  subst e
  obtain ⟨o,e,c,d⟩:=st
  exact ⟨o,e,fun v z=>by rw [d] at z;cases z⟩
 keep:=fun i h h' st k=>by
  obtain ⟨o,e,r⟩:=st
  exact ⟨o,k it (by simp) o e,r⟩
 item:=by
  intro X hP hw hK hc i pins s σ H E I hf st hg
  subst hP hw hK
  have hg':i < x.cps.size:=hg
  obtain ⟨f0,f1,f2,f3,f4,f5⟩:=hf it (by simp)
  have key:∀ h',h'.IsStrIter it (strIterType x) x t (i + 1)->Heap.SameBut it s.heap h'->∃ u,some (Value.str ⟨#[x.cps[i]]⟩ s.toks) = some u ∧
   wpAny (model X.prog X.w) X.A (letOwnedTupleGo tg (.ref it) u) (fun _ s2=>∃ v H',Inv X pins σ H' s2/\RelV v u/\(Its x).yld i H v H'/\s2.heap.IsStrIter it (strIterType x) x t (i + 1)/\∀ b ∈ [it],H' b = none) E { s with heap:=h',toks:=s.toks + 1 }:=fun h' st' sb=>by
   have I1:Inv X pins σ H { s with heap:=h',toks:=s.toks + 1 }:=I.turned (t':=s.toks + 1) (fun b o hb e=>(sb.2 b hb).trans e) f0 f1 f3 f4 f5
   obtain ⟨o,e,c,d⟩:=id st'
   refine ⟨_,rfl,go_of (s:={ s with heap:=h',toks:=s.toks + 1 }) e c d ?_ ⟨.str ⟨#[x.cps[i]]⟩,H,I1,⟨_,rfl⟩,⟨rfl,_,by simp [hg'],rfl⟩,st',fun b hb=>(hf b hb).1⟩⟩
   rcases strIter_ty x with z | z <;> rw [z] <;> decide
  rcases strIter_ty x with z | z
  ·rw [z] at st key
   rw [z]
   exact wpAny_pyNext_ascii_item st (c:=x.cps[i]) (by simp [hg']) fun h' a b=>key h' a b
  ·rw [z] at st key
   rw [z]
   exact wpAny_pyNext_wide_item st (c:=x.cps[i]) (by simp [hg']) fun h' a b=>key h' a b
 done:=by
  intro X hP hw hK hc i pins s σ H E I hf st hg
  subst hP hw hK
  have hg':x.cps.size ≤ i:=hg
  obtain ⟨f0,f1,f2,f3,f4,f5⟩:=hf it (by simp)
  have hx:x.cps[i]? = none:=by simp [hg']
  rcases strIter_ty x with z | z
  ·rw [z] at st
   exact wpAny_pyNext_ascii_end (I.ok.hd hc) st hx fun h' eb=>⟨rfl,I.turned (t':=s.toks) (fun b o hb e=>eb b o hb e) f0 f1 f3 f4 f5⟩
  ·rw [z] at st
   exact wpAny_pyNext_wide_end (I.ok.hd hc) st hx fun h' eb=>⟨rfl,I.turned (t':=s.toks) (fun b o hb e=>eb b o hb e) f0 f1 f3 f4 f5⟩
 self:=fun A i s Q E st h=>by
  rcases strIter_ty x with z | z
  ·rw [z] at st
   exact wpAny_pyIter_striter_ascii st h
  ·rw [z] at st
   exact wpAny_pyIter_striter_wide st h
section
variable {X:Cx} {tg:Expr}
def iStr (tl:TE):TI:=fun σ H R=>tl σ H fun x H1=>∃ z,x = .str z/\R (Its z) H1
theorem pi_str {l:Expr} {tl:TE} (hl:PE X l tl):PI X tg l (iStr tl):=by
 intro pins s σ H R I h
 refine thn (hl pins s σ H _ I h) fun v s1 ⟨x,H1,I1,r1,q1⟩=>?_
 obtain ⟨z,e,q⟩:=q1
 subst e
 obtain ⟨t,rfl⟩:=r1
 refine wpAny_pyIter_strU ?_
 refine ⟨s1.heap.objs.size,[s1.heap.objs.size],_,_,H1,rfl,I1.kept (t':=s1.toks) fun b o e=>Heap.get?_push_of_some _ e,turn_str z t _,⟨_,Heap.get?_push_size _ rfl,rfl,rfl⟩,fun b hb=>?_,q⟩
 have e:b = s1.heap.objs.size:=by simpa using hb
 subst e
 exact I1.fpOk (Nat.le_refl _) (I1.hok.fresh (Nat.le_refl _))
theorem bools_of:∀ {bs:List Bool} {us:List Value},Vals (bs.map V.bl) us->LSm.BoolsAre us bs
 | [],_,r=>by rw [List.map_nil] at r;cases r;exact .nil
 | b :: bs,_,r=>by
  rw [List.map_cons] at r
  cases r with
  | cons h t=>
   cases h
   exact .cons b (bools_of t)
theorem call_all (hc:X.calm = true):CallR X (.builtin "all") (fun xs H Q=>∃ (p:Addr) (bs:List Bool),xs = [.ref p]/\SqL X.K H p (bs.map V.bl)/\Q (.bl (bs.all id)) H):=by
 intro pins s σ H xs us Q I r h
 obtain ⟨l,bs,rfl,hq,q⟩:=h
 obtain ⟨u,rfl,rx⟩:=vals1 r
 cases rx
 obtain ⟨vs,r',pl,hz⟩:=I.list hq
 have hb:LSm.BoolsAre vs bs:=bools_of r'
 have hl:=pl.isList
 have hlt:l < s.heap.objs.size:=by obtain ⟨_,e,_⟩:=hl;exact Heap.lt_size e
 refine call_all_walk (wpAny_pyIter_list hl ?_)
 refine ⟨s.heap.objs.size,[s.heap.objs.size,l],[s.heap.objs.size],vs.toArray.size,_,_,fun i=>(bs[i]?).getD true,rfl,Walks.list (A:=X.A.in1) (I.ok.hd hc) _ l (Nat.ne_of_lt hlt) vs.toArray,
  ⟨⟨_,Heap.get?_push_size _ rfl,rfl,rfl⟩,hl.push _⟩,fun i v s' Q' E' hP hQ=>?_,fun h' tk hk=>?_⟩
 ·obtain ⟨b,e,rfl⟩:=hb.get i v (by simpa using hP)
  simp only [e,Option.getD_some] at hQ
  exact wpAny_truthy_bool hQ
 ·have e:((List.range vs.toArray.size).all fun i=>(bs[i]?).getD true) = bs.all id:=by
   rw [List.size_toArray,hb.length];exact LSm.range_all bs
  rw [e]
  exact ⟨.bl (bs.all id),H,I.kept (LSm.kept_iter hk),rfl,q⟩
theorem call_isi:CallR X (.builtin "isinstance") (fun xs H Q=>∃ x n t b,xs = [x,.ty n]/\TyOf X.K H x t/\PySem.W.kitOne X.K t (.type n) = some b/\Q (.bl b) H):=by
 intro pins s σ H xs us Q I r h
 obtain ⟨x,n,t,b,rfl,ty,e,q⟩:=h
 obtain ⟨u,w',rfl,rx,rc⟩:=vals2 r
 cases (show w' = Value.type n from rc)
 exact isinst_ok I rx ty e fun tk=>⟨.bl b,H,I.tok tk,rfl,q⟩
end
section
variable {X:Cx}
theorem sl_str:SlR X (fun x lo hi H Q=>∃ z,x = .str z/\z.length ≤ sizeLine/\Q (.str (Txt.slice z lo hi)) H):=by
 intro pins s σ H x v vl vu lo hi sl Q I rx hs pl pu h
 obtain ⟨z,rfl,hz,q⟩:=h
 obtain ⟨t,rfl⟩:=rx
 refine ⟨"str",_,F.slot_str_getitem.lookup,typeIs_str _ _ _,?_⟩
 obtain ⟨o,e1,e2,e3⟩:=hs
 have fin:∀ (l u:Option (Int × Tok)),vl = partValue l->vu = partValue u->l.map (·.1) = lo->u.map (·.1) = hi->wpAny (model X.prog X.w) X.A (getItem (.str z t) (.ref sl)) (EP X pins σ Q) X.xe s:=by
  intro l u h1 h2 h3 h4
  subst h1 h2 h3 h4
  refine wpAny_getItem_str_slice (l:=l) (u:=u) (st:=none) ⟨o,e1,e2,e3⟩ rfl (post_val_or_str ⟨Nat.le_trans (Txt.slice_le z (l.map (·.1)) (u.map (·.1))) hz,fun t' k=>?_⟩)
  exact ⟨.str (Txt.slice z (l.map (·.1)) (u.map (·.1))),H,I.tok k,⟨t',rfl⟩,q⟩
 cases pl with
 | none=>
  cases pu with
  | none=>exact fin none none rfl rfl rfl rfl
  | int j tj=>exact fin none (some (j,tj)) rfl rfl rfl rfl
 | int i ti=>
  cases pu with
  | none=>exact fin (some (i,ti)) none rfl rfl rfl rfl
  | int j tj=>exact fin (some (i,ti)) (some (j,tj)) rfl rfl rfl rfl
end
theorem slice_to (x:Str) {k:Int} (h0:0 ≤ k) (h1:k ≤ x.length):(Txt.slice x none (some k)).cps.toList = x.cps.toList.take k.toNat:=by
 have e:Txt.slice x none (some k) = StrLaws.sliceText x none (some k):=rfl
 rw [e,StrLaws.sliceText_to ⟨h0,by simpa [Str.length] using h1⟩]
 simp
theorem compW_map {J:It} {g:TG} {te:TE} {R:Addr->Hp->Prop} {D:Addr} {σ0:St} {H0:Hp} (n:Nat) (ev:Nat->V) (Pv:Nat->St->Hp->Prop) (hn:n ≤ sizeLine) (h0:Pv 0 σ0 H0) (hD0:H0 D = some (.lst []))
  (hs:∀ i σ H,i < n->Pv i σ H->H D = some (.lst ((List.range i).map ev))->J.go i H/\∀ x H',J.yld i H x H'->g x σ H' fun σ2 H2=>te σ2 H2 fun y H4=>y = ev i/\H4 D = some (.lst ((List.range i).map ev))/\Pv (i + 1) σ2 (upd H4 D (.lst ((List.range (i + 1)).map ev))))
  (hd:∀ σ H,Pv n σ H->H D = some (.lst ((List.range n).map ev))->J.stop n H/\R D H):CompW J g tYes te R D σ0 H0:=by
 refine ⟨fun i m σ H=>m = n - i/\i ≤ n/\Pv i σ H/\H D = some (.lst ((List.range i).map ev)),⟨n,by omega,Nat.zero_le _,h0,hD0⟩,?_⟩
 rintro i m σ H ⟨rfl,hi,p,hD⟩
 by_cases hlt:i < n
 ·obtain ⟨go,st⟩:=hs i σ H hlt p hD
  refine .inr ⟨go,fun σ2 y H4=>y = ev i/\H4 D = some (.lst ((List.range i).map ev))/\Pv (i + 1) σ2 (upd H4 D (.lst ((List.range (i + 1)).map ev))),fun _ _=>False,?_,fun _ _ z=>z.elim,st⟩
  rintro σ2 y H4 ⟨rfl,e,p'⟩
  refine ⟨_,e,by simp;omega,n - (i + 1),by omega,rfl,hlt,?_,?_⟩
  ·rw [List.range_succ,List.map_append] at p'
   exact p'
  ·rw [upd_same,List.range_succ,List.map_append]
   rfl
 ·have e:i = n:=by omega
  subst e
  exact .inl (hd σ H p hD)
theorem range_map_getD {α β:Type} (l:List α) (d:α) (f:α->β):((List.range l.length).map fun i=>f (l.getD i d)) = l.map f:=by
 apply List.ext_getElem?
 intro i
 rw [List.getElem?_map,List.getElem?_map]
 by_cases h:i < l.length
 ·rw [List.getElem?_range h,List.getElem?_eq_getElem h]
  simp [List.getD_eq_getElem?_getD,List.getElem?_eq_getElem h]
 ·rw [List.getElem?_eq_none (by simpa using h),List.getElem?_eq_none (by simpa using h)]
  rfl
theorem TyOf.same {K:PySem.W.Frag} {H H':Hp} {v:V} {t:Value} (e:Same H H') (h:TyOf K H v t):TyOf K H' v t:=by
 cases h with
 | non=>exact .non
 | bl x=>exact .bl x
 | int i=>exact .int i
 | str x=>exact .str x
 | flt x=>exact .flt x
 | lst q=>exact .lst (e _ _ q)
 | frz q=>exact .frz (e _ _ q)
 | tup q=>exact .tup (e _ _ q)
 | dK q=>exact .dK (e _ _ q)
 | dT q=>exact .dT (e _ _ q)
 | ins q cl ha hn htk hm=>exact .ins (e _ _ q) cl ha hn htk hm
theorem Same.upd {H:Hp} {D:Addr} {o:HO} (h:H D = none):Same H (L2.upd H D o):=fun b u e=>by
 rw [upd_ne (ne_of_none e h)]
 exact e
theorem Same.seqT {K:PySem.W.Frag} {H H':Hp} {a:Addr} {xs:List V} (e:Same H H') (h:SqT K H a xs):SqT K H' a xs:=by
 rcases h with (h | ⟨o,h⟩) | h
 ·exact .inl (.inl (e _ _ h))
 ·exact .inl (.inr ⟨o,e _ _ h⟩)
 ·exact .inr h
end L2
namespace L2
open PySem PySem.Spec PyProof.Rows
def kitTy (a b:String):Option Bool:=if (Value.type a == Value.type b) = true then some true else if PySem.W.kitMeta b = true then (fastBuiltinMro a).map (·.contains (.type b)) else none
theorem kit_eq {K:PySem.W.Frag} {a b:String}:PySem.W.kitOne K (.type a) (.type b) = kitTy a b:=rfl
def tyNames:List String:=["NoneType","bool","int","str","list","tuple","dict"]
theorem kit_int:∀ n ∈ tyNames,kitTy n "int" = some (n == "int" || n == "bool"):=by decide +kernel
theorem kit_bool:∀ n ∈ tyNames,kitTy n "bool" = some (n == "bool"):=by decide +kernel
theorem kit_str:∀ n ∈ tyNames,kitTy n "str" = some (n == "str"):=by decide +kernel
theorem kit_tuple:∀ n ∈ tyNames,kitTy n "tuple" = some (n == "tuple"):=by decide +kernel
theorem kit_dict:∀ n ∈ tyNames,kitTy n "dict" = some (n == "dict"):=by decide +kernel
theorem kit_list:∀ n ∈ tyNames,kitTy n "list" = some (n == "list"):=by decide +kernel
def Is (K:PySem.W.Frag) (H:Hp) (v:V) (n:String):Prop:=TyOf K H v (.type n)/\n ∈ tyNames
theorem Is.same {K:PySem.W.Frag} {H H':Hp} {v:V} {n:String} (e:Same H H') (h:Is K H v n):Is K H' v n:=⟨h.1.same e,h.2⟩
theorem Is.non {K:PySem.W.Frag} {H:Hp}:Is K H .non "NoneType":=⟨.non,by decide⟩
theorem Is.bl {K:PySem.W.Frag} {H:Hp} {b:Bool}:Is K H (.bl b) "bool":=⟨.bl b,by decide⟩
theorem Is.int {K:PySem.W.Frag} {H:Hp} {i:Int}:Is K H (.int i) "int":=⟨.int i,by decide⟩
theorem Is.str {K:PySem.W.Frag} {H:Hp} {x:Str}:Is K H (.str x) "str":=⟨.str x,by decide⟩
theorem Is.lst {K:PySem.W.Frag} {H:Hp} {a:Addr} {xs:List V} (h:H a = some (.lst xs)):Is K H (.ref a) "list":=⟨.lst h,by decide⟩
theorem Is.tup {K:PySem.W.Frag} {H:Hp} {a:Addr} {xs:List V} (h:H a = some (.tup xs)):Is K H (.ref a) "tuple":=⟨.tup h,by decide⟩
theorem Is.dK {K:PySem.W.Frag} {H:Hp} {a:Addr} {kvs:List (Key × V)} (h:H a = some (.dK kvs)):Is K H (.ref a) "dict":=⟨.dK h,by decide⟩
theorem Is.str_of {K:PySem.W.Frag} {H:Hp} {v:V} (h:Is K H v "str"):∃ x,v = .str x:=by
 obtain ⟨t,_⟩:=h
 generalize e:Value.type "str" = u at t
 cases t <;> first | exact ⟨_,rfl⟩ | exact absurd (Value.type.inj e) (by decide) | cases e
theorem Is.str_ty {K:PySem.W.Frag} {H:Hp} {z:Str} {n:String} (h:Is K H (.str z) n):n = "str":=by
 obtain ⟨t,_⟩:=h
 generalize e:Value.type n = u at t
 cases t
 exact Value.type.inj e
def DefIn (K:PySem.W.Frag) (x:Str) (st:Stmt):Prop:=∃ (f:Addr) (oc:Value) (od:Option Addr) (kV doc pm:Value) (an:Option Addr) (cdv ct:Value) (osl:Array (Option Value)),
 PySem.W.nsIn K mainGlobals x = some (some (.ref f))/\K.lookup f = some ⟨oc,od,.func (PySem.W.fnOf x x (defArgs st) (defBody st) (defScope st) .none kV doc pm an cdv ct),osl⟩/\PySem.W.codeIn K cdv x = true/\PySem.W.keepIn K (.ref f) = true
theorem defIn_mk {K:PySem.W.Frag} {x:Str} {st:Stmt} {f:Addr} {oc:Value} {od an:Option Addr} {osl:Array (Option Value)} {kV doc pm cdv ct:Value} (a:PySem.W.nsIn K mainGlobals x = some (some (.ref f)))
  (l:K.lookup f = some ⟨oc,od,.func (PySem.W.fnOf x x (defArgs st) (defBody st) (defScope st) .none kV doc pm an cdv ct),osl⟩) (c:PySem.W.codeIn K cdv x = true) (k:PySem.W.keepIn K (.ref f) = true):DefIn K x st:=
 ⟨f,oc,od,kV,doc,pm,an,cdv,ct,osl,a,l,c,k⟩
structure Df (K:PySem.W.Frag) (mg:Str->Option Value) (x:Str) (st:Stmt) (f:Addr) (fd:FuncData):Prop where
 fn:Fun K x x st f fd
 mg:mg x = some (.ref f)
theorem DefIn.df {K:PySem.W.Frag} {h:Heap} {mg:Str->Option Value} {x:Str} {st:Stmt} (d:DefIn K x st) (X:K.In h) (G:h.Ns mainGlobals mg):∃ f fd,Df K mg x st f fd:=by
 obtain ⟨f,oc,od,kV,doc,pm,an,cdv,ct,osl,a,l,c,k⟩:=d
 exact ⟨f,_,fun_mk l c k,PySem.W.mg_of X G a⟩
end L2
namespace PySem.SeqAt
open MeetsSeq
open AutoSeq1 (wpAny_loadPart')
theorem dict_eq_declines_str (l:Addr) (es:Array DictEntry) (ep:Nat) (dd:Option Addr) (sl:Array (Option Value)) (b:Str) (u:Tok) :
  Meets (Builtin.«dict.__eq__» ⟨[.ref l,.str b u],[]⟩) (fun _ R s=>s.heap.get? l = some { cls:=.type "dict",dict:=dd,data:=.dict es ep,slots:=sl }/\R (.ok (.ret .notImplemented)) s):=
 .of_wp fun prog w A R s h=>by obtain ⟨hp,g,d,tk,os⟩:=s;obtain ⟨hl,h⟩:=h;have f1:=F.sub_str_dict;wp_walk using wpAny_loadPart' hl;exact ⟨_,rfl,h⟩
theorem str_eq_declines_dict (b:Str) (u:Tok) (l:Addr) (c:Value) (es:Array DictEntry) (ep:Nat) (dd:Option Addr) (sl:Array (Option Value)) :
  Meets (Builtin.«str.__eq__» ⟨[.str b u,.ref l],[]⟩) (fun _ R s=>s.heap.get? l = some { cls:=c,dict:=dd,data:=.dict es ep,slots:=sl }/\R (.ok (.ret .notImplemented)) s):=
 .of_wp fun prog w A R s h=>by obtain ⟨hp,g,d,tk,os⟩:=s;obtain ⟨hl,h⟩:=h;wp_walk using wpAny_loadPart' hl,wpAny_load hl;exact ⟨_,rfl,h⟩
section
variable {A:Around} {s:Shared}
theorem RcAt.dict_str {l:Addr} {o:Obj} {es:Array DictEntry} {ep:Nat} (b:Str) (u:Tok) (ho:s.heap.get? l = some o) (hc:o.cls = .type "dict") (hd:o.data = .dict es ep) (hu:A.units < cLine):RcAt A s (.ref l) (.str b u) false:=fun prog w E Q h=>by
 obtain ⟨cls,dd,data,sl⟩:=o
 simp only at hc hd
 subst hc hd
 exact rc_eq_decline_or (k:=false) ⟨_,ho,rfl⟩ (typeIs_str s b u) (by decide) F.sub_str_dict F.slot_dict_eq F.slot_str_eq_refl
  (fun _ hq=>call_meets F.slot_dict_eq ⟨_,ho,rfl⟩ F.entry_dict_eq (F.args_dict_eq_2 _ _) (dict_eq_declines_str l es ep dd sl b u) ⟨ho,hq⟩)
  (fun _ hq=>call_meets F.slot_str_eq_refl (typeIs_str s b u) F.entry_str_eq (F.args_str_eq_2 _ _) (str_eq_declines_dict b u l (.type "dict") es ep dd sl) ⟨ho,hq⟩)
  (fun _ hq=>wpAny_of_eq (rfl:isSame (.ref l) (.str b u) = pure false) hq) (.inr hu) h
theorem EqAt.str_dict {l:Addr} {o:Obj} {es:Array DictEntry} {ep:Nat} (b:Str) (u:Tok) (ho:s.heap.get? l = some o) (hc:o.cls = .type "dict") (hd:o.data = .dict es ep) (hu:A.units < cLine):EqAt A s (.str b u) (.ref l) false:=fun prog w E Q h=>by
 obtain ⟨cls,dd,data,sl⟩:=o
 simp only at hc hd
 subst hc hd
 unfold eqBool
 refine wpAny_holding ?_
 refine wpAny_ite_split (fun hab=>absurd (eq_of_beq hab) nofun) (fun _=>?_)
 refine wpAny_bind (rc_eq_decline_or (k:=false) (typeIs_str s b u) ⟨_,ho,rfl⟩ (by decide) F.sub_dict_str F.slot_str_eq F.slot_dict_eq_refl
  (fun _ hq=>call_meets F.slot_str_eq (typeIs_str s b u) F.entry_str_eq (F.args_str_eq_2 _ _) (str_eq_declines_dict b u l (.type "dict") es ep dd sl) ⟨ho,hq⟩)
  (fun _ hq=>call_meets F.slot_dict_eq_refl ⟨_,ho,rfl⟩ F.entry_dict_eq (F.args_dict_eq_2 _ _) (dict_eq_declines_str l es ep dd sl b u) ⟨ho,hq⟩)
  (fun _ hq=>wpAny_of_eq (rfl:isSame (.str b u) (.ref l) = pure false) hq) (.inr hu) (wpAny_truthy_bool h))
end
end PySem.SeqAt
namespace L2
open PySem PySem.Spec PyProof.Rows
inductive Dt where
 | non | bl (b:Bool) | int (i:Int) | str (z:Str) | tup (ds:List Dt) | lst (ds:List Dt) | dct
mutual
def Rep (H:Hp):Dt->V->Prop
 | .non,v=>v = .non
 | .bl b,v=>v = .bl b
 | .int i,v=>v = .int i
 | .str z,v=>v = .str z/\z.length ≤ 1000
 | .tup ds,v=>∃ a xs,v = .ref a/\H a = some (.tup xs)/\Reps H ds xs
 | .lst ds,v=>∃ a xs,v = .ref a/\H a = some (.lst xs)/\Reps H ds xs
 | .dct,v=>∃ a kvs,v = .ref a/\H a = some (.dK kvs)
def Reps (H:Hp):List Dt->List V->Prop
 | [],xs=>xs = []
 | d :: ds,xs=>∃ v vs,xs = v :: vs/\Rep H d v/\Reps H ds vs
end
mutual
theorem Rep.same {H H':Hp} (e:Same H H'):∀ {d:Dt} {v:V},Rep H d v->Rep H' d v
 | .non,v,h=>by unfold Rep at h ⊢;exact h
 | .bl b,v,h=>by unfold Rep at h ⊢;exact h
 | .int i,v,h=>by unfold Rep at h ⊢;exact h
 | .str z,v,h=>by unfold Rep at h ⊢;exact h
 | .tup ds,v,h=>by
  unfold Rep at h ⊢
  obtain ⟨a,xs,h1,h2,h3⟩:=h
  exact ⟨a,xs,h1,e _ _ h2,Reps.same e h3⟩
 | .lst ds,v,h=>by
  unfold Rep at h ⊢
  obtain ⟨a,xs,h1,h2,h3⟩:=h
  exact ⟨a,xs,h1,e _ _ h2,Reps.same e h3⟩
 | .dct,v,h=>by
  unfold Rep at h ⊢
  obtain ⟨a,xs,h1,h2⟩:=h
  exact ⟨a,xs,h1,e _ _ h2⟩
theorem Reps.same {H H':Hp} (e:Same H H'):∀ {ds:List Dt} {vs:List V},Reps H ds vs->Reps H' ds vs
 | [],vs,h=>by unfold Reps at h ⊢;exact h
 | d :: ds,vs,h=>by
  unfold Reps at h ⊢
  obtain ⟨v,ws,h1,h2,h3⟩:=h
  exact ⟨v,ws,h1,Rep.same e h2,Reps.same e h3⟩
end
def tyD:Dt->String
 | .non=>"NoneType" | .bl _=>"bool" | .int _=>"int" | .str _=>"str" | .tup _=>"tuple" | .lst _=>"list" | .dct=>"dict"
theorem Rep.is {K:PySem.W.Frag} {H:Hp}:∀ {d:Dt} {v:V},Rep H d v->Is K H v (tyD d)
 | .non,v,h=>by unfold Rep at h;subst h;exact .non
 | .bl b,v,h=>by unfold Rep at h;subst h;exact .bl
 | .int i,v,h=>by unfold Rep at h;subst h;exact .int
 | .str z,v,h=>by unfold Rep at h;obtain ⟨rfl,_⟩:=h;exact .str
 | .tup ds,v,h=>by unfold Rep at h;obtain ⟨a,xs,rfl,h2,_⟩:=h;exact .tup h2
 | .lst ds,v,h=>by unfold Rep at h;obtain ⟨a,xs,rfl,h2,_⟩:=h;exact .lst h2
 | .dct,v,h=>by unfold Rep at h;obtain ⟨a,xs,rfl,h2⟩:=h;exact .dK h2
theorem rep_str {H:Hp} {z:Str} (h:z.length ≤ 1000):Rep H (.str z) (.str z):=by unfold Rep;exact ⟨rfl,h⟩
theorem Reps.length {H:Hp}:∀ {ds:List Dt} {vs:List V},Reps H ds vs->vs.length = ds.length
 | [],vs,h=>by unfold Reps at h;subst h;rfl
 | d :: ds,vs,h=>by
  unfold Reps at h
  obtain ⟨v,ws,rfl,_,h3⟩:=h
  rw [List.length_cons,List.length_cons,Reps.length h3]
def strIs:Dt->Str->Bool
 | .str y,z=>y == z
 | _,_=>false
section
variable {X:Cx} {pins:List (Addr × Obj)} {σ:St} {H:Hp} {s:Shared}
theorem op_eqD (hu:X.A.units < cLine):OpR X (compareOp .Eq) (fun x y H Q=>∃ d z,Rep H d x/\y = .str z/\Q (.bl (strIs d z)) H):=by
 intro pins s σ H x y v u Q I rx ry h
 obtain ⟨d,z,hd,rfl,q⟩:=h
 obtain ⟨t,rfl⟩:=ry
 cases d with
 | non=>
  unfold Rep at hd
  subst hd
  exact op_eq pins s σ H .non (.str z) v _ Q I rx ⟨t,rfl⟩ ⟨rfl,by simpa [strIs] using q⟩
 | bl b=>
  unfold Rep at hd
  subst hd
  exact op_eq pins s σ H (.bl b) (.str z) v _ Q I rx ⟨t,rfl⟩ ⟨rfl,by simpa [strIs] using q⟩
 | int i=>
  unfold Rep at hd
  subst hd
  exact op_eq pins s σ H (.int i) (.str z) v _ Q I rx ⟨t,rfl⟩ ⟨rfl,by simpa [strIs] using q⟩
 | str y=>
  unfold Rep at hd
  obtain ⟨rfl,_⟩:=hd
  exact op_eq pins s σ H (.str y) (.str z) v _ Q I rx ⟨t,rfl⟩ ⟨rfl,by rw [dec_str];exact q⟩
 | tup ds=>
  unfold Rep at hd
  obtain ⟨a,xs,rfl,ha,_⟩:=hd
  cases rx
  obtain ⟨its,_,p,_⟩:=I.tuple (SqT.of ha)
  exact SeqAt.RcAt.tuple_str z t p hu X.prog X.w X.xe _ ⟨.bl false,H,I,rfl,q⟩
 | lst ds=>
  unfold Rep at hd
  obtain ⟨a,xs,rfl,ha,_⟩:=hd
  cases rx
  obtain ⟨its,_,p,_⟩:=I.list (SqL.of ha)
  exact SeqAt.RcAt.list_str z t p.isList hu X.prog X.w X.xe _ ⟨.bl false,H,I,rfl,q⟩
 | dct=>
  unfold Rep at hd
  obtain ⟨a,kvs,rfl,ha⟩:=hd
  cases rx
  obtain ⟨_,_,vs,_,o,es,ep,h1,h2,h3,_⟩:=dk_of I.hok ha
  exact SeqAt.RcAt.dict_str z t h1 h2.1 h3 hu X.prog X.w X.xe _ ⟨.bl false,H,I,rfl,q⟩
theorem eqAt_D {A:Around} {d:Dt} {x:V} {v:Value} (hu:A.units < cLine) (I:Inv X pins σ H s) (hd:Rep H d x) (rx:RelV x v) (z:Str) (t:Tok):SeqAt.EqAt A s (.str z t) v (strIs d z):=by
 cases d with
 | non=>
  unfold Rep at hd
  subst hd
  cases rx
  exact SeqAt.EqAt.str_none z t
 | bl b=>
  unfold Rep at hd
  subst hd
  cases rx
  exact SeqAt.EqAt.str_bool z t b
 | int i=>
  unfold Rep at hd
  subst hd
  obtain ⟨t',rfl⟩:=rx
  exact SeqAt.EqAt.str_int z t i t'
 | str y=>
  unfold Rep at hd
  obtain ⟨rfl,_⟩:=hd
  obtain ⟨t',rfl⟩:=rx
  have e:strIs (.str y) z = (z == y):=by
   show (y == z) = (z == y)
   rw [Bool.eq_iff_iff,beq_iff_eq,beq_iff_eq]
   exact ⟨Eq.symm,Eq.symm⟩
  rw [e]
  exact SeqAt.EqAt.str_str z t y t'
 | tup ds=>
  unfold Rep at hd
  obtain ⟨a,xs,rfl,ha,_⟩:=hd
  cases rx
  obtain ⟨its,_,p,_⟩:=I.tuple (SqT.of ha)
  exact SeqAt.EqAt.str_tuple z t p hu
 | lst ds=>
  unfold Rep at hd
  obtain ⟨a,xs,rfl,ha,_⟩:=hd
  cases rx
  obtain ⟨its,_,p,_⟩:=I.list (SqL.of ha)
  exact SeqAt.EqAt.str_list z t p.isList hu
 | dct=>
  unfold Rep at hd
  obtain ⟨a,kvs,rfl,ha⟩:=hd
  cases rx
  obtain ⟨_,_,vs,_,o,es,ep,h1,h2,h3,_⟩:=dk_of I.hok ha
  exact SeqAt.EqAt.str_dict z t h1 h2.1 h3 hu
def strU (d:Dt):Value->Bool
 | .str z _=>strIs d z
 | _=>false
theorem any_strU {d:Dt}:∀ {zs:List Str} {us:List Value},Vals (zs.map V.str) us->us.any (strU d) = zs.any (strIs d)
 | [],_,r=>by rw [List.map_nil] at r;cases r;rfl
 | z :: zs,_,r=>by
  rw [List.map_cons] at r
  cases r with
  | cons h t=>
   obtain ⟨t',rfl⟩:=h
   rw [List.any_cons,List.any_cons,any_strU t]
   rfl
theorem mem_strU {zs:List Str} {us:List Value} (r:Vals (zs.map V.str) us):∀ u ∈ us,∃ z t,u = .str z t:=by
 intro u hu
 obtain ⟨i,hi,e⟩:=List.getElem_of_mem hu
 have hl:=r.length
 have:(zs.map V.str)[i]? = some (.str (zs[i]'(by rw [List.length_map] at hl;omega))):=by
  rw [List.getElem?_map,List.getElem?_eq_getElem (by rw [List.length_map] at hl;omega)]
  rfl
 obtain ⟨w,hw,rw'⟩:=r.get this
 rw [List.getElem?_eq_getElem hi,e] at hw
 cases hw
 obtain ⟨t,rfl⟩:=rw'
 exact ⟨_,t,rfl⟩
theorem op_inD (hu:X.A.units + 1 < cLine):OpR X (compareOp .In) (fun x y H Q=>∃ (d:Dt) (p:Addr) (zs:List Str),Rep H d x/\y = .ref p/\H p = some (.tup (zs.map V.str))/\Q (.bl (zs.any (strIs d))) H):=by
 intro pins s σ H x y v u Q I rx ry h
 obtain ⟨d,p,zs,hd,rfl,hp,q⟩:=h
 cases ry
 obtain ⟨its,r,pl,_⟩:=I.tuple (SqT.of hp)
 refine SeqAt.in_tupleAt (strU d) pl (fun w' hw=>?_) ⟨.bl _,H,I,rfl,?_⟩
 ·obtain ⟨z,t,rfl⟩:=mem_strU r w' (by simpa using hw)
  exact eqAt_D (A:=X.A.in1) hu I hd rx z t
 ·rw [show its.toArray.any (strU d) = its.any (strU d) by simp,any_strU r]
  exact q
theorem op_le_str:OpR X (compareOp .LtE) (fun x y H Q=>∃ i j,x = .str i/\y = .str j/\Q (.bl (!decide (j.cps.toList < i.cps.toList))) H):=by
 intro pins s σ H x y v u Q I rx ry h
 obtain ⟨i,j,rfl,rfl,q⟩:=h
 obtain ⟨t,rfl⟩:=rx
 obtain ⟨t',rfl⟩:=ry
 exact PySem.P.le_str ⟨.bl _,H,I,rfl,q⟩
end
end L2
namespace My
open PySem L2 PyProof.Rows
theorem pos {j:Int} (h:decide ((0:Int) < j) = true):0 < j:=of_decide_eq_true h
def cellF (ns:List Int) (k:Int):Int:=
 if k < ns.length then ns.getD k.toNat 0 else (k * 7919 + 5 + (if 0 < ns.length then ns.getD (k % ns.length).toNat 0 % 2147483647 * 48271 else 0)) % 2147483647
def spCell (K:PySem.W.Frag):Sp:=fun vs H Q _=>∃ (a:Addr) (ns:List Int) (k:Int),vs = [.ref a,.int k]/\SqL K H a (ns.map V.int)/\0 ≤ k/\k ≤ 1000000/\ns.length ≤ 63/\Q (.int (cellF ns k)) H
def spTold:Sp:=fun vs H Q _=>∃ (f d:Bool),vs = [.bl f,.bl d]/\Q (.bl (decide (f = d))) H
def spWhole (K:PySem.W.Frag):Sp:=fun vs H Q _=>∃ (v:V) (n:String),vs = [v]/\Is K H v n/\Q (.bl (n == "int")) H
theorem item_ints {ns:List Int} {k:Int} (h0:0 ≤ k) (h1:k < ns.length):atI (ns.map V.int) k = some (.int (ns.getD k.toNat 0)):=by
 obtain ⟨j,rfl⟩:=Int.eq_ofNat_of_zero_le h0
 refine atI_nat ?_
 have hj:j < ns.length:=by omega
 rw [List.getElem?_map,List.getElem?_eq_getElem hj]
 simp [List.getD_eq_getElem?_getD,List.getElem?_eq_getElem hj]
theorem boot_isi:bootBuiltins "isinstance" = some (.builtin "isinstance"):=by decide +kernel
theorem boot_int:bootBuiltins "int" = some (.type "int"):=by decide +kernel
theorem boot_bool:bootBuiltins "bool" = some (.type "bool"):=by decide +kernel
theorem boot_str:bootBuiltins "str" = some (.type "str"):=by decide +kernel
theorem boot_list:bootBuiltins "list" = some (.type "list"):=by decide +kernel
theorem boot_tuple:bootBuiltins "tuple" = some (.type "tuple"):=by decide +kernel
theorem boot_dict:bootBuiltins "dict" = some (.type "dict"):=by decide +kernel
theorem boot_ord:bootBuiltins "ord" = some (.builtin "ord"):=by decide +kernel
structure Bl (mg:Str->Option Value):Prop where
 len:mg "len" = none
 isi:mg "isinstance" = none
 int:mg "int" = none
 bool:mg "bool" = none
 str:mg "str" = none
 all:mg "all" = none
 range:mg "range" = none
 abs:mg "abs" = none
 ord:mg "ord" = none
 list:mg "list" = none
 tuple:mg "tuple" = none
 dict:mg "dict" = none
 any:mg "any" = none
 sorted:mg "sorted" = none
 set:mg "set" = none
 enum:mg "enumerate" = none
structure BlK (K:PySem.W.Frag):Prop where
 len:PySem.W.nsIn K mainGlobals "len" = some none
 isi:PySem.W.nsIn K mainGlobals "isinstance" = some none
 int:PySem.W.nsIn K mainGlobals "int" = some none
 bool:PySem.W.nsIn K mainGlobals "bool" = some none
 str:PySem.W.nsIn K mainGlobals "str" = some none
 all:PySem.W.nsIn K mainGlobals "all" = some none
 range:PySem.W.nsIn K mainGlobals "range" = some none
 abs:PySem.W.nsIn K mainGlobals "abs" = some none
 ord:PySem.W.nsIn K mainGlobals "ord" = some none
 list:PySem.W.nsIn K mainGlobals "list" = some none
 tuple:PySem.W.nsIn K mainGlobals "tuple" = some none
 dict:PySem.W.nsIn K mainGlobals "dict" = some none
 any:PySem.W.nsIn K mainGlobals "any" = some none
 sorted:PySem.W.nsIn K mainGlobals "sorted" = some none
 set:PySem.W.nsIn K mainGlobals "set" = some none
 enum:PySem.W.nsIn K mainGlobals "enumerate" = some none
theorem BlK.bl {K:PySem.W.Frag} {h:Heap} {mg:Str->Option Value} (b:BlK K) (X:K.In h) (G:h.Ns mainGlobals mg):Bl mg:=
 ⟨PySem.W.mg_none_of X G b.len,PySem.W.mg_none_of X G b.isi,PySem.W.mg_none_of X G b.int,PySem.W.mg_none_of X G b.bool,PySem.W.mg_none_of X G b.str,PySem.W.mg_none_of X G b.all,PySem.W.mg_none_of X G b.range,PySem.W.mg_none_of X G b.abs,PySem.W.mg_none_of X G b.ord,PySem.W.mg_none_of X G b.list,PySem.W.mg_none_of X G b.tuple,PySem.W.mg_none_of X G b.dict,PySem.W.mg_none_of X G b.any,PySem.W.mg_none_of X G b.sorted,PySem.W.mg_none_of X G b.set,PySem.W.mg_none_of X G b.enum⟩
theorem at_mem {l:List V} {i:Int} (h0:0 ≤ i) (h1:i < l.length):∃ v,atI l i = some v/\v ∈ l:=by
 obtain ⟨j,rfl⟩:=Int.eq_ofNat_of_zero_le h0
 have hj:j < l.length:=by omega
 exact ⟨l[j],atI_nat (List.getElem?_eq_getElem hj),List.getElem_mem hj⟩
theorem iteB {b:Bool} {A B:Prop} (h:b = true) (a:A):if b = true then A else B:=by rw [if_pos h];exact a
theorem iteC {b:Bool} {A B:Prop} (h:b = false) (a:B):if b = true then A else B:=by rw [h,if_neg Bool.false_ne_true];exact a
theorem lenEq {n k:Nat}:decide (V.int (n:Int) = V.int (k:Int)) = decide (n = k):=by
 rw [Bool.eq_iff_iff,decide_eq_true_iff,decide_eq_true_iff]
 constructor
 ·intro e;injection e with e;omega
 ·intro e;rw [e]
end My
namespace L2
open PySem PySem.Spec PyProof.Rows
section
variable {X:Cx}
end
end L2
namespace Nm
open PySem PySem.NumText PySem.W PyProof.Rows
end Nm
namespace L2
open PySem PySem.Spec PyProof.Rows
section
variable {n:Nat} {X:Cx} {st:Stmt} {rest:List Stmt} {t u:TS} {e a b:Expr} {te ta tb:TE} {pos:Pos}
end
section
variable {P:Program} {w:World} {K:PySem.W.Frag} {mg:Str->Option Value} {base:Heap}
end
section
variable {n:Nat} {X:Cx} {k:Nat} {f:Addr} {fd:FuncData} {ps:List Str} {sp:SpW} {x:Str} {p pos:Pos} {e:Expr} {es:List Expr} {t:TA}
end
end L2
namespace L2
open PySem PySem.Spec PyProof.Rows
section
variable {n:Nat} {X:Cx}
variable {osc scope:Scope} {N0 xs:List Str} {fr:List Nat} {elt tg iter:Expr} {ifs:List Expr} {pos:Pos} {wi:TI} {g:TG} {tt:TT} {te:TE}
end
end L2
namespace L2
open PySem PySem.Spec PyProof.Rows
section
variable {n:Nat} {X:Cx} {pins:List (Addr × Obj)} {s:Shared} {σ:St} {H:Hp}
end
end L2
namespace L2
open PySem PySem.Spec PyProof.Rows
section
variable {P:Program} {w:World} {K:PySem.W.Frag} {mg:Str->Option Value} {base:Heap}
end
end L2
namespace L2
open PySem PySem.Spec PyProof.Rows
end L2
namespace L2
open PySem
section
variable {M:Model} {A:Around} {E:Value->Shared->Prop} {s:Shared} {base:Heap} {env:Env} {outer:List Env} {L x:Addr} {P:Addr->Prop} {C:Value} {od:Option Addr}
end
end L2
namespace L2
open PySem PySem.Spec PyProof.Rows
structure Our (X:Cx) (pins:List (Addr × Obj)) (H:Hp) (b:Addr):Prop where
 new:X.s₀.heap.objs.size ≤ b
 loc:b ≠ X.env.locals
 cel:∀ y c,X.env.cells.lookup y = some c->c ≠ b
 pin:∀ p ∈ X.pn ++ pins,p.1 ≠ b
 unt:H b = none
section
variable {X:Cx} {pins:List (Addr × Obj)} {σ:St} {H H':Hp} {s s':Shared} {x b:Addr} {C:Value} {od:Option Addr}
end
section
variable {X:Cx} {k:Nat} {f C:Addr} {fd:FuncData} {ps:List Str} {sp:Sp} {dvs:List V} {ds:List Value} {E:XS} {x m:Str} {p pos apos:Pos} {e o:Expr} {es:List Expr} {ta:TE} {t:TA}
end
end L2
namespace L2
open PySem PySem.Spec PyProof.Rows Builtin Builtin.ObjectAttr
abbrev bmV:List Value:=[.type "ValueError",.type "Exception",.type "BaseException",.type "object"]
def tailV:List Value->Bool
 | []=>false
 | v :: r=>(v :: r) == bmV || match v with | .ref _=>tailV r | _=>false
structure XCl (K:PySem.W.Frag) (C:Addr):Prop where
 at_:∃ (nm q:Str) (N:Addr) (bs bm:List Value) (sn:List Str) (sub:List Value) (ab:Bool) (col:Option Bool) (dd:Option Addr) (k0 k1 k2 k3 k5:Option Value),K.lookup C = some (excClassObj nm q C N bs bm true sn sub ab col dd k0 k1 k2 k3 k5 "ValueError.__new__")/\tailV bm = true
 ga:PySem.W.findIn K (.ref C) "__getattribute__" = some (some (.builtin "BaseException.__getattribute__"))
 gx:PySem.W.findIn K (.ref C) "__getattr__" = some none
 sa:PySem.W.findIn K (.ref C) "__setattr__" = some (some (.builtin "object.__setattr__"))
 kp:PySem.W.keepIn K (.ref C) = true
theorem xcl_mk {K:PySem.W.Frag} {C N:Addr} {nm q:Str} {bs bm:List Value} {sn:List Str} {sub:List Value} {ab:Bool} {col:Option Bool} {dd:Option Addr} {k0 k1 k2 k3 k5:Option Value}
  (l:K.lookup C = some (excClassObj nm q C N bs bm true sn sub ab col dd k0 k1 k2 k3 k5 "ValueError.__new__")) (t:tailV bm = true) (ga:PySem.W.findIn K (.ref C) "__getattribute__" = some (some (.builtin "BaseException.__getattribute__")))
  (gx:PySem.W.findIn K (.ref C) "__getattr__" = some none) (sa:PySem.W.findIn K (.ref C) "__setattr__" = some (some (.builtin "object.__setattr__"))) (kp:PySem.W.keepIn K (.ref C) = true):XCl K C:=
 ⟨⟨nm,q,N,bs,bm,sn,sub,ab,col,dd,k0,k1,k2,k3,k5,l,t⟩,ga,gx,sa,kp⟩
section
variable {prog:Program} {w:World} {A:Around} {E:Value->Shared->Prop} {h:Heap} {g:Array GenState} {d:Drawn} {t:Nat} {os:OsState}
variable {nm q:Str} {C N:Addr} {bs bm:List Value} {sn:List Str} {sub:List Value} {ab:Bool} {col:Option Bool} {dd:Option Addr} {k0 k1 k2 k3 k5:Option Value}
end
section
variable {prog:Program} {w:World} {A:Around} {E:Value->Shared->Prop} {s:Shared} {K:PySem.W.Frag} {x C dx t0:Addr} {name:Str} {v:Value}
end
end L2
namespace L2
open PySem PySem.Spec PyProof.Rows Builtin Builtin.ObjectAttr
section
variable {P:Program} {w:World} {H:Hp} {h:Heap} {x C dx t:Addr} {od:Option Addr}
end
section
variable {X:Cx} {pins:List (Addr × Obj)} {σ:St} {H:Hp} {s:Shared} {x dx C:Addr} {φ:Heap->Prop} {od:Option Addr}
theorem Inv.track {o:HO} (I:Inv X pins σ H s) (hx:Our X pins H x) (new:ObjOk X.prog X.w (upd H x o) s.heap x o):Inv X pins σ (upd H x o) s:=by
 have ne:∀ b u,H b = some u->b ≠ x:=fun b u q z=>by rw [z,hx.unt] at q;cases q
 refine I.step (h':=s.heap) (g':=s.gens) (d':=s.drawn) (t':=s.toks) (ch:=[x]) (fun b hb=>?_) (fun b o _ _ _ e _=>e) (fun b o _ _ _ e _=>⟨o.slots,e⟩) (fun b o hc e n=>?_) (fun b o _ e=>⟨o,e⟩) (fun b xs e=>?_) (fun b u xs e=>?_) (fun b ps e=>⟨#[],?_⟩) (fun m hm=>hm) (fun b u q=>?_) I.bare
 ·rw [List.mem_singleton.mp hb]
  exact ⟨.inr hx.new,hx.loc,hx.cel,hx.pin⟩
 ·rw [upd_ne fun z=>hc (by rw [z];exact List.mem_singleton.mpr rfl)]
  exact n
 ·rw [upd_ne (ne b _ e)];exact e
 ·rw [upd_ne (ne b _ e)];exact e
 ·rw [upd_ne (ne b _ e),e];simp
 ·by_cases hb:b = x
  ·subst hb
   rw [upd_same] at q
   cases q
   exact new
  ·rw [upd_ne hb] at q
   exact (I.hok b u q).stay (fun _ _ _ r=>r) (fun c r=>by rw [upd_ne (ne c _ r)];exact r) fun c xs r=>by rw [upd_ne (ne c _ r)];exact r
end
section
variable {X:Cx} {k:Nat} {f C:Addr} {fd:FuncData} {ps:List Str} {sp:Sp} {dvs:List V} {ds:List Value} {E:XS} {x m:Str} {p pos apos:Pos} {e o:Expr} {es:List Expr} {ta te:TE} {t:TA}
end
end L2
namespace L2
open PySem PySem.Spec PyProof.Rows Builtin Builtin.ObjectAttr
section
variable {X:Cx} {o e value:Expr} {f:Str} {pos pos' tpos:Pos} {ta tv:TE}
end
section
variable {prog:Program} {w:World} {A:Around} {E:Value->Shared->Prop} {h:Heap} {g:Array GenState} {d:Drawn} {t:Nat} {os:OsState}
variable {nm q:Str} {C N x t0:Addr} {bs bm:List Value} {sn:List Str} {sub:List Value} {ab:Bool} {col:Option Bool} {dd:Option Addr} {k0 k1 k2 k3 k5:Option Value}
end
section
variable {X:Cx} {B:Addr} {y:Str} {p pos apos:Pos} {e:Expr} {es:List Expr} {t:TA}
end
section
variable {X:Cx} {pins:List (Addr × Obj)} {σ:St} {H:Hp} {s:Shared} {x:Addr} {E:Value->Shared->Prop}
end
section
variable {X:Cx} {body:List Stmt} {cx n:Str} {b₀:Stmt} {suite:List Stmt} {np hp pos:Pos} {CN:Addr} {i:Nat} {tb:Ends->TS} {ts:Addr->TS}
end
end L2
namespace L2
open PySem PySem.Spec PyProof.Rows Builtin Builtin.ObjectAttr
section
variable {prog:Program} {w:World} {A:Around} {E:Value->Shared->Prop} {h:Heap} {g:Array GenState} {d:Drawn} {t:Nat} {os:OsState}
variable {nm q:Str} {C N:Addr} {bs bm:List Value} {sn:List Str} {sub:List Value} {ab:Bool} {col:Option Bool} {dd:Option Addr} {k0 k1 k2 k3 k5:Option Value}
end
section
variable {X:Cx} {C:Addr} {x:Str} {p pos:Pos} {e:Expr} {es:List Expr} {t:TA}
end
end L2
namespace L2
open PySem PySem.Spec PyProof.Rows Builtin Builtin.ObjectAttr
section
variable {prog:Program} {w:World} {A:Around} {E:Value->Shared->Prop} {s:Shared} {K:PySem.W.Frag} {x C:Addr} {ox:Obj} {od:Option Obj}
end
section
variable {X:Cx} {pins:List (Addr × Obj)} {σ:St} {H:Hp} {s:Shared} {a C:Addr} {od:Option Addr}
end
section
variable {M:Model} {A:Around} {E:Value->Shared->Prop} {h:Heap} {g:Array GenState} {d:Drawn} {t:Nat} {os:OsState}
variable {nm q:Str} {C N:Addr} {bs bm:List Value} {sn:List Str} {sub:List Value} {ab:Bool} {col:Option Bool} {dd:Option Addr} {k0 k1 k2 k3 k5:Option Value}
variable {nm' q':Str} {D N':Addr} {bs' bm':List Value} {sn':List Str} {sub':List Value} {ab':Bool} {col':Option Bool} {dd':Option Addr} {j0 j1 j2 j3 j5:Option Value}
end
section
variable {X:Cx} {body:List Stmt} {cx n:Str} {b₀:Stmt} {suite:List Stmt} {np hp pos:Pos} {CN:Addr} {i:Nat} {tb:Ends->TS} {tc:Addr->Addr->TS} {ts:Addr->TS}
end
end L2
namespace L2
open PySem PySem.Spec PyProof.Rows
section
variable {X:Cx}
variable {n:Nat}
end
end L2
namespace L2
open PySem
section
variable {prog:Program} {w:World} {A:Around} {E:Value->Shared->Prop} {s:Shared}
end
end L2
namespace L2
open PySem PySem.Spec PyProof.Rows
section
variable {X:Cx} {pins:List (Addr × Obj)} {σ:St} {H:Hp} {s:Shared} {h':Heap}
end
section
variable {X:Cx}
end
end L2
namespace My
open PySem L2 PyProof.Rows
def top (i:Nat):Stmt:=PySem.Challenge.pw_halfmoved_k08_rows_and_pieces.main.body.getD i (.Pass ⟨0,0,0,0⟩)
section
variable {P:Program} {w:World} {K:PySem.W.Frag} {mg:Str->Option Value} {base:Heap}
theorem ok_cell {f:Addr} {fd:FuncData} (F:Fun K "_law_cell" "_law_cell" (top 34) f fd) (B:Bl mg):FnOk P w K mg base CX0 1 f fd ["_law_script","_law_k"] (spCell K):=by
 have sc:FnScope ["_law_script","_law_k","_law_number"] ["_law_script","_law_k"] (defScope (top 34)):=⟨rfl,rfl,rfl,by decide +kernel,rfl,by decide +kernel,by decide +kernel⟩
 refine F.ok sc (fun vs H Q E h=>?_) (fun cdv A outer s H vs Q E hr h=>?_)
 ·obtain ⟨a,ns,k,rfl,_⟩:=h
  rfl
 ·obtain ⟨a,ns,k,rfl,hS,h0,h1,h63,q⟩:=h
  have hl:(ns.map V.int).length = ns.length:=List.length_map ..
  refine ⟨_,pss_cons (ps_if (pt_cmpR op_lt (pv 1) (pe_callB call_len_seq (by rfl) B.len PySem.boot_len (pa_cons (pv 0) pa_nil)) (nomark _)) (pss_one (ps_ret (pe_ix ix_list (pv 0) (pv 1) (fun _ _=>rfl)))) pss_nil)
   (pss_cons (ps_set (i:=2) sc.nd rfl (Or.inl rfl) (pe_op op_add (pe_op op_mul (pv 1) pe_int) pe_int))
   (pss_cons (ps_if (pt_cmpR op_gt (pe_callB call_len_seq (by rfl) B.len PySem.boot_len (pa_cons (pv 0) pa_nil)) pe_int (nomark _))
    (pss_one (ps_set (i:=2) sc.nd rfl (Or.inl rfl) (pe_op op_add (pv 2) (pe_op op_mul (pe_op op_mod (pe_ix ix_list (pv 0) (pe_op op_mod (pv 1) (pe_callB call_len_seq (by rfl) B.len PySem.boot_len (pa_cons (pv 0) pa_nil))) (fun _ _=>rfl)) pe_int) pe_int)))) pss_nil)
   (pss_one (ps_ret (pe_op op_mod (pv 2) pe_int))))),?_⟩
  refine ⟨_,rfl,_,rfl,_,_,rfl,.inl hS,_,_,rfl,rfl,_,rfl,?_⟩
  refine ite2 (fun c=>?_) (fun c=>?_)
  ·have c':k < ns.length:=by rw [← hl];exact of_decide_eq_true c
   refine ⟨_,rfl,_,rfl,_,_,_,_,rfl,rfl,hS,item_ints h0 c',?_⟩
   have e:cellF ns k = ns.getD k.toNat 0:=by unfold cellF;rw [if_pos c']
   rw [e] at q
   exact q
  ·have c':¬ k < ns.length:=fun z=>c (decide_eq_true (by rw [hl];exact z))
   refine ⟨_,rfl,_,_,rfl,rfl,.inr ⟨by decide,by decide⟩,_,_,rfl,rfl,?_⟩
   refine ⟨_,rfl,_,_,rfl,.inl hS,_,_,rfl,rfl,_,rfl,?_⟩
   refine ite2 (fun c2=>?_) (fun c2=>?_)
   ·have c3:(0:Int) < ns.length:=by rw [← hl];exact of_decide_eq_true c2
    have m0:0 ≤ k % (ns.length:Int):=Int.emod_nonneg _ (by omega)
    have m1:k % (ns.length:Int) < ns.length:=Int.emod_lt_of_pos _ c3
    refine ⟨_,rfl,_,rfl,_,rfl,_,rfl,_,_,rfl,.inl hS,_,_,rfl,rfl,(by rw [hl];exact c3),_,_,_,_,rfl,rfl,hS,(by rw [hl];exact item_ints m0 m1),_,_,rfl,rfl,(pos rfl),_,_,rfl,rfl,.inr ⟨by decide,by decide⟩,_,_,rfl,rfl,?_⟩
    refine ⟨_,rfl,_,_,rfl,rfl,(pos rfl),?_⟩
    have e:cellF ns k = (k * 7919 + 5 + ns.getD (k % ns.length).toNat 0 % 2147483647 * 48271) % 2147483647:=by
     unfold cellF
     rw [if_neg c',if_pos (by omega)]
    rw [e] at q
    exact q
   ·have c3:¬ 0 < ns.length:=fun z=>c2 (decide_eq_true (by rw [hl];omega))
    refine ⟨_,rfl,_,_,rfl,rfl,(pos rfl),?_⟩
    have e:cellF ns k = (k * 7919 + 5) % 2147483647:=by
     unfold cellF
     rw [if_neg c',if_neg c3,Int.add_zero]
    rw [e] at q
    exact q
theorem ok_whole {f:Addr} {fd:FuncData} (F:Fun K "is_whole" "is_whole" (top 9) f fd) (B:Bl mg):FnOk P w K mg base CX0 1 f fd ["thing"] (spWhole K):=by
 have sc:FnScope ["thing"] ["thing"] (defScope (top 9)):=⟨rfl,rfl,rfl,by decide +kernel,rfl,by decide +kernel,by decide +kernel⟩
 refine F.ok sc (fun vs H Q E h=>?_) (fun cdv A outer s H vs Q E hr h=>?_)
 ·obtain ⟨v,n,rfl,_⟩:=h
  rfl
 ·obtain ⟨v,n,rfl,⟨ty,hn⟩,q⟩:=h
  refine ⟨_,pss_one (ps_ret (pe_and (pe_callB call_isi (by rfl) B.isi boot_isi (pa_cons (pv 0) (pa_cons (pe_bltn (v:=.ty "int") (by rfl) B.int boot_int rfl) pa_nil)))
   (pe_one (pe_not (pe_callB call_isi (by rfl) B.isi boot_isi (pa_cons (pv 0) (pa_cons (pe_bltn (v:=.ty "bool") (by rfl) B.bool boot_bool rfl) pa_nil))))))),?_⟩
  refine ⟨_,rfl,_,_,_,_,rfl,ty,kit_eq.trans (kit_int n hn),_,rfl,?_⟩
  refine ite2 (fun c=>?_) (fun c=>?_)
  ·refine ⟨_,rfl,_,_,_,_,rfl,ty,kit_eq.trans (kit_bool n hn),_,rfl,?_⟩
   have e:(!(n == "bool")) = (n == "int"):=by
    revert c hn
    clear ty q
    revert n
    decide +kernel
   rw [e]
   exact q
  ·have e:(n == "int") = false:=by
    cases z:n == "int" with
    | false=>rfl
    | true=>rw [z] at c;exact (c rfl).elim
   rw [e] at q
   exact q
def wholeD:Dt->Bool
 | .int _=>true
 | _=>false
def sign1 (l:List Nat):Bool:=match l with
 | [c]=>decide (32 ≤ c) && (decide (c ≤ 126) && !decide (c = 37))
 | _=>false
def signD:Dt->Bool
 | .str z=>sign1 z.cps.toList
 | _=>false
def geD:Dt->Bool
 | .int i=>decide (1 ≤ i)
 | _=>false
def pairD (s b:Dt):Bool:=if strIs s "below" = true then geD b else if strIs s "upto" = true then wholeD b else strIs s "without" && signD b
def w2:List Str:=["whole","word"]
def w3:List Str:=["list","some","once"]
def plainD:Dt->Bool
 | .tup [s]=>w2.any (strIs s)
 | .tup [s,b]=>pairD s b
 | _=>false
def moreD:Dt->Bool
 | .tup [s]=>strIs s "key"
 | .tup [s,b]=>w3.any (strIs s) && plainD b
 | _=>false
def kindD (d:Dt):Bool:=plainD d || moreD d
theorem wholeD_ty (d:Dt):(tyD d == "int") = wholeD d:=by cases d <;> simp [tyD,wholeD]
theorem ok_sign {f:Addr} {fd:FuncData} (F:Fun K "is_sign" "is_sign" (top 11) f fd) (B:Bl mg) {uP:Value} (hP:mg "PERCENT" = some uP) (rP:RelV (.int 37) uP) :
  FnOk P w K mg base CX0 1 f fd ["thing"] (fun vs H Q _=>∃ (v:V) (d:Dt),vs = [v]/\Rep H d v/\Q (.bl (signD d)) H):=by
 have sc:FnScope ["thing"] ["thing"] (defScope (top 11)):=⟨rfl,rfl,rfl,by decide +kernel,rfl,by decide +kernel,by decide +kernel⟩
 refine F.ok sc (fun vs H Q E h=>?_) (fun cdv A outer s H vs Q E hr h=>?_)
 ·obtain ⟨v,d,rfl,_⟩:=h
  rfl
 ·obtain ⟨v,d,rfl,hd,q⟩:=h
  refine ⟨_,pss_cons (ps_if (PW.pt (pw_or (pt_not (pt_val (pe_callB call_isi (by rfl) B.isi boot_isi (pa_cons (pv 0) (pa_cons (pe_bltn (v:=.ty "str") (by rfl) B.str boot_str rfl) pa_nil)))))
    (pw_or1 (pt_cmpR op_ne (pe_callB call_len_str (by rfl) B.len PySem.boot_len (pa_cons (pv 0) pa_nil)) pe_int (nomark _))))) (pss_one (ps_ret pe_bl)) pss_nil)
   (pss_one (ps_ret (pe_and (pe_chain op_le_str op_le_str pe_str (pv 0) pe_str) (pe_one (pe_cmpR op_ne (pe_callB call_ord (by rfl) B.ord boot_ord (pa_cons (pv 0) pa_nil)) (pe_glob (by rfl) hP rP) (nomark _)))))),?_⟩
  by_cases hs:tyD d = "str"
  ·obtain ⟨z,rfl⟩:∃ z,d = .str z:=by
    cases d <;> first | exact ⟨_,rfl⟩ | (simp [tyD] at hs)
   unfold Rep at hd
   obtain ⟨rfl,hz⟩:=hd
   have hzs:z.length ≤ sizeLine:=by rw [sizeLine_eq];omega
   refine ⟨_,rfl,_,_,_,_,rfl,.str z,kit_eq.trans (show kitTy "str" "str" = some true by decide +kernel),_,rfl,?_⟩
   refine iteF ?_
   refine ⟨_,rfl,_,rfl,hzs,rfl,_,rfl,?_⟩
   have hl:z.cps.toList.length = z.length:=by simp [Str.length]
   by_cases h1:z.length = 1
   ·obtain ⟨c,hc⟩:∃ c,z.cps.toList = [c]:=by
     rw [h1] at hl
     match h:z.cps.toList,hl with
     | [c],_=>exact ⟨c,rfl⟩
    have hg:z.cps.getD 0 0 = c:=by
     have:z.cps = #[c]:=by rw [← Array.toArray_toList (xs:=z.cps),hc]
     rw [this]
     rfl
    refine iteC (by rw [h1];rfl) ?_
    have hq:signD (.str z) = (decide (32 ≤ c) && (decide (c ≤ 126) && !decide (c = 37))):=by
     show sign1 z.cps.toList = _
     rw [hc]
     rfl
    rw [hq] at q
    have e32:(" ":Str).cps.toList = [32]:=by decide +kernel
    have e126:("~":Str).cps.toList = [126]:=by decide +kernel
    have l1:(!decide (z.cps.toList < (" ":Str).cps.toList)) = decide (32 ≤ c):=by
     rw [hc,e32,StrLaws.lt_cons_cons,StrLaws.lt_nil_nil,Bool.and_false,Bool.or_false]
     by_cases h:32 ≤ c
     ·rw [decide_eq_true h,decide_eq_false (by omega)];rfl
     ·rw [decide_eq_false h,decide_eq_true (by omega)];rfl
    have l2:(!decide (("~":Str).cps.toList < z.cps.toList)) = decide (c ≤ 126):=by
     rw [hc,e126,StrLaws.lt_cons_cons,StrLaws.lt_nil_nil,Bool.and_false,Bool.or_false]
     by_cases h:c ≤ 126
     ·rw [decide_eq_true h,decide_eq_false (by omega)];rfl
     ·rw [decide_eq_false h,decide_eq_true (by omega)];rfl
    refine ⟨_,rfl,_,_,rfl,rfl,_,rfl,?_⟩
    by_cases h32:32 ≤ c
    ·refine iteB (l1.trans (decide_eq_true h32)) ?_
     refine ⟨_,_,rfl,rfl,_,rfl,?_⟩
     rw [decide_eq_true h32,Bool.true_and] at q
     by_cases h126:c ≤ 126
     ·refine iteB (l2.trans (decide_eq_true h126)) ?_
      rw [decide_eq_true h126,Bool.true_and] at q
      refine ⟨_,rfl,_,rfl,h1,rfl,?_⟩
      have e:decide (V.int (z.cps.getD 0 0:Nat) = V.int 37) = decide (c = 37):=by
       rw [hg]
       exact lenEq (k:=37)
      rw [e]
      exact q
     ·refine iteC (l2.trans (decide_eq_false h126)) ?_
      rw [decide_eq_false h126,Bool.false_and] at q
      exact q
    ·refine iteC (l1.trans (decide_eq_false h32)) ?_
     rw [decide_eq_false h32,Bool.false_and] at q
     exact ⟨_,rfl,iteF q⟩
   ·refine iteB ?_ ?_
    ·have e:decide (V.int (z.length:Int) = V.int 1) = decide (z.length = 1):=lenEq (k:=1)
     rw [e,decide_eq_false h1]
     rfl
    ·have hq:signD (.str z) = false:=by
      show sign1 z.cps.toList = _
      rw [← hl] at h1
      match h:z.cps.toList,h1 with
      | [],_=>rfl
      | [c],h1=>exact (h1 rfl).elim
      | _ :: _ :: _,_=>rfl
     rw [hq] at q
     exact q
  ·have e:(tyD d == "str") = false:=beq_eq_false_iff_ne.mpr hs
   have hi:=hd.is (K:=K)
   refine ⟨_,rfl,_,_,_,_,rfl,hi.1,kit_eq.trans ((kit_str _ hi.2).trans (congrArg some e)),_,rfl,?_⟩
   refine iteT ?_
   have hq:signD d = false:=by
    cases d <;> first | rfl | exact (hs rfl).elim
   rw [hq] at q
   exact q
theorem ok_pair {f fW fS:Addr} {fd fdW fdS:FuncData} (F:Fun K "is_plain_pair" "is_plain_pair" (top 13) f fd) (B:Bl mg) (DW:Df K mg "is_whole" (top 9) fW fdW) (DS:Df K mg "is_sign" (top 11) fS fdS) {uP:Value} (hP:mg "PERCENT" = some uP) (rP:RelV (.int 37) uP) :
  FnOk P w K mg base CX0 2 f fd ["sort","bound"] (fun vs H Q _=>∃ (u v:V) (s b:Dt),vs = [u,v]/\Rep H s u/\Rep H b v/\Q (.bl (pairD s b)) H):=by
 have sc:FnScope ["sort","bound"] ["sort","bound"] (defScope (top 13)):=⟨rfl,rfl,rfl,by decide +kernel,rfl,by decide +kernel,by decide +kernel⟩
 have GW:FnOk P w K mg base CX0 1 fW fdW ["thing"] (spWhole K):=ok_whole DW.fn B
 have GS:=ok_sign (P:=P) (w:=w) (base:=base) DS.fn B hP rP
 have bW:=DW.fn.binds (ps:=["thing"]) fun _ _ _ _ _ _ us hl=>by obtain ⟨v0,rfl⟩:=L2.ln1 hl;rfl
 have bS:=DS.fn.binds (ps:=["thing"]) fun _ _ _ _ _ _ us hl=>by obtain ⟨v0,rfl⟩:=L2.ln1 hl;rfl
 refine F.ok sc (fun vs H Q E h=>?_) (fun cdv A outer s H vs Q E hr h=>?_)
 ·obtain ⟨u,v,s,b,rfl,_⟩:=h
  rfl
 ·obtain ⟨u,v,ds,db,rfl,hds,hdb,q⟩:=h
  have hu:(A.deeper (envOfC "is_plain_pair" (defScope (top 13)) s.heap.objs.size f cdv)).units < cLine:=hr.units0
  refine ⟨_,pss_cons (ps_if (pt_cmpR (op_eqD hu) (pv 0) pe_str (nomark _)) (pss_one (ps_ret (pe_and (pe_call GW hr (by rfl) DW.mg DW.fn.kp bW .nil pass0 (pa_cons (pv 1) pa_nil)) (pe_one (pe_cmpR op_ge (pv 1) pe_int (nomark _)))))) pss_nil)
   (pss_cons (ps_if (pt_cmpR (op_eqD hu) (pv 0) pe_str (nomark _)) (pss_one (ps_ret (pe_call GW hr (by rfl) DW.mg DW.fn.kp bW .nil pass0 (pa_cons (pv 1) pa_nil)))) pss_nil)
   (pss_one (ps_ret (pe_and (pe_cmpR (op_eqD hu) (pv 0) pe_str (nomark _)) (pe_one (pe_call GS hr (by rfl) DS.mg DS.fn.kp bS .nil pass0 (pa_cons (pv 1) pa_nil))))))),?_⟩
  refine ⟨_,rfl,ds,_,hds,rfl,_,rfl,?_⟩
  by_cases c1:strIs ds "below" = true
  ·refine iteB c1 ?_
   have e:pairD ds db = geD db:=by unfold pairD;rw [if_pos c1]
   rw [e] at q
   refine ⟨_,rfl,_,_,rfl,hdb.is,_,rfl,?_⟩
   by_cases hw:wholeD db = true
   ·refine iteB ((wholeD_ty db).trans hw) ?_
    obtain ⟨i,rfl⟩:∃ i,db = .int i:=by
     cases db <;> first | exact ⟨_,rfl⟩ | (simp [wholeD] at hw)
    unfold Rep at hdb
    subst hdb
    exact ⟨_,rfl,_,_,rfl,rfl,q⟩
   ·refine iteC ((wholeD_ty db).trans (by simpa using hw)) ?_
    have e2:geD db = false:=by
     cases db <;> first | rfl | exact (hw rfl).elim
    rw [e2] at q
    exact q
  ·refine iteC (by simpa using c1) ?_
   refine ⟨_,rfl,ds,_,hds,rfl,_,rfl,?_⟩
   by_cases c2:strIs ds "upto" = true
   ·refine iteB c2 ?_
    have e:pairD ds db = wholeD db:=by unfold pairD;rw [if_neg c1,if_pos c2]
    rw [e,← wholeD_ty db] at q
    exact ⟨_,rfl,_,_,rfl,hdb.is,q⟩
   ·refine iteC (by simpa using c2) ?_
    have e:pairD ds db = (strIs ds "without" && signD db):=by unfold pairD;rw [if_neg c1,if_neg c2]
    rw [e] at q
    refine ⟨_,rfl,ds,_,hds,rfl,_,rfl,?_⟩
    by_cases c3:strIs ds "without" = true
    ·refine iteB c3 ?_
     rw [c3,Bool.true_and] at q
     exact ⟨_,rfl,_,_,rfl,hdb,q⟩
    ·refine iteC (by simpa using c3) ?_
     rw [(by simpa using c3:strIs ds "without" = false),Bool.false_and] at q
     exact q
def spPlain:Sp:=fun vs H Q _=>∃ (v:V) (d:Dt),vs = [v]/\Rep H d v/\∀ H',Same H H'->Q (.bl (plainD d)) H'
theorem ok_plain {f fW fS fR:Addr} {fd fdW fdS fdR:FuncData} (F:Fun K "is_plain" "is_plain" (top 12) f fd) (B:Bl mg) (DW:Df K mg "is_whole" (top 9) fW fdW) (DS:Df K mg "is_sign" (top 11) fS fdS) (DR:Df K mg "is_plain_pair" (top 13) fR fdR)
  {uP:Value} (hP:mg "PERCENT" = some uP) (rP:RelV (.int 37) uP):FnOk P w K mg base CX0 3 f fd ["thing"] spPlain:=by
 have sc:FnScope ["thing"] ["thing"] (defScope (top 12)):=⟨rfl,rfl,rfl,by decide +kernel,rfl,by decide +kernel,by decide +kernel⟩
 have GR:=ok_pair (P:=P) (w:=w) (base:=base) DR.fn B DW DS hP rP
 have bR:=DR.fn.binds (ps:=["sort","bound"]) fun _ _ _ _ _ _ us hl=>by obtain ⟨v0,v1,rfl⟩:=L2.ln2 hl;rfl
 refine F.ok sc (fun vs H Q E h=>?_) (fun cdv A outer s H vs Q E hr h=>?_)
 ·obtain ⟨v,d,rfl,_⟩:=h
  rfl
 ·obtain ⟨v,d,rfl,hd,q⟩:=h
  have hu:(A.deeper (envOfC "is_plain" (defScope (top 12)) s.heap.objs.size f cdv)).units + 1 < cLine:=hu_of hr
  refine ⟨_,pss_cons (ps_if (pt_not (pt_val (pe_callB call_isi (by rfl) B.isi boot_isi (pa_cons (pv 0) (pa_cons (pe_bltn (v:=.ty "tuple") (by rfl) B.tuple boot_tuple rfl) pa_nil))))) (pss_one (ps_ret pe_bl)) pss_nil)
   (pss_cons (ps_if (pt_cmpR op_eq (pe_callB call_len_seq (by rfl) B.len PySem.boot_len (pa_cons (pv 0) pa_nil)) pe_int (nomark _)) (pss_one (ps_ret (pe_cmpR (op_inD hu) (pe_ix ix_tup (pv 0) pe_int (fun _ _=>rfl)) (pe_tup (pa_cons pe_str (pa_cons pe_str pa_nil))) (by with_unfolding_all rfl)))) pss_nil)
   (pss_one (ps_ret (pe_and (pe_cmpR op_eq (pe_callB call_len_seq (by rfl) B.len PySem.boot_len (pa_cons (pv 0) pa_nil)) pe_int (nomark _))
    (pe_one (pe_call GR hr (by rfl) DR.mg DR.fn.kp bR .nil pass0 (pa_cons (pe_ix ix_tup (pv 0) pe_int (fun _ _=>rfl)) (pa_cons (pe_ix ix_tup (pv 0) pe_int (fun _ _=>rfl)) pa_nil)))))))),?_⟩
  have hi:=hd.is (K:=K)
  by_cases ht:tyD d = "tuple"
  ·obtain ⟨ds,rfl⟩:∃ ds,d = .tup ds:=by
    cases d <;> first | exact ⟨_,rfl⟩ | (simp [tyD] at ht)
   have hd':=hd
   unfold Rep at hd'
   obtain ⟨a,xs,rfl,ha,hr2⟩:=hd'
   have hl:=hr2.length
   refine ⟨_,rfl,_,_,_,_,rfl,hi.1,kit_eq.trans (show kitTy "tuple" "tuple" = some true by decide +kernel),_,rfl,?_⟩
   refine iteF ?_
   refine ⟨_,rfl,_,_,rfl,.inr (SqT.of ha),rfl,_,rfl,?_⟩
   have e1:decide (V.int (xs.length:Int) = V.int 1) = decide (xs.length = 1):=lenEq (k:=1)
   have e2:decide (V.int (xs.length:Int) = V.int 2) = decide (xs.length = 2):=lenEq (k:=2)
   match ds,hr2,hl,q with
   | [],hr2,hl,q=>
    refine iteC (e1.trans (decide_eq_false (by rw [hl];simp))) ?_
    refine ⟨_,rfl,_,_,rfl,.inr (SqT.of ha),rfl,_,rfl,?_⟩
    refine iteC (e2.trans (decide_eq_false (by rw [hl];simp))) ?_
    exact q H (Same.refl H)
   | [d0],hr2,hl,q=>
    refine iteB (e1.trans (decide_eq_true hl)) ?_
    unfold Reps at hr2
    obtain ⟨v0,r0,rfl,h0,hn⟩:=hr2
    unfold Reps at hn
    subst hn
    refine ⟨_,rfl,_,_,_,v0,rfl,rfl,SqT.of ha,rfl,?_⟩
    refine ⟨(by decide),fun p hp=>?_⟩
    have sm:=Same.upd (o:=.tup [.str "whole",.str "word"]) hp
    exact ⟨d0,p,w2,h0.same sm,rfl,upd_same,q _ sm⟩
   | [d0,d1],hr2,hl,q=>
    refine iteC (e1.trans (decide_eq_false (by rw [hl];simp))) ?_
    unfold Reps at hr2
    obtain ⟨v0,r0,rfl,h0,hn⟩:=hr2
    unfold Reps at hn
    obtain ⟨v1,r1,rfl,h1,hn⟩:=hn
    unfold Reps at hn
    subst hn
    refine ⟨_,rfl,_,_,rfl,.inr (SqT.of ha),rfl,_,rfl,?_⟩
    refine iteB (e2.trans (decide_eq_true hl)) ?_
    refine ⟨_,rfl,_,_,_,v0,rfl,rfl,SqT.of ha,rfl,_,rfl,_,_,_,v1,rfl,rfl,SqT.of ha,rfl,?_⟩
    exact ⟨v0,v1,d0,d1,rfl,h0,h1,q H (Same.refl H)⟩
   | d0 :: d1 :: d2 :: r,hr2,hl,q=>
    refine iteC (e1.trans (decide_eq_false (by rw [hl];simp))) ?_
    refine ⟨_,rfl,_,_,rfl,.inr (SqT.of ha),rfl,_,rfl,?_⟩
    refine iteC (e2.trans (decide_eq_false (by rw [hl];simp))) ?_
    exact q H (Same.refl H)
  ·have e:(tyD d == "tuple") = false:=beq_eq_false_iff_ne.mpr ht
   refine ⟨_,rfl,_,_,_,_,rfl,hi.1,kit_eq.trans ((kit_tuple _ hi.2).trans (congrArg some e)),_,rfl,?_⟩
   refine iteT ?_
   have hq:plainD d = false:=by
    cases d <;> first | rfl | exact (ht rfl).elim
   have:=q H (Same.refl H)
   rw [hq] at this
   exact this
def spKind:Sp:=fun vs H Q _=>∃ (v:V) (d:Dt),vs = [v]/\Rep H d v/\∀ H',Same H H'->Q (.bl (kindD d)) H'
theorem ok_kind {f fP:Addr} {fd fdP:FuncData} (F:Fun K "is_kind" "is_kind" (top 14) f fd) (B:Bl mg) (DP:Df K mg "is_plain" (top 12) fP fdP) (GP:FnOk P w K mg base CX0 3 fP fdP ["thing"] spPlain):FnOk P w K mg base CX0 4 f fd ["thing"] spKind:=by
 have sc:FnScope ["thing"] ["thing"] (defScope (top 14)):=⟨rfl,rfl,rfl,by decide +kernel,rfl,by decide +kernel,by decide +kernel⟩
 have bP:=DP.fn.binds (ps:=["thing"]) fun _ _ _ _ _ _ us hl=>by obtain ⟨v0,rfl⟩:=L2.ln1 hl;rfl
 refine F.ok sc (fun vs H Q E h=>?_) (fun cdv A outer s H vs Q E hr h=>?_)
 ·obtain ⟨v,d,rfl,_⟩:=h
  rfl
 ·obtain ⟨v,d,rfl,hd,q⟩:=h
  have hu:(A.deeper (envOfC "is_kind" (defScope (top 14)) s.heap.objs.size f cdv)).units + 1 < cLine:=hu_of hr
  refine ⟨_,pss_cons (ps_if (pt_val (pe_call GP hr (by rfl) DP.mg DP.fn.kp bP .nil pass0 (pa_cons (pv 0) pa_nil))) (pss_one (ps_ret pe_bl)) pss_nil)
   (pss_cons (ps_if (pt_not (pt_val (pe_callB call_isi (by rfl) B.isi boot_isi (pa_cons (pv 0) (pa_cons (pe_bltn (v:=.ty "tuple") (by rfl) B.tuple boot_tuple rfl) pa_nil))))) (pss_one (ps_ret pe_bl)) pss_nil)
   (pss_cons (ps_if (pt_cmpR op_eq (pe_callB call_len_seq (by rfl) B.len PySem.boot_len (pa_cons (pv 0) pa_nil)) pe_int (nomark _)) (pss_one (ps_ret (pe_cmpR (op_eqD (Nat.lt_of_succ_lt hu)) (pe_ix ix_tup (pv 0) pe_int (fun _ _=>rfl)) pe_str (nomark _)))) pss_nil)
   (pss_one (ps_ret (pe_and (pe_cmpR op_eq (pe_callB call_len_seq (by rfl) B.len PySem.boot_len (pa_cons (pv 0) pa_nil)) pe_int (nomark _))
    (pe_and (pe_cmpR (op_inD hu) (pe_ix ix_tup (pv 0) pe_int (fun _ _=>rfl)) (pe_tup (pa_cons pe_str (pa_cons pe_str (pa_cons pe_str pa_nil)))) (by with_unfolding_all rfl))
    (pe_one (pe_call GP hr (by rfl) DP.mg DP.fn.kp bP .nil pass0 (pa_cons (pe_ix ix_tup (pv 0) pe_int (fun _ _=>rfl)) pa_nil))))))))),?_⟩
  refine ⟨_,rfl,v,d,rfl,hd,fun H1 s1=>?_⟩
  refine ⟨_,rfl,?_⟩
  by_cases hp:plainD d = true
  ·refine iteB hp ?_
   have e:kindD d = true:=by unfold kindD;rw [hp];rfl
   have:=q H1 s1
   rw [e] at this
   exact this
  ·refine iteC (by simpa using hp) ?_
   have ek:kindD d = moreD d:=by unfold kindD;rw [(by simpa using hp:plainD d = false)];rfl
   rw [ek] at q
   have hd1:=hd.same s1
   have hi:=hd1.is (K:=K)
   by_cases ht:tyD d = "tuple"
   ·obtain ⟨ds,rfl⟩:∃ ds,d = .tup ds:=by
     cases d <;> first | exact ⟨_,rfl⟩ | (simp [tyD] at ht)
    have hd':=hd1
    unfold Rep at hd'
    obtain ⟨a,xs,rfl,ha,hr2⟩:=hd'
    have hl:=hr2.length
    refine ⟨_,rfl,_,_,_,_,rfl,hi.1,kit_eq.trans (show kitTy "tuple" "tuple" = some true by decide +kernel),_,rfl,?_⟩
    refine iteF ?_
    refine ⟨_,rfl,_,_,rfl,.inr (SqT.of ha),rfl,_,rfl,?_⟩
    have e1:decide (V.int (xs.length:Int) = V.int 1) = decide (xs.length = 1):=lenEq (k:=1)
    have e2:decide (V.int (xs.length:Int) = V.int 2) = decide (xs.length = 2):=lenEq (k:=2)
    match ds,hr2,hl,q with
    | [],hr2,hl,q=>
     refine iteC (e1.trans (decide_eq_false (by rw [hl];simp))) ?_
     refine ⟨_,rfl,_,_,rfl,.inr (SqT.of ha),rfl,_,rfl,?_⟩
     refine iteC (e2.trans (decide_eq_false (by rw [hl];simp))) ?_
     exact q H1 s1
    | [d0],hr2,hl,q=>
     refine iteB (e1.trans (decide_eq_true hl)) ?_
     unfold Reps at hr2
     obtain ⟨v0,r0,rfl,h0,hn⟩:=hr2
     unfold Reps at hn
     subst hn
     refine ⟨_,rfl,_,_,_,v0,rfl,rfl,SqT.of ha,rfl,?_⟩
     exact ⟨d0,_,h0,rfl,q H1 s1⟩
    | [d0,d1],hr2,hl,q=>
     refine iteC (e1.trans (decide_eq_false (by rw [hl];simp))) ?_
     unfold Reps at hr2
     obtain ⟨v0,r0,rfl,h0,hn⟩:=hr2
     unfold Reps at hn
     obtain ⟨v1,r1,rfl,h1,hn⟩:=hn
     unfold Reps at hn
     subst hn
     refine ⟨_,rfl,_,_,rfl,.inr (SqT.of ha),rfl,_,rfl,?_⟩
     refine iteB (e2.trans (decide_eq_true hl)) ?_
     refine ⟨_,rfl,_,_,_,v0,rfl,rfl,SqT.of ha,rfl,?_⟩
     refine ⟨(by decide),fun p hp'=>?_⟩
     have sm:=Same.upd (o:=.tup [.str "list",.str "some",.str "once"]) hp'
     have s2:=s1.trans sm
     refine ⟨d0,p,w3,h0.same sm,rfl,upd_same,_,rfl,?_⟩
     have em:moreD (.tup [d0,d1]) = (w3.any (strIs d0) && plainD d1):=rfl
     rw [em] at q
     by_cases c:w3.any (strIs d0) = true
     ·refine iteB c ?_
      rw [c,Bool.true_and] at q
      refine ⟨_,rfl,_,_,_,v1,rfl,rfl,SqT.of (sm _ _ ha),rfl,?_⟩
      exact ⟨v1,d1,rfl,h1.same sm,fun H3 s3=>q H3 (s2.trans s3)⟩
     ·refine iteC (by simpa using c) ?_
      rw [(by simpa using c:w3.any (strIs d0) = false),Bool.false_and] at q
      exact q _ s2
    | d0 :: d1 :: d2 :: r,hr2,hl,q=>
     refine iteC (e1.trans (decide_eq_false (by rw [hl];simp))) ?_
     refine ⟨_,rfl,_,_,rfl,.inr (SqT.of ha),rfl,_,rfl,?_⟩
     refine iteC (e2.trans (decide_eq_false (by rw [hl];simp))) ?_
     exact q H1 s1
   ·have e:(tyD d == "tuple") = false:=beq_eq_false_iff_ne.mpr ht
    refine ⟨_,rfl,_,_,_,_,rfl,hi.1,kit_eq.trans ((kit_tuple _ hi.2).trans (congrArg some e)),_,rfl,?_⟩
    refine iteT ?_
    have hq:moreD d = false:=by
     cases d <;> first | rfl | exact (ht rfl).elim
    have:=q H1 s1
    rw [hq] at this
    exact this
end
end My
namespace L2
open PySem PySem.Spec PyProof.Rows
section
variable {X:Cx} {pins:List (Addr × Obj)} {σ:St} {H:Hp} {s:Shared} {a:Addr} {kvs:List (Key × V)} {o:Obj}
theorem Inv.freeze (I:Inv X pins σ H s) (e:H a = some (.dK kvs)) (ho:s.heap.get? a = some o):Inv X pins σ (upd H a (.frz o (.dK kvs))) s:=by
 have ne:∀ b u,H b = some u->u ≠ .dK kvs->b ≠ a:=fun b u q n z=>by
  subst z
  rw [e] at q
  exact n (Option.some.inj q).symm
 have nn:∀ b,H b = none->b ≠ a:=fun b q z=>by subst z;rw [e] at q;cases q
 refine ⟨I.ok,I.os,I.bare,⟨I.base.keep,I.base.slot,fun b ob q n hx=>?_,I.base.there,fun b xs q=>?_,fun b ob u q=>?_,fun b ps q=>?_⟩,I.loc,I.cell,?_,fun x c q=>?_,fun p hp=>?_,fun b u q=>?_,I.len⟩
 ·have h:=I.base.free b ob q n hx
  rw [upd_ne (nn b h)]
  exact h
 ·have h:=I.base.tups b xs q
  rw [upd_ne (ne b _ h (by simp))]
  exact h
 ·have h:=I.base.frzs b ob u q
  rw [upd_ne (ne b _ h (by simp))]
  exact h
 ·obtain ⟨m,h⟩:=I.base.tbls b ps q
  exact ⟨m,by rw [upd_ne (ne b _ h (by simp))];exact h⟩
 ·rw [upd_ne (nn _ I.free)]
  exact I.free
 ·rw [upd_ne (nn _ (I.freeC x c q))]
  exact I.freeC x c q
 ·obtain ⟨h1,h2,h3⟩:=I.pin p hp
  exact ⟨h1,by rw [upd_ne (nn _ h2)];exact h2,h3⟩
 ·by_cases hb:b = a
  ·subst hb
   rw [upd_same] at q
   cases q
   exact ⟨ho,I.hok b _ e⟩
  ·rw [upd_ne hb] at q
   exact (I.hok b u q).stay (fun c v _ r=>r) (fun c r=>by rw [upd_ne (ne c _ r (by simp))];exact r) fun c xs r=>by rw [upd_ne (ne c _ r (by simp))];exact r
theorem Inv.thaw (I:Inv X pins σ H s) (n0:∀ ob u,X.H₀ a ≠ some (.frz ob u)) (e:H a = some (.frz o (.dK kvs))):Inv X pins σ (upd H a (.dK kvs)) s:=by
 have ne:∀ b u,H b = some u->u ≠ .frz o (.dK kvs)->b ≠ a:=fun b u q n z=>by
  subst z
  rw [e] at q
  exact n (Option.some.inj q).symm
 have nn:∀ b,H b = none->b ≠ a:=fun b q z=>by subst z;rw [e] at q;cases q
 refine ⟨I.ok,I.os,I.bare,⟨I.base.keep,I.base.slot,fun b ob q n hx=>?_,I.base.there,fun b xs q=>?_,fun b ob u q=>?_,fun b ps q=>?_⟩,I.loc,I.cell,?_,fun x c q=>?_,fun p hp=>?_,fun b u q=>?_,I.len⟩
 ·have h:=I.base.free b ob q n hx
  rw [upd_ne (nn b h)]
  exact h
 ·have h:=I.base.tups b xs q
  rw [upd_ne (ne b _ h (by simp))]
  exact h
 ·have h:=I.base.frzs b ob u q
  rw [upd_ne (fun z=>by subst z;exact n0 _ _ q)]
  exact h
 ·obtain ⟨m,h⟩:=I.base.tbls b ps q
  exact ⟨m,by rw [upd_ne (ne b _ h (by simp))];exact h⟩
 ·rw [upd_ne (nn _ I.free)]
  exact I.free
 ·rw [upd_ne (nn _ (I.freeC x c q))]
  exact I.freeC x c q
 ·obtain ⟨h1,h2,h3⟩:=I.pin p hp
  exact ⟨h1,by rw [upd_ne (nn _ h2)];exact h2,h3⟩
 ·by_cases hb:b = a
  ·subst hb
   rw [upd_same] at q
   cases q
   exact (I.hok b _ e).2
  ·rw [upd_ne hb] at q
   exact (I.hok b u q).stay (fun c v _ r=>r) (fun c r=>by rw [upd_ne (ne c _ r (by simp))];exact r) fun c xs r=>by rw [upd_ne (ne c _ r (by simp))];exact r
theorem Inv.dk_obj (I:Inv X pins σ H s) (e:H a = some (.dK kvs)):∃ o,s.heap.get? a = some o:=by
 obtain ⟨_,_,_,_,o,_,_,g,_⟩:=I.hok a _ e
 exact ⟨o,g⟩
theorem Inv.not_frz (I:Inv X pins σ H s) (e:H a = some (.dK kvs)):∀ ob u,X.H₀ a ≠ some (.frz ob u):=fun ob u q=>by
 have:=I.base.frzs a ob u q
 rw [e] at this
 cases this
def frzE (a:Addr) (o:Obj) (kvs:List (Key × V)) (D:Ends):Ends where
 nx:=fun σ' H'=>H' a = some (.frz o (.dK kvs))/\D.nx σ' (upd H' a (.dK kvs))
 rt:=fun v H'=>H' a = some (.frz o (.dK kvs))/\D.rt v (upd H' a (.dK kvs))
 bk:=fun σ' H'=>H' a = some (.frz o (.dK kvs))/\D.bk σ' (upd H' a (.dK kvs))
 ct:=fun σ' H'=>H' a = some (.frz o (.dK kvs))/\D.ct σ' (upd H' a (.dK kvs))
def sFrz (t:TS):TS:=fun D σ H=>∃ a kvs,H a = some (.dK kvs)/\∀ o,t (frzE a o kvs D) σ (upd H a (.frz o (.dK kvs)))
theorem ps_frz {st:Stmt} {t:TS} (h:PS X st t):PS X st (sFrz t):=by
 intro pins s σ H D I hq
 obtain ⟨a,kvs,e,q⟩:=hq
 obtain ⟨o,ho⟩:=I.dk_obj e
 have n0:=I.not_frz e
 refine thn (h pins s σ _ _ (I.freeze e ho) (q o)) fun f s' hs=>?_
 cases f with
 | next=>obtain ⟨σ',H',I',e',z⟩:=hs;exact ⟨σ',_,I'.thaw n0 e',z⟩
 | brk=>obtain ⟨σ',H',I',e',z⟩:=hs;exact ⟨σ',_,I'.thaw n0 e',z⟩
 | cont=>obtain ⟨σ',H',I',e',z⟩:=hs;exact ⟨σ',_,I'.thaw n0 e',z⟩
 | ret u=>obtain ⟨v,σ',H',I',r,e',z⟩:=hs;exact ⟨v,σ',_,I'.thaw n0 e',r,z⟩
end
def epOf (o:Obj):Nat:=match o.data with
 | .dict _ ep=>ep
 | _=>0
theorem is_kV {P:Program} {w:World}:∀ {k:Key} {u:Value},(mixKind P w).is k u = true->RelV (kV k) u:=by
 intro k u h
 rcases keyIs_shape (k:=k) (v:=u) h with ⟨i,t,rfl,rfl⟩ | ⟨x,t,rfl,rfl⟩
 ·exact ⟨t,rfl⟩
 ·exact ⟨t,rfl⟩
def Itd (a:Addr) (o:Obj) (kvs:List (Key × V)):It:=
 ⟨fun i H=>i < kvs.length/\H a = some (.frz o (.dK kvs)),fun i H x H'=>H' = H/\∃ k v,kvs[i]? = some (k,v)/\x = kV k,fun i H=>kvs.length ≤ i/\H a = some (.frz o (.dK kvs))⟩
section
variable {X:Cx}
theorem kv_get:∀ {kvs:List (Key × V)} {vs:List (Key × Value)} {i:Nat} {p:Key × V},KV kvs vs->kvs[i]? = some p->∃ u,vs[i]? = some (p.1,u)/\RelV p.2 u
 | _,_,_,_,.nil,e=>by simp at e
 | _,_,0,_,.cons (b:=q) r _,e=>by
  simp at e
  subst e
  obtain ⟨q1,q2⟩:=q
  obtain ⟨r1,r2⟩:=r
  exact ⟨q2,by rw [List.getElem?_cons_zero];exact congrArg (fun z=>some (z,q2)) r1.symm,r2⟩
 | _,_,i + 1,p,.cons _ t,e=>by
  obtain ⟨u,h1,h2⟩:=kv_get (i:=i) (p:=p) t (by simpa using e)
  exact ⟨u,by simpa using h1,h2⟩
theorem Inv.dictAt {pins:List (Addr × Obj)} {σ:St} {H:Hp} {s:Shared} {a:Addr} {o:Obj} {kvs:List (Key × V)} (I:Inv X pins σ H s) (e:H a = some (.frz o (.dK kvs))) :
  ∃ vs,KV kvs vs/\s.heap.DictAt (mixKind X.prog X.w) a vs (epOf o)/\(a == sysModules) = false:=by
 obtain ⟨g,_,hs,vs,kv,o',es,ep,g',ex,hd,hk,hp,hn⟩:=I.hok a _ e
 rw [g] at g'
 cases g'
 have he:epOf o = ep:=by unfold epOf;rw [hd]
 exact ⟨vs,kv,⟨o,es,g,ex,by rw [he];exact hd,hk,hp,hn⟩,hs⟩
theorem KV.len {kvs:List (Key × V)} {vs:List (Key × Value)} (r:KV kvs vs):kvs.length = vs.length:=Paired.length r
theorem turn_dict {P:Program} {w:World} {K:PySem.W.Frag} {tg:Expr} (a it:Addr) (o:Obj) (kvs:List (Key × V)):Turn P w K tg (Itd a o kvs) [it] it (fun i h=>h.IsKeyIter it a i kvs.length (epOf o)) where
 mem:=by simp
 obj:=fun i h st b hb=>by
  have e:b = it:=by simpa using hb
  subst e
  obtain ⟨o,e,c,d⟩:=st
  exact ⟨o,e,fun v z=>by rw [d] at z;cases z⟩
 keep:=fun i h h' st k=>st.at fun o e=>k it (by simp) o e
 item:=by
  intro X hP hw hK hc i pins s σ H E I hf st hg
  subst hP hw hK
  obtain ⟨hi,hq⟩:=hg
  obtain ⟨vs,kv,da,_⟩:=I.dictAt hq
  have hl:=kv.len
  obtain ⟨u,hu,ru⟩:=kv_get kv (show kvs[i]? = some (kvs[i].1,kvs[i].2) by simp [hi])
  obtain ⟨f0,f1,f2,f3,f4,f5⟩:=hf it (by simp)
  rw [hl] at st
  refine wpAny_pyNext_dict_item st da hu fun key h' hkey st' sb=>?_
  rw [← hl] at st'
  have I1:Inv X pins σ H { s with heap:=h' }:=I.turned (t':=s.toks) (fun b o hb e=>(sb.2 b hb).trans e) f0 f1 f3 f4 f5
  obtain ⟨oi,e,c,d⟩:=id st'
  exact ⟨key,rfl,go_of (s:={ s with heap:=h' }) e c d (by decide) ⟨kV kvs[i].1,H,I1,is_kV hkey,⟨rfl,kvs[i].1,kvs[i].2,by simp [hi],rfl⟩,st',fun b hb=>(hf b hb).1⟩⟩
 done:=by
  intro X hP hw hK hc i pins s σ H E I hf st hg
  subst hP hw hK
  obtain ⟨hi,hq⟩:=hg
  obtain ⟨vs,kv,da,_⟩:=I.dictAt hq
  have hl:=kv.len
  obtain ⟨f0,f1,f2,f3,f4,f5⟩:=hf it (by simp)
  rw [hl] at st
  exact wpAny_pyNext_dict_end (I.ok.hd hc) st da (by simp;omega) fun h' eb=>⟨rfl,I.turned (t':=s.toks) (fun b o hb e=>eb b o hb e) f0 f1 f3 f4 f5⟩
 self:=fun _ _ _ _ _ st h=>wpAny_pyIter_keyiter st h
def iDict (tl:TE):TI:=fun σ H R=>tl σ H fun x H1=>∃ a o kvs,x = .ref a/\H1 a = some (.frz o (.dK kvs))/\R (Itd a o kvs) H1
theorem pi_dict {tg l:Expr} {tl:TE} (hl:PE X l tl):PI X tg l (iDict tl):=by
 intro pins s σ H R I h
 refine thn (hl pins s σ H _ I h) fun v s1 ⟨x,H1,I1,r1,q1⟩=>?_
 obtain ⟨a,o,kvs,e,hq,q⟩:=q1
 subst e
 cases r1
 obtain ⟨vs,kv,da,hs⟩:=I1.dictAt hq
 refine wpAny_pyIter_dict hs da ?_
 refine ⟨s1.heap.objs.size,[s1.heap.objs.size],_,_,H1,rfl,I1.kept (t':=s1.toks) fun b o e=>Heap.get?_push_of_some _ e,turn_dict a _ o kvs,⟨_,Heap.get?_push_size _ rfl,rfl,by rw [kv.len];rfl⟩,fun b hb=>?_,q⟩
 have e:b = s1.heap.objs.size:=by simpa using hb
 subst e
 exact I1.fpOk (Nat.le_refl _) (I1.hok.fresh (Nat.le_refl _))
theorem for_dict {a:Addr} {o:Obj} {kvs:List (Key × V)} {g:TG} {tb:TS} {D:Ends} {σ:St} {H:Hp} (Pv:Nat->St->Hp->Prop) (h0:Pv 0 σ H) (hl:∀ i σ H,i ≤ kvs.length->Pv i σ H->H a = some (.frz o (.dK kvs)))
  (hs:∀ i k v σ H,kvs[i]? = some (k,v)->Pv i σ H->g (kV k) σ H fun σ2 H2=>tb { D with nx:=Pv (i + 1),ct:=Pv (i + 1),bk:=D.nx } σ2 H2) (hd:∀ σ H,Pv kvs.length σ H->D.nx σ H) :
  ∃ W:Nat->Nat->St->Hp->Prop,(∃ m,W 0 m σ H)/\∀ i m σ H,W i m σ H →
   ((Itd a o kvs).stop i H/\D.nx σ H)\/((Itd a o kvs).go i H/\∃ N:St->Hp->Prop,(∀ σ' H',N σ' H'->∃ m',m' < m/\W (i + 1) m' σ' H')/\∀ x H',(Itd a o kvs).yld i H x H'->g x σ H' fun σ2 H2=>tb { D with nx:=N,ct:=N,bk:=D.nx } σ2 H2):=by
 refine ⟨fun i m σ H=>m = kvs.length - i/\i ≤ kvs.length/\Pv i σ H,⟨kvs.length,by simp,Nat.zero_le _,h0⟩,?_⟩
 rintro i m σ H ⟨rfl,hi,p⟩
 have q:=hl i σ H hi p
 by_cases hlt:i < kvs.length
 ·refine .inr ⟨⟨hlt,q⟩,Pv (i + 1),fun σ' H' p'=>⟨kvs.length - (i + 1),by omega,rfl,hlt,p'⟩,fun x H' y=>?_⟩
  obtain ⟨e,k,v,hk,ex⟩:=y
  subst e ex
  exact hs i k v σ _ hk p
 ·have e:i = kvs.length:=by omega
  subst e
  exact .inl ⟨⟨Nat.le_refl _,q⟩,hd σ H p⟩
end
end L2
namespace L2
open PySem PySem.Spec PyProof.Rows
theorem strs_of:∀ {zs:List Str} {us:List Value},Vals (zs.map V.str) us->StrsAre us zs
 | [],_,r=>by rw [List.map_nil] at r;cases r;exact .nil
 | z :: zs,_,r=>by
  rw [List.map_cons] at r
  cases r with
  | cons h t=>
   obtain ⟨k,rfl⟩:=h
   exact .cons _ _ (strs_of t)
theorem vals_strs:∀ {us:List Value} {zs:List Str},StrsAre us zs->Vals (zs.map V.str) us
 | _,_,.nil=>.nil
 | _,_,.cons _ k t=>.cons ⟨_,rfl⟩ (vals_strs t)
section
variable {X:Cx}
end
end L2
namespace L2
open PySem PySem.Spec PyProof.Rows
theorem entry_itemiter_iter:entryFor table "dict_itemiterator.__iter__" = some Builtin.«dict_keyiterator.__iter__»:=
 entryFor_alias (id':="dict_keyiterator.__iter__") (by kernel_rfl) rfl (by decide +kernel) (by kernel_rfl)
theorem iter_itemiter {prog:Program} {w:World} {A:Around} {E:Value->Shared->Prop} {s:Shared} {it d:Addr} {i n ep:Nat} {ok ov:Value} {Q:Value->Shared->Prop} (hit:IsItemIter s.heap it d i n ep ok ov) (h:Q (.ref it) s):wpAny (model prog w) A (pyIter (.ref it)) Q E s:=by
 have hT:s.TypeIs (.ref it) "dict_itemiterator":=⟨_,hit,rfl⟩
 refine wpAny_pyIter_slot hT F.slot_dict_itemiterator_iter (wpAny_call_entry F.slot_dict_itemiterator_iter hT entry_itemiter_iter ?_ (F.args_dict_itemiterator_iter_1 _))
 show wpAny _ _ (ret (.ref it)) _ _ s
 exact wpAny_pure ⟨_,rfl,"dict_itemiterator",_,hT,F.slot_dict_itemiterator_next.lookup,h⟩
def Itm (a:Addr) (o:Obj) (kvs:List (Key × V)):It:=
 ⟨fun i H=>i < kvs.length/\H a = some (.frz o (.dK kvs)),fun i H x H'=>∃ k v p,kvs[i]? = some (k,v)/\x = .ref p/\H p = none/\H' = upd H p (.tup [kV k,v]),fun i H=>kvs.length ≤ i/\H a = some (.frz o (.dK kvs))⟩
section
variable {X:Cx}
theorem turn_items {P:Program} {w:World} {K:PySem.W.Frag} {es:List Expr} {x1:Nat} {tp:Pos} (a it:Addr) (o:Obj) (kvs:List (Key × V)):Turn P w K (.Tuple es x1 tp) (Itm a o kvs) [it] it (fun i h=>∃ ok ov,IsItemIter h it a i kvs.length (epOf o) ok ov) where
 mem:=by simp
 obj:=fun i h st b hb=>by
  have e:b = it:=by simpa using hb
  subst e
  obtain ⟨ok,ov,st⟩:=st
  exact ⟨_,st,fun v z=>by cases z⟩
 keep:=fun i h h' st k=>by
  obtain ⟨ok,ov,st⟩:=st
  exact ⟨ok,ov,k it (by simp) _ st⟩
 item:=by
  intro X hP hw hK hc i pins s σ H E I hf st hg
  subst hP hw hK
  obtain ⟨hi,hq⟩:=hg
  obtain ⟨ok,ov,st⟩:=st
  obtain ⟨vs,kv,da,_⟩:=I.dictAt hq
  have hl:=kv.len
  obtain ⟨u,hu,ru⟩:=kv_get kv (show kvs[i]? = some (kvs[i].1,kvs[i].2) by simp [hi])
  obtain ⟨f0,f1,f2,f3,f4,f5⟩:=hf it (by simp)
  have hit:it < s.heap.objs.size:=Heap.lt_size st
  rw [hl] at st
  refine wpAny_pyNext_items_item st da hu fun key h' hkey st' ht hsz kp=>?_
  refine ⟨_,rfl,?_⟩
  refine wpAny_letOwnedTupleGo_items (s:={ s with heap:=h' }) st' fun h'' st'' sb=>?_
  rw [← hl] at st''
  have I0:Inv X pins σ H { s with heap:=s.heap.update it fun _=>{ cls:=.type "dict_itemiterator",dict:=none,data:=.fields #[.none,.bool false,.ref a,.int (i + 1:Nat) 0,.int kvs.length 0,.int (epOf o) 0,key,u],slots:=#[] } }:=
   I.turned (t':=s.toks) (fun b ob hb e=>by rw [Heap.get?_update_ne _ _ _ _ hb];exact e) f0 f1 f3 f4 f5
  have hp:H s.heap.objs.size = none:=I.hok.fresh (Nat.le_refl _)
  refine ⟨.ref s.heap.objs.size,upd H s.heap.objs.size (.tup [kV kvs[i].1,kvs[i].2]),I0.laid (t':=s.toks) (h':=h'') (fun b ob e=>?_) (by rw [Heap.size_update];exact Nat.le_refl _) ?_,rfl,⟨_,_,_,by simp [hi],rfl,hp,rfl⟩,⟨key,u,st''⟩,fun b hb=>?_⟩
  ·by_cases hb:b = it
   ·subst hb
    rw [Heap.get?_update_self _ st rfl] at e
    rw [← e]
    exact st''
   ·rw [Heap.get?_update_ne _ _ _ _ hb] at e
    exact (sb.2 b hb).trans (kp b ob hb e)
  ·refine ⟨(show 2 ≤ sizeLine by decide),[key,u],.cons (is_kV hkey) (.cons ru .nil),⟨_,(sb.2 _ (Nat.ne_of_gt hit)).trans ht,rfl,_,rfl⟩⟩
  ·have e:b = it:=by simpa using hb
   subst e
   rw [upd_ne (Nat.ne_of_lt hit)]
   exact f0
 done:=by
  intro X hP hw hK hc i pins s σ H E I hf st hg
  subst hP hw hK
  obtain ⟨hi,hq⟩:=hg
  obtain ⟨ok,ov,st⟩:=st
  obtain ⟨vs,kv,da,_⟩:=I.dictAt hq
  have hl:=kv.len
  obtain ⟨f0,f1,f2,f3,f4,f5⟩:=hf it (by simp)
  rw [hl] at st
  exact wpAny_pyNext_items_end (I.ok.hd hc) st da (by simp;omega) fun h' eb=>⟨rfl,I.turned (t':=s.toks) (fun b o hb e=>eb b o hb e) f0 f1 f3 f4 f5⟩
 self:=fun A i s Q E st h=>by
  obtain ⟨ok,ov,st⟩:=st
  exact iter_itemiter st h
def iItems (tl:TE):TI:=fun σ H R=>tl σ H fun x H1=>∃ a o kvs,x = .ref a/\H1 a = some (.frz o (.dK kvs))/\R (Itm a o kvs) H1
theorem pi_items {es:List Expr} {x1:Nat} {tp:Pos} {l:Expr} {tl:TE} {apos cpos:Pos} (hl:PE X l tl) (hbase:attributeBase l "items" X.env (eval l X.env) = eval l X.env:=by rfl) (hline:(apos.endLine == cpos.line) = true:=by rfl) :
  PI X (.Tuple es x1 tp) (.Call (.Attribute l "items" apos) [] [] cpos) (iItems tl):=by
 intro pins s σ H R I h
 refine wpAny_Call_method0_late hbase hline (thn (hl pins s σ H _ I h) fun v s1 ⟨x,H1,I1,r1,q1⟩=>?_)
 obtain ⟨a,o,kvs,e,hq,q⟩:=q1
 subst e
 cases r1
 obtain ⟨vs,kv,da,hs⟩:=I1.dictAt hq
 obtain ⟨g,_⟩:=I1.hok a _ hq
 have ex:o.ExactDict:=by
  obtain ⟨o',es',g',x',_⟩:=id da
  rw [g] at g'
  cases g'
  exact x'
 refine ⟨"dict","dict.items",F.plainAttrs_dict,F.slot_dict_items,F.type_dict_items,da.dictOf.typeIs,(fun b e=>by cases e;exact ⟨o,g,ex.2.1⟩),Calls.callWith_builtin rfl (PySem.evalArgs_none ?_)⟩
 refine call_meetsIn F.slot_dict_items da.dictOf.typeIs F.entry_dict_items (F.args_dict_items_1 _) (meets_dict_items (mixKind X.prog X.w) a hs) ⟨⟨vs,da.dictOf⟩,?_⟩
 have I2:Inv X pins σ H1 { s1 with heap:=s1.heap.push { cls:=.type "dict_items",data:=.fields #[.ref a] } }:=I1.kept (t':=s1.toks) fun b o e=>Heap.get?_push_of_some _ e
 refine wpAny_pyIter_items (s:={ s1 with heap:=s1.heap.push { cls:=.type "dict_items",data:=.fields #[.ref a] } }) (knd:=mixKind X.prog X.w) (kvs:=vs) (ep:=epOf o) ⟨_,Heap.get?_push_size _ rfl,rfl,rfl⟩ (da.push _) ?_
 refine ⟨_,[_],_,_,H1,rfl,I2.kept (t':=s1.toks) fun b o e=>Heap.get?_push_of_some _ e,turn_items a _ o kvs,⟨.none,.none,by rw [kv.len];exact Heap.get?_push_size _ rfl⟩,fun b hb=>?_,q⟩
 have e:=List.mem_singleton.mp hb
 subst e
 exact I2.fpOk (Nat.le_refl _) (I2.hok.fresh (Nat.le_refl _))
theorem for_items {a:Addr} {o:Obj} {kvs:List (Key × V)} {g:TG} {tb:TS} {D:Ends} {σ:St} {H:Hp} (Pv:Nat->St->Hp->Prop) (h0:Pv 0 σ H) (hl:∀ i σ H,i ≤ kvs.length->Pv i σ H->H a = some (.frz o (.dK kvs)))
  (hs:∀ i k v p σ H,kvs[i]? = some (k,v)->Pv i σ H->H p = none->g (.ref p) σ (upd H p (.tup [kV k,v])) fun σ2 H2=>tb { D with nx:=Pv (i + 1),ct:=Pv (i + 1),bk:=D.nx } σ2 H2) (hd:∀ σ H,Pv kvs.length σ H->D.nx σ H) :
  ∃ W:Nat->Nat->St->Hp->Prop,(∃ m,W 0 m σ H)/\∀ i m σ H,W i m σ H →
   ((Itm a o kvs).stop i H/\D.nx σ H)\/((Itm a o kvs).go i H/\∃ N:St->Hp->Prop,(∀ σ' H',N σ' H'->∃ m',m' < m/\W (i + 1) m' σ' H')/\∀ x H',(Itm a o kvs).yld i H x H'->g x σ H' fun σ2 H2=>tb { D with nx:=N,ct:=N,bk:=D.nx } σ2 H2):=by
 refine ⟨fun i m σ H=>m = kvs.length - i/\i ≤ kvs.length/\Pv i σ H,⟨kvs.length,by simp,Nat.zero_le _,h0⟩,?_⟩
 rintro i m σ H ⟨rfl,hi,p⟩
 have q:=hl i σ H hi p
 by_cases hlt:i < kvs.length
 ·refine .inr ⟨⟨hlt,q⟩,Pv (i + 1),fun σ' H' p'=>⟨kvs.length - (i + 1),by omega,rfl,hlt,p'⟩,fun x H' y=>?_⟩
  obtain ⟨k,v,pa,hk,ex,hn,e⟩:=y
  subst e ex
  exact hs i k v pa σ H hk p hn
 ·have e:i = kvs.length:=by omega
  subst e
  exact .inl ⟨⟨Nat.le_refl _,q⟩,hd σ H p⟩
theorem mt_dclear:MtR X "dict.clear" (fun x xs H Q=>∃ a kvs,x = .ref a/\xs = []/\H a = some (.dK kvs)/\Q .non (upd H a (.dK []))):=by
 intro pins s σ H x xs v us Q I rx r h
 obtain ⟨a,kvs,rfl,rfl,e,q⟩:=h
 cases rx
 cases r
 exact d_clear I e fun s' I'=>⟨.non,_,I',rfl,q⟩
theorem call_dict_of:CallR X (.type "dict") (fun xs H Q=>∃ a kvs,xs = [.ref a]/\Rd H a (.dK kvs)/\∀ p,H p = none->Q (.ref p) (upd H p (.dK kvs))):=by
 intro pins s σ H xs us Q I r h
 obtain ⟨a,kvs,rfl,e,q⟩:=h
 obtain ⟨u,rfl,rx⟩:=vals1 r
 cases rx
 exact d_copyOf I e fun p s' hp I'=>⟨.ref p,_,I',rfl,q p hp⟩
end
end L2
namespace L2
open PySem PySem.Spec PyProof.Rows
theorem ObjOk.there {P:Program} {w:World} {H:Hp} {h:Heap} {a:Addr} {o:HO} (x:ObjOk P w H h a o):∃ ob,h.get? a = some ob:=by
 cases o with
 | lst xs=>obtain ⟨_,_,_,_,e⟩:=x;exact ⟨_,e⟩
 | tup xs=>obtain ⟨_,_,_,o,e,_⟩:=x;exact ⟨_,e⟩
 | dK kvs=>obtain ⟨_,_,_,_,o,_,_,e,_⟩:=x;exact ⟨_,e⟩
 | dT kvs=>obtain ⟨_,_,_,_,o,_,_,e,_⟩:=x;exact ⟨_,e⟩
 | set S n=>obtain ⟨o,_,_,_,e,_⟩:=x;exact ⟨_,e⟩
 | ins C dx fs=>obtain ⟨_,_,_,e,_⟩:=x;exact ⟨_,e⟩
 | own y=>exact x
 | xd fs=>obtain ⟨_,⟨_,_,_,e,_⟩,_⟩:=x;exact ⟨_,e⟩
 | met f y=>exact ⟨_,x⟩
 | rng lo hi=>obtain ⟨_,_,_,e⟩:=x;exact ⟨_,e⟩
 | frz ob u=>exact ⟨_,x.1⟩
 | tbl ps=>exact ⟨_,x⟩
 | ext φ=>exact x.2.1
section
variable {X:Cx} {pins:List (Addr × Obj)} {σ:St} {H:Hp} {s:Shared} {h':Heap} {a:Addr} {o:HO}
theorem Inv.none_at (I:Inv X pins σ H s) (hn:s.heap.get? a = none):H a = none:=by
 cases e:H a with
 | none=>rfl
 | some u=>
  obtain ⟨ob,q⟩:=(I.hok a u e).there
  rw [hn] at q
  cases q
theorem Inv.laidAt {t':Nat} (I:Inv X pins σ H s) (k:∀ b u,s.heap.get? b = some u->h'.get? b = some u) (hn:s.heap.get? a = none) (new:ObjOk X.prog X.w (upd H a o) h' a o):Inv X pins σ (upd H a o) { s with heap:=h',toks:=t' }:=by
 have hH:=I.none_at hn
 have ne:∀ b u,s.heap.get? b = some u->b ≠ a:=fun b u q z=>by subst z;rw [hn] at q;cases q
 refine I.un ⟨fun b u q _ _ _=>k b u q,fun b u q _ _ _=>⟨u.slots,k b u q⟩,fun b u q n _=>by rw [upd_ne (ne b u q)];exact n,fun b u q _=>⟨u,k b u q⟩,
  fun b xs q=>by rw [upd_ne (ne_of_none q hH)];exact q,fun b u xs q=>by rw [upd_ne (ne_of_none q hH)];exact q,fun b ps q=>⟨#[],by rw [upd_ne (ne_of_none q hH),q];simp⟩⟩ fun b u q=>?_
 by_cases hb:b = a
 ·subst hb
  rw [upd_same] at q
  cases q
  exact new
 ·rw [upd_ne hb] at q
  exact (I.hok b u q).stay (fun c v _ r=>k c v r) (fun c r=>by rw [upd_ne (ne_of_none r hH)];exact r) fun c xs r=>by rw [upd_ne (ne_of_none r hH)];exact r
end
theorem strs_at:∀ (us:List Value) (zs:List Str),us.length = zs.length->(∀ (j:Nat) (v:Value) (z:Str),us[j]? = some v->zs[j]? = some z->∃ t,v = Value.str z t)->StrsAre us zs
 | [],[],_,_=>.nil
 | [],_ :: _,h,_=>by simp at h
 | _ :: _,[],h,_=>by simp at h
 | u :: us,z :: zs,h,f=>by
  obtain ⟨t,rfl⟩:=f 0 u z rfl rfl
  exact .cons _ _ (strs_at us zs (by simpa using h) fun j v y h1 h2=>f (j + 1) v y (by simpa using h1) (by simpa using h2))
theorem kv_key:∀ {kvs:List (Key × V)} {vs:List (Key × Value)} {i:Nat} {q:Key × Value},KV kvs vs->vs[i]? = some q->(kvs.map (·.1))[i]? = some q.1
 | _,_,_,_,.nil,e=>by simp at e
 | _,_,0,_,.cons r _,e=>by
  simp at e
  subst e
  simp [r.1]
 | _,_,i + 1,q,.cons _ t,e=>by
  have h:=kv_key (i:=i) (q:=q) t (by simpa using e)
  simpa using h
section
variable {X:Cx}
theorem call_sortedD (hc:X.calm = true):CallR X (.builtin "sorted") (fun xs H Q=>∃ p kvs zs,xs = [.ref p]/\Rd H p (.dK kvs)/\kvs.map (·.1) = zs.map Sum.inr/\zs.length < 64/\∀ l ys,H l = none->ys.Perm zs->sortedS ys = true->Q (.ref l) (upd H l (.lst (ys.map V.str)))):=by
 intro pins s σ H xs us Q I r h
 obtain ⟨p,kvs,zs,rfl,hq,hz,h64,q⟩:=h
 obtain ⟨u,rfl,rx⟩:=vals1 r
 cases rx
 obtain ⟨hlen,lo,vs,kv,dd⟩:=hq.ok I.hok
 obtain ⟨ep,da⟩:=dd.dictAt
 have hl:=kv.len
 have hl2:kvs.length = zs.length:=by simpa using congrArg List.length hz
 refine Calls.call_function_entry kind_sorted plain_sorted entry_sorted (args_sorted1 _) ?_
 unfold Builtin.«sorted»
 refine wpAny_bind (m:=checkCount "sorted" 1 1 _) (wpAny_pure ?_)
 refine wpAny_bind (PySem.W.kdu_collect (PySem.W.kdl_dict (knd:=mixKind X.prog X.w) (kvs:=vs) (ep:=ep) lo) (I.ok.hd hc) da (by rw [← hl];exact hlen) fun h' tk acc hk hacc=>?_)
 have hS:StrsAre acc.toList zs:=by
  refine strs_at _ _ (by rw [Array.length_toList,hacc.1,← hl,hl2]) fun j v z h1 h2=>?_
  obtain ⟨k,x,hx,hkv⟩:=hacc.2 j v (by rw [← Array.getElem?_toList];exact h1)
  have hk':=kv_key kv hx
  rw [hz,List.getElem?_map,h2] at hk'
  have e:Sum.inr z = k:=by simpa using hk'
  subst e
  exact is_kV hkv
 have hal:acc.toList.length = zs.length:=by
  rw [Array.length_toList,hacc.1,← hl,hl2]
 refine wpAny_bind (wpAny_newList ?_ (by rw [hal,← hl2];exact hlen))
 have hoL:(h'.push (seqObj "list" acc.toList.toArray 0)).get? h'.objs.size = some (seqObj "list" acc.toList.toArray 0):=Heap.get?_push_size _ rfl
 refine wpAny_bind (wpAny_holding (wpAny_call_entry slot_list_sort ⟨_,hoL,rfl⟩ entry_list_sort (list_sort_treeK (s:={ s with heap:=h'.push (seqObj "list" acc.toList.toArray 0),toks:=tk }) strKind_oneLt hoL hS.keysOf (fun v₁ v₂ rest e=>keyKind_strs (by rw [← e];exact hS)) (by rw [hal];exact h64) fun st' hp hs=>⟨_,rfl,?_⟩) (args_list_sort _)))
 obtain ⟨ss',h1,h2,h3⟩:=sorted_out_str hS hp hs
 obtain ⟨e,he⟩:=sortedHeap_at (out:=(arrOf st').map (·.2)) hoL
 have hn:s.heap.get? h'.objs.size = none:=by
  cases q:s.heap.get? h'.objs.size with
  | none=>rfl
  | some ob=>exact absurd (Heap.lt_size (hk _ _ q)) (Nat.lt_irrefl _)
 refine wpAny_pure ⟨_,rfl,.ref h'.objs.size,_,I.laidAt (t':=tk) (o:=.lst (ss'.map V.str)) (fun b ob q=>?_) hn ?_,rfl,q _ ss' (I.none_at hn) h2 h3⟩
 ·have q':=hk b ob q
  have hlt:=Heap.lt_size q'
  rw [sortedHeap_old (Nat.ne_of_lt hlt) (by rw [size_push'];exact Nat.lt_succ_of_lt hlt)]
  exact Heap.get?_push_of_some _ q'
 ·exact ⟨by rw [List.length_map,h2.length_eq,← hl2];exact hlen,_,e,vals_strs h1,he⟩
end
end L2
namespace L2
open PySem PySem.Spec PyProof.Rows
def Ite (K:PySem.W.Frag) (a:Addr):It:=
 ⟨fun i H=>∃ xs x,SqL K H a xs/\xs[i]? = some x,fun i H x H'=>∃ y p,(∀ xs,SqL K H a xs->xs[i]? = some y)/\x = .ref p/\H p = none/\H' = upd H p (.tup [.int i,y]),fun i H=>∃ xs,SqL K H a xs/\xs.length ≤ i⟩
theorem turn_enum {P:Program} {w:World} {K:PySem.W.Frag} {es:List Expr} {x1:Nat} {tp:Pos} (a e it:Addr) (ne:e ≠ it):Turn P w K (.Tuple es x1 tp) (Ite K a) [e,it] e (fun i h=>(∃ old,IsEnum h e it i old)/\h.IsListIter it a i) where
 mem:=by simp
 obj:=fun i h st b hb=>by
  obtain ⟨⟨old,s1⟩,s2⟩:=st
  rcases List.mem_cons.mp hb with z | z
  ·subst z
   exact ⟨_,s1,fun v z=>by cases z⟩
  ·have z:=List.mem_singleton.mp z
   subst z
   obtain ⟨o,e,c,d⟩:=s2
   exact ⟨o,e,fun v z=>by rw [d] at z;cases z⟩
 keep:=fun i h h' st k=>by
  obtain ⟨⟨old,s1⟩,s2⟩:=st
  exact ⟨⟨old,k e (by simp) _ s1⟩,s2.at fun o e=>k it (by simp) o e⟩
 item:=by
  intro X hP hw hK hc i pins s σ H E I hf st hg
  subst hP hw hK
  obtain ⟨⟨old,s1⟩,s2⟩:=st
  obtain ⟨xs,x,hq,hx⟩:=hg
  obtain ⟨its,rv,p,hz⟩:=I.list hq
  obtain ⟨u,hu,ru⟩:=rv.get hx
  obtain ⟨f0,f1,f2,f3,f4,f5⟩:=hf e (by simp)
  obtain ⟨g0,g1,g2,g3,g4,g5⟩:=hf it (by simp)
  have le:e < s.heap.objs.size:=Heap.lt_size s1
  have li:it < s.heap.objs.size:=by obtain ⟨o,e,_⟩:=s2;exact Heap.lt_size e
  refine wpAny_pyNext_enum_item s1 s2 p.isList (x:=u) (by simpa using hu) ne fun h' st' si' ht hsz kp=>?_
  refine ⟨_,rfl,?_⟩
  refine wpAny_letOwnedTupleGo_enum (s:={ s with heap:=h',toks:=s.toks + 1 }) st' fun h'' st'' sb=>?_
  have si'':h''.IsListIter it a (i + 1):=si'.at fun o q=>(sb.2 it (Ne.symm ne)).trans q
  obtain ⟨oi,ei,ci,di⟩:=id si''
  obtain ⟨oi0,ei0,_⟩:=id s2
  have I0:Inv X pins σ H { s with heap:=s.heap.update e fun _=>{ cls:=.type "enumerate",dict:=none,data:=.fields #[.none,.bool false,.ref it,rawInt ((i:Int) + 1),.none,u],slots:=#[] } }:=
   I.turned (t':=s.toks) (fun b ob hb q=>by rw [Heap.get?_update_ne _ _ _ _ hb];exact q) f0 f1 f3 f4 f5
  have I1:Inv X pins σ H { s with heap:=(s.heap.update e fun _=>{ cls:=.type "enumerate",dict:=none,data:=.fields #[.none,.bool false,.ref it,rawInt ((i:Int) + 1),.none,u],slots:=#[] }).update it fun _=>oi }:=
   I0.turned (t':=s.toks) (fun b ob hb q=>by rw [Heap.get?_update_ne _ _ _ _ hb];exact q) g0 g1 g3 g4 g5
  have hp:H s.heap.objs.size = none:=I.hok.fresh (Nat.le_refl _)
  have foi:oi.isFreed = false:=(Heap.get?_some_iff.mp ei).2
  refine ⟨.ref s.heap.objs.size,upd H s.heap.objs.size (.tup [.int i,x]),I1.laid (t':=s.toks + 1) (h':=h'') (fun b ob q=>?_) (by rw [Heap.size_update,Heap.size_update];exact Nat.le_refl _) ?_,rfl,⟨x,_,fun ys hy=>by rw [I.list_inj hy hq];exact hx,rfl,hp,rfl⟩,⟨⟨u,?_⟩,si''⟩,fun b hb=>?_⟩
  ·by_cases hb:b = it
   ·subst hb
    rw [Heap.get?_update_self _ (show (s.heap.update e _).get? b = some oi0 by rw [Heap.get?_update_ne _ _ _ _ (Ne.symm ne)];exact ei0) foi] at q
    rw [← q]
    exact ei
   ·rw [Heap.get?_update_ne _ _ _ _ hb] at q
    by_cases hb2:b = e
    ·subst hb2
     rw [Heap.get?_update_self _ s1 rfl] at q
     rw [← q]
     exact st''
    ·rw [Heap.get?_update_ne _ _ _ _ hb2] at q
     exact (sb.2 b hb2).trans (kp b ob hb2 hb q)
  ·exact ⟨(show 2 ≤ sizeLine by decide),[.int i s.toks,u],.cons ⟨_,rfl⟩ (.cons ru .nil),⟨_,(sb.2 _ (Nat.ne_of_gt le)).trans ht,rfl,_,rfl⟩⟩
  ·exact st''
  ·rcases List.mem_cons.mp hb with z | z
   ·subst z
    rw [upd_ne (Nat.ne_of_lt le)]
    exact f0
   ·have z:=List.mem_singleton.mp z
    subst z
    rw [upd_ne (Nat.ne_of_lt li)]
    exact g0
 done:=by
  intro X hP hw hK hc i pins s σ H E I hf st hg
  subst hP hw hK
  obtain ⟨⟨old,s1⟩,s2⟩:=st
  obtain ⟨xs,hq,hx⟩:=hg
  obtain ⟨its,rv,p,hz⟩:=I.list hq
  obtain ⟨g0,g1,g2,g3,g4,g5⟩:=hf it (by simp)
  have hl:=rv.length
  exact wpAny_pyNext_enum_end (I.ok.hd hc) s1 s2 p.isList (by simp;omega) fun h' eb=>⟨rfl,I.turned (t':=s.toks) (fun b o hb e=>eb b o hb e) g0 g1 g3 g4 g5⟩
 self:=fun A i s Q E st h=>by
  obtain ⟨⟨old,s1⟩,_⟩:=st
  exact wpAny_pyIter_enum s1 h
section
variable {X:Cx}
theorem boot_enum:bootBuiltins "enumerate" = some (.type "enumerate"):=by decide +kernel
def iEnum (K:PySem.W.Frag) (ta:TA):TI:=fun σ H R=>ta σ H fun vs H1=>∃ a,vs = [.ref a]/\(∃ xs,SqL K H1 a xs)/\R (Ite K a) H1
theorem pi_enum {es:List Expr} {x1:Nat} {tp:Pos} {l:Expr} {ta:TA} {p pos:Pos} (hg:Gl X "enumerate") (hm:X.mg "enumerate" = none) (ha:PA X [l] ta) (hs:starEach [l] X.env = [(false,eval l X.env)]:=by rfl) :
  PI X (.Tuple es x1 tp) (.Call (.Name "enumerate" p) [l] [] pos) (iEnum X.K ta):=by
 intro pins s σ H R I h
 refine Call_ (ld_blt I hg hm boot_enum (PyProof.Rows.callWith_type1 (thn (ha pos pins s σ H _ I h) fun us s1 ⟨vs,H1,I1,r1,q1⟩=>?_) hs rfl))
 obtain ⟨a,e,⟨xs,hq⟩,q⟩:=q1
 subst e
 obtain ⟨u,rfl,rx⟩:=vals1 r1
 cases rx
 obtain ⟨its,rv,pl,hz⟩:=I1.list hq
 refine call_enumerate_list pl.isList fun h' he hi hsz hk=>?_
 have I2:Inv X pins σ H1 { s1 with heap:=h' }:=I1.kept (t':=s1.toks) hk
 refine wpAny_pyIter_enum (s:={ s1 with heap:=h' }) he ?_
 refine ⟨s1.heap.objs.size + 1,[s1.heap.objs.size + 1,s1.heap.objs.size],_,_,H1,rfl,I2,turn_enum a _ _ (Nat.succ_ne_self _),⟨⟨_,he⟩,hi⟩,fun b hb=>?_,q⟩
 have nb:s1.heap.objs.size ≤ b:=by
  rcases List.mem_cons.mp hb with z | z
  ·rw [z];exact Nat.le_succ _
  ·rw [List.mem_singleton.mp z];exact Nat.le_refl _
 exact I1.fpOk nb (I1.hok.fresh nb)
theorem for_enum {K:PySem.W.Frag} {a:Addr} {xs:List V} {g:TG} {tb:TS} {D:Ends} {σ:St} {H:Hp} (Pv:Nat->St->Hp->Prop) (h0:Pv 0 σ H) (hl:∀ i σ H,i ≤ xs.length->Pv i σ H->SqL K H a xs)
  (hs:∀ i x p σ H,xs[i]? = some x->Pv i σ H->H p = none->g (.ref p) σ (upd H p (.tup [.int i,x])) fun σ2 H2=>tb { D with nx:=Pv (i + 1),ct:=Pv (i + 1),bk:=D.nx } σ2 H2) (hd:∀ σ H,Pv xs.length σ H->D.nx σ H) :
  ∃ W:Nat->Nat->St->Hp->Prop,(∃ m,W 0 m σ H)/\∀ i m σ H,W i m σ H →
   ((Ite K a).stop i H/\D.nx σ H)\/((Ite K a).go i H/\∃ N:St->Hp->Prop,(∀ σ' H',N σ' H'->∃ m',m' < m/\W (i + 1) m' σ' H')/\∀ x H',(Ite K a).yld i H x H'->g x σ H' fun σ2 H2=>tb { D with nx:=N,ct:=N,bk:=D.nx } σ2 H2):=by
 refine ⟨fun i m σ H=>m = xs.length - i/\i ≤ xs.length/\Pv i σ H,⟨xs.length,by simp,Nat.zero_le _,h0⟩,?_⟩
 rintro i m σ H ⟨rfl,hi,p⟩
 have q:=hl i σ H hi p
 by_cases hlt:i < xs.length
 ·refine .inr ⟨⟨xs,xs[i],q,by simp [hlt]⟩,Pv (i + 1),fun σ' H' p'=>⟨xs.length - (i + 1),by omega,rfl,hlt,p'⟩,fun x H' y=>?_⟩
  obtain ⟨z,pa,hk,ex,hn,e⟩:=y
  subst e ex
  exact hs i z pa σ H (hk xs q) p hn
 ·have e:i = xs.length:=by omega
  subst e
  exact .inl ⟨⟨xs,q,Nat.le_refl _⟩,hd σ H p⟩
end
end L2
namespace L2
open PySem PySem.Spec PyProof.Rows
def isTx (z:Str):Value->Bool
 | .str a _=>a == z
 | _=>false
theorem count_tx {z:Str}:∀ {us:List Value} {zs:List Str},StrsAre us zs->us.countP (isTx z) = zs.count z
 | _,_,.nil=>rfl
 | _,_,.cons y t r=>by
  rw [List.countP_cons,count_tx r,List.count_cons]
  rfl
section
variable {X:Cx}
theorem mt_count:MtR X "list.count" (fun x xs H Q=>∃ (p:Addr) (zs:List Str) (z:Str),x = .ref p/\xs = [.str z]/\SqL X.K H p (zs.map V.str)/\Q (.int (zs.count z:Nat)) H):=by
 intro pins s σ H x xs v us Q I rx r h
 obtain ⟨p,zs,z,rfl,rfl,hq,q⟩:=h
 cases rx
 obtain ⟨u,rfl,t,rfl⟩:=vals1 r
 obtain ⟨its,r',pl,hz⟩:=I.list hq
 have hS:=strs_of r'
 obtain ⟨⟨c,dd,dt,sl⟩,e,hc,n,hd⟩:=pl.isList
 simp only at hc hd
 subst hc hd
 refine call_meets F.slot_list_count ⟨_,e,rfl⟩ F.entry_list_count (F.args_list_count_2 _ _) (SeqAt.list_countAt p its.toArray n dd sl (.str z t) (isTx z)) ⟨e,fun y hy=>?_,?_⟩
 ·obtain ⟨a,ta,rfl⟩:=hS.all y (by simpa using hy)
  exact SeqAt.EqAt.str_str a ta z t
 ·refine ⟨.int (zs.count z:Nat),H,I.tok _,⟨s.toks,?_⟩,q⟩
  show Value.int (its.toArray.toList.countP (isTx z):Nat) s.toks = Value.int (zs.count z:Nat) s.toks
  rw [List.toList_toArray,count_tx hS]
theorem strs_get:∀ {us:List Value} {zs:List Str} {j:Nat},StrsAre us zs->(h:j < us.length)->∃ a t,us[j] = .str a t/\zs[j]? = some a
 | _,_,_,.nil,h=>by simp at h
 | _,_,0,.cons y t _,_=>⟨y,t,rfl,rfl⟩
 | _,_,j + 1,.cons y t r,h=>by
  obtain ⟨a,t',h1,h2⟩:=strs_get (j:=j) r (by simpa using h)
  exact ⟨a,t',by simpa using h1,by simpa using h2⟩
theorem strs_eq:∀ {us ws:List Value} {zs ys:List Str},StrsAre us zs->StrsAre ws ys->us.length = ws.length->((List.range us.length).all fun j=>(zs[j]? == ys[j]?)) = decide (zs = ys)
 | us,ws,zs,ys,h1,h2,hl=>by
  have l1:us.length = zs.length:=h1.length
  have l2:ws.length = ys.length:=h2.length
  rw [Bool.eq_iff_iff,List.all_eq_true,decide_eq_true_iff]
  constructor
  ·intro h
   apply List.ext_getElem?
   intro j
   by_cases hj:j < us.length
   ·exact eq_of_beq (h j (List.mem_range.mpr hj))
   ·rw [List.getElem?_eq_none (by omega),List.getElem?_eq_none (by omega)]
  ·intro e j _
   rw [e]
   exact beq_self_eq_true _
theorem op_eqTs (hu:X.A.units < cLine):OpR X (compareOp .Eq) (fun x y H Q=>∃ (p b:Addr) (zs ys:List Str),x = .ref p/\y = .ref b/\SqL X.K H p (zs.map V.str)/\SqL X.K H b (ys.map V.str)/\Q (.bl (decide (zs = ys))) H):=by
 intro pins s σ H x y v u Q I rx ry h
 obtain ⟨p,b,zs,ys,rfl,rfl,hp,hb,q⟩:=h
 cases rx
 cases ry
 obtain ⟨its,r1,pl,_⟩:=I.list hp
 obtain ⟨jts,r2,ql,_⟩:=I.list hb
 have h1:=strs_of r1
 have h2:=strs_of r2
 by_cases hl:its.length = jts.length
 ·refine SeqAt.eq_listAt (e:=fun j=>(zs[j]? == ys[j]?)) pl.isList ql.isList (by simpa using hl) hu (fun j g1 g2=>?_) ?_
  ·have g1':j < its.length:=by simpa using g1
   have g2':j < jts.length:=by simpa using g2
   obtain ⟨a,ta,e1,k1⟩:=strs_get h1 g1'
   obtain ⟨c,tc,e2,k2⟩:=strs_get h2 g2'
   have w1:its.toArray[j] = .str a ta:=by simpa using e1
   have w2:jts.toArray[j] = .str c tc:=by simpa using e2
   rw [w1,w2,k1,k2]
   have e:((some a == some c):Bool) = (a == c):=by rw [Bool.eq_iff_iff];simp
   rw [e]
   exact SeqAt.EqAt.str_str a ta c tc
  ·rw [List.size_toArray,strs_eq h1 h2 hl]
   exact ⟨.bl _,H,I,rfl,q⟩
 ·refine SeqAt.eq_list_lengthsAt pl.isList ql.isList (by simpa using hl) hu ⟨.bl (decide (zs = ys)),H,I,?_,q⟩
  have:zs ≠ ys:=fun e=>hl (by rw [show its.length = zs.length from h1.length,show jts.length = ys.length from h2.length,e])
  rw [decide_eq_false this]
  rfl
end
end L2
namespace Srt
open PySem PySem.W PyProof.Rows
structure Ord (N:Nat) (r:Nat->Nat->Bool):Prop where
 asym:∀ a b,a < N->b < N->r a b = true->r b a = false
 trans:∀ a b c,a < N->b < N->c < N->r b a = false->r c b = false->r c a = false
 dist:∀ a b,a < N->b < N->a ≠ b->r a b = true\/r b a = true
def Cmp (N:Nat) (r:Nat->Nat->Bool) (cmp:Nat->Nat->(Bool->Shared->Prop)->Shared->Prop) (P:Shared->Prop):Prop:=
 ∀ (i j:Nat) (C:Bool->Shared->Prop) (s:Shared),i < N->j < N->i ≠ j->P s->(∀ s',P s'->C (r i j) s')->cmp i j C s
def PN (N:Nat) (p:Array Nat):Prop:=p.toList.Perm (List.range N)
def Up (r:Nat->Nat->Bool) (p:Array Nat) (k:Nat):Prop:=∀ i j,i ≤ j->j < k->r (p.getD j 0) (p.getD i 0) = false
def Dn (r:Nat->Nat->Bool) (p:Array Nat) (k:Nat):Prop:=∀ i j,i ≤ j->j < k->r (p.getD i 0) (p.getD j 0) = false
section
variable {N:Nat} {r:Nat->Nat->Bool} {cmp:Nat->Nat->(Bool->Shared->Prop)->Shared->Prop} {P:Shared->Prop} {p:Array Nat}
theorem Ord.refl (O:Ord N r) {a:Nat} (h:a < N):r a a = false:=by
 cases e:r a a with
 | false=>rfl
 | true=>exact (O.asym a a h h e).symm.trans e |>.symm
theorem PN.size (h:PN N p):p.size = N:=by
 have:=h.length_eq
 simpa using this
theorem getD_get {i:Nat} (hi:i < p.size):p.getD i 0 = p[i]:=by simp [Array.getD,hi]
theorem PN.lt (h:PN N p) {i:Nat} (hi:i < N):p.getD i 0 < N:=by
 have hs:=h.size
 rw [getD_get (by omega)]
 have:p[i]'(by omega) ∈ p.toList:=by simp
 exact List.mem_range.mp (h.mem_iff.mp this)
theorem PN.inj (h:PN N p) {i j:Nat} (hi:i < N) (hj:j < N) (e:p.getD i 0 = p.getD j 0):i = j:=by
 have hs:=h.size
 rw [getD_get (by omega),getD_get (by omega)] at e
 have nd:p.toList.Nodup:=h.nodup_iff.mpr List.nodup_range
 rcases Nat.lt_trichotomy i j with h1 | h1 | h1
 ·exact absurd (show p.toList[i]'(by simp;omega) = p.toList[j]'(by simp;omega) by rw [Array.getElem_toList,Array.getElem_toList];exact e) (List.pairwise_iff_getElem.mp nd i j (by simp;omega) (by simp;omega) h1)
 ·exact h1
 ·exact absurd (show p.toList[j]'(by simp;omega) = p.toList[i]'(by simp;omega) by rw [Array.getElem_toList,Array.getElem_toList];exact e.symm) (List.pairwise_iff_getElem.mp nd j i (by simp;omega) (by simp;omega) h1)
theorem asc (O:Ord N r) (hc:Cmp N r cmp P) (hp:PN N p):∀ (f n:Nat) (s:Shared) (Q:Nat->Shared->Prop),1 ≤ n->n + f ≤ N->Up r p n->P s →
  (∀ m s',n ≤ m->m ≤ n + f->(m = n + f\/r (p.getD m 0) (p.getD (m - 1) 0) = true)->Up r p m->P s'->Q m s')->(kas_asc p f n).kasWp cmp Q s
 | 0,n,s,Q,h1,hn,hu,hP,hq=>hq n s (Nat.le_refl _) (Nat.le_refl _) (.inl rfl) hu hP
 | f + 1,n,s,Q,h1,hn,hu,hP,hq=>by
  show cmp _ _ _ s
  refine hc _ _ _ s (hp.lt (by omega)) (hp.lt (by omega)) (fun z=>by have:=hp.inj (by omega) (by omega) z;omega) hP fun s' hs'=>?_
  cases e:r (p.getD n 0) (p.getD (n - 1) 0) with
  | true=>
   dsimp only
   rw [if_pos rfl]
   exact hq n s' (Nat.le_refl _) (by omega) (.inr e) hu hs'
  | false=>
   dsimp only
   rw [if_neg (by decide)]
   refine asc O hc hp f (n + 1) s' Q (by omega) (by omega) (fun i j hij hj=>?_) hs' fun m s'' h2 h3 h4 h5 h6=>hq m s'' (by omega) (by omega) (h4.imp (fun z=>by omega) id) h5 h6
   by_cases hjn:j < n
   ·exact hu i j hij hjn
   ·have ej:j = n:=by omega
    subst ej
    by_cases hi:i = j
    ·subst hi
     exact O.refl (hp.lt (by omega))
    ·exact O.trans _ _ _ (hp.lt (by omega)) (hp.lt (by omega)) (hp.lt (by omega)) (hu i (j - 1) (by omega) (by omega)) e
theorem desc (O:Ord N r) (hc:Cmp N r cmp P) (hp:PN N p):∀ (f n:Nat) (s:Shared) (Q:Array Nat × Nat × Nat->Shared->Prop),1 ≤ n->n + f ≤ N->Dn r p n->P s →
  (∀ m s',n ≤ m->m ≤ n + f->Dn r p m->P s'->Q (p,m,0) s')->(kas_desc f p n 0).kasWp cmp Q s
 | 0,n,s,Q,h1,hn,hu,hP,hq=>hq n s (Nat.le_refl _) (Nat.le_refl _) hu hP
 | f + 1,n,s,Q,h1,hn,hu,hP,hq=>by
  show cmp _ _ _ s
  refine hc _ _ _ s (hp.lt (by omega)) (hp.lt (by omega)) (fun z=>by have:=hp.inj (by omega) (by omega) z;omega) hP fun s' hs'=>?_
  cases e:r (p.getD n 0) (p.getD (n - 1) 0) with
  | true=>
   dsimp only
   rw [if_pos rfl,if_neg (by omega)]
   refine desc O hc hp f (n + 1) s' Q (by omega) (by omega) (fun i j hij hj=>?_) hs' fun m s'' h2 h3 h5 h6=>hq m s'' (by omega) (by omega) h5 h6
   by_cases hjn:j < n
   ·exact hu i j hij hjn
   ·have ej:j = n:=by omega
    subst ej
    by_cases hi:i = j
    ·subst hi
     exact O.refl (hp.lt (by omega))
    ·exact O.trans _ _ _ (hp.lt (by omega)) (hp.lt (by omega)) (hp.lt (by omega)) (O.asym _ _ (hp.lt (by omega)) (hp.lt (by omega)) e) (hu i (j - 1) (by omega) (by omega))
  | false=>
   dsimp only
   rw [if_neg (by decide)]
   show cmp _ _ _ s'
   refine hc _ _ _ s' (hp.lt (by omega)) (hp.lt (by omega)) (fun z=>by have:=hp.inj (by omega) (by omega) z;omega) hs' fun s'' hs''=>?_
   have hd:r (p.getD (n - 1) 0) (p.getD n 0) = true:=by
    rcases O.dist _ _ (hp.lt (i:=n - 1) (by omega)) (hp.lt (i:=n) (by omega)) (fun z=>by have:=hp.inj (by omega) (by omega) z;omega) with h | h
    ·exact h
    ·rw [e] at h;cases h
   dsimp only
   rw [hd,if_pos rfl]
   exact hq n s'' (Nat.le_refl _) (by omega) hu hs''
theorem rev_at {i j:Nat} (hj:j ≤ p.size) (k:Nat):(kas_rev p i j).getD k 0 = if i ≤ k/\k < j then p.getD (i + j - 1 - k) 0 else p.getD k 0:=by
 have h:=getElem?_mirror_all (xs:=p) (i:=i) (j:=j) hj k
 unfold kas_rev
 rw [Array.getD_eq_getD_getElem?,h]
 split <;> rw [Array.getD_eq_getD_getElem?]
theorem rev_pn {i j:Nat} (h:PN N p):PN N (kas_rev p i j):=(Array.perm_iff_toList_perm.mp (mirror_perm p i j _)).trans h
theorem tail3 (O:Ord N r) (hc:Cmp N r cmp P) (hp:PN N p) {n:Nat} {s:Shared} {Q:Nat × Array Nat->Shared->Prop} (h1:1 ≤ n) (hn:n ≤ N) (hd:Dn r p n) (hP:P s)
  (hq:∀ m p' s',n ≤ m->m ≤ N->PN N p'->Up r p' m->P s'->Q (m,p') s'):(kas_tail3 n N p).kasWp cmp Q s:=by
 unfold kas_tail3
 rw [KasT.kasWp_bind]
 have hs:=hp.size
 refine asc O hc (rev_pn hp) (N - n) n s _ h1 (by omega) (fun i j hij hj=>?_) hP fun m s' h2 h3 _ h5 h6=>hq m _ s' h2 (by omega) (rev_pn hp) h5 h6
 rw [rev_at (by omega),rev_at (by omega),if_pos (by omega),if_pos (by omega)]
 exact hd _ _ (by omega) (by omega)
theorem count (O:Ord N r) (hc:Cmp N r cmp P) (hp:PN N p) {s:Shared} {Q:Nat × Array Nat->Shared->Prop} (h1:1 ≤ N) (hP:P s)
  (hq:∀ m p' s',1 ≤ m->m ≤ N->PN N p'->Up r p' m->P s'->Q (m,p') s'):(kas_count N p).kasWp cmp Q s:=by
 unfold kas_count
 rw [KasT.kasWp_bind]
 refine asc O hc hp (N - 1) 1 s _ (Nat.le_refl _) (by omega) (fun i j hij hj=>?_) hP fun m s' h2 h3 h4 h5 h6=>?_
 ·have ei:i = 0:=by omega
  have ej:j = 0:=by omega
  subst ei ej
  exact O.refl (hp.lt (by omega))
 ·by_cases hm:m = N
  ·rw [if_pos (by rw [hm];exact beq_self_eq_true N)]
   exact hq m p s' h2 (by omega) hp h5 h6
  ·rw [if_neg (by rw [beq_iff_eq];exact hm)]
   have hr:r (p.getD m 0) (p.getD (m - 1) 0) = true:=h4.resolve_left (by omega)
   by_cases hm1:m > 1
   ·rw [if_pos hm1]
    show cmp _ _ _ s'
    refine hc _ _ _ s' (hp.lt (by omega)) (hp.lt (by omega)) (fun z=>by have:=hp.inj (by omega) (by omega) z;omega) h6 fun s'' hs''=>?_
    have hd:r (p.getD 0 0) (p.getD (m - 1) 0) = true:=by
     rcases O.dist _ _ (hp.lt (i:=0) (by omega)) (hp.lt (i:=m - 1) (by omega)) (fun z=>by have:=hp.inj (by omega) (by omega) z;omega) with h | h
     ·exact h
     ·rw [h5 0 (m - 1) (by omega) (by omega)] at h;cases h
    dsimp only
    rw [hd,if_pos rfl]
    exact hq m p s'' h2 (by omega) hp h5 hs''
   ·rw [if_neg hm1]
    have em:m = 1:=by omega
    subst em
    unfold kas_descPart
    rw [KasT.kasWp_bind]
    refine desc O hc hp (N - (1 + 1)) (1 + 1) s' _ (by omega) (by omega) (fun i j hij hj=>?_) h6 fun m s'' g2 g3 g5 g6=>?_
    ·by_cases hi:i = j
     ·subst hi
      exact O.refl (hp.lt (by omega))
     ·have ei:i = 0:=by omega
      have ej:j = 1:=by omega
      subst ei ej
      exact O.asym _ _ (hp.lt (by omega)) (hp.lt (by omega)) hr
    ·rw [if_neg (by show ¬ (0 > 0);omega)]
     exact tail3 O hc hp (by show 1 ≤ m;omega) (by show m ≤ N;omega) g5 g6 fun m' p' s3 a1 a2 a3 a4 a5=>hq m' p' s3 (by have:m ≤ m':=a1;omega) a2 a3 a4 a5
theorem place (O:Ord N r) (hc:Cmp N r cmp P) (hp:PN N p) {k:Nat} (hk:k < N) (hu:Up r p k):∀ (f l q:Nat) (s:Shared) (Q:Nat->Shared->Prop),l ≤ q->q ≤ k->q - l ≤ f->(∀ i,i < l->r (p.getD k 0) (p.getD i 0) = false) →
  (∀ i,q ≤ i->i < k->r (p.getD k 0) (p.getD i 0) = true)->P s →
  (∀ m s',m ≤ k->(∀ i,i < m->r (p.getD k 0) (p.getD i 0) = false)->(∀ i,m ≤ i->i < k->r (p.getD k 0) (p.getD i 0) = true)->P s'->Q m s')->(kas_place p k f l q).kasWp cmp Q s
 | 0,l,q,s,Q,hl,hq,hf,lo,hi,hP,h=>h l s (by omega) lo (fun i h1 h2=>hi i (by omega) h2) hP
 | f + 1,l,q,s,Q,hl,hq,hf,lo,hi,hP,h=>by
  unfold kas_place
  by_cases e:l ≥ q
  ·rw [if_pos e]
   exact h l s (by omega) lo (fun i h1 h2=>hi i (by omega) h2) hP
  ·rw [if_neg e]
   show cmp _ _ _ s
   have hm:(l + q) / 2 < q:=by omega
   have hm2:l ≤ (l + q) / 2:=by omega
   refine hc _ _ _ s (hp.lt (by omega)) (hp.lt (by omega)) (fun z=>by have:=hp.inj (by omega) (by omega) z;omega) hP fun s' hs'=>?_
   cases c:r (p.getD k 0) (p.getD ((l + q) / 2) 0) with
   | true=>
    dsimp only
    rw [if_pos rfl]
    refine place O hc hp hk hu f l ((l + q) / 2) s' Q (by omega) (by omega) (by omega) lo (fun i h1 h2=>?_) hs' h
    cases d:r (p.getD k 0) (p.getD i 0) with
    | true=>rfl
    | false=>
     have:=O.trans _ _ _ (hp.lt (i:=(l + q) / 2) (by omega)) (hp.lt (i:=i) (by omega)) (hp.lt (i:=k) (by omega)) (hu _ i h1 h2) d
     rw [this] at c
     cases c
   | false=>
    dsimp only
    rw [if_neg (by decide)]
    refine place O hc hp hk hu f ((l + q) / 2 + 1) q s' Q (by omega) (by omega) (by omega) (fun i h1=>?_) hi hs' h
    exact O.trans _ _ _ (hp.lt (by omega)) (hp.lt (by omega)) (hp.lt (by omega)) (hu i ((l + q) / 2) (by omega) (by omega)) c
theorem bub_at {src d:Nat} (hs:src < p.size) (hd:d ≤ src) (k:Nat):(bubble p src d).getD k 0 = if k = src - d then p.getD src 0 else if src - d < k/\k ≤ src then p.getD (k - 1) 0 else p.getD k 0:=by
 have h:=getElem?_bubble hs d hd k
 rw [Array.getD_eq_getD_getElem?,h,Array.getD_eq_getD_getElem?,Array.getD_eq_getD_getElem?,Array.getD_eq_getD_getElem?]
 by_cases e1:k = src - d
 ·rw [if_pos e1,if_pos e1]
 ·rw [if_neg e1,if_neg e1]
  by_cases e2:src - d < k/\k ≤ src
  ·rw [if_pos e2,if_pos e2]
  ·rw [if_neg e2,if_neg e2]
theorem bin (O:Ord N r) (hc:Cmp N r cmp P):∀ (f:Nat) (p:Array Nat) (k:Nat) (s:Shared) (Q:Array Nat->Shared->Prop),PN N p->k + f = N->Up r p k->P s →
  (∀ p' s',PN N p'->Up r p' N->P s'->Q p' s')->(kas_bin f p k).kasWp cmp Q s
 | 0,p,k,s,Q,hp,hk,hu,hP,h=>h p s hp ((show k = N from hk) ▸ hu) hP
 | f + 1,p,k,s,Q,hp,hk,hu,hP,h=>by
  unfold kas_bin
  rw [KasT.kasWp_bind]
  have hs:=hp.size
  refine place O hc hp (k:=k) (by omega) hu k 0 k s _ (Nat.zero_le _) (Nat.le_refl _) (by omega) (fun i hi=>absurd hi (Nat.not_lt_zero _)) (fun i h1 h2=>absurd h2 (by omega)) hP fun m s' h1 lo hi hs'=>?_
  refine bin O hc f _ (k + 1) s' Q ((Array.perm_iff_toList_perm.mp (bubble_perm p k _)).trans hp) (by omega) (fun i j hij hj=>?_) hs' h
  rw [bub_at (by omega) (by omega),bub_at (by omega) (by omega)]
  have e:k - (k - m) = m:=by omega
  rw [e]
  have hi':∀ i,m ≤ i->i < k->r (p.getD i 0) (p.getD k 0) = false:=fun i a b=>O.asym _ _ (hp.lt (by omega)) (hp.lt (by omega)) (hi i a b)
  by_cases ej:j = m
  ·rw [if_pos ej]
   by_cases ei:i = m
   ·rw [if_pos ei]
    exact O.refl (hp.lt (by omega))
   ·rw [if_neg ei,if_neg (by omega)]
    exact lo i (by omega)
  ·rw [if_neg ej]
   by_cases ei:i = m
   ·rw [if_pos ei,if_pos (by omega)]
    exact hi' (j - 1) (by omega) (by omega)
   ·rw [if_neg ei]
    by_cases bj:m < j/\j ≤ k
    ·rw [if_pos bj]
     by_cases bi:m < i/\i ≤ k
     ·rw [if_pos bi]
      exact hu _ _ (by omega) (by omega)
     ·rw [if_neg bi]
      exact hu _ _ (by omega) (by omega)
    ·rw [if_neg bj,if_neg (by omega)]
     exact hu _ _ hij (by omega)
theorem sort (O:Ord N r) (hc:Cmp N r cmp P) {s:Shared} {Q:Array Nat->Shared->Prop} (h1:1 ≤ N) (hP:P s) (h:∀ p' s',PN N p'->Up r p' N->P s'->Q p' s'):(kas_sort N).kasWp cmp Q s:=by
 unfold kas_sort
 rw [KasT.kasWp_bind]
 refine count O hc (by unfold PN;simp) h1 hP fun m p' s' a1 a2 a3 a4 a5=>?_
 show (if m < N then kas_bin (N - max m 1) p' (max m 1) else .ret p').kasWp cmp Q s'
 have em:max m 1 = m:=by omega
 rw [em]
 by_cases hm:m < N
 ·rw [if_pos hm]
  exact bin O hc _ p' m s' Q a3 (by omega) a4 a5 h
 ·rw [if_neg hm]
  have:m = N:=by omega
  subst this
  exact h p' s' a3 a4 a5
end
end Srt
namespace Srt
open PySem PySem.W PyProof.Rows
def rz (zs:List Str) (i j:Nat):Bool:=decide ((zs.getD i "").cps.toList < (zs.getD j "").cps.toList)
theorem str_ext {a b:Str} (h:a.cps.toList = b.cps.toList):a = b:=by
 cases a
 cases b
 simp at h
 rw [h]
theorem ord_z {zs:List Str} (nd:zs.Nodup):Ord zs.length (rz zs) where
 asym:=fun a b _ _ h=>by
  unfold rz at h ⊢
  rw [decide_eq_true_iff] at h
  rw [decide_eq_false_iff_not]
  exact List.lt_asymm h
 trans:=fun a b c _ _ _ h1 h2=>by
  unfold rz at h1 h2 ⊢
  rw [decide_eq_false_iff_not] at h1 h2 ⊢
  rw [List.not_lt] at h1 h2 ⊢
  exact List.le_trans h1 h2
 dist:=fun a b ha hb n=>by
  unfold rz
  rw [decide_eq_true_iff,decide_eq_true_iff]
  apply Classical.byContradiction
  intro h
  rw [not_or,List.not_lt,List.not_lt] at h
  have e:=str_ext (List.le_antisymm h.2 h.1)
  simp only [List.getD_eq_getElem?_getD,List.getElem?_eq_getElem ha,List.getElem?_eq_getElem hb,Option.getD_some] at e
  rcases Nat.lt_trichotomy a b with q | q | q
  ·exact List.pairwise_iff_getElem.mp nd a b ha hb q e
  ·exact n q
  ·exact List.pairwise_iff_getElem.mp nd b a hb ha q e.symm
section
variable {prog:Program} {w:World} {A:Around} {E:Value->Shared->Prop} {s:Shared}
end
end Srt
namespace L2
open PySem PySem.Spec PyProof.Rows
theorem perm_getD {α:Type} (d:α) (l:List α) {q:List Nat} (h:q.Perm (List.range l.length)):(q.map fun i=>l.getD i d).Perm l:=by
 have h1:=h.map fun i=>l.getD i d
 have e:(List.range l.length).map (fun i=>l.getD i d) = l:=by
  apply List.ext_getElem
  ·simp
  ·intro i a b
   rw [List.getElem_map,List.getElem_range,List.getD_eq_getElem?_getD,List.getElem?_eq_getElem b,Option.getD_some]
 rw [e] at h1
 exact h1
theorem vals_map {xs:List V} {us:List Value} (r:Vals xs us):∀ (q:List Nat),(∀ i ∈ q,i < xs.length)->Vals (q.map fun i=>xs.getD i .non) (q.map fun i=>us.getD i Value.none)
 | [],_=>.nil
 | i :: q,h=>by
  refine .cons ?_ (vals_map r q fun j hj=>h j (List.mem_cons_of_mem _ hj))
  have hi:=h i List.mem_cons_self
  have hu:i < us.length:=by rw [← r.length];exact hi
  obtain ⟨u,e,ru⟩:=r.get (i:=i) (x:=xs[i]) (by simp [hi])
  simp only [List.getD_eq_getElem?_getD,List.getElem?_eq_getElem hi,e,Option.getD_some]
  exact ru
def Rise (zs:List Str):Prop:=zs.Pairwise fun a b=>¬ b.cps.toList < a.cps.toList
section
variable {X:Cx}
end
end L2
namespace L2
open PySem PySem.Spec PyProof.Rows PySem.Builtin PySem.Builtin.Dict
theorem dict_eq_tree (a b:Value):Builtin.«dict.__eq__» ⟨[a,b],[]⟩ = (do
  let (self,other) ← dictSlotArgs "__eq__" ⟨[a,b],[]⟩
  if !(← isInstance other (.type "dict")) then rule s!"dict.{("__eq__" : String)}.not-a-dict";return ← ret .notImplemented
  ret (.bool ((← Dict.samePairs s!"dict.{("__eq__" : String)}" (← addrOf self) (← addrOf other)) == true))):=rfl
theorem sub_dict_dict:isSubtype (.type "dict") (.type "dict") = pure true:=by rw [isSubtype_type];kernel_rfl
section
variable {prog:Program} {w:World} {A:Around} {E:Value->Shared->Prop} {s:Shared} {a b:Addr} {oa ob:Obj} {es fs:Array DictEntry} {ep fp:Nat}
theorem same_pairs {id:String} {Q:Bool->Shared->Prop} (ha:s.heap.get? a = some oa) (da:oa.data = .dict es ep) (hb:s.heap.get? b = some ob) (db:ob.data = .dict fs fp) (na:(a == sysModules) = false) (nb:(b == sysModules) = false) (hsz:es.size = fs.size)
  (hf:∀ (i:Nat) (e:DictEntry),es[i]? = some e->∃ (j:Nat) (f:DictEntry),fs[j]? = some f/\(∀ (R:Option Nat->Shared->Prop),R (some j) s->wpAny (model prog w) A (dictFind b e.key e.hash) R E s)/\∀ (R:Bool->Shared->Prop),R true s->wpAny (model prog w) A (eqBool e.val f.val) R E s)
  (hq:Q true s):wpAny (model prog w) A (Dict.samePairs id a b) Q E s:=by
 unfold Dict.samePairs Dict.showsAll
 simp only [na,nb,Bool.false_eq_true,if_false]
 refine wpAny_bind (wpAny_pure (wpAny_bind (wpAny_pure ?_)))
 refine wpAny_bind (wpAny_dictEntries ha da ?_)
 refine wpAny_bind (wpAny_dictEntries hb db ?_)
 rw [if_neg (by rw [hsz];simp)]
 refine wpAny_bind (wpAny_dictEpoch ha da ?_)
 rw [Std.Legacy.Range.forIn_eq_forIn_range']
 refine wpAny_bind (wpAny_forIn_list _ (fun rest b s'=>b = (none,())/\s' = s/\∀ x ∈ rest,x < es.size) _ (fun i rest b s' hI=>?_) (fun b s' hI=>?_) _ _ ⟨rfl,rfl,fun x hx=>?_⟩)
 ·obtain ⟨rfl,rfl,hl⟩:=hI
  have hi:=hl i List.mem_cons_self
  obtain ⟨j,f,hj,h1,h2⟩:=hf i es[i] (by simp [hi])
  refine wpAny_bind (wpAny_dictEntries ha da ?_)
  have ei:es[i]? = some es[i]:=by simp [hi]
  rw [ei]
  dsimp only
  refine wpAny_bind (wpAny_holding (wpAny_bind (h1 _ ?_)))
  dsimp only
  refine wpAny_bind (wpAny_dictEntries hb db ?_)
  rw [hj]
  dsimp only
  refine wpAny_holding (h2 _ ?_)
  rw [if_neg (by decide)]
  refine wpAny_bind (wpAny_dictEpoch ha da ?_)
  rw [if_neg (by simp)]
  exact wpAny_pure ⟨rfl,rfl,fun x hx=>hl x (List.mem_cons_of_mem _ hx)⟩
 ·obtain ⟨rfl,rfl,_⟩:=hI
  exact wpAny_pure hq
 ·have:=List.mem_range'.mp hx
  obtain ⟨k,hk,rfl⟩:=this
  simp [Std.Legacy.Range.size] at hk ⊢
  omega
end
end L2
namespace L2
open PySem PySem.Spec PyProof.Rows PySem.Builtin PySem.Builtin.Dict
theorem pairs_len {P:Program} {w:World}:∀ {es:List DictEntry} {kvs:List (Key × Value)},Pairs (mixKind P w) es kvs->es.length = kvs.length
 | _,_,.nil=>rfl
 | _,_,.cons _ _ r=>by simp [pairs_len r]
theorem find_str {prog:Program} {w:World} {A:Around} {E:Value->Shared->Prop} {s:Shared} {d:Addr} {o:Obj} {es:Array DictEntry} {ep j:Nat} {x:Str} {t:Tok} {hs:Int} {Q:Option Nat->Shared->Prop} (ho:s.heap.get? d = some o) (hd:o.data = .dict es ep)
  (hall:∀ e ∈ es,∃ z t,e.key = Value.str z t) (hj:es.findIdx? (fun e=>e.key.isStr x) = some j) (h:Q (some j) s):wpAny (model prog w) A (dictFind d (.str x t) hs) Q E s:=by
 obtain ⟨hjs,hjt,_⟩:=Array.findIdx?_eq_some_iff_getElem.mp hj
 have ha:(es.all fun e=>isExactStrKey e.key) = true:=by
  rw [Array.all_eq_true']
  intro e he
  obtain ⟨z,t,q⟩:=hall e he
  rw [q]
  rfl
 obtain ⟨z,tz,ez⟩:=hall es[j] (Array.getElem_mem hjs)
 have zx:z = x:=by
  rw [ez] at hjt
  exact eq_of_beq hjt
 subst zx
 unfold dictFind
 refine wpAny_holding ?_
 refine wpAny_bind (wpAny_dictEntries ho hd ?_)
 dsimp only
 rw [if_pos ha]
 unfold foundByValue
 rw [hj]
 dsimp only
 rw [Array.getElem?_eq_getElem hjs]
 dsimp only
 rw [ez]
 refine wpAny_bind (wpAny_dictEpoch ho hd (wpAny_bind (wpAny_eqBool_str (wpAny_bind (wpAny_dictEpoch ho hd ?_)))))
 rw [if_neg (by simp),if_pos (by simp)]
 exact wpAny_bind (wpAny_rule (wpAny_pure h))
section
variable {A:Around} {s:Shared} {P:Program} {w:World}
theorem eqAt_dicts {a b:Addr} {kvs kws:List (Key × Value)} (da:s.heap.DictOf (mixKind P w) a kvs) (db:s.heap.DictOf (mixKind P w) b kws) (na:(a == sysModules) = false) (nb:(b == sysModules) = false) (hl:kvs.length = kws.length) (tx:∀ (k:Key) (v:Value),(k,v) ∈ kws->∃ x,k = .inr x)
  (he:∀ (k:Key) (v:Value),(k,v) ∈ kvs->∃ v',(k,v') ∈ kws/\SeqAt.EqAt A.in1 s v v' true) (hu:A.units < cLine):SeqAt.EqAt A s (.ref a) (.ref b) true:=by
 by_cases hab:a = b
 ·rw [hab]
  exact SeqAt.EqAt.same _
 refine SeqAt.EqAt.of_refs hab fun prog w' E Q hq=>?_
 obtain ⟨oa,es,ep,ha,xa,dda,ka,pa,nda⟩:=da
 obtain ⟨ob,fs,fp,hb,xb,ddb,kb,pb,ndb⟩:=db
 have Ta:s.TypeIs (.ref a) "dict":=⟨oa,ha,xa.1⟩
 have Tb:s.TypeIs (.ref b) "dict":=⟨ob,hb,xb.1⟩
 have la:es.size = kvs.length:=by have:=pairs_len pa;simpa using this
 have lb:fs.size = kws.length:=by have:=pairs_len pb;simpa using this
 have kb':∀ e ∈ fs,∃ z t,e.key = Value.str z t:=fun e he'=>by
  obtain ⟨m,hm,rfl⟩:=Array.mem_iff_getElem.mp he'
  obtain ⟨⟨k,v⟩,hk⟩:∃ kv,kws[m]? = some kv:=⟨_,List.getElem?_eq_getElem (by omega)⟩
  obtain ⟨g1,_⟩:=pb.get? (i:=m) (e:=fs[m]) (by simp [hm]) hk
  obtain ⟨x,rfl⟩:=tx k v (List.mem_of_getElem? hk)
  rcases keyIs_shape (k:=.inr x) (v:=fs[m].key) g1 with ⟨i,t,q,_⟩ | ⟨z,t,q,q2⟩
  ·cases q
  ·exact ⟨z,t,q2⟩
 refine wpAny_richCompare_same_room Ta Tb F.slot_dict_eq (wpAny_call_entry F.slot_dict_eq Ta F.entry_dict_eq ?_ (F.args_dict_eq_2 _ _)) hu
 rw [dict_eq_tree]
 refine wpAny_bind ?_
 show wpAny _ _ (pure (Value.ref a,Value.ref b)) _ _ _
 refine wpAny_pure ?_
 dsimp only
 refine wpAny_bind (wpAny_isInstance (T:="dict") (b:=true) Tb sub_dict_dict ?_)
 simp only [Bool.not_true,Bool.false_eq_true,if_false]
 refine wpAny_bind (wpAny_pure (wpAny_bind (wpAny_pure (wpAny_bind (same_pairs ha dda hb ddb na nb (by omega) (fun i e ei=>?_) ?_)))))
 ·have hi:i < es.size:=(Array.getElem?_eq_some_iff.mp ei).1
  obtain ⟨⟨k,v⟩,hk⟩:∃ kv,kvs[i]? = some kv:=⟨_,List.getElem?_eq_getElem (by omega)⟩
  obtain ⟨g1,g2⟩:=pa.get? (i:=i) (e:=e) (by simpa using ei) hk
  obtain ⟨k2,g3,g4⟩:=ka e (Array.mem_of_getElem? ei)
  have ek:k2 = k:=(mixKind P w).inj _ _ _ g3 g1
  subst ek
  obtain ⟨v',hv',eq⟩:=he k2 v (List.mem_of_getElem? hk)
  obtain ⟨x,rfl⟩:=tx k2 v' hv'
  obtain ⟨t0,ek0⟩:∃ t,e.key = Value.str x t:=by
   rcases keyIs_shape (k:=.inr x) (v:=e.key) g1 with ⟨i,t,q,_⟩ | ⟨z,t,q,q2⟩
   ·cases q
   ·cases q
    exact ⟨t,q2⟩
  obtain ⟨m,hm⟩:=List.getElem?_of_mem hv'
  have hm':m < fs.size:=by have:=(List.getElem?_eq_some_iff.mp hm).1;omega
  have em:fs.toList[m]? = some fs[m]:=by simp [hm']
  obtain ⟨q1,q2⟩:=pb.get? em hm
  obtain ⟨j,hj⟩:∃ j,fs.findIdx? (fun e=>e.key.isStr x) = some j:=by
   cases z:fs.findIdx? (fun e=>e.key.isStr x) with
   | some j=>exact ⟨j,rfl⟩
   | none=>
    have:=Array.findIdx?_eq_none_iff.mp z fs[m] (Array.getElem_mem hm')
    have q1':fs[m].key.isStr x = true:=by
     rcases keyIs_shape (k:=.inr x) (v:=fs[m].key) q1 with ⟨i,t,q,_⟩ | ⟨z,t,q,q2⟩
     ·cases q
     ·cases q
      rw [q2]
      exact beq_self_eq_true x
    rw [q1'] at this
    cases this
  obtain ⟨hjs,hjt,_⟩:=Array.findIdx?_eq_some_iff_getElem.mp hj
  obtain ⟨⟨k3,v3⟩,hk3⟩:∃ kv,kws[j]? = some kv:=⟨_,List.getElem?_eq_getElem (by omega)⟩
  obtain ⟨r1,r2⟩:=pb.get? (i:=j) (e:=fs[j]) (by simp [hjs]) hk3
  have hjk:(mixKind P w).is (.inr x) fs[j].key = true:=by
   obtain ⟨z,t,q⟩:=kb' fs[j] (Array.getElem_mem hjs)
   rw [q] at hjt ⊢
   have zx:z = x:=eq_of_beq hjt
   rw [zx]
   rw [(mixKind P w).strs (.inr x) x t0 _ (by rw [← ek0];exact g1)]
   exact beq_self_eq_true x
  have e3:k3 = .inr x:=(mixKind P w).inj _ _ _ r1 hjk
  subst e3
  have jm:j = m:=by
   have hj1:(kws.map (·.1))[j]? = some (Sum.inr x):=by rw [List.getElem?_map,hk3];rfl
   have hm1:(kws.map (·.1))[m]? = some (Sum.inr x):=by rw [List.getElem?_map,hm];rfl
   obtain ⟨x1,y1⟩:=List.getElem?_eq_some_iff.mp hj1
   obtain ⟨x2,y2⟩:=List.getElem?_eq_some_iff.mp hm1
   rcases Nat.lt_trichotomy j m with z | z | z
   ·exact absurd (y1.trans y2.symm) (List.pairwise_iff_getElem.mp ndb j m x1 x2 z)
   ·exact z
   ·exact absurd (y2.trans y1.symm) (List.pairwise_iff_getElem.mp ndb m j x2 x1 z)
  subst jm
  rw [hm] at hk3
  cases hk3
  refine ⟨j,fs[j],by simp [hjs],fun R hR=>?_,fun R hR=>?_⟩
  ·rw [ek0]
   exact find_str hb ddb kb' hj hR
  ·rw [g2,r2]
   exact eq prog w' E R hR
 ·exact wpAny_pure ⟨_,rfl,(fun z=>nomatch z),hq⟩
end
end L2
namespace L2
open PySem PySem.Spec PyProof.Rows
inductive Dq (H:Hp):Nat->V->V->Prop
 | non {n:Nat}:Dq H n .non .non
 | bl {n:Nat} {b:Bool}:Dq H n (.bl b) (.bl b)
 | int {n:Nat} {i:Int}:Dq H n (.int i) (.int i)
 | str {n:Nat} {z:Str}:Dq H n (.str z) (.str z)
 | ref {n:Nat} {a:Addr}:Dq H n (.ref a) (.ref a)
 | tup {n:Nat} {a b:Addr} {xs ys:List V} (ha:H a = some (.tup xs)) (hb:H b = some (.tup ys)) (hl:xs.length = ys.length) (h:∀ (i:Nat) (x y:V),xs[i]? = some x->ys[i]? = some y->Dq H n x y):Dq H (n + 1) (.ref a) (.ref b)
 | lst {n:Nat} {a b:Addr} {xs ys:List V} (ha:H a = some (.lst xs)) (hb:H b = some (.lst ys)) (hl:xs.length = ys.length) (h:∀ (i:Nat) (x y:V),xs[i]? = some x->ys[i]? = some y->Dq H n x y):Dq H (n + 1) (.ref a) (.ref b)
 | dct {n:Nat} {a b:Addr} {kvs kws:List (Key × V)} (f:Key->V) (ha:Rd H a (.dK kvs)) (hb:Rd H b (.dK kws)) (hl:kvs.length = kws.length) (tx:∀ (k:Key) (v:V),(k,v) ∈ kws->∃ x,k = .inr x)
   (hf:∀ (k:Key) (v:V),(k,v) ∈ kvs->(k,f k) ∈ kws) (h:∀ (k:Key) (v:V),(k,v) ∈ kvs->Dq H n v (f k)):Dq H (n + 1) (.ref a) (.ref b)
theorem kv_back:∀ {kvs:List (Key × V)} {vs:List (Key × Value)} {k:Key} {u:Value} {i:Nat},KV kvs vs->vs[i]? = some (k,u)->∃ v,kvs[i]? = some (k,v)/\RelV v u
 | _,_,_,_,_,.nil,e=>by simp at e
 | _,_,k,u,0,.cons (a:=p) r _,e=>by
  simp at e
  subst e
  obtain ⟨p1,p2⟩:=p
  obtain ⟨r1,r2⟩:=r
  simp only at r1
  subst r1
  exact ⟨p2,rfl,r2⟩
 | _,_,k,u,i + 1,.cons _ t,e=>by
  obtain ⟨v,h1,h2⟩:=kv_back (i:=i) t (by simpa using e)
  exact ⟨v,by simpa using h1,h2⟩
section
variable {X:Cx} {pins:List (Addr × Obj)} {σ:St} {H:Hp} {s:Shared}
theorem eqAt_Dq (I:Inv X pins σ H s) {n:Nat} {x y:V} (d:Dq H n x y):∀ {u u':Value} {A:Around},RelV x u->RelV y u'->A.units + n < cLine->SeqAt.EqAt A s u u' true:=by
 induction d with
 | non=>intro u u' A r r' _;cases r;cases r';exact SeqAt.EqAt.same _
 | bl=>intro u u' A r r' _;cases r;cases r';exact SeqAt.EqAt.same _
 | @int n i=>
  intro u u' A r r' _
  obtain ⟨t,rfl⟩:=r
  obtain ⟨t',rfl⟩:=r'
  have h:=SeqAt.EqAt.int_int (A:=A) (s:=s) i t i t'
  rwa [beq_self_eq_true] at h
 | @str n z=>
  intro u u' A r r' _
  obtain ⟨t,rfl⟩:=r
  obtain ⟨t',rfl⟩:=r'
  have h:=SeqAt.EqAt.str_str (A:=A) (s:=s) z t z t'
  rwa [beq_self_eq_true] at h
 | ref=>intro u u' A r r' _;cases r;cases r';exact SeqAt.EqAt.same _
 | @tup n a b xs ys ha hb hl h ih=>
  intro u u' A r r' hu
  cases r
  cases r'
  by_cases hab:a = b
  ·rw [hab];exact SeqAt.EqAt.same _
  obtain ⟨its,r1,pl,_⟩:=I.tuple (SqT.of (K:=X.K) ha)
  obtain ⟨jts,r2,ql,_⟩:=I.tuple (SqT.of (K:=X.K) hb)
  have l1:=r1.length
  have l2:=r2.length
  have h0:=SeqAt.RcAt.tuples (A:=A) (e:=fun _=>true) pl ql (by omega) (fun j g1 g2=>?_)
  ·have e:((List.range (min its.toArray.size jts.toArray.size)).all (fun _=>true) && its.toArray.size == jts.toArray.size) = true:=by
    simp
    omega
   rw [e] at h0
   exact SeqAt.EqAt.of_refs hab h0
  ·have g1':j < its.length:=by simpa using g1
   have g2':j < jts.length:=by simpa using g2
   obtain ⟨u1,e1,k1⟩:=r1.get (i:=j) (x:=xs[j]'(by omega)) (by simp)
   obtain ⟨u2,e2,k2⟩:=r2.get (i:=j) (x:=ys[j]'(by omega)) (by simp)
   have w1:its.toArray[j] = u1:=by have:=(List.getElem?_eq_some_iff.mp e1).2;simpa using this
   have w2:jts.toArray[j] = u2:=by have:=(List.getElem?_eq_some_iff.mp e2).2;simpa using this
   rw [w1,w2]
   exact ih j _ _ (by simp) (by simp) k1 k2 (by show A.units + 1 + n < cLine;omega)
 | @lst n a b xs ys ha hb hl h ih=>
  intro u u' A r r' hu
  cases r
  cases r'
  by_cases hab:a = b
  ·rw [hab];exact SeqAt.EqAt.same _
  obtain ⟨its,r1,pl,_⟩:=I.list (xs:=xs) (.inl (.inl ha))
  obtain ⟨jts,r2,ql,_⟩:=I.list (xs:=ys) (.inl (.inl hb))
  have l1:=r1.length
  have l2:=r2.length
  have h0:=SeqAt.RcAt.lists (A:=A) (e:=fun _=>true) pl.isList ql.isList (by simp;omega) (by omega) (fun j g1 g2=>?_)
  ·have e:((List.range its.toArray.size).all (fun _=>true)) = true:=by simp
   rw [e] at h0
   exact SeqAt.EqAt.of_refs hab h0
  ·have g1':j < its.length:=by simpa using g1
   have g2':j < jts.length:=by simpa using g2
   obtain ⟨u1,e1,k1⟩:=r1.get (i:=j) (x:=xs[j]'(by omega)) (by simp)
   obtain ⟨u2,e2,k2⟩:=r2.get (i:=j) (x:=ys[j]'(by omega)) (by simp)
   have w1:its.toArray[j] = u1:=by have:=(List.getElem?_eq_some_iff.mp e1).2;simpa using this
   have w2:jts.toArray[j] = u2:=by have:=(List.getElem?_eq_some_iff.mp e2).2;simpa using this
   rw [w1,w2]
   exact ih j _ _ (by simp) (by simp) k1 k2 (by show A.units + 1 + n < cLine;omega)
 | @dct n a b kvs kws f ha hb hl tx hf h ih=>
  intro u u' A r r' hu
  cases r
  cases r'
  obtain ⟨_,na,vs,kv,da⟩:=dk_rd I.hok ha
  obtain ⟨_,nb,ws,kw,db⟩:=dk_rd I.hok hb
  have l1:=kv.length
  have l2:=kw.length
  refine eqAt_dicts da db na nb (by omega) (fun k v hk=>?_) (fun k v hk=>?_) (by omega)
  ·obtain ⟨i,hi⟩:=List.getElem?_of_mem hk
   obtain ⟨v0,e0,_⟩:=kv_back kw hi
   exact tx k v0 (List.mem_of_getElem? e0)
  ·obtain ⟨i,hi⟩:=List.getElem?_of_mem hk
   obtain ⟨v0,e0,rv⟩:=kv_back kv hi
   have m0:=List.mem_of_getElem? e0
   obtain ⟨m,hm⟩:=List.getElem?_of_mem (hf k v0 m0)
   obtain ⟨u',e1,rv'⟩:=kv_get kw hm
   exact ⟨u',List.mem_of_getElem? e1,ih k v0 m0 rv rv' (by show A.units + 1 + n < cLine;omega)⟩
theorem rc_lists {A:Around} (I:Inv X pins σ H s) {n:Nat} {a b:Addr} {xs ys:List V} (ha:SqL X.K H a xs) (hb:SqL X.K H b ys) (hl:xs.length = ys.length) (h:∀ (i:Nat) (x y:V),xs[i]? = some x->ys[i]? = some y->Dq H n x y) (hu:A.units + n + 1 < cLine) :
  SeqAt.RcAt A s (.ref a) (.ref b) true/\SeqAt.RcNeAt A s (.ref a) (.ref b) false:=by
 obtain ⟨its,r1,pl,_⟩:=I.list ha
 obtain ⟨jts,r2,ql,_⟩:=I.list hb
 have l1:=r1.length
 have l2:=r2.length
 have el:∀ j (g1:j < its.toArray.size) (g2:j < jts.toArray.size),SeqAt.EqAt A.in1 s its.toArray[j] jts.toArray[j] true:=fun j g1 g2=>by
  have g1':j < its.length:=by simpa using g1
  have g2':j < jts.length:=by simpa using g2
  obtain ⟨u1,e1,k1⟩:=r1.get (i:=j) (x:=xs[j]'(by omega)) (by simp)
  obtain ⟨u2,e2,k2⟩:=r2.get (i:=j) (x:=ys[j]'(by omega)) (by simp)
  have w1:its.toArray[j] = u1:=by have:=(List.getElem?_eq_some_iff.mp e1).2;simpa using this
  have w2:jts.toArray[j] = u2:=by have:=(List.getElem?_eq_some_iff.mp e2).2;simpa using this
  rw [w1,w2]
  exact eqAt_Dq I (h j _ _ (by simp) (by simp)) k1 k2 (by show A.units + 1 + n < cLine;omega)
 have e:((List.range its.toArray.size).all (fun _=>true)) = true:=by simp
 have h1:=SeqAt.RcAt.lists (A:=A) (e:=fun _=>true) pl.isList ql.isList (by simp;omega) (by omega) el
 have h2:=SeqAt.RcNeAt.lists (A:=A) (e:=fun _=>true) pl.isList ql.isList (by simp;omega) (by omega) el
 rw [e] at h1 h2
 exact ⟨h1,h2⟩
theorem op_neL:OpR X (compareOp .NotEq) (fun x y H Q=>∃ (n:Nat) (a b:Addr) (xs ys:List V),x = .ref a/\y = .ref b/\SqL X.K H a xs/\SqL X.K H b ys/\xs.length = ys.length/\(∀ (i:Nat) (x y:V),xs[i]? = some x->ys[i]? = some y->Dq H n x y)/\X.A.units + n + 1 < cLine/\Q (.bl false) H):=by
 intro pins s σ H x y v u Q I rx ry h
 obtain ⟨n,a,b,xs,ys,rfl,rfl,ha,hb,hl,hd,hu,q⟩:=h
 cases rx
 cases ry
 exact (rc_lists I ha hb hl hd hu).2 X.prog X.w X.xe _ ⟨.bl false,H,I,rfl,q⟩
end
end L2
namespace L2
open PySem PySem.Spec PyProof.Rows
theorem mt_app {X:Cx}:MtR X "list.append" rAppend:=mt_append
theorem Same.put {H H':Hp} {d:Addr} {o:HO} (s:Same H H') (h:H d = none):Same H (L2.upd H' d o):=fun b u e=>by
 rw [upd_ne (ne_of_none e h)]
 exact s b u e
end L2
namespace My
open PySem L2 PyProof.Rows
theorem cutP {G T:Prop} (h:T->G) (t:T):G:=h t
seal L2.PE L2.PT L2.PW L2.PS L2.PSs L2.PA L2.PI L2.PG L2.PGs L2.OpR L2.UnR L2.CallR L2.IxR L2.SlR L2.MtR L2.PIf L2.PO L2.MtM L2.PC
def letters:List Nat:=("abcdefghijklmnopqrstuvwxyz":Str).cps.toList
def nameS (z:Str):Bool:=decide (1 ≤ z.length/\z.length ≤ 8) && z.cps.toList.all fun c=>decide (c ∈ letters)
def spName (K:PySem.W.Frag):Sp:=fun vs H Q _=>∃ (v:V) (n:String),vs = [v]/\Is K H v n/\(∀ z,v = .str z->z.length ≤ sizeLine/\∀ H',Same H H'->Q (.bl (nameS z)) H')/\(n ≠ "str"->Q (.bl false) H)
def spStream:Sp:=fun vs H Q _=>∃ c n:Int,vs = [.int c,.int n]/\0 ≤ n/\n ≤ 60/\∀ (p:Addr) (H':Hp) (l:List Int),Same H H'->H' p = some (.lst (l.map V.int))->(l.length:Int) = n->(∀ x ∈ l,0 ≤ x/\x < 2147483647)->Q (.ref p) H'
theorem atI_mem {l:List Nat} {i:Int} (h0:0 ≤ i) (h1:i < l.length):∃ c,atI l i = some c/\c ∈ l:=by
 obtain ⟨j,rfl⟩:=Int.eq_ofNat_of_zero_le h0
 have hj:j < l.length:=by omega
 exact ⟨l[j],atI_nat (List.getElem?_eq_getElem hj),List.getElem_mem hj⟩
section
variable {P:Program} {w:World} {K:PySem.W.Frag} {mg:Str->Option Value} {base:Heap}
theorem ok_name {f:Addr} {fd:FuncData} (F:Fun K "is_name" "is_name" (top 10) f fd) (B:Bl mg) {uL uN:Value} (hL:mg "LETTERS" = some uL) (rL:RelV (.str "abcdefghijklmnopqrstuvwxyz") uL) (hN:mg "LONGEST_NAME" = some uN) (rN:RelV (.int 8) uN) :
  FnOk P w K mg base CX0 1 f fd ["thing"] (spName K):=by
 have sc:FnScope ["thing"] ["thing"] (defScope (top 10)):=⟨rfl,rfl,rfl,by decide +kernel,rfl,by decide +kernel,by decide +kernel⟩
 refine F.ok sc (fun vs H Q E h=>?_) (fun cdv A outer s H vs Q E hr h=>?_)
 ·obtain ⟨v,n,rfl,_⟩:=h
  rfl
 ·obtain ⟨v,n,rfl,⟨ty,hn⟩,q1,q2⟩:=h
  refine ⟨_,pss_cons (ps_if (PW.pt (pw_or (pt_not (pt_val (pe_callB call_isi (by rfl) B.isi boot_isi (pa_cons (pv 0) (pa_cons (pe_bltn (v:=.ty "str") (by rfl) B.str boot_str rfl) pa_nil)))))
    (pw_or1 (pt_not (pt_chain op_le op_le pe_int (pe_callB call_len_str (by rfl) B.len PySem.boot_len (pa_cons (pv 0) pa_nil)) (pe_glob (by rfl) hN rN)))))) (pss_one (ps_ret pe_bl)) pss_nil)
   (pss_one (ps_ret (pe_callB (call_all rfl) (by rfl) B.all boot_all (pa_cons (pe_comp (osc:=defScope (top 10)) (N0:=["thing"]) (xs:=["sign"]) (fr:=[]) ⟨rfl,by decide +kernel,by decide +kernel,by decide +kernel,by decide,by decide +kernel⟩ rfl rfl rfl (pi_str (pv 0))
    (fun s H fp=>pg_name (i:=0) (show (["sign"]:List Str).Nodup by decide +kernel) rfl (Or.inl rfl)) (fun s H fp=>pif_nil) (fun s H fp=>pe_cmpR op_in_str (pv 0) (pe_glob (by rfl) hL rL) (by with_unfolding_all rfl))) pa_nil)))),?_⟩
  by_cases hs:n = "str"
  ·subst hs
   obtain ⟨z,rfl⟩:=Is.str_of ⟨ty,hn⟩
   obtain ⟨hz,q⟩:=q1 z rfl
   have q0:nameS z = false->Q (.bl false) H:=fun e=>by
    have:=q H (Same.refl H)
    rw [e] at this
    exact this
   refine ⟨_,rfl,_,_,_,_,rfl,ty,kit_eq.trans (show kitTy "str" "str" = some true by decide +kernel),_,rfl,?_⟩
   refine iteF ?_
   refine ⟨_,rfl,_,rfl,hz,_,_,rfl,rfl,_,rfl,?_⟩
   refine ite2 (fun c1=>?_) (fun c1=>?_)
   ·have d1:(1:Int) ≤ z.length:=of_decide_eq_true c1
    refine ⟨_,_,rfl,rfl,_,rfl,?_⟩
    refine ite2 (fun c2=>?_) (fun c2=>?_)
    ·refine q0 ?_
     have d2:¬ ((z.length:Int) ≤ 8):=by
      intro e
      rw [decide_eq_true e] at c2
      cases c2
     have e:decide (1 ≤ z.length/\z.length ≤ 8) = false:=decide_eq_false (by omega)
     unfold nameS
     rw [e]
     rfl
    ·have d2:(z.length:Int) ≤ 8:=by
      by_cases e:(z.length:Int) ≤ 8
      ·exact e
      ·rw [decide_eq_false e] at c2
       exact (c2 rfl).elim
     refine ⟨_,rfl,_,rfl,fun D hD=>?_⟩
     have hlen:z.cps.toList.length = z.cps.size:=Array.length_toList
     refine compW_map z.cps.size (fun i=>.bl (decide (z.cps.toList.getD i 0 ∈ letters))) (fun i σ' Hc=>(∃ a,σ' = [a])/\Hc = upd H D (.lst ((List.range i).map fun i=>.bl (decide (z.cps.toList.getD i 0 ∈ letters))))) hz ⟨⟨none,rfl⟩,rfl⟩ upd_same ?_ ?_
     ·rintro i σ' Hc hi ⟨⟨a,rfl⟩,rfl⟩ hD'
      refine ⟨hi,?_⟩
      rintro x H' ⟨rfl,c,hc,rfl⟩
      refine ⟨_,rfl,_,_,rfl,rfl,?_,hD',⟨_,rfl⟩,upd_upd⟩
      have ec:z.cps.toList.getD i 0 = c:=by
       rw [List.getD_eq_getElem?_getD,Array.getElem?_toList,hc]
       rfl
      rw [ec]
      exact congrArg V.bl (StrLaws.found_one "abcdefghijklmnopqrstuvwxyz" c)
     ·rintro σ' Hc ⟨_,rfl⟩ hDn
      refine ⟨Nat.le_refl _,?_⟩
      refine ⟨D,z.cps.toList.map fun c=>decide (c ∈ letters),rfl,SqL.of ?_,?_⟩
      ·rw [upd_same,← hlen,range_map_getD z.cps.toList 0 (fun c=>V.bl (decide (c ∈ letters))),List.map_map]
       rfl
      ·have e:nameS z = (z.cps.toList.map fun c=>decide (c ∈ letters)).all id:=by
        unfold nameS
        rw [decide_eq_true (show 1 ≤ z.length/\z.length ≤ 8 by omega),Bool.true_and,List.all_map]
        rfl
       rw [← e]
       exact q _ (Same.upd hD)
   ·refine ⟨_,rfl,?_⟩
    refine iteT ?_
    refine q0 ?_
    have d1:¬ ((1:Int) ≤ z.length):=fun e=>c1 (decide_eq_true e)
    have e:decide (1 ≤ z.length/\z.length ≤ 8) = false:=decide_eq_false (by omega)
    unfold nameS
    rw [e]
    rfl
  ·have e:(n == "str") = false:=beq_eq_false_iff_ne.mpr hs
   refine ⟨_,rfl,_,_,_,_,rfl,ty,kit_eq.trans ((kit_str n hn).trans (congrArg some e)),_,rfl,?_⟩
   refine iteT ?_
   exact q2 hs
theorem ok_stream {f:Addr} {fd:FuncData} (F:Fun K "_law_stream" "_law_stream" (top 35) f fd) (B:Bl mg):FnOk P w K mg base CX0 1 f fd ["_law_cell_here","_law_many"] spStream:=by
 have sc:FnScope ["_law_cell_here","_law_many","_law_found","_law_number","_law_k"] ["_law_cell_here","_law_many"] (defScope (top 35)):=⟨rfl,rfl,rfl,by decide +kernel,rfl,by decide +kernel,by decide +kernel⟩
 refine F.ok sc (fun vs H Q E h=>?_) (fun cdv A outer s H vs Q E hr h=>?_)
 ·obtain ⟨c,n,rfl,_⟩:=h
  rfl
 ·obtain ⟨c,n,rfl,n0,n1,q⟩:=h
  refine ⟨_,pss_cons (ps_set (i:=2) sc.nd rfl (Or.inl rfl) (pe_lst pa_nil))
   (pss_cons (ps_set (i:=3) sc.nd rfl (Or.inl rfl) (pe_op op_add (pe_op op_mod (pv 0) pe_int) pe_int))
   (pss_cons (ps_for PassesOwn.never rfl (pi_range1 rfl B.range (pa_cons (pv 1) pa_nil)) (pg_name (i:=4) sc.nd rfl (Or.inl rfl))
    (pss_cons (ps_set (i:=3) sc.nd rfl (Or.inl rfl) (pe_op op_mod (pe_op op_add (pe_op op_add (pe_op op_mul (pv 3) (pv 3)) (pe_op op_mul pe_int (pv 3))) (pv 4)) pe_int))
    (pss_one (ps_expr (pe_bm PySem.F.plainAttrs_list PySem.F.slot_list_append PySem.F.type_list_append mt_app (pv 2) (pa_cons (pv 3) pa_nil))))))
   (pss_one (ps_ret (pv 2))))),?_⟩
  refine ⟨Nat.zero_le _,fun d hd=>?_⟩
  refine ⟨_,rfl,_,_,rfl,rfl,(pos rfl),_,_,rfl,rfl,?_⟩
  have c0:=Int.emod_nonneg c (show (2147483647:Int) ≠ 0 by decide)
  have c1:=Int.emod_lt_of_pos c (show (0:Int) < 2147483647 by decide)
  refine ⟨_,rfl,_,rfl,(by omega),(by omega),for_range (fun i σ H'=>∃ (l:List Int) (m:Int) (u:Option V),σ = [some (.int c),some (.int n),some (.ref d),some (.int m),u]/\Same H H'/\H' d = some (.lst (l.map V.int))/\l.length = i/\0 ≤ m/\m < 2147583647/\∀ x ∈ l,0 ≤ x/\x < 2147483647) ⟨[],_,none,rfl,Same.upd hd,upd_same,rfl,by omega,by omega,fun x hx=>nomatch hx⟩ ?_ ?_⟩
  ·rintro i σ H' hi ⟨l,m,u,rfl,s1,h1,hl,m0,m1,hx⟩
   have hi':i < 60:=by omega
   refine ⟨_,rfl,_,rfl,_,_,rfl,rfl,.inl ⟨by omega,by omega⟩,_,rfl,_,_,rfl,rfl,.inl ⟨by decide,by decide⟩,_,_,rfl,rfl,_,rfl,_,_,rfl,rfl,_,_,rfl,rfl,(pos rfl),?_⟩
   have r0:0 ≤ ((m * m + 48271 * m + (0 + (i:Int))) % 2147483647):=Int.emod_nonneg _ (by decide)
   have r1:((m * m + 48271 * m + (0 + (i:Int))) % 2147483647) < 2147483647:=Int.emod_lt_of_pos _ (by decide)
   refine ⟨_,rfl,.inl ⟨rfl,_,SqL.of h1⟩,_,rfl,d,_,_,rfl,rfl,h1,?_,?_⟩
   ·rw [List.length_map,hl,sizeLine_eq];omega
   ·refine ⟨l ++ [((m * m + 48271 * m + (0 + (i:Int))) % 2147483647)],_,_,rfl,s1.put hd,?_,by simp [hl],r0,Int.lt_trans r1 (by decide),fun x hx'=>?_⟩
    ·rw [upd_same,List.map_append]
     rfl
    ·rcases List.mem_append.mp hx' with h | h
     ·exact hx x h
     ·have:x = ((m * m + 48271 * m + (0 + (i:Int))) % 2147483647):=by simpa using h
      rw [this]
      exact ⟨r0,r1⟩
  ·rintro σ H' ⟨l,m,u,rfl,s1,h1,hl,m0,m1,hx⟩
   exact ⟨_,rfl,q d H' l s1 h1 (by omega) hx⟩
end
def letN (i:Int):Nat:=(letters[(i % 26).toNat]?).getD 0
theorem let_len:letters.length = 26:=by decide +kernel
theorem letN_at (i:Int):atI letters (i % 26) = some (letN i)/\letN i ∈ letters:=by
 have h0:=Int.emod_nonneg i (show (26:Int) ≠ 0 by decide)
 have h1:=Int.emod_lt_of_pos i (show (0:Int) < 26 by decide)
 obtain ⟨n,hn⟩:=Int.eq_ofNat_of_zero_le h0
 have hl:n < letters.length:=by rw [let_len];omega
 have e:letN i = letters[n]:=by
  unfold letN
  rw [hn,Int.toNat_natCast,List.getElem?_eq_getElem hl]
  rfl
 rw [e,hn]
 exact ⟨atI_nat (List.getElem?_eq_getElem hl),List.getElem_mem hl⟩
theorem let_nd:letters.Nodup:=by decide +kernel
theorem letN_inj {i j:Int} (h:letN i = letN j):i % 26 = j % 26:=by
 have a0:=Int.emod_nonneg i (show (26:Int) ≠ 0 by decide)
 have a1:=Int.emod_lt_of_pos i (show (0:Int) < 26 by decide)
 have b0:=Int.emod_nonneg j (show (26:Int) ≠ 0 by decide)
 have b1:=Int.emod_lt_of_pos j (show (0:Int) < 26 by decide)
 obtain ⟨n,hn⟩:=Int.eq_ofNat_of_zero_le a0
 obtain ⟨m,hm⟩:=Int.eq_ofNat_of_zero_le b0
 have hl:n < letters.length:=by rw [let_len];omega
 have hk:m < letters.length:=by rw [let_len];omega
 unfold letN at h
 rw [hn,hm,Int.toNat_natCast,Int.toNat_natCast,List.getElem?_eq_getElem hl,List.getElem?_eq_getElem hk] at h
 have:n = m:=(List.getElem_inj let_nd).mp h
 omega
def AllL (l:List Nat):Prop:=∀ c ∈ l,c ∈ letters
theorem nameS_of {z:Str} (h:AllL z.cps.toList) (h1:1 ≤ z.length) (h8:z.length ≤ 8):nameS z = true:=by
 unfold nameS
 rw [decide_eq_true ⟨h1,h8⟩,Bool.true_and,List.all_eq_true]
 exact fun c hc=>decide_eq_true (h c hc)
theorem zlen (z:Str):z.cps.toList.length = z.length:=by simp [Str.length]
def nmA (b:Str) (x:Int) (i:Nat):Str:=Txt.slice b none (some (1 + ((0 + (i:Int)) + x) % 8))
theorem nmA_ok {b:Str} {x:Int} {i:Nat} (hb:b.length = 8) (ha:AllL b.cps.toList):(nmA b x i).cps.toList = b.cps.toList.take (1 + ((0 + (i:Int)) + x) % 8).toNat/\nameS (nmA b x i) = true/\((nmA b x i).length:Int) = 1 + ((0 + (i:Int)) + x) % 8:=by
 have h0:=Int.emod_nonneg ((0 + (i:Int)) + x) (show (8:Int) ≠ 0 by decide)
 have h1:=Int.emod_lt_of_pos ((0 + (i:Int)) + x) (show (0:Int) < 8 by decide)
 have e:(nmA b x i).cps.toList = b.cps.toList.take (1 + ((0 + (i:Int)) + x) % 8).toNat:=slice_to b (by omega) (by rw [hb];omega)
 have hl:((nmA b x i).length:Int) = 1 + ((0 + (i:Int)) + x) % 8:=by
  rw [← zlen,e,List.length_take,zlen,hb]
  omega
 refine ⟨e,nameS_of (fun c hc=>?_) (by omega) (by omega),hl⟩
 rw [e] at hc
 exact ha c (List.mem_of_mem_take hc)
theorem nmA_nd {b:Str} {x:Int} {m:Nat} (hb:b.length = 8) (ha:AllL b.cps.toList) (hm:m ≤ 8):((List.range m).map (nmA b x)).Nodup:=by
 rw [List.Nodup,List.pairwise_map]
 refine List.Pairwise.imp_of_mem ?_ List.nodup_range
 intro i j hi hj hne he
 have hi':=List.mem_range.mp hi
 have hj':=List.mem_range.mp hj
 have e1:=(nmA_ok (i:=i) (x:=x) hb ha).2.2
 have e2:=(nmA_ok (i:=j) (x:=x) hb ha).2.2
 rw [he,e2] at e1
 omega
def nmB (b:Str) (x at_ sz:Int) (i:Nat):Str:=Txt.slice b none (some at_) ++ ⟨#[letN (x + (0 + (i:Int)))]⟩ ++ Txt.slice b (some (at_ + 1)) (some sz)
theorem nmB_ok {b:Str} {x at_ sz:Int} {i:Nat} (hb:b.length = 8) (ha:AllL b.cps.toList) (a0:0 ≤ at_) (a1:at_ < sz) (s8:sz ≤ 8) :
  (nmB b x at_ sz i).cps.toList = b.cps.toList.take at_.toNat ++ letN (x + (0 + (i:Int))) :: (b.cps.toList.drop (at_ + 1).toNat).take (sz - (at_ + 1)).toNat/\nameS (nmB b x at_ sz i) = true:=by
 have e1:(Txt.slice b none (some at_)).cps.toList = b.cps.toList.take at_.toNat:=slice_to b a0 (by rw [hb];omega)
 have e2:(Txt.slice b (some (at_ + 1)) (some sz)).cps.toList = (b.cps.toList.drop (at_ + 1).toNat).take (sz - (at_ + 1)).toNat:=by
  have e:Txt.slice b (some (at_ + 1)) (some sz) = StrLaws.sliceText b (some (at_ + 1)) (some sz):=rfl
  rw [e,StrLaws.sliceText_plain ⟨by omega,by omega,by rw [zlen,hb];omega⟩]
 have e:(nmB b x at_ sz i).cps.toList = b.cps.toList.take at_.toNat ++ letN (x + (0 + (i:Int))) :: (b.cps.toList.drop (at_ + 1).toNat).take (sz - (at_ + 1)).toNat:=by
  unfold nmB
  rw [Str.cps_append,Str.cps_append,Array.toList_append,Array.toList_append,e1,e2,List.append_assoc]
  rfl
 have hl:(nmB b x at_ sz i).length = (b.cps.toList.take at_.toNat ++ letN (x + (0 + (i:Int))) :: (b.cps.toList.drop (at_ + 1).toNat).take (sz - (at_ + 1)).toNat).length:=by rw [← e,zlen]
 rw [List.length_append,List.length_cons,List.length_take,List.length_take,List.length_drop,zlen,hb] at hl
 refine ⟨e,nameS_of (fun c hc=>?_) (by omega) (by omega)⟩
 rw [e] at hc
 rcases List.mem_append.mp hc with h | h
 ·exact ha c (List.mem_of_mem_take h)
 ·rcases List.mem_cons.mp h with h | h
  ·rw [h];exact (letN_at _).2
  ·exact ha c (List.mem_of_mem_drop (List.mem_of_mem_take h))
theorem nmB_nd {b:Str} {x at_ sz:Int} {m:Nat} (hb:b.length = 8) (ha:AllL b.cps.toList) (a0:0 ≤ at_) (a1:at_ < sz) (s8:sz ≤ 8) (hm:m ≤ 26):((List.range m).map (nmB b x at_ sz)).Nodup:=by
 rw [List.Nodup,List.pairwise_map]
 refine List.Pairwise.imp_of_mem ?_ List.nodup_range
 intro i j hi hj hne he
 have hi':=List.mem_range.mp hi
 have hj':=List.mem_range.mp hj
 have e1:=(nmB_ok (i:=i) (x:=x) hb ha a0 a1 s8).1
 have e2:=(nmB_ok (i:=j) (x:=x) hb ha a0 a1 s8).1
 rw [he,e2] at e1
 have e3:=List.append_cancel_left e1
 have e4:letN (x + (0 + (j:Int))) = letN (x + (0 + (i:Int))):=by injection e3
 have:=letN_inj e4
 omega
def spLetE:Sp:=fun vs H Q _=>∃ c:Int,vs = [.int c]/\Q (.str ⟨#[letN c]⟩) H
def spNames:Sp:=fun vs H Q _=>∃ c m:Int,vs = [.int c,.int m]/\0 ≤ m/\m ≤ 12/\∀ (p:Addr) (H':Hp) (zs:List Str),Same H H'->H' p = some (.lst (zs.map V.str))->(zs.length:Int) = m->zs.Nodup->(∀ z ∈ zs,nameS z = true)->Q (.ref p) H'
section
variable {P:Program} {w:World} {K:PySem.W.Frag} {mg:Str->Option Value} {base:Heap}
theorem ok_letE {f:Addr} {fd:FuncData} (F:Fun K "_law_letter" "_law_letter" (top 37) f fd):FnOk P w K mg base CX0 1 f fd ["_law_cell_here"] spLetE:=by
 have sc:FnScope ["_law_cell_here"] ["_law_cell_here"] (defScope (top 37)):=⟨rfl,rfl,rfl,by decide +kernel,rfl,by decide +kernel,by decide +kernel⟩
 refine F.ok sc (fun vs H Q E h=>?_) (fun cdv A outer s H vs Q E hr h=>?_)
 ·obtain ⟨c,rfl,_⟩:=h
  rfl
 ·obtain ⟨c,rfl,q⟩:=h
  refine ⟨_,pss_one (ps_ret (pe_ix ix_str pe_str (pe_op op_mod (pv 0) pe_int) (fun _ _=>rfl))),?_⟩
  exact ⟨_,rfl,_,_,rfl,rfl,(pos rfl),_,_,_,rfl,rfl,(by decide +kernel),(letN_at c).1,q⟩
def nmN:List Str:=["_law_cell_here","_law_many","_law_xs","_law_base","_law_k","_law_size","_law_at","_law_names_here","_law_sign"]
theorem ok_names {f fT fL:Addr} {fd fdT fdL:FuncData} (F:Fun K "_law_names" "_law_names" (top 38) f fd) (B:Bl mg) (DT:Df K mg "_law_stream" (top 35) fT fdT) (DL:Df K mg "_law_letter" (top 37) fL fdL):FnOk P w K mg base CX0 2 f fd ["_law_cell_here","_law_many"] spNames:=by
 have sc:FnScope nmN ["_law_cell_here","_law_many"] (defScope (top 38)):=⟨rfl,rfl,rfl,by decide +kernel,rfl,by decide +kernel,by decide +kernel⟩
 have GT:FnOk P w K mg base CX0 1 fT fdT ["_law_cell_here","_law_many"] spStream:=ok_stream DT.fn B
 have GL:FnOk P w K mg base CX0 1 fL fdL ["_law_cell_here"] spLetE:=ok_letE DL.fn
 have bT:=DT.fn.binds (ps:=["_law_cell_here","_law_many"]) fun _ _ _ _ _ _ us hl=>by obtain ⟨v0,v1,rfl⟩:=L2.ln2 hl;rfl
 have bL:=DL.fn.binds (ps:=["_law_cell_here"]) fun _ _ _ _ _ _ us hl=>by obtain ⟨v0,rfl⟩:=L2.ln1 hl;rfl
 refine F.ok sc (fun vs H Q E h=>?_) (fun cdv A outer s H vs Q E hr h=>?_)
 ·obtain ⟨c,m,rfl,_⟩:=h
  rfl
 ·obtain ⟨c,m,rfl,m0,m12,q⟩:=h
  refine ⟨_,pss_cons (ps_set (i:=2) sc.nd rfl (Or.inr rfl) (pe_call GT hr (by rfl) DT.mg DT.fn.kp bT .nil pass0 (pa_cons (pv 0) (pa_cons pe_int pa_nil))))
   (pss_cons (ps_set (i:=3) sc.nd rfl (Or.inr rfl) pe_str)
   (pss_cons (ps_for PassesOwn.never rfl (pi_range1 rfl B.range (pa_cons pe_int pa_nil)) (pg_name (i:=4) sc.nd rfl (Or.inl rfl))
    (pss_one (ps_set (i:=3) sc.nd rfl (Or.inr rfl) (pe_op op_add_str (pv 3) (pe_call GL hr (by rfl) DL.mg DL.fn.kp bL .nil pass0 (pa_cons (pe_ix ix_list (pv 2) (pv 4) (fun _ _=>rfl)) pa_nil))))))
   (pss_cons (ps_if (PW.pt (pw_and (pt_cmpR op_eq (pe_op op_mod (pe_ix ix_list (pv 2) pe_int (fun _ _=>rfl)) pe_int) pe_int (nomark _)) (pw_and1 (pt_cmpR op_le (pv 1) pe_int (nomark _)))))
    (pss_one (ps_ret (pe_comp (osc:=defScope (top 38)) (N0:=nmN) (xs:=["_law_k"]) (fr:=[3,2]) ⟨rfl,by decide +kernel,by decide +kernel,by decide +kernel,(fun j hj=>by
       have e:j = 3\/j = 2:=by simpa using hj
       rcases e with rfl | rfl
       ·exact ⟨_,rfl,by decide +kernel⟩
       ·exact ⟨_,rfl,by decide +kernel⟩),by decide +kernel⟩ rfl rfl rfl (pi_range1 rfl B.range (pa_cons (pv 1) pa_nil))
      (fun s H fp=>pg_name (i:=0) (show (["_law_k","_law_base","_law_xs"]:List Str).Nodup by decide +kernel) rfl (Or.inl rfl)) (fun s H fp=>pif_nil)
      (fun s H fp=>pe_slice sl_str (pv 1) po_none (po_some (pe_op op_add pe_int (pe_op op_mod (pe_op op_add (pv 0) (pe_ix (r:=rIxL K) ix_list (pv 2) pe_int (fun _ _=>rfl))) pe_int))))))) pss_nil)
   (pss_cons (ps_set (i:=5) sc.nd rfl (Or.inl rfl) (pe_op op_add pe_int (pe_op op_mod (pe_ix ix_list (pv 2) pe_int (fun _ _=>rfl)) pe_int)))
   (pss_cons (ps_set (i:=6) sc.nd rfl (Or.inl rfl) (pe_op op_mod (pe_ix ix_list (pv 2) pe_int (fun _ _=>rfl)) (pv 5)))
   (pss_cons (ps_set (i:=7) sc.nd rfl (Or.inl rfl) (pe_lst pa_nil))
   (pss_cons (ps_for PassesOwn.never rfl (pi_range1 rfl B.range (pa_cons (pv 1) pa_nil)) (pg_name (i:=4) sc.nd rfl (Or.inl rfl))
    (pss_cons (ps_set (i:=8) sc.nd rfl (Or.inl rfl) (pe_call GL hr (by rfl) DL.mg DL.fn.kp bL .nil pass0 (pa_cons (pe_op op_add (pe_ix ix_list (pv 2) (pv 6) (fun _ _=>rfl)) (pv 4)) pa_nil)))
    (pss_one (ps_expr (pe_bm PySem.F.plainAttrs_list PySem.F.slot_list_append PySem.F.type_list_append mt_app (pv 7) (pa_cons (pe_op op_add_str (pe_op op_add_str (pe_slice sl_str (pv 3) po_none (po_some (pv 6))) (pv 8)) (pe_slice sl_str (pv 3) (po_some (pe_op op_add (pv 6) pe_int)) (po_some (pv 5)))) pa_nil))))))
   (pss_one (ps_ret (pv 7)))))))))),?_⟩
  refine ⟨_,rfl,c,11,rfl,(by decide),(by decide),fun x H1 l s1 hx hl11 hl=>?_⟩
  have hl':l.length = 11:=by omega
  have atl:∀ j:Nat,j < 11->∃ e:Int,atI (l.map V.int) (j:Int) = some (.int e)/\0 ≤ e/\e < 2147483647:=fun j hj=>by
   have hj':j < l.length:=by omega
   exact ⟨l[j],atI_nat (by rw [List.getElem?_map,List.getElem?_eq_getElem hj'];rfl),hl _ (List.getElem_mem hj')⟩
  refine ⟨_,rfl,(by decide),(by decide),for_range (fun i σ H'=>H' = H1/\∃ (b:Str) (u:Option V),σ = [some (.int c),some (.int m),some (.ref x),some (.str b),u,none,none,none,none]/\AllL b.cps.toList/\b.length = i) ⟨rfl,_,_,rfl,(fun c hc=>by
   have:("":Str).cps.toList = []:=by decide +kernel
   rw [this] at hc
   cases hc),by decide⟩ ?_ ?_⟩
  ·rintro i σ H' hi ⟨rfl,b,u,rfl,hb,hbl⟩
   have hi':i < 8:=by omega
   obtain ⟨e,he,_⟩:=atl i (by omega)
   have he':atI (l.map V.int) (0 + (i:Int)) = some (.int e):=by rw [Int.zero_add];exact he
   refine ⟨_,rfl,_,rfl,_,rfl,_,_,_,_,rfl,rfl,SqL.of hx,he',e,rfl,_,_,rfl,rfl,(by rw [sizeLine_eq];show b.length + 1 ≤ _;omega),rfl,_,_,rfl,?_,?_⟩
   ·intro c' hc'
    rw [Str.cps_append,Array.toList_append] at hc'
    rcases List.mem_append.mp hc' with h | h
    ·exact hb c' h
    ·have:c' = letN e:=by simpa using h
     rw [this]
     exact (letN_at e).2
   ·rw [Str.length_append,hbl]
    rfl
  ·rintro σ H' ⟨rfl,b,u,rfl,hb,hbl⟩
   have hb8:b.length = 8:=by omega
   have hbs:b.length ≤ sizeLine:=by rw [sizeLine_eq];omega
   obtain ⟨x8,a8,_⟩:=atl 8 (by decide)
   obtain ⟨x9,a9,x90,_⟩:=atl 9 (by decide)
   obtain ⟨x10,a10,x100,_⟩:=atl 10 (by decide)
   apply cutP
   ·intro sec
    refine ⟨_,rfl,_,_,8,_,rfl,rfl,SqL.of hx,a8,_,_,rfl,rfl,(pos rfl),rfl,_,rfl,?_⟩
    refine ite2 (fun h1=>?_) (fun _=>iteF sec)
    refine ⟨_,rfl,_,_,rfl,rfl,_,rfl,?_⟩
    refine ite2 (fun h2=>?_) (fun _=>sec)
    have m8:m ≤ 8:=of_decide_eq_true h2
    refine ⟨_,rfl,_,rfl,(by omega),(by omega),fun D hD=>?_⟩
    refine compW_map m.toNat (fun i=>.str (nmA b x9 i)) (fun i σ' Hc=>(∃ t,σ' = [t,some (.str b),some (.ref x)])/\Same H' Hc) (by rw [sizeLine_eq];omega) ⟨⟨none,rfl⟩,Same.upd hD⟩ upd_same ?_ ?_
    ·rintro i σ' Hc hi ⟨⟨t,rfl⟩,sm⟩ hD'
     have him:(i:Int) < m:=by omega
     refine ⟨hi,?_⟩
     rintro y H'' ⟨rfl,rfl⟩
     have hxc:=sm _ _ hx
     refine ⟨_,rfl,_,rfl,_,rfl,_,_,9,_,rfl,rfl,SqL.of hxc,a9,_,_,rfl,rfl,_,_,rfl,rfl,(pos rfl),_,_,rfl,rfl,_,rfl,_,rfl,hbs,?_⟩
     exact ⟨rfl,hD',⟨_,rfl⟩,sm.put hD⟩
    ·rintro σ' Hc ⟨_,sm⟩ hDn
     refine ⟨Nat.le_refl _,?_⟩
     have e1:(List.range m.toNat).map (fun i=>V.str (nmA b x9 i)) = ((List.range m.toNat).map (nmA b x9)).map V.str:=by rw [List.map_map];rfl
     rw [e1] at hDn
     refine q D Hc _ (s1.trans sm) hDn (by rw [List.length_map,List.length_range];omega) (nmA_nd hb8 hb (by omega)) (fun z hz=>?_)
     obtain ⟨i,_,rfl⟩:=List.mem_map.mp hz
     exact (nmA_ok hb8 hb).2.1
   ·have z0:=Int.emod_nonneg x9 (show (8:Int) ≠ 0 by decide)
    have z1:=Int.emod_lt_of_pos x9 (show (0:Int) < 8 by decide)
    have t0:=Int.emod_nonneg x10 (show (1 + x9 % 8:Int) ≠ 0 by omega)
    have t1:=Int.emod_lt_of_pos x10 (show (0:Int) < 1 + x9 % 8 by omega)
    refine ⟨_,rfl,_,_,9,_,rfl,rfl,SqL.of hx,a9,_,_,rfl,rfl,(pos rfl),_,_,rfl,rfl,?_⟩
    refine ⟨_,rfl,_,_,10,_,rfl,rfl,SqL.of hx,a10,_,rfl,_,_,rfl,rfl,(by omega),?_⟩
    refine ⟨Nat.zero_le _,fun d hd=>?_⟩
    have hx2:=(Same.upd (o:=.lst []) hd) _ _ hx
    have hd1:H d = none:=by
     cases e:H d with
     | none=>rfl
     | some o=>rw [s1 _ _ e] at hd;cases hd
    obtain ⟨n,hn⟩:=Int.eq_ofNat_of_zero_le t0
    obtain ⟨xa,axa,_⟩:=atl n (by omega)
    have axa':atI (l.map V.int) (x10 % (1 + x9 % 8)) = some (.int xa):=by rw [hn];exact axa
    refine ⟨_,rfl,_,rfl,(by omega),(by omega),for_range (fun i σ H2=>∃ (u4 u8:Option V),σ = [some (.int c),some (.int m),some (.ref x),some (.str b),u4,some (.int (1 + x9 % 8)),some (.int (x10 % (1 + x9 % 8))),some (.ref d),u8]/\Same H H2/\H2 x = some (.lst (l.map V.int))/\H2 d = some (.lst (((List.range i).map (nmB b xa (x10 % (1 + x9 % 8)) (1 + x9 % 8))).map V.str))) ⟨_,_,rfl,s1.trans (Same.upd hd),hx2,upd_same⟩ ?_ ?_⟩
    ·rintro i σ H2 hi ⟨u4,u8,rfl,s2,hx2,hd2⟩
     have hne:x ≠ d:=fun e=>by rw [e,hd] at hx;cases hx
     have l1:=Txt.slice_le b none (some (x10 % (1 + x9 % 8)))
     have l2:=Txt.slice_le b (some (x10 % (1 + x9 % 8) + 1)) (some (1 + x9 % 8))
     refine ⟨_,rfl,_,rfl,_,_,_,_,rfl,rfl,SqL.of hx2,axa',_,rfl,_,_,rfl,rfl,_,rfl,?_⟩
     refine ⟨_,rfl,.inl ⟨rfl,_,SqL.of hd2⟩,_,rfl,_,rfl,_,rfl,_,rfl,hbs,_,rfl,_,_,rfl,rfl,?_,_,rfl,_,rfl,_,_,rfl,rfl,_,rfl,_,rfl,_,rfl,_,rfl,hbs,_,_,rfl,rfl,?_,d,_,_,rfl,rfl,hd2,?_,?_⟩
     ·rw [sizeLine_eq];show _ + 1 ≤ _;omega
     ·rw [sizeLine_eq,Str.length_append];show _ + 1 + _ ≤ _;omega
     ·rw [List.length_map,List.length_map,List.length_range,sizeLine_eq];omega
     ·refine ⟨_,_,rfl,s2.put hd1,by rw [upd_ne hne];exact hx2,?_⟩
      rw [upd_same,List.range_succ,List.map_append,List.map_append]
      rfl
    ·rintro σ H2 ⟨u4,u8,rfl,s2,hx2,hd2⟩
     refine ⟨_,rfl,q d H2 _ s2 hd2 (by rw [List.length_map,List.length_range];omega) (nmB_nd hb8 hb t0 t1 (by omega) (by omega)) (fun z hz=>?_)⟩
     obtain ⟨i,_,rfl⟩:=List.mem_map.mp hz
     exact (nmB_ok hb8 hb t0 t1 (by omega)).2
end
end My
namespace L2
open PySem PySem.Spec PyProof.Rows PySem.Builtin PySem.Builtin.Dict
theorem tup_no_keys:typeLookup (.type "tuple") "keys" = pure none:=am_miss_of_fast (by decide +kernel)
theorem miss_keys {prog:Program} {w:World} {A:Around} {E:Value->Shared->Prop} {s:Shared} {a:Addr} {o:Obj} {xs:Array Value} {k:Nat} {Q:Option Value->Shared->Prop}
  (hx:s.heap.get? a = some o) (hc:o.cls = .type "tuple") (hdat:o.data = .seq xs k) (hd:o.dict = none) (hA:A.handled = none)
  (h:∀ h' tk,(∀ b ob,s.heap.get? b = some ob->h'.get? b = some ob)->Q none { s with heap:=h',toks:=tk }):wpAny (model prog w) A (getAttr? (.ref a) "keys") Q E s:=by
 obtain ⟨c,dct,dat,sl⟩:=o
 simp only at hc hdat hd
 subst hc hdat hd
 obtain ⟨hp,g,d,tk,os⟩:=s
 have hT:∀ tk',(⟨hp,g,d,tk',os⟩:Shared).TypeIs (.ref a) "tuple":=fun _=>⟨_,hx,rfl⟩
 have f1:=sub_AttributeError
 have f3:=F.slot_tuple_getattribute.lookup
 have f4:=F.slot_tuple_getattribute.bind (.ref a)
 have f5:=am_tuple_getattr_none
 unfold getAttr? getAttrBy? getAttrBy
 repeat (any_goals (first | assumption | exact hT _ | ((with_reducible show wpAny _ _ (call (Value.builtin "tuple.__getattribute__") _ _) _ _ _);refine call_meets F.slot_tuple_getattribute (hT _) am_entry_tuple_getattribute (F.args_tuple_getattribute_2 _ _) (meets_getattribute_miss_tuple a xs k sl "keys" _ tup_no_keys (by decide +kernel) (by size_fits)) ⟨hx,hA,fun h' tk' e hx'=>?_⟩) | wp_step))
 obtain ⟨t',u',he⟩:=hx'.there
 show wpAny _ _ (getattributeRaised _ _ _ _ _ _ _) _ _ _
 unfold getattributeRaised
 repeat (any_goals (first | assumption | wp_step))
 exact h _ _ hx'.keeps
theorem entry_upd_loop:entryFor table "dict.update.loop" = some Builtin.«dict.update.loop»:=entryFor_of_tree (by kernel_rfl)
section
variable {prog:Program} {w:World} {A:Around} {R:Result->Shared->Prop}
theorem upd_loop {h0:Heap} {d it t:Addr} {items:Array Value} {ps:List (Key × Value)} (hh:A.handled = none) (ht:h0.IsTuple t items) (tne:t ≠ it/\t ≠ d) (idne:it ≠ d) (hl:ps.length = items.size) (hz:items.size ≤ 1000)
  (hp:∀ (j:Nat) (k:Key) (v:Value),ps[j]? = some (k,v)->∃ a o key n,items[j]? = some (.ref a)/\h0.get? a = some o/\o.cls = .type "tuple"/\o.data = .seq #[key,v] n/\(mixKind prog w).is k key = true/\a ≠ it/\a ≠ d)
  (nd:(ps.map (·.1)).Nodup):∀ (m i:Nat) (tk:Tok) (s:Shared),i + m = items.size->s.heap.IsTupleIter it t i->s.heap.DictOf (mixKind prog w) d (ps.take i)->(∀ b o,b ≠ it->b ≠ d->h0.get? b = some o->s.heap.get? b = some o) →
  (∀ (h':Heap) (k:Nat),h'.DictOf (mixKind prog w) d ps->(∀ b o,b ≠ it->b ≠ d->h0.get? b = some o->h'.get? b = some o)->R (.ok (.ret .none)) { s with heap:=h',toks:=k }) →
  codeAny (model prog w) A (.builtin "dict.update.loop" ⟨[.ref d,.ref it,.int i tk,.none],[]⟩) R s
 | 0,i,tk,s,hi,hit,hd,kp,hq=>by
  refine codeAny_builtin entry_upd_loop ?_
  unfold Builtin.«dict.update.loop»
  dsimp only
  obtain ⟨o,ho,hc,n,hdt⟩:=id ht
  refine wpAny_bind (wpAny_pyNext_tuple_end (items:=items) hh hit ⟨o,kp t o tne.1 tne.2 ho,hc,n,hdt⟩ (by rw [Array.getElem?_eq_none (by omega)]) fun h' ex=>?_)
  dsimp only
  refine wpAny_bind (wpAny_pure (wpAny_pure ?_))
  have e:ps.take i = ps:=List.take_of_length_le (by omega)
  rw [e] at hd
  exact hq h' s.toks (hd.extBut ex idne.symm) fun b o hb1 hb2 q=>ex b o hb1 (kp b o hb1 hb2 q)
 | m + 1,i,tk,s,hi,hit,hd,kp,hq=>by
  refine codeAny_builtin entry_upd_loop ?_
  unfold Builtin.«dict.update.loop»
  dsimp only
  obtain ⟨o,ho,hc,n,hdt⟩:=id ht
  obtain ⟨⟨k,v⟩,hk⟩:∃ kv,ps[i]? = some kv:=⟨_,List.getElem?_eq_getElem (by omega)⟩
  obtain ⟨a,oa,key,na,e1,e2,e3,e4,e5,e6,e7⟩:=hp i k v hk
  refine wpAny_bind (wpAny_pyNext_tuple_item (items:=items) hit ⟨o,kp t o tne.1 tne.2 ho,hc,n,hdt⟩ e1 fun h1 it1 sb=>?_)
  dsimp only
  have ha1:h1.get? a = some oa:=(sb.2 a e6).trans (kp a oa e6 e7 e2)
  have hd1:h1.DictOf (mixKind prog w) d (ps.take i):=by
   obtain ⟨od,es,ep,g,r⟩:=hd
   exact ⟨od,es,ep,(sb.2 d idne.symm).trans g,r⟩
  refine wpAny_bind (wpAny_holding (wpAny_bind (wpAny_tryCatch ?_)))
  unfold Dict.pairItems
  refine wpAny_bind (wpAny_typeOf (T:="tuple") ⟨oa,ha1,e3⟩ ?_)
  rw [if_pos (by decide)]
  refine wpAny_bind (wpAny_seqItems ha1 e4 (wpAny_pure ?_))
  show wpAny _ _ (holding [key,v] (dictSet d key v)) _ _ _
  refine wpAny_holding (wpAny_dictSet_pairs (knd:=mixKind prog w) (k:=k) e5 hd1 (fun h2 hd2 sb2=>?_) (by rw [List.length_take,sizeLine_eq];omega))
  refine wpAny_pure ⟨Code.quiet_builtin _ (by decide +kernel),?_⟩
  have es:stored (ps.take i) k v = ps.take (i + 1):=by
   have no:((ps.take i).any fun kv=>decide (kv.1 = k)) = false:=by
    rw [List.any_eq_false]
    intro kv hkv
    rw [decide_eq_true_iff]
    intro ek
    obtain ⟨j,hj,ej⟩:=List.mem_take_iff_getElem.mp hkv
    have hj2:j < ps.length:=by omega
    have hij:j < i:=by omega
    have hi2:i < ps.length:=by omega
    have ei:ps[i] = (k,v):=(List.getElem?_eq_some_iff.mp hk).2
    refine List.pairwise_iff_getElem.mp nd j i (by simpa using hj2) (by simpa using hi2) hij ?_
    rw [List.getElem_map,List.getElem_map,ej,ei,ek]
   unfold stored
   rw [if_neg (by rw [no];decide),List.take_add_one,hk]
   rfl
  rw [es] at hd2
  exact upd_loop hh ht tne idne hl hz hp nd m (i + 1) _ _ (by omega) (by
   obtain ⟨oi,g1,g2⟩:=it1
   exact ⟨oi,(sb2.2 it idne).trans g1,g2⟩) hd2 (fun b o hb1 hb2 q=>(sb2.2 b hb2).trans ((sb.2 b hb1).trans (kp b o hb1 hb2 q))) fun h' k' x y=>hq h' k' x y
end
theorem pick {α β:Type}:∀ (l:List α) (P:Nat->α->β->Prop),(∀ (j:Nat) (x:α),l[j]? = some x->∃ u,P j x u)->∃ us:List β,us.length = l.length/\∀ (j:Nat) (x:α),l[j]? = some x->∃ u,us[j]? = some u/\P j x u
 | [],_,_=>⟨[],rfl,fun j x e=>by simp at e⟩
 | y :: l,P,h=>by
  obtain ⟨u,hu⟩:=h 0 y rfl
  obtain ⟨us,hl,hs⟩:=pick l (fun j=>P (j + 1)) fun j x e=>h (j + 1) x (by simpa using e)
  refine ⟨u :: us,by simp [hl],fun j x e=>?_⟩
  cases j with
  | zero=>
   simp at e
   subst e
   exact ⟨u,rfl,hu⟩
  | succ j=>
   obtain ⟨v,h1,h2⟩:=hs j x (by simpa using e)
   exact ⟨v,by simpa using h1,h2⟩
theorem kv_of:∀ {kvs:List (Key × V)} {ps:List (Key × Value)},ps.length = kvs.length->(∀ (j:Nat) (k:Key) (v:V),kvs[j]? = some (k,v)->∃ u,ps[j]? = some (k,u)/\RelV v u)->KV kvs ps
 | [],[],_,_=>.nil
 | [],_ :: _,h,_=>by simp at h
 | _ :: _,[],h,_=>by simp at h
 | (k,v) :: kvs,(k',u') :: ps,h,f=>by
  obtain ⟨u,e,r⟩:=f 0 k v rfl
  simp at e
  obtain ⟨rfl,rfl⟩:=e
  exact .cons ⟨rfl,r⟩ (kv_of (by simpa using h) fun j k v e=>f (j + 1) k v (by simpa using e))
end L2
namespace L2
open PySem PySem.Spec PyProof.Rows PySem.Builtin PySem.Builtin.Dict
section
variable {X:Cx}
theorem call_tupleF:CallR X (.type "tuple") (fun xs H Q=>∃ p ys,xs = [.ref p]/\SqL X.K H p ys/\∀ l o,H l = none->o.dict = none->Q (.ref l) (upd H l (.frz o (.tup ys)))):=by
 intro pins s σ H xs us Q I r h
 obtain ⟨p,ys,rfl,hq,q⟩:=h
 obtain ⟨u,rfl,rx⟩:=vals1 r
 cases rx
 obtain ⟨its,r',pl,hz⟩:=I.list hq
 have hlen:=r'.length
 refine call_tuple_list pl.isList (fun h' kp=>?_) (by simp only [List.size_toArray] <;> omega)
 have I1:Inv X pins σ H { s with heap:=h' }:=I.kept (t':=s.toks) kp
 have I2:Inv X pins σ (upd H h'.objs.size (.frz { cls:=.type "tuple",data:=.seq its.toArray } (.tup ys))) { s with heap:=h'.push { cls:=.type "tuple",data:=.seq its.toArray } }:=
  I1.laid (t':=s.toks) (fun b o e=>Heap.get?_push_of_some _ e) (Nat.le_refl _) (show ObjOk X.prog X.w _ _ _ (.frz _ (.tup ys)) from ⟨Heap.get?_push_size _ rfl,hz,its,r',IsTup.new _ _⟩)
 exact ⟨.ref h'.objs.size,_,I2,rfl,q _ _ (I1.hok.fresh (Nat.le_refl _)) rfl⟩
theorem call_dictT (hc:X.calm = true):CallR X (.type "dict") (fun xs H Q=>∃ (t:Addr) (o:Obj) (ys:List V) (kvs:List (Key × V)),xs = [.ref t]/\H t = some (.frz o (.tup ys))/\o.dict = none/\ys.length ≤ 1000/\kvs.length = ys.length ∧
  (∀ (j:Nat) (k:Key) (v:V),kvs[j]? = some (k,v)->∃ a,ys[j]? = some (.ref a)/\SqT X.K H a [kV k,v])/\(kvs.map (·.1)).Nodup/\∀ p,H p = none->Q (.ref p) (upd H p (.dK kvs))):=by
 intro pins s σ H xs us Q I r h
 obtain ⟨t,o,ys,kvs,rfl,ht,hod,hys,hkl,hp,nd,q⟩:=h
 obtain ⟨u,rfl,rx⟩:=vals1 r
 cases rx
 obtain ⟨g,hz,its,r',tp⟩:=I.hok t _ ht
 obtain ⟨o',g',hcl,n,hdat⟩:=tp
 rw [g] at g'
 cases g'
 have hlen:=r'.length
 have hh:=I.ok.hd hc
 have hpk:∃ ps:List (Key × Value),ps.length = kvs.length/\∀ (j:Nat) (kv:Key × V),kvs[j]? = some kv->∃ u,ps[j]? = some u/\(u.1 = kv.1/\RelV kv.2 u.2/\∃ a oa key na,its[j]? = some (.ref a)/\s.heap.get? a = some oa/\oa.cls = .type "tuple"/\oa.data = .seq #[key,u.2] na/\(mixKind X.prog X.w).is kv.1 key = true):=by
  refine pick kvs (fun (j:Nat) (kv:Key × V) (u:Key × Value)=>u.1 = kv.1/\RelV kv.2 u.2/\∃ a oa key na,its[j]? = some (.ref a)/\s.heap.get? a = some oa/\oa.cls = .type "tuple"/\oa.data = .seq #[key,u.2] na/\(mixKind X.prog X.w).is kv.1 key = true) fun j kv hj=>?_
  obtain ⟨k,v⟩:=kv
  obtain ⟨a,ea,sq⟩:=hp j k v hj
  obtain ⟨jts,rj,pj,_⟩:=I.tuple sq
  cases rj with
  | @cons _ j1 _ jr rk rr=>cases rr with
   | @cons _ j2 _ jr2 rv rr2=>
    cases rr2
    obtain ⟨oa,ga,ca,na,da⟩:=pj
    refine ⟨(k,j2),rfl,rv,a,oa,j1,na,?_,ga,ca,da,kV_is rk⟩
    obtain ⟨w,ew,rw1⟩:=Vals.get r' ea
    cases rw1
    exact ew
 obtain ⟨ps,hpl,hps⟩:=hpk
 have gt:s.heap.get? t = some o:=g
 have tlt:t < s.heap.objs.size:=Heap.lt_size gt
 refine callType_codes (Q₁:=fun obj s₁=>obj = .ref s.heap.objs.size/\s₁ = { s with heap:=s.heap.push { cls:=.type "dict",data:=.dict #[] } }) F.kt_called_dict (F.kt_typeCall_dict_1 _) F.entry_dict_init (kt_code_dict_new _ ⟨rfl,rfl⟩) ?_
 rintro obj s₁ ⟨rfl,rfl⟩
 have hnew:(s.heap.push { cls:=.type "dict",data:=.dict #[] }).DictOf (mixKind X.prog X.w) s.heap.objs.size []:=Heap.DictOf.new s.heap
 have gt1:(s.heap.push { cls:=.type "dict",data:=.dict #[] }).get? t = some o:=Heap.get?_push_of_some _ gt
 refine ⟨hnew.typeIs,F.args_dict_init_2 _ _,?_⟩
 unfold Builtin.«dict.__init__»
 refine wpAny_bind ?_
 unfold Builtin.Dict.selfAndRest
 refine wpAny_bind (wpAny_notOrdered_dict hnew.typeIs ?_)
 show wpAny _ _ (pure (s.heap.objs.size,[Value.ref t])) _ _ _
 refine wpAny_pure ?_
 show wpAny _ _ (Builtin.Dict.updateFrom "dict.__init__" s.heap.objs.size (.ref t) [] .none) _ _ _
 unfold Builtin.Dict.updateFrom
 refine wpAny_bind (wpAny_typeOf (T:="tuple") ⟨o,gt1,hcl⟩ ?_)
 rw [if_pos (by decide)]
 refine wpAny_bind (miss_keys (o:=o) (xs:=its.toArray) (k:=n) gt1 hcl hdat hod hh fun h1 tk1 kp1=>?_)
 rw [if_pos (show (none:Option Value).isNone = true from rfl)]
 have kp:∀ b ob,s.heap.get? b = some ob->h1.get? b = some ob:=fun b ob e=>kp1 b ob (Heap.get?_push_of_some _ e)
 have gt2:=kp t o gt
 have gd2:h1.get? s.heap.objs.size = some { cls:=.type "dict",data:=.dict #[] }:=kp1 _ _ (Heap.get?_push_size _ rfl)
 have dlt:s.heap.objs.size < h1.objs.size:=Heap.lt_size gd2
 have dd1:h1.DictOf (mixKind X.prog X.w) s.heap.objs.size []:=by
  obtain ⟨od,es,ep,gg,rr⟩:=hnew
  exact ⟨od,es,ep,kp1 _ _ gg,rr⟩
 refine wpAny_bind (wpAny_rule ?_)
 refine wpAny_bind (wpAny_pyIter_tuple (items:=its.toArray) ⟨o,gt2,hcl,n,hdat⟩ ?_)
 refine wpAny_pure ⟨Code.quiet_builtin _ (by decide +kernel),?_⟩
 have epl:ps.length = its.toArray.size:=by simp;omega
 have fsts:ps.map (·.1) = kvs.map (·.1):=by
  refine List.ext_getElem (by simp [hpl]) fun j h1 h2=>?_
  rw [List.getElem_map,List.getElem_map]
  rw [List.length_map] at h1 h2
  obtain ⟨u,eu,e1,_⟩:=hps j kvs[j] (List.getElem?_eq_getElem h2)
  rw [List.getElem?_eq_getElem h1] at eu
  cases eu
  exact e1
 refine upd_loop (A:=X.A.in1) (ps:=ps) (items:=its.toArray) (h0:=h1.push { cls:=.type "tuple_iterator",data:=.fields #[.ref t,.int 0 0] }) (t:=t) (d:=s.heap.objs.size) (it:=h1.objs.size) (show X.A.in1.handled = none from hh) ⟨o,Heap.get?_push_of_some _ gt2,hcl,n,hdat⟩ ⟨Nat.ne_of_lt (Nat.lt_trans tlt dlt),Nat.ne_of_lt tlt⟩ (Nat.ne_of_gt dlt) epl (by rw [← epl,hpl,hkl];exact hys) (fun j k v hj=>?_) (by rw [fsts];exact nd) its.toArray.size 0 _ { s with heap:=h1.push { cls:=.type "tuple_iterator",data:=.fields #[.ref t,.int 0 0] },toks:=tk1 } (by omega) ⟨_,Heap.get?_push_size _ rfl,rfl,rfl⟩ (dd1.push _) (fun b o _ _ e=>e) (fun h2 k2 dd2 kp2=>?_)
 ·have hjl:j < kvs.length:=by
   have:=(List.getElem?_eq_some_iff.mp hj).1
   omega
  obtain ⟨u,eu,e1,e2,a,oa,key,na,e3,e4,e5,e6,e7⟩:=hps j kvs[j] (List.getElem?_eq_getElem hjl)
  rw [hj] at eu
  cases eu
  have alt:=Heap.lt_size e4
  refine ⟨a,oa,key,na,by simpa using e3,Heap.get?_push_of_some _ (kp a oa e4),e5,e6,?_,Nat.ne_of_lt (Nat.lt_trans alt dlt),Nat.ne_of_lt alt⟩
  rw [show k = kvs[j].1 from e1]
  exact e7
 ·refine ⟨rfl,.ref s.heap.objs.size,_,?_,rfl,q s.heap.objs.size (I.hok.fresh (Nat.le_refl _))⟩
  have rel:KV kvs ps:=kv_of hpl fun j k v e=>by
   obtain ⟨u,eu,e1,e2,_⟩:=hps j (k,v) e
   obtain ⟨u1,u2⟩:=u
   cases (show u1 = k from e1)
   exact ⟨u2,eu,e2⟩
  refine I.laid (a:=s.heap.objs.size) (o:=.dK kvs) (fun b qo hb=>?_) (Nat.le_refl _) (dk_new (by rw [sizeLine_eq];omega) (beq_eq_false_iff_ne.mpr (Ne.symm (Nat.ne_of_lt I.big))) rel dd2)
  have blt:=Heap.lt_size hb
  exact kp2 b qo (Nat.ne_of_lt (Nat.lt_trans blt dlt)) (Nat.ne_of_lt blt) (Heap.get?_push_of_some _ (kp b qo hb))
end
end L2
namespace L2
open PySem PySem.Spec PyProof.Rows
theorem sIx_at {n d:Nat} {k:Int} (h0:0 ≤ k) (h1:k ≤ n):HT.sIx n d (some k) = k.toNat:=by
 have e:=HT.clip_eq k n d
 rw [if_neg (by omega)] at e
 omega
theorem cut_to {xs:List V} {k:Int} (h0:0 ≤ k) (h1:k ≤ xs.length):cutV xs none (some k) = xs.take k.toNat:=by
 unfold cutV
 rw [sIx_at h0 h1,HT.sIx_none,List.drop_zero,Nat.sub_zero]
theorem cut_from {xs:List V} {k:Int} (h0:0 ≤ k) (h1:k ≤ xs.length):cutV xs (some k) none = xs.drop k.toNat:=by
 unfold cutV
 rw [sIx_at h0 h1,HT.sIx_none]
 refine List.take_of_length_le ?_
 rw [List.length_drop]
 omega
theorem compW_idx {J:It} {g:TG} {te:TE} {R:Addr->Hp->Prop} {D:Addr} {σ0:St} {H0:Hp} (n:Nat) (Pv:Nat->List V->St->Hp->Prop) (hn:n ≤ sizeLine) (h0:Pv 0 [] σ0 H0) (hD0:H0 D = some (.lst []))
  (hs:∀ i σ H ys,i < n->Pv i ys σ H->ys.length = i->H D = some (.lst ys)->J.go i H/\∀ x H',J.yld i H x H'->g x σ H' fun σ2 H2=>te σ2 H2 fun y H4=>H4 D = some (.lst ys)/\Pv (i + 1) (ys ++ [y]) σ2 (upd H4 D (.lst (ys ++ [y]))))
  (hd:∀ σ H ys,Pv n ys σ H->H D = some (.lst ys)->ys.length = n->J.stop n H/\R D H):CompW J g tYes te R D σ0 H0:=by
 refine ⟨fun i m σ H=>m = n - i/\i ≤ n/\∃ ys,Pv i ys σ H/\H D = some (.lst ys)/\ys.length = i,⟨n,by omega,Nat.zero_le _,[],h0,hD0,rfl⟩,?_⟩
 rintro i m σ H ⟨rfl,hi,ys,p,hD,hl⟩
 by_cases hlt:i < n
 ·obtain ⟨go,st⟩:=hs i σ H ys hlt p hl hD
  refine .inr ⟨go,fun σ2 y H4=>H4 D = some (.lst ys)/\Pv (i + 1) (ys ++ [y]) σ2 (upd H4 D (.lst (ys ++ [y]))),fun _ _=>False,?_,fun _ _ z=>z.elim,st⟩
  rintro σ2 y H4 ⟨e,p'⟩
  exact ⟨_,e,by rw [hl];omega,n - (i + 1),by omega,rfl,hlt,_,p',upd_same,by simp [hl]⟩
 ·have e:i = n:=by omega
  subst e
  exact .inl (hd σ H ys p hD hl)
end L2
namespace My
open PySem L2 PyProof.Rows
seal L2.PE L2.PT L2.PW L2.PS L2.PSs L2.PA L2.PI L2.PG L2.PGs L2.OpR L2.UnR L2.CallR L2.IxR L2.SlR L2.MtR L2.PIf L2.PO L2.MtM L2.PC
def sides:List Str:=["twin","many","some"]
def spAskS:Sp:=fun vs H Q _=>∃ (p:Addr) (ss:List Str),vs = [.ref p]/\H p = some (.lst ((("head":Str) :: ss).map V.str))/\(∀ z ∈ ss,z ∈ sides)/\∀ H',Same H H'->Q .non H'
def spAskN:Sp:=fun vs H Q _=>∃ (p:Addr) (zs:List Str),vs = [.ref p]/\H p = some (.lst (zs.map V.str))/\zs.Nodup/\(∀ z ∈ zs,nameS z = true)/\∀ H',Same H H'->Q .non H'
def kvC (cols:List (Str × V)):List (Key × V):=cols.map fun p=>(.inr p.1,p.2)
def vOf (cols:List (Str × V)) (z:Str):V:=(valV (kvC cols) (.inr z)).getD .non
mutual
def noDc0:Dt->Bool
 | .dct=>false
 | .tup ds=>noDc0s ds
 | .lst _=>false
 | .non=>true
 | .bl _=>true
 | .int _=>true
 | .str _=>true
def noDc0s:List Dt->Bool
 | []=>true
 | d :: ds=>noDc0 d && noDc0s ds
end
mutual
theorem Rep.besid0 {H:Hp} {a:Addr} {u:HO} (e:∀ xs,H a ≠ some (.tup xs)):∀ {d:Dt} {v:V},noDc0 d = true->Rep H d v->Rep (L2.upd H a u) d v
 | .non,v,_,h=>by unfold Rep at h ⊢;exact h
 | .bl b,v,_,h=>by unfold Rep at h ⊢;exact h
 | .int i,v,_,h=>by unfold Rep at h ⊢;exact h
 | .str z,v,_,h=>by unfold Rep at h ⊢;exact h
 | .tup ds,v,n,h=>by
  unfold Rep at h ⊢
  obtain ⟨b,xs,h1,h2,h3⟩:=h
  have hne:b ≠ a:=fun q=>e _ (by rw [← q];exact h2)
  exact ⟨b,xs,h1,by rw [upd_ne hne];exact h2,Reps.besid0 e (by simpa [noDc0] using n) h3⟩
 | .lst ds,v,n,h=>by simp [noDc0] at n
 | .dct,v,n,h=>by simp [noDc0] at n
theorem Reps.besid0 {H:Hp} {a:Addr} {u:HO} (e:∀ xs,H a ≠ some (.tup xs)):∀ {ds:List Dt} {vs:List V},noDc0s ds = true->Reps H ds vs->Reps (L2.upd H a u) ds vs
 | [],vs,_,h=>by unfold Reps at h ⊢;exact h
 | d :: ds,vs,n,h=>by
  unfold Reps at h ⊢
  obtain ⟨v,ws,h1,h2,h3⟩:=h
  have n':noDc0 d = true/\noDc0s ds = true:=by simpa [noDc0s] using n
  exact ⟨v,ws,h1,Rep.besid0 e n'.1 h2,Reps.besid0 e n'.2 h3⟩
end
def sgsS:List Str:=[" ","-",",",":",";",".","!","#"]
def drP:Dt->Bool
 | .tup [_,.str y]=>decide (y ∈ sgsS)
 | _=>true
def drD:Dt->Bool
 | .tup [_,.tup ds]=>drP (.tup ds)
 | d=>drP d
def noDct (d:Dt):Bool:=noDc0 d && drD d
theorem noDct_0 {d:Dt} (h:noDct d = true):noDc0 d = true:=by
 unfold noDct at h
 rw [Bool.and_eq_true] at h
 exact h.1
theorem noDct_dr {d:Dt} (h:noDct d = true):drD d = true:=by
 unfold noDct at h
 rw [Bool.and_eq_true] at h
 exact h.2
theorem Rep.beside {H:Hp} {a:Addr} {u:HO} (e:∀ xs,H a ≠ some (.tup xs)) {d:Dt} {v:V} (n:noDct d = true) (h:Rep H d v):Rep (L2.upd H a u) d v:=Rep.besid0 e (noDct_0 n) h
def ColsOk (H:Hp) (cols:List (Str × V)):Prop:=(cols.map (·.1)).Nodup/\cols.length ≤ 12/\∀ p ∈ cols,nameS p.1 = true/\∃ d,Rep H d p.2/\kindD d = true/\noDct d = true
theorem ColsOk.same {H H':Hp} {cols:List (Str × V)} (h:ColsOk H cols) (e:Same H H'):ColsOk H' cols:=⟨h.1,h.2.1,fun p hp=>⟨(h.2.2 p hp).1,let ⟨d,h1,h2⟩:=(h.2.2 p hp).2;⟨d,h1.same e,h2⟩⟩⟩
theorem val_in:∀ {cols:List (Str × V)} {z:Str},z ∈ cols.map (·.1)->valV (kvC cols) (.inr z) = some (vOf cols z)
 | [],z,h=>nomatch h
 | p :: r,z,h=>by
  unfold vOf
  by_cases e:p.1 = z
  ·rw [show kvC (p :: r) = (.inr p.1,p.2) :: kvC r from rfl,valV_pos (by rw [e])]
   rfl
  ·have hz:z ∈ r.map (·.1):=by
    rcases List.mem_cons.mp h with h | h
    ·exact absurd h.symm e
    ·exact h
   rw [show kvC (p :: r) = (.inr p.1,p.2) :: kvC r from rfl,valV_neg (fun h=>e (by injection h)),val_in hz]
   rfl
def ColsAt (H:Hp) (t:Addr) (cols:List (Str × V)):Prop:=∃ (o:Obj) (ps:List Addr) (zs:List Str),zs.Perm (cols.map (·.1))/\sortedS zs = true/\o.dict = none/\H t = some (.frz o (.tup (ps.map V.ref)))/\ps.length = zs.length/\∀ (j:Nat) (p:Addr) (z:Str),ps[j]? = some p->zs[j]? = some z->H p = some (.tup [.str z,vOf cols z])
theorem ColsAt.same {H H':Hp} {t:Addr} {cols:List (Str × V)} (h:ColsAt H t cols) (e:Same H H'):ColsAt H' t cols:=by
 obtain ⟨o,ps,zs,h1,h2,h3,h4,h5,h6⟩:=h
 exact ⟨o,ps,zs,h1,h2,h3,e _ _ h4,h5,fun j p z a b=>e _ _ (h6 j p z a b)⟩
def spColM:Sp:=fun vs H Q _=>∃ (a:Addr) (cols:List (Str × V)),vs = [.ref a]/\H a = some (.dK (kvC cols))/\ColsOk H cols/\∀ t H',Same H H'->ColsAt H' t cols->Q (.ref t) H'
section
variable {P:Program} {w:World} {K:PySem.W.Frag} {mg:Str->Option Value} {base:Heap}
theorem ok_askS {f sA:Addr} {fd:FuncData} (F:Fun K "ask_sorts" "ask_sorts" (top 22) f fd) (mS:mg "SIDE_SORTS" = some (.ref sA)) (qS:∀ H,SqT K H sA (sides.map V.str)):FnOk P w K mg base CX0 1 f fd ["sorts"] spAskS:=by
 have sc:FnScope ["sorts","sort"] ["sorts"] (defScope (top 22)):=⟨rfl,rfl,rfl,by decide +kernel,rfl,by decide +kernel,by decide +kernel⟩
 refine F.ok sc (fun vs H Q E h=>?_) (fun cdv A outer s H vs Q E hr h=>?_)
 ·obtain ⟨p,ss,rfl,_⟩:=h
  rfl
 ·obtain ⟨p,ss,rfl,hp,hss,q⟩:=h
  have hu:(A.deeper (envOfC "ask_sorts" (defScope (top 22)) s.heap.objs.size f cdv)).units + 1 < cLine:=hu_of hr
  refine ⟨_,pss_cons (ps_if (pt_cmpR op_neL (pe_slice sl_list (pv 0) po_none (po_some pe_int)) (pe_lst (pa_cons pe_str pa_nil)) (nomark _)) pss_never pss_nil)
   (pss_one (ps_for PassesOwn.never rfl (pi_list (pe_slice sl_list (pv 0) (po_some pe_int) po_none)) (pg_name (i:=1) sc.nd rfl (Or.inl rfl))
    (pss_one (ps_if (pt_cmpR op_notIn_seq (pv 1) (pe_glob (v:=.ref sA) (by rfl) mS rfl) (by with_unfolding_all rfl)) pss_never pss_nil)))),?_⟩
  refine ⟨_,rfl,_,rfl,p,_,rfl,SqL.of hp,fun p1 e1=>?_⟩
  rw [cut_to (by decide) (by rw [List.length_map,List.length_cons];omega)]
  have T1:=Same.upd (o:=.lst [V.str "head"]) e1
  refine ⟨(by show 1 ≤ sizeLine;decide),fun p2 e2=>?_⟩
  have T2:=Same.upd (o:=.lst [V.str "head"]) e2
  refine ⟨0,p1,p2,[V.str "head"],[V.str "head"],rfl,rfl,SqL.of (T2 _ _ upd_same),SqL.of upd_same,rfl,(fun i x y h1 h2=>?_),hu,_,rfl,?_⟩
  ·rw [h1] at h2
   cases h2
   have:x = V.str "head":=by simpa using List.mem_of_getElem? h1
   rw [this]
   exact .str
  refine iteF ?_
  have S2:=T1.trans T2
  refine ⟨_,rfl,_,rfl,p,_,rfl,SqL.of (S2 _ _ hp),fun p3 e3=>?_⟩
  rw [cut_from (by decide) (by rw [List.length_map,List.length_cons];omega)]
  have T3:=Same.upd (o:=.lst (ss.map V.str)) e3
  refine ⟨p3,rfl,⟨_,SqL.of upd_same⟩,for_list (K:=K) (a:=p3) (xs:=ss.map V.str) (fun j σ H4=>H4 = upd _ p3 (.lst (ss.map V.str))/\∃ u,σ = [some (.ref p),u]) ⟨rfl,_,rfl⟩ (fun j σ H4 _ pp=>by rw [pp.1];exact SqL.of upd_same) ?_ ?_⟩
  ·rintro j x σ H4 hx ⟨rfl,u,rfl⟩
   obtain ⟨z,hz,rfl⟩:=List.mem_map.mp (List.mem_of_getElem? hx)
   refine ⟨_,rfl,sA,_,rfl,.inr (qS _),rfl,(by decide),_,rfl,?_⟩
   have hin:inV (.str z) (sides.map V.str) = true:=by
    have:∀ z ∈ sides,inV (.str z) (sides.map V.str) = true:=by decide +kernel
    exact this z (hss z hz)
   refine iteC (by rw [hin];rfl) ?_
   exact ⟨rfl,_,rfl⟩
  ·rintro σ H4 ⟨rfl,u,rfl⟩
   exact q _ (S2.trans T3)
theorem ok_askN {f fN:Addr} {fd fdN:FuncData} (F:Fun K "ask_names" "ask_names" (top 23) f fd) (DN:Df K mg "is_name" (top 10) fN fdN) (GN:FnOk P w K mg base CX0 1 fN fdN ["thing"] (spName K)):FnOk P w K mg base CX0 2 f fd ["names"] spAskN:=by
 have sc:FnScope ["names","name"] ["names"] (defScope (top 23)):=⟨rfl,rfl,rfl,by decide +kernel,rfl,by decide +kernel,by decide +kernel⟩
 have bN:=DN.fn.binds (ps:=["thing"]) fun _ _ _ _ _ _ us hl=>by obtain ⟨v0,rfl⟩:=L2.ln1 hl;rfl
 refine F.ok sc (fun vs H Q E h=>?_) (fun cdv A outer s H vs Q E hr h=>?_)
 ·obtain ⟨p,zs,rfl,_⟩:=h
  rfl
 ·obtain ⟨p,zs,rfl,hp,nd,hz,q⟩:=h
  refine ⟨_,pss_one (ps_for PassesOwn.never rfl (pi_list (pv 0)) (pg_name (i:=1) sc.nd rfl (Or.inl rfl))
    (pss_cons (ps_if (pt_not (pt_val (pe_call GN hr (by rfl) DN.mg DN.fn.kp bN .nil pass0 (pa_cons (pv 1) pa_nil)))) pss_never pss_nil)
    (pss_one (ps_if (pt_cmpR op_gt (pe_bm PySem.F.plainAttrs_list PySem.F.slot_list_count PySem.F.type_list_count mt_count (pv 0) (pa_cons (pv 1) pa_nil)) pe_int (nomark _)) pss_never pss_nil)))),?_⟩
  refine ⟨_,rfl,p,rfl,⟨_,SqL.of hp⟩,for_list (K:=K) (a:=p) (xs:=zs.map V.str) (fun j σ H4=>Same H H4/\∃ u,σ = [some (.ref p),u]) ⟨Same.refl H,_,rfl⟩ (fun j σ H4 _ pp=>SqL.of (pp.1 _ _ hp)) ?_ ?_⟩
  ·rintro j x σ H4 hx ⟨s4,u,rfl⟩
   obtain ⟨z,hzm,rfl⟩:=List.mem_map.mp (List.mem_of_getElem? hx)
   have h8:z.length ≤ 8:=by
    have:=hz z hzm
    unfold nameS at this
    exact (of_decide_eq_true (Bool.and_eq_true_iff.mp this).1).2
   refine ⟨_,rfl,_,_,rfl,Is.str,(fun z' e=>?_),(fun h=>absurd rfl h)⟩
   cases e
   refine ⟨by rw [sizeLine_eq];omega,fun H5 s5=>⟨_,rfl,?_⟩⟩
   rw [hz z hzm]
   refine iteF ?_
   have hp5:=s5 _ _ (s4 _ _ hp)
   refine ⟨_,rfl,.inl ⟨rfl,_,SqL.of hp5⟩,_,rfl,p,zs,z,rfl,rfl,SqL.of hp5,_,_,rfl,rfl,_,rfl,?_⟩
   have hc:zs.count z ≤ 1:=List.nodup_iff_count.mp nd z
   refine iteC (decide_eq_false (by omega)) ?_
   exact ⟨s4.trans s5,_,rfl⟩
  ·rintro σ H4 ⟨s4,u,rfl⟩
   exact q _ s4
theorem ok_colM {f fN fK:Addr} {fd fdN fdK:FuncData} (F:Fun K "columns_made" "columns_made" (top 24) f fd) (B:Bl mg) (DN:Df K mg "is_name" (top 10) fN fdN) (GN:FnOk P w K mg base CX0 1 fN fdN ["thing"] (spName K)) (DK:Df K mg "is_kind" (top 14) fK fdK) (GK:FnOk P w K mg base CX0 4 fK fdK ["thing"] spKind) :
  FnOk P w K mg base CX0 5 f fd ["columns"] spColM:=by
 have sc:FnScope ["columns","column","kind"] ["columns"] (defScope (top 24)):=⟨rfl,rfl,rfl,by decide +kernel,rfl,by decide +kernel,by decide +kernel⟩
 have bN:=DN.fn.binds (ps:=["thing"]) fun _ _ _ _ _ _ us hl=>by obtain ⟨v0,rfl⟩:=L2.ln1 hl;rfl
 have bK:=DK.fn.binds (ps:=["thing"]) fun _ _ _ _ _ _ us hl=>by obtain ⟨v0,rfl⟩:=L2.ln1 hl;rfl
 refine F.ok sc (fun vs H Q E h=>?_) (fun cdv A outer s H vs Q E hr h=>?_)
 ·obtain ⟨a,cols,rfl,_⟩:=h
  rfl
 ·obtain ⟨a,cols,rfl,hc,ok,q⟩:=h
  have hr1:Room 1 _:=hr.mono (by decide)
  have hu:(A.deeper (envOfC "columns_made" (defScope (top 24)) s.heap.objs.size f cdv)).units + 1 < cLine:=hu_of hr
  refine ⟨_,pss_cons (ps_frz (ps_for PassesOwn.never rfl (pi_items (pv 0)) (pg_tup rfl (pgs_cons (pg_name (i:=1) sc.nd rfl (Or.inl rfl)) (pgs_cons (pg_name (i:=2) sc.nd rfl (Or.inl rfl)) pgs_nil)))
    (pss_cons (ps_if (pt_not (pt_val (pe_call GN hr1 (by rfl) DN.mg DN.fn.kp bN .nil pass0 (pa_cons (pv 1) pa_nil)))) pss_never pss_nil)
    (pss_one (ps_if (pt_not (pt_val (pe_call GK hr (by rfl) DK.mg DK.fn.kp bK .nil pass0 (pa_cons (pv 2) pa_nil)))) pss_never pss_nil)))))
   (pss_one (ps_ret (pe_callTy call_tupleF (by rfl) B.tuple boot_tuple (pa_cons (pe_comp (osc:=defScope (top 24)) (N0:=["columns","column","kind"]) (xs:=["column"]) (fr:=[0]) ⟨rfl,by decide +kernel,by decide +kernel,by decide +kernel,(fun j hj=>by
       have e:j = 0:=by simpa using hj
       subst e
       exact ⟨_,rfl,by decide +kernel⟩),by decide +kernel⟩ rfl rfl rfl (pi_list (pe_callB (call_sortedD rfl) (by rfl) B.sorted boot_sorted (pa_cons (pv 0) pa_nil)))
      (fun s H fp=>pg_name (i:=0) (show (["column","columns"]:List Str).Nodup by decide +kernel) rfl (Or.inl rfl)) (fun s H fp=>pif_nil)
      (fun s H fp=>pe_tup (pa_cons (pv 0) (pa_cons (pe_dget hu (pv 1) (pv 0) (fun _ _=>rfl)) pa_nil)))) pa_nil)))),?_⟩
  refine ⟨a,_,hc,fun o=>?_⟩
  have hfa:(upd H a (.frz o (.dK (kvC cols)))) a = some (.frz o (.dK (kvC cols))):=upd_same
  have back:∀ H1:Hp,Same H (upd H1 a (.dK (kvC cols)))\/¬ Same (upd H a (.frz o (.dK (kvC cols)))) H1:=fun H1=>by
   by_cases e:Same (upd H a (.frz o (.dK (kvC cols)))) H1
   ·refine .inl fun b u hb=>?_
    by_cases eb:b = a
    ·subst eb
     rw [hc] at hb
     rw [← hb]
     exact upd_same
    ·rw [upd_ne eb]
     exact e b u (by rw [upd_ne eb];exact hb)
   ·exact .inr e
  refine ⟨_,rfl,a,o,_,rfl,hfa,for_items (a:=a) (o:=o) (kvs:=kvC cols) (fun i σ H1=>Same (upd H a (.frz o (.dK (kvC cols)))) H1/\∃ u1 u2,σ = [some (.ref a),u1,u2]) ⟨Same.refl _,_,_,rfl⟩ (fun i σ H1 _ p=>p.1 _ _ hfa) ?_ ?_⟩
  ·rintro i k v p σ H1 hk ⟨s1,u1,u2,rfl⟩ hp
   obtain ⟨⟨z,v'⟩,hm,e⟩:=List.mem_map.mp (List.mem_of_getElem? hk)
   cases e
   obtain ⟨hn,d,hd,hkd,hnd⟩:=ok.2.2 _ hm
   have h8:z.length ≤ 8:=by
    unfold nameS at hn
    exact (of_decide_eq_true (Bool.and_eq_true_iff.mp hn).1).2
   have T:=Same.upd (o:=.tup [kV (.inr z),v']) hp
   refine ⟨p,_,rfl,SqT.of upd_same,rfl,_,_,rfl,_,_,rfl,rfl,?_⟩
   refine ⟨_,rfl,_,_,rfl,Is.str,(fun z' e=>?_),(fun h=>absurd rfl h)⟩
   cases e
   refine ⟨by show z.length ≤ sizeLine;rw [sizeLine_eq];omega,fun H5 s5=>⟨_,rfl,?_⟩⟩
   rw [hn]
   refine iteF ?_
   have S5:=s1.trans (T.trans s5)
   refine ⟨_,rfl,_,d,rfl,(Rep.beside (fun xs h=>by rw [hc] at h;cases h) hnd hd).same S5,fun H6 s6=>⟨_,rfl,?_⟩⟩
   rw [hkd]
   refine iteF ?_
   exact ⟨S5.trans s6,_,_,rfl⟩
  ·rintro σ H1 ⟨s1,u1,u2,rfl⟩
   refine ⟨s1 _ _ hfa,?_⟩
   have S1:Same H (L2.upd H1 a (.dK (kvC cols))):=by
    rcases back H1 with h | h
    ·exact h
    ·exact absurd s1 h
   generalize L2.upd H1 a (.dK (kvC cols)) = H2 at S1 ⊢
   have hc2:=S1 _ _ hc
   have hkm:(kvC cols).map (·.1) = (cols.map (·.1)).map Sum.inr:=by
    unfold kvC
    rw [List.map_map,List.map_map]
    rfl
   refine ⟨_,rfl,a,_,_,rfl,.inl hc2,hkm,(by rw [List.length_map];have:=ok.2.1;omega),fun l zs hl hpm hso=>?_⟩
   have T3:=Same.upd (o:=.lst (zs.map V.str)) hl
   have S3:=S1.trans T3
   refine ⟨l,rfl,⟨_,SqL.of upd_same⟩,fun D hD=>?_⟩
   have hD0:H D = none:=by
    cases e:H D with
    | none=>rfl
    | some o=>rw [S3 _ _ e] at hD;cases hD
   have hlD:l ≠ D:=fun e=>by rw [← e,upd_same] at hD;cases hD
   have hzl:zs.length ≤ 12:=by
    have:=hpm.length_eq
    rw [List.length_map] at this
    have:=ok.2.1
    omega
   refine compW_idx zs.length (fun i ys σ' Hc=>(∃ t,σ' = [t,some (.ref a)])/\Same H Hc/\Hc l = some (.lst (zs.map V.str))/\∃ ps:List Addr,ys = ps.map V.ref/\∀ (j:Nat) (p:Addr) (z:Str),ps[j]? = some p->zs[j]? = some z->Hc p = some (.tup [.str z,vOf cols z])) (by rw [sizeLine_eq];omega) ⟨⟨none,rfl⟩,S3.trans (Same.upd hD),(Same.upd hD) _ _ upd_same,[],rfl,fun j p z h=>nomatch h⟩ upd_same ?_ ?_
   ·rintro i σ' Hc ys hi ⟨⟨t,rfl⟩,sm,hlc,ps,rfl,hps⟩ hyl hD'
    rw [List.length_map] at hyl
    refine ⟨⟨_,V.str zs[i],SqL.of hlc,by rw [List.getElem?_map,List.getElem?_eq_getElem hi];rfl⟩,?_⟩
    rintro x H' ⟨rfl,hx'⟩
    have ex:=hx' _ (SqL.of hlc)
    rw [List.getElem?_map,List.getElem?_eq_getElem hi] at ex
    cases ex
    have hzm:zs[i] ∈ cols.map (·.1):=hpm.mem_iff.mp (List.getElem_mem hi)
    refine ⟨_,rfl,_,rfl,_,rfl,a,_,rfl,.inl ⟨_,.inr zs[i],.inl (sm _ _ hc),rfl,(val_in hzm).symm⟩,(by show 2 ≤ sizeLine;decide),fun p hp=>?_⟩
    have T:=Same.upd (o:=.tup [.str zs[i],vOf cols zs[i]]) hp
    have hpD:p ≠ D:=fun e=>by rw [e,hD'] at hp;cases hp
    refine ⟨T _ _ hD',⟨_,rfl⟩,(sm.trans T).put hD0,by rw [upd_ne hlD];exact T _ _ hlc,ps ++ [p],by rw [List.map_append];rfl,fun j p' z' h1 h2=>?_⟩
    by_cases hj:j < ps.length
    ·rw [List.getElem?_append_left hj] at h1
     have hh:=hps j p' z' h1 h2
     have hne:p' ≠ D:=fun e=>by rw [e,hD'] at hh;cases hh
     rw [upd_ne hne]
     exact T _ _ hh
    ·have hj':j = ps.length:=by
      have:=(List.getElem?_eq_some_iff.mp h1).1
      rw [List.length_append] at this
      simp at this
      omega
     subst hj'
     rw [List.getElem?_append_right (Nat.le_refl _),Nat.sub_self] at h1
     cases h1
     rw [hyl,List.getElem?_eq_getElem hi] at h2
     cases h2
     rw [upd_ne hpD]
     exact upd_same
   ·rintro σ' Hc ys ⟨_,sm,hlc,ps,rfl,hps⟩ hDn hyl
    rw [List.length_map] at hyl
    refine ⟨⟨_,SqL.of hlc,by rw [List.length_map];exact Nat.le_refl _⟩,?_⟩
    refine ⟨D,_,rfl,SqL.of hDn,fun t o2 ht ho2=>?_⟩
    have T:=Same.upd (o:=.frz o2 (.tup (ps.map V.ref))) ht
    exact q t _ (sm.trans T) ⟨o2,ps,zs,hpm,hso,ho2,upd_same,hyl,fun j p z h1 h2=>T _ _ (hps j p z h1 h2)⟩
end
end My
namespace My
open PySem L2 PyProof.Rows
seal L2.PE L2.PT L2.PW L2.PS L2.PSs L2.PA L2.PI L2.PG L2.PGs L2.OpR L2.UnR L2.CallR L2.IxR L2.SlR L2.MtR L2.PIf L2.PO L2.MtM L2.PC
structure Tb where
 name:Str
 sort:Str
 cols:List (Str × V)
def EntAt (H:Hp) (e:Addr) (T:Tb):Prop:=∃ ct,H e = some (.tup [.str T.name,.str T.sort,.ref ct])/\ColsAt H ct T.cols
def FormAt (H:Hp) (f:Addr) (sz:Int) (Ts:List Tb):Prop:=∃ (tt:Addr) (es:List Addr),H f = some (.tup [.int sz,.ref tt])/\H tt = some (.tup (es.map V.ref))/\es.length = Ts.length/\∀ (j:Nat) (e:Addr) (T:Tb),es[j]? = some e->Ts[j]? = some T->EntAt H e T
theorem EntAt.same {H H':Hp} {e:Addr} {T:Tb} (h:EntAt H e T) (s:Same H H'):EntAt H' e T:=by
 obtain ⟨ct,h1,h2⟩:=h
 exact ⟨ct,s _ _ h1,h2.same s⟩
theorem FormAt.same {H H':Hp} {f:Addr} {sz:Int} {Ts:List Tb} (h:FormAt H f sz Ts) (s:Same H H'):FormAt H' f sz Ts:=by
 obtain ⟨tt,es,h1,h2,h3,h4⟩:=h
 exact ⟨tt,es,s _ _ h1,s _ _ h2,h3,fun j e T a b=>(h4 j e T a b).same s⟩
def spTabs:Sp:=fun vs H Q _=>∃ (f:Addr) (sz:Int) (Ts:List Tb),vs = [.ref f]/\FormAt H f sz Ts/\Ts.length ≤ 8/\∀ p H',H p = none->Same H H'->H' p = some (.lst ((Ts.map (·.name)).map V.str))->Q (.ref p) H'
def spTabIn:Sp:=fun vs H Q _=>∃ (f:Addr) (sz:Int) (Ts:List Tb) (T:Tb),vs = [.ref f,.str T.name]/\FormAt H f sz Ts/\(Ts.map (·.name)).Nodup/\T ∈ Ts/\∀ e,EntAt H e T->Q (.ref e) H
def spSortOf:Sp:=fun vs H Q _=>∃ (f:Addr) (sz:Int) (Ts:List Tb) (T:Tb),vs = [.ref f,.str T.name]/\FormAt H f sz Ts/\(Ts.map (·.name)).Nodup/\T ∈ Ts/\Q (.str T.sort) H
def spColsOf:Sp:=fun vs H Q _=>∃ (f:Addr) (sz:Int) (Ts:List Tb) (T:Tb),vs = [.ref f,.str T.name]/\FormAt H f sz Ts/\(Ts.map (·.name)).Nodup/\T ∈ Ts/\(T.cols.map (·.1)).Nodup/\T.cols.length ≤ 12 ∧
 ∀ (p:Addr) (H':Hp) (zs:List Str),H p = none->Same H H'->zs.Perm (T.cols.map (·.1))->H' p = some (.dK (zs.map fun z=>(.inr z,vOf T.cols z)))->Q (.ref p) H'
section
variable {P:Program} {w:World} {K:PySem.W.Frag} {mg:Str->Option Value} {base:Heap}
theorem ok_tabs {f:Addr} {fd:FuncData} (F:Fun K "tables_of" "tables_of" (top 25) f fd):FnOk P w K mg base CX0 1 f fd ["form"] spTabs:=by
 have sc:FnScope ["form"] ["form"] (defScope (top 25)):=⟨rfl,rfl,rfl,by decide +kernel,rfl,by decide +kernel,by decide +kernel⟩
 refine F.ok sc (fun vs H Q E h=>?_) (fun cdv A outer s H vs Q E hr h=>?_)
 ·obtain ⟨f,sz,Ts,rfl,_⟩:=h
  rfl
 ·obtain ⟨f,sz,Ts,rfl,⟨tt,es,h1,h2,h3,h4⟩,h8,q⟩:=h
  refine ⟨_,pss_one (ps_ret (pe_comp (osc:=defScope (top 25)) (N0:=["form"]) (xs:=["entry"]) (fr:=[]) ⟨rfl,by decide +kernel,by decide +kernel,by decide +kernel,by decide,by decide +kernel⟩ rfl rfl rfl (pi_tup (pe_ix ix_tup (pv 0) pe_int (fun _ _=>rfl)))
    (fun s H fp=>pg_name (i:=0) (show (["entry"]:List Str).Nodup by decide +kernel) rfl (Or.inl rfl)) (fun s H fp=>pif_nil) (fun s H fp=>pe_ix (r:=rIxT K) ix_tup (pv 0) pe_int (fun _ _=>rfl)))),?_⟩
  refine ⟨_,rfl,_,_,1,_,rfl,rfl,SqT.of h1,rfl,tt,rfl,⟨_,SqT.of h2⟩,fun D hD=>?_⟩
  refine compW_map Ts.length (fun i=>.str ((Ts.map (·.name)).getD i "")) (fun i σ' Hc=>(∃ t,σ' = [t])/\Same H Hc) (by rw [sizeLine_eq];omega) ⟨⟨none,rfl⟩,Same.upd hD⟩ upd_same ?_ ?_
  ·rintro i σ' Hc hi ⟨⟨t,rfl⟩,sm⟩ hD'
   have hie:i < es.length:=by omega
   refine ⟨⟨_,V.ref es[i],SqT.of (sm _ _ h2),by rw [List.getElem?_map,List.getElem?_eq_getElem hie];rfl⟩,?_⟩
   rintro x H' ⟨rfl,hx'⟩
   have ex:=hx' _ (SqT.of (sm _ _ h2))
   rw [List.getElem?_map,List.getElem?_eq_getElem hie] at ex
   cases ex
   obtain ⟨ct,g1,_⟩:=h4 i es[i] Ts[i] (List.getElem?_eq_getElem hie) (List.getElem?_eq_getElem hi)
   refine ⟨_,rfl,_,_,0,_,rfl,rfl,SqT.of (sm _ _ g1),rfl,?_,hD',⟨_,rfl⟩,sm.put hD⟩
   rw [List.getD_eq_getElem?_getD,List.getElem?_map,List.getElem?_eq_getElem hi]
   rfl
  ·rintro σ' Hc ⟨_,sm⟩ hDn
   refine ⟨⟨_,SqT.of (sm _ _ h2),by rw [List.length_map];omega⟩,q D Hc hD sm ?_⟩
   have:=range_map_getD (Ts.map (·.name)) ("":Str) (fun z=>V.str z)
   rw [List.length_map] at this
   rw [hDn,this]
theorem ok_tabIn {f:Addr} {fd:FuncData} (F:Fun K "table_in" "table_in" (top 28) f fd):FnOk P w K mg base CX0 1 f fd ["form","table"] spTabIn:=by
 have sc:FnScope ["form","table","entry"] ["form","table"] (defScope (top 28)):=⟨rfl,rfl,rfl,by decide +kernel,rfl,by decide +kernel,by decide +kernel⟩
 refine F.ok sc (fun vs H Q E h=>?_) (fun cdv A outer s H vs Q E hr h=>?_)
 ·obtain ⟨f,sz,Ts,T,rfl,_⟩:=h
  rfl
 ·obtain ⟨f,sz,Ts,T,rfl,⟨tt,es,h1,h2,h3,h4⟩,nd,hT,q⟩:=h
  refine ⟨_,pss_cons (ps_for PassesOwn.never rfl (pi_tup (pe_ix ix_tup (pv 0) pe_int (fun _ _=>rfl))) (pg_name (i:=2) sc.nd rfl (Or.inl rfl))
    (pss_one (ps_if (pt_cmpR op_eq (pe_ix ix_tup (pv 2) pe_int (fun _ _=>rfl)) (pv 1) (nomark _)) (pss_one (ps_ret (pv 2))) pss_nil))) pss_never,?_⟩
  refine ⟨_,rfl,_,_,1,_,rfl,rfl,SqT.of h1,rfl,tt,rfl,⟨_,SqT.of h2⟩,for_tup (K:=K) (a:=tt) (xs:=es.map V.ref) (fun i σ H'=>H' = H/\(∃ u,σ = [some (.ref f),some (.str T.name),u])/\∀ j T',j < i->Ts[j]? = some T'->T'.name ≠ T.name) ⟨rfl,⟨_,rfl⟩,fun j _ hj=>absurd hj (Nat.not_lt_zero _)⟩ (fun i σ H' _ p=>by rw [p.1];exact SqT.of h2) ?_ ?_⟩
  ·rintro i x σ H' hx ⟨rfl,⟨u,rfl⟩,hn⟩
   have hie:i < es.length:=by
    have:=(List.getElem?_eq_some_iff.mp hx).1
    rwa [List.length_map] at this
   have hit:i < Ts.length:=by omega
   rw [List.getElem?_map,List.getElem?_eq_getElem hie] at hx
   cases hx
   have ent:=h4 i es[i] Ts[i] (List.getElem?_eq_getElem hie) (List.getElem?_eq_getElem hit)
   obtain ⟨ct,g1,g2⟩:=id ent
   refine ⟨_,rfl,_,_,0,_,rfl,rfl,SqT.of g1,rfl,_,rfl,rfl,_,rfl,?_⟩
   refine ite2 (fun hc=>?_) (fun hc=>?_)
   ·have en:Ts[i].name = T.name:=by
     have:=of_decide_eq_true hc
     injection this
    have eT:Ts[i] = T:=by
     obtain ⟨k,hk,ek⟩:=List.mem_iff_getElem.mp hT
     have:i = k:=by
      refine (List.getElem_inj (h₀:=by rw [List.length_map];exact hit) (h₁:=by rw [List.length_map];exact hk) nd).mp ?_
      rw [List.getElem_map,List.getElem_map,ek,en]
     subst this
     exact ek
    rw [eT] at ent
    exact ⟨_,rfl,q _ ent⟩
   ·refine ⟨rfl,⟨_,rfl⟩,fun j T' hj hT'=>?_⟩
    by_cases hji:j < i
    ·exact hn j T' hji hT'
    ·have:j = i:=by omega
     subst this
     rw [List.getElem?_eq_getElem hit] at hT'
     cases hT'
     exact fun e=>hc (by rw [e];exact decide_eq_true rfl)
  ·rintro σ H' ⟨rfl,⟨u,rfl⟩,hn⟩
   obtain ⟨k,hk,ek⟩:=List.mem_iff_getElem.mp hT
   exact absurd rfl (hn k T (by rw [List.length_map];omega) (by rw [List.getElem?_eq_getElem hk,ek]))
theorem ok_sortOf {f fT:Addr} {fd fdT:FuncData} (F:Fun K "sort_of" "sort_of" (top 26) f fd) (DT:Df K mg "table_in" (top 28) fT fdT):FnOk P w K mg base CX0 2 f fd ["form","table"] spSortOf:=by
 have sc:FnScope ["form","table"] ["form","table"] (defScope (top 26)):=⟨rfl,rfl,rfl,by decide +kernel,rfl,by decide +kernel,by decide +kernel⟩
 have GT:FnOk P w K mg base CX0 1 fT fdT ["form","table"] spTabIn:=ok_tabIn DT.fn
 have bT:=DT.fn.binds (ps:=["form","table"]) fun _ _ _ _ _ _ us hl=>by obtain ⟨v0,v1,rfl⟩:=L2.ln2 hl;rfl
 refine F.ok sc (fun vs H Q E h=>?_) (fun cdv A outer s H vs Q E hr h=>?_)
 ·obtain ⟨f,sz,Ts,T,rfl,_⟩:=h
  rfl
 ·obtain ⟨f,sz,Ts,T,rfl,hf,nd,hT,q⟩:=h
  refine ⟨_,pss_one (ps_ret (pe_ix ix_tup (pe_call GT hr (by rfl) DT.mg DT.fn.kp bT .nil pass0 (pa_cons (pv 0) (pa_cons (pv 1) pa_nil))) pe_int (fun _ _=>rfl))),?_⟩
  refine ⟨_,rfl,_,rfl,f,sz,Ts,T,rfl,hf,nd,hT,fun e he=>?_⟩
  obtain ⟨ct,g1,_⟩:=he
  exact ⟨_,_,1,_,rfl,rfl,SqT.of g1,rfl,q⟩
theorem ok_colsOf {f fT:Addr} {fd fdT:FuncData} (F:Fun K "columns_of" "columns_of" (top 27) f fd) (B:Bl mg) (DT:Df K mg "table_in" (top 28) fT fdT):FnOk P w K mg base CX0 2 f fd ["form","table"] spColsOf:=by
 have sc:FnScope ["form","table"] ["form","table"] (defScope (top 27)):=⟨rfl,rfl,rfl,by decide +kernel,rfl,by decide +kernel,by decide +kernel⟩
 have GT:FnOk P w K mg base CX0 1 fT fdT ["form","table"] spTabIn:=ok_tabIn DT.fn
 have bT:=DT.fn.binds (ps:=["form","table"]) fun _ _ _ _ _ _ us hl=>by obtain ⟨v0,v1,rfl⟩:=L2.ln2 hl;rfl
 refine F.ok sc (fun vs H Q E h=>?_) (fun cdv A outer s H vs Q E hr h=>?_)
 ·obtain ⟨f,sz,Ts,T,rfl,_⟩:=h
  rfl
 ·obtain ⟨f,sz,Ts,T,rfl,hf,nd,hT,ndc,c12,q⟩:=h
  refine ⟨_,pss_one (ps_ret (pe_callTy (call_dictT rfl) (by rfl) B.dict boot_dict (pa_cons (pe_ix ix_tup (pe_call GT hr (by rfl) DT.mg DT.fn.kp bT .nil pass0 (pa_cons (pv 0) (pa_cons (pv 1) pa_nil))) pe_int (fun _ _=>rfl)) pa_nil))),?_⟩
  refine ⟨_,rfl,_,rfl,f,sz,Ts,T,rfl,hf,nd,hT,fun e he=>?_⟩
  obtain ⟨ct,g1,o,ps,zs,hpm,hso,ho,hct,hpl,hpz⟩:=he
  have hzl:zs.length ≤ 12:=by
   have:=hpm.length_eq
   rw [List.length_map] at this
   omega
  refine ⟨_,_,2,_,rfl,rfl,SqT.of g1,rfl,ct,o,_,zs.map (fun z=>(.inr z,vOf T.cols z)),rfl,hct,ho,(by rw [List.length_map];omega),(by rw [List.length_map,List.length_map];omega),(fun j k v hj=>?_),?_,fun p hp=>q p _ zs hp (Same.upd hp) hpm upd_same⟩
  ·have hjz:j < zs.length:=by
    have:=(List.getElem?_eq_some_iff.mp hj).1
    rwa [List.length_map] at this
   have hjp:j < ps.length:=by omega
   rw [List.getElem?_map,List.getElem?_eq_getElem hjz] at hj
   cases hj
   exact ⟨ps[j],by rw [List.getElem?_map,List.getElem?_eq_getElem hjp];rfl,SqT.of (hpz j ps[j] zs[j] (List.getElem?_eq_getElem hjp) (List.getElem?_eq_getElem hjz))⟩
  ·rw [List.map_map]
   have e:((fun x:Key × V=>x.1) ∘ fun z=>((Sum.inr z:Key),vOf T.cols z)) = fun z=>(Sum.inr z:Key):=rfl
   rw [e]
   exact List.Pairwise.map _ (fun a b hab h=>hab (by injection h)) (hpm.nodup_iff.mpr ndc)
end
end My
namespace L2
open PySem PySem.Spec PyProof.Rows
def OnlyT (tabs:List Addr) (H:Hp):Prop:=(∀ b,H b = none\/(∃ o xs,H b = some (.frz o (.lst xs)))\/(b ∈ tabs/\H b = some (.tbl #[])))/\∀ b ∈ tabs,H b = some (.tbl #[])
def BMain (h:Heap) (mg:Str->Option Value):Prop:=∃ bm ob,mg "__builtins__" = some (.ref bm)/\bm ≠ builtinsNs/\h.get? bm = some ob/\ob.cls = .type "module"/\ob.dict = some builtinsNs/\ob.data = .plain
theorem law_callT {P:Program} {w:World} {K:PySem.W.Frag} {mg mb:Str->Option Value} {CX:CXT} {k:Nat} {fa a:Addr} {fd:FuncData} {x:Str} {sp:Sp} {s₁:Shared} {vs:List Value} {ns:List Int} {tabs:List Addr}
  (KX:K.In s₁.heap) (hns:s₁.heap.Ns mainGlobals mg) (hb:s₁.heap.Ns builtinsNs mb) (hbb:∀ x:Str,x ≠ "__name__"->mb x = bootBuiltins x) (hlim:s₁.heap.NoLimit) (hg:s₁.gens = #[])
  (ha:s₁.heap.get? a = some { cls:=.type "list",data:=.seq vs.toArray }) (hi:IntsAre vs ns) (hl:ns.length ≤ sizeLine) (hr:Room k callerA)
  (hT:∀ b ∈ tabs,(∃ c,s₁.heap.TableAt c b #[])/\K.lookup b = none)
  (hbm:BMain s₁.heap mg)
  (F:∀ base:Heap,K.In base->base.Ns mainGlobals mg->BMain base mg->FnOk P w K mg base CX k fa fd [x] sp) (hbind:∀ (s:Shared) (u:Value),BindsTo s fd ⟨[u],[]⟩ [(x,u)])
  (hsp:∀ H:Hp,OnlyT tabs H->SqL K H a (ns.map V.int)->sp [.ref a] H (fun v _=>v = .bl true) fun _ _ _=>False)
  (hCX:∀ H e s',CX [] H s₁ (fun _ _ _=>False) e s'->False) :
  codeAny (model P w) callerA (.call (.ref fa) ⟨[.ref a],[]⟩) (fun r s'=>r = .ok (.ret (.bool true))/\OldK s₁.heap s'.heap/\s'.os = s₁.os/\AllBare s'.gens) s₁:=by
 have rv:=vals_ints hi
 have lenV:=hi.length
 have tabG:∀ b ∈ tabs,s₁.heap.get? b = some (PySem.W.tabObj #[]):=fun b hb=>(hT b hb).1.elim fun c h=>h.2
 have core:∀ H:Hp,OnlyT tabs H->SqL K H a (ns.map V.int)->HOk P w H s₁.heap->(∀ b,H b ≠ none->b = a\/b ∈ tabs)->(H a ≠ none->K.lookup a = none) →
   codeAny (model P w) callerA (.call (.ref fa) ⟨[.ref a],[]⟩) (fun r s'=>r = .ok (.ret (.bool true))/\OldK s₁.heap s'.heap/\s'.os = s₁.os/\AllBare s'.gens) s₁:=by
  intro H hO hS hok hA hK
  have base_of:∀ {b:Addr} {o:Obj},s₁.heap.get? b = some o->H b = none->(hidT s₁.heap H).get? b = some o:=fun e n=>hidT_get e n
  have noA:∀ {b:Addr} {o:Obj} {es:Array DictEntry} {ep:Nat},s₁.heap.get? b = some o->o.data = .dict es ep->H b = none:=fun {b o es ep} e d=>by
   cases q:H b with
   | none=>rfl
   | some u=>
    rcases hA b (by rw [q];simp) with e' | e'
    ·subst e'
     rw [ha] at e;cases e
     have d':Data.seq vs.toArray _ = Data.dict es ep:=d
     cases d'
    ·rw [tabG b e'] at e;cases e
     have d':Data.fields #[] = Data.dict es ep:=d
     cases d'
  have nsK:∀ {b:Addr} {m:Str->Option Value},s₁.heap.Ns b m->(hidT s₁.heap H).Ns b m:=fun {b m} ⟨o,es,ep,e,d,r⟩=>⟨o,es,ep,base_of e (noA e d),d,r⟩
  have hKb:K.In (hidT s₁.heap H):=fun b o e=>base_of (KX b o e) (by
   cases q:H b with
   | none=>rfl
   | some u=>
    rcases hA b (by rw [q];simp) with e' | e'
    ·subst e'
     rw [hK (by rw [q];simp)] at e;cases e
    ·rw [(hT b e').2] at e;cases e)
  have hM:Mod K mg (hidT s₁.heap H):=⟨hKb,nsK hns,⟨mb,nsK hb,hbb⟩,let ⟨mc,h1,h2⟩:=hlim;⟨mc,nsK h1,h2⟩⟩
  have e0:Env0 P w K mg (hidT s₁.heap H) callerA [] s₁ H:=⟨rfl,hM,fun b o e=>of_hidT e,Nat.le_of_eq (hidT_size _ _),trivial,fun b hb=>absurd (show b ∈ ([]:List Addr) from hb) (by simp),hok,.of_eq hg⟩
  have hB:BMain (hidT s₁.heap H) mg:=by
   obtain ⟨bm,ob,b1,b2,b3,b4,b5,b6⟩:=hbm
   refine ⟨bm,ob,b1,b2,base_of b3 ?_,b4,b5,b6⟩
   cases q:H bm with
   | none=>rfl
   | some u=>
    rcases hA bm (by rw [q];simp) with e' | e'
    ·rw [e',ha] at b3
     cases b3
     cases b6
    ·rw [tabG bm e'] at b3
     cases b3
     cases b6
  refine codeAny_mono ((F _ hKb (nsK hns) hB).run callerA [] s₁ H ⟨[.ref a],[]⟩ [.ref a] [.ref a] _ _ hr e0 (hbind s₁ (.ref a)) (.cons rfl .nil) (hsp H hO hS)) fun r s' h=>?_
  cases r with
  | error e=>exact (hCX H e s' h).elim
  | ok fl=>
   cases fl with
   | next=>exact False.elim h
   | brk=>exact False.elim h
   | cont=>exact False.elim h
   | ret u=>
    obtain ⟨v,H',os,bare,un,hok',r',q⟩:=h
    have q':v = .bl true:=q
    subst q'
    obtain rfl:u = Value.bool true:=r'
    refine ⟨rfl,⟨fun b o e=>?_,fun b o e=>un.there b o e (by simp)⟩,os,bare⟩
    cases q:H b with
    | none=>exact .inl (un.keep b o e q (by intro z;exact absurd (show b ∈ ([]:List Addr) from z) (by simp)) (by simp))
    | some u=>
     rcases hO.1 b with z | ⟨ob,xs,z⟩ | ⟨hb,z⟩
     ·rw [q] at z;cases z
     ·have z2:=un.frzs b ob _ z
      obtain ⟨e1,_⟩:=hok b _ z
      obtain ⟨e2,_⟩:=hok' b _ z2
      rw [e] at e1;cases e1
      exact .inl e2
     ·obtain ⟨more,z2⟩:=un.tbls b _ z
      have e2:=hok' b _ z2
      obtain ⟨c,ht⟩:=(hT b hb).1
      rw [tabG b hb] at e
      cases e
      exact .inr (.inl ⟨ht.isCodeTable,rfl,#[],more,rfl,e2⟩)
 have na:a ∉ tabs:=fun z=>by
  have e:=tabG a z
  rw [ha] at e
  have e':=congrArg Obj.data (Option.some.inj e)
  have e2:Data.seq vs.toArray 0 = Data.fields #[]:=e'
  cases e2
 cases hk:K.lookup a with
 | some o=>
  have e:=KX a o hk
  rw [ha] at e
  cases e
  refine core (fun b=>if b ∈ tabs then some (.tbl #[]) else none) ⟨fun b=>?_,fun b hb=>if_pos hb⟩ (.inr ⟨_,vs.toArray,_,hk,rfl,rfl,rfl,by rw [List.size_toArray,lenV];exact hl,by simpa using rv⟩) (fun b u z=>?_) (fun b z=>?_) (fun z=>absurd (if_neg na) z)
  ·by_cases hb:b ∈ tabs
   ·exact .inr (.inr ⟨hb,if_pos hb⟩)
   ·exact .inl (if_neg hb)
  ·by_cases hb:b ∈ tabs
   ·have z':=(if_pos hb).symm.trans z
    cases z'
    exact tabG b hb
   ·have z':=(if_neg hb).symm.trans z
    cases z'
  ·by_cases hb:b ∈ tabs
   ·exact .inr hb
   ·exact absurd (if_neg hb) z
 | none=>
  refine core (fun b=>if b ∈ tabs then some (.tbl #[]) else if b = a then some (.frz { cls:=.type "list",data:=.seq vs.toArray } (.lst (ns.map V.int))) else none) ⟨fun b=>?_,fun b hb=>if_pos hb⟩ (.inl (.inr ⟨{ cls:=.type "list",data:=.seq vs.toArray },by
   show (if a ∈ tabs then _ else if a = a then _ else _) = _
   rw [if_neg na,if_pos rfl]⟩)) (fun b u z=>?_) (fun b z=>?_) (fun _=>hk)
  ·by_cases hb:b ∈ tabs
   ·exact .inr (.inr ⟨hb,if_pos hb⟩)
   ·by_cases hb2:b = a
    ·refine .inr (.inl ⟨{ cls:=.type "list",data:=.seq vs.toArray },ns.map V.int,?_⟩)
     show (if b ∈ tabs then _ else if b = a then _ else _) = _
     rw [if_neg hb,if_pos hb2]
    ·refine .inl ?_
     show (if b ∈ tabs then _ else if b = a then _ else _) = _
     rw [if_neg hb,if_neg hb2]
  ·have z0:(if b ∈ tabs then some (HO.tbl #[]) else if b = a then some (.frz { cls:=.type "list",data:=.seq vs.toArray } (.lst (ns.map V.int))) else none) = some u:=z
   by_cases hb:b ∈ tabs
   ·rw [if_pos hb] at z0
    cases z0
    exact tabG b hb
   ·rw [if_neg hb] at z0
    by_cases hb2:b = a
    ·rw [if_pos hb2] at z0
     cases z0
     subst hb2
     exact ⟨ha,by rw [List.length_map];exact hl,vs,_,rv,ha⟩
    ·rw [if_neg hb2] at z0
     cases z0
  ·by_cases hb:b ∈ tabs
   ·exact .inr hb
   ·by_cases hb2:b = a
    ·exact .inl hb2
    ·refine absurd ?_ z
     show (if b ∈ tabs then _ else if b = a then _ else _) = _
     rw [if_neg hb,if_neg hb2]
theorem tab_is {K:PySem.W.Frag} {h:Heap} {c P:Addr} (X:K.In h) (g:h.get? P = some (PySem.W.tabObj #[])) (e:PySem.W.codeHdIn K c P = true) (n:K.lookup P = none):(∃ c,h.TableAt c P #[])/\K.lookup P = none:=
 ⟨⟨c,(PySem.W.codeHd_of_K X e).tab g⟩,n⟩
theorem walk_ofT {l:PySem.W.OpenLaw} {n k:Nat} {q:Program} {loose:List Str} {XP:(Str->Option Value)->Heap->Prop} {YP:World->Heap->Prop} {d:DefRec} {K:Params->PySem.W.Frag} {CX:World->CXT} {sp:World->Sp} {x:Str} {tx:World->List Addr}
  (hn:l.most = some n) (hn2:n ≤ sizeLine) (hdf:d.params.defaults = []) (hr:Room k callerA)
  (hY:∀ (w:World) (h:Heap),YP w h->(K w.params).In h)
  (hT:∀ (w:World) (h:Heap),YP w h->∀ b ∈ tx w,(∃ c,h.TableAt c b #[])/\(K w.params).lookup b = none)
  (F:∀ (w:World) (mg:Str->Option Value) (fa:Addr) (h:Heap),(K w.params).In h->h.Ns mainGlobals mg->mg d.name = some (.ref fa) →
   ∃ fd:FuncData,(∀ (s:Shared) (u:Value),BindsTo s fd ⟨[u],[]⟩ [(x,u)]) ∧
    ∀ base:Heap,(K w.params).In base->base.Ns mainGlobals mg->BMain base mg->FnOk l.prog w (K w.params) mg base (CX w) k fa fd [x] (sp w))
  (hsp:∀ (w:World) (H:Hp) (a:Addr) (ns:List Int),ns.length ≤ n->OnlyT (tx w) H->SqL (K w.params) H a (ns.map V.int)->sp w [.ref a] H (fun v _=>v = .bl true) fun _ _ _=>False)
  (hCX:∀ (w:World) (H:Hp) (s:Shared) (e:Value) (s':Shared),CX w [] H s (fun _ _ _=>False) e s'->False) :
  PySem.W.WalkO q loose XP YP l.row.toRowW d [] (fun f vs=>PySem.call f vs):=by
 refine Att.attach_call hn hdf fun w s₀ s₁ mg mb fa o pm cd doc a vs ns G Y ho hd hcd hmg hobj hints hlen hg=>?_
 have KX:=hY w _ Y
 obtain ⟨fd,hb,hF⟩:=F w mg fa _ KX G.T.g hmg
 exact law_callT KX G.T.g G.T.b G.T.builtins G.T.nolimit hg hobj hints (Nat.le_trans hlen hn2) hr (hT w _ Y) G.T.bmain hF hb (fun H hO hS=>hsp w H a ns hlen hO hS) fun H e s'=>hCX w H s₁ e s'
end L2
namespace L2
open PySem PySem.Spec PyProof.Rows
def codeP (c:Addr) (q:Str) (h:Heap):Prop:=h.CodeRec (.ref c) q
def lamP (f:Addr) (q:Str) (params:Arguments) (body:Expr) (scope:Scope) (pm:Value) (c':Addr) (h:Heap):Prop:=∃ ctv,h.get? f = some (PySem.W.kla_obj "<lambda>" q params body scope [] pm c' ctv)
section
variable {P:Program} {w:World} {H:Hp} {h:Heap} {f c:Addr} {q:Str} {params:Arguments} {body:Expr} {scope:Scope} {pm:Value}
theorem codeP_ok (e:h.CodeRec (.ref c) q):ObjOk P w H h c (.ext (codeP c q)):=by
 refine ⟨e,?_,fun h1 h2 x k=>?_⟩
 ·obtain ⟨c',o,vs,t,e1,e2,_⟩:=e
  cases e1
  exact ⟨o,e2⟩
 ·obtain ⟨c',o,vs,t,e1,e2,e3⟩:=x
  cases e1
  exact ⟨c,o,vs,t,rfl,k o e2,e3⟩
theorem lamP_ok {ctv:Value} (e:h.get? f = some (PySem.W.kla_obj "<lambda>" q params body scope [] pm c ctv)):ObjOk P w H h f (.ext (lamP f q params body scope pm c)):=⟨⟨ctv,e⟩,⟨_,e⟩,fun _ _ ⟨ctv,e⟩ k=>⟨ctv,k _ e⟩⟩
end
def tLam (P:Addr) (pos:Pos) (q:Str) (params:Arguments) (body:Expr) (scope:Scope) (pm:Value):TE:=fun σ H Q=>∃ ps,H P = some (.tbl ps)/\TriplesOk ps.toList ∧
 ((codeAmong pos ps.toList = none/\∀ c' f,H c' = none->H f = none->c' ≠ f->c' ≠ P->f ≠ P->Q (.ref f) (upd (upd (upd H P (.tbl (ps ++ #[rawInt pos.line,rawInt pos.col,.ref c']))) c' (.ext (codeP c' q))) f (.ext (lamP f q params body scope pm c')))) ∨
  ∃ c',codeAmong pos ps.toList = some (.ref c')/\∀ f,H f = none->Q (.ref f) (upd H f (.ext (lamP f q params body scope pm c'))))
section
variable {X:Cx} {params:Arguments} {body:Expr} {scope:Scope} {pos:Pos} {c P:Addr}
theorem pe_lam (hcode:X.env.code = .ref c) (hC:PySem.W.codeHdIn X.K c P = true) (hB:BMain X.base X.mg) (hcl:closureFor scope X.env = pure []:=by rfl) (hdef:defaultsOf params X.env = ([],[]):=by rfl) :
  PE X (.Lambda params body scope pos) (tLam P pos (X.env.qual ++ "<lambda>") params body scope ((X.mg "__name__").getD .none)):=by
 intro pins s σ H Q I h
 obtain ⟨ps,hp,tr,h⟩:=h
 have hg:s.heap.Ns mainGlobals X.mg:=I.mod.glob.keeps I.bk
 have C:=PySem.W.codeHd_of_K I.kIn hC
 have hP:s.heap.get? P = some (PySem.W.tabObj ps):=I.hok P _ hp
 have hgP:mainGlobals ≠ P:=fun z=>by
  obtain ⟨o,es,ep,e,d,_⟩:=id hg
  rw [z,hP] at e
  cases e
  cases d
 have hb:s.heap.BuiltinsAt X.mg P:=by
  obtain ⟨bm,ob,b1,b2,b3,b4,b5,b6⟩:=hB
  have b3':=I.bk _ _ b3
  refine ⟨bm,ob,b1,b2,fun z=>?_,fun z=>?_,b3',b4,b5,b6⟩
  ·obtain ⟨o,es,ep,e,d,_⟩:=id hg
   rw [z,e] at b3'
   cases b3'
   rw [d] at b6
   cases b6
  ·rw [z,hP] at b3'
   cases b3'
   cases b6
 refine PySem.W.kla_eval hdef ?_
 rcases h with ⟨hnf,q⟩ | ⟨c',hf,q⟩
 ·refine PySem.W.kla_makeFunction hcl I.ok.glob hg hcode C hP tr hnf hgP hb fun c' ctv h' tk hx hge hlt hrec htb=>?_
  have hcN:H c' = none:=I.hok.fresh hge
  have hfN:H h'.objs.size = none:=I.hok.fresh (Nat.le_trans hge (Nat.le_of_lt hlt))
  have cf:c' ≠ h'.objs.size:=Nat.ne_of_lt hlt
  have cP:c' ≠ P:=fun z=>by rw [z,hp] at hcN;cases hcN
  have fP:h'.objs.size ≠ P:=fun z=>by rw [z,hp] at hfN;cases hfN
  have keep:∀ b o,b ≠ P->s.heap.get? b = some o->(h'.push (PySem.W.kla_obj "<lambda>" (X.env.qual ++ "<lambda>") params body scope [] ((X.mg "__name__").getD .none) c' ctv)).get? b = some o:=fun b o hb e=>Heap.get?_push_of_some _ (hx b o hb e)
  have nP:∀ b,H b = none->b ≠ P:=fun b n z=>by rw [z,hp] at n;cases n
  have old:∀ b u,H b = some u->b ≠ P->upd (upd (upd H P (.tbl (ps ++ #[rawInt pos.line,rawInt pos.col,.ref c']))) c' (.ext (codeP c' (X.env.qual ++ "<lambda>")))) h'.objs.size (.ext (lamP h'.objs.size (X.env.qual ++ "<lambda>") params body scope ((X.mg "__name__").getD .none) c')) b = some u:=fun b u e hb=>by
   rw [upd_ne (fun z=>by rw [z,hfN] at e;cases e),upd_ne (fun z=>by rw [z,hcN] at e;cases e),upd_ne hb]
   exact e
  have atP:upd (upd (upd H P (.tbl (ps ++ #[rawInt pos.line,rawInt pos.col,.ref c']))) c' (.ext (codeP c' (X.env.qual ++ "<lambda>")))) h'.objs.size (.ext (lamP h'.objs.size (X.env.qual ++ "<lambda>") params body scope ((X.mg "__name__").getD .none) c')) P = some (.tbl (ps ++ #[rawInt pos.line,rawInt pos.col,.ref c'])):=by
   rw [upd_ne (Ne.symm fP),upd_ne (Ne.symm cP),upd_same]
  have noT:∀ b u,H b = some u->(∀ zs,u ≠ .tbl zs)->b ≠ P:=fun b u e hu z=>by
   rw [z,hp] at e
   cases e
   exact hu ps rfl
  refine ⟨.ref h'.objs.size,_,I.un (t':=tk) ⟨fun b o e n _ _=>keep b o (nP b n) e,fun b o e n _ _=>⟨o.slots,keep b o (nP b n) e⟩,fun b o e n _=>?_,fun b o e _=>?_,fun b xs e=>old b _ e (noT b _ e fun zs z=>by cases z),fun b o u e=>old b _ e (noT b _ e fun zs z=>by cases z),fun b zs e=>?_⟩ fun b u e=>?_,rfl,q c' h'.objs.size hcN hfN cf cP fP⟩
  ·have hlt':b < s.heap.objs.size:=Heap.lt_size e
   rw [upd_ne (Nat.ne_of_lt (Nat.lt_of_lt_of_le hlt' (Nat.le_trans hge (Nat.le_of_lt hlt)))),upd_ne (Nat.ne_of_lt (Nat.lt_of_lt_of_le hlt' hge)),upd_ne (nP b n)]
   exact n
  ·by_cases hbP:b = P
   ·rw [hbP]
    exact ⟨_,Heap.get?_push_of_some _ htb⟩
   ·exact ⟨o,keep b o hbP e⟩
  ·by_cases hbP:b = P
   ·subst hbP
    rw [hp] at e
    cases e
    exact ⟨_,atP⟩
   ·exact ⟨#[],by rw [old b _ e hbP];simp⟩
  ·by_cases hbf:b = h'.objs.size
   ·subst hbf
    rw [upd_same] at e
    cases e
    exact lamP_ok (Heap.get?_push_size _ rfl)
   ·rw [upd_ne hbf] at e
    by_cases hbc:b = c'
    ·subst hbc
     rw [upd_same] at e
     cases e
     exact codeP_ok (hrec.push _)
    ·rw [upd_ne hbc] at e
     by_cases hbP:b = P
     ·subst hbP
      rw [upd_same] at e
      cases e
      exact Heap.get?_push_of_some _ htb
     ·rw [upd_ne hbP] at e
      refine (I.hok b u e).stay (fun d v hd r=>keep d v ?_ r) (fun d r=>old d _ r (noT d _ r fun zs z=>by cases z)) fun d xs r=>old d _ r (noT d _ r fun zs z=>by cases z)
      rcases hd with rfl | hd
      ·exact hbP
      ·exact noT d _ hd fun zs z=>by cases z
 ·refine PySem.W.kla_makeFunctionHit hcl I.ok.glob hg hcode C hP tr hf hb fun ctv h' tk hk hsz=>?_
  have hfN:H h'.objs.size = none:=I.hok.fresh hsz
  exact ⟨.ref h'.objs.size,_,I.laid (a:=h'.objs.size) (t':=tk) (fun b o e=>Heap.get?_push_of_some _ (hk b o e)) hsz (lamP_ok (Heap.get?_push_size _ rfl)),rfl,q _ hfN⟩
end
end L2
namespace L2
open PySem PySem.Spec PyProof.Rows
section
variable {X:Cx} {pins:List (Addr × Obj)} {σ:St} {H:Hp} {s:Shared} {Q:VK} {f c':Addr} {q x:Str} {params:Arguments} {body:Expr} {scope:Scope} {pm:Value} {u:Value} {v:V} {k:Nat}
theorem code_lam {t:TE} {A:Around} {outer:List Env} (e0:Env0 X.prog X.w X.K X.mg X.base A outer s H) (hr:Room (k + 1) A) (hf:H f = some (.ext (lamP f q params body scope pm c'))) (hc:H c' = some (.ext (codeP c' q))) (S:FnScope [x] [x] scope)
  (hb:∀ (ctv u:Value),bindArgs (PySem.W.kla_fn "<lambda>" q params body scope [] pm (.ref c') ctv) ⟨[u],[]⟩ = pure [(x,u)])
  (hbody:PE (cxOf CX0 X.prog X.w X.K X.mg X.base [x] q scope f (.ref c') A outer s H E0).nox body t) (r:RelV v u) (ht:t [some v] H Q) :
  codeAny (model X.prog X.w) A (.call (.ref f) ⟨[u],[]⟩) (CR CX0 outer X.prog X.w H s Q E0) s:=by
 obtain ⟨⟨ctv,ho⟩,_⟩:=e0.hok f _ hf
 obtain ⟨hcd,_⟩:=e0.hok c' _ hc
 have lim:s.heap.NoLimit:=e0.mod.nolimit.keeps fun b o e=>(e0.bs b o e).1
 have hkind:∀ y ∈ ([x].zip [u]),scope.names.lookup y.1 = some .local\/(scope.names.lookup y.1 = some .cell/\((cellsFrom (s.heap.objs.size + 1) scope.names []).lookup y.1).isSome = true):=fun ⟨n,v⟩ hy=>by
  rcases S.par n (List.of_mem_zip hy).1 with q | q
  ·exact .inl q
  ·exact .inr ⟨q,PySem.W.cellsFrom_some _ _ _ (.inl q)⟩
 refine PySem.W.kla_callFunE hr.depth ho rfl S.co S.gen rfl hcd ?_
 rw [hb]
 refine wpAny_pure (wpAny_newFunctionEnv_cells (binds:=[x].zip [u]) S.kind hkind fun env he s1 z=>?_)
 subst he
 refine ⟨lim.keeps z.toInCall.keep,PySem.W.kla_codeExpr ?_⟩
 have I:Inv (cxOf CX0 X.prog X.w X.K X.mg X.base [x] q scope f (.ref c') A outer s H E0) [] (start [x] [v]) H s1:=inv_start S hr.hd e0 rfl (.cons r .nil) z
 refine wpAny_mono (hbody.nox [] s1 (start [x] [v]) H Q I ht) (fun u' s' hs=>?_) fun e s' hs=>hs
 obtain ⟨v',H',J,rv,q'⟩:=hs
 exact ⟨v',H',J.os,J.bare,J.base,J.hok,rv,q'⟩
end
end L2
namespace L2
open PySem PySem.Spec PyProof.Rows PySem.W
theorem cmp_k {prog:Program} {w:World} {A:Around} {ks:List Value} {zs:List Str} {s1:Shared} (t:StrsAre ks zs):Srt.Cmp zs.length (Srt.rz zs) (kas_ask prog w A oneType' ks) (fun s'=>s' = s1):=by
 intro i j C s' hi hj hij hs' hC
 subst hs'
 have hl:ks.length = zs.length:=t.length
 obtain ⟨a,ta,e1,e1'⟩:=strs_get (j:=i) t (by omega)
 obtain ⟨b,tb,e2,e2'⟩:=strs_get (j:=j) t (by omega)
 unfold kas_ask
 have g1:ks.getD i Value.none = .str a ta:=by rw [List.getD_eq_getElem?_getD,List.getElem?_eq_getElem (by omega),Option.getD_some,e1]
 have g2:ks.getD j Value.none = .str b tb:=by rw [List.getD_eq_getElem?_getD,List.getElem?_eq_getElem (by omega),Option.getD_some,e2]
 rw [g1,g2]
 refine kas_lt_str ?_
 have er:Srt.rz zs i j = decide (a.cps.toList < b.cps.toList):=by
  unfold Srt.rz
  rw [List.getD_eq_getElem?_getD,List.getD_eq_getElem?_getD,e1',e2',Option.getD_some,Option.getD_some]
 rw [← er]
 exact hC s' rfl
theorem strs_snoc {z:Str} {t:Tok}:∀ {vs:List Value} {zs:List Str},StrsAre vs zs->StrsAre (vs ++ [.str z t]) (zs ++ [z])
 | _,_,.nil=>.cons z t .nil
 | _,_,.cons y u r=>.cons y u (strs_snoc r)
section
variable {X:Cx} {pins:List (Addr × Obj)} {σ:St} {H:Hp} {s:Shared}
theorem Inv.moved {h':Heap} {it:Addr} {t':Nat} (I:Inv X pins σ H s) (fp:FpOk X pins H it) (k:∀ b o,b ≠ it->s.heap.get? b = some o->h'.get? b = some o):Inv X pins σ H { s with heap:=h',toks:=t' }:=
 I.turned k fp.1 fp.2.1 fp.2.2.2.1 fp.2.2.2.2.1 fp.2.2.2.2.2
theorem key_tail {A:Around} {E:Value->Shared->Prop} {a kS:Addr} {vs ks:List Value} {e e1:Nat} {p:Array Nat} {st:SortSt} {P:PySem.Fin->Shared->Prop} (I:Inv X pins σ H s) (fa:FpOk X pins H a) (fk:FpOk X pins H kS) (hka:kS ≠ a)
  (hk:s.heap.get? kS = some (seqObj "list" ks.toArray e)) (ha:s.heap.get? a = some (seqObj "list" #[] e1)) (hl:ks.length = vs.length) (h64:vs.length < 64) (hp:p.size = vs.length) (har:arrOf st = p.map (kas_item (ks.toArray.zip vs.toArray))) (hf:failedOf st = none)
  (h:∀ (s':Shared) (e:Nat),Inv X pins σ H s'->s'.heap.get? a = some (seqObj "list" (List.toArray (p.toList.map fun i=>vs.getD i Value.none)) e)->P (.done (.ret .none)) s') :
  wpAny (model X.prog X.w) A (ksk_tail a false e1 (.ref kS) st) P E s:=by
 have hout:=kat_snds (vs:=vs) (ks:=ks) hl har
 unfold ksk_tail
 try dsimp only
 have s1:=Heap.SameBut.update s.heap kS (Obj.mapSeq fun _=>(#[]:Array Value))
 have ha1:(s.heap.update kS (Obj.mapSeq fun _=>(#[]:Array Value))).get? a = some (seqObj "list" #[] e1):=(s1.2 a hka.symm).trans ha
 refine wpAny_bind (listUpdate_at hk rfl ?_ (by rw [List.size_toArray,hl,sizeLine_eq];omega) (Nat.zero_le _))
 refine wpAny_bind (wpAny_letGo ?_)
 refine wpAny_bind (seqEpoch_at ha1 rfl ?_)
 simp only [Bool.false_eq_true,if_false]
 rw [hout]
 have s2:=Heap.SameBut.update (s.heap.update kS (Obj.mapSeq fun _=>(#[]:Array Value))) a (Obj.mapSeq fun _=>List.toArray (p.toList.map fun i=>vs.getD i Value.none))
 obtain ⟨c2,hc2⟩:∃ c2,((s.heap.update kS (Obj.mapSeq fun _=>(#[]:Array Value))).update a (Obj.mapSeq fun _=>List.toArray (p.toList.map fun i=>vs.getD i Value.none))).get? a = some (seqObj "list" (List.toArray (p.toList.map fun i=>vs.getD i Value.none)) c2):=
  ⟨_,get?_update_seq ha1 fun _=>List.toArray (p.toList.map fun i=>vs.getD i Value.none)⟩
 refine wpAny_bind (listUpdate_at ha1 rfl ?_ (Nat.zero_le _) (by rw [List.size_toArray,List.length_map,Array.length_toList,hp,sizeLine_eq];omega))
 rw [hf]
 simp only [bne_self_eq_false,Bool.false_eq_true,if_false]
 have I1:Inv X pins σ H { s with heap:=s.heap.update kS (Obj.mapSeq fun _=>(#[]:Array Value)) }:=I.moved (t':=s.toks) fk fun b o hb q=>(s1.2 b hb).trans q
 exact wpAny_pure (h _ c2 (I1.moved (t':=s.toks) fa fun b o hb q=>(s2.2 b hb).trans q) hc2)
theorem list_sort_key {A:Around} {E:Value->Shared->Prop} {a:Addr} {vs:List Value} {n:Nat} {f:Value} {zs:List Str} {P:PySem.Fin->Shared->Prop} (I:Inv X pins σ H s) (fa:FpOk X pins H a) (ho:s.heap.get? a = some (seqObj "list" vs.toArray n)) (hlen:zs.length = vs.length) (nd:zs.Nodup) (h64:vs.length < 64)
  (turn:∀ (i:Nat) (v:Value) (z:Str),vs[i]? = some v->zs[i]? = some z->∀ s':Shared,Inv X pins σ H s'->wpAny (model X.prog X.w) A (call f [v]) (fun k s''=>(∃ t,k = .str z t)/\Inv X pins σ H s''/\∀ b o,FpOk X pins H b->s'.heap.get? b = some o->s''.heap.get? b = some o) (fun _ _=>False) s')
  (h:∀ (p:Array Nat) (s':Shared) (e:Nat),Srt.PN vs.length p->Srt.Up (Srt.rz zs) p vs.length->Inv X pins σ H s'->s'.heap.get? a = some (seqObj "list" (List.toArray (p.toList.map fun i=>vs.getD i Value.none)) e)->P (.done (.ret .none)) s') :
  wpAny (model X.prog X.w) A (ksk_tree a f false) P E s:=by
 have haL:a < s.heap.objs.size:=Heap.lt_size ho
 have s1:=Heap.SameBut.update s.heap a (Obj.mapSeq fun _=>(#[]:Array Value))
 obtain ⟨e1,ho1⟩:∃ e1,(s.heap.update a (Obj.mapSeq fun _=>(#[]:Array Value))).get? a = some (seqObj "list" #[] e1):=⟨_,get?_update_seq ho fun _=>#[]⟩
 have I1:Inv X pins σ H { s with heap:=s.heap.update a (Obj.mapSeq fun _=>(#[]:Array Value)) }:=I.moved (t':=s.toks) fa fun b o hb q=>(s1.2 b hb).trans q
 have I2:Inv X pins σ H { s with heap:=(s.heap.update a (Obj.mapSeq fun _=>(#[]:Array Value))).push (seqObj "tuple" vs.toArray 0) }:=I1.kept (t':=s.toks) fun b o q=>Heap.get?_push_of_some _ q
 have I3:Inv X pins σ H { s with heap:=((s.heap.update a (Obj.mapSeq fun _=>(#[]:Array Value))).push (seqObj "tuple" vs.toArray 0)).push (seqObj "list" #[] 0) }:=I2.kept (t':=s.toks) fun b o q=>Heap.get?_push_of_some _ q
 have fk:FpOk X pins H ((s.heap.update a (Obj.mapSeq fun _=>(#[]:Array Value))).push (seqObj "tuple" vs.toArray 0)).objs.size:=I2.fpOk (Nat.le_refl _) (I2.hok.fresh (Nat.le_refl _))
 have hkS:((s.heap.update a (Obj.mapSeq fun _=>(#[]:Array Value))).push (seqObj "tuple" vs.toArray 0)).objs.size = s.heap.objs.size + 1:=by rw [size_push',Heap.size_update]
 have hka:((s.heap.update a (Obj.mapSeq fun _=>(#[]:Array Value))).push (seqObj "tuple" vs.toArray 0)).objs.size ≠ a:=by rw [hkS];exact Nat.ne_of_gt (Nat.lt_succ_of_lt haL)
 unfold ksk_tree
 refine wpAny_bind (listItems_at ho rfl ?_)
 refine wpAny_bind (listUpdate_at ho rfl ?_ (by rw [List.size_toArray,sizeLine_eq];omega) (Nat.zero_le _))
 refine wpAny_bind (seqEpoch_at ho1 rfl ?_)
 refine wpAny_bind (wpAny_newTuple ?_ (by show vs.length ≤ _;rw [sizeLine_eq];omega))
 refine wpAny_bind (wpAny_newList ?_ (Nat.zero_le _))
 refine wpAny_holding ?_
 generalize ekS:((s.heap.update a (Obj.mapSeq fun _=>(#[]:Array Value))).push (seqObj "tuple" vs.toArray 0)).objs.size = kS at fk hka
 show wpAny (model X.prog X.w) A (ksk_rest a f false vs.toArray e1 (.ref kS)) P E { s with heap:=((s.heap.update a (Obj.mapSeq fun _=>(#[]:Array Value))).push (seqObj "tuple" vs.toArray 0)).push (seqObj "list" #[] 0) }
 have hk0:(((s.heap.update a (Obj.mapSeq fun _=>(#[]:Array Value))).push (seqObj "tuple" vs.toArray 0)).push (seqObj "list" #[] 0)).get? kS = some (seqObj "list" #[] 0):=by rw [← ekS];exact Heap.get?_push_size _ rfl
 have ha0:(((s.heap.update a (Obj.mapSeq fun _=>(#[]:Array Value))).push (seqObj "tuple" vs.toArray 0)).push (seqObj "list" #[] 0)).get? a = some (seqObj "list" #[] e1):=Heap.get?_push_of_some _ (Heap.get?_push_of_some _ ho1)
 unfold ksk_rest
 refine wpAny_bind (wpAny_rule ?_)
 first
  | rw [List.forIn_toArray]
  | (rw [← Array.forIn_toList];simp only [List.toList_toArray])
  | rw [← Array.forIn_toList]
 refine wpAny_bind (ksk_fold (fun i s'=>∃ (kA:List Value) (e:Nat),Inv X pins σ H s'/\s'.heap.get? kS = some (seqObj "list" kA.toArray e)/\s'.heap.get? a = some (seqObj "list" #[] e1)/\StrsAre kA (zs.take i)) vs 0 _ ⟨[],0,I3,hk0,ha0,by simpa using StrsAre.nil⟩ ?step ?done)
 case step=>
  rintro j x s' hx ⟨kA,e,J,hk,ha,hs⟩
  simp only [Nat.zero_add] at hs ⊢
  have hj:j < vs.length:=(List.getElem?_eq_some_iff.mp hx).1
  obtain ⟨z,hz⟩:∃ z,zs[j]? = some z:=⟨_,List.getElem?_eq_getElem (by omega)⟩
  have hsz:kA.length ≤ vs.length:=by
   have h1:kA.length = (zs.take j).length:=hs.length
   rw [List.length_take] at h1
   omega
  refine wpAny_bind (wpAny_attempt (wpAny_mono (turn j x z hx hz s' J) (fun v s'' he=>?_) fun _ _ hF=>hF.elim))
  obtain ⟨⟨t,rfl⟩,J2,kp⟩:=he
  try dsimp only
  have hk2:=kp kS _ fk hk
  have ha2:=kp a _ fa ha
  have u1:=Heap.SameBut.update s''.heap kS (Obj.mapSeq (·.push (.str z t)))
  obtain ⟨c2,hc2⟩:∃ c2,(s''.heap.update kS (Obj.mapSeq (·.push (.str z t)))).get? kS = some (seqObj "list" (kA.toArray.push (.str z t)) c2):=⟨_,get?_update_seq hk2 (·.push (.str z t))⟩
  have ek:zs.take (j + 1) = zs.take j ++ [z]:=by rw [List.take_add_one,hz];simp
  refine wpAny_bind (listUpdate_at hk2 rfl ?_ (by rw [List.size_toArray,sizeLine_eq];omega) (Nat.le_trans (Nat.le_of_eq (Array.size_push ..)) (by rw [List.size_toArray,sizeLine_eq];omega)))
  exact wpAny_pure ⟨rfl,kA ++ [.str z t],c2,J2.moved (t':=s''.toks) fk fun b o hb q=>(u1.2 b hb).trans q,by rw [hc2];simp,(u1.2 a hka.symm).trans ha2,by rw [ek];exact strs_snoc hs⟩
 case done=>
  rintro s' ⟨kA,e,J,hk,ha,hs⟩
  have hs':StrsAre kA zs:=by
   have e3:zs.take (0 + vs.length) = zs:=List.take_of_length_le (by omega)
   rw [e3] at hs
   exact hs
  have hl:kA.length = vs.length:=by have h1:kA.length = zs.length:=hs'.length;omega
  try dsimp only
  refine wpAny_bind (listItems_at hk rfl ?_)
  unfold ksk_end
  try dsimp only
  rw [if_neg (by decide)]
  by_cases h2:vs.toArray.size < 2
  ·rw [if_pos h2,if_pos h2]
   refine wpAny_bind (wpAny_pure ?_)
   rw [StateT.run_pure]
   refine wpAny_bind (wpAny_pure ?_)
   try dsimp only
   simp only [Bool.false_eq_true,if_false]
   refine key_tail (vs:=vs) (ks:=kA) (p:=List.toArray (List.range vs.length)) J fa fk hka hk ha hl h64 (by simp) (by
    have e:=kas_range (kA.toArray.zip vs.toArray)
    rw [show (kA.toArray.zip vs.toArray).size = vs.length by simp [hl]] at e
    exact e.symm) rfl fun s3 e3 J3 g3=>h (List.toArray (List.range vs.length)) s3 e3 (by unfold Srt.PN;simp) (fun i j hij hj=>?_) J3 g3
   rw [List.size_toArray] at h2
   have ei:i = 0:=by omega
   have ej:j = 0:=by omega
   subst ei ej
   unfold Srt.rz
   rw [decide_eq_false_iff_not]
   exact List.lt_irrefl _
  ·have hn2:2 ≤ vs.length:=by rw [List.size_toArray] at h2;omega
   rw [if_neg h2,if_neg h2]
   obtain ⟨v₁,v₂,rest,ev⟩:∃ v₁ v₂ rest,kA = v₁ :: v₂ :: rest:=by
    match kA,hl with
    | [],hl=>simp at hl;omega
    | [_],hl=>simp at hl;omega
    | v₁ :: v₂ :: rest,_=>exact ⟨v₁,v₂,rest,rfl⟩
   have hkk:keyKind' kA.toArray = pure oneType':=by rw [ev];exact keyKind_strs (by rw [← ev];exact hs')
   rw [hkk]
   refine wpAny_bind (wpAny_pure ?_)
   simp only [Bool.false_eq_true,if_false]
   refine wpAny_bind (wpAny_mono (kat_run (prog:=X.prog) (w:=X.w) (A:=A) (E:=E) (κ:=oneType') (ks:=kA) (vs:=vs) (s:=s')
    (Q:=fun st' s''=>∃ p:Array Nat,p.size = vs.length/\arrOf st' = p.map (kas_item (kA.toArray.zip vs.toArray))/\failedOf st' = none/\Srt.PN vs.length p/\Srt.Up (Srt.rz zs) p vs.length/\s'' = s')
    (G:=fun p s''=>Srt.PN vs.length p/\Srt.Up (Srt.rz zs) p vs.length/\s'' = s')
    hl hn2 h64 (fun p' st' s'' a1 a2 a3 a4=>⟨p',a1,a2,a3,a4⟩) ?_) ?_ fun _ _ e=>e)
   ·rw [← hlen]
    exact Srt.sort (Srt.ord_z nd) (cmp_k (s1:=s') hs') (by omega) rfl fun p' s'' b1 b2 b3=>⟨b1,b2,b3⟩
   ·rintro ⟨⟨⟩,st'⟩ s'' ⟨p,hp,har,hf,pn,up,rfl⟩
    try dsimp only
    exact key_tail (vs:=vs) (ks:=kA) J fa fk hka hk ha hl h64 hp har hf fun s3 e3 J3 g3=>h p s3 e3 pn up J3 g3
end
end L2
namespace L2
open PySem PySem.Spec PyProof.Rows PySem.W
section
variable {X:Cx} {pins:List (Addr × Obj)} {σ:St} {H:Hp} {s:Shared} {f c':Addr} {q x:Str} {params:Arguments} {body:Expr} {scope:Scope} {pm:Value} {k:Nat}
theorem lam_turn {t:TE} {A:Around} {u:Value} {v:V} {z:Str} (I:Inv X pins σ H s) (e0:Env0 X.prog X.w X.K X.mg X.base A X.stack s H) (hr:Room (k + 1) A) (hf:H f = some (.ext (lamP f q params body scope pm c'))) (hc:H c' = some (.ext (codeP c' q))) (S:FnScope [x] [x] scope)
  (hb:∀ (ctv u:Value),bindArgs (PySem.W.kla_fn "<lambda>" q params body scope [] pm (.ref c') ctv) ⟨[u],[]⟩ = pure [(x,u)])
  (hbody:PE (cxOf CX0 X.prog X.w X.K X.mg X.base [x] q scope f (.ref c') A X.stack s H E0).nox body t) (r:RelV v u) (ht:t [some v] H fun v' H'=>v' = .str z/\H' = H) :
  wpAny (model X.prog X.w) A (call (.ref f) [u]) (fun k s''=>(∃ t,k = .str z t)/\Inv X pins σ H s''/\∀ b o,FpOk X pins H b->s.heap.get? b = some o->s''.heap.get? b = some o) (fun _ _=>False) s:=by
 refine wpAny_call (codeAny_mono (code_lam e0 hr hf hc S hb hbody r ht) fun r s' hq=>?_)
 cases r with
 | error e=>exact hq
 | ok fl=>
  cases fl with
  | ret w'=>
   have hq':CE X.stack X.prog X.w H s (fun v' H'=>v' = .str z/\H' = H) w' s':=hq
   obtain ⟨v1,H1,J,rv,rfl,rfl⟩:=I.after hq'
   obtain ⟨v2,H2,os,bare,un,hok,rv2,rfl,rfl⟩:=hq'
   refine ⟨rv,J,fun b o fb e=>un.keep b o e fb.1 (fun hm=>?_) (by simp)⟩
   rcases List.mem_cons.mp (I.stkSub b hm) with y | y
   ·exact fb.2.1 y
   ·exact fb.2.2.1 y
  | next=>exact False.elim hq
  | brk=>exact False.elim hq
  | cont=>exact False.elim hq
theorem sorted_key {p:Addr} {xs:List V} {zs:List Str} {fv:Value} {Q:VK} (I:Inv X pins σ H s) (hp:SqL X.K H p xs) (hlen:zs.length = xs.length) (nd:zs.Nodup) (h64:xs.length < 64) (hfv:∃ f,fv = .ref f)
  (turn:∀ (i:Nat) (v:V) (u:Value) (z:Str),xs[i]? = some v->RelV v u->zs[i]? = some z->∀ s':Shared,Inv X pins σ H s'->wpAny (model X.prog X.w) X.A.in1.in1 (call fv [u]) (fun k s''=>(∃ t,k = .str z t)/\Inv X pins σ H s''/\∀ b o,FpOk X pins H b->s'.heap.get? b = some o->s''.heap.get? b = some o) (fun _ _=>False) s')
  (h:∀ (l:Addr) (ix:List Nat),H l = none->ix.Perm (List.range xs.length)->Rise (ix.map fun i=>zs.getD i "")->Q (.ref l) (upd H l (.lst (ix.map fun i=>xs.getD i .non)))) :
  wpAny (model X.prog X.w) X.A (call (.builtin "sorted") [.ref p] [(Str.ofString "key",fv)]) (EP X pins σ Q) X.xe s:=by
 obtain ⟨f,rfl⟩:=hfv
 obtain ⟨vs,r',pl,hz⟩:=I.list hp
 have hl:=r'.length
 refine call_function_entry_kw kind_sorted plain_sorted entry_sorted (ksk_s1 _ _) ?_
 unfold Builtin.«sorted»
 refine wpAny_bind (m:=checkCount "sorted" 1 1 _) (wpAny_pure ?_)
 refine wpAny_bind (collect_list pl.isList ?_ (by rw [sizeLine_eq];omega))
 refine wpAny_bind (wpAny_newList ?_ (by rw [sizeLine_eq];omega))
 have hsz:((s.heap.push (seqObj "list" #[] 0)).update s.heap.objs.size (Obj.mapSeq (· ++ vs.toArray))).objs.size = s.heap.objs.size + 1:=by
  rw [Heap.size_update,size_push']
 have hoL:(((s.heap.push (seqObj "list" #[] 0)).update s.heap.objs.size (Obj.mapSeq (· ++ vs.toArray))).push (seqObj "list" vs.toArray 0)).get? (s.heap.objs.size + 1) = some (seqObj "list" vs.toArray 0):=by
  rw [← hsz];exact Heap.get?_push_size _ rfl
 have keep:∀ b o,s.heap.get? b = some o->(((s.heap.push (seqObj "list" #[] 0)).update s.heap.objs.size (Obj.mapSeq (· ++ vs.toArray))).push (seqObj "list" vs.toArray 0)).get? b = some o:=fun b o q=>by
  have hlt:b < s.heap.objs.size:=Heap.lt_size q
  rw [Heap.get?_push_ne _ _ _ (by rw [hsz];exact Nat.ne_of_lt (Nat.lt_succ_of_lt hlt)),Heap.get?_update_ne _ _ _ _ (Nat.ne_of_lt hlt),Heap.get?_push_ne _ _ _ (Nat.ne_of_lt hlt)]
  exact q
 have I2:Inv X pins σ H { s with heap:=((s.heap.push (seqObj "list" #[] 0)).update s.heap.objs.size (Obj.mapSeq (· ++ vs.toArray))).push (seqObj "list" vs.toArray 0) }:=I.kept (t':=s.toks) keep
 have fa:FpOk X pins H (s.heap.objs.size + 1):=I.fpOk (Nat.le_succ _) (I.hok.fresh (Nat.le_succ _))
 have our:Our X pins H (s.heap.objs.size + 1):=⟨Nat.le_trans I.sz (Nat.le_succ _),fa.2.1,fa.2.2.2.2.1,fa.2.2.2.2.2,fa.1⟩
 show wpAny _ _ _ _ _ { s with heap:=((s.heap.push (seqObj "list" #[] 0)).update s.heap.objs.size (Obj.mapSeq (· ++ vs.toArray))).push (seqObj "list" vs.toArray 0) }
 rw [hsz]
 refine wpAny_bind (wpAny_holding (wpAny_call_entry_kw slot_list_sort ⟨_,hoL,rfl⟩ entry_list_sort ?body (ksk_l1 _ _)))
 case body=>
  show wpAny (model X.prog X.w) X.A.in1.in1 (Builtin.«list.sort» ⟨[.ref (s.heap.objs.size + 1)],[(Str.ofString "key",.ref f)]⟩) _ _ _
  rw [ksk_t1]
  refine list_sort_key (zs:=zs) I2 fa hoL (by omega) nd (by omega) (fun i v z hv hzi s' J=>?_) fun p' s3 e pn up J3 g3=>⟨_,rfl,?_⟩
  ·have hi:i < vs.length:=(List.getElem?_eq_some_iff.mp hv).1
   obtain ⟨u,hu,ru⟩:=r'.get (i:=i) (x:=xs[i]'(by omega)) (by simp)
   rw [hv] at hu
   cases hu
   exact turn i (xs[i]'(by omega)) v z (by simp) ru hzi s' J
  ·have hs:=pn.size
   have lt:∀ i ∈ p'.toList,i < vs.length:=fun i hi=>List.mem_range.mp (pn.mem_iff.mp hi)
   refine wpAny_pure ⟨_,rfl,.ref (s.heap.objs.size + 1),_,J3.track our (o:=.lst (p'.toList.map fun i=>xs.getD i .non)) ?_,rfl,h _ p'.toList (I.hok.fresh (Nat.le_succ _)) (by rw [hl];exact pn) ?_⟩
   ·refine ⟨by rw [List.length_map,Array.length_toList,hs,← hl];exact hz,_,e,?_,g3⟩
    exact vals_map r' _ fun i hi=>by have:=lt i hi;omega
   ·unfold Rise
    rw [List.pairwise_map,List.pairwise_iff_getElem]
    intro i j hi hj hij
    have hi':i < p'.size:=by simpa using hi
    have hj':j < p'.size:=by simpa using hj
    have h0:=up i j (by omega) (by omega)
    unfold Srt.rz at h0
    rw [decide_eq_false_iff_not,Srt.getD_get hi',Srt.getD_get hj'] at h0
    rw [Array.getElem_toList,Array.getElem_toList]
    exact h0
def tSortK (K:PySem.W.Frag) (q:Str) (params:Arguments) (body:Expr) (scope:Scope) (pm:Value) (te tl tb:TE):TE:=fun σ H Q=>te σ H fun y H1=>tl σ H1 fun g H2=>∃ (p f c':Addr) (xs:List V) (zs:List Str),y = .ref p/\g = .ref f ∧
 H2 f = some (.ext (lamP f q params body scope pm c'))/\H2 c' = some (.ext (codeP c' q))/\SqL K H2 p xs/\zs.length = xs.length/\zs.Nodup/\xs.length < 64 ∧
 (∀ (i:Nat) (v:V) (z:Str),xs[i]? = some v->zs[i]? = some z->tb [some v] H2 fun v' H'=>v' = .str z/\H' = H2) ∧
 ∀ (l:Addr) (ix:List Nat),H2 l = none->ix.Perm (List.range xs.length)->Rise (ix.map fun i=>zs.getD i "")->Q (.ref l) (upd H2 l (.lst (ix.map fun i=>xs.getD i .non)))
theorem pe_sortedK {e lam:Expr} {te tl tb:TE} {np kpos pos:Pos} (hr:Room (k + 3) X.A) (hg:Gl X "sorted") (hm:X.mg "sorted" = none) (he:PE X e te) (hlam:PE X lam tl) (S:FnScope [x] [x] scope)
  (hb:∀ (c':Addr) (ctv u:Value),bindArgs (PySem.W.kla_fn "<lambda>" q params body scope [] pm (.ref c') ctv) ⟨[u],[]⟩ = pure [(x,u)])
  (hbody:∀ (f c':Addr) (s:Shared) (H:Hp),PE (cxOf CX0 X.prog X.w X.K X.mg X.base [x] q scope f (.ref c') X.A.in1.in1 X.stack s H E0).nox body tb) (hstar:starEach [e] X.env = [(false,eval e X.env)]:=by rfl) :
  PE X (.Call (.Name "sorted" np) [e] [⟨some "key",lam,kpos⟩] pos) (tSortK X.K q params body scope pm te tl tb):=by
 intro pins s σ H Q I h
 refine wpAny_Call_Name_kw (ld_blt I hg hm (show bootBuiltins "sorted" = some (.builtin "sorted") by decide +kernel) ?_ (by decide) (by decide))
 refine callWith_kw (e:=e) (rest:=[]) (kws:=[⟨some "key",lam,kpos⟩]) ?_ (by rw [hstar];rfl) (by rw [hstar];rfl)
 rw [hstar]
 show wpAny _ _ (spliced [(false,eval e X.env)]) _ _ s
 refine Calls.spliced_cons (thn (he pins s σ H _ I h) fun u s1 ⟨y,H1,I1,ry,q1⟩=>Calls.spliced_nil ?_)
 show wpAny _ _ (evalAll [(do let v ← eval lam X.env;standAt pos;pure v)]) _ _ s1
 refine wpAny_evalAll_cons (wpAny_bind (thn (hlam pins s1 σ H1 _ I1 q1) fun gv s2 ⟨g,H2,I2,rg,q2⟩=>wpAny_bind (wpAny_standAt (wpAny_pure (wpAny_evalAll_nil ?_)))))
 obtain ⟨p,f,c',xs,zs,rfl,rfl,hf,hc,hp,hlen,nd,h64,ht,hq⟩:=q2
 cases ry
 cases rg
 have hr1:Room (k + 1) X.A.in1.in1:=hr.in1.in1
 exact sorted_key I2 hp hlen nd h64 ⟨f,rfl⟩ (fun i v u z hv ru hz s' J=>lam_turn J J.env0.in1.in1 hr1 hf hc S (hb c') (hbody f c' s' H2) ru (ht i v z hv hz)) hq
end
end L2
namespace L2
open PySem PySem.Spec PyProof.Rows
structure FunC (K:PySem.W.Frag) (x qual:Str) (st:Stmt) (f:Addr) (fd:FuncData) (c:Addr):Prop where
 ex:∃ (oc:Value) (od:Option Addr) (kV doc pm:Value) (an:Option Addr) (ct:Value) (osl:Array (Option Value)),
  fd = PySem.W.fnOf x qual (defArgs st) (defBody st) (defScope st) .none kV doc pm an (.ref c) ct/\K.lookup f = some ⟨oc,od,.func fd,osl⟩/\PySem.W.codeIn K (.ref c) qual = true
 kp:PySem.W.keepIn K (.ref f) = true
section
variable {P:Program} {w:World} {K:PySem.W.Frag} {mg:Str->Option Value} {base:Heap}
theorem FunC.fn {x qual:Str} {st:Stmt} {f c:Addr} {fd:FuncData} (F:FunC K x qual st f fd c):Fun K x qual st f fd:=by
 obtain ⟨⟨oc,od,kV,doc,pm,an,ct,osl,h1,h2,h3⟩,kp⟩:=F
 exact ⟨⟨oc,od,kV,doc,pm,an,.ref c,ct,osl,h1,h2,h3⟩,kp⟩
theorem FunC.ok {x qual:Str} {st:Stmt} {f c:Addr} {fd:FuncData} {N ps:List Str} {k:Nat} {sp:Sp} (F:FunC K x qual st f fd c) (S:FnScope N ps (defScope st)) (len:∀ vs H Q E,sp vs H Q E->vs.length = ps.length)
  (hbody:∀ (A:Around) (outer:List Env) (s:Shared) (H:Hp) (vs:List V) (Q:VK) (E:XK),Room k (A.deeper (envOfC qual (defScope st) s.heap.objs.size f (.ref c)))->sp vs H Q E →
   ∃ t,PSs (cxOf CX0 P w K mg base N qual (defScope st) f (.ref c) A outer s H E).nox (defBody st) t/\t { nx:=fun _ H'=>Q .non H',rt:=Q } (start N vs) H):FnOk P w K mg base CX0 (k + 1) f fd ps sp:=by
 obtain ⟨oc,od,kV,doc,pm,an,ct,osl,rfl,lk,hcd⟩:=F.ex
 refine fn_of lk hcd S len fun A outer s H vs Q E hr hsp=>?_
 obtain ⟨t,h,q⟩:=hbody A outer s H vs Q E hr hsp
 exact ⟨t,h.nox,q⟩
end
theorem pg_tupK {X:Cx} {K:PySem.W.Frag} {es:List Expr} {k:Nat} {pos:Pos} {t:TGs} {n:Nat} (hK:X.K = K) (hc:X.calm = true) (h:PGs X es t)
  (hn:(assignEach es X.env).length = n:=by rfl) (hst:(assignEach es X.env).findIdx? (·.1) = none:=by rfl):PG X (.Tuple es k pos) (gTup K n t):=by
 subst hK
 exact pg_tup hc h hn hst
def notT:HO->Bool
 | .tbl _=>false
 | _=>true
def Sb (H H':Hp):Prop:=∀ a o,notT o = true->H a = some o->H' a = some o
theorem Sb.trans {H H1 H2:Hp} (a:Sb H H1) (b:Sb H1 H2):Sb H H2:=fun x o n e=>b x o n (a x o n e)
theorem Same.sb {H H':Hp} (s:Same H H'):Sb H H':=fun a o _ e=>s a o e
end L2
namespace My
open PySem L2 PyProof.Rows
mutual
theorem Rep.sb {H H':Hp} (e:Sb H H'):∀ {d:Dt} {v:V},Rep H d v->Rep H' d v
 | .non,v,h=>by unfold Rep at h ⊢;exact h
 | .bl b,v,h=>by unfold Rep at h ⊢;exact h
 | .int i,v,h=>by unfold Rep at h ⊢;exact h
 | .str z,v,h=>by unfold Rep at h ⊢;exact h
 | .tup ds,v,h=>by
  unfold Rep at h ⊢
  obtain ⟨a,xs,h1,h2,h3⟩:=h
  exact ⟨a,xs,h1,e _ _ rfl h2,Reps.sb e h3⟩
 | .lst ds,v,h=>by
  unfold Rep at h ⊢
  obtain ⟨a,xs,h1,h2,h3⟩:=h
  exact ⟨a,xs,h1,e _ _ rfl h2,Reps.sb e h3⟩
 | .dct,v,h=>by
  unfold Rep at h ⊢
  obtain ⟨a,xs,h1,h2⟩:=h
  exact ⟨a,xs,h1,e _ _ rfl h2⟩
theorem Reps.sb {H H':Hp} (e:Sb H H'):∀ {ds:List Dt} {vs:List V},Reps H ds vs->Reps H' ds vs
 | [],vs,h=>by unfold Reps at h ⊢;exact h
 | d :: ds,vs,h=>by
  unfold Reps at h ⊢
  obtain ⟨v,ws,h1,h2,h3⟩:=h
  exact ⟨v,ws,h1,Rep.sb e h2,Reps.sb e h3⟩
end
theorem ColsOk.sb {H H':Hp} {cols:List (Str × V)} (h:ColsOk H cols) (e:Sb H H'):ColsOk H' cols:=⟨h.1,h.2.1,fun p hp=>⟨(h.2.2 p hp).1,let ⟨d,h1,h2⟩:=(h.2.2 p hp).2;⟨d,Rep.sb e h1,h2⟩⟩⟩
theorem ColsAt.sb {H H':Hp} {t:Addr} {cols:List (Str × V)} (h:ColsAt H t cols) (e:Sb H H'):ColsAt H' t cols:=by
 obtain ⟨o,ps,zs,h1,h2,h3,h4,h5,h6⟩:=h
 exact ⟨o,ps,zs,h1,h2,h3,e _ _ rfl h4,h5,fun j p z a b=>e _ _ rfl (h6 j p z a b)⟩
theorem EntAt.sb {H H':Hp} {e:Addr} {T:Tb} (h:EntAt H e T) (s:Sb H H'):EntAt H' e T:=by
 obtain ⟨ct,h1,h2⟩:=h
 exact ⟨ct,s _ _ rfl h1,h2.sb s⟩
def TabOk (P:Addr) (pos:Pos) (q:Str) (H:Hp):Prop:=H P = some (.tbl #[])\/∃ c',H P = some (.tbl #[rawInt pos.line,rawInt pos.col,.ref c'])/\H c' = some (.ext (codeP c' q))
theorem TabOk.same {P:Addr} {pos:Pos} {q:Str} {H H':Hp} (h:TabOk P pos q H) (s:Same H H'):TabOk P pos q H':=by
 rcases h with h | ⟨c',h1,h2⟩
 ·exact .inl (s _ _ h)
 ·exact .inr ⟨c',s _ _ h1,s _ _ h2⟩
theorem lam_made {P:Addr} {pos:Pos} {q:Str} {params:Arguments} {body:Expr} {scope:Scope} {pm:Value} {σ:L2.St} {H:Hp} {Q:VK} (h:TabOk P pos q H)
  (hq:∀ f c' H',Sb H H'->(∀ a,a ≠ P->H a ≠ none->H' a = H a)->TabOk P pos q H'->H' f = some (.ext (lamP f q params body scope pm c'))->H' c' = some (.ext (codeP c' q))->Q (.ref f) H'):tLam P pos q params body scope pm σ H Q:=by
 rcases h with h | ⟨c',h1,h2⟩
 ·refine ⟨#[],h,trivial,.inl ⟨rfl,fun c' f n1 n2 n3 n4 n5=>?_⟩⟩
  have fr:∀ a,a ≠ P->H a ≠ none->(L2.upd (L2.upd (L2.upd H P (.tbl (#[] ++ #[rawInt pos.line,rawInt pos.col,.ref c']))) c' (.ext (codeP c' q))) f (.ext (lamP f q params body scope pm c'))) a = H a:=fun a n n0=>by
   rw [upd_ne (fun e=>n0 (by rw [e];exact n2)),upd_ne (fun e=>n0 (by rw [e];exact n1)),upd_ne n]
  refine hq f c' _ (fun a o n e=>?_) fr ?_ upd_same (by rw [upd_ne n3];exact upd_same)
  ·rw [fr a (fun e'=>by rw [e',h] at e;cases e;cases n) (by rw [e];simp)]
   exact e
  ·refine .inr ⟨c',?_,by rw [upd_ne n3];exact upd_same⟩
   rw [upd_ne (Ne.symm n5),upd_ne (Ne.symm n4)]
   exact upd_same
 ·refine ⟨_,h1,trivial,.inr ⟨c',by simp [codeAmong,rawInt],fun f n=>?_⟩⟩
  have S:=Same.upd (o:=.ext (lamP f q params body scope pm c')) n
  exact hq f c' _ S.sb (fun a _ n0=>upd_ne fun e=>n0 (by rw [e];exact n)) (.inr ⟨c',S _ _ h1,S _ _ h2⟩) upd_same (S _ _ h2)
end My
namespace My
open PySem L2 PyProof.Rows
seal L2.PE L2.PT L2.PW L2.PS L2.PSs L2.PA L2.PI L2.PG L2.PGs L2.OpR L2.UnR L2.CallR L2.IxR L2.SlR L2.MtR L2.PIf L2.PO L2.MtM L2.PC
def PartAt (H:Hp) (e d:Addr) (T:Tb):Prop:=H e = some (.tup [.str T.name,.str T.sort,.ref d])/\H d = some (.dK (kvC T.cols))/\ColsOk H T.cols
def PartsAt (H:Hp) (l:Addr) (es ds:List Addr) (Ts:List Tb):Prop:=H l = some (.lst (es.map V.ref))/\es.length = Ts.length/\ds.length = Ts.length/\∀ (j:Nat) (e d:Addr) (T:Tb),es[j]? = some e->ds[j]? = some d->Ts[j]? = some T->PartAt H e d T
theorem PartAt.sb {H H':Hp} {e d:Addr} {T:Tb} (h:PartAt H e d T) (s:Sb H H'):PartAt H' e d T:=⟨s _ _ rfl h.1,s _ _ rfl h.2.1,h.2.2.sb s⟩
theorem PartsAt.sb {H H':Hp} {l:Addr} {es ds:List Addr} {Ts:List Tb} (h:PartsAt H l es ds Ts) (s:Sb H H'):PartsAt H' l es ds Ts:=⟨s _ _ rfl h.1,h.2.1,h.2.2.1,fun j e d T a b c=>(h.2.2.2 j e d T a b c).sb s⟩
def TsOk (T0:Tb) (R:List Tb):Prop:=R.length ≤ 7/\((T0 :: R).map (·.name)).Nodup/\(∀ T ∈ T0 :: R,nameS T.name = true)/\T0.sort = "head"/\∀ T ∈ R,T.sort ∈ sides
def Fr (P:Addr) (H H':Hp):Prop:=∀ a o,a ≠ P->H a = some o->H' a = some o
def keyOf:Stmt->Expr
 | .Assign _ (.Call _ _ [⟨_,e,_⟩] _) _=>e
 | _=>.Constant .none 0 ⟨0,0,0,0⟩
def lamPos:Expr->Pos
 | .Lambda _ _ _ p=>p
 | _=>⟨0,0,0,0⟩
def foLam:Expr:=keyOf ((defBody (top 21)).getD 4 (.Pass ⟨0,0,0,0⟩))
def lamArgs:Expr->Arguments
 | .Lambda a _ _ _=>a
 | _=>defArgs (top 21)
def lamBody:Expr->Expr
 | .Lambda _ b _ _=>b
 | e=>e
def lamScope:Expr->Scope
 | .Lambda _ _ s _=>s
 | _=>defScope (top 21)
def foPos:Pos:=lamPos foLam
def foQ:Str:="form_of.<locals>.<lambda>"
def spForm (PF:Addr):Sp:=fun vs H Q _=>∃ (l:Addr) (sz:Int) (es ds:List Addr) (T0:Tb) (R:List Tb),vs = [.int sz,.ref l]/\1 ≤ sz/\PartsAt H l es ds (T0 :: R)/\TsOk T0 R/\TabOk PF foPos foQ H ∧
 ∀ (f:Addr) (H':Hp) (R':List Tb),Sb H H'->Fr PF H H'->TabOk PF foPos foQ H'->R'.Perm R->Rise (R'.map (·.name))->FormAt H' f sz (T0 :: R')->Q (.ref f) H'
def NotTup (o:Option HO):Prop:=(∀ xs,o ≠ some (.tup xs))/\∀ ob xs,o ≠ some (.frz ob (.tup xs))
theorem NotTup.lst {H:Hp} {D:Addr} {ys:List V} (e:H D = some (.lst ys)):NotTup (H D):=by rw [e];exact ⟨(fun _ h=>by cases h),(fun _ _ h=>by cases h)⟩
theorem ColsAt.beside {H:Hp} {D t:Addr} {u:HO} {cols:List (Str × V)} (n:NotTup (H D)) (h:ColsAt H t cols):ColsAt (L2.upd H D u) t cols:=by
 obtain ⟨o,ps,zs,h1,h2,h3,h4,h5,h6⟩:=h
 refine ⟨o,ps,zs,h1,h2,h3,?_,h5,fun j p z a b=>?_⟩
 ·rw [upd_ne (fun e=>n.2 _ _ (by rw [← e];exact h4))];exact h4
 ·have:=h6 j p z a b
  rw [upd_ne (fun e=>n.1 _ (by rw [← e];exact this))];exact this
theorem EntAt.beside {H:Hp} {D e:Addr} {u:HO} {T:Tb} (n:NotTup (H D)) (h:EntAt H e T):EntAt (L2.upd H D u) e T:=by
 obtain ⟨ct,h1,h2⟩:=h
 exact ⟨ct,by rw [upd_ne (fun e=>n.1 _ (by rw [← e];exact h1))];exact h1,h2.beside n⟩
section
variable {P:Program} {w:World} {K:PySem.W.Frag} {mg:Str->Option Value} {base:Heap}
theorem ok_form {f c PF fW fS fN fC:Addr} {fd fdW fdS fdN fdC:FuncData} (F:FunC K "form_of" "form_of" (top 21) f fd c) (B:Bl mg) (hC:PySem.W.codeHdIn K c PF = true) (hB:L2.BMain base mg)
  (DW:Df K mg "is_whole" (top 9) fW fdW) (GW:FnOk P w K mg base CX0 1 fW fdW ["thing"] (spWhole K)) (DS:Df K mg "ask_sorts" (top 22) fS fdS) (GS:FnOk P w K mg base CX0 1 fS fdS ["sorts"] spAskS) (DN:Df K mg "ask_names" (top 23) fN fdN) (GN:FnOk P w K mg base CX0 2 fN fdN ["names"] spAskN)
  (DC:Df K mg "columns_made" (top 24) fC fdC) (GC:FnOk P w K mg base CX0 5 fC fdC ["columns"] spColM):FnOk P w K mg base CX0 6 f fd ["size","tables"] (spForm PF):=by
 have sc:FnScope ["size","tables","made","sides"] ["size","tables"] (defScope (top 21)):=⟨rfl,rfl,rfl,by decide +kernel,rfl,by decide +kernel,by decide +kernel⟩
 have bW:=DW.fn.binds (ps:=["thing"]) fun _ _ _ _ _ _ us hl=>by obtain ⟨v0,rfl⟩:=L2.ln1 hl;rfl
 have bS:=DS.fn.binds (ps:=["sorts"]) fun _ _ _ _ _ _ us hl=>by obtain ⟨v0,rfl⟩:=L2.ln1 hl;rfl
 have bN:=DN.fn.binds (ps:=["names"]) fun _ _ _ _ _ _ us hl=>by obtain ⟨v0,rfl⟩:=L2.ln1 hl;rfl
 have bC:=DC.fn.binds (ps:=["columns"]) fun _ _ _ _ _ _ us hl=>by obtain ⟨v0,rfl⟩:=L2.ln1 hl;rfl
 refine F.ok sc (fun vs H Q E h=>?_) (fun A outer s H vs Q E hr h=>?_)
 ·obtain ⟨l,sz,es,ds,T0,R,rfl,_⟩:=h
  rfl
 ·obtain ⟨l,sz,es,ds,T0,R,rfl,sz1,hP,hT,hTab,q⟩:=h
  have hr1:Room 1 _:=hr.mono (by decide)
  have hr2:Room 2 _:=hr.mono (by decide)
  refine ⟨_,pss_cons (ps_if (PW.pt (pw_or (pt_not (pt_val (pe_call GW hr1 (by rfl) DW.mg DW.fn.kp bW .nil pass0 (pa_cons (pv 0) pa_nil)))) (pw_or1 (pt_cmpR op_lt (pv 0) pe_int (nomark _))))) pss_never pss_nil)
   (pss_cons (ps_expr (pe_call GS hr1 (by rfl) DS.mg DS.fn.kp bS .nil pass0 (pa_cons (pe_comp (osc:=defScope (top 21)) (N0:=["size","tables","made","sides"]) (xs:=["name","sort","columns"]) (fr:=[]) ⟨rfl,by decide +kernel,by decide +kernel,by decide +kernel,by decide,by decide +kernel⟩ rfl rfl rfl (pi_list (pv 1))
     (fun s H fp=>pg_tupK (K:=K) (n:=3) rfl rfl (pgs_cons (pg_name (i:=0) (show (["name","sort","columns"]:List Str).Nodup by decide +kernel) rfl (Or.inl rfl)) (pgs_cons (pg_name (i:=1) (show (["name","sort","columns"]:List Str).Nodup by decide +kernel) rfl (Or.inl rfl)) (pgs_cons (pg_name (i:=2) (show (["name","sort","columns"]:List Str).Nodup by decide +kernel) rfl (Or.inl rfl)) pgs_nil)))) (fun s H fp=>pif_nil)
     (fun s H fp=>pv 1)) pa_nil)))
   (pss_cons (ps_expr (pe_call GN hr2 (by rfl) DN.mg DN.fn.kp bN .nil pass0 (pa_cons (pe_comp (osc:=defScope (top 21)) (N0:=["size","tables","made","sides"]) (xs:=["name","sort","columns"]) (fr:=[]) ⟨rfl,by decide +kernel,by decide +kernel,by decide +kernel,by decide,by decide +kernel⟩ rfl rfl rfl (pi_list (pv 1))
     (fun s H fp=>pg_tupK (K:=K) (n:=3) rfl rfl (pgs_cons (pg_name (i:=0) (show (["name","sort","columns"]:List Str).Nodup by decide +kernel) rfl (Or.inl rfl)) (pgs_cons (pg_name (i:=1) (show (["name","sort","columns"]:List Str).Nodup by decide +kernel) rfl (Or.inl rfl)) (pgs_cons (pg_name (i:=2) (show (["name","sort","columns"]:List Str).Nodup by decide +kernel) rfl (Or.inl rfl)) pgs_nil)))) (fun s H fp=>pif_nil)
     (fun s H fp=>pv 0)) pa_nil)))
   (pss_cons (ps_comp (i:=2) (osc:=defScope (top 21)) (N0:=["size","tables","made","sides"]) (xs:=["name","sort","columns"]) (fr:=[]) ⟨rfl,by decide +kernel,by decide +kernel,by decide +kernel,by decide,by decide +kernel⟩ rfl rfl rfl (pi_list (pv 1))
     (fun s H fp=>pg_tupK (K:=K) (n:=3) rfl rfl (pgs_cons (pg_name (i:=0) (show (["name","sort","columns"]:List Str).Nodup by decide +kernel) rfl (Or.inl rfl)) (pgs_cons (pg_name (i:=1) (show (["name","sort","columns"]:List Str).Nodup by decide +kernel) rfl (Or.inl rfl)) (pgs_cons (pg_name (i:=2) (show (["name","sort","columns"]:List Str).Nodup by decide +kernel) rfl (Or.inl rfl)) pgs_nil)))) (fun s H fp=>pif_nil)
     (fun s H fp=>pe_tup (pa_cons (pv 0) (pa_cons (pv 1) (pa_cons (pe_call GC hr (by rfl) DC.mg DC.fn.kp bC .nil pass0 (pa_cons (pv 2) pa_nil)) pa_nil)))) sc.nd rfl (Or.inl rfl))
   (pss_cons (ps_set (i:=3) sc.nd rfl (Or.inl rfl) (pe_sortedK (k:=2) (x:="table") (q:=foQ) (params:=lamArgs foLam) (body:=lamBody foLam) (scope:=lamScope foLam) (pm:=(mg "__name__").getD .none) (tb:=tOp (rIxT K) (tVar 0) (tC (.int 0))) hr (by rfl) B.sorted (pe_slice sl_list (pv 2) (po_some pe_int) po_none) (pe_lam rfl hC hB) ⟨rfl,rfl,rfl,by decide +kernel,rfl,by decide +kernel,by decide +kernel⟩ (fun _ _ _=>rfl) (fun f c' s H=>pe_ix (r:=rIxT K) ix_tup (pv 0) pe_int (fun _ _=>rfl))))
   (pss_one (ps_ret (pe_tup (pa_cons (pv 0) (pa_cons (pe_callTy call_tuple_of (by rfl) B.tuple boot_tuple (pa_cons (pe_op op_cat (pe_slice sl_list (pv 2) po_none (po_some pe_int)) (pv 3)) pa_nil)) pa_nil)))))))))
   ,?_⟩
  obtain ⟨Ts,eTs⟩:∃ Ts,Ts = T0 :: R:=⟨_,rfl⟩
  rw [← eTs] at hP
  obtain ⟨r7,ndn,hnm,hhd,hsd⟩:=hT
  rw [← eTs] at ndn hnm
  have tl:Ts.length = R.length + 1:=by rw [eTs];rfl
  have e1l:=hP.2.1
  have e2l:=hP.2.2.1
  refine ⟨_,rfl,.int sz,"int",rfl,Is.int,_,rfl,iteC (by decide) ?_⟩
  refine ⟨_,rfl,_,_,rfl,rfl,_,rfl,iteC (decide_eq_false (by omega)) ?_⟩
  obtain ⟨HX,eHX⟩:∃ HX,HX = H:=⟨_,rfl⟩
  have SX:Same H HX:=by rw [eHX];exact Same.refl H
  rw [← eHX]
  refine ⟨_,rfl,l,rfl,⟨_,SqL.of (SX _ _ hP.1)⟩,fun D2 hD2=>?_⟩
  refine compW_map Ts.length (fun i=>.str ((Ts.map (·.sort)).getD i "")) (fun i σ' Hc=>(∃ t0 t1 t2,σ' = [t0,t1,t2])/\Same HX Hc) (by rw [sizeLine_eq];omega) ⟨⟨_,_,_,rfl⟩,Same.upd hD2⟩ upd_same ?_ ?_
  ·rintro i σ' Hc hi ⟨⟨t0,t1,t2,rfl⟩,sm⟩ hD'
   have hie:i < es.length:=by omega
   have hid:i < ds.length:=by omega
   have sc:=SX.trans sm
   have pt:=hP.2.2.2 i es[i] ds[i] Ts[i] (List.getElem?_eq_getElem hie) (List.getElem?_eq_getElem hid) (List.getElem?_eq_getElem hi)
   refine ⟨⟨_,V.ref es[i],SqL.of (sc _ _ hP.1),by rw [List.getElem?_map,List.getElem?_eq_getElem hie];rfl⟩,?_⟩
   rintro x H' ⟨rfl,hx'⟩
   have ex:=hx' _ (SqL.of (sc _ _ hP.1))
   rw [List.getElem?_map,List.getElem?_eq_getElem hie] at ex
   cases ex
   refine ⟨_,_,rfl,SqT.of (sc _ _ pt.1),rfl,_,_,rfl,_,_,rfl,_,_,rfl,rfl,_,rfl,?_,hD',⟨_,_,_,rfl⟩,sm.put hD2⟩
   rw [List.getD_eq_getElem?_getD,List.getElem?_map,List.getElem?_eq_getElem hi]
   rfl
  rintro σ2 H2 ⟨_,sm2⟩ hDn2
  refine ⟨⟨_,SqL.of ((SX.trans sm2) _ _ hP.1),by rw [List.length_map];omega⟩,?_⟩
  rw [show (List.range Ts.length).map (fun i=>V.str ((Ts.map (·.sort)).getD i "")) = (Ts.map (·.sort)).map V.str from by
   have:=range_map_getD (Ts.map (·.sort)) ("":Str) (fun z=>V.str z)
   rw [List.length_map] at this
   exact this] at hDn2
  refine ⟨D2,R.map (·.sort),rfl,by rw [hDn2,eTs,List.map_cons,hhd],(fun z hz=>?_),fun H3 s3=>?_⟩
  ·obtain ⟨T,hT',rfl⟩:=List.mem_map.mp hz
   exact hsd T hT'
  have S3:Same H H3:=(SX.trans sm2).trans s3
  clear SX eHX hD2 sm2 hDn2 s3
  clear H2
  obtain ⟨HX,eHX⟩:∃ HX,HX = H3:=⟨_,rfl⟩
  have SX:Same H HX:=by rw [eHX];exact S3
  rw [← eHX]
  refine ⟨_,rfl,l,rfl,⟨_,SqL.of (SX _ _ hP.1)⟩,fun D4 hD4=>?_⟩
  refine compW_map Ts.length (fun i=>.str ((Ts.map (·.name)).getD i "")) (fun i σ' Hc=>(∃ t0 t1 t2,σ' = [t0,t1,t2])/\Same HX Hc) (by rw [sizeLine_eq];omega) ⟨⟨_,_,_,rfl⟩,Same.upd hD4⟩ upd_same ?_ ?_
  ·rintro i σ' Hc hi ⟨⟨t0,t1,t2,rfl⟩,sm⟩ hD'
   have hie:i < es.length:=by omega
   have hid:i < ds.length:=by omega
   have sc:=SX.trans sm
   have pt:=hP.2.2.2 i es[i] ds[i] Ts[i] (List.getElem?_eq_getElem hie) (List.getElem?_eq_getElem hid) (List.getElem?_eq_getElem hi)
   refine ⟨⟨_,V.ref es[i],SqL.of (sc _ _ hP.1),by rw [List.getElem?_map,List.getElem?_eq_getElem hie];rfl⟩,?_⟩
   rintro x H' ⟨rfl,hx'⟩
   have ex:=hx' _ (SqL.of (sc _ _ hP.1))
   rw [List.getElem?_map,List.getElem?_eq_getElem hie] at ex
   cases ex
   refine ⟨_,_,rfl,SqT.of (sc _ _ pt.1),rfl,_,_,rfl,_,_,rfl,_,_,rfl,rfl,_,rfl,?_,hD',⟨_,_,_,rfl⟩,sm.put hD4⟩
   rw [List.getD_eq_getElem?_getD,List.getElem?_map,List.getElem?_eq_getElem hi]
   rfl
  rintro σ4 H4 ⟨_,sm4⟩ hDn4
  refine ⟨⟨_,SqL.of ((SX.trans sm4) _ _ hP.1),by rw [List.length_map];omega⟩,?_⟩
  rw [show (List.range Ts.length).map (fun i=>V.str ((Ts.map (·.name)).getD i "")) = (Ts.map (·.name)).map V.str from by
   have:=range_map_getD (Ts.map (·.name)) ("":Str) (fun z=>V.str z)
   rw [List.length_map] at this
   exact this] at hDn4
  refine ⟨D4,Ts.map (·.name),rfl,hDn4,ndn,(fun z hz=>?_),fun H5 s5=>?_⟩
  ·obtain ⟨T,hT',rfl⟩:=List.mem_map.mp hz
   exact hnm T hT'
  have S5:Same H H5:=(SX.trans sm4).trans s5
  refine ⟨_,rfl,l,rfl,⟨_,SqL.of (S5 _ _ hP.1)⟩,fun D6 hD6=>?_⟩
  have hD60:H D6 = none:=by
   cases e:H D6 with
   | none=>rfl
   | some o=>rw [S5 _ _ e] at hD6;cases hD6
  refine compW_idx Ts.length (fun i ys σ' Hc=>(∃ t0 t1 t2,σ' = [t0,t1,t2])/\Same H Hc/\∃ es':List Addr,ys = es'.map V.ref/\∀ (j:Nat) (e:Addr) (T:Tb),es'[j]? = some e->Ts[j]? = some T->EntAt Hc e T) (by rw [sizeLine_eq];omega) ⟨⟨_,_,_,rfl⟩,S5.trans (Same.upd hD6),[],rfl,fun j e T h=>nomatch h⟩ upd_same ?_ ?_
  ·rintro i σ' Hc ys hi ⟨⟨t0,t1,t2,rfl⟩,sm,es',rfl,hes⟩ hyl hD'
   rw [List.length_map] at hyl
   have hie:i < es.length:=by omega
   have hid:i < ds.length:=by omega
   have pt:=hP.2.2.2 i es[i] ds[i] Ts[i] (List.getElem?_eq_getElem hie) (List.getElem?_eq_getElem hid) (List.getElem?_eq_getElem hi)
   refine ⟨⟨_,V.ref es[i],SqL.of (sm _ _ hP.1),by rw [List.getElem?_map,List.getElem?_eq_getElem hie];rfl⟩,?_⟩
   rintro x H' ⟨rfl,hx'⟩
   have ex:=hx' _ (SqL.of (sm _ _ hP.1))
   rw [List.getElem?_map,List.getElem?_eq_getElem hie] at ex
   cases ex
   refine ⟨_,_,rfl,SqT.of (sm _ _ pt.1),rfl,_,_,rfl,_,_,rfl,_,_,rfl,rfl,?_⟩
   refine ⟨_,rfl,_,rfl,_,rfl,ds[i],Ts[i].cols,rfl,sm _ _ pt.2.1,pt.2.2.sb sm.sb,fun t H7 s7 hct=>?_⟩
   refine ⟨(by show 3 ≤ sizeLine;decide),fun p hp=>?_⟩
   have T:=Same.upd (o:=.tup [.str Ts[i].name,.str Ts[i].sort,.ref t]) hp
   have nD:NotTup ((L2.upd H7 p (.tup [.str Ts[i].name,.str Ts[i].sort,.ref t])) D6):=NotTup.lst (T _ _ (s7 _ _ hD'))
   refine ⟨T _ _ (s7 _ _ hD'),⟨_,_,_,rfl⟩,((sm.trans s7).trans T).put hD60,es' ++ [p],by rw [List.map_append];rfl,fun j e T' h1 h2=>?_⟩
   by_cases hj:j < es'.length
   ·rw [List.getElem?_append_left hj] at h1
    exact ((hes j e T' h1 h2).same (s7.trans T)).beside nD
   ·have hj':j = es'.length:=by
     have:=(List.getElem?_eq_some_iff.mp h1).1
     rw [List.length_append] at this
     simp at this
     omega
    subst hj'
    rw [List.getElem?_append_right (Nat.le_refl _),Nat.sub_self] at h1
    cases h1
    rw [hyl,List.getElem?_eq_getElem hi] at h2
    cases h2
    exact EntAt.beside nD ⟨t,upd_same,hct.same T⟩
  rintro σ6 H6 ys ⟨_,S6,es',rfl,hes⟩ hD6n hyl
  rw [List.length_map] at hyl
  refine ⟨⟨_,SqL.of (S6 _ _ hP.1),by rw [List.length_map];omega⟩,?_⟩
  refine ⟨_,rfl,_,rfl,D6,_,rfl,SqL.of hD6n,fun p7 e7=>?_⟩
  rw [cut_from (by decide) (by rw [List.length_map];omega),← List.map_drop]
  have T7:=Same.upd (o:=.lst ((es'.drop (1:Int).toNat).map V.ref)) e7
  have S7:=S6.trans T7
  refine lam_made (hTab.same S7) fun lf c' H8 sb8 fr8 tab8 hlf hc8=>?_
  have hPF:∀ o,H PF = some o->∃ ps,o = .tbl ps:=fun o e=>by
   rcases hTab with h | ⟨c'',h,_⟩
   ·rw [h] at e;cases e;exact ⟨_,rfl⟩
   ·rw [h] at e;cases e;exact ⟨_,rfl⟩
  have SB8:=S7.sb.trans sb8
  have FR8:Fr PF H H8:=fun b o nb e=>by
   have:=S7 _ _ e
   rw [fr8 b nb (by rw [this];simp)]
   exact this
  have hes8:∀ (j:Nat) (e:Addr) (T:Tb),es'[j]? = some e->Ts[j]? = some T->EntAt H8 e T:=fun j e T a b=>((hes j e T a b).same T7).sb sb8
  refine ⟨p7,lf,c',_,R.map (·.name),rfl,rfl,hlf,hc8,SqL.of (sb8 _ _ rfl upd_same),?_,?_,?_,(fun i v z h1 h2=>?_),fun l9 ix n9 hix hri=>?_⟩
  ·rw [List.length_map,List.length_map,List.length_drop]
   show R.length = es'.length - 1
   omega
  ·rw [eTs,List.map_cons] at ndn
   exact (List.nodup_cons.mp ndn).2
  ·rw [List.length_map,List.length_drop]
   show es'.length - 1 < 64
   omega
  ·have h1':(es'.drop 1)[i]?.map V.ref = some v:=by rw [← List.getElem?_map];exact h1
   rw [List.getElem?_drop] at h1'
   obtain ⟨e,he,rfl⟩:=Option.map_eq_some_iff.mp h1'
   rw [List.getElem?_map] at h2
   obtain ⟨T,hT',rfl⟩:=Option.map_eq_some_iff.mp h2
   obtain ⟨ct,g1,_⟩:=hes8 (1 + i) e T he (by rw [eTs,Nat.add_comm,List.getElem?_cons_succ];exact hT')
   exact ⟨_,rfl,_,_,0,_,rfl,rfl,SqT.of g1,rfl,rfl,rfl⟩
  rw [List.length_map,List.length_drop] at hix
  have hix':ix.Perm (List.range R.length):=by
   have:es'.length - (1:Int).toNat = R.length:=by
    show es'.length - 1 = R.length
    omega
   rw [this] at hix
   exact hix
  have ixlt:∀ i ∈ ix,i < R.length:=fun i hi=>List.mem_range.mp (hix'.mem_iff.mp hi)
  have elst:(ix.map fun i=>((es'.drop (1:Int).toNat).map V.ref).getD i .non) = (ix.map fun i=>(es'.drop 1).getD i 0).map V.ref:=by
   rw [List.map_map]
   refine List.map_congr_left fun i hi=>?_
   have hl:i < (es'.drop 1).length:=by
    rw [List.length_drop]
    have:=ixlt i hi
    omega
   show (((es'.drop 1).map V.ref).getD i .non) = V.ref ((es'.drop 1).getD i 0)
   rw [List.getD_eq_getElem?_getD,List.getD_eq_getElem?_getD,List.getElem?_map,List.getElem?_eq_getElem hl]
   rfl
  rw [elst]
  have T9:=Same.upd (o:=.lst ((ix.map fun i=>(es'.drop 1).getD i 0).map V.ref)) n9
  have hD9:=T9 _ _ (sb8 _ _ rfl (T7 _ _ hD6n))
  have ixl:ix.length = R.length:=by rw [hix'.length_eq,List.length_range]
  have he0:0 < es'.length:=by omega
  have etk:es'.take (1:Int).toNat = [es'[0]]:=by
   show es'.take 1 = [es'[0]]
   cases es' with
   | nil=>simp at he0
   | cons a r=>rfl
  refine ⟨_,rfl,_,rfl,_,rfl,D6,_,rfl,SqL.of hD9,fun p10 e10=>?_⟩
  rw [cut_to (by decide) (by rw [List.length_map];omega),← List.map_take,etk]
  have T10:=Same.upd (o:=.lst ([es'[0]].map V.ref)) e10
  refine ⟨_,rfl,p10,l9,_,_,rfl,rfl,upd_same,T10 _ _ upd_same,?_,fun p11 e11=>?_⟩
  ·rw [List.length_map,List.length_map,List.length_map,sizeLine_eq,ixl]
   simp only [List.length_cons,List.length_nil]
   omega
  rw [show ([es'[0]].map V.ref ++ (ix.map fun i=>(es'.drop 1).getD i 0).map V.ref) = (es'[0] :: ix.map fun i=>(es'.drop 1).getD i 0).map V.ref from rfl]
  have T11:=Same.upd (o:=.lst ((es'[0] :: ix.map fun i=>(es'.drop 1).getD i 0).map V.ref)) e11
  refine ⟨p11,_,rfl,.inl ⟨SqL.of upd_same,fun t12 e12=>?_⟩⟩
  have T12:=Same.upd (o:=.tup ((es'[0] :: ix.map fun i=>(es'.drop 1).getD i 0).map V.ref)) e12
  refine ⟨(by show 2 ≤ sizeLine;decide),fun f13 e13=>?_⟩
  have T13:=Same.upd (o:=.tup [.int sz,.ref t12]) e13
  have S13:=T9.trans (T10.trans (T11.trans (T12.trans T13)))
  refine q f13 _ (ix.map fun i=>R.getD i T0) (SB8.trans S13.sb) (fun b o nb e=>S13 _ _ (FR8 b o nb e)) (tab8.same S13) (L2.perm_getD T0 R hix') ?_ ⟨t12,es'[0] :: ix.map fun i=>(es'.drop 1).getD i 0,upd_same,T13 _ _ upd_same,?_,fun j e T h1 h2=>?_⟩
  ·have:(ix.map fun i=>(R.map (·.name)).getD i ("":Str)) = (ix.map fun i=>R.getD i T0).map (·.name):=by
    rw [List.map_map]
    refine List.map_congr_left fun i hi=>?_
    have hl:=ixlt i hi
    show (R.map (·.name)).getD i ("":Str) = (R.getD i T0).name
    rw [List.getD_eq_getElem?_getD,List.getD_eq_getElem?_getD,List.getElem?_map,List.getElem?_eq_getElem hl]
    rfl
   rw [← this]
   exact hri
  ·rw [List.length_cons,List.length_cons,List.length_map,List.length_map]
  ·refine EntAt.same ?_ S13
   cases j with
   | zero=>
    cases h1
    cases h2
    exact hes8 0 es'[0] T0 (List.getElem?_eq_getElem he0) (by rw [eTs];rfl)
   | succ j=>
    rw [List.getElem?_cons_succ,List.getElem?_map] at h1 h2
    obtain ⟨i,hi,rfl⟩:=Option.map_eq_some_iff.mp h1
    rw [hi] at h2
    cases h2
    have hl:=ixlt i (List.mem_of_getElem? hi)
    have hl2:i < (es'.drop 1).length:=by rw [List.length_drop];omega
    refine hes8 (1 + i) _ _ ?_ ?_
    ·show es'[1 + i]? = some ((es'.drop 1).getD i 0)
     rw [← List.getElem?_drop,List.getD_eq_getElem?_getD,List.getElem?_eq_getElem hl2]
     rfl
    ·show Ts[1 + i]? = some (R.getD i T0)
     rw [eTs,Nat.add_comm,List.getElem?_cons_succ,List.getD_eq_getElem?_getD,List.getElem?_eq_getElem hl]
     rfl
end
end My
namespace My
open PySem L2 PyProof.Rows
theorem rep1 {H:Hp} {p:Addr} {z:Str} (h:H p = some (.tup [.str z])) (hz:z.length ≤ 1000):Rep H (.tup [.str z]) (.ref p):=by
 simp [Rep,Reps,h,hz]
theorem rep2i {H:Hp} {p:Addr} {z:Str} {i:Int} (h:H p = some (.tup [.str z,.int i])) (hz:z.length ≤ 1000):Rep H (.tup [.str z,.int i]) (.ref p):=by
 simp [Rep,Reps,h,hz]
theorem rep2s {H:Hp} {p:Addr} {z y:Str} (h:H p = some (.tup [.str z,.str y])) (hz:z.length ≤ 1000) (hy:y.length ≤ 1000):Rep H (.tup [.str z,.str y]) (.ref p):=by
 simp [Rep,Reps,h,hz,hy]
theorem rep2d {H:Hp} {p:Addr} {z:Str} {v:V} {d:Dt} (h:H p = some (.tup [.str z,v])) (hz:z.length ≤ 1000) (hd:Rep H d v):Rep H (.tup [.str z,d]) (.ref p):=by
 simp only [Rep,Reps]
 exact ⟨p,_,rfl,h,_,_,rfl,⟨rfl,hz⟩,_,_,rfl,hd,rfl⟩
seal L2.PE L2.PT L2.PW L2.PS L2.PSs L2.PA L2.PI L2.PG L2.PGs L2.OpR L2.UnR L2.CallR L2.IxR L2.SlR L2.MtR L2.PIf L2.PO L2.MtM L2.PC
def spPlL:Sp:=fun vs H Q _=>∃ wy c:Int,vs = [.int wy,.int c]/\0 ≤ wy/\wy ≤ 4/\∀ v d H',Same H H'->Rep H' d v->plainD d = true->noDct d = true->Q v H'
def spKdL:Sp:=fun vs H Q _=>∃ c:Int,vs = [.int c]/\∀ v d H',Same H H'->Rep H' d v->kindD d = true->noDct d = true->Q v H'
def spColL:Sp:=fun vs H Q _=>∃ c m:Int,vs = [.int c,.int m]/\0 ≤ m/\m ≤ 12/\∀ a cols H',Same H H'->H' a = some (.dK (kvC cols))->ColsOk H' cols->Q (.ref a) H'
def sgs:List Nat:=(" -,:;.!#":Str).cps.toList
theorem sgs_dr:∀ c ∈ sgs,noDct (.tup [.str "without",.str ⟨#[c]⟩]) = true:=by decide +kernel
theorem plain_tup {d:Dt} (h:plainD d = true):∃ ds,d = .tup ds:=by
 cases d with
 | tup ds=>exact ⟨ds,rfl⟩
 | _=>cases h
theorem plain_dr {d:Dt} (h:plainD d = true):drD d = drP d:=by
 obtain ⟨ds,rfl⟩:=plain_tup h
 match ds,h with
 | [],h=>cases h
 | [s],_=>rfl
 | [s,.non],_=>rfl
 | [s,.bl _],_=>rfl
 | [s,.int _],_=>rfl
 | [s,.str _],_=>rfl
 | [s,.lst _],_=>rfl
 | [s,.dct],_=>rfl
 | [s,.tup us],h=>
  exfalso
  have h':pairD s (.tup us) = true:=h
  unfold pairD at h'
  split at h'
  ·cases h'
  ·split at h'
   ·cases h'
   ·rw [Bool.and_eq_true] at h'
    cases h'.2
 | _ :: _ :: _ :: _,h=>cases h
theorem sgs_ok:∀ c ∈ sgs,sign1 [c] = true:=by decide +kernel
section
variable {P:Program} {w:World} {K:PySem.W.Frag} {mg:Str->Option Value} {base:Heap}
theorem ok_plL {f:Addr} {fd:FuncData} (F:Fun K "_law_plain" "_law_plain" (top 39) f fd):FnOk P w K mg base CX0 1 f fd ["_law_way","_law_number"] spPlL:=by
 have sc:FnScope ["_law_way","_law_number"] ["_law_way","_law_number"] (defScope (top 39)):=⟨rfl,rfl,rfl,by decide +kernel,rfl,by decide +kernel,by decide +kernel⟩
 refine F.ok sc (fun vs H Q E h=>?_) (fun cdv A outer s H vs Q E hr h=>?_)
 ·obtain ⟨wy,c,rfl,_⟩:=h
  rfl
 ·obtain ⟨wy,c,rfl,w0,w4,q⟩:=h
  have l1:1 ≤ sizeLine:=by decide
  have l2:2 ≤ sizeLine:=by decide
  have p6:CPow 10 6:=⟨by decide,by decide,by decide⟩
  have e6:(10:Int) ^ (6:Int).toNat = 1000000:=by decide +kernel
  refine ⟨_,pss_cons (ps_if (pt_cmpR op_eq (pv 0) pe_int (nomark _)) (pss_one (ps_ret (pe_tup (pa_cons pe_str pa_nil)))) pss_nil)
   (pss_cons (ps_if (pt_cmpR op_eq (pv 0) pe_int (nomark _)) (pss_one (ps_ret (pe_tup (pa_cons pe_str (pa_cons (pe_op op_add pe_int (pe_op op_mod (pv 1) (pe_op op_pow pe_int pe_int))) pa_nil))))) pss_nil)
   (pss_cons (ps_if (pt_cmpR op_eq (pv 0) pe_int (nomark _)) (pss_one (ps_ret (pe_tup (pa_cons pe_str (pa_cons (pe_op op_sub (pe_op op_mod (pv 1) pe_int) pe_int) pa_nil))))) pss_nil)
   (pss_cons (ps_if (pt_cmpR op_eq (pv 0) pe_int (nomark _)) (pss_one (ps_ret (pe_tup (pa_cons pe_str pa_nil)))) pss_nil)
   (pss_one (ps_ret (pe_tup (pa_cons pe_str (pa_cons (pe_ix ix_str pe_str (pe_op op_mod (pv 1) pe_int) (fun _ _=>rfl)) pa_nil)))))))),?_⟩
  refine ⟨_,rfl,rfl,_,rfl,?_⟩
  refine ite2 (fun _=>?_) (fun _=>?_)
  ·exact ⟨l1,fun p hp=>q _ _ _ (Same.upd hp) (rep1 upd_same (by decide)) (by decide +kernel) (by decide +kernel)⟩
  refine ⟨_,rfl,rfl,_,rfl,?_⟩
  refine ite2 (fun _=>?_) (fun _=>?_)
  ·refine ⟨_,rfl,_,_,rfl,rfl,p6,_,_,rfl,rfl,(by show (0:Int) < (10:Int) ^ (6:Int).toNat;rw [e6];decide),_,_,rfl,rfl,l2,fun p hp=>?_⟩
   have h0:=Int.emod_nonneg c (show (10:Int) ^ (6:Int).toNat ≠ 0 by rw [e6];decide)
   refine q _ _ _ (Same.upd hp) (rep2i upd_same (by decide)) ?_ rfl
   show pairD (.str "below") (.int (1 + c % (10:Int) ^ (6:Int).toNat)) = true
   unfold pairD
   rw [if_pos (by decide +kernel)]
   exact decide_eq_true (by omega)
  refine ⟨_,rfl,rfl,_,rfl,?_⟩
  refine ite2 (fun _=>?_) (fun _=>?_)
  ·refine ⟨_,rfl,_,_,rfl,rfl,(pos rfl),_,_,rfl,rfl,l2,fun p hp=>?_⟩
   refine q _ _ _ (Same.upd hp) (rep2i upd_same (by decide)) ?_ rfl
   show pairD (.str "upto") (.int (c % 2001 - 1000)) = true
   unfold pairD
   rw [if_neg (by decide +kernel),if_pos (by decide +kernel)]
   rfl
  refine ⟨_,rfl,rfl,_,rfl,?_⟩
  refine ite2 (fun _=>?_) (fun _=>?_)
  ·exact ⟨l1,fun p hp=>q _ _ _ (Same.upd hp) (rep1 upd_same (by decide)) (by decide +kernel) (by decide +kernel)⟩
  obtain ⟨ch,e1,e2⟩:=atI_mem (l:=sgs) (i:=c % 8) (Int.emod_nonneg _ (by decide)) (by
   have:sgs.length = 8:=by decide +kernel
   rw [this]
   exact Int.emod_lt_of_pos _ (by decide))
  refine ⟨_,rfl,_,_,rfl,rfl,(pos rfl),_,_,ch,rfl,rfl,(by decide +kernel),e1,l2,fun p hp=>?_⟩
  refine q _ _ _ (Same.upd hp) (rep2s upd_same (by decide) (show 1 ≤ 1000 by decide)) ?_ (sgs_dr ch e2)
  show pairD (.str "without") (.str ⟨#[ch]⟩) = true
  unfold pairD
  rw [if_neg (by decide +kernel),if_neg (by decide +kernel),show signD (.str ⟨#[ch]⟩) = true from sgs_ok ch e2,Bool.and_true]
  decide +kernel
theorem ok_kdL {f fP:Addr} {fd fdP:FuncData} (F:Fun K "_law_kind" "_law_kind" (top 40) f fd) (DP:Df K mg "_law_plain" (top 39) fP fdP):FnOk P w K mg base CX0 2 f fd ["_law_number"] spKdL:=by
 have sc:FnScope ["_law_number","_law_way","_law_inner"] ["_law_number"] (defScope (top 40)):=⟨rfl,rfl,rfl,by decide +kernel,rfl,by decide +kernel,by decide +kernel⟩
 have GP:FnOk P w K mg base CX0 1 fP fdP ["_law_way","_law_number"] spPlL:=ok_plL DP.fn
 have bP:=DP.fn.binds (ps:=["_law_way","_law_number"]) fun _ _ _ _ _ _ us hl=>by obtain ⟨v0,v1,rfl⟩:=L2.ln2 hl;rfl
 refine F.ok sc (fun vs H Q E h=>?_) (fun cdv A outer s H vs Q E hr h=>?_)
 ·obtain ⟨c,rfl,_⟩:=h
  rfl
 ·obtain ⟨c,rfl,q⟩:=h
  have l1:1 ≤ sizeLine:=by decide
  have l2:2 ≤ sizeLine:=by decide
  have w0:=Int.emod_nonneg c (show (9:Int) ≠ 0 by decide)
  have w1:=Int.emod_lt_of_pos c (show (0:Int) < 9 by decide)
  have n0:=Int.emod_nonneg (c / 9) (show (5:Int) ≠ 0 by decide)
  have n1:=Int.emod_lt_of_pos (c / 9) (show (0:Int) < 5 by decide)
  refine ⟨_,pss_cons (ps_set (i:=1) sc.nd rfl (Or.inl rfl) (pe_op op_mod (pv 0) pe_int))
   (pss_cons (ps_set (i:=2) sc.nd rfl (Or.inl rfl) (pe_op op_mod (pe_op op_fdiv (pv 0) pe_int) pe_int))
   (pss_cons (ps_if (pt_cmpR op_lt (pv 1) pe_int (nomark _)) (pss_one (ps_ret (pe_call GP hr (by rfl) DP.mg DP.fn.kp bP .nil pass0 (pa_cons (pv 1) (pa_cons (pe_op op_fdiv (pv 0) pe_int) pa_nil))))) pss_nil)
   (pss_cons (ps_if (pt_cmpR op_eq (pv 1) pe_int (nomark _)) (pss_one (ps_ret (pe_tup (pa_cons pe_str pa_nil)))) pss_nil)
   (pss_one (ps_ret (pe_tup (pa_cons (pe_ix ix_list (pe_lst (pa_cons pe_str (pa_cons pe_str (pa_cons pe_str pa_nil)))) (pe_op op_sub (pv 1) pe_int) (fun _ _=>rfl)) (pa_cons (pe_call GP hr (by rfl) DP.mg DP.fn.kp bP .nil pass0 (pa_cons (pv 2) (pa_cons (pe_op op_fdiv (pv 0) pe_int) pa_nil))) pa_nil)))))))),?_⟩
  refine ⟨_,rfl,_,_,rfl,rfl,(pos rfl),?_⟩
  refine ⟨_,rfl,_,_,rfl,rfl,⟨by decide,by decide⟩,_,_,rfl,rfl,(pos rfl),?_⟩
  refine ⟨_,rfl,_,_,rfl,rfl,_,rfl,?_⟩
  refine ite2 (fun h=>?_) (fun h=>?_)
  ·have h5:c % 9 < 5:=of_decide_eq_true h
   refine ⟨_,rfl,_,rfl,_,_,rfl,rfl,⟨by decide,by decide⟩,_,_,rfl,w0,(by omega),fun v d H' s1 hr' hp hn=>q v d H' s1 hr' ?_ hn⟩
   unfold kindD
   rw [hp,Bool.true_or]
  have h5:¬ c % 9 < 5:=fun e=>h (decide_eq_true e)
  refine ⟨_,rfl,rfl,_,rfl,?_⟩
  refine ite2 (fun _=>?_) (fun h6=>?_)
  ·exact ⟨l1,fun p hp=>q _ _ _ (Same.upd hp) (rep1 upd_same (by decide)) (by decide +kernel) (by decide +kernel)⟩
  have h6':c % 9 ≠ 5:=fun e=>h6 (by show decide (V.int (c % 9) = V.int 5) = true;rw [e];decide)
  refine ⟨(by show 3 ≤ sizeLine;decide),fun l hl=>?_⟩
  obtain ⟨x,hx,hm⟩:=at_mem (l:=[V.str "list",.str "some",.str "once"]) (i:=c % 9 - 6) (by omega) (by show c % 9 - 6 < 3;omega)
  refine ⟨_,rfl,_,_,rfl,rfl,_,_,_,x,rfl,rfl,SqL.of upd_same,hx,?_⟩
  have T1:=Same.upd (o:=.lst [V.str "list",.str "some",.str "once"]) hl
  refine ⟨_,rfl,_,rfl,_,_,rfl,rfl,⟨by decide,by decide⟩,_,_,rfl,n0,(by omega),fun v d H2 s2 hr' hp hn=>?_⟩
  refine ⟨l2,fun p hp'=>?_⟩
  have T3:=Same.upd (o:=.tup [x,v]) hp'
  obtain ⟨z,rfl,hz⟩:∃ z:Str,x = .str z/\z ∈ w3:=by
   simp only [List.mem_cons,List.not_mem_nil,or_false] at hm
   rcases hm with rfl | rfl | rfl
   ·exact ⟨_,rfl,by decide +kernel⟩
   ·exact ⟨_,rfl,by decide +kernel⟩
   ·exact ⟨_,rfl,by decide +kernel⟩
  have hzf:∀ z ∈ w3,z.length ≤ 1000/\w3.any (strIs (.str z)) = true/\pairD (.str z) (.int 0) = false:=by decide +kernel
  obtain ⟨z1,z2,_⟩:=hzf z hz
  refine q _ _ _ (T1.trans (s2.trans T3)) (rep2d upd_same z1 (hr'.same T3)) ?_ ?_
  ·unfold kindD
   show (plainD (.tup [.str z,d]) || (w3.any (strIs (.str z)) && plainD d)) = true
   rw [z2,hp,Bool.true_and,Bool.or_true]
  ·unfold noDct
   rw [Bool.and_eq_true]
   obtain ⟨ds',rfl⟩:=plain_tup hp
   refine ⟨?_,?_⟩
   ·show (noDc0 (.str z) && (noDc0 (.tup ds') && true)) = true
    rw [noDct_0 hn]
    rfl
   ·show drP (.tup ds') = true
    rw [← plain_dr hp]
    exact noDct_dr hn
end
end My
namespace My
open PySem L2 PyProof.Rows
theorem putK_new {cols:List (Str × V)} {z:Str} {v:V} (h:z ∉ cols.map (·.1)):putK (kvC cols) (.inr z) v = kvC (cols ++ [(z,v)]):=by
 unfold putK
 have:((kvC cols).any fun kv=>decide (kv.1 = (.inr z:Key))) = false:=by
  rw [List.any_eq_false]
  intro kv hkv
  obtain ⟨p,hp,rfl⟩:=List.mem_map.mp hkv
  rw [decide_eq_true_iff]
  intro e
  exact h (List.mem_map.mpr ⟨p,hp,by injection e⟩)
 rw [if_neg (by rw [this];decide)]
 unfold kvC
 rw [List.map_append]
 rfl
theorem nthI {l:List Int} {n:Nat} (hl:l.length = n) (hx:∀ x ∈ l,0 ≤ x/\x < 2147483647) (j:Nat) (hj:j < n):∃ e:Int,atI (l.map V.int) (j:Int) = some (.int e)/\0 ≤ e/\e < 2147483647:=by
 have hj':j < l.length:=by omega
 exact ⟨l[j],atI_nat (by rw [List.getElem?_map,List.getElem?_eq_getElem hj'];rfl),hx _ (List.getElem_mem hj')⟩
theorem PartAt.besideL {H:Hp} {D e d:Addr} {u:HO} {ys:List V} {T:Tb} (hD:H D = some (.lst ys)) (h:PartAt H e d T):PartAt (L2.upd H D u) e d T:=by
 refine ⟨?_,?_,h.2.2.1,h.2.2.2.1,fun p hp=>⟨(h.2.2.2.2 p hp).1,?_⟩⟩
 ·rw [upd_ne (fun q=>by have:=h.1;rw [q,hD] at this;cases this)];exact h.1
 ·rw [upd_ne (fun q=>by have:=h.2.1;rw [q,hD] at this;cases this)];exact h.2.1
 ·obtain ⟨dt,h1,h2,h3⟩:=(h.2.2.2.2 p hp).2
  exact ⟨dt,Rep.beside (fun xs q=>by rw [hD] at q;cases q) h3 h1,h2,h3⟩
seal L2.PE L2.PT L2.PW L2.PS L2.PSs L2.PA L2.PI L2.PG L2.PGs L2.OpR L2.UnR L2.CallR L2.IxR L2.SlR L2.MtR L2.PIf L2.PO L2.MtM L2.PC
def clN:List Str:=["_law_cell_here","_law_most","_law_xs","_law_many","_law_columns_here","_law_k","_law_name"]
def tbN:List Str:=["_law_script","_law_start","_law_most","_law_wide","_law_many","_law_names_here","_law_parts","_law_k","_law_cell_here"]
def spTabsL (K:PySem.W.Frag):Sp:=fun vs H Q _=>∃ (a:Addr) (ns:List Int) (mo wd:Int),vs = [.ref a,.int 4,.int mo,.int wd]/\1 ≤ mo/\mo ≤ 8/\0 ≤ wd/\wd ≤ 12/\SqL K H a (ns.map V.int)/\ns.length ≤ 63/\∀ l es ds T0 R H',Same H H'->PartsAt H' l es ds (T0 :: R)->TsOk T0 R->Q (.ref l) H'
section
variable {P:Program} {w:World} {K:PySem.W.Frag} {mg:Str->Option Value} {base:Heap}
theorem ok_colL {f fT fN fL fK fP:Addr} {fd fdT fdN fdL fdK fdP:FuncData} (F:Fun K "_law_columns" "_law_columns" (top 41) f fd) (B:Bl mg) (DT:Df K mg "_law_stream" (top 35) fT fdT) (DN:Df K mg "_law_names" (top 38) fN fdN) (DL:Df K mg "_law_letter" (top 37) fL fdL)
  (DK:Df K mg "_law_kind" (top 40) fK fdK) (DP:Df K mg "_law_plain" (top 39) fP fdP):FnOk P w K mg base CX0 3 f fd ["_law_cell_here","_law_most"] spColL:=by
 have sc:FnScope clN ["_law_cell_here","_law_most"] (defScope (top 41)):=⟨rfl,rfl,rfl,by decide +kernel,rfl,by decide +kernel,by decide +kernel⟩
 have GT:FnOk P w K mg base CX0 1 fT fdT ["_law_cell_here","_law_many"] spStream:=ok_stream DT.fn B
 have GN:FnOk P w K mg base CX0 2 fN fdN ["_law_cell_here","_law_many"] spNames:=ok_names DN.fn B DT DL
 have GK:FnOk P w K mg base CX0 2 fK fdK ["_law_number"] spKdL:=ok_kdL DK.fn DP
 have bT:=DT.fn.binds (ps:=["_law_cell_here","_law_many"]) fun _ _ _ _ _ _ us hl=>by obtain ⟨v0,v1,rfl⟩:=L2.ln2 hl;rfl
 have bN:=DN.fn.binds (ps:=["_law_cell_here","_law_many"]) fun _ _ _ _ _ _ us hl=>by obtain ⟨v0,v1,rfl⟩:=L2.ln2 hl;rfl
 have bK:=DK.fn.binds (ps:=["_law_number"]) fun _ _ _ _ _ _ us hl=>by obtain ⟨v0,rfl⟩:=L2.ln1 hl;rfl
 refine F.ok sc (fun vs H Q E h=>?_) (fun cdv A outer s H vs Q E hr h=>?_)
 ·obtain ⟨c,m,rfl,_⟩:=h
  rfl
 ·obtain ⟨c,m,rfl,m0,m12,q⟩:=h
  have hr1:Room 1 _:=hr.mono (by decide)
  have hu:(A.deeper (envOfC "_law_columns" (defScope (top 41)) s.heap.objs.size f cdv)).units + 1 < cLine:=hu_of hr
  refine ⟨_,pss_cons (ps_set (i:=2) sc.nd rfl (Or.inl rfl) (pe_call GT hr1 (by rfl) DT.mg DT.fn.kp bT .nil pass0 (pa_cons (pv 0) (pa_cons pe_int pa_nil))))
   (pss_cons (ps_set (i:=3) sc.nd rfl (Or.inl rfl) (pe_op op_mod (pe_ix ix_list (pv 2) pe_int (fun _ _=>rfl)) pe_int))
   (pss_cons (ps_if (pt_cmpR op_eq (pe_op op_mod (pe_op op_fdiv (pe_ix ix_list (pv 2) pe_int (fun _ _=>rfl)) pe_int) pe_int) pe_int (nomark _)) (pss_one (ps_set (i:=3) sc.nd rfl (Or.inl rfl) (pv 1))) pss_nil)
   (pss_cons (ps_set (i:=4) sc.nd rfl (Or.inl rfl) pe_dnewK)
   (pss_cons (ps_for PassesOwn.never rfl (pi_enum (by rfl) B.enum (pa_cons (pe_call GN hr (by rfl) DN.mg DN.fn.kp bN .nil pass0 (pa_cons (pe_ix ix_list (pv 2) pe_int (fun _ _=>rfl)) (pa_cons (pv 3) pa_nil))) pa_nil)) (pg_tup rfl (pgs_cons (pg_name (i:=5) sc.nd rfl (Or.inl rfl)) (pgs_cons (pg_name (i:=6) sc.nd rfl (Or.inl rfl)) pgs_nil)))
    (pss_one (ps_dput hu (pv 4) (pv 6) (pe_call GK hr (by rfl) DK.mg DK.fn.kp bK .nil pass0 (pa_cons (pe_ix ix_list (pv 2) (pe_op op_add pe_int (pv 5)) (fun _ _=>rfl)) pa_nil)) rfl)))
   (pss_one (ps_ret (pv 4))))))),?_⟩
  refine ⟨_,rfl,c,14,rfl,(by decide),(by decide),fun x H1 l s1 hx hl14 hl=>?_⟩
  have hl':l.length = 14:=by omega
  have atl:=nthI hl' hl
  obtain ⟨x0,a0,x00,_⟩:=atl 0 (by decide)
  obtain ⟨x1,a1,_⟩:=atl 1 (by decide)
  have z0:=Int.emod_nonneg x0 (show (4:Int) ≠ 0 by decide)
  have z1:=Int.emod_lt_of_pos x0 (show (0:Int) < 4 by decide)
  refine ⟨_,rfl,_,_,0,_,rfl,rfl,SqL.of hx,a0,_,_,rfl,rfl,(pos rfl),?_⟩
  have fin:∀ mn:Int,0 ≤ mn->mn ≤ 12->tSeq (tAsg tDNewK (gName 4)) (tSeq (tFor (iEnum K (tCons (tCall spNames [] E0 (tCons (tOp (rIxL K) (tVar 2) (tC (.int 1))) (tCons (tVar 3) tNil))) tNil)) (gTup K 2 (gCons (gName 5) (gCons (gName 6) gNil))) (sDPut (tVar 4) (tVar 6) (tCall spKdL [] E0 (tCons (tOp (rIxL K) (tVar 2) (tOp (rI0 fun i j=>.int (i + j)) (tC (.int 2)) (tVar 5))) tNil)))) (tRet (tVar 4))) { nx:=fun _ H'=>Q .non H',rt:=Q } [some (.int c),some (.int m),some (.ref x),some (.int mn),none,none,none] H1:=by
   intro mn n0 n12
   intro d hd
   have hd0:H d = none:=by
    cases e:H d with
    | none=>rfl
    | some o=>rw [s1 _ _ e] at hd;cases hd
   have T2:=Same.upd (o:=.dK []) hd
   have hx2:=T2 _ _ hx
   refine ⟨_,rfl,_,_,1,_,rfl,rfl,SqL.of hx2,a1,_,rfl,_,mn,rfl,n0,n12,fun p H3 zs s3 hp hzl nd hz=>?_⟩
   have hd3:=s3 _ _ (show (L2.upd H1 d (.dK [])) d = some (.dK []) from upd_same)
   have hx3:=s3 _ _ hx2
   refine ⟨p,rfl,⟨_,SqL.of hp⟩,for_enum (K:=K) (a:=p) (xs:=zs.map V.str) (fun i σ H4=>∃ (cols:List (Str × V)) (u5 u6:Option V),σ = [some (.int c),some (.int m),some (.ref x),some (.int mn),some (.ref d),u5,u6]/\Same H H4/\H4 x = some (.lst (l.map V.int))/\H4 p = some (.lst (zs.map V.str))/\H4 d = some (.dK (kvC cols))/\cols.map (·.1) = zs.take i/\∀ p ∈ cols,nameS p.1 = true/\∃ dt,Rep H4 dt p.2/\kindD dt = true/\noDct dt = true) ⟨[],_,_,rfl,(s1.trans T2).trans s3,hx3,hp,hd3,rfl,fun p h=>nomatch h⟩ (fun i σ H4 _ pp=>by obtain ⟨cols,u5,u6,_,_,_,h,_⟩:=pp;exact SqL.of h) ?_ ?_⟩
   ·rintro i y pe σ H4 hy ⟨cols,u5,u6,rfl,s4,hx4,hp4,hd4,hcn,hck⟩ hpe
    have hi:i < zs.length:=by
     have:=(List.getElem?_eq_some_iff.mp hy).1
     rwa [List.length_map] at this
    rw [List.getElem?_map,List.getElem?_eq_getElem hi] at hy
    cases hy
    have T5:=Same.upd (o:=.tup [.int i,.str zs[i]]) hpe
    obtain ⟨xe,ae,_⟩:=atl (2 + i) (by omega)
    have ae':atI (l.map V.int) (2 + (i:Int)) = some (.int xe):=by
     have:(2 + (i:Int)) = ((2 + i:Nat):Int):=by omega
     rw [this]
     exact ae
    refine ⟨pe,_,rfl,SqT.of upd_same,rfl,_,_,rfl,_,_,rfl,rfl,?_⟩
    refine ⟨_,rfl,_,rfl,_,_,rfl,rfl,_,_,_,_,rfl,rfl,SqL.of (T5 _ _ hx4),ae',xe,rfl,fun v dt H6 s6 hr' hkd hnd=>?_⟩
    have S6:=T5.trans s6
    have hd6:=S6 _ _ hd4
    have clen:cols.length = i:=by
     have:=congrArg List.length hcn
     rw [List.length_map,List.length_take] at this
     omega
    refine ⟨_,rfl,_,rfl,d,_,rfl,.inl ⟨_,.inr zs[i],hd6,rfl,?_,rfl⟩,?_⟩
    ·unfold kvC
     rw [List.length_map,sizeLine_eq]
     omega
    have hnew:zs[i] ∉ cols.map (·.1):=by
     rw [hcn]
     intro hm
     obtain ⟨j,hj,ej⟩:=List.mem_take_iff_getElem.mp hm
     have hj2:j < zs.length:=by omega
     have:j = i:=(List.getElem_inj nd).mp ej
     omega
    rw [putK_new hnew]
    have hdx:x ≠ d:=fun e=>by have:=S6 _ _ hx4;rw [e,hd6] at this;cases this
    have hdp:p ≠ d:=fun e=>by have:=S6 _ _ hp4;rw [e,hd6] at this;cases this
    refine ⟨cols ++ [(zs[i],v)],_,_,rfl,(s4.trans S6).put hd0,by rw [upd_ne hdx];exact S6 _ _ hx4,by rw [upd_ne hdp];exact S6 _ _ hp4,upd_same,?_,fun pr hpr=>?_⟩
    ·rw [List.map_append,hcn,List.take_add_one,List.getElem?_eq_getElem hi]
     rfl
    ·have nt:∀ xs,H6 d ≠ some (.tup xs):=fun xs q=>by rw [hd6] at q;cases q
     rcases List.mem_append.mp hpr with h | h
     ·obtain ⟨h1,dt',h2,h3,h4⟩:=hck pr h
      exact ⟨h1,dt',Rep.beside nt h4 (h2.same S6),h3,h4⟩
     ·have:pr = (zs[i],v):=by simpa using h
      subst this
      exact ⟨hz _ (List.getElem_mem hi),dt,Rep.beside nt hnd hr',hkd,hnd⟩
   ·rintro σ H4 ⟨cols,u5,u6,rfl,s4,hx4,hp4,hd4,hcn,hck⟩
    rw [List.length_map,List.take_of_length_le (Nat.le_refl _)] at hcn
    have clen:cols.length = zs.length:=by
     have:=congrArg List.length hcn
     rwa [List.length_map] at this
    exact ⟨_,rfl,q d cols H4 s4 hd4 ⟨by rw [hcn];exact nd,by omega,hck⟩⟩
  refine ⟨_,rfl,_,_,0,_,rfl,rfl,SqL.of hx,a0,_,_,rfl,rfl,⟨by decide,by decide⟩,_,_,rfl,rfl,(pos rfl),rfl,_,rfl,?_⟩
  refine ite2 (fun _=>?_) (fun _=>?_)
  ·exact ⟨_,rfl,fin m m0 m12⟩
  ·exact fin (x0 % 4) z0 (by omega)
end
end My
namespace My
open PySem L2 PyProof.Rows
seal L2.PE L2.PT L2.PW L2.PS L2.PSs L2.PA L2.PI L2.PG L2.PGs L2.OpR L2.UnR L2.CallR L2.IxR L2.SlR L2.MtR L2.PIf L2.PO L2.MtM L2.PC
section
variable {P:Program} {w:World} {K:PySem.W.Frag} {mg:Str->Option Value} {base:Heap}
theorem ok_tabsL {f fC fN fL fT fO fK fP:Addr} {fd fdC fdN fdL fdT fdO fdK fdP:FuncData} (F:Fun K "_law_tables" "_law_tables" (top 42) f fd) (B:Bl mg) (DC:Df K mg "_law_cell" (top 34) fC fdC) (DN:Df K mg "_law_names" (top 38) fN fdN) (DL:Df K mg "_law_letter" (top 37) fL fdL) (DT:Df K mg "_law_stream" (top 35) fT fdT)
  (DO:Df K mg "_law_columns" (top 41) fO fdO) (DK:Df K mg "_law_kind" (top 40) fK fdK) (DP:Df K mg "_law_plain" (top 39) fP fdP):FnOk P w K mg base CX0 4 f fd ["_law_script","_law_start","_law_most","_law_wide"] (spTabsL K):=by
 have sc:FnScope tbN ["_law_script","_law_start","_law_most","_law_wide"] (defScope (top 42)):=⟨rfl,rfl,rfl,by decide +kernel,rfl,by decide +kernel,by decide +kernel⟩
 have GC:FnOk P w K mg base CX0 1 fC fdC ["_law_script","_law_k"] (spCell K):=ok_cell DC.fn B
 have GN:FnOk P w K mg base CX0 2 fN fdN ["_law_cell_here","_law_many"] spNames:=ok_names DN.fn B DT DL
 have GO:FnOk P w K mg base CX0 3 fO fdO ["_law_cell_here","_law_most"] spColL:=ok_colL DO.fn B DT DN DL DK DP
 have bC:=DC.fn.binds (ps:=["_law_script","_law_k"]) fun _ _ _ _ _ _ us hl=>by obtain ⟨v0,v1,rfl⟩:=L2.ln2 hl;rfl
 have bN:=DN.fn.binds (ps:=["_law_cell_here","_law_many"]) fun _ _ _ _ _ _ us hl=>by obtain ⟨v0,v1,rfl⟩:=L2.ln2 hl;rfl
 have bO:=DO.fn.binds (ps:=["_law_cell_here","_law_most"]) fun _ _ _ _ _ _ us hl=>by obtain ⟨v0,v1,rfl⟩:=L2.ln2 hl;rfl
 refine F.ok sc (fun vs H Q E h=>?_) (fun cdv A outer s H vs Q E hr h=>?_)
 ·obtain ⟨a,ns,mo,wd,rfl,_⟩:=h
  rfl
 ·obtain ⟨a,ns,mo,wd,rfl,mo1,mo8,wd0,wd12,hS,h63,q⟩:=h
  have hr1:Room 1 _:=hr.mono (by decide)
  have hr2:Room 2 _:=hr.mono (by decide)
  have l3:3 ≤ sizeLine:=by decide
  refine ⟨_,pss_cons (ps_set (i:=4) sc.nd rfl (Or.inl rfl) (pe_op op_add pe_int (pe_op op_mod (pe_call GC hr1 (by rfl) DC.mg DC.fn.kp bC .nil pass0 (pa_cons (pv 0) (pa_cons (pv 1) pa_nil))) (pv 2))))
   (pss_cons (ps_set (i:=5) sc.nd rfl (Or.inl rfl) (pe_call GN hr2 (by rfl) DN.mg DN.fn.kp bN .nil pass0 (pa_cons (pe_call GC hr1 (by rfl) DC.mg DC.fn.kp bC .nil pass0 (pa_cons (pv 0) (pa_cons (pe_op op_add (pv 1) pe_int) pa_nil))) (pa_cons (pv 4) pa_nil))))
   (pss_cons (ps_set (i:=6) sc.nd rfl (Or.inl rfl) (pe_lst (pa_cons (pe_tup (pa_cons (pe_ix ix_list (pv 5) pe_int (fun _ _=>rfl)) (pa_cons pe_str (pa_cons (pe_call GO hr (by rfl) DO.mg DO.fn.kp bO .nil pass0 (pa_cons (pe_call GC hr1 (by rfl) DC.mg DC.fn.kp bC .nil pass0 (pa_cons (pv 0) (pa_cons (pe_op op_add (pv 1) pe_int) pa_nil))) (pa_cons (pv 3) pa_nil))) pa_nil)))) pa_nil)))
   (pss_cons (ps_for PassesOwn.never rfl (pi_range2 rfl B.range (pa_cons pe_int (pa_cons (pv 4) pa_nil))) (pg_name (i:=7) sc.nd rfl (Or.inl rfl))
    (pss_cons (ps_set (i:=8) sc.nd rfl (Or.inl rfl) (pe_call GC hr1 (by rfl) DC.mg DC.fn.kp bC .nil pass0 (pa_cons (pv 0) (pa_cons (pe_op op_add (pe_op op_add (pv 1) pe_int) (pv 7)) pa_nil))))
    (pss_one (ps_expr (pe_bm PySem.F.plainAttrs_list PySem.F.slot_list_append PySem.F.type_list_append mt_app (pv 6) (pa_cons (pe_tup (pa_cons (pe_ix ix_list (pv 5) (pv 7) (fun _ _=>rfl)) (pa_cons (pe_ix ix_list (pe_lst (pa_cons pe_str (pa_cons pe_str (pa_cons pe_str pa_nil)))) (pe_op op_mod (pv 8) pe_int) (fun _ _=>rfl)) (pa_cons (pe_call GO hr (by rfl) DO.mg DO.fn.kp bO .nil pass0 (pa_cons (pe_op op_fdiv (pv 8) pe_int) (pa_cons (pv 3) pa_nil))) pa_nil)))) pa_nil))))))
   (pss_one (ps_ret (pv 6)))))),?_⟩
  have c0:=Int.emod_nonneg (cellF ns 4) (show mo ≠ 0 by omega)
  have c1:=Int.emod_lt_of_pos (cellF ns 4) (show 0 < mo by omega)
  refine ⟨_,rfl,_,rfl,a,ns,_,rfl,hS,(by decide),(by decide),h63,_,rfl,_,_,rfl,rfl,(show 0 < mo by omega),_,_,rfl,rfl,?_⟩
  refine ⟨_,rfl,_,rfl,_,_,rfl,rfl,a,ns,_,rfl,hS,(by decide),(by decide),h63,_,rfl,_,_,rfl,(by omega),(by omega),fun pn H1 zs s1 hpn hzl nd hz=>?_⟩
  have hz0:0 < zs.length:=by omega
  have hS1:=s1.seq hS
  have at0':atI (zs.map V.str) 0 = some (.str zs[0]):=atI_nat (j:=0) (by rw [List.getElem?_map,List.getElem?_eq_getElem hz0];rfl)
  refine ⟨_,rfl,_,_,0,_,rfl,rfl,SqL.of hpn,at0',_,rfl,_,rfl,_,_,rfl,rfl,a,ns,_,rfl,hS1,(by decide),(by decide),h63,_,rfl,_,wd,rfl,wd0,wd12,fun d0 cols0 H2 s2 hd0 ok0=>?_⟩
  refine ⟨l3,fun e0 he0=>?_⟩
  have T3:=Same.upd (o:=.tup [.str zs[0],.str "head",.ref d0]) he0
  refine ⟨(by show 1 ≤ sizeLine;decide),fun l hl=>?_⟩
  have T4:=Same.upd (o:=.lst [V.ref e0]) hl
  have S2:=s1.trans s2
  have S4:=S2.trans (T3.trans T4)
  have hl0:H l = none:=by
   cases e:H l with
   | none=>rfl
   | some o=>rw [(S2.trans T3) _ _ e] at hl;cases hl
  have hpn4:=(s2.trans (T3.trans T4)) _ _ hpn
  have pt0:PartAt (L2.upd (L2.upd H2 e0 (.tup [.str zs[0],.str "head",.ref d0])) l (.lst [V.ref e0])) e0 d0 ⟨zs[0],"head",cols0⟩:=⟨T4 _ _ upd_same,(T3.trans T4) _ _ hd0,ok0.same (T3.trans T4)⟩
  have hne:pn ≠ l:=fun q=>by have:=(s2.trans T3) _ _ hpn;rw [q,hl] at this;cases this
  have zn:zs.length = (1 + cellF ns 4 % mo).toNat:=by omega
  refine ⟨_,rfl,_,_,rfl,⟨by decide,by decide,by omega,by omega⟩,for_range (fun i σ H5=>∃ (es ds:List Addr) (R:List Tb) (u7 u8:Option V),σ = [some (.ref a),some (.int 4),some (.int mo),some (.int wd),some (.int (1 + cellF ns 4 % mo)),some (.ref pn),some (.ref l),u7,u8]/\Same H H5/\H5 pn = some (.lst (zs.map V.str))/\PartsAt H5 l es ds (⟨zs[0],"head",cols0⟩ :: R)/\R.length = i/\(∀ T ∈ R,T.sort ∈ sides)/\zs[0] :: R.map (·.name) = zs.take (i + 1)) ⟨[e0],[d0],[],_,_,rfl,S4,hpn4,⟨upd_same,rfl,rfl,fun j e d T h1 h2 h3=>?_⟩,rfl,(fun T h=>nomatch h),?_⟩ ?_ ?_⟩
  ·cases j with
   | zero=>cases h1;cases h2;cases h3;exact pt0
   | succ j=>cases h1
  ·rw [List.take_add_one,List.take_zero,List.getElem?_eq_getElem hz0]
   rfl
  ·rintro i σ H5 hi ⟨es,ds,R,u7,u8,rfl,s5,hpn5,hP,hR,hsd,hnm⟩
   have hi':i + 1 < zs.length:=by omega
   have hS5:=s5.seq hS
   have ati:atI (zs.map V.str) (1 + (i:Int)) = some (.str zs[i + 1]):=by
    have:(1 + (i:Int)) = ((i + 1:Nat):Int):=by omega
    rw [this]
    exact atI_nat (by rw [List.getElem?_map,List.getElem?_eq_getElem hi'];rfl)
   refine ⟨_,rfl,_,rfl,_,_,rfl,rfl,_,rfl,_,_,rfl,rfl,a,ns,_,rfl,hS5,(by omega),(by omega),h63,?_⟩
   generalize cellF ns (4 + 2 + (1 + (i:Int))) = cc
   obtain ⟨hl5,e1l,e2l,hpt⟩:=id hP
   refine ⟨_,rfl,.inl ⟨rfl,_,SqL.of hl5⟩,_,rfl,_,rfl,_,_,_,_,rfl,rfl,SqL.of hpn5,ati,?_⟩
   refine ⟨l3,fun ls hls=>?_⟩
   have T6:=Same.upd (o:=.lst [V.str "twin",.str "many",.str "some"]) hls
   obtain ⟨y,hy,hym⟩:=at_mem (l:=[V.str "twin",.str "many",.str "some"]) (i:=cc % 3) (Int.emod_nonneg _ (by decide)) (by show cc % 3 < 3;exact Int.emod_lt_of_pos _ (by decide))
   obtain ⟨so,rfl,hso⟩:∃ so:Str,y = .str so/\so ∈ sides:=by
    simp only [List.mem_cons,List.not_mem_nil,or_false] at hym
    rcases hym with rfl | rfl | rfl
    ·exact ⟨_,rfl,by decide +kernel⟩
    ·exact ⟨_,rfl,by decide +kernel⟩
    ·exact ⟨_,rfl,by decide +kernel⟩
   refine ⟨_,rfl,_,_,rfl,rfl,(pos rfl),_,_,_,_,rfl,rfl,SqL.of upd_same,hy,?_⟩
   refine ⟨_,rfl,_,_,rfl,rfl,⟨by decide,by decide⟩,_,rfl,_,wd,rfl,wd0,wd12,fun d cols H7 s7 hd ok=>?_⟩
   refine ⟨l3,fun e he=>?_⟩
   have T8:=Same.upd (o:=.tup [.str zs[i + 1],.str so,.ref d]) he
   have S8:=T6.trans (s7.trans T8)
   have hl8:=S8 _ _ hl5
   refine ⟨l,_,_,rfl,rfl,hl8,?_,?_⟩
   ·rw [List.length_map,e1l,List.length_cons,hR,sizeLine_eq]
    omega
   refine ⟨es ++ [e],ds ++ [d],R ++ [⟨zs[i + 1],so,cols⟩],_,_,rfl,(s5.trans S8).put hl0,?_,⟨?_,?_,?_,fun j e' d' T h1 h2 h3=>?_⟩,?_,fun T hT=>?_,?_⟩
   ·rw [upd_ne hne]
    exact S8 _ _ hpn5
   ·rw [upd_same,List.map_append]
    rfl
   ·rw [List.length_append,e1l]
    simp
   ·rw [List.length_append,e2l]
    simp
   ·have ptn:PartAt (L2.upd H7 e (.tup [.str zs[i + 1],.str so,.ref d])) e d ⟨zs[i + 1],so,cols⟩:=⟨upd_same,T8 _ _ hd,ok.same T8⟩
    have el:es.length = i + 1:=by rw [e1l,List.length_cons,hR]
    have dl:ds.length = i + 1:=by rw [e2l,List.length_cons,hR]
    refine PartAt.besideL hl8 ?_
    by_cases hj:j < i + 1
    ·rw [List.getElem?_append_left (by omega)] at h1 h2
     rw [← List.cons_append,List.getElem?_append_left (by rw [List.length_cons];omega)] at h3
     exact (hpt j e' d' T h1 h2 h3).sb S8.sb
    ·have:j = i + 1:=by
      have:=(List.getElem?_eq_some_iff.mp h1).1
      rw [List.length_append] at this
      simp at this
      omega
     subst this
     rw [List.getElem?_append_right (by omega),el,Nat.sub_self] at h1
     rw [List.getElem?_append_right (by omega),dl,Nat.sub_self] at h2
     rw [← List.cons_append,List.getElem?_append_right (by rw [List.length_cons];omega),List.length_cons,hR,Nat.sub_self] at h3
     cases h1
     cases h2
     cases h3
     exact ptn
   ·rw [List.length_append,hR]
    rfl
   ·rcases List.mem_append.mp hT with h | h
    ·exact hsd T h
    ·have:T = ⟨zs[i + 1],so,cols⟩:=by simpa using h
     rw [this]
     exact hso
   ·rw [List.map_append,← List.cons_append,hnm,List.take_add_one (i:=i + 1),List.getElem?_eq_getElem hi']
    rfl
  ·rintro σ H5 ⟨es,ds,R,u7,u8,rfl,s5,hpn5,hP,hR,hsd,hnm⟩
   have hall:zs[0] :: R.map (·.name) = zs:=by
    rw [hnm]
    exact List.take_of_length_le (by omega)
   refine ⟨_,rfl,q l es ds _ R H5 s5 hP ⟨by omega,?_,fun T hT=>?_,rfl,hsd⟩⟩
   ·rw [List.map_cons]
    show (zs[0] :: R.map (·.name)).Nodup
    rw [hall]
    exact nd
   ·have:T.name ∈ zs:=by
     rw [← hall]
     rcases List.mem_cons.mp hT with h | h
     ·rw [h];exact List.mem_cons_self
     ·exact List.mem_cons_of_mem _ (List.mem_map.mpr ⟨T,h,rfl⟩)
    exact hz _ this
end
end My
namespace My
open PySem L2 PyProof.Rows
seal L2.PE L2.PT L2.PW L2.PS L2.PSs L2.PA L2.PI L2.PG L2.PGs L2.OpR L2.UnR L2.CallR L2.IxR L2.SlR L2.MtR L2.PIf L2.PO L2.MtM L2.PC
section
variable {P:Program} {w:World} {K:PySem.W.Frag} {mg:Str->Option Value} {base:Heap}
inductive Pk where
 | whole | below (n:Int) | upto (n:Int) | word | without (c:Nat)
def Pk.name:Pk->Str
 | .whole=>"whole"
 | .below _=>"below"
 | .upto _=>"upto"
 | .word=>"word"
 | .without _=>"without"
def Pk.vs:Pk->List V
 | .whole=>[.str "whole"]
 | .below n=>[.str "below",.int n]
 | .upto n=>[.str "upto",.int n]
 | .word=>[.str "word"]
 | .without c=>[.str "without",.str ⟨#[c]⟩]
def Pk.txt:Pk->Bool
 | .word=>true
 | .without _=>true
 | _=>false
theorem at0:∀ κ:Pk,atI κ.vs 0 = some (.str κ.name)
 | .whole=>rfl
 | .below _=>rfl
 | .upto _=>rfl
 | .word=>rfl
 | .without _=>rfl
theorem name_len:∀ κ:Pk,κ.name.length ≤ 1000
 | .whole=>by decide
 | .below _=>(by decide:("below":Str).length ≤ 1000)
 | .upto _=>(by decide:("upto":Str).length ≤ 1000)
 | .word=>by decide
 | .without _=>(by decide:("without":Str).length ≤ 1000)
def wT:List Str:=["word","without"]
theorem txt_in:∀ κ:Pk,wT.any (strIs (.str κ.name)) = κ.txt
 | .whole=>(by decide +kernel:wT.any (strIs (.str "whole")) = false)
 | .below _=>(by decide +kernel:wT.any (strIs (.str "below")) = false)
 | .upto _=>(by decide +kernel:wT.any (strIs (.str "upto")) = false)
 | .word=>(by decide +kernel:wT.any (strIs (.str "word")) = true)
 | .without _=>(by decide +kernel:wT.any (strIs (.str "without")) = true)
def fitP:Pk->V->Bool
 | .word,.str _=>true
 | .without c,.str z=>!decide (c ∈ z.cps.toList)
 | .whole,.int _=>true
 | .below n,.int i=>decide (0 ≤ i) && decide (i < n)
 | .upto n,.int i=>decide (i ≤ n)
 | _,_=>false
def ValP (K:PySem.W.Frag) (H:Hp) (v:V):Prop:=∃ n,Is K H v n/\∀ z,v = .str z->z.length ≤ 1000
theorem ValP.same {H H':Hp} {v:V} (h:ValP K H v) (e:Same H H'):ValP K H' v:=by
 obtain ⟨n,a,b⟩:=h
 exact ⟨n,a.same e,b⟩
theorem is_int_of {H:Hp} {v:V} (h:Is K H v "int"):∃ i,v = .int i:=by
 obtain ⟨t,_⟩:=h
 generalize e:Value.type "int" = u at t
 cases t <;> first | exact ⟨_,rfl⟩ | exact absurd (Value.type.inj e) (by decide) | cases e
theorem is_int_ty {H:Hp} {i:Int} {n:String} (h:Is K H (.int i) n):n = "int":=by
 obtain ⟨t,_⟩:=h
 generalize e:Value.type n = u at t
 cases t
 exact Value.type.inj e
theorem decStr {a b:Str}:decide (V.str a = V.str b) = decide (a = b):=by
 rw [Bool.eq_iff_iff,decide_eq_true_iff,decide_eq_true_iff]
 constructor
 ·intro e;injection e
 ·intro e;rw [e]
def spFp (K:PySem.W.Frag):Sp:=fun vs H Q _=>∃ (a:Addr) (v:V) (κ:Pk),vs = [.ref a,v]/\SqT K H a κ.vs/\ValP K H v/\∀ H',Same H H'->Q (.bl (fitP κ v)) H'
theorem fit_not_str {κ:Pk} {v:V} (h:κ.txt = true) (hv:∀ z,v ≠ .str z):fitP κ v = false:=by
 cases κ with
 | word=>cases v <;> first | rfl | exact (hv _ rfl).elim
 | without c=>cases v <;> first | rfl | exact (hv _ rfl).elim
 | _=>exact (Bool.false_ne_true h).elim
theorem fit_not_int {κ:Pk} {v:V} (h:κ.txt = false) (hv:∀ i,v ≠ .int i):fitP κ v = false:=by
 cases κ with
 | word=>exact (Bool.noConfusion h)
 | without c=>exact (Bool.noConfusion h)
 | _=>cases v <;> first | rfl | exact (hv _ rfl).elim
theorem ok_fp {f fW:Addr} {fd fdW:FuncData} (F:Fun K "fits_plain" "fits_plain" (top 17) f fd) (B:Bl mg) (DW:Df K mg "is_whole" (top 9) fW fdW):FnOk P w K mg base CX0 2 f fd ["kind","value"] (spFp K):=by
 have sc:FnScope ["kind","value"] ["kind","value"] (defScope (top 17)):=⟨rfl,rfl,rfl,by decide +kernel,rfl,by decide +kernel,by decide +kernel⟩
 have GW:FnOk P w K mg base CX0 1 fW fdW ["thing"] (spWhole K):=ok_whole DW.fn B
 have bW:=DW.fn.binds (ps:=["thing"]) fun _ _ _ _ _ _ us hl=>by obtain ⟨v0,rfl⟩:=L2.ln1 hl;rfl
 refine F.ok sc (fun vs H Q E h=>?_) (fun cdv A outer s H vs Q E hr h=>?_)
 ·obtain ⟨a,v,κ,rfl,_⟩:=h
  rfl
 ·obtain ⟨a,v,κ,rfl,hk,⟨n,hi,hz⟩,q⟩:=h
  have hu:(A.deeper (envOfC "fits_plain" (defScope (top 17)) s.heap.objs.size f cdv)).units + 1 < cLine:=hu_of hr
  refine ⟨_,pss_cons (ps_if (pt_cmpR (op_inD hu) (pe_ix ix_tup (pv 0) pe_int (fun _ _=>rfl)) (pe_tup (pa_cons pe_str (pa_cons pe_str pa_nil))) (by with_unfolding_all rfl))
    (pss_one (ps_ret (pe_and (pe_callB call_isi (by rfl) B.isi boot_isi (pa_cons (pv 1) (pa_cons (pe_bltn (v:=.ty "str") (by rfl) B.str boot_str rfl) pa_nil)))
     (pe_one (pe_or (pe_cmpR op_eq (pe_ix ix_tup (pv 0) pe_int (fun _ _=>rfl)) pe_str (nomark _)) (pe_one (pe_cmpR op_notIn_str (pe_ix ix_tup (pv 0) pe_int (fun _ _=>rfl)) (pv 1) (by with_unfolding_all rfl)))))))) pss_nil)
   (pss_cons (ps_if (pt_not (pt_val (pe_call GW hr (by rfl) DW.mg DW.fn.kp bW .nil pass0 (pa_cons (pv 1) pa_nil)))) (pss_one (ps_ret pe_bl)) pss_nil)
   (pss_cons (ps_if (pt_cmpR op_eq (pe_ix ix_tup (pv 0) pe_int (fun _ _=>rfl)) pe_str (nomark _)) (pss_one (ps_ret (pe_chain op_le op_lt pe_int (pv 1) (pe_ix ix_tup (pv 0) pe_int (fun _ _=>rfl))))) pss_nil)
   (pss_one (ps_ret (pe_or (pe_cmpR op_eq (pe_ix ix_tup (pv 0) pe_int (fun _ _=>rfl)) pe_str (nomark _)) (pe_one (pe_cmpR op_le (pv 1) (pe_ix ix_tup (pv 0) pe_int (fun _ _=>rfl)) (nomark _)))))))),?_⟩
  refine ⟨_,rfl,_,_,_,_,rfl,rfl,hk,at0 κ,?_⟩
  refine ⟨(by decide),fun p hp=>?_⟩
  have sm:=Same.upd (o:=.tup [.str "word",.str "without"]) hp
  refine ⟨.str κ.name,p,wT,rep_str (name_len κ),rfl,upd_same,_,rfl,?_⟩
  have hk':=sm.seqT hk
  have hi':=hi.same sm
  cases hx:κ.txt with
  | true=>
   refine iteB ((txt_in κ).trans hx) ?_
   refine ⟨_,rfl,_,_,_,_,rfl,hi'.1,kit_eq.trans (kit_str _ hi.2),_,rfl,?_⟩
   by_cases hs:n = "str"
   ·subst hs
    obtain ⟨z,rfl⟩:=hi.str_of
    refine iteB (by decide) ?_
    refine ⟨_,rfl,_,_,_,_,rfl,rfl,hk',at0 κ,?_⟩
    refine ⟨rfl,_,rfl,?_⟩
    cases κ with
    | word=>exact iteB (by decide) (q _ sm)
    | without c=>
     refine iteC (show decide (V.str "without" = V.str "word") = false by decide) ?_
     refine ⟨_,rfl,_,_,_,_,rfl,rfl,hk',rfl,_,rfl,_,_,rfl,rfl,?_⟩
     rw [StrLaws.found_one]
     exact q _ sm
    | whole=>exact absurd hx (by decide)
    | below _=>exact Bool.noConfusion hx
    | upto _=>exact Bool.noConfusion hx
   ·refine iteC (beq_eq_false_iff_ne.mpr hs) ?_
    have e:fitP κ v = false:=fit_not_str hx fun z e=>hs (by subst e;exact hi.str_ty)
    have:=q _ sm
    rw [e] at this
    exact this
  | false=>
   refine iteC ((txt_in κ).trans hx) ?_
   refine ⟨_,rfl,v,n,rfl,hi',_,rfl,?_⟩
   by_cases hs:n = "int"
   ·subst hs
    obtain ⟨i,rfl⟩:=is_int_of hi
    refine iteF ?_
    refine ⟨_,rfl,_,_,_,_,rfl,rfl,hk',at0 κ,rfl,_,rfl,?_⟩
    cases κ with
    | below m=>
     refine iteB (show decide (V.str "below" = V.str "below") = true by decide) ?_
     refine ⟨_,rfl,_,_,rfl,rfl,_,rfl,?_⟩
     have q':Q (.bl (decide (0 ≤ i) && decide (i < m))) _:=q _ sm
     refine ite2 (fun c=>?_) (fun c=>?_)
     ·rw [c,Bool.true_and] at q'
      exact ⟨_,rfl,_,_,_,_,rfl,rfl,hk',rfl,_,_,rfl,rfl,q'⟩
     ·rw [(by simpa using c:decide ((0:Int) ≤ i) = false),Bool.false_and] at q'
      exact q'
    | whole=>
     refine iteC (by decide) ?_
     exact ⟨_,rfl,_,_,_,_,rfl,rfl,hk',at0 _,rfl,_,rfl,iteB (by decide) (q _ sm)⟩
    | upto m=>
     refine iteC (show decide (V.str "upto" = V.str "below") = false by decide) ?_
     refine ⟨_,rfl,_,_,_,_,rfl,rfl,hk',at0 _,rfl,_,rfl,iteC (show decide (V.str "upto" = V.str "whole") = false by decide) ?_⟩
     exact ⟨_,rfl,_,rfl,_,_,_,_,rfl,rfl,hk',rfl,_,_,rfl,rfl,q _ sm⟩
    | word=>exact absurd hx (by decide)
    | without _=>exact Bool.noConfusion hx
   ·have e:fitP κ v = false:=fit_not_int hx fun z e=>hs (by subst e;exact is_int_ty hi)
    refine iteB (by rw [beq_eq_false_iff_ne.mpr hs];rfl) ?_
    have:=q _ sm
    rw [e] at this
    exact this
theorem same_updN {H1 H2:Hp} {D:Addr} {o:HO} (e:Same H1 H2) (h:H1 D = none):Same H1 (L2.upd H2 D o):=fun b u q=>by
 rw [upd_ne (ne_of_none q h)]
 exact e b u q
inductive Vd where
 | one | tup (xs:List V)
def Val (K:PySem.W.Frag) (H:Hp) (v:V):Vd->Prop
 | .one=>∃ n,Is K H v n/\n ≠ "tuple"/\∀ z,v = .str z->z.length ≤ 1000
 | .tup xs=>∃ p,v = .ref p/\SqT K H p xs/\Is K H v "tuple"/\xs.length ≤ 1000/\∀ x ∈ xs,ValP K H x
theorem Val.p {H:Hp} {v:V} {d:Vd} (h:Val K H v d):ValP K H v:=by
 cases d with
 | one=>
  obtain ⟨n,a,_,b⟩:=h
  exact ⟨n,a,b⟩
 | tup xs=>
  obtain ⟨p,rfl,_,a,_⟩:=h
  exact ⟨_,a,fun z e=>nomatch e⟩
theorem Val.same {H H':Hp} {v:V} {d:Vd} (h:Val K H v d) (e:Same H H'):Val K H' v d:=by
 cases d with
 | one=>
  obtain ⟨n,a,b,c⟩:=h
  exact ⟨n,a.same e,b,c⟩
 | tup xs=>
  obtain ⟨p,h1,h2,h3,h4,h5⟩:=h
  exact ⟨p,h1,e.seqT h2,h3.same e,h4,fun x hx=>(h5 x hx).same e⟩
def fitT (sort:Str) (κ:Pk):Vd->Bool
 | .one=>false
 | .tup xs=>if (decide (sort = "some") && decide (xs.length = 0)) = true then false else xs.all (fitP κ)
def wLS:List Str:=["list","some"]
def spFt (K:PySem.W.Frag):Sp:=fun vs H Q _=>∃ (a b:Addr) (v:V) (κ:Pk) (sort:Str) (d:Vd),vs = [.ref a,v]/\SqT K H a [.str sort,.ref b]/\SqT K H b κ.vs/\Val K H v d/\∀ H',Same H H'->Q (.bl (fitT sort κ d)) H'
theorem ok_ft {f fP:Addr} {fd fdP:FuncData} (F:Fun K "fits_tuple" "fits_tuple" (top 16) f fd) (B:Bl mg) (DP:Df K mg "fits_plain" (top 17) fP fdP) (GP:FnOk P w K mg base CX0 2 fP fdP ["kind","value"] (spFp K)) :
  FnOk P w K mg base CX0 3 f fd ["kind","value"] (spFt K):=by
 have sc:FnScope ["kind","value"] ["kind","value"] (defScope (top 16)):=⟨rfl,rfl,rfl,by decide +kernel,rfl,by decide +kernel,by decide +kernel⟩
 have bP:=DP.fn.binds (ps:=["kind","value"]) fun _ _ _ _ _ _ us hl=>by obtain ⟨v0,v1,rfl⟩:=L2.ln2 hl;rfl
 refine F.ok sc (fun vs H Q E h=>?_) (fun cdv A outer s H vs Q E hr h=>?_)
 ·obtain ⟨a,b,v,κ,sort,d,rfl,_⟩:=h
  rfl
 ·obtain ⟨a,b,v,κ,sort,d,rfl,hk,hb,hv,q⟩:=h
  refine ⟨_,pss_cons (ps_if (pt_not (pt_val (pe_callB call_isi (by rfl) B.isi boot_isi (pa_cons (pv 1) (pa_cons (pe_bltn (v:=.ty "tuple") (by rfl) B.tuple boot_tuple rfl) pa_nil))))) (pss_one (ps_ret pe_bl)) pss_nil)
   (pss_cons (ps_if (PW.pt (pw_and (pt_cmpR op_eq (pe_ix ix_tup (pv 0) pe_int (fun _ _=>rfl)) pe_str (nomark _)) (pw_and1 (pt_cmpR op_eq (pe_callB call_len_seq (by rfl) B.len PySem.boot_len (pa_cons (pv 1) pa_nil)) pe_int (nomark _))))) (pss_one (ps_ret pe_bl)) pss_nil)
   (pss_one (ps_ret (pe_callB (call_all rfl) (by rfl) B.all boot_all (pa_cons (pe_comp (osc:=defScope (top 16)) (N0:=["kind","value"]) (xs:=["thing"]) (fr:=[0]) ⟨rfl,by decide +kernel,by decide +kernel,by decide +kernel,(fun j hj=>by
     have e:j = 0:=by simpa using hj
     subst e
     exact ⟨_,rfl,by decide +kernel⟩),by decide +kernel⟩ rfl rfl rfl (pi_tup (pv 1))
    (fun s H fp=>pg_name (i:=0) (show (["thing","kind"]:List Str).Nodup by decide +kernel) rfl (Or.inl rfl)) (fun s H fp=>pif_nil)
    (fun s H fp=>pe_call GP hr (by rfl) DP.mg DP.fn.kp bP .nil pass0 (pa_cons (pe_ix (r:=rIxT K) ix_tup (pv 1) pe_int (fun _ _=>rfl)) (pa_cons (pv 0) pa_nil)))) pa_nil))))),?_⟩
  cases d with
  | one=>
   obtain ⟨n,hi,hn,_⟩:=hv
   refine ⟨_,rfl,_,_,_,_,rfl,hi.1,kit_eq.trans (kit_tuple _ hi.2),_,rfl,?_⟩
   exact iteB (by rw [beq_eq_false_iff_ne.mpr hn];rfl) (q H (Same.refl H))
  | tup xs=>
   obtain ⟨p,rfl,hp,hi,hl,hx⟩:=hv
   refine ⟨_,rfl,_,_,_,_,rfl,hi.1,kit_eq.trans (show kitTy "tuple" "tuple" = some true by decide +kernel),_,rfl,?_⟩
   refine iteF ?_
   refine ⟨_,rfl,_,_,_,_,rfl,rfl,hk,rfl,rfl,_,rfl,?_⟩
   have e0:decide (V.int (xs.length:Int) = V.int 0) = decide (xs.length = 0):=lenEq (k:=0)
   have go:(decide (sort = "some") && decide (xs.length = 0)) = false->∀ D,H D = none->CompW (Itt K p) (gName 0) tYes (tCall (spFp K) [] E0 (tCons (tOp (rIxT K) (tVar 1) (tC (.int 1))) (tCons (tVar 0) tNil)))
     (fun D H2=>∃ (p:Addr) (bs:List Bool),[V.ref D] = [.ref p]/\SqL K H2 p (bs.map V.bl)/\Q (.bl (bs.all id)) H2) D (compSt ["thing"] [0] [some (.ref a),some (.ref p)]) (upd H D (.lst [])):=by
    intro hc D hD
    refine compW_map xs.length (fun i=>.bl (fitP κ (xs.getD i .non))) (fun i σ' Hc=>(∃ t,σ' = [t,some (.ref a)])/\Same H Hc) (by rw [sizeLine_eq];omega) ⟨⟨none,rfl⟩,Same.upd hD⟩ upd_same ?_ ?_
    ·rintro i σ' Hc hi' ⟨⟨t,rfl⟩,sm⟩ hD'
     refine ⟨⟨xs,xs[i],sm.seqT hp,by simp [hi']⟩,?_⟩
     rintro x H' ⟨rfl,hx'⟩
     have ex:=hx' xs (sm.seqT hp)
     have eg:xs.getD i .non = x:=by rw [List.getD_eq_getElem?_getD,ex];rfl
     refine ⟨_,rfl,_,_,_,_,rfl,rfl,sm.seqT hk,rfl,_,rfl,b,x,κ,rfl,sm.seqT hb,(hx x (List.mem_of_getElem? ex)).same sm,fun H4 s4=>⟨by rw [eg],s4 _ _ hD',⟨_,rfl⟩,same_updN (sm.trans s4) hD⟩⟩
    ·rintro σ' Hc ⟨_,sm⟩ hDn
     refine ⟨⟨xs,sm.seqT hp,Nat.le_refl _⟩,D,xs.map (fitP κ),rfl,SqL.of ?_,?_⟩
     ·rw [hDn,range_map_getD xs .non (fun x=>V.bl (fitP κ x)),List.map_map]
      rfl
     ·have:=q Hc sm
      have e:fitT sort κ (.tup xs) = xs.all (fitP κ):=by
       show (if (decide (sort = "some") && decide (xs.length = 0)) = true then false else xs.all (fitP κ)) = _
       rw [hc,if_neg Bool.false_ne_true]
      rw [e] at this
      rw [List.all_map]
      exact this
   by_cases c1:sort = "some"
   ·refine iteB (decStr.trans (decide_eq_true c1)) ?_
    refine ⟨_,rfl,_,_,rfl,.inr hp,rfl,_,rfl,?_⟩
    by_cases c2:xs.length = 0
    ·refine iteB (e0.trans (decide_eq_true c2)) ?_
     have:=q H (Same.refl H)
     have e:fitT sort κ (.tup xs) = false:=by
      show (if (decide (sort = "some") && decide (xs.length = 0)) = true then false else xs.all (fitP κ)) = _
      rw [decide_eq_true c1,decide_eq_true c2]
      rfl
     rw [e] at this
     exact this
    ·refine iteC (e0.trans (decide_eq_false c2)) ?_
     exact ⟨_,rfl,_,rfl,⟨_,hp⟩,go (by rw [decide_eq_false c2,Bool.and_false])⟩
   ·refine iteC (decStr.trans (decide_eq_false c1)) ?_
    refine iteC rfl ?_
    exact ⟨_,rfl,_,rfl,⟨_,hp⟩,go (by rw [decide_eq_false c1,Bool.false_and])⟩
inductive Kk where
 | pl (κ:Pk) | key | onc (κ:Pk) | lst (κ:Pk) | som (κ:Pk)
def KkOk (K:PySem.W.Frag) (H:Hp) (a:Addr):Kk->Prop
 | .pl κ=>SqT K H a κ.vs
 | .key=>SqT K H a [.str "key"]
 | .onc κ=>∃ b,SqT K H a [.str "once",.ref b]/\SqT K H b κ.vs
 | .lst κ=>∃ b,SqT K H a [.str "list",.ref b]/\SqT K H b κ.vs
 | .som κ=>∃ b,SqT K H a [.str "some",.ref b]/\SqT K H b κ.vs
def fitKey (sz:Int):V->Bool
 | .non=>true
 | .int i=>decide (0 ≤ i) && decide (i < sz)
 | _=>false
def fitD (kk:Kk) (sz:Int) (v:V) (d:Vd):Bool:=match kk with
 | .pl κ=>fitP κ v
 | .onc κ=>fitP κ v
 | .key=>fitKey sz v
 | .lst κ=>fitT "list" κ d
 | .som κ=>fitT "some" κ d
def spFits (K:PySem.W.Frag):Sp:=fun vs H Q _=>∃ (a:Addr) (v:V) (sz:Int) (kk:Kk) (d:Vd),vs = [.ref a,v,.int sz]/\KkOk K H a kk/\Val K H v d/\∀ H',Same H H'->Q (.bl (fitD kk sz v d)) H'
theorem pname_ne:∀ κ:Pk,decide (V.str κ.name = V.str "key") = false/\decide (V.str κ.name = V.str "once") = false/\wLS.any (strIs (.str κ.name)) = false
 | .whole=>(by decide +kernel:decide (V.str "whole" = V.str "key") = false/\decide (V.str "whole" = V.str "once") = false/\wLS.any (strIs (.str "whole")) = false)
 | .below _=>(by decide +kernel:decide (V.str "below" = V.str "key") = false/\decide (V.str "below" = V.str "once") = false/\wLS.any (strIs (.str "below")) = false)
 | .upto _=>(by decide +kernel:decide (V.str "upto" = V.str "key") = false/\decide (V.str "upto" = V.str "once") = false/\wLS.any (strIs (.str "upto")) = false)
 | .word=>(by decide +kernel:decide (V.str "word" = V.str "key") = false/\decide (V.str "word" = V.str "once") = false/\wLS.any (strIs (.str "word")) = false)
 | .without _=>(by decide +kernel:decide (V.str "without" = V.str "key") = false/\decide (V.str "without" = V.str "once") = false/\wLS.any (strIs (.str "without")) = false)
theorem ok_fits {f fP fT fW:Addr} {fd fdP fdT fdW:FuncData} (F:Fun K "fits" "fits" (top 15) f fd) (B:Bl mg) (DW:Df K mg "is_whole" (top 9) fW fdW) (DP:Df K mg "fits_plain" (top 17) fP fdP) (DT:Df K mg "fits_tuple" (top 16) fT fdT) :
  FnOk P w K mg base CX0 4 f fd ["kind","value","size"] (spFits K):=by
 have sc:FnScope ["kind","value","size","sort"] ["kind","value","size"] (defScope (top 15)):=⟨rfl,rfl,rfl,by decide +kernel,rfl,by decide +kernel,by decide +kernel⟩
 have GW:FnOk P w K mg base CX0 1 fW fdW ["thing"] (spWhole K):=ok_whole DW.fn B
 have GP:FnOk P w K mg base CX0 2 fP fdP ["kind","value"] (spFp K):=ok_fp DP.fn B DW
 have GT:FnOk P w K mg base CX0 3 fT fdT ["kind","value"] (spFt K):=ok_ft DT.fn B DP GP
 have bW:=DW.fn.binds (ps:=["thing"]) fun _ _ _ _ _ _ us hl=>by obtain ⟨v0,rfl⟩:=L2.ln1 hl;rfl
 have bP:=DP.fn.binds (ps:=["kind","value"]) fun _ _ _ _ _ _ us hl=>by obtain ⟨v0,v1,rfl⟩:=L2.ln2 hl;rfl
 have bT:=DT.fn.binds (ps:=["kind","value"]) fun _ _ _ _ _ _ us hl=>by obtain ⟨v0,v1,rfl⟩:=L2.ln2 hl;rfl
 refine F.ok sc (fun vs H Q E h=>?_) (fun cdv A outer s H vs Q E hr h=>?_)
 ·obtain ⟨a,v,sz,kk,d,rfl,_⟩:=h
  rfl
 ·obtain ⟨a,v,sz,kk,d,rfl,hk,hv,q⟩:=h
  have hu:(A.deeper (envOfC "fits" (defScope (top 15)) s.heap.objs.size f cdv)).units + 1 < cLine:=hu_of hr
  have hr1:Room 1 _:=hr.mono (by decide)
  have hr2:Room 2 _:=hr.mono (by decide)
  refine ⟨_,pss_cons (ps_set (i:=3) sc.nd rfl (Or.inl rfl) (pe_ix ix_tup (pv 0) pe_int (fun _ _=>rfl)))
   (pss_cons (ps_if (pt_cmpR op_eq (pv 3) pe_str (nomark _)) (pss_one (ps_ret (pe_or (pe_cmpR op_isN (pv 1) pe_non (nomark _)) (pe_one (pe_and (pe_call GW hr1 (by rfl) DW.mg DW.fn.kp bW .nil pass0 (pa_cons (pv 1) pa_nil)) (pe_one (pe_chain op_le op_lt pe_int (pv 1) (pv 2)))))))) pss_nil)
   (pss_cons (ps_if (pt_cmpR op_eq (pv 3) pe_str (nomark _)) (pss_one (ps_ret (pe_call GP hr2 (by rfl) DP.mg DP.fn.kp bP .nil pass0 (pa_cons (pe_ix ix_tup (pv 0) pe_int (fun _ _=>rfl)) (pa_cons (pv 1) pa_nil))))) pss_nil)
   (pss_cons (ps_if (pt_cmpR (op_inD hu) (pv 3) (pe_tup (pa_cons pe_str (pa_cons pe_str pa_nil))) (by with_unfolding_all rfl)) (pss_one (ps_ret (pe_call GT hr (by rfl) DT.mg DT.fn.kp bT .nil pass0 (pa_cons (pv 0) (pa_cons (pv 1) pa_nil))))) pss_nil)
   (pss_one (ps_ret (pe_call GP hr2 (by rfl) DP.mg DP.fn.kp bP .nil pass0 (pa_cons (pv 0) (pa_cons (pv 1) pa_nil)))))))),?_⟩
  cases kk with
  | key=>
   have hk:SqT K H a [.str "key"]:=hk
   refine ⟨_,rfl,_,_,_,_,rfl,rfl,hk,rfl,?_⟩
   refine ⟨_,rfl,rfl,_,rfl,?_⟩
   refine iteB (show decide (V.str "key" = V.str "key") = true by decide) ?_
   refine ⟨_,rfl,rfl,_,rfl,?_⟩
   obtain ⟨n,hi,_⟩:=hv.p
   have q0:=q H (Same.refl H)
   refine ite2 (fun c=>?_) (fun c=>?_)
   ·have e:v = .non:=of_decide_eq_true c
    subst e
    exact q0
   ·refine ⟨_,rfl,v,n,rfl,hi,_,rfl,?_⟩
    by_cases hs:n = "int"
    ·subst hs
     obtain ⟨i,rfl⟩:=is_int_of hi
     refine iteB (by decide) ?_
     refine ⟨_,rfl,_,_,rfl,rfl,_,rfl,?_⟩
     have q':Q (.bl (decide (0 ≤ i) && decide (i < sz))) H:=q0
     refine ite2 (fun c=>?_) (fun c=>?_)
     ·rw [c,Bool.true_and] at q'
      exact ⟨_,rfl,_,_,rfl,rfl,q'⟩
     ·rw [(by simpa using c:decide ((0:Int) ≤ i) = false),Bool.false_and] at q'
      exact q'
    ·refine iteC (beq_eq_false_iff_ne.mpr hs) ?_
     have e:fitD .key sz v d = false:=by
      show fitKey sz v = false
      cases v <;> first | rfl | exact absurd (is_int_ty hi) hs | exact absurd (decide_eq_true rfl) c
     rw [e] at q0
     exact q0
  | onc κ=>
   obtain ⟨b,hk,hb⟩:=hk
   refine ⟨_,rfl,_,_,_,_,rfl,rfl,hk,rfl,?_⟩
   refine ⟨_,rfl,rfl,_,rfl,?_⟩
   refine iteC (show decide (V.str "once" = V.str "key") = false by decide) ?_
   refine ⟨_,rfl,rfl,_,rfl,?_⟩
   refine iteB (show decide (V.str "once" = V.str "once") = true by decide) ?_
   exact ⟨_,rfl,_,_,_,_,rfl,rfl,hk,rfl,_,rfl,b,v,κ,rfl,hb,hv.p,q⟩
  | pl κ=>
   have hk:SqT K H a κ.vs:=hk
   obtain ⟨n1,n2,n3⟩:=pname_ne κ
   refine ⟨_,rfl,_,_,_,_,rfl,rfl,hk,at0 κ,?_⟩
   refine ⟨_,rfl,rfl,_,rfl,?_⟩
   refine iteC n1 ?_
   refine ⟨_,rfl,rfl,_,rfl,?_⟩
   refine iteC n2 ?_
   refine ⟨_,rfl,(by decide),fun p hp=>?_⟩
   have sm:=Same.upd (o:=.tup [.str "list",.str "some"]) hp
   refine ⟨.str κ.name,p,wLS,rep_str (name_len κ),rfl,upd_same,_,rfl,?_⟩
   refine iteC n3 ?_
   exact ⟨_,rfl,_,rfl,a,v,κ,rfl,sm.seqT hk,hv.p.same sm,fun H' s'=>q H' (sm.trans s')⟩
  | lst κ=>
   obtain ⟨b,hk,hb⟩:=hk
   refine ⟨_,rfl,_,_,_,_,rfl,rfl,hk,rfl,?_⟩
   refine ⟨_,rfl,rfl,_,rfl,?_⟩
   refine iteC (show decide (V.str "list" = V.str "key") = false by decide) ?_
   refine ⟨_,rfl,rfl,_,rfl,?_⟩
   refine iteC (show decide (V.str "list" = V.str "once") = false by decide) ?_
   refine ⟨_,rfl,(by decide),fun p hp=>?_⟩
   have sm:=Same.upd (o:=.tup [.str "list",.str "some"]) hp
   refine ⟨.str "list",p,wLS,rep_str (by decide),rfl,upd_same,_,rfl,?_⟩
   refine iteB (by decide +kernel) ?_
   exact ⟨_,rfl,_,rfl,a,b,v,κ,"list",d,rfl,sm.seqT hk,sm.seqT hb,hv.same sm,fun H' s'=>q H' (sm.trans s')⟩
  | som κ=>
   obtain ⟨b,hk,hb⟩:=hk
   refine ⟨_,rfl,_,_,_,_,rfl,rfl,hk,rfl,?_⟩
   refine ⟨_,rfl,rfl,_,rfl,?_⟩
   refine iteC (show decide (V.str "some" = V.str "key") = false by decide) ?_
   refine ⟨_,rfl,rfl,_,rfl,?_⟩
   refine iteC (show decide (V.str "some" = V.str "once") = false by decide) ?_
   refine ⟨_,rfl,(by decide),fun p hp=>?_⟩
   have sm:=Same.upd (o:=.tup [.str "list",.str "some"]) hp
   refine ⟨.str "some",p,wLS,rep_str (by decide),rfl,upd_same,_,rfl,?_⟩
   refine iteB (by decide +kernel) ?_
   exact ⟨_,rfl,_,rfl,a,b,v,κ,"some",d,rfl,sm.seqT hk,sm.seqT hb,hv.same sm,fun H' s'=>q H' (sm.trans s')⟩
end
end My
namespace L2
open PySem PySem.Spec PyProof.Rows PySem.Builtin PySem.Builtin.Dict
section
variable {X:Cx}
end
theorem dict_ne_tree (a b:Value):Builtin.«dict.__ne__» ⟨[a,b],[]⟩ = (do
  let (self,other) ← dictSlotArgs "__ne__" ⟨[a,b],[]⟩
  if !(← isInstance other (.type "dict")) then rule s!"dict.{("__ne__" : String)}.not-a-dict";return ← ret .notImplemented
  ret (.bool ((← Dict.samePairs s!"dict.{("__ne__" : String)}" (← addrOf self) (← addrOf other)) == false))):=rfl
section
variable {A:Around} {s:Shared} {P:Program} {w:World}
theorem rcNe_dicts {a b:Addr} {kvs kws:List (Key × Value)} (da:s.heap.DictOf (mixKind P w) a kvs) (db:s.heap.DictOf (mixKind P w) b kws) (na:(a == sysModules) = false) (nb:(b == sysModules) = false) (hl:kvs.length = kws.length) (tx:∀ (k:Key) (v:Value),(k,v) ∈ kws->∃ x,k = .inr x)
  (he:∀ (k:Key) (v:Value),(k,v) ∈ kvs->∃ v',(k,v') ∈ kws/\SeqAt.EqAt A.in1 s v v' true) (hu:A.units < cLine):SeqAt.RcNeAt A s (.ref a) (.ref b) false:=fun prog w' E Q hq=>by
 obtain ⟨oa,es,ep,ha,xa,dda,ka,pa,nda⟩:=da
 obtain ⟨ob,fs,fp,hb,xb,ddb,kb,pb,ndb⟩:=db
 have Ta:s.TypeIs (.ref a) "dict":=⟨oa,ha,xa.1⟩
 have Tb:s.TypeIs (.ref b) "dict":=⟨ob,hb,xb.1⟩
 have la:es.size = kvs.length:=by have:=pairs_len pa;simpa using this
 have lb:fs.size = kws.length:=by have:=pairs_len pb;simpa using this
 have kb':∀ e ∈ fs,∃ z t,e.key = Value.str z t:=fun e he'=>by
  obtain ⟨m,hm,rfl⟩:=Array.mem_iff_getElem.mp he'
  obtain ⟨⟨k,v⟩,hk⟩:∃ kv,kws[m]? = some kv:=⟨_,List.getElem?_eq_getElem (by omega)⟩
  obtain ⟨g1,_⟩:=pb.get? (i:=m) (e:=fs[m]) (by simp [hm]) hk
  obtain ⟨x,rfl⟩:=tx k v (List.mem_of_getElem? hk)
  rcases keyIs_shape (k:=.inr x) (v:=fs[m].key) g1 with ⟨i,t,q,_⟩ | ⟨z,t,q,q2⟩
  ·cases q
  ·exact ⟨z,t,q2⟩
 refine wpAny_richCompare_same_room Ta Tb F.slot_dict_ne (wpAny_call_entry F.slot_dict_ne Ta F.entry_dict_ne ?_ (F.args_dict_ne_2 _ _)) hu
 rw [dict_ne_tree]
 refine wpAny_bind ?_
 show wpAny _ _ (pure (Value.ref a,Value.ref b)) _ _ _
 refine wpAny_pure ?_
 dsimp only
 refine wpAny_bind (wpAny_isInstance (T:="dict") (b:=true) Tb sub_dict_dict ?_)
 simp only [Bool.not_true,Bool.false_eq_true,if_false]
 refine wpAny_bind (wpAny_pure (wpAny_bind (wpAny_pure (wpAny_bind (same_pairs ha dda hb ddb na nb (by omega) (fun i e ei=>?_) ?_)))))
 ·have hi:i < es.size:=(Array.getElem?_eq_some_iff.mp ei).1
  obtain ⟨⟨k,v⟩,hk⟩:∃ kv,kvs[i]? = some kv:=⟨_,List.getElem?_eq_getElem (by omega)⟩
  obtain ⟨g1,g2⟩:=pa.get? (i:=i) (e:=e) (by simpa using ei) hk
  obtain ⟨k2,g3,g4⟩:=ka e (Array.mem_of_getElem? ei)
  have ek:k2 = k:=(mixKind P w).inj _ _ _ g3 g1
  subst ek
  obtain ⟨v',hv',eq⟩:=he k2 v (List.mem_of_getElem? hk)
  obtain ⟨x,rfl⟩:=tx k2 v' hv'
  obtain ⟨t0,ek0⟩:∃ t,e.key = Value.str x t:=by
   rcases keyIs_shape (k:=.inr x) (v:=e.key) g1 with ⟨i,t,q,_⟩ | ⟨z,t,q,q2⟩
   ·cases q
   ·cases q
    exact ⟨t,q2⟩
  obtain ⟨m,hm⟩:=List.getElem?_of_mem hv'
  have hm':m < fs.size:=by have:=(List.getElem?_eq_some_iff.mp hm).1;omega
  have em:fs.toList[m]? = some fs[m]:=by simp [hm']
  obtain ⟨q1,q2⟩:=pb.get? em hm
  obtain ⟨j,hj⟩:∃ j,fs.findIdx? (fun e=>e.key.isStr x) = some j:=by
   cases z:fs.findIdx? (fun e=>e.key.isStr x) with
   | some j=>exact ⟨j,rfl⟩
   | none=>
    have:=Array.findIdx?_eq_none_iff.mp z fs[m] (Array.getElem_mem hm')
    have q1':fs[m].key.isStr x = true:=by
     rcases keyIs_shape (k:=.inr x) (v:=fs[m].key) q1 with ⟨i,t,q,_⟩ | ⟨z,t,q,q2⟩
     ·cases q
     ·cases q
      rw [q2]
      exact beq_self_eq_true x
    rw [q1'] at this
    cases this
  obtain ⟨hjs,hjt,_⟩:=Array.findIdx?_eq_some_iff_getElem.mp hj
  obtain ⟨⟨k3,v3⟩,hk3⟩:∃ kv,kws[j]? = some kv:=⟨_,List.getElem?_eq_getElem (by omega)⟩
  obtain ⟨r1,r2⟩:=pb.get? (i:=j) (e:=fs[j]) (by simp [hjs]) hk3
  have hjk:(mixKind P w).is (.inr x) fs[j].key = true:=by
   obtain ⟨z,t,q⟩:=kb' fs[j] (Array.getElem_mem hjs)
   rw [q] at hjt ⊢
   have zx:z = x:=eq_of_beq hjt
   rw [zx]
   rw [(mixKind P w).strs (.inr x) x t0 _ (by rw [← ek0];exact g1)]
   exact beq_self_eq_true x
  have e3:k3 = .inr x:=(mixKind P w).inj _ _ _ r1 hjk
  subst e3
  have jm:j = m:=by
   have hj1:(kws.map (·.1))[j]? = some (Sum.inr x):=by rw [List.getElem?_map,hk3];rfl
   have hm1:(kws.map (·.1))[m]? = some (Sum.inr x):=by rw [List.getElem?_map,hm];rfl
   obtain ⟨x1,y1⟩:=List.getElem?_eq_some_iff.mp hj1
   obtain ⟨x2,y2⟩:=List.getElem?_eq_some_iff.mp hm1
   rcases Nat.lt_trichotomy j m with z | z | z
   ·exact absurd (y1.trans y2.symm) (List.pairwise_iff_getElem.mp ndb j m x1 x2 z)
   ·exact z
   ·exact absurd (y2.trans y1.symm) (List.pairwise_iff_getElem.mp ndb m j x2 x1 z)
  subst jm
  rw [hm] at hk3
  cases hk3
  refine ⟨j,fs[j],by simp [hjs],fun R hR=>?_,fun R hR=>?_⟩
  ·rw [ek0]
   exact find_str hb ddb kb' hj hR
  ·rw [g2,r2]
   exact eq prog w' E R hR
 ·exact wpAny_pure ⟨_,rfl,(fun z=>nomatch z),hq⟩
end
section
variable {X:Cx}
theorem op_neDD:OpR X (compareOp .NotEq) (fun x y H Q=>∃ (n:Nat) (a b:Addr) (kvs kws:List (Key × V)),x = .ref a/\y = .ref b/\Rd H a (.dK kvs)/\Rd H b (.dK kws)/\kvs.length = kws.length/\(∀ (k:Key) (v:V),(k,v) ∈ kws->∃ z,k = .inr z)/\(∀ (k:Key) (v:V),(k,v) ∈ kvs->∃ v',(k,v') ∈ kws/\Dq H n v v')/\X.A.units + n + 1 < cLine/\Q (.bl false) H):=by
 intro pins s σ H x y v u Q I rx ry h
 obtain ⟨n,a,b,kvs,kws,rfl,rfl,ha,hb,hl,tx,hf,hu,q⟩:=h
 cases rx
 cases ry
 obtain ⟨_,na,vs,kv,da⟩:=dk_rd I.hok ha
 obtain ⟨_,nb,ws,kw,db⟩:=dk_rd I.hok hb
 have l1:=kv.length
 have l2:=kw.length
 have hh:=rcNe_dicts (A:=X.A) da db na nb (by omega) (fun k v hk=>by
  obtain ⟨i,hi⟩:=List.getElem?_of_mem hk
  obtain ⟨v0,e0,_⟩:=kv_back kw hi
  exact tx k v0 (List.mem_of_getElem? e0)) (fun k v hk=>by
  obtain ⟨i,hi⟩:=List.getElem?_of_mem hk
  obtain ⟨v0,e0,rv⟩:=kv_back kv hi
  have m0:=List.mem_of_getElem? e0
  obtain ⟨v',hm',dq⟩:=hf k v0 m0
  obtain ⟨m,hm⟩:=List.getElem?_of_mem hm'
  obtain ⟨u',e1,rv'⟩:=kv_get kw hm
  exact ⟨u',List.mem_of_getElem? e1,eqAt_Dq I dq rv rv' (by show X.A.units + 1 + n < cLine;omega)⟩) (by omega)
 exact hh X.prog X.w X.xe _ ⟨.bl false,H,I,rfl,q⟩
end
end L2
namespace L2
open PySem PySem.Spec PyProof.Rows
theorem above_small {n:Nat} (h:n ≤ 4096):SetTable.sizeAbove n ≤ sizeLine:=by
 have go:∀ (f z:Nat),z ≤ 8192->SetTable.sizeAbove.go n f z ≤ 8192:=by
  intro f
  induction f with
  | zero=>intro z hz;exact hz
  | succ f ih=>
   intro z hz
   unfold SetTable.sizeAbove.go
   by_cases e:z ≤ n
   ·rw [if_pos e];exact ih (z * 2) (by omega)
   ·rw [if_neg e];exact hz
 refine Nat.le_trans (go 64 8 (by decide)) ?_
 rw [sizeLine_eq]
 decide
theorem lay_none {m:Nat}:SetTable.layClean m #[] = some (Array.replicate (m + 1) none):=by
 unfold SetTable.layClean
 rfl
theorem laid_none (m f mv:Nat) (a b:Bool):SetTable.laid m f mv a b #[] = some ({ mask:=m,place:=#[],dummies:=#[],finger:=f,led:=a,moves:=mv,plain:=b },#[]):=by
 unfold SetTable.laid
 rw [lay_none]
 have e:List.filterMap (fun j=>Option.map (fun x=>(j,x)) ((Array.replicate (m + 1) (none:Option Nat)).getD j none)) (List.range (m + 1)) = []:=by
  rw [List.filterMap_eq_nil_iff]
  intro j hj
  have:(Array.replicate (m + 1) (none:Option Nat)).getD j none = none:=by
   simp [Array.getD]
  rw [this]
  rfl
 show some (_,_) = some (_,_)
 simp only [e]
 rfl
section
variable {P:Program} {w:World} {A:Around} {E:Value->Shared->Prop} {s:Shared} {a:Addr}
theorem room_new {led:Bool} {more:Nat} {Q:Unit->Shared->Prop} {ob:Obj} (ho:s.heap.get? a = some ob) (hx:ob.ExactSet) (hd:ob.data = .set #[] 0 (.fresh 0 0 led)) (hm:more ≤ 2000)
  (h:∀ h',Heap.SameBut a s.heap h'->h'.SetOf (mixKind P w) a (fun _=>false) 0->Q () { s with heap:=h' }):wpAny (model P w) A (setRoomFor a more) Q E s:=by
 unfold setRoomFor
 refine wpAny_bind (wpAny_setState_of ho hd rfl ?_)
 have hS:s.heap.SetOf (mixKind P w) a (fun _=>false) 0:=⟨ob,#[],0,_,ho,hx,hd,fun e he=>by simp at he,fun k=>by simp,by decide,rfl,rfl⟩
 cases e:(SetTable.fresh 0 0 led).roomFor more with
 | none=>
  exact wpAny_pure (h s.heap (Heap.SameBut.refl a s.heap) hS)
 | some wanted=>
  have hw:wanted ≤ 4096:=by
   unfold SetTable.roomFor at e
   split at e
   ·injection e with e
    rw [← e]
    show (0 + more) * 2 ≤ 4096
    omega
   ·cases e
  show wpAny _ _ (setRelay a wanted) _ _ _
  unfold setRelay
  refine wpAny_bind (wpAny_setState_of ho hd rfl ?_)
  show wpAny _ _ (if SetTable.sizeAbove wanted > sizeLine then _ else _) _ _ _
  rw [if_neg (Nat.not_lt.mpr (above_small hw))]
  have er:(SetTable.fresh 0 0 led).relaid (Array.map (fun x:Int × Value=>x.1) #[]) wanted = some ({ mask:=SetTable.sizeAbove wanted - 1,place:=#[],dummies:=#[],finger:=0,led:=led,moves:=(SetTable.fresh 0 0 led).movedTo (SetTable.sizeAbove wanted - 1),plain:=true },#[]):=by
   unfold SetTable.relaid
   rw [show Array.map (fun x:Int × Value=>x.1) #[] = #[] from by simp]
   exact laid_none _ _ _ _ _
  rw [er]
  generalize eT:({ mask:=SetTable.sizeAbove wanted - 1,place:=#[],dummies:=#[],finger:=0,led:=led,moves:=(SetTable.fresh 0 0 led).movedTo (SetTable.sizeAbove wanted - 1),plain:=true }:SetTable) = T
  have hT:T.fits 0 = true:=by rw [← eT];rfl
  refine wpAny_bind (show wpAny _ _ (pure ((#[]:Array (Int × Value)),T)) _ _ _ from wpAny_pure ?_)
  refine wpAny_storeSet_of ho hd ?_ (Nat.zero_le _)
  obtain ⟨_,hS2⟩:=SetOf_store (knd:=mixKind P w) ho hx hd (es':=#[]) (t':=T) (S':=fun _=>false) (fun e he=>by simp at he) (fun k=>by simp) (by decide) hT
  exact h _ (Heap.SameBut.update _ a _) hS2
theorem wp_range {M:Model} {A:Around} {E:Value->Shared->Prop} {Q:PUnit->Shared->Prop} {body:Nat->PUnit->Sem (ForInStep PUnit)} (I:Nat->Shared->Prop) (N:Nat)
  (step:∀ i s,i < N->I i s->wpAny M A (body i PUnit.unit) (fun r s'=>r = .yield PUnit.unit/\I (i + 1) s') E s) (fin:∀ s,I N s->Q PUnit.unit s) :
  ∀ (n i:Nat) (s:Shared),n = N - i->i ≤ N->I i s->wpAny M A (forIn (List.range' i n) PUnit.unit body) Q E s:=by
 intro n
 induction n with
 | zero=>
  intro i s hn hi hI
  have:i = N:=by omega
  subst this
  exact wpAny_pure (fin s hI)
 | succ n ih=>
  intro i s hn hi hI
  rw [List.range'_succ,List.forIn_cons]
  refine wpAny_bind (wpAny_mono (step i s (by omega) hI) (fun r s' hr=>?_) fun _ _ z=>z)
  obtain ⟨rfl,hI'⟩:=hr
  exact ih (i + 1) s' (by omega) (by omega) hI'
theorem add_new {h:Heap} {ks:List Key} {i:Nat} {e:Value} {hh:Int} {Q:Bool->Shared->Prop} (hlt:i < ks.length) (e1:(mixKind P w).is ks[i] e = true) (e2:hh = (mixKind P w).hash ks[i]) (e3:e.scannable = true) (nd:ks.Nodup) (hb:ks.length + 1 < scanBound)
  (hS:s.heap.SetOf (mixKind P w) a (fun k=>(ks.take i).any fun x=>decide (x = k)) i)
  (q:∀ b h',Heap.SameBut a s.heap h'->h'.SetOf (mixKind P w) a (fun k=>(ks.take (i + 1)).any fun x=>decide (x = k)) (i + 1)->Q b { s with heap:=h' }):wpAny (model P w) A (setAddHashed a e hh) Q E s:=by
 rw [e2]
 have hni:((ks.take i).any fun x=>decide (x = ks[i])) = false:=by
  rw [List.any_eq_false]
  intro x hx
  rw [decide_eq_true_iff]
  intro q
  obtain ⟨j,hj,ej⟩:=List.mem_take_iff_getElem.mp hx
  have:j = i:=(List.getElem_inj nd).mp (ej.trans q)
  omega
 refine wpAny_setAddHashed_of (knd:=mixKind P w) e1 e3 hS (by omega) fun h' sb hS'=>?_
 rw [hni,if_neg Bool.false_ne_true] at hS'
 have ef:(fun k'=>((ks.take i).any fun x=>decide (x = k')) || decide (k' = ks[i])) = fun k'=>(ks.take (i + 1)).any fun x=>decide (x = k'):=by
  funext k'
  rw [List.take_add_one,List.getElem?_eq_getElem hlt]
  simp only [Option.toList_some,List.any_append,List.any_cons,List.any_nil,Bool.or_false]
  congr 1
  rw [Bool.eq_iff_iff,decide_eq_true_iff,decide_eq_true_iff]
  exact ⟨Eq.symm,Eq.symm⟩
 rw [ef] at hS'
 exact q _ h' sb hS'
theorem entries_of {d:Addr} {kvs:List (Key × Value)} {h:Heap} (hd:h.DictOf (mixKind P w) d kvs):∃ od es ep,h.get? d = some od/\od.cls = .type "dict"/\od.data = .dict es ep/\es.size = kvs.length/\(kvs.map (·.1)).Nodup/\∀ (i:Nat) (k:Key),(kvs.map (·.1))[i]? = some k->∃ e:DictEntry,es[i]? = some e/\(mixKind P w).is k e.key = true/\e.hash = (mixKind P w).hash k/\e.key.scannable = true:=by
 obtain ⟨od,es,ep,h1,h2,h3,h4,h5,h6⟩:=hd
 have hl:=h5.length
 rw [Array.length_toList] at hl
 refine ⟨od,es,ep,h1,h2.1,h3,hl,h6,fun i k hi=>?_⟩
 rw [List.getElem?_map] at hi
 obtain ⟨⟨k',v⟩,hkv,rfl⟩:=Option.map_eq_some_iff.mp hi
 have hie:i < es.size:=by have:=(List.getElem?_eq_some_iff.mp hkv).1;omega
 have he:es[i]? = some es[i]:=Array.getElem?_eq_getElem hie
 have hp:=h5.get? (i:=i) (e:=es[i]) (by rw [Array.getElem?_toList];exact he) hkv
 obtain ⟨k2,e1,e2⟩:=h4 es[i] (Array.getElem_mem hie)
 have ek:k2 = k':=(mixKind P w).inj _ _ _ e1 hp.1
 subst ek
 refine ⟨es[i],he,hp.1,e2,?_⟩
 rcases keyIs_shape hp.1 with ⟨j,t,_,e⟩ | ⟨x,t,_,e⟩ <;> rw [e] <;> rfl
theorem set_of_dict {d:Addr} {kvs:List (Key × Value)} {Q:Value->Shared->Prop} (hd:s.heap.DictOf (mixKind P w) d kvs) (hb:kvs.length ≤ 1000) (hm:(d == sysModules) = false)
  (h:∀ (h':Heap) (tk:Nat),h'.SetOf (mixKind P w) s.heap.objs.size (fun k=>(kvs.map (·.1)).any fun x=>decide (x = k)) kvs.length->(∀ b o,s.heap.get? b = some o->h'.get? b = some o)->Q (.ref s.heap.objs.size) { s with heap:=h',toks:=tk }) :
  wpAny (model P w) A (call (.type "set") [.ref d]) Q E s:=by
 obtain ⟨c,tl,hmro⟩:=F.called_set.mro
 have hmade:=F.called_set.made
 have hsub:=F.called_set.sub
 have q1:=F.called_set.notType
 have q2:=F.called_set.canCreate
 have q3:=F.typeCall_set_1 (.ref d)
 refine wpAny_call (codeAny_of_tree ?_)
 show wpAny _ _ (callAny (.type "set") ⟨[.ref d],[]⟩) _ _ s
 refine wpAny_pure ⟨Code.quiet_builtin _ (by decide +kernel),codeAny_builtin F.entry_type_call ?_⟩
 rw [Around.under_plain (weight_type_call_type "set" [.ref d] []) rfl]
 repeat (any_goals (first | assumption | wp_step))
 refine codeAny_mono (code_set_new_1 (.ref d) (E:=E) (Q₁:=fun v s1=>∃ led:Bool,v = .ref s.heap.objs.size/\s1 = { s with heap:=s.heap.push { cls:=.type "set",dict:=none,data:=.set #[] 0 (.fresh 0 0 led) } }) fun led=>⟨led,rfl,rfl⟩) fun r s1 hr=>?_
 match r,hr with
 | .error e,hr=>exact hr
 | .ok (.next),hr=>exact hr.elim
 | .ok (.brk),hr=>exact hr.elim
 | .ok (.cont),hr=>exact hr.elim
 | .ok (.ret v),hr=>
  obtain ⟨led,rfl,rfl⟩:=hr
  have hS:(s.heap.push { cls:=.type "set",dict:=none,data:=.set #[] 0 (.fresh 0 0 led) }).get? s.heap.objs.size = some { cls:=.type "set",dict:=none,data:=.set #[] 0 (.fresh 0 0 led) }:=Heap.get?_push_size _ rfl
  generalize eh:s.heap.push { cls:=.type "set",dict:=none,data:=.set #[] 0 (.fresh 0 0 led) } = h1 at hS ⊢
  have k1:∀ b o,s.heap.get? b = some o->h1.get? b = some o:=fun b o e=>by rw [← eh];exact Heap.get?_push_of_some _ e
  have hT:Shared.TypeIs { s with heap:=h1 } (.ref s.heap.objs.size) "set":=⟨_,hS,rfl⟩
  have i1:=F.called_set.init.lookup
  have i2:=F.called_set.init.bind (.ref s.heap.objs.size)
  repeat (any_goals (first | assumption | wp_step))
  refine codeAny_mono (codeAny_call_builtin (R:=wants (fun r s2=>r = .none/\∃ h' tk,s2 = { s with heap:=h',toks:=tk }/\h'.SetOf (mixKind P w) s.heap.objs.size (fun k=>(kvs.map (·.1)).any fun x=>decide (x = k)) kvs.length/\∀ b o,s.heap.get? b = some o->h'.get? b = some o) E) F.called_set.init.plain F.entry_set_init (check_set_init_1 hT ?_)) fun r2 s2 hr2=>?_
  ·obtain ⟨od,es,ep,o1,o2,o3,o4,o5,o6⟩:=entries_of hd
   have o1':=k1 _ _ o1
   have hda:d ≠ s.heap.objs.size:=Nat.ne_of_lt (Heap.lt_size o1)
   obtain ⟨ocls,odict,odata,oslots⟩:=od
   simp only at o2 o3
   subst o2 o3
   have t1:isSubtype (.type "dict") (.type "set") = pure false:=by rw [isSubtype_type];kernel_rfl
   have t2:isSubtype (.type "dict") (.type "frozenset") = pure false:=by rw [isSubtype_type];kernel_rfl
   unfold Builtin.«set.__init__» noKeywords Builtin.Frozenset.updateFrom
   generalize eR:setRoomFor = RF
   wp_walk
   subst eR
   have sz:es.size ≤ 1000:=by omega
   refine room_new hS ⟨rfl,rfl,rfl⟩ rfl (by omega) fun h2 sb2 hS2=>?_
   have o1'':=(sb2.2 d hda).trans o1'
   refine wpAny_bind (wpAny_dictEntries (s:={ s with heap:=h2 }) o1'' rfl ?_)
   rw [Std.Legacy.Range.forIn_eq_forIn_range']
   refine wpAny_bind (wp_range (fun i s'=>∃ h',s' = { s with heap:=h' }/\Heap.SameBut s.heap.objs.size h1 h'/\h'.SetOf (mixKind P w) s.heap.objs.size (fun k=>((kvs.map (·.1)).take i).any fun x=>decide (x = k)) i) es.size ?_ ?_ _ 0 _ (by simp [Std.Legacy.Range.size]) (Nat.zero_le _) ⟨h2,rfl,sb2,hS2⟩)
   ·rintro i s' hi ⟨h',rfl,sb,hSi⟩
    have hlt:i < (kvs.map (·.1)).length:=by rw [List.length_map];omega
    obtain ⟨e,he,e1,e2,e3⟩:=o6 i (kvs.map (·.1))[i] (List.getElem?_eq_getElem hlt)
    have od':=(sb.2 d hda).trans o1'
    refine wpAny_bind (wpAny_dictEntries (s:={ s with heap:=h' }) od' rfl ?_)
    rw [he]
    refine wpAny_bind (wpAny_holding (add_new (s:={ s with heap:=h' }) (h:=h') hlt e1 e2 e3 o5 (by rw [List.length_map];unfold scanBound;omega) hSi fun b h'' sb' hS''=>?_))
    refine wpAny_bind (wpAny_dictEpoch (s:={ s with heap:=h'' }) ((sb'.2 d hda).trans od') rfl ?_)
    rw [if_neg (by simp)]
    exact wpAny_pure ⟨rfl,h'',rfl,sb.trans sb',hS''⟩
   ·rintro s' ⟨h',rfl,sb,hSn⟩
    have et:(kvs.map (·.1)).take es.size = kvs.map (·.1):=List.take_of_length_le (by rw [List.length_map];omega)
    rw [et,o4] at hSn
    exact wpAny_pure (wpAny_pure ⟨rfl,h',_,rfl,hSn,fun b o e=>(sb.2 b (Nat.ne_of_lt (Heap.lt_size e))).trans (k1 b o e)⟩)
  ·match r2,hr2 with
   | .error e,hr2=>exact hr2
   | .ok (.next),hr2=>exact hr2.elim
   | .ok (.brk),hr2=>exact hr2.elim
   | .ok (.cont),hr2=>exact hr2.elim
   | .ok (.ret v),hr2=>
    obtain ⟨rfl,h',tk,rfl,hSn,kp⟩:=hr2
    repeat (any_goals (first | assumption | wp_step))
    exact h h' tk hSn kp
end
end L2
namespace L2
open PySem PySem.Spec PyProof.Rows
def setP (P:Program) (w:World) (p:Addr) (ks:List Key) (h:Heap):Prop:=h.SetOf (mixKind P w) p (fun k=>ks.any fun x=>decide (x = k)) ks.length
theorem setP_ok {P:Program} {w:World} {H:Hp} {h:Heap} {p:Addr} {ks:List Key} (e:setP P w p ks h):ObjOk P w H h p (.ext (setP P w p ks)):=by
 refine ⟨e,?_,fun h1 h2 x k=>?_⟩
 ·obtain ⟨o,es,ep,t,ho,_⟩:=e
  exact ⟨o,ho⟩
 ·obtain ⟨o,es,ep,t,ho,rest⟩:=x
  exact ⟨o,es,ep,t,k o ho,rest⟩
section
variable {X:Cx}
theorem call_setD:CallR X (.type "set") (fun xs H Q=>∃ a kvs,xs = [.ref a]/\Rd H a (.dK kvs)/\kvs.length ≤ 1000/\∀ p,H p = none->Q (.ref p) (upd H p (.ext (setP X.prog X.w p (kvs.map (·.1)))))):=by
 intro pins s σ H xs us Q I r h
 obtain ⟨a,kvs,rfl,e,hl,q⟩:=h
 obtain ⟨u,rfl,rx⟩:=vals1 r
 cases rx
 obtain ⟨_,hsys,vs,kv,hd⟩:=dk_rd I.hok e
 refine set_of_dict hd (by rw [← kv.length];exact hl) hsys fun h' tk hS kp=>?_
 have hS':setP X.prog X.w s.heap.objs.size (kvs.map (·.1)) h':=by
  unfold setP
  rw [kv.keys,List.length_map]
  exact hS
 exact ⟨.ref s.heap.objs.size,_,I.laid (a:=s.heap.objs.size) (t':=tk) kp (Nat.le_refl _) (setP_ok hS'),rfl,q _ (I.hok.fresh (Nat.le_refl _))⟩
end
end L2
namespace L2
open PySem PySem.Spec PyProof.Rows
section
variable {A:Around} {s:Shared} {P:Program} {w:World} {E:Value->Shared->Prop}
theorem entry_set_ne':entryFor table "set.__ne__" = some Builtin.«frozenset.__ne__»:=
 PySem.entryFor_alias (id':="frozenset.__ne__") (by kernel_rfl) rfl (by decide +kernel) (by kernel_rfl)
def sameK (ks ls:List Key):Bool:=decide (ks.length = ls.length) && ks.all fun k=>ls.any fun x=>decide (x = k)
theorem subset_wp {id:String} {a b:Addr} {oa ob:Obj} {es fs:Array (Int × Value)} {ep fp:Nat} {t u:SetTable} {ks ls:List Key} {Q:Bool->Shared->Prop} (o1:s.heap.get? a = some oa) (o3:oa.data = .set es ep t) (o4:ElemsOf (mixKind P w) es.toList) (o5:∀ k:Key,(ks.any fun x=>decide (x = k)) = true ↔ ∃ e ∈ es.toList,(mixKind P w).is k e.2 = true) (o7:t.fits es.size = true)
  (p1:s.heap.get? b = some ob) (p3:ob.data = .set fs fp u) (p4:ElemsOf (mixKind P w) fs.toList) (p7:u.fits fs.size = true) (hS:setP P w b ls s.heap) (hz:es.size ≤ fs.size)
  (hq:Q (ks.all fun k=>ls.any fun x=>decide (x = k)) s):wpAny (model P w) A (Builtin.Frozenset.subsetOf id a b) Q E s:=by
 unfold Builtin.Frozenset.subsetOf Builtin.Frozenset.sizeOf
 refine wpAny_bind (wpAny_bind (wpAny_setEntries_of o1 o3 o7 (wpAny_pure ?_)))
 refine wpAny_bind (wpAny_bind (wpAny_setEntries_of p1 p3 p7 (wpAny_pure ?_)))
 rw [if_neg (Nat.not_lt.mpr hz)]
 refine wpAny_bind (wpAny_setEpoch_of o1 o3 o7 ?_)
 have hw:∀ R:List (Int × Value)->Shared->Prop,R es.toList s->wpAny (model P w) A (Builtin.Frozenset.walkUnseen a b) R E s:=fun R hR=>by
  unfold Builtin.Frozenset.walkUnseen
  refine wpAny_bind (wpAny_setEntries_of o1 o3 o7 ?_)
  refine wpAny_bind (wpAny_setEntries_of p1 p3 p7 ?_)
  have hs:∀ e ∈ es.toList ++ fs.toList,e.2.scannable = true:=fun e he=>by
   rcases List.mem_append.mp he with h | h
   ·exact (o4 e h).2
   ·exact (p4 e h).2
  refine wpAny_bind (wpAny_forIn_list _ (fun rest b s'=>b = (none,())/\s' = s/\∀ e ∈ rest,e.2.scannable = true) _ ?_ ?_ _ _ ⟨rfl,rfl,hs⟩)
  ·rintro ⟨n,x⟩ rest b s' ⟨rfl,rfl,hr⟩
   have hx:=hr _ List.mem_cons_self
   have hr':=fun e he=>hr e (List.mem_cons_of_mem _ he)
   cases x <;> first | (cases hx;done) | exact wpAny_bind (wpAny_pure (wpAny_pure ⟨rfl,rfl,hr'⟩))
  ·rintro b s' ⟨rfl,rfl,_⟩
   exact wpAny_pure hR
 refine wpAny_bind (hw _ ?_)
 refine wpAny_bind (wpAny_forIn_list _ (fun rest b s'=>b = (none,())/\s' = s/\(∀ e ∈ rest,e ∈ es.toList)/\∀ e ∈ es.toList,e ∈ rest\/∃ k,(mixKind P w).is k e.2 = true/\(ls.any fun x=>decide (x = k)) = true) _ ?_ ?_ _ _ ⟨rfl,rfl,fun e he=>he,fun e he=>.inl he⟩)
 ·rintro ⟨n,x⟩ rest b' s' ⟨rfl,rfl,hr,hd⟩
  obtain ⟨⟨k,k1,k2⟩,k3⟩:=o4 _ (hr _ List.mem_cons_self)
  have k2':n = (mixKind P w).hash k:=k2
  subst k2'
  refine wpAny_bind (wpAny_holding (wpAny_setFind_of (knd:=mixKind P w) k1 k3 hS fun r hr2=>?_))
  cases r with
  | none=>
   have hn:(ls.any fun x=>decide (x = k)) = false:=hr2.symm
   refine wpAny_pure (wpAny_pure ?_)
   have hk:(ks.any fun x=>decide (x = k)) = true:=(o5 k).mpr ⟨_,hr _ List.mem_cons_self,k1⟩
   have:(ks.all fun k=>ls.any fun x=>decide (x = k)) = false:=by
    rw [List.all_eq_false]
    obtain ⟨y,hy,e⟩:=List.any_eq_true.mp hk
    rw [of_decide_eq_true e] at hy
    exact ⟨k,hy,by rw [hn];decide⟩
   rw [this] at hq
   exact hq
  | some j=>
   have hn:(ls.any fun x=>decide (x = k)) = true:=hr2.symm
   refine wpAny_bind ?_
   unfold Builtin.Frozenset.unchanged
   refine wpAny_bind (wpAny_setEpoch_of o1 o3 o7 ?_)
   rw [if_neg (by simp)]
   refine wpAny_pure (wpAny_pure ⟨rfl,rfl,fun e he=>hr e (List.mem_cons_of_mem _ he),fun e he=>?_⟩)
   rcases hd e he with h | h
   ·rcases List.mem_cons.mp h with h | h
    ·subst h
     exact .inr ⟨k,k1,hn⟩
    ·exact .inl h
   ·exact .inr h
 ·rintro b' s' ⟨rfl,rfl,_,hd⟩
  have:(ks.all fun k=>ls.any fun x=>decide (x = k)) = true:=by
   rw [List.all_eq_true]
   intro k hk
   obtain ⟨e,he,e1⟩:=(o5 k).mp (List.any_eq_true.mpr ⟨k,hk,decide_eq_true rfl⟩)
   rcases hd e he with h | ⟨k',h1,h2⟩
   ·cases h
   ·rw [(mixKind P w).inj _ _ _ e1 h1]
    exact h2
  rw [this] at hq
  exact wpAny_pure hq
theorem ne_sets {a b:Addr} {ks ls:List Key} {Q:Value->Shared->Prop} (ha:setP P w a ks s.heap) (hb:setP P w b ls s.heap) (hu:A.units < cLine)
  (hq:∀ tk,Q (.bool (!sameK ks ls)) { s with toks:=tk }):wpAny (model P w) A (compareOp .NotEq (.ref a) (.ref b)) Q E s:=by
 obtain ⟨oa,es,ep,t,o1,o2,o3,o4,o5,o6,o7,o8⟩:=ha
 obtain ⟨ob,fs,fp,u,p1,p2,p3,p4,p5,p6,p7,p8⟩:=hb
 have Ta:s.TypeIs (.ref a) "set":=⟨oa,o1,o2.1⟩
 have Tb:s.TypeIs (.ref b) "set":=⟨ob,p1,p2.1⟩
 show wpAny _ _ (richCompare .NotEq (.ref a) (.ref b)) _ _ _
 refine wpAny_richCompare_same_room Ta Tb F.slot_set_ne (wpAny_call_entry F.slot_set_ne Ta entry_set_ne' ?_ (F.args_set_ne_2 _ _)) hu
 have t0:isSubtype (.type "set") (.type "set") = pure true:=by rw [isSubtype_type];kernel_rfl
 have t1:isSubtype (.type "set") (.type "frozenset") = pure false:=by rw [isSubtype_type];kernel_rfl
 obtain ⟨oc,od,oD,os⟩:=oa
 obtain ⟨pc,pd,pD,ps⟩:=ob
 simp only [Obj.ExactSet] at o2 o3 p2 p3
 obtain ⟨rfl,rfl,rfl⟩:=o2
 obtain ⟨rfl,rfl,rfl⟩:=p2
 subst o3 p3
 refine wpAny_bind ?_
 generalize eS:Builtin.Frozenset.sizeOf = SO
 generalize eB:Builtin.Frozenset.subsetOf = SB
 wp_walk
 subst eS
 unfold Builtin.Frozenset.sizeOf
 refine wpAny_bind (wpAny_setEntries_of o1 rfl o7 (wpAny_pure ?_))
 refine wpAny_bind (wpAny_bind (wpAny_setEntries_of p1 rfl p7 (wpAny_pure ?_)))
 refine wpAny_bind ?_
 by_cases e:es.size = fs.size
 ·rw [if_neg (by simpa using e)]
  refine wpAny_bind (wpAny_bind (wpAny_isInstance (T:="set") (b:=false) Ta t1 ?_))
  refine wpAny_pure ?_
  subst eB
  refine subset_wp o1 rfl o4 o5 o7 p1 rfl p4 p7 ⟨_,fs,fp,u,p1,⟨rfl,rfl,rfl⟩,rfl,p4,p5,p6,p7,p8⟩ (Nat.le_of_eq e) ?_
  refine wpAny_pure ⟨_,rfl,(fun z=>nomatch z),?_⟩
  have:sameK ks ls = (ks.all fun k=>ls.any fun x=>decide (x = k)):=by unfold sameK;rw [decide_eq_true (by omega),Bool.true_and]
  rw [← this]
  exact hq s.toks
 ·rw [if_pos (by simpa using e)]
  refine wpAny_pure (wpAny_pure ⟨_,rfl,(fun z=>nomatch z),?_⟩)
  have:sameK ks ls = false:=by unfold sameK;rw [decide_eq_false (by omega),Bool.false_and]
  have q:=hq s.toks
  rw [this] at q
  exact q
end
section
variable {X:Cx}
theorem op_neS (hu:X.A.units < cLine):OpR X (compareOp .NotEq) (fun x y H Q=>∃ (a b:Addr) (ks ls:List Key),x = .ref a/\y = .ref b/\H a = some (.ext (setP X.prog X.w a ks))/\H b = some (.ext (setP X.prog X.w b ls))/\Q (.bl (!sameK ks ls)) H):=by
 intro pins s σ H x y v u Q I rx ry h
 obtain ⟨a,b,ks,ls,rfl,rfl,ha,hb,q⟩:=h
 cases rx
 cases ry
 obtain ⟨ha',_⟩:=I.hok a _ ha
 obtain ⟨hb',_⟩:=I.hok b _ hb
 exact ne_sets ha' hb' hu fun tk=>⟨.bl (!sameK ks ls),H,I.tok tk,rfl,q⟩
end
end L2
namespace L2
open PySem PySem.Spec PyProof.Rows
section
variable {P:Program} {w:World} {A:Around} {R:Result->Shared->Prop} {I:Addr} {fp wr:List Addr} {G:Array GenState->Array GenState->Prop} {n:Nat} {PV:Nat->Value->Prop} {St:Nat->Shared->Prop}
theorem loop_keys (W:WalksS P w A.in1 I fp wr G n PV St) (a:Addr) (haf:a ∉ fp) (ks:List Key) (hn:ks.length = n) (hv:∀ i v,PV i v->∀ k,ks[i]? = some k->(mixKind P w).is k v = true/\v.scannable = true) (nd:ks.Nodup) (hb:ks.length + 1 < scanBound) :
  ∀ (m i:Nat) (s:Shared),m = n - i->i ≤ n->St i s->s.heap.SetOf (mixKind P w) a (fun k=>(ks.take i).any fun x=>decide (x = k)) i →
   (∀ s',Moved (a :: wr) G s s'->setP P w a ks s'.heap->R (.ok (.ret .none)) s')->codeAny (model P w) A (.builtin "set.update.loop" ⟨[.ref a,.ref I],[]⟩) R s:=by
 have haw:a ∉ wr:=fun h=>haf (W.sub _ h)
 have sub:∀ b ∈ wr,b ∈ a :: wr:=fun b hb=>List.mem_cons_of_mem _ hb
 have keep:∀ {s s':Shared} {S:Key->Bool} {j:Nat},Moved wr G s s'->s.heap.SetOf (mixKind P w) a S j->s'.heap.SetOf (mixKind P w) a S j:=fun hm hS=>by
  obtain ⟨o,es,ep,t,ho,rest⟩:=hS
  exact ⟨o,es,ep,t,hm.heap a _ haw ho,rest⟩
 intro m
 induction m with
 | zero=>
  intro i s hm hi st hS hR
  have ei:i = n:=by omega
  subst ei
  refine codeAny_builtin F.entry_set_update_loop ?_
  rw [Around.under_plainId F.plain_set_update_loop _]
  refine wpAny_bind (W.done s _ _ st fun s' mv=>?_)
  refine wpAny_pure (hR s' (mv.mono sub) ?_)
  have:=keep mv hS
  rw [List.take_of_length_le (by omega)] at this
  unfold setP
  rw [hn]
  exact this
 | succ m ih=>
  intro i s hm hi st hS hR
  have hlt:i < n:=by omega
  have hlk:i < ks.length:=by omega
  refine codeAny_builtin F.entry_set_update_loop ?_
  rw [Around.under_plainId F.plain_set_update_loop _]
  refine wpAny_bind (W.item i s _ _ hlt st fun v s' hp st' mv=>?_)
  obtain ⟨v1,v2⟩:=hv i v hp ks[i] (List.getElem?_eq_getElem hlk)
  refine wpAny_bind (wpAny_holding ?_)
  unfold setAdd
  refine wpAny_holding (wpAny_bind ((mixKind P w).pyHash v1 ?_))
  have hS1:=keep mv hS
  refine add_new (s:={ s' with toks:=s'.toks + 1 }) (h:=s'.heap) hlk v1 rfl v2 nd hb hS1 fun b h' sb hS'=>?_
  refine wpAny_pure ⟨plainId_quiet F.plain_set_update_loop _,ih (i + 1) _ (by omega) hlt (W.frame _ s' _ _ st' (Nat.le_succ _) fun b hb o e=>?_) hS' fun s'' mv2 hS2=>?_⟩
  ·rw [sb.2 b (fun q:b = a=>haf (by rw [← q];exact hb))]
   exact e
  ·refine hR s'' (Moved.trans W.gtrans ((mv.mono sub).then_heap (Nat.le_succ _) fun b o hb e=>?_) mv2) hS2
   rw [sb.2 b (fun q:b = a=>hb (by rw [q];exact List.mem_cons_self))]
   exact e
end
section
variable {P:Program} {w:World} {A:Around} {s:Shared} {E:Value->Shared->Prop}
theorem set_of_list {l:Addr} {items:Array Value} {ks:List Key} {Q:Value->Shared->Prop} (hh:A.handled = none) (hl:s.heap.IsList l items) (hn:ks.length = items.size) (hk:∀ (i:Nat) (v:Value) (k:Key),items[i]? = some v->ks[i]? = some k->(mixKind P w).is k v = true/\v.scannable = true) (nd:ks.Nodup) (hb:ks.length ≤ 1000)
  (h:∀ (h':Heap) (tk:Nat),setP P w s.heap.objs.size ks h'->(∀ b o,s.heap.get? b = some o->h'.get? b = some o)->Q (.ref s.heap.objs.size) { s with heap:=h',toks:=tk }) :
  wpAny (model P w) A (call (.type "set") [.ref l]) Q E s:=by
 obtain ⟨c,tl,hmro⟩:=F.called_set.mro
 have hmade:=F.called_set.made
 have hsub:=F.called_set.sub
 have q1:=F.called_set.notType
 have q2:=F.called_set.canCreate
 have q3:=F.typeCall_set_1 (.ref l)
 refine wpAny_call (codeAny_of_tree ?_)
 show wpAny _ _ (callAny (.type "set") ⟨[.ref l],[]⟩) _ _ s
 refine wpAny_pure ⟨Code.quiet_builtin _ (by decide +kernel),codeAny_builtin F.entry_type_call ?_⟩
 rw [Around.under_plain (weight_type_call_type "set" [.ref l] []) rfl]
 repeat (any_goals (first | assumption | wp_step))
 refine codeAny_mono (code_set_new_1 (.ref l) (E:=E) (Q₁:=fun v s1=>∃ led:Bool,v = .ref s.heap.objs.size/\s1 = { s with heap:=s.heap.push { cls:=.type "set",dict:=none,data:=.set #[] 0 (.fresh 0 0 led) } }) fun led=>⟨led,rfl,rfl⟩) fun r s1 hr=>?_
 match r,hr with
 | .error e,hr=>exact hr
 | .ok (.next),hr=>exact hr.elim
 | .ok (.brk),hr=>exact hr.elim
 | .ok (.cont),hr=>exact hr.elim
 | .ok (.ret v),hr=>
  obtain ⟨led,rfl,rfl⟩:=hr
  have hS:(s.heap.push { cls:=.type "set",dict:=none,data:=.set #[] 0 (.fresh 0 0 led) }).get? s.heap.objs.size = some { cls:=.type "set",dict:=none,data:=.set #[] 0 (.fresh 0 0 led) }:=Heap.get?_push_size _ rfl
  generalize eh:s.heap.push { cls:=.type "set",dict:=none,data:=.set #[] 0 (.fresh 0 0 led) } = h1 at hS ⊢
  have k1:∀ b o,s.heap.get? b = some o->h1.get? b = some o:=fun b o e=>by rw [← eh];exact Heap.get?_push_of_some _ e
  have z1:s.heap.objs.size < h1.objs.size:=by rw [← eh,Heap.size_push];exact Nat.lt_succ_self _
  have hT:Shared.TypeIs { s with heap:=h1 } (.ref s.heap.objs.size) "set":=⟨_,hS,rfl⟩
  have i1:=F.called_set.init.lookup
  have i2:=F.called_set.init.bind (.ref s.heap.objs.size)
  repeat (any_goals (first | assumption | wp_step))
  refine codeAny_mono (codeAny_call_builtin (R:=wants (fun r s2=>r = .none/\∃ h' tk,s2 = { s with heap:=h',toks:=tk }/\setP P w s.heap.objs.size ks h'/\∀ b o,s.heap.get? b = some o->h'.get? b = some o) E) F.called_set.init.plain F.entry_set_init (check_set_init_1 hT ?_)) fun r2 s2 hr2=>?_
  ·have hl0:=hl
   obtain ⟨ol,o1,o2,nl,o3⟩:=hl
   have o1':=k1 _ _ o1
   have hlS:l < s.heap.objs.size:=Heap.lt_size o1
   obtain ⟨ocls,odict,odata,oslots⟩:=ol
   simp only at o2 o3
   subst o2 o3
   have t1:=F.sub_list_set
   have t2:=F.sub_list_frozenset
   have t3:(Value.type "list" == Value.type "dict") = false:=by decide
   have hl1:h1.IsList l items:=⟨_,o1',rfl,nl,rfl⟩
   unfold Builtin.«set.__init__» noKeywords Builtin.Frozenset.updateFrom
   generalize eI:pyIter = IT
   wp_walk
   subst eI
   refine wpAny_pyIter_list hl1 (wpAny_bind (wpAny_runValue ?_))
   have hIl:l ≠ h1.objs.size:=Nat.ne_of_lt (Nat.lt_trans hlS z1)
   refine loop_keys ((Walks.list (by simp [hh]) _ l hIl items).toS) s.heap.objs.size ?_ ks hn (fun i v hp k hik=>hk i v k hp hik) nd (by unfold scanBound;omega) (items.size - 0) 0 _ rfl (Nat.zero_le _) ⟨⟨_,Heap.get?_push_size _ rfl,rfl,rfl⟩,hl1.push _⟩ ?_ fun s' mv hS'=>?_
   ·simp only [List.mem_cons,List.not_mem_nil,or_false,not_or]
    exact ⟨Nat.ne_of_lt z1,Nat.ne_of_gt hlS⟩
   ·exact ⟨_,#[],0,_,Heap.get?_push_of_some _ hS,⟨rfl,rfl,rfl⟩,rfl,fun e he=>by simp at he,fun k=>by simp,by decide,rfl,rfl⟩
   ·obtain ⟨h',g',d',tk',os'⟩:=s'
    have e1:g' = s.gens:=mv.gens
    have e2:d' = s.drawn:=mv.drawn
    have e3:os' = s.os:=mv.os
    subst e1 e2 e3
    refine wpAny_pure (wpAny_pure ⟨rfl,h',tk',rfl,hS',fun b o e=>mv.heap b o ?_ (Heap.get?_push_of_some _ (k1 b o e))⟩)
    have lb:=Heap.lt_size e
    simp only [List.mem_cons,List.not_mem_nil,or_false,not_or]
    exact ⟨Nat.ne_of_lt lb,Nat.ne_of_lt (Nat.lt_trans lb z1)⟩
  ·match r2,hr2 with
   | .error e,hr2=>exact hr2
   | .ok (.next),hr2=>exact hr2.elim
   | .ok (.brk),hr2=>exact hr2.elim
   | .ok (.cont),hr2=>exact hr2.elim
   | .ok (.ret v),hr2=>
    obtain ⟨rfl,h',tk,rfl,hSn,kp⟩:=hr2
    repeat (any_goals (first | assumption | wp_step))
    exact h h' tk hSn kp
end
section
variable {X:Cx}
theorem call_setL (hc:X.calm = true):CallR X (.type "set") (fun xs H Q=>∃ (a:Addr) (zs:List Str),xs = [.ref a]/\SqL X.K H a (zs.map V.str)/\zs.Nodup/\zs.length ≤ 1000/\∀ p,H p = none->Q (.ref p) (upd H p (.ext (setP X.prog X.w p (zs.map Sum.inr))))):=by
 intro pins s σ H xs us Q I r h
 obtain ⟨a,zs,rfl,hq,nd,hl,q⟩:=h
 obtain ⟨u,rfl,rx⟩:=vals1 r
 cases rx
 obtain ⟨its,rv,pl,hz⟩:=I.list hq
 have hlen:its.length = zs.length:=by
  have:=rv.length
  rw [List.length_map] at this
  exact this.symm
 refine set_of_list (ks:=zs.map Sum.inr) (I.ok.hd hc) pl.isList (by rw [List.length_map,List.size_toArray];exact hlen.symm) (fun i v k hv hk=>?_) ?_ (by rw [List.length_map];exact hl) fun h' tk hS kp=>?_
 ·rw [List.getElem?_map] at hk
  obtain ⟨z,hz',rfl⟩:=Option.map_eq_some_iff.mp hk
  obtain ⟨u,hu,ru⟩:=rv.get (show (zs.map V.str)[i]? = some (V.str z) by rw [List.getElem?_map,hz'];rfl)
  have hv':its[i]? = some v:=by simpa using hv
  rw [hv'] at hu
  cases hu
  obtain ⟨t,rfl⟩:=ru
  exact ⟨by show keyIs (.inr z) (.str z t) = true;first | exact beq_self_eq_true z | (simp [keyIs,Value.isStrOf]),rfl⟩
 ·exact List.Pairwise.map _ (fun a b hab h=>hab (by injection h)) nd
 ·exact ⟨.ref s.heap.objs.size,_,I.laid (a:=s.heap.objs.size) (t':=tk) kp (Nat.le_refl _) (setP_ok hS),rfl,q _ (I.hok.fresh (Nat.le_refl _))⟩
end
end L2
namespace L2
open PySem PySem.Spec PyProof.Rows
theorem back_same {H H1:Hp} {a:Addr} {o:Obj} {kvs:List (Key × V)} (hc:H a = some (.dK kvs)) (e:Same (L2.upd H a (.frz o (.dK kvs))) H1):Same H (L2.upd H1 a (.dK kvs)):=fun b u hb=>by
 by_cases eb:b = a
 ·subst eb
  rw [hc] at hb
  rw [← hb]
  exact upd_same
 ·rw [upd_ne eb]
  exact e b u (by rw [upd_ne eb];exact hb)
end L2
namespace L2
open PySem PySem.Spec PyProof.Rows
section
variable {X:Cx}
end
end L2
namespace L2
open PySem PySem.Spec PyProof.Rows
section
variable {X:Cx} {body:List Stmt} {cx cy n:Str} {b₀ b₁:Stmt} {suite suite':List Stmt} {np hp np' hp' pos:Pos} {CN CM Cx:Addr} {i:Nat} {tb:Ends->TS} {tc td:Addr->Addr->TS} {ts:Addr->TS} {pins:List (Addr × Obj)} {σ1:St} {H1:Hp} {s:Shared} {x:Addr} {od:Option Addr} {D:Ends} {rest:List ExceptHandler}
end
end L2
namespace L2
open PySem PySem.Spec PyProof.Rows
def flt:V->Bool
 | .non=>true
 | .bl _=>true
 | .int _=>true
 | .str _=>true
 | _=>false
theorem zw_get {zs:List Str} {vs:List V} {i:Nat}:(zs.zipWith (fun z v=>((Sum.inr z:Key),v)) vs)[i]? = match zs[i]?,vs[i]? with | some z,some v=>some (.inr z,v) | _,_=>none:=by
 rw [List.getElem?_zipWith]
 cases zs[i]? <;> cases vs[i]? <;> rfl
theorem zw_len {zs:List Str} {vs:List V} (h:vs.length = zs.length):(zs.zipWith (fun z v=>((Sum.inr z:Key),v)) vs).length = zs.length:=by
 rw [List.length_zipWith];omega
theorem zw_mem {zs:List Str} {vs:List V} {k:Key} {v:V} (h:(k,v) ∈ zs.zipWith (fun z v=>((Sum.inr z:Key),v)) vs):∃ (i:Nat) (z:Str),zs[i]? = some z/\vs[i]? = some v/\k = .inr z:=by
 obtain ⟨i,hi⟩:=List.getElem?_of_mem h
 rw [zw_get] at hi
 cases h1:zs[i]? with
 | none=>rw [h1] at hi;cases hi
 | some z=>
  cases h2:vs[i]? with
  | none=>rw [h1,h2] at hi;cases hi
  | some u=>
   rw [h1,h2] at hi
   injection hi with hi
   injection hi with e1 e2
   exact ⟨i,z,h1,by rw [h2,e2],e1.symm⟩
theorem zw_val {zs:List Str} {vs:List V} (nd:zs.Nodup) {i:Nat} {z:Str} {v:V} (h1:zs[i]? = some z) (h2:vs[i]? = some v):valV (zs.zipWith (fun z v=>((Sum.inr z:Key),v)) vs) (.inr z) = some v:=by
 induction zs generalizing vs i with
 | nil=>cases h1
 | cons y r ih=>
  cases vs with
  | nil=>cases h2
  | cons u us=>
   rw [List.zipWith_cons_cons]
   rw [List.nodup_cons] at nd
   cases i with
   | zero=>
    cases h1
    cases h2
    exact valV_pos rfl
   | succ i=>
    rw [List.getElem?_cons_succ] at h1 h2
    have hne:¬ (Sum.inr y:Key) = .inr z:=fun e=>by
     injection e with e
     exact nd.1 (by rw [e];exact List.mem_of_getElem? h1)
    rw [valV_neg (p:=((Sum.inr y:Key),u)) hne]
    exact ih nd.2 h1 h2
end L2
namespace L2
open PySem PySem.Spec PyProof.Rows
def cut (H0 H:Hp):Hp:=fun b=>match H0 b with | none=>H b | some _=>none
theorem cut_sub {H0 H:Hp}:Same (cut H0 H) H:=fun b o e=>by
 unfold cut at e
 split at e
 ·exact e
 ·cases e
theorem cut_new {H0 H:Hp} {b:Addr} {o:HO} (e:cut H0 H b = some o):H0 b = none:=by
 unfold cut at e
 split at e
 ·assumption
 ·cases e
theorem cut_at {H0 H:Hp} {b:Addr} {o:HO} (h0:H0 b = none) (e:H b = some o):cut H0 H b = some o:=by
 unfold cut
 rw [h0]
 exact e
theorem cut_up {H0 H H':Hp} (s:Same H H'):Same (cut H0 H) (cut H0 H'):=fun b o e=>cut_at (cut_new e) (s _ _ (cut_sub _ _ e))
theorem none_of {H0 H1:Hp} {b:Addr} (s:Same H0 H1) (h:H1 b = none):H0 b = none:=by
 cases e:H0 b with
 | none=>rfl
 | some o=>rw [s _ _ e] at h;cases h
def sCut (t:TS):TS:=fun D σ H=>∃ R:St->Hp->Prop,t { D with nx:=R } σ H/\∀ σ' H',R σ' H'->D.nx σ' H'
theorem ps_cut {X:Cx} {st:Stmt} {t:TS} (h:PS X st t):PS X st (sCut t):=by
 intro pins s σ H D I hq
 obtain ⟨R,h1,h2⟩:=hq
 refine thn (h pins s σ H _ I h1) fun f s' hs=>?_
 cases f with
 | next=>obtain ⟨σ',H',I',z⟩:=hs;exact ⟨σ',H',I',h2 _ _ z⟩
 | brk=>exact hs
 | cont=>exact hs
 | ret u=>exact hs
theorem inV_str (z:Str) (l:List Str):inV (.str z) (l.map V.str) = decide (z ∈ l):=by
 unfold inV
 rw [Bool.eq_iff_iff,List.any_eq_true,decide_eq_true_iff]
 constructor
 ·rintro ⟨y,hy,e⟩
  obtain ⟨x,hx,rfl⟩:=List.mem_map.mp hy
  have:x = z:=by simpa [eqV] using e
  rw [← this]
  exact hx
 ·intro h
  exact ⟨_,List.mem_map.mpr ⟨z,h,rfl⟩,by simp [eqV]⟩
theorem flat_strs (l:List Str):(l.map V.str).all flatV = true:=by
 rw [List.all_map]
 exact List.all_eq_true.mpr fun _ _=>rfl
theorem sameK_perm {ks ls ls':List Key} (p:ls.Perm ls'):sameK ks ls = sameK ks ls':=by
 unfold sameK
 rw [p.length_eq]
 congr 1
 apply congrArg
 funext k
 rw [Bool.eq_iff_iff,List.any_eq_true,List.any_eq_true]
 exact ⟨fun ⟨x,hx,e⟩=>⟨x,p.mem_iff.mp hx,e⟩,fun ⟨x,hx,e⟩=>⟨x,p.mem_iff.mpr hx,e⟩⟩
end L2
namespace My
open PySem L2 PyProof.Rows
seal L2.PE L2.PT L2.PW L2.PS L2.PSs L2.PA L2.PI L2.PG L2.PGs L2.OpR L2.UnR L2.CallR L2.IxR L2.SlR L2.MtR L2.PIf L2.PO L2.MtM L2.PC
theorem KkOk.same {K:PySem.W.Frag} {H H':Hp} {a:Addr} {kk:Kk} (h:KkOk K H a kk) (s:Same H H'):KkOk K H' a kk:=by
 cases kk with
 | pl κ=>exact s.seqT h
 | key=>exact s.seqT h
 | onc κ=>obtain ⟨b,h1,h2⟩:=h;exact ⟨b,s.seqT h1,s.seqT h2⟩
 | lst κ=>obtain ⟨b,h1,h2⟩:=h;exact ⟨b,s.seqT h1,s.seqT h2⟩
 | som κ=>obtain ⟨b,h1,h2⟩:=h;exact ⟨b,s.seqT h1,s.seqT h2⟩
def nmK (T:Tb):List Key:=(T.cols.map (·.1)).map Sum.inr
def RowIs (K:PySem.W.Frag) (H:Hp) (sz:Int) (T:Tb) (x:V) (b:Bool):Prop:=
 (∃ n,Is K H x n/\n ≠ "dict"/\b = false) ∨
 ∃ (r:Addr) (kvs:List (Key × V)),x = .ref r/\H r = some (.dK kvs)/\kvs.length ≤ 1000/\((sameK (kvs.map (·.1)) (nmK T) = false/\b = false) ∨
  ∃ fz:Str->Bool,sameK (kvs.map (·.1)) (nmK T) = true/\(∀ z ∈ T.cols.map (·.1),∃ v d a kk,valV kvs (.inr z) = some v/\Val K H v d/\vOf T.cols z = .ref a/\KkOk K H a kk/\fz z = fitD kk sz v d)/\b = (T.cols.map (·.1)).all fz)
theorem RowIs.same {K:PySem.W.Frag} {H H':Hp} {sz:Int} {T:Tb} {x:V} {b:Bool} (h:RowIs K H sz T x b) (s:Same H H'):RowIs K H' sz T x b:=by
 rcases h with ⟨n,h1,h2⟩ | ⟨r,kvs,h1,h2,h3,h4⟩
 ·exact .inl ⟨n,h1.same s,h2⟩
 ·refine .inr ⟨r,kvs,h1,s _ _ h2,h3,?_⟩
  rcases h4 with h4 | ⟨fz,h5,h6,h7⟩
  ·exact .inl h4
  ·exact .inr ⟨fz,h5,fun z hz=>let ⟨v,d,a,kk,e1,e2,e3,e4,e5⟩:=h6 z hz;⟨v,d,a,kk,e1,e2.same s,e3,e4.same s,e5⟩,h7⟩
def TOk (T:Tb):Prop:=(T.cols.map (·.1)).Nodup/\T.cols.length ≤ 12
def spIsRow (K:PySem.W.Frag):Sp:=fun vs H Q _=>∃ (f:Addr) (sz:Int) (Ts:List Tb) (z:Str) (x:V) (b:Bool),vs = [.ref f,.str z,x]/\FormAt H f sz Ts/\(Ts.map (·.name)).Nodup/\Ts.length ≤ 8/\((z ∉ Ts.map (·.name)/\b = false)\/∃ T ∈ Ts,T.name = z/\TOk T/\RowIs K H sz T x b)/\∀ H',Same H H'->Q (.bl b) H'
section
variable {P:Program} {w:World} {K:PySem.W.Frag} {mg:Str->Option Value} {base:Heap}
theorem ok_isRow {f fT fC fI fF fP fW fU:Addr} {fd fdT fdC fdI fdF fdP fdW fdU:FuncData} (F:Fun K "is_row" "is_row" (top 29) f fd) (B:Bl mg) (DT:Df K mg "tables_of" (top 25) fT fdT) (DC:Df K mg "columns_of" (top 27) fC fdC) (DI:Df K mg "table_in" (top 28) fI fdI) (DW:Df K mg "is_whole" (top 9) fW fdW) (DP:Df K mg "fits_plain" (top 17) fP fdP) (DU:Df K mg "fits_tuple" (top 16) fU fdU) (DF:Df K mg "fits" (top 15) fF fdF) :
  FnOk P w K mg base CX0 5 f fd ["form","table","row"] (spIsRow K):=by
 have sc:FnScope ["form","table","row","columns"] ["form","table","row"] (defScope (top 29)):=⟨rfl,rfl,rfl,by decide +kernel,rfl,by decide +kernel,by decide +kernel⟩
 have GT:FnOk P w K mg base CX0 1 fT fdT ["form"] spTabs:=ok_tabs DT.fn
 have bT:=DT.fn.binds (ps:=["form"]) fun _ _ _ _ _ _ us hl=>by obtain ⟨v0,rfl⟩:=L2.ln1 hl;rfl
 have GC:FnOk P w K mg base CX0 2 fC fdC ["form","table"] spColsOf:=ok_colsOf DC.fn B DI
 have bC:=DC.fn.binds (ps:=["form","table"]) fun _ _ _ _ _ _ us hl=>by obtain ⟨v0,v1,rfl⟩:=L2.ln2 hl;rfl
 have GF:FnOk P w K mg base CX0 4 fF fdF ["kind","value","size"] (spFits K):=ok_fits DF.fn B DW DP DU
 have bF:=DF.fn.binds (ps:=["kind","value","size"]) fun _ _ _ _ _ _ us hl=>by obtain ⟨v0,v1,v2,rfl⟩:=L2.ln3 hl;rfl
 refine F.ok sc (fun vs H Q E h=>?_) (fun cdv A outer s H vs Q E hr h=>?_)
 ·obtain ⟨f,sz,Ts,z,x,b,rfl,_⟩:=h
  rfl
 ·obtain ⟨fo,sz,Ts,z,x,b,rfl,hf,nd,t8,hcas,q⟩:=h
  have hr1:Room 1 _:=hr.mono (by decide)
  have hr2:Room 2 _:=hr.mono (by decide)
  have hu:(A.deeper (envOfC "is_row" (defScope (top 29)) s.heap.objs.size f cdv)).units + 1 < cLine:=hu_of hr
  have hu0:(A.deeper (envOfC "is_row" (defScope (top 29)) s.heap.objs.size f cdv)).units < cLine:=by omega
  have ndA:(["column","kind","row","form"]:List Str).Nodup:=by decide +kernel
  refine ⟨_,pss_cons (ps_if (PW.pt (pw_or (pt_cmpR op_notIn_seq (pv 1) (pe_call GT hr1 (by rfl) DT.mg DT.fn.kp bT .nil pass0 (pa_cons (pv 0) pa_nil)) (by with_unfolding_all rfl)) (pw_or1 (pt_not (pt_val (pe_callB call_isi (by rfl) B.isi boot_isi (pa_cons (pv 2) (pa_cons (pe_bltn (v:=.ty "dict") (by rfl) B.dict boot_dict rfl) pa_nil)))))))) (pss_one (ps_ret pe_bl)) pss_nil)
   (pss_cons (ps_set (i:=3) sc.nd rfl (Or.inl rfl) (pe_call GC hr2 (by rfl) DC.mg DC.fn.kp bC .nil pass0 (pa_cons (pv 0) (pa_cons (pv 1) pa_nil))))
   (pss_cons (ps_if (pt_cmpR (op_neS hu0) (pe_callTy call_setD (by rfl) B.set boot_set (pa_cons (pv 2) pa_nil)) (pe_callTy call_setD (by rfl) B.set boot_set (pa_cons (pv 3) pa_nil)) (nomark _)) (pss_one (ps_ret pe_bl)) pss_nil)
   (pss_one (ps_frz (ps_ret (pe_callB (call_all rfl) (by rfl) B.all boot_all (pa_cons (pe_comp (osc:=defScope (top 29)) (N0:=["form","table","row","columns"]) (xs:=["column","kind"]) (fr:=[2,0]) ⟨rfl,by decide +kernel,by decide +kernel,by decide +kernel,(fun j hj=>by
       have e:j = 2\/j = 0:=by simpa using hj
       rcases e with rfl | rfl
       ·exact ⟨_,rfl,by decide +kernel⟩
       ·exact ⟨_,rfl,by decide +kernel⟩),by decide +kernel⟩ rfl rfl rfl (pi_items (pv 3))
     (fun s H fp=>pg_tupK (n:=2) (K:=K) rfl rfl (pgs_cons (pg_name (i:=0) ndA rfl (Or.inl rfl)) (pgs_cons (pg_name (i:=1) ndA rfl (Or.inl rfl)) pgs_nil))) (fun s H fp=>pif_nil)
     (fun s H fp=>pe_call GF hr (by rfl) DF.mg DF.fn.kp bF .nil pass0 (pa_cons (pv 1) (pa_cons (pe_dget hu (pv 2) (pv 0) (fun _ _=>rfl)) (pa_cons (pe_ix (r:=rIxT K) ix_tup (pv 3) pe_int (fun _ _=>rfl)) pa_nil))))) pa_nil))))))),?_⟩
  refine ⟨_,rfl,_,rfl,fo,sz,Ts,rfl,hf,t8,fun p H1 hp s1 p1=>?_⟩
  refine ⟨p,_,rfl,.inl (SqL.of p1),rfl,flat_strs _,_,rfl,?_⟩
  rcases hcas with ⟨hz,rfl⟩ | ⟨T,hT,rfl,⟨ndc,c12⟩,hrow⟩
  ·exact iteB (by show (!inV _ _) = true;rw [inV_str,decide_eq_false hz];rfl) (iteT (q H1 s1))
  have hTn:T.name ∈ Ts.map (·.name):=List.mem_map.mpr ⟨T,hT,rfl⟩
  refine iteC (by show (!inV _ _) = false;rw [inV_str,decide_eq_true hTn];rfl) ?_
  rcases hrow with ⟨n,hn,hd,rfl⟩ | ⟨r,kvs,rfl,hr0,hlen,hcase⟩
  ·have e1:(n == "dict") = false:=beq_eq_false_iff_ne.mpr hd
   refine ⟨_,rfl,_,_,_,_,rfl,(hn.same s1).1,kit_eq.trans (kit_dict _ hn.2),_,rfl,?_⟩
   rw [e1]
   exact iteT (q H1 s1)
  refine ⟨_,rfl,_,_,_,_,rfl,.dK (s1 _ _ hr0),kit_eq.trans (kit_dict _ (by decide)),_,rfl,iteF ?_⟩
  refine ⟨_,rfl,_,rfl,fo,sz,Ts,T,rfl,hf.same s1,nd,hT,ndc,c12,fun cd H2 zs hcd s2 hzs c2=>?_⟩
  have S2:=s1.trans s2
  have zl:zs.length = T.cols.length:=by rw [hzs.length_eq,List.length_map]
  refine ⟨_,rfl,r,kvs,rfl,.inl (S2 _ _ hr0),hlen,fun q1 hq1=>?_⟩
  generalize hX3:upd H2 q1 _ = H3
  have T3:Same H2 H3:=hX3 ▸ Same.upd hq1
  have e3:H3 q1 = some (.ext (setP P w q1 (kvs.map (·.1)))):=by rw [← hX3];exact upd_same
  refine ⟨_,rfl,cd,_,rfl,.inl (T3 _ _ c2),(by rw [List.length_map];omega),fun q2 hq2=>?_⟩
  have ekz:((zs.map fun z=>((Sum.inr z:Key),vOf T.cols z)).map (·.1)) = zs.map Sum.inr:=by rw [List.map_map];rfl
  rw [ekz]
  generalize hX4:upd H3 q2 _ = H4
  have T4:Same H3 H4:=hX4 ▸ Same.upd hq2
  have e4:H4 q2 = some (.ext (setP P w q2 (zs.map Sum.inr))):=by rw [← hX4];exact upd_same
  have S4:=S2.trans (T3.trans T4)
  refine ⟨q1,q2,_,_,rfl,rfl,T4 _ _ e3,e4,_,rfl,?_⟩
  have esk:sameK (kvs.map (·.1)) (zs.map Sum.inr) = sameK (kvs.map (·.1)) (nmK T):=sameK_perm (hzs.map Sum.inr)
  rw [esk]
  rcases hcase with ⟨hs,rfl⟩ | ⟨fz,hs,hfz,rfl⟩
  ·rw [hs]
   exact iteT (q H4 S4)
  rw [hs]
  refine iteF ?_
  have hcd0:H cd = none:=none_of s1 hcd
  have c4:=(T3.trans T4) _ _ c2
  refine ⟨cd,_,c4,fun o=>?_⟩
  have cf:(upd H4 cd (.frz o (.dK (zs.map fun z=>(.inr z,vOf T.cols z))))) cd = some (.frz o (.dK (zs.map fun z=>(.inr z,vOf T.cols z)))):=upd_same
  have SF:Same H (upd H4 cd (.frz o (.dK (zs.map fun z=>(.inr z,vOf T.cols z))))):=S4.put hcd0
  generalize upd H4 cd (.frz o (.dK (zs.map fun z=>(.inr z,vOf T.cols z)))) = HF at *
  obtain ⟨tt,es,f1,_⟩:=id hf
  refine ⟨_,rfl,cd,o,_,rfl,cf,fun D hD=>?_⟩
  refine compW_idx zs.length (fun i ys σ' Hc=>(∃ t0 t1,σ' = [t0,t1,some (.ref r),some (.ref fo)])/\Same HF Hc/\ys = (zs.take i).map fun c=>V.bl (fz c)) (by rw [sizeLine_eq];omega) ⟨⟨none,none,rfl⟩,Same.upd hD,rfl⟩ upd_same ?_ ?_
  ·rintro i σ' Hc ys hi ⟨⟨t0,t1,rfl⟩,sm,rfl⟩ hyl hD'
   refine ⟨⟨by rw [List.length_map];omega,sm _ _ cf⟩,?_⟩
   rintro x H' ⟨k,v,p,hk,rfl,hp',rfl⟩
   rw [List.getElem?_map,List.getElem?_eq_getElem hi] at hk
   cases hk
   obtain ⟨v,d,a,kk,hv,hval,ha,hkk,hfit⟩:=hfz zs[i] (hzs.mem_iff.mp (List.getElem_mem hi))
   rw [ha] at *
   have T5:=Same.upd (o:=.tup [kV (.inr zs[i]),.ref a]) hp'
   refine ⟨p,_,rfl,SqT.of upd_same,rfl,_,_,rfl,_,_,rfl,rfl,?_⟩
   generalize upd Hc p (.tup [kV (.inr zs[i]),.ref a]) = H5 at T5
   have S5:=SF.trans (sm.trans T5)
   refine ⟨_,rfl,_,rfl,_,rfl,r,_,rfl,.inl ⟨kvs,.inr zs[i],.inl (S5 _ _ hr0),rfl,hv.symm⟩,_,rfl,fo,_,0,_,rfl,rfl,SqT.of (S5 _ _ f1),rfl,a,v,sz,kk,d,rfl,hkk.same S5,hval.same S5,fun H6 s6=>?_⟩
   have T6:=T5.trans s6
   refine ⟨T6 _ _ hD',⟨_,_,rfl⟩,(sm.trans T6).put hD,?_⟩
   rw [List.take_succ,List.getElem?_eq_getElem hi,List.map_append,← hfit]
   rfl
  ·rintro σ' Hc ys ⟨_,sm,rfl⟩ hDn hyl
   refine ⟨⟨by rw [List.length_map];omega,sm _ _ cf⟩,?_⟩
   rw [List.take_length] at hDn
   refine ⟨D,zs.map fz,rfl,SqL.of (by rw [hDn,List.map_map];rfl),sm _ _ cf,?_⟩
   have eb:(zs.map fz).all id = (T.cols.map (·.1)).all fz:=by rw [List.all_map];exact hzs.all_eq
   rw [eb]
   exact q _ ((SF.trans sm).put hcd0)
end
end My
namespace My
open PySem L2 PyProof.Rows
seal L2.PE L2.PT L2.PW L2.PS L2.PSs L2.PA L2.PI L2.PG L2.PGs L2.OpR L2.UnR L2.CallR L2.IxR L2.SlR L2.MtR L2.PIf L2.PO L2.MtM L2.PC
def lone:List Str:=["head","twin"]
structure Ln (K:PySem.W.Frag) (mg:Str->Option Value) (sA:Addr):Prop where
 mS:mg "LONE_SORTS" = some (.ref sA)
 qS:∀ H,SqT K H sA (lone.map V.str)
def BadN (so:Str) (n:Nat):Prop:=(so ∈ lone/\n ≠ 1)\/(so = "some"/\n = 0)
def RowsIs (K:PySem.W.Frag) (H:Hp) (sz:Int) (T:Tb) (v:V) (b:Bool):Prop:=
 (∃ n,Is K H v n/\n ≠ "list"/\b = false) ∨
 ∃ (l:Addr) (xs:List V),v = .ref l/\H l = some (.lst xs)/\xs.length ≤ 1000/\((BadN T.sort xs.length/\b = false) ∨
  (¬ BadN T.sort xs.length/\∃ bs:List Bool,bs.length = xs.length/\(∀ (i:Nat) (x:V) (c:Bool),xs[i]? = some x->bs[i]? = some c->RowIs K H sz T x c)/\b = bs.all id))
theorem RowsIs.same {K:PySem.W.Frag} {H H':Hp} {sz:Int} {T:Tb} {x:V} {b:Bool} (h:RowsIs K H sz T x b) (s:Same H H'):RowsIs K H' sz T x b:=by
 rcases h with ⟨n,h1,h2⟩ | ⟨l,xs,h1,h2,h3,h4⟩
 ·exact .inl ⟨n,h1.same s,h2⟩
 ·refine .inr ⟨l,xs,h1,s _ _ h2,h3,h4.imp id fun ⟨a,bs,b1,b2,b3⟩=>⟨a,bs,b1,fun i x c e1 e2=>(b2 i x c e1 e2).same s,b3⟩⟩
def PieceIs (K:PySem.W.Frag) (H:Hp) (sz:Int) (Ts:List Tb) (x:V) (b:Bool):Prop:=
 (∃ n,Is K H x n/\n ≠ "dict"/\b = false) ∨
 ∃ (r:Addr) (kvs:List (Key × V)),x = .ref r/\H r = some (.dK kvs)/\kvs.length ≤ 1000/\((sameK (kvs.map (·.1)) ((Ts.map (·.name)).map Sum.inr) = false/\b = false) ∨
  ∃ fz:Str->Bool,sameK (kvs.map (·.1)) ((Ts.map (·.name)).map Sum.inr) = true/\(∀ T ∈ Ts,∃ v,valV kvs (.inr T.name) = some v/\RowsIs K H sz T v (fz T.name))/\b = (Ts.map (·.name)).all fz)
def spAreR (K:PySem.W.Frag):Sp:=fun vs H Q _=>∃ (f:Addr) (sz:Int) (Ts:List Tb) (T:Tb) (x:V) (b:Bool),vs = [.ref f,.str T.name,x]/\FormAt H f sz Ts/\(Ts.map (·.name)).Nodup/\Ts.length ≤ 8/\T ∈ Ts/\TOk T/\RowsIs K H sz T x b/\∀ H',Same H H'->Q (.bl b) H'
def spIsP (K:PySem.W.Frag):Sp:=fun vs H Q _=>∃ (f:Addr) (sz:Int) (Ts:List Tb) (x:V) (b:Bool),vs = [.ref f,x]/\FormAt H f sz Ts/\(Ts.map (·.name)).Nodup/\Ts.length ≤ 8/\(∀ T ∈ Ts,TOk T)/\PieceIs K H sz Ts x b/\∀ H',Same H H'->Q (.bl b) H'
section
variable {P:Program} {w:World} {K:PySem.W.Frag} {mg:Str->Option Value} {base:Heap}
theorem ok_areR {f fR fS fI sA:Addr} {fd fdR fdS fdI:FuncData} (F:Fun K "are_rows" "are_rows" (top 31) f fd) (B:Bl mg) (LN:Ln K mg sA) (DS:Df K mg "sort_of" (top 26) fS fdS) (DI:Df K mg "table_in" (top 28) fI fdI) (DR:Df K mg "is_row" (top 29) fR fdR) (GR:FnOk P w K mg base CX0 5 fR fdR ["form","table","row"] (spIsRow K)) :
  FnOk P w K mg base CX0 6 f fd ["form","table","rows"] (spAreR K):=by
 have sc:FnScope ["form","table","rows","sort"] ["form","table","rows"] (defScope (top 31)):=⟨rfl,rfl,rfl,by decide +kernel,rfl,by decide +kernel,by decide +kernel⟩
 have GS:FnOk P w K mg base CX0 2 fS fdS ["form","table"] spSortOf:=ok_sortOf DS.fn DI
 have bS:=DS.fn.binds (ps:=["form","table"]) fun _ _ _ _ _ _ us hl=>by obtain ⟨v0,v1,rfl⟩:=L2.ln2 hl;rfl
 have bR:=DR.fn.binds (ps:=["form","table","row"]) fun _ _ _ _ _ _ us hl=>by obtain ⟨v0,v1,v2,rfl⟩:=L2.ln3 hl;rfl
 refine F.ok sc (fun vs H Q E h=>?_) (fun cdv A outer s H vs Q E hr h=>?_)
 ·obtain ⟨f,sz,Ts,T,x,b,rfl,_⟩:=h
  rfl
 ·obtain ⟨fo,sz,Ts,T,x,b,rfl,hf,nd,t8,hT,tok,hrows,q⟩:=h
  have hr2:Room 2 _:=hr.mono (by decide)
  have ndA:(["row","form","table"]:List Str).Nodup:=by decide +kernel
  refine ⟨_,pss_cons (ps_if (pt_not (pt_val (pe_callB call_isi (by rfl) B.isi boot_isi (pa_cons (pv 2) (pa_cons (pe_bltn (v:=.ty "list") (by rfl) B.list boot_list rfl) pa_nil))))) (pss_one (ps_ret pe_bl)) pss_nil)
   (pss_cons (ps_set (i:=3) sc.nd rfl (Or.inl rfl) (pe_call GS hr2 (by rfl) DS.mg DS.fn.kp bS .nil pass0 (pa_cons (pv 0) (pa_cons (pv 1) pa_nil))))
   (pss_cons (ps_cut (ps_if (PW.pt (pw_and (pt_cmpR op_in_seq (pv 3) (pe_glob (v:=.ref sA) (by rfl) LN.mS rfl) (by with_unfolding_all rfl)) (pw_and1 (pt_cmpR op_ne (pe_callB call_len_seq (by rfl) B.len PySem.boot_len (pa_cons (pv 2) pa_nil)) pe_int (nomark _))))) (pss_one (ps_ret pe_bl)) pss_nil))
   (pss_cons (ps_cut (ps_if (PW.pt (pw_and (pt_cmpR op_eq (pv 3) pe_str (nomark _)) (pw_and1 (pt_cmpR op_eq (pe_callB call_len_seq (by rfl) B.len PySem.boot_len (pa_cons (pv 2) pa_nil)) pe_int (nomark _))))) (pss_one (ps_ret pe_bl)) pss_nil))
   (pss_one (ps_ret (pe_callB (call_all rfl) (by rfl) B.all boot_all (pa_cons (pe_comp (osc:=defScope (top 31)) (N0:=["form","table","rows","sort"]) (xs:=["row"]) (fr:=[0,1]) ⟨rfl,by decide +kernel,by decide +kernel,by decide +kernel,(fun j hj=>by
       have e:j = 0\/j = 1:=by simpa using hj
       rcases e with rfl | rfl
       ·exact ⟨_,rfl,by decide +kernel⟩
       ·exact ⟨_,rfl,by decide +kernel⟩),by decide +kernel⟩ rfl rfl rfl (pi_list (pv 2))
     (fun s H fp=>pg_name (i:=0) ndA rfl (Or.inl rfl)) (fun s H fp=>pif_nil)
     (fun s H fp=>pe_call GR hr (by rfl) DR.mg DR.fn.kp bR .nil pass0 (pa_cons (pv 1) (pa_cons (pv 2) (pa_cons (pv 0) pa_nil))))) pa_nil))))))),?_⟩
  rcases hrows with ⟨n,hn,hd,rfl⟩ | ⟨l,xs,rfl,hl,hlen,hcase⟩
  ·have e1:(n == "list") = false:=beq_eq_false_iff_ne.mpr hd
   refine ⟨_,rfl,_,_,_,_,rfl,hn.1,kit_eq.trans (kit_list _ hn.2),_,rfl,?_⟩
   rw [e1]
   exact iteT (q H (Same.refl H))
  refine ⟨_,rfl,_,_,_,_,rfl,.lst hl,kit_eq.trans (kit_list _ (by decide)),_,rfl,iteF ?_⟩
  refine ⟨_,rfl,_,rfl,fo,sz,Ts,T,rfl,hf,nd,hT,?_⟩
  have e1:decide (V.int (xs.length:Int) = V.int 1) = decide (xs.length = 1):=lenEq (k:=1)
  have e0:decide (V.int (xs.length:Int) = V.int 0) = decide (xs.length = 0):=lenEq (k:=0)
  refine ⟨fun σ' H'=>σ' = [some (.ref fo),some (.str T.name),some (.ref l),some (.str T.sort)]/\H' = H/\¬ (T.sort ∈ lone/\xs.length ≠ 1),?_,?_⟩
  ·refine ⟨_,rfl,sA,_,rfl,.inr (LN.qS _),rfl,(by decide),_,rfl,?_⟩
   show if (inV (.str T.sort) _) = true then _ else _
   rw [inV_str]
   by_cases hl1:T.sort ∈ lone
   ·rw [decide_eq_true hl1]
    refine iteT ⟨_,rfl,_,_,rfl,.inl (SqL.of hl),rfl,_,rfl,?_⟩
    by_cases hx:xs.length = 1
    ·refine iteC ?_ ⟨rfl,rfl,fun h=>h.2 hx⟩
     show (!decide (V.int (xs.length:Int) = V.int 1)) = false
     rw [e1,decide_eq_true hx]
     rfl
    ·have hb:b = false:=by
      rcases hcase with ⟨_,h⟩ | ⟨h,_⟩
      ·exact h
      ·exact absurd (.inl ⟨hl1,hx⟩) h
     subst hb
     refine iteB ?_ (q H (Same.refl H))
     show (!decide (V.int (xs.length:Int) = V.int 1)) = true
     rw [e1,decide_eq_false hx]
     rfl
   ·rw [decide_eq_false hl1]
    exact iteF (iteF ⟨rfl,rfl,fun h=>hl1 h.1⟩)
  rintro σ' H' ⟨rfl,rfl,hA⟩
  refine ⟨fun σ' H''=>σ' = [some (.ref fo),some (.str T.name),some (.ref l),some (.str T.sort)]/\H'' = H'/\¬ (T.sort = "some"/\xs.length = 0),?_,?_⟩
  ·by_cases hs:T.sort = "some"
   ·refine ⟨_,rfl,rfl,_,rfl,iteB (by rw [hs];decide +kernel) ⟨_,rfl,_,_,rfl,.inl (SqL.of hl),rfl,_,rfl,?_⟩⟩
    by_cases hx:xs.length = 0
    ·have hb:b = false:=by
      rcases hcase with ⟨_,h⟩ | ⟨h,_⟩
      ·exact h
      ·exact absurd (.inr ⟨hs,hx⟩) h
     subst hb
     exact iteB (e0.trans (decide_eq_true hx)) (q _ (Same.refl _))
    ·exact iteC (e0.trans (decide_eq_false hx)) ⟨rfl,rfl,fun h=>hx h.2⟩
   ·exact ⟨_,rfl,rfl,_,rfl,iteC (decide_eq_false fun e=>hs (by injection e)) (iteF ⟨rfl,rfl,fun h=>hs h.1⟩)⟩
  rintro σ' H ⟨rfl,rfl,hB⟩
  obtain ⟨bs,hbl,hbs,rfl⟩:∃ bs:List Bool,bs.length = xs.length/\(∀ (i:Nat) (x:V) (c:Bool),xs[i]? = some x->bs[i]? = some c->RowIs K H sz T x c)/\b = bs.all id:=by
   rcases hcase with ⟨h,_⟩ | ⟨_,h⟩
   ·rcases h with h | h
    ·exact absurd h hA
    ·exact absurd h hB
   ·exact h
  refine ⟨_,rfl,l,rfl,⟨_,SqL.of hl⟩,fun D hD=>?_⟩
  refine compW_idx xs.length (fun i ys σ' Hc=>(∃ t0,σ' = [t0,some (.ref fo),some (.str T.name)])/\Same H Hc/\ys = (bs.take i).map V.bl) (by rw [sizeLine_eq];omega) ⟨⟨none,rfl⟩,Same.upd hD,rfl⟩ upd_same ?_ ?_
  ·rintro i σ' Hc ys hi ⟨⟨t0,rfl⟩,sm,rfl⟩ hyl hD'
   have hib:i < bs.length:=by omega
   refine ⟨⟨_,xs[i],SqL.of (sm _ _ hl),List.getElem?_eq_getElem hi⟩,?_⟩
   rintro x H' ⟨rfl,hx'⟩
   have ex:=hx' _ (SqL.of (sm _ _ hl))
   refine ⟨_,rfl,_,rfl,_,rfl,fo,sz,Ts,T.name,x,bs[i],rfl,hf.same sm,nd,t8,.inr ⟨T,hT,rfl,tok,(hbs i x _ ex (List.getElem?_eq_getElem hib)).same sm⟩,fun H6 s6=>?_⟩
   refine ⟨s6 _ _ hD',⟨_,rfl⟩,(sm.trans s6).put hD,?_⟩
   rw [List.take_succ,List.getElem?_eq_getElem hib,List.map_append]
   rfl
  ·rintro σ' Hc ys ⟨_,sm,rfl⟩ hDn hyl
   refine ⟨⟨_,SqL.of (sm _ _ hl),Nat.le_refl _⟩,?_⟩
   rw [← hbl,List.take_length] at hDn
   exact ⟨D,bs,rfl,SqL.of hDn,q _ sm⟩
theorem ok_isP {f fT fA:Addr} {fd fdT fdA:FuncData} (F:Fun K "is_piece" "is_piece" (top 30) f fd) (B:Bl mg) (DT:Df K mg "tables_of" (top 25) fT fdT) (DA:Df K mg "are_rows" (top 31) fA fdA) (GA:FnOk P w K mg base CX0 6 fA fdA ["form","table","rows"] (spAreR K)) :
  FnOk P w K mg base CX0 7 f fd ["form","piece"] (spIsP K):=by
 have sc:FnScope ["form","piece"] ["form","piece"] (defScope (top 30)):=⟨rfl,rfl,rfl,by decide +kernel,rfl,by decide +kernel,by decide +kernel⟩
 have GT:FnOk P w K mg base CX0 1 fT fdT ["form"] spTabs:=ok_tabs DT.fn
 have bT:=DT.fn.binds (ps:=["form"]) fun _ _ _ _ _ _ us hl=>by obtain ⟨v0,rfl⟩:=L2.ln1 hl;rfl
 have bA:=DA.fn.binds (ps:=["form","table","rows"]) fun _ _ _ _ _ _ us hl=>by obtain ⟨v0,v1,v2,rfl⟩:=L2.ln3 hl;rfl
 refine F.ok sc (fun vs H Q E h=>?_) (fun cdv A outer s H vs Q E hr h=>?_)
 ·obtain ⟨f,sz,Ts,x,b,rfl,_⟩:=h
  rfl
 ·obtain ⟨fo,sz,Ts,x,b,rfl,hf,nd,t8,toks,hp,q⟩:=h
  have hr1:Room 1 _:=hr.mono (by decide)
  have hu:(A.deeper (envOfC "is_piece" (defScope (top 30)) s.heap.objs.size f cdv)).units + 1 < cLine:=hu_of hr
  have hu0:(A.deeper (envOfC "is_piece" (defScope (top 30)) s.heap.objs.size f cdv)).units < cLine:=by omega
  have ndA:(["table","form","piece"]:List Str).Nodup:=by decide +kernel
  refine ⟨_,pss_cons (ps_if (PW.pt (pw_or (pt_not (pt_val (pe_callB call_isi (by rfl) B.isi boot_isi (pa_cons (pv 1) (pa_cons (pe_bltn (v:=.ty "dict") (by rfl) B.dict boot_dict rfl) pa_nil))))) (pw_or1 (pt_cmpR (op_neS hu0) (pe_callTy call_setD (by rfl) B.set boot_set (pa_cons (pv 1) pa_nil)) (pe_callTy (call_setL rfl) (by rfl) B.set boot_set (pa_cons (pe_call GT hr1 (by rfl) DT.mg DT.fn.kp bT .nil pass0 (pa_cons (pv 0) pa_nil)) pa_nil)) (nomark _))))) (pss_one (ps_ret pe_bl)) pss_nil)
   (pss_one (ps_ret (pe_callB (call_all rfl) (by rfl) B.all boot_all (pa_cons (pe_comp (osc:=defScope (top 30)) (N0:=["form","piece"]) (xs:=["table"]) (fr:=[0,1]) ⟨rfl,by decide +kernel,by decide +kernel,by decide +kernel,(fun j hj=>by
       have e:j = 0\/j = 1:=by simpa using hj
       rcases e with rfl | rfl
       ·exact ⟨_,rfl,by decide +kernel⟩
       ·exact ⟨_,rfl,by decide +kernel⟩),by decide +kernel⟩ rfl rfl rfl (pi_list (pe_call GT hr1 (by rfl) DT.mg DT.fn.kp bT .nil pass0 (pa_cons (pv 0) pa_nil)))
     (fun s H fp=>pg_name (i:=0) ndA rfl (Or.inl rfl)) (fun s H fp=>pif_nil)
     (fun s H fp=>pe_call GA hr (by rfl) DA.mg DA.fn.kp bA .nil pass0 (pa_cons (pv 1) (pa_cons (pv 0) (pa_cons (pe_dget hu (pv 2) (pv 0) (fun _ _=>rfl)) pa_nil))))) pa_nil)))),?_⟩
  rcases hp with ⟨n,hn,hd,rfl⟩ | ⟨r,kvs,rfl,hr0,hlen,hcase⟩
  ·have e1:(n == "dict") = false:=beq_eq_false_iff_ne.mpr hd
   refine ⟨_,rfl,_,_,_,_,rfl,hn.1,kit_eq.trans (kit_dict _ hn.2),_,rfl,?_⟩
   rw [e1]
   exact iteT (iteT (q H (Same.refl H)))
  refine ⟨_,rfl,_,_,_,_,rfl,.dK hr0,kit_eq.trans (kit_dict _ (by decide)),_,rfl,iteF ?_⟩
  refine ⟨_,rfl,r,kvs,rfl,.inl hr0,hlen,fun q1 hq1=>?_⟩
  generalize hX3:upd H q1 _ = H3
  have T3:Same H H3:=hX3 ▸ Same.upd hq1
  have e3:H3 q1 = some (.ext (setP P w q1 (kvs.map (·.1)))):=by rw [← hX3];exact upd_same
  refine ⟨_,rfl,fo,sz,Ts,rfl,hf.same T3,t8,fun p H1 hp s1 p1=>⟨p,Ts.map (·.name),rfl,SqL.of p1,nd,(by rw [List.length_map];omega),fun q2 hq2=>?_⟩⟩
  generalize hX4:upd H1 q2 _ = H4
  have T4:Same H1 H4:=hX4 ▸ Same.upd hq2
  have e4:H4 q2 = some (.ext (setP P w q2 ((Ts.map (·.name)).map Sum.inr))):=by rw [← hX4];exact upd_same
  have S4:=T3.trans (s1.trans T4)
  refine ⟨q1,q2,_,_,rfl,rfl,(s1.trans T4) _ _ e3,e4,_,rfl,?_⟩
  rcases hcase with ⟨hs,rfl⟩ | ⟨fz,hs,hfz,rfl⟩
  ·rw [hs]
   exact iteT (q H4 S4)
  rw [hs]
  refine iteF ?_
  refine ⟨_,rfl,fo,sz,Ts,rfl,hf.same S4,t8,fun p' H5 hp' s5 p5=>⟨p',rfl,⟨_,SqL.of p5⟩,fun D hD=>?_⟩⟩
  have S5:=S4.trans s5
  have tl:((Ts.map (·.name)).map V.str).length = Ts.length:=by rw [List.length_map,List.length_map]
  refine compW_idx Ts.length (fun i ys σ' Hc=>(∃ t0,σ' = [t0,some (.ref fo),some (.ref r)])/\Same H5 Hc/\ys = (Ts.take i).map fun T=>V.bl (fz T.name)) (by rw [sizeLine_eq];omega) ⟨⟨none,rfl⟩,Same.upd hD,rfl⟩ upd_same ?_ ?_
  ·rintro i σ' Hc ys hi ⟨⟨t0,rfl⟩,sm,rfl⟩ hyl hD'
   have ei:((Ts.map (·.name)).map V.str)[i]? = some (.str Ts[i].name):=by rw [List.getElem?_map,List.getElem?_map,List.getElem?_eq_getElem hi];rfl
   refine ⟨⟨_,_,SqL.of (sm _ _ p5),ei⟩,?_⟩
   rintro x H' ⟨rfl,hx'⟩
   have ex:=hx' _ (SqL.of (sm _ _ p5))
   rw [ei] at ex
   cases ex
   have hT:Ts[i] ∈ Ts:=List.getElem_mem hi
   obtain ⟨v,hv,hR⟩:=hfz _ hT
   have S6:=S5.trans sm
   refine ⟨_,rfl,_,rfl,_,rfl,_,rfl,r,v,rfl,.inl ⟨kvs,.inr Ts[i].name,.inl (S6 _ _ hr0),rfl,hv.symm⟩,fo,sz,Ts,Ts[i],v,fz Ts[i].name,rfl,hf.same S6,nd,t8,hT,toks _ hT,hR.same S6,fun H6 s6=>?_⟩
   refine ⟨s6 _ _ hD',⟨_,rfl⟩,(sm.trans s6).put hD,?_⟩
   rw [List.take_succ,List.getElem?_eq_getElem hi,List.map_append]
   rfl
  ·rintro σ' Hc ys ⟨_,sm,rfl⟩ hDn hyl
   refine ⟨⟨_,SqL.of (sm _ _ p5),by rw [tl];exact Nat.le_refl _⟩,?_⟩
   rw [List.take_length] at hDn
   refine ⟨D,Ts.map fun T=>fz T.name,rfl,SqL.of (by rw [hDn,List.map_map];rfl),?_⟩
   have eb:(Ts.map fun T=>fz T.name).all id = (Ts.map (·.name)).all fz:=by rw [List.all_map,List.all_map];rfl
   rw [eb]
   exact q _ (S5.trans sm)
end
end My
namespace My
open PySem L2 PyProof.Rows
seal L2.PE L2.PT L2.PW L2.PS L2.PSs L2.PA L2.PI L2.PG L2.PGs L2.OpR L2.UnR L2.CallR L2.IxR L2.SlR L2.MtR L2.PIf L2.PO L2.MtM L2.PC
def PkG:Pk->Prop
 | .below m=>1 ≤ m
 | .without c=>(⟨#[c]⟩:Str) ∈ sgsS
 | _=>True
def KkG:Kk->Prop
 | .pl κ=>PkG κ
 | .key=>True
 | .onc κ=>PkG κ
 | .lst κ=>PkG κ
 | .som κ=>PkG κ
theorem strIs_eq {d:Dt} {z:Str} (h:strIs d z = true):d = .str z:=by
 cases d with
 | str y=>exact congrArg Dt.str (by simpa [strIs] using h)
 | _=>cases h
theorem rep_t1 {H:Hp} {s:Dt} {v:V} (h:Rep H (.tup [s]) v):∃ a x,v = .ref a/\H a = some (.tup [x])/\Rep H s x:=by
 unfold Rep at h
 obtain ⟨a,xs,rfl,h1,h2⟩:=h
 unfold Reps at h2
 obtain ⟨x,ys,rfl,h3,h4⟩:=h2
 unfold Reps at h4
 subst h4
 exact ⟨a,x,rfl,h1,h3⟩
theorem rep_t2 {H:Hp} {s b:Dt} {v:V} (h:Rep H (.tup [s,b]) v):∃ a x y,v = .ref a/\H a = some (.tup [x,y])/\Rep H s x/\Rep H b y:=by
 unfold Rep at h
 obtain ⟨a,xs,rfl,h1,h2⟩:=h
 unfold Reps at h2
 obtain ⟨x,ys,rfl,h3,h4⟩:=h2
 unfold Reps at h4
 obtain ⟨y,zs,rfl,h5,h6⟩:=h4
 unfold Reps at h6
 subst h6
 exact ⟨a,x,y,rfl,h1,h3,h5⟩
theorem rep_sv {H:Hp} {z:Str} {v:V} (h:Rep H (.str z) v):v = .str z:=by unfold Rep at h;exact h.1
theorem rep_iv {H:Hp} {i:Int} {v:V} (h:Rep H (.int i) v):v = .int i:=by unfold Rep at h;exact h
theorem pl_of {H:Hp} {d:Dt} {v:V} (hp:plainD d = true) (hd:drP d = true) (h:Rep H d v):∃ a κ,v = .ref a/\H a = some (.tup (Pk.vs κ))/\PkG κ:=by
 obtain ⟨ds,rfl⟩:=plain_tup hp
 match ds,hp,hd,h with
 | [],hp,_,_=>cases hp
 | [s],hp,_,h=>
  obtain ⟨a,x,rfl,h1,h2⟩:=rep_t1 h
  have hp':w2.any (strIs s) = true:=hp
  obtain ⟨z,hz,e⟩:=List.any_eq_true.mp hp'
  have e:=strIs_eq e
  subst e
  have e2:=rep_sv h2
  subst e2
  have hz':z = "whole"\/z = "word":=by simpa [w2] using hz
  rcases hz' with rfl | rfl
  ·exact ⟨a,.whole,rfl,h1,trivial⟩
  ·exact ⟨a,.word,rfl,h1,trivial⟩
 | [s,b],hp,hd,h=>
  obtain ⟨a,x,y,rfl,h1,h2,h3⟩:=rep_t2 h
  have hp':pairD s b = true:=hp
  unfold pairD at hp'
  split at hp'
  ·rename_i e
   have e:=strIs_eq e
   subst e
   have e2:=rep_sv h2
   subst e2
   cases b with
   | int m=>
    have e3:=rep_iv h3
    subst e3
    exact ⟨a,.below m,rfl,h1,(of_decide_eq_true hp':1 ≤ m)⟩
   | _=>cases hp'
  ·split at hp'
   ·rename_i e
    have e:=strIs_eq e
    subst e
    have e2:=rep_sv h2
    subst e2
    cases b with
    | int m=>
     have e3:=rep_iv h3
     subst e3
     exact ⟨a,.upto m,rfl,h1,trivial⟩
    | _=>cases hp'
   ·rw [Bool.and_eq_true] at hp'
    have e:=strIs_eq hp'.1
    subst e
    have e2:=rep_sv h2
    subst e2
    cases b with
    | str y=>
     have e3:=rep_sv h3
     subst e3
     have hd':y ∈ sgsS:=of_decide_eq_true hd
     have hc:∃ c,y = ⟨#[c]⟩:=by
      simp only [sgsS,List.mem_cons,List.not_mem_nil,or_false] at hd'
      rcases hd' with rfl | rfl | rfl | rfl | rfl | rfl | rfl | rfl
      ·exact ⟨32,by decide +kernel⟩
      ·exact ⟨45,by decide +kernel⟩
      ·exact ⟨44,by decide +kernel⟩
      ·exact ⟨58,by decide +kernel⟩
      ·exact ⟨59,by decide +kernel⟩
      ·exact ⟨46,by decide +kernel⟩
      ·exact ⟨33,by decide +kernel⟩
      ·exact ⟨35,by decide +kernel⟩
     obtain ⟨c,rfl⟩:=hc
     exact ⟨a,.without c,rfl,h1,hd'⟩
    | _=>cases hp'.2
 | _ :: _ :: _ :: _,hp,_,_=>cases hp
def txS:Str:="abcXYZ019_/*+=?~"
def txl:List Nat:=txS.cps.toList
theorem tx_len:txl.length = 16:=by decide +kernel
theorem tx_sg:∀ y ∈ sgsS,∀ c ∈ y.cps.toList,c ∉ txl:=by decide +kernel
def spText:Sp:=fun vs H Q _=>∃ n:Int,vs = [.int n]/\∀ z:Str,z.length ≤ 5->(∀ c ∈ z.cps.toList,c ∈ txl)->Q (.str z) H
def spPv (K:PySem.W.Frag):Sp:=fun vs H Q _=>∃ (a:Addr) (κ:Pk) (n:Int),vs = [.ref a,.int n]/\SqT K H a κ.vs/\PkG κ/\∀ v H',Same H H'->flt v = true->(∀ z,v = .str z->z.length ≤ 1000)->fitP κ v = true->Q v H'
section
variable {P:Program} {w:World} {K:PySem.W.Frag} {mg:Str->Option Value} {base:Heap}
theorem ok_text {f:Addr} {fd:FuncData} (F:Fun K "_law_text" "_law_text" (top 43) f fd) (B:Bl mg):FnOk P w K mg base CX0 1 f fd ["_law_number"] spText:=by
 have sc:FnScope ["_law_number","_law_some","_law_text_here","_law_k","_law_stride"] ["_law_number"] (defScope (top 43)):=⟨rfl,rfl,rfl,by decide +kernel,rfl,by decide +kernel,by decide +kernel⟩
 refine F.ok sc (fun vs H Q E h=>?_) (fun cdv A outer s H vs Q E hr h=>?_)
 ·obtain ⟨n,rfl,_⟩:=h
  rfl
 ·obtain ⟨n,rfl,q⟩:=h
  refine ⟨_,pss_cons (ps_set (i:=1) sc.nd rfl (Or.inl rfl) pe_str) (pss_cons (ps_set (i:=2) sc.nd rfl (Or.inl rfl) pe_str)
   (pss_cons (ps_for PassesOwn.never rfl (pi_range1 rfl B.range (pa_cons (pe_op op_mod (pv 0) pe_int) pa_nil)) (pg_name (i:=3) sc.nd rfl (Or.inl rfl))
    (pss_cons (ps_set (i:=4) sc.nd rfl (Or.inl rfl) (pe_op op_add pe_int (pe_op op_mod (pe_op op_fdiv (pv 0) pe_int) pe_int)))
    (pss_one (ps_set (i:=2) sc.nd rfl (Or.inl rfl) (pe_op op_add_str (pv 2) (pe_ix ix_str (pv 1) (pe_op op_mod (pe_op op_add (pe_op op_fdiv (pv 0) pe_int) (pe_op op_mul (pe_op op_mul (pv 3) (pv 3)) (pv 4))) pe_int) (fun _ _=>rfl)))))))
   (pss_one (ps_ret (pv 2))))),?_⟩
  have a0:=Int.emod_nonneg n (show (6:Int) ≠ 0 by decide)
  have a6:=Int.emod_lt_of_pos n (show (0:Int) < 6 by decide)
  have txz:txS.length ≤ sizeLine:=by decide +kernel
  refine ⟨_,rfl,_,_,rfl,rfl,(pos rfl),_,rfl,(by omega),(by omega),for_range (fun i σ H'=>H' = H/\∃ (z:Str) (u3 u4:Option V),σ = [some (.int n),some (.str txS),some (.str z),u3,u4]/\z.length = i/\∀ c ∈ z.cps.toList,c ∈ txl) ⟨rfl,"",_,_,rfl,by decide,fun c h=>nomatch h⟩ ?_ ?_⟩
  ·rintro i σ H' hi ⟨rfl,z,u3,u4,rfl,hz,hc⟩
   have hi6:i < 6:=by omega
   refine ⟨_,rfl,_,_,rfl,rfl,⟨by decide,by decide⟩,_,_,rfl,rfl,(pos rfl),_,_,rfl,rfl,?_⟩
   have s0:=Int.emod_nonneg (n / 96) (show (5:Int) ≠ 0 by decide)
   have s5:=Int.emod_lt_of_pos (n / 96) (show (0:Int) < 5 by decide)
   dsimp only
   generalize n / 96 % 5 = sd at *
   obtain ⟨ch,e1,e2⟩:=atI_mem (l:=txl) (i:=(n / 6 + (0 + (i:Int)) * (0 + (i:Int)) * (1 + sd)) % 16) (Int.emod_nonneg _ (by decide)) (by rw [tx_len];exact Int.emod_lt_of_pos _ (by decide))
   refine ⟨_,rfl,_,rfl,_,rfl,_,_,rfl,rfl,⟨by decide,by decide⟩,_,rfl,_,rfl,_,_,rfl,rfl,.inl ⟨by omega,by omega⟩,_,rfl,_,_,rfl,rfl,.inr ⟨by omega,by omega⟩,_,_,rfl,rfl,_,_,rfl,rfl,(pos rfl),_,_,ch,rfl,rfl,txz,e1,_,_,rfl,rfl,(by rw [sizeLine_eq];show z.length + 1 ≤ _;omega),rfl,_,_,_,rfl,?_,fun c hcc=>?_⟩
   ·rw [Str.length_append,hz]
    rfl
   ·rw [Str.cps_append,Array.toList_append] at hcc
    rcases List.mem_append.mp hcc with h | h
    ·exact hc c h
    ·rw [List.mem_singleton.mp h]
     exact e2
  ·rintro σ H' ⟨rfl,z,u3,u4,rfl,hz,hc⟩
   exact ⟨_,rfl,q z (by omega) hc⟩
theorem ok_pv {f fT:Addr} {fd fdT:FuncData} (F:Fun K "_law_plain_value" "_law_plain_value" (top 44) f fd) (B:Bl mg) (DT:Df K mg "_law_text" (top 43) fT fdT):FnOk P w K mg base CX0 2 f fd ["_law_kind_here","_law_number"] (spPv K):=by
 have sc:FnScope ["_law_kind_here","_law_number"] ["_law_kind_here","_law_number"] (defScope (top 44)):=⟨rfl,rfl,rfl,by decide +kernel,rfl,by decide +kernel,by decide +kernel⟩
 have GT:FnOk P w K mg base CX0 1 fT fdT ["_law_number"] spText:=ok_text DT.fn B
 have bT:=DT.fn.binds (ps:=["_law_number"]) fun _ _ _ _ _ _ us hl=>by obtain ⟨v0,rfl⟩:=L2.ln1 hl;rfl
 refine F.ok sc (fun vs H Q E h=>?_) (fun cdv A outer s H vs Q E hr h=>?_)
 ·obtain ⟨a,κ,n,rfl,_⟩:=h
  rfl
 ·obtain ⟨a,κ,n,rfl,hk,hg,q⟩:=h
  refine ⟨_,pss_cons (ps_if (pt_cmpR op_eq (pe_ix ix_tup (pv 0) pe_int (fun _ _=>rfl)) pe_str (nomark _)) (pss_one (ps_ret (pe_ix ix_list (pe_lst (pa_cons pe_int (pa_cons (pe_op op_sub (pe_ix ix_tup (pv 0) pe_int (fun _ _=>rfl)) pe_int) (pa_cons (pe_op op_mod (pe_op op_fdiv (pv 1) pe_int) (pe_ix ix_tup (pv 0) pe_int (fun _ _=>rfl))) pa_nil)))) (pe_op op_mod (pv 1) pe_int) (fun _ _=>rfl)))) pss_nil)
   (pss_cons (ps_if (pt_cmpR op_eq (pe_ix ix_tup (pv 0) pe_int (fun _ _=>rfl)) pe_str (nomark _)) (pss_one (ps_ret (pe_op op_sub (pe_ix ix_tup (pv 0) pe_int (fun _ _=>rfl)) (pe_op op_mod (pv 1) pe_int)))) pss_nil)
   (pss_cons (ps_if (pt_cmpR op_eq (pe_ix ix_tup (pv 0) pe_int (fun _ _=>rfl)) pe_str (nomark _)) (pss_one (ps_ret (pe_op op_sub (pe_op op_mod (pv 1) pe_int) pe_int))) pss_nil)
   (pss_one (ps_ret (pe_call GT hr (by rfl) DT.mg DT.fn.kp bT .nil pass0 (pa_cons (pv 1) pa_nil)))))),?_⟩
  refine ⟨_,rfl,a,_,0,.str κ.name,rfl,rfl,hk,at0 κ,rfl,_,rfl,?_⟩
  cases κ with
  | below m=>
   have m1:1 ≤ m:=hg
   refine iteB (show decide (V.str "below" = V.str "below") = true by decide) ?_
   refine ⟨_,rfl,a,_,1,.int m,rfl,rfl,hk,rfl,_,_,rfl,rfl,_,rfl,_,_,rfl,rfl,⟨by decide,by decide⟩,_,rfl,a,_,1,.int m,rfl,rfl,hk,rfl,_,_,rfl,rfl,(show 0 < m by omega),(by show 3 ≤ sizeLine;decide),fun l hl=>?_⟩
   have j0:=Int.emod_nonneg n (show (3:Int) ≠ 0 by decide)
   have j3:=Int.emod_lt_of_pos n (show (0:Int) < 3 by decide)
   have k0:=Int.emod_nonneg (n / 3) (show m ≠ 0 by omega)
   have k3:=Int.emod_lt_of_pos (n / 3) (show 0 < m by omega)
   obtain ⟨i,hi0,him,hat⟩:∃ i:Int,0 ≤ i/\i < m/\atI [V.int 0,V.int (m - 1),V.int (n / 3 % m)] (n % 3) = some (.int i):=by
    obtain ⟨j,hj⟩:=Int.eq_ofNat_of_zero_le j0
    rw [hj]
    rcases (show j = 0\/j = 1\/j = 2 by omega) with rfl | rfl | rfl
    ·exact ⟨0,by omega,by omega,rfl⟩
    ·exact ⟨m - 1,by omega,by omega,rfl⟩
    ·exact ⟨n / 3 % m,k0,k3,rfl⟩
   refine ⟨_,rfl,_,_,rfl,rfl,(pos rfl),l,_,_,.int i,rfl,rfl,SqL.of upd_same,hat,q _ _ (Same.upd hl) rfl (fun z e=>nomatch e) ?_⟩
   show (decide (0 ≤ i) && decide (i < m)) = true
   rw [decide_eq_true hi0,decide_eq_true him]
   rfl
  | upto m=>
   refine iteC (show decide (V.str "upto" = V.str "below") = false by decide) ?_
   refine ⟨_,rfl,a,_,0,.str "upto",rfl,rfl,hk,rfl,rfl,_,rfl,iteB (show decide (V.str "upto" = V.str "upto") = true by decide) ?_⟩
   have j0:=Int.emod_nonneg n (show (1000:Int) ≠ 0 by decide)
   refine ⟨_,rfl,a,_,1,.int m,rfl,rfl,hk,rfl,_,rfl,_,_,rfl,rfl,(pos rfl),_,_,rfl,rfl,q _ _ (Same.refl _) rfl (fun z e=>nomatch e) ?_⟩
   exact decide_eq_true (by omega)
  | whole=>
   refine iteC (show decide (V.str "whole" = V.str "below") = false by decide) ?_
   refine ⟨_,rfl,a,_,0,.str "whole",rfl,rfl,hk,rfl,rfl,_,rfl,iteC (show decide (V.str "whole" = V.str "upto") = false by decide) ?_⟩
   refine ⟨_,rfl,a,_,0,.str "whole",rfl,rfl,hk,rfl,rfl,_,rfl,iteB (show decide (V.str "whole" = V.str "whole") = true by decide) ?_⟩
   exact ⟨_,rfl,_,_,rfl,rfl,(pos rfl),_,_,rfl,rfl,q _ _ (Same.refl _) rfl (fun z e=>nomatch e) rfl⟩
  | word=>
   refine iteC (show decide (V.str "word" = V.str "below") = false by decide) ?_
   refine ⟨_,rfl,a,_,0,.str "word",rfl,rfl,hk,rfl,rfl,_,rfl,iteC (show decide (V.str "word" = V.str "upto") = false by decide) ?_⟩
   refine ⟨_,rfl,a,_,0,.str "word",rfl,rfl,hk,rfl,rfl,_,rfl,iteC (show decide (V.str "word" = V.str "whole") = false by decide) ?_⟩
   exact ⟨_,rfl,n,rfl,fun z hz hc=>q _ _ (Same.refl _) rfl (fun y e=>by cases e;omega) rfl⟩
  | without c=>
   have hc':(⟨#[c]⟩:Str) ∈ sgsS:=hg
   refine iteC (show decide (V.str "without" = V.str "below") = false by decide) ?_
   refine ⟨_,rfl,a,_,0,.str "without",rfl,rfl,hk,rfl,rfl,_,rfl,iteC (show decide (V.str "without" = V.str "upto") = false by decide) ?_⟩
   refine ⟨_,rfl,a,_,0,.str "without",rfl,rfl,hk,rfl,rfl,_,rfl,iteC (show decide (V.str "without" = V.str "whole") = false by decide) ?_⟩
   refine ⟨_,rfl,n,rfl,fun z hz hc=>q _ _ (Same.refl _) rfl (fun y e=>by cases e;omega) ?_⟩
   show (!decide (c ∈ z.cps.toList)) = true
   rw [decide_eq_false fun h=>tx_sg _ hc' c (List.mem_singleton.mpr rfl) (hc c h)]
   rfl
end
end My
namespace My
open PySem L2 PyProof.Rows
seal L2.PE L2.PT L2.PW L2.PS L2.PSs L2.PA L2.PI L2.PG L2.PGs L2.OpR L2.UnR L2.CallR L2.IxR L2.SlR L2.MtR L2.PIf L2.PO L2.MtM L2.PC
def STup (H H':Hp):Prop:=∀ b xs,H b = some (.tup xs)->H' b = some (.tup xs)
theorem Same.st {H H':Hp} (s:Same H H'):STup H H':=fun b xs e=>s _ _ e
theorem STup.trans {H H' H'':Hp} (s:STup H H') (t:STup H' H''):STup H H'':=fun b xs e=>t _ _ (s _ _ e)
theorem STup.put {H:Hp} {b:Addr} {o:HO} (h:∀ xs,H b ≠ some (.tup xs)):STup H (upd H b o):=fun c xs e=>by
 have nb:c ≠ b:=fun z=>h xs (by rw [← z];exact e)
 rw [upd_ne nb]
 exact e
def KkT (H:Hp) (a:Addr):Kk->Prop
 | .pl κ=>H a = some (.tup κ.vs)
 | .key=>H a = some (.tup [.str "key"])
 | .onc κ=>∃ b,H a = some (.tup [.str "once",.ref b])/\H b = some (.tup κ.vs)
 | .lst κ=>∃ b,H a = some (.tup [.str "list",.ref b])/\H b = some (.tup κ.vs)
 | .som κ=>∃ b,H a = some (.tup [.str "some",.ref b])/\H b = some (.tup κ.vs)
theorem KkT.ok {K:PySem.W.Frag} {H:Hp} {a:Addr} {kk:Kk} (h:KkT H a kk):KkOk K H a kk:=by
 cases kk with
 | pl κ=>exact SqT.of h
 | key=>exact SqT.of h
 | onc κ=>obtain ⟨b,h1,h2⟩:=h;exact ⟨b,SqT.of h1,SqT.of h2⟩
 | lst κ=>obtain ⟨b,h1,h2⟩:=h;exact ⟨b,SqT.of h1,SqT.of h2⟩
 | som κ=>obtain ⟨b,h1,h2⟩:=h;exact ⟨b,SqT.of h1,SqT.of h2⟩
theorem KkT.st {H H':Hp} {a:Addr} {kk:Kk} (h:KkT H a kk) (s:STup H H'):KkT H' a kk:=by
 cases kk with
 | pl κ=>exact s _ _ h
 | key=>exact s _ _ h
 | onc κ=>obtain ⟨b,h1,h2⟩:=h;exact ⟨b,s _ _ h1,s _ _ h2⟩
 | lst κ=>obtain ⟨b,h1,h2⟩:=h;exact ⟨b,s _ _ h1,s _ _ h2⟩
 | som κ=>obtain ⟨b,h1,h2⟩:=h;exact ⟨b,s _ _ h1,s _ _ h2⟩
def Fl (v:V):Prop:=flt v = true/\∀ z,v = .str z->z.length ≤ 1000
theorem Fl.is {K:PySem.W.Frag} {H:Hp} {v:V} (h:Fl v):∃ n,Is K H v n/\n ≠ "tuple"/\n ≠ "dict"/\n ≠ "list":=by
 cases v with
 | non=>exact ⟨_,Is.non,by decide,by decide,by decide⟩
 | bl b=>exact ⟨_,Is.bl,by decide,by decide,by decide⟩
 | int i=>exact ⟨_,Is.int,by decide,by decide,by decide⟩
 | str z=>exact ⟨_,Is.str,by decide,by decide,by decide⟩
 | _=>cases h.1
def VOk (H:Hp) (v:V) (d:Vd):Prop:=(Fl v/\d = .one)\/∃ t us,v = .ref t/\H t = some (.tup us)/\d = .tup us/\us.length ≤ 1000/\∀ x ∈ us,Fl x
theorem VOk.st {H H':Hp} {v:V} {d:Vd} (h:VOk H v d) (s:STup H H'):VOk H' v d:=h.imp id fun ⟨t,us,a,b,c⟩=>⟨t,us,a,s _ _ b,c⟩
theorem VOk.val {K:PySem.W.Frag} {H:Hp} {v:V} {d:Vd} (h:VOk H v d):Val K H v d:=by
 rcases h with ⟨h,rfl⟩ | ⟨t,us,rfl,h1,rfl,h2,h3⟩
 ·obtain ⟨n,a,b,_⟩:=h.is (K:=K) (H:=H)
  exact ⟨n,a,b,h.2⟩
 ·exact ⟨t,rfl,SqT.of h1,⟨.tup h1,by decide⟩,h2,fun x hx=>let ⟨n,a,_⟩:=(h3 x hx).is (K:=K) (H:=H);⟨n,a,(h3 x hx).2⟩⟩
theorem VOk.flr {H:Hp} {v:V} {d:Vd} (h:VOk H v d):flt v = true\/∃ a xs,v = .ref a/\H a = some (.tup xs):=h.imp (fun x=>x.1.1) fun ⟨t,us,a,b,_⟩=>⟨t,us,a,b⟩
theorem kt_of {H:Hp} {d:Dt} {v:V} (hk:kindD d = true) (hd:noDct d = true) (h:Rep H d v):∃ a kk,v = .ref a/\KkT H a kk/\KkG kk:=by
 have hdr:=noDct_dr hd
 unfold kindD at hk
 rw [Bool.or_eq_true] at hk
 by_cases hp:plainD d = true
 ·rw [plain_dr hp] at hdr
  obtain ⟨a,κ,rfl,h1,h2⟩:=pl_of hp hdr h
  exact ⟨a,.pl κ,rfl,h1,h2⟩
 have hm:moreD d = true:=by
  rcases hk with e | e
  ·exact absurd e hp
  ·exact e
 cases d with
 | tup ds=>
  match ds,hm,hdr,h with
  | [],hm,_,_=>cases hm
  | [s],hm,_,h=>
   obtain ⟨a,x,rfl,h1,h2⟩:=rep_t1 h
   have e:=strIs_eq (show strIs s "key" = true from hm)
   subst e
   have e2:=rep_sv h2
   subst e2
   exact ⟨a,.key,rfl,h1,trivial⟩
  | [s,b],hm,hdr,h=>
   obtain ⟨a,x,y,rfl,h1,h2,h3⟩:=rep_t2 h
   have hm':(w3.any (strIs s) && plainD b) = true:=hm
   rw [Bool.and_eq_true] at hm'
   obtain ⟨z,hz,e⟩:=List.any_eq_true.mp hm'.1
   have e:=strIs_eq e
   subst e
   have e2:=rep_sv h2
   subst e2
   obtain ⟨bs,rfl⟩:=plain_tup hm'.2
   obtain ⟨b',κ,rfl,h4,h5⟩:=pl_of hm'.2 (show drP (.tup bs) = true from hdr) h3
   have hz':z = "list"\/z = "some"\/z = "once":=by simpa [w3] using hz
   rcases hz' with rfl | rfl | rfl
   ·exact ⟨a,.lst κ,rfl,⟨b',h1,h4⟩,h5⟩
   ·exact ⟨a,.som κ,rfl,⟨b',h1,h4⟩,h5⟩
   ·exact ⟨a,.onc κ,rfl,⟨b',h1,h4⟩,h5⟩
  | _ :: _ :: _ :: _,hm,_,_=>cases hm
 | _=>cases hm
abbrev Rw:=List (Str × V)
def rK (row:Rw):List (Key × V):=row.map fun c=>(.inr c.1,c.2)
def CellOk (H:Hp) (sz:Int) (cols:List (Str × V)) (c:Str × V):Prop:=∃ d a kk,VOk H c.2 d/\vOf cols c.1 = .ref a/\KkT H a kk/\KkG kk/\fitD kk sz c.2 d = true
def RowFit (H:Hp) (sz:Int) (cols:List (Str × V)) (row:Rw):Prop:=(row.map (·.1)).Perm (cols.map (·.1))/\∀ c ∈ row,CellOk H sz cols c
theorem CellOk.st {H H':Hp} {sz:Int} {cols:List (Str × V)} {c:Str × V} (h:CellOk H sz cols c) (s:STup H H'):CellOk H' sz cols c:=let ⟨d,a,kk,h1,h2,h3,h4⟩:=h;⟨d,a,kk,h1.st s,h2,h3.st s,h4⟩
theorem RowFit.st {H H':Hp} {sz:Int} {cols:List (Str × V)} {row:Rw} (h:RowFit H sz cols row) (s:STup H H'):RowFit H' sz cols row:=⟨h.1,fun c hc=>(h.2 c hc).st s⟩
def spVal (K:PySem.W.Frag):Sp:=fun vs H Q _=>∃ (a:Addr) (kk:Kk) (n sz:Int),vs = [.ref a,.int n,.int sz]/\KkT H a kk/\KkG kk/\1 ≤ sz/\∀ v d H',Same H H'->VOk H' v d->fitD kk sz v d = true->Q v H'
def spRow (K:PySem.W.Frag):Sp:=fun vs H Q _=>∃ (cd:Addr) (cols:List (Str × V)) (n sz:Int),vs = [.ref cd,.int n,.int sz]/\H cd = some (.dK (kvC cols))/\ColsOk H cols/\1 ≤ sz/\∀ r row H',Same H H'->cut H H' r = some (.dK (rK row))->RowFit H' sz cols row->Q (.ref r) H'
section
variable {P:Program} {w:World} {K:PySem.W.Frag} {mg:Str->Option Value} {base:Heap}
theorem ok_val {f fP fT:Addr} {fd fdP fdT:FuncData} (F:Fun K "_law_value" "_law_value" (top 45) f fd) (B:Bl mg) (DP:Df K mg "_law_plain_value" (top 44) fP fdP) (DT:Df K mg "_law_text" (top 43) fT fdT):FnOk P w K mg base CX0 3 f fd ["_law_kind_here","_law_number","_law_size"] (spVal K):=by
 have sc:FnScope ["_law_kind_here","_law_number","_law_size","_law_many"] ["_law_kind_here","_law_number","_law_size"] (defScope (top 45)):=⟨rfl,rfl,rfl,by decide +kernel,rfl,by decide +kernel,by decide +kernel⟩
 have GP:FnOk P w K mg base CX0 2 fP fdP ["_law_kind_here","_law_number"] (spPv K):=ok_pv DP.fn B DT
 have bP:=DP.fn.binds (ps:=["_law_kind_here","_law_number"]) fun _ _ _ _ _ _ us hl=>by obtain ⟨v0,v1,rfl⟩:=L2.ln2 hl;rfl
 refine F.ok sc (fun vs H Q E h=>?_) (fun cdv A outer s H vs Q E hr h=>?_)
 ·obtain ⟨a,kk,n,sz,rfl,_⟩:=h
  rfl
 ·obtain ⟨a,kk,n,sz,rfl,hk,hg,s1,q⟩:=h
  have ndA:(["_law_k","_law_kind_here","_law_number"]:List Str).Nodup:=by decide +kernel
  refine ⟨_,pss_cons (ps_if (pt_cmpR op_eq (pe_ix ix_tup (pv 0) pe_int (fun _ _=>rfl)) pe_str (nomark _)) (pss_one (ps_ret (pe_ix ix_list (pe_lst (pa_cons pe_non (pa_cons pe_int (pa_cons (pe_op op_sub (pv 2) pe_int) (pa_cons (pe_op op_mod (pe_op op_fdiv (pv 1) pe_int) (pv 2)) pa_nil))))) (pe_op op_mod (pv 1) pe_int) (fun _ _=>rfl)))) pss_nil)
   (pss_cons (ps_if (pt_cmpR op_eq (pe_ix ix_tup (pv 0) pe_int (fun _ _=>rfl)) pe_str (nomark _)) (pss_one (ps_ret (pe_call GP hr (by rfl) DP.mg DP.fn.kp bP .nil pass0 (pa_cons (pe_ix ix_tup (pv 0) pe_int (fun _ _=>rfl)) (pa_cons (pv 1) pa_nil))))) pss_nil)
   (pss_cons (ps_if (PW.pt (pw_or (pt_cmpR op_eq (pe_ix ix_tup (pv 0) pe_int (fun _ _=>rfl)) pe_str (nomark _)) (pw_or1 (pt_cmpR op_eq (pe_ix ix_tup (pv 0) pe_int (fun _ _=>rfl)) pe_str (nomark _)))))
    (pss_cons (ps_set (i:=3) sc.nd rfl (Or.inl rfl) (pe_op op_add (pe_op op_mod (pv 1) pe_int) (pe_callTy call_int1 (by rfl) B.int boot_int (pa_cons (pe_cmpR op_eq (pe_ix ix_tup (pv 0) pe_int (fun _ _=>rfl)) pe_str (nomark _)) pa_nil))))
    (pss_one (ps_ret (pe_callTy call_tuple_of (by rfl) B.tuple boot_tuple (pa_cons (pe_comp (osc:=defScope (top 45)) (N0:=["_law_kind_here","_law_number","_law_size","_law_many"]) (xs:=["_law_k"]) (fr:=[0,1]) ⟨rfl,by decide +kernel,by decide +kernel,by decide +kernel,(fun j hj=>by
       have e:j = 0\/j = 1:=by simpa using hj
       rcases e with rfl | rfl
       ·exact ⟨_,rfl,by decide +kernel⟩
       ·exact ⟨_,rfl,by decide +kernel⟩),by decide +kernel⟩ rfl rfl rfl (pi_range1 rfl B.range (pa_cons (pv 3) pa_nil))
     (fun s H fp=>pg_name (i:=0) ndA rfl (Or.inl rfl)) (fun s H fp=>pif_nil)
     (fun s H fp=>pe_call GP hr (by rfl) DP.mg DP.fn.kp bP .nil pass0 (pa_cons (pe_ix (r:=rIxT K) ix_tup (pv 1) pe_int (fun _ _=>rfl)) (pa_cons (pe_op op_add (pe_op op_fdiv (pv 2) pe_int) (pe_op op_mul pe_int (pv 0))) pa_nil)))) pa_nil))))) pss_nil)
   (pss_one (ps_ret (pe_call GP hr (by rfl) DP.mg DP.fn.kp bP .nil pass0 (pa_cons (pv 0) (pa_cons (pv 1) pa_nil))))))),?_⟩
  have tupl:∀ (so:Str) (κ:Pk) (b:Addr) (more:Int) (e:Bool),(e = decide (so = "some"))->(more = if e then 1 else 0)->H a = some (.tup [.str so,.ref b])->H b = some (.tup κ.vs)->PkG κ->(∀ us:List V,us.length ≤ 1000->(so = "some"->us.length ≠ 0)->(∀ x ∈ us,Fl x/\fitP κ x = true)->∀ t H',Same H H'->H' t = some (.tup us)->Q (.ref t) H')->∀ D,H D = none->CompW (Itr 0 (n % 4 + more).toNat) (gName 0) tYes (tCall (spPv K) [] E0 (tCons (tOp (rIxT K) (tVar 1) (tC (.int 1))) (tCons (tOp (rI0 fun i j=>.int (i + j)) (tOp (rI CDiv fun i j=>.int (i / j)) (tVar 2) (tC (.int 4))) (tOp (rI CMul fun i j=>.int (i * j)) (tC (.int 7919)) (tVar 0))) tNil)))
    (fun D H2=>∃ p ys,[V.ref D] = [.ref p]/\((SqL K H2 p ys/\∀ l,H2 l = none->Q (.ref l) (upd H2 l (.tup ys)))\/(SqT K H2 p ys/\Q (.ref p) H2))) D (compSt ["_law_k"] [0,1] [some (.ref a),some (.int n),some (.int sz),some (.int (n % 4 + more))]) (upd H D (.lst [])):=by
   intro so κ b more e he hmore h1 h2 hg hq D hD
   have j0:=Int.emod_nonneg n (show (4:Int) ≠ 0 by decide)
   have j4:=Int.emod_lt_of_pos n (show (0:Int) < 4 by decide)
   have m01:0 ≤ more/\more ≤ 1:=by rw [hmore];split <;> omega
   refine compW_idx (n % 4 + more).toNat (fun i ys σ' Hc=>(∃ t0,σ' = [t0,some (.ref a),some (.int n)])/\Same H Hc/\ys.length = i/\∀ x ∈ ys,Fl x/\fitP κ x = true) (by rw [sizeLine_eq];omega) ⟨⟨none,rfl⟩,Same.upd hD,rfl,fun x h=>nomatch h⟩ upd_same ?_ ?_
   ·rintro i σ' Hc ys hi ⟨⟨t0,rfl⟩,sm,hyl',hys⟩ hyl hD'
    refine ⟨hi,?_⟩
    rintro x H' ⟨rfl,rfl⟩
    refine ⟨_,rfl,a,_,1,.ref b,rfl,rfl,SqT.of (sm _ _ h1),rfl,_,rfl,_,_,rfl,rfl,⟨by decide,by decide⟩,_,rfl,_,_,rfl,rfl,.inl ⟨by decide,by decide⟩,_,_,rfl,rfl,b,κ,_,rfl,SqT.of (sm _ _ h2),hg,fun v H6 s6 hfl hz hfit=>?_⟩
    refine ⟨s6 _ _ hD',⟨_,rfl⟩,(sm.trans s6).put hD,by rw [List.length_append,hyl'];rfl,fun y hy=>?_⟩
    rcases List.mem_append.mp hy with hy | hy
    ·exact hys y hy
    ·rw [List.mem_singleton.mp hy]
     exact ⟨⟨hfl,hz⟩,hfit⟩
   ·rintro σ' Hc ys ⟨_,sm,hyl',hys⟩ hDn hyl
    refine ⟨Nat.le_refl _,D,ys,rfl,.inl ⟨SqL.of hDn,fun l hl=>?_⟩⟩
    refine hq ys (by omega) (fun hs=>?_) hys l _ (sm.trans (Same.upd hl)) upd_same
    rw [hmore,he,decide_eq_true hs] at hyl'
    simp only [if_true] at hyl'
    omega
  have fitT_all:∀ (so:Str) (κ:Pk) (us:List V),(so = "some"->us.length ≠ 0)->(∀ x ∈ us,Fl x/\fitP κ x = true)->fitT so κ (.tup us) = true:=fun so κ us h1 h2=>by
   show (if (decide (so = "some") && decide (us.length = 0)) = true then false else us.all (fitP κ)) = true
   rw [if_neg (fun h=>by
    rw [Bool.and_eq_true] at h
    exact h1 (of_decide_eq_true h.1) (of_decide_eq_true h.2)),List.all_eq_true]
   exact fun x hx=>(h2 x hx).2
  cases kk with
  | key=>
   have hk:H a = some (.tup [.str "key"]):=hk
   refine ⟨_,rfl,a,_,0,.str "key",rfl,rfl,SqT.of hk,rfl,rfl,_,rfl,iteB (by decide +kernel) ?_⟩
   refine ⟨_,rfl,_,_,rfl,rfl,_,rfl,_,_,rfl,rfl,⟨by decide,by decide⟩,_,rfl,_,_,rfl,rfl,(show 0 < sz by omega),(by show 4 ≤ sizeLine;decide),fun l hl=>?_⟩
   have j0:=Int.emod_nonneg n (show (4:Int) ≠ 0 by decide)
   have j4:=Int.emod_lt_of_pos n (show (0:Int) < 4 by decide)
   have k0:=Int.emod_nonneg (n / 4) (show sz ≠ 0 by omega)
   have k3:=Int.emod_lt_of_pos (n / 4) (show 0 < sz by omega)
   obtain ⟨v,hfl,hfit,hat⟩:∃ v:V,Fl v/\fitKey sz v = true/\atI [V.non,V.int 0,V.int (sz - 1),V.int (n / 4 % sz)] (n % 4) = some v:=by
    have two:∀ i:Int,0 ≤ i->i < sz->Fl (.int i)/\fitKey sz (.int i) = true:=fun i h1 h2=>⟨⟨rfl,fun z e=>nomatch e⟩,by show (decide (0 ≤ i) && decide (i < sz)) = true;rw [decide_eq_true h1,decide_eq_true h2];rfl⟩
    obtain ⟨j,hj⟩:=Int.eq_ofNat_of_zero_le j0
    rw [hj]
    rcases (show j = 0\/j = 1\/j = 2\/j = 3 by omega) with rfl | rfl | rfl | rfl
    ·exact ⟨.non,⟨rfl,fun z e=>nomatch e⟩,rfl,rfl⟩
    ·exact ⟨_,(two 0 (by omega) (by omega)).1,(two 0 (by omega) (by omega)).2,rfl⟩
    ·exact ⟨_,(two (sz - 1) (by omega) (by omega)).1,(two (sz - 1) (by omega) (by omega)).2,rfl⟩
    ·exact ⟨_,(two _ k0 k3).1,(two _ k0 k3).2,rfl⟩
   exact ⟨_,rfl,_,_,rfl,rfl,(pos rfl),l,_,_,v,rfl,rfl,SqL.of upd_same,hat,q v .one _ (Same.upd hl) (.inl ⟨hfl,rfl⟩) hfit⟩
  | onc κ=>
   obtain ⟨b,h1,h2⟩:=hk
   refine ⟨_,rfl,a,_,0,.str "once",rfl,rfl,SqT.of h1,rfl,rfl,_,rfl,iteC (by decide +kernel) ?_⟩
   refine ⟨_,rfl,a,_,0,.str "once",rfl,rfl,SqT.of h1,rfl,rfl,_,rfl,iteB (by decide +kernel) ?_⟩
   exact ⟨_,rfl,a,_,1,.ref b,rfl,rfl,SqT.of h1,rfl,_,rfl,b,κ,n,rfl,SqT.of h2,hg,fun v H' s' hfl hz hfit=>q v .one H' s' (.inl ⟨⟨hfl,hz⟩,rfl⟩) hfit⟩
  | lst κ=>
   obtain ⟨b,h1,h2⟩:=hk
   refine ⟨_,rfl,a,_,0,.str "list",rfl,rfl,SqT.of h1,rfl,rfl,_,rfl,iteC (by decide +kernel) ?_⟩
   refine ⟨_,rfl,a,_,0,.str "list",rfl,rfl,SqT.of h1,rfl,rfl,_,rfl,iteC (by decide +kernel) ?_⟩
   refine ⟨_,rfl,a,_,0,.str "list",rfl,rfl,SqT.of h1,rfl,rfl,_,rfl,iteB (by decide +kernel) (iteT ?_)⟩
   have j0:=Int.emod_nonneg n (show (4:Int) ≠ 0 by decide)
   have j4:=Int.emod_lt_of_pos n (show (0:Int) < 4 by decide)
   refine ⟨_,rfl,_,_,rfl,rfl,(pos rfl),_,rfl,a,_,0,.str "list",rfl,rfl,SqT.of h1,rfl,rfl,.inr ⟨_,rfl,_,_,rfl,rfl,_,rfl,_,rfl,?_⟩⟩
   rw [show decide (V.str "list" = V.str "some") = false by decide +kernel]
   refine ⟨(by simp only [Bool.false_eq_true,if_false];omega),(by simp only [Bool.false_eq_true,if_false];omega),tupl "list" κ b _ false (by decide +kernel) rfl h1 h2 hg fun us ul hs hx t H' s' ht=>q _ (.tup us) H' s' (.inr ⟨t,us,rfl,ht,rfl,ul,fun x h=>(hx x h).1⟩) (fitT_all "list" κ us hs hx)⟩
  | som κ=>
   obtain ⟨b,h1,h2⟩:=hk
   refine ⟨_,rfl,a,_,0,.str "some",rfl,rfl,SqT.of h1,rfl,rfl,_,rfl,iteC (by decide +kernel) ?_⟩
   refine ⟨_,rfl,a,_,0,.str "some",rfl,rfl,SqT.of h1,rfl,rfl,_,rfl,iteC (by decide +kernel) ?_⟩
   refine ⟨_,rfl,a,_,0,.str "some",rfl,rfl,SqT.of h1,rfl,rfl,_,rfl,iteC (by decide +kernel) ⟨_,rfl,a,_,0,.str "some",rfl,rfl,SqT.of h1,rfl,rfl,_,rfl,iteB (by decide +kernel) ?_⟩⟩
   have j0:=Int.emod_nonneg n (show (4:Int) ≠ 0 by decide)
   have j4:=Int.emod_lt_of_pos n (show (0:Int) < 4 by decide)
   refine ⟨_,rfl,_,_,rfl,rfl,(pos rfl),_,rfl,a,_,0,.str "some",rfl,rfl,SqT.of h1,rfl,rfl,.inr ⟨_,rfl,_,_,rfl,rfl,_,rfl,_,rfl,?_⟩⟩
   rw [show decide (V.str "some" = V.str "some") = true by decide +kernel]
   refine ⟨(by simp only [if_true];omega),(by simp only [if_true];omega),tupl "some" κ b _ true (by decide +kernel) rfl h1 h2 hg fun us ul hs hx t H' s' ht=>q _ (.tup us) H' s' (.inr ⟨t,us,rfl,ht,rfl,ul,fun x h=>(hx x h).1⟩) (fitT_all "some" κ us hs hx)⟩
  | pl κ=>
   have hk:H a = some (.tup κ.vs):=hk
   have ne:decide (V.str κ.name = V.str "key") = false/\decide (V.str κ.name = V.str "once") = false/\decide (V.str κ.name = V.str "list") = false/\decide (V.str κ.name = V.str "some") = false:=by
    have hn:κ.name ∈ (["whole","below","upto","word","without"]:List Str):=by cases κ <;> simp [Pk.name]
    have all:∀ z ∈ (["whole","below","upto","word","without"]:List Str),decide (V.str z = V.str "key") = false/\decide (V.str z = V.str "once") = false/\decide (V.str z = V.str "list") = false/\decide (V.str z = V.str "some") = false:=by decide +kernel
    exact all _ hn
   refine ⟨_,rfl,a,_,0,.str κ.name,rfl,rfl,SqT.of hk,at0 κ,rfl,_,rfl,iteC ne.1 ?_⟩
   refine ⟨_,rfl,a,_,0,.str κ.name,rfl,rfl,SqT.of hk,at0 κ,rfl,_,rfl,iteC ne.2.1 ?_⟩
   refine ⟨_,rfl,a,_,0,.str κ.name,rfl,rfl,SqT.of hk,at0 κ,rfl,_,rfl,iteC ne.2.2.1 ⟨_,rfl,a,_,0,.str κ.name,rfl,rfl,SqT.of hk,at0 κ,rfl,_,rfl,iteC ne.2.2.2 ?_⟩⟩
   exact ⟨_,rfl,_,rfl,a,κ,n,rfl,SqT.of hk,hg,fun v H' s' hfl hz hfit=>q v .one H' s' (.inl ⟨⟨hfl,hz⟩,rfl⟩) hfit⟩
end
end My
namespace My
open PySem L2 PyProof.Rows
seal L2.PE L2.PT L2.PW L2.PS L2.PSs L2.PA L2.PI L2.PG L2.PGs L2.OpR L2.UnR L2.CallR L2.IxR L2.SlR L2.MtR L2.PIf L2.PO L2.MtM L2.PC
inductive F2 {α β:Type} (R:α->β->Prop):List α->List β->Prop
 | nil:F2 R [] []
 | cons {a:α} {b:β} {as:List α} {bs:List β} (h:R a b) (t:F2 R as bs):F2 R (a :: as) (b :: bs)
theorem F2.imp {α β:Type} {R S:α->β->Prop} {as:List α} {bs:List β} (h:F2 R as bs) (i:∀ a b,R a b->S a b):F2 S as bs:=by
 induction h with
 | nil=>exact .nil
 | cons h _ ih=>exact .cons (i _ _ h) ih
theorem F2.snoc {α β:Type} {R:α->β->Prop} {as:List α} {bs:List β} {a:α} {b:β} (h:F2 R as bs) (r:R a b):F2 R (as ++ [a]) (bs ++ [b]):=by
 induction h with
 | nil=>exact .cons r .nil
 | cons h _ ih=>exact .cons h ih
theorem F2.len {α β:Type} {R:α->β->Prop} {as:List α} {bs:List β} (h:F2 R as bs):as.length = bs.length:=by
 induction h with
 | nil=>rfl
 | cons _ _ ih=>rw [List.length_cons,List.length_cons,ih]
theorem F2.get {α β:Type} {R:α->β->Prop} {as:List α} {bs:List β} (h:F2 R as bs):∀ (j:Nat) (a:α) (b:β),as[j]? = some a->bs[j]? = some b->R a b:=by
 induction h with
 | nil=>intro j a b h;cases h
 | cons h _ ih=>
  intro j a b h1 h2
  cases j with
  | zero=>cases h1;cases h2;exact h
  | succ j=>exact ih j a b h1 h2
theorem F2.mem {α β:Type} {R:α->β->Prop} {as:List α} {bs:List β} (h:F2 R as bs) {a:α} (ha:a ∈ as):∃ b ∈ bs,R a b:=by
 induction h with
 | nil=>cases ha
 | cons h _ ih=>
  rcases List.mem_cons.mp ha with rfl | ha
  ·exact ⟨_,List.mem_cons_self,h⟩
  ·obtain ⟨b,hb,r⟩:=ih ha
   exact ⟨b,List.mem_cons_of_mem _ hb,r⟩
theorem take_last {α:Type} {xs:List α} {j:Nat} (h:j < xs.length):xs.take (j + 1) = xs.take j ++ [xs[j]]:=by
 rw [List.take_succ,List.getElem?_eq_getElem h]
 rfl
def RowsAt (H:Hp) (l:Addr) (rows:List Rw):Prop:=∃ rs:List Addr,H l = some (.lst (rs.map V.ref))/\F2 (fun r row=>H r = some (.dK (rK row))) rs rows
theorem RowsAt.same {H H':Hp} {l:Addr} {rows:List Rw} (h:RowsAt H l rows) (s:Same H H'):RowsAt H' l rows:=let ⟨rs,a,b⟩:=h;⟨rs,s _ _ a,b.imp fun _ _ e=>s _ _ e⟩
theorem rK_keys (row:Rw):(rK row).map (·.1) = (row.map (·.1)).map Sum.inr:=by unfold rK;rw [List.map_map,List.map_map];rfl
theorem rK_val {row:Rw} (nd:(row.map (·.1)).Nodup) {c:Str × V} (hc:c ∈ row):valV (rK row) (.inr c.1) = some c.2:=by
 induction row with
 | nil=>cases hc
 | cons a r ih=>
  rw [List.map_cons,List.nodup_cons] at nd
  unfold rK
  rw [List.map_cons]
  rcases List.mem_cons.mp hc with rfl | hc
  ·exact valV_pos rfl
  ·rw [valV_neg (p:=((Sum.inr a.1:Key),a.2)) (fun e=>by
    injection e with e
    exact nd.1 (by rw [e];exact List.mem_map.mpr ⟨c,hc,rfl⟩))]
   exact ih nd.2 hc
theorem sameK_refl {ks ls:List Key} (p:ks.Perm ls):sameK ks ls = true:=by
 unfold sameK
 rw [p.length_eq,decide_eq_true rfl,Bool.true_and,List.all_eq_true]
 intro k hk
 rw [List.any_eq_true]
 exact ⟨k,p.mem_iff.mp hk,decide_eq_true rfl⟩
theorem RowFit.nd {H:Hp} {sz:Int} {cols:List (Str × V)} {row:Rw} (h:RowFit H sz cols row) (nd:(cols.map (·.1)).Nodup):(row.map (·.1)).Nodup:=h.1.nodup_iff.mpr nd
theorem RowFit.len {H:Hp} {sz:Int} {cols:List (Str × V)} {row:Rw} (h:RowFit H sz cols row):row.length = cols.length:=by
 have:=h.1.length_eq
 rwa [List.length_map,List.length_map] at this
theorem RowFit.is {K:PySem.W.Frag} {H:Hp} {sz:Int} {T:Tb} {row:Rw} {r:Addr} (h:RowFit H sz T.cols row) (tok:TOk T) (hr:H r = some (.dK (rK row))):RowIs K H sz T (.ref r) true:=by
 have nd:=h.nd tok.1
 refine .inr ⟨r,rK row,rfl,hr,?_,.inr ⟨fun _=>true,?_,fun z hz=>?_,?_⟩⟩
 ·unfold rK
  rw [List.length_map,h.len]
  have:=tok.2
  omega
 ·rw [rK_keys]
  exact sameK_refl (h.1.map Sum.inr)
 ·obtain ⟨c,hc,rfl⟩:=List.mem_map.mp (h.1.mem_iff.mpr hz)
  obtain ⟨d,a,kk,h1,h2,h3,_,h5⟩:=h.2 c hc
  exact ⟨c.2,d,a,kk,rK_val nd hc,h1.val,h2,h3.ok,h5.symm⟩
 ·rw [List.all_eq_true.mpr fun _ _=>rfl]
def sorts:List Str:=["head","twin","many","some"]
def spRows (K:PySem.W.Frag):Sp:=fun vs H Q _=>∃ (so:Str) (cd:Addr) (cols:List (Str × V)) (n sz:Int),vs = [.str so,.ref cd,.int n,.int sz]/\so ∈ sorts/\H cd = some (.dK (kvC cols))/\ColsOk H cols/\1 ≤ sz/\∀ l rows H',Same H H'->RowsAt (cut H H') l rows->(∀ row ∈ rows,RowFit H' sz cols row)->¬ BadN so rows.length->rows.length ≤ 31->Q (.ref l) H'
section
variable {P:Program} {w:World} {K:PySem.W.Frag} {mg:Str->Option Value} {base:Heap}
theorem ok_row {f fS fV fP fT:Addr} {fd fdS fdV fdP fdT:FuncData} (F:Fun K "_law_row" "_law_row" (top 46) f fd) (B:Bl mg) (DS:Df K mg "_law_stream" (top 35) fS fdS) (DV:Df K mg "_law_value" (top 45) fV fdV) (DP:Df K mg "_law_plain_value" (top 44) fP fdP) (DT:Df K mg "_law_text" (top 43) fT fdT):FnOk P w K mg base CX0 4 f fd ["_law_columns_here","_law_number","_law_size"] (spRow K):=by
 have sc:FnScope ["_law_columns_here","_law_number","_law_size","_law_row_here","_law_xs","_law_k","_law_column"] ["_law_columns_here","_law_number","_law_size"] (defScope (top 46)):=⟨rfl,rfl,rfl,by decide +kernel,rfl,by decide +kernel,by decide +kernel⟩
 have GS:FnOk P w K mg base CX0 1 fS fdS ["_law_cell_here","_law_many"] spStream:=ok_stream DS.fn B
 have bS:=DS.fn.binds (ps:=["_law_cell_here","_law_many"]) fun _ _ _ _ _ _ us hl=>by obtain ⟨v0,v1,rfl⟩:=L2.ln2 hl;rfl
 have GV:FnOk P w K mg base CX0 3 fV fdV ["_law_kind_here","_law_number","_law_size"] (spVal K):=ok_val DV.fn B DP DT
 have bV:=DV.fn.binds (ps:=["_law_kind_here","_law_number","_law_size"]) fun _ _ _ _ _ _ us hl=>by obtain ⟨v0,v1,v2,rfl⟩:=L2.ln3 hl;rfl
 refine F.ok sc (fun vs H Q E h=>?_) (fun cdv A outer s H vs Q E hr h=>?_)
 ·obtain ⟨cd,cols,n,sz,rfl,_⟩:=h
  rfl
 ·obtain ⟨cd,cols,n,sz,rfl,hcd,ok,s1,q⟩:=h
  have hr1:Room 1 _:=hr.mono (by decide)
  have hu:(A.deeper (envOfC "_law_row" (defScope (top 46)) s.heap.objs.size f cdv)).units + 1 < cLine:=hu_of hr
  refine ⟨_,pss_cons (ps_set (i:=3) sc.nd rfl (Or.inl rfl) pe_dnewK)
   (pss_cons (ps_set (i:=4) sc.nd rfl (Or.inl rfl) (pe_call GS hr1 (by rfl) DS.mg DS.fn.kp bS .nil pass0 (pa_cons (pv 1) (pa_cons (pe_callB call_lenD (by rfl) B.len PySem.boot_len (pa_cons (pv 0) pa_nil)) pa_nil))))
   (pss_cons (ps_for PassesOwn.never rfl (pi_enum (by rfl) B.enum (pa_cons (pe_callB (call_sortedD rfl) (by rfl) B.sorted boot_sorted (pa_cons (pv 0) pa_nil)) pa_nil)) (pg_tup rfl (pgs_cons (pg_name (i:=5) sc.nd rfl (Or.inl rfl)) (pgs_cons (pg_name (i:=6) sc.nd rfl (Or.inl rfl)) pgs_nil)))
    (pss_one (ps_dput hu (pv 3) (pv 6) (pe_call GV hr (by rfl) DV.mg DV.fn.kp bV .nil pass0 (pa_cons (pe_dget hu (pv 0) (pv 6) (fun _ _=>rfl)) (pa_cons (pe_ix ix_list (pv 4) (pv 5) (fun _ _=>rfl)) (pa_cons (pv 2) pa_nil)))) rfl)))
   (pss_one (ps_ret (pv 3))))),?_⟩
  refine fun r hr0=>?_
  have S0:=Same.upd (o:=.dK []) hr0
  have e0:=upd_same (H:=H) (a:=r) (o:=.dK [])
  generalize upd H r (.dK []) = H0 at *
  have kl:(kvC cols).length = cols.length:=by unfold kvC;rw [List.length_map]
  have c12:=ok.2.1
  refine ⟨_,rfl,_,rfl,cd,_,rfl,S0 _ _ hcd,n,_,rfl,(by omega),(by rw [kl];omega),fun x H1 xs s1' hx hxl hxs=>?_⟩
  rw [kl] at hxl
  have S1:=S0.trans s1'
  have ek:(kvC cols).map (·.1) = (cols.map (·.1)).map Sum.inr:=by unfold kvC;rw [List.map_map,List.map_map];rfl
  refine ⟨_,rfl,cd,_,_,rfl,.inl (S1 _ _ hcd),ek,(by rw [List.length_map];omega),fun l zs hl hzs hso=>?_⟩
  have T2:=Same.upd (o:=.lst (zs.map V.str)) hl
  have e2:=upd_same (H:=H1) (a:=l) (o:=.lst (zs.map V.str))
  generalize upd H1 l (.lst (zs.map V.str)) = H2 at *
  have S2:=S1.trans T2
  have zl:zs.length = cols.length:=by rw [hzs.length_eq,List.length_map]
  have zn:zs.Nodup:=hzs.nodup_iff.mpr ok.1
  refine ⟨l,rfl,⟨_,SqL.of e2⟩,for_enum (K:=K) (a:=l) (xs:=zs.map V.str) (fun i σ H'=>Same H H'/\H' l = some (.lst (zs.map V.str))/\H' x = some (.lst (xs.map V.int))/\∃ (row:Rw) (u5 u6:Option V),σ = [some (.ref cd),some (.int n),some (.int sz),some (.ref r),some (.ref x),u5,u6]/\H' r = some (.dK (rK row))/\row.map (·.1) = zs.take i/\∀ c ∈ row,CellOk H' sz cols c) ⟨S2,e2,T2 _ _ hx,[],_,_,rfl,(s1'.trans T2) _ _ e0,rfl,fun c h=>nomatch h⟩ (fun i σ H' _ p=>SqL.of p.2.1) ?_ ?_⟩
  ·rintro i y pe σ H' hy ⟨sm,gl,gx,row,u5,u6,rfl,gr,gn,gc⟩ hpe
   have hi:i < zs.length:=by
    have:=(List.getElem?_eq_some_iff.mp hy).1
    rwa [List.length_map] at this
   rw [List.getElem?_map,List.getElem?_eq_getElem hi] at hy
   cases hy
   have T3:=Same.upd (o:=.tup [.int (i:Nat),.str zs[i]]) hpe
   refine ⟨pe,_,rfl,SqT.of upd_same,rfl,_,_,rfl,_,_,rfl,rfl,?_⟩
   generalize upd H' pe (.tup [.int (i:Nat),.str zs[i]]) = H3 at T3
   have S3:=sm.trans T3
   have hzm:zs[i] ∈ cols.map (·.1):=hzs.mem_iff.mp (List.getElem_mem hi)
   obtain ⟨c0,hc0,ec0⟩:=List.mem_map.mp hzm
   have ev:vOf cols zs[i] = c0.2:=by
    have h1:=val_in hzm
    have h2:valV (kvC cols) (.inr c0.1) = some c0.2:=by
     have:kvC cols = rK cols:=rfl
     rw [this]
     exact rK_val ok.1 hc0
    rw [← ec0] at h1 ⊢
    rw [h1] at h2
    exact Option.some.inj h2
   obtain ⟨_,dt,hrep,hkd,hnd⟩:=ok.2.2 c0 hc0
   obtain ⟨a,kk,eva,hkt,hkg⟩:=kt_of hkd hnd hrep
   have hix:i < xs.length:=by omega
   refine ⟨_,rfl,_,rfl,cd,_,rfl,.inl ⟨_,.inr zs[i],.inl (S3 _ _ hcd),rfl,(val_in hzm).symm⟩,_,rfl,_,rfl,x,_,_,.int xs[i],rfl,rfl,SqL.of (T3 _ _ gx),atI_nat (by rw [List.getElem?_map,List.getElem?_eq_getElem hix];rfl),_,rfl,a,kk,xs[i],sz,(by rw [ev,eva];rfl),hkt.st (Same.st S3),hkg,s1,fun v d H4 s4 hv hfit=>?_⟩
   have T4:=T3.trans s4
   have gr4:=T4 _ _ gr
   have hnew:valV (rK row) (.inr zs[i]) = none:=by
    cases e:valV (rK row) (.inr zs[i]) with
    | none=>rfl
    | some v=>
     have:=valV_in e
     rw [rK_keys,gn] at this
     obtain ⟨y,hy,ey⟩:=List.mem_map.mp this
     injection ey with ey
     subst ey
     obtain ⟨j,hj,ej⟩:=List.mem_take_iff_getElem.mp hy
     have:j = i:=(List.getElem_inj zn).mp ej
     omega
   have rl:row.length = i:=by
    have:=congrArg List.length gn
    rw [List.length_map,List.length_take] at this
    omega
   refine ⟨_,rfl,_,rfl,r,_,rfl,.inl ⟨_,.inr zs[i],gr4,rfl,(by unfold rK;rw [List.length_map,sizeLine_eq];omega),rfl⟩,?_⟩
   rw [L2.putK_new _ hnew]
   have nlr:l ≠ r:=fun e=>by rw [e,gr] at gl;cases gl
   have nxr:x ≠ r:=fun e=>by rw [e,gr] at gx;cases gx
   have st:STup H4 (upd H4 r (.dK (rK row ++ [(.inr zs[i],v)]))):=STup.put fun xs h=>by rw [gr4] at h;cases h
   refine ⟨(sm.trans T4).put hr0,by rw [upd_ne nlr];exact T4 _ _ gl,by rw [upd_ne nxr];exact T4 _ _ gx,row ++ [(zs[i],v)],_,_,rfl,?_,?_,fun c hc=>?_⟩
   ·rw [upd_same]
    unfold rK
    rw [List.map_append]
    rfl
   ·rw [List.map_append,gn,take_last hi]
    rfl
   ·rcases List.mem_append.mp hc with hc | hc
    ·exact ((gc c hc).st (Same.st T4)).st st
    ·rw [List.mem_singleton.mp hc]
     exact ⟨d,a,kk,hv.st st,by rw [ev,eva],(hkt.st (Same.st (sm.trans T4))).st st,hkg,hfit⟩
  ·rintro σ H' ⟨sm,gl,gx,row,u5,u6,rfl,gr,gn,gc⟩
   rw [List.length_map,List.take_length] at gn
   exact ⟨_,rfl,q r row H' sm (cut_at hr0 gr) ⟨by rw [gn];exact hzs,gc⟩⟩
theorem ok_rows {f fS fR fV fP fT:Addr} {fd fdS fdR fdV fdP fdT:FuncData} (F:Fun K "_law_rows" "_law_rows" (top 47) f fd) (B:Bl mg) (DS:Df K mg "_law_stream" (top 35) fS fdS) (DR:Df K mg "_law_row" (top 46) fR fdR) (DV:Df K mg "_law_value" (top 45) fV fdV) (DP:Df K mg "_law_plain_value" (top 44) fP fdP) (DT:Df K mg "_law_text" (top 43) fT fdT):FnOk P w K mg base CX0 5 f fd ["_law_sort","_law_columns_here","_law_number","_law_size"] (spRows K):=by
 have sc:FnScope ["_law_sort","_law_columns_here","_law_number","_law_size","_law_xs","_law_many"] ["_law_sort","_law_columns_here","_law_number","_law_size"] (defScope (top 47)):=⟨rfl,rfl,rfl,by decide +kernel,rfl,by decide +kernel,by decide +kernel⟩
 have GS:FnOk P w K mg base CX0 1 fS fdS ["_law_cell_here","_law_many"] spStream:=ok_stream DS.fn B
 have bS:=DS.fn.binds (ps:=["_law_cell_here","_law_many"]) fun _ _ _ _ _ _ us hl=>by obtain ⟨v0,v1,rfl⟩:=L2.ln2 hl;rfl
 have GR:FnOk P w K mg base CX0 4 fR fdR ["_law_columns_here","_law_number","_law_size"] (spRow K):=ok_row DR.fn B DS DV DP DT
 have bR:=DR.fn.binds (ps:=["_law_columns_here","_law_number","_law_size"]) fun _ _ _ _ _ _ us hl=>by obtain ⟨v0,v1,v2,rfl⟩:=L2.ln3 hl;rfl
 refine F.ok sc (fun vs H Q E h=>?_) (fun cdv A outer s H vs Q E hr h=>?_)
 ·obtain ⟨so,cd,cols,n,sz,rfl,_⟩:=h
  rfl
 ·obtain ⟨so,cd,cols,n,sz,rfl,hso,hcd,ok,s1,q⟩:=h
  have hr1:Room 1 _:=hr.mono (by decide)
  have ndA:(["_law_k","_law_columns_here","_law_xs","_law_size"]:List Str).Nodup:=by decide +kernel
  refine ⟨_,pss_cons (ps_set (i:=4) sc.nd rfl (Or.inr rfl) (pe_call GS hr1 (by rfl) DS.mg DS.fn.kp bS .nil pass0 (pa_cons (pv 2) (pa_cons pe_int pa_nil))))
   (pss_cons (ps_set (i:=5) sc.nd rfl (Or.inl rfl) pe_int)
   (pss_cons (ps_cut (ps_if (PW.pt (pw_or (pt_cmpR op_eq (pv 0) pe_str (nomark _)) (pw_or1 (pt_cmpR op_eq (pv 0) pe_str (nomark _))))) (pss_cons (ps_set (i:=5) sc.nd rfl (Or.inl rfl) (pe_op op_mod (pe_ix ix_list (pv 4) pe_int (fun _ _=>rfl)) pe_int))
    (pss_one (ps_if (pt_cmpR op_eq (pe_op op_mod (pe_op op_fdiv (pe_ix ix_list (pv 4) pe_int (fun _ _=>rfl)) pe_int) pe_int) pe_int (nomark _)) (pss_one (ps_set (i:=5) sc.nd rfl (Or.inl rfl) (pe_op op_mod (pe_op op_fdiv (pe_ix ix_list (pv 4) pe_int (fun _ _=>rfl)) pe_int) pe_int))) pss_nil))) pss_nil))
   (pss_cons (ps_cut (ps_if (pt_cmpR op_eq (pv 0) pe_str (nomark _)) (pss_one (ps_set (i:=5) sc.nd rfl (Or.inl rfl) (pe_op op_add (pv 5) pe_int))) pss_nil))
   (pss_one (ps_ret (pe_comp (osc:=defScope (top 47)) (N0:=["_law_sort","_law_columns_here","_law_number","_law_size","_law_xs","_law_many"]) (xs:=["_law_k"]) (fr:=[1,4,3]) ⟨rfl,by decide +kernel,by decide +kernel,by decide +kernel,(fun j hj=>by
       have e:j = 1\/j = 4\/j = 3:=by simpa using hj
       rcases e with rfl | rfl | rfl
       ·exact ⟨_,rfl,by decide +kernel⟩
       ·exact ⟨_,rfl,by decide +kernel⟩
       ·exact ⟨_,rfl,by decide +kernel⟩),by decide +kernel⟩ rfl rfl rfl (pi_range1 rfl B.range (pa_cons (pv 5) pa_nil))
     (fun s H fp=>pg_name (i:=0) ndA rfl (Or.inl rfl)) (fun s H fp=>pif_nil)
     (fun s H fp=>pe_call GR hr (by rfl) DR.mg DR.fn.kp bR .nil pass0 (pa_cons (pv 1) (pa_cons (pe_op op_add (pe_ix (r:=rIxL K) ix_list (pv 2) pe_int (fun _ _=>rfl)) (pe_op op_mul pe_int (pv 0))) (pa_cons (pv 3) pa_nil)))))))))),?_⟩
  refine ⟨_,rfl,n,2,rfl,by decide,by decide,fun x H1 xs s1' hx hxl hxs=>?_⟩
  have atl:=nthI (n:=2) (by omega) hxs
  obtain ⟨x0,a0,_⟩:=atl 0 (by decide)
  obtain ⟨x1,a1,_⟩:=atl 1 (by decide)
  have ms:∀ m:Int,(so = "many"\/so = "some"->0 ≤ m/\m ≤ 30)->(so = "head"\/so = "twin"->m = 1)->0 ≤ m/\m ≤ 30:=fun m h1 h2=>by
   have hc:so = "head"\/so = "twin"\/so = "many"\/so = "some":=by simpa [sorts] using hso
   rcases hc with h | h | h | h
   ·have:=h2 (.inl h);omega
   ·have:=h2 (.inr h);omega
   ·exact h1 (.inl h)
   ·exact h1 (.inr h)
  refine ⟨fun σ' H'=>H' = H1/\∃ m:Int,σ' = [some (.str so),some (.ref cd),some (.int n),some (.int sz),some (.ref x),some (.int m)]/\(so = "many"\/so = "some"->0 ≤ m/\m ≤ 30)/\(so = "head"\/so = "twin"->m = 1),?_,?_⟩
  ·have b0:=Int.emod_nonneg x0 (show (4:Int) ≠ 0 by decide)
   have b4:=Int.emod_lt_of_pos x0 (show (0:Int) < 4 by decide)
   have d0:=Int.emod_nonneg (x0 / 32) (show (31:Int) ≠ 0 by decide)
   have d4:=Int.emod_lt_of_pos (x0 / 32) (show (0:Int) < 31 by decide)
   have body:(so = "many"\/so = "some")->tSeq (tAsg (tOp (rI (fun _ j=>0 < j) fun i j=>.int (i % j)) (tOp (rIxL K) (tVar 4) (tC (.int 0))) (tC (.int 4))) (gName 5)) (tIfS (tTest (tOp (rEq) (tOp (rI (fun _ j=>0 < j) fun i j=>.int (i % j)) (tOp (rI CDiv fun i j=>.int (i / j)) (tOp (rIxL K) (tVar 4) (tC (.int 0))) (tC (.int 4))) (tC (.int 8))) (tC (.int 1)))) (tAsg (tOp (rI (fun _ j=>0 < j) fun i j=>.int (i % j)) (tOp (rI CDiv fun i j=>.int (i / j)) (tOp (rIxL K) (tVar 4) (tC (.int 0))) (tC (.int 32))) (tC (.int 31))) (gName 5)) tNext) { nx:=fun σ' H'=>H' = H1/\∃ m:Int,σ' = [some (.str so),some (.ref cd),some (.int n),some (.int sz),some (.ref x),some (.int m)]/\(so = "many"\/so = "some"->0 ≤ m/\m ≤ 30)/\(so = "head"\/so = "twin"->m = 1),rt:=Q } [some (.str so),some (.ref cd),some (.int n),some (.int sz),some (.ref x),some (.int 1)] H1:=fun hs=>by
    have nh:so = "head"\/so = "twin"->False:=fun h=>by
     rcases hs with rfl | rfl <;> rcases h with h | h <;> exact absurd h (by decide +kernel)
    refine ⟨_,rfl,x,_,0,_,rfl,rfl,SqL.of hx,a0,_,_,rfl,rfl,(pos rfl),?_⟩
    refine ⟨_,rfl,x,_,0,_,rfl,rfl,SqL.of hx,a0,_,_,rfl,rfl,⟨by decide,by decide⟩,_,_,rfl,rfl,(pos rfl),rfl,_,rfl,?_⟩
    refine ite2 (fun _=>?_) (fun _=>?_)
    ·exact ⟨_,rfl,x,_,0,_,rfl,rfl,SqL.of hx,a0,_,_,rfl,rfl,⟨by decide,by decide⟩,_,_,rfl,rfl,(pos rfl),rfl,_,rfl,(fun _=>by omega),fun h=>(nh h).elim⟩
    ·exact ⟨rfl,_,rfl,(fun _=>by omega),fun h=>(nh h).elim⟩
   by_cases hm:so = "many"
   ·exact ⟨_,rfl,rfl,_,rfl,iteB (by rw [hm];decide +kernel) (iteT (body (.inl hm)))⟩
   refine ⟨_,rfl,rfl,_,rfl,iteC (decide_eq_false fun e=>hm (by injection e)) ⟨_,rfl,rfl,_,rfl,?_⟩⟩
   by_cases hs:so = "some"
   ·exact iteB (by rw [hs];decide +kernel) (body (.inr hs))
   ·exact iteC (decide_eq_false fun e=>hs (by injection e)) ⟨rfl,1,rfl,(fun h=>by rcases h with h | h;exact absurd h hm;exact absurd h hs),fun _=>rfl⟩
  rintro σ' H' ⟨rfl,m,rfl,hm1,hm2⟩
  refine ⟨fun σ' H''=>H'' = H'/\∃ m:Int,σ' = [some (.str so),some (.ref cd),some (.int n),some (.int sz),some (.ref x),some (.int m)]/\0 ≤ m/\m ≤ 31/\¬ BadN so m.toNat,?_,?_⟩
  ·have m30:=ms m hm1 hm2
   by_cases hs:so = "some"
   ·refine ⟨_,rfl,rfl,_,rfl,iteB (by rw [hs];decide +kernel) ⟨_,rfl,_,_,rfl,rfl,rfl,_,rfl,by omega,by omega,fun hb=>?_⟩⟩
    rcases hb with ⟨h,_⟩ | ⟨_,h⟩
    ·rw [hs] at h
     exact absurd h (by decide +kernel)
    ·omega
   ·refine ⟨_,rfl,rfl,_,rfl,iteC (decide_eq_false fun e=>hs (by injection e)) ⟨rfl,m,rfl,by omega,by omega,fun hb=>?_⟩⟩
    rcases hb with ⟨h,h2⟩ | ⟨h,_⟩
    ·have:so = "head"\/so = "twin":=by simpa [lone] using h
     have:=hm2 this
     omega
    ·exact hs h
  rintro σ' H'' ⟨rfl,m,rfl,m0,m31,hbad⟩
  refine ⟨_,rfl,_,rfl,(by omega),(by omega),fun D hD=>?_⟩
  have S1:=s1'
  refine compW_idx m.toNat (fun i ys σ' Hc=>(∃ t0,σ' = [t0,some (.ref cd),some (.ref x),some (.int sz)])/\Same H'' Hc/\∃ (rs:List Addr) (rows:List Rw),ys = rs.map V.ref/\rows.length = i/\F2 (fun r row=>cut (upd H'' D (.lst [])) Hc r = some (.dK (rK row))) rs rows/\∀ row ∈ rows,RowFit Hc sz cols row) (by rw [sizeLine_eq];omega) ⟨⟨none,rfl⟩,Same.upd hD,[],[],rfl,rfl,.nil,fun r h=>nomatch h⟩ upd_same ?_ ?_
  ·rintro i σ' Hc ys hi ⟨⟨t0,rfl⟩,sm,rs,rows,rfl,rl,hf,hfit⟩ hyl hD'
   refine ⟨hi,?_⟩
   rintro y H3 ⟨rfl,rfl⟩
   refine ⟨_,rfl,_,rfl,x,_,1,_,rfl,rfl,SqL.of (sm _ _ hx),a1,_,rfl,_,_,rfl,rfl,.inl ⟨by decide,by decide⟩,_,_,rfl,rfl,_,rfl,cd,cols,_,sz,rfl,(S1.trans sm) _ _ hcd,ok.same (S1.trans sm),s1,fun r row H4 s4 hr4 hfit4=>?_⟩
   have b2:=cut_new hr4
   have nrD:r ≠ D:=fun e=>by rw [e,hD'] at b2;cases b2
   have nlD:∀ (o:HO),STup H4 (upd H4 D o):=fun o=>STup.put fun xs h=>by rw [s4 _ _ hD'] at h;cases h
   refine ⟨s4 _ _ hD',⟨_,rfl⟩,(sm.trans s4).put hD,rs ++ [r],rows ++ [row],by rw [List.map_append];rfl,by rw [List.length_append,rl];rfl,F2.snoc (hf.imp fun r' row' e=>?_) (cut_at (by rw [upd_ne nrD];exact none_of sm b2) (by rw [upd_ne nrD];exact cut_sub _ _ hr4)),fun row' hrow'=>?_⟩
   ·have nb:r' ≠ D:=fun e2=>by have:=cut_new e;rw [e2,upd_same] at this;cases this
    exact cut_at (cut_new e) (by rw [upd_ne nb];exact s4 _ _ (cut_sub _ _ e))
   ·rcases List.mem_append.mp hrow' with h | h
    ·exact ((hfit row' h).st (Same.st s4)).st (nlD _)
    ·rw [List.mem_singleton.mp h]
     exact hfit4.st (nlD _)
  ·rintro σ' Hc ys ⟨_,sm,rs,rows,rfl,rl,hf,hfit⟩ hDn hyl
   refine ⟨Nat.le_refl _,q D rows Hc (S1.trans sm) ⟨rs,cut_at (none_of S1 hD) hDn,hf.imp fun r row e=>?_⟩ hfit (by rw [rl];exact hbad) (by omega)⟩
   have b2:=cut_new e
   have nb:r ≠ D:=fun e2=>by rw [e2,upd_same] at b2;cases b2
   rw [upd_ne nb] at b2
   exact cut_at (none_of S1 b2) (cut_sub _ _ e)
end
end My
namespace L2
open PySem PySem.Spec PyProof.Rows
section
variable {prog:Program} {w:World} {A:Around} {E:Value->Shared->Prop} {s:Shared} {R:Result->Shared->Prop} {K:Type} [DecidableEq K] {knd:KeyKind prog w K} {d:Addr} {kvs:List (K × Value)} {ep:Nat}
theorem hint_dict {Q:Bool->Shared->Prop} (hm:s.heap.DictAt knd d kvs ep) (h:Q false s):wpAny (model prog w) A (Builtin.List.listLengthHint (.ref d)) Q E s:=by
 have T:=hm.dictOf.typeIs
 unfold Builtin.List.listLengthHint
 refine wpAny_bind (wpAny_specialOf T F.slot_dict_len.lookup ?_)
 generalize hid:("dict.__len__":String) = id0
 wp_delta
 rw [show splitId id0 = some ("dict","__len__") from by subst hid;decide +kernel]
 subst hid
 refine wpAny_bind (wpAny_isInstance (T:="dict") (b:=true) T (by rw [isSubtype_type];kernel_rfl) ?_)
 refine wpAny_ite_split (fun hab=>absurd hab (by decide)) (fun _=>?_)
 refine wpAny_ite_split (fun _=>?_) (fun hab=>absurd (by decide +kernel) hab)
 exact wpAny_bind (wpAny_typeOf T (wpAny_pure h))
theorem extend_dict (hh:A.handled = none) (nd:(d == sysModules) = false) (hm:s.heap.DictAt knd d kvs ep) (hlen:kvs.length ≤ sizeLine) (S:Addr) (res:Value) (c₀:Nat) (hS:s.heap.get? S = some { cls:=.type "list",data:=.seq #[] c₀ })
  (hR:∀ h' tk acc' c',(∀ b o,b ≠ S->s.heap.get? b = some o->h'.get? b = some o)->h'.get? S = some { cls:=.type "list",dict:=none,data:=.seq acc' c',slots:=#[] } →
   ItemsOf (fun i v=>∃ k x,kvs[i]? = some (k,x)/\knd.is k v = true) acc' kvs.length->R (.ok (.ret res)) { s with heap:=h',toks:=tk }) :
  wpAny (model prog w) A.in1 (Builtin.List.listExtendWith (.ref S) (.ref d) res)
   (fun fin s'=>match fin with | .done f=>R (.ok f) s' | .again c'=>c'.quiet = true/\codeAny (model prog w) A c' R s') (fun e s'=>R (.error e) s') s:=by
 have T:=hm.dictOf.typeIs
 obtain ⟨od,ed,hod,xd,dd,_⟩:=id hm
 have hSd:S ≠ d:=fun e=>by rw [e,hod] at hS;cases hS;cases dd
 have hSlt:S < s.heap.objs.size:=Heap.lt_size hS
 have hSI:S ≠ s.heap.objs.size:=Nat.ne_of_lt hSlt
 have hdI:d ≠ s.heap.objs.size:=Nat.ne_of_lt (Heap.lt_size hod)
 have hSf:S ∉ [s.heap.objs.size,d]:=fun hm=>by
  rcases List.mem_cons.mp hm with e | e
  ·exact hSI e
  ·exact hSd (List.mem_singleton.mp e)
 have W:=(Walks.dictKeys (prog:=prog) (w:=w) (A:=A.in1) (knd:=knd) hh s.heap.objs.size d hdI kvs ep).toS
 have key:∀ (h:Heap) (c₁ tk:Nat),(h.IsKeyIter s.heap.objs.size d 0 kvs.length ep/\h.DictAt knd d kvs ep)->(∀ b o,b ≠ S->s.heap.get? b = some o->h.get? b = some o) →
   h.get? S = some { cls:=.type "list",data:=.seq #[] c₁ }->codeAny (model prog w) A (.builtin "list.extend.loop" ⟨[.ref S,.ref s.heap.objs.size,res],[]⟩) R { s with heap:=h,toks:=tk }:=by
  intro h c₁ tk hit hk hS₁
  refine codeAny_extend_loopS W hlen S hSf res kvs.length 0 _ #[] c₁ rfl (Nat.zero_le _) hit hS₁ (ItemsOf.nil _) fun s' acc' c' hm hS' hacc=>?_
  rw [Moved.eq_with hm]
  refine hR s'.heap s'.toks acc' c' (fun b o hb e=>hm.heap b o (fun hmem=>?_) (hk b o hb e)) hS' hacc
  rcases List.mem_cons.mp hmem with e' | hmem
  ·exact hb e'
  ·exact absurd (Heap.lt_size e) (by rw [List.mem_singleton.mp hmem];exact Nat.lt_irrefl _)
 unfold Builtin.List.listExtendWith
 refine wpAny_bind (wpAny_typeOf T ?_)
 have h1:Builtin.List.listSameRef (.ref S) (.ref d) = false:=by simp [Builtin.List.listSameRef,hSd]
 simp only [h1,show (Value.type "dict" == Value.type "list") = false by decide,show (Value.type "dict" == Value.type "tuple") = false by decide,Bool.or_false,Bool.false_eq_true,if_false]
 refine wpAny_bind (wpAny_pyIter_dict nd hm ?_)
 have hit₁:((s.heap.push { cls:=.type "dict_keyiterator",data:=.fields #[.ref d,.int 0 0,.int kvs.length 0,.int ep 0] }).IsKeyIter s.heap.objs.size d 0 kvs.length ep/\(s.heap.push { cls:=.type "dict_keyiterator",data:=.fields #[.ref d,.int 0 0,.int kvs.length 0,.int ep 0] }).DictAt knd d kvs ep):=⟨⟨_,Heap.get?_push_size _ rfl,rfl,rfl⟩,hm.push _⟩
 have hS₁:=Heap.get?_push_of_some { cls:=.type "dict_keyiterator",data:=.fields #[.ref d,.int 0 0,.int kvs.length 0,.int ep 0] } hS
 refine wpAny_bind (wpAny_holding (hint_dict (s:={ s with heap:=s.heap.push { cls:=.type "dict_keyiterator",data:=.fields #[.ref d,.int 0 0,.int kvs.length 0,.int ep 0] } }) (hm.push _) ?_))
 refine wpAny_ite_split (fun _=>?_) (fun _=>wpAny_pure ⟨plainId_quiet F.plain_extend_loop _,key _ c₀ _ hit₁ (fun b o _ e=>Heap.get?_push_of_some _ e) hS₁⟩)
 refine wpAny_bind (wpAny_rule ?_)
 refine wpAny_bind ?_
 show wpAny _ _ (updateSeq S (·.push .none) >>= fun _=>updateSeq S (·.pop)) _ _ _
 refine wpAny_bind (wpAny_updateSeq hS₁ rfl ?_)
 have hS₂:=Heap.get?_update_self (Obj.mapSeq (·.push Value.none)) hS₁ rfl
 refine wpAny_updateSeq (hz:=by seq_fits) hS₂ rfl ?_
 have hS₃:=Heap.get?_update_self (Obj.mapSeq (·.pop)) hS₂ rfl
 have oth:∀ b o,b ≠ S->(s.heap.push { cls:=.type "dict_keyiterator",data:=.fields #[.ref d,.int 0 0,.int kvs.length 0,.int ep 0] }).get? b = some o->_:=fun b o hb e=>(Heap.get?_update_other _ (Obj.mapSeq (·.pop)) (Ne.symm hb)).trans ((Heap.get?_update_other _ (Obj.mapSeq (·.push Value.none)) (Ne.symm hb)).trans e)
 refine wpAny_pure ⟨plainId_quiet F.plain_extend_loop _,key _ _ _ ⟨hit₁.1.at fun o e=>oth _ o hSI.symm e,?_⟩ (fun b o hb e=>oth b o hb (Heap.get?_push_of_some _ e)) hS₃⟩
 obtain ⟨o2,es2,e2,r2⟩:=hit₁.2
 exact ⟨o2,es2,oth d o2 hSd.symm e2,r2⟩
theorem call_list_dict {Q:Value->Shared->Prop} (hh:A.handled = none) (nd:(d == sysModules) = false) (hm:s.heap.DictAt knd d kvs ep) (hlen:kvs.length ≤ sizeLine)
  (hQ:∀ h' tk acc' c',(∀ b o,s.heap.get? b = some o->h'.get? b = some o) →
   h'.get? s.heap.objs.size = some { cls:=.type "list",dict:=none,data:=.seq acc' c',slots:=#[] }->ItemsOf (fun i v=>∃ k x,kvs[i]? = some (k,x)/\knd.is k v = true) acc' kvs.length->Q (.ref s.heap.objs.size) { s with heap:=h',toks:=tk }) :
  wpAny (model prog w) A (call (.type "list") [.ref d]) Q E s:=by
 refine callType_codes (Q₁:=fun obj s₁=>obj = .ref s.heap.objs.size/\s₁ = { s with heap:=s.heap.push { cls:=.type "list",data:=.seq #[] } }) F.called_list (F.typeCall_list_1 _) F.entry_list_init
  (code_list_new _ ⟨rfl,rfl⟩) fun obj s₁ h₁=>?_
 obtain ⟨rfl,rfl⟩:=h₁
 have hS:(s.heap.push { cls:=.type "list",data:=.seq #[] }).get? s.heap.objs.size = some { cls:=.type "list",data:=.seq #[] }:=Heap.get?_push_size _ rfl
 have ndS:s.heap.objs.size ≠ d:=(Nat.ne_of_lt hm.lt_size).symm
 refine ⟨⟨_,hS,rfl⟩,F.args_list_init_2 _ _,?_⟩
 show wpAny _ _ (do let old ← Builtin.List.listItems (.ref s.heap.objs.size);Builtin.List.listUpdate (.ref s.heap.objs.size) (fun _=>#[]);letGo old.toList.reverse;Builtin.List.listExtendWith (.ref s.heap.objs.size) (.ref d) .none) _ _ _
 refine wpAny_bind ?_
 unfold Builtin.List.listItems
 refine wpAny_bind (wpAny_seqItems hS rfl (wpAny_pure ?_))
 show wpAny _ _ (updateSeq s.heap.objs.size (fun _=>#[]) >>= fun _=>letGo (#[]:Array Value).toList.reverse >>= fun _=>Builtin.List.listExtendWith (.ref s.heap.objs.size) (.ref d) .none) _ _ _
 refine wpAny_bind (wpAny_updateSeq hS rfl ?_)
 have hS₂:=Heap.get?_update_self (Obj.mapSeq (fun _=>(#[]:Array Value))) hS rfl
 have oth:∀ b o,b ≠ s.heap.objs.size->s.heap.get? b = some o->((s.heap.push { cls:=.type "list",data:=.seq #[] }).update s.heap.objs.size (Obj.mapSeq (fun _=>(#[]:Array Value)))).get? b = some o:=
  fun b o hb e=>(Heap.get?_update_other _ _ (Ne.symm hb)).trans (Heap.get?_push_of_some _ e)
 refine wpAny_bind (wpAny_letGo ?_)
 have hm2:((s.heap.push { cls:=.type "list",data:=.seq #[] }).update s.heap.objs.size (Obj.mapSeq (fun _=>(#[]:Array Value)))).DictAt knd d kvs ep:=by
  obtain ⟨o2,es2,e2,r2⟩:=hm
  exact ⟨o2,es2,oth d o2 ndS.symm e2,r2⟩
 refine extend_dict (A:=A.in1) hh nd hm2 hlen _ .none _ hS₂ fun h' tk acc' c' hk hS' hacc=>?_
 exact ⟨rfl,hQ h' tk acc' c' (fun b o e=>hk b o (Nat.ne_of_lt (Heap.lt_size e)) (oth b o (Nat.ne_of_lt (Heap.lt_size e)) e)) hS' hacc⟩
end
section
variable {X:Cx}
theorem call_listD (hc:X.calm = true):CallR X (.type "list") (fun xs H Q=>∃ (p:Addr) (kvs:List (Key × V)) (zs:List Str),xs = [.ref p]/\Rd H p (.dK kvs)/\kvs.map (·.1) = zs.map Sum.inr/\∀ l,H l = none->Q (.ref l) (upd H l (.lst (zs.map V.str)))):=by
 intro pins s σ H xs us Q I r h
 obtain ⟨p,kvs,zs,rfl,hq,hz,q⟩:=h
 obtain ⟨u,rfl,rx⟩:=vals1 r
 cases rx
 obtain ⟨hlen,lo,vs,kv,dd⟩:=hq.ok I.hok
 obtain ⟨ep,da⟩:=dd.dictAt
 have hl:=kv.len
 have hl2:kvs.length = zs.length:=by simpa using congrArg List.length hz
 refine call_list_dict (I.ok.hd hc) lo da (by rw [← hl];exact hlen) fun h' tk acc c' kp e1 hacc=>?_
 have hS:StrsAre acc.toList zs:=by
  refine strs_at _ _ (by rw [Array.length_toList,hacc.1,← hl,hl2]) fun j v z h1 h2=>?_
  obtain ⟨k,x,hx,hkv⟩:=hacc.2 j v (by rw [← Array.getElem?_toList];exact h1)
  have hk':=kv_key kv hx
  rw [hz,List.getElem?_map,h2] at hk'
  have e:Sum.inr z = k:=by simpa using hk'
  subst e
  exact is_kV hkv
 exact ⟨.ref s.heap.objs.size,_,I.laid (a:=s.heap.objs.size) (o:=.lst (zs.map V.str)) (t':=tk) kp (Nat.le_refl _) ⟨by rw [List.length_map,← hl2];exact hlen,acc.toList,c',vals_strs hS,by simpa using e1⟩,rfl,q _ (I.hok.fresh (Nat.le_refl _))⟩
end
end L2
namespace My
open PySem L2 PyProof.Rows
seal L2.PE L2.PT L2.PW L2.PS L2.PSs L2.PA L2.PI L2.PG L2.PGs L2.OpR L2.UnR L2.CallR L2.IxR L2.SlR L2.MtR L2.PIf L2.PO L2.MtM L2.PC
def WOk (H H':Hp) (v:V) (d:Vd):Prop:=VOk H' v d\/∃ e,v = .ref e/\cut H H' e = some (.dK [])/\d = .one
theorem fl_bl (b:Bool):Fl (.bl b):=⟨rfl,fun z e=>nomatch e⟩
theorem fl_int (i:Int):Fl (.int i):=⟨rfl,fun z e=>nomatch e⟩
theorem fitD_bl {kk:Kk} {sz:Int} {b:Bool}:fitD kk sz (.bl b) .one = false:=by
 cases kk with
 | pl κ=>cases κ <;> rfl
 | onc κ=>cases κ <;> rfl
 | _=>rfl
theorem fitD_ref {kk:Kk} {sz:Int} {e:Addr}:fitD kk sz (.ref e) .one = false:=by
 cases kk with
 | pl κ=>cases κ <;> rfl
 | onc κ=>cases κ <;> rfl
 | _=>rfl
theorem fitD_tn {kk:Kk} {sz:Int} {e:Addr}:fitD kk sz (.ref e) (.tup [.non]) = false:=by
 cases kk with
 | pl κ=>cases κ <;> rfl
 | onc κ=>cases κ <;> rfl
 | key=>rfl
 | lst κ=>
  show (if (decide (("list":Str) = "some") && decide ([V.non].length = 0)) = true then false else [V.non].all (fitP κ)) = false
  rw [if_neg (by decide +kernel)]
  cases κ <;> rfl
 | som κ=>
  show (if (decide (("some":Str) = "some") && decide ([V.non].length = 0)) = true then false else [V.non].all (fitP κ)) = false
  rw [if_neg (by decide +kernel)]
  cases κ <;> rfl
def spWrong:Sp:=fun vs H Q _=>∃ (a:Addr) (kk:Kk) (sz n:Int),vs = [.ref a,.int sz,.int n]/\KkT H a kk/\1 ≤ sz/\∀ v d H',Same H H'->WOk H H' v d->fitD kk sz v d = false->Q v H'
section
variable {P:Program} {w:World} {K:PySem.W.Frag} {mg:Str->Option Value} {base:Heap}
theorem ok_wrong {f:Addr} {fd:FuncData} (F:Fun K "_law_wrong" "_law_wrong" (top 48) f fd):FnOk P w K mg base CX0 1 f fd ["_law_kind_here","_law_size","_law_number"] spWrong:=by
 have sc:FnScope ["_law_kind_here","_law_size","_law_number"] ["_law_kind_here","_law_size","_law_number"] (defScope (top 48)):=⟨rfl,rfl,rfl,by decide +kernel,rfl,by decide +kernel,by decide +kernel⟩
 refine F.ok sc (fun vs H Q E h=>?_) (fun cdv A outer s H vs Q E hr h=>?_)
 ·obtain ⟨a,kk,sz,n,rfl,_⟩:=h
  rfl
 ·obtain ⟨a,kk,sz,n,rfl,hk,s1,q⟩:=h
  refine ⟨_,pss_cons (ps_if (pt_cmpR op_eq (pe_op op_mod (pv 2) pe_int) pe_int (nomark _)) (pss_one (ps_ret pe_bl)) pss_nil)
   (pss_cons (ps_if (pt_cmpR op_eq (pe_op op_mod (pv 2) pe_int) pe_int (nomark _)) (pss_one (ps_ret pe_dnewK)) pss_nil)
   (pss_cons (ps_if (pt_cmpR op_eq (pe_ix ix_tup (pv 0) pe_int (fun _ _=>rfl)) pe_str (nomark _)) (pss_one (ps_ret (pe_ix ix_list (pe_lst (pa_cons (pv 1) (pa_cons (pe_un un_neg pe_int) pa_nil))) (pe_op op_mod (pe_op op_fdiv (pv 2) pe_int) pe_int) (fun _ _=>rfl)))) pss_nil)
   (pss_cons (ps_if (pt_cmpR op_eq (pe_ix ix_tup (pv 0) pe_int (fun _ _=>rfl)) pe_str (nomark _)) (pss_one (ps_ret (pe_ix ix_list (pe_lst (pa_cons (pe_ix ix_tup (pv 0) pe_int (fun _ _=>rfl)) (pa_cons (pe_un un_neg pe_int) pa_nil))) (pe_op op_mod (pe_op op_fdiv (pv 2) pe_int) pe_int) (fun _ _=>rfl)))) pss_nil)
   (pss_cons (ps_if (pt_cmpR op_eq (pe_ix ix_tup (pv 0) pe_int (fun _ _=>rfl)) pe_str (nomark _)) (pss_one (ps_ret (pe_op op_add (pe_ix ix_tup (pv 0) pe_int (fun _ _=>rfl)) pe_int))) pss_nil)
   (pss_one (ps_ret (pe_tup (pa_cons pe_non pa_nil)))))))),?_⟩
  refine ⟨_,rfl,_,_,rfl,rfl,(pos rfl),rfl,_,rfl,?_⟩
  refine ite2 (fun _=>?_) (fun _=>?_)
  ·exact q _ .one _ (Same.refl _) (.inl (.inl ⟨fl_bl _,rfl⟩)) fitD_bl
  refine ⟨_,rfl,_,_,rfl,rfl,(pos rfl),rfl,_,rfl,?_⟩
  refine ite2 (fun _=>?_) (fun _=>?_)
  ·exact fun e he=>q _ .one _ (Same.upd he) (.inr ⟨e,rfl,cut_at he upd_same,rfl⟩) fitD_ref
  obtain ⟨so,rest,hat,hcas⟩:∃ (so:Str) (rest:List V),H a = some (.tup (.str so :: rest))/\((so = "key"/\kk = .key)\/(∃ m,so = "below"/\rest = [.int m]/\kk = .pl (.below m))\/(∃ m,so = "upto"/\rest = [.int m]/\kk = .pl (.upto m))\/(so ≠ "key"/\so ≠ "below"/\so ≠ "upto")):=by
   cases kk with
   | key=>exact ⟨_,[],hk,.inl ⟨rfl,rfl⟩⟩
   | onc κ=>obtain ⟨b,h1,_⟩:=hk;exact ⟨_,_,h1,.inr (.inr (.inr ⟨by decide +kernel,by decide +kernel,by decide +kernel⟩))⟩
   | lst κ=>obtain ⟨b,h1,_⟩:=hk;exact ⟨_,_,h1,.inr (.inr (.inr ⟨by decide +kernel,by decide +kernel,by decide +kernel⟩))⟩
   | som κ=>obtain ⟨b,h1,_⟩:=hk;exact ⟨_,_,h1,.inr (.inr (.inr ⟨by decide +kernel,by decide +kernel,by decide +kernel⟩))⟩
   | pl κ=>
    cases κ with
    | whole=>exact ⟨_,_,hk,.inr (.inr (.inr ⟨by decide +kernel,by decide +kernel,by decide +kernel⟩))⟩
    | below m=>exact ⟨_,_,hk,.inr (.inl ⟨m,rfl,rfl,rfl⟩)⟩
    | upto m=>exact ⟨_,_,hk,.inr (.inr (.inl ⟨m,rfl,rfl,rfl⟩))⟩
    | word=>exact ⟨_,_,hk,.inr (.inr (.inr ⟨by decide +kernel,by decide +kernel,by decide +kernel⟩))⟩
    | without c=>exact ⟨_,_,hk,.inr (.inr (.inr ⟨by decide +kernel,by decide +kernel,by decide +kernel⟩))⟩
  have two:∀ (l:Addr) (H1:Hp) (t:Int),H1 l = some (.lst [.int t,.int (-1)])->∃ i:Int,(i = t\/i = -1)/\atI [V.int t,V.int (-1)] (n / 4 % 2) = some (.int i):=fun l H1 t _=>by
   have j0:=Int.emod_nonneg (n / 4) (show (2:Int) ≠ 0 by decide)
   have j2:=Int.emod_lt_of_pos (n / 4) (show (0:Int) < 2 by decide)
   obtain ⟨j,hj⟩:=Int.eq_ofNat_of_zero_le j0
   rw [hj]
   rcases (show j = 0\/j = 1 by omega) with rfl | rfl
   ·exact ⟨t,.inl rfl,rfl⟩
   ·exact ⟨-1,.inr rfl,rfl⟩
  have a0:atI (V.str so :: rest) 0 = some (.str so):=atI_nat (j:=0) rfl
  refine ⟨_,rfl,a,_,0,.str so,rfl,rfl,SqT.of hat,a0,rfl,_,rfl,?_⟩
  by_cases hk1:so = "key"
  ·have ek:kk = .key:=by
    rcases hcas with ⟨_,h⟩ | ⟨m,h,_⟩ | ⟨m,h,_⟩ | ⟨h,_⟩
    ·exact h
    ·rw [hk1] at h;exact absurd h (by decide +kernel)
    ·rw [hk1] at h;exact absurd h (by decide +kernel)
    ·exact absurd hk1 h
   subst ek
   refine iteB (by rw [hk1];decide +kernel) ⟨_,rfl,_,rfl,(by show 2 ≤ sizeLine;decide),fun l hl=>?_⟩
   have e1:=upd_same (H:=H) (a:=l) (o:=.lst [.int sz,.int (-1)])
   obtain ⟨i,hi,hati⟩:=two l _ sz e1
   refine ⟨_,rfl,_,_,rfl,rfl,⟨by decide,by decide⟩,_,_,rfl,rfl,(pos rfl),l,_,_,.int i,rfl,rfl,SqL.of e1,hati,q _ .one _ (Same.upd hl) (.inl (.inl ⟨fl_int i,rfl⟩)) ?_⟩
   show (decide (0 ≤ i) && decide (i < sz)) = false
   rcases hi with rfl | rfl
   ·rw [decide_eq_false (show ¬ i < i by omega),Bool.and_false]
   ·rw [decide_eq_false (show ¬ (0:Int) ≤ -1 by decide),Bool.false_and]
  refine iteC (decide_eq_false fun e=>hk1 (by injection e)) ⟨_,rfl,a,_,0,.str so,rfl,rfl,SqT.of hat,a0,rfl,_,rfl,?_⟩
  by_cases hk2:so = "below"
  ·obtain ⟨m,er,ek⟩:∃ m,rest = [.int m]/\kk = .pl (.below m):=by
    rcases hcas with ⟨h,_⟩ | ⟨m,h,h2⟩ | ⟨m,h,_⟩ | ⟨_,h,_⟩
    ·exact absurd h hk1
    ·exact ⟨m,h2⟩
    ·rw [hk2] at h;exact absurd h (by decide +kernel)
    ·exact absurd hk2 h
   subst er ek
   refine iteB (by rw [hk2];decide +kernel) ⟨_,rfl,a,_,1,.int m,rfl,rfl,SqT.of hat,rfl,_,rfl,(by show 2 ≤ sizeLine;decide),fun l hl=>?_⟩
   have e1:=upd_same (H:=H) (a:=l) (o:=.lst [.int m,.int (-1)])
   obtain ⟨i,hi,hati⟩:=two l _ m e1
   refine ⟨_,rfl,_,_,rfl,rfl,⟨by decide,by decide⟩,_,_,rfl,rfl,(pos rfl),l,_,_,.int i,rfl,rfl,SqL.of e1,hati,q _ .one _ (Same.upd hl) (.inl (.inl ⟨fl_int i,rfl⟩)) ?_⟩
   show (decide (0 ≤ i) && decide (i < m)) = false
   rcases hi with rfl | rfl
   ·rw [decide_eq_false (show ¬ i < i by omega),Bool.and_false]
   ·rw [decide_eq_false (show ¬ (0:Int) ≤ -1 by decide),Bool.false_and]
  refine iteC (decide_eq_false fun e=>hk2 (by injection e)) ⟨_,rfl,a,_,0,.str so,rfl,rfl,SqT.of hat,a0,rfl,_,rfl,?_⟩
  by_cases hk3:so = "upto"
  ·obtain ⟨m,er,ek⟩:∃ m,rest = [.int m]/\kk = .pl (.upto m):=by
    rcases hcas with ⟨h,_⟩ | ⟨m,h,_⟩ | ⟨m,h,h2⟩ | ⟨_,_,h⟩
    ·exact absurd h hk1
    ·exact absurd h hk2
    ·exact ⟨m,h2⟩
    ·exact absurd hk3 h
   subst er ek
   refine iteB (by rw [hk3];decide +kernel) ⟨_,rfl,a,_,1,.int m,rfl,rfl,SqT.of hat,rfl,_,_,rfl,rfl,q _ .one _ (Same.refl _) (.inl (.inl ⟨fl_int _,rfl⟩)) ?_⟩
   exact decide_eq_false (by omega)
  refine iteC (decide_eq_false fun e=>hk3 (by injection e)) ⟨(by show 1 ≤ sizeLine;decide),fun t ht=>?_⟩
  exact q _ (.tup [.non]) _ (Same.upd ht) (.inl (.inr ⟨t,_,rfl,upd_same,rfl,by decide,fun x hx=>by rw [List.mem_singleton.mp hx];exact ⟨rfl,fun z e=>nomatch e⟩⟩)) fitD_tn
end
end My
namespace My
open PySem L2 PyProof.Rows
seal L2.PE L2.PT L2.PW L2.PS L2.PSs L2.PA L2.PI L2.PG L2.PGs L2.OpR L2.UnR L2.CallR L2.IxR L2.SlR L2.MtR L2.PIf L2.PO L2.MtM L2.PC
theorem nameA:nameS "A" = false:=by decide +kernel
theorem noA {H:Hp} {cols:List (Str × V)} (ok:ColsOk H cols):("A":Str) ∉ cols.map (·.1):=fun h=>by
 obtain ⟨c,hc,e⟩:=List.mem_map.mp h
 have:=(ok.2.2 c hc).1
 rw [e,nameA] at this
 cases this
def setR (row:Rw) (z:Str) (v:V):Rw:=row.map fun c=>if c.1 = z then (z,v) else c
theorem setR_keys (row:Rw) (z:Str) (v:V):(setR row z v).map (·.1) = row.map (·.1):=by
 unfold setR
 rw [List.map_map]
 refine List.map_congr_left fun c _=>?_
 show (if c.1 = z then (z,v) else c).1 = c.1
 split
 ·rename_i h;exact h.symm
 ·rfl
theorem put_setR {row:Rw} {z:Str} {v:V} (h:z ∈ row.map (·.1)):putK (rK row) (.inr z) v = rK (setR row z v):=by
 obtain ⟨c,hc,ec⟩:=List.mem_map.mp h
 unfold putK
 have ha:((rK row).any fun kv=>decide (kv.1 = (.inr z:Key))) = true:=List.any_eq_true.mpr ⟨((.inr c.1:Key),c.2),List.mem_map.mpr ⟨c,hc,rfl⟩,decide_eq_true (by rw [ec])⟩
 rw [if_pos ha]
 unfold rK setR
 rw [List.map_map,List.map_map]
 refine List.map_congr_left fun y _=>?_
 show (if (Sum.inr y.1:Key) = .inr z then ((Sum.inr y.1:Key),v) else (.inr y.1,y.2)) = (fun c:Str × V=>((Sum.inr c.1:Key),c.2)) (if y.1 = z then (z,v) else y)
 by_cases e:y.1 = z
 ·rw [if_pos (by rw [e]),if_pos e,e]
 ·rw [if_neg (fun h=>e (by injection h)),if_neg e]
theorem sameK_len {ks ls:List Key} (h:ks.length ≠ ls.length):sameK ks ls = false:=by
 unfold sameK
 rw [decide_eq_false h,Bool.false_and]
theorem sameK_not {ks ls:List Key} {k:Key} (h1:k ∈ ks) (h2:k ∉ ls):sameK ks ls = false:=by
 unfold sameK
 rw [show (ks.all fun k=>ls.any fun x=>decide (x = k)) = false from ?_,Bool.and_false]
 rw [List.all_eq_false]
 refine ⟨k,h1,?_⟩
 rw [List.any_eq_true]
 rintro ⟨x,hx,e⟩
 exact h2 (by rw [← of_decide_eq_true e];exact hx)
def spRowS (K:PySem.W.Frag):Sp:=fun vs H Q _=>∃ (r cd:Addr) (T:Tb) (row:Rw) (sz wy n:Int),vs = [.ref r,.ref cd,.int sz,.int wy,.int n]/\H r = some (.dK (rK row))/\RowFit H sz T.cols row/\H cd = some (.dK (kvC T.cols))/\ColsOk H T.cols/\TOk T/\1 ≤ sz/\0 ≤ wy/\wy ≤ 4/\∀ x H',Same H H'->RowIs K H' sz T x false->(∀ a,x = .ref a->H a = none)->Q x H'
def rsN:List Str:=["_law_row_here","_law_columns_here","_law_size","_law_way","_law_number","_law_names_here","_law_found","_law_name"]
section
variable {P:Program} {w:World} {K:PySem.W.Frag} {mg:Str->Option Value} {base:Heap}
theorem ok_rowS {f fW:Addr} {fd fdW:FuncData} (F:Fun K "_law_row_spoiled" "_law_row_spoiled" (top 49) f fd) (B:Bl mg) (DW:Df K mg "_law_wrong" (top 48) fW fdW):FnOk P w K mg base CX0 2 f fd ["_law_row_here","_law_columns_here","_law_size","_law_way","_law_number"] (spRowS K):=by
 have sc:FnScope rsN ["_law_row_here","_law_columns_here","_law_size","_law_way","_law_number"] (defScope (top 49)):=⟨rfl,rfl,rfl,by decide +kernel,rfl,by decide +kernel,by decide +kernel⟩
 have GW:FnOk P w K mg base CX0 1 fW fdW ["_law_kind_here","_law_size","_law_number"] spWrong:=ok_wrong DW.fn
 have bW:=DW.fn.binds (ps:=["_law_kind_here","_law_size","_law_number"]) fun _ _ _ _ _ _ us hl=>by obtain ⟨v0,v1,v2,rfl⟩:=L2.ln3 hl;rfl
 refine F.ok sc (fun vs H Q E h=>?_) (fun cdv A outer s H vs Q E hr h=>?_)
 ·obtain ⟨r,cd,T,row,sz,wy,n,rfl,_⟩:=h
  rfl
 ·obtain ⟨r,cd,T,row,sz,wy,n,rfl,hr0,hfit,hcd,ok,tok,s1,w0,w4,q⟩:=h
  have hu:(A.deeper (envOfC "_law_row_spoiled" (defScope (top 49)) s.heap.objs.size f cdv)).units + 1 < cLine:=hu_of hr
  have hu0:(A.deeper (envOfC "_law_row_spoiled" (defScope (top 49)) s.heap.objs.size f cdv)).units < cLine:=by omega
  refine ⟨_,pss_cons (ps_set (i:=5) sc.nd rfl (Or.inl rfl) (pe_callB (call_sortedD rfl) (by rfl) B.sorted boot_sorted (pa_cons (pv 1) pa_nil)))
   (pss_cons (ps_set (i:=6) sc.nd rfl (Or.inl rfl) (pe_callTy call_dict_of (by rfl) B.dict boot_dict (pa_cons (pv 0) pa_nil)))
   (pss_cons (ps_if (pt_cmpR op_eq (pv 3) pe_int (nomark _)) (pss_one (ps_ret (pe_ix ix_list (pe_lst (pa_cons pe_non (pa_cons (pe_lst pa_nil) (pa_cons (pe_tup pa_nil) (pa_cons (pe_callTy (call_listD rfl) (by rfl) B.list boot_list (pa_cons (pv 0) pa_nil)) (pa_cons pe_str pa_nil)))))) (pe_op op_mod (pv 4) pe_int) (fun _ _=>rfl)))) pss_nil)
   (pss_cons (ps_if (PW.pt (pw_or (pt_cmpR op_eq (pv 3) pe_int (nomark _)) (pw_or1 (pt_cmpR (op_eqTs hu0) (pv 5) (pe_lst pa_nil) (nomark _))))) (pss_cons (ps_dput hu (pv 6) pe_str pe_int rfl) (pss_one (ps_ret (pv 6)))) pss_nil)
   (pss_cons (ps_set (i:=7) sc.nd rfl (Or.inl rfl) (pe_ix ix_list (pv 5) (pe_op op_mod (pv 4) (pe_callB call_len_seq (by rfl) B.len PySem.boot_len (pa_cons (pv 5) pa_nil))) (fun _ _=>rfl)))
   (pss_cons (ps_if (pt_cmpR op_eq (pv 3) pe_int (nomark _)) (pss_cons (ps_dput hu (pv 6) (pv 7) (pe_call GW hr (by rfl) DW.mg DW.fn.kp bW .nil pass0 (pa_cons (pe_dget hu (pv 1) (pv 7) (fun _ _=>rfl)) (pa_cons (pv 2) (pa_cons (pe_op op_fdiv (pv 4) (pe_callB call_len_seq (by rfl) B.len PySem.boot_len (pa_cons (pv 5) pa_nil))) pa_nil)))) rfl) (pss_one (ps_ret (pv 6)))) pss_nil)
   (pss_cons (ps_expr (pe_dpop1 (pv 6) (pv 7) ⟨rfl,rfl,rfl,rfl⟩))
   (pss_cons (ps_cut (ps_if (pt_cmpR op_eq (pv 3) pe_int (nomark _)) (pss_one (ps_dput hu (pv 6) pe_str (pe_dget hu (pv 0) (pv 7) (fun _ _=>rfl)) rfl)) pss_nil))
   (pss_one (ps_ret (pv 6)))))))))),?_⟩
  have nd:=hfit.nd tok.1
  have rl:=hfit.len
  have c12:=tok.2
  have nA:("A":Str) ∉ row.map (·.1):=fun h=>noA ok (hfit.1.mem_iff.mp h)
  have kA:valV (rK row) (.inr "A") = none:=by
   cases e:valV (rK row) (.inr "A") with
   | none=>rfl
   | some v=>
    have:=valV_in e
    rw [rK_keys] at this
    obtain ⟨y,hy,ey⟩:=List.mem_map.mp this
    injection ey with ey
    exact absurd (ey ▸ hy) nA
  have ek:(kvC T.cols).map (·.1) = (T.cols.map (·.1)).map Sum.inr:=by unfold kvC;rw [List.map_map,List.map_map];rfl
  have rkl:(rK row).length = T.cols.length:=by unfold rK;rw [List.length_map,rl]
  have nml:(nmK T).length = T.cols.length:=by unfold nmK;rw [List.length_map,List.length_map]
  refine ⟨_,rfl,cd,_,_,rfl,.inl hcd,ek,(by rw [List.length_map];omega),fun l zs hl hzs hso=>?_⟩
  have T1:=Same.upd (o:=.lst (zs.map V.str)) hl
  have e1:=upd_same (H:=H) (a:=l) (o:=.lst (zs.map V.str))
  generalize upd H l (.lst (zs.map V.str)) = H1 at *
  refine ⟨_,rfl,r,_,rfl,.inl (T1 _ _ hr0),fun fr hfr=>?_⟩
  have T2:=Same.upd (o:=.dK (rK row)) hfr
  have e2:=upd_same (H:=H1) (a:=fr) (o:=.dK (rK row))
  generalize upd H1 fr (.dK (rK row)) = H2 at *
  have S2:=T1.trans T2
  have hfr0:H fr = none:=none_of T1 hfr
  have zl:zs.length = T.cols.length:=by rw [hzs.length_eq,List.length_map]
  refine ⟨_,rfl,rfl,_,rfl,?_⟩
  have wyi:∀ {k:Int},wy = k->decide (V.int wy = V.int k) = true:=fun e=>by rw [e];exact decide_eq_true rfl
  have wyn:∀ {k:Int},wy ≠ k->decide (V.int wy = V.int k) = false:=fun h=>decide_eq_false fun e=>h (by injection e)
  by_cases h4:wy = 4
  ·refine iteB (wyi h4) ⟨Nat.zero_le _,fun l1 hl1=>⟨Nat.zero_le _,fun t1 ht1=>⟨_,rfl,r,rK row,row.map (·.1),rfl,.inl ?_,?_,fun l2 hl2=>⟨(by show 5 ≤ sizeLine;decide),fun l3 hl3=>?_⟩⟩⟩⟩
   ·exact (Same.upd ht1) _ _ ((Same.upd hl1) _ _ (S2 _ _ hr0))
   ·rw [rK_keys]
   have U1:=Same.upd (o:=.lst []) hl1
   have f1:=upd_same (H:=H2) (a:=l1) (o:=.lst [])
   generalize upd H2 l1 (.lst []) = H3 at *
   have U2:=Same.upd (o:=.tup []) ht1
   have f2:=upd_same (H:=H3) (a:=t1) (o:=.tup [])
   generalize upd H3 t1 (.tup []) = H4 at *
   have U3:=Same.upd (o:=.lst ((row.map (·.1)).map V.str)) hl2
   have f3:=upd_same (H:=H4) (a:=l2) (o:=.lst ((row.map (·.1)).map V.str))
   generalize upd H4 l2 (.lst ((row.map (·.1)).map V.str)) = H5 at *
   have U4:=Same.upd (o:=.lst [.non,.ref l1,.ref t1,.ref l2,.str "row"]) hl3
   have f4:=upd_same (H:=H5) (a:=l3) (o:=.lst [.non,.ref l1,.ref t1,.ref l2,.str "row"])
   generalize upd H5 l3 (.lst [.non,.ref l1,.ref t1,.ref l2,.str "row"]) = H6 at *
   have S6:=S2.trans (U1.trans (U2.trans (U3.trans U4)))
   have j0:=Int.emod_nonneg n (show (5:Int) ≠ 0 by decide)
   have j5:=Int.emod_lt_of_pos n (show (0:Int) < 5 by decide)
   obtain ⟨x,hx,hxn,hat⟩:∃ x:V,(∃ m,Is K H6 x m/\m ≠ "dict")/\(∀ a,x = .ref a->H a = none)/\atI [V.non,.ref l1,.ref t1,.ref l2,.str "row"] (n % 5) = some x:=by
    obtain ⟨j,hj⟩:=Int.eq_ofNat_of_zero_le j0
    rw [hj]
    rcases (show j = 0\/j = 1\/j = 2\/j = 3\/j = 4 by omega) with rfl | rfl | rfl | rfl | rfl
    ·exact ⟨_,⟨_,Is.non,by decide⟩,(fun a e=>nomatch e),rfl⟩
    ·exact ⟨_,⟨_,⟨.lst ((U2.trans (U3.trans U4)) _ _ f1),by decide⟩,by decide⟩,(fun a e=>by cases e;exact none_of S2 hl1),rfl⟩
    ·exact ⟨_,⟨_,⟨.tup ((U3.trans U4) _ _ f2),by decide⟩,by decide⟩,(fun a e=>by cases e;exact none_of (S2.trans U1) ht1),rfl⟩
    ·exact ⟨_,⟨_,⟨.lst (U4 _ _ f3),by decide⟩,by decide⟩,(fun a e=>by cases e;exact none_of (S2.trans (U1.trans U2)) hl2),rfl⟩
    ·exact ⟨_,⟨_,Is.str,by decide⟩,(fun a e=>nomatch e),rfl⟩
   obtain ⟨m,hm1,hm2⟩:=hx
   exact ⟨_,rfl,_,_,rfl,rfl,(pos rfl),l3,_,_,x,rfl,rfl,SqL.of f4,hat,q x _ S6 (.inl ⟨m,hm1,hm2,rfl⟩) hxn⟩
  refine iteC (wyn h4) ?_
  have more:∀ {H3:Hp},Same H2 H3->tSeq (sDPut (tVar 6) (tC (.str "A")) (tC (.int 0))) (tRet (tVar 6)) { nx:=fun _ H'=>Q .non H',rt:=Q } [some (.ref r),some (.ref cd),some (.int sz),some (.int wy),some (.int n),some (.ref l),some (.ref fr),none] H3:=fun {H3} u=>by
   have e3:=u _ _ e2
   refine ⟨_,rfl,fr,_,rfl,.inl ⟨_,.inr "A",e3,rfl,(by rw [rkl,sizeLine_eq];omega),rfl⟩,_,rfl,?_⟩
   rw [L2.putK_new _ kA]
   refine q _ _ ((S2.trans u).put hfr0) (.inr ⟨fr,_,rfl,upd_same,?_,.inl ⟨sameK_len ?_,rfl⟩⟩) (fun a e=>by cases e;exact hfr0)
   ·rw [List.length_append,rkl]
    show _ + 1 ≤ _
    omega
   ·rw [List.map_append,List.length_append,List.length_map,rkl,nml]
    show _ + 1 ≠ _
    omega
  by_cases h0:wy = 0
  ·exact ⟨_,rfl,rfl,_,rfl,iteB (wyi h0) (iteT (more (Same.refl _)))⟩
  refine ⟨_,rfl,rfl,_,rfl,iteC (wyn h0) ⟨_,rfl,Nat.zero_le _,fun l1 hl1=>?_⟩⟩
  have U1:=Same.upd (o:=.lst (([]:List Str).map V.str)) hl1
  have f1:=upd_same (H:=H2) (a:=l1) (o:=.lst (([]:List Str).map V.str))
  rw [show upd H2 l1 (.lst []) = upd H2 l1 (.lst (([]:List Str).map V.str)) from rfl]
  generalize upd H2 l1 (.lst (([]:List Str).map V.str)) = H3 at *
  refine ⟨l,l1,zs,[],rfl,rfl,SqL.of ((T2.trans U1) _ _ e1),SqL.of f1,_,rfl,?_⟩
  by_cases hz:zs = []
  ·rw [decide_eq_true hz]
   exact iteT (more U1)
  rw [decide_eq_false hz]
  refine iteF ?_
  have S3:=S2.trans U1
  have l3:=(T2.trans U1) _ _ e1
  have z0:0 < zs.length:=by
   cases zs with
   | nil=>exact absurd rfl hz
   | cons _ _=>exact Nat.succ_pos _
  have zsl:(zs.map V.str).length = zs.length:=List.length_map ..
  have i0:=Int.emod_nonneg n (show ((zs.length:Nat):Int) ≠ 0 by omega)
  have i1:=Int.emod_lt_of_pos n (show (0:Int) < (zs.length:Nat) by omega)
  obtain ⟨j,hj⟩:=Int.eq_ofNat_of_zero_le i0
  have hjz:j < zs.length:=by omega
  refine ⟨_,rfl,_,rfl,_,rfl,l,_,rfl,.inl (SqL.of l3),_,_,rfl,rfl,(by rw [zsl];show (0:Int) < (zs.length:Nat);omega),l,_,_,.str zs[j],rfl,rfl,SqL.of l3,(by rw [zsl,hj];exact atI_nat (by rw [List.getElem?_map,List.getElem?_eq_getElem hjz];rfl)),?_⟩
  have hzm:zs[j] ∈ T.cols.map (·.1):=hzs.mem_iff.mp (List.getElem_mem hjz)
  have hzr:zs[j] ∈ row.map (·.1):=hfit.1.mem_iff.mpr hzm
  obtain ⟨c,hc,ec⟩:=List.mem_map.mp hzr
  have hval:valV (rK row) (.inr zs[j]) = some c.2:=by rw [← ec];exact rK_val nd hc
  generalize zs[j] = z at *
  have fr3:=U1 _ _ e2
  refine ⟨_,rfl,rfl,_,rfl,?_⟩
  by_cases h2:wy = 2
  ·refine iteB (wyi h2) ?_
   obtain ⟨d0,a,kk,_,hva,hkt,_,_⟩:=hfit.2 c hc
   rw [ec] at hva
   refine ⟨_,rfl,_,rfl,cd,_,rfl,.inl ⟨_,.inr z,.inl (S3 _ _ hcd),rfl,(val_in hzm).symm⟩,_,rfl,_,rfl,_,rfl,l,_,rfl,.inl (SqL.of l3),_,_,rfl,rfl,⟨by rw [zsl];omega,by rw [zsl];omega⟩,a,kk,sz,_,(by rw [hva];rfl),hkt.st (Same.st S3),s1,fun v d H4 s4 hw hbad=>?_⟩
   have fr4:=s4 _ _ fr3
   refine ⟨_,rfl,_,rfl,fr,_,rfl,.inl ⟨_,.inr z,fr4,rfl,(by rw [rkl,sizeLine_eq];omega),rfl⟩,_,rfl,?_⟩
   rw [put_setR hzr]
   have st:STup H4 (upd H4 fr (.dK (rK (setR row z v)))):=STup.put fun xs h=>by rw [fr4] at h;cases h
   have S4:=S3.trans s4
   have nds:((setR row z v).map (·.1)).Nodup:=by rw [setR_keys];exact nd
   refine q _ _ (S4.put hfr0) (.inr ⟨fr,_,rfl,upd_same,?_,.inr ⟨fun y=>!decide (y = z),?_,fun y hy=>?_,?_⟩⟩) (fun a e=>by cases e;exact hfr0)
   ·unfold rK setR
    rw [List.length_map,List.length_map,rl]
    omega
   ·rw [rK_keys,setR_keys]
    exact sameK_refl (hfit.1.map Sum.inr)
   ·by_cases e:y = z
    ·subst e
     refine ⟨v,d,a,kk,?_,?_,hva,(hkt.st ((Same.st S4).trans st)).ok,by rw [hbad];simp⟩
     ·have hm:(y,v) ∈ setR row y v:=List.mem_map.mpr ⟨c,hc,by rw [if_pos ec]⟩
      exact rK_val nds hm
     ·rcases hw with hw | ⟨e,rfl,he,rfl⟩
      ·exact (hw.st st).val
      ·have ne:e ≠ fr:=fun z=>by have:=cut_new he;rw [z,fr3] at this;cases this
       exact ⟨"dict",⟨.dK (by rw [upd_ne ne];exact cut_sub _ _ he),by decide⟩,by decide,fun z h=>nomatch h⟩
    ·obtain ⟨c',hc',ec'⟩:=List.mem_map.mp (hfit.1.mem_iff.mpr hy)
     obtain ⟨d',a',kk',g1,g2,g3,_,g5⟩:=hfit.2 c' hc'
     rw [ec'] at g2
     refine ⟨c'.2,d',a',kk',?_,((g1.st (Same.st S4)).st st).val,g2,(g3.st ((Same.st S4).trans st)).ok,by rw [g5];show (!decide (y = z)) = true;rw [decide_eq_false e];rfl⟩
     have hm:c' ∈ setR row z v:=List.mem_map.mpr ⟨c',hc',if_neg (by rw [ec'];exact e)⟩
     have:=rK_val nds hm
     rw [ec'] at this
     exact this
   ·symm
    rw [List.all_eq_false]
    exact ⟨z,hzm,by simp⟩
  refine iteC (wyn h2) ?_
  refine ⟨_,rfl,fr,rfl,.inl ⟨_,.inl fr3⟩,_,rfl,_,.inr z,c.2,fr3,rfl,hval,?_⟩
  have dl:=dropK_len (kvs:=rK row) (k:=.inr z) (by rw [rK_keys];exact List.Pairwise.map _ (fun a b h e=>h (by injection e)) nd) (by rw [rK_keys];exact List.mem_map.mpr ⟨z,hzr,rfl⟩)
  have fr4:=upd_same (H:=H3) (a:=fr) (o:=.dK (dropK (rK row) (.inr z)))
  have S4:Same H (upd H3 fr (.dK (dropK (rK row) (.inr z)))):=S3.put hfr0
  generalize upd H3 fr (.dK (dropK (rK row) (.inr z))) = H4 at *
  refine ⟨fun σ' H'=>σ' = [some (.ref r),some (.ref cd),some (.int sz),some (.int wy),some (.int n),some (.ref l),some (.ref fr),some (.str z)]/\Same H H'/\∃ kvs,H' fr = some (.dK kvs)/\kvs.length ≤ 1000/\sameK (kvs.map (·.1)) (nmK T) = false,?_,?_⟩
  ·refine ⟨_,rfl,rfl,_,rfl,?_⟩
   by_cases h3:wy = 3
   ·refine iteB (wyi h3) ⟨_,rfl,_,rfl,r,c.2,rfl,.inl ⟨rK row,.inr z,.inl (S4 _ _ hr0),rfl,hval.symm⟩,_,rfl,fr,_,rfl,.inl ⟨_,.inr "A",fr4,rfl,(by rw [sizeLine_eq];omega),rfl⟩,rfl,S4.put hfr0,_,upd_same,?_,sameK_not (k:=.inr "A") ?_ ?_⟩
    ·have:=length_putK (dropK (rK row) (.inr z)) (.inr "A") c.2
     omega
    ·have:valV (putK (dropK (rK row) (.inr z)) (.inr "A") c.2) (.inr "A") = some c.2:=by rw [valV_put,if_pos rfl]
     exact valV_in this
    ·unfold nmK
     intro h
     obtain ⟨y,hy,ey⟩:=List.mem_map.mp h
     injection ey with ey
     exact noA ok (ey ▸ hy)
   ·exact iteC (wyn h3) ⟨rfl,S4,_,fr4,by omega,sameK_len (by rw [List.length_map,nml];omega)⟩
  rintro σ' H' ⟨rfl,s5,kvs,g1,g2,g3⟩
  exact ⟨_,rfl,q _ _ s5 (.inr ⟨fr,kvs,rfl,g1,g2,.inl ⟨g3,rfl⟩⟩) (fun a e=>by cases e;exact hfr0)⟩
end
end My
namespace My
open PySem L2 PyProof.Rows
seal L2.PE L2.PT L2.PW L2.PS L2.PSs L2.PA L2.PI L2.PG L2.PGs L2.OpR L2.UnR L2.CallR L2.IxR L2.SlR L2.MtR L2.PIf L2.PO L2.MtM L2.PC
def zK (zs:List Str) (ls:List Addr):List (Key × V):=zs.zipWith (fun z v=>((Sum.inr z:Key),v)) (ls.map V.ref)
theorem zK_get {zs:List Str} {ls:List Addr} {j:Nat} {k:Key} {v:V} (h:(zK zs ls)[j]? = some (k,v)):∃ z l,zs[j]? = some z/\ls[j]? = some l/\k = .inr z/\v = .ref l:=by
 unfold zK at h
 rw [zw_get,List.getElem?_map] at h
 cases h1:zs[j]? with
 | none=>rw [h1] at h;cases h
 | some z=>
  cases h2:ls[j]? with
  | none=>rw [h1,h2] at h;cases h
  | some l=>
   rw [h1,h2] at h
   cases h
   exact ⟨z,l,rfl,rfl,rfl,rfl⟩
theorem zK_len {zs:List Str} {ls:List Addr} (h:ls.length = zs.length):(zK zs ls).length = zs.length:=by
 unfold zK
 exact zw_len (by rw [List.length_map];exact h)
theorem zK_keys {zs:List Str} {ls:List Addr} (h:ls.length = zs.length):(zK zs ls).map (·.1) = zs.map Sum.inr:=by
 apply List.ext_getElem?
 intro i
 unfold zK
 rw [List.getElem?_map,zw_get,List.getElem?_map,List.getElem?_map]
 cases h1:zs[i]? with
 | none=>rfl
 | some z=>
  have:i < ls.length:=by rw [h];exact (List.getElem?_eq_some_iff.mp h1).1
  rw [List.getElem?_eq_getElem this]
  rfl
theorem zK_snoc {zs:List Str} {ls:List Addr} {z:Str} {l:Addr} (h:ls.length = zs.length):zK (zs ++ [z]) (ls ++ [l]) = zK zs ls ++ [(.inr z,.ref l)]:=by
 unfold zK
 rw [List.map_append,List.zipWith_append (by rw [List.length_map];exact h.symm)]
 rfl
theorem zK_new {zs:List Str} {ls:List Addr} {z:Str} (h:z ∉ zs):valV (zK zs ls) (.inr z) = none:=by
 unfold valV
 rw [List.find?_eq_none.mpr fun x hx=>?_]
 ·rfl
 ·obtain ⟨k,v⟩:=x
  obtain ⟨i,y,h1,h2,e⟩:=zw_mem hx
  intro hd
  have e2:=of_decide_eq_true hd
  rw [e] at e2
  injection e2 with e2
  exact h (by rw [← e2];exact List.mem_of_getElem? h1)
def TabF (H:Hp) (sz:Int) (l:Addr) (T:Tb) (rows:List Rw):Prop:=RowsAt H l rows/\(∀ row ∈ rows,RowFit H sz T.cols row)/\¬ BadN T.sort rows.length/\rows.length ≤ 31
theorem TabF.same {H H':Hp} {sz:Int} {l:Addr} {T:Tb} {rows:List Rw} (h:TabF H sz l T rows) (s:Same H H'):TabF H' sz l T rows:=⟨h.1.same s,fun row hr=>(h.2.1 row hr).st (Same.st s),h.2.2⟩
theorem TabF.is {K:PySem.W.Frag} {H:Hp} {sz:Int} {l:Addr} {T:Tb} {rows:List Rw} (h:TabF H sz l T rows) (tok:TOk T):RowsIs K H sz T (.ref l) true:=by
 obtain ⟨⟨rs,h1,h2⟩,h3,h4,h5⟩:=h
 have rl:=h2.len
 refine .inr ⟨l,_,rfl,h1,by rw [List.length_map];omega,.inr ⟨by rw [List.length_map,rl];exact h4,rows.map fun _=>true,by rw [List.length_map,List.length_map];exact rl.symm,fun i x c e1 e2=>?_,?_⟩⟩
 ·rw [List.getElem?_map] at e1 e2
  cases hr:rs[i]? with
  | none=>rw [hr] at e1;cases e1
  | some r=>
   cases hw:rows[i]? with
   | none=>rw [hw] at e2;cases e2
   | some row=>
    rw [hr] at e1
    rw [hw] at e2
    cases e1
    cases e2
    exact (h3 row (List.mem_of_getElem? hw)).is tok (h2.get i r row hr hw)
 ·symm
  rw [List.all_eq_true]
  intro b hb
  obtain ⟨_,_,rfl⟩:=List.mem_map.mp hb
  rfl
def PcF (H:Hp) (sz:Int) (Ps:List Tb) (p:Addr) (ls:List Addr) (pr:List (List Rw)):Prop:=H p = some (.dK (zK (Ps.map (·.name)) ls))/\ls.length = Ps.length/\pr.length = Ps.length/\∀ (j:Nat) (l:Addr) (T:Tb) (rows:List Rw),ls[j]? = some l->Ps[j]? = some T->pr[j]? = some rows->TabF H sz l T rows
theorem PcF.same {H H':Hp} {sz:Int} {Ps:List Tb} {p:Addr} {ls:List Addr} {pr:List (List Rw)} (h:PcF H sz Ps p ls pr) (s:Same H H'):PcF H' sz Ps p ls pr:=⟨s _ _ h.1,h.2.1,h.2.2.1,fun j l T rows a b c=>(h.2.2.2 j l T rows a b c).same s⟩
theorem PcF.tab {H:Hp} {sz:Int} {Ps:List Tb} {p:Addr} {ls:List Addr} {pr:List (List Rw)} (h:PcF H sz Ps p ls pr) (nd:(Ps.map (·.name)).Nodup) {T:Tb} (hT:T ∈ Ps):∃ l rows,valV (zK (Ps.map (·.name)) ls) (.inr T.name) = some (.ref l)/\l ∈ ls/\TabF H sz l T rows:=by
 obtain ⟨i,hi⟩:=List.getElem?_of_mem hT
 have hil:i < Ps.length:=(List.getElem?_eq_some_iff.mp hi).1
 have hl:ls[i]? = some (ls[i]'(by rw [h.2.1];exact hil)):=List.getElem?_eq_getElem _
 have hp:pr[i]? = some (pr[i]'(by rw [h.2.2.1];exact hil)):=List.getElem?_eq_getElem _
 exact ⟨_,_,zw_val nd (by rw [List.getElem?_map,hi];rfl) (by rw [List.getElem?_map,hl];rfl),List.mem_of_getElem? hl,h.2.2.2 i _ T _ hl hi hp⟩
theorem PcF.is {K:PySem.W.Frag} {H:Hp} {sz:Int} {Ps Ts:List Tb} {p:Addr} {ls:List Addr} {pr:List (List Rw)} (h:PcF H sz Ps p ls pr) (nd:(Ps.map (·.name)).Nodup) (pm:Ps.Perm Ts) (tok:∀ T ∈ Ps,TOk T) (l8:Ps.length ≤ 8):PieceIs K H sz Ts (.ref p) true:=by
 have ll:ls.length = (Ps.map (·.name)).length:=by rw [List.length_map];exact h.2.1
 refine .inr ⟨p,_,rfl,h.1,by rw [zK_len ll,List.length_map];omega,.inr ⟨fun _=>true,?_,fun T hT=>?_,?_⟩⟩
 ·rw [zK_keys ll]
  exact sameK_refl ((pm.map _).map _)
 ·have hT':=pm.mem_iff.mpr hT
  obtain ⟨l,rows,e1,_,e2⟩:=h.tab nd hT'
  exact ⟨_,e1,e2.is (tok T hT')⟩
 ·rw [List.all_eq_true.mpr fun _ _=>rfl]
theorem PcF.bad {K:PySem.W.Frag} {H H':Hp} {sz:Int} {Ps Ts:List Tb} {p q:Addr} {ls:List Addr} {pr:List (List Rw)} (h:PcF H sz Ps p ls pr) (nd:(Ps.map (·.name)).Nodup) (pm:Ps.Perm Ts) (tok:∀ T ∈ Ps,TOk T) (l8:Ps.length ≤ 8) {T:Tb} (hT:T ∈ Ps) {v:V} (hv:RowsIs K H' sz T v false) (s:Same H H')
  (hq:H' q = some (.dK (putK (zK (Ps.map (·.name)) ls) (.inr T.name) v))):PieceIs K H' sz Ts (.ref q) false:=by
 have ll:ls.length = (Ps.map (·.name)).length:=by rw [List.length_map];exact h.2.1
 obtain ⟨l,rows,e1,_,_⟩:=h.tab nd hT
 have kk:((putK (zK (Ps.map (·.name)) ls) (.inr T.name) v).map (·.1)) = (Ps.map (·.name)).map Sum.inr:=by
  rw [← zK_keys ll]
  unfold putK
  have ha:((zK (Ps.map (·.name)) ls).any fun kv=>decide (kv.1 = (.inr T.name:Key))) = true:=by
   obtain ⟨x,hx,ex⟩:=List.mem_map.mp (valV_in e1)
   exact List.any_eq_true.mpr ⟨x,hx,decide_eq_true ex⟩
  rw [if_pos ha,List.map_map]
  refine List.map_congr_left fun y _=>?_
  show (if y.1 = _ then (y.1,v) else y).1 = y.1
  split <;> rfl
 refine .inr ⟨q,_,rfl,hq,?_,.inr ⟨fun z=>!decide (z = T.name),?_,fun U hU=>?_,?_⟩⟩
 ·have:=congrArg List.length kk
  rw [List.length_map,List.length_map,List.length_map] at this
  omega
 ·rw [kk]
  exact sameK_refl ((pm.map _).map _)
 ·have hU':=pm.mem_iff.mpr hU
  by_cases e:U.name = T.name
  ·have eU:U = T:=by
    obtain ⟨i,hi⟩:=List.getElem?_of_mem hU'
    obtain ⟨j,hj⟩:=List.getElem?_of_mem hT
    have hil:=(List.getElem?_eq_some_iff.mp hi)
    have hjl:=(List.getElem?_eq_some_iff.mp hj)
    have:i = j:=by
     refine (List.getElem_inj nd (h₀:=by rw [List.length_map];exact hil.1) (h₁:=by rw [List.length_map];exact hjl.1)).mp ?_
     rw [List.getElem_map,List.getElem_map,hil.2,hjl.2,e]
    subst this
    rw [hi] at hj
    exact Option.some.inj hj
   subst eU
   refine ⟨v,by rw [valV_put,if_pos rfl],?_⟩
   show RowsIs K H' sz U v (!decide (U.name = U.name))
   rw [decide_eq_true rfl]
   exact hv
  ·obtain ⟨l',rows',e3,_,e4⟩:=h.tab nd hU'
   refine ⟨.ref l',by rw [valV_put,if_neg (fun z=>e (by injection z))];exact e3,?_⟩
   show RowsIs K H' sz U (.ref l') (!decide (U.name = T.name))
   rw [decide_eq_false e]
   exact (e4.same s).is (tok U hU')
 ·symm
  rw [List.all_eq_false]
  exact ⟨T.name,List.mem_map.mpr ⟨T,pm.mem_iff.mp hT,rfl⟩,by simp⟩
def spTooM (K:PySem.W.Frag):Sp:=fun vs H Q _=>∃ (l:Addr) (n sz:Int) (T:Tb) (rows:List Rw),vs = [.str T.sort,.ref l,.int n]/\T.sort ∈ sorts/\TOk T/\TabF H sz l T rows/\∀ v H',Same H H'->RowsIs K H' sz T v false->(∀ l' xs a,v = .ref l'->H' l' = some (.lst xs)->V.ref a ∈ xs->H a = none\/∃ rs,H l = some (.lst rs)/\V.ref a ∈ rs)->Q v H'
section
variable {P:Program} {w:World} {K:PySem.W.Frag} {mg:Str->Option Value} {base:Heap}
theorem ok_tooM {f:Addr} {fd:FuncData} (F:Fun K "_law_too_many" "_law_too_many" (top 50) f fd) (B:Bl mg):FnOk P w K mg base CX0 1 f fd ["_law_sort","_law_rows_here","_law_number"] (spTooM K):=by
 have sc:FnScope ["_law_sort","_law_rows_here","_law_number"] ["_law_sort","_law_rows_here","_law_number"] (defScope (top 50)):=⟨rfl,rfl,rfl,by decide +kernel,rfl,by decide +kernel,by decide +kernel⟩
 refine F.ok sc (fun vs H Q E h=>?_) (fun cdv A outer s H vs Q E hr h=>?_)
 ·obtain ⟨l,n,sz,T,rows,rfl,_⟩:=h
  rfl
 ·obtain ⟨l,n,sz,T,rows,rfl,hso,tok,hF,q⟩:=h
  refine ⟨_,pss_cons (ps_if (pt_cmpR op_eq (pv 0) pe_str (nomark _)) (pss_one (ps_ret (pe_lst pa_nil))) pss_nil)
   (pss_cons (ps_if (pt_cmpR op_eq (pv 0) pe_str (nomark _)) (pss_one (ps_ret (pe_op op_cat (pv 1) (pe_lst (pa_cons pe_non pa_nil))))) pss_nil)
   (pss_cons (ps_if (pt_cmpR op_eq (pe_op op_mod (pv 2) pe_int) pe_int (nomark _)) (pss_one (ps_ret (pe_lst pa_nil))) pss_nil)
   (pss_one (ps_ret (pe_op op_cat (pv 1) (pe_lst (pa_cons (pe_callTy call_dict_of (by rfl) B.dict boot_dict (pa_cons (pe_ix ix_list (pv 1) pe_int (fun _ _=>rfl)) pa_nil)) pa_nil))))))),?_⟩
  obtain ⟨⟨rs,h1,h2⟩,h3,h4,h5⟩:=id hF
  have rl:=h2.len
  have emp:BadN T.sort 0->∀ p,H p = none->Q (.ref p) (upd H p (.lst [])):=fun hb p hp=>q _ _ (Same.upd hp) (.inr ⟨p,[],rfl,upd_same,by decide,.inl ⟨hb,rfl⟩⟩) (fun l' xs a e e1 e2=>by cases e;rw [upd_same] at e1;cases e1;cases e2)
  refine ⟨_,rfl,rfl,_,rfl,?_⟩
  by_cases hs:T.sort = "some"
  ·exact iteB (by rw [hs];decide +kernel) ⟨Nat.zero_le _,emp (.inr ⟨hs,rfl⟩)⟩
  refine iteC (decide_eq_false fun e=>hs (by injection e)) ⟨_,rfl,rfl,_,rfl,?_⟩
  by_cases hm:T.sort = "many"
  ·refine iteB (by rw [hm];decide +kernel) ⟨_,rfl,(by show 1 ≤ sizeLine;decide),fun l1 hl1=>?_⟩
   have U1:=Same.upd (o:=.lst [.non]) hl1
   have f1:=upd_same (H:=H) (a:=l1) (o:=.lst [.non])
   generalize upd H l1 (.lst [.non]) = H1 at *
   refine ⟨l,l1,_,_,rfl,rfl,U1 _ _ h1,f1,(by rw [List.length_map,sizeLine_eq];show _ + 1 ≤ _;omega),fun l2 hl2=>?_⟩
   have U2:=U1.trans (Same.upd (o:=.lst (rs.map V.ref ++ [.non])) hl2)
   refine q _ _ U2 (.inr ⟨l2,_,rfl,upd_same,by rw [List.length_append,List.length_map];show _ + 1 ≤ _;omega,.inr ⟨?_,(rows.map fun _=>true) ++ [false],?_,fun i x c e1 e2=>?_,?_⟩⟩) (fun l' xs a e e1 e2=>by
    cases e
    rw [upd_same] at e1
    cases e1
    rcases List.mem_append.mp e2 with e2 | e2
    ·exact .inr ⟨_,h1,e2⟩
    ·rcases List.mem_singleton.mp e2 with e2
     cases e2)
   ·rintro (⟨h,_⟩ | ⟨h,_⟩)
    ·rw [hm] at h;exact absurd h (by decide +kernel)
    ·exact hs h
   ·rw [List.length_append,List.length_append,List.length_map,List.length_map,rl]
    rfl
   ·by_cases hi:i < rs.length
    ·rw [List.getElem?_append_left (by rw [List.length_map];exact hi),List.getElem?_map,List.getElem?_eq_getElem hi] at e1
     rw [List.getElem?_append_left (by rw [List.length_map];omega),List.getElem?_map,List.getElem?_eq_getElem (show i < rows.length by omega)] at e2
     cases e1
     cases e2
     exact ((h3 _ (List.getElem_mem (show i < rows.length by omega))).st (Same.st U2)).is tok (U2 _ _ (h2.get i _ _ (List.getElem?_eq_getElem hi) (List.getElem?_eq_getElem (by omega))))
    ·have hi':i = rs.length:=by
      have:=(List.getElem?_eq_some_iff.mp e1).1
      rw [List.length_append,List.length_map] at this
      simp at this
      omega
     subst hi'
     rw [List.getElem?_append_right (by rw [List.length_map];exact Nat.le_refl _),List.length_map,Nat.sub_self] at e1
     rw [List.getElem?_append_right (by rw [List.length_map];omega),List.length_map,rl,Nat.sub_self] at e2
     cases e1
     cases e2
     exact .inl ⟨_,Is.non,by decide,rfl⟩
   ·rw [List.all_append]
    simp
  refine iteC (decide_eq_false fun e=>hm (by injection e)) ⟨_,rfl,_,_,rfl,rfl,(pos rfl),rfl,_,rfl,?_⟩
  have hlo:T.sort ∈ lone:=by
   have hc:T.sort = "head"\/T.sort = "twin"\/T.sort = "many"\/T.sort = "some":=by simpa [sorts] using hso
   rcases hc with h | h | h | h
   ·rw [h];decide +kernel
   ·rw [h];decide +kernel
   ·exact absurd h hm
   ·exact absurd h hs
  refine ite2 (fun _=>?_) (fun _=>?_)
  ·exact ⟨Nat.zero_le _,emp (.inl ⟨hlo,by decide⟩)⟩
  have r1:rows.length = 1:=Classical.byContradiction fun h=>h4 (.inl ⟨hlo,h⟩)
  have hrs:0 < rs.length:=by omega
  have h0:=h2.get 0 _ _ (List.getElem?_eq_getElem hrs) (List.getElem?_eq_getElem (show 0 < rows.length by omega))
  refine ⟨_,rfl,_,rfl,l,_,0,.ref rs[0],rfl,rfl,SqL.of h1,atI_nat (j:=0) (by rw [List.getElem?_map,List.getElem?_eq_getElem hrs];rfl),rs[0],_,rfl,.inl h0,fun d hd=>⟨(by show 1 ≤ sizeLine;decide),fun l1 hl1=>?_⟩⟩
  have U0:=Same.upd (o:=.dK (rK rows[0])) hd
  generalize upd H d (.dK (rK rows[0])) = H0 at *
  have U1:=Same.upd (o:=.lst [.ref d]) hl1
  have f1:=upd_same (H:=H0) (a:=l1) (o:=.lst [.ref d])
  generalize upd H0 l1 (.lst [.ref d]) = H1 at *
  refine ⟨l,l1,_,_,rfl,rfl,(U0.trans U1) _ _ h1,f1,(by rw [List.length_map,sizeLine_eq];show _ + 1 ≤ _;omega),fun l2 hl2=>?_⟩
  refine q _ _ (U0.trans (U1.trans (Same.upd hl2))) (.inr ⟨l2,_,rfl,upd_same,by rw [List.length_append,List.length_map];show _ + 1 ≤ _;omega,.inl ⟨.inl ⟨hlo,?_⟩,rfl⟩⟩) (fun l' xs a e e1 e2=>by
   cases e
   rw [upd_same] at e1
   cases e1
   rcases List.mem_append.mp e2 with e2 | e2
   ·exact .inr ⟨_,h1,e2⟩
   ·rcases List.mem_singleton.mp e2 with e2
    cases e2
    exact .inl hd)
  rw [List.length_append,List.length_map]
  show _ + 1 ≠ _
  omega
end
end My
namespace My
open PySem L2 PyProof.Rows
seal L2.PE L2.PT L2.PW L2.PS L2.PSs L2.PA L2.PI L2.PG L2.PGs L2.OpR L2.UnR L2.CallR L2.IxR L2.SlR L2.MtR L2.PIf L2.PO L2.MtM L2.PC
structure PsOk (Ps Ts:List Tb) (H:Hp):Prop where
 nd:(Ps.map (·.name)).Nodup
 pm:Ps.Perm Ts
 tok:∀ T ∈ Ps,TOk T
 l8:Ps.length ≤ 8
 so:∀ T ∈ Ps,T.sort ∈ sorts
 nm:∀ T ∈ Ps,nameS T.name = true
theorem nm_len {z:Str} (h:nameS z = true):z.length ≤ 8:=by
 unfold nameS at h
 rw [Bool.and_eq_true] at h
 exact (of_decide_eq_true h.1).2
theorem nameSp (z:Str):nameS (z ++ " ") = false:=by
 unfold nameS
 have:((z ++ (" ":Str)).cps.toList.all fun c=>decide (c ∈ letters)) = false:=by
  rw [List.all_eq_false]
  refine ⟨32,?_,by decide +kernel⟩
  have e:(z ++ (" ":Str)).cps.toList = z.cps.toList ++ [32]:=by
   show (z.cps ++ (" ":Str).cps).toList = _
   rw [Array.toList_append]
   rfl
  rw [e]
  simp
 rw [this,Bool.and_false]
theorem ty_upD {K:PySem.W.Frag} {H:Hp} {fr:Addr} {kvs kws:List (Key × V)} (hf:H fr = some (.dK kvs)) {v:V} {t:Value} (h:TyOf K H v t):TyOf K (upd H fr (.dK kws)) v t:=by
 have ne:∀ {b:Addr} {o:HO},H b = some o->(∀ k,o ≠ .dK k)->(upd H fr (.dK kws)) b = some o:=fun {b o} e n=>by
  have nb:b ≠ fr:=fun z=>by rw [z,hf] at e;exact n _ (Option.some.inj e).symm
  rw [upd_ne nb]
  exact e
 cases h with
 | non=>exact .non
 | bl x=>exact .bl x
 | int i=>exact .int i
 | str x=>exact .str x
 | flt x=>exact .flt x
 | lst e=>exact .lst (ne e fun k h=>by cases h)
 | frz e=>exact .frz (ne e fun k h=>by cases h)
 | tup e=>exact .tup (ne e fun k h=>by cases h)
 | @dK a k e=>
  by_cases z:a = fr
  ·subst z
   exact .dK upd_same
  ·exact .dK (by rw [upd_ne z];exact e)
 | dT e=>exact .dT (ne e fun k h=>by cases h)
 | ins e a b c d f=>exact .ins (ne e fun k h=>by cases h) a b c d f
theorem is_upD {K:PySem.W.Frag} {H:Hp} {fr:Addr} {kvs kws:List (Key × V)} (hf:H fr = some (.dK kvs)) {v:V} {n:String} (h:Is K H v n):Is K (upd H fr (.dK kws)) v n:=⟨ty_upD hf h.1,h.2⟩
theorem sq_upD {K:PySem.W.Frag} {H:Hp} {fr:Addr} {kvs kws:List (Key × V)} (hf:H fr = some (.dK kvs)) {a:Addr} {xs:List V} (h:SqT K H a xs):SqT K (upd H fr (.dK kws)) a xs:=by
 rcases h with h | h
 ·rcases h with h | ⟨o,h⟩
  ·refine .inl (.inl ?_)
   have nb:a ≠ fr:=fun z=>by rw [z,hf] at h;cases h
   rw [upd_ne nb]
   exact h
  ·refine .inl (.inr ⟨o,?_⟩)
   have nb:a ≠ fr:=fun z=>by rw [z,hf] at h;cases h
   rw [upd_ne nb]
   exact h
 ·exact .inr h
theorem val_upD {K:PySem.W.Frag} {H:Hp} {fr:Addr} {kvs kws:List (Key × V)} (hf:H fr = some (.dK kvs)) {v:V} {d:Vd} (h:Val K H v d):Val K (upd H fr (.dK kws)) v d:=by
 cases d with
 | one=>obtain ⟨n,a,b⟩:=h;exact ⟨n,is_upD hf a,b⟩
 | tup xs=>obtain ⟨p,h1,h2,h3,h4,h5⟩:=h;exact ⟨p,h1,sq_upD hf h2,is_upD hf h3,h4,fun x hx=>let ⟨n,a,b⟩:=h5 x hx;⟨n,is_upD hf a,b⟩⟩
theorem kk_upD {K:PySem.W.Frag} {H:Hp} {fr:Addr} {kvs kws:List (Key × V)} (hf:H fr = some (.dK kvs)) {a:Addr} {kk:Kk} (h:KkOk K H a kk):KkOk K (upd H fr (.dK kws)) a kk:=by
 cases kk with
 | pl κ=>exact sq_upD hf h
 | key=>exact sq_upD hf h
 | onc κ=>obtain ⟨b,h1,h2⟩:=h;exact ⟨b,sq_upD hf h1,sq_upD hf h2⟩
 | lst κ=>obtain ⟨b,h1,h2⟩:=h;exact ⟨b,sq_upD hf h1,sq_upD hf h2⟩
 | som κ=>obtain ⟨b,h1,h2⟩:=h;exact ⟨b,sq_upD hf h1,sq_upD hf h2⟩
theorem RowIs.upD {K:PySem.W.Frag} {H:Hp} {fr:Addr} {kvs kws:List (Key × V)} (hf:H fr = some (.dK kvs)) {sz:Int} {T:Tb} {x:V} {b:Bool} (hx:x ≠ .ref fr) (h:RowIs K H sz T x b):RowIs K (upd H fr (.dK kws)) sz T x b:=by
 rcases h with ⟨n,h1,h2⟩ | ⟨r,ks,rfl,h2,h3,h4⟩
 ·exact .inl ⟨n,is_upD hf h1,h2⟩
 ·have nb:r ≠ fr:=fun z=>hx (by rw [z])
  refine .inr ⟨r,ks,rfl,by rw [upd_ne nb];exact h2,h3,?_⟩
  rcases h4 with h4 | ⟨fz,h5,h6,h7⟩
  ·exact .inl h4
  ·exact .inr ⟨fz,h5,fun z hz=>let ⟨v,d,a,kk,e1,e2,e3,e4,e5⟩:=h6 z hz;⟨v,d,a,kk,e1,val_upD hf e2,e3,kk_upD hf e4,e5⟩,h7⟩
theorem RowsIs.upD {K:PySem.W.Frag} {H:Hp} {fr:Addr} {kvs kws:List (Key × V)} (hf:H fr = some (.dK kvs)) {sz:Int} {T:Tb} {x:V} {b:Bool} (hx:∀ l xs,x = .ref l->H l = some (.lst xs)->V.ref fr ∉ xs) (h:RowsIs K H sz T x b):RowsIs K (upd H fr (.dK kws)) sz T x b:=by
 rcases h with ⟨n,h1,h2⟩ | ⟨l,xs,rfl,h2,h3,h4⟩
 ·exact .inl ⟨n,is_upD hf h1,h2⟩
 ·have nb:l ≠ fr:=fun z=>by rw [z,hf] at h2;cases h2
  have nx:=hx l xs rfl h2
  refine .inr ⟨l,xs,rfl,by rw [upd_ne nb];exact h2,h3,h4.imp id fun ⟨a,bs,b1,b2,b3⟩=>⟨a,bs,b1,fun i x c e1 e2=>(b2 i x c e1 e2).upD hf (fun z=>nx (by rw [← z];exact List.mem_of_getElem? e1)),b3⟩⟩
def spPcS (K:PySem.W.Frag):Sp:=fun vs H Q _=>∃ (p e cd:Addr) (T:Tb) (Ps Ts:List Tb) (ls:List Addr) (pr:List (List Rw)) (sz wy n:Int),vs = [.ref p,.ref e,.int sz,.int wy,.int n]/\PcF H sz Ps p ls pr/\PsOk Ps Ts H/\T ∈ Ps/\H e = some (.tup [.str T.name,.str T.sort,.ref cd])/\H cd = some (.dK (kvC T.cols))/\ColsOk H T.cols/\1 ≤ sz/\0 ≤ wy/\∀ x H',Same H H'->PieceIs K H' sz Ts x false->Q x H'
def psN:List Str:=["_law_piece","_law_part","_law_size","_law_way","_law_number","_law_name","_law_sort","_law_columns_here","_law_found","_law_rows_here","_law_at","_law_row_here"]
section
variable {P:Program} {w:World} {K:PySem.W.Frag} {mg:Str->Option Value} {base:Heap}
theorem ok_pcS {f fM fR fS:Addr} {fd fdM fdR fdS:FuncData} (F:Fun K "_law_piece_spoiled" "_law_piece_spoiled" (top 51) f fd) (B:Bl mg) (hMx:mg "max" = none) (DM:Df K mg "_law_too_many" (top 50) fM fdM) (DR:Df K mg "_law_row" (top 46) fR fdR) (GR:FnOk P w K mg base CX0 4 fR fdR ["_law_columns_here","_law_number","_law_size"] (spRow K)) (DS:Df K mg "_law_row_spoiled" (top 49) fS fdS) (GS:FnOk P w K mg base CX0 2 fS fdS ["_law_row_here","_law_columns_here","_law_size","_law_way","_law_number"] (spRowS K)) :
  FnOk P w K mg base CX0 5 f fd ["_law_piece","_law_part","_law_size","_law_way","_law_number"] (spPcS K):=by
 have sc:FnScope psN ["_law_piece","_law_part","_law_size","_law_way","_law_number"] (defScope (top 51)):=⟨rfl,rfl,rfl,by decide +kernel,rfl,by decide +kernel,by decide +kernel⟩
 have GM:FnOk P w K mg base CX0 1 fM fdM ["_law_sort","_law_rows_here","_law_number"] (spTooM K):=ok_tooM DM.fn B
 have bM:=DM.fn.binds (ps:=["_law_sort","_law_rows_here","_law_number"]) fun _ _ _ _ _ _ us hl=>by obtain ⟨v0,v1,v2,rfl⟩:=L2.ln3 hl;rfl
 have bR:=DR.fn.binds (ps:=["_law_columns_here","_law_number","_law_size"]) fun _ _ _ _ _ _ us hl=>by obtain ⟨v0,v1,v2,rfl⟩:=L2.ln3 hl;rfl
 have bS:=DS.fn.binds (ps:=["_law_row_here","_law_columns_here","_law_size","_law_way","_law_number"]) fun _ _ _ _ _ _ us hl=>match us,hl with | [_,_,_,_,_],_=>rfl
 refine F.ok sc (fun vs H Q E h=>?_) (fun cdv A outer s H vs Q E hr h=>?_)
 ·obtain ⟨p,e,cd,T,Ps,Ts,ls,pr,sz,wy,n,rfl,_⟩:=h
  rfl
 ·obtain ⟨p,e,cd,T,Ps,Ts,ls,pr,sz,wy,n,rfl,hp,pok,hT,he,hcd,cok,s1,w0,q⟩:=h
  have hr1:Room 1 _:=hr.mono (by decide)
  have hr2:Room 2 _:=hr.mono (by decide)
  have hu:(A.deeper (envOfC "_law_piece_spoiled" (defScope (top 51)) s.heap.objs.size f cdv)).units + 1 < cLine:=hu_of hr
  refine ⟨_,pss_cons (ps_asg (pv 1) (pg_tup rfl (pgs_cons (pg_name (i:=5) sc.nd rfl (Or.inl rfl)) (pgs_cons (pg_name (i:=6) sc.nd rfl (Or.inl rfl)) (pgs_cons (pg_name (i:=7) sc.nd rfl (Or.inl rfl)) pgs_nil)))))
   (pss_cons (ps_set (i:=8) sc.nd rfl (Or.inl rfl) (pe_callTy call_dict_of (by rfl) B.dict boot_dict (pa_cons (pv 0) pa_nil)))
   (pss_cons (ps_cut (ps_if (pt_cmpR op_eq (pv 3) pe_int (nomark _)) (pss_one (ps_dput hu (pv 8) pe_str (pe_lst pa_nil) rfl))
    (pss_one (ps_if (PW.pt (pw_or (pt_cmpR op_eq (pv 3) pe_int (nomark _)) (pw_or1 (pt_cmpR op_eq (pv 3) pe_int (nomark _)))))
     (pss_cons (ps_set (i:=9) sc.nd rfl (Or.inl rfl) (pe_dpop1 (pv 8) (pv 5) ⟨rfl,rfl,rfl,rfl⟩)) (pss_one (ps_if (pt_cmpR op_eq (pv 3) pe_int (nomark _)) (pss_one (ps_dput hu (pv 8) (pe_op op_add_str (pv 5) pe_str) (pv 9) rfl)) pss_nil)))
    (pss_one (ps_if (pt_cmpR op_eq (pv 3) pe_int (nomark _)) (pss_one (ps_dput hu (pv 8) (pv 5) (pe_ix ix_list (pe_lst (pa_cons (pe_callTy call_tuple_of (by rfl) B.tuple boot_tuple (pa_cons (pe_dget hu (pv 0) (pv 5) (fun _ _=>rfl)) pa_nil)) (pa_cons pe_non (pa_cons pe_dnewK pa_nil)))) (pe_op op_mod (pv 4) pe_int) (fun _ _=>rfl)) rfl))
    (pss_one (ps_if (pt_cmpR op_eq (pv 3) pe_int (nomark _)) (pss_one (ps_dput hu (pv 8) (pv 5) (pe_call GM hr1 (by rfl) DM.mg DM.fn.kp bM .nil pass0 (pa_cons (pv 6) (pa_cons (pe_dget hu (pv 0) (pv 5) (fun _ _=>rfl)) (pa_cons (pv 4) pa_nil)))) rfl))
    (pss_one (ps_if (pt_cmpR op_eq (pv 3) pe_int (nomark _)) (pss_one (ps_ret (pe_ix ix_list (pe_lst (pa_cons pe_non (pa_cons (pe_lst (pa_cons (pv 0) pa_nil)) (pa_cons (pe_tup pa_nil) (pa_cons (pe_callTy (call_listD rfl) (by rfl) B.list boot_list (pa_cons (pv 0) pa_nil)) (pa_cons pe_bl pa_nil)))))) (pe_op op_mod (pv 4) pe_int) (fun _ _=>rfl))))
    (pss_cons (ps_set (i:=10) sc.nd rfl (Or.inl rfl) (pe_op op_mod (pe_op op_fdiv (pv 4) pe_int) (pe_callB (call_max2 rfl) (by rfl) hMx PyProof.Rows.boot_max (pa_cons pe_int (pa_cons (pe_callB call_len_seq (by rfl) B.len PySem.boot_len (pa_cons (pe_dget hu (pv 0) (pv 5) (fun _ _=>rfl)) pa_nil)) pa_nil)))))
    (pss_cons (ps_set (i:=11) sc.nd rfl (Or.inl rfl) (pe_call GR hr (by rfl) DR.mg DR.fn.kp bR .nil pass0 (pa_cons (pv 7) (pa_cons (pv 4) (pa_cons (pv 2) pa_nil)))))
    (pss_cons (ps_set (i:=11) sc.nd rfl (Or.inl rfl) (pe_call GS hr2 (by rfl) DS.mg DS.fn.kp bS .nil pass0 (pa_cons (pv 11) (pa_cons (pv 7) (pa_cons (pv 2) (pa_cons (pe_op op_mod (pv 4) pe_int) (pa_cons (pe_op op_fdiv (pv 4) pe_int) pa_nil)))))))
    (pss_one (ps_dput hu (pv 8) (pv 5) (pe_op op_cat (pe_op op_cat (pe_slice sl_list (pe_dget hu (pv 0) (pv 5) (fun _ _=>rfl)) po_none (po_some (pv 10))) (pe_lst (pa_cons (pv 11) pa_nil))) (pe_slice sl_list (pe_dget hu (pv 0) (pv 5) (fun _ _=>rfl)) (po_some (pe_op op_add (pv 10) pe_int)) po_none)) rfl)))))))))))))))
   (pss_one (ps_ret (pv 8))))),?_⟩
  refine ⟨_,rfl,e,_,rfl,SqT.of he,rfl,_,_,rfl,_,_,rfl,_,_,rfl,rfl,?_⟩
  refine ⟨_,rfl,p,_,rfl,.inl hp.1,fun fr hfr=>?_⟩
  have T2:=Same.upd (o:=.dK (zK (Ps.map (·.name)) ls)) hfr
  have e2:=upd_same (H:=H) (a:=fr) (o:=.dK (zK (Ps.map (·.name)) ls))
  generalize upd H fr (.dK (zK (Ps.map (·.name)) ls)) = H2 at *
  have wyi:∀ {k:Int},wy = k->decide (V.int wy = V.int k) = true:=fun e=>by rw [e];exact decide_eq_true rfl
  have wyn:∀ {k:Int},wy ≠ k->decide (V.int wy = V.int k) = false:=fun h=>decide_eq_false fun e=>h (by injection e)
  have ll:ls.length = (Ps.map (·.name)).length:=by rw [List.length_map];exact hp.2.1
  have l8:=pok.l8
  have zkl:(zK (Ps.map (·.name)) ls).length = Ps.length:=by rw [zK_len ll,List.length_map]
  have zkk:=zK_keys ll
  have tl:((Ps.map (·.name)).map (Sum.inr (α:=Int))).length = Ps.length:=by rw [List.length_map,List.length_map]
  have pmK:=((pok.pm.map (·.name)).map (Sum.inr (α:=Int)))
  have tsl:((Ts.map (·.name)).map (Sum.inr (α:=Int))).length = Ps.length:=by rw [← pmK.length_eq,tl]
  have notN:∀ {z:Str},nameS z = false->z ∉ Ps.map (·.name):=fun {z} h hm=>by
   obtain ⟨U,hU,rfl⟩:=List.mem_map.mp hm
   rw [pok.nm U hU] at h
   cases h
  have tk:=pok.tok T hT
  obtain ⟨l,rows,hv,hlm,hTF⟩:=hp.tab pok.nd hT
  have dgp:∀ {G:Hp},Same H G->DGet G p (.str T.name) (some (.ref l)):=fun {G} sg=>.inl ⟨_,.inr T.name,.inl (sg _ _ hp.1),rfl,hv.symm⟩
  have bad:∀ {H3:Hp} {v:V},Same H2 H3->RowsIs K H3 sz T v false->(∀ a o,H3 a = some o->a ≠ fr->True)->(upd H3 fr (.dK (putK (zK (Ps.map (·.name)) ls) (.inr T.name) v))) fr = some (.dK (putK (zK (Ps.map (·.name)) ls) (.inr T.name) v)):=fun _ _ _=>upd_same
  refine ⟨fun σ' H'=>σ'[8]? = some (some (.ref fr))/\Same H H'/\PieceIs K H' sz Ts (.ref fr) false,?_,?_⟩
  ·refine ⟨_,rfl,rfl,_,rfl,?_⟩
   by_cases h0:wy = 0
   ·refine iteB (wyi h0) ⟨Nat.zero_le _,fun l1 hl1=>?_⟩
    have U1:=Same.upd (o:=.lst []) hl1
    generalize upd H2 l1 (.lst []) = H3 at *
    have e3:=U1 _ _ e2
    refine ⟨_,rfl,fr,_,rfl,.inl ⟨_,.inr "A",e3,rfl,(by rw [zkl,sizeLine_eq];omega),rfl⟩,rfl,(T2.trans U1).put hfr,.inr ⟨fr,_,rfl,upd_same,?_,.inl ⟨sameK_len ?_,rfl⟩⟩⟩
    ·have:=length_putK (zK (Ps.map (·.name)) ls) (.inr "A") (.ref l1)
     omega
    ·rw [L2.putK_new _ (zK_new (notN nameA)),List.map_append,List.length_append,zkk,tl,tsl]
     show _ + 1 ≠ _
     omega
   refine iteC (wyn h0) ⟨_,rfl,rfl,_,rfl,?_⟩
   have dropl:=dropK_len (kvs:=zK (Ps.map (·.name)) ls) (k:=.inr T.name) (by rw [zkk];exact List.Pairwise.map _ (fun a b h e=>h (by injection e)) pok.nd) (valV_in hv)
   have fr3:=upd_same (H:=H2) (a:=fr) (o:=.dK (dropK (zK (Ps.map (·.name)) ls) (.inr T.name)))
   have S3:Same H (upd H2 fr (.dK (dropK (zK (Ps.map (·.name)) ls) (.inr T.name)))):=T2.put hfr
   have lenbad:sameK ((dropK (zK (Ps.map (·.name)) ls) (.inr T.name)).map (·.1)) ((Ts.map (·.name)).map Sum.inr) = false:=sameK_len (by rw [List.length_map,tsl];omega)
   by_cases h1:wy = 1
   ·refine iteB (wyi h1) (iteT ⟨_,rfl,fr,rfl,.inl ⟨_,.inl e2⟩,_,rfl,_,.inr T.name,.ref l,e2,rfl,hv,?_⟩)
    exact ⟨_,rfl,rfl,_,rfl,iteC (wyn (by omega)) ⟨rfl,S3,.inr ⟨fr,_,rfl,fr3,by omega,.inl ⟨lenbad,rfl⟩⟩⟩⟩
   refine iteC (wyn h1) ⟨_,rfl,rfl,_,rfl,?_⟩
   by_cases h2:wy = 2
   ·refine iteB (wyi h2) ⟨_,rfl,fr,rfl,.inl ⟨_,.inl e2⟩,_,rfl,_,.inr T.name,.ref l,e2,rfl,hv,?_⟩
    generalize upd H2 fr (.dK (dropK (zK (Ps.map (·.name)) ls) (.inr T.name))) = H3 at *
    have n8:=nm_len (pok.nm T hT)
    have sp1:((" ":Str).length) = 1:=by decide +kernel
    refine ⟨_,rfl,rfl,_,rfl,iteB (wyi h2) ⟨_,rfl,_,rfl,_,rfl,_,_,rfl,rfl,(by rw [sizeLine_eq];omega),fr,_,rfl,.inl ⟨_,.inr (T.name ++ (" ":Str)),fr3,rfl,(by rw [sizeLine_eq];omega),rfl⟩,rfl,S3.put hfr,.inr ⟨fr,_,rfl,upd_same,?_,.inl ⟨sameK_not (k:=.inr (T.name ++ (" ":Str))) ?_ ?_,rfl⟩⟩⟩⟩
    ·have:=length_putK (dropK (zK (Ps.map (·.name)) ls) (.inr T.name)) (.inr (T.name ++ (" ":Str))) (.ref l)
     omega
    ·exact valV_in (show valV _ _ = some (V.ref l) by rw [valV_put,if_pos rfl])
    ·intro h
     obtain ⟨y,hy,ey⟩:=List.mem_map.mp h
     injection ey with ey
     exact notN (nameSp T.name) (by rw [← ey];exact (pok.pm.map (·.name)).mem_iff.mpr hy)
   refine iteC (wyn h2) ⟨_,rfl,rfl,_,rfl,?_⟩
   have put:∀ {H3:Hp} {v:V} {σ':L2.St},Same H2 H3->RowsIs K (upd H3 fr (.dK (putK (zK (Ps.map (·.name)) ls) (.inr T.name) v))) sz T v false->σ'[8]? = some (some (.ref fr))->σ'[8]? = some (some (.ref fr))/\Same H (upd H3 fr (.dK (putK (zK (Ps.map (·.name)) ls) (.inr T.name) v)))/\PieceIs K (upd H3 fr (.dK (putK (zK (Ps.map (·.name)) ls) (.inr T.name) v))) sz Ts (.ref fr) false:=fun {H3 v σ'} u hR h8=>by
    have S:Same H (upd H3 fr (.dK (putK (zK (Ps.map (·.name)) ls) (.inr T.name) v))):=(T2.trans u).put hfr
    exact ⟨h8,S,hp.bad pok.nd pok.pm pok.tok l8 hT hR S upd_same⟩
   by_cases h3:wy = 3
   ·obtain ⟨⟨rs,g1,g2⟩,g3,g4,g5⟩:=id hTF
    refine iteB (wyi h3) ⟨_,rfl,_,rfl,p,.ref l,rfl,dgp T2,l,_,rfl,.inl ⟨SqL.of (T2 _ _ g1),fun t1 ht1=>fun d1 hd1=>⟨(by show 3 ≤ sizeLine;decide),fun l1 hl1=>?_⟩⟩⟩
    have U1:=Same.upd (o:=.tup (rs.map V.ref)) ht1
    have f1:=upd_same (H:=H2) (a:=t1) (o:=.tup (rs.map V.ref))
    generalize upd H2 t1 (.tup (rs.map V.ref)) = H3 at *
    have U2:=Same.upd (o:=.dK []) hd1
    have f2:=upd_same (H:=H3) (a:=d1) (o:=.dK [])
    generalize upd H3 d1 (.dK []) = H4 at *
    have U3:=Same.upd (o:=.lst [.ref t1,.non,.ref d1]) hl1
    have f3:=upd_same (H:=H4) (a:=l1) (o:=.lst [.ref t1,.non,.ref d1])
    generalize upd H4 l1 (.lst [.ref t1,.non,.ref d1]) = H5 at *
    have U:=U1.trans (U2.trans U3)
    have e5:=U _ _ e2
    have j0:=Int.emod_nonneg n (show (3:Int) ≠ 0 by decide)
    have j3:=Int.emod_lt_of_pos n (show (0:Int) < 3 by decide)
    have nt:t1 ≠ fr:=fun z=>by rw [z,e2] at ht1;cases ht1
    have nd1:d1 ≠ fr:=fun z=>by rw [z,U1 _ _ e2] at hd1;cases hd1
    obtain ⟨x,hx,hat⟩:∃ x:V,(∀ o,∃ m,Is K (upd H5 fr o) x m/\m ≠ "list")/\atI [V.ref t1,.non,.ref d1] (n % 3) = some x:=by
     obtain ⟨j,hj⟩:=Int.eq_ofNat_of_zero_le j0
     rw [hj]
     rcases (show j = 0\/j = 1\/j = 2 by omega) with rfl | rfl | rfl
     ·exact ⟨_,fun o=>⟨_,⟨.tup (by rw [upd_ne nt];exact (U2.trans U3) _ _ f1),by decide⟩,by decide⟩,rfl⟩
     ·exact ⟨_,fun o=>⟨_,Is.non,by decide⟩,rfl⟩
     ·exact ⟨_,fun o=>⟨_,⟨.dK (by rw [upd_ne nd1];exact U3 _ _ f2),by decide⟩,by decide⟩,rfl⟩
    refine ⟨_,rfl,_,_,rfl,rfl,(pos rfl),l1,_,_,x,rfl,rfl,SqL.of f3,hat,_,rfl,_,rfl,fr,_,rfl,.inl ⟨_,.inr T.name,e5,rfl,(by rw [zkl,sizeLine_eq];omega),rfl⟩,?_⟩
    obtain ⟨m,hm1,hm2⟩:=hx (.dK (putK (zK (Ps.map (·.name)) ls) (.inr T.name) x))
    exact put U (.inl ⟨m,hm1,hm2,rfl⟩) rfl
   refine iteC (wyn h3) ⟨_,rfl,rfl,_,rfl,?_⟩
   by_cases h4:wy = 4
   ·refine iteB (wyi h4) ⟨_,rfl,_,rfl,_,rfl,p,.ref l,rfl,dgp T2,_,rfl,l,n,sz,T,rows,rfl,pok.so T hT,tk,hTF.same T2,fun v H3 u hR hno=>?_⟩
    have e5:=u _ _ e2
    refine ⟨_,rfl,_,rfl,fr,_,rfl,.inl ⟨_,.inr T.name,e5,rfl,(by rw [zkl,sizeLine_eq];omega),rfl⟩,?_⟩
    refine put u (hR.upD e5 fun l' xs e1' e2' hm=>?_) rfl
    rcases hno l' xs fr e1' e2' hm with h | ⟨rs',h1',h2'⟩
    ·rw [e2] at h;cases h
    ·obtain ⟨⟨rs,g1,g2⟩,_⟩:=id hTF
     rw [T2 _ _ g1] at h1'
     cases h1'
     obtain ⟨r',hr',er'⟩:=List.mem_map.mp h2'
     cases er'
     obtain ⟨row,_,e9⟩:=g2.mem hr'
     rw [hfr] at e9
     cases e9
   refine iteC (wyn h4) ⟨_,rfl,rfl,_,rfl,?_⟩
   obtain ⟨⟨rs,g1,g2⟩,g3,g4,g5⟩:=id hTF
   have rl:=g2.len
   by_cases h5:wy = 5
   ·refine iteB (wyi h5) ⟨_,rfl,(by show 1 ≤ sizeLine;decide),fun l1 hl1=>⟨Nat.zero_le _,fun t1 ht1=>⟨_,rfl,p,zK (Ps.map (·.name)) ls,Ps.map (·.name),rfl,.inl ?_,zkk,fun l2 hl2=>⟨(by show 5 ≤ sizeLine;decide),fun l3 hl3=>?_⟩⟩⟩⟩
    ·exact (Same.upd ht1) _ _ ((Same.upd hl1) _ _ (T2 _ _ hp.1))
    have U1:=Same.upd (o:=.lst [.ref p]) hl1
    have f1:=upd_same (H:=H2) (a:=l1) (o:=.lst [.ref p])
    generalize upd H2 l1 (.lst [.ref p]) = H3 at *
    have U2:=Same.upd (o:=.tup []) ht1
    have f2:=upd_same (H:=H3) (a:=t1) (o:=.tup [])
    generalize upd H3 t1 (.tup []) = H4 at *
    have U3:=Same.upd (o:=.lst ((Ps.map (·.name)).map V.str)) hl2
    have f3:=upd_same (H:=H4) (a:=l2) (o:=.lst ((Ps.map (·.name)).map V.str))
    generalize upd H4 l2 (.lst ((Ps.map (·.name)).map V.str)) = H5 at *
    have U4:=Same.upd (o:=.lst [.non,.ref l1,.ref t1,.ref l2,.bl true]) hl3
    have f4:=upd_same (H:=H5) (a:=l3) (o:=.lst [.non,.ref l1,.ref t1,.ref l2,.bl true])
    generalize upd H5 l3 (.lst [.non,.ref l1,.ref t1,.ref l2,.bl true]) = H6 at *
    have j0:=Int.emod_nonneg n (show (5:Int) ≠ 0 by decide)
    have j5:=Int.emod_lt_of_pos n (show (0:Int) < 5 by decide)
    obtain ⟨x,hx,hat⟩:∃ x:V,(∃ m,Is K H6 x m/\m ≠ "dict")/\atI [V.non,.ref l1,.ref t1,.ref l2,.bl true] (n % 5) = some x:=by
     obtain ⟨j,hj⟩:=Int.eq_ofNat_of_zero_le j0
     rw [hj]
     rcases (show j = 0\/j = 1\/j = 2\/j = 3\/j = 4 by omega) with rfl | rfl | rfl | rfl | rfl
     ·exact ⟨_,⟨_,Is.non,by decide⟩,rfl⟩
     ·exact ⟨_,⟨_,⟨.lst ((U2.trans (U3.trans U4)) _ _ f1),by decide⟩,by decide⟩,rfl⟩
     ·exact ⟨_,⟨_,⟨.tup ((U3.trans U4) _ _ f2),by decide⟩,by decide⟩,rfl⟩
     ·exact ⟨_,⟨_,⟨.lst (U4 _ _ f3),by decide⟩,by decide⟩,rfl⟩
     ·exact ⟨_,⟨_,Is.bl,by decide⟩,rfl⟩
    obtain ⟨m,hm1,hm2⟩:=hx
    exact ⟨_,rfl,_,_,rfl,rfl,(pos rfl),l3,_,_,x,rfl,rfl,SqL.of f4,hat,q x _ (T2.trans (U1.trans (U2.trans (U3.trans U4)))) (.inl ⟨m,hm1,hm2,rfl⟩)⟩
   refine iteC (wyn h5) ?_
   have rsl:(rs.map V.ref).length = rs.length:=List.length_map ..
   have mx:∃ M:Int,M = (if ((rs.map V.ref).length:Int) > 1 then ((rs.map V.ref).length:Int) else 1)/\1 ≤ M/\(M ≤ rs.length\/(rs.length = 0/\M = 1)):=⟨_,rfl,by split <;> omega,by rw [rsl];split <;> omega⟩
   obtain ⟨M,hM,M1,M2⟩:=mx
   refine ⟨_,rfl,_,_,rfl,rfl,⟨by decide,by decide⟩,_,rfl,_,rfl,p,.ref l,rfl,dgp T2,l,_,rfl,.inl (SqL.of (T2 _ _ g1)),_,_,rfl,?_⟩
   rw [← hM]
   refine ⟨_,_,rfl,rfl,(show 0 < M by omega),?_⟩
   have at0':=Int.emod_nonneg (n / 5) (show M ≠ 0 by omega)
   have at1:=Int.emod_lt_of_pos (n / 5) (show 0 < M by omega)
   dsimp only
   obtain ⟨k,hk⟩:=Int.eq_ofNat_of_zero_le at0'
   rw [hk]
   have hkM:(k:Int) < M:=by omega
   have w0':=Int.emod_nonneg n (show (5:Int) ≠ 0 by decide)
   have w4':=Int.emod_lt_of_pos n (show (0:Int) < 5 by decide)
   refine ⟨_,rfl,_,rfl,_,rfl,cd,T.cols,n,sz,rfl,T2 _ _ hcd,cok.same T2,s1,fun r row H3 s3 hr3 hfit3=>?_⟩
   have S3:=T2.trans s3
   refine ⟨_,rfl,_,rfl,_,rfl,_,rfl,_,_,rfl,rfl,(pos rfl),_,rfl,_,_,rfl,rfl,⟨by decide,by decide⟩,r,cd,T,row,sz,n % 5,n / 5,rfl,cut_sub _ _ hr3,hfit3,S3 _ _ hcd,cok.same S3,tk,s1,w0',by omega,fun x H4 s4 hx hxn=>?_⟩
   have S4:=S3.trans s4
   have l4:=S4 _ _ g1
   have T24:=s3.trans s4
   refine ⟨_,rfl,_,rfl,p,.ref l,rfl,dgp S4,_,rfl,_,rfl,l,_,rfl,SqL.of l4,fun q1 hq1=>?_⟩
   have U1:=Same.upd (o:=.lst (cutV (rs.map V.ref) none (some (k:Int)))) hq1
   have f1:=upd_same (H:=H4) (a:=q1) (o:=.lst (cutV (rs.map V.ref) none (some (k:Int))))
   generalize upd H4 q1 (.lst (cutV (rs.map V.ref) none (some (k:Int)))) = H5 at *
   refine ⟨_,rfl,(by show 1 ≤ sizeLine;decide),fun q2 hq2=>?_⟩
   have U2:=Same.upd (o:=.lst [x]) hq2
   have f2:=upd_same (H:=H5) (a:=q2) (o:=.lst [x])
   generalize upd H5 q2 (.lst [x]) = H6 at *
   have cl1:=cutV_length (rs.map V.ref) none (some (k:Int))
   have cl2:=cutV_length (rs.map V.ref) (some ((k:Int) + 1)) none
   refine ⟨q1,q2,_,_,rfl,rfl,U2 _ _ f1,f2,(by rw [sizeLine_eq];show _ + 1 ≤ _;omega),fun q3 hq3=>?_⟩
   have U3:=Same.upd (o:=.lst (cutV (rs.map V.ref) none (some (k:Int)) ++ [x])) hq3
   have f3:=upd_same (H:=H6) (a:=q3) (o:=.lst (cutV (rs.map V.ref) none (some (k:Int)) ++ [x]))
   generalize upd H6 q3 (.lst (cutV (rs.map V.ref) none (some (k:Int)) ++ [x])) = H7 at *
   have U13:=U1.trans (U2.trans U3)
   have S7:=S4.trans U13
   refine ⟨_,rfl,_,rfl,p,.ref l,rfl,dgp S7,_,rfl,_,_,rfl,rfl,_,rfl,l,_,rfl,SqL.of (S7 _ _ g1),fun q4 hq4=>?_⟩
   have U4:=Same.upd (o:=.lst (cutV (rs.map V.ref) (some ((k:Int) + 1)) none)) hq4
   have f4:=upd_same (H:=H7) (a:=q4) (o:=.lst (cutV (rs.map V.ref) (some ((k:Int) + 1)) none))
   generalize upd H7 q4 (.lst (cutV (rs.map V.ref) (some ((k:Int) + 1)) none)) = H8 at *
   refine ⟨q3,q4,_,_,rfl,rfl,U4 _ _ f3,f4,(by rw [List.length_append,sizeLine_eq];show _ + 1 + _ ≤ _;omega),fun q5 hq5=>?_⟩
   have U5:=Same.upd (o:=.lst (cutV (rs.map V.ref) none (some (k:Int)) ++ [x] ++ cutV (rs.map V.ref) (some ((k:Int) + 1)) none)) hq5
   have f5:=upd_same (H:=H8) (a:=q5) (o:=.lst (cutV (rs.map V.ref) none (some (k:Int)) ++ [x] ++ cutV (rs.map V.ref) (some ((k:Int) + 1)) none))
   generalize upd H8 q5 (.lst (cutV (rs.map V.ref) none (some (k:Int)) ++ [x] ++ cutV (rs.map V.ref) (some ((k:Int) + 1)) none)) = H9 at *
   have U:=U13.trans (U4.trans U5)
   have S9:=S4.trans U
   have T29:=T24.trans U
   have e9:=T29 _ _ e2
   have hx9:=hx.same U
   have xfr:x ≠ .ref fr:=fun z=>by have:=hxn fr z;rw [s3 _ _ e2] at this;cases this
   have rsfr:V.ref fr ∉ rs.map V.ref:=fun hm=>by
    obtain ⟨r',hr',er'⟩:=List.mem_map.mp hm
    cases er'
    obtain ⟨row,_,e0⟩:=g2.mem hr'
    rw [hfr] at e0
    cases e0
   have rowAt:∀ (j:Nat) (y:V),(rs.map V.ref)[j]? = some y->RowIs K H9 sz T y true:=fun j y hy=>by
    rw [List.getElem?_map] at hy
    cases hj:rs[j]? with
    | none=>rw [hj] at hy;cases hy
    | some r'=>
     rw [hj] at hy
     cases hy
     have hjl:j < rows.length:=by rw [← rl];exact (List.getElem?_eq_some_iff.mp hj).1
     exact ((g3 _ (List.getElem_mem hjl)).st (Same.st S9)).is tk (S9 _ _ (g2.get j r' _ hj (List.getElem?_eq_getElem hjl)))
   have memrow:∀ y ∈ rs.map V.ref,RowIs K H9 sz T y true:=fun y hy=>by
    obtain ⟨j,hj⟩:=List.getElem?_of_mem hy
    exact rowAt j y hj
   have hcA:∀ y ∈ cutV (rs.map V.ref) none (some (k:Int)),y ∈ rs.map V.ref:=fun y hy=>List.mem_of_mem_drop (List.mem_of_mem_take hy)
   have hcB:∀ y ∈ cutV (rs.map V.ref) (some ((k:Int) + 1)) none,y ∈ rs.map V.ref:=fun y hy=>List.mem_of_mem_drop (List.mem_of_mem_take hy)
   have alen:(cutV (rs.map V.ref) none (some (k:Int))).length = k:=by
    rw [cut_to (by omega) (by rw [rsl];omega),List.length_take,rsl]
    omega
   have blen:(cutV (rs.map V.ref) (some ((k:Int) + 1)) none).length = rs.length - (k + 1):=by
    unfold cutV
    rw [HT.sIx_none,List.length_take,List.length_drop,rsl]
    have e:=HT.clip_eq ((k:Int) + 1) rs.length 0
    rw [if_neg (by omega)] at e
    omega
   generalize cutV (rs.map V.ref) none (some (k:Int)) = as at *
   generalize cutV (rs.map V.ref) (some ((k:Int) + 1)) none = bs at *
   have xl:(as ++ [x] ++ bs).length = if rs.length = 0 then 1 else rs.length:=by
    rw [List.length_append,List.length_append,alen,blen]
    show k + 1 + _ = _
    split <;> omega
   have nb:¬ BadN T.sort (as ++ [x] ++ bs).length:=by
    rw [xl]
    rintro (⟨h,h'⟩ | ⟨h,h'⟩)
    ·split at h'
     ·exact h' rfl
     ·exact g4 (.inl ⟨h,by rw [← rl];exact h'⟩)
    ·split at h'
     ·cases h'
     ·omega
   refine ⟨_,rfl,_,rfl,fr,_,rfl,.inl ⟨_,.inr T.name,e9,rfl,(by rw [zkl,sizeLine_eq];omega),rfl⟩,put T29 (RowsIs.upD e9 (fun l' xs e1' e2' hm=>?_) (.inr ⟨q5,_,rfl,f5,by rw [xl];split <;> omega,.inr ⟨nb,as.map (fun _=>true) ++ [false] ++ bs.map (fun _=>true),?_,fun i y c h1 h2=>?_,?_⟩⟩)) rfl⟩
   ·cases e1'
    rw [f5] at e2'
    cases e2'
    rcases List.mem_append.mp hm with hm | hm
    ·rcases List.mem_append.mp hm with hm | hm
     ·exact rsfr (hcA _ hm)
     ·exact xfr (List.mem_singleton.mp hm).symm
    ·exact rsfr (hcB _ hm)
   ·simp
   ·by_cases hi:i < as.length
    ·rw [List.append_assoc,List.getElem?_append_left hi] at h1
     rw [List.append_assoc,List.getElem?_append_left (by rw [List.length_map];exact hi),List.getElem?_map,h1] at h2
     cases h2
     exact memrow y (hcA y (List.mem_of_getElem? h1))
    ·rw [List.append_assoc,List.getElem?_append_right (by omega)] at h1
     rw [List.append_assoc,List.getElem?_append_right (by rw [List.length_map];omega),List.length_map] at h2
     cases hd:i - as.length with
     | zero=>
      rw [hd] at h1 h2
      cases h1
      cases h2
      exact hx9
     | succ j=>
      rw [hd] at h1 h2
      have h1':bs[j]? = some y:=h1
      have h2':(bs.map fun _=>true)[j]? = some c:=h2
      rw [List.getElem?_map,h1'] at h2'
      cases h2'
      exact memrow y (hcB y (List.mem_of_getElem? h1'))
   ·rw [List.all_append,List.all_append]
    simp
  rintro σ' H' ⟨h8,s5,hP⟩
  exact ⟨_,h8,q _ _ s5 hP⟩
end
end My
namespace L2
open PySem PySem.Spec PyProof.Rows
theorem cut_put {H H1:Hp} {r:Addr} {o:HO} (h:H r = none):cut H (upd H1 r o) = upd (cut H H1) r o:=by
 funext b
 by_cases e:b = r
 ·subst e
  rw [upd_same,cut]
  rw [h]
  exact upd_same
 ·rw [upd_ne e]
  unfold cut
  split
  ·rw [upd_ne e]
  ·rfl
theorem cut_upd {H H2:Hp} {a:Addr} {o o':HO} (h:H a = some o'):Same (cut H H2) (cut H (upd H2 a o)):=fun b u e=>by
 have nb:b ≠ a:=fun e2=>by rw [e2,cut] at e;rw [h] at e;cases e
 exact cut_at (cut_new e) (by rw [upd_ne nb];exact cut_sub _ _ e)
end L2
namespace My
open PySem L2 PyProof.Rows
seal L2.PE L2.PT L2.PW L2.PS L2.PSs L2.PA L2.PI L2.PG L2.PGs L2.OpR L2.UnR L2.CallR L2.IxR L2.SlR L2.MtR L2.PIf L2.PO L2.MtM L2.PC
abbrev Pc:=List (Str × List Rw)
def RwOk (H:Hp) (row:Rw):Prop:=((row.map (·.1)).Nodup/\row.length ≤ 12)/\∀ c ∈ row,flt c.2 = true\/∃ a xs,c.2 = .ref a/\H a = some (.tup xs)
def RowsJ (H:Hp) (l:Addr) (rows:List Rw):Prop:=∃ rs:List Addr,H l = some (.lst (rs.map V.ref))/\rs.length = rows.length/\∀ (j:Nat) (r:Addr) (row:Rw),rs[j]? = some r->rows[j]? = some row->H r = some (.dK (rK row))
def PcAt (H:Hp) (p:Addr) (pc:Pc):Prop:=∃ ls:List Addr,H p = some (.dK (zK (pc.map (·.1)) ls))/\ls.length = pc.length/\∀ (j:Nat) (l:Addr) (t:Str × List Rw),ls[j]? = some l->pc[j]? = some t->RowsJ H l t.2
def RowsD (H:Hp) (l:Addr) (rows:List Rw):Prop:=∃ rs:List Addr,H l = some (.lst (rs.map V.ref))/\rs.length = rows.length/\rs.Nodup/\∀ (j:Nat) (r:Addr) (row:Rw),rs[j]? = some r->rows[j]? = some row->H r = some (.dK (rK row))
def PcD (H:Hp) (p:Addr) (pc:Pc):Prop:=∃ ls:List Addr,H p = some (.dK (zK (pc.map (·.1)) ls))/\ls.length = pc.length/\∀ (j:Nat) (l:Addr) (t:Str × List Rw),ls[j]? = some l->pc[j]? = some t->RowsD H l t.2
theorem RowsD.same {H H':Hp} {l:Addr} {rows:List Rw} (h:RowsD H l rows) (s:Same H H'):RowsD H' l rows:=let ⟨rs,a,b,n,c⟩:=h;⟨rs,s _ _ a,b,n,fun j r row x y=>s _ _ (c j r row x y)⟩
theorem PcD.same {H H':Hp} {p:Addr} {pc:Pc} (h:PcD H p pc) (s:Same H H'):PcD H' p pc:=let ⟨ls,a,b,c⟩:=h;⟨ls,s _ _ a,b,fun j l t x y=>(c j l t x y).same s⟩
theorem RowsD.rows {H:Hp} {l:Addr} {rows:List Rw} (h:RowsD H l rows):RowsJ H l rows:=let ⟨rs,a,b,_,c⟩:=h;⟨rs,a,b,c⟩
theorem PcD.pc {H:Hp} {p:Addr} {pc:Pc} (h:PcD H p pc):PcAt H p pc:=let ⟨ls,a,b,c⟩:=h;⟨ls,a,b,fun j l t x y=>(c j l t x y).rows⟩
structure PcOk (H:Hp) (pc:Pc):Prop where
 nd:(pc.map (·.1)).Nodup
 le:pc.length ≤ 8
 rl:∀ t ∈ pc,t.2.length ≤ 1000
 rw_:∀ t ∈ pc,∀ row ∈ t.2,RwOk H row
theorem RowsJ.same {H H':Hp} {l:Addr} {rows:List Rw} (h:RowsJ H l rows) (s:Same H H'):RowsJ H' l rows:=let ⟨rs,a,b,c⟩:=h;⟨rs,s _ _ a,b,fun j r row x y=>s _ _ (c j r row x y)⟩
theorem PcAt.same {H H':Hp} {p:Addr} {pc:Pc} (h:PcAt H p pc) (s:Same H H'):PcAt H' p pc:=let ⟨ls,a,b,c⟩:=h;⟨ls,s _ _ a,b,fun j l t x y=>(c j l t x y).same s⟩
theorem rK_flat {H:Hp} {row:Rw} (ok:RwOk H row) {k:Key} {a:Addr} (ha:∀ xs,H a ≠ some (.tup xs)):(k,V.ref a) ∉ rK row:=fun h=>by
 obtain ⟨c,hc,e⟩:=List.mem_map.mp h
 injection e with _ e2
 rcases ok.2 c hc with h | ⟨b,xs,h1,h2⟩
 ·rw [e2] at h
  cases h
 ·rw [e2] at h1
  injection h1 with h1
  exact ha xs (h1 ▸ h2)
theorem zK_mem {zs:List Str} {ls:List Addr} {j:Nat} {z:Str} {l:Addr} (h1:zs[j]? = some z) (h2:ls[j]? = some l):((.inr z:Key),V.ref l) ∈ zK zs ls:=by
 refine List.mem_of_getElem? (i:=j) ?_
 unfold zK
 rw [zw_get,h1,List.getElem?_map,h2]
 rfl
theorem PcAt.apart {H:Hp} {p:Addr} {pc:Pc} (ok:PcOk H pc) {ls:List Addr} (hp:H p = some (.dK (zK (pc.map (·.1)) ls))) (hl:ls.length = pc.length) {j:Nat} {l:Addr} {t:Str × List Rw} (h1:ls[j]? = some l) (h2:pc[j]? = some t) (hr:RowsJ H l t.2) :
  l ≠ p/\∀ (r:Addr) (row:Rw),row ∈ t.2->H r = some (.dK (rK row))->r ≠ p:=by
 obtain ⟨rs,a1,_⟩:=hr
 refine ⟨(fun e=>by rw [e,hp] at a1;cases a1),fun r row hrow hrr e=>?_⟩
 rw [e,hp] at hrr
 injection hrr with e1
 injection e1 with e2
 have hm:((.inr t.1:Key),V.ref l) ∈ zK (pc.map (·.1)) ls:=zK_mem (j:=j) (by rw [List.getElem?_map,h2];rfl) h1
 rw [e2] at hm
 exact rK_flat (ok.rw_ t (List.mem_of_getElem? h2) row hrow) (fun xs h=>by rw [a1] at h;cases h) hm
def spCopied:Sp:=fun vs H Q _=>∃ (p:Addr) (pc:Pc),vs = [.ref p]/\PcAt H p pc/\PcOk H pc/\∀ p' H',Same H H'->PcD (cut H H') p' pc->Q (.ref p') H'
section
variable {P:Program} {w:World} {K:PySem.W.Frag} {mg:Str->Option Value} {base:Heap}
theorem ok_copied {f:Addr} {fd:FuncData} (F:Fun K "copied" "copied" (top 32) f fd) (B:Bl mg):FnOk P w K mg base CX0 1 f fd ["piece"] spCopied:=by
 have sc:FnScope ["piece","fresh","table","rows"] ["piece"] (defScope (top 32)):=⟨rfl,rfl,rfl,by decide +kernel,rfl,by decide +kernel,by decide +kernel⟩
 refine F.ok sc (fun vs H Q E h=>?_) (fun cdv A outer s H vs Q E hr h=>?_)
 ·obtain ⟨p,pc,rfl,_⟩:=h
  rfl
 ·obtain ⟨p,pc,rfl,hpc,ok,q⟩:=h
  have hu:(A.deeper (envOfC "copied" (defScope (top 32)) s.heap.objs.size f cdv)).units + 1 < cLine:=hu_of hr
  refine ⟨_,pss_cons (ps_set (i:=1) sc.nd rfl (Or.inl rfl) pe_dnewK) (pss_cons (ps_frz (ps_for PassesOwn.never rfl (pi_items (pv 0)) (pg_tup rfl (pgs_cons (pg_name (i:=2) sc.nd rfl (Or.inl rfl)) (pgs_cons (pg_name (i:=3) sc.nd rfl (Or.inl rfl)) pgs_nil)))
    (pss_one (ps_dput hu (pv 1) (pv 2) (pe_comp (osc:=defScope (top 32)) (N0:=["piece","fresh","table","rows"]) (xs:=["row"]) (fr:=[]) ⟨rfl,by decide +kernel,by decide +kernel,by decide +kernel,by decide,by decide +kernel⟩ rfl rfl rfl (pi_list (pv 3))
     (fun s H fp=>pg_name (i:=0) (show (["row"]:List Str).Nodup by decide +kernel) rfl (Or.inl rfl)) (fun s H fp=>pif_nil) (fun s H fp=>pe_callTy call_dict_of (by rfl) B.dict boot_dict (pa_cons (pv 0) pa_nil))) rfl)))) (pss_one (ps_ret (pv 1)))),?_⟩
  obtain ⟨ls,hp,hll,hls⟩:=hpc
  refine fun fr hfr=>⟨p,_,(Same.upd hfr) _ _ hp,fun o=>?_⟩
  have np:p ≠ fr:=fun e=>by rw [← e,hp] at hfr;cases hfr
  have S0:Same H (upd H fr (.dK [])):=Same.upd hfr
  have d0:(upd H fr (.dK [])) fr = some (.dK []):=upd_same
  generalize upd H fr (.dK []) = H1 at *
  have hfa:(upd H1 p (.frz o (.dK (zK (pc.map (·.1)) ls)))) p = some (.frz o (.dK (zK (pc.map (·.1)) ls))):=upd_same
  have hb0:Same H (upd (upd H1 p (.frz o (.dK (zK (pc.map (·.1)) ls)))) p (.dK (zK (pc.map (·.1)) ls))):=S0.trans (back_same (S0 _ _ hp) (Same.refl _))
  have d1:(upd H1 p (.frz o (.dK (zK (pc.map (·.1)) ls)))) fr = some (.dK []):=by rw [upd_ne np.symm];exact d0
  generalize upd H1 p (.frz o (.dK (zK (pc.map (·.1)) ls))) = H2 at *
  have kl:(zK (pc.map (·.1)) ls).length = pc.length:=by rw [zK_len (by rw [List.length_map];exact hll),List.length_map]
  refine ⟨_,rfl,p,o,_,rfl,hfa,for_items (a:=p) (o:=o) (kvs:=zK (pc.map (·.1)) ls) (fun i σ H3=>H3 p = some (.frz o (.dK (zK (pc.map (·.1)) ls)))/\Same H (upd H3 p (.dK (zK (pc.map (·.1)) ls)))/\∃ u2 u3,σ = [some (.ref p),some (.ref fr),u2,u3]/\PcD (cut H H3) fr (pc.take i))
   ⟨hfa,hb0,_,_,rfl,[],cut_at hfr d1,rfl,fun j l t h=>nomatch h⟩ (fun i σ H3 _ p=>p.1) ?_ ?_⟩
  ·rintro i k v p1 σ H3 hk ⟨h3p,sm,u2,u3,rfl,ls',f1,f2,f3⟩ hp1
   have hi:i < pc.length:=by
    have:=(List.getElem?_eq_some_iff.mp hk).1
    omega
   obtain ⟨z,l,hz,hl,rfl,rfl⟩:=zK_get hk
   have hil:i < ls.length:=by omega
   rw [List.getElem?_map,List.getElem?_eq_getElem hi] at hz
   cases hz
   rw [List.getElem?_eq_getElem hil] at hl
   cases hl
   have hR:=hls i ls[i] pc[i] (List.getElem?_eq_getElem hil) (List.getElem?_eq_getElem hi)
   obtain ⟨nl,nr⟩:=PcAt.apart ok hp hll (List.getElem?_eq_getElem hil) (List.getElem?_eq_getElem hi) hR
   obtain ⟨rs,a1,a2,a3⟩:=id hR
   have okt:=ok.rl pc[i] (List.getElem_mem hi)
   have T1:=Same.upd (o:=.tup [kV (.inr pc[i].1),.ref ls[i]]) hp1
   refine ⟨p1,_,rfl,SqT.of upd_same,rfl,_,_,rfl,_,_,rfl,rfl,?_⟩
   generalize upd H3 p1 (.tup [kV (.inr pc[i].1),.ref ls[i]]) = H4 at T1
   have back:∀ {b:Addr} {ob:HO},b ≠ p->H b = some ob->H4 b = some ob:=fun {b ob} nb e=>by
    have:=sm b ob e
    rw [upd_ne nb] at this
    exact T1 _ _ this
   have l4:=back nl a1
   refine ⟨_,rfl,ls[i],rfl,⟨_,SqL.of l4⟩,fun D hD=>?_⟩
   have nH:∀ {b:Addr},H4 b = none->H b = none:=fun {b} e=>by
    by_cases nb:b = p
    ·rw [nb,T1 _ _ h3p] at e;cases e
    ·cases e2:H b with
     | none=>rfl
     | some ob=>rw [back nb e2] at e;cases e
   refine compW_idx rs.length (fun i' ys σ' Hc=>(∃ t,σ' = [t])/\Same H4 Hc/\∃ qs:List Addr,ys = qs.map V.ref/\qs.Nodup/\∀ (j:Nat) (r:Addr) (row:Rw),qs[j]? = some r->pc[i].2[j]? = some row->H r = none/\r ≠ D/\r ≠ fr/\Hc r = some (.dK (rK row))) (by rw [sizeLine_eq];omega) ⟨⟨none,rfl⟩,Same.upd hD,[],rfl,List.nodup_nil,fun j r row h=>nomatch h⟩ upd_same ?_ ?_
   ·rintro i' σ' Hc ys hi' ⟨⟨u,rfl⟩,sc',qs,rfl,qnd,hqs⟩ hyl hD'
    rw [List.length_map] at hyl
    have hrow:i' < pc[i].2.length:=by omega
    refine ⟨⟨_,V.ref rs[i'],SqL.of (sc' _ _ l4),by rw [List.getElem?_map,List.getElem?_eq_getElem hi'];rfl⟩,?_⟩
    rintro x H' ⟨rfl,hx'⟩
    have ex:=hx' _ (SqL.of (sc' _ _ l4))
    rw [List.getElem?_map,List.getElem?_eq_getElem hi'] at ex
    cases ex
    have r0:=a3 i' rs[i'] pc[i].2[i'] (List.getElem?_eq_getElem hi') (List.getElem?_eq_getElem hrow)
    have r4:=back (nr _ _ (List.getElem_mem hrow) r0) r0
    refine ⟨_,rfl,rs[i'],_,rfl,.inl (sc' _ _ r4),fun r' hr'=>?_⟩
    have T2:=Same.upd (o:=.dK (rK pc[i].2[i'])) hr'
    have rD:r' ≠ D:=fun e=>by rw [e,hD'] at hr';cases hr'
    refine ⟨T2 _ _ hD',⟨_,rfl⟩,(sc'.trans T2).put hD,qs ++ [r'],by rw [List.map_append];rfl,(by
     rw [List.nodup_append]
     refine ⟨qnd,List.nodup_cons.mpr ⟨List.not_mem_nil,List.nodup_nil⟩,fun x hx y hy e=>?_⟩
     rw [List.mem_singleton.mp hy] at e
     obtain ⟨j,hj⟩:=List.getElem?_of_mem hx
     have hjl:j < pc[i].2.length:=by have:=(List.getElem?_eq_some_iff.mp hj).1;omega
     have:=(hqs j x _ hj (List.getElem?_eq_getElem hjl)).2.2.2
     rw [e,hr'] at this
     cases this),fun j r row h1 h2=>?_⟩
    by_cases hj:j < qs.length
    ·rw [List.getElem?_append_left hj] at h1
     obtain ⟨e1,e2,e4,e3⟩:=hqs j r row h1 h2
     exact ⟨e1,e2,e4,by rw [upd_ne e2];exact T2 _ _ e3⟩
    ·have hj':j = qs.length:=by
      have:=(List.getElem?_eq_some_iff.mp h1).1
      rw [List.length_append] at this
      simp at this
      omega
     subst hj'
     rw [List.getElem?_append_right (Nat.le_refl _),Nat.sub_self] at h1
     cases h1
     rw [hyl,List.getElem?_eq_getElem hrow] at h2
     cases h2
     exact ⟨nH (none_of sc' hr'),rD,(fun e=>by rw [e,(T1.trans sc') _ _ (cut_sub _ _ f1)] at hr';cases hr'),by rw [upd_ne rD];exact upd_same⟩
   ·rintro σ' Hc ys ⟨_,sc',qs,rfl,qnd,hqs⟩ hDn hyl
    rw [List.length_map] at hyl
    have f1c:=(T1.trans sc') _ _ (cut_sub _ _ f1)
    have lt':ls'.length = i:=by rw [f2,List.length_take];omega
    refine ⟨⟨_,SqL.of (sc' _ _ l4),by rw [List.length_map];exact Nat.le_refl _⟩,_,rfl,_,rfl,fr,_,rfl,.inl ⟨_,.inr pc[i].1,f1c,rfl,(by rw [zK_len (by rw [List.length_map];exact f2),List.length_map,List.length_take,sizeLine_eq];have:=ok.le;omega),rfl⟩,?_⟩
    have hnew:pc[i].1 ∉ (pc.take i).map (·.1):=fun hm=>by
     have nd:=ok.nd
     have e:pc.map (·.1) = (pc.take i).map (·.1) ++ (pc.drop i).map (·.1):=by rw [← List.map_append,List.take_append_drop]
     rw [e,List.nodup_append] at nd
     refine nd.2.2 _ hm pc[i].1 ?_ rfl
     rw [List.drop_eq_getElem_cons hi,List.map_cons]
     exact List.mem_cons_self
    rw [L2.putK_new _ (zK_new hnew),← zK_snoc (by rw [List.length_map];exact f2)]
    have nDf:D ≠ fr:=fun e=>by rw [e,T1 _ _ (cut_sub _ _ f1)] at hD;cases hD
    refine ⟨by rw [upd_ne np];exact (T1.trans sc') _ _ h3p,fun b ob hb=>?_,_,_,rfl,ls' ++ [D],cut_at hfr ?_,?_,fun j l t h1 h2=>?_⟩
    ·by_cases e:b = p
     ·subst e
      rw [upd_same]
      rw [hp] at hb
      exact hb
     ·rw [upd_ne e,upd_ne (ne_of_none hb hfr)]
      exact sc' _ _ (back e hb)
    ·rw [upd_same,List.take_succ,List.getElem?_eq_getElem hi,List.map_append]
     rfl
    ·rw [List.length_append,lt',List.length_take]
     show i + 1 = _
     omega
    ·by_cases hj:j < i
     ·rw [List.getElem?_append_left (by omega)] at h1
      have h2':(pc.take i)[j]? = some t:=by
       rw [List.getElem?_take] at h2 ⊢
       rw [if_pos (by omega)] at h2 ⊢
       exact h2
      obtain ⟨qs',b1,b2,bn,b3⟩:=f3 j l t h1 h2'
      have g:=cut_up (H0:=H) (T1.trans sc')
      have nlf:l ≠ fr:=fun e=>by rw [e,f1] at b1;cases b1
      refine ⟨qs',?_,b2,bn,fun j' r row c1 c2=>?_⟩
      ·rw [cut_put hfr,upd_ne nlf]
       exact g _ _ b1
      ·have b4:=b3 j' r row c1 c2
       have htp:t ∈ pc:=by
        rw [List.getElem?_take,if_pos hj] at h2'
        exact List.mem_of_getElem? h2'
       have nrf:r ≠ fr:=fun e=>by
        rw [e,f1] at b4
        injection b4 with e1
        injection e1 with e2
        have hm:((.inr t.1:Key),V.ref l) ∈ zK ((pc.take i).map (·.1)) ls':=zK_mem (j:=j) (by rw [List.getElem?_map,h2'];rfl) h1
        rw [e2] at hm
        exact rK_flat (ok.rw_ t htp row (List.mem_of_getElem? c2)) (fun xs h=>by rw [cut_new b1] at h;cases h) hm
       rw [cut_put hfr,upd_ne nrf]
       exact g _ _ b4
     ·have hj':j = i:=by
       have:=(List.getElem?_eq_some_iff.mp h1).1
       rw [List.length_append,lt'] at this
       simp at this
       omega
      subst hj'
      rw [List.getElem?_append_right (by omega),lt',Nat.sub_self] at h1
      cases h1
      rw [List.getElem?_take,if_pos (by omega),List.getElem?_eq_getElem hi] at h2
      cases h2
      refine ⟨qs,cut_at (nH hD) (by rw [upd_ne nDf];exact hDn),by omega,qnd,fun j' r row c1 c2=>?_⟩
      obtain ⟨e1,e2,nrf,e3⟩:=hqs j' r row c1 c2
      exact cut_at e1 (by rw [upd_ne nrf];exact e3)
  ·rintro σ H3 ⟨h3p,sm,u2,u3,rfl,hfin⟩
   rw [kl,List.take_length] at hfin
   exact ⟨h3p,_,rfl,q fr _ sm (hfin.same (cut_upd hp))⟩
end
end My
namespace L2
open PySem PySem.Spec PyProof.Rows PySem.Builtin PySem.Builtin.Dict
section
variable {A:Around} {s:Shared} {P:Program} {w:World}
theorem rcEq_dicts {a b:Addr} {kvs kws:List (Key × Value)} (da:s.heap.DictOf (mixKind P w) a kvs) (db:s.heap.DictOf (mixKind P w) b kws) (na:(a == sysModules) = false) (nb:(b == sysModules) = false) (hl:kvs.length = kws.length) (tx:∀ (k:Key) (v:Value),(k,v) ∈ kws->∃ x,k = .inr x)
  (he:∀ (k:Key) (v:Value),(k,v) ∈ kvs->∃ v',(k,v') ∈ kws/\SeqAt.EqAt A.in1 s v v' true) (hu:A.units < cLine):SeqAt.RcAt A s (.ref a) (.ref b) true:=fun prog w' E Q hq=>by
 obtain ⟨oa,es,ep,ha,xa,dda,ka,pa,nda⟩:=da
 obtain ⟨ob,fs,fp,hb,xb,ddb,kb,pb,ndb⟩:=db
 have Ta:s.TypeIs (.ref a) "dict":=⟨oa,ha,xa.1⟩
 have Tb:s.TypeIs (.ref b) "dict":=⟨ob,hb,xb.1⟩
 have la:es.size = kvs.length:=by have:=pairs_len pa;simpa using this
 have lb:fs.size = kws.length:=by have:=pairs_len pb;simpa using this
 have kb':∀ e ∈ fs,∃ z t,e.key = Value.str z t:=fun e he'=>by
  obtain ⟨m,hm,rfl⟩:=Array.mem_iff_getElem.mp he'
  obtain ⟨⟨k,v⟩,hk⟩:∃ kv,kws[m]? = some kv:=⟨_,List.getElem?_eq_getElem (by omega)⟩
  obtain ⟨g1,_⟩:=pb.get? (i:=m) (e:=fs[m]) (by simp [hm]) hk
  obtain ⟨x,rfl⟩:=tx k v (List.mem_of_getElem? hk)
  rcases keyIs_shape (k:=.inr x) (v:=fs[m].key) g1 with ⟨i,t,q,_⟩ | ⟨z,t,q,q2⟩
  ·cases q
  ·exact ⟨z,t,q2⟩
 refine wpAny_richCompare_same_room Ta Tb F.slot_dict_eq (wpAny_call_entry F.slot_dict_eq Ta F.entry_dict_eq ?_ (F.args_dict_eq_2 _ _)) hu
 rw [dict_eq_tree]
 refine wpAny_bind ?_
 show wpAny _ _ (pure (Value.ref a,Value.ref b)) _ _ _
 refine wpAny_pure ?_
 dsimp only
 refine wpAny_bind (wpAny_isInstance (T:="dict") (b:=true) Tb sub_dict_dict ?_)
 simp only [Bool.not_true,Bool.false_eq_true,if_false]
 refine wpAny_bind (wpAny_pure (wpAny_bind (wpAny_pure (wpAny_bind (same_pairs ha dda hb ddb na nb (by omega) (fun i e ei=>?_) ?_)))))
 ·have hi:i < es.size:=(Array.getElem?_eq_some_iff.mp ei).1
  obtain ⟨⟨k,v⟩,hk⟩:∃ kv,kvs[i]? = some kv:=⟨_,List.getElem?_eq_getElem (by omega)⟩
  obtain ⟨g1,g2⟩:=pa.get? (i:=i) (e:=e) (by simpa using ei) hk
  obtain ⟨k2,g3,g4⟩:=ka e (Array.mem_of_getElem? ei)
  have ek:k2 = k:=(mixKind P w).inj _ _ _ g3 g1
  subst ek
  obtain ⟨v',hv',eq⟩:=he k2 v (List.mem_of_getElem? hk)
  obtain ⟨x,rfl⟩:=tx k2 v' hv'
  obtain ⟨t0,ek0⟩:∃ t,e.key = Value.str x t:=by
   rcases keyIs_shape (k:=.inr x) (v:=e.key) g1 with ⟨i,t,q,_⟩ | ⟨z,t,q,q2⟩
   ·cases q
   ·cases q
    exact ⟨t,q2⟩
  obtain ⟨m,hm⟩:=List.getElem?_of_mem hv'
  have hm':m < fs.size:=by have:=(List.getElem?_eq_some_iff.mp hm).1;omega
  have em:fs.toList[m]? = some fs[m]:=by simp [hm']
  obtain ⟨q1,q2⟩:=pb.get? em hm
  obtain ⟨j,hj⟩:∃ j,fs.findIdx? (fun e=>e.key.isStr x) = some j:=by
   cases z:fs.findIdx? (fun e=>e.key.isStr x) with
   | some j=>exact ⟨j,rfl⟩
   | none=>
    have:=Array.findIdx?_eq_none_iff.mp z fs[m] (Array.getElem_mem hm')
    have q1':fs[m].key.isStr x = true:=by
     rcases keyIs_shape (k:=.inr x) (v:=fs[m].key) q1 with ⟨i,t,q,_⟩ | ⟨z,t,q,q2⟩
     ·cases q
     ·cases q
      rw [q2]
      exact beq_self_eq_true x
    rw [q1'] at this
    cases this
  obtain ⟨hjs,hjt,_⟩:=Array.findIdx?_eq_some_iff_getElem.mp hj
  obtain ⟨⟨k3,v3⟩,hk3⟩:∃ kv,kws[j]? = some kv:=⟨_,List.getElem?_eq_getElem (by omega)⟩
  obtain ⟨r1,r2⟩:=pb.get? (i:=j) (e:=fs[j]) (by simp [hjs]) hk3
  have hjk:(mixKind P w).is (.inr x) fs[j].key = true:=by
   obtain ⟨z,t,q⟩:=kb' fs[j] (Array.getElem_mem hjs)
   rw [q] at hjt ⊢
   have zx:z = x:=eq_of_beq hjt
   rw [zx]
   rw [(mixKind P w).strs (.inr x) x t0 _ (by rw [← ek0];exact g1)]
   exact beq_self_eq_true x
  have e3:k3 = .inr x:=(mixKind P w).inj _ _ _ r1 hjk
  subst e3
  have jm:j = m:=by
   have hj1:(kws.map (·.1))[j]? = some (Sum.inr x):=by rw [List.getElem?_map,hk3];rfl
   have hm1:(kws.map (·.1))[m]? = some (Sum.inr x):=by rw [List.getElem?_map,hm];rfl
   obtain ⟨x1,y1⟩:=List.getElem?_eq_some_iff.mp hj1
   obtain ⟨x2,y2⟩:=List.getElem?_eq_some_iff.mp hm1
   rcases Nat.lt_trichotomy j m with z | z | z
   ·exact absurd (y1.trans y2.symm) (List.pairwise_iff_getElem.mp ndb j m x1 x2 z)
   ·exact z
   ·exact absurd (y2.trans y1.symm) (List.pairwise_iff_getElem.mp ndb m j x2 x1 z)
  subst jm
  rw [hm] at hk3
  cases hk3
  refine ⟨j,fs[j],by simp [hjs],fun R hR=>?_,fun R hR=>?_⟩
  ·rw [ek0]
   exact find_str hb ddb kb' hj hR
  ·rw [g2,r2]
   exact eq prog w' E R hR
 ·exact wpAny_pure ⟨_,rfl,(fun z=>nomatch z),hq⟩
end
section
variable {X:Cx}
theorem op_eqDD:OpR X (compareOp .Eq) (fun x y H Q=>∃ (n:Nat) (a b:Addr) (kvs kws:List (Key × V)),x = .ref a/\y = .ref b/\Rd H a (.dK kvs)/\Rd H b (.dK kws)/\kvs.length = kws.length/\(∀ (k:Key) (v:V),(k,v) ∈ kws->∃ z,k = .inr z)/\(∀ (k:Key) (v:V),(k,v) ∈ kvs->∃ v',(k,v') ∈ kws/\Dq H n v v')/\X.A.units + n + 1 < cLine/\Q (.bl true) H):=by
 intro pins s σ H x y v u Q I rx ry h
 obtain ⟨n,a,b,kvs,kws,rfl,rfl,ha,hb,hl,tx,hf,hu,q⟩:=h
 cases rx
 cases ry
 obtain ⟨_,na,vs,kv,da⟩:=dk_rd I.hok ha
 obtain ⟨_,nb,ws,kw,db⟩:=dk_rd I.hok hb
 have l1:=kv.length
 have l2:=kw.length
 have hh:=rcEq_dicts (A:=X.A) da db na nb (by omega) (fun k v hk=>by
  obtain ⟨i,hi⟩:=List.getElem?_of_mem hk
  obtain ⟨v0,e0,_⟩:=kv_back kw hi
  exact tx k v0 (List.mem_of_getElem? e0)) (fun k v hk=>by
  obtain ⟨i,hi⟩:=List.getElem?_of_mem hk
  obtain ⟨v0,e0,rv⟩:=kv_back kv hi
  have m0:=List.mem_of_getElem? e0
  obtain ⟨v',hm',dq⟩:=hf k v0 m0
  obtain ⟨m,hm⟩:=List.getElem?_of_mem hm'
  obtain ⟨u',e1,rv'⟩:=kv_get kw hm
  exact ⟨u',List.mem_of_getElem? e1,eqAt_Dq I dq rv rv' (by show X.A.units + 1 + n < cLine;omega)⟩) (by omega)
 exact hh X.prog X.w X.xe _ ⟨.bl true,H,I,rfl,q⟩
end
end L2
namespace My
open PySem L2 PyProof.Rows
seal L2.PE L2.PT L2.PW L2.PS L2.PSs L2.PA L2.PI L2.PG L2.PGs L2.OpR L2.UnR L2.CallR L2.IxR L2.SlR L2.MtR L2.PIf L2.PO L2.MtM L2.PC
theorem zK_val {zs:List Str} {ls:List Addr} (nd:zs.Nodup) (hl:ls.length = zs.length) {j:Nat} {z:Str} {l:Addr} (h1:zs[j]? = some z) (h2:ls[j]? = some l):valV (zK zs ls) (.inr z) = some (.ref l):=by
 exact zw_val nd h1 (by rw [List.getElem?_map,h2];rfl)
section
variable {P:Program} {w:World} {K:PySem.W.Frag} {mg:Str->Option Value} {base:Heap}
theorem ok_kept {f:Addr} {fd:FuncData} (F:Fun K "_law_kept" "_law_kept" (top 52) f fd) (B:Bl mg):FnOk P w K mg base CX0 1 f fd ["_law_piece"] spCopied:=by
 have sc:FnScope ["_law_piece","_law_stood","_law_name"] ["_law_piece"] (defScope (top 52)):=⟨rfl,rfl,rfl,by decide +kernel,rfl,by decide +kernel,by decide +kernel⟩
 refine F.ok sc (fun vs H Q E h=>?_) (fun cdv A outer s H vs Q E hr h=>?_)
 ·obtain ⟨p,pc,rfl,_⟩:=h
  rfl
 ·obtain ⟨p,pc,rfl,hpc,ok,q⟩:=h
  have hu:(A.deeper (envOfC "_law_kept" (defScope (top 52)) s.heap.objs.size f cdv)).units + 1 < cLine:=hu_of hr
  refine ⟨_,pss_cons (ps_set (i:=1) sc.nd rfl (Or.inl rfl) pe_dnewK) (pss_cons (ps_frz (ps_for PassesOwn.never rfl (pi_dict (pv 0)) (pg_name (i:=2) sc.nd rfl (Or.inl rfl))
    (pss_one (ps_dput hu (pv 1) (pv 2) (pe_comp (osc:=defScope (top 52)) (N0:=["_law_piece","_law_stood","_law_name"]) (xs:=["_law_row_here"]) (fr:=[]) ⟨rfl,by decide +kernel,by decide +kernel,by decide +kernel,by decide,by decide +kernel⟩ rfl rfl rfl (pi_list (pe_dget hu (pv 0) (pv 2) (fun _ _=>rfl)))
     (fun s H fp=>pg_name (i:=0) (show (["_law_row_here"]:List Str).Nodup by decide +kernel) rfl (Or.inl rfl)) (fun s H fp=>pif_nil) (fun s H fp=>pe_callTy call_dict_of (by rfl) B.dict boot_dict (pa_cons (pv 0) pa_nil))) rfl)))) (pss_one (ps_ret (pv 1)))),?_⟩
  obtain ⟨ls,hp,hll,hls⟩:=hpc
  refine fun fr hfr=>⟨p,_,(Same.upd hfr) _ _ hp,fun o=>?_⟩
  have np:p ≠ fr:=fun e=>by rw [← e,hp] at hfr;cases hfr
  have S0:Same H (upd H fr (.dK [])):=Same.upd hfr
  have d0:(upd H fr (.dK [])) fr = some (.dK []):=upd_same
  generalize upd H fr (.dK []) = H1 at *
  have hfa:(upd H1 p (.frz o (.dK (zK (pc.map (·.1)) ls)))) p = some (.frz o (.dK (zK (pc.map (·.1)) ls))):=upd_same
  have hb0:Same H (upd (upd H1 p (.frz o (.dK (zK (pc.map (·.1)) ls)))) p (.dK (zK (pc.map (·.1)) ls))):=S0.trans (back_same (S0 _ _ hp) (Same.refl _))
  have d1:(upd H1 p (.frz o (.dK (zK (pc.map (·.1)) ls)))) fr = some (.dK []):=by rw [upd_ne np.symm];exact d0
  generalize upd H1 p (.frz o (.dK (zK (pc.map (·.1)) ls))) = H2 at *
  have kl:(zK (pc.map (·.1)) ls).length = pc.length:=by rw [zK_len (by rw [List.length_map];exact hll),List.length_map]
  refine ⟨_,rfl,p,o,_,rfl,hfa,for_dict (a:=p) (o:=o) (kvs:=zK (pc.map (·.1)) ls) (fun i σ H3=>H3 p = some (.frz o (.dK (zK (pc.map (·.1)) ls)))/\Same H (upd H3 p (.dK (zK (pc.map (·.1)) ls)))/\∃ u2,σ = [some (.ref p),some (.ref fr),u2]/\PcD (cut H H3) fr (pc.take i))
   ⟨hfa,hb0,_,rfl,[],cut_at hfr d1,rfl,fun j l t h=>nomatch h⟩ (fun i σ H3 _ p=>p.1) ?_ ?_⟩
  ·rintro i k v σ H3 hk ⟨h3p,sm,u2,rfl,ls',f1,f2,f3⟩
   have hi:i < pc.length:=by
    have:=(List.getElem?_eq_some_iff.mp hk).1
    omega
   obtain ⟨z,l,hz,hl,rfl,rfl⟩:=zK_get hk
   have hil:i < ls.length:=by omega
   rw [List.getElem?_map,List.getElem?_eq_getElem hi] at hz
   cases hz
   rw [List.getElem?_eq_getElem hil] at hl
   cases hl
   have hR:=hls i ls[i] pc[i] (List.getElem?_eq_getElem hil) (List.getElem?_eq_getElem hi)
   obtain ⟨nl,nr⟩:=PcAt.apart ok hp hll (List.getElem?_eq_getElem hil) (List.getElem?_eq_getElem hi) hR
   obtain ⟨rs,a1,a2,a3⟩:=id hR
   have okt:=ok.rl pc[i] (List.getElem_mem hi)
   obtain ⟨H4,T1,h4p,H4e⟩:∃ H4,Same H3 H4/\H4 p = some (.frz o (.dK (zK (pc.map (·.1)) ls)))/\H4 = H3:=⟨H3,Same.refl _,h3p,rfl⟩
   rw [← H4e]
   have back:∀ {b:Addr} {ob:HO},b ≠ p->H b = some ob->H4 b = some ob:=fun {b ob} nb e=>by
    have:=sm b ob e
    rw [upd_ne nb] at this
    exact T1 _ _ this
   have l4:=back nl a1
   have vv:valV (zK (pc.map (·.1)) ls) (.inr pc[i].1) = some (.ref ls[i]):=zK_val ok.nd (by rw [List.length_map];exact hll) (by rw [List.getElem?_map,List.getElem?_eq_getElem hi];rfl) (List.getElem?_eq_getElem hil)
   refine ⟨_,rfl,_,rfl,p,.ref ls[i],rfl,.inl ⟨_,.inr pc[i].1,.inr ⟨o,h4p⟩,rfl,vv.symm⟩,ls[i],rfl,⟨_,SqL.of l4⟩,fun D hD=>?_⟩
   have nH:∀ {b:Addr},H4 b = none->H b = none:=fun {b} e=>by
    by_cases nb:b = p
    ·rw [nb,T1 _ _ h3p] at e;cases e
    ·cases e2:H b with
     | none=>rfl
     | some ob=>rw [back nb e2] at e;cases e
   refine compW_idx rs.length (fun i' ys σ' Hc=>(∃ t,σ' = [t])/\Same H4 Hc/\∃ qs:List Addr,ys = qs.map V.ref/\qs.Nodup/\∀ (j:Nat) (r:Addr) (row:Rw),qs[j]? = some r->pc[i].2[j]? = some row->H r = none/\r ≠ D/\r ≠ fr/\Hc r = some (.dK (rK row))) (by rw [sizeLine_eq];omega) ⟨⟨none,rfl⟩,Same.upd hD,[],rfl,List.nodup_nil,fun j r row h=>nomatch h⟩ upd_same ?_ ?_
   ·rintro i' σ' Hc ys hi' ⟨⟨u,rfl⟩,sc',qs,rfl,qnd,hqs⟩ hyl hD'
    rw [List.length_map] at hyl
    have hrow:i' < pc[i].2.length:=by omega
    refine ⟨⟨_,V.ref rs[i'],SqL.of (sc' _ _ l4),by rw [List.getElem?_map,List.getElem?_eq_getElem hi'];rfl⟩,?_⟩
    rintro x H' ⟨rfl,hx'⟩
    have ex:=hx' _ (SqL.of (sc' _ _ l4))
    rw [List.getElem?_map,List.getElem?_eq_getElem hi'] at ex
    cases ex
    have r0:=a3 i' rs[i'] pc[i].2[i'] (List.getElem?_eq_getElem hi') (List.getElem?_eq_getElem hrow)
    have r4:=back (nr _ _ (List.getElem_mem hrow) r0) r0
    refine ⟨_,rfl,rs[i'],_,rfl,.inl (sc' _ _ r4),fun r' hr'=>?_⟩
    have T2:=Same.upd (o:=.dK (rK pc[i].2[i'])) hr'
    have rD:r' ≠ D:=fun e=>by rw [e,hD'] at hr';cases hr'
    refine ⟨T2 _ _ hD',⟨_,rfl⟩,(sc'.trans T2).put hD,qs ++ [r'],by rw [List.map_append];rfl,(by
     rw [List.nodup_append]
     refine ⟨qnd,List.nodup_cons.mpr ⟨List.not_mem_nil,List.nodup_nil⟩,fun x hx y hy e=>?_⟩
     rw [List.mem_singleton.mp hy] at e
     obtain ⟨j,hj⟩:=List.getElem?_of_mem hx
     have hjl:j < pc[i].2.length:=by have:=(List.getElem?_eq_some_iff.mp hj).1;omega
     have:=(hqs j x _ hj (List.getElem?_eq_getElem hjl)).2.2.2
     rw [e,hr'] at this
     cases this),fun j r row h1 h2=>?_⟩
    by_cases hj:j < qs.length
    ·rw [List.getElem?_append_left hj] at h1
     obtain ⟨e1,e2,e4,e3⟩:=hqs j r row h1 h2
     exact ⟨e1,e2,e4,by rw [upd_ne e2];exact T2 _ _ e3⟩
    ·have hj':j = qs.length:=by
      have:=(List.getElem?_eq_some_iff.mp h1).1
      rw [List.length_append] at this
      simp at this
      omega
     subst hj'
     rw [List.getElem?_append_right (Nat.le_refl _),Nat.sub_self] at h1
     cases h1
     rw [hyl,List.getElem?_eq_getElem hrow] at h2
     cases h2
     exact ⟨nH (none_of sc' hr'),rD,(fun e=>by rw [e,(T1.trans sc') _ _ (cut_sub _ _ f1)] at hr';cases hr'),by rw [upd_ne rD];exact upd_same⟩
   ·rintro σ' Hc ys ⟨_,sc',qs,rfl,qnd,hqs⟩ hDn hyl
    rw [List.length_map] at hyl
    have f1c:=(T1.trans sc') _ _ (cut_sub _ _ f1)
    have lt':ls'.length = i:=by rw [f2,List.length_take];omega
    refine ⟨⟨_,SqL.of (sc' _ _ l4),by rw [List.length_map];exact Nat.le_refl _⟩,_,rfl,_,rfl,fr,_,rfl,.inl ⟨_,.inr pc[i].1,f1c,rfl,(by rw [zK_len (by rw [List.length_map];exact f2),List.length_map,List.length_take,sizeLine_eq];have:=ok.le;omega),rfl⟩,?_⟩
    have hnew:pc[i].1 ∉ (pc.take i).map (·.1):=fun hm=>by
     have nd:=ok.nd
     have e:pc.map (·.1) = (pc.take i).map (·.1) ++ (pc.drop i).map (·.1):=by rw [← List.map_append,List.take_append_drop]
     rw [e,List.nodup_append] at nd
     refine nd.2.2 _ hm pc[i].1 ?_ rfl
     rw [List.drop_eq_getElem_cons hi,List.map_cons]
     exact List.mem_cons_self
    rw [L2.putK_new _ (zK_new hnew),← zK_snoc (by rw [List.length_map];exact f2)]
    have nDf:D ≠ fr:=fun e=>by rw [e,T1 _ _ (cut_sub _ _ f1)] at hD;cases hD
    refine ⟨by rw [upd_ne np];exact sc' _ _ h4p,fun b ob hb=>?_,_,rfl,ls' ++ [D],cut_at hfr ?_,?_,fun j l t h1 h2=>?_⟩
    ·by_cases e:b = p
     ·subst e
      rw [upd_same]
      rw [hp] at hb
      exact hb
     ·rw [upd_ne e,upd_ne (ne_of_none hb hfr)]
      exact sc' _ _ (back e hb)
    ·rw [upd_same,List.take_succ,List.getElem?_eq_getElem hi,List.map_append]
     rfl
    ·rw [List.length_append,lt',List.length_take]
     show i + 1 = _
     omega
    ·by_cases hj:j < i
     ·rw [List.getElem?_append_left (by omega)] at h1
      have h2':(pc.take i)[j]? = some t:=by
       rw [List.getElem?_take] at h2 ⊢
       rw [if_pos (by omega)] at h2 ⊢
       exact h2
      obtain ⟨qs',b1,b2,bn,b3⟩:=f3 j l t h1 h2'
      have g:=cut_up (H0:=H) (T1.trans sc')
      have nlf:l ≠ fr:=fun e=>by rw [e,f1] at b1;cases b1
      refine ⟨qs',?_,b2,bn,fun j' r row c1 c2=>?_⟩
      ·rw [cut_put hfr,upd_ne nlf]
       exact g _ _ b1
      ·have b4:=b3 j' r row c1 c2
       have htp:t ∈ pc:=by
        rw [List.getElem?_take,if_pos hj] at h2'
        exact List.mem_of_getElem? h2'
       have nrf:r ≠ fr:=fun e=>by
        rw [e,f1] at b4
        injection b4 with e1
        injection e1 with e2
        have hm:((.inr t.1:Key),V.ref l) ∈ zK ((pc.take i).map (·.1)) ls':=zK_mem (j:=j) (by rw [List.getElem?_map,h2'];rfl) h1
        rw [e2] at hm
        exact rK_flat (ok.rw_ t htp row (List.mem_of_getElem? c2)) (fun xs h=>by rw [cut_new b1] at h;cases h) hm
       rw [cut_put hfr,upd_ne nrf]
       exact g _ _ b4
     ·have hj':j = i:=by
       have:=(List.getElem?_eq_some_iff.mp h1).1
       rw [List.length_append,lt'] at this
       simp at this
       omega
      subst hj'
      rw [List.getElem?_append_right (by omega),lt',Nat.sub_self] at h1
      cases h1
      rw [List.getElem?_take,if_pos (by omega),List.getElem?_eq_getElem hi] at h2
      cases h2
      refine ⟨qs,cut_at (nH hD) (by rw [upd_ne nDf];exact hDn),by omega,qnd,fun j' r row c1 c2=>?_⟩
      obtain ⟨e1,e2,nrf,e3⟩:=hqs j' r row c1 c2
      exact cut_at e1 (by rw [upd_ne nrf];exact e3)
  ·rintro σ H3 ⟨h3p,sm,u2,rfl,hfin⟩
   rw [kl,List.take_length] at hfin
   exact ⟨h3p,_,rfl,q fr _ sm (hfin.same (cut_upd hp))⟩
end
end My
namespace My
open PySem L2 PyProof.Rows
theorem mt_clr8 {X:Cx}:MtR X "list.clear" rClear:=mt_clear
seal L2.PE L2.PT L2.PW L2.PS L2.PSs L2.PA L2.PI L2.PG L2.PGs L2.OpR L2.UnR L2.CallR L2.IxR L2.SlR L2.MtR L2.PIf L2.PO L2.MtM L2.PC
theorem dq_self {H:Hp} {n:Nat} {v:V} (h:flt v = true\/∃ a,v = .ref a):Dq H n v v:=by
 rcases h with h | ⟨a,rfl⟩
 ·cases v with
  | non=>exact .non
  | bl b=>exact .bl
  | int i=>exact .int
  | str z=>exact .str
  | _=>cases h
 ·exact .ref
theorem row_dq {H G:Hp} {r r':Addr} {row:Rw} (ok:RwOk G row) (h1:H r = some (.dK (rK row))) (h2:H r' = some (.dK (rK row))):Dq H 1 (.ref r) (.ref r'):=by
 have val:∀ (k:Key) (v:V),(k,v) ∈ rK row->valV (rK row) k = some v/\(flt v = true\/∃ a,v = .ref a):=fun k v h=>by
  obtain ⟨c,hc,e⟩:=List.mem_map.mp h
  cases e
  exact ⟨rK_val ok.1.1 hc,(ok.2 c hc).imp id fun ⟨a,_,e,_⟩=>⟨a,e⟩⟩
 refine .dct (fun k=>(valV (rK row) k).getD .non) (.inl h1) (.inl h2) rfl (fun k v h=>?_) (fun k v h=>?_) fun k v h=>?_
 ·obtain ⟨c,_,e⟩:=List.mem_map.mp h
  cases e
  exact ⟨_,rfl⟩
 ·obtain ⟨a,_⟩:=val k v h
  rw [a]
  exact h
 ·obtain ⟨a,c⟩:=val k v h
  rw [a]
  exact dq_self c
theorem rows_dq {H G:Hp} {l l':Addr} {rows:List Rw} (ok:∀ row ∈ rows,RwOk G row) (h1:RowsJ H l rows) (h2:RowsJ H l' rows):Dq H 2 (.ref l) (.ref l'):=by
 obtain ⟨rs,a1,b1,c1⟩:=h1
 obtain ⟨rs',a2,b2,c2⟩:=h2
 refine .lst a1 a2 (by rw [List.length_map,List.length_map,b1,b2]) fun i x y e1 e2=>?_
 rw [List.getElem?_map] at e1 e2
 cases d1:rs[i]? with
 | none=>rw [d1] at e1;cases e1
 | some r=>
  cases d2:rs'[i]? with
  | none=>rw [d2] at e2;cases e2
  | some r'=>
   rw [d1] at e1
   rw [d2] at e2
   cases e1
   cases e2
   have hi:i < rows.length:=by rw [← b1];exact (List.getElem?_eq_some_iff.mp d1).1
   exact row_dq (ok _ (List.getElem_mem hi)) (c1 i r _ d1 (List.getElem?_eq_getElem hi)) (c2 i r' _ d2 (List.getElem?_eq_getElem hi))
theorem pc_al {H G:Hp} {p p':Addr} {pc:Pc} (ok:PcOk G pc) (h1:PcAt H p pc) (h2:PcAt H p' pc):∃ kvs kws:List (Key × V),Rd H p (.dK kvs)/\Rd H p' (.dK kws)/\kvs.length = kws.length/\(∀ (k:Key) (v:V),(k,v) ∈ kws->∃ z,k = .inr z)/\∀ (k:Key) (v:V),(k,v) ∈ kvs->∃ v',(k,v') ∈ kws/\Dq H 2 v v':=by
 obtain ⟨ls,a1,b1,c1⟩:=h1
 obtain ⟨ls',a2,b2,c2⟩:=h2
 refine ⟨_,_,.inl a1,.inl a2,?_,fun k v h=>?_,fun k v h=>?_⟩
 ·rw [zK_len (by rw [List.length_map];exact b1),zK_len (by rw [List.length_map];exact b2)]
 ·obtain ⟨i,hi⟩:=List.getElem?_of_mem h
  obtain ⟨z,l,hz,hl,rfl,rfl⟩:=zK_get hi
  exact ⟨z,rfl⟩
 ·obtain ⟨i,hi⟩:=List.getElem?_of_mem h
  obtain ⟨z,l,hz,hl,rfl,rfl⟩:=zK_get hi
  have hil:i < pc.length:=by rw [← b1];exact (List.getElem?_eq_some_iff.mp hl).1
  have hil':i < ls'.length:=by omega
  exact ⟨.ref ls'[i],zK_mem hz (List.getElem?_eq_getElem hil'),rows_dq (ok.rw_ _ (List.getElem_mem hil)) (c1 i l pc[i] hl (List.getElem?_eq_getElem hil)) (c2 i _ pc[i] (List.getElem?_eq_getElem hil') (List.getElem?_eq_getElem hil))⟩
def RD (H:Hp) (W:Addr->Prop) (p:Addr) (rs:List Addr) (m:Nat):Prop:=∀ r ∈ rs,W r/\r ≠ p/\∃ kv:List (Key × V),H r = some (.dK kv)/\kv.length ≤ m
def LoP (H:Hp) (W:Addr->Prop) (p:Addr) (ls:List Addr) (n m:Nat):Prop:=∀ l ∈ ls,W l/\∃ rs:List Addr,H l = some (.lst (rs.map V.ref))/\rs.length ≤ n/\RD H W p rs m
def Kp (H0:Hp) (W:Addr->Prop) (H:Hp):Prop:=∀ b o,H0 b = some o->¬ W b->H b = some o
section
variable {H H' G:Hp} {W:Addr->Prop} {p r l:Addr} {rs ls:List Addr} {m m' n n':Nat} {kv kw:List (Key × V)}
theorem RD.same (h:RD H W p rs m) (s:Same H H'):RD H' W p rs m:=fun r hr=>let ⟨a,b,kv,c,d⟩:=h r hr;⟨a,b,kv,s _ _ c,d⟩
theorem LoP.same (h:LoP H W p ls n m) (s:Same H H'):LoP H' W p ls n m:=fun l hl=>let ⟨w,rs,a,b,c⟩:=h l hl;⟨w,rs,s _ _ a,b,c.same s⟩
theorem RD.dput (h:RD H W p rs m) (hm:m ≤ m') (hw:kw.length ≤ m'):RD (upd H r (.dK kw)) W p rs m':=fun c hc=>by
 obtain ⟨a,b,kv,e,d⟩:=h c hc
 by_cases z:c = r
 ·subst z
  exact ⟨a,b,kw,upd_same,hw⟩
 ·exact ⟨a,b,kv,by rw [upd_ne z];exact e,by omega⟩
theorem LoP.dput (h:LoP H W p ls n m) (hr:H r = some (.dK kv)) (hm:m ≤ m') (hw:kw.length ≤ m'):LoP (upd H r (.dK kw)) W p ls n m':=fun l hl=>by
 obtain ⟨w,rs,a,b,c⟩:=h l hl
 have nl:l ≠ r:=fun e=>by rw [e,hr] at a;cases a
 exact ⟨w,rs,by rw [upd_ne nl];exact a,b,c.dput hm hw⟩
theorem RD.lput {xs ys:List V} (h:RD H W p rs m) (hl:H l = some (.lst xs)) (hm:m ≤ m'):RD (upd H l (.lst ys)) W p rs m':=fun c hc=>by
 obtain ⟨a,b,kv,e,d⟩:=h c hc
 have z:c ≠ l:=fun z=>by rw [z,hl] at e;cases e
 exact ⟨a,b,kv,by rw [upd_ne z];exact e,by omega⟩
theorem LoP.lput {xs:List V} (h:LoP H W p ls n m) (hl:H l = some (.lst xs)) (hn:n ≤ n') (hm:m ≤ m') (h1:rs.length ≤ n') (h2:RD H W p rs m'):LoP (upd H l (.lst (rs.map V.ref))) W p ls n' m':=fun c hc=>by
 obtain ⟨w,rs',a,b,d⟩:=h c hc
 by_cases z:c = l
 ·subst z
  exact ⟨w,rs,upd_same,h1,h2.lput hl (Nat.le_refl _)⟩
 ·exact ⟨w,rs',by rw [upd_ne z];exact a,by omega,d.lput hl hm⟩
theorem Kp.put {o:HO} (h:Kp G W H) (w:W r):Kp G W (upd H r o):=fun b o' e nw=>by
 have z:b ≠ r:=fun z=>nw (z ▸ w)
 rw [upd_ne z]
 exact h b o' e nw
theorem Kp.same (h:Kp G W H) (s:Same H H'):Kp G W H':=fun b o e nw=>s _ _ (h b o e nw)
theorem Kp.fresh (h:Kp G W H) (hg:∀ b,¬ W b->∃ o,G b = some o) (hb:H r = none):W r:=Classical.byContradiction fun nw=>by
 obtain ⟨o,e⟩:=hg r nw
 rw [h r o e nw] at hb
 cases hb
theorem PcAt.lo {pc:Pc} (ok:PcOk H pc) (hW:∀ b o,G b = some o->W b) (hp:G p = some (.dK (zK (pc.map (·.1)) ls))) (hl:ls.length = pc.length) (hR:∀ (j:Nat) (l:Addr) (t:Str × List Rw),ls[j]? = some l->pc[j]? = some t->RowsJ G l t.2) (h31:∀ t ∈ pc,t.2.length ≤ 31) (hT:∀ b xs,H b = some (.tup xs)->∀ ys,G b ≠ some (.lst ys)):LoP G W p ls 31 12:=fun l hm=>by
 obtain ⟨j,hj⟩:=List.getElem?_of_mem hm
 have hjl:j < ls.length:=(List.getElem?_eq_some_iff.mp hj).1
 have hjp:j < pc.length:=by omega
 obtain ⟨rs,b1,b2,b3⟩:=hR j l pc[j] hj (List.getElem?_eq_getElem hjp)
 refine ⟨hW _ _ b1,rs,b1,by rw [b2];exact h31 _ (List.getElem_mem hjp),fun r hr=>?_⟩
 obtain ⟨n,hn⟩:=List.getElem?_of_mem hr
 have hnl:n < rs.length:=(List.getElem?_eq_some_iff.mp hn).1
 have hnp:n < pc[j].2.length:=by omega
 have b4:=b3 n r pc[j].2[n] hn (List.getElem?_eq_getElem hnp)
 have okr:=ok.rw_ _ (List.getElem_mem hjp) _ (List.getElem_mem hnp)
 refine ⟨hW _ _ b4,fun e=>?_,_,b4,by unfold rK;rw [List.length_map];exact okr.1.2⟩
 rw [e,hp] at b4
 injection b4 with x1
 injection x1 with x2
 have hm':((.inr pc[j].1:Key),V.ref l) ∈ zK (pc.map (·.1)) ls:=zK_mem (j:=j) (by rw [List.getElem?_map,List.getElem?_eq_getElem hjp];rfl) hj
 rw [x2] at hm'
 exact rK_flat okr (fun xs h=>hT _ _ h _ b1) hm'
end
theorem zK_find {pc:Pc} (nd:(pc.map (·.1)).Nodup) {ls:List Addr} {j:Nat} {k:Key} {v:V} (h:(zK (pc.map (·.1)) ls)[j]? = some (k,v)) {ls':List Addr} (hl:ls'.length = pc.length):∃ z l,k = .inr z/\l ∈ ls'/\valV (zK (pc.map (·.1)) ls') (.inr z) = some (.ref l):=by
 obtain ⟨z,l,g1,g2,g3,g4⟩:=zK_get h
 have hj:j < pc.length:=by
  have:=(List.getElem?_eq_some_iff.mp g1).1
  rwa [List.length_map] at this
 have hj':j < ls'.length:=by omega
 exact ⟨z,ls'[j],g3,List.getElem_mem hj',zw_val nd g1 (by rw [List.getElem?_map,List.getElem?_eq_getElem hj'];rfl)⟩
end My
namespace My
open PySem L2 PyProof.Rows
seal L2.PE L2.PT L2.PW L2.PS L2.PSs L2.PA L2.PI L2.PG L2.PGs L2.OpR L2.UnR L2.CallR L2.IxR L2.SlR L2.MtR L2.PIf L2.PO L2.MtM L2.PC
def spCopy:Sp:=fun vs H Q _=>∃ (p:Addr) (pc:Pc),vs = [.ref p]/\PcAt H p pc/\PcOk H pc/\(∀ t ∈ pc,t.2.length ≤ 31)/\∀ H',Q (.bl true) H'
def cpN:List Str:=["_law_piece","_law_stood","_law_found","_law_other","_law_name","_law_row_here"]
section
variable {P:Program} {w:World} {K:PySem.W.Frag} {mg:Str->Option Value} {base:Heap}
theorem ok_told {f:Addr} {fd:FuncData} (F:Fun K "_law_told" "_law_told" (top 36) f fd) (B:Bl mg):FnOk P w K mg base CX0 1 f fd ["_law_found","_law_due"] spTold:=by
 have sc:FnScope ["_law_found","_law_due"] ["_law_found","_law_due"] (defScope (top 36)):=⟨rfl,rfl,rfl,by decide +kernel,rfl,by decide +kernel,by decide +kernel⟩
 refine F.ok sc (fun vs H Q E h=>?_) (fun cdv A outer s H vs Q E hr h=>?_)
 ·obtain ⟨f,d,rfl,_⟩:=h
  rfl
 ·obtain ⟨f,d,rfl,q⟩:=h
  refine ⟨_,pss_one (ps_ret (pe_and (pe_callB call_isi (by rfl) B.isi boot_isi (pa_cons (pv 0) (pa_cons (pe_bltn (v:=.ty "bool") (by rfl) B.bool boot_bool rfl) pa_nil))) (pe_one (pe_cmpR op_eq (pv 0) (pv 1) (nomark _))))),?_⟩
  refine ⟨_,rfl,_,_,_,_,rfl,.bl f,kit_eq.trans (kit_bool "bool" (by decide)),_,rfl,?_⟩
  refine iteT ?_
  refine ⟨_,rfl,_,rfl,rfl,?_⟩
  have e:decide (V.bl f = V.bl d) = decide (f = d):=by simp
  rw [e]
  exact q
theorem ok_copy {f fC fK:Addr} {fd fdC fdK:FuncData} (F:Fun K "_law_copy" "_law_copy" (top 53) f fd) (B:Bl mg) (DC:Df K mg "copied" (top 32) fC fdC) (DK:Df K mg "_law_kept" (top 52) fK fdK):FnOk P w K mg base CX0 2 f fd ["_law_piece"] spCopy:=by
 have sc:FnScope cpN ["_law_piece"] (defScope (top 53)):=⟨rfl,rfl,rfl,by decide +kernel,rfl,by decide +kernel,by decide +kernel⟩
 have GC:FnOk P w K mg base CX0 1 fC fdC ["piece"] spCopied:=ok_copied DC.fn B
 have GK:FnOk P w K mg base CX0 1 fK fdK ["_law_piece"] spCopied:=ok_kept DK.fn B
 have bC:=DC.fn.binds (ps:=["piece"]) fun _ _ _ _ _ _ us hl=>by obtain ⟨v0,rfl⟩:=L2.ln1 hl;rfl
 have bK:=DK.fn.binds (ps:=["_law_piece"]) fun _ _ _ _ _ _ us hl=>by obtain ⟨v0,rfl⟩:=L2.ln1 hl;rfl
 refine F.ok sc (fun vs H Q E h=>?_) (fun cdv A outer s H vs Q E hr h=>?_)
 ·obtain ⟨p,pc,rfl,_⟩:=h
  rfl
 ·obtain ⟨p,pc,rfl,hpc,ok,h31,q⟩:=h
  have hr1:Room 1 _:=hr.mono (by decide)
  have hu:(A.deeper (envOfC "_law_copy" (defScope (top 53)) s.heap.objs.size f cdv)).units + 1 < cLine:=hu_of hr
  have hu3:(A.deeper (envOfC "_law_copy" (defScope (top 53)) s.heap.objs.size f cdv)).units + 2 + 1 < cLine:=Nat.lt_of_le_of_lt (Nat.add_le_add_left (by decide:3 ≤ 64) _) hr.units
  refine ⟨_,pss_cons (ps_set (i:=1) sc.nd rfl (Or.inl rfl) (pe_call GK hr1 (by rfl) DK.mg DK.fn.kp bK .nil pass0 (pa_cons (pv 0) pa_nil)))
   (pss_cons (ps_set (i:=2) sc.nd rfl (Or.inl rfl) (pe_call GC hr1 (by rfl) DC.mg DC.fn.kp bC .nil pass0 (pa_cons (pv 0) pa_nil)))
   (pss_cons (ps_set (i:=3) sc.nd rfl (Or.inl rfl) (pe_call GC hr1 (by rfl) DC.mg DC.fn.kp bC .nil pass0 (pa_cons (pv 0) pa_nil)))
   (pss_cons (ps_if (PW.pt (pw_or (pt_not (pt_val (pe_callB call_isi (by rfl) B.isi boot_isi (pa_cons (pv 2) (pa_cons (pe_bltn (v:=.ty "dict") (by rfl) B.dict boot_dict rfl) pa_nil))))) (pw_or (pt_cmpR op_neDD (pv 2) (pv 1) (nomark _)) (pw_or1 (pt_cmpR op_neDD (pv 0) (pv 1) (nomark _)))))) pss_never pss_nil)
   (pss_cons (ps_frz (ps_for PassesOwn.never rfl (pi_dict (pv 1)) (pg_name (i:=4) sc.nd rfl (Or.inl rfl))
    (pss_cons (ps_if (pt_not (pt_val (pe_callB call_isi (by rfl) B.isi boot_isi (pa_cons (pe_dget hu (pv 2) (pv 4) (fun _ _=>rfl)) (pa_cons (pe_bltn (v:=.ty "list") (by rfl) B.list boot_list rfl) pa_nil))))) pss_never pss_nil)
    (pss_cons (ps_for PassesOwn.never rfl (pi_list (pe_dget hu (pv 2) (pv 4) (fun _ _=>rfl))) (pg_name (i:=5) sc.nd rfl (Or.inl rfl)) (pss_one (ps_dput hu (pv 5) pe_str pe_int rfl)))
    (pss_one (ps_expr (pe_bm PySem.F.plainAttrs_list PySem.F.slot_list_append PySem.F.type_list_append mt_app (pe_dget hu (pv 2) (pv 4) (fun _ _=>rfl)) (pa_cons pe_dnewK pa_nil))))))))
   (pss_cons (ps_expr (pe_bm0 PySem.F.plainAttrs_dict PySem.F.slot_dict_clear PySem.F.type_dict_clear mt_dclear (pv 2)))
   (pss_cons (ps_if (pt_cmpR op_neDD (pv 0) (pv 1) (nomark _)) pss_never pss_nil)
   (pss_cons (ps_frz (ps_for PassesOwn.never rfl (pi_dict (pv 1)) (pg_name (i:=4) sc.nd rfl (Or.inl rfl))
    (pss_cons (ps_for PassesOwn.never rfl (pi_list (pe_dget hu (pv 0) (pv 4) (fun _ _=>rfl))) (pg_name (i:=5) sc.nd rfl (Or.inl rfl)) (pss_one (ps_expr (pe_bm0 PySem.F.plainAttrs_dict PySem.F.slot_dict_clear PySem.F.type_dict_clear mt_dclear (pv 5)))))
    (pss_one (ps_expr (pe_bm0 PySem.F.plainAttrs_list PySem.F.slot_list_clear PySem.F.type_list_clear mt_clr8 (pe_dget hu (pv 0) (pv 4) (fun _ _=>rfl))))))))
   (pss_one (ps_ret (pe_cmpR op_eqDD (pv 3) (pv 1) (nomark _))))))))))),?_⟩
  have okS:∀ {G:Hp},Same H G->PcOk G pc:=fun {G} s=>⟨ok.nd,ok.le,ok.rl,fun t ht row hr'=>⟨(ok.rw_ t ht row hr').1,fun c hc=>((ok.rw_ t ht row hr').2 c hc).imp id fun ⟨a,xs,e1,e2⟩=>⟨a,xs,e1,s _ _ e2⟩⟩⟩
  refine ⟨_,rfl,p,pc,rfl,hpc,ok,fun sd H1 s1 d1=>?_⟩
  refine ⟨_,rfl,p,pc,rfl,hpc.same s1,okS s1,fun fd H2 s2 d2=>?_⟩
  have s12:=s1.trans s2
  refine ⟨_,rfl,p,pc,rfl,hpc.same s12,okS s12,fun ot H3 s3 d3=>?_⟩
  have s13:=s12.trans s3
  have s23:=s2.trans s3
  have at1:PcAt H3 sd pc:=(d1.same cut_sub).pc.same s23
  have at2:PcAt H3 fd pc:=(d2.same cut_sub).pc.same s3
  obtain ⟨lf,f1,f2,f3⟩:=d2.pc
  obtain ⟨lq,q1,q2,q3⟩:=d1.pc
  have f13:H3 fd = some (.dK (zK (pc.map (·.1)) lf)):=s3 _ _ (cut_sub _ _ f1)
  have q13:H3 sd = some (.dK (zK (pc.map (·.1)) lq)):=s23 _ _ (cut_sub _ _ q1)
  obtain ⟨ty,hn⟩:=Is.dK (K:=K) f13
  refine ⟨_,rfl,_,_,_,_,rfl,ty,kit_eq.trans (kit_dict _ hn),_,rfl,iteF ?_⟩
  obtain ⟨kvs,kws,a1,a2,a3,a4,a5⟩:=pc_al ok at2 at1
  refine ⟨_,rfl,_,rfl,2,fd,sd,kvs,kws,rfl,rfl,a1,a2,a3,a4,a5,hu3,_,rfl,iteF ?_⟩
  obtain ⟨kvs,kws,a1,a2,a3,a4,a5⟩:=pc_al ok (hpc.same s13) at1
  refine ⟨_,rfl,_,rfl,2,p,sd,kvs,kws,rfl,rfl,a1,a2,a3,a4,a5,hu3,_,rfl,iteF ?_⟩
  refine ⟨sd,_,q13,fun o=>?_⟩
  have kl:(zK (pc.map (·.1)) lq).length = pc.length:=by rw [zK_len (by rw [List.length_map];exact q2),List.length_map]
  obtain ⟨W,hW⟩:∃ W:Addr->Prop,W = fun b=>H1 b = none/\cut H2 H3 b = none:=⟨_,rfl⟩
  have wIn:∀ b ob,cut H1 H2 b = some ob->W b:=fun b ob e=>by
   rw [hW]
   refine ⟨cut_new e,?_⟩
   unfold cut
   rw [cut_sub _ _ e]
  have wOut:∀ b,¬ W b->∃ ob,H3 b = some ob:=fun b nw=>by
   cases z:H3 b with
   | some ob=>exact ⟨ob,rfl⟩
   | none=>
    refine absurd ?_ nw
    rw [hW]
    refine ⟨none_of s23 z,?_⟩
    unfold cut
    split
    ·exact z
    ·rfl
  have w1:∀ b ob,H1 b = some ob->¬ W b:=fun b ob e nw=>by rw [hW] at nw;rw [e] at nw;cases nw.1
  have w3:∀ b ob,cut H2 H3 b = some ob->¬ W b:=fun b ob e nw=>by rw [hW] at nw;rw [e] at nw;cases nw.2
  have loF:LoP (cut H1 H2) W fd lf 31 12:=PcAt.lo ok wIn f1 f2 f3 h31 fun b xs e ys e2=>by
   have:=cut_new e2
   rw [s1 _ _ e] at this
   cases this
  have lo3:=(loF.same cut_sub).same s3
  have nsd:∀ (b:Addr),W b->b ≠ sd:=fun b wb e=>w1 sd _ (cut_sub _ _ q1) (e ▸ wb)
  have wfd:W fd:=wIn _ _ f1
  have hf0:(upd H3 sd (.frz o (.dK (zK (pc.map (·.1)) lq)))) sd = some (.frz o (.dK (zK (pc.map (·.1)) lq))):=upd_same
  have fd0:(upd H3 sd (.frz o (.dK (zK (pc.map (·.1)) lq)))) fd = some (.dK (zK (pc.map (·.1)) lf)):=by rw [upd_ne (nsd _ wfd)];exact f13
  have lo0:LoP (upd H3 sd (.frz o (.dK (zK (pc.map (·.1)) lq)))) W fd lf 31 12:=fun l hl=>by
   obtain ⟨a,rs,b,c,d⟩:=lo3 l hl
   refine ⟨a,rs,by rw [upd_ne (nsd _ a)];exact b,c,fun r hr'=>?_⟩
   obtain ⟨e1,e2,kv,e3,e4⟩:=d r hr'
   exact ⟨e1,e2,kv,by rw [upd_ne (nsd _ e1)];exact e3,e4⟩
  have out0:∀ b,¬ W b->∃ ob,(upd H3 sd (.frz o (.dK (zK (pc.map (·.1)) lq)))) b = some ob:=fun b nw=>by
   by_cases z:b = sd
   ·rw [z];exact ⟨_,hf0⟩
   ·rw [upd_ne z];exact wOut b nw
  have G0u:∀ b,b ≠ sd->(upd H3 sd (.frz o (.dK (zK (pc.map (·.1)) lq)))) b = H3 b:=fun b nb=>upd_ne nb
  generalize upd H3 sd (.frz o (.dK (zK (pc.map (·.1)) lq))) = G0 at *
  refine ⟨_,rfl,sd,o,_,rfl,hf0,for_dict (a:=sd) (o:=o) (kvs:=zK (pc.map (·.1)) lq) (fun i σ Hc=>Hc sd = some (.frz o (.dK (zK (pc.map (·.1)) lq)))/\Hc fd = some (.dK (zK (pc.map (·.1)) lf))/\LoP Hc W fd lf (31 + i) (12 + 40 * i)/\Kp G0 W Hc/\∃ (u4 u5:Option V),σ = [some (.ref p),some (.ref sd),some (.ref fd),some (.ref ot),u4,u5]) ⟨hf0,fd0,lo0,fun b ob e _=>e,_,_,rfl⟩ (fun i σ Hc _ p=>p.1) ?_ ?_⟩
  ·rintro i k v σ Hc hk ⟨g1,g2,g3,g4,u4,u5,rfl⟩
   have hi8:i < 8:=by
    have:=(List.getElem?_eq_some_iff.mp hk).1
    have:=ok.le
    omega
   obtain ⟨z,l,rfl,hl,hval⟩:=zK_find ok.nd hk f2
   obtain ⟨wl,rs,b1,b2,b3⟩:=g3 l hl
   have dg:∀ {G:Hp},G fd = some (.dK (zK (pc.map (·.1)) lf))->DGet G fd (.str z) (some (.ref l)):=fun {G} e=>.inl ⟨_,.inr z,.inl e,rfl,hval.symm⟩
   obtain ⟨ty,hn⟩:=Is.lst (K:=K) b1
   refine ⟨_,rfl,_,rfl,fd,.ref l,rfl,dg g2,_,_,_,_,rfl,ty,kit_eq.trans (kit_list _ hn),_,rfl,iteF ?_⟩
   refine ⟨_,rfl,_,rfl,fd,.ref l,rfl,dg g2,l,rfl,⟨_,SqL.of b1⟩,for_list (K:=K) (a:=l) (xs:=rs.map V.ref) (fun j σ H6=>H6 sd = some (.frz o (.dK (zK (pc.map (·.1)) lq)))/\H6 fd = some (.dK (zK (pc.map (·.1)) lf))/\LoP H6 W fd lf (31 + i) (12 + 40 * i + j)/\Kp G0 W H6/\H6 l = some (.lst (rs.map V.ref))/\RD H6 W fd rs (12 + 40 * i + j)/\∃ (u5:Option V),σ = [some (.ref p),some (.ref sd),some (.ref fd),some (.ref ot),some (.str z),u5]) ⟨g1,g2,g3,g4,b1,b3,_,rfl⟩ (fun j σ H6 _ p=>SqL.of p.2.2.2.2.1) ?_ ?_⟩
   ·rintro j x σ H6 hx ⟨c1,c2,c3,c4,c5,c6,u5,rfl⟩
    have hjl:j < rs.length:=by
     have:=(List.getElem?_eq_some_iff.mp hx).1
     rwa [List.length_map] at this
    obtain ⟨r,hr',rfl⟩:=List.mem_map.mp (List.mem_of_getElem? hx)
    obtain ⟨wr,nrf,kv,dr,el⟩:=c6 r hr'
    have lp:=length_putK kv (.inr "A") (.int 1)
    refine ⟨_,rfl,r,_,rfl,.inl ⟨kv,.inr "A",dr,rfl,(by rw [sizeLine_eq];omega),rfl⟩,?_,?_,c3.dput dr (by omega) (by omega),c4.put wr,?_,c6.dput (by omega) (by omega),_,rfl⟩
    ·rw [upd_ne (nsd _ wr).symm];exact c1
    ·rw [upd_ne nrf.symm];exact c2
    ·rw [upd_ne fun e=>by rw [e,dr] at c5;cases c5];exact c5
   ·rintro σ H6 ⟨c1,c2,c3,c4,c5,c6,u5,rfl⟩
    rw [List.length_map] at c3 c6
    refine ⟨_,rfl,_,rfl,fd,.ref l,rfl,dg c2,.inl ⟨rfl,_,SqL.of c5⟩,fun d hd=>?_⟩
    have wd:=c4.fresh out0 hd
    have T7:=Same.upd (o:=.dK []) hd
    have d7:(upd H6 d (.dK [])) d = some (.dK []):=upd_same
    have ndf:d ≠ fd:=fun e=>by rw [e,c2] at hd;cases hd
    generalize upd H6 d (.dK []) = H7 at *
    have l7:=T7 _ _ c5
    refine ⟨l,_,_,rfl,rfl,l7,(by rw [List.length_map,sizeLine_eq];omega),?_⟩
    have er:rs.map V.ref ++ [V.ref d] = (rs ++ [d]).map V.ref:=by rw [List.map_append];rfl
    rw [er]
    refine ⟨by rw [upd_ne (nsd _ wl).symm];exact T7 _ _ c1,by rw [upd_ne fun e=>by rw [← e,T7 _ _ c2] at l7;cases l7];exact T7 _ _ c2,(c3.same T7).lput l7 (by omega) (by omega) (by rw [List.length_append];show rs.length + 1 ≤ _;omega) (fun r hr'=>?_),(c4.same T7).put wl,_,_,rfl⟩
    rcases List.mem_append.mp hr' with h | h
    ·obtain ⟨e1,e2,kv,e3,e4⟩:=c6 r h
     exact ⟨e1,e2,kv,T7 _ _ e3,by omega⟩
    ·rw [List.mem_singleton.mp h]
     exact ⟨wd,ndf,[],d7,by show 0 ≤ _;omega⟩
  ·rintro σ Hc ⟨g1,g2,g3,g4,u4,u5,rfl⟩
   refine ⟨g1,?_⟩
   have kE:∀ b ob,H3 b = some ob->¬ W b->(upd (upd Hc sd (.dK (zK (pc.map (·.1)) lq))) fd (.dK [])) b = some ob:=fun b ob e nw=>by
    have nbf:b ≠ fd:=fun z=>nw (by rw [z];exact wfd)
    rw [upd_ne nbf]
    by_cases z:b = sd
    ·rw [z,upd_same,← q13,← z];exact e
    ·rw [upd_ne z]
     exact g4 b ob (by rw [G0u b z];exact e) nw
   have fdd:(upd Hc sd (.dK (zK (pc.map (·.1)) lq))) fd = some (.dK (zK (pc.map (·.1)) lf)):=by rw [upd_ne (nsd _ wfd)];exact g2
   refine ⟨_,rfl,.inr (.inr (.inl ⟨rfl,.inl ⟨_,fdd⟩⟩)),fd,_,rfl,rfl,fdd,?_⟩
   generalize upd (upd Hc sd (.dK (zK (pc.map (·.1)) lq))) fd (.dK []) = He at *
   have S1e:Same H1 He:=fun b ob e=>kE b ob (s23 _ _ e) (w1 b ob e)
   have SHe:Same H He:=s1.trans S1e
   have sdE:He sd = some (.dK (zK (pc.map (·.1)) lq)):=S1e _ _ (cut_sub _ _ q1)
   obtain ⟨kvs,kws,a1,a2,a3,a4,a5⟩:=pc_al ok (hpc.same SHe) ((d1.same cut_sub).pc.same S1e)
   refine ⟨_,rfl,_,rfl,2,p,sd,kvs,kws,rfl,rfl,a1,a2,a3,a4,a5,hu3,_,rfl,iteF ?_⟩
   refine ⟨sd,_,sdE,fun o2=>?_⟩
   obtain ⟨lp,p1,p2,p3⟩:=id hpc
   have loP0:LoP H (fun b=>∃ ob,H b = some ob) p lp 31 12:=PcAt.lo ok (fun b ob e=>⟨ob,e⟩) p1 p2 p3 h31 fun b xs e ys e2=>by
    rw [e] at e2
    cases e2
   have hsd:H sd = none:=cut_new q1
   have nsd2:∀ b,(∃ ob,H b = some ob)->b ≠ sd:=fun b ⟨ob,e⟩ z=>by rw [z,hsd] at e;cases e
   have lo1:=loP0.same SHe
   have hf1:(upd He sd (.frz o2 (.dK (zK (pc.map (·.1)) lq)))) sd = some (.frz o2 (.dK (zK (pc.map (·.1)) lq))):=upd_same
   have p0:(upd He sd (.frz o2 (.dK (zK (pc.map (·.1)) lq)))) p = some (.dK (zK (pc.map (·.1)) lp)):=by rw [upd_ne (nsd2 _ ⟨_,p1⟩)];exact SHe _ _ p1
   have lo2:LoP (upd He sd (.frz o2 (.dK (zK (pc.map (·.1)) lq)))) (fun b=>∃ ob,H b = some ob) p lp 31 12:=fun l hl=>by
    obtain ⟨a,rs,b,c,d⟩:=lo1 l hl
    refine ⟨a,rs,by rw [upd_ne (nsd2 _ a)];exact b,c,fun r hr'=>?_⟩
    obtain ⟨e1,e2,kv,e3,e4⟩:=d r hr'
    exact ⟨e1,e2,kv,by rw [upd_ne (nsd2 _ e1)];exact e3,e4⟩
   have G1u:∀ b,b ≠ sd->(upd He sd (.frz o2 (.dK (zK (pc.map (·.1)) lq)))) b = He b:=fun b nb=>upd_ne nb
   generalize upd He sd (.frz o2 (.dK (zK (pc.map (·.1)) lq))) = G1 at *
   refine ⟨_,rfl,sd,o2,_,rfl,hf1,for_dict (a:=sd) (o:=o2) (kvs:=zK (pc.map (·.1)) lq) (fun i σ Hd=>Hd sd = some (.frz o2 (.dK (zK (pc.map (·.1)) lq)))/\Hd p = some (.dK (zK (pc.map (·.1)) lp))/\LoP Hd (fun b=>∃ ob,H b = some ob) p lp 31 12/\Kp G1 (fun b=>∃ ob,H b = some ob) Hd/\∃ (u4 u5:Option V),σ = [some (.ref p),some (.ref sd),some (.ref fd),some (.ref ot),u4,u5]) ⟨hf1,p0,lo2,fun b ob e _=>e,_,_,rfl⟩ (fun i σ Hd _ p=>p.1) ?_ ?_⟩
   ·rintro i k v σ Hd hk ⟨g1,g2,g3,g4,u4,u5,rfl⟩
    obtain ⟨z,l,rfl,hl,hval⟩:=zK_find ok.nd hk p2
    obtain ⟨wl,rs,b1,b2,b3⟩:=g3 l hl
    have dg:∀ {G:Hp},G p = some (.dK (zK (pc.map (·.1)) lp))->DGet G p (.str z) (some (.ref l)):=fun {G} e=>.inl ⟨_,.inr z,.inl e,rfl,hval.symm⟩
    refine ⟨_,rfl,_,rfl,p,.ref l,rfl,dg g2,l,rfl,⟨_,SqL.of b1⟩,for_list (K:=K) (a:=l) (xs:=rs.map V.ref) (fun j σ H6=>H6 sd = some (.frz o2 (.dK (zK (pc.map (·.1)) lq)))/\H6 p = some (.dK (zK (pc.map (·.1)) lp))/\LoP H6 (fun b=>∃ ob,H b = some ob) p lp 31 12/\Kp G1 (fun b=>∃ ob,H b = some ob) H6/\H6 l = some (.lst (rs.map V.ref))/\RD H6 (fun b=>∃ ob,H b = some ob) p rs 12/\∃ (u5:Option V),σ = [some (.ref p),some (.ref sd),some (.ref fd),some (.ref ot),some (.str z),u5]) ⟨g1,g2,g3,g4,b1,b3,_,rfl⟩ (fun j σ H6 _ p=>SqL.of p.2.2.2.2.1) ?_ ?_⟩
    ·rintro j x σ H6 hx ⟨c1,c2,c3,c4,c5,c6,u5,rfl⟩
     obtain ⟨r,hr',rfl⟩:=List.mem_map.mp (List.mem_of_getElem? hx)
     obtain ⟨wr,nrf,kv,dr,el⟩:=c6 r hr'
     refine ⟨_,rfl,.inr (.inr (.inl ⟨rfl,.inl ⟨_,dr⟩⟩)),r,_,rfl,rfl,dr,?_,?_,c3.dput dr (Nat.le_refl _) (Nat.zero_le _),c4.put wr,?_,c6.dput (Nat.le_refl _) (Nat.zero_le _),_,rfl⟩
     ·rw [upd_ne (nsd2 _ wr).symm];exact c1
     ·rw [upd_ne nrf.symm];exact c2
     ·rw [upd_ne fun e=>by rw [e,dr] at c5;cases c5];exact c5
    ·rintro σ H6 ⟨c1,c2,c3,c4,c5,c6,u5,rfl⟩
     refine ⟨_,rfl,_,rfl,p,.ref l,rfl,dg c2,.inl ⟨rfl,_,SqL.of c5⟩,l,_,rfl,rfl,c5,?_⟩
     refine ⟨by rw [upd_ne (nsd2 _ wl).symm];exact c1,by rw [upd_ne fun e=>by rw [← e,c2] at c5;cases c5];exact c2,c3.lput (rs:=[]) c5 (Nat.le_refl _) (Nat.le_refl _) (Nat.zero_le _) (fun r hr'=>nomatch hr'),c4.put wl,_,_,rfl⟩
   ·rintro σ Hd ⟨g1,g2,g3,g4,u4,u5,rfl⟩
    refine ⟨g1,?_⟩
    have kZ:∀ b ob,He b = some ob->H b = none->(upd Hd sd (.dK (zK (pc.map (·.1)) lq))) b = some ob:=fun b ob e hb=>by
     by_cases z:b = sd
     ·rw [z,upd_same,← sdE,← z];exact e
     ·rw [upd_ne z]
      exact g4 b ob (by rw [G1u b z];exact e) fun ⟨ob',e'⟩=>by rw [hb] at e';cases e'
    generalize upd Hd sd (.dK (zK (pc.map (·.1)) lq)) = Hz at *
    have so:Same (cut H2 H3) Hz:=fun b ob e=>kZ b ob (kE b ob (cut_sub _ _ e) (w3 b ob e)) (none_of s12 (cut_new e))
    have ss:Same (cut H H1) Hz:=fun b ob e=>kZ b ob (S1e _ _ (cut_sub _ _ e)) (cut_new e)
    obtain ⟨kvs,kws,a1,a2,a3,a4,a5⟩:=pc_al ok (d3.same so).pc (d1.same ss).pc
    exact ⟨_,rfl,_,rfl,2,ot,sd,kvs,kws,rfl,rfl,a1,a2,a3,a4,a5,hu3,q _⟩
end
end My
namespace My
open PySem L2 PyProof.Rows
seal L2.PE L2.PT L2.PW L2.PS L2.PSs L2.PA L2.PI L2.PG L2.PGs L2.OpR L2.UnR L2.CallR L2.IxR L2.SlR L2.MtR L2.PIf L2.PO L2.MtM L2.PC
def del (H:Hp) (p:Addr):Hp:=fun b=>if b = p then none else H b
theorem del_sub {H:Hp} {p:Addr}:Same (del H p) H:=fun b o e=>by
 unfold del at e
 split at e
 ·cases e
 ·exact e
theorem del_at {H:Hp} {p b:Addr} {o:HO} (n:b ≠ p) (e:H b = some o):del H p b = some o:=by
 unfold del
 rw [if_neg n]
 exact e
theorem del_up {H H':Hp} {p:Addr} (s:Same H H'):Same (del H p) (del H' p):=fun b o e=>by
 unfold del at e ⊢
 split
 ·rename_i z
  rw [if_pos z] at e
  cases e
 ·rename_i z
  rw [if_neg z] at e
  exact s _ _ e
theorem del_upd {H:Hp} {p:Addr} {o:HO}:del (upd H p o) p = del H p:=by
 funext b
 unfold del
 split
 ·rfl
 ·rename_i z
  exact upd_ne z
theorem PcF.pc {H:Hp} {sz:Int} {Ps:List Tb} {p:Addr} {ls:List Addr} {pr:List (List Rw)} (h:PcF H sz Ps p ls pr) (nd:(Ps.map (·.name)).Nodup) (tok:∀ T ∈ Ps,TOk T) (l8:Ps.length ≤ 8):∃ pc,PcAt H p pc/\PcOk H pc/\∀ t ∈ pc,t.2.length ≤ 31:=by
 obtain ⟨h1,h2,h3,h4⟩:=h
 have nl:(Ps.map (·.name)).length = pr.length:=by rw [List.length_map,h3]
 have zl:((Ps.map (·.name)).zip pr).length = Ps.length:=by rw [List.length_zip,nl,Nat.min_self,h3]
 have zn:((Ps.map (·.name)).zip pr).map (·.1) = Ps.map (·.name):=List.map_fst_zip (by omega)
 have part:∀ (j:Nat) (t:Str × List Rw),((Ps.map (·.name)).zip pr)[j]? = some t->∃ T l,Ps[j]? = some T/\ls[j]? = some l/\pr[j]? = some t.2/\TabF H sz l T t.2:=fun j t e=>by
  have hj:j < Ps.length:=by rw [← zl];exact (List.getElem?_eq_some_iff.mp e).1
  have e2:pr[j]? = some t.2:=by
   rw [List.getElem?_zip_eq_some] at e
   exact e.2
  have hjl:j < ls.length:=by omega
  exact ⟨Ps[j],ls[j],List.getElem?_eq_getElem hj,List.getElem?_eq_getElem hjl,e2,h4 j _ _ _ (List.getElem?_eq_getElem hjl) (List.getElem?_eq_getElem hj) e2⟩
 refine ⟨(Ps.map (·.name)).zip pr,⟨ls,by rw [zn];exact h1,by omega,fun j l t e1 e2=>?_⟩,⟨by rw [zn];exact nd,by omega,fun t ht=>?_,fun t ht row hr=>?_⟩,fun t ht=>?_⟩
 ·obtain ⟨T,l',a1,a2,a3,⟨rs,b1,b2⟩,_⟩:=part j t e2
  rw [e1] at a2
  cases a2
  exact ⟨rs,b1,b2.len,fun j r row c1 c2=>b2.get j r row c1 c2⟩
 ·obtain ⟨j,hj⟩:=List.getElem?_of_mem ht
  obtain ⟨T,l',a1,a2,a3,a4⟩:=part j t hj
  have:=a4.2.2.2
  omega
 ·obtain ⟨j,hj⟩:=List.getElem?_of_mem ht
  obtain ⟨T,l',a1,a2,a3,a4⟩:=part j t hj
  have tk:=tok T (List.mem_of_getElem? a1)
  have rf:=a4.2.1 row hr
  refine ⟨⟨rf.nd tk.1,by rw [rf.len];exact tk.2⟩,fun c hc=>?_⟩
  obtain ⟨d,a,kk,g1,_⟩:=rf.2 c hc
  exact g1.flr
 ·obtain ⟨j,hj⟩:=List.getElem?_of_mem ht
  obtain ⟨T,l',a1,a2,a3,a4⟩:=part j t hj
  exact a4.2.2.2
theorem SqL.fr {K:PySem.W.Frag} {H H':Hp} {PF a:Addr} {xs:List V} {t:Array Value} (h:SqL K H a xs) (hP:∃ u,H PF = some (.tbl u)) (s:Fr PF H H'):SqL K H' a xs:=by
 obtain ⟨u,hP⟩:=hP
 rcases h with h | h
 ·rcases h with h | ⟨o,h⟩
  ·exact .inl (.inl (s _ _ (fun e=>by rw [e,hP] at h;cases h) h))
  ·exact .inl (.inr ⟨o,s _ _ (fun e=>by rw [e,hP] at h;cases h) h⟩)
 ·exact .inr h
theorem PartsAt.same {H H':Hp} {l:Addr} {es ds:List Addr} {Ts:List Tb} (h:PartsAt H l es ds Ts) (s:Same H H'):PartsAt H' l es ds Ts:=h.sb s.sb
def spLawT (K:PySem.W.Frag) (PF:Addr):Sp:=fun vs H Q _=>∃ (a:Addr) (ns:List Int),vs = [.ref a]/\SqL K H a (ns.map V.int)/\ns.length ≤ 63/\H PF = some (.tbl #[])/\∀ H',Q (.bl true) H'
def lN:List Str:=["_law_script","_law_size","_law_parts","_law_form","_law_piece","_law_k","_law_part","_law_row_here","_law_number","_law_spoiled"]
section
variable {P:Program} {w:World} {K:PySem.W.Frag} {mg:Str->Option Value} {base:Heap}
theorem ok_law {f fC fT fF fTo fR fP fRs fRw fRS fPS fCp PF:Addr} {fd fdC fdT fdF fdTo fdR fdP fdRs fdRw fdRS fdPS fdCp:FuncData} (F:Fun K "law" "law" (top 54) f fd) (B:Bl mg) (DC:Df K mg "_law_cell" (top 34) fC fdC) (DT:Df K mg "_law_tables" (top 42) fT fdT) (GT:FnOk P w K mg base CX0 4 fT fdT ["_law_script","_law_start","_law_most","_law_wide"] (spTabsL K))
  (DF:Df K mg "form_of" (top 21) fF fdF) (GF:FnOk P w K mg base CX0 6 fF fdF ["size","tables"] (spForm PF)) (DTo:Df K mg "_law_told" (top 36) fTo fdTo) (DR:Df K mg "is_row" (top 29) fR fdR) (GR:FnOk P w K mg base CX0 5 fR fdR ["form","table","row"] (spIsRow K)) (DP:Df K mg "is_piece" (top 30) fP fdP) (GP:FnOk P w K mg base CX0 7 fP fdP ["form","piece"] (spIsP K))
  (DRs:Df K mg "_law_rows" (top 47) fRs fdRs) (GRs:FnOk P w K mg base CX0 5 fRs fdRs ["_law_sort","_law_columns_here","_law_number","_law_size"] (spRows K)) (DRw:Df K mg "_law_row" (top 46) fRw fdRw) (GRw:FnOk P w K mg base CX0 4 fRw fdRw ["_law_columns_here","_law_number","_law_size"] (spRow K))
  (DRS:Df K mg "_law_row_spoiled" (top 49) fRS fdRS) (GRS:FnOk P w K mg base CX0 2 fRS fdRS ["_law_row_here","_law_columns_here","_law_size","_law_way","_law_number"] (spRowS K)) (DPS:Df K mg "_law_piece_spoiled" (top 51) fPS fdPS) (GPS:FnOk P w K mg base CX0 5 fPS fdPS ["_law_piece","_law_part","_law_size","_law_way","_law_number"] (spPcS K))
  (DCp:Df K mg "_law_copy" (top 53) fCp fdCp) (GCp:FnOk P w K mg base CX0 2 fCp fdCp ["_law_piece"] spCopy):FnOk P w K mg base CX0 9 f fd ["_law_script"] (spLawT K PF):=by
 have sc:FnScope lN ["_law_script"] (defScope (top 54)):=⟨rfl,rfl,rfl,by decide +kernel,rfl,by decide +kernel,by decide +kernel⟩
 have GC:FnOk P w K mg base CX0 1 fC fdC ["_law_script","_law_k"] (spCell K):=ok_cell DC.fn B
 have GTo:FnOk P w K mg base CX0 1 fTo fdTo ["_law_found","_law_due"] spTold:=ok_told DTo.fn B
 have bC:=DC.fn.binds (ps:=["_law_script","_law_k"]) fun _ _ _ _ _ _ us hl=>by obtain ⟨v0,v1,rfl⟩:=L2.ln2 hl;rfl
 have bTo:=DTo.fn.binds (ps:=["_law_found","_law_due"]) fun _ _ _ _ _ _ us hl=>by obtain ⟨v0,v1,rfl⟩:=L2.ln2 hl;rfl
 have bT:=DT.fn.binds (ps:=["_law_script","_law_start","_law_most","_law_wide"]) fun _ _ _ _ _ _ us hl=>by obtain ⟨v0,v1,v2,v3,rfl⟩:=L2.ln4 hl;rfl
 have bF:=DF.fn.binds (ps:=["size","tables"]) fun _ _ _ _ _ _ us hl=>by obtain ⟨v0,v1,rfl⟩:=L2.ln2 hl;rfl
 have bP:=DP.fn.binds (ps:=["form","piece"]) fun _ _ _ _ _ _ us hl=>by obtain ⟨v0,v1,rfl⟩:=L2.ln2 hl;rfl
 have bR:=DR.fn.binds (ps:=["form","table","row"]) fun _ _ _ _ _ _ us hl=>by obtain ⟨v0,v1,v2,rfl⟩:=L2.ln3 hl;rfl
 have bRs:=DRs.fn.binds (ps:=["_law_sort","_law_columns_here","_law_number","_law_size"]) fun _ _ _ _ _ _ us hl=>by obtain ⟨v0,v1,v2,v3,rfl⟩:=L2.ln4 hl;rfl
 have bRw:=DRw.fn.binds (ps:=["_law_columns_here","_law_number","_law_size"]) fun _ _ _ _ _ _ us hl=>by obtain ⟨v0,v1,v2,rfl⟩:=L2.ln3 hl;rfl
 have bRS:=DRS.fn.binds (ps:=["_law_row_here","_law_columns_here","_law_size","_law_way","_law_number"]) fun _ _ _ _ _ _ us hl=>match us,hl with | [_,_,_,_,_],_=>rfl
 have bPS:=DPS.fn.binds (ps:=["_law_piece","_law_part","_law_size","_law_way","_law_number"]) fun _ _ _ _ _ _ us hl=>match us,hl with | [_,_,_,_,_],_=>rfl
 have bCp:=DCp.fn.binds (ps:=["_law_piece"]) fun _ _ _ _ _ _ us hl=>by obtain ⟨v0,rfl⟩:=L2.ln1 hl;rfl
 refine F.ok sc (fun vs H Q E h=>?_) (fun cdv A outer s H vs Q E hr h=>?_)
 ·obtain ⟨a,ns,rfl,_⟩:=h
  rfl
 ·obtain ⟨a,ns,rfl,hS,h63,hPF,q⟩:=h
  have hr1:Room 1 _:=hr.mono (by decide)
  have hr2:Room 2 _:=hr.mono (by decide)
  have hr4:Room 4 _:=hr.mono (by decide)
  have hr5:Room 5 _:=hr.mono (by decide)
  have hr6:Room 6 _:=hr.mono (by decide)
  have hr7:Room 7 _:=hr.mono (by decide)
  have hu:(A.deeper (envOfC "law" (defScope (top 54)) s.heap.objs.size f cdv)).units + 1 < cLine:=hu_of hr
  refine ⟨_,pss_cons (ps_set (i:=1) sc.nd rfl (Or.inl rfl) (pe_op op_add pe_int (pe_op op_mod (pe_op op_fdiv (pe_call GC hr1 (by rfl) DC.mg DC.fn.kp bC .nil pass0 (pa_cons (pv 0) (pa_cons pe_int pa_nil))) pe_int) (pe_ix ix_list (pe_lst (pa_cons pe_int (pa_cons (pe_op op_pow pe_int pe_int) pa_nil))) (pe_op op_mod (pe_call GC hr1 (by rfl) DC.mg DC.fn.kp bC .nil pass0 (pa_cons (pv 0) (pa_cons pe_int pa_nil))) pe_int) (fun _ _=>rfl)))))
   (pss_cons (ps_set (i:=2) sc.nd rfl (Or.inl rfl) (pe_call GT hr4 (by rfl) DT.mg DT.fn.kp bT .nil pass0 (pa_cons (pv 0) (pa_cons pe_int (pa_cons pe_int (pa_cons pe_int pa_nil))))))
   (pss_cons (ps_cut (ps_if (pt_cmpR op_eq (pe_op op_mod (pe_op op_fdiv (pe_call GC hr1 (by rfl) DC.mg DC.fn.kp bC .nil pass0 (pa_cons (pv 0) (pa_cons pe_int pa_nil))) pe_int) pe_int) pe_int (nomark _)) (pss_one (ps_set (i:=2) sc.nd rfl (Or.inl rfl) (pe_call GT hr4 (by rfl) DT.mg DT.fn.kp bT .nil pass0 (pa_cons (pv 0) (pa_cons pe_int (pa_cons pe_int (pa_cons pe_int pa_nil))))))) pss_nil))
   (pss_cons (ps_set (i:=3) sc.nd rfl (Or.inl rfl) (pe_call GF hr6 (by rfl) DF.mg DF.fn.kp bF .nil pass0 (pa_cons (pv 1) (pa_cons (pe_comp (osc:=defScope (top 54)) (N0:=lN) (xs:=["_law_name","_law_sort","_law_columns_here"]) (fr:=[]) ⟨rfl,by decide +kernel,by decide +kernel,by decide +kernel,by decide,by decide +kernel⟩ rfl rfl rfl (pi_list (pv 2))
     (fun s H fp=>pg_tupK (K:=K) (n:=3) rfl rfl (pgs_cons (pg_name (i:=0) (show (["_law_name","_law_sort","_law_columns_here"]:List Str).Nodup by decide +kernel) rfl (Or.inl rfl)) (pgs_cons (pg_name (i:=1) (show (["_law_name","_law_sort","_law_columns_here"]:List Str).Nodup by decide +kernel) rfl (Or.inl rfl)) (pgs_cons (pg_name (i:=2) (show (["_law_name","_law_sort","_law_columns_here"]:List Str).Nodup by decide +kernel) rfl (Or.inl rfl)) pgs_nil)))) (fun s H fp=>pif_nil)
     (fun s H fp=>pe_tup (pa_cons (pv 0) (pa_cons (pv 1) (pa_cons (pe_callTy call_dict_of (by rfl) B.dict boot_dict (pa_cons (pv 2) pa_nil)) pa_nil))))) pa_nil))))
   (pss_cons (ps_set (i:=4) sc.nd rfl (Or.inl rfl) pe_dnewK)
   (pss_cons (ps_for PassesOwn.never rfl (pi_enum (by rfl) B.enum (pa_cons (pv 2) pa_nil)) (pg_tup rfl (pgs_cons (pg_name (i:=5) sc.nd rfl (Or.inl rfl)) (pgs_cons (pg_name (i:=6) sc.nd rfl (Or.inl rfl)) pgs_nil)))
    (pss_cons (ps_dput hu (pv 4) (pe_ix ix_tup (pv 6) pe_int (fun _ _=>rfl)) (pe_call GRs hr5 (by rfl) DRs.mg DRs.fn.kp bRs .nil pass0 (pa_cons (pe_ix ix_tup (pv 6) pe_int (fun _ _=>rfl)) (pa_cons (pe_ix ix_tup (pv 6) pe_int (fun _ _=>rfl)) (pa_cons (pe_call GC hr1 (by rfl) DC.mg DC.fn.kp bC .nil pass0 (pa_cons (pv 0) (pa_cons (pe_op op_add pe_int (pv 5)) pa_nil))) (pa_cons (pv 1) pa_nil))))) rfl)
    (pss_one (ps_for PassesOwn.never rfl (pi_list (pe_dget hu (pv 4) (pe_ix ix_tup (pv 6) pe_int (fun _ _=>rfl)) (fun _ _=>rfl))) (pg_name (i:=7) sc.nd rfl (Or.inl rfl))
     (pss_one (ps_if (PW.pt (pw_or (pt_not (pt_val (pe_call GTo hr1 (by rfl) DTo.mg DTo.fn.kp bTo .nil pass0 (pa_cons (pe_call GR hr5 (by rfl) DR.mg DR.fn.kp bR .nil pass0 (pa_cons (pv 3) (pa_cons (pe_ix ix_tup (pv 6) pe_int (fun _ _=>rfl)) (pa_cons (pv 7) pa_nil)))) (pa_cons pe_bl pa_nil)))))
      (pw_or1 (pt_not (pt_val (pe_call GTo hr1 (by rfl) DTo.mg DTo.fn.kp bTo .nil pass0 (pa_cons (pe_call GR hr5 (by rfl) DR.mg DR.fn.kp bR .nil pass0 (pa_cons (pv 3) (pa_cons pe_str (pa_cons (pv 7) pa_nil)))) (pa_cons pe_bl pa_nil)))))))) pss_never pss_nil))))))
   (pss_cons (ps_if (pt_not (pt_val (pe_call GTo hr1 (by rfl) DTo.mg DTo.fn.kp bTo .nil pass0 (pa_cons (pe_call GP hr7 (by rfl) DP.mg DP.fn.kp bP .nil pass0 (pa_cons (pv 3) (pa_cons (pv 4) pa_nil))) (pa_cons pe_bl pa_nil))))) pss_never pss_nil)
   (pss_cons (ps_set (i:=6) sc.nd rfl (Or.inl rfl) (pe_ix ix_list (pv 2) (pe_op op_mod (pe_call GC hr1 (by rfl) DC.mg DC.fn.kp bC .nil pass0 (pa_cons (pv 0) (pa_cons pe_int pa_nil))) (pe_callB call_len_seq (by rfl) B.len PySem.boot_len (pa_cons (pv 2) pa_nil))) (fun _ _=>rfl)))
   (pss_cons (ps_set (i:=8) sc.nd rfl (Or.inl rfl) (pe_call GC hr1 (by rfl) DC.mg DC.fn.kp bC .nil pass0 (pa_cons (pv 0) (pa_cons pe_int pa_nil))))
   (pss_cons (ps_set (i:=7) sc.nd rfl (Or.inl rfl) (pe_call GRw hr4 (by rfl) DRw.mg DRw.fn.kp bRw .nil pass0 (pa_cons (pe_ix ix_tup (pv 6) pe_int (fun _ _=>rfl)) (pa_cons (pe_op op_fdiv (pv 8) pe_int) (pa_cons (pv 1) pa_nil)))))
   (pss_cons (ps_set (i:=9) sc.nd rfl (Or.inl rfl) (pe_call GRS hr2 (by rfl) DRS.mg DRS.fn.kp bRS .nil pass0 (pa_cons (pv 7) (pa_cons (pe_ix ix_tup (pv 6) pe_int (fun _ _=>rfl)) (pa_cons (pv 1) (pa_cons (pe_op op_mod (pv 8) pe_int) (pa_cons (pe_op op_fdiv (pv 8) pe_int) pa_nil)))))))
   (pss_cons (ps_if (PW.pt (pw_or (pt_not (pt_val (pe_call GTo hr1 (by rfl) DTo.mg DTo.fn.kp bTo .nil pass0 (pa_cons (pe_call GR hr5 (by rfl) DR.mg DR.fn.kp bR .nil pass0 (pa_cons (pv 3) (pa_cons (pe_ix ix_tup (pv 6) pe_int (fun _ _=>rfl)) (pa_cons (pv 7) pa_nil)))) (pa_cons pe_bl pa_nil)))))
      (pw_or1 (pt_not (pt_val (pe_call GTo hr1 (by rfl) DTo.mg DTo.fn.kp bTo .nil pass0 (pa_cons (pe_call GR hr5 (by rfl) DR.mg DR.fn.kp bR .nil pass0 (pa_cons (pv 3) (pa_cons (pe_ix ix_tup (pv 6) pe_int (fun _ _=>rfl)) (pa_cons (pv 9) pa_nil)))) (pa_cons pe_bl pa_nil)))))))) pss_never pss_nil)
   (pss_cons (ps_set (i:=9) sc.nd rfl (Or.inl rfl) (pe_call GPS hr5 (by rfl) DPS.mg DPS.fn.kp bPS .nil pass0 (pa_cons (pv 4) (pa_cons (pv 6) (pa_cons (pv 1) (pa_cons (pe_op op_mod (pe_call GC hr1 (by rfl) DC.mg DC.fn.kp bC .nil pass0 (pa_cons (pv 0) (pa_cons pe_int pa_nil))) pe_int) (pa_cons (pv 8) pa_nil)))))))
   (pss_cons (ps_if (PW.pt (pw_or (pt_not (pt_val (pe_call GTo hr1 (by rfl) DTo.mg DTo.fn.kp bTo .nil pass0 (pa_cons (pe_call GP hr7 (by rfl) DP.mg DP.fn.kp bP .nil pass0 (pa_cons (pv 3) (pa_cons (pv 9) pa_nil))) (pa_cons pe_bl pa_nil)))))
      (pw_or1 (pt_not (pt_val (pe_call GTo hr1 (by rfl) DTo.mg DTo.fn.kp bTo .nil pass0 (pa_cons (pe_call GP hr7 (by rfl) DP.mg DP.fn.kp bP .nil pass0 (pa_cons (pv 3) (pa_cons (pv 4) pa_nil))) (pa_cons pe_bl pa_nil)))))))) pss_never pss_nil)
   (pss_one (ps_ret (pe_call GCp hr2 (by rfl) DCp.mg DCp.fn.kp bCp .nil pass0 (pa_cons (pv 4) pa_nil))))))))))))))))),?_⟩
  have p12:CPow 10 12:=⟨by decide,by decide,by decide⟩
  have e12:(10:Int) ^ (12:Int).toNat = 1000000000000:=by decide +kernel
  refine ⟨_,rfl,a,ns,_,rfl,hS,(by decide),(by decide),h63,_,_,rfl,rfl,⟨by decide,by decide⟩,?_⟩
  refine ⟨_,_,rfl,rfl,p12,(by show 2 ≤ sizeLine;decide),fun l1 e1=>?_⟩
  have T1:=Same.upd (o:=.lst [V.int 9,.int ((10:Int) ^ (12:Int).toNat)]) e1
  obtain ⟨x,hx,hm⟩:=at_mem (l:=[V.int 9,.int ((10:Int) ^ (12:Int).toNat)]) (i:=cellF ns 0 % 2) (Int.emod_nonneg _ (by decide)) (by show cellF ns 0 % 2 < 2;exact Int.emod_lt_of_pos _ (by decide))
  obtain ⟨m,rfl,m1⟩:∃ m:Int,x = .int m/\0 < m:=by
   simp only [List.mem_cons,List.not_mem_nil,or_false] at hm
   rcases hm with rfl | rfl
   ·exact ⟨_,rfl,by decide⟩
   ·exact ⟨_,rfl,by rw [e12];decide⟩
  refine ⟨_,rfl,a,ns,_,rfl,T1.seq hS,(by decide),(by decide),h63,_,_,rfl,rfl,(pos rfl),_,_,_,_,rfl,rfl,SqL.of upd_same,hx,_,_,rfl,rfl,m1,_,_,rfl,rfl,?_⟩
  have sz1:1 ≤ 1 + cellF ns 0 / 2 % m:=by have:=Int.emod_nonneg (cellF ns 0 / 2) (show m ≠ 0 by omega);omega
  show tSeq _ _ _ [some (.ref a),some (.int (1 + cellF ns 0 / 2 % m)),none,none,none,none,none,none,none,none] _
  generalize 1 + cellF ns 0 / 2 % m = sz at sz1 ⊢
  generalize upd H l1 (.lst [V.int 9,.int ((10:Int) ^ (12:Int).toNat)]) = H1 at *
  refine ⟨_,rfl,a,ns,5,6,rfl,(by decide),(by decide),(by decide),(by decide),T1.seq hS,h63,fun l0 es0 ds0 T00 R0 H20 s20 hP0 hT0=>?_⟩
  have S20:=T1.trans s20
  refine ⟨fun σ' H'=>∃ l es ds T0 R,σ' = [some (.ref a),some (.int sz),some (.ref l),none,none,none,none,none,none,none]/\Same H H'/\PartsAt H' l es ds (T0 :: R)/\TsOk T0 R,?_,?_⟩
  ·refine ⟨_,rfl,a,ns,_,rfl,S20.seq hS,(by decide),(by decide),h63,_,_,rfl,rfl,⟨by decide,by decide⟩,_,_,rfl,rfl,(pos rfl),rfl,_,rfl,?_⟩
   refine ite2 (fun c1=>?_) (fun c1=>?_)
   ·refine ⟨_,rfl,a,ns,8,12,rfl,(by decide),(by decide),(by decide),(by decide),S20.seq hS,h63,fun l es ds T0 R H' s' hP hT=>?_⟩
    exact ⟨l,es,ds,T0,R,rfl,S20.trans s',hP,hT⟩
   ·exact ⟨l0,es0,ds0,T00,R0,rfl,S20,hP0,hT0⟩
  rintro σ2 H2 ⟨l,es,ds,T0,R,rfl,S2,hP,hT⟩
  obtain ⟨Ts,eTs⟩:∃ Ts,Ts = T0 :: R:=⟨_,rfl⟩
  have hP':=hP
  rw [← eTs] at hP'
  obtain ⟨hl,e1l,e2l,hpt⟩:=id hP'
  have tl:Ts.length = R.length + 1:=by rw [eTs];rfl
  have r7:=hT.1
  refine ⟨_,rfl,_,rfl,l,rfl,⟨_,SqL.of hl⟩,fun D hD=>?_⟩
  refine compW_idx Ts.length (fun i ys σ' Hc=>(∃ t0 t1 t2,σ' = [t0,t1,t2])/\Same H2 Hc/\∃ hs hd:List Addr,ys = hs.map V.ref/\hd.length = i/\∀ (j:Nat) (e d:Addr) (T:Tb),hs[j]? = some e->hd[j]? = some d->Ts[j]? = some T->PartAt Hc e d T) (by rw [sizeLine_eq];omega) ⟨⟨_,_,_,rfl⟩,Same.upd hD,[],[],rfl,rfl,fun j e d T h=>nomatch h⟩ upd_same ?_ ?_
  ·rintro i σ' Hc ys hi ⟨⟨t0,t1,t2,rfl⟩,sm,hs,hd,rfl,hdl,hhp⟩ hyl hD'
   rw [List.length_map] at hyl
   have hie:i < es.length:=by omega
   have hid:i < ds.length:=by omega
   have pt:=hpt i es[i] ds[i] Ts[i] (List.getElem?_eq_getElem hie) (List.getElem?_eq_getElem hid) (List.getElem?_eq_getElem hi)
   refine ⟨⟨_,V.ref es[i],SqL.of (sm _ _ hl),by rw [List.getElem?_map,List.getElem?_eq_getElem hie];rfl⟩,?_⟩
   rintro x H' ⟨rfl,hx'⟩
   have ex:=hx' _ (SqL.of (sm _ _ hl))
   rw [List.getElem?_map,List.getElem?_eq_getElem hie] at ex
   cases ex
   refine ⟨_,_,rfl,SqT.of (sm _ _ pt.1),rfl,_,_,rfl,_,_,rfl,_,_,rfl,rfl,?_⟩
   refine ⟨_,rfl,_,rfl,_,rfl,ds[i],_,rfl,.inl (sm _ _ pt.2.1),fun d1 n1=>?_⟩
   have T3:=Same.upd (o:=.dK (kvC Ts[i].cols)) n1
   refine ⟨(by show 3 ≤ sizeLine;decide),fun p hp=>?_⟩
   have T4:=Same.upd (o:=.tup [.str Ts[i].name,.str Ts[i].sort,.ref d1]) hp
   have S4:=T3.trans T4
   have hD4:=S4 _ _ hD'
   refine ⟨hD4,⟨_,_,_,rfl⟩,(sm.trans S4).put hD,hs ++ [p],hd ++ [d1],by rw [List.map_append];rfl,by rw [List.length_append,hdl];rfl,fun j e d T h1 h2 h3=>?_⟩
   refine PartAt.besideL hD4 ?_
   by_cases hj:j < i
   ·rw [List.getElem?_append_left (by omega)] at h1 h2
    exact (hhp j e d T h1 h2 h3).sb S4.sb
   ·have:j = i:=by
     have:=(List.getElem?_eq_some_iff.mp h1).1
     rw [List.length_append] at this
     simp at this
     omega
    subst this
    rw [List.getElem?_append_right (by omega),hyl,Nat.sub_self] at h1
    rw [List.getElem?_append_right (by omega),hdl,Nat.sub_self] at h2
    cases h1
    cases h2
    rw [List.getElem?_eq_getElem hi] at h3
    cases h3
    exact ⟨upd_same,T4 _ _ upd_same,pt.2.2.same (sm.trans S4)⟩
  rintro σ3 H3 ys ⟨_,s3,hs,hd,rfl,hdl,hhp⟩ hD3 hyl
  rw [List.length_map] at hyl
  refine ⟨⟨_,SqL.of (s3 _ _ hl),by rw [List.length_map];omega⟩,?_⟩
  have hH3:PartsAt H3 D hs hd (T0 :: R):=by
   rw [← eTs]
   exact ⟨hD3,hyl,hdl,hhp⟩
  have S3:=S2.trans s3
  have hPF3:=S3 _ _ hPF
  refine ⟨D,sz,hs,hd,T0,R,rfl,sz1,hH3,hT,.inl hPF3,fun ff H4 R' sb4 fr4 tab4 hRp hRr hF=>?_⟩
  have hS4:SqL K H4 a (ns.map V.int):=SqL.fr (t:=#[]) (S3.seq hS) ⟨_,hPF3⟩ fr4
  have hP4:=(hP'.same s3).sb sb4
  have pm:Ts.Perm (T0 :: R'):=by rw [eTs];exact (hRp.symm).cons T0
  obtain ⟨Fs,eFs⟩:∃ Fs,Fs = T0 :: R':=⟨_,rfl⟩
  rw [← eFs] at hF pm
  have ndT:(Ts.map (·.name)).Nodup:=by rw [eTs];exact hT.2.1
  have nmT:∀ T ∈ Ts,nameS T.name = true:=by rw [eTs];exact hT.2.2.1
  have soT:∀ T ∈ Ts,T.sort ∈ sorts:=fun T hm=>by
   rw [eTs] at hm
   rcases List.mem_cons.mp hm with h | h
   ·rw [h,hT.2.2.2.1];exact List.mem_cons_self
   ·exact List.mem_cons_of_mem _ (hT.2.2.2.2 T h)
  have ndF:(Fs.map (·.name)).Nodup:=(pm.map (·.name)).nodup_iff.mp ndT
  have l8:Ts.length ≤ 8:=by omega
  have lF:Fs.length ≤ 8:=by rw [← pm.length_eq];exact l8
  have pt4:∀ (i:Nat) (hi:i < Ts.length),PartAt H4 (es[i]'(by omega)) (ds[i]'(by omega)) Ts[i]:=fun i hi=>hP4.2.2.2 i _ _ _ (List.getElem?_eq_getElem (by omega)) (List.getElem?_eq_getElem (by omega)) (List.getElem?_eq_getElem hi)
  have tokT:∀ T ∈ Ts,TOk T:=fun T hm=>by
   obtain ⟨i,hi,ei⟩:=List.mem_iff_getElem.mp hm
   have:=(pt4 i hi).2.2
   rw [ei] at this
   exact ⟨this.1,this.2.1⟩
  have tokF:∀ T ∈ Fs,TOk T:=fun T hm=>tokT T (pm.mem_iff.mpr hm)
  have notA:("A":Str) ∉ Fs.map (·.name):=fun hm=>by
   obtain ⟨U,hU,e⟩:=List.mem_map.mp hm
   have:=nmT U (pm.mem_iff.mpr hU)
   rw [e] at this
   exact absurd this (by decide +kernel)
  refine fun p hp=>?_
  have T5:=Same.upd (o:=.dK []) hp
  have g5:=upd_same (H:=H4) (a:=p) (o:=.dK [])
  generalize upd H4 p (.dK []) = H5 at *
  have hl4:=hP4.1
  refine ⟨_,rfl,l,rfl,⟨_,SqL.of (T5 _ _ hl4)⟩,for_enum (K:=K) (a:=l) (xs:=es.map V.ref) (fun i σ Hc=>Same H4 Hc/\(∃ u5 u6 u7,σ = [some (.ref a),some (.int sz),some (.ref l),some (.ref ff),some (.ref p),u5,u6,u7,none,none])/\∃ ls pr,Hc p = some (.dK (zK ((Ts.take i).map (·.name)) ls))/\ls.length = i/\pr.length = i/\∀ (j:Nat) (l':Addr) (T:Tb) (rows:List Rw),ls[j]? = some l'->Ts[j]? = some T->pr[j]? = some rows->TabF (del Hc p) sz l' T rows) ⟨T5,⟨_,_,_,rfl⟩,[],[],g5,rfl,rfl,fun j l' T rows h=>nomatch h⟩ (fun i σ Hc _ pp=>SqL.of (pp.1 _ _ hl4)) ?_ ?_⟩
  ·rintro i y pe σ Hc hy ⟨sm,⟨u5,u6,u7,rfl⟩,ls,pr,g1,g2,g3,g4⟩ hpe
   have hie:i < es.length:=by
    have:=(List.getElem?_eq_some_iff.mp hy).1
    rwa [List.length_map] at this
   have hi:i < Ts.length:=by omega
   rw [List.getElem?_map,List.getElem?_eq_getElem hie] at hy
   cases hy
   have T6:=Same.upd (o:=.tup [.int (i:Nat),.ref es[i]]) hpe
   refine ⟨pe,_,rfl,SqT.of upd_same,rfl,_,_,rfl,_,_,rfl,rfl,?_⟩
   generalize upd Hc pe (.tup [.int (i:Nat),.ref es[i]]) = H6 at T6
   have S6:=sm.trans T6
   have pt:=pt4 i hi
   have hmT:Ts[i] ∈ Ts:=List.getElem_mem hi
   have hmF:Ts[i] ∈ Fs:=pm.mem_iff.mp hmT
   have nmx:Ts[i].name ∉ (Ts.take i).map (·.name):=fun hm=>by
    have nd:=ndT
    have e:Ts.map (·.name) = (Ts.take i).map (·.name) ++ (Ts.drop i).map (·.name):=by rw [← List.map_append,List.take_append_drop]
    rw [e,List.nodup_append] at nd
    refine nd.2.2 _ hm Ts[i].name ?_ rfl
    rw [List.drop_eq_getElem_cons hi,List.map_cons]
    exact List.mem_cons_self
   have tkl:(Ts.take i).length = i:=by rw [List.length_take];omega
   refine ⟨_,rfl,es[i],_,1,_,rfl,rfl,SqT.of (S6 _ _ pt.1),rfl,_,rfl,es[i],_,2,_,rfl,rfl,SqT.of (S6 _ _ pt.1),rfl,_,rfl,_,rfl,_,_,rfl,rfl,a,ns,_,rfl,S6.seq hS4,(by omega),(by omega),h63,_,rfl,Ts[i].sort,ds[i],Ts[i].cols,_,sz,rfl,soT _ hmT,S6 _ _ pt.2.1,pt.2.2.same S6,sz1,fun l' rows H7 s7 hrw hrf hbad h31=>?_⟩
   have S7:=S6.trans s7
   have g17:=(T6.trans s7) _ _ g1
   have zl:(zK ((Ts.take i).map (·.name)) ls).length = i:=by rw [zK_len (by rw [List.length_map];omega),List.length_map,tkl]
   refine ⟨_,rfl,_,rfl,es[i],_,0,_,rfl,rfl,SqT.of (S7 _ _ pt.1),rfl,p,_,rfl,.inl ⟨_,.inr Ts[i].name,g17,rfl,(by rw [zl,sizeLine_eq];omega),rfl⟩,?_⟩
   rw [L2.putK_new _ (zK_new nmx),← zK_snoc (by rw [List.length_map];omega)]
   have ek:(Ts.take i).map (·.name) ++ [Ts[i].name] = (Ts.take (i + 1)).map (·.name):=by rw [take_last hi,List.map_append];rfl
   rw [ek]
   have g18:=upd_same (H:=H7) (a:=p) (o:=.dK (zK ((Ts.take (i + 1)).map (·.name)) (ls ++ [l'])))
   have S8:Same H4 (upd H7 p (.dK (zK ((Ts.take (i + 1)).map (·.name)) (ls ++ [l'])))):=S7.put hp
   have dl:del (upd H7 p (.dK (zK ((Ts.take (i + 1)).map (·.name)) (ls ++ [l'])))) p = del H7 p:=del_upd
   generalize upd H7 p (.dK (zK ((Ts.take (i + 1)).map (·.name)) (ls ++ [l']))) = H8 at *
   have p6:H6 p ≠ none:=fun e=>by rw [T6 _ _ g1] at e;cases e
   have cd:Same (cut H6 H7) (del H7 p):=fun b o e=>del_at (fun z=>p6 (z ▸ cut_new e)) (cut_sub _ _ e)
   have st7:STup H7 (del H7 p):=fun b xs e=>del_at (fun z=>by rw [z,g17] at e;cases e) e
   have tabN:TabF (del H8 p) sz l' Ts[i] rows:=by
    rw [dl]
    exact ⟨hrw.same cd,fun row hr'=>(hrf row hr').st st7,hbad,h31⟩
   have tabs:∀ (j:Nat) (l2:Addr) (T:Tb) (rows2:List Rw),(ls ++ [l'])[j]? = some l2->Ts[j]? = some T->(pr ++ [rows])[j]? = some rows2->TabF (del H8 p) sz l2 T rows2:=fun j l2 T rows2 h1 h2 h3=>by
    by_cases hj:j < i
    ·rw [List.getElem?_append_left (by omega)] at h1 h3
     rw [dl]
     exact (g4 j l2 T rows2 h1 h2 h3).same (del_up (T6.trans s7))
    ·have:j = i:=by
      have:=(List.getElem?_eq_some_iff.mp h1).1
      rw [List.length_append] at this
      simp at this
      omega
     subst this
     rw [List.getElem?_append_right (by omega),g2,Nat.sub_self] at h1
     rw [List.getElem?_append_right (by omega),g3,Nat.sub_self] at h3
     cases h1
     cases h3
     rw [List.getElem?_eq_getElem hi] at h2
     cases h2
     exact tabN
   obtain ⟨⟨rs,b1,b2⟩,c1,_⟩:=tabN.same del_sub
   have val:valV (zK ((Ts.take (i + 1)).map (·.name)) (ls ++ [l'])) (.inr Ts[i].name) = some (.ref l'):=zw_val (i:=i) (by
     have:((Ts.take (i + 1)).map (·.name)).Sublist (Ts.map (·.name)):=(List.take_sublist _ _).map _
     exact ndT.sublist this) (by rw [← ek,List.getElem?_append_right (by rw [List.length_map];omega),List.length_map,tkl,Nat.sub_self];rfl) (by rw [List.map_append,List.getElem?_append_right (by rw [List.length_map];omega),List.length_map,g2,Nat.sub_self];rfl)
   refine ⟨_,rfl,_,rfl,es[i],_,0,_,rfl,rfl,SqT.of (S8 _ _ pt.1),rfl,p,.ref l',rfl,.inl ⟨_,.inr Ts[i].name,.inl g18,rfl,val.symm⟩,l',rfl,⟨_,SqL.of b1⟩,for_list (K:=K) (a:=l') (xs:=rs.map V.ref) (fun j σ H9=>Same H8 H9/\∃ u7,σ = [some (.ref a),some (.int sz),some (.ref l),some (.ref ff),some (.ref p),some (.int (i:Nat)),some (.ref es[i]),u7,none,none]) ⟨Same.refl _,_,rfl⟩ (fun j σ H9 _ pp=>SqL.of (pp.1 _ _ b1)) ?_ ?_⟩
   ·rintro j x σ H9 hx ⟨s9,u7,rfl⟩
    have hjl:j < rs.length:=by
     have:=(List.getElem?_eq_some_iff.mp hx).1
     rwa [List.length_map] at this
    have hjr:j < rows.length:=by rw [← b2.len];exact hjl
    rw [List.getElem?_map,List.getElem?_eq_getElem hjl] at hx
    cases hx
    have er:=b2.get j rs[j] rows[j] (List.getElem?_eq_getElem hjl) (List.getElem?_eq_getElem hjr)
    have S9:=S8.trans s9
    have is9:RowIs K H9 sz Ts[i] (.ref rs[j]) true:=((c1 _ (List.getElem_mem hjr)).is (tokT _ hmT) er).same s9
    refine ⟨_,rfl,_,rfl,es[i],_,0,_,rfl,rfl,SqT.of (S9 _ _ pt.1),rfl,_,rfl,ff,sz,Fs,Ts[i].name,.ref rs[j],true,rfl,hF.same S9,ndF,lF,.inr ⟨Ts[i],hmF,rfl,tokT _ hmT,is9⟩,fun H10 s10=>?_⟩
    refine ⟨true,true,rfl,_,rfl,iteF ?_⟩
    have S10:=S9.trans s10
    refine ⟨_,rfl,_,rfl,ff,sz,Fs,"A",.ref rs[j],false,rfl,hF.same S10,ndF,lF,.inl ⟨notA,rfl⟩,fun H11 s11=>?_⟩
    refine ⟨false,false,rfl,_,rfl,iteF ?_⟩
    exact ⟨s9.trans (s10.trans s11),_,rfl⟩
   ·rintro σ H9 ⟨s9,u7,rfl⟩
    exact ⟨S8.trans s9,⟨_,_,_,rfl⟩,ls ++ [l'],pr ++ [rows],s9 _ _ g18,by rw [List.length_append,g2];rfl,by rw [List.length_append,g3];rfl,fun j l2 T rows2 h1 h2 h3=>(tabs j l2 T rows2 h1 h2 h3).same (del_up s9)⟩
  ·rintro σ H6 ⟨sm,⟨u5,u6,u7,rfl⟩,ls,pr,g1,g2,g3,g4⟩
   rw [List.length_map,e1l,List.take_length] at g1
   rw [List.length_map,e1l] at g2 g3
   have pc6:PcF H6 sz Ts p ls pr:=⟨g1,g2,g3,fun j l' T rows h1 h2 h3=>(g4 j l' T rows h1 h2 h3).same del_sub⟩
   have hF6:=hF.same sm
   clear g4
   refine ⟨_,rfl,_,rfl,ff,sz,Fs,.ref p,true,rfl,hF6,ndF,lF,tokF,pc6.is ndT pm tokT l8,fun H7 s7=>?_⟩
   refine ⟨true,true,rfl,_,rfl,iteF ?_⟩
   have S7:=sm.trans s7
   have ll:(es.map V.ref).length = Ts.length:=by rw [List.length_map,e1l]
   have n0:(0:Int) < ((es.map V.ref).length:Nat):=by omega
   obtain ⟨x,hx,hm⟩:=at_mem (l:=es.map V.ref) (i:=cellF ns 1 % ((es.map V.ref).length:Nat)) (Int.emod_nonneg _ (by omega)) (Int.emod_lt_of_pos _ n0)
   obtain ⟨e,he,rfl⟩:=List.mem_map.mp hm
   obtain ⟨k,hk,ek⟩:=List.mem_iff_getElem.mp he
   have hkT:k < Ts.length:=by omega
   have pt:=pt4 k hkT
   rw [ek] at pt
   have hmT:Ts[k] ∈ Ts:=List.getElem_mem hkT
   have hmF:Ts[k] ∈ Fs:=pm.mem_iff.mp hmT
   generalize Ts[k] = T at *
   generalize ds[k] = cd at *
   refine ⟨_,rfl,_,rfl,a,ns,_,rfl,S7.seq hS4,(by decide),(by decide),h63,_,rfl,l,_,rfl,.inl (SqL.of (S7 _ _ hl4)),_,_,rfl,rfl,n0,_,_,_,_,rfl,rfl,SqL.of (S7 _ _ hl4),hx,?_⟩
   refine ⟨_,rfl,a,ns,_,rfl,S7.seq hS4,(by decide),(by decide),h63,?_⟩
   refine ⟨_,rfl,e,_,2,_,rfl,rfl,SqT.of (S7 _ _ pt.1),rfl,_,rfl,_,_,rfl,rfl,⟨by decide,by decide⟩,_,rfl,cd,T.cols,_,sz,rfl,S7 _ _ pt.2.1,pt.2.2.same S7,sz1,fun r row H8 s8 hr8 rf8=>?_⟩
   have S8:=S7.trans s8
   have hr8':=cut_sub _ _ hr8
   refine ⟨_,rfl,_,rfl,e,_,2,_,rfl,rfl,SqT.of (S8 _ _ pt.1),rfl,_,rfl,_,rfl,_,_,rfl,rfl,(pos rfl),_,rfl,_,_,rfl,rfl,⟨by decide,by decide⟩,r,cd,T,row,sz,_,_,rfl,hr8',rf8,S8 _ _ pt.2.1,pt.2.2.same S8,tokT _ hmT,sz1,Int.emod_nonneg _ (by decide),(by have:=Int.emod_lt_of_pos (cellF ns 3) (show (0:Int) < 5 by decide);omega),fun x9 H9 s9 hx9 _=>?_⟩
   have S9:=S8.trans s9
   refine ⟨_,rfl,_,rfl,e,_,0,_,rfl,rfl,SqT.of (S9 _ _ pt.1),rfl,_,rfl,ff,sz,Fs,T.name,.ref r,true,rfl,hF.same S9,ndF,lF,.inr ⟨T,hmF,rfl,tokT _ hmT,(rf8.is (tokT _ hmT) hr8').same s9⟩,fun H10 s10=>?_⟩
   refine ⟨true,true,rfl,_,rfl,iteF ?_⟩
   have S10:=S9.trans s10
   refine ⟨_,rfl,_,rfl,e,_,0,_,rfl,rfl,SqT.of (S10 _ _ pt.1),rfl,_,rfl,ff,sz,Fs,T.name,x9,false,rfl,hF.same S10,ndF,lF,.inr ⟨T,hmF,rfl,tokT _ hmT,hx9.same s10⟩,fun H11 s11=>?_⟩
   refine ⟨false,false,rfl,_,rfl,iteF ?_⟩
   have S11:=S10.trans s11
   have s611:Same H6 H11:=s7.trans (s8.trans (s9.trans (s10.trans s11)))
   refine ⟨_,rfl,_,rfl,_,rfl,_,rfl,a,ns,_,rfl,S11.seq hS4,(by decide),(by decide),h63,_,_,rfl,rfl,(pos rfl),_,rfl,p,e,cd,T,Ts,Fs,ls,pr,sz,_,_,rfl,pc6.same s611,⟨ndT,pm,tokT,l8,soT,nmT⟩,hmT,S11 _ _ pt.1,S11 _ _ pt.2.1,pt.2.2.same S11,sz1,Int.emod_nonneg _ (by decide),fun x12 H12 s12 hx12=>?_⟩
   have S12:=S11.trans s12
   refine ⟨_,rfl,_,rfl,ff,sz,Fs,x12,false,rfl,hF.same S12,ndF,lF,tokF,hx12,fun H13 s13=>?_⟩
   refine ⟨false,false,rfl,_,rfl,iteF ?_⟩
   have S13:=S12.trans s13
   have s613:Same H6 H13:=s611.trans (s12.trans s13)
   refine ⟨_,rfl,_,rfl,ff,sz,Fs,.ref p,true,rfl,hF.same S13,ndF,lF,tokF,(pc6.same s613).is ndT pm tokT l8,fun H14 s14=>?_⟩
   refine ⟨true,true,rfl,_,rfl,iteF ?_⟩
   obtain ⟨pc,q1,q2,q3⟩:=(pc6.same (s613.trans s14)).pc ndT tokT l8
   exact ⟨_,rfl,p,pc,rfl,q1,q2,q3,fun H'=>q H'⟩
end
end My
namespace L2
open PySem PySem.Spec PyProof.Rows
def DefInC (K:PySem.W.Frag) (x:Str) (st:Stmt) (P:Addr):Prop:=∃ (f c:Addr) (oc:Value) (od:Option Addr) (kV doc pm:Value) (an:Option Addr) (ct:Value) (osl:Array (Option Value)),
 PySem.W.nsIn K mainGlobals x = some (some (.ref f))/\K.lookup f = some ⟨oc,od,.func (PySem.W.fnOf x x (defArgs st) (defBody st) (defScope st) .none kV doc pm an (.ref c) ct),osl⟩/\PySem.W.codeIn K (.ref c) x = true/\PySem.W.keepIn K (.ref f) = true/\PySem.W.codeHdIn K c P = true/\K.lookup P = none
theorem defInC_mk {K:PySem.W.Frag} {x:Str} {st:Stmt} {P f c:Addr} {oc:Value} {od an:Option Addr} {osl:Array (Option Value)} {kV doc pm ct:Value} (a:PySem.W.nsIn K mainGlobals x = some (some (.ref f)))
  (l:K.lookup f = some ⟨oc,od,.func (PySem.W.fnOf x x (defArgs st) (defBody st) (defScope st) .none kV doc pm an (.ref c) ct),osl⟩) (cd:PySem.W.codeIn K (.ref c) x = true) (k:PySem.W.keepIn K (.ref f) = true) (t:PySem.W.codeHdIn K c P = true) (n:K.lookup P = none):DefInC K x st P:=
 ⟨f,c,oc,od,kV,doc,pm,an,ct,osl,a,l,cd,k,t,n⟩
theorem DefInC.get {K:PySem.W.Frag} {h:Heap} {mg:Str->Option Value} {x:Str} {st:Stmt} {P:Addr} (d:DefInC K x st P) (X:K.In h) (G:h.Ns mainGlobals mg):∃ f fd c,FunC K x x st f fd c/\mg x = some (.ref f)/\PySem.W.codeHdIn K c P = true:=by
 obtain ⟨f,c,oc,od,kV,doc,pm,an,ct,osl,a,l,cd,k,t,n⟩:=d
 exact ⟨f,_,c,⟨⟨oc,od,kV,doc,pm,an,ct,osl,rfl,l,cd⟩,k⟩,PySem.W.mg_of X G a,t⟩
theorem DefInC.tab {K:PySem.W.Frag} {x:Str} {st:Stmt} {P:Addr} (d:DefInC K x st P):(∃ c,PySem.W.codeHdIn K c P = true)/\K.lookup P = none:=by
 obtain ⟨f,c,oc,od,kV,doc,pm,an,ct,osl,a,l,cd,k,t,n⟩:=d
 exact ⟨⟨c,t⟩,n⟩
end L2
namespace My
open PySem L2
theorem all_mk {l:PySem.W.OpenLaw} {w:World} {K:PySem.W.Frag} {h:Heap} {mg:Str->Option Value} {fa sA sB PF:Addr} {tL tN tP tw tm ts th tu:Tok} {od odB:Option Addr} {nK nB:Nat} {sl slB:Array (Option Value)} (X:K.In h) (G:h.Ns mainGlobals mg) (hfa:mg "law" = some (.ref fa))
  (dF:DefInC K "form_of" (top 21) PF)
  (gL:PySem.W.nsIn K mainGlobals "LETTERS" = some (some (.str "abcdefghijklmnopqrstuvwxyz" tL))) (gN:PySem.W.nsIn K mainGlobals "LONGEST_NAME" = some (some (.int 8 tN))) (gP:PySem.W.nsIn K mainGlobals "PERCENT" = some (some (.int 37 tP)))
  (gS:PySem.W.nsIn K mainGlobals "SIDE_SORTS" = some (some (.ref sA))) (lS:K.lookup sA = some ⟨.type "tuple",od,.seq #[.str "twin" tw,.str "many" tm,.str "some" ts] nK,sl⟩)
  (gB:PySem.W.nsIn K mainGlobals "LONE_SORTS" = some (some (.ref sB))) (lB:K.lookup sB = some ⟨.type "tuple",odB,.seq #[.str "head" th,.str "twin" tu] nB,slB⟩)
  (d9:DefIn K "is_whole" (top 9))
  (d10:DefIn K "is_name" (top 10))
  (d11:DefIn K "is_sign" (top 11))
  (d12:DefIn K "is_plain" (top 12))
  (d13:DefIn K "is_plain_pair" (top 13))
  (d14:DefIn K "is_kind" (top 14))
  (d15:DefIn K "fits" (top 15))
  (d16:DefIn K "fits_tuple" (top 16))
  (d17:DefIn K "fits_plain" (top 17))
  (d22:DefIn K "ask_sorts" (top 22))
  (d23:DefIn K "ask_names" (top 23))
  (d24:DefIn K "columns_made" (top 24))
  (d25:DefIn K "tables_of" (top 25))
  (d26:DefIn K "sort_of" (top 26))
  (d27:DefIn K "columns_of" (top 27))
  (d28:DefIn K "table_in" (top 28))
  (d29:DefIn K "is_row" (top 29))
  (d30:DefIn K "is_piece" (top 30))
  (d31:DefIn K "are_rows" (top 31))
  (d32:DefIn K "copied" (top 32))
  (d34:DefIn K "_law_cell" (top 34))
  (d35:DefIn K "_law_stream" (top 35))
  (d36:DefIn K "_law_told" (top 36))
  (d37:DefIn K "_law_letter" (top 37))
  (d38:DefIn K "_law_names" (top 38))
  (d39:DefIn K "_law_plain" (top 39))
  (d40:DefIn K "_law_kind" (top 40))
  (d41:DefIn K "_law_columns" (top 41))
  (d42:DefIn K "_law_tables" (top 42))
  (d43:DefIn K "_law_text" (top 43))
  (d44:DefIn K "_law_plain_value" (top 44))
  (d45:DefIn K "_law_value" (top 45))
  (d46:DefIn K "_law_row" (top 46))
  (d47:DefIn K "_law_rows" (top 47))
  (d48:DefIn K "_law_wrong" (top 48))
  (d49:DefIn K "_law_row_spoiled" (top 49))
  (d50:DefIn K "_law_too_many" (top 50))
  (d51:DefIn K "_law_piece_spoiled" (top 51))
  (d52:DefIn K "_law_kept" (top 52))
  (d53:DefIn K "_law_copy" (top 53))
  (d54:DefIn K "law" (top 54))
  (zb:BlK K) (zm:PySem.W.nsIn K mainGlobals "max" = some none) :
  ∃ fd:FuncData,(∀ (s:Shared) (v:Value),BindsTo s fd ⟨[v],[]⟩ [("_law_script",v)])/\∀ base:Heap,K.In base->base.Ns mainGlobals mg->L2.BMain base mg->FnOk l.prog w K mg base CX0 9 fa fd ["_law_script"] (spLawT K PF):=by
 have B:Bl mg:=zb.bl X G
 have hM:mg "max" = none:=PySem.W.mg_none_of X G zm
 have mS:=PySem.W.mg_of X G gS
 have qS:∀ H,SqT K H sA (sides.map V.str):=fun H=>.inr ⟨_,_,_,lS,rfl,rfl,(by show 3 ≤ sizeLine;decide),.cons ⟨tw,rfl⟩ (.cons ⟨tm,rfl⟩ (.cons ⟨ts,rfl⟩ .nil))⟩
 have LN:Ln K mg sB:=⟨PySem.W.mg_of X G gB,fun H=>.inr ⟨_,_,_,lB,rfl,rfl,(by show 2 ≤ sizeLine;decide),.cons ⟨th,rfl⟩ (.cons ⟨tu,rfl⟩ .nil)⟩⟩
 have mL:=PySem.W.mg_of X G gL
 have mN:=PySem.W.mg_of X G gN
 have mP:=PySem.W.mg_of X G gP
 obtain ⟨f9,fd9,D9⟩:=d9.df X G
 obtain ⟨f10,fd10,D10⟩:=d10.df X G
 obtain ⟨f11,fd11,D11⟩:=d11.df X G
 obtain ⟨f12,fd12,D12⟩:=d12.df X G
 obtain ⟨f13,fd13,D13⟩:=d13.df X G
 obtain ⟨f14,fd14,D14⟩:=d14.df X G
 obtain ⟨f15,fd15,D15⟩:=d15.df X G
 obtain ⟨f16,fd16,D16⟩:=d16.df X G
 obtain ⟨f17,fd17,D17⟩:=d17.df X G
 obtain ⟨f22,fd22,D22⟩:=d22.df X G
 obtain ⟨f23,fd23,D23⟩:=d23.df X G
 obtain ⟨f24,fd24,D24⟩:=d24.df X G
 obtain ⟨f25,fd25,D25⟩:=d25.df X G
 obtain ⟨f26,fd26,D26⟩:=d26.df X G
 obtain ⟨f27,fd27,D27⟩:=d27.df X G
 obtain ⟨f28,fd28,D28⟩:=d28.df X G
 obtain ⟨f29,fd29,D29⟩:=d29.df X G
 obtain ⟨f30,fd30,D30⟩:=d30.df X G
 obtain ⟨f31,fd31,D31⟩:=d31.df X G
 obtain ⟨f32,fd32,D32⟩:=d32.df X G
 obtain ⟨f34,fd34,D34⟩:=d34.df X G
 obtain ⟨f35,fd35,D35⟩:=d35.df X G
 obtain ⟨f36,fd36,D36⟩:=d36.df X G
 obtain ⟨f37,fd37,D37⟩:=d37.df X G
 obtain ⟨f38,fd38,D38⟩:=d38.df X G
 obtain ⟨f39,fd39,D39⟩:=d39.df X G
 obtain ⟨f40,fd40,D40⟩:=d40.df X G
 obtain ⟨f41,fd41,D41⟩:=d41.df X G
 obtain ⟨f42,fd42,D42⟩:=d42.df X G
 obtain ⟨f43,fd43,D43⟩:=d43.df X G
 obtain ⟨f44,fd44,D44⟩:=d44.df X G
 obtain ⟨f45,fd45,D45⟩:=d45.df X G
 obtain ⟨f46,fd46,D46⟩:=d46.df X G
 obtain ⟨f47,fd47,D47⟩:=d47.df X G
 obtain ⟨f48,fd48,D48⟩:=d48.df X G
 obtain ⟨f49,fd49,D49⟩:=d49.df X G
 obtain ⟨f50,fd50,D50⟩:=d50.df X G
 obtain ⟨f51,fd51,D51⟩:=d51.df X G
 obtain ⟨f52,fd52,D52⟩:=d52.df X G
 obtain ⟨f53,fd53,D53⟩:=d53.df X G
 obtain ⟨f21,fd21,c21,F21,m21,t21⟩:=dF.get X G
 have D21:Df K mg "form_of" (top 21) f21 fd21:=⟨F21.fn,m21⟩
 obtain ⟨f,oc,od,kV,doc,pm,an,cdv,ct,osl,a,lk,c,k⟩:=d54
 have e:=hfa.symm.trans (PySem.W.mg_of X G a)
 cases e
 refine ⟨PySem.W.fnOf "law" "law" (defArgs (top 54)) (defBody (top 54)) (defScope (top 54)) .none kV doc pm an cdv ct,fun s v=>.of_eq rfl,fun base _ _ hB=>?_⟩
 have GN:FnOk l.prog w K mg base CX0 1 f10 fd10 ["thing"] (spName K):=ok_name D10.fn B mL ⟨tL,rfl⟩ mN ⟨tN,rfl⟩
 have GP:FnOk l.prog w K mg base CX0 3 f12 fd12 ["thing"] spPlain:=ok_plain D12.fn B D9 D11 D13 mP ⟨tP,rfl⟩
 have GK:FnOk l.prog w K mg base CX0 4 f14 fd14 ["thing"] spKind:=ok_kind D14.fn B D12 GP
 have GW:FnOk l.prog w K mg base CX0 1 f9 fd9 ["thing"] (spWhole K):=ok_whole D9.fn B
 have GC:FnOk l.prog w K mg base CX0 5 f24 fd24 ["columns"] spColM:=ok_colM D24.fn B D10 GN D14 GK
 have GF:FnOk l.prog w K mg base CX0 6 f21 fd21 ["size","tables"] (spForm PF):=ok_form F21 B t21 hB D9 GW D22 (ok_askS D22.fn mS qS) D23 (ok_askN D23.fn D10 GN) D24 GC
 have GR:FnOk l.prog w K mg base CX0 5 f29 fd29 ["form","table","row"] (spIsRow K):=ok_isRow D29.fn B D25 D27 D28 D9 D17 D16 D15
 have GA:FnOk l.prog w K mg base CX0 6 f31 fd31 ["form","table","rows"] (spAreR K):=ok_areR D31.fn B LN D26 D28 D29 GR
 have GI:FnOk l.prog w K mg base CX0 7 f30 fd30 ["form","piece"] (spIsP K):=ok_isP D30.fn B D25 D31 GA
 have GRw:FnOk l.prog w K mg base CX0 4 f46 fd46 ["_law_columns_here","_law_number","_law_size"] (spRow K):=ok_row D46.fn B D35 D45 D44 D43
 have GRS:FnOk l.prog w K mg base CX0 2 f49 fd49 ["_law_row_here","_law_columns_here","_law_size","_law_way","_law_number"] (spRowS K):=ok_rowS D49.fn B D48
 exact ok_law (fun_mk lk c k) B D34 D42 (ok_tabsL D42.fn B D34 D38 D37 D35 D41 D40 D39) D21 GF D36 D29 GR D30 GI D47 (ok_rows D47.fn B D35 D46 D45 D44 D43) D46 GRw D49 GRS D51 (ok_pcS D51.fn B hM D50 D46 GRw D49 GRS) D53 (ok_copy D53.fn B D32 D52)
theorem walk8 {l:PySem.W.OpenLaw} {q:Program} {loose:List Str} {XP:(Str->Option Value)->Heap->Prop} {d:DefRec} {K:Params->PySem.W.Frag} {as:List Addr} {e:∀ P,as = (K P).map (·.1)} {PF:Addr} (hk:Room 9 callerA) (hn:l.most = some 63) (hdf:d.params.defaults = [])
  (DF:∀ w:World,DefInC (K w.params) "form_of" (top 21) PF)
  (F:∀ (w:World) (mg:Str->Option Value) (fa:Addr) (h:Heap),(K w.params).In h->h.Ns mainGlobals mg->mg d.name = some (.ref fa)->DefInC (K w.params) "form_of" (top 21) PF →
   ∃ fd:FuncData,(∀ (s:Shared) (u:Value),BindsTo s fd ⟨[u],[]⟩ [("_law_script",u)])/\∀ base:Heap,(K w.params).In base->base.Ns mainGlobals mg->L2.BMain base mg->FnOk l.prog w (K w.params) mg base CX0 9 fa fd ["_law_script"] (spLawT (K w.params) PF)) :
  PySem.W.WalkO q loose XP (PySem.W.kmHook K as e [PF]).says l.row.toRowW d [] (fun f vs=>PySem.call f vs):=by
 refine L2.walk_ofT (n:=63) (k:=9) (x:="_law_script") (CX:=fun _=>CX0) (sp:=fun w=>spLawT (K w.params) PF) (tx:=fun _=>[PF]) hn (by decide) hdf hk (fun w h Y=>PySem.W.km_in_of Y) (fun w h Y b hb=>?_) (fun w mg fa h X G m=>F w mg fa h X G m (DF w)) (fun w H a ns hl hO hS=>?_) fun _ _ _ _ _ z=>z
 ·have g:=PySem.W.km_tabs_of Y b hb
  have e:b = PF:=by simpa using hb
  subst e
  obtain ⟨⟨c,t⟩,n⟩:=(DF w).tab
  exact L2.tab_is (PySem.W.km_in_of Y) g t n
 ·exact ⟨a,ns,rfl,hS,hl,hO.2 PF (by simp),fun _=>rfl⟩
end My
namespace PySem.W.Fast
def tw14180647586466429085:Unit:=()
def tw2261381255750252356:Unit:=()
def tw9597952383430122985:Unit:=()
def tw3431841565661267056:Unit:=()
def tw17968118131121855362:Unit:=()
def tw2217450501714243255:Unit:=()
def tw978210131602234787:Unit:=()
def tw4492702601519130417:Unit:=()
def tw14453080069249383894:Unit:=()
def tw1956454612700035024:Unit:=()
def tw112941677089062983:Unit:=()
def tw12257574584206783898:Unit:=()
def tw199546626855665155:Unit:=()
def tw14032844632251574973:Unit:=()
def tw6139525818841270580:Unit:=()
def tw14189751338714097809:Unit:=()
def tw3566795314804759848:Unit:=()
def tw4661732184408435943:Unit:=()
def tw6969643734441014620:Unit:=()
def tw10123725179919292767:Unit:=()
def tw2317674915083600115:Unit:=()
def tw2191602091079873685:Unit:=()
def tw16466068476046400628:Unit:=()
def tw1411942838858324226:Unit:=()
def tw4087618214110366169:Unit:=()
def tw1376679517616066233:Unit:=()
def tw9766881499010493417:Unit:=()
def tw8157817638368072619:Unit:=()
def tw18254011151760550204:Unit:=()
def tw7521142532341354036:Unit:=()
def tw13739477013973813087:Unit:=()
def tw8112905329665101011:Unit:=()
def tw17048192844804848199:Unit:=()
def tw15166259972729451614:Unit:=()
def tw6245054327275757939:Unit:=()
def tw92490242970949256:Unit:=()
end PySem.W.Fast
open PySem PySem.W PyProof.Rows
set_option maxRecDepth 100000 in
set_option maxHeartbeats 0 in
theorem PySem.Challenge.cw_halfmoved_k08_rows_and_pieces_holds : PySem.Challenge.rw_halfmoved_k08_rows_and_pieces.Holds := by
 w_on;o_law;k_head;(case hw=>w_witness2)
 k_fill
 refine My.walk8 (l:=PySem.Challenge.rw_halfmoved_k08_rows_and_pieces) ⟨rfl,by decide,by decide⟩ rfl rfl ?DF ?F
 case DF=>
  intro w
  refine' L2.defInC_mk ?a ?l ?c ?k ?t ?n;(case a=>k_is);(case l=>k_is);(case c=>k_is);(case k=>k_is);(case t=>rfl);(case n=>rfl)
 case F=>
  intro w mg fa h KX G hmg dF
  refine' My.all_mk KX G hmg dF ?gL ?gN ?gP ?gS ?lS ?gB ?lB ?d9 ?d10 ?d11 ?d12 ?d13 ?d14 ?d15 ?d16 ?d17 ?d22 ?d23 ?d24 ?d25 ?d26 ?d27 ?d28 ?d29 ?d30 ?d31 ?d32 ?d34 ?d35 ?d36 ?d37 ?d38 ?d39 ?d40 ?d41 ?d42 ?d43 ?d44 ?d45 ?d46 ?d47 ?d48 ?d49 ?d50 ?d51 ?d52 ?d53 ?d54 ?zb ?zm
  (case gL=>k_is)
  (case gN=>k_is)
  (case gP=>k_is)
  (case gS=>k_is)
  (case lS=>k_is)
  (case gB=>k_is)
  (case lB=>k_is)
  (case d9=>refine' L2.defIn_mk ?a ?l ?c ?k;(case a=>k_is);(case l=>k_is);(case c=>k_is);(case k=>k_is))
  (case d10=>refine' L2.defIn_mk ?a ?l ?c ?k;(case a=>k_is);(case l=>k_is);(case c=>k_is);(case k=>k_is))
  (case d11=>refine' L2.defIn_mk ?a ?l ?c ?k;(case a=>k_is);(case l=>k_is);(case c=>k_is);(case k=>k_is))
  (case d12=>refine' L2.defIn_mk ?a ?l ?c ?k;(case a=>k_is);(case l=>k_is);(case c=>k_is);(case k=>k_is))
  (case d13=>refine' L2.defIn_mk ?a ?l ?c ?k;(case a=>k_is);(case l=>k_is);(case c=>k_is);(case k=>k_is))
  (case d14=>refine' L2.defIn_mk ?a ?l ?c ?k;(case a=>k_is);(case l=>k_is);(case c=>k_is);(case k=>k_is))
  (case d15=>refine' L2.defIn_mk ?a ?l ?c ?k;(case a=>k_is);(case l=>k_is);(case c=>k_is);(case k=>k_is))
  (case d16=>refine' L2.defIn_mk ?a ?l ?c ?k;(case a=>k_is);(case l=>k_is);(case c=>k_is);(case k=>k_is))
  (case d17=>refine' L2.defIn_mk ?a ?l ?c ?k;(case a=>k_is);(case l=>k_is);(case c=>k_is);(case k=>k_is))
  (case d22=>refine' L2.defIn_mk ?a ?l ?c ?k;(case a=>k_is);(case l=>k_is);(case c=>k_is);(case k=>k_is))
  (case d23=>refine' L2.defIn_mk ?a ?l ?c ?k;(case a=>k_is);(case l=>k_is);(case c=>k_is);(case k=>k_is))
  (case d24=>refine' L2.defIn_mk ?a ?l ?c ?k;(case a=>k_is);(case l=>k_is);(case c=>k_is);(case k=>k_is))
  (case d25=>refine' L2.defIn_mk ?a ?l ?c ?k;(case a=>k_is);(case l=>k_is);(case c=>k_is);(case k=>k_is))
  (case d26=>refine' L2.defIn_mk ?a ?l ?c ?k;(case a=>k_is);(case l=>k_is);(case c=>k_is);(case k=>k_is))
  (case d27=>refine' L2.defIn_mk ?a ?l ?c ?k;(case a=>k_is);(case l=>k_is);(case c=>k_is);(case k=>k_is))
  (case d28=>refine' L2.defIn_mk ?a ?l ?c ?k;(case a=>k_is);(case l=>k_is);(case c=>k_is);(case k=>k_is))
  (case d29=>refine' L2.defIn_mk ?a ?l ?c ?k;(case a=>k_is);(case l=>k_is);(case c=>k_is);(case k=>k_is))
  (case d30=>refine' L2.defIn_mk ?a ?l ?c ?k;(case a=>k_is);(case l=>k_is);(case c=>k_is);(case k=>k_is))
  (case d31=>refine' L2.defIn_mk ?a ?l ?c ?k;(case a=>k_is);(case l=>k_is);(case c=>k_is);(case k=>k_is))
  (case d32=>refine' L2.defIn_mk ?a ?l ?c ?k;(case a=>k_is);(case l=>k_is);(case c=>k_is);(case k=>k_is))
  (case d34=>refine' L2.defIn_mk ?a ?l ?c ?k;(case a=>k_is);(case l=>k_is);(case c=>k_is);(case k=>k_is))
  (case d35=>refine' L2.defIn_mk ?a ?l ?c ?k;(case a=>k_is);(case l=>k_is);(case c=>k_is);(case k=>k_is))
  (case d36=>refine' L2.defIn_mk ?a ?l ?c ?k;(case a=>k_is);(case l=>k_is);(case c=>k_is);(case k=>k_is))
  (case d37=>refine' L2.defIn_mk ?a ?l ?c ?k;(case a=>k_is);(case l=>k_is);(case c=>k_is);(case k=>k_is))
  (case d38=>refine' L2.defIn_mk ?a ?l ?c ?k;(case a=>k_is);(case l=>k_is);(case c=>k_is);(case k=>k_is))
  (case d39=>refine' L2.defIn_mk ?a ?l ?c ?k;(case a=>k_is);(case l=>k_is);(case c=>k_is);(case k=>k_is))
  (case d40=>refine' L2.defIn_mk ?a ?l ?c ?k;(case a=>k_is);(case l=>k_is);(case c=>k_is);(case k=>k_is))
  (case d41=>refine' L2.defIn_mk ?a ?l ?c ?k;(case a=>k_is);(case l=>k_is);(case c=>k_is);(case k=>k_is))
  (case d42=>refine' L2.defIn_mk ?a ?l ?c ?k;(case a=>k_is);(case l=>k_is);(case c=>k_is);(case k=>k_is))
  (case d43=>refine' L2.defIn_mk ?a ?l ?c ?k;(case a=>k_is);(case l=>k_is);(case c=>k_is);(case k=>k_is))
  (case d44=>refine' L2.defIn_mk ?a ?l ?c ?k;(case a=>k_is);(case l=>k_is);(case c=>k_is);(case k=>k_is))
  (case d45=>refine' L2.defIn_mk ?a ?l ?c ?k;(case a=>k_is);(case l=>k_is);(case c=>k_is);(case k=>k_is))
  (case d46=>refine' L2.defIn_mk ?a ?l ?c ?k;(case a=>k_is);(case l=>k_is);(case c=>k_is);(case k=>k_is))
  (case d47=>refine' L2.defIn_mk ?a ?l ?c ?k;(case a=>k_is);(case l=>k_is);(case c=>k_is);(case k=>k_is))
  (case d48=>refine' L2.defIn_mk ?a ?l ?c ?k;(case a=>k_is);(case l=>k_is);(case c=>k_is);(case k=>k_is))
  (case d49=>refine' L2.defIn_mk ?a ?l ?c ?k;(case a=>k_is);(case l=>k_is);(case c=>k_is);(case k=>k_is))
  (case d50=>refine' L2.defIn_mk ?a ?l ?c ?k;(case a=>k_is);(case l=>k_is);(case c=>k_is);(case k=>k_is))
  (case d51=>refine' L2.defIn_mk ?a ?l ?c ?k;(case a=>k_is);(case l=>k_is);(case c=>k_is);(case k=>k_is))
  (case d52=>refine' L2.defIn_mk ?a ?l ?c ?k;(case a=>k_is);(case l=>k_is);(case c=>k_is);(case k=>k_is))
  (case d53=>refine' L2.defIn_mk ?a ?l ?c ?k;(case a=>k_is);(case l=>k_is);(case c=>k_is);(case k=>k_is))
  (case d54=>refine' L2.defIn_mk ?a ?l ?c ?k;(case a=>k_is);(case l=>k_is);(case c=>k_is);(case k=>k_is))
  (case zb=>refine' My.BlK.mk ?b0 ?b1 ?b2 ?b3 ?b4 ?b5 ?b6 ?b7 ?b8 ?b9 ?b10 ?b11 ?b12 ?b13 ?b14 ?b15;(case b0=>k_is);(case b1=>k_is);(case b2=>k_is);(case b3=>k_is);(case b4=>k_is);(case b5=>k_is);(case b6=>k_is);(case b7=>k_is);(case b8=>k_is);(case b9=>k_is);(case b10=>k_is);(case b11=>k_is);(case b12=>k_is);(case b13=>k_is);(case b14=>k_is);(case b15=>k_is))
  (case zm=>k_is)
#print axioms PySem.Challenge.cw_halfmoved_k08_rows_and_pieces_holds
