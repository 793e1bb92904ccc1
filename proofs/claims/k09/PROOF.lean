import PyProof.Rows.All
import Wide.All
import OpenK.AllK
import Wide.FinOn
import Lean
import PyProof.EqAt
import PyProof.EqKinds
import PyProof.TupleCall
import PyProof.StrBlock
import PyProof.StrBlockL
import PyProof.Rows.StrJoin2
import KE.KIntText
import PyProof.StrCalls6
import PyProof.StationsW
import PyProof.RulesTry
import PyProof.InstStoreFacts
import PyProof.ExcBaseAll.ValueError
import PyProof.ExcAttrAll.ValueError
import PyProof.NsDelKeeps
import KE.KTabLook
import PyProof.MeetsStr
import PyProof.ZipIter
import PyProof.TupleIter
import KE.KDictSum
import PyProof.EnumMake
import PyProof.EnumStmt
import KE.KSortTup
import PyProof.NeKinds
import PyProof.AttrMissSeq
import KE.KDictOf
import KE.KLam
import KE.KNestM
import KE.KSortKey
import KE.KRevIter
import PyProof.ListRange
import KE.KPar
import PySem.Challenge.RW_halfmoved_k09_whole_forms_by_deeds
set_option Elab.async false
set_option linter.all false
set_option maxRecDepth 100000
set_option maxHeartbeats 4000000
namespace L2
theorem ln0 {α:Type} {l:List α} (h:l.length = 0):l = []:=List.eq_nil_of_length_eq_zero h
theorem ln1 {α:Type} {l:List α} (h:l.length = 1):∃ a,l = [a]:=List.length_eq_one_iff.mp h
theorem ln2 {α:Type} {l:List α} (h:l.length = 2):∃ a b,l = [a,b]:=by
 cases l with
 | nil=>cases h
 | cons a r=>obtain ⟨b,rfl⟩:=ln1 (Nat.succ.inj h);exact ⟨a,b,rfl⟩
theorem ln3 {α:Type} {l:List α} (h:l.length = 3):∃ a b c,l = [a,b,c]:=by
 cases l with
 | nil=>cases h
 | cons a r=>obtain ⟨b,c,rfl⟩:=ln2 (Nat.succ.inj h);exact ⟨a,b,c,rfl⟩
theorem ln4 {α:Type} {l:List α} (h:l.length = 4):∃ a b c d,l = [a,b,c,d]:=by
 cases l with
 | nil=>cases h
 | cons a r=>obtain ⟨b,c,d,rfl⟩:=ln3 (Nat.succ.inj h);exact ⟨a,b,c,d,rfl⟩
end L2
namespace L2
open PySem PySem.Spec PyProof.Rows
abbrev Key:=Sum Int Str
def keyIs:Key->Value->Bool
 | .inl k,v=>Value.isInt k v
 | .inr x,v=>Value.isStrOf x v
def keyH (w:World):Key->Int
 | .inl k=>hashInt k
 | .inr x=>hashStr w x
theorem keyIs_shape:∀ {k:Key} {v:Value},keyIs k v = true->(∃ i t,k = Sum.inl i/\v = Value.int i t)\/(∃ x t,k = Sum.inr x/\v = Value.str x t)
 | .inl i,v,h=>by
  obtain ⟨t,e⟩:=Value.isInt_shape (k:=i) (v:=v) h
  exact .inl ⟨i,t,rfl,e⟩
 | .inr x,v,h=>by
  obtain ⟨t,e⟩:=Value.isStrOf_shape (x:=x) (v:=v) h
  exact .inr ⟨x,t,rfl,e⟩
theorem keyIs_int (i:Int) (t:Tok):keyIs (.inl i) (.int i t) = true:=by simp [keyIs,Value.isInt]
theorem keyIs_str (x:Str) (t:Tok):keyIs (.inr x) (.str x t) = true:=by simp [keyIs,Value.isStrOf]
theorem key_ll (a b:Int):decide ((Sum.inl a:Key) = Sum.inl b) = (a == b):=by
 by_cases e:a = b
 ·subst e;simp
 ·have h:¬ (Sum.inl a:Key) = Sum.inl b:=fun q=>e (Sum.inl.inj q)
  rw [decide_eq_false h]
  exact (beq_eq_false_iff_ne.mpr e).symm
theorem key_rr (a b:Str):decide ((Sum.inr a:Key) = Sum.inr b) = decide (a = b):=by
 by_cases e:a = b
 ·subst e;simp
 ·have h:¬ (Sum.inr a:Key) = Sum.inr b:=fun q=>e (Sum.inr.inj q)
  rw [decide_eq_false h,decide_eq_false e]
theorem key_lr (a:Int) (b:Str):decide ((Sum.inl a:Key) = Sum.inr b) = false:=decide_eq_false (fun q=>nomatch q)
theorem key_rl (a:Str) (b:Int):decide ((Sum.inr a:Key) = Sum.inl b) = false:=decide_eq_false (fun q=>nomatch q)
def mixKind (prog:Program) (w:World):PySem.KeyKind prog w Key where
 is:=keyIs
 hash:=keyH w
 inj:=fun v a b ha hb=>by
  rcases keyIs_shape ha with ⟨i,t,rfl,rfl⟩ | ⟨x,t,rfl,rfl⟩
  ·rcases keyIs_shape hb with ⟨j,u,rfl,e⟩ | ⟨y,u,rfl,e⟩
   ·injection e with e1 _;rw [e1]
   ·exact nomatch e
  ·rcases keyIs_shape hb with ⟨j,u,rfl,e⟩ | ⟨y,u,rfl,e⟩
   ·exact nomatch e
   ·injection e with e1 _;rw [e1]
 byValue:=fun k v h=>by
  rcases keyIs_shape h with ⟨i,t,rfl,rfl⟩ | ⟨x,t,rfl,rfl⟩ <;> rfl
 pyHash:=fun hv h=>by
  rcases keyIs_shape hv with ⟨i,t,rfl,rfl⟩ | ⟨x,t,rfl,rfl⟩
  ·exact wpAny_pyHash_int h
  ·exact wpAny_pyHash_str h
 eqBool:=fun hu hv h=>by
  rcases keyIs_shape hu with ⟨i,t,rfl,rfl⟩ | ⟨x,t,rfl,rfl⟩
  ·rcases keyIs_shape hv with ⟨j,u,rfl,rfl⟩ | ⟨y,u,rfl,rfl⟩
   ·rw [key_ll] at h;exact wpAny_eqBool_int h
   ·rw [key_lr] at h;exact SeqAt.EqAt.int_str i t y u _ _ _ _ h
  ·rcases keyIs_shape hv with ⟨j,u,rfl,rfl⟩ | ⟨y,u,rfl,rfl⟩
   ·rw [key_rl] at h;exact SeqAt.EqAt.str_int x t j u _ _ _ _ h
   ·rw [key_rr] at h;exact wpAny_eqBool_str h
 «strs»:=fun k x t v h=>by
  rcases keyIs_shape h with ⟨i,u,rfl,e⟩ | ⟨y,u,rfl,e⟩
  ·exact nomatch e
  ·injection e with e1 _
   subst e1
   cases v <;> rfl
theorem mixKind_int (prog:Program) (w:World) (i:Int) (t:Tok):(mixKind prog w).is (.inl i) (.int i t) = true:=keyIs_int i t
theorem mixKind_str (prog:Program) (w:World) (x:Str) (t:Tok):(mixKind prog w).is (.inr x) (.str x t) = true:=keyIs_str x t
end L2
namespace L2
open PySem PySem.Spec PyProof.Rows
inductive V where
 | non | bl (b:Bool) | int (i:Int) | str (x:Str) | byt (b:Array UInt8) | flt (b:UInt64) | ref (a:Addr) | ty (n:String)
 deriving DecidableEq
def RelV:V->Value->Prop
 | .non,u=>u = Value.none
 | .bl b,u=>u = Value.bool b
 | .int i,u=>∃ t,u = Value.int i t
 | .str x,u=>∃ t,u = Value.str x t
 | .byt b,u=>∃ t,u = Value.bytes b t
 | .flt b,u=>∃ t,u = Value.float b t
 | .ref a,u=>u = Value.ref a
 | .ty n,u=>u = Value.type n
abbrev Vals:List V->List Value->Prop:=Paired RelV
theorem Vals.length {xs:List V} {us:List Value} (r:Vals xs us):xs.length = us.length:=Paired.length r
theorem Vals.get:∀ {xs:List V} {us:List Value} {i:Nat} {x:V},Vals xs us->xs[i]? = some x->∃ u,us[i]? = some u/\RelV x u
 | _,_,_,_,.nil,e=>by simp at e
 | _,_,0,_,.cons r _,e=>by simp at e;subst e;exact ⟨_,rfl,r⟩
 | _,_,i + 1,x,.cons _ t,e=>by
  obtain ⟨u,h1,h2⟩:=Vals.get (i:=i) (x:=x) t (by simpa using e)
  exact ⟨u,by simpa using h1,h2⟩
theorem Vals.append:∀ {xs ys:List V} {us ws:List Value},Vals xs us->Vals ys ws->Vals (xs ++ ys) (us ++ ws)
 | _,_,_,_,.nil,s=>s
 | _,_,_,_,.cons r t,s=>.cons r (Vals.append t s)
theorem Vals.take:∀ {xs:List V} {us:List Value} (n:Nat),Vals xs us->Vals (xs.take n) (us.take n)
 | _,_,0,_=>.nil
 | _,_,_ + 1,.nil=>.nil
 | _,_,n + 1,.cons r t=>.cons r (Vals.take n t)
theorem Vals.drop:∀ {xs:List V} {us:List Value} (n:Nat),Vals xs us->Vals (xs.drop n) (us.drop n)
 | _,_,0,r=>r
 | _,_,_ + 1,.nil=>.nil
 | _,_,n + 1,.cons _ t=>Vals.drop n t
def RelO:Option V->Option Value->Prop
 | some v,some u=>RelV v u
 | none,none=>True
 | _,_=>False
def KV {κ:Type}:List (κ × V)->List (κ × Value)->Prop:=Paired fun (p:κ × V) (q:κ × Value)=>p.1 = q.1/\RelV p.2 q.2
def kV:Key->V
 | .inl i=>.int i
 | .inr x=>.str x
inductive HO where
 | lst (xs:List V)
 | tup (xs:List V)
 | dK (kvs:List (Key × V)) | dT (kvs:List (List Key × V))
 | set (S:Int->Bool) (n:Nat)
 | ins (C dx:Addr) (fs:List (Str × V))
 | own (x:Addr)
 | xd (fs:List (Str × V))
 | met (f x:Addr)
 | rng (lo hi:Int)
 | frz (o:Obj) (u:HO)
 | tbl (ps:Array Value)
 | ext (φ:Heap->Prop)
abbrev Hp:=Addr->Option HO
def upd (H:Hp) (a:Addr) (o:HO):Hp:=fun b=>if b = a then some o else H b
theorem upd_same {H:Hp} {a:Addr} {o:HO}:upd H a o a = some o:=by unfold upd;rw [if_pos rfl]
theorem upd_ne {H:Hp} {a b:Addr} {o:HO} (h:b ≠ a):upd H a o b = H b:=by unfold upd;rw [if_neg h]
theorem upd_upd {H:Hp} {a:Addr} {o u:HO}:upd (upd H a o) a u = upd H a u:=by
 funext b;unfold upd;split <;> rfl
theorem ne_of {H:Hp} {a b:Addr} {o u:HO} (h:H a = some o) (h':H b = some u) (d:o ≠ u):a ≠ b:=by
 intro e;subst e;rw [h] at h';exact d (Option.some.inj h')
theorem ne_of_none {H:Hp} {a b:Addr} {o:HO} (h:H a = some o) (h':H b = none):a ≠ b:=by
 intro e;subst e;rw [h] at h';cases h'
section
variable (P:Program) (w:World)
def ObjOk (H:Hp) (h:Heap) (a:Addr):HO->Prop
 | .lst xs=>xs.length ≤ sizeLine/\∃ (its:List Value) (n:Nat),Vals xs its/\h.get? a = some { cls:=.type "list",data:=.seq its.toArray n }
 | .tup xs=>xs.length ≤ sizeLine/\∃ its:List Value,Vals xs its/\IsTup h a its.toArray
 | .dK kvs=>kvs.length ≤ sizeLine/\(a == sysModules) = false/\∃ vs,KV kvs vs/\h.DictOf (mixKind P w) a vs
 | .dT kvs=>kvs.length ≤ sizeLine/\(a == sysModules) = false/\∃ xs:List (List Key × Addr × Value),
   Paired (fun (p:List Key × V) (q:List Key × Addr × Value)=>p.1 = q.1/\H q.2.1 = some (.tup (p.1.map kV))/\RelV p.2 q.2.2) kvs xs ∧
   ∃ o es ep,h.get? a = some o/\o.ExactDict/\o.data = .dict es ep/\es.toList = xs.map (entryOfKey (tupleKind (mixKind P w)))/\(xs.map (·.1)).Nodup
 | .set S n=>h.SetOf (intKind P w) a S n
 | .ins C dx fs=>H dx = some (.own a)/\fs.length ≤ 1000/\dx ≠ a/\h.get? a = some (PySem.W.instObj C dx) ∧
   ∃ mA,h.Ns1 dx mA/\(∀ f,RelO (fs.lookup f) (mA f))/\PySem.Within mA (fs.map (·.1))
 | .own _=>∃ o,h.get? a = some o
 | .xd fs=>∃ mA,h.Ns1 a mA/\∀ f,RelO (fs.lookup f) (mA f)
 | .rng lo hi=>∃ t u v,h.get? a = some { cls:=.type "range",data:=.fields #[.int lo t,.int hi u,.int 1 v] }
 | .frz o u=>h.get? a = some o/\ObjOk H h a u
 | .tbl ps=>h.get? a = some { cls:=.none,data:=.fields ps }
 | .met f x=>h.get? a = some (PySem.W.methodObj (.ref f) (.ref x))
 | .ext φ=>φ h/\(∃ o,h.get? a = some o)/\∀ h1 h2:Heap,φ h1->(∀ o,h1.get? a = some o->h2.get? a = some o)->φ h2
def HOk (H:Hp) (h:Heap):Prop:=∀ a o,H a = some o->ObjOk P w H h a o
end
section
variable {P:Program} {w:World} {H H':Hp} {h h':Heap} {a:Addr} {o:HO}
theorem ObjOk.lt (x:ObjOk P w H h a o):a < h.objs.size:=by
 cases o with
 | lst xs=>obtain ⟨_,_,_,_,e⟩:=x;exact Heap.lt_size e
 | tup xs=>obtain ⟨_,_,_,p⟩:=x;exact p.lt
 | dK kvs=>obtain ⟨_,_,_,_,o,_,_,e,_⟩:=x;exact Heap.lt_size e
 | dT kvs=>obtain ⟨_,_,_,_,o,_,_,e,_⟩:=x;exact Heap.lt_size e
 | set S n=>obtain ⟨o,_,_,_,e,_⟩:=x;exact Heap.lt_size e
 | ins C dx fs=>obtain ⟨_,_,_,e,_⟩:=x;exact Heap.lt_size e
 | own y=>obtain ⟨_,e⟩:=x;exact Heap.lt_size e
 | xd fs=>obtain ⟨_,⟨_,_,_,e,_⟩,_⟩:=x;exact Heap.lt_size e
 | rng lo hi=>obtain ⟨_,_,_,e⟩:=x;exact Heap.lt_size e
 | frz ob u=>obtain ⟨e,_⟩:=x;exact Heap.lt_size e
 | tbl ps=>exact Heap.lt_size (show h.get? a = some _ from x)
 | met f y=>exact Heap.lt_size (show h.get? a = some _ from x)
 | ext φ=>obtain ⟨_,⟨_,e⟩,_⟩:=x;exact Heap.lt_size e
theorem Paired.mapP {α β:Type} {F G:α->β->Prop}:∀ {l₁:List α} {l₂:List β},Paired F l₁ l₂->(∀ a b,F a b->G a b)->Paired G l₁ l₂
 | _,_,.nil,_=>.nil
 | _,_,.cons r t,f=>.cons (f _ _ r) (Paired.mapP t f)
theorem ObjOk.stay (x:ObjOk P w H h a o) (k:∀ b u,(b = a\/H b = some (.own a))->h.get? b = some u->h'.get? b = some u)
  (ho:∀ b,H b = some (.own a)->H' b = some (.own a)) (ht:∀ b xs,H b = some (.tup xs)->H' b = some (.tup xs)):ObjOk P w H' h' a o:=by
 induction o with
 | lst xs=>obtain ⟨z,its,n,r,e⟩:=x;exact ⟨z,its,n,r,k _ _ (.inl rfl) e⟩
 | tup xs=>obtain ⟨z,its,r,ob,e,c⟩:=x;exact ⟨z,its,r,ob,k _ _ (.inl rfl) e,c⟩
 | dK kvs=>obtain ⟨z,y,vs,r,ob,es,ep,e,c⟩:=x;exact ⟨z,y,vs,r,ob,es,ep,k _ _ (.inl rfl) e,c⟩
 | dT kvs=>
  obtain ⟨z,y,xs,r,ob,es,ep,e,c⟩:=x
  exact ⟨z,y,xs,Paired.mapP r fun p q z=>⟨z.1,ht _ _ z.2.1,z.2.2⟩,ob,es,ep,k _ _ (.inl rfl) e,c⟩
 | set S n=>obtain ⟨ob,es,ep,t,e,c⟩:=x;exact ⟨ob,es,ep,t,k _ _ (.inl rfl) e,c⟩
 | ins C dx fs=>
  obtain ⟨d,z,ne,e,mA,⟨od,es,ep,e2,c⟩,r⟩:=x
  exact ⟨ho _ d,z,ne,k _ _ (.inl rfl) e,mA,⟨od,es,ep,k _ _ (.inr d) e2,c⟩,r⟩
 | own y=>obtain ⟨ob,e⟩:=x;exact ⟨ob,k _ _ (.inl rfl) e⟩
 | xd fs=>obtain ⟨mA,⟨od,es,ep,e,c⟩,r⟩:=x;exact ⟨mA,⟨od,es,ep,k _ _ (.inl rfl) e,c⟩,r⟩
 | rng lo hi=>obtain ⟨t,u,v,e⟩:=x;exact ⟨t,u,v,k _ _ (.inl rfl) e⟩
 | frz ob u ih=>obtain ⟨e,q⟩:=x;exact ⟨k _ _ (.inl rfl) e,ih q⟩
 | tbl ps=>
  have e:h.get? a = some { cls:=.none,data:=.fields ps }:=x
  show h'.get? a = some { cls:=.none,data:=.fields ps }
  exact k a _ (.inl rfl) e
 | met f y=>
  have e:h.get? a = some (PySem.W.methodObj (.ref f) (.ref y)):=x
  show h'.get? a = some (PySem.W.methodObj (.ref f) (.ref y))
  exact k a _ (.inl rfl) e
 | ext φ=>obtain ⟨p,⟨o,e⟩,st⟩:=x;exact ⟨st _ _ p fun o q=>k _ _ (.inl rfl) q,⟨o,k _ _ (.inl rfl) e⟩,st⟩
theorem HOk.lt (x:HOk P w H h) (e:H a = some o):a < h.objs.size:=(x a o e).lt
theorem HOk.fresh (x:HOk P w H h) (e:h.objs.size ≤ a):H a = none:=by
 cases q:H a with
 | none=>rfl
 | some u=>exact absurd (Nat.lt_of_lt_of_le (x.lt q) e) (Nat.lt_irrefl _)
theorem HOk.kept (x:HOk P w H h) (k:∀ b u,h.get? b = some u->h'.get? b = some u):HOk P w H h':=fun a o e=>
 (x a o e).stay (fun b u _ q=>k b u q) (fun _ q=>q) fun _ _ q=>q
theorem HOk.laid (x:HOk P w H h) (k:∀ b u,h.get? b = some u->h'.get? b = some u) (hp:h.objs.size ≤ a) (new:ObjOk P w (upd H a o) h' a o):HOk P w (upd H a o) h':=fun b u e=>by
 have hn:=x.fresh hp
 by_cases hb:b = a
 ·subst hb;rw [upd_same] at e;cases e;exact new
 ·rw [upd_ne hb] at e
  exact (x b u e).stay (fun c v _ q=>k c v q) (fun c q=>by rw [upd_ne (ne_of_none q hn)];exact q) fun c xs q=>by rw [upd_ne (ne_of_none q hn)];exact q
end
def Rd (H:Hp) (a:Addr) (u:HO):Prop:=H a = some u\/∃ o,H a = some (.frz o u)
theorem Rd.ok {P:Program} {w:World} {H:Hp} {h:Heap} {a:Addr} {u:HO} (r:Rd H a u) (x:HOk P w H h):ObjOk P w H h a u:=by
 rcases r with r | ⟨o,r⟩
 ·exact x a u r
 ·obtain ⟨_,q⟩:=x a _ r
  exact q
def Mut:Option HO->Prop
 | some (.lst _)=>True
 | some (.dK _)=>True
 | some (.dT _)=>True
 | some (.set _ _)=>True
 | some (.ins _ _ _)=>True
 | some (.ext _)=>True
 | _=>False
section
variable {P:Program} {w:World} {H:Hp} {h h':Heap} {x e:Addr} {o':HO}
theorem HOk.write (ok:HOk P w H h) (mu:Mut (H x)) (he:e = x\/H e = some (.own x)) (k:∀ b u,b ≠ e->h.get? b = some u->h'.get? b = some u) (heo:∃ u,h'.get? e = some u)
  (new:ObjOk P w (upd H x o') h' x o'):HOk P w (upd H x o') h':=fun b u q=>by
 have nown:∀ c y,H c = some (.own y)->c ≠ x:=fun c y r z=>by subst z;rw [r] at mu;exact mu
 have ntup:∀ c xs,H c = some (.tup xs)->c ≠ x:=fun c xs r z=>by subst z;rw [r] at mu;exact mu
 by_cases hb:b = x
 ·subst hb;rw [upd_same] at q;cases q;exact new
 ·rw [upd_ne hb] at q
  by_cases hbe:b = e
  ·have q':H b = some (.own x):=by
    rcases he with z | z
    ·exact absurd (hbe.trans z) hb
    ·rw [hbe];exact z
   rw [q] at q';cases q'
   obtain ⟨v,hv⟩:=heo
   exact ⟨v,by rw [hbe];exact hv⟩
  ·refine (ok b u q).stay (fun c v hc r=>k c v ?_ r) (fun c r=>by rw [upd_ne (nown c b r)];exact r) fun c xs r=>by rw [upd_ne (ntup c xs r)];exact r
   rcases hc with rfl | hc
   ·exact hbe
   ·rintro rfl
    rcases he with z | z
    ·exact nown c b hc z
    ·rw [hc] at z;cases z;exact hb rfl
end
structure Un (fs ex:List Addr) (H H':Hp) (h h':Heap):Prop where
 keep:∀ b o,h.get? b = some o->H b = none->b ∉ fs->b ∉ ex->h'.get? b = some o
 slot:∀ b o,h.get? b = some o->H b = none->b ∈ fs->b ∉ ex->∃ sl,h'.get? b = some { o with slots:=sl }
 free:∀ b o,h.get? b = some o->H b = none->b ∉ ex->H' b = none
 there:∀ b o,h.get? b = some o->b ∉ ex->∃ o',h'.get? b = some o'
 tups:∀ b xs,H b = some (.tup xs)->H' b = some (.tup xs)
 frzs:∀ b o u,H b = some (.frz o u)->H' b = some (.frz o u)
 tbls:∀ b ps,H b = some (.tbl ps)->∃ more,H' b = some (.tbl (ps ++ more))
section
variable {fs fs' ex ex':List Addr} {H H1 H2:Hp} {h h1 h2 h':Heap} {a x e:Addr} {o:HO}
theorem Un.any (u:Un fs ex H H1 h h1) {b:Addr} {ob:Obj} (q:h.get? b = some ob) (n:H b = none) (hx:b ∉ ex):∃ sl,h1.get? b = some { ob with slots:=sl }:=by
 by_cases hb:b ∈ fs
 ·exact u.slot b ob q n hb hx
 ·exact ⟨ob.slots,u.keep b ob q n hb hx⟩
theorem Un.kept (k:∀ b u,h.get? b = some u->h'.get? b = some u):Un fs ex H H h h':=
 ⟨fun b ob q _ _ _=>k b ob q,fun b ob q _ _ _=>⟨ob.slots,k b ob q⟩,fun _ _ _ n _=>n,fun b ob q _=>⟨ob,k b ob q⟩,fun _ _ q=>q,fun _ _ _ q=>q,fun _ ps q=>⟨#[],by rw [q];simp⟩⟩
theorem Un.refl:Un fs ex H H h h:=Un.kept fun _ _ q=>q
theorem Un.laid (k:∀ b u,h.get? b = some u->h'.get? b = some u) (hp:h.objs.size ≤ a) (hn:H a = none):Un fs ex H (upd H a o) h h' where
 keep:=fun b u q _ _ _=>k b u q
 slot:=fun b u q _ _ _=>⟨u.slots,k b u q⟩
 free:=fun b u q n _=>by rw [upd_ne (Nat.ne_of_lt (Nat.lt_of_lt_of_le (Heap.lt_size q) hp))];exact n
 there:=fun b u q _=>⟨u,k b u q⟩
 tups:=fun b xs q=>by rw [upd_ne (ne_of_none q hn)];exact q
 frzs:=fun b u xs q=>by rw [upd_ne (ne_of_none q hn)];exact q
 tbls:=fun b ps q=>⟨#[],by rw [upd_ne (ne_of_none q hn),q];simp⟩
theorem Un.write (mu:Mut (H x)) (he:e = x\/H e = some (.own x)) (k:∀ b u,b ≠ e->h.get? b = some u->h'.get? b = some u) (heo:∃ u,h'.get? e = some u):Un fs ex H (upd H x o) h h':=by
 have hx:∀ b,H b = none->b ≠ x:=fun b n z=>by subst z;rw [n] at mu;exact mu
 have hb:∀ b,H b = none->b ≠ e:=fun b n z=>by
  subst z
  rcases he with r | r
  ·exact hx b n r
  ·rw [n] at r;cases r
 have hm:∀ b u,H b = some u->¬ Mut (some u)->b ≠ x:=fun b u q nm z=>by subst z;rw [q] at mu;exact nm mu
 refine ⟨fun b u q n _ _=>k b u (hb b n) q,fun b u q n _ _=>⟨u.slots,k b u (hb b n) q⟩,fun b u q n _=>by rw [upd_ne (hx b n)];exact n,fun b u q _=>?_,
  fun b xs q=>by rw [upd_ne (hm b _ q fun z=>z)];exact q,fun b u xs q=>by rw [upd_ne (hm b _ q fun z=>z)];exact q,fun b ps q=>⟨#[],by rw [upd_ne (hm b _ q fun z=>z),q];simp⟩⟩
 by_cases hbe:b = e
 ·subst hbe;exact heo
 ·exact ⟨u,k b u hbe q⟩
end
def trk (h:Heap) (H:Hp):List Addr:=(List.range h.objs.size).filter fun a=>(H a).isSome
def hidT (h:Heap) (H:Hp):Heap:=PySem.W.hideAll h (trk h H)
theorem hidT_size (h:Heap) (H:Hp):(hidT h H).objs.size = h.objs.size:=PySem.W.hideAll_size _ _
theorem hidT_get {h:Heap} {H:Hp} {b:Addr} {o:Obj} (e:h.get? b = some o) (n:H b = none):(hidT h H).get? b = some o:=
 PySem.W.hideAll_get _ e fun hm=>by
  have q:(H b).isSome = true:=(List.mem_filter.mp hm).2
  rw [n] at q;simp at q
theorem of_hidT {h:Heap} {H:Hp} {b:Addr} {o:Obj} (e:(hidT h H).get? b = some o):h.get? b = some o/\H b = none:=by
 have e':h.get? b = some o:=PySem.W.of_hideAll (trk h H) e
 refine ⟨e',?_⟩
 cases q:H b with
 | none=>rfl
 | some x=>
  have hm:b ∈ trk h H:=List.mem_filter.mpr ⟨List.mem_range.mpr (Heap.lt_size e'),by simp [q]⟩
  have z:(hidT h H).get? b = none:=PySem.W.hideAll_none (trk h H) hm
  rw [z] at e;cases e
def allNews (g h:Heap) (L:Addr):List (Addr × Obj):=(List.range h.objs.size).filterMap fun a=>if a = L\/(g.get? a).isSome = true then none else (h.get? a).map fun o=>(a,o)
def rest (g h:Heap) (L d:Addr):List (Addr × Obj):=(allNews g h L).filter fun p=>decide (p.1 ≠ d)
end L2
namespace L2
open PySem PySem.Spec PyProof.Rows
structure Mod (K:PySem.W.Frag) (mg:Str->Option Value) (base:Heap):Prop where
 kin:K.In base
 glob:base.Ns mainGlobals mg
 blt:∃ mb,base.Ns builtinsNs mb/\∀ x:Str,x ≠ "__name__"->mb x = bootBuiltins x
 nolimit:base.NoLimit
structure Cx where
 prog:Program
 w:World
 K:PySem.W.Frag
 mg:Str->Option Value
 base:Heap
 A:Around
 N:List Str
 s₀:Shared
 H₀:Hp
 env:Env
 outer:List Env
 stack:List Env
 ex:List Addr
 fn:Str->Bool
 calm:Bool
 pn:List (Addr × Obj)
 xe:Value->Shared->Prop
def frs (l:List Env):List Addr:=l.filterMap (·.frame)
abbrev Cx.fs (X:Cx):List Addr:=frs X.outer
def Vis (sc:Scope) (x:Str):Prop:=sc.names.lookup x = some .local\/sc.names.lookup x = some .cell\/sc.names.lookup x = some .free
def Loc (sc:Scope) (x:Str):Prop:=sc.names.lookup x = some .local\/sc.names.lookup x = some .cell
def Look (env:Env) (h:Heap) (m:Str->Option Value) (x:Str) (u:Value):Prop:=
 (env.kindOf x = some .local/\m x = some u)\/((env.kindOf x = some .cell\/env.kindOf x = some .free)/\∃ c,env.cells.lookup x = some c/\h.IsCell c (some u))
structure Cx.Ok (X:Cx):Prop where
 mod:Mod X.K X.mg X.base
 kind:X.env.scope.kind = .function
 glob:X.env.globals = mainGlobals
 blt:X.env.builtins = builtinsNs
 above:X.s₀.heap.objs.size ≤ X.env.locals
 inj:∀ x y c,X.env.cells.lookup x = some c->X.env.cells.lookup y = some c->x = y
 has:∀ x,(X.env.kindOf x = some .cell\/X.env.kindOf x = some .free)->∃ c,X.env.cells.lookup x = some c
 cab:∀ x c,X.fn x = true->X.env.cells.lookup x = some c->X.s₀.heap.objs.size ≤ c
 hd:X.calm = true->X.A.handled = none
 frames:X.A.frames = some X.stack
 stk:X.stack = X.outer\/(X.stack = X.env :: X.outer/\X.env.frame = some X.env.locals)
 exf:∀ b ∈ X.ex,b ≠ X.env.locals/\∀ x c,X.env.cells.lookup x = some c->c ≠ b
 bs:∀ b o,X.base.get? b = some o->X.s₀.heap.get? b = some o/\X.H₀ b = none
 bsz:X.base.objs.size ≤ X.s₀.heap.objs.size
 noex:∀ b o,X.base.get? b = some o->b ∉ X.ex
 exfs:∀ b ∈ X.ex,b ∉ X.fs
 funs:X.s₀.heap.FunFrames X.base X.outer
 frf:∀ b ∈ X.fs,X.H₀ b = none
structure Inv (X:Cx) (pins:List (Addr × Obj)) (σ:List (Option V)) (H:Hp) (s:Shared):Prop where
 ok:X.Ok
 os:s.os = X.s₀.os
 bare:AllBare s.gens
 base:Un X.fs X.ex X.H₀ H X.s₀.heap s.heap
 loc:∃ m,s.heap.Ns X.env.locals m/\∀ (i:Nat) (x:Str) (v:V),X.N[i]? = some x->σ[i]? = some (some v)->Vis X.env.scope x->∃ u,RelV v u/\Look X.env s.heap m x u
 cell:∀ x c,X.env.cells.lookup x = some c->∃ v,s.heap.IsCell c v
 free:H X.env.locals = none
 freeC:∀ x c,X.env.cells.lookup x = some c->H c = none
 pin:∀ p ∈ X.pn ++ pins,s.heap.get? p.1 = some p.2/\H p.1 = none/\p.1 ≠ X.env.locals/\p.1 ∉ X.fs/\∀ v,p.2.data ≠ .cell v
 hok:HOk X.prog X.w H s.heap
 len:σ.length = X.N.length
section
variable {X:Cx} {pins:List (Addr × Obj)} {σ:List (Option V)} {H H':Hp} {s:Shared} {h':Heap}
theorem Cx.Ok.nofr (ok:X.Ok) {b:Addr} {o:Obj} (e:X.base.get? b = some o):b ∉ X.fs:=fun hb=>by
 have:=(ok.funs.mem hb).1
 rw [e] at this;cases this
theorem Inv.bs (I:Inv X pins σ H s):∀ b o,X.base.get? b = some o->s.heap.get? b = some o/\H b = none:=fun b o e=>
 ⟨I.base.keep b o (I.ok.bs b o e).1 (I.ok.bs b o e).2 (I.ok.nofr e) (I.ok.noex b o e),I.base.free b o (I.ok.bs b o e).1 (I.ok.bs b o e).2 (I.ok.noex b o e)⟩
theorem Inv.bk (I:Inv X pins σ H s):∀ b o,X.base.get? b = some o->s.heap.get? b = some o:=fun b o e=>(I.bs b o e).1
theorem Inv.mod (I:Inv X pins σ H s):Mod X.K X.mg X.base:=I.ok.mod
theorem Inv.kIn (I:Inv X pins σ H s):X.K.In s.heap:=I.ok.mod.kin.keeps I.bk
theorem Inv.lt (I:Inv X pins σ H s):X.env.locals < s.heap.objs.size:=let ⟨_,hn,_⟩:=I.loc;hn.lt
theorem Inv.sz (I:Inv X pins σ H s):X.s₀.heap.objs.size ≤ s.heap.objs.size:=Nat.le_trans I.ok.above (Nat.le_of_lt I.lt)
theorem Inv.nofs (I:Inv X pins σ H s) {a:Addr} (h:s.heap.objs.size ≤ a):a ∉ X.fs:=fun hb=>by
 obtain ⟨_,o,ho,_⟩:=I.ok.funs.mem hb
 exact absurd (Nat.lt_of_lt_of_le (Heap.lt_size ho) (Nat.le_trans I.sz h)) (Nat.lt_irrefl _)
theorem Inv.cne (I:Inv X pins σ H s):∀ x c,X.env.cells.lookup x = some c->c ≠ X.env.locals:=fun x c e z=>by
 obtain ⟨v,o,ho,hd⟩:=I.cell x c e
 obtain ⟨m,⟨o',es,ep,ho',hd',_⟩,_⟩:=I.loc
 rw [z,ho'] at ho;cases ho;rw [hd'] at hd;cases hd
theorem Inv.funs (I:Inv X pins σ H s):s.heap.FunFrames X.base X.outer:=by
 have all:∀ (l:List Env),(∀ b ∈ frs l,b ∈ X.fs)->X.s₀.heap.FunFrames X.base l->s.heap.FunFrames X.base l:=by
  intro l
  induction l with
  | nil=>intro _ _;trivial
  | cons env r ih=>
   intro hs hl
   obtain ⟨hk,⟨L,o,hf,hn,ho,hd⟩,hr⟩:=hl
   have hL:L ∈ X.fs:=hs L (by unfold frs;rw [List.filterMap_cons,hf];exact List.mem_cons_self)
   obtain ⟨sl,e⟩:=I.base.slot L o ho (I.ok.frf L hL) hL fun z=>I.ok.exfs L z hL
   exact ⟨hk,⟨L,_,hf,hn,e,hd⟩,ih (fun b hb=>hs b (by unfold frs;rw [List.filterMap_cons,hf];exact List.mem_cons_of_mem _ hb)) hr⟩
 exact all X.outer (fun _ hb=>hb) I.ok.funs
theorem Inv.stack (I:Inv X pins σ H s):s.heap.FunFrames X.base X.stack:=by
 rcases I.ok.stk with e | ⟨e,hf⟩
 ·rw [e];exact I.funs
 ·rw [e]
  obtain ⟨m,hn,_⟩:=I.loc
  refine .cons (by rw [I.ok.kind];decide) hf hn ?_ I.funs
  exact Heap.get?_none_of_le (Nat.le_trans I.ok.bsz I.ok.above)
theorem Inv.stkSub (I:Inv X pins σ H s):∀ b ∈ frs X.stack,b ∈ X.env.locals :: X.fs:=fun b hb=>by
 rcases I.ok.stk with e | ⟨e,hf⟩
 ·rw [e] at hb;exact List.mem_cons_of_mem _ hb
 ·rw [e] at hb
  unfold frs at hb
  rw [List.filterMap_cons,hf] at hb
  exact hb
theorem Inv.stkFree (I:Inv X pins σ H s):∀ b ∈ frs X.stack,H b = none:=fun b hb=>by
 rcases List.mem_cons.mp (I.stkSub b hb) with e | hb
 ·rw [e];exact I.free
 ·obtain ⟨_,o,ho,_⟩:=I.ok.funs.mem hb
  exact I.base.free b o ho (I.ok.frf b hb) fun z=>I.ok.exfs b z hb
theorem Inv.step {g':Array GenState} {t':Nat} {d':Drawn} {ch:List Addr} (I:Inv X pins σ H s)
  (hch:∀ b ∈ ch,(b ∈ X.ex\/X.s₀.heap.objs.size ≤ b)/\b ≠ X.env.locals/\(∀ x c,X.env.cells.lookup x = some c->c ≠ b)/\∀ p ∈ X.pn ++ pins,p.1 ≠ b)
  (keep:∀ b o,b ≠ X.env.locals->b ∉ X.fs->b ∉ ch->s.heap.get? b = some o->H b = none->h'.get? b = some o)
  (slot:∀ b o,b ≠ X.env.locals->b ∈ X.fs->b ∉ ch->s.heap.get? b = some o->H b = none->∃ sl,h'.get? b = some { o with slots:=sl }) (free:∀ b o,b ∉ ch->s.heap.get? b = some o->H b = none->H' b = none)
  (there:∀ b o,b ∉ ch->s.heap.get? b = some o->∃ o',h'.get? b = some o')
  (tups:∀ b xs,H b = some (.tup xs)->H' b = some (.tup xs)) (frzs:∀ b o u,H b = some (.frz o u)->H' b = some (.frz o u)) (tbls:∀ b ps,H b = some (.tbl ps)->∃ more,H' b = some (.tbl (ps ++ more)))
  (ns:∀ m,s.heap.Ns X.env.locals m->h'.Ns X.env.locals m) (hok:HOk X.prog X.w H' h') (hg:AllBare g') :
  Inv X pins σ H' { s with heap:=h',gens:=g',drawn:=d',toks:=t' }:=by
 have neL:∀ b o,X.s₀.heap.get? b = some o->b ≠ X.env.locals:=fun b o e=>Nat.ne_of_lt (Nat.lt_of_lt_of_le (Heap.lt_size e) I.ok.above)
 have neC:∀ b o,X.s₀.heap.get? b = some o->b ∉ X.ex->b ∉ ch:=fun b o e hx hb=>by
  rcases (hch b hb).1 with z | z
  ·exact hx z
  ·exact absurd (Nat.lt_of_lt_of_le (Heap.lt_size e) z) (Nat.lt_irrefl _)
 have cellK:∀ x c,X.env.cells.lookup x = some c->∀ v,s.heap.IsCell c v->h'.IsCell c v:=fun x c e v ⟨o,ho,hd⟩=>by
  have nch:c ∉ ch:=fun z=>(hch c z).2.2.1 x c e rfl
  by_cases hc:c ∈ X.fs
  ·obtain ⟨sl,q⟩:=slot c o (I.cne x c e) hc nch ho (I.freeC x c e)
   exact ⟨_,q,hd⟩
  ·exact ⟨o,keep c o (I.cne x c e) hc nch ho (I.freeC x c e),hd⟩
 refine ⟨I.ok,I.os,hg,⟨fun b o e n hb hx=>?_,fun b o e n hb hx=>?_,fun b o e n hx=>?_,fun b o e hx=>?_,fun b xs e=>tups b xs (I.base.tups b xs e),fun b o xs e=>frzs b o xs (I.base.frzs b o xs e),fun b ps e=>?_⟩,?_,fun x c e=>?_,?_,fun x c e=>?_,fun p hp=>?_,hok,I.len⟩
 ·exact keep b o (neL b o e) hb (neC b o e hx) (I.base.keep b o e n hb hx) (I.base.free b o e n hx)
 ·obtain ⟨sl,e1⟩:=I.base.slot b o e n hb hx
  obtain ⟨sl',e2⟩:=slot b _ (neL b o e) hb (neC b o e hx) e1 (I.base.free b o e n hx)
  exact ⟨sl',e2⟩
 ·obtain ⟨o',e1⟩:=I.base.there b o e hx
  exact free b o' (neC b o e hx) e1 (I.base.free b o e n hx)
 ·obtain ⟨o',e1⟩:=I.base.there b o e hx
  exact there b o' (neC b o e hx) e1
 ·obtain ⟨m1,e1⟩:=I.base.tbls b ps e
  obtain ⟨m2,e2⟩:=tbls b _ e1
  exact ⟨m1 ++ m2,by rw [e2,Array.append_assoc]⟩
 ·obtain ⟨m,hn,hl⟩:=I.loc
  refine ⟨m,ns m hn,fun i x v e1 e2 e3=>?_⟩
  obtain ⟨u,r,l⟩:=hl i x v e1 e2 e3
  refine ⟨u,r,?_⟩
  rcases l with l | ⟨k,c,e,z⟩
  ·exact .inl l
  ·exact .inr ⟨k,c,e,cellK x c e _ z⟩
 ·obtain ⟨v,z⟩:=I.cell x c e
  exact ⟨v,cellK x c e v z⟩
 ·obtain ⟨m,⟨o,_,_,ho,_⟩,_⟩:=I.loc
  exact free _ o (fun z=>(hch _ z).2.1 rfl) ho I.free
 ·obtain ⟨v,o,ho,hd⟩:=I.cell x c e
  exact free c o (fun z=>(hch c z).2.2.1 x c e rfl) ho (I.freeC x c e)
 ·obtain ⟨e,n,ne,nf,d⟩:=I.pin p hp
  have nch:p.1 ∉ ch:=fun z=>(hch p.1 z).2.2.2 p hp rfl
  exact ⟨keep p.1 p.2 ne nf nch e n,free p.1 p.2 nch e n,ne,nf,d⟩
theorem Inv.un {t':Nat} (I:Inv X pins σ H s) (u:Un X.fs [] H H' s.heap h') (hok:HOk X.prog X.w H' h'):Inv X pins σ H' { s with heap:=h',toks:=t' }:=by
 obtain ⟨m,⟨o,es,ep,ho,r⟩,_⟩:=id I.loc
 obtain ⟨sl,hL⟩:=u.any ho I.free (by simp)
 exact I.step (g':=s.gens) (d':=s.drawn) (ch:=[]) (fun _ z=>nomatch z) (fun b o _ hb _ e n=>u.keep b o e n hb (by simp)) (fun b o _ hb _ e n=>u.slot b o e n hb (by simp)) (fun b o _ e n=>u.free b o e n (by simp)) (fun b o _ e=>u.there b o e (by simp)) u.tups u.frzs u.tbls (fun m' hm=>by
  obtain ⟨o',es',ep',ho',r'⟩:=hm
  rw [ho] at ho';cases ho'
  exact ⟨_,es',ep',hL,r'⟩) hok I.bare
theorem Inv.call {g':Array GenState} {t':Nat} {d':Drawn} {ch:List Addr} (I:Inv X pins σ H s) (u:Un (frs X.stack) ch H H' s.heap h') (hok:HOk X.prog X.w H' h') (hg:AllBare g')
  (hch:∀ b ∈ ch,(b ∈ X.ex\/X.s₀.heap.objs.size ≤ b)/\b ≠ X.env.locals/\(∀ x c,X.env.cells.lookup x = some c->c ≠ b)/\∀ p ∈ X.pn ++ pins,p.1 ≠ b) :
  Inv X pins σ H' { s with heap:=h',gens:=g',drawn:=d',toks:=t' }:=by
 obtain ⟨m,⟨o,es,ep,ho,r⟩,_⟩:=id I.loc
 obtain ⟨sl,hL⟩:=u.any ho I.free fun z=>(hch _ z).2.1 rfl
 exact I.step (ch:=ch) hch (fun b o hL hb hc e n=>u.keep b o e n (fun z=>(List.mem_cons.mp (I.stkSub b z)).elim hL hb) hc) (fun b o _ _ hc e n=>u.any e n hc) (fun b o hc e n=>u.free b o e n hc) (fun b o hc e=>u.there b o e hc) u.tups u.frzs u.tbls (fun m' hm=>by
  obtain ⟨o',es',ep',ho',r'⟩:=hm
  rw [ho] at ho';cases ho'
  exact ⟨_,es',ep',hL,r'⟩) hok hg
theorem Inv.turned {t':Nat} {it:Addr} (I:Inv X pins σ H s) (k:∀ b o,b ≠ it->s.heap.get? b = some o->h'.get? b = some o) (hn:H it = none) (hL:it ≠ X.env.locals)
  (h1:it ∈ X.ex\/X.s₀.heap.objs.size ≤ it) (h2:∀ x c,X.env.cells.lookup x = some c->c ≠ it) (h3:∀ p ∈ X.pn ++ pins,p.1 ≠ it):Inv X pins σ H { s with heap:=h',toks:=t' }:=by
 have nit:∀ b u,H b = some u->b ≠ it:=fun b u e z=>by rw [z,hn] at e;cases e
 refine I.step (g':=s.gens) (d':=s.drawn) (ch:=[it]) (fun b hb=>?_) (fun b o _ _ hc e _=>k b o (fun z=>hc (by simp [z])) e) (fun b o _ _ hc e _=>⟨o.slots,k b o (fun z=>hc (by simp [z])) e⟩) (fun _ _ _ _ n=>n)
  (fun b o hc e=>⟨o,k b o (fun z=>hc (by simp [z])) e⟩) (fun _ _ e=>e) (fun _ _ _ e=>e) (fun b ps e=>⟨#[],by rw [e];simp⟩) (fun m hm=>?_) (fun b u e=>?_) I.bare
 ·have e:b = it:=by simpa using hb
  subst e
  exact ⟨h1,hL,h2,h3⟩
 ·obtain ⟨o,es,ep,ho,r⟩:=hm
  exact ⟨o,es,ep,k _ o (Ne.symm hL) ho,r⟩
 ·refine (I.hok b u e).stay (fun c v hc q=>k c v ?_ q) (fun _ q=>q) fun _ _ q=>q
  rcases hc with z | z
  ·rw [z];exact nit b u e
  ·exact nit c _ z
theorem Inv.tok (I:Inv X pins σ H s) (t:Nat):Inv X pins σ H { s with toks:=t }:=I.un (h':=s.heap) (t':=t) Un.refl I.hok
theorem Inv.kept {t':Nat} (I:Inv X pins σ H s) (k:∀ b u,s.heap.get? b = some u->h'.get? b = some u):Inv X pins σ H { s with heap:=h',toks:=t' }:=I.un (Un.kept k) (I.hok.kept k)
theorem Inv.laid {a:Addr} {o:HO} {t':Nat} (I:Inv X pins σ H s) (k:∀ b u,s.heap.get? b = some u->h'.get? b = some u) (hp:s.heap.objs.size ≤ a) (new:ObjOk X.prog X.w (upd H a o) h' a o) :
  Inv X pins σ (upd H a o) { s with heap:=h',toks:=t' }:=I.un (Un.laid k hp (I.hok.fresh hp)) (I.hok.laid k hp new)
theorem Inv.write {x e:Addr} {o:HO} {t':Nat} (I:Inv X pins σ H s) (mu:Mut (H x)) (he:e = x\/H e = some (.own x)) (k:∀ b u,b ≠ e->s.heap.get? b = some u->h'.get? b = some u) (heo:∃ u,h'.get? e = some u)
  (new:ObjOk X.prog X.w (upd H x o) h' x o):Inv X pins σ (upd H x o) { s with heap:=h',toks:=t' }:=I.un (Un.write mu he k heo) (I.hok.write mu he k heo new)
theorem Inv.pins_of {pins':List (Addr × Obj)} (I:Inv X pins σ H s) (h:∀ p ∈ pins',s.heap.get? p.1 = some p.2/\H p.1 = none/\p.1 ≠ X.env.locals/\p.1 ∉ X.fs/\∀ v,p.2.data ≠ .cell v):Inv X pins' σ H s:=
 ⟨I.ok,I.os,I.bare,I.base,I.loc,I.cell,I.free,I.freeC,fun p hp=>(List.mem_append.mp hp).elim (fun z=>I.pin p (List.mem_append_left _ z)) (h p),I.hok,I.len⟩
theorem nodup_ix {N:List Str} (hN:N.Nodup) {i j:Nat} {x:Str} (a:N[i]? = some x) (b:N[j]? = some x):i = j:=by
 obtain ⟨h1,e1⟩:=List.getElem?_eq_some_iff.mp a
 obtain ⟨h2,e2⟩:=List.getElem?_eq_some_iff.mp b
 exact (List.getElem_inj hN).mp (e1.trans e2.symm)
theorem store_ok2 {M:Model} {A:Around} {E:Value->Shared->Prop} {i:Nat} {x:Str} {v:V} {u:Value} {Q:Unit->Shared->Prop} (I:Inv X pins σ H s) (hN:X.N.Nodup) (hi:X.N[i]? = some x) (hx:Loc X.env.scope x) (r:RelV v u)
  (h:∀ s',Inv X pins (σ.set i (some v)) H s'->(∃ a,Heap.SameBut a s.heap s'.heap/\(a = X.env.locals\/X.env.cells.lookup x = some a))->Q () s') (hf:X.fn x = true\/X.env.scope.names.lookup x = some .local:=by first | exact .inl rfl | exact .inr rfl | assumption):wpAny M A (storeName X.env x u) Q E s:=by
 obtain ⟨m,hn,hl⟩:=id I.loc
 have hcls:(X.env.scope.kind == .class || (X.env.scope.kind == .module && X.env.locals != X.env.globals)) = false:=by rw [I.ok.kind];rfl
 have hiσ:i < σ.length:=by rw [I.len];exact (List.getElem?_eq_some_iff.mp hi).1
 have cne:=I.cne
 have tracked:∀ {a:Addr} {h':Heap},(∃ o,s.heap.get? a = some o/\H a = none)->Heap.SameBut a s.heap h'->HOk X.prog X.w H h':=fun {a h'} ha hs b ob e=>by
  obtain ⟨_,_,hfree⟩:=ha
  refine (I.hok b ob e).stay (fun c w' hc q=>(hs.2 c ?_).trans q) (fun _ q=>q) fun _ _ q=>q
  rintro rfl
  rcases hc with rfl | hc
  ·rw [hfree] at e;cases e
  ·rw [hfree] at hc;cases hc
 rcases hx with hk | hk
 ·refine wpAny_storeName_local hk hn (fun h' hn' hs=>?_) hcls
  obtain ⟨oL,_,_,hoL,_⟩:=id hn
  refine h _ ⟨I.ok,I.os,I.bare,⟨fun b o e n hb hx=>?_,fun b o e n hb hx=>?_,I.base.free,fun b o e hx=>?_,I.base.tups,I.base.frzs,I.base.tbls⟩,⟨_,hn',fun j y v' e1 e2 e3=>?_⟩,fun y c e=>?_,I.free,I.freeC,fun p hp=>?_,tracked ⟨oL,hoL,I.free⟩ hs,by simpa using I.len⟩ ⟨_,hs,.inl rfl⟩
  ·exact (hs.2 b (Nat.ne_of_lt (Nat.lt_of_lt_of_le (Heap.lt_size e) I.ok.above))).trans (I.base.keep b o e n hb hx)
  ·obtain ⟨sl,e1⟩:=I.base.slot b o e n hb hx
   exact ⟨sl,(hs.2 b (Nat.ne_of_lt (Nat.lt_of_lt_of_le (Heap.lt_size e) I.ok.above))).trans e1⟩
  ·obtain ⟨o',e1⟩:=I.base.there b o e hx
   exact ⟨o',(hs.2 b (Nat.ne_of_lt (Nat.lt_of_lt_of_le (Heap.lt_size e) I.ok.above))).trans e1⟩
  ·by_cases hj:j = i
   ·subst hj
    rw [hi] at e1;cases e1
    rw [List.getElem?_set_self hiσ] at e2
    cases e2
    exact ⟨u,r,.inl ⟨hk,by simp⟩⟩
   ·rw [List.getElem?_set_ne (Ne.symm hj)] at e2
    obtain ⟨u',r',q⟩:=hl j y v' e1 e2 e3
    refine ⟨u',r',?_⟩
    rcases q with ⟨k,e⟩ | ⟨k,c,e,z⟩
    ·refine .inl ⟨k,?_⟩
     have:y ≠ x:=fun e=>hj (nodup_ix hN e1 (e ▸ hi))
     simp [this,e]
    ·exact .inr ⟨k,c,e,z.sameBut hs (cne y c e)⟩
  ·obtain ⟨w',z⟩:=I.cell y c e
   exact ⟨w',z.sameBut hs (cne y c e)⟩
  ·obtain ⟨e,n,ne,nf,d⟩:=I.pin p hp
   exact ⟨(hs.2 p.1 ne).trans e,n,ne,nf,d⟩
 ·have hfn:X.fn x = true:=by
   rcases hf with z | z
   ·exact z
   ·rw [z] at hk;cases hk
  obtain ⟨c,hc⟩:=I.ok.has x (.inl hk)
  obtain ⟨w',z⟩:=I.cell x c hc
  refine wpAny_storeName_cell I.ok.kind hk hc z (fun h' hc' hs=>?_)
  obtain ⟨oc,hoc,hocd⟩:=id z
  refine h { s with heap:=h' } ⟨I.ok,I.os,I.bare,⟨fun b o e n hb hx=>?_,fun b o e n hb hx=>?_,I.base.free,fun b o e hx=>?_,I.base.tups,I.base.frzs,I.base.tbls⟩,⟨m,hn.sameBut hs (Ne.symm (cne x c hc)),fun j y v' e1 e2 e3=>?_⟩,fun y c' e=>?_,I.free,I.freeC,fun p hp=>?_,tracked ⟨oc,hoc,I.freeC x c hc⟩ hs,by simpa using I.len⟩ ⟨c,hs,.inr hc⟩
  ·exact (hs.2 b (Nat.ne_of_lt (Nat.lt_of_lt_of_le (Heap.lt_size e) (I.ok.cab x c hfn hc)))).trans (I.base.keep b o e n hb hx)
  ·obtain ⟨sl,e1⟩:=I.base.slot b o e n hb hx
   exact ⟨sl,(hs.2 b (Nat.ne_of_lt (Nat.lt_of_lt_of_le (Heap.lt_size e) (I.ok.cab x c hfn hc)))).trans e1⟩
  ·obtain ⟨o',e1⟩:=I.base.there b o e hx
   exact ⟨o',(hs.2 b (Nat.ne_of_lt (Nat.lt_of_lt_of_le (Heap.lt_size e) (I.ok.cab x c hfn hc)))).trans e1⟩
  ·by_cases hj:j = i
   ·subst hj
    rw [hi] at e1;cases e1
    rw [List.getElem?_set_self hiσ] at e2
    cases e2
    exact ⟨u,r,.inr ⟨.inl hk,c,hc,hc'⟩⟩
   ·rw [List.getElem?_set_ne (Ne.symm hj)] at e2
    obtain ⟨u',r',q⟩:=hl j y v' e1 e2 e3
    refine ⟨u',r',?_⟩
    rcases q with q | ⟨k,c',e,z'⟩
    ·exact .inl q
    ·refine .inr ⟨k,c',e,z'.sameBut hs ?_⟩
     rintro rfl
     exact hj (nodup_ix hN e1 (I.ok.inj _ _ _ e hc ▸ hi))
  ·by_cases hcc:c' = c
   ·subst hcc;exact ⟨_,hc'⟩
   ·obtain ⟨w2,z2⟩:=I.cell y c' e
    exact ⟨w2,z2.sameBut hs hcc⟩
  ·obtain ⟨e,n,ne,nf,d⟩:=I.pin p hp
   refine ⟨(hs.2 p.1 ?_).trans e,n,ne,nf,d⟩
   intro q
   rw [q,hoc] at e
   have q':oc = p.2:=Option.some.inj e
   exact d w' (by rw [← q'];exact hocd)
theorem store_ok {M:Model} {A:Around} {E:Value->Shared->Prop} {i:Nat} {x:Str} {v:V} {u:Value} {Q:Unit->Shared->Prop} (I:Inv X pins σ H s) (hN:X.N.Nodup) (hi:X.N[i]? = some x) (hx:Loc X.env.scope x) (r:RelV v u)
  (h:∀ s',Inv X pins (σ.set i (some v)) H s'->Q () s') (hf:X.fn x = true\/X.env.scope.names.lookup x = some .local:=by first | exact .inl rfl | exact .inr rfl | assumption):wpAny M A (storeName X.env x u) Q E s:=
 store_ok2 I hN hi hx r (fun s' I' _=>h s' I') hf
theorem Inv.call' {s':Shared} {ch:List Addr} (I:Inv X pins σ H s) (ho:s'.os = s.os) (u:Un (frs X.stack) ch H H' s.heap s'.heap) (hok:HOk X.prog X.w H' s'.heap) (hg:AllBare s'.gens)
  (hch:∀ b ∈ ch,(b ∈ X.ex\/X.s₀.heap.objs.size ≤ b)/\b ≠ X.env.locals/\(∀ x c,X.env.cells.lookup x = some c->c ≠ b)/\∀ p ∈ X.pn ++ pins,p.1 ≠ b):Inv X pins σ H' s':=by
 obtain ⟨h',g',d',t',o'⟩:=s'
 have e:o' = s.os:=ho
 subst e
 exact I.call (g':=g') (t':=t') (d':=d') u hok hg hch
end
abbrev XK:=Value->Option Addr->Hp->Prop
abbrev St:=List (Option V)
abbrev VK:=V->Hp->Prop
abbrev TE:=St->Hp->VK->Prop
abbrev TT:=St->Hp->(Bool->Hp->Prop)->Prop
abbrev TA:=St->Hp->(List V->Hp->Prop)->Prop
structure Ends where
 nx:St->Hp->Prop
 rt:VK
 bk:St->Hp->Prop:=fun _ _=>False
 ct:St->Hp->Prop:=fun _ _=>False
abbrev TS:=Ends->St->Hp->Prop
def EP (X:Cx) (pins:List (Addr × Obj)) (σ:St) (Q:VK) (u:Value) (s':Shared):Prop:=∃ v H',Inv X pins σ H' s'/\RelV v u/\Q v H'
def TP (X:Cx) (pins:List (Addr × Obj)) (σ:St) (Q:Bool->Hp->Prop) (b:Bool) (s':Shared):Prop:=∃ H',Inv X pins σ H' s'/\Q b H'
def AP (X:Cx) (pins:List (Addr × Obj)) (σ:St) (Q:List V->Hp->Prop) (us:List Value) (s':Shared):Prop:=∃ vs H',Inv X pins σ H' s'/\Vals vs us/\Q vs H'
def SP (X:Cx) (pins:List (Addr × Obj)) (D:Ends) (f:Flow) (s':Shared):Prop:=
 match f with
 | .next=>∃ σ' H',Inv X pins σ' H' s'/\D.nx σ' H'
 | .brk=>∃ σ' H',Inv X pins σ' H' s'/\D.bk σ' H'
 | .cont=>∃ σ' H',Inv X pins σ' H' s'/\D.ct σ' H'
 | .ret u=>∃ v σ' H',Inv X pins σ' H' s'/\RelV v u/\D.rt v H'
def PE (X:Cx) (e:Expr) (t:TE):Prop:=
 ∀ (pins:List (Addr × Obj)) (s:Shared) (σ:St) (H:Hp) (Q:VK),Inv X pins σ H s->t σ H Q->wpAny (model X.prog X.w) X.A (eval e X.env) (EP X pins σ Q) X.xe s
def PT (X:Cx) (e:Expr) (t:TT):Prop:=
 ∀ (pins:List (Addr × Obj)) (s:Shared) (σ:St) (H:Hp) (Q:Bool->Hp->Prop),Inv X pins σ H s->t σ H Q->wpAny (model X.prog X.w) X.A (isTrue e X.env (eval e X.env)) (TP X pins σ Q) X.xe s
def PW (X:Cx) (e:Expr) (t:TT):Prop:=
 ∀ (whole:Sem Value) (pins:List (Addr × Obj)) (s:Shared) (σ:St) (H:Hp) (Q:Bool->Hp->Prop),Inv X pins σ H s->t σ H Q->wpAny (model X.prog X.w) X.A (isTrue e X.env whole) (TP X pins σ Q) X.xe s
theorem PW.pt {X:Cx} {e:Expr} {t:TT} (h:PW X e t):PT X e t:=h _
def PA (X:Cx) (es:List Expr) (t:TA):Prop:=
 ∀ (pos:Pos) (pins:List (Addr × Obj)) (s:Shared) (σ:St) (H:Hp) (Q:List V->Hp->Prop),Inv X pins σ H s->t σ H Q->wpAny (model X.prog X.w) X.A (spliced (backTo pos (starEach es X.env))) (AP X pins σ Q) X.xe s
def PS (X:Cx) (st:Stmt) (t:TS):Prop:=
 ∀ (pins:List (Addr × Obj)) (s:Shared) (σ:St) (H:Hp) (D:Ends),Inv X pins σ H s->t D σ H->wpAny (model X.prog X.w) X.A (exec st X.env) (SP X pins D) X.xe s
def PSs (X:Cx) (st:List Stmt) (t:TS):Prop:=
 ∀ (pins:List (Addr × Obj)) (s:Shared) (σ:St) (H:Hp) (D:Ends),Inv X pins σ H s->t D σ H->wpAny (model X.prog X.w) X.A (execs st X.env) (SP X pins D) X.xe s
theorem thn {α:Type} {t:Sem α} {Q Q':α->Shared->Prop} {M:Model} {A:Around} {E:Value->Shared->Prop} {s:Shared} (h:wpAny M A t Q E s) (hQ:∀ a s,Q a s->Q' a s):wpAny M A t Q' E s:=wpAny_mono h hQ fun _ _ x=>x
end L2
namespace L2
open PySem PySem.Spec PyProof.Rows
section
variable {X:Cx}
theorem bin {a b:Expr} {ta tb:TE} (ha:PE X a ta) (hb:PE X b tb) {pins:List (Addr × Obj)} {s:Shared} {σ:St} {H:Hp} {R:V->V->Hp->Prop} (I:Inv X pins σ H s) (h:ta σ H fun x H1=>tb σ H1 fun y H2=>R x y H2)
  {α:Type} {Q:α->Shared->Prop} {f:Value->Value->Sem α}
  (hf:∀ v u s2 x y H2,Inv X pins σ H2 s2->RelV x v->RelV y u->R x y H2->wpAny (model X.prog X.w) X.A (f v u) Q X.xe s2) :
  wpAny (model X.prog X.w) X.A (eval a X.env) (fun v s₁=>wpAny (model X.prog X.w) X.A (eval b X.env) (fun u s₂=>wpAny (model X.prog X.w) X.A (f v u) Q X.xe s₂) X.xe s₁) X.xe s:=by
 refine thn (ha pins s σ H _ I h) fun v s1 ⟨x,H1,I1,r1,q1⟩=>?_
 refine thn (hb pins s1 σ H1 _ I1 q1) fun u s2 ⟨y,H2,I2,r2,q2⟩=>?_
 exact hf v u s2 x y H2 I2 r1 r2 q2
def tVar (i:Nat):TE:=fun σ H Q=>∃ v,σ[i]? = some (some v)/\Q v H
def tC (v:V):TE:=fun _ H Q=>Q v H
theorem pe_var {i:Nat} {x:Str} {pos:Pos} (hN:X.N[i]? = some x) (hv:Vis X.env.scope x) (hd:(x == ("__debug__":Str)) = false:=by decide) (hcd:(x == ("__classdict__":Str)) = false:=by decide):PE X (.Name x pos) (tVar i):=by
 intro pins s σ H Q I h
 obtain ⟨v,e,h⟩:=h
 obtain ⟨m,hn,hl⟩:=I.loc
 obtain ⟨u,r,l⟩:=hl i x v hN e hv
 have fin:EP X pins σ Q u s:=⟨v,H,I,r,h⟩
 rcases l with ⟨hk,hm⟩ | ⟨hk,c,hc,hcell⟩
 ·exact wpAny_Name (wpAny_loadName_local I.ok.kind hk hn hm fin) hd
 ·rcases hk with hk | hk
  ·exact wpAny_Name (wpAny_loadName_cell I.ok.kind hk hc hcell fin) hd
  ·exact wpAny_Name (wpAny_loadName_free I.ok.kind hk hc hcell fin hcd) hd
theorem pe_int {i j pos}:PE X (.Constant (.int i) j pos) (tC (.int i)):=fun _ _ _ H _ I h=>wpAny_Constant_int ⟨.int i,H,I.tok _,⟨_,rfl⟩,h⟩
theorem pe_bl {b j pos}:PE X (.Constant (.bool b) j pos) (tC (.bl b)):=fun _ _ _ H _ I h=>Constant_bool ⟨.bl b,H,I,rfl,h⟩
theorem pe_non {j pos}:PE X (.Constant .none j pos) (tC .non):=fun _ _ _ H _ I h=>Constant_none ⟨.non,H,I,rfl,h⟩
theorem pe_str {x j pos}:PE X (.Constant (.str x) j pos) (tC (.str x)):=fun _ _ _ H _ I h=>Calls.Constant_str ⟨.str x,H,I.tok _,⟨_,rfl⟩,h⟩
def Gl (X:Cx) (x:Str):Prop:=X.env.kindOf x = some .globalImplicit
theorem ld_glob {E:Value->Shared->Prop} {pins:List (Addr × Obj)} {s:Shared} {σ:St} {H:Hp} {x:Str} {u:Value} {pos:Pos} {Q:Value->Shared->Prop} (I:Inv X pins σ H s) (hg:Gl X x) (hm:X.mg x = some u) (h:Q u s)
  (hd:(x == ("__debug__":Str)) = false:=by decide):wpAny (model X.prog X.w) X.A (eval (.Name x pos) X.env) Q E s:=
 Calls.Name_function_global I.ok.kind hg (Calls.loadGlobal_global (by rw [I.ok.glob];exact I.mod.glob.keeps I.bk) hm h) hd
theorem ld_blt {E:Value->Shared->Prop} {pins:List (Addr × Obj)} {s:Shared} {σ:St} {H:Hp} {x:Str} {u:Value} {pos:Pos} {Q:Value->Shared->Prop} (I:Inv X pins σ H s) (hg:Gl X x) (hm:X.mg x = none) (hv:bootBuiltins x = some u) (h:Q u s)
  (hn:x ≠ "__name__":=by decide) (hd:(x == ("__debug__":Str)) = false:=by decide):wpAny (model X.prog X.w) X.A (eval (.Name x pos) X.env) Q E s:=by
 obtain ⟨mb,h1,h2⟩:=I.mod.blt
 exact Calls.Name_function_global I.ok.kind hg (Calls.loadGlobal_builtin (by rw [I.ok.glob];exact I.mod.glob.keeps I.bk) hm (by rw [I.ok.blt];exact h1.keeps I.bk) ((h2 x hn).trans hv) h) hd
theorem pe_glob {x:Str} {v:V} {u:Value} {pos:Pos} (hg:Gl X x) (hm:X.mg x = some u) (r:RelV v u) (hd:(x == ("__debug__":Str)) = false:=by decide):PE X (.Name x pos) (tC v):=
 fun _ _ _ H _ I h=>ld_glob I hg hm ⟨v,H,I,r,h⟩ hd
theorem pe_bltn {x:Str} {v:V} {u:Value} {pos:Pos} (hg:Gl X x) (hm:X.mg x = none) (hv:bootBuiltins x = some u) (r:RelV v u) (hn:x ≠ "__name__":=by decide) (hd:(x == ("__debug__":Str)) = false:=by decide):PE X (.Name x pos) (tC v):=
 fun _ _ _ H _ I h=>ld_blt I hg hm hv ⟨v,H,I,r,h⟩ hn hd
def t2I (ta tb:TE) (k:Int->Int->Hp->Prop):St->Hp->Prop:=fun σ H=>ta σ H fun x H1=>tb σ H1 fun y H2=>∃ i j,x = .int i/\y = .int j/\k i j H2
def tAdd (ta tb:TE):TE:=fun σ H Q=>t2I ta tb (fun i j H2=>Q (.int (i + j)) H2) σ H
def tSub (ta tb:TE):TE:=fun σ H Q=>t2I ta tb (fun i j H2=>Q (.int (i - j)) H2) σ H
def tMul (ta tb:TE):TE:=fun σ H Q=>t2I ta tb (fun i j H2=>(-(2 ^ 64) < i/\i < 2 ^ 64)/\Q (.int (i * j)) H2) σ H
variable {a b:Expr} {ta tb:TE} {pos:Pos}
def PC (X:Cx) (op:CmpOp) (a b:Expr) (t:TE):Prop:=
 ∀ (pins:List (Addr × Obj)) (s:Shared) (σ:St) (H:Hp) (Q:VK),Inv X pins σ H s->t σ H Q →
  wpAny (model X.prog X.w) X.A (eval a X.env) (fun v s₁=>wpAny (model X.prog X.w) X.A (eval b X.env) (fun u s₂=>wpAny (model X.prog X.w) X.A (compareOp op v u) (EP X pins σ Q) X.xe s₂) X.xe s₁) X.xe s
def tCmp (p:Int->Int->Bool) (ta tb:TE):TE:=fun σ H Q=>t2I ta tb (fun i j H2=>Q (.bl (p i j)) H2) σ H
abbrev tLt:TE->TE->TE:=tCmp fun i j=>decide (i < j)
abbrev tLe:TE->TE->TE:=tCmp fun i j=>decide (i ≤ j)
abbrev tGt:TE->TE->TE:=tCmp fun i j=>decide (j < i)
abbrev tGe:TE->TE->TE:=tCmp fun i j=>decide (j ≤ i)
abbrev tEqI:TE->TE->TE:=tCmp fun i j=>decide (i = j)
abbrev tNeI:TE->TE->TE:=tCmp fun i j=>!decide (i = j)
def tIsN (ta:TE):TE:=fun σ H Q=>ta σ H fun x H1=>Q (.bl (decide (x = .non))) H1
def tNotN (ta:TE):TE:=fun σ H Q=>ta σ H fun x H1=>Q (.bl (!decide (x = .non))) H1
def tB (t:TE):TT:=fun σ H Q=>t σ H fun x H1=>∃ c,x = .bl c/\Q c H1
theorem pt_cmp {op:CmpOp} {t:TE} (h:PC X op a b t) (h1:behindInMarks op b = false:=by first | exact nobehind _ (by decide) (by decide) | rfl):PT X (.Compare a [op] [b] pos) (tB t):=by
 intro pins s σ H Q I hw
 refine wpAny_isTrue_Compare1 (thn (h pins s σ H _ I hw) fun v s1 h1=>thn h1 fun u s2 h2=>thn h2 fun c s3 ⟨x,H1,I1,r1,q1⟩=>?_) h1
 obtain ⟨d,rfl,q⟩:=q1
 cases r1
 exact wpAny_truthy_bool ⟨H1,I1,q⟩
theorem pt_val {e:Expr} {t:TE} (h:PE X e t) (he:∀ whole,isTrue e X.env whole = (do let v ← whole;standAt e.pos;holding [v] (truthy v)):=by intro _;rfl):PT X e (tB t):=by
 intro pins s σ H Q I hw
 refine isTrue_plain (thn (h pins s σ H _ I hw) fun v s1 ⟨x,H1,I1,r1,q1⟩=>?_) (he _)
 obtain ⟨d,rfl,q⟩:=q1
 cases r1
 exact wpAny_truthy_bool ⟨H1,I1,q⟩
variable {tA tB':TT} {rest:List Expr}
def tAnd (t u:TT):TT:=fun σ H Q=>t σ H fun c H1=>if c = true then u σ H1 Q else Q false H1
def tOr (t u:TT):TT:=fun σ H Q=>t σ H fun c H1=>if c = true then Q true H1 else u σ H1 Q
def tNot (t:TT):TT:=fun σ H Q=>t σ H fun c H1=>Q (!c) H1
theorem pw_and1 (ha:PT X a tA):PW X (.BoolOp .And [a] pos) tA:=by
 intro wh pins s σ H Q I h
 refine isTrue_and (thn (ha pins s σ H Q I h) fun c s1 e=>?_)
 cases c with
 | true=>exact isTrue_and_nil e
 | false=>exact e
theorem pw_or1 (ha:PT X a tA):PW X (.BoolOp .Or [a] pos) tA:=by
 intro wh pins s σ H Q I h
 refine isTrue_or (thn (ha pins s σ H Q I h) fun c s1 e=>?_)
 cases c with
 | false=>exact isTrue_or_nil e
 | true=>exact e
theorem pw_and (ha:PT X a tA) (hb:PW X (.BoolOp .And (b :: rest) pos) tB'):PW X (.BoolOp .And (a :: b :: rest) pos) (tAnd tA tB'):=by
 intro wh pins s σ H Q I h
 refine isTrue_and (thn (ha pins s σ H _ I h) fun c s1 ⟨H1,I1,q1⟩=>?_)
 cases c with
 | true=>exact hb wh pins s1 σ H1 Q I1 q1
 | false=>exact ⟨H1,I1,q1⟩
theorem pw_or (ha:PT X a tA) (hb:PW X (.BoolOp .Or (b :: rest) pos) tB'):PW X (.BoolOp .Or (a :: b :: rest) pos) (tOr tA tB'):=by
 intro wh pins s σ H Q I h
 refine isTrue_or (thn (ha pins s σ H _ I h) fun c s1 ⟨H1,I1,q1⟩=>?_)
 cases c with
 | true=>exact ⟨H1,I1,q1⟩
 | false=>exact hb wh pins s1 σ H1 Q I1 q1
theorem pt_not (ha:PT X a tA):PT X (.UnaryOp .Not a pos) (tNot tA):=by
 intro pins s σ H Q I h
 exact isTrue_not (ha pins s σ H (fun c H1=>Q (!c) H1) I h)
def tAndV (ta tb:TE):TE:=fun σ H Q=>ta σ H fun x H1=>∃ c,x = .bl c/\if c = true then tb σ H1 Q else Q (.bl false) H1
def tOrV (ta tb:TE):TE:=fun σ H Q=>ta σ H fun x H1=>∃ c,x = .bl c/\if c = true then Q (.bl true) H1 else tb σ H1 Q
def tNotV (ta:TE):TE:=fun σ H Q=>ta σ H fun x H1=>∃ c,x = .bl c/\Q (.bl (!c)) H1
theorem pe_one {op} {t:TE} (h:PE X a t):PE X (.BoolOp op [a] pos) t:=fun pins s σ H Q I hw=>BoolOp_one (h pins s σ H Q I hw)
theorem pe_and (ha:PE X a ta) (hb:PE X (.BoolOp .And (b :: rest) pos) tb):PE X (.BoolOp .And (a :: b :: rest) pos) (tAndV ta tb):=by
 intro pins s σ H Q I h
 refine BoolOp_and (thn (ha pins s σ H _ I h) fun v s1 ⟨x,H1,I1,r1,q1⟩=>?_)
 obtain ⟨c,rfl,q1⟩:=q1
 cases r1
 refine wpAny_truthy_bool ?_
 cases c with
 | true=>exact hb pins s1 σ H1 Q I1 q1
 | false=>exact ⟨.bl false,H1,I1,rfl,q1⟩
theorem pe_not (ha:PE X a ta):PE X (.UnaryOp .Not a pos) (tNotV ta):=by
 intro pins s σ H Q I h
 refine UnaryOp_ (thn (ha pins s σ H _ I h) fun v s1 ⟨x,H1,I1,r1,q1⟩=>?_)
 obtain ⟨c,rfl,q1⟩:=q1
 cases r1
 exact not_of (wpAny_truthy_bool ⟨.bl (!c),H1,I1,rfl,q1⟩)
def tIf (t:TT) (ta tb:TE):TE:=fun σ H Q=>t σ H fun c H1=>if c = true then ta σ H1 Q else tb σ H1 Q
theorem pe_ifExp {c:Expr} (hc:PT X c tA) (ha:PE X a ta) (hb:PE X b tb):PE X (.IfExp c a b pos) (tIf tA ta tb):=by
 intro pins s σ H Q I h
 refine wpAny_IfExp (thn (hc pins s σ H _ I h) fun d s1 ⟨H1,I1,q1⟩=>?_)
 cases d with
 | true=>exact ha pins s1 σ H1 Q I1 q1
 | false=>exact hb pins s1 σ H1 Q I1 q1
end
end L2
namespace L2
open PySem PySem.Spec PyProof.Rows
def SqL (K:PySem.W.Frag) (H:Hp) (a:Addr) (xs:List V):Prop:=
 Rd H a (.lst xs) ∨
  ∃ (o:Obj) (its:Array Value) (n:Nat),K.lookup a = some o/\o.cls = .type "list"/\o.dict = none/\o.data = .seq its n/\its.size ≤ sizeLine/\Vals xs its.toList
def SqT (K:PySem.W.Frag) (H:Hp) (a:Addr) (xs:List V):Prop:=
 Rd H a (.tup xs) ∨
  ∃ (o:Obj) (its:Array Value) (n:Nat),K.lookup a = some o/\o.cls = .type "tuple"/\o.data = .seq its n/\its.size ≤ sizeLine/\Vals xs its.toList
def absV:Value->Option V
 | .none=>some .non
 | .bool b=>some (.bl b)
 | .int i _=>some (.int i)
 | .str x _=>some (.str x)
 | .bytes b _=>some (.byt b)
 | .float b _=>some (.flt b)
 | .ref a=>some (.ref a)
 | .type n=>some (.ty n)
 | _=>none
theorem RelV.abs {x:V} {u:Value} (r:RelV x u):absV u = some x:=by
 cases x with
 | non=>cases r;rfl
 | bl _=>cases r;rfl
 | int _=>obtain ⟨t,rfl⟩:=r;rfl
 | str _=>obtain ⟨t,rfl⟩:=r;rfl
 | byt _=>obtain ⟨t,rfl⟩:=r;rfl
 | flt _=>obtain ⟨t,rfl⟩:=r;rfl
 | ref _=>cases r;rfl
 | ty _=>cases r;rfl
theorem RelV.inj {x y:V} {u:Value} (r:RelV x u) (q:RelV y u):x = y:=Option.some.inj (r.abs.symm.trans q.abs)
theorem Vals.inj:∀ {xs ys:List V} {us:List Value},Vals xs us->Vals ys us->xs = ys
 | _,_,_,.nil,.nil=>rfl
 | _,_,_,.cons r t,.cons r' t'=>by rw [r.inj r',Vals.inj t t']
section
variable {X:Cx} {pins:List (Addr × Obj)} {σ:St} {H:Hp} {s:Shared} {a:Addr} {xs ys:List V}
theorem SqL.of {K:PySem.W.Frag} (h:H a = some (.lst xs)):SqL K H a xs:=.inl (.inl h)
theorem SqT.of {K:PySem.W.Frag} (h:H a = some (.tup xs)):SqT K H a xs:=.inl (.inl h)
theorem Inv.list (I:Inv X pins σ H s) (h:SqL X.K H a xs):∃ its:List Value,Vals xs its/\PlainL s.heap a its.toArray/\xs.length ≤ sizeLine:=by
 rcases h with h | ⟨o,its,n,hk,hc,hd,hs,hz,r⟩
 ·obtain ⟨z,its,n,r,e⟩:=h.ok I.hok
  exact ⟨its,r,⟨_,n,e,rfl,rfl,rfl⟩,z⟩
 ·refine ⟨its.toList,r,⟨o,n,I.kIn a o hk,hc,hd,by simpa using hs⟩,?_⟩
  have e:=r.length
  simp only [Array.length_toList] at e
  omega
theorem Inv.tuple (I:Inv X pins σ H s) (h:SqT X.K H a xs):∃ its:List Value,Vals xs its/\IsTup s.heap a its.toArray/\xs.length ≤ sizeLine:=by
 rcases h with h | ⟨o,its,n,hk,hc,hs,hz,r⟩
 ·obtain ⟨z,its,r,p⟩:=h.ok I.hok
  exact ⟨its,r,p,z⟩
 ·refine ⟨its.toList,r,⟨o,I.kIn a o hk,hc,n,by simpa using hs⟩,?_⟩
  have e:=r.length
  simp only [Array.length_toList] at e
  omega
theorem Inv.list_inj (I:Inv X pins σ H s) (h:SqL X.K H a xs) (h':SqL X.K H a ys):xs = ys:=by
 obtain ⟨its,r,⟨o,n,e,_,_,d⟩,_⟩:=I.list h
 obtain ⟨its',r',⟨o',n',e',_,_,d'⟩,_⟩:=I.list h'
 rw [e] at e';cases e'
 rw [d] at d'
 injection d' with d1 _
 have:its = its':=by simpa using congrArg Array.toList d1
 subst this
 exact r.inj r'
theorem Inv.tuple_inj (I:Inv X pins σ H s) (h:SqT X.K H a xs) (h':SqT X.K H a ys):xs = ys:=by
 obtain ⟨its,r,⟨o,e,_,n,d⟩,_⟩:=I.tuple h
 obtain ⟨its',r',⟨o',e',_,n',d'⟩,_⟩:=I.tuple h'
 rw [e] at e';cases e'
 rw [d] at d'
 injection d' with d1 _
 have:its = its':=by simpa using congrArg Array.toList d1
 subst this
 exact r.inj r'
end
abbrev Cx.wish (X:Cx) (E:Value->Shared->Prop):Cx:={ X with xe:=E }
abbrev Cx.nox (X:Cx):Cx:=X.wish fun _ _=>False
theorem Cx.Ok.wish {X:Cx} (ok:X.Ok) (E:Value->Shared->Prop):(X.wish E).Ok:=
 ⟨ok.mod,ok.kind,ok.glob,ok.blt,ok.above,ok.inj,ok.has,ok.cab,ok.hd,ok.frames,ok.stk,ok.exf,ok.bs,ok.bsz,ok.noex,ok.exfs,ok.funs,ok.frf⟩
theorem Cx.Ok.unwish {X:Cx} {E:Value->Shared->Prop} (ok:(X.wish E).Ok):X.Ok:=
 ⟨ok.mod,ok.kind,ok.glob,ok.blt,ok.above,ok.inj,ok.has,ok.cab,ok.hd,ok.frames,ok.stk,ok.exf,ok.bs,ok.bsz,ok.noex,ok.exfs,ok.funs,ok.frf⟩
section
variable {X:Cx} {pins:List (Addr × Obj)} {σ:St} {H:Hp} {s:Shared} {E:Value->Shared->Prop}
theorem Inv.wish (I:Inv X pins σ H s) (E:Value->Shared->Prop):Inv (X.wish E) pins σ H s:=⟨I.ok.wish E,I.os,I.bare,I.base,I.loc,I.cell,I.free,I.freeC,I.pin,I.hok,I.len⟩
theorem Inv.unwish (I:Inv (X.wish E) pins σ H s):Inv X pins σ H s:=⟨I.ok.unwish,I.os,I.bare,I.base,I.loc,I.cell,I.free,I.freeC,I.pin,I.hok,I.len⟩
theorem SP.unwish {D:Ends} {f:Flow} {s':Shared} (h:SP (X.wish E) pins D f s'):SP X pins D f s':=by
 cases f with
 | next=>obtain ⟨σ',H',I,q⟩:=h;exact ⟨σ',H',I.unwish,q⟩
 | brk=>obtain ⟨σ',H',I,q⟩:=h;exact ⟨σ',H',I.unwish,q⟩
 | cont=>obtain ⟨σ',H',I,q⟩:=h;exact ⟨σ',H',I.unwish,q⟩
 | ret u=>obtain ⟨v,σ',H',I,r,q⟩:=h;exact ⟨v,σ',H',I.unwish,r,q⟩
theorem PE.nox {e:Expr} {t:TE} (h:PE X.nox e t):PE X e t:=fun pins s σ H Q I hw=>
 wpAny_mono (h pins s σ H Q (I.wish _) hw) (fun _ _ ⟨v,H',I',r,q⟩=>⟨v,H',I'.unwish,r,q⟩) fun _ _ z=>False.elim z
theorem PSs.nox {st:List Stmt} {t:TS} (h:PSs X.nox st t):PSs X st t:=fun pins s σ H D I hw=>
 wpAny_mono (h pins s σ H D (I.wish _) hw) (fun _ _ q=>q.unwish) fun _ _ z=>False.elim z
end
section
variable {X:Cx} {st:Stmt} {rest:List Stmt} {t u:TS} {e:Expr} {te:TE} {pos:Pos}
def tNext:TS:=fun D σ H=>D.nx σ H
def tSeq (t u:TS):TS:=fun D σ H=>t { D with nx:=u D } σ H
theorem pss_nil:PSs X [] tNext:=fun _ _ σ H _ I h=>wpAny_execs_nil ⟨σ,H,I,h⟩
theorem pss_cons (h1:PS X st t) (h2:PSs X rest u):PSs X (st :: rest) (tSeq t u):=by
 intro pins s σ H D I h
 refine wpAny_execs_cons (thn (h1 pins s σ H { D with nx:=u D } I h) fun f s1 q=>?_)
 cases f with
 | next=>
  obtain ⟨σ',H',I',q⟩:=q
  exact h2 pins s1 σ' H' D I' q
 | ret v=>exact q
 | brk=>exact q
 | cont=>exact q
theorem pss_one (h1:PS X st t):PSs X [st] t:=by
 intro pins s σ H D I h
 refine wpAny_execs_cons (thn (h1 pins s σ H D I h) fun f s1 q=>?_)
 cases f with
 | next=>exact wpAny_execs_nil q
 | ret v=>exact q
 | brk=>exact q
 | cont=>exact q
def tBreak:TS:=fun D σ H=>D.bk σ H
def tCont:TS:=fun D σ H=>D.ct σ H
theorem Inv.quiet {pins:List (Addr × Obj)} {σ:St} {H:Hp} {s:Shared} (I:Inv X pins σ H s):interactive X.env = false:=by simp [interactive,I.ok.kind]
def tDrop (te:TE):TS:=fun D σ H=>te σ H fun _ H1=>D.nx σ H1
theorem ps_expr (he:PE X e te) (hs:swapsWith e none pos.line X.env = pure false:=by rfl):PS X (.Expr e pos) (tDrop te):=by
 intro pins s σ H D I h
 exact wpAny_Expr_any (thn (he pins s σ H _ I h) fun v s1 ⟨x,H1,I1,r1,q1⟩=>⟨σ,H1,I1,q1⟩) I.quiet hs
def tRet (te:TE):TS:=fun D σ H=>te σ H D.rt
theorem ps_ret (he:PE X e te):PS X (.Return (some e) pos) (tRet te):=by
 intro pins s σ H D I h
 exact wpAny_Return_some (thn (he pins s σ H _ I h) fun v s1 ⟨x,H1,I1,r1,q1⟩=>⟨x,σ,H1,I1,r1,q1⟩)
def tRetN:TS:=fun D _ H=>D.rt .non H
def tIfS (c:TT) (t u:TS):TS:=fun D σ H=>c σ H fun b H1=>if b = true then t D σ H1 else u D σ H1
theorem ps_if {c:Expr} {a b:List Stmt} {tc:TT} (hc:PT X c tc) (ha:PSs X a t) (hb:PSs X b u):PS X (.If c a b pos) (tIfS tc t u):=by
 intro pins s σ H D I h
 refine wpAny_If (thn (hc pins s σ H _ I h) fun d s1 ⟨H1,I1,q1⟩=>?_)
 cases d with
 | true=>exact ha pins s1 σ H1 D I1 q1
 | false=>exact hb pins s1 σ H1 D I1 q1
def tNever:TS:=fun _ _ _=>False
theorem pss_never {sts:List Stmt}:PSs X sts tNever:=fun _ _ _ _ _ _ h=>h.elim
end
abbrev TG:=V->St->Hp->(St->Hp->Prop)->Prop
abbrev TGs:=List V->St->Hp->(St->Hp->Prop)->Prop
def PG (X:Cx) (target:Expr) (t:TG):Prop:=
 ∀ (pins:List (Addr × Obj)) (s:Shared) (σ:St) (H:Hp) (v:V) (u:Value) (Q:St->Hp->Prop),Inv X pins σ H s->RelV v u->t v σ H Q →
  wpAny (model X.prog X.w) X.A (assign target X.env u) (fun _ s'=>∃ σ' H',Inv X pins σ' H' s'/\Q σ' H') X.xe s
def PGs (X:Cx) (ts:List Expr) (t:TGs):Prop:=
 ∀ (pins:List (Addr × Obj)) (s:Shared) (σ:St) (H:Hp) (vs:List V) (us:List Value) (Q:St->Hp->Prop),Inv X pins σ H s->Vals vs us->t vs σ H Q →
  wpAny (model X.prog X.w) X.A (assignInOrder ((assignEach ts X.env).map (·.2)) us) (fun _ s'=>∃ σ' H',Inv X pins σ' H' s'/\Q σ' H') X.xe s
abbrev TSet:=V->V->V->Hp->(Hp->Prop)->Prop
def PSet (X:Cx) (t:TSet):Prop:=
 ∀ (pins:List (Addr × Obj)) (s:Shared) (σ:St) (H:Hp) (o i v:V) (ov iv u:Value) (Q:Hp->Prop),Inv X pins σ H s->RelV o ov->RelV i iv->RelV v u->t o i v H Q →
  wpAny (model X.prog X.w) X.A (setItem ov iv u) (fun _ s'=>∃ H',Inv X pins σ H' s'/\Q H') X.xe s
abbrev TIp:=V->V->Hp->VK->Prop
def PIp (X:Cx) (op:Operator) (t:TIp):Prop:=
 ∀ (pins:List (Addr × Obj)) (s:Shared) (σ:St) (H:Hp) (x y:V) (v u:Value) (Q:VK),Inv X pins σ H s->RelV x v->RelV y u->t x y H Q →
  wpAny (model X.prog X.w) X.A (inplaceOp op v u) (EP X pins σ Q) X.xe s
section
variable {X:Cx} {pos:Pos}
def gName (i:Nat):TG:=fun v σ H Q=>Q (σ.set i (some v)) H
theorem pg_name {i:Nat} {x:Str} (hN:X.N.Nodup) (hi:X.N[i]? = some x) (hx:Loc X.env.scope x) (hf:X.fn x = true\/X.env.scope.names.lookup x = some .local:=by first | exact .inl rfl | exact .inr rfl | assumption):PG X (.Name x pos) (gName i):=by
 intro pins s σ H v u Q I r h
 exact wpAny_assign_Name (store_ok I hN hi hx r (fun s' I'=>⟨_,H,I',h⟩) hf)
def gNil:TGs:=fun vs σ H Q=>vs = []/\Q σ H
def gCons (t:TG) (u:TGs):TGs:=fun vs σ H Q=>∃ v r,vs = v :: r/\t v σ H fun σ' H'=>u r σ' H' Q
theorem pgs_nil:PGs X [] gNil:=by
 intro pins s σ H vs us Q I r h
 obtain ⟨e,h⟩:=h
 subst e
 cases r
 exact assignInOrder_nil ⟨σ,H,I,h⟩
theorem pgs_cons {e:Expr} {es:List Expr} {t:TG} {u:TGs} (h1:PG X e t) (h2:PGs X es u)
  (hs:(assignEach (e :: es) X.env).map (·.2) = assign e X.env :: (assignEach es X.env).map (·.2):=by rfl):PGs X (e :: es) (gCons t u):=by
 intro pins s σ H vs us Q I r h
 obtain ⟨v,vr,e1,h⟩:=h
 subst e1
 cases r with
 | cons r rr=>
  rw [hs]
  refine assignInOrder_cons (thn (h1 pins s σ H _ _ _ I r h) fun _ s1 ⟨σ1,H1,I1,q1⟩=>?_)
  exact h2 pins s1 σ1 H1 _ _ Q I1 rr q1
def gTup (K:PySem.W.Frag) (n:Nat) (t:TGs):TG:=fun v σ H Q=>∃ a xs,v = .ref a/\SqT K H a xs/\xs.length = n/\t xs σ H Q
theorem pg_tup {es:List Expr} {k:Nat} {t:TGs} {n:Nat} (hc:X.calm = true) (h:PGs X es t)
  (hn:(assignEach es X.env).length = n:=by rfl) (hst:(assignEach es X.env).findIdx? (·.1) = none:=by rfl):PG X (.Tuple es k pos) (gTup X.K n t):=by
 intro pins s σ H v u Q I r hw
 obtain ⟨a,xs,e1,hq,hl,hw⟩:=hw
 subst e1
 cases r
 obtain ⟨its,rv,ht,hz⟩:=I.tuple hq
 refine assign_Tuple_tuple (I.ok.hd hc) ht (by simp [hn,← hl,rv.length]) hst fun h' hx=>?_
 have I1:Inv X pins σ H { s with heap:=h' }:=I.kept (t':=s.toks) fun b o e=>hx b o (Nat.ne_of_lt (Heap.lt_size e)) e
 exact h pins _ σ H xs _ Q I1 (by simpa using rv) hw
def gSub (to ti:TE) (t:TSet):TG:=fun v σ H Q=>to σ H fun o H1=>ti σ H1 fun i H2=>t o i v H2 fun H3=>Q σ H3
def tAsg (te:TE) (g:TG):TS:=fun D σ H=>te σ H fun x H1=>g x σ H1 D.nx
theorem ps_set {i:Nat} {x:Str} {e:Expr} {te:TE} {pos':Pos} (hN:X.N.Nodup) (hi:X.N[i]? = some x) (hx:Loc X.env.scope x) (he:PE X e te) (hs:swapsWith e (some (.Name x pos')) pos.line X.env = pure false:=by rfl) (hf:X.fn x = true\/X.env.scope.names.lookup x = some .local:=by first | exact .inl rfl | exact .inr rfl | assumption) :
  PS X (.Assign [.Name x pos'] e pos) (tAsg te (gName i)):=by
 intro pins s σ H D I h
 refine wpAny_Assign_Name (thn (he pins s σ H _ I h) fun v s1 ⟨y,H1,I1,r1,q1⟩=>?_) hs
 exact store_ok I1 hN hi hx r1 (fun s2 I2=>⟨_,H1,I2,q1⟩) hf
def tPar (i j:Nat) (ta:TA):TS:=fun D σ H=>ta σ H fun vs H1=>∃ v w,vs = [v,w]/\D.nx ((σ.set i (some v)).set j (some w)) H1
def tAug (i:Nat) (te:TE) (ti:TIp):TS:=fun D σ H=>∃ x,σ[i]? = some (some x)/\te σ H fun y H1=>ti x y H1 fun z H2=>D.nx (σ.set i (some z)) H2
def tAugS (to ti te:TE) (tget:V->V->Hp->VK->Prop) (tip:TIp) (tset:TSet):TS:=fun D σ H=>to σ H fun o H1=>ti σ H1 fun i H2=>tget o i H2 fun x H3=>te σ H3 fun y H4=>tip x y H4 fun z H5=>tset o i z H5 fun H6=>D.nx σ H6
def PGet (X:Cx) (t:V->V->Hp->VK->Prop):Prop:=
 ∀ (pins:List (Addr × Obj)) (s:Shared) (σ:St) (H:Hp) (o i:V) (ov iv:Value) (Q:VK),Inv X pins σ H s->RelV o ov->RelV i iv->t o i H Q →
  wpAny (model X.prog X.w) X.A (getItem ov iv) (EP X pins σ Q) X.xe s
def ipI (f:Int->Int->Int):TIp:=fun x y H Q=>∃ i j,x = .int i/\y = .int j/\Q (.int (f i j)) H
end
section
variable {X:Cx} {pos:Pos}
def tWhile (c:TT) (tb:TS):TS:=fun D σ H=>∃ W:Nat->St->Hp->Prop,(∃ m,W m σ H)/\∀ m σ H,W m σ H →
 c σ H fun b H1=>if b = true then ∃ N:St->Hp->Prop,(∀ σ' H',N σ' H'->∃ m',m' < m/\W m' σ' H')/\tb { D with nx:=N,ct:=N,bk:=D.nx } σ H1 else D.nx σ H1
end
structure It where
 go:Nat->Hp->Prop
 yld:Nat->Hp->V->Hp->Prop
 stop:Nat->Hp->Prop
def FpOk (X:Cx) (pins:List (Addr × Obj)) (H:Hp) (b:Addr):Prop:=
 H b = none/\b ≠ X.env.locals/\b ∉ X.fs/\(b ∈ X.ex\/X.s₀.heap.objs.size ≤ b)/\(∀ x c,X.env.cells.lookup x = some c->c ≠ b)/\∀ p ∈ X.pn ++ pins,p.1 ≠ b
theorem Inv.fpOk {X:Cx} {pins:List (Addr × Obj)} {σ:St} {H H':Hp} {s:Shared} {b:Addr} (I:Inv X pins σ H s) (hb:s.heap.objs.size ≤ b) (hn:H' b = none):FpOk X pins H' b:=by
 refine ⟨hn,Nat.ne_of_gt (Nat.lt_of_lt_of_le I.lt hb),I.nofs hb,.inr (Nat.le_trans I.sz hb),fun x c e z=>?_,fun p hp z=>?_⟩
 ·obtain ⟨v,q⟩:=I.cell x c e
  exact absurd (Nat.lt_of_lt_of_le q.lt (by rw [z];exact hb)) (Nat.lt_irrefl _)
 ·exact absurd (Nat.lt_of_lt_of_le (Heap.lt_size (I.pin p hp).1) (by rw [z];exact hb)) (Nat.lt_irrefl _)
structure Turn (P:Program) (w:World) (K:PySem.W.Frag) (tg:Expr) (J:It) (fp:List Addr) (it:Addr) (tn:Nat->Heap->Prop):Prop where
 mem:it ∈ fp
 obj:∀ i h,tn i h->∀ b ∈ fp,∃ o,h.get? b = some o/\∀ v,o.data ≠ .cell v
 keep:∀ i h h',tn i h->(∀ b ∈ fp,∀ o,h.get? b = some o->h'.get? b = some o)->tn i h'
 item:∀ (X:Cx),X.prog = P->X.w = w->X.K = K->X.calm = true->∀ (i:Nat) (pins:List (Addr × Obj)) (s:Shared) (σ:St) (H:Hp) (E:Value->Shared->Prop),Inv X pins σ H s->(∀ b ∈ fp,FpOk X pins H b)->tn i s.heap->J.go i H →
  wpAny (model P w) X.A (pyNext (.ref it)) (fun r s1=>∃ u,r = some u ∧
   wpAny (model P w) X.A (letOwnedTupleGo tg (.ref it) u) (fun _ s2=>∃ x H',Inv X pins σ H' s2/\RelV x u/\J.yld i H x H'/\tn (i + 1) s2.heap/\∀ b ∈ fp,H' b = none) E s1) E s
 done:∀ (X:Cx),X.prog = P->X.w = w->X.K = K->X.calm = true->∀ (i:Nat) (pins:List (Addr × Obj)) (s:Shared) (σ:St) (H:Hp) (E:Value->Shared->Prop),Inv X pins σ H s->(∀ b ∈ fp,FpOk X pins H b)->tn i s.heap->J.stop i H →
  wpAny (model P w) X.A (pyNext (.ref it)) (fun r s1=>r = none/\Inv X pins σ H s1) E s
 self:∀ (A:Around) (i:Nat) (s:Shared) (Q:Value->Shared->Prop) (E:Value->Shared->Prop),tn i s.heap->Q (.ref it) s->wpAny (model P w) A (pyIter (.ref it)) Q E s
abbrev TI:=St->Hp->(It->Hp->Prop)->Prop
def PIE (X:Cx) (pins:List (Addr × Obj)) (σ:St) (tg:Expr) (R:It->Hp->Prop) (itv:Value) (s2:Shared):Prop:=
 ∃ (it:Addr) (fp:List Addr) (tn:Nat->Heap->Prop) (J:It) (H':Hp),itv = .ref it/\Inv X pins σ H' s2/\Turn X.prog X.w X.K tg J fp it tn/\tn 0 s2.heap/\(∀ b ∈ fp,FpOk X pins H' b)/\R J H'
def PI (X:Cx) (tg iter:Expr) (wi:TI):Prop:=
 ∀ (pins:List (Addr × Obj)) (s:Shared) (σ:St) (H:Hp) (R:It->Hp->Prop),Inv X pins σ H s->wi σ H R →
  wpAny (model X.prog X.w) X.A (eval iter X.env) (fun v s1=>wpAny (model X.prog X.w) X.A (pyIter v) (PIE X pins σ tg R) X.xe s1) X.xe s
theorem go_of {M:Model} {A:Around} {E:Value->Shared->Prop} {s:Shared} {tg:Expr} {it:Addr} {u:Value} {o:Obj} {n:String} {vs:Array Value} {Q:Unit->Shared->Prop} (ho:s.heap.get? it = some o) (hc:o.cls = .type n) (hd:o.data = .fields vs)
  (hn:["enumerate","zip","dict_itemiterator","dict_reverseitemiterator","odict_iterator","itertools.zip_longest","itertools.pairwise"].contains n = false) (hQ:Q () s):wpAny M A (letOwnedTupleGo tg (.ref it) u) Q E s:=by
 unfold letOwnedTupleGo
 cases tg <;> first
  | exact wpAny_pure hQ
  | (cases u <;> first
    | exact wpAny_pure hQ
    | (refine wpAny_bind (wpAny_load ho ?_)
       rw [hc,hd]
       show wpAny M A (if (["enumerate","zip","dict_itemiterator","dict_reverseitemiterator","odict_iterator","itertools.zip_longest","itertools.pairwise"].contains n && vs[0]? == some (rawInt _)) = true then _ else _) Q E s
       rw [if_neg (by intro h;rw [hn,Bool.false_and] at h;cases h)]
       exact wpAny_pure hQ))
def Itl (K:PySem.W.Frag) (a:Addr):It:=
 ⟨fun i H=>∃ xs x,SqL K H a xs/\xs[i]? = some x,fun i H x H'=>H' = H/\∀ xs,SqL K H a xs->xs[i]? = some x,fun i H=>∃ xs,SqL K H a xs/\xs.length ≤ i⟩
def Itt (K:PySem.W.Frag) (a:Addr):It:=
 ⟨fun i H=>∃ xs x,SqT K H a xs/\xs[i]? = some x,fun i H x H'=>H' = H/\∀ xs,SqT K H a xs->xs[i]? = some x,fun i H=>∃ xs,SqT K H a xs/\xs.length ≤ i⟩
def Itr (lo:Int) (n:Nat):It:=⟨fun i _=>i < n,fun i H x H'=>H' = H/\x = .int (lo + i),fun i _=>n ≤ i⟩
theorem turn_list {P:Program} {w:World} {K:PySem.W.Frag} {tg:Expr} (a it:Addr):Turn P w K tg (Itl K a) [it] it (fun i h=>h.IsListIter it a i) where
 mem:=by simp
 obj:=fun i h st b hb=>by
  have e:b = it:=by simpa using hb
  subst e
  obtain ⟨o,e,c,d⟩:=st
  exact ⟨o,e,fun v z=>by rw [d] at z;cases z⟩
 keep:=fun i h h' st k=>st.at fun o e=>k it (by simp) o e
 item:=by
  intro X hP hw hK hc i pins s σ H E I hf st hg
  subst hP hw hK
  obtain ⟨xs,x,hq,hx⟩:=hg
  obtain ⟨its,rv,p,hz⟩:=I.list hq
  obtain ⟨u,hu,ru⟩:=rv.get hx
  obtain ⟨f0,f1,f2,f3,f4,f5⟩:=hf it (by simp)
  refine wpAny_pyNext_list_item st p.isList (x:=u) (by simpa using hu) fun h' st' sb=>?_
  have I1:Inv X pins σ H { s with heap:=h' }:=I.turned (t':=s.toks) (fun b o hb e=>(sb.2 b hb).trans e) f0 f1 f3 f4 f5
  obtain ⟨o,e,c,d⟩:=id st'
  exact ⟨u,rfl,go_of (s:={ s with heap:=h' }) e c d (by decide) ⟨x,H,I1,ru,⟨rfl,fun ys hy=>by rw [I.list_inj hy hq];exact hx⟩,st',fun b hb=>(hf b hb).1⟩⟩
 done:=by
  intro X hP hw hK hc i pins s σ H E I hf st hg
  subst hP hw hK
  obtain ⟨xs,hq,hx⟩:=hg
  obtain ⟨its,rv,p,hz⟩:=I.list hq
  obtain ⟨f0,f1,f2,f3,f4,f5⟩:=hf it (by simp)
  have hl:=rv.length
  exact wpAny_pyNext_list_end (I.ok.hd hc) st p.isList (by simp;omega) fun h' eb=>⟨rfl,I.turned (t':=s.toks) (fun b o hb e=>eb b o hb e) f0 f1 f3 f4 f5⟩
 self:=fun _ _ _ _ _ st h=>wpAny_pyIter_listiter st h
theorem turn_tuple {P:Program} {w:World} {K:PySem.W.Frag} {tg:Expr} (a it:Addr):Turn P w K tg (Itt K a) [it] it (fun i h=>h.IsTupleIter it a i) where
 mem:=by simp
 obj:=fun i h st b hb=>by
  have e:b = it:=by simpa using hb
  subst e
  obtain ⟨o,e,c,d⟩:=st
  exact ⟨o,e,fun v z=>by rw [d] at z;cases z⟩
 keep:=fun i h h' st k=>st.at fun o e=>k it (by simp) o e
 item:=by
  intro X hP hw hK hc i pins s σ H E I hf st hg
  subst hP hw hK
  obtain ⟨xs,x,hq,hx⟩:=hg
  obtain ⟨its,rv,p,hz⟩:=I.tuple hq
  obtain ⟨u,hu,ru⟩:=rv.get hx
  obtain ⟨f0,f1,f2,f3,f4,f5⟩:=hf it (by simp)
  refine wpAny_pyNext_tuple_item st (show s.heap.IsTuple a its.toArray from p) (x:=u) (by simpa using hu) fun h' st' sb=>?_
  have I1:Inv X pins σ H { s with heap:=h' }:=I.turned (t':=s.toks) (fun b o hb e=>(sb.2 b hb).trans e) f0 f1 f3 f4 f5
  obtain ⟨o,e,c,d⟩:=id st'
  exact ⟨u,rfl,go_of (s:={ s with heap:=h' }) e c d (by decide) ⟨x,H,I1,ru,⟨rfl,fun ys hy=>by rw [I.tuple_inj hy hq];exact hx⟩,st',fun b hb=>(hf b hb).1⟩⟩
 done:=by
  intro X hP hw hK hc i pins s σ H E I hf st hg
  subst hP hw hK
  obtain ⟨xs,hq,hx⟩:=hg
  obtain ⟨its,rv,p,hz⟩:=I.tuple hq
  obtain ⟨f0,f1,f2,f3,f4,f5⟩:=hf it (by simp)
  have hl:=rv.length
  exact wpAny_pyNext_tuple_end (I.ok.hd hc) st (show s.heap.IsTuple a its.toArray from p) (by simp;omega) fun h' eb=>⟨rfl,I.turned (t':=s.toks) (fun b o hb e=>eb b o hb e) f0 f1 f3 f4 f5⟩
 self:=fun _ _ _ _ _ st h=>wpAny_pyIter_tupleiter st h
theorem turn_range {P:Program} {w:World} {K:PySem.W.Frag} {tg:Expr} (it:Addr) (lo:Int) (n:Nat):Turn P w K tg (Itr lo n) [it] it (fun i h=>IsRangeIter h it (lo + (i:Nat) * 1) ((n:Int) - (i:Nat)) 1) where
 mem:=by simp
 obj:=fun i h st b hb=>by
  have e:b = it:=by simpa using hb
  subst e
  exact ⟨_,st,fun v z=>by
   have z':Data.fields _ = Data.cell v:=z
   cases z'⟩
 keep:=fun i h h' st k=>k it (by simp) _ st
 item:=by
  intro X hP hw hK hc i pins s σ H E I hf st hg
  subst hP hw hK
  obtain ⟨f0,f1,f2,f3,f4,f5⟩:=hf it (by simp)
  have W:=Walks.range (prog:=X.prog) (w:=X.w) (I.ok.hd hc) it lo 1 n
  refine W.item i s _ _ hg st fun v h' tk hv st' kk=>?_
  obtain ⟨t,rfl⟩:=hv
  have I1:Inv X pins σ H { s with heap:=h',toks:=tk }:=I.turned (fun b o hb e=>kk b o (by simpa using hb) e) f0 f1 f3 f4 f5
  refine ⟨_,rfl,go_of (s:={ s with heap:=h',toks:=tk }) (n:="range_iterator") st' rfl rfl (by decide) ⟨.int (lo + i),H,I1,⟨t,?_⟩,⟨rfl,rfl⟩,st',fun b hb=>(hf b hb).1⟩⟩
  rw [Int.mul_one]
 done:=by
  intro X hP hw hK hc i pins s σ H E I hf st hg
  subst hP hw hK
  obtain ⟨f0,f1,f2,f3,f4,f5⟩:=hf it (by simp)
  exact wpAny_pyNext_range_end (I.ok.hd hc) st (by have:n ≤ i:=hg;omega) fun h' eb=>⟨rfl,I.turned (t':=s.toks) (fun b o hb e=>eb b o hb e) f0 f1 f3 f4 f5⟩
 self:=fun _ _ _ _ _ st h=>wpAny_pyIter_rangeiter st h
end L2
namespace L2
open PySem PySem.Spec PyProof.Rows
section
variable {X:Cx} {tg:Expr}
def iList (K:PySem.W.Frag) (tl:TE):TI:=fun σ H R=>tl σ H fun x H1=>∃ a,x = .ref a/\(∃ xs,SqL K H1 a xs)/\R (Itl K a) H1
def iTup (K:PySem.W.Frag) (tl:TE):TI:=fun σ H R=>tl σ H fun x H1=>∃ a,x = .ref a/\(∃ xs,SqT K H1 a xs)/\R (Itt K a) H1
theorem pi_list {l:Expr} {tl:TE} (hl:PE X l tl):PI X tg l (iList X.K tl):=by
 intro pins s σ H R I h
 refine thn (hl pins s σ H _ I h) fun v s1 ⟨x,H1,I1,r1,q1⟩=>?_
 obtain ⟨a,e,⟨xs,hq⟩,q⟩:=q1
 subst e
 cases r1
 obtain ⟨its,rv,p,hz⟩:=I1.list hq
 refine wpAny_pyIter_list p.isList ?_
 refine ⟨s1.heap.objs.size,[s1.heap.objs.size],_,_,H1,rfl,I1.kept (t':=s1.toks) fun b o e=>Heap.get?_push_of_some _ e,turn_list a _,⟨_,Heap.get?_push_size _ rfl,rfl,rfl⟩,fun b hb=>?_,q⟩
 have e:b = s1.heap.objs.size:=by simpa using hb
 subst e
 exact I1.fpOk (Nat.le_refl _) (I1.hok.fresh (Nat.le_refl _))
theorem pi_tup {l:Expr} {tl:TE} (hl:PE X l tl):PI X tg l (iTup X.K tl):=by
 intro pins s σ H R I h
 refine thn (hl pins s σ H _ I h) fun v s1 ⟨x,H1,I1,r1,q1⟩=>?_
 obtain ⟨a,e,⟨xs,hq⟩,q⟩:=q1
 subst e
 cases r1
 obtain ⟨its,rv,p,hz⟩:=I1.tuple hq
 refine wpAny_pyIter_tuple (show s1.heap.IsTuple a its.toArray from p) ?_
 refine ⟨s1.heap.objs.size,[s1.heap.objs.size],_,_,H1,rfl,I1.kept (t':=s1.toks) fun b o e=>Heap.get?_push_of_some _ e,turn_tuple a _,⟨_,Heap.get?_push_size _ rfl,rfl,rfl⟩,fun b hb=>?_,q⟩
 have e:b = s1.heap.objs.size:=by simpa using hb
 subst e
 exact I1.fpOk (Nat.le_refl _) (I1.hok.fresh (Nat.le_refl _))
theorem range_it {pins:List (Addr × Obj)} {σ:St} {H:Hp} {s:Shared} {R:It->Hp->Prop} {E:Value->Shared->Prop} {lo hi:Int} {t u v:Tok} {tk:Nat} (I:Inv X pins σ H s) (h1:-(2 ^ 62) ≤ lo) (h2:lo < 2 ^ 62) (h3:-(2 ^ 62) ≤ hi) (h4:hi < 2 ^ 62)
  (q:R (Itr lo (hi - lo).toNat) H):wpAny (model X.prog X.w) X.A (pyIter (.ref s.heap.objs.size)) (PIE X pins σ tg R) E { s with heap:=s.heap.push { cls:=.type "range",data:=.fields #[.int lo t,.int hi u,.int 1 v] },toks:=tk }:=by
 refine wpAny_pyIter_range (IsRange.new ..) (small_one h1 h2 h3 h4) ?_
 have I1:Inv X pins σ H { s with heap:=s.heap.push { cls:=.type "range",data:=.fields #[.int lo t,.int hi u,.int 1 v] },toks:=tk }:=I.kept fun b o e=>Heap.get?_push_of_some _ e
 refine ⟨(s.heap.push { cls:=.type "range",data:=.fields #[.int lo t,.int hi u,.int 1 v] }).objs.size,[(s.heap.push { cls:=.type "range",data:=.fields #[.int lo t,.int hi u,.int 1 v] }).objs.size],_,_,H,rfl,
  I1.kept (t':=tk) fun b o e=>Heap.get?_push_of_some _ e,turn_range _ lo (hi - lo).toNat,?_,fun b hb=>?_,q⟩
 ·have e1:lo + ((0:Nat):Int) * 1 = lo:=by simp
  have e2:(((hi - lo).toNat:Nat):Int) - ((0:Nat):Int) = Builtin.Range.rangeSize lo hi 1:=by rw [rangeSize_one];split <;> omega
  show IsRangeIter _ _ (lo + ((0:Nat):Int) * 1) ((((hi - lo).toNat:Nat):Int) - ((0:Nat):Int)) 1
  rw [e1,e2]
  exact Heap.get?_push_size _ rfl
 ·have e:b = (s.heap.push { cls:=.type "range",data:=.fields #[.int lo t,.int hi u,.int 1 v] }).objs.size:=by simpa using hb
  subst e
  exact I1.fpOk (Nat.le_refl _) (I1.hok.fresh (Nat.le_refl _))
def iRng1 (ta:TA):TI:=fun σ H R=>ta σ H fun vs H1=>∃ j:Int,vs = [.int j]/\-(2 ^ 62) ≤ j/\j < 2 ^ 62/\R (Itr 0 j.toNat) H1
def iRng2 (ta:TA):TI:=fun σ H R=>ta σ H fun vs H1=>∃ i j:Int,vs = [.int i,.int j]/\(-(2 ^ 62) ≤ i/\i < 2 ^ 62/\-(2 ^ 62) ≤ j/\j < 2 ^ 62)/\R (Itr i (j - i).toNat) H1
theorem pi_range1 {a:Expr} {ta:TA} {p pos:Pos} (hg:Gl X "range") (hm:X.mg "range" = none) (ha:PA X [a] ta) (hs:starEach [a] X.env = [(false,eval a X.env)]:=by rfl):PI X tg (.Call (.Name "range" p) [a] [] pos) (iRng1 ta):=by
 intro pins s σ H R I h
 refine Call_ (ld_blt I hg hm boot_range (PyProof.Rows.callWith_type1 (thn (ha pos pins s σ H _ I h) fun us s1 ⟨vs,H1,I1,r1,q1⟩=>?_) hs rfl))
 obtain ⟨j,e,q1,q2,q⟩:=q1
 subst e
 cases r1 with
 | cons r rr=>
  cases rr
  obtain ⟨t,rfl⟩:=r
  exact call_range_1 (range_it I1 (by omega) (by omega) q1 q2 (by simpa using q))
def tFor (wi:TI) (g:TG) (tb:TS):TS:=fun D σ H=>wi σ H fun J H1=>∃ W:Nat->Nat->St->Hp->Prop,(∃ m,W 0 m σ H1)/\∀ i m σ H,W i m σ H →
 (J.stop i H/\D.nx σ H)\/(J.go i H/\∃ N:St->Hp->Prop,(∀ σ' H',N σ' H'->∃ m',m' < m/\W (i + 1) m' σ' H')/\∀ x H',J.yld i H x H'->g x σ H' fun σ2 H2=>tb { D with nx:=N,ct:=N,bk:=D.nx } σ2 H2)
def pinsAt (fp:List Addr) (h:Heap):List (Addr × Obj):=fp.filterMap fun b=>(h.get? b).map fun o=>(b,o)
theorem mem_pinsAt {fp:List Addr} {h:Heap} {b:Addr} {o:Obj} (hb:b ∈ fp) (e:h.get? b = some o):(b,o) ∈ pinsAt fp h:=List.mem_filterMap.mpr ⟨b,hb,by rw [e];rfl⟩
theorem of_pinsAt {fp:List Addr} {h:Heap} {p:Addr × Obj} (hp:p ∈ pinsAt fp h):p.1 ∈ fp/\h.get? p.1 = some p.2:=by
 obtain ⟨b,hb,e⟩:=List.mem_filterMap.mp hp
 cases q:h.get? b with
 | none=>rw [q] at e;cases e
 | some o=>
  rw [q] at e
  have e':(b,o) = p:=Option.some.inj e
  subst e'
  exact ⟨hb,q⟩
theorem Inv.pinned {pins:List (Addr × Obj)} {σ:St} {H:Hp} {s:Shared} {fp:List Addr} (I:Inv X pins σ H s) (hf:∀ b ∈ fp,FpOk X pins H b) (ho:∀ b ∈ fp,∃ o,s.heap.get? b = some o/\∀ v,o.data ≠ .cell v):Inv X (pins ++ pinsAt fp s.heap) σ H s:=
 I.pins_of fun p hp=>(List.mem_append.mp hp).elim (fun z=>I.pin p (List.mem_append_right _ z)) fun z=>by
  obtain ⟨hb,e⟩:=of_pinsAt z
  obtain ⟨f0,f1,f2,_⟩:=hf p.1 hb
  obtain ⟨o,e',d⟩:=ho p.1 hb
  rw [e] at e';cases e'
  exact ⟨e,f0,f1,f2,d⟩
theorem Inv.unpinned {pins pl:List (Addr × Obj)} {σ:St} {H:Hp} {s:Shared} (I:Inv X (pins ++ pl) σ H s):Inv X pins σ H s:=I.pins_of fun p hp=>I.pin p (List.mem_append_right _ (List.mem_append_left _ hp))
theorem ps_for {iter:Expr} {body:List Stmt} {wi:TI} {g:TG} {tb:TS} {pos:Pos} (hp:PassesOwn (model X.prog X.w) X.A X.env X.xe) (hc:X.calm = true) (hi:PI X tg iter wi) (hg:PG X tg g) (hb:PSs X body tb)
  (hs:∀ x,foldedSetIterable iter X.env x = pure x:=by intro _;rfl):PS X (.For tg iter body [] pos) (tFor wi g tb):=by
 intro pins s σ H D I h
 refine wpAny_For (thn (hi pins s σ H _ I h) fun v s1 h1=>thn h1 fun itv s2 h2=>?_) hs
 obtain ⟨it,fp,tn,J,H2,e,I2,T,st2,f2,W,⟨m0,w0⟩,turn⟩:=h2
 subst e
 have stat:∀ {H':Hp},(∀ b ∈ fp,H' b = none)->∀ b ∈ fp,FpOk X pins H' b:=fun hn b hb=>⟨hn b hb,(f2 b hb).2⟩
 refine codeAny_forLoop_any (fun n s'=>∃ i σ' H',Inv X pins σ' H' s'/\tn i s'.heap/\(∀ b ∈ fp,H' b = none)/\W i n σ' H') ?_ m0 ⟨0,σ,H2,I2,st2,fun b hb=>(f2 b hb).1,w0⟩
 rintro n s3 ⟨i,σ3,H3,I3,st3,fr3,w3⟩
 rcases turn i n σ3 H3 w3 with ⟨stop,qn⟩ | ⟨go,N,hN,step⟩
 ·refine wpAny_passesOwn hp (thn (T.done X rfl rfl rfl hc i pins s3 σ3 H3 X.xe I3 (stat fr3) st3 stop) fun r s4 ⟨hr,I4⟩=>?_)
  subst hr
  exact wpAny_execs_nil ⟨σ3,H3,I4,qn⟩
 ·refine wpAny_passesOwn hp (thn (T.item X rfl rfl rfl hc i pins s3 σ3 H3 X.xe I3 (stat fr3) st3 go) fun r s4 ⟨u,hr,h4⟩=>?_)
  subst hr
  refine wpAny_passesOwn hp (thn h4 fun _ s5 ⟨x,H5,I5,r5,y5,st5,fr5⟩=>?_)
  have I5':=I5.pinned (stat fr5) (T.obj _ _ st5)
  refine wpAny_passesOwn hp (thn (hg _ s5 σ3 H5 x u _ I5' r5 (step x H5 y5)) fun _ s6 ⟨σ6,H6,I6,q6⟩=>?_)
  refine wpAny_passesOwn hp (thn (hb _ s6 σ6 H6 _ I6 q6) fun f s7 q7=>?_)
  have again:∀ {σ7:St} {H7:Hp},Inv X (pins ++ pinsAt fp s5.heap) σ7 H7 s7->N σ7 H7->∃ m,m < n/\∃ i σ' H',Inv X pins σ' H' s7/\tn i s7.heap/\(∀ b ∈ fp,H' b = none)/\W i m σ' H':=fun {σ7 H7} I7 n7=>by
   obtain ⟨m',hm,w7⟩:=hN σ7 H7 n7
   refine ⟨m',hm,i + 1,σ7,H7,I7.unpinned,T.keep _ _ _ st5 fun b hb o e=>(I7.pin (b,o) (List.mem_append_right _ (List.mem_append_right _ (mem_pinsAt hb e)))).1,fun b hb=>?_,w7⟩
   obtain ⟨o,e,d⟩:=T.obj _ _ st5 b hb
   exact (I7.pin (b,o) (List.mem_append_right _ (List.mem_append_right _ (mem_pinsAt hb e)))).2.1
  cases f with
  | next=>obtain ⟨σ7,H7,I7,n7⟩:=q7;exact again I7 n7
  | cont=>obtain ⟨σ7,H7,I7,n7⟩:=q7;exact again I7 n7
  | brk=>obtain ⟨σ7,H7,I7,q7⟩:=q7;exact ⟨σ7,H7,I7.unpinned,q7⟩
  | ret v=>obtain ⟨x7,σ7,H7,I7,r7,q7⟩:=q7;exact ⟨x7,σ7,H7,I7.unpinned,r7,q7⟩
end
theorem for_list {K:PySem.W.Frag} {a:Addr} {xs:List V} {g:TG} {tb:TS} {D:Ends} {σ:St} {H:Hp} (Pv:Nat->St->Hp->Prop) (h0:Pv 0 σ H) (hl:∀ i σ H,i ≤ xs.length->Pv i σ H->SqL K H a xs)
  (hs:∀ i x σ H,xs[i]? = some x->Pv i σ H->g x σ H fun σ2 H2=>tb { D with nx:=Pv (i + 1),ct:=Pv (i + 1),bk:=D.nx } σ2 H2) (hd:∀ σ H,Pv xs.length σ H->D.nx σ H) :
  ∃ W:Nat->Nat->St->Hp->Prop,(∃ m,W 0 m σ H)/\∀ i m σ H,W i m σ H →
   ((Itl K a).stop i H/\D.nx σ H)\/((Itl K a).go i H/\∃ N:St->Hp->Prop,(∀ σ' H',N σ' H'->∃ m',m' < m/\W (i + 1) m' σ' H')/\∀ x H',(Itl K a).yld i H x H'->g x σ H' fun σ2 H2=>tb { D with nx:=N,ct:=N,bk:=D.nx } σ2 H2):=by
 refine ⟨fun i m σ H=>m = xs.length - i/\i ≤ xs.length/\Pv i σ H,⟨xs.length,by simp,Nat.zero_le _,h0⟩,?_⟩
 rintro i m σ H ⟨rfl,hi,p⟩
 have q:=hl i σ H hi p
 by_cases hlt:i < xs.length
 ·refine .inr ⟨⟨xs,xs[i],q,by simp [hlt]⟩,Pv (i + 1),fun σ' H' p'=>⟨xs.length - (i + 1),by omega,rfl,hlt,p'⟩,fun x H' y=>?_⟩
  obtain ⟨e,y⟩:=y
  subst e
  exact hs i x σ _ (y xs q) p
 ·have e:i = xs.length:=by omega
  subst e
  exact .inl ⟨⟨xs,q,Nat.le_refl _⟩,hd σ H p⟩
theorem for_tup {K:PySem.W.Frag} {a:Addr} {xs:List V} {g:TG} {tb:TS} {D:Ends} {σ:St} {H:Hp} (Pv:Nat->St->Hp->Prop) (h0:Pv 0 σ H) (hl:∀ i σ H,i ≤ xs.length->Pv i σ H->SqT K H a xs)
  (hs:∀ i x σ H,xs[i]? = some x->Pv i σ H->g x σ H fun σ2 H2=>tb { D with nx:=Pv (i + 1),ct:=Pv (i + 1),bk:=D.nx } σ2 H2) (hd:∀ σ H,Pv xs.length σ H->D.nx σ H) :
  ∃ W:Nat->Nat->St->Hp->Prop,(∃ m,W 0 m σ H)/\∀ i m σ H,W i m σ H →
   ((Itt K a).stop i H/\D.nx σ H)\/((Itt K a).go i H/\∃ N:St->Hp->Prop,(∀ σ' H',N σ' H'->∃ m',m' < m/\W (i + 1) m' σ' H')/\∀ x H',(Itt K a).yld i H x H'->g x σ H' fun σ2 H2=>tb { D with nx:=N,ct:=N,bk:=D.nx } σ2 H2):=by
 refine ⟨fun i m σ H=>m = xs.length - i/\i ≤ xs.length/\Pv i σ H,⟨xs.length,by simp,Nat.zero_le _,h0⟩,?_⟩
 rintro i m σ H ⟨rfl,hi,p⟩
 have q:=hl i σ H hi p
 by_cases hlt:i < xs.length
 ·refine .inr ⟨⟨xs,xs[i],q,by simp [hlt]⟩,Pv (i + 1),fun σ' H' p'=>⟨xs.length - (i + 1),by omega,rfl,hlt,p'⟩,fun x H' y=>?_⟩
  obtain ⟨e,y⟩:=y
  subst e
  exact hs i x σ _ (y xs q) p
 ·have e:i = xs.length:=by omega
  subst e
  exact .inl ⟨⟨xs,q,Nat.le_refl _⟩,hd σ H p⟩
theorem for_range {lo:Int} {n:Nat} {g:TG} {tb:TS} {D:Ends} {σ:St} {H:Hp} (Pv:Nat->St->Hp->Prop) (h0:Pv 0 σ H)
  (hs:∀ i σ H,i < n->Pv i σ H->g (.int (lo + i)) σ H fun σ2 H2=>tb { D with nx:=Pv (i + 1),ct:=Pv (i + 1),bk:=D.nx } σ2 H2) (hd:∀ σ H,Pv n σ H->D.nx σ H) :
  ∃ W:Nat->Nat->St->Hp->Prop,(∃ m,W 0 m σ H)/\∀ i m σ H,W i m σ H →
   ((Itr lo n).stop i H/\D.nx σ H)\/((Itr lo n).go i H/\∃ N:St->Hp->Prop,(∀ σ' H',N σ' H'->∃ m',m' < m/\W (i + 1) m' σ' H')/\∀ x H',(Itr lo n).yld i H x H'->g x σ H' fun σ2 H2=>tb { D with nx:=N,ct:=N,bk:=D.nx } σ2 H2):=by
 refine ⟨fun i m σ H=>m = n - i/\i ≤ n/\Pv i σ H,⟨n,by simp,Nat.zero_le _,h0⟩,?_⟩
 rintro i m σ H ⟨rfl,hi,p⟩
 by_cases hlt:i < n
 ·refine .inr ⟨hlt,Pv (i + 1),fun σ' H' p'=>⟨n - (i + 1),by omega,rfl,hlt,p'⟩,fun x H' y=>?_⟩
  obtain ⟨e,y⟩:=y
  subst e y
  exact hs i σ _ hlt p
 ·have e:i = n:=by omega
  subst e
  exact .inl ⟨Nat.le_refl _,hd σ H p⟩
end L2
namespace L2
open PySem PySem.Spec PyProof.Rows
abbrev R2:=V->V->Hp->VK->Prop
def OpR (X:Cx) (f:Value->Value->Sem Value) (r:R2):Prop:=
 ∀ (pins:List (Addr × Obj)) (s:Shared) (σ:St) (H:Hp) (x y:V) (v u:Value) (Q:VK),Inv X pins σ H s->RelV x v->RelV y u->r x y H Q →
  wpAny (model X.prog X.w) X.A (f v u) (EP X pins σ Q) X.xe s
def UnR (X:Cx) (f:Value->Sem Value) (r:V->Hp->VK->Prop):Prop:=
 ∀ (pins:List (Addr × Obj)) (s:Shared) (σ:St) (H:Hp) (x:V) (v:Value) (Q:VK),Inv X pins σ H s->RelV x v->r x H Q →
  wpAny (model X.prog X.w) X.A (f v) (EP X pins σ Q) X.xe s
def CallR (X:Cx) (f:Value) (r:List V->Hp->VK->Prop):Prop:=
 ∀ (pins:List (Addr × Obj)) (s:Shared) (σ:St) (H:Hp) (xs:List V) (us:List Value) (Q:VK),Inv X pins σ H s->Vals xs us->r xs H Q →
  wpAny (model X.prog X.w) X.A (call f us) (EP X pins σ Q) X.xe s
def TruR (X:Cx) (r:V->Hp->(Bool->Hp->Prop)->Prop):Prop:=
 ∀ (pins:List (Addr × Obj)) (s:Shared) (σ:St) (H:Hp) (x:V) (v:Value) (Q:Bool->Hp->Prop),Inv X pins σ H s->RelV x v->r x H Q →
  wpAny (model X.prog X.w) X.A (truthy v) (TP X pins σ Q) X.xe s
def tOp (r:R2) (ta tb:TE):TE:=fun σ H Q=>ta σ H fun x H1=>tb σ H1 fun y H2=>r x y H2 Q
def tUn (r:V->Hp->VK->Prop) (ta:TE):TE:=fun σ H Q=>ta σ H fun x H1=>r x H1 Q
def rI (C:Int->Int->Prop) (g:Int->Int->V):R2:=fun x y H Q=>∃ i j,x = .int i/\y = .int j/\C i j/\Q (g i j) H
def rI0 (g:Int->Int->V):R2:=fun x y H Q=>∃ i j,x = .int i/\y = .int j/\Q (g i j) H
def rU (g:Int->V):V->Hp->VK->Prop:=fun x H Q=>∃ i,x = .int i/\Q (g i) H
section
variable {X:Cx} {a b c:Expr} {ta tb tc:TE} {pos:Pos}
theorem binT (ha:PE X a ta) (hb:PE X b tb) {pins:List (Addr × Obj)} {s:Shared} {σ:St} {H:Hp} {R:V->V->Hp->Prop} (I:Inv X pins σ H s)
  (h:ta σ H fun x H1=>tb σ H1 fun y H2=>R x y H2) {Q:Value->Shared->Prop} {f:Value->Value->Sem Value}
  (hf:∀ v u s2 x y H2,Inv X pins σ H2 s2->RelV x v->RelV y u->R x y H2->wpAny (model X.prog X.w) X.A (f v u) Q X.xe s2) :
  wpAny (model X.prog X.w) X.A (eval a X.env) (fun v s₁=>wpAny (model X.prog X.w) X.A (eval b X.env) (fun u s₂=>wpAny (model X.prog X.w) X.A (f v u) Q X.xe s₂) X.xe s₁) X.xe s:=by
 refine thn (ha pins s σ H _ I h) fun v s1 ⟨x,H1,I1,r1,q1⟩=>?_
 refine thn (hb pins s1 σ H1 _ I1 q1) fun u s2 ⟨y,H2,I2,r2,q2⟩=>?_
 exact hf v u s2 x y H2 I2 r1 r2 q2
theorem pe_op {op:Operator} {r:R2} (ho:OpR X (binaryOp op) r) (ha:PE X a ta) (hb:PE X b tb):PE X (.BinOp a op b pos) (tOp r ta tb):=by
 intro pins s σ H Q I h
 exact wpAny_BinOp (binT ha hb I h fun v u s2 x y H2 I2 rx ry q=>ho pins s2 σ H2 x y v u Q I2 rx ry q)
theorem pe_un {op:UnaryOp} {r:V->Hp->VK->Prop} (ho:UnR X (unaryOp op) r) (ha:PE X a ta):PE X (.UnaryOp op a pos) (tUn r ta):=by
 intro pins s σ H Q I h
 exact UnaryOp_ (thn (ha pins s σ H _ I h) fun v s1 ⟨x,H1,I1,r1,q1⟩=>ho pins s1 σ H1 x v Q I1 r1 q1)
theorem opI {f:Value->Value->Sem Value} {C:Int->Int->Prop} {g:Int->Int->Int}
  (rule:∀ (i j:Int) (t u:Tok) (s:Shared) (Q:Value->Shared->Prop) (E:Value->Shared->Prop),C i j->Q (.int (g i j) s.toks) { s with toks:=s.toks + 1 }->wpAny (model X.prog X.w) X.A (f (.int i t) (.int j u)) Q E s) :
  OpR X f (rI C fun i j=>.int (g i j)):=by
 intro pins s σ H x y v u Q I rx ry h
 obtain ⟨i,j,rfl,rfl,hc,q⟩:=h
 obtain ⟨t,rfl⟩:=rx
 obtain ⟨t',rfl⟩:=ry
 exact rule i j t t' s _ _ hc ⟨.int (g i j),H,I.tok _,⟨_,rfl⟩,q⟩
theorem opI0 {f:Value->Value->Sem Value} {g:Int->Int->Int}
  (rule:∀ (i j:Int) (t u:Tok) (s:Shared) (Q:Value->Shared->Prop) (E:Value->Shared->Prop),Q (.int (g i j) s.toks) { s with toks:=s.toks + 1 }->wpAny (model X.prog X.w) X.A (f (.int i t) (.int j u)) Q E s) :
  OpR X f (rI0 fun i j=>.int (g i j)):=by
 intro pins s σ H x y v u Q I rx ry h
 obtain ⟨i,j,rfl,rfl,q⟩:=h
 obtain ⟨t,rfl⟩:=rx
 obtain ⟨t',rfl⟩:=ry
 exact rule i j t t' s _ _ ⟨.int (g i j),H,I.tok _,⟨_,rfl⟩,q⟩
theorem opB0 {f:Value->Value->Sem Value} {g:Int->Int->Bool}
  (rule:∀ (i j:Int) (t u:Tok) (s:Shared) (Q:Value->Shared->Prop) (E:Value->Shared->Prop),Q (.bool (g i j)) s->wpAny (model X.prog X.w) X.A (f (.int i t) (.int j u)) Q E s) :
  OpR X f (rI0 fun i j=>.bl (g i j)):=by
 intro pins s σ H x y v u Q I rx ry h
 obtain ⟨i,j,rfl,rfl,q⟩:=h
 obtain ⟨t,rfl⟩:=rx
 obtain ⟨t',rfl⟩:=ry
 exact rule i j t t' s _ _ ⟨.bl (g i j),H,I,rfl,q⟩
def CDiv (i j:Int):Prop:=0 < j/\j < 1073741824
def CDivN (i j:Int):Prop:=j ≠ 0/\j.natAbs < 1073741824
def CPow (i j:Int):Prop:=0 ≤ j/\j ≤ 1000000/\i.natAbs < 2 ^ 64
def CMul (i j:Int):Prop:=(-(2 ^ 64) < i/\i < 2 ^ 64)\/(-(2 ^ 64) < j/\j < 2 ^ 64)
theorem CMul.ok {i j:Int} (h:CMul i j):IntMulOk i j:=by
 rcases h with ⟨h1,h2⟩ | ⟨h1,h2⟩
 ·exact .of_left (intBits_le_64 h1 h2)
 ·exact .of_right (intBits_le_64 h1 h2)
theorem op_add:OpR X (binaryOp .Add) (rI0 fun i j=>.int (i + j)):=opI0 fun _ _ _ _ _ _ _ q=>add_int q
theorem op_sub:OpR X (binaryOp .Sub) (rI0 fun i j=>.int (i - j)):=opI0 fun _ _ _ _ _ _ _ q=>sub_int q
theorem op_mul:OpR X (binaryOp .Mult) (rI CMul fun i j=>.int (i * j)):=opI fun _ _ _ _ _ _ _ hc q=>mul_int q hc.ok
theorem op_fdiv:OpR X (binaryOp .FloorDiv) (rI CDiv fun i j=>.int (i / j)):=opI fun i j _ _ _ _ _ hc q=>by
 have h1:(0:Int) < j:=hc.1
 have h2:j < 1073741824:=hc.2
 exact floordiv_int (by omega) (by rw [Int.fdiv_eq_ediv_of_nonneg i (by omega)];exact q) (.inl (PyProof.noPylong_small (by omega)))
theorem op_mod:OpR X (binaryOp .Mod) (rI (fun _ j=>0 < j) fun i j=>.int (i % j)):=opI fun i j _ _ _ _ _ hc q=>by
 have h1:(0:Int) < j:=hc
 exact mod_int' (by omega) (by rw [Int.fmod_eq_emod_of_nonneg i (by omega)];exact q)
theorem op_pow:OpR X (binaryOp .Pow) (rI CPow fun i j=>.int (i ^ j.toNat)):=opI fun _ _ _ _ _ _ _ hc q=>pow_int_small hc.1 hc.2.1 hc.2.2 q
theorem unI {f:Value->Sem Value} {g:Int->Int}
  (rule:∀ (i:Int) (t:Tok) (s:Shared) (Q:Value->Shared->Prop) (E:Value->Shared->Prop),Q (.int (g i) s.toks) { s with toks:=s.toks + 1 }->wpAny (model X.prog X.w) X.A (f (.int i t)) Q E s) :
  UnR X f (rU fun i=>.int (g i)):=by
 intro pins s σ H x v Q I rx h
 obtain ⟨i,rfl,q⟩:=h
 obtain ⟨t,rfl⟩:=rx
 exact rule i t s _ _ ⟨.int (g i),H,I.tok _,⟨_,rfl⟩,q⟩
theorem un_neg:UnR X (unaryOp .USub) (rU fun i=>.int (-i)):=unI fun _ _ _ _ _ q=>neg_int q
end
def scal:V->V->Bool
 | .non,.non=>true | .non,.int _=>true | .int _,.non=>true | .non,.bl _=>true | .bl _,.non=>true | .non,.str _=>true | .str _,.non=>true
 | .int _,.int _=>true | .bl _,.bl _=>true | .str _,.str _=>true | .byt _,.byt _=>true
 | .int _,.str _=>true | .str _,.int _=>true | .bl _,.str _=>true | .str _,.bl _=>true
 | _,_=>false
def rEq:R2:=fun x y H Q=>scal x y = true/\Q (.bl (decide (x = y))) H
def rNe:R2:=fun x y H Q=>scal x y = true/\Q (.bl (!decide (x = y))) H
theorem dec_int {i j:Int}:decide (V.int i = V.int j) = (i == j):=by
 rw [Bool.eq_iff_iff]
 simp
theorem dec_bl {i j:Bool}:decide (V.bl i = V.bl j) = (i == j):=by
 rw [Bool.eq_iff_iff]
 simp
theorem dec_str {i j:Str}:decide (V.str i = V.str j) = (i == j):=by
 rw [Bool.eq_iff_iff]
 simp
theorem dec_byt {i j:Array UInt8}:decide (V.byt i = V.byt j) = (i.toList == j.toList):=by
 rw [Bool.eq_iff_iff]
 cases i
 cases j
 simp
section
variable {X:Cx} {a b c:Expr} {ta tb tc:TE} {pos:Pos}
theorem fin_bl {pins:List (Addr × Obj)} {σ:St} {H:Hp} {s:Shared} {Q:VK} {k k':Bool} (I:Inv X pins σ H s) (q:Q (.bl k) H) (e:k = k'):EP X pins σ Q (.bool k') s:=by
 subst e
 exact ⟨.bl k,H,I,rfl,q⟩
theorem op_eq:OpR X (compareOp .Eq) rEq:=by
 intro pins s σ H x y v u Q I rx ry h
 obtain ⟨hs,q⟩:=h
 cases x with
 | non=>
  cases rx
  cases y with
  | non=>cases ry;exact PySem.EqNone.eq_none_none (fin_bl I q (by simp))
  | bl j=>cases ry;exact PySem.EqNone.eq_none_bool (fin_bl I q (by simp))
  | int j=>obtain ⟨t',rfl⟩:=ry;exact PySem.EqNone.eq_none_int (fin_bl I q (by simp))
  | str j=>obtain ⟨t',rfl⟩:=ry;exact PySem.EqNone.eq_none_str (fin_bl I q (by simp))
  | _=>exact absurd (show false = true from hs) Bool.false_ne_true
 | bl i=>
  cases rx
  cases y with
  | non=>cases ry;exact PySem.EqNone.eq_bool_none (fin_bl I q (by simp))
  | bl j=>cases ry;exact eq_bool (fin_bl I q dec_bl)
  | str j=>obtain ⟨t',rfl⟩:=ry;exact PySem.EqMixed.eq_bool_str (fin_bl I q (by simp))
  | _=>exact absurd (show false = true from hs) Bool.false_ne_true
 | int i=>
  obtain ⟨t,rfl⟩:=rx
  cases y with
  | non=>cases ry;exact PySem.EqNone.eq_int_none (fin_bl I q (by simp))
  | int j=>obtain ⟨t',rfl⟩:=ry;exact eq_int (fin_bl I q dec_int)
  | str j=>obtain ⟨t',rfl⟩:=ry;exact PySem.EqMixed.eq_int_str (fin_bl I q (by simp))
  | _=>exact absurd (show false = true from hs) Bool.false_ne_true
 | str i=>
  obtain ⟨t,rfl⟩:=rx
  cases y with
  | non=>cases ry;exact PySem.EqNone.eq_str_none (fin_bl I q (by simp))
  | bl j=>cases ry;exact PySem.EqMixed.eq_str_bool (fin_bl I q (by simp))
  | int j=>obtain ⟨t',rfl⟩:=ry;exact PySem.EqMixed.eq_str_int (fin_bl I q (by simp))
  | str j=>obtain ⟨t',rfl⟩:=ry;exact eq_str (fin_bl I q dec_str)
  | _=>exact absurd (show false = true from hs) Bool.false_ne_true
 | byt i=>
  obtain ⟨t,rfl⟩:=rx
  cases y with
  | byt j=>obtain ⟨t',rfl⟩:=ry;exact PySem.W.eq_bytes (fin_bl I q dec_byt)
  | _=>exact absurd (show false = true from hs) Bool.false_ne_true
 | _=>cases y <;> exact absurd (show false = true from hs) Bool.false_ne_true
theorem op_ne:OpR X (compareOp .NotEq) rNe:=by
 intro pins s σ H x y v u Q I rx ry h
 obtain ⟨hs,q⟩:=h
 cases x with
 | non=>
  cases rx
  cases y with
  | non=>cases ry;exact PySem.EqNone.ne_none_none (fin_bl I q (by simp))
  | bl j=>cases ry;exact PySem.EqNone.ne_none_bool (fin_bl I q (by simp))
  | int j=>obtain ⟨t',rfl⟩:=ry;exact PySem.EqNone.ne_none_int (fin_bl I q (by simp))
  | str j=>obtain ⟨t',rfl⟩:=ry;exact PySem.EqNone.ne_none_str (fin_bl I q (by simp))
  | _=>exact absurd (show false = true from hs) Bool.false_ne_true
 | bl i=>
  cases rx
  cases y with
  | non=>cases ry;exact PySem.EqNone.ne_bool_none (fin_bl I q (by simp))
  | bl j=>cases ry;exact ne_bool (fin_bl I q (congrArg not dec_bl))
  | str j=>obtain ⟨t',rfl⟩:=ry;exact PySem.EqMixed.ne_bool_str (fin_bl I q (by simp))
  | _=>exact absurd (show false = true from hs) Bool.false_ne_true
 | int i=>
  obtain ⟨t,rfl⟩:=rx
  cases y with
  | non=>cases ry;exact PySem.EqNone.ne_int_none (fin_bl I q (by simp))
  | int j=>obtain ⟨t',rfl⟩:=ry;exact ne_int (fin_bl I q (congrArg not dec_int))
  | str j=>obtain ⟨t',rfl⟩:=ry;exact PySem.EqMixed.ne_int_str (fin_bl I q (by simp))
  | _=>exact absurd (show false = true from hs) Bool.false_ne_true
 | str i=>
  obtain ⟨t,rfl⟩:=rx
  cases y with
  | non=>cases ry;exact PySem.EqNone.ne_str_none (fin_bl I q (by simp))
  | bl j=>cases ry;exact PySem.EqMixed.ne_str_bool (fin_bl I q (by simp))
  | int j=>obtain ⟨t',rfl⟩:=ry;exact PySem.EqMixed.ne_str_int (fin_bl I q (by simp))
  | str j=>obtain ⟨t',rfl⟩:=ry;exact ne_str (fin_bl I q (congrArg not dec_str))
  | _=>exact absurd (show false = true from hs) Bool.false_ne_true
 | byt i=>
  obtain ⟨t,rfl⟩:=rx
  cases y with
  | byt j=>obtain ⟨t',rfl⟩:=ry;exact PySem.W.ne_bytes (fin_bl I q (congrArg not dec_byt))
  | _=>exact absurd (show false = true from hs) Bool.false_ne_true
 | _=>cases y <;> exact absurd (show false = true from hs) Bool.false_ne_true
theorem op_lt:OpR X (compareOp .Lt) (rI0 fun i j=>.bl (decide (i < j))):=opB0 fun _ _ _ _ _ _ _ q=>lt_int q
theorem op_le:OpR X (compareOp .LtE) (rI0 fun i j=>.bl (decide (i ≤ j))):=opB0 fun _ _ _ _ _ _ _ q=>le_int q
theorem op_gt:OpR X (compareOp .Gt) (rI0 fun i j=>.bl (decide (j < i))):=opB0 fun _ _ _ _ _ _ _ q=>gt_int q
theorem op_ge:OpR X (compareOp .GtE) (rI0 fun i j=>.bl (decide (j ≤ i))):=opB0 fun _ _ _ _ _ _ _ q=>ge_int q
theorem op_in_str:OpR X (compareOp .In) (fun x y H Q=>∃ i j,x = .str i/\y = .str j/\Q (.bl (!(Builtin.Str.occurrences j i 0 j.length 1).isEmpty)) H):=by
 intro pins s σ H x y v u Q I rx ry h
 obtain ⟨i,j,rfl,rfl,q⟩:=h
 obtain ⟨t,rfl⟩:=rx
 obtain ⟨t',rfl⟩:=ry
 exact in_str (fin_bl I q rfl)
theorem op_isN:OpR X (compareOp .Is) (fun x y H Q=>y = .non/\Q (.bl (decide (x = .non))) H):=by
 intro pins s σ H x y v u Q I rx ry h
 obtain ⟨rfl,q⟩:=h
 cases ry
 refine is_none_gen (fin_bl I q ?_)
 cases x <;> first
  | (cases rx;rfl)
  | (obtain ⟨t,rfl⟩:=rx;rfl)
def isObj:HO->Bool
 | .lst _=>true
 | .ins _ _ _=>true
 | _=>false
theorem nomark (b:Expr) {op:CmpOp} (h:op ≠ .In:=by decide) (h2:op ≠ .NotIn:=by decide):behindInMarks op b = false:=by
 have e1:(op == CmpOp.In) = false:=by cases op <;> first | rfl | exact absurd rfl h
 have e2:(op == CmpOp.NotIn) = false:=by cases op <;> first | rfl | exact absurd rfl h2
 cases b <;> simp [behindInMarks,e1,e2]
theorem pe_cmpR {op:CmpOp} {r:R2} (ho:OpR X (compareOp op) r) (ha:PE X a ta) (hb:PE X b tb) (hm:behindInMarks op b = false):PE X (.Compare a [op] [b] pos) (tOp r ta tb):=by
 intro pins s σ H Q I h
 exact wpAny_Compare1 (binT ha hb I h fun v u s2 x y H2 I2 rx ry q=>ho pins s2 σ H2 x y v u Q I2 rx ry q) hm
def tTest (t:TE):TT:=fun σ H Q=>t σ H fun x H'=>∃ k,x = .bl k/\Q k H'
theorem pt_cmpR {op:CmpOp} {r:R2} (ho:OpR X (compareOp op) r) (ha:PE X a ta) (hb:PE X b tb) (hm:behindInMarks op b = false):PT X (.Compare a [op] [b] pos) (tTest (tOp r ta tb)):=by
 intro pins s σ H Q I h
 refine wpAny_isTrue_Compare1 (thn (ha pins s σ H _ I h) fun v s1 ⟨x,H1,I1,r1,q1⟩=>thn (hb pins s1 σ H1 _ I1 q1) fun u s2 ⟨y,H2,I2,r2,q2⟩=>
  thn (ho pins s2 σ H2 x y v u _ I2 r1 r2 q2) fun c s3 ⟨z,H3,I3,r3,k,e,q3⟩=>?_) hm
 subst e
 cases r3
 exact wpAny_truthy_bool ⟨H3,I3,q3⟩
def tChain (r r':R2) (ta tb tc:TE):TE:=fun σ H Q=>ta σ H fun x H1=>tb σ H1 fun y H2=>r x y H2 fun z H3=>∃ k,z = .bl k ∧
 (if k = true then tc σ H3 fun w' H4=>r' y w' H4 Q else Q (.bl false) H3)
theorem pe_chain {op op':CmpOp} {r r':R2} (ho:OpR X (compareOp op) r) (ho':OpR X (compareOp op') r') (ha:PE X a ta) (hb:PE X b tb) (hc:PE X c tc)
  (hm:lastMarks [op,op'] [b,c] = false:=by with_unfolding_all rfl):PE X (.Compare a [op,op'] [b,c] pos) (tChain r r' ta tb tc):=by
 intro pins s σ H Q I h
 refine Compare_chain (thn (ha pins s σ H _ I h) fun v s1 ⟨x,H1,I1,r1,q1⟩=>chain_link (thn (hb pins s1 σ H1 _ I1 q1) fun u s2 ⟨y,H2,I2,r2,q2⟩=>
  thn (ho pins s2 σ H2 x y v u _ I2 r1 r2 q2) fun d s3 ⟨z,H3,I3,r3,k,e,q3⟩=>?_)) hm
 subst e
 cases r3
 refine wpAny_truthy_bool ?_
 cases k with
 | false=>exact ite_ff ⟨.bl false,H3,I3,rfl,q3⟩
 | true=>exact ite_tt (chain_last (thn (hc pins s3 σ H3 _ I3 q3) fun w' s4 ⟨z',H4,I4,r4,q4⟩=>ho' pins s4 σ H4 y z' u w' Q I4 r2 r4 q4))
theorem pt_chain {op op':CmpOp} {r r':R2} (ho:OpR X (compareOp op) r) (ho':OpR X (compareOp op') r') (ha:PE X a ta) (hb:PE X b tb) (hc:PE X c tc)
  (hm:lastMarks [op,op'] [b,c] = false:=by with_unfolding_all rfl):PT X (.Compare a [op,op'] [b,c] pos) (tTest (tChain r r' ta tb tc)):=by
 intro pins s σ H Q I h
 refine isTrue_chain (thn (ha pins s σ H _ I h) fun v s1 ⟨x,H1,I1,r1,q1⟩=>test_link (thn (hb pins s1 σ H1 _ I1 q1) fun u s2 ⟨y,H2,I2,r2,q2⟩=>
  thn (ho pins s2 σ H2 x y v u _ I2 r1 r2 q2) fun d s3 ⟨z,H3,I3,r3,k,e,q3⟩=>?_)) hm
 subst e
 cases r3
 refine wpAny_truthy_bool ?_
 cases k with
 | false=>
  obtain ⟨k',e',q'⟩:=q3
  cases e'
  exact ite_ff ⟨H3,I3,q'⟩
 | true=>
  refine ite_tt (test_last (thn (hc pins s3 σ H3 _ I3 q3) fun w' s4 ⟨z',H4,I4,r4,q4⟩=>thn (ho' pins s4 σ H4 y z' u w' _ I4 r2 r4 q4) fun d' s5 ⟨z2,H5,I5,r5,k2,e2,q5⟩=>?_))
  subst e2
  cases r5
  exact wpAny_truthy_bool ⟨H5,I5,q5⟩
def TruV (K:PySem.W.Frag) (x:V) (H:Hp) (k:Bool):Prop:=
 match x with
 | .non=>k = false
 | .bl b=>k = b
 | .int i=>k = (i != 0)
 | .str y=>y.length ≤ sizeLine/\k = ((y.length:Int) != 0)
 | .byt y=>y.size ≤ sizeLine/\k = ((y.size:Int) != 0)
 | .ref p=>(∃ xs,SqL K H p xs/\k = !xs.isEmpty)\/(∃ xs,SqT K H p xs/\k = !xs.isEmpty)\/∃ kvs,H p = some (.dK kvs)/\k = !kvs.isEmpty
 | _=>False
theorem line63:(sizeLine:Nat) < 2 ^ 63:=by rw [sizeLine_eq];decide
theorem op_add_str:OpR X (binaryOp .Add) (fun x y H Q=>∃ i j,x = .str i/\y = .str j/\i.length + j.length ≤ sizeLine/\Q (.str (i ++ j)) H):=by
 intro pins s σ H x y v u Q I rx ry h
 obtain ⟨i,j,rfl,rfl,hz,q⟩:=h
 obtain ⟨t,rfl⟩:=rx
 obtain ⟨t',rfl⟩:=ry
 exact add_str (fun t' tk=>⟨.str (i ++ j),H,I.tok _,⟨_,rfl⟩,q⟩) hz
def PlainIxT (b:Expr):Prop:=∀ o i,subscripted b false o i = operate [o,i] (getItem o i)
theorem vals1 {x:V} {us:List Value} (r:Vals [x] us):∃ u,us = [u]/\RelV x u:=by
 cases r with
 | cons r1 r2=>cases r2;exact ⟨_,rfl,r1⟩
theorem vals2 {x y:V} {us:List Value} (r:Vals [x,y] us):∃ u w',us = [u,w']/\RelV x u/\RelV y w':=by
 cases r with
 | cons r1 r2=>
  cases r2 with
  | cons r3 r4=>cases r4;exact ⟨_,_,rfl,r1,r3⟩
theorem call_ord:CallR X (.builtin "ord") (fun xs H Q=>∃ x,xs = [.str x]/\x.length = 1/\Q (.int (x.cps.getD 0 0:Nat)) H):=by
 intro pins s σ H xs us Q I r h
 obtain ⟨x,rfl,hz,q⟩:=h
 obtain ⟨u,rfl,t,rfl⟩:=vals1 r
 exact ord_of_one hz ⟨.int _,H,I.tok _,⟨_,rfl⟩,q⟩
def LenV (K:PySem.W.Frag) (x:V) (H:Hp) (n:Nat):Prop:=
 match x with
 | .str y=>y.length ≤ sizeLine/\n = y.length
 | .byt y=>y.size ≤ sizeLine/\n = y.size
 | .ref p=>(∃ xs,SqL K H p xs/\n = xs.length)\/∃ xs,SqT K H p xs/\n = xs.length
 | _=>False
end
end L2
namespace L2
open PySem PySem.Spec PyProof.Rows
structure ObjM (h:Heap) (x dx C:Addr) (mA:Str->Option Value):Prop where
 obj:h.get? x = some (PySem.W.instObj C dx)
 ns:h.Ns1 dx mA
 ne:dx ≠ x
theorem lookIn_ns {h:Heap} {dx:Addr} {mA:Str->Option Value} (n:h.Ns1 dx mA):∃ od,h.get? dx = some od/\∀ name,PySem.W.lookIn name od = some (mA name):=by
 obtain ⟨o,es,ep,ho,hd,hk,_,hm⟩:=n
 refine ⟨o,ho,fun name=>?_⟩
 have e:=hm name
 unfold nsFind findBy at e
 rw [← Array.find?_toList] at e
 unfold PySem.W.lookIn
 rw [hd]
 dsimp only
 split
 ·rename_i y q
  rw [q] at e
  exact congrArg some e
 ·rename_i q
  rw [q] at e
  have a:es.toList.any (·.refKey) = false:=by
   rw [List.any_eq_false]
   intro y hy
   obtain ⟨z,t,hkey⟩:=hk y (Array.mem_toList_iff.mp hy)
   simp [DictEntry.refKey,hkey]
  have a':¬ es.toList.any (·.refKey) = true:=by rw [a];exact Bool.false_ne_true
  rw [if_neg a']
  exact congrArg some e
theorem ObjM.look {h:Heap} {x dx C:Addr} {mA:Str->Option Value} (I:ObjM h x dx C mA):∃ od,PySem.W.InstAt h x (PySem.W.instObj C dx) C (some od)/\∀ name,PySem.W.lookIn name od = some (mA name):=
 let ⟨od,ho,hl⟩:=lookIn_ns I.ns
 ⟨od,⟨I.obj,rfl,rfl,ho⟩,hl⟩
section
variable {prog:Program} {w:World} {A:Around} {E:Value->Shared->Prop} {s:Shared} {K:PySem.W.Frag} {x dx C f:Addr} {mA:Str->Option Value} {name:Str} {v:Value}
end
def putF (f:Str) (v:V):List (Str × V)->List (Str × V)
 | []=>[(f,v)]
 | (g,x) :: r=>if g = f then (g,v) :: r else (g,x) :: putF f v r
theorem lookup_putF (f g:Str) (v:V):∀ fs:List (Str × V),(putF f v fs).lookup g = if g = f then some v else fs.lookup g
 | []=>by
  show List.lookup g [(f,v)] = _
  by_cases h:g = f
  ·have hb:(g == f) = true:=beq_iff_eq.mpr h
   simp only [List.lookup,hb,if_pos h]
  ·have hb:(g == f) = false:=beq_eq_false_iff_ne.mpr h
   simp only [List.lookup,hb,if_neg h]
 | (k,x) :: r=>by
  have ih:=lookup_putF f g v r
  rw [show putF f v ((k,x) :: r) = (if k = f then (k,v) :: r else (k,x) :: putF f v r) from rfl]
  by_cases hk:k = f
  ·rw [if_pos hk]
   by_cases h:g = k
   ·have hb:(g == k) = true:=beq_iff_eq.mpr h
    simp only [List.lookup,hb,if_pos (h.trans hk)]
   ·have hb:(g == k) = false:=beq_eq_false_iff_ne.mpr h
    simp only [List.lookup,hb,if_neg (fun e:g = f=>h (e.trans hk.symm))]
  ·rw [if_neg hk]
   by_cases h:g = k
   ·have hb:(g == k) = true:=beq_iff_eq.mpr h
    simp only [List.lookup,hb,if_neg (fun e:g = f=>hk (h.symm.trans e))]
   ·have hb:(g == k) = false:=beq_eq_false_iff_ne.mpr h
    simp only [List.lookup,hb]
    exact ih
theorem keys_putF (f:Str) (v:V):∀ fs:List (Str × V),f ∈ (putF f v fs).map (·.1)/\∀ g,g ∈ fs.map (·.1)->g ∈ (putF f v fs).map (·.1)
 | []=>⟨by simp [putF],fun g h=>by simp at h⟩
 | (k,x) :: r=>by
  obtain ⟨i1,i2⟩:=keys_putF f v r
  rw [show putF f v ((k,x) :: r) = (if k = f then (k,v) :: r else (k,x) :: putF f v r) from rfl]
  by_cases hk:k = f
  ·rw [if_pos hk]
   subst hk
   exact ⟨by simp,fun g h=>by simpa using h⟩
  ·rw [if_neg hk]
   refine ⟨?_,fun g h=>?_⟩
   ·rw [List.map_cons]
    exact List.mem_cons_of_mem _ i1
   ·rw [List.map_cons] at h ⊢
    rcases List.mem_cons.mp h with e | e
    ·exact List.mem_cons.mpr (.inl e)
    ·exact List.mem_cons_of_mem _ (i2 g e)
theorem length_putF (f:Str) (v:V):∀ fs:List (Str × V),(putF f v fs).length ≤ fs.length + 1
 | []=>by simp [putF]
 | (k,x) :: r=>by
  have ih:=length_putF f v r
  rw [show putF f v ((k,x) :: r) = (if k = f then (k,v) :: r else (k,x) :: putF f v r) from rfl]
  by_cases hk:k = f
  ·rw [if_pos hk,List.length_cons,List.length_cons];omega
  ·rw [if_neg hk,List.length_cons,List.length_cons];omega
theorem RelO.some_of {v:V} {o:Option Value} (r:RelO (some v) o):∃ u,o = some u/\RelV v u:=by
 cases o with
 | none=>exact (show False from r).elim
 | some u=>exact ⟨u,rfl,r⟩
theorem handed_of {v:V} {u:Value} (r:RelV v u):PySem.W.handedIn u = true:=by
 cases v with
 | non=>cases (show u = Value.none from r);rfl
 | bl b=>cases (show u = Value.bool b from r);rfl
 | int i=>obtain ⟨t,e⟩:=(show ∃ t,u = Value.int i t from r);cases e;rfl
 | str x=>obtain ⟨t,e⟩:=(show ∃ t,u = Value.str x t from r);cases e;rfl
 | byt b=>obtain ⟨t,e⟩:=(show ∃ t,u = Value.bytes b t from r);cases e;rfl
 | flt b=>obtain ⟨t,e⟩:=(show ∃ t,u = Value.float b t from r);cases e;rfl
 | ref a=>cases (show u = Value.ref a from r);rfl
 | ty n=>cases (show u = Value.type n from r);rfl
section
variable {P:Program} {w:World} {H H':Hp} {h h':Heap} {a C dx:Addr} {fs fs':List (Str × V)}
theorem ins_get (hok:HOk P w H h) (e:H a = some (.ins C dx fs)):∃ mA,ObjM h a dx C mA/\(∀ f,RelO (fs.lookup f) (mA f))/\PySem.Within mA (fs.map (·.1))/\fs.length ≤ 1000/\H dx = some (.own a):=by
 obtain ⟨d,z,ne,ob,mA,n,r,q⟩:=(show ObjOk P w H h a (.ins C dx fs) from hok a _ e)
 exact ⟨mA,⟨ob,n,ne⟩,r,q,z,d⟩
end
structure Cls (K:PySem.W.Frag) (C:Addr):Prop where
 pg:PySem.W.plainGet K C Str.empty = true
 hd:PySem.W.hasDictIn K C = true
 po:PySem.W.plainOver K C = true
 sa:PySem.W.findIn K (.ref C) "__setattr__" = some (some (.builtin "object.__setattr__"))
theorem Cls.get {K:PySem.W.Frag} {C:Addr} (c:Cls K C) (f:Str):PySem.W.plainGet K C f = true:=c.pg
def NoAttr (K:PySem.W.Frag) (C:Addr) (f:Str):Prop:=PySem.W.findIn K (.ref C) f = some none
structure Con (K:PySem.W.Frag) (C:Addr) (f:Str) (v:V) (u:Value):Prop where
 at_:PySem.W.findIn K (.ref C) f = some (some u)
 rel:RelV v u
 get:PySem.W.specialIn K u "__get__" = some none
 cp:PySem.W.copiedNames.contains f = false
structure Meth (K:PySem.W.Frag) (C:Addr) (m:Str) (f:Addr):Prop where
 at_:PySem.W.findIn K (.ref C) m = some (some (.ref f))
 fn:PySem.W.isFn K (.ref f) = true
 kp:PySem.W.keepIn K (.ref f) = true
section
variable {X:Cx} {pins:List (Addr × Obj)} {σ:St} {H:Hp} {s:Shared} {a C dx:Addr} {fs:List (Str × V)} {f:Str} {v:V} {A:Around} {E:Value->Shared->Prop}
theorem attr_of {prog:Program} {w:World} {env:Env} {e:Expr} {f:Str} {pos:Pos} {s:Shared} {Q:Value->Shared->Prop} (hb:attributeBase e f env (eval e env) = eval e env)
  (h:wpAny (model prog w) A (eval e env) (fun o s₁=>wpAny (model prog w) A (getAttr o f true) Q E s₁) E s):wpAny (model prog w) A (eval (.Attribute e f pos) env) Q E s:=
 Attribute_any_ h (by rw [arm_eval_Attribute,hb])
end
def tFld (K:PySem.W.Frag) (ta:TE) (f:Str):TE:=fun σ H Q=>ta σ H fun x H1=>∃ a C dx fs v,x = .ref a/\H1 a = some (.ins C dx fs)/\Cls K C/\NoAttr K C f/\fs.lookup f = some v/\Q v H1
def tCon (K:PySem.W.Frag) (ta:TE) (f:Str):TE:=fun σ H Q=>ta σ H fun x H1=>∃ a C dx fs v u,x = .ref a/\H1 a = some (.ins C dx fs)/\Cls K C/\Con K C f v u/\fs.lookup f = none/\Q v H1
def sFld (K:PySem.W.Frag) (ta tv:TE) (f:Str):TS:=fun D σ H=>tv σ H fun y H1=>ta σ H1 fun x H2=>∃ a C dx fs,x = .ref a/\H2 a = some (.ins C dx fs)/\Cls K C/\NoAttr K C f/\fs.length < 1000 ∧
 D.nx σ (upd H2 a (.ins C dx (putF f y fs)))
def InOp (X:Cx) (op:Operator) (rd:V->V->Hp->VK->Prop):Prop:=
 ∀ (pins:List (Addr × Obj)) (s:Shared) (σ:St) (H:Hp) (x y:V) (u v:Value) (Q:VK),Inv X pins σ H s->RelV x u->RelV y v->rd x y H Q->wpAny (model X.prog X.w) X.A (inplaceOp op u v) (EP X pins σ Q) X.xe s
def sFldAug (K:PySem.W.Frag) (ta tv:TE) (rd:V->V->Hp->VK->Prop) (f:Str):TS:=fun D σ H=>ta σ H fun x H1=>∃ a C dx fs v,x = .ref a/\H1 a = some (.ins C dx fs)/\Cls K C/\NoAttr K C f/\fs.lookup f = some v ∧
 tv σ H1 fun y H2=>rd v y H2 fun z H3=>∃ dx' fs',H3 a = some (.ins C dx' fs')/\fs'.length < 1000/\D.nx σ (upd H3 a (.ins C dx' (putF f z fs')))
section
variable {X:Cx} {o e value:Expr} {f:Str} {pos pos' tpos:Pos} {ta tv:TE}
def rAdd:V->V->Hp->VK->Prop:=fun x y H Q=>∃ i j,x = .int i/\y = .int j/\Q (.int (i + j)) H
def rSub:V->V->Hp->VK->Prop:=fun x y H Q=>∃ i j,x = .int i/\y = .int j/\Q (.int (i - j)) H
end
section
variable {X:Cx} {pins:List (Addr × Obj)} {σ:St} {H:Hp} {s:Shared} {A:Around} {E:Value->Shared->Prop} {Q:Value->Shared->Prop} {c:Value} {b:Bool}
inductive TyOf (K:PySem.W.Frag) (H:Hp):V->Value->Prop where
 | non:TyOf K H .non (.type "NoneType")
 | bl (x:Bool):TyOf K H (.bl x) (.type "bool")
 | int (i:Int):TyOf K H (.int i) (.type "int")
 | str (x:Str):TyOf K H (.str x) (.type "str")
 | flt (x:UInt64):TyOf K H (.flt x) (.type "float")
 | lst {a:Addr} {xs:List V} (e:H a = some (.lst xs)):TyOf K H (.ref a) (.type "list")
 | frz {a:Addr} {o:Obj} {xs:List V} (e:H a = some (.frz o (.lst xs))):TyOf K H (.ref a) (.type "list")
 | tup {a:Addr} {xs:List V} (e:H a = some (.tup xs)):TyOf K H (.ref a) (.type "tuple")
 | dK {a:Addr} {kvs:List (Key × V)} (e:H a = some (.dK kvs)):TyOf K H (.ref a) (.type "dict")
 | dT {a:Addr} {kvs:List (List Key × V)} (e:H a = some (.dT kvs)):TyOf K H (.ref a) (.type "dict")
 | ins {a C dx:Addr} {fs:List (Str × V)} (e:H a = some (.ins C dx fs)) (cl:Cls K C) (ha:PySem.W.findIn K (.ref C) "__class__" = some (some (.builtin "object.__class__")))
   (hn:PySem.W.specialIn K (.builtin "object.__class__") "__get__" = some (some (.builtin "getset_descriptor.__get__"))) (htk:PySem.W.takesIn K (.builtin "object.__class__") = some true)
   (hm:PySem.W.mroIn K C (.type "object") = some true):TyOf K H (.ref a) (.ref C)
theorem isinst_ok {x:V} {u t:Value} (I:Inv X pins σ H s) (rx:RelV x u) (ty:TyOf X.K H x t) (e:PySem.W.kitOne X.K t c = some b) (h:∀ tk,Q (.bool b) { s with toks:=tk }) :
  wpAny (model X.prog X.w) A (call (.builtin "isinstance") [u,c]) Q E s:=by
 cases ty with
 | non=>cases (show u = Value.none from rx);exact PySem.W.kia_one PySem.W.kitx_none I.kIn True.intro e (fun z=>nomatch z) h
 | bl y=>cases (show u = Value.bool y from rx);exact PySem.W.kia_one PySem.W.kitx_bool I.kIn True.intro e (fun z=>nomatch z) h
 | int i=>obtain ⟨t,q⟩:=(show ∃ t,u = Value.int i t from rx);cases q;exact PySem.W.kia_one PySem.W.kitx_int I.kIn True.intro e (fun z=>nomatch z) h
 | str y=>obtain ⟨t,q⟩:=(show ∃ t,u = Value.str y t from rx);cases q;exact PySem.W.kia_one PySem.W.kitx_str I.kIn True.intro e (fun z=>nomatch z) h
 | flt y=>obtain ⟨t,q⟩:=(show ∃ t,u = Value.float y t from rx);cases q;exact PySem.W.kia_one PySem.W.kitx_float I.kIn True.intro e (fun z=>nomatch z) h
 | @lst a xs ea=>
  cases (show u = Value.ref a from rx)
  obtain ⟨_,_,n,_,h1⟩:=(show ObjOk X.prog X.w H s.heap a (.lst xs) from I.hok a _ ea)
  exact PySem.W.kia_one PySem.W.kitx_list I.kIn ⟨_,h1,rfl⟩ e (fun z=>nomatch z) h
 | @frz a ob xs ea=>
  cases (show u = Value.ref a from rx)
  obtain ⟨_,_,_,n,_,h1⟩:=(show ObjOk X.prog X.w H s.heap a (.frz ob (.lst xs)) from I.hok a _ ea)
  exact PySem.W.kia_one PySem.W.kitx_list I.kIn ⟨_,h1,rfl⟩ e (fun z=>nomatch z) h
 | @tup a xs ea=>
  cases (show u = Value.ref a from rx)
  obtain ⟨_,_,_,p⟩:=(show ObjOk X.prog X.w H s.heap a (.tup xs) from I.hok a _ ea)
  obtain ⟨o,h1,h2,_⟩:=p
  exact PySem.W.kia_one PySem.W.kitx_tuple I.kIn ⟨o,h1,h2⟩ e (fun z=>nomatch z) h
 | @dK a kvs ea=>
  cases (show u = Value.ref a from rx)
  obtain ⟨_,_,vs,_,p⟩:=(show ObjOk X.prog X.w H s.heap a (.dK kvs) from I.hok a _ ea)
  obtain ⟨o,es,ep,h1,h2,_⟩:=p
  exact PySem.W.kia_one PySem.W.kitx_dict I.kIn ⟨o,h1,h2.1⟩ e (fun z=>nomatch z) h
 | @dT a kvs ea=>
  cases (show u = Value.ref a from rx)
  obtain ⟨_,_,xs,_,o,es,ep,h1,h2,_⟩:=(show ObjOk X.prog X.w H s.heap a (.dT kvs) from I.hok a _ ea)
  exact PySem.W.kia_one PySem.W.kitx_dict I.kIn ⟨o,h1,h2.1⟩ e (fun z=>nomatch z) h
 | @ins a C dx fs ea cl ha hn htk hm=>
  cases (show u = Value.ref a from rx)
  obtain ⟨mA,O,_⟩:=ins_get I.hok ea
  obtain ⟨od,J,_⟩:=O.look
  exact PySem.W.kia_one (PySem.W.kitx_own (cl.get _) cl.hd ha hn htk hm) I.kIn J e (fun z=>nomatch z) h
end
end L2
namespace L2
open PySem PySem.Spec PyProof.Rows
structure Room (k:Nat) (A:Around):Prop where
 hd:A.handled = none
 dp:A.depth + 3 * k + 5 < recursionLimit
 un:A.units + 16 * k + 200 < cLine
theorem Room.mono {j k:Nat} {A:Around} (r:Room k A) (h:j ≤ k):Room j A:=⟨r.hd,by have:=r.dp;omega,by have:=r.un;omega⟩
theorem Room.deeper {k:Nat} {A:Around} (r:Room (k + 1) A) (env:Env):Room k (A.deeper env):=
 ⟨r.hd,by have:=r.dp;show A.depth + 1 + 3 * k + 5 < _;omega,by have:=r.un;show A.units + 3 + 16 * k + 200 < _;omega⟩
theorem Room.in1 {k:Nat} {A:Around} (r:Room (k + 1) A):Room k A.in1:=
 ⟨r.hd,by have:=r.dp;show A.depth + 3 * k + 5 < _;omega,by have:=r.un;show A.units + 1 + 16 * k + 200 < _;omega⟩
theorem make_depth {A:Around} {C:Addr} {us:List Value} {kw:List (Str × Value)}:(A.under (.builtin "type.__call__" ⟨.ref C :: us,kw⟩)).depth = A.depth + 1:=by
 first | rfl | simp [Around.under,Code.weight,Code.isCreation,Code.isGuard,Code.isCaller,Code.frames,Code.isFrame,guardIds]
theorem make_units {A:Around} {C:Addr} {us:List Value} {kw:List (Str × Value)}:(A.under (.builtin "type.__call__" ⟨.ref C :: us,kw⟩)).units = A.units + 1:=by
 first | rfl | simp [Around.under,Code.cUnits,Code.frames,Code.isFrame]
theorem Room.make {k:Nat} {A:Around} (r:Room (k + 1) A) (C:Addr) (us:List Value) (kw:List (Str × Value)):Room k (A.under (.builtin "type.__call__" ⟨.ref C :: us,kw⟩)):=
 ⟨r.hd,by have:=r.dp;rw [make_depth];omega,by have:=r.un;rw [make_units];omega⟩
theorem Room.depth {k:Nat} {A:Around} (r:Room k A):A.depth < recursionLimit:=by have:=r.dp;omega
theorem Room.units {k:Nat} {A:Around} (r:Room k A):A.units + 64 < cLine:=by have:=r.un;omega
theorem Room.units0 {k:Nat} {A:Around} (r:Room k A):A.units < cLine:=by have:=r.un;omega
def tNil:TA:=fun _ H Q=>Q [] H
def tCons (ta:TE) (tr:TA):TA:=fun σ H Q=>ta σ H fun x H1=>tr σ H1 fun xs H2=>Q (x :: xs) H2
section
variable {X:Cx} {e:Expr} {es:List Expr} {te:TE} {t:TA} {pos:Pos}
theorem pa_nil:PA X [] tNil:=fun _ _ _ _ H Q I h=>Calls.spliced_nil ⟨[],H,I,.nil,h⟩
theorem pa_cons (ha:PE X e te) (hr:PA X es t) (hs:starEach (e :: es) X.env = (false,eval e X.env) :: starEach es X.env:=by rfl):PA X (e :: es) (tCons te t):=by
 intro pos pins s σ H Q I h
 rw [hs]
 show wpAny _ _ (spliced ((false,eval e X.env) :: backTo pos (starEach es X.env))) _ _ s
 refine Calls.spliced_cons (thn (ha pins s σ H _ I h) fun u s1 ⟨x,H1,I1,r1,q1⟩=>?_)
 exact thn (hr pos pins s1 σ H1 _ I1 q1) fun us s2 ⟨xs,H2,I2,r2,q2⟩=>⟨x :: xs,H2,I2,.cons r1 r2,q2⟩
def tTup (t:TA):TE:=fun σ H Q=>t σ H fun xs H1=>xs.length ≤ sizeLine/\∀ p,H1 p = none->Q (.ref p) (upd H1 p (.tup xs))
def tLst (t:TA):TE:=fun σ H Q=>t σ H fun xs H1=>xs.length ≤ sizeLine/\∀ p,H1 p = none->Q (.ref p) (upd H1 p (.lst xs))
theorem pe_tup {x1} (h:PA X es t):PE X (.Tuple es x1 pos) (tTup t):=by
 intro pins s σ H Q I hq
 refine wpAny_Tuple_spliced (thn (h pos pins s σ H _ I hq) fun us s1 ⟨xs,H1,I1,r,z,q⟩=>⟨by rw [← r.length];exact z,?_⟩)
 have hf:H1 s1.heap.objs.size = none:=I1.hok.fresh (Nat.le_refl _)
 refine ⟨.ref s1.heap.objs.size,upd H1 s1.heap.objs.size (.tup xs),I1.laid (t':=s1.toks) (fun b u e=>Heap.get?_push_of_some _ e) (Nat.le_refl _) ?_,rfl,q _ hf⟩
 exact ⟨z,us,r,⟨_,Heap.get?_push_size _ rfl,rfl,_,rfl⟩⟩
theorem pe_lst (h:PA X es t):PE X (.List es pos) (tLst t):=by
 intro pins s σ H Q I hq
 refine wpAny_List_spliced (thn (h pos pins s σ H _ I hq) fun us s1 ⟨xs,H1,I1,r,z,q⟩=>⟨by rw [← r.length];exact z,?_⟩)
 have hf:H1 s1.heap.objs.size = none:=I1.hok.fresh (Nat.le_refl _)
 refine ⟨.ref s1.heap.objs.size,upd H1 s1.heap.objs.size (.lst xs),I1.laid (t':=s1.toks) (fun b u e=>Heap.get?_push_of_some _ e) (Nat.le_refl _) ?_,rfl,q _ hf⟩
 exact ⟨z,us,0,r,Heap.get?_push_size _ rfl⟩
end
abbrev Sp:=List V->Hp->VK->XK->Prop
abbrev CXT:=List Env->Hp->Shared->XK->Value->Shared->Prop
structure Env0 (P:Program) (w:World) (K:PySem.W.Frag) (mg:Str->Option Value) (base:Heap) (A:Around) (outer:List Env) (s:Shared) (H:Hp):Prop where
 frames:A.frames = some outer
 mod:Mod K mg base
 bs:∀ b o,base.get? b = some o->s.heap.get? b = some o/\H b = none
 bsz:base.objs.size ≤ s.heap.objs.size
 funs:s.heap.FunFrames base outer
 frf:∀ b ∈ frs outer,H b = none
 hok:HOk P w H s.heap
 bare:AllBare s.gens
def CE (outer:List Env) (P:Program) (w:World) (H:Hp) (s:Shared) (Q:VK) (u:Value) (s':Shared):Prop:=
 ∃ v H',s'.os = s.os/\AllBare s'.gens/\Un (frs outer) [] H H' s.heap s'.heap/\HOk P w H' s'.heap/\RelV v u/\Q v H'
def CR (CX:CXT) (outer:List Env) (P:Program) (w:World) (H:Hp) (s:Shared) (Q:VK) (E:XK) (r:Result) (s':Shared):Prop:=
 match r with
 | .ok (.ret u)=>CE outer P w H s Q u s'
 | .ok _=>False
 | .error e=>CX outer H s E e s'
structure FnOk (P:Program) (w:World) (K:PySem.W.Frag) (mg:Str->Option Value) (base:Heap) (CX:CXT) (k:Nat) (f:Addr) (fd:FuncData) (ps:List Str) (sp:Sp):Prop where
 len:∀ vs H Q E,sp vs H Q E->vs.length = ps.length
 run:∀ (A:Around) (outer:List Env) (s:Shared) (H:Hp) (args:Args) (us:List Value) (vs:List V) (Q:VK) (E:XK),Room k A->Env0 P w K mg base A outer s H->BindsTo s fd args (ps.zip us)->Vals vs us->sp vs H Q E →
  codeAny (model P w) A (.call (.ref f) args) (CR CX outer P w H s Q E) s
theorem FnOk.mono {P:Program} {w:World} {K:PySem.W.Frag} {mg:Str->Option Value} {base:Heap} {CX:CXT} {j k:Nat} {f:Addr} {fd:FuncData} {ps:List Str} {sp:Sp} (F:FnOk P w K mg base CX j f fd ps sp) (h:j ≤ k) :
  FnOk P w K mg base CX k f fd ps sp:=⟨F.len,fun A outer s H args us vs Q E hr=>F.run A outer s H args us vs Q E (hr.mono h)⟩
theorem Env0.make {P:Program} {w:World} {K:PySem.W.Frag} {mg:Str->Option Value} {base:Heap} {A:Around} {outer:List Env} {s:Shared} {H:Hp} (e:Env0 P w K mg base A outer s H) (C:Addr) (us:List Value) (kw:List (Str × Value)) :
  Env0 P w K mg base (A.under (.builtin "type.__call__" ⟨.ref C :: us,kw⟩)) outer s H:=⟨by first | exact e.frames | (simpa [Around.under,Code.envs,Code.isFrame,pushEnvs] using e.frames),e.mod,e.bs,e.bsz,e.funs,e.frf,e.hok,e.bare⟩
theorem Env0.in1 {P:Program} {w:World} {K:PySem.W.Frag} {mg:Str->Option Value} {base:Heap} {A:Around} {outer:List Env} {s:Shared} {H:Hp} (e:Env0 P w K mg base A outer s H) :
  Env0 P w K mg base A.in1 outer s H:=⟨e.frames,e.mod,e.bs,e.bsz,e.funs,e.frf,e.hok,e.bare⟩
section
variable {X:Cx} {pins:List (Addr × Obj)} {σ:St} {H:Hp} {s s':Shared}
theorem Inv.env0 (I:Inv X pins σ H s):Env0 X.prog X.w X.K X.mg X.base X.A X.stack s H:=
 ⟨I.ok.frames,I.ok.mod,I.bs,Nat.le_trans I.ok.bsz I.sz,I.stack,I.stkFree,I.hok,I.bare⟩
theorem Inv.after {Q:VK} {u:Value} (I:Inv X pins σ H s) (h:CE X.stack X.prog X.w H s Q u s'):EP X pins σ Q u s':=by
 obtain ⟨v,H',os,bare,un,hok,r,q⟩:=h
 obtain ⟨hh,g,d,t,os'⟩:=s'
 obtain rfl:os' = s.os:=os
 exact ⟨v,H',I.call (h':=hh) (g':=g) (d':=d) (t':=t) (ch:=[]) un hok bare (fun b z=>absurd z (by simp)),r,q⟩
end
def tCall (sp:Sp) (dvs:List V) (E:XK) (t:TA):TE:=fun σ H Q=>t σ H fun vs H1=>sp (vs ++ dvs) H1 Q E
def tMeth (C:Addr) (m:Str) (sp:Sp) (dvs:List V) (E:XK) (ta:TE) (t:TA):TE:=fun σ H Q=>ta σ H fun x H1=>∃ a dx fs,x = .ref a/\H1 a = some (.ins C dx fs)/\fs.lookup m = none ∧
 t σ H1 fun vs H2=>sp (x :: (vs ++ dvs)) H2 Q E
def tMake (C:Addr) (sp:Sp) (dvs:List V) (E:XK) (t:TA):TE:=fun σ H Q=>t σ H fun vs H1=>∀ x dx,H1 x = none->H1 dx = none->dx ≠ x →
 sp (.ref x :: (vs ++ dvs)) (upd (upd H1 dx (.own x)) x (.ins C dx [])) (fun v H2=>v = .non/\Q (.ref x) H2) E
def Binds (K:PySem.W.Frag) (fd:FuncData) (ps:List Str) (ds:List Value):Prop:=
 ∀ (s:Shared) (us:List Value),K.In s.heap->(us ++ ds).length = ps.length->BindsTo s fd ⟨us,[]⟩ (ps.zip (us ++ ds))
theorem Binds.all {K:PySem.W.Frag} {fd:FuncData} {ps:List Str} (h:∀ us:List Value,us.length = ps.length->bindArgs fd ⟨us,[]⟩ = pure (ps.zip us)):Binds K fd ps []:=fun s us _ hl=>by
 rw [List.append_nil] at hl ⊢
 exact .of_eq (h us hl)
def Passes (CX:CXT) (X:Cx) (E:XK):Prop:=∀ (pins:List (Addr × Obj)) (σ:St) (H:Hp) (s:Shared) (e:Value) (s':Shared),Inv X pins σ H s->CX X.stack H s E e s'->X.xe e s'
section
variable {X:Cx} {CX:CXT} {k:Nat} {f C:Addr} {fd:FuncData} {ps:List Str} {sp:Sp} {dvs:List V} {ds:List Value} {E:XK} {x m:Str} {p pos apos:Pos} {e o:Expr} {es:List Expr} {ta:TE} {t:TA}
theorem run_fn {pins:List (Addr × Obj)} {σ:St} {H:Hp} {s:Shared} {Q:VK} {us:List Value} {vs:List V} (F:FnOk X.prog X.w X.K X.mg X.base CX k f fd ps sp) (hr:Room k X.A) (hb:Binds X.K fd ps ds) (hd:Vals dvs ds) (hx:Passes CX X E)
  (I:Inv X pins σ H s) (r:Vals vs us) (h:sp (vs ++ dvs) H Q E):wpAny (model X.prog X.w) X.A (call (.ref f) us) (EP X pins σ Q) X.xe s:=by
 have r2:Vals (vs ++ dvs) (us ++ ds):=r.append hd
 have hl:(us ++ ds).length = ps.length:=by rw [← r2.length];exact F.len _ _ _ _ h
 refine wpAny_call (codeAny_mono (F.run X.A X.stack s H ⟨us,[]⟩ (us ++ ds) (vs ++ dvs) Q E hr I.env0 (hb s us I.kIn hl) r2 h) fun r s' hq=>?_)
 cases r with
 | error e=>exact hx pins σ H s e s' I hq
 | ok fl=>
  cases fl with
  | ret u=>exact I.after hq
  | next=>exact False.elim hq
  | brk=>exact False.elim hq
  | cont=>exact False.elim hq
theorem pe_call (F:FnOk X.prog X.w X.K X.mg X.base CX k f fd ps sp) (hr:Room k X.A) (hg:Gl X x) (hm:X.mg x = some (.ref f)) (hk:PySem.W.keepIn X.K (.ref f) = true) (hb:Binds X.K fd ps ds) (hd:Vals dvs ds) (hx:Passes CX X E)
  (ha:PA X (e :: es) t) (hdb:(x == ("__debug__":Str)) = false:=by decide) (he:starEach (e :: es) X.env = (false,eval e X.env) :: starEach es X.env:=by rfl) (hpl:(backTo pos (starEach es X.env)).any (·.1) = false:=by rfl) :
  PE X (.Call (.Name x p) (e :: es) [] pos) (tCall sp dvs E t):=by
 intro pins s σ H Q I h
 refine wpAny_Call_Name_kw (ld_glob I hg hm ?_ hdb)
 refine PySem.W.callWith_K (h₀:=X.base) I.ok.mod.kin hk (thn (ha pos pins s σ H _ I h) fun us s1 ⟨vs,H1,I1,r,q⟩=>⟨I1.kIn,?_⟩) he hpl
 exact run_fn F hr hb hd hx I1 r q
structure Mk (K:PySem.W.Frag) (C f:Addr):Prop where
 makes:PySem.W.makesIn K C = true
 init:PySem.W.findIn K (.ref C) "__init__" = some (some (.ref f))
 fn:PySem.W.isFn K (.ref f) = true
 kp:PySem.W.keepIn K (.ref C) = true
end
def PK (X:Cx) (kws:List Keyword) (t:TA):Prop:=
 ∀ (pos:Pos) (pins:List (Addr × Obj)) (s:Shared) (σ:St) (H:Hp) (Q:List V->Hp->Prop),Inv X pins σ H s->t σ H Q->wpAny (model X.prog X.w) X.A (evalAll ((backToKw pos (keywordEach kws X.env)).map (·.2))) (AP X pins σ Q) X.xe s
section
variable {X:Cx} {CX:CXT} {k:Nat} {f C:Addr} {fd:FuncData} {ps ks:List Str} {sp:Sp} {E:XK} {x m:Str} {p pos apos kpos:Pos} {e o:Expr} {es:List Expr} {kws:List Keyword} {te ta:TE} {t tk:TA} {nm:Option Str}
structure KBinds (K:PySem.W.Frag) (fd:FuncData) (ps ks:List Str) (g:List Value->List Value->List Value) (gV:List V->List V->List V):Prop where
 to:∀ (s:Shared) (us ws:List Value),K.In s.heap->(g us ws).length = ps.length->BindsTo s fd ⟨us,ks.zip ws⟩ (ps.zip (g us ws))
 rel:∀ {vs:List V} {us:List Value} {zs:List V} {ws:List Value},Vals vs us->Vals zs ws->Vals (gV vs zs) (g us ws)
def tCallK (sp:Sp) (gV:List V->List V->List V) (E:XK) (t tk:TA):TE:=fun σ H Q=>t σ H fun vs H1=>tk σ H1 fun zs H2=>sp (gV vs zs) H2 Q E
variable {g:List Value->List Value->List Value} {gV:List V->List V->List V}
end
structure FnScope (N P:List Str) (sc:Scope):Prop where
 kind:sc.kind = .function
 co:sc.isCoroutine = false
 gen:sc.isGenerator = false
 nd:N.Nodup
 pre:N.take P.length = P
 par:∀ x ∈ P,sc.names.lookup x = some .local\/sc.names.lookup x = some .cell
 nofree:∀ y ∈ sc.names,y.2 ≠ .free
theorem bindL_out {kindOf:Str->Option NameKind} {x:Str}:∀ {binds:List (Str × Value)} {m:Str->Option Value},(∀ v,(x,v) ∉ binds)->bindL kindOf binds m x = m x
 | [],_,_=>rfl
 | (n,v) :: r,m,h=>by
  unfold bindL
  rw [bindL_out fun w hw=>h w (List.mem_cons_of_mem _ hw)]
  split
  ·have:x ≠ n:=by rintro rfl;exact h v List.mem_cons_self
   simp [this]
  ·rfl
theorem bindC_out {kindOf:Str->Option NameKind} {x:Str}:∀ {binds:List (Str × Value)} {m:Str->Option Value},(∀ v,(x,v) ∉ binds)->bindC kindOf binds m x = m x
 | [],_,_=>rfl
 | (n,v) :: r,m,h=>by
  unfold bindC
  rw [bindC_out fun w hw=>h w (List.mem_cons_of_mem _ hw)]
  split
  ·rfl
  ·have:x ≠ n:=by rintro rfl;exact h v List.mem_cons_self
   simp [this]
theorem bindL_get {kindOf:Str->Option NameKind} {x:Str} {v:Value}:∀ {P:List Str} {vs:List Value} {i:Nat} {m:Str->Option Value},P.Nodup->P[i]? = some x->vs[i]? = some v->kindOf x = some .local →
  bindL kindOf (P.zip vs) m x = some v
 | [],_,_,_,_,h,_,_=>by simp at h
 | _ :: _,[],_,_,_,_,h,_=>by simp at h
 | p :: P,w :: vs,0,m,nd,h1,h2,hk=>by
  simp at h1 h2;subst h1;subst h2
  show bindL kindOf ((p,w) :: P.zip vs) m p = _
  unfold bindL
  rw [bindL_out fun v hv=>(List.nodup_cons.mp nd).1 (List.of_mem_zip hv).1,if_pos hk]
  simp
 | p :: P,w :: vs,i + 1,m,nd,h1,h2,hk=>by
  show bindL kindOf ((p,w) :: P.zip vs) m x = _
  unfold bindL
  exact bindL_get (i:=i) (List.nodup_cons.mp nd).2 (by simpa using h1) (by simpa using h2) hk
theorem bindC_get {kindOf:Str->Option NameKind} {x:Str} {v:Value}:∀ {P:List Str} {vs:List Value} {i:Nat} {m:Str->Option Value},P.Nodup->P[i]? = some x->vs[i]? = some v->kindOf x ≠ some .local →
  bindC kindOf (P.zip vs) m x = some v
 | [],_,_,_,_,h,_,_=>by simp at h
 | _ :: _,[],_,_,_,_,h,_=>by simp at h
 | p :: P,w :: vs,0,m,nd,h1,h2,hk=>by
  simp at h1 h2;subst h1;subst h2
  show bindC kindOf ((p,w) :: P.zip vs) m p = _
  unfold bindC
  rw [bindC_out fun v hv=>(List.nodup_cons.mp nd).1 (List.of_mem_zip hv).1,if_neg hk]
  simp
 | p :: P,w :: vs,i + 1,m,nd,h1,h2,hk=>by
  show bindC kindOf ((p,w) :: P.zip vs) m x = _
  unfold bindC
  exact bindC_get (i:=i) (List.nodup_cons.mp nd).2 (by simpa using h1) (by simpa using h2) hk
def start (N:List Str) (vs:List V):St:=vs.map some ++ List.replicate (N.length - vs.length) none
def cxOf (CX:CXT) (P:Program) (w:World) (K:PySem.W.Frag) (mg:Str->Option Value) (base:Heap) (N:List Str) (qual:Str) (scope:Scope) (f:Addr) (cd:Value) (A:Around) (outer:List Env) (s:Shared) (H:Hp) (E:XK):Cx where
 prog:=P
 w:=w
 K:=K
 mg:=mg
 base:=base
 A:=A.deeper (envOfC qual scope s.heap.objs.size f cd)
 N:=N
 s₀:=s
 H₀:=H
 env:=envOfC qual scope s.heap.objs.size f cd
 outer:=outer
 stack:=envOfC qual scope s.heap.objs.size f cd :: outer
 ex:=[]
 calm:=true
 fn:=fun _=>true
 pn:=[]
 xe:=fun e s'=>wpAny (model P w) (A.deeper (envOfC qual scope s.heap.objs.size f cd)) (leaving (envOfC qual scope s.heap.objs.size f cd) e) (fun _ s''=>CX outer H s E e s'') (fun e' s''=>CX outer H s E e' s'') s'
theorem cell_has {sc:Scope} {n:Nat} {x:Str} (h:sc.names.lookup x = some .cell):∃ c,(cellsFrom n sc.names []).lookup x = some c:=by
 have q:=PySem.W.cellsFrom_some sc.names n [] (.inl h)
 exact Option.isSome_iff_exists.mp q
theorem inv_start {CX:CXT} {P:Program} {w:World} {K:PySem.W.Frag} {mg:Str->Option Value} {base:Heap} {N ps:List Str} {qual:Str} {scope:Scope} {f:Addr} {cd:Value} {A:Around} {outer:List Env} {s s1:Shared} {H:Hp} {E:XK} {us:List Value} {vs:List V}
  (S:FnScope N ps scope) (hd:A.handled = none) (e0:Env0 P w K mg base A outer s H) (hl:vs.length = ps.length) (r:Vals vs us)
  (x:InCallC s s.heap.objs.size (bindL (envOfC qual scope s.heap.objs.size f cd).kindOf (ps.zip us) fun _=>none) (cellsFrom (s.heap.objs.size + 1) scope.names []) (bindC (envOfC qual scope s.heap.objs.size f cd).kindOf (ps.zip us) fun _=>none) s1) :
  Inv (cxOf CX P w K mg base N qual scope f cd A outer s H E) [] (start N vs) H s1:=by
 have hpl:ps.length ≤ N.length:=by have:=congrArg List.length S.pre;rw [List.length_take] at this;omega
 obtain ⟨h1,tk,rfl,hk⟩:=x.done
 have noA:∀ b:Addr,b ∉ (cxOf CX P w K mg base N qual scope f cd A outer s H E).ex:=fun b z=>absurd (show b ∈ ([]:List Addr) from z) (by simp)
 refine ⟨⟨e0.mod,S.kind,rfl,rfl,Nat.le_refl _,fun y z c h1 h2=>?_,fun y hy=>?_,fun y c _ h=>?_,fun _=>hd,Around.frames_deeper e0.frames,.inr ⟨rfl,rfl⟩,fun b z=>absurd z (noA b),e0.bs,e0.bsz,fun b _ _=>noA b,fun b z=>absurd z (noA b),e0.funs,e0.frf⟩,
  rfl,e0.bare,Un.kept hk,⟨_,x.toInCall.ns,fun i y v h1 h2 h3=>?_⟩,fun y c h=>⟨_,x.cell y c h⟩,e0.hok.fresh (Nat.le_refl _),fun y c h=>?_,fun p hp=>absurd (show p ∈ ([]:List (Addr × Obj)) from hp) (by simp),e0.hok.kept hk,?_⟩
 ·exact name_of_addr x.apart (PySem.mem_of_lookup h1) (PySem.mem_of_lookup h2)
 ·have hy:scope.names.lookup y = some .cell\/scope.names.lookup y = some .free:=hy
  rcases hy with hy | hy
  ·exact cell_has hy
  ·exact absurd rfl (S.nofree _ (PySem.mem_of_lookup hy))
 ·exact Nat.le_of_lt (x.above y c (PySem.mem_of_lookup h))
 ·have hi:i < vs.length:=by
   unfold start at h2
   by_cases hi:i < vs.length
   ·exact hi
   ·rw [List.getElem?_append_right (by simpa using hi)] at h2
    rw [List.getElem?_replicate] at h2
    split at h2 <;> cases h2
  have ha:vs[i]? = some v:=by
   unfold start at h2
   rw [List.getElem?_append_left (by simpa using hi),List.getElem?_map] at h2
   cases e:vs[i]? with
   | none=>rw [e] at h2;cases h2
   | some a=>rw [e] at h2;cases h2;rfl
  obtain ⟨u,hu,rv⟩:=r.get ha
  have hp:ps[i]? = some y:=by
   rw [← S.pre,List.getElem?_take_of_lt (by omega)];exact h1
  have ndP:ps.Nodup:=by rw [← S.pre];exact S.nd.sublist (List.take_sublist _ _)
  refine ⟨u,rv,?_⟩
  rcases S.par y (List.mem_of_getElem? hp) with k | k
  ·exact .inl ⟨k,bindL_get ndP hp hu k⟩
  ·obtain ⟨c,e⟩:=cell_has (n:=s.heap.objs.size + 1) k
   refine .inr ⟨.inl k,c,e,?_⟩
   have q:=x.cell y c e
   rw [bindC_get ndP hp hu (by show scope.names.lookup y ≠ _;rw [k];decide)] at q
   exact q
 ·exact e0.hok.fresh (Nat.le_of_lt (x.above y c (PySem.mem_of_lookup h)))
 ·unfold start
  show _ = N.length
  rw [List.length_append,List.length_map,List.length_replicate]
  omega
theorem fn_of {CX:CXT} {P:Program} {w:World} {K:PySem.W.Frag} {mg:Str->Option Value} {base:Heap} {k:Nat} {f:Addr} {name qual:Str} {params:Arguments} {body:List Stmt} {scope:Scope} {dV kV doc pm cdv ct oc:Value} {an od:Option Addr}
  {osl:Array (Option Value)} {N ps:List Str} {sp:Sp} (lk:K.lookup f = some ⟨oc,od,.func (PySem.W.fnOf name qual params body scope dV kV doc pm an cdv ct),osl⟩) (hcd:PySem.W.codeIn K cdv qual = true) (S:FnScope N ps scope)
  (len:∀ vs H Q E,sp vs H Q E->vs.length = ps.length)
  (hbody:∀ (A:Around) (outer:List Env) (s:Shared) (H:Hp) (vs:List V) (Q:VK) (E:XK),Room k (A.deeper (envOfC qual scope s.heap.objs.size f cdv))->sp vs H Q E →
   ∃ t,PSs (cxOf CX P w K mg base N qual scope f cdv A outer s H E) body t/\t { nx:=fun _ H'=>Q .non H',rt:=Q } (start N vs) H) :
  FnOk P w K mg base CX (k + 1) f (PySem.W.fnOf name qual params body scope dV kV doc pm an cdv ct) ps sp:=by
 refine ⟨len,fun A outer s H args us vs Q E hr e0 hb r hsp=>?_⟩
 have hl:=len _ _ _ _ hsp
 have KX:K.In s.heap:=e0.mod.kin.keeps fun b o e=>(e0.bs b o e).1
 have lim:s.heap.NoLimit:=e0.mod.nolimit.keeps fun b o e=>(e0.bs b o e).1
 have hkind:∀ y ∈ ps.zip us,scope.names.lookup y.1 = some .local\/(scope.names.lookup y.1 = some .cell/\((cellsFrom (s.heap.objs.size + 1) scope.names []).lookup y.1).isSome = true):=fun ⟨n,v⟩ hy=>by
  rcases S.par n (List.of_mem_zip hy).1 with q | q
  ·exact .inl q
  ·exact .inr ⟨q,PySem.W.cellsFrom_some _ _ _ (.inl q)⟩
 refine codeAny_call_function hr.depth (KX _ _ lk) rfl S.co S.gen rfl (PySem.W.codeRec_of KX hcd) (hb _ _ _ _ ?_)
 refine wpAny_newFunctionEnv_cells S.kind hkind fun env he s1 x=>?_
 subst he
 refine ⟨lim.keeps x.toInCall.keep,codeAny_func ?_⟩
 obtain ⟨t,ht,hq⟩:=hbody A outer s H vs Q E (hr.deeper _) hsp
 have I:Inv (cxOf CX P w K mg base N qual scope f cdv A outer s H E) [] (start N vs) H s1:=inv_start S hr.hd e0 hl r x
 refine wpAny_mono (ht [] s1 (start N vs) H _ I hq) (fun fl s' hs=>?_) fun e s' hs=>hs
 have fin:∀ {σ':St} {H':Hp} {v:V} {u:Value},Inv (cxOf CX P w K mg base N qual scope f cdv A outer s H E) [] σ' H' s'->RelV v u->Q v H'->CE outer P w H s Q u s':=
  fun {σ' H' v u} J rv q=>⟨v,H',J.os,J.bare,J.base,J.hok,rv,q⟩
 cases fl with
 | ret u=>
  obtain ⟨v,σ',H',J,rv,q⟩:=hs
  exact fin J rv q
 | next=>
  obtain ⟨σ',H',J,q⟩:=hs
  exact fin (v:=V.non) (u:=Value.none) J rfl q
 | brk=>
  obtain ⟨_,_,_,q⟩:=hs
  exact False.elim q
 | cont=>
  obtain ⟨_,_,_,q⟩:=hs
  exact False.elim q
end L2
namespace L2
open PySem PySem.Spec PyProof.Rows
section
variable {X:Cx} {x:Str} {p pos:Pos} {e:Expr} {es:List Expr} {t:TA} {id T:String} {r:List V->Hp->VK->Prop}
def tCB (r:List V->Hp->VK->Prop) (t:TA):TE:=fun σ H Q=>t σ H fun vs H1=>r vs H1 Q
theorem pe_callB (hc:CallR X (.builtin id) r) (hg:Gl X x) (hm:X.mg x = none) (hv:bootBuiltins x = some (.builtin id)) (ha:PA X (e :: es) t) (hn:x ≠ "__name__":=by decide) (hdb:(x == ("__debug__":Str)) = false:=by decide)
  (he:starEach (e :: es) X.env = (false,eval e X.env) :: starEach es X.env:=by rfl) (hpl:(backTo pos (starEach es X.env)).any (·.1) = false:=by rfl):PE X (.Call (.Name x p) (e :: es) [] pos) (tCB r t):=by
 intro pins s σ H Q I h
 refine wpAny_Call_Name_kw (ld_blt I hg hm hv ?_ hn hdb)
 exact PyProof.Rows.callWith_builtin1 (thn (ha pos pins s σ H _ I h) fun us s1 ⟨vs,H1,I1,r1,q1⟩=>hc pins s1 σ H1 vs us Q I1 r1 q1) he hpl
theorem pe_callTy (hc:CallR X (.type T) r) (hg:Gl X x) (hm:X.mg x = none) (hv:bootBuiltins x = some (.type T)) (ha:PA X (e :: es) t) (hn:x ≠ "__name__":=by decide) (hdb:(x == ("__debug__":Str)) = false:=by decide)
  (he:starEach (e :: es) X.env = (false,eval e X.env) :: starEach es X.env:=by rfl) (hpl:(backTo pos (starEach es X.env)).any (·.1) = false:=by rfl):PE X (.Call (.Name x p) (e :: es) [] pos) (tCB r t):=by
 intro pins s σ H Q I h
 refine wpAny_Call_Name_kw (ld_blt I hg hm hv ?_ hn hdb)
 exact PyProof.Rows.callWith_type1 (thn (ha pos pins s σ H _ I h) fun us s1 ⟨vs,H1,I1,r1,q1⟩=>hc pins s1 σ H1 vs us Q I1 r1 q1) he hpl
end
end L2
namespace HT
open PySem PyProof.Rows
def lexLt:List Int->List Int->Bool
 | [],[]=>false
 | [],_ :: _=>true
 | _ :: _,[]=>false
 | x :: xs,y :: ys=>if x = y then lexLt xs ys else decide (x < y)
section
open PySem.SeqAt
open PySem.AutoSeq1 (wpAny_loadPart')
open PySem.MeetsSeq PySem.MeetsSeq2 PySem.MeetsSeq3
end
section
variable {prog:Program} {w:World} {A:Around} {E:Value->Shared->Prop} {s:Shared}
def sIx (n d:Nat):Option Int->Nat
 | none=>d
 | some v=>if v < 0 then (v + (n:Int)).toNat else min v.toNat n
theorem sIx_none (n d:Nat):sIx n d none = d:=rfl
theorem clip_eq (v:Int) (n d:Nat):(if v < 0 then max (v + (n:Int)) 0 else min v (n:Int)) = ((sIx n d (some v):Nat):Int):=by
 show (if v < 0 then max (v + (n:Int)) 0 else min v (n:Int)) = (((if v < 0 then (v + (n:Int)).toNat else min v.toNat n):Nat):Int)
 by_cases hv:v < 0
 ·simp only [if_pos hv];omega
 ·simp only [if_neg hv];omega
end
end HT
namespace L2
open PySem PySem.Spec PyProof.Rows
abbrev TO:=St->Hp->(Option Int->Hp->Prop)->Prop
def PO (X:Cx) (e:Option Expr) (t:TO):Prop:=
 ∀ (pins:List (Addr × Obj)) (s:Shared) (σ:St) (H:Hp) (Q:Option Int->Hp->Prop),Inv X pins σ H s->t σ H Q →
  wpAny (model X.prog X.w) X.A (evalPart e X.env) (fun u s'=>∃ o H',Inv X pins σ H' s'/\IsPart u o/\Q o H') X.xe s
def tNoPart:TO:=fun _ H Q=>Q none H
def tPart (t:TE):TO:=fun σ H Q=>t σ H fun x H1=>∃ i,x = .int i/\Q (some i) H1
section
variable {X:Cx} {e:Expr} {te:TE} {lo hi:Option Expr} {tl th:TO} {pos p2:Pos}
theorem po_none:PO X none tNoPart:=by
 intro pins s σ H Q I h
 rw [evalPart_none]
 exact wpAny_pure ⟨none,H,I,.none,h⟩
theorem po_some (h:PE X e te):PO X (some e) (tPart te):=by
 intro pins s σ H Q I hw
 rw [evalPart_some]
 refine thn (h pins s σ H _ I hw) fun u s1 ⟨x,H1,I1,r1,q1⟩=>?_
 obtain ⟨i,rfl,q⟩:=q1
 obtain ⟨t,rfl⟩:=r1
 exact ⟨some i,H1,I1,.int i t,q⟩
def SlR (X:Cx) (r:V->Option Int->Option Int->Hp->VK->Prop):Prop:=
 ∀ (pins:List (Addr × Obj)) (s:Shared) (σ:St) (H:Hp) (x:V) (v vl vu:Value) (lo hi:Option Int) (sl:Addr) (Q:VK),Inv X pins σ H s->RelV x v->s.heap.IsSliceOf sl vl vu .none->IsPart vl lo->IsPart vu hi->r x lo hi H Q →
  ∃ T id,typeLookup (.type T) "__getitem__" = pure (some (.builtin id))/\s.TypeIs v T/\wpAny (model X.prog X.w) X.A (getItem v (.ref sl)) (EP X pins σ Q) X.xe s
def tSl (r:V->Option Int->Option Int->Hp->VK->Prop) (te:TE) (tl th:TO):TE:=fun σ H Q=>te σ H fun x H1=>tl σ H1 fun l H2=>th σ H2 fun u H3=>r x l u H3 Q
theorem pe_slice {r:V->Option Int->Option Int->Hp->VK->Prop} (hr:SlR X r) (he:PE X e te) (hl:PO X lo tl) (hu:PO X hi th):PE X (.Subscript e (.Slice lo hi none p2) pos) (tSl r te tl th):=by
 intro pins s σ H Q I h
 refine Subscript_ (thn (he pins s σ H _ I h) fun v s1 ⟨x,H1,I1,r1,q1⟩=>?_)
 refine wpAny_Slice (thn (hl pins s1 σ H1 _ I1 q1) fun vl s2 ⟨l,H2,I2,pl,q2⟩=>thn (hu pins s2 σ H2 _ I2 q2) fun vu s3 ⟨u,H3,I3,pu,q3⟩=>?_)
 rw [evalPart_none]
 refine wpAny_pure ?_
 have I4:Inv X pins σ H3 { s3 with heap:=s3.heap.push { cls:=.type "slice",data:=.fields #[vl,vu,.none] } }:=I3.kept (t':=s3.toks) fun b ob q=>Heap.get?_push_of_some _ q
 obtain ⟨T,id,hT,ht,hg⟩:=hr pins { s3 with heap:=s3.heap.push { cls:=.type "slice",data:=.fields #[vl,vu,.none] } } σ H3 x v vl vu l u s3.heap.objs.size Q I4 r1 (Heap.IsSliceOf.new ..) pl pu q3
 show wpAny (model X.prog X.w) X.A (subscriptTail e (.Slice lo hi none p2) v (.ref s3.heap.objs.size)) (EP X pins σ Q) X.xe { s3 with heap:=s3.heap.push { cls:=.type "slice",data:=.fields #[vl,vu,.none] } }
 exact tail_any (ops:=[.ref s3.heap.objs.size,v]) ht hT hg (by with_unfolding_all rfl)
def cutV (xs:List V) (lo hi:Option Int):List V:=(xs.drop (HT.sIx xs.length 0 lo)).take (HT.sIx xs.length xs.length hi - HT.sIx xs.length 0 lo)
theorem cutV_length (xs:List V) (lo hi:Option Int):(cutV xs lo hi).length ≤ xs.length:=by
 unfold cutV
 rw [List.length_take,List.length_drop]
 omega
def rSlT (K:PySem.W.Frag):V->Option Int->Option Int->Hp->VK->Prop:=fun x lo hi H Q=>∃ a xs,x = .ref a/\SqT K H a xs ∧
 ¬ (HT.sIx xs.length 0 lo = 0/\HT.sIx xs.length xs.length hi = xs.length)/\∀ p,H p = none->Q (.ref p) (upd H p (.tup (cutV xs lo hi)))
def rLtT (K:PySem.W.Frag):R2:=fun x y H Q=>∃ a b ns ms,x = .ref a/\y = .ref b/\SqT K H a (ns.map V.int)/\SqT K H b (ms.map V.int)/\Q (.bl (HT.lexLt ns ms)) H
def rCatT (K:PySem.W.Frag):R2:=fun x y H Q=>∃ a b xs ys,x = .ref a/\y = .ref b/\SqT K H a xs/\SqT K H b ys/\xs ≠ []/\xs.length + ys.length ≤ sizeLine ∧
 (ys = []->Q (.ref a) H)/\(ys ≠ []->∀ p,H p = none->Q (.ref p) (upd H p (.tup (xs ++ ys))))
end
end L2
namespace L2
open PySem PySem.Spec PyProof.Rows
def ixN (n:Nat) (i:Int):Option Nat:=if 0 ≤ i then (if i < n then some i.toNat else none) else if -(n:Int) ≤ i then some (i + n).toNat else none
def atI {α:Type} (xs:List α) (i:Int):Option α:=(ixN xs.length i).bind fun j=>xs[j]?
theorem ixN_seq {n:Nat} {i:Int} {j:Nat} (h:ixN n i = some j):seqIndex? i n = some j/\j < n/\-(n:Int) ≤ i/\i < n:=by
 unfold ixN at h
 by_cases h0:0 ≤ i
 ·rw [if_pos h0] at h
  by_cases h1:i < n
  ·rw [if_pos h1] at h
   have e:i.toNat = j:=Option.some.inj h
   exact ⟨by rw [seqIndex_of h0 h1,e],by omega,by omega,h1⟩
  ·rw [if_neg h1] at h;cases h
 ·rw [if_neg h0] at h
  by_cases h1:-(n:Int) ≤ i
  ·rw [if_pos h1] at h
   have e:(i + n).toNat = j:=Option.some.inj h
   exact ⟨by rw [seqIndex_neg (by omega) h1,e],by omega,h1,by omega⟩
  ·rw [if_neg h1] at h;cases h
theorem atI_get {α:Type} {xs:List α} {i:Int} {v:α} (h:atI xs i = some v):∃ j,seqIndex? i xs.length = some j/\xs[j]? = some v/\j < xs.length/\-(xs.length:Int) ≤ i/\i < xs.length:=by
 unfold atI at h
 cases e:ixN xs.length i with
 | none=>rw [e] at h;cases h
 | some j=>
  rw [e] at h
  obtain ⟨h1,h2,h3,h4⟩:=ixN_seq e
  exact ⟨j,h1,h,h2,h3,h4⟩
theorem atI_nat {α:Type} {xs:List α} {j:Nat} {v:α} (h:xs[j]? = some v):atI xs (j:Int) = some v:=by
 have hj:j < xs.length:=(List.getElem?_eq_some_iff.mp h).1
 have e:ixN xs.length (j:Int) = some j:=by
  unfold ixN
  rw [if_pos (by omega),if_pos (by omega)];simp
 unfold atI;rw [e];exact h
def PlainIx (b:Expr):Prop:=∀ o i,subscripted b false o i = operate [o,i] (getItem o i)
def IxR (X:Cx) (r:R2):Prop:=
 ∀ (value slice:Expr) (pins:List (Addr × Obj)) (s:Shared) (σ:St) (H:Hp) (x y:V) (v u:Value) (Q:VK),Inv X pins σ H s->RelV x v->RelV y u->r x y H Q →
  subscripted slice false v u = operate [v,u] (getItem v u)->wpAny (model X.prog X.w) X.A (subscriptTail value slice v u) (EP X pins σ Q) X.xe s
def MtR (X:Cx) (id:String) (r:V->List V->Hp->VK->Prop):Prop:=
 ∀ (pins:List (Addr × Obj)) (s:Shared) (σ:St) (H:Hp) (x:V) (xs:List V) (v:Value) (us:List Value) (Q:VK),Inv X pins σ H s->RelV x v->Vals xs us->r x xs H Q →
  wpAny (model X.prog X.w) X.A (call (.builtin id) (v :: us)) (EP X pins σ Q) X.xe s
section
variable {X:Cx} {a b:Expr} {ta tb:TE} {pos:Pos}
theorem pe_ix {r:R2} (hr:IxR X r) (ha:PE X a ta) (hb:PE X b tb) (hs:PlainIx b):PE X (.Subscript a b pos) (tOp r ta tb):=by
 intro pins s σ H Q I h
 exact Subscript_ (binT ha hb I h fun v u s2 x y H2 I2 rx ry q=>hr a b pins s2 σ H2 x y v u Q I2 rx ry q (hs _ _))
def rIxL (K:PySem.W.Frag):R2:=fun x y H Q=>∃ p xs i v,x = .ref p/\y = .int i/\SqL K H p xs/\atI xs i = some v/\Q v H
def rIxT (K:PySem.W.Frag):R2:=fun x y H Q=>∃ p xs i v,x = .ref p/\y = .int i/\SqT K H p xs/\atI xs i = some v/\Q v H
def rIxS:R2:=fun x y H Q=>∃ z i c,x = .str z/\y = .int i/\z.length ≤ sizeLine/\atI z.cps.toList i = some c/\Q (.str ⟨#[c]⟩) H
theorem ix_list:IxR X (rIxL X.K):=by
 intro value slice pins s σ H x y v u Q I rx ry h hs
 obtain ⟨p,xs,i,z,rfl,rfl,hq,he,q⟩:=h
 cases rx
 obtain ⟨t,rfl⟩:=ry
 obtain ⟨its,r,pl,hz⟩:=I.list hq
 obtain ⟨j,h1,h2,h3,h4,h5⟩:=atI_get he
 obtain ⟨w,ew,rw'⟩:=r.get h2
 have hl:=r.length
 have hn:=line63
 have fin:EP X pins σ Q w s:=⟨z,H,I,rw',q⟩
 by_cases h0:0 ≤ i
 ·have hj:i.toNat = j:=by
   rw [seqIndex_of h0 h5] at h1
   exact Option.some.inj h1
  exact item_listR pl.isList h0 (by omega) (by rw [hj];simpa using ew) fin hs
 ·have hj:(i + (its.toArray.size:Int)).toNat = j:=by
   rw [seqIndex_neg (by omega) h4] at h1
   rw [List.size_toArray,← hl]
   exact Option.some.inj h1
  exact subscriptTail_builtinR (x:=w) pl.isList.typeIs slot_list_getitem.lookup
   (wpAny_getItem_list_neg (Q:=fun r s'=>r = w/\EP X pins σ Q r s') pl.isList (by omega) (by rw [List.size_toArray] <;> omega) (by omega) (by rw [hj];simpa using ew) ⟨rfl,fin⟩) hs
theorem ix_tup:IxR X (rIxT X.K):=by
 intro value slice pins s σ H x y v u Q I rx ry h hs
 obtain ⟨p,xs,i,z,rfl,rfl,hq,he,q⟩:=h
 cases rx
 obtain ⟨t,rfl⟩:=ry
 obtain ⟨its,r,pl,hz⟩:=I.tuple hq
 obtain ⟨j,h1,h2,h3,h4,h5⟩:=atI_get he
 obtain ⟨w,ew,rw'⟩:=r.get h2
 have hl:=r.length
 have hn:=line63
 have fin:EP X pins σ Q w s:=⟨z,H,I,rw',q⟩
 exact subscriptTail_builtinR (x:=w) pl.typeIs slot_tuple_getitem.lookup
  (getItem_tuple (j:=j) (Q:=fun r s'=>r = w/\EP X pins σ Q r s') pl (by omega) (by omega) (by rw [List.size_toArray,← hl];exact h1) (by simpa using ew) ⟨rfl,fin⟩) hs
theorem ix_str:IxR X rIxS:=by
 intro value slice pins s σ H x y v u Q I rx ry h hs
 obtain ⟨z,i,c,rfl,rfl,hz,he,q⟩:=h
 obtain ⟨t,rfl⟩:=rx
 obtain ⟨t',rfl⟩:=ry
 obtain ⟨j,h1,h2,h3,h4,h5⟩:=atI_get he
 have hl:z.cps.toList.length = z.length:=by simp [Str.length]
 rw [hl] at h1 h4 h5
 have hn:=line63
 exact tail_any (typeIs_str s z t) slot_str_getitem.lookup (getItem_str (c:=c) (by
  have e1:decide (i < -(2 ^ 63:Int)) = false:=decide_eq_false (by omega)
  have e2:decide (i ≥ 2 ^ 63) = false:=decide_eq_false (by omega)
  rw [e1,e2,Bool.or_false]) (by rw [h1];simpa using h2) ⟨.str ⟨#[c]⟩,H,I.tok _,⟨_,rfl⟩,q⟩) hs
def rIx (K:PySem.W.Frag):R2:=fun x y H Q=>rIxL K x y H Q\/rIxT K x y H Q\/rIxS x y H Q
def rSetL:V->V->V->Hp->(Hp->Prop)->Prop:=fun o i v H Q=>∃ p xs k j,o = .ref p/\i = .int k/\H p = some (.lst xs)/\ixN xs.length k = some j/\Q (upd H p (.lst (xs.set j v)))
theorem slice_bounds (lo hi:Option Int) (n:Nat):(sliceBounds lo hi none n).1 = ((HT.sIx n 0 lo:Nat):Int)/\(sliceBounds lo hi none n).2.1 = ((HT.sIx n n hi:Nat):Int)/\(sliceBounds lo hi none n).2.2 = 1:=by
 refine ⟨?_,?_,rfl⟩
 ·cases lo with
  | none=>simp [sliceBounds,HT.sIx]
  | some i=>
   simp only [sliceBounds,HT.sIx,Option.getD_none,show (1:Int) > 0 by decide,if_true]
   by_cases h:i < 0
   ·simp only [h,if_true] <;> omega
   ·simp only [h,if_false] <;> omega
 ·cases hi with
  | none=>simp [sliceBounds,HT.sIx]
  | some i=>
   simp only [sliceBounds,HT.sIx,Option.getD_none,show (1:Int) > 0 by decide,if_true]
   by_cases h:i < 0
   ·simp only [h,if_true] <;> omega
   ·simp only [h,if_false] <;> omega
theorem slicePick_cut (its:List Value) (lo hi:Option Int):slicePick its.toArray lo hi none = ((its.drop (HT.sIx its.length 0 lo)).take (HT.sIx its.length its.length hi - HT.sIx its.length 0 lo)).toArray:=by
 obtain ⟨h1,h2,h3⟩:=slice_bounds lo hi its.toArray.size
 unfold slicePick
 rw [h1,h2,h3]
 simp only [sliceRange_one,pick_run,List.size_toArray] <;> rfl
def rSlL (K:PySem.W.Frag):V->Option Int->Option Int->Hp->VK->Prop:=fun x lo hi H Q=>∃ a xs,x = .ref a/\SqL K H a xs/\∀ p,H p = none->Q (.ref p) (upd H p (.lst (cutV xs lo hi)))
theorem sl_list:SlR X (rSlL X.K):=by
 intro pins s σ H x v vl vu lo hi sl Q I rx hs pl pu h
 obtain ⟨a,xs,rfl,hx,q⟩:=h
 cases rx
 obtain ⟨its,r,ht,hz⟩:=I.list hx
 have hlen:=r.length
 refine ⟨"list",_,slot_list_getitem.lookup,ht.isList.typeIs,?_⟩
 refine wpAny_getItem_list_slice ht.isList hs pl pu .none (by simp) ?_ (by rw [List.size_toArray] <;> omega)
 rw [slicePick_cut,← hlen]
 refine ⟨.ref s.heap.objs.size,_,I.laid (t':=s.toks) (o:=.lst (cutV xs lo hi)) (fun b ob q=>Heap.get?_push_of_some _ q) (Nat.le_refl _) ?_,rfl,q _ (I.hok.fresh (Nat.le_refl _))⟩
 exact ⟨Nat.le_trans (cutV_length xs lo hi) hz,_,0,(r.drop (HT.sIx xs.length 0 lo)).take (HT.sIx xs.length xs.length hi - HT.sIx xs.length 0 lo),Heap.get?_push_size _ rfl⟩
def flatV:V->Bool
 | .non=>true
 | .bl _=>true
 | .int _=>true
 | .str _=>true
 | _=>false
def eqV:V->V->Bool
 | .non,.non=>true
 | .bl a,.bl b=>a == b
 | .bl a,.int b=>(if a then 1 else 0) == b
 | .int a,.bl b=>a == (if b then 1 else 0)
 | .int a,.int b=>a == b
 | .str a,.str b=>a == b
 | _,_=>false
theorem eqAt_V {A:Around} {s:Shared} {y x:V} {u v:Value} (ry:RelV y u) (rx:RelV x v) (fy:flatV y = true) (fx:flatV x = true):SeqAt.EqAt A s u v (eqV y x):=by
 cases y with
 | non=>
  cases ry
  cases x with
  | non=>cases rx;exact SeqAt.EqAt.same _
  | bl b=>cases rx;exact SeqAt.EqAt.none_bool b
  | int b=>obtain ⟨t,rfl⟩:=rx;exact SeqAt.EqAt.none_int b t
  | str b=>obtain ⟨t,rfl⟩:=rx;exact SeqAt.EqAt.none_str b t
  | _=>exact absurd (show false = true from fx) Bool.false_ne_true
 | bl a=>
  cases ry
  cases x with
  | non=>cases rx;exact SeqAt.EqAt.bool_none a
  | bl b=>cases rx;exact SeqAt.EqAt.bool_bool a b
  | int b=>obtain ⟨t,rfl⟩:=rx;exact SeqAt.EqAt.bool_int a b t
  | str b=>obtain ⟨t,rfl⟩:=rx;exact SeqAt.EqAt.bool_str a b t
  | _=>exact absurd (show false = true from fx) Bool.false_ne_true
 | int a=>
  obtain ⟨t',rfl⟩:=ry
  cases x with
  | non=>cases rx;exact SeqAt.EqAt.int_none a t'
  | bl b=>cases rx;exact SeqAt.EqAt.int_bool a t' b
  | int b=>obtain ⟨t,rfl⟩:=rx;exact SeqAt.EqAt.int_int a t' b t
  | str b=>obtain ⟨t,rfl⟩:=rx;exact SeqAt.EqAt.int_str a t' b t
  | _=>exact absurd (show false = true from fx) Bool.false_ne_true
 | str a=>
  obtain ⟨t',rfl⟩:=ry
  cases x with
  | non=>cases rx;exact SeqAt.EqAt.str_none a t'
  | bl b=>cases rx;exact SeqAt.EqAt.str_bool a t' b
  | int b=>obtain ⟨t,rfl⟩:=rx;exact SeqAt.EqAt.str_int a t' b t
  | str b=>obtain ⟨t,rfl⟩:=rx;exact SeqAt.EqAt.str_str a t' b t
  | _=>exact absurd (show false = true from fx) Bool.false_ne_true
 | _=>exact absurd (show false = true from fy) Bool.false_ne_true
def eqU (x:V) (u:Value):Bool:=match u with
 | .none=>eqV .non x
 | .bool b=>eqV (.bl b) x
 | .int i _=>eqV (.int i) x
 | .str z _=>eqV (.str z) x
 | _=>false
theorem eqU_of {x y:V} {u:Value} (r:RelV y u) (f:flatV y = true):eqU x u = eqV y x:=by
 cases y with
 | non=>cases r;rfl
 | bl b=>cases r;rfl
 | int i=>obtain ⟨t,rfl⟩:=r;rfl
 | str z=>obtain ⟨t,rfl⟩:=r;rfl
 | _=>exact absurd (show false = true from f) Bool.false_ne_true
theorem any_eqU {x:V}:∀ {xs:List V} {us:List Value},Vals xs us->xs.all flatV = true->us.any (eqU x) = xs.any fun y=>eqV y x
 | _,_,.nil,_=>rfl
 | y :: xs,u :: us,.cons r t,f=>by
  rw [List.all_cons,Bool.and_eq_true] at f
  rw [List.any_cons,List.any_cons,eqU_of r f.1,any_eqU t f.2]
theorem mem_eqAt {A:Around} {s:Shared} {x:V} {v:Value} (rx:RelV x v) (fx:flatV x = true):∀ {xs:List V} {us:List Value},Vals xs us->xs.all flatV = true->∀ u ∈ us,SeqAt.EqAt A s u v (eqU x u)
 | _,_,.nil,_=>fun u hu=>by cases hu
 | y :: xs,u :: us,.cons r t,f=>fun u' hu=>by
  rw [List.all_cons,Bool.and_eq_true] at f
  rcases List.mem_cons.mp hu with rfl | hu
  ·rw [eqU_of r f.1];exact eqAt_V r rx f.1 fx
  ·exact mem_eqAt rx fx t f.2 u' hu
def inV (x:V) (xs:List V):Bool:=xs.any fun y=>eqV y x
def rIn (K:PySem.W.Frag) (neg:Bool):R2:=fun x y H Q=>∃ p xs,y = .ref p/\(SqL K H p xs\/SqT K H p xs)/\flatV x = true/\xs.all flatV = true/\Q (.bl (if neg then !inV x xs else inV x xs)) H
theorem op_notIn_seq:OpR X (compareOp .NotIn) (rIn X.K true):=by
 intro pins s σ H x y v u Q I rx ry h
 obtain ⟨p,xs,rfl,hq,fx,fs,q⟩:=h
 cases ry
 rcases hq with hq | hq
 ·obtain ⟨its,r,pl,hz⟩:=I.list hq
  refine SeqAt.notIn_listAt (eqU x) pl.isList (fun w hw=>mem_eqAt rx fx r fs w (by simpa using hw)) ⟨.bl _,H,I,rfl,?_⟩
  rw [show its.toArray.any (eqU x) = its.any (eqU x) by simp,any_eqU r fs]
  exact q
 ·obtain ⟨its,r,pl,hz⟩:=I.tuple hq
  refine SeqAt.notIn_tupleAt (eqU x) pl (fun w hw=>mem_eqAt rx fx r fs w (by simpa using hw)) ⟨.bl _,H,I,rfl,?_⟩
  rw [show its.toArray.any (eqU x) = its.any (eqU x) by simp,any_eqU r fs]
  exact q
theorem call_len_seq:CallR X (.builtin "len") (fun xs H Q=>∃ p ys,xs = [.ref p]/\(SqL X.K H p ys\/SqT X.K H p ys)/\Q (.int ys.length) H):=by
 intro pins s σ H xs us Q I r h
 obtain ⟨p,ys,rfl,hq,q⟩:=h
 obtain ⟨u,rfl,rx⟩:=vals1 r
 cases rx
 have hn:=line63
 rcases hq with hq | hq
 ·obtain ⟨its,r',pl,hz⟩:=I.list hq
  have hlen:=r'.length
  exact Calls.call_len_list pl.isList (by simp only [List.size_toArray] <;> omega) ⟨.int ys.length,H,I.tok _,⟨s.toks + 1,by rw [List.size_toArray,hlen]⟩,q⟩
 ·obtain ⟨its,r',pl,hz⟩:=I.tuple hq
  have hlen:=r'.length
  exact len_tuple pl (by simp only [List.size_toArray] <;> omega) ⟨.int ys.length,H,I.tok _,⟨s.toks + 1,by rw [List.size_toArray,hlen]⟩,q⟩
theorem call_len_str:CallR X (.builtin "len") (fun xs H Q=>∃ z,xs = [.str z]/\z.length ≤ sizeLine/\Q (.int z.length) H):=by
 intro pins s σ H xs us Q I r h
 obtain ⟨z,rfl,hz,q⟩:=h
 obtain ⟨u,rfl,t,rfl⟩:=vals1 r
 have hn:=line63
 exact len_str (by omega) ⟨.int z.length,H,I.tok _,⟨_,rfl⟩,q⟩
theorem call_tuple_of:CallR X (.type "tuple") (fun xs H Q=>∃ p ys,xs = [.ref p]/\((SqL X.K H p ys/\∀ l,H l = none->Q (.ref l) (upd H l (.tup ys)))\/(SqT X.K H p ys/\Q (.ref p) H))):=by
 intro pins s σ H xs us Q I r h
 obtain ⟨p,ys,rfl,h⟩:=h
 obtain ⟨u,rfl,rx⟩:=vals1 r
 cases rx
 rcases h with ⟨hq,q⟩ | ⟨hq,q⟩
 ·obtain ⟨its,r',pl,hz⟩:=I.list hq
  have hlen:=r'.length
  refine call_tuple_list pl.isList (fun h' kp=>?_) (by simp only [List.size_toArray] <;> omega)
  have I1:Inv X pins σ H { s with heap:=h' }:=I.kept (t':=s.toks) kp
  have I2:Inv X pins σ (upd H h'.objs.size (.tup ys)) { s with heap:=h'.push { cls:=.type "tuple",data:=.seq its.toArray } }:=
   I1.laid (t':=s.toks) (fun b o e=>Heap.get?_push_of_some _ e) (Nat.le_refl _) (show ObjOk X.prog X.w _ _ _ (.tup ys) from ⟨hz,its,r',IsTup.new _ _⟩)
  exact ⟨.ref h'.objs.size,_,I2,rfl,q _ (I1.hok.fresh (Nat.le_refl _))⟩
 ·obtain ⟨its,r',pl,hz⟩:=I.tuple hq
  exact call_tuple_same pl ⟨.ref p,H,I,rfl,q⟩
def tyV (K:PySem.W.Frag) (T:String) (x:V) (H:Hp):Prop:=match x with
 | .str _=>T = "str"
 | .int _=>T = "int"
 | .ref p=>(T = "list"/\∃ xs,SqL K H p xs)\/(T = "tuple"/\∃ o,K.lookup p = some o/\o.cls = .type "tuple"/\o.dict = none) ∨
   (T = "dict"/\((∃ kvs,H p = some (.dK kvs))\/∃ kvs,H p = some (.dT kvs)))\/(T = "set"/\∃ S n,H p = some (.set S n))
 | _=>False
theorem tyV_is {pins:List (Addr × Obj)} {σ:St} {H:Hp} {s:Shared} {T:String} {x:V} {v:Value} (I:Inv X pins σ H s) (r:RelV x v) (ty:tyV X.K T x H) :
  s.TypeIs v T/\∀ a,v = .ref a->∃ ob,s.heap.get? a = some ob/\ob.dict = none:=by
 cases x with
 | str z=>
  obtain ⟨t,rfl⟩:=r
  cases (show T = "str" from ty)
  exact ⟨typeIs_str s z t,fun _ e=>nomatch e⟩
 | int i=>
  obtain ⟨t,rfl⟩:=r
  cases (show T = "int" from ty)
  exact ⟨typeIs_int s i t,fun _ e=>nomatch e⟩
 | ref p=>
  cases r
  rcases ty with ⟨rfl,xs,hq⟩ | ⟨rfl,o,hk,hc,hd⟩ | ⟨rfl,hk⟩ | ⟨rfl,S,n,hk⟩
  ·obtain ⟨its,_,pl,_⟩:=I.list hq
   refine ⟨pl.isList.typeIs,fun a e=>?_⟩
   cases e
   obtain ⟨o,n,e,c,hd,_⟩:=pl
   exact ⟨o,e,hd⟩
  ·refine ⟨⟨o,I.kIn p o hk,hc⟩,fun a e=>?_⟩
   cases e
   exact ⟨o,I.kIn _ o hk,hd⟩
  ·have z:∃ o,s.heap.get? p = some o/\o.ExactDict:=by
    rcases hk with ⟨kvs,hk⟩ | ⟨kvs,hk⟩
    ·obtain ⟨_,_,_,_,o,_,_,e,ex,_⟩:=I.hok p _ hk
     exact ⟨o,e,ex⟩
    ·obtain ⟨_,_,_,_,o,_,_,e,ex,_⟩:=I.hok p _ hk
     exact ⟨o,e,ex⟩
   obtain ⟨o,e,ex⟩:=z
   refine ⟨⟨o,e,ex.1⟩,fun a e2=>?_⟩
   cases e2
   exact ⟨o,e,ex.2.1⟩
  ·obtain ⟨o,_,_,_,e,ex,_⟩:=I.hok p _ hk
   refine ⟨⟨o,e,ex.1⟩,fun a e2=>?_⟩
   cases e2
   exact ⟨o,e,ex.2.1⟩
 | _=>exact False.elim ty
def tBM0 (K:PySem.W.Frag) (T:String) (r:V->List V->Hp->VK->Prop) (to:TE):TE:=fun σ H Q=>to σ H fun x H1=>tyV K T x H1/\r x [] H1 Q
def tBM (K:PySem.W.Frag) (T:String) (r:V->List V->Hp->VK->Prop) (to:TE) (t:TA):TE:=fun σ H Q=>to σ H fun x H1=>tyV K T x H1/\t σ H1 fun xs H2=>r x xs H2 Q
variable {o e:Expr} {es:List Expr} {to:TE} {t:TA} {name:Str} {apos cpos:Pos} {T id:String} {r:V->List V->Hp->VK->Prop}
theorem pe_bm0 (pa:PlainAttrs T) (slot:Slot T name id) (hty:typeOf (.builtin id) = pure (.type "method_descriptor")) (hm:MtR X id r) (ho:PE X o to)
  (hbase:attributeBase o name X.env (eval o X.env) = eval o X.env:=by rfl) (hline:(apos.endLine == cpos.line) = true:=by rfl):PE X (.Call (.Attribute o name apos) [] [] cpos) (tBM0 X.K T r to):=by
 intro pins s σ H Q I h
 refine wpAny_Call_method0_late hbase hline (thn (ho pins s σ H _ I h) fun v s1 ⟨x,H1,I1,r1,ty,q1⟩=>?_)
 obtain ⟨h1,h2⟩:=tyV_is I1 r1 ty
 exact ⟨T,id,pa,slot,hty,h1,h2,Calls.callWith_builtin rfl (PySem.evalArgs_none (hm pins s1 σ H1 x [] v [] Q I1 r1 .nil q1))⟩
theorem pe_bm (pa:PlainAttrs T) (slot:Slot T name id) (hty:typeOf (.builtin id) = pure (.type "method_descriptor")) (hm:MtR X id r) (ho:PE X o to) (ha:PA X (e :: es) t)
  (hbase:attributeBase o name X.env (eval o X.env) = eval o X.env:=by rfl)
  (hfew:((backTo cpos (starEach (e :: es) X.env)).all (fun x=>!x.1) && (backToKw cpos (keywordEach [] X.env)).all (fun x=>x.1.isSome)
   && decide ((e :: es).length + ([]:List Keyword).length + (if ([]:List Keyword).isEmpty then 0 else 1) < 30)) = true:=by rfl)
  (hline:(apos.endLine == cpos.line) = true:=by rfl) (hs:starEach (e :: es) X.env = (false,eval e X.env) :: starEach es X.env:=by rfl) (hplain:(backTo cpos (starEach es X.env)).any (·.1) = false:=by rfl) :
  PE X (.Call (.Attribute o name apos) (e :: es) [] cpos) (tBM X.K T r to t):=by
 intro pins s σ H Q I h
 refine wpAny_Call_method_late hbase hfew hline rfl (thn (ho pins s σ H _ I h) fun v s1 ⟨x,H1,I1,r1,ty,q1⟩=>?_)
 obtain ⟨h1,h2⟩:=tyV_is I1 r1 ty
 refine ⟨T,id,pa,slot,hty,h1,h2,?_⟩
 have hA:=ha cpos pins s1 σ H1 _ I1 q1
 rw [hs] at hA ⊢
 refine Calls.callWith_builtin (by show (false || (backTo cpos (starEach es X.env)).any (·.1)) = false;rw [hplain] <;> rfl) (Calls.evalArgs_plain ?_)
 exact thn hA fun us s2 ⟨vs,H2,I2,r2,q2⟩=>hm pins s2 σ H2 x vs v us Q I2 r1 r2 q2
end
end L2
namespace L2
open PySem PySem.Spec PyProof.Rows
def MtM (X:Cx) (id:String) (r:V->List V->Hp->VK->Prop):Prop:=
 ∀ (pins:List (Addr × Obj)) (s:Shared) (σ:St) (H:Hp) (x:V) (xs:List V) (v:Value) (us:List Value) (Q:VK),Inv X pins σ H s->RelV x v->Vals xs us->r x xs H Q →
  wpAny (model X.prog X.w) X.A (call (.builtin id) (v :: us)) (EP X pins σ Q) X.xe s
theorem Vals.one:∀ {x:V} {us:List Value},Vals [x] us->∃ u,us = [u]/\RelV x u
 | _,_,.cons r .nil=>⟨_,rfl,r⟩
section
variable {X:Cx} {pins:List (Addr × Obj)} {σ:St} {H:Hp} {s:Shared} {l b:Addr} {xs ys zs:List V}
theorem Inv.lset {its its':List Value} {n:Nat} {f:Array Value->Array Value} {t':Nat} (I:Inv X pins σ H s) (hH:H l = some (.lst xs))
  (e:s.heap.get? l = some { cls:=.type "list",data:=.seq its.toArray n }) (hf:f its.toArray = its'.toArray) (hv:Vals ys its') (hz:ys.length ≤ sizeLine) :
  Inv X pins σ (upd H l (.lst ys)) { s with heap:=s.heap.update l (Obj.mapSeq f),toks:=t' }:=by
 have q:=PySem.IsL.update e f
 rw [hf] at q
 refine I.write (x:=l) (e:=l) (by rw [hH];exact trivial) (.inl rfl) (fun b' u hb hu=>(Heap.get?_update_other s.heap (Obj.mapSeq f) (Ne.symm hb)).trans hu) ⟨_,q⟩ ?_
 exact ⟨hz,its',_,hv,q⟩
theorem Inv.lnew {its:List Value} {t':Nat} (I:Inv X pins σ H s) (hv:Vals ys its) (hz:ys.length ≤ sizeLine) :
  Inv X pins σ (upd H s.heap.objs.size (.lst ys)) { s with heap:=s.heap.push { cls:=.type "list",data:=.seq its.toArray },toks:=t' }:=
 I.laid (fun _ _ q=>Heap.get?_push_of_some _ q) (Nat.le_refl _) ⟨hz,its,0,hv,Heap.get?_push_size _ rfl⟩
theorem Inv.fresh (I:Inv X pins σ H s):H s.heap.objs.size = none:=I.hok.fresh (Nat.le_refl _)
theorem Inv.lstM (I:Inv X pins σ H s) (hH:H l = some (.lst xs)):xs.length ≤ sizeLine/\∃ (its:List Value) (n:Nat),Vals xs its/\xs.length = its.length/\s.heap.get? l = some { cls:=.type "list",data:=.seq its.toArray n }:=by
 obtain ⟨z,its,n,r,e⟩:=I.hok l _ hH
 exact ⟨z,its,n,r,r.length,e⟩
theorem notLongL {n:Nat} (h:n ≤ sizeLine):Builtin.List.listTooLong n = false:=by
 unfold Builtin.List.listTooLong
 exact decide_eq_false (by omega)
end
section
variable {X:Cx}
def rAppend:V->List V->Hp->VK->Prop:=fun x vs H Q=>∃ l xs y,x = .ref l/\vs = [y]/\H l = some (.lst xs)/\xs.length < sizeLine/\Q .non (upd H l (.lst (xs ++ [y])))
theorem mt_append:MtM X "list.append" rAppend:=by
 intro pins s σ H x vs v us Q I rx rv h
 obtain ⟨l,xs,y,rfl,rfl,hH,hz,q⟩:=h
 cases rx
 obtain ⟨u,rfl,ru⟩:=rv.one
 obtain ⟨z,its,n,r,hl,e⟩:=I.lstM hH
 refine call_meets F.slot_list_append ⟨_,e,rfl⟩ F.entry_list_append (F.args_list_append_2 _ _) (PySem.list_append l its.toArray n u (by rw [List.size_toArray];omega)) ⟨e,?_⟩
 refine ⟨.non,_,I.lset (its':=its ++ [u]) hH e (by simp) (r.append (.cons ru .nil)) ?_,rfl,q⟩
 rw [List.length_append,List.length_singleton]
 omega
def rExtend:V->List V->Hp->VK->Prop:=fun x vs H Q=>∃ l b xs zs,x = .ref l/\vs = [.ref b]/\H l = some (.lst xs)/\H b = some (.lst zs)/\xs.length + zs.length ≤ sizeLine/\Q .non (upd H l (.lst (xs ++ zs)))
theorem mt_extend:MtM X "list.extend" rExtend:=by
 intro pins s σ H x vs v us Q I rx rv h
 obtain ⟨l,b,xs,zs,rfl,rfl,hH,hB,hz,q⟩:=h
 cases rx
 obtain ⟨u,rfl,ru⟩:=rv.one
 cases ru
 obtain ⟨z,its,n,r,hl,e⟩:=I.lstM hH
 obtain ⟨z2,its2,n2,r2,hl2,e2⟩:=I.lstM hB
 have hsz:its.toArray.size + its2.toArray.size ≤ sizeLine:=by rw [List.size_toArray,List.size_toArray];omega
 have hlong:¬ (!its.toArray.isEmpty && Builtin.List.listTooLong (its.toArray.size + its2.toArray.size)) = true:=by
  rw [notLongL hsz,Bool.and_false]
  exact Bool.false_ne_true
 refine call_meets F.slot_list_extend ⟨_,e,rfl⟩ F.entry_list_extend (F.args_list_extend_2 _ _)
  (AutoSeq1.list_extend_list_list_0 l its.toArray n b its2.toArray n2 hlong (by rw [List.size_toArray];omega) (by omega)) ⟨e,e2,?_⟩
 refine ⟨.non,_,I.lset (its':=its ++ its2) hH e (by simp) (r.append r2) ?_,rfl,q⟩
 rw [List.length_append]
 omega
def rPop:V->List V->Hp->VK->Prop:=fun x vs H Q=>∃ l xs y,x = .ref l/\vs = []/\H l = some (.lst xs)/\xs[xs.length - 1]? = some y/\Q y (upd H l (.lst xs.dropLast))
def rPopAt:V->List V->Hp->VK->Prop:=fun x vs H Q=>∃ l xs i k y,x = .ref l/\vs = [.int i]/\H l = some (.lst xs)/\-(2 ^ 63) ≤ i/\i < 2 ^ 63/\seqIndex? i xs.length = some k/\xs[k]? = some y/\Q y (upd H l (.lst (xs.eraseIdx k)))
def rReverse:V->List V->Hp->VK->Prop:=fun x vs H Q=>∃ l xs,x = .ref l/\vs = []/\H l = some (.lst xs)/\Q .non (upd H l (.lst xs.reverse))
def rClear:V->List V->Hp->VK->Prop:=fun x vs H Q=>∃ l xs,x = .ref l/\vs = []/\H l = some (.lst xs)/\Q .non (upd H l (.lst []))
def rCat:R2:=fun x y H Q=>∃ l b xs zs,x = .ref l/\y = .ref b/\H l = some (.lst xs)/\H b = some (.lst zs)/\xs.length + zs.length ≤ sizeLine/\∀ p,H p = none->Q (.ref p) (upd H p (.lst (xs ++ zs)))
theorem op_cat:OpR X (binaryOp .Add) rCat:=by
 intro pins s σ H x y v u Q I rx ry h
 obtain ⟨l,b,xs,zs,rfl,rfl,hH,hB,hz,q⟩:=h
 cases rx
 cases ry
 obtain ⟨z,its,n,r,hl,e⟩:=I.lstM hH
 obtain ⟨z2,its2,n2,r2,hl2,e2⟩:=I.lstM hB
 refine PySem.P.add_list e e2 ?_ (by rw [List.size_toArray,List.size_toArray];omega)
 have ea:its.toArray ++ its2.toArray = (its ++ its2).toArray:=by simp
 rw [ea]
 exact ⟨.ref _,_,I.lnew (t':=s.toks) (r.append r2) (by rw [List.length_append];omega),rfl,q _ I.fresh⟩
def rRep:R2:=fun x y H Q=>∃ l k xs,x = .ref l/\y = .int k/\H l = some (.lst xs)/\-(2 ^ 63) ≤ k/\k < 2 ^ 63/\xs.length * k.toNat ≤ sizeLine ∧
 ∀ p,H p = none->Q (.ref p) (upd H p (.lst (List.replicate k.toNat xs).flatten))
end
section
variable {prog:Program} {w:World} {A:Around} {E:Value->Shared->Prop} {s:Shared}
set_option maxRecDepth 100000 in
end
section
variable {X:Cx}
end
end L2
namespace L2
open PySem PySem.Spec PyProof.Rows
section
variable {κ:Type} [DecidableEq κ]
def valV (kvs:List (κ × V)) (k:κ):Option V:=(kvs.find? fun kv=>decide (kv.1 = k)).map (·.2)
def putK (kvs:List (κ × V)) (k:κ) (v:V):List (κ × V):=
 if (kvs.any fun kv=>decide (kv.1 = k)) = true then kvs.map (fun kv=>if kv.1 = k then (kv.1,v) else kv) else kvs ++ [(k,v)]
def dropK (kvs:List (κ × V)) (k:κ):List (κ × V):=kvs.filter fun kv=>decide (kv.1 ≠ k)
theorem valV_pos {p:κ × V} {r:List (κ × V)} {k:κ} (e:p.1 = k):valV (p :: r) k = some p.2:=by simp [valV,List.find?_cons,e]
theorem valV_neg {p:κ × V} {r:List (κ × V)} {k:κ} (e:¬ p.1 = k):valV (p :: r) k = valV r k:=by simp [valV,List.find?_cons,e]
theorem valV_any (k:κ):∀ kvs:List (κ × V),(kvs.any fun kv=>decide (kv.1 = k)) = (valV kvs k).isSome
 | []=>rfl
 | p :: r=>by
  rw [List.any_cons]
  by_cases e:p.1 = k
  ·simp only [valV_pos e,decide_eq_true e,Bool.true_or,Option.isSome_some]
  ·rw [valV_neg e,decide_eq_false e,Bool.false_or];exact valV_any k r
theorem length_putK (kvs:List (κ × V)) (k:κ) (v:V):(putK kvs k v).length ≤ kvs.length + 1:=by
 unfold putK
 split
 ·rw [List.length_map];omega
 ·rw [List.length_append,List.length_cons,List.length_nil];omega
theorem RelO.isSome_eq {o:Option V} {u:Option Value} (r:RelO o u):o.isSome = u.isSome:=by
 cases o with
 | none=>cases u with
  | none=>rfl
  | some _=>exact (show False from r).elim
 | some _=>cases u with
  | none=>exact (show False from r).elim
  | some _=>rfl
theorem KV.val {kvs:List (κ × V)} {vs:List (κ × Value)} (r:KV kvs vs) (k:κ):RelO (valV kvs k) (valueAt vs k):=by
 unfold KV at r
 induction r with
 | nil=>exact True.intro
 | @cons p q ps qs h t ih=>
  obtain ⟨h1,h2⟩:=h
  by_cases e:p.1 = k
  ·have e':q.1 = k:=h1.symm.trans e
   have b:valueAt (q :: qs) k = some q.2:=by simp [valueAt,List.find?_cons,e']
   rw [valV_pos e,b];exact h2
  ·have e':¬ q.1 = k:=fun z=>e (h1.trans z)
   have b:valueAt (q :: qs) k = valueAt qs k:=by simp [valueAt,List.find?_cons,e']
   rw [valV_neg e,b];exact ih
theorem KV.any {kvs:List (κ × V)} {vs:List (κ × Value)} (r:KV kvs vs) (k:κ):(kvs.any fun kv=>decide (kv.1 = k)) = vs.any fun kv=>decide (kv.1 = k):=by
 unfold KV at r
 induction r with
 | nil=>rfl
 | cons h t ih=>rw [List.any_cons,List.any_cons,ih,h.1]
theorem KV.repl {kvs:List (κ × V)} {vs:List (κ × Value)} (r:KV kvs vs) (k:κ) {y:V} {u:Value} (ry:RelV y u) :
  KV (kvs.map fun kv=>if kv.1 = k then (kv.1,y) else kv) (vs.map fun kv=>if kv.1 = k then (kv.1,u) else kv):=by
 unfold KV at r ⊢
 induction r with
 | nil=>exact .nil
 | @cons p q ps qs h t ih=>
  rw [List.map_cons,List.map_cons]
  refine .cons ?_ ih
  obtain ⟨h1,h2⟩:=h
  by_cases e:p.1 = k
  ·rw [if_pos e,if_pos (h1.symm.trans e)];exact ⟨h1,ry⟩
  ·rw [if_neg e,if_neg (fun z=>e (h1.trans z))];exact ⟨h1,h2⟩
theorem KV.put {kvs:List (κ × V)} {vs:List (κ × Value)} (r:KV kvs vs) (k:κ) {y:V} {u:Value} (ry:RelV y u):KV (putK kvs k y) (stored vs k u):=by
 unfold putK stored
 rw [r.any k]
 by_cases e:(vs.any fun kv=>decide (kv.1 = k)) = true
 ·rw [if_pos e,if_pos e];exact r.repl k ry
 ·rw [if_neg e,if_neg e];exact Paired.snoc r ⟨rfl,ry⟩
theorem KV.length {kvs:List (κ × V)} {vs:List (κ × Value)} (r:KV kvs vs):kvs.length = vs.length:=Paired.length r
end
theorem kV_is {P:Program} {w:World} {k:Key} {u:Value} (r:RelV (kV k) u):(mixKind P w).is k u = true:=by
 cases k with
 | inl i=>obtain ⟨t,e⟩:=(show ∃ t,u = Value.int i t from r);subst e;exact mixKind_int P w i t
 | inr x=>obtain ⟨t,e⟩:=(show ∃ t,u = Value.str x t from r);subst e;exact mixKind_str P w x t
theorem items_are {P:Program} {w:World}:∀ {ks:List Key} {us:List Value},Vals (ks.map kV) us->ItemsAre (mixKind P w) ks us
 | [],_,r=>by rw [List.map_nil] at r;cases r;exact .nil
 | k :: ks,_,r=>by
  rw [List.map_cons] at r
  cases r with
  | cons h t=>exact .cons (kV_is h) (items_are t)
abbrev KT (H:Hp):List (List Key × V)->List (List Key × Addr × Value)->Prop:=Paired fun p q=>p.1 = q.1/\H q.2.1 = some (.tup (p.1.map kV))/\RelV p.2 q.2.2
theorem KT.val {H:Hp} {kvs:List (List Key × V)} {xs:List (List Key × Addr × Value)} (r:KT H kvs xs) (k:List Key):RelO (valV kvs k) ((atKey xs k).map (·.2)):=by
 induction r with
 | nil=>exact True.intro
 | @cons p q ps qs h t ih=>
  obtain ⟨h1,_,h2⟩:=h
  by_cases e:p.1 = k
  ·have e':q.1 = k:=h1.symm.trans e
   have b:atKey (q :: qs) k = some q.2:=by simp [atKey,List.find?_cons,e']
   rw [valV_pos e,b];exact h2
  ·have e':¬ q.1 = k:=fun z=>e (h1.trans z)
   have b:atKey (q :: qs) k = atKey qs k:=by simp [atKey,List.find?_cons,e']
   rw [valV_neg e,b];exact ih
theorem KT.repl {H:Hp} {kvs:List (List Key × V)} {xs:List (List Key × Addr × Value)} (r:KT H kvs xs) (k:List Key) {y:V} {u:Value} (ry:RelV y u) :
  KT H (kvs.map fun kv=>if kv.1 = k then (kv.1,y) else kv) (xs.map (putAt k u)):=by
 induction r with
 | nil=>exact .nil
 | @cons p q ps qs h t ih=>
  rw [List.map_cons,List.map_cons]
  refine .cons ?_ ih
  obtain ⟨h1,h2,h3⟩:=h
  unfold putAt
  by_cases e:p.1 = k
  ·rw [if_pos e,if_pos (h1.symm.trans e)];exact ⟨h1,h2,ry⟩
  ·rw [if_neg e,if_neg (fun z=>e (h1.trans z))];exact ⟨h1,h2,h3⟩
theorem KT.put {H:Hp} {kvs:List (List Key × V)} {xs:List (List Key × Addr × Value)} (r:KT H kvs xs) (k:List Key) {b:Addr} {y:V} {u:Value} (hb:H b = some (.tup (k.map kV))) (ry:RelV y u) :
  KT H (putK kvs k y) (storedH xs k b u):=by
 have e:(kvs.any fun kv=>decide (kv.1 = k)) = (atKey xs k).isSome:=by
  rw [valV_any,(r.val k).isSome_eq,Option.isSome_map]
 unfold putK storedH
 rw [e]
 by_cases q:(atKey xs k).isSome = true
 ·rw [if_pos q,if_pos q];exact r.repl k ry
 ·rw [if_neg q,if_neg q];exact Paired.snoc r ⟨rfl,hb,ry⟩
theorem KT.keeps {H H':Hp} {kvs:List (List Key × V)} {xs:List (List Key × Addr × Value)} (r:KT H kvs xs) (ht:∀ b ys,H b = some (.tup ys)->H' b = some (.tup ys)):KT H' kvs xs:=
 Paired.mapP r fun _ _ z=>⟨z.1,ht _ _ z.2.1,z.2.2⟩
section
variable {P:Program} {w:World} {H:Hp} {h:Heap} {a:Addr}
theorem rd_of {u:HO} (ok:HOk P w H h) (e:Rd H a u):ObjOk P w H h a u:=e.ok ok
theorem dk_rd {kvs:List (Key × V)} (ok:HOk P w H h) (e:Rd H a (.dK kvs)):kvs.length ≤ sizeLine/\(a == sysModules) = false/\∃ vs,KV kvs vs/\h.DictOf (mixKind P w) a vs:=
 show ObjOk P w H h a (.dK kvs) from rd_of ok e
theorem dk_of {kvs:List (Key × V)} (ok:HOk P w H h) (e:H a = some (.dK kvs)):kvs.length ≤ sizeLine/\(a == sysModules) = false/\∃ vs,KV kvs vs/\h.DictOf (mixKind P w) a vs:=dk_rd ok (.inl e)
theorem key_of {ks:List Key} (ok:HOk P w H h) (e:H a = some (.tup (ks.map kV))):(tupleKind (mixKind P w)).is h ks a:=by
 obtain ⟨_,its,r,o,h1,h2,n,h3⟩:=(show ObjOk P w H h a (.tup (ks.map kV)) from ok a _ e)
 exact ⟨o,its.toArray,n,h1,h2,h3,by simpa using items_are r⟩
theorem dt_rd {kvs:List (List Key × V)} (ok:HOk P w H h) (e:Rd H a (.dT kvs)):kvs.length ≤ sizeLine/\(a == sysModules) = false ∧
  ∃ xs,KT H kvs xs/\h.DictOfH (tupleKind (mixKind P w)) a xs:=by
 obtain ⟨z,y,xs,r,o,es,ep,h1,h2,h3,h4,h5⟩:=(show ObjOk P w H h a (.dT kvs) from rd_of ok e)
 refine ⟨z,y,xs,r,o,es,ep,h1,h2,h3,h4,fun x hx=>?_,h5⟩
 have all:∀ {l:List (List Key × V)} {m:List (List Key × Addr × Value)},KT H l m->∀ x ∈ m,(tupleKind (mixKind P w)).is h x.1 x.2.1:=by
  intro l m q
  induction q with
  | nil=>intro x hx;exact nomatch hx
  | @cons p q ps qs hq t ih=>
   intro x hx
   rcases List.mem_cons.mp hx with e | hx
   ·subst e
    exact key_of ok (by rw [← hq.1];exact hq.2.1)
   ·exact ih x hx
 exact all r x hx
theorem dt_of {kvs:List (List Key × V)} (ok:HOk P w H h) (e:H a = some (.dT kvs)):kvs.length ≤ sizeLine/\(a == sysModules) = false ∧
  ∃ xs,KT H kvs xs/\h.DictOfH (tupleKind (mixKind P w)) a xs:=dt_rd ok (.inl e)
end
def DGet (H:Hp) (a:Addr) (y:V) (r:Option V):Prop:=
 (∃ kvs k,Rd H a (.dK kvs)/\y = kV k/\r = valV kvs k)\/∃ kvs k b,Rd H a (.dT kvs)/\y = .ref b/\H b = some (.tup (k.map kV))/\r = valV kvs k
def DPut (H:Hp) (a:Addr) (y v:V) (H':Hp):Prop:=
 (∃ kvs k,H a = some (.dK kvs)/\y = kV k/\kvs.length < sizeLine/\H' = upd H a (.dK (putK kvs k v))) ∨
 ∃ kvs k b,H a = some (.dT kvs)/\y = .ref b/\H b = some (.tup (k.map kV))/\kvs.length < sizeLine/\H' = upd H a (.dT (putK kvs k v))
section
variable {X:Cx} {pins:List (Addr × Obj)} {σ:St} {H:Hp} {s:Shared} {a:Addr} {y v:V} {u r:Value} {o:Option V} {A:Around} {E:Value->Shared->Prop}
theorem Inv.big (I:Inv X pins σ H s):sysModules < s.heap.objs.size:=by
 have h:mainGlobals < s.heap.objs.size:=(I.mod.glob.keeps I.bk).lt
 exact Nat.lt_trans (by decide) h
theorem d_getItem {Q:Value->Shared->Prop} (hu:A.units + 1 < cLine) (I:Inv X pins σ H s) (g:DGet H a y (some v)) (ry:RelV y u) (h:∀ w' s',Inv X pins σ H s'->RelV v w'->Q w' s') :
  wpAny (model X.prog X.w) A (getItem (.ref a) u) Q E s:=by
 rcases g with ⟨kvs,k,e,ey,l⟩ | ⟨kvs,k,b,e,ey,eb,l⟩
 ·subst ey
  obtain ⟨z,hd,vs,rel,dd⟩:=dk_rd I.hok e
  obtain ⟨w',hw,rw'⟩:=RelO.some_of (v:=v) (o:=valueAt vs k) (by rw [l];exact rel.val k)
  exact wpAny_getItem_of (kV_is ry) dd.mapOf hw (h w' _ (I.tok _) rw')
 ·subst ey
  cases (show u = Value.ref b from ry)
  obtain ⟨z,hd,xs,rel,dd⟩:=dt_rd I.hok e
  obtain ⟨w',hw,rw'⟩:=RelO.some_of (v:=v) (o:=(atKey xs k).map (·.2)) (by rw [l];exact rel.val k)
  obtain ⟨p,hp,hp2⟩:=Option.map_eq_some_iff.mp hw
  refine wpAny_getItem_heap (tupleKind_room_in1 hu) (key_of I.hok eb) dd hp ?_
  rw [hp2]
  exact h w' _ (I.tok _) rw'
theorem d_write {h':Heap} {t':Nat} {ob:HO} (I:Inv X pins σ H s) (mu:Mut (H a)) (hs:Heap.SameBut a s.heap h') (he:∃ q,h'.get? a = some q) (new:ObjOk X.prog X.w (upd H a ob) h' a ob) :
  Inv X pins σ (upd H a ob) { s with heap:=h',toks:=t' }:=
 I.write (x:=a) (e:=a) mu (.inl rfl) (fun b q hb z=>(hs.2 b hb).trans z) he new
theorem dk_new {P:Program} {w:World} {H':Hp} {h':Heap} {kvs:List (Key × V)} {vs:List (Key × Value)} (z:kvs.length ≤ sizeLine) (hd:(a == sysModules) = false) (rel:KV kvs vs) (dd:h'.DictOf (mixKind P w) a vs) :
  ObjOk P w H' h' a (.dK kvs):=⟨z,hd,vs,rel,dd⟩
theorem d_setItem {H':Hp} {Q:Unit->Shared->Prop} (hu:A.units + 1 < cLine) (I:Inv X pins σ H s) (g:DPut H a y v H') (ry:RelV y u) (rv:RelV v r) (h:∀ s',Inv X pins σ H' s'->Q () s') :
  wpAny (model X.prog X.w) A (setItem (.ref a) u r) Q E s:=by
 rcases g with ⟨kvs,k,e,ey,l,eH⟩ | ⟨kvs,k,b,e,ey,eb,l,eH⟩
 ·subst ey eH
  obtain ⟨z,hd,vs,rel,dd⟩:=dk_of I.hok e
  have hz:vs.length ≤ sizeLine:=by rw [← rel.length];exact z
  have hl:(putK kvs k v).length ≤ sizeLine:=by have:=length_putK kvs k v;omega
  refine wpAny_setItem_pairs (hsz:=hz) (kV_is ry) dd fun h' dd' hs=>h _ ?_
  have he:∃ q,h'.get? a = some q:=let ⟨q,_,_,hq,_⟩:=dd';⟨q,hq⟩
  exact d_write I (by rw [e];exact True.intro) hs he (dk_new hl hd (rel.put k rv) dd')
 ·subst ey eH
  cases (show u = Value.ref b from ry)
  obtain ⟨z,hd,xs,rel,dd⟩:=dt_of I.hok e
  have hz:xs.length ≤ sizeLine:=by rw [← Paired.length rel];exact z
  have hl:(putK kvs k v).length ≤ sizeLine:=by have:=length_putK kvs k v;omega
  refine wpAny_setItem_heap (hsz:=hz) (tupleKind_room_in1 hu) (key_of I.hok eb) dd fun h' dd' hs=>h _ ?_
  obtain ⟨q,es,ep,hq,h2,h3,h4,_,h5⟩:=dd'
  refine d_write I (by rw [e];exact True.intro) hs ⟨q,hq⟩ ⟨hl,hd,_,(rel.put k eb rv).keeps fun c ys ec=>?_,q,es,ep,hq,h2,h3,h4,h5⟩
  rw [upd_ne (ne_of ec e (fun z=>nomatch z))]
  exact ec
end
section
variable {X:Cx} {pins:List (Addr × Obj)} {σ:St} {H:Hp} {s:Shared} {a:Addr} {kvs:List (Key × V)} {k:Key} {u:Value} {A:Around} {E:Value->Shared->Prop}
theorem d_clear {Q:Value->Shared->Prop} (I:Inv X pins σ H s) (e:H a = some (.dK kvs)) (h:∀ s',Inv X pins σ (upd H a (.dK [])) s'->Q .none s'):wpAny (model X.prog X.w) A (call (.builtin "dict.clear") [.ref a]) Q E s:=by
 obtain ⟨z,hd,vs,rel,dd⟩:=dk_of I.hok e
 refine call_meetsIn PySem.F.slot_dict_clear dd.typeIs PySem.F.entry_dict_clear (PySem.F.args_dict_clear_1 _) (meets_dict_clear (mixKind X.prog X.w) a) ⟨vs,dd,by rw [← rel.length];exact z,fun h' dd' hs=>h _ ?_⟩
 have he:∃ q,h'.get? a = some q:=let ⟨q,_,_,hq,_⟩:=dd';⟨q,hq⟩
 exact d_write (t':=s.toks) I (by rw [e];exact True.intro) hs he (dk_new (Nat.zero_le _) hd .nil dd')
end
def NoSl (i:Expr):Prop:=∀ ov iv,subscripted i false ov iv = operate [ov,iv] (getItem ov iv)
theorem subD_of {prog:Program} {w:World} {A:Around} {E:Value->Shared->Prop} {s:Shared} {env:Env} {value slice:Expr} {pos:Pos} {T id:String} {Q:Value->Shared->Prop}
  (hl:typeLookup (.type T) "__getitem__" = pure (some (.builtin id))) (hs:NoSl slice)
  (h:wpAny (model prog w) A (eval value env) (fun o s₁=>wpAny (model prog w) A (eval slice env) (fun i s₂=>s₂.TypeIs o T/\wpAny (model prog w) A (getItem o i) Q E s₂) E s₁) E s) :
  wpAny (model prog w) A (eval (.Subscript value slice pos) env) Q E s:=by
 refine Subscript_ (wpAny_mono h (fun o s₁ h₁=>wpAny_mono h₁ (fun i s₂ h₂=>?_) fun _ _ x=>x) fun _ _ x=>x)
 obtain ⟨hT,h₂⟩:=h₂
 unfold subscriptTail
 refine wpAny_bind ?_
 rw [getitemInPython_of_ne hT.not_modules]
 refine wpAny_bind (wpAny_specialOf hT hl ?_)
 have fin:wpAny (model prog w) A (subscripted slice false o i) (fun r s₃=>wpAny (model prog w) A (letTemporaryGo value o r >>= fun _=>pure r) Q E s₃) E s₂:=by
  rw [hs o i]
  exact wpAny_operating (wpAny_mono h₂ (fun r s₃ h₃=>wpAny_bind (wpAny_letTemporaryGo (wpAny_pure h₃))) fun _ _ x=>x)
 first
  | exact wpAny_pure (wpAny_bind fin)
  | exact wpAny_bind (wpAny_pure (wpAny_bind fin))
  | exact wpAny_bind fin
theorem dict_typeIs {X:Cx} {pins:List (Addr × Obj)} {σ:St} {H:Hp} {s:Shared} {a:Addr} {y:V} {o:Option V} (I:Inv X pins σ H s) (g:DGet H a y o):s.TypeIs (.ref a) "dict":=by
 rcases g with ⟨kvs,k,e,_,_⟩ | ⟨kvs,k,b,e,_,_,_⟩
 ·obtain ⟨_,_,vs,_,dd⟩:=dk_rd I.hok e
  exact dd.typeIs
 ·obtain ⟨_,_,xs,_,dd⟩:=dt_rd I.hok e
  exact dd.typeIs
def tDGet (td ty:TE):TE:=fun σ H Q=>td σ H fun x H1=>ty σ H1 fun y H2=>∃ a v,x = .ref a/\DGet H2 a y (some v)/\Q v H2
def tDIn (ty td:TE):TE:=fun σ H Q=>ty σ H fun y H1=>td σ H1 fun x H2=>∃ a o,x = .ref a/\DGet H2 a y o/\Q (.bl o.isSome) H2
def tDNotIn (ty td:TE):TE:=fun σ H Q=>ty σ H fun y H1=>td σ H1 fun x H2=>∃ a o,x = .ref a/\DGet H2 a y o/\Q (.bl (!o.isSome)) H2
def sDPut (td ty tv:TE):TS:=fun D σ H=>tv σ H fun v H1=>td σ H1 fun x H2=>ty σ H2 fun y H3=>∃ a H4,x = .ref a/\DPut H3 a y v H4/\D.nx σ H4
def sDAug (td ty tv:TE) (rd:V->V->Hp->VK->Prop):TS:=fun D σ H=>td σ H fun x H1=>ty σ H1 fun y H2=>∃ a v,x = .ref a/\DGet H2 a y (some v) ∧
 tv σ H2 fun y2 H3=>rd v y2 H3 fun z H4=>∃ H5,DPut H4 a y z H5/\D.nx σ H5
def sDDel (td ty:TE):TS:=fun D σ H=>td σ H fun x H1=>ty σ H1 fun y H2=>∃ a kvs k,x = .ref a/\H2 a = some (.dK kvs)/\y = kV k/\(valV kvs k).isSome = true/\D.nx σ (upd H2 a (.dK (dropK kvs k)))
section
variable {X:Cx} {o i e value:Expr} {pos pos' tpos:Pos} {td ty tv:TE}
theorem pe_dget (hu:X.A.units + 1 < cLine) (ho:PE X o td) (hi:PE X i ty) (hs:NoSl i):PE X (.Subscript o i pos) (tDGet td ty):=by
 intro pins s σ H Q I h
 refine subD_of PySem.F.slot_dict_getitem.lookup hs (thn (ho pins s σ H _ I h) fun u s1 ⟨x,H1,I1,rx,q1⟩=>thn (hi pins s1 σ H1 _ I1 q1) fun iv s2 ⟨y,H2,I2,ry,a,v,ex,g,q2⟩=>?_)
 subst ex
 obtain rfl:u = Value.ref a:=rx
 exact ⟨dict_typeIs I2 g,d_getItem hu I2 g ry fun w' s3 I3 rw'=>⟨v,H2,I3,rw',q2⟩⟩
theorem ps_dput (hu:X.A.units + 1 < cLine) (ho:PE X o td) (hi:PE X i ty) (hv:PE X value tv) (hs:swapsWith value (some (.Subscript o i pos')) pos.line X.env = pure false) :
  PS X (.Assign [.Subscript o i pos'] value pos) (sDPut td ty tv):=by
 intro pins s σ H D I h
 refine wpAny_Assign_Subscript (thn (hv pins s σ H _ I h) fun r s1 ⟨v,H1,I1,rv,q1⟩=>thn (ho pins s1 σ H1 _ I1 q1) fun u s2 ⟨x,H2,I2,rx,q2⟩=>thn (hi pins s2 σ H2 _ I2 q2) fun iv s3 ⟨y,H3,I3,ry,a,H4,ex,g,q3⟩=>?_) hs
 subst ex
 obtain rfl:u = Value.ref a:=rx
 exact d_setItem hu I3 g ry rv fun s4 I4=>⟨σ,H4,I4,q3⟩
end
theorem dk_empty {P:Program} {w:World} {H:Hp} (h:Heap) (hb:sysModules < h.objs.size):ObjOk P w H (h.push { cls:=.type "dict",data:=.dict #[] }) h.objs.size (.dK []):=
 ⟨Nat.zero_le _,beq_eq_false_iff_ne.mpr (Ne.symm (Nat.ne_of_lt hb)),[],.nil,Heap.DictOf.new h⟩
def tDNewK:TE:=fun _ H Q=>∀ p,H p = none->Q (.ref p) (upd H p (.dK []))
def tDNewT:TE:=fun _ H Q=>∀ p,H p = none->Q (.ref p) (upd H p (.dT []))
section
variable {X:Cx} {pos:Pos}
theorem pe_dnewK:PE X (.Dict [] [] pos) tDNewK:=fun pins s σ H Q I h=>
 wpAny_Dict_empty ⟨.ref s.heap.objs.size,_,I.laid (a:=s.heap.objs.size) (o:=.dK []) (t':=s.toks) (fun _ _ q=>Heap.get?_push_of_some _ q) (Nat.le_refl _) (dk_empty s.heap I.big),rfl,h _ (I.hok.fresh (Nat.le_refl _))⟩
end
def tPairs:List (TE × TE)->St->Hp->(List (V × V)->Hp->Prop)->Prop
 | [],_,H,Q=>Q [] H
 | (tk,tv) :: r,σ,H,Q=>tk σ H fun x H1=>tv σ H1 fun y H2=>tPairs r σ H2 fun ps H3=>Q ((x,y) :: ps) H3
abbrev VV:List (V × V)->List (Value × Value)->Prop:=Paired fun p q=>RelV p.1 q.1/\RelV p.2 q.2
def PPs (X:Cx) (pos:Pos) (keys:List (Option Expr)) (values:List Expr) (trs:List (TE × TE)):Prop:=
 ∀ (pins:List (Addr × Obj)) (s:Shared) (σ:St) (H:Hp) (Q:List (V × V)->Hp->Prop),Inv X pins σ H s->tPairs trs σ H Q →
  wpAny (model X.prog X.w) X.A (evalPairs (pairTrees keys values X.env pos)) (fun vs s'=>∃ ps H',Inv X pins σ H' s'/\VV ps vs/\Q ps H') X.xe s
theorem pps_nil {X:Cx} {pos:Pos}:PPs X pos [] [] []:=fun pins s σ H Q I h=>pairTrees_nil_walk ⟨[],H,I,.nil,h⟩
theorem pps_cons {X:Cx} {pos:Pos} {k v:Expr} {ks:List (Option Expr)} {vs:List Expr} {tk tv:TE} {trs:List (TE × TE)} (hk:PE X k tk) (hv:PE X v tv) (hr:PPs X pos ks vs trs) :
  PPs X pos (some k :: ks) (v :: vs) ((tk,tv) :: trs):=fun pins s σ H Q I h=>
 pairTrees_cons_walk (thn (hk pins s σ H _ I h) fun u s1 ⟨x,H1,I1,rx,q1⟩=>thn (hv pins s1 σ H1 _ I1 q1) fun w2 s2 ⟨y,H2,I2,ry,q2⟩=>
  thn (hr pins s2 σ H2 _ I2 q2) fun ws s3 ⟨ps,H3,I3,rel,q3⟩=>⟨(x,y) :: ps,H3,I3,.cons ⟨rx,ry⟩ rel,q3⟩)
def mergeK (kvs more:List (Key × V)):List (Key × V):=more.foldl (fun acc kv=>putK acc kv.1 kv.2) kvs
theorem KV.merge:∀ {more:List (Key × V)} {rs:List (Key × Value)} {kvs:List (Key × V)} {vs:List (Key × Value)},KV more rs->KV kvs vs->KV (mergeK kvs more) (merged vs rs):=by
 intro more rs kvs vs r
 unfold KV at r
 induction r generalizing kvs vs with
 | nil=>intro q;exact q
 | @cons p q ps qs h t ih=>
  intro r0
  have e:KV (putK kvs p.1 p.2) (stored vs q.1 q.2):=by
   have:=r0.put p.1 h.2
   rw [← h.1];exact this
  exact ih e
theorem length_mergeK:∀ (more kvs:List (Key × V)),(mergeK kvs more).length ≤ kvs.length + more.length
 | [],kvs=>by show kvs.length ≤ kvs.length + 0;omega
 | p :: r,kvs=>by
  have h1:=length_mergeK r (putK kvs p.1 p.2)
  have h2:=length_putK kvs p.1 p.2
  show (mergeK (putK kvs p.1 p.2) r).length ≤ _
  rw [List.length_cons];omega
theorem carries_of {P:Program} {w:World}:∀ {kvs:List (Key × V)} {ws:List (Value × Value)},VV (kvs.map fun kv=>(kV kv.1,kv.2)) ws->∃ rs,Carries (mixKind P w) ws rs/\KV kvs rs
 | [],_,r=>by rw [List.map_nil] at r;cases r;exact ⟨[],True.intro,.nil⟩
 | p :: kvs,_,r=>by
  rw [List.map_cons] at r
  cases r with
  | @cons a b as bs h t=>
   obtain ⟨rs,c,q⟩:=carries_of (P:=P) (w:=w) t
   obtain ⟨b1,b2⟩:=b
   exact ⟨(p.1,b2) :: rs,⟨kV_is h.1,rfl,c⟩,.cons ⟨rfl,h.2⟩ q⟩
def tDisp (trs:List (TE × TE)):TE:=fun σ H Q=>∀ p,H p = none->tPairs trs σ (upd H p (.dK [])) fun ps H2=>H2 p = some (.dK [])/\∃ kvs:List (Key × V),ps = kvs.map (fun kv=>(kV kv.1,kv.2))/\kvs.length ≤ 15/\Q (.ref p) (upd H2 p (.dK (mergeK [] kvs)))
theorem pe_disp {X:Cx} {pos:Pos} {keys:List (Option Expr)} {values:List Expr} {trs:List (TE × TE)} (h:PPs X pos keys values trs) (hall:keys.all (·.isSome) = true) (hl:keys.length = values.length) (h0:keys ≠ [])
  (h15:keys.length ≤ 15):PE X (.Dict keys values pos) (tDisp trs):=by
 intro pins s σ H Q I q
 have hn:=I.hok.fresh (Nat.le_refl s.heap.objs.size)
 have I1:=I.laid (a:=s.heap.objs.size) (o:=.dK []) (h':=s.heap.push { cls:=.type "dict",data:=.dict #[] }) (t':=s.toks) (fun _ _ q=>Heap.get?_push_of_some _ q) (Nat.le_refl _) (dk_empty s.heap I.big)
 refine wpAny_Dict_walk (knd:=mixKind X.prog X.w) hall hl h0 h15 (thn (h pins _ σ _ _ I1 (q _ hn)) fun ws s2 ⟨ps,H2,I2,rel,e,kvs,ep,lk,q2⟩=>?_)
 subst ep
 obtain ⟨rs,c,rk⟩:=carries_of (P:=X.prog) (w:=X.w) rel
 obtain ⟨z,hd,vs0,r0,dd⟩:=dk_of I2.hok e
 cases r0
 refine ⟨rs,c,dd,fun h' dd' hs=>⟨.ref s.heap.objs.size,_,?_,rfl,q2⟩⟩
 have hz:(mergeK [] kvs).length ≤ sizeLine:=by
  have h1:=length_mergeK kvs []
  rw [List.length_nil] at h1
  rw [sizeLine_eq];omega
 have he:∃ q,h'.get? s.heap.objs.size = some q:=let ⟨q,_,_,hq,_⟩:=dd';⟨q,hq⟩
 exact d_write I2 (by rw [e];exact True.intro) hs he (dk_new hz hd (rk.merge .nil) dd')
structure M1 (X:Cx) (o:Expr) (m:Str) (apos:Pos) (e:Expr) (cpos:Pos):Prop where
 base:attributeBase o m X.env (eval o X.env) = eval o X.env
 few:((backTo cpos (starEach [e] X.env)).all (fun x=>!x.1) && (backToKw cpos (keywordEach [] X.env)).all (fun x=>x.1.isSome)
  && decide (([e]:List Expr).length + ([]:List Keyword).length + (if ([]:List Keyword).isEmpty then 0 else 1) < 30)) = true
 line:(apos.endLine == cpos.line) = true
 trees:backTo cpos (starEach [e] X.env) = [(false,eval e X.env)]
structure M2 (X:Cx) (o:Expr) (m:Str) (apos:Pos) (e f:Expr) (cpos:Pos):Prop where
 base:attributeBase o m X.env (eval o X.env) = eval o X.env
 few:((backTo cpos (starEach [e,f] X.env)).all (fun x=>!x.1) && (backToKw cpos (keywordEach [] X.env)).all (fun x=>x.1.isSome)
  && decide (([e,f]:List Expr).length + ([]:List Keyword).length + (if ([]:List Keyword).isEmpty then 0 else 1) < 30)) = true
 line:(apos.endLine == cpos.line) = true
 trees:backTo cpos (starEach [e,f] X.env) = [(false,eval e X.env),(false,eval f X.env)]
def IsD (H:Hp) (a:Addr):Prop:=(∃ kvs,Rd H a (.dK kvs))\/∃ kvs,Rd H a (.dT kvs)
section
variable {X:Cx} {pins:List (Addr × Obj)} {σ:St} {H:Hp} {s:Shared} {a:Addr} {y d:V} {u r:Value} {o:Option V} {A:Around} {E:Value->Shared->Prop}
end
def tDGet1 (td ty:TE):TE:=fun σ H Q=>td σ H fun x H1=>∃ a,x = .ref a/\IsD H1 a/\ty σ H1 fun y H2=>∃ o,DGet H2 a y o/\Q (o.getD .non) H2
def tDGet2 (td ty tx:TE):TE:=fun σ H Q=>td σ H fun x H1=>∃ a,x = .ref a/\IsD H1 a/\ty σ H1 fun y H2=>tx σ H2 fun z H3=>∃ o,DGet H3 a y o/\Q (o.getD z) H3
def tDPop1 (td ty:TE):TE:=fun σ H Q=>td σ H fun x H1=>∃ a,x = .ref a/\IsD H1 a/\ty σ H1 fun y H2=>∃ kvs k v,H2 a = some (.dK kvs)/\y = kV k/\valV kvs k = some v/\Q v (upd H2 a (.dK (dropK kvs k)))
def tDPop2 (td ty tx:TE):TE:=fun σ H Q=>td σ H fun x H1=>∃ a,x = .ref a/\IsD H1 a/\ty σ H1 fun y H2=>tx σ H2 fun z H3=>∃ kvs k,H3 a = some (.dK kvs)/\y = kV k ∧
 (∀ v,valV kvs k = some v->Q v (upd H3 a (.dK (dropK kvs k))))/\(valV kvs k = none->Q z H3)
section
variable {X:Cx} {o e f:Expr} {apos cpos:Pos} {td ty tx:TE}
end
section
variable {X:Cx} {pins:List (Addr × Obj)} {σ:St} {H:Hp} {s:Shared} {a:Addr} {kvs:List (Key × V)} {A:Around} {E:Value->Shared->Prop}
theorem d_copyOf {Q:Value->Shared->Prop} (I:Inv X pins σ H s) (e:Rd H a (.dK kvs)) (h:∀ p s',H p = none->Inv X pins σ (upd H p (.dK kvs)) s'->Q (.ref p) s'):wpAny (model X.prog X.w) A (call (.type "dict") [.ref a]) Q E s:=by
 obtain ⟨z,hd,vs,rel,dd⟩:=dk_rd I.hok e
 refine kt_call_dict hd dd (by rw [← rel.length];exact z) fun h' dd' hs=>?_
 refine h _ _ (I.hok.fresh (Nat.le_refl _)) (I.laid (a:=s.heap.objs.size) (o:=.dK kvs) (t':=s.toks) (fun b q hq=>?_) (Nat.le_refl _) (dk_new z (beq_eq_false_iff_ne.mpr (Ne.symm (Nat.ne_of_lt I.big))) rel dd'))
 exact (hs.2 b (Nat.ne_of_lt (Heap.lt_size hq))).trans (Heap.get?_push_of_some _ hq)
end
section
variable {X:Cx} {pins:List (Addr × Obj)} {σ:St} {H:Hp} {s:Shared} {a:Addr} {y:V} {u:Value} {A:Around} {E:Value->Shared->Prop}
end
end L2
namespace Att
open PySem PySem.W PySem.Calls PyProof.Rows
theorem ints_of_wellAll {P:Params} {h:Heap}:∀ (ns:List Int) (vs:List Value),WellAll P h vs (ns.map WData.int)->IntsAre vs ns:=by
 intro ns
 induction ns with
 | nil=>
  intro vs w
  rw [List.map_nil] at w
  cases w
  exact .nil
 | cons n ns ih=>
  intro vs w
  rw [List.map_cons] at w
  cases w with
  | cons a b=>
   cases a
   exact .cons _ _ (ih _ b)
theorem script_of {l:OpenLaw} {n:Nat} (hn:l.most = some n) {P:Params} {h:Heap} {args:List WData} {vals:List Value}
  (hpre:l.row.toRowW.claim.pre args = true) (hwl:WellAll P h vals args) :
  ∃ a vs ns,vals = [Value.ref a]/\args = [WData.list (ns.map WData.int)]/\h.get? a = some { cls:=.type "list",data:=.seq vs.toArray }/\IntsAre vs ns/\ns.length ≤ n:=by
 have hsh:WShape.hasAll [] args [.list .int] = true:=(pre_splitW hpre).1
 have hc:l.pre.holds [] { args:=args } = true:=(pre_splitW hpre).2
 obtain ⟨d,r,rfl,h1,h2⟩:=hasAllW_cons hsh
 obtain rfl:=hasAllW_nil h2
 obtain ⟨xs,rfl,h3⟩:=hasW_list h1
 obtain ⟨ns,rfl⟩:=items_int h3
 have hlen:ns.length ≤ n:=by
  unfold OpenLaw.pre at hc
  have h4:(WTm.not (.lt (.lit (.int (n:Int))) (.len (.arg 0)))).holds [] { args:=[.list (ns.map .int)] } = true:=by
   have h4:=(holds_andW hc).1
   rw [hn] at h4
   exact h4
  have h5:=condW_of h4 (w_not (w_lt w_lit (w_len_list (w_arg rfl))))
  rw [List.length_map] at h5
  refine Nat.le_of_not_lt fun q=>?_
  have q':(n:Int) < ((ns.length:Nat):Int):=by omega
  first
   | (rw [decide_eq_true q'] at h5;exact absurd h5 (by decide))
   | (simp at h5;omega)
 cases hwl with
 | cons w1 w2=>
  cases w2
  cases w1 with
  | list ho hall=>exact ⟨_,_,ns,rfl,rfl,ho,ints_of_wellAll ns _ hall,hlen⟩
theorem post_true (l:OpenLaw) (args:List WData):l.row.toRowW.claim.post args (.bool true) args = true:=
 postW_of (r:=l.row.toRowW) (X:=(true == true))
  (show WShape.has [] (.bool true) .bool = true by first | rfl | decide | simp [WShape.has,WShape.arms,WShape.armsAll])
  (show (WTm.eq .res (.lit (.bool true))).value [] { args:=args,res:=some (.bool true),after:=args } = some (.bool (true == true)) from w_eq_bool (w_res rfl) w_lit) rfl
theorem attach_call {l:OpenLaw} {n:Nat} {q:Program} {loose:List Str} {XP:(Str->Option Value)->Heap->Prop} {YP:World->Heap->Prop} {d:DefRec}
  (hn:l.most = some n) (hdf:d.params.defaults = [])
  (call:∀ (w:World) (s₀ s₁:Shared) (mg mb:Str->Option Value) (fa:Addr) (o:Obj) (pm cd doc:Value) (a:Addr) (vs:List Value) (ns:List Int),
   Ground q loose [] XP w s₀ mg mb s₁.heap->YP w s₁.heap →
   s₁.heap.get? fa = some o->o.data = .func (docDef d.name d.params d.body d.scope pm cd doc)->s₁.heap.CodeRec cd d.name->mg d.name = some (.ref fa) →
   s₁.heap.get? a = some { cls:=.type "list",data:=.seq vs.toArray }->IntsAre vs ns->ns.length ≤ n->s₁.gens = #[] →
   codeAny (model l.prog w) callerA (.call (.ref fa) ⟨[.ref a],[]⟩) (fun r s'=>r = .ok (.ret (.bool true))/\OldK s₁.heap s'.heap/\s'.os = s₁.os/\AllBare s'.gens) s₁) :
  WalkO q loose XP YP l.row.toRowW d [] (fun f vs=>PySem.call f vs):=by
 intro w s₀ s₁ mg mb G Y fa o pm cd doc dV kV ho hd hcd hD hmg hg args vals as hpre hlay hrd hwl hlo
 obtain rfl:dV = .none:=Dflts.none hD hdf
 obtain rfl:kV = .none:=Dflts.noKw hD
 obtain ⟨a,vs,ns,rfl,rfl,hobj,hints,hlen⟩:=script_of hn hpre hwl
 refine enter_call (codeAny_mono (call w s₀ s₁ mg mb fa o pm cd doc a vs ns G Y ho (fd_plain hd) hcd hmg hobj hints hlen hg) fun r s' hq=>?_)
 obtain ⟨rfl,h2,h3,h4⟩:=hq
 exact ⟨.inl ⟨.bool true,.bool true,[],rfl,fun _=>rfl,.bool true,post_true l _,fun _=>⟨List.Pairwise.nil,fun _ hm=>(nomatch hm)⟩⟩,h2,h3,h4⟩
section
variable {prog:Program} {w:World} {A:Around} {E:Value->Shared->Prop} {s:Shared} {K:Frag}
def noObjs (h:Heap):Heap:={ h with objs:=#[] }
def ledger (h:Heap) (L d:Addr):List (Addr × Obj):=(List.range h.objs.size).filterMap fun a=>if a = L\/a = d then none else (h.get? a).map fun o=>(a,o)
end
end Att
namespace L2
open PySem PySem.Spec PyProof.Rows
theorem vals_ints:∀ {vs:List Value} {ns:List Int},IntsAre vs ns->Vals (ns.map V.int) vs
 | _,_,.nil=>.nil
 | _,_,.cons n t h=>.cons ⟨t,rfl⟩ (vals_ints h)
def Only (H:Hp):Prop:=∀ b,H b = none\/∃ o xs,H b = some (.frz o (.lst xs))
end L2
namespace L2
open PySem PySem.Spec PyProof.Rows
abbrev KOf {K:PySem.W.Frag} {h:Heap} (_:K.In h):PySem.W.Frag:=K
end L2
namespace L2
open PySem PySem.Spec PyProof.Rows
def inClass (s:Stmt) (j:Nat):Stmt:=match s with
 | .ClassDef _ _ _ body _ _ _ _ _ _ _=>body.getD j (.Pass ⟨0,0,0,0⟩)
 | _=>.Pass ⟨0,0,0,0⟩
def defArgs (s:Stmt):Arguments:=match s with
 | .FunctionDef _ a _ _ _ _ _ _ _ _=>a
 | _=>{ posonlyargs:=[],args:=[],vararg:=none,kwonlyargs:=[],kw_defaults:=[],kwarg:=none,defaults:=[] }
def defBody (s:Stmt):List Stmt:=match s with
 | .FunctionDef _ _ b _ _ _ _ _ _ _=>b
 | _=>[]
def defScope (s:Stmt):Scope:=match s with
 | .FunctionDef _ _ _ _ _ _ sc _ _ _=>sc
 | _=>{ kind:=.function,names:=[],isGenerator:=false,isCoroutine:=false }
abbrev CX0:CXT:=fun _ _ _ _ _ _=>False
abbrev E0:XK:=fun _ _ _=>False
theorem pass0 {X:Cx}:Passes CX0 X E0:=fun _ _ _ _ _ _ _ h=>h.elim
structure Fun (K:PySem.W.Frag) (x qual:Str) (st:Stmt) (f:Addr) (fd:FuncData):Prop where
 ex:∃ (oc:Value) (od:Option Addr) (kV doc pm:Value) (an:Option Addr) (cdv ct:Value) (osl:Array (Option Value)),
  fd = PySem.W.fnOf x qual (defArgs st) (defBody st) (defScope st) .none kV doc pm an cdv ct/\K.lookup f = some ⟨oc,od,.func fd,osl⟩/\PySem.W.codeIn K cdv qual = true
 kp:PySem.W.keepIn K (.ref f) = true
section
variable {P:Program} {w:World} {K:PySem.W.Frag} {mg:Str->Option Value} {base:Heap}
theorem Fun.ok {x qual:Str} {st:Stmt} {f:Addr} {fd:FuncData} {N ps:List Str} {k:Nat} {sp:Sp} (F:Fun K x qual st f fd) (S:FnScope N ps (defScope st)) (len:∀ vs H Q E,sp vs H Q E->vs.length = ps.length)
  (hbody:∀ (cdv:Value) (A:Around) (outer:List Env) (s:Shared) (H:Hp) (vs:List V) (Q:VK) (E:XK),Room k (A.deeper (envOfC qual (defScope st) s.heap.objs.size f cdv))->sp vs H Q E →
   ∃ t,PSs (cxOf CX0 P w K mg base N qual (defScope st) f cdv A outer s H E).nox (defBody st) t/\t { nx:=fun _ H'=>Q .non H',rt:=Q } (start N vs) H):FnOk P w K mg base CX0 (k + 1) f fd ps sp:=by
 obtain ⟨oc,od,kV,doc,pm,an,cdv,ct,osl,rfl,lk,hcd⟩:=F.ex
 refine fn_of lk hcd S len fun A outer s H vs Q E hr hsp=>?_
 obtain ⟨t,h,q⟩:=hbody cdv A outer s H vs Q E hr hsp
 exact ⟨t,h.nox,q⟩
theorem Fun.binds {x qual:Str} {st:Stmt} {f:Addr} {fd:FuncData} {ps:List Str} (F:Fun K x qual st f fd)
  (h:∀ (kV doc pm:Value) (an:Option Addr) (cdv ct:Value) (us:List Value),us.length = ps.length->bindArgs (PySem.W.fnOf x qual (defArgs st) (defBody st) (defScope st) .none kV doc pm an cdv ct) ⟨us,[]⟩ = pure (ps.zip us)):Binds K fd ps []:=by
 obtain ⟨oc,od,kV,doc,pm,an,cdv,ct,osl,rfl,lk,hcd⟩:=F.ex
 exact .all (h kV doc pm an cdv ct)
theorem fun_mk {x qual:Str} {st:Stmt} {f:Addr} {oc:Value} {od an:Option Addr} {osl:Array (Option Value)} {kV doc pm cdv ct:Value} (l:K.lookup f = some ⟨oc,od,.func (PySem.W.fnOf x qual (defArgs st) (defBody st) (defScope st) .none kV doc pm an cdv ct),osl⟩)
  (c:PySem.W.codeIn K cdv qual = true) (k:PySem.W.keepIn K (.ref f) = true):Fun K x qual st f (PySem.W.fnOf x qual (defArgs st) (defBody st) (defScope st) .none kV doc pm an cdv ct):=⟨⟨oc,od,kV,doc,pm,an,cdv,ct,osl,rfl,l,c⟩,k⟩
end
theorem hu_of {A:Around} {k:Nat} (hr:Room k A):A.units + 1 < cLine:=Nat.lt_of_le_of_lt (Nat.add_le_add_left (by decide:1 ≤ 64) _) hr.units
section
variable {X:Cx}
theorem pv (i:Nat) {x:Str} {pos:Pos} (hN:X.N[i]? = some x:=by rfl) (hv:Vis X.env.scope x:=by first | exact Or.inl rfl | exact Or.inr (Or.inl rfl) | exact Or.inr (Or.inr rfl)) (hd:(x == ("__debug__":Str)) = false:=by decide)
  (hcd:(x == ("__classdict__":Str)) = false:=by decide):PE X (.Name x pos) (tVar i):=pe_var hN hv hd hcd
end
theorem iteF {A B:Prop} (h:B):if false = true then A else B:=by
 rw [if_neg Bool.false_ne_true]
 exact h
theorem iteT {A B:Prop} (h:A):if true = true then A else B:=by
 rw [if_pos rfl]
 exact h
theorem ite2 {c A B:Prop} [Decidable c] (h1:c->A) (h2:¬ c->B):if c then A else B:=by
 by_cases h:c
 ·rw [if_pos h]
  exact h1 h
 ·rw [if_neg h]
  exact h2 h
theorem iteNS {c A B:Prop} [Decidable c] (hc:c) (h:B):if (!decide c) = true then A else B:=by
 rw [decide_eq_true hc]
 exact iteF h
def Same (H H':Hp):Prop:=∀ b o,H b = some o->H' b = some o
theorem Same.refl (H:Hp):Same H H:=fun _ _ h=>h
theorem Same.trans {H H1 H2:Hp} (a:Same H H1) (b:Same H1 H2):Same H H2:=fun c o h=>b c o (a c o h)
theorem Same.seq {K:PySem.W.Frag} {H H':Hp} {a:Addr} {xs:List V} (e:Same H H') (h:SqL K H a xs):SqL K H' a xs:=by
 rcases h with (h | ⟨o,h⟩) | h
 ·exact .inl (.inl (e _ _ h))
 ·exact .inl (.inr ⟨o,e _ _ h⟩)
 ·exact .inr h
section
variable {X:Cx}
end
section
variable {κ:Type} [DecidableEq κ]
end
end L2
namespace L2
open PySem PySem.Spec PyProof.Rows
def closF (env:Env) (cs:List (Str × Addr)) (y:Str × NameKind):List (Str × Addr):=
 if (y.2 == NameKind.free) = true then (y.1,(env.cells.lookup y.1).getD 0) :: cs else cs
def closL (env:Env) (names:List (Str × NameKind)):List (Str × Addr):=names.foldl (closF env) []
theorem clos_from {env:Env}:∀ (names:List (Str × NameKind)) (cs:List (Str × Addr)),(∀ y ∈ names,y.2 = .free->∃ c,env.cells.lookup y.1 = some c) →
  (forIn names cs fun y r=>(if (y.2 == NameKind.free) = true then do let a ← cellOf env y.1;pure (ForInStep.yield ((y.1,a) :: r)) else pure (ForInStep.yield r):Sem (ForInStep (List (Str × Addr))))) = pure (names.foldl (closF env) cs)
 | [],cs,_=>rfl
 | y :: r,cs,h=>by
  rw [List.forIn_cons,List.foldl_cons]
  by_cases hy:(y.2 == NameKind.free) = true
  ·obtain ⟨c,hc⟩:=h y List.mem_cons_self (eq_of_beq hy)
   have e:cellOf env y.1 = pure c:=by unfold cellOf;rw [hc]
   rw [if_pos hy,e,pure_bind,pure_bind]
   have e2:closF env cs y = (y.1,c) :: cs:=by unfold closF;rw [if_pos hy,hc];rfl
   rw [e2]
   exact clos_from r _ fun z hz=>h z (List.mem_cons_of_mem _ hz)
  ·rw [if_neg hy,pure_bind]
   have e2:closF env cs y = cs:=by unfold closF;rw [if_neg hy]
   rw [e2]
   exact clos_from r _ fun z hz=>h z (List.mem_cons_of_mem _ hz)
theorem clos_ok {env:Env} {scope:Scope} (h:∀ y ∈ scope.names,y.2 = .free->∃ c,env.cells.lookup y.1 = some c):closureFor scope env = pure (closL env scope.names):=by
 have e:=clos_from (env:=env) scope.names [] h
 unfold closL
 rw [← e]
 simp only [closureFor,bind_pure_comp,map_pure,bind_pure]
theorem clos_sub {env:Env}:∀ (names:List (Str × NameKind)) (cs:List (Str × Addr)),(∀ y ∈ names,y.2 = .free->∃ c,env.cells.lookup y.1 = some c)->(∀ x c,cs.lookup x = some c->env.cells.lookup x = some c) →
  ∀ x c,(names.foldl (closF env) cs).lookup x = some c->env.cells.lookup x = some c
 | [],cs,_,hc,x,c,e=>hc x c e
 | y :: r,cs,h,hc,x,c,e=>by
  rw [List.foldl_cons] at e
  refine clos_sub r _ (fun z hz=>h z (List.mem_cons_of_mem _ hz)) (fun z d q=>?_) x c e
  unfold closF at q
  by_cases hy:(y.2 == NameKind.free) = true
  ·obtain ⟨c',hc'⟩:=h y List.mem_cons_self (eq_of_beq hy)
   rw [if_pos hy,List.lookup_cons,hc'] at q
   cases hz:z == y.1 with
   | true=>
    rw [hz] at q
    have q':c' = d:=Option.some.inj q
    rw [eq_of_beq hz,hc',q']
   | false=>
    rw [hz] at q
    exact hc z d q
  ·rw [if_neg hy] at q
   exact hc z d q
theorem clos_has {env:Env}:∀ (names:List (Str × NameKind)) (cs:List (Str × Addr)) (x:Str),((x,NameKind.free) ∈ names\/∃ c,cs.lookup x = some c)->∃ c,(names.foldl (closF env) cs).lookup x = some c
 | [],cs,x,h=>by
  rcases h with h | h
  ·cases h
  ·exact h
 | y :: r,cs,x,h=>by
  rw [List.foldl_cons]
  refine clos_has r _ x ?_
  rcases h with h | ⟨c,h⟩
  ·rcases List.mem_cons.mp h with e | e
   ·subst e
    refine .inr ⟨(env.cells.lookup x).getD 0,?_⟩
    unfold closF
    rw [if_pos (show ((x,NameKind.free).2 == NameKind.free) = true from rfl),List.lookup_cons,beq_self_eq_true]
   ·exact .inl e
  ·refine .inr ?_
   unfold closF
   by_cases hy:(y.2 == NameKind.free) = true
   ·rw [if_pos hy,List.lookup_cons]
    cases hz:x == y.1 with
    | true=>exact ⟨_,rfl⟩
    | false=>exact ⟨c,h⟩
   ·rw [if_neg hy]
    exact ⟨c,h⟩
abbrev cxComp (X:Cx) (scope:Scope) (N:List Str) (s:Shared) (H:Hp) (fp:List Addr):Cx where
 prog:=X.prog
 w:=X.w
 K:=X.K
 mg:=X.mg
 base:=X.base
 A:=X.A
 N:=N
 s₀:=s
 H₀:=H
 env:=compEnvC scope (closL X.env scope.names) s.heap.objs.size X.env
 outer:=X.stack
 stack:=X.stack
 ex:=fp
 fn:=fun _=>false
 calm:=X.calm
 pn:=[]
 xe:=fun _ _=>False
structure CompTx (osc scope:Scope) (N0:List Str) (xs:List Str) (fr:List Nat):Prop where
 kind:scope.kind = .function
 nocell:∀ y ∈ scope.names,y.2 ≠ .cell
 names:∀ y ∈ scope.names,y.2 = .local->scope.names.lookup y.1 = some .local
 free:∀ y ∈ scope.names,y.2 = .free->osc.names.lookup y.1 = some .cell\/osc.names.lookup y.1 = some .free
 fro:∀ j ∈ fr,∃ x,N0[j]? = some x/\scope.names.lookup x = some .free
 nd:(xs ++ fr.map fun j=>N0.getD j "").Nodup
def compN (N0:List Str) (xs:List Str) (fr:List Nat):List Str:=xs ++ fr.map fun j=>N0.getD j ""
def compSt (xs:List Str) (fr:List Nat) (σ:St):St:=xs.map (fun _=>none) ++ fr.map fun j=>(σ[j]?).join
theorem mem_of_lookup' {κ:Type}:∀ {l:List (Str × κ)} {x:Str} {k:κ},l.lookup x = some k->(x,k) ∈ l
 | [],_,_,h=>by cases h
 | (n,k') :: r,x,k,h=>by
  rw [List.lookup_cons] at h
  cases hx:x == n with
  | true=>
   rw [hx] at h
   have h':k' = k:=Option.some.inj h
   rw [eq_of_beq hx,h']
   exact List.mem_cons_self
  | false=>
   rw [hx] at h
   exact List.mem_cons_of_mem _ (mem_of_lookup' h)
theorem relabel_look {env:Env}:∀ {names:List (Str × NameKind)} {x:Str} {k:NameKind},
  (names.map fun (n,k)=>if (k == NameKind.free && env.scope.kind == .function && env.kindOf n == some .cell) then (n,NameKind.cell) else (n,k)).lookup x = some k →
  names.lookup x = some k\/(k = .cell/\names.lookup x = some .free)
 | [],_,_,h=>by cases h
 | (n,k') :: r,x,k,h=>by
  have ih:=@relabel_look env r x k
  rw [List.map_cons] at h
  rw [List.lookup_cons]
  by_cases hc:(k' == NameKind.free && env.scope.kind == .function && env.kindOf n == some .cell) = true
  ·have h':List.lookup x ((n,NameKind.cell) :: (r.map fun (n,k)=>if (k == NameKind.free && env.scope.kind == .function && env.kindOf n == some .cell) then (n,NameKind.cell) else (n,k))) = some k:=by
    rw [← h];simp only [hc,if_true]
   rw [List.lookup_cons] at h'
   cases hx:x == n with
   | true=>
    rw [hx] at h'
    have h2:NameKind.cell = k:=Option.some.inj h'
    rw [Bool.and_eq_true,Bool.and_eq_true] at hc
    exact .inr ⟨h2.symm,congrArg some (eq_of_beq hc.1.1)⟩
   | false=>
    rw [hx] at h'
    exact ih h'
  ·have h':List.lookup x ((n,k') :: (r.map fun (n,k)=>if (k == NameKind.free && env.scope.kind == .function && env.kindOf n == some .cell) then (n,NameKind.cell) else (n,k))) = some k:=by
    rw [← h];simp only [hc];rfl
   rw [List.lookup_cons] at h'
   cases hx:x == n with
   | true=>
    rw [hx] at h'
    exact .inl h'
   | false=>
    rw [hx] at h'
    exact ih h'
theorem relabel_free {env:Env}:∀ {names:List (Str × NameKind)} {x:Str},names.lookup x = some .free →
  (names.map fun (n,k)=>if (k == NameKind.free && env.scope.kind == .function && env.kindOf n == some .cell) then (n,NameKind.cell) else (n,k)).lookup x = some .cell ∨
  (names.map fun (n,k)=>if (k == NameKind.free && env.scope.kind == .function && env.kindOf n == some .cell) then (n,NameKind.cell) else (n,k)).lookup x = some .free
 | [],_,h=>by cases h
 | (n,k') :: r,x,h=>by
  have ih:=@relabel_free env r x
  rw [List.lookup_cons] at h
  rw [List.map_cons]
  by_cases hc:(k' == NameKind.free && env.scope.kind == .function && env.kindOf n == some .cell) = true
  ·have e:(match (n,k') with | (n,k)=>if (k == NameKind.free && env.scope.kind == .function && env.kindOf n == some .cell) then (n,NameKind.cell) else (n,k)) = (n,NameKind.cell):=by
    simp only [hc,if_true]
   rw [e,List.lookup_cons]
   cases hx:x == n with
   | true=>exact .inl rfl
   | false=>rw [hx] at h;exact ih h
  ·have e:(match (n,k') with | (n,k)=>if (k == NameKind.free && env.scope.kind == .function && env.kindOf n == some .cell) then (n,NameKind.cell) else (n,k)) = (n,k'):=by
    simp only [hc];rfl
   rw [e,List.lookup_cons]
   cases hx:x == n with
   | true=>
    rw [hx] at h
    exact .inr h
   | false=>rw [hx] at h;exact ih h
section
variable {X:Cx}
theorem comp_free {osc scope:Scope} {N0 xs:List Str} {fr:List Nat} {pins:List (Addr × Obj)} {σ:St} {H:Hp} {s:Shared} (C:CompTx osc scope N0 xs fr) (ho:X.env.scope = osc) (I:Inv X pins σ H s) :
  ∀ y ∈ scope.names,y.2 = .free->∃ c,X.env.cells.lookup y.1 = some c:=fun y hy e=>by
 refine I.ok.has y.1 ?_
 rw [← ho] at C
 exact C.free y hy e
theorem comp_start {osc scope:Scope} {N0 xs:List Str} {fr:List Nat} {pins:List (Addr × Obj)} {σ:St} {H:Hp} {s:Shared} {fp:List Addr} {h₁:Heap} {tk:Nat} (C:CompTx osc scope N0 xs fr) (ho:X.env.scope = osc) (hN0:X.N = N0) (I:Inv X pins σ H s)
  (hf:∀ b ∈ fp,FpOk X pins H b) (hlt:∀ b ∈ fp,b < s.heap.objs.size) (hn:h₁.Ns s.heap.objs.size fun _=>none) (hk:∀ b o,s.heap.get? b = some o->h₁.get? b = some o) :
  Inv (cxComp X scope (compN N0 xs fr) s H fp) [] (compSt xs fr σ) H { s with heap:=h₁,toks:=tk }:=by
 subst hN0
 have hfree:=comp_free C ho I
 have sub:=clos_sub (env:=X.env) scope.names [] hfree (fun x c e=>by cases e)
 have nC:∀ x c,X.env.cells.lookup x = some c->c ≠ s.heap.objs.size:=fun x c e z=>by
  obtain ⟨v,q⟩:=I.cell x c e
  exact absurd q.lt (by rw [z];exact Nat.lt_irrefl _)
 refine ⟨⟨I.ok.mod,C.kind,I.ok.glob,I.ok.blt,Nat.le_refl _,fun x y c h1 h2=>I.ok.inj x y c (sub x c h1) (sub y c h2),fun x hx=>?_,fun x c h _=>(Bool.false_ne_true h).elim,I.ok.hd,I.ok.frames,.inl rfl,fun b hb=>?_,I.bs,Nat.le_trans I.ok.bsz I.sz,fun b o e hb=>?_,fun b hb hz=>?_,I.stack,I.stkFree⟩,
  rfl,I.bare,Un.kept hk,⟨_,hn,fun i x v h1 h2 h3=>?_⟩,fun x c h=>?_,I.hok.fresh (Nat.le_refl _),fun x c h=>I.freeC x c (sub x c h),fun p hp=>absurd (show p ∈ ([]:List (Addr × Obj)) from hp) (by simp),I.hok.kept hk,?_⟩
 ·have hx':(relabel scope X.env).names.lookup x = some .cell\/(relabel scope X.env).names.lookup x = some .free:=hx
  refine clos_has (env:=X.env) scope.names [] x (.inl ?_)
  rcases hx' with q | q
  ·rcases relabel_look q with z | ⟨_,z⟩
   ·exact absurd rfl (C.nocell _ (mem_of_lookup' z))
   ·exact mem_of_lookup' z
  ·rcases relabel_look q with z | ⟨z,_⟩
   ·exact mem_of_lookup' z
   ·cases z
 ·exact ⟨Nat.ne_of_lt (hlt b hb),fun x c h=>(hf b hb).2.2.2.2.1 x c (sub x c h)⟩
 ·rcases (hf b hb).2.2.2.1 with z | z
  ·exact I.ok.noex b o e z
  ·exact absurd (Nat.lt_of_lt_of_le (Heap.lt_size e) (Nat.le_trans I.ok.bsz z)) (Nat.lt_irrefl _)
 ·rcases List.mem_cons.mp (I.stkSub b hz) with z | z
  ·exact (hf b hb).2.1 z
  ·exact (hf b hb).2.2.1 z
 ·
  have hi:¬ i < xs.length:=fun hi=>by
   unfold compSt at h2
   rw [List.getElem?_append_left (by rw [List.length_map];exact hi),List.getElem?_map] at h2
   cases q:xs[i]? with
   | none=>rw [q] at h2;cases h2
   | some y=>rw [q] at h2;cases h2
  have hi':xs.length ≤ i:=Nat.le_of_not_lt hi
  have e2:(fr.map fun j=>(σ[j]?).join)[i - xs.length]? = some (some v):=by
   have:=h2
   unfold compSt at this
   rw [List.getElem?_append_right (by rw [List.length_map];exact hi'),List.length_map] at this
   exact this
  rw [List.getElem?_map] at e2
  cases q:fr[i - xs.length]? with
  | none=>rw [q] at e2;cases e2
  | some j=>
   rw [q] at e2
   have e3:(σ[j]?).join = some v:=Option.some.inj e2
   have e4:σ[j]? = some (some v):=by
    cases z:σ[j]? with
    | none=>rw [z] at e3;cases e3
    | some u=>rw [z] at e3;rw [show u = some v from e3]
   obtain ⟨y,hy,hyf⟩:=C.fro j (List.mem_of_getElem? q)
   have ex:x = y:=by
    have h1':(compN X.N xs fr)[i]? = some x:=h1
    unfold compN at h1'
    rw [List.getElem?_append_right hi',List.getElem?_map,q] at h1'
    have h5:X.N.getD j "" = x:=Option.some.inj h1'
    rw [← h5,List.getD_eq_getElem?_getD,hy]
    rfl
   subst ex
   obtain ⟨m,_,hl⟩:=I.loc
   have kf:=C.free _ (mem_of_lookup' hyf) rfl
   rw [← ho] at kf
   have vis:Vis X.env.scope x:=by
    rcases kf with z | z
    ·exact .inr (.inl z)
    ·exact .inr (.inr z)
   obtain ⟨u,r,l⟩:=hl j x v hy e4 vis
   refine ⟨u,r,.inr ⟨relabel_free hyf,?_⟩⟩
   rcases l with ⟨z,_⟩ | ⟨_,c,hc,hcell⟩
   ·have z':X.env.scope.names.lookup x = some .local:=z
    rcases kf with w | w
    ·rw [z'] at w;cases w
    ·rw [z'] at w;cases w
   ·obtain ⟨c',hc'⟩:=clos_has (env:=X.env) scope.names [] x (.inl (mem_of_lookup' hyf))
    have e5:=sub x c' hc'
    rw [hc] at e5
    cases e5
    refine ⟨c,hc',?_⟩
    obtain ⟨o,ho',hd⟩:=hcell
    exact ⟨o,hk _ _ ho',hd⟩
 ·obtain ⟨v,o,ho',hd⟩:=I.cell x c (sub x c h)
  exact ⟨v,o,hk _ _ ho',hd⟩
 ·show (compSt xs fr σ).length = (compN X.N xs fr).length
  unfold compSt compN
  simp
end
end L2
namespace L2
open PySem PySem.Spec PyProof.Rows
def PIf (X:Cx) (ifs:List Expr) (t:TT):Prop:=
 ∀ (pins:List (Addr × Obj)) (s:Shared) (σ:St) (H:Hp) (Q:Bool->Hp->Prop),Inv X pins σ H s->t σ H Q →
  wpAny (model X.prog X.w) X.A (forIn ifs true fun c r=>if r = true then do let ok ← isTrue c X.env (eval c X.env);pure (ForInStep.yield ok) else pure (ForInStep.yield r)) (TP X pins σ Q) X.xe s
def tYes:TT:=fun _ H Q=>Q true H
theorem pif_nil {X:Cx}:PIf X [] tYes:=fun _ _ σ H Q I h=>wpAny_tests_nil ⟨H,I,h⟩
theorem pif_one {X:Cx} {c:Expr} {t:TT} (h:PT X c t):PIf X [c] t:=fun pins s σ H Q I hw=>wpAny_tests_one (h pins s σ H Q I hw)
def CompW (J:It) (g:TG) (tt:TT) (te:TE) (R:Addr->Hp->Prop) (D:Addr) (σ0:St) (H0:Hp):Prop:=
 ∃ W:Nat->Nat->St->Hp->Prop,(∃ m,W 0 m σ0 H0)/\∀ i m σ H,W i m σ H →
  (J.stop i H/\R D H) ∨
  (J.go i H/\∃ (N:St->V->Hp->Prop) (M:St->Hp->Prop),(∀ σ2 y H4,N σ2 y H4->∃ ys,H4 D = some (.lst ys)/\ys.length < sizeLine/\∃ m',m' < m/\W (i + 1) m' σ2 (upd H4 D (.lst (ys ++ [y])))) ∧
   (∀ σ2 H3,M σ2 H3->∃ m',m' < m/\W (i + 1) m' σ2 H3) ∧
   ∀ x H',J.yld i H x H'->g x σ H' fun σ2 H2=>tt σ2 H2 fun b H3=>if b = true then te σ2 H3 (N σ2) else M σ2 H3)
def tComp (xs:List Str) (fr:List Nat) (wi:TI) (g:TG) (tt:TT) (te:TE):TE:=fun σ H Q=>wi σ H fun J H1=>∀ D,H1 D = none->CompW J g tt te (fun D H2=>Q (.ref D) H2) D (compSt xs fr σ) (upd H1 D (.lst []))
def sComp (i:Nat) (xs:List Str) (fr:List Nat) (wi:TI) (g:TG) (tt:TT) (te:TE):TS:=fun E σ H=>wi σ H fun J H1=>∀ D,H1 D = none->CompW J g tt te (fun D H2=>E.nx (σ.set i (some (.ref D))) H2) D (compSt xs fr σ) (upd H1 D (.lst []))
section
variable {X:Cx}
theorem comp_block {osc scope:Scope} {N0 xs:List Str} {fr:List Nat} {pins:List (Addr × Obj)} {σ:St} {H2:Hp} {s2:Shared} {fp:List Addr} {it:Addr} {tn:Nat->Heap->Prop} {J:It} {elt tg iter:Expr} {ifs:List Expr} {pos:Pos}
  {g:TG} {tt:TT} {te:TE} {E:Value->Shared->Prop} {R:Addr->Hp->Prop} {RR:Value->Addr->Result->Shared->Prop} (C:CompTx osc scope N0 xs fr) (ho:X.env.scope = osc) (hN0:X.N = N0) (hc:X.calm = true)
  (hg:∀ s H fp,PG (cxComp X scope (compN N0 xs fr) s H fp) tg g) (ht:∀ s H fp,PIf (cxComp X scope (compN N0 xs fr) s H fp) ifs tt) (he:∀ s H fp,PE (cxComp X scope (compN N0 xs fr) s H fp) elt te)
  (I2:Inv X pins σ H2 s2) (T:Turn X.prog X.w X.K tg J fp it tn) (st2:tn 0 s2.heap) (f2:∀ b ∈ fp,FpOk X pins H2 b)
  (hR:∀ D,H2 D = none->CompW J g tt te R D (compSt xs fr σ) (upd H2 D (.lst [])))
  (hRR:∀ (D C:Addr) (s':Shared) (H':Hp) (m:Str->Option Value),Inv X pins σ H' s'->s'.heap.Ns C m->FpOk X pins H' C->R D H'->RR (.ref D) C (.ok .next) s') :
  wpAny (model X.prog X.w) X.A (newList []) (fun acc s₃=>wpAny (model X.prog X.w) X.A (newFunctionEnv scope X.env.globals (closL X.env scope.names) [] X.env.qual none .none (some X.env)) (fun cenv s₄=>
   codeAny (model X.prog X.w) X.A (.compStart (.ListComp elt [⟨tg,iter,ifs,0⟩] scope pos) 0 (.ref it) acc { cenv with scope:=relabel scope X.env }) (RR acc cenv.locals) s₄) E s₃) E s2:=by
 refine wpAny_newObj_type (wpAny_newFunctionEnv C.nocell (by intro y hy;simp at hy) (fun h₁ hns₁ hsb₁=>?_) C.kind)
 dsimp only at hns₁ hsb₁ ⊢
 have I3:Inv X pins σ (upd H2 s2.heap.objs.size (.lst [])) { s2 with heap:=s2.heap.push { cls:=.type "list",data:=.seq ([]:List Value).toArray } }:=I2.lnew (its:=[]) (t':=s2.toks) .nil (by simp)
 have flt:∀ b ∈ fp,b < s2.heap.objs.size:=fun b hb=>by
  obtain ⟨o,e,_⟩:=T.obj 0 _ st2 b hb
  exact Heap.lt_size e
 have f3:∀ b ∈ fp,FpOk X pins (upd H2 s2.heap.objs.size (.lst [])) b:=fun b hb=>⟨by rw [upd_ne (Nat.ne_of_lt (flt b hb))];exact (f2 b hb).1,(f2 b hb).2⟩
 have flt3:∀ b ∈ fp,b < (s2.heap.push { cls:=.type "list",data:=.seq ([]:List Value).toArray }).objs.size:=fun b hb=>by
  rw [Heap.size_push]
  exact Nat.lt_succ_of_lt (flt b hb)
 obtain ⟨W,⟨m0,w0⟩,turn⟩:=hR s2.heap.objs.size I2.fresh
 generalize hD:s2.heap.objs.size = D at *
 generalize hs3:s2.heap.push { cls:=.type "list",data:=.seq ([]:List Value).toArray } = h3 at *
 have up2:∀ b o,s2.heap.get? b = some o->h3.get? b = some o:=fun b o e=>by rw [← hs3];exact Heap.get?_push_of_some _ e
 have old:∀ b o,h3.get? b = some o->h₁.get? b = some o:=fun b o e=>hsb₁.extBut b o (Nat.ne_of_lt (Heap.lt_size e)) (Heap.get?_push_of_some _ e)
 have Ic:=comp_start (tk:=s2.toks + ([]:List (Str × Value)).length) C ho hN0 I3 f3 flt3 hns₁ old
 have st4:tn 0 h₁:=T.keep 0 _ _ st2 fun b hb o e=>old b o (up2 b o e)
 have stat:∀ {H':Hp},(∀ b ∈ fp,H' b = none)->∀ b ∈ fp,FpOk (cxComp X scope (compN N0 xs fr) { s2 with heap:=h3 } (upd H2 D (.lst [])) fp) [] H' b:=fun hn b hb=>
  ⟨hn b hb,Nat.ne_of_lt (flt3 b hb),fun z=>by
   rcases List.mem_cons.mp (I3.stkSub b z) with q | q
   ·exact (f3 b hb).2.1 q
   ·exact (f3 b hb).2.2.1 q,.inl hb,fun x c h=>(Ic.ok.exf b hb).2 x c h,fun p hp=>absurd (show p ∈ ([]:List (Addr × Obj)) from hp) (by simp)⟩
 have fin:∀ {σ':St} {H':Hp} {s':Shared},Inv (cxComp X scope (compN N0 xs fr) { s2 with heap:=h3 } (upd H2 D (.lst [])) fp) [] σ' H' s'->R D H'->RR (.ref D) h3.objs.size (.ok .next) s':=fun {σ' H' s'} I' q=>by
  obtain ⟨m,hm,_⟩:=I'.loc
  refine hRR D h3.objs.size s' H' m (I3.call' I'.os I'.base I'.hok I'.bare fun b hb=>?_) hm (I3.fpOk (Nat.le_refl _) I'.free) q
  exact ⟨(f3 b hb).2.2.2.1,(f3 b hb).2.1,(f3 b hb).2.2.2.2.1,(f3 b hb).2.2.2.2.2⟩
 have loop:codeAny (model X.prog X.w) X.A (.compLoop (.ListComp elt [⟨tg,iter,ifs,0⟩] scope pos) 0 (.ref it) (.ref D) (compEnvC scope (closL X.env scope.names) h3.objs.size X.env)) (RR (.ref D) h3.objs.size) { s2 with heap:=h₁,toks:=s2.toks + ([]:List (Str × Value)).length }:=by
  refine codeAny_loop rfl (fun n s'=>∃ i σ' H',Inv (cxComp X scope (compN N0 xs fr) { s2 with heap:=h3 } (upd H2 D (.lst [])) fp) [] σ' H' s'/\tn i s'.heap/\(∀ b ∈ fp,H' b = none)/\W i n σ' H') (fun n s' hI=>?_) m0 ⟨0,_,_,Ic,st4,fun b hb=>(f3 b hb).1,w0⟩
  show wpAny _ X.A ((compTurn (.ListComp elt [⟨tg,iter,ifs,0⟩] scope pos) 0 (.ref it) (.ref D) (compEnvC scope (closL X.env scope.names) h3.objs.size X.env)).onRaise (fun x=>do noteFrame x (compEnvC scope (closL X.env scope.names) h3.objs.size X.env);theTreesLotGoes x)) _ _ s'
  refine wpAny_noted ?_
  rw [compTurn_list]
  obtain ⟨i,σ',H',I',st',fr',w'⟩:=hI
  refine wpAny_bind (wpAny_standAt (wpAny_bind ?_))
  rcases turn i n σ' H' w' with ⟨stop,q⟩ | ⟨go,N,M,hN,hM,step⟩
  ·refine thn (T.done (cxComp X scope (compN N0 xs fr) { s2 with heap:=h3 } (upd H2 D (.lst [])) fp) rfl rfl rfl hc i [] s' σ' H' _ I' (stat fr') st' stop) fun r s4 ⟨hr,I4⟩=>?_
   subst hr
   exact wpAny_pure (fin I4 q)
  ·refine thn (T.item (cxComp X scope (compN N0 xs fr) { s2 with heap:=h3 } (upd H2 D (.lst [])) fp) rfl rfl rfl hc i [] s' σ' H' _ I' (stat fr') st' go) fun r s4 ⟨u,hr,h4⟩=>?_
   subst hr
   refine wpAny_bind (thn h4 fun _ s5 ⟨x,H5,I5,r5,y5,st5,fr5⟩=>?_)
   have I5':=I5.pinned (stat fr5) (T.obj _ _ st5)
   have again:∀ {σ7:St} {H7:Hp} {s7:Shared},Inv (cxComp X scope (compN N0 xs fr) { s2 with heap:=h3 } (upd H2 D (.lst [])) fp) ([] ++ pinsAt fp s5.heap) σ7 H7 s7->(∃ m',m' < n/\W (i + 1) m' σ7 H7) →
     ∃ m,m < n/\∃ i σ' H',Inv (cxComp X scope (compN N0 xs fr) { s2 with heap:=h3 } (upd H2 D (.lst [])) fp) [] σ' H' s7/\tn i s7.heap/\(∀ b ∈ fp,H' b = none)/\W i m σ' H':=fun {σ7 H7 s7} I7 n7=>by
    obtain ⟨m',hm,w7⟩:=n7
    refine ⟨m',hm,i + 1,σ7,H7,I7.unpinned,T.keep _ _ _ st5 fun b hb o e=>(I7.pin (b,o) (List.mem_append_right _ (List.mem_append_right _ (mem_pinsAt hb e)))).1,fun b hb=>?_,w7⟩
    obtain ⟨o,e,d⟩:=T.obj _ _ st5 b hb
    exact (I7.pin (b,o) (List.mem_append_right _ (List.mem_append_right _ (mem_pinsAt hb e)))).2.1
   refine wpAny_bind (wpAny_mono (hg _ _ _ _ s5 σ' H5 x u _ I5' r5 (step x H5 y5)) (fun _ s6 ⟨σ6,H6,I6,q6⟩=>?_) fun _ _ z=>False.elim z)
   refine wpAny_bind (wpAny_mono (ht _ _ _ _ s6 σ6 H6 _ I6 q6) (fun ok s7 ⟨H7,I7,q7⟩=>?_) fun _ _ z=>False.elim z)
   cases ok with
   | false=>
    rw [if_neg Bool.false_ne_true] at q7
    exact wpAny_pure ⟨rfl,again I7 (hM _ _ q7)⟩
   | true=>
    rw [if_pos rfl] at q7
    refine wpAny_bind (wpAny_bind (wpAny_mono (he _ _ _ _ s7 σ6 H7 _ I7 q7) (fun y s8 ⟨v,H8,I8,r8,q8⟩=>?_) fun _ _ z=>False.elim z))
    obtain ⟨ys,eD,hz,q8⟩:=hN _ _ _ q8
    refine wpAny_bind (wpAny_mono (mt_append (X:=cxComp X scope (compN N0 xs fr) { s2 with heap:=h3 } (upd H2 D (.lst [])) fp) _ s8 σ6 H8 (.ref D) [v] (.ref D) [y] (fun _ H9=>∃ m',m' < n/\W (i + 1) m' σ6 H9) I8 rfl (.cons r8 .nil) ⟨D,ys,v,rfl,rfl,eD,hz,q8⟩) (fun _ s9 ⟨_,H9,I9,_,q9⟩=>?_) fun _ _ z=>False.elim z)
    exact wpAny_pure (wpAny_pure ⟨rfl,again I9 q9⟩)
 exact codeAny_compStart_list loop (T.self X.A 0 _ _ _ st4 loop)
variable {osc scope:Scope} {N0 xs:List Str} {fr:List Nat} {elt tg iter:Expr} {ifs:List Expr} {pos:Pos} {wi:TI} {g:TG} {tt:TT} {te:TE}
theorem pe_comp (C:CompTx osc scope N0 xs fr) (ho:X.env.scope = osc) (hN0:X.N = N0) (hc:X.calm = true) (hi:PI X tg iter wi)
  (hg:∀ s H fp,PG (cxComp X scope (compN N0 xs fr) s H fp) tg g) (ht:∀ s H fp,PIf (cxComp X scope (compN N0 xs fr) s H fp) ifs tt) (he:∀ s H fp,PE (cxComp X scope (compN N0 xs fr) s H fp) elt te)
  (hs:∀ x,foldedSetIterable iter X.env x = pure x:=by intro _;rfl):PE X (.ListComp elt [⟨tg,iter,ifs,0⟩] scope pos) (tComp xs fr wi g tt te):=by
 intro pins s σ H Q I h
 rw [eval_ListComp]
 refine wpAny_comprehension_free (use:=none) rfl hs (clos_ok (comp_free C ho I)) C.kind C.names (thn (hi pins s σ H _ I h) fun v s1 h1=>thn h1 fun itv s2 h2=>?_)
 obtain ⟨it,fp,tn,J,H2,e,I2,T,st2,f2,hR⟩:=h2
 subst e
 refine comp_block C ho hN0 hc hg ht he I2 T st2 f2 hR fun D C s' H' m I' hm fC q=>?_
 refine ⟨m,hm,fun h' sb=>⟨.ref D,H',?_,rfl,q⟩⟩
 exact I'.turned (t':=s'.toks) (fun b o hb e=>(sb.2 b hb).trans e) fC.1 fC.2.1 fC.2.2.2.1 fC.2.2.2.2.1 fC.2.2.2.2.2
theorem ps_comp {i:Nat} {y:Str} {py spos:Pos} (C:CompTx osc scope N0 xs fr) (ho:X.env.scope = osc) (hN0:X.N = N0) (hc:X.calm = true) (hi:PI X tg iter wi)
  (hg:∀ s H fp,PG (cxComp X scope (compN N0 xs fr) s H fp) tg g) (ht:∀ s H fp,PIf (cxComp X scope (compN N0 xs fr) s H fp) ifs tt) (he:∀ s H fp,PE (cxComp X scope (compN N0 xs fr) s H fp) elt te)
  (hN:X.N.Nodup) (hy:X.N[i]? = some y) (hx:Loc X.env.scope y)
  (hsw:swapsWith (.ListComp elt [⟨tg,iter,ifs,0⟩] scope pos) (some (.Name y py)) spos.line X.env = pure true:=by rfl)
  (hf:X.fn y = true\/X.env.scope.names.lookup y = some .local:=by first | exact .inl rfl | exact .inr rfl | assumption)
  (hs:∀ x,foldedSetIterable iter X.env x = pure x:=by intro _;rfl):PS X (.Assign [.Name y py] (.ListComp elt [⟨tg,iter,ifs,0⟩] scope pos) spos) (sComp i xs fr wi g tt te):=by
 intro pins s σ H D I h
 rw [exec_Assign_Name_used _ _ _ _ hsw]
 refine wpAny_bind (wpAny_standAt (wpAny_bind ?_))
 show wpAny _ X.A (do let _ ← comprehension (.ListComp elt [⟨tg,iter,ifs,0⟩] scope pos) scope X.env _ (newList []) false (eval iter X.env) (some (assign (.Name y py) X.env))) _ _ s
 refine wpAny_bind (wpAny_mono (wpAny_comprehension_free (use:=some (assign (.Name y py) X.env)) (Q:=fun _ s'=>SP X pins D .next s') rfl hs (clos_ok (comp_free C ho I)) C.kind C.names
  (thn (hi pins s σ H _ I h) fun v s1 h1=>thn h1 fun itv s2 h2=>?_)) (fun _ s' hq=>wpAny_pure (wpAny_pure hq)) fun _ _ e=>e)
 obtain ⟨it,fp,tn,J,H2,e,I2,T,st2,f2,hR⟩:=h2
 subst e
 refine comp_block C ho hN0 hc hg ht he I2 T st2 f2 hR fun Dl C s' H' m I' hm fC q=>?_
 refine wpAny_assign_Name (store_ok2 I' hN hy hx (show RelV (.ref Dl) (.ref Dl) from rfl) (fun s3 I3 hsb=>?_) hf)
 obtain ⟨a,sb,ha⟩:=hsb
 have hCa:C ≠ a:=by
  rcases ha with z | z
  ·rw [z];exact fC.2.1
  ·exact fun w=>fC.2.2.2.2.1 y a z w.symm
 refine ⟨m,hm.sameBut sb hCa,fun h' sb'=>⟨_,H',?_,q⟩⟩
 exact I3.turned (t':=s3.toks) (fun b o hb e=>(sb'.2 b hb).trans e) fC.1 fC.2.1 fC.2.2.2.1 fC.2.2.2.2.1 fC.2.2.2.2.2
end
def Its (x:Str):It:=⟨fun i _=>i < x.cps.size,fun i H v H'=>H' = H/\∃ c,x.cps[i]? = some c/\v = .str ⟨#[c]⟩,fun i _=>x.cps.size ≤ i⟩
theorem strIter_ty (x:Str):strIterType x = "str_ascii_iterator"\/strIterType x = "str_iterator":=by
 unfold strIterType
 split
 ·exact .inl rfl
 ·exact .inr rfl
theorem turn_str {P:Program} {w:World} {K:PySem.W.Frag} {tg:Expr} (x:Str) (t:Tok) (it:Addr):Turn P w K tg (Its x) [it] it (fun i h=>h.IsStrIter it (strIterType x) x t i) where
 mem:=by simp
 obj:=fun i h st b hb=>by
  have e:b = it:=by simpa using hb
  subst e
  obtain ⟨o,e,c,d⟩:=st
  exact ⟨o,e,fun v z=>by rw [d] at z;cases z⟩
 keep:=fun i h h' st k=>by
  obtain ⟨o,e,r⟩:=st
  exact ⟨o,k it (by simp) o e,r⟩
 item:=by
  intro X hP hw hK hc i pins s σ H E I hf st hg
  subst hP hw hK
  have hg':i < x.cps.size:=hg
  obtain ⟨f0,f1,f2,f3,f4,f5⟩:=hf it (by simp)
  have key:∀ h',h'.IsStrIter it (strIterType x) x t (i + 1)->Heap.SameBut it s.heap h'->∃ u,some (Value.str ⟨#[x.cps[i]]⟩ s.toks) = some u ∧
   wpAny (model X.prog X.w) X.A (letOwnedTupleGo tg (.ref it) u) (fun _ s2=>∃ v H',Inv X pins σ H' s2/\RelV v u/\(Its x).yld i H v H'/\s2.heap.IsStrIter it (strIterType x) x t (i + 1)/\∀ b ∈ [it],H' b = none) E { s with heap:=h',toks:=s.toks + 1 }:=fun h' st' sb=>by
   have I1:Inv X pins σ H { s with heap:=h',toks:=s.toks + 1 }:=I.turned (t':=s.toks + 1) (fun b o hb e=>(sb.2 b hb).trans e) f0 f1 f3 f4 f5
   obtain ⟨o,e,c,d⟩:=id st'
   refine ⟨_,rfl,go_of (s:={ s with heap:=h',toks:=s.toks + 1 }) e c d ?_ ⟨.str ⟨#[x.cps[i]]⟩,H,I1,⟨_,rfl⟩,⟨rfl,_,by simp [hg'],rfl⟩,st',fun b hb=>(hf b hb).1⟩⟩
   rcases strIter_ty x with z | z <;> rw [z] <;> decide
  rcases strIter_ty x with z | z
  ·rw [z] at st key
   rw [z]
   exact wpAny_pyNext_ascii_item st (c:=x.cps[i]) (by simp [hg']) fun h' a b=>key h' a b
  ·rw [z] at st key
   rw [z]
   exact wpAny_pyNext_wide_item st (c:=x.cps[i]) (by simp [hg']) fun h' a b=>key h' a b
 done:=by
  intro X hP hw hK hc i pins s σ H E I hf st hg
  subst hP hw hK
  have hg':x.cps.size ≤ i:=hg
  obtain ⟨f0,f1,f2,f3,f4,f5⟩:=hf it (by simp)
  have hx:x.cps[i]? = none:=by simp [hg']
  rcases strIter_ty x with z | z
  ·rw [z] at st
   exact wpAny_pyNext_ascii_end (I.ok.hd hc) st hx fun h' eb=>⟨rfl,I.turned (t':=s.toks) (fun b o hb e=>eb b o hb e) f0 f1 f3 f4 f5⟩
  ·rw [z] at st
   exact wpAny_pyNext_wide_end (I.ok.hd hc) st hx fun h' eb=>⟨rfl,I.turned (t':=s.toks) (fun b o hb e=>eb b o hb e) f0 f1 f3 f4 f5⟩
 self:=fun A i s Q E st h=>by
  rcases strIter_ty x with z | z
  ·rw [z] at st
   exact wpAny_pyIter_striter_ascii st h
  ·rw [z] at st
   exact wpAny_pyIter_striter_wide st h
section
variable {X:Cx} {tg:Expr}
def iStr (tl:TE):TI:=fun σ H R=>tl σ H fun x H1=>∃ z,x = .str z/\R (Its z) H1
theorem pi_str {l:Expr} {tl:TE} (hl:PE X l tl):PI X tg l (iStr tl):=by
 intro pins s σ H R I h
 refine thn (hl pins s σ H _ I h) fun v s1 ⟨x,H1,I1,r1,q1⟩=>?_
 obtain ⟨z,e,q⟩:=q1
 subst e
 obtain ⟨t,rfl⟩:=r1
 refine wpAny_pyIter_strU ?_
 refine ⟨s1.heap.objs.size,[s1.heap.objs.size],_,_,H1,rfl,I1.kept (t':=s1.toks) fun b o e=>Heap.get?_push_of_some _ e,turn_str z t _,⟨_,Heap.get?_push_size _ rfl,rfl,rfl⟩,fun b hb=>?_,q⟩
 have e:b = s1.heap.objs.size:=by simpa using hb
 subst e
 exact I1.fpOk (Nat.le_refl _) (I1.hok.fresh (Nat.le_refl _))
theorem bools_of:∀ {bs:List Bool} {us:List Value},Vals (bs.map V.bl) us->LSm.BoolsAre us bs
 | [],_,r=>by rw [List.map_nil] at r;cases r;exact .nil
 | b :: bs,_,r=>by
  rw [List.map_cons] at r
  cases r with
  | cons h t=>
   cases h
   exact .cons b (bools_of t)
theorem call_all (hc:X.calm = true):CallR X (.builtin "all") (fun xs H Q=>∃ (p:Addr) (bs:List Bool),xs = [.ref p]/\SqL X.K H p (bs.map V.bl)/\Q (.bl (bs.all id)) H):=by
 intro pins s σ H xs us Q I r h
 obtain ⟨l,bs,rfl,hq,q⟩:=h
 obtain ⟨u,rfl,rx⟩:=vals1 r
 cases rx
 obtain ⟨vs,r',pl,hz⟩:=I.list hq
 have hb:LSm.BoolsAre vs bs:=bools_of r'
 have hl:=pl.isList
 have hlt:l < s.heap.objs.size:=by obtain ⟨_,e,_⟩:=hl;exact Heap.lt_size e
 refine call_all_walk (wpAny_pyIter_list hl ?_)
 refine ⟨s.heap.objs.size,[s.heap.objs.size,l],[s.heap.objs.size],vs.toArray.size,_,_,fun i=>(bs[i]?).getD true,rfl,Walks.list (A:=X.A.in1) (I.ok.hd hc) _ l (Nat.ne_of_lt hlt) vs.toArray,
  ⟨⟨_,Heap.get?_push_size _ rfl,rfl,rfl⟩,hl.push _⟩,fun i v s' Q' E' hP hQ=>?_,fun h' tk hk=>?_⟩
 ·obtain ⟨b,e,rfl⟩:=hb.get i v (by simpa using hP)
  simp only [e,Option.getD_some] at hQ
  exact wpAny_truthy_bool hQ
 ·have e:((List.range vs.toArray.size).all fun i=>(bs[i]?).getD true) = bs.all id:=by
   rw [List.size_toArray,hb.length];exact LSm.range_all bs
  rw [e]
  exact ⟨.bl (bs.all id),H,I.kept (LSm.kept_iter hk),rfl,q⟩
theorem call_isi:CallR X (.builtin "isinstance") (fun xs H Q=>∃ x n t b,xs = [x,.ty n]/\TyOf X.K H x t/\PySem.W.kitOne X.K t (.type n) = some b/\Q (.bl b) H):=by
 intro pins s σ H xs us Q I r h
 obtain ⟨x,n,t,b,rfl,ty,e,q⟩:=h
 obtain ⟨u,w',rfl,rx,rc⟩:=vals2 r
 cases (show w' = Value.type n from rc)
 exact isinst_ok I rx ty e fun tk=>⟨.bl b,H,I.tok tk,rfl,q⟩
end
section
variable {X:Cx}
theorem sl_str:SlR X (fun x lo hi H Q=>∃ z,x = .str z/\z.length ≤ sizeLine/\Q (.str (Txt.slice z lo hi)) H):=by
 intro pins s σ H x v vl vu lo hi sl Q I rx hs pl pu h
 obtain ⟨z,rfl,hz,q⟩:=h
 obtain ⟨t,rfl⟩:=rx
 refine ⟨"str",_,F.slot_str_getitem.lookup,typeIs_str _ _ _,?_⟩
 obtain ⟨o,e1,e2,e3⟩:=hs
 have fin:∀ (l u:Option (Int × Tok)),vl = partValue l->vu = partValue u->l.map (·.1) = lo->u.map (·.1) = hi->wpAny (model X.prog X.w) X.A (getItem (.str z t) (.ref sl)) (EP X pins σ Q) X.xe s:=by
  intro l u h1 h2 h3 h4
  subst h1 h2 h3 h4
  refine wpAny_getItem_str_slice (l:=l) (u:=u) (st:=none) ⟨o,e1,e2,e3⟩ rfl (post_val_or_str ⟨Nat.le_trans (Txt.slice_le z (l.map (·.1)) (u.map (·.1))) hz,fun t' k=>?_⟩)
  exact ⟨.str (Txt.slice z (l.map (·.1)) (u.map (·.1))),H,I.tok k,⟨t',rfl⟩,q⟩
 cases pl with
 | none=>
  cases pu with
  | none=>exact fin none none rfl rfl rfl rfl
  | int j tj=>exact fin none (some (j,tj)) rfl rfl rfl rfl
 | int i ti=>
  cases pu with
  | none=>exact fin (some (i,ti)) none rfl rfl rfl rfl
  | int j tj=>exact fin (some (i,ti)) (some (j,tj)) rfl rfl rfl rfl
end
theorem slice_to (x:Str) {k:Int} (h0:0 ≤ k) (h1:k ≤ x.length):(Txt.slice x none (some k)).cps.toList = x.cps.toList.take k.toNat:=by
 have e:Txt.slice x none (some k) = StrLaws.sliceText x none (some k):=rfl
 rw [e,StrLaws.sliceText_to ⟨h0,by simpa [Str.length] using h1⟩]
 simp
theorem compW_map {J:It} {g:TG} {te:TE} {R:Addr->Hp->Prop} {D:Addr} {σ0:St} {H0:Hp} (n:Nat) (ev:Nat->V) (Pv:Nat->St->Hp->Prop) (hn:n ≤ sizeLine) (h0:Pv 0 σ0 H0) (hD0:H0 D = some (.lst []))
  (hs:∀ i σ H,i < n->Pv i σ H->H D = some (.lst ((List.range i).map ev))->J.go i H/\∀ x H',J.yld i H x H'->g x σ H' fun σ2 H2=>te σ2 H2 fun y H4=>y = ev i/\H4 D = some (.lst ((List.range i).map ev))/\Pv (i + 1) σ2 (upd H4 D (.lst ((List.range (i + 1)).map ev))))
  (hd:∀ σ H,Pv n σ H->H D = some (.lst ((List.range n).map ev))->J.stop n H/\R D H):CompW J g tYes te R D σ0 H0:=by
 refine ⟨fun i m σ H=>m = n - i/\i ≤ n/\Pv i σ H/\H D = some (.lst ((List.range i).map ev)),⟨n,by omega,Nat.zero_le _,h0,hD0⟩,?_⟩
 rintro i m σ H ⟨rfl,hi,p,hD⟩
 by_cases hlt:i < n
 ·obtain ⟨go,st⟩:=hs i σ H hlt p hD
  refine .inr ⟨go,fun σ2 y H4=>y = ev i/\H4 D = some (.lst ((List.range i).map ev))/\Pv (i + 1) σ2 (upd H4 D (.lst ((List.range (i + 1)).map ev))),fun _ _=>False,?_,fun _ _ z=>z.elim,st⟩
  rintro σ2 y H4 ⟨rfl,e,p'⟩
  refine ⟨_,e,by simp;omega,n - (i + 1),by omega,rfl,hlt,?_,?_⟩
  ·rw [List.range_succ,List.map_append] at p'
   exact p'
  ·rw [upd_same,List.range_succ,List.map_append]
   rfl
 ·have e:i = n:=by omega
  subst e
  exact .inl (hd σ H p hD)
theorem range_map_getD {α β:Type} (l:List α) (d:α) (f:α->β):((List.range l.length).map fun i=>f (l.getD i d)) = l.map f:=by
 apply List.ext_getElem?
 intro i
 rw [List.getElem?_map,List.getElem?_map]
 by_cases h:i < l.length
 ·rw [List.getElem?_range h,List.getElem?_eq_getElem h]
  simp [List.getD_eq_getElem?_getD,List.getElem?_eq_getElem h]
 ·rw [List.getElem?_eq_none (by simpa using h),List.getElem?_eq_none (by simpa using h)]
  rfl
theorem Same.upd {H:Hp} {D:Addr} {o:HO} (h:H D = none):Same H (L2.upd H D o):=fun b u e=>by
 rw [upd_ne (ne_of_none e h)]
 exact e
theorem Same.upd2 {H:Hp} {D:Addr} {o o':HO} (h:H D = none):Same H (L2.upd (L2.upd H D o) D o'):=fun b u e=>by
 rw [upd_ne (ne_of_none e h),upd_ne (ne_of_none e h)]
 exact e
end L2
namespace L2
open PySem PySem.Spec PyProof.Rows
def kitTy (a b:String):Option Bool:=if (Value.type a == Value.type b) = true then some true else if PySem.W.kitMeta b = true then (fastBuiltinMro a).map (·.contains (.type b)) else none
theorem kit_eq {K:PySem.W.Frag} {a b:String}:PySem.W.kitOne K (.type a) (.type b) = kitTy a b:=rfl
def tyNames:List String:=["NoneType","bool","int","str","list","tuple","dict"]
theorem kit_int:∀ n ∈ tyNames,kitTy n "int" = some (n == "int" || n == "bool"):=by decide +kernel
theorem kit_bool:∀ n ∈ tyNames,kitTy n "bool" = some (n == "bool"):=by decide +kernel
theorem kit_str:∀ n ∈ tyNames,kitTy n "str" = some (n == "str"):=by decide +kernel
theorem kit_tuple:∀ n ∈ tyNames,kitTy n "tuple" = some (n == "tuple"):=by decide +kernel
def Is (K:PySem.W.Frag) (H:Hp) (v:V) (n:String):Prop:=TyOf K H v (.type n)/\n ∈ tyNames
theorem Is.non {K:PySem.W.Frag} {H:Hp}:Is K H .non "NoneType":=⟨.non,by decide⟩
theorem Is.bl {K:PySem.W.Frag} {H:Hp} {b:Bool}:Is K H (.bl b) "bool":=⟨.bl b,by decide⟩
theorem Is.int {K:PySem.W.Frag} {H:Hp} {i:Int}:Is K H (.int i) "int":=⟨.int i,by decide⟩
theorem Is.str {K:PySem.W.Frag} {H:Hp} {x:Str}:Is K H (.str x) "str":=⟨.str x,by decide⟩
theorem Is.lst {K:PySem.W.Frag} {H:Hp} {a:Addr} {xs:List V} (h:H a = some (.lst xs)):Is K H (.ref a) "list":=⟨.lst h,by decide⟩
theorem Is.tup {K:PySem.W.Frag} {H:Hp} {a:Addr} {xs:List V} (h:H a = some (.tup xs)):Is K H (.ref a) "tuple":=⟨.tup h,by decide⟩
theorem Is.dK {K:PySem.W.Frag} {H:Hp} {a:Addr} {kvs:List (Key × V)} (h:H a = some (.dK kvs)):Is K H (.ref a) "dict":=⟨.dK h,by decide⟩
theorem Is.str_of {K:PySem.W.Frag} {H:Hp} {v:V} (h:Is K H v "str"):∃ x,v = .str x:=by
 obtain ⟨t,_⟩:=h
 generalize e:Value.type "str" = u at t
 cases t <;> first | exact ⟨_,rfl⟩ | exact absurd (Value.type.inj e) (by decide) | cases e
def DefIn (K:PySem.W.Frag) (x:Str) (st:Stmt):Prop:=∃ (f:Addr) (oc:Value) (od:Option Addr) (kV doc pm:Value) (an:Option Addr) (cdv ct:Value) (osl:Array (Option Value)),
 PySem.W.nsIn K mainGlobals x = some (some (.ref f))/\K.lookup f = some ⟨oc,od,.func (PySem.W.fnOf x x (defArgs st) (defBody st) (defScope st) .none kV doc pm an cdv ct),osl⟩/\PySem.W.codeIn K cdv x = true/\PySem.W.keepIn K (.ref f) = true
theorem defIn_mk {K:PySem.W.Frag} {x:Str} {st:Stmt} {f:Addr} {oc:Value} {od an:Option Addr} {osl:Array (Option Value)} {kV doc pm cdv ct:Value} (a:PySem.W.nsIn K mainGlobals x = some (some (.ref f)))
  (l:K.lookup f = some ⟨oc,od,.func (PySem.W.fnOf x x (defArgs st) (defBody st) (defScope st) .none kV doc pm an cdv ct),osl⟩) (c:PySem.W.codeIn K cdv x = true) (k:PySem.W.keepIn K (.ref f) = true):DefIn K x st:=
 ⟨f,oc,od,kV,doc,pm,an,cdv,ct,osl,a,l,c,k⟩
structure Df (K:PySem.W.Frag) (mg:Str->Option Value) (x:Str) (st:Stmt) (f:Addr) (fd:FuncData):Prop where
 fn:Fun K x x st f fd
 mg:mg x = some (.ref f)
theorem DefIn.df {K:PySem.W.Frag} {h:Heap} {mg:Str->Option Value} {x:Str} {st:Stmt} (d:DefIn K x st) (X:K.In h) (G:h.Ns mainGlobals mg):∃ f fd,Df K mg x st f fd:=by
 obtain ⟨f,oc,od,kV,doc,pm,an,cdv,ct,osl,a,l,c,k⟩:=d
 exact ⟨f,_,fun_mk l c k,PySem.W.mg_of X G a⟩
end L2
namespace PySem.SeqAt
open MeetsSeq
open AutoSeq1 (wpAny_loadPart')
theorem dict_eq_declines_str (l:Addr) (es:Array DictEntry) (ep:Nat) (dd:Option Addr) (sl:Array (Option Value)) (b:Str) (u:Tok) :
  Meets (Builtin.«dict.__eq__» ⟨[.ref l,.str b u],[]⟩) (fun _ R s=>s.heap.get? l = some { cls:=.type "dict",dict:=dd,data:=.dict es ep,slots:=sl }/\R (.ok (.ret .notImplemented)) s):=
 .of_wp fun prog w A R s h=>by obtain ⟨hp,g,d,tk,os⟩:=s;obtain ⟨hl,h⟩:=h;have f1:=F.sub_str_dict;wp_walk using wpAny_loadPart' hl;exact ⟨_,rfl,h⟩
theorem str_eq_declines_dict (b:Str) (u:Tok) (l:Addr) (c:Value) (es:Array DictEntry) (ep:Nat) (dd:Option Addr) (sl:Array (Option Value)) :
  Meets (Builtin.«str.__eq__» ⟨[.str b u,.ref l],[]⟩) (fun _ R s=>s.heap.get? l = some { cls:=c,dict:=dd,data:=.dict es ep,slots:=sl }/\R (.ok (.ret .notImplemented)) s):=
 .of_wp fun prog w A R s h=>by obtain ⟨hp,g,d,tk,os⟩:=s;obtain ⟨hl,h⟩:=h;wp_walk using wpAny_loadPart' hl,wpAny_load hl;exact ⟨_,rfl,h⟩
section
variable {A:Around} {s:Shared}
theorem RcAt.dict_str {l:Addr} {o:Obj} {es:Array DictEntry} {ep:Nat} (b:Str) (u:Tok) (ho:s.heap.get? l = some o) (hc:o.cls = .type "dict") (hd:o.data = .dict es ep) (hu:A.units < cLine):RcAt A s (.ref l) (.str b u) false:=fun prog w E Q h=>by
 obtain ⟨cls,dd,data,sl⟩:=o
 simp only at hc hd
 subst hc hd
 exact rc_eq_decline_or (k:=false) ⟨_,ho,rfl⟩ (typeIs_str s b u) (by decide) F.sub_str_dict F.slot_dict_eq F.slot_str_eq_refl
  (fun _ hq=>call_meets F.slot_dict_eq ⟨_,ho,rfl⟩ F.entry_dict_eq (F.args_dict_eq_2 _ _) (dict_eq_declines_str l es ep dd sl b u) ⟨ho,hq⟩)
  (fun _ hq=>call_meets F.slot_str_eq_refl (typeIs_str s b u) F.entry_str_eq (F.args_str_eq_2 _ _) (str_eq_declines_dict b u l (.type "dict") es ep dd sl) ⟨ho,hq⟩)
  (fun _ hq=>wpAny_of_eq (rfl:isSame (.ref l) (.str b u) = pure false) hq) (.inr hu) h
theorem EqAt.str_dict {l:Addr} {o:Obj} {es:Array DictEntry} {ep:Nat} (b:Str) (u:Tok) (ho:s.heap.get? l = some o) (hc:o.cls = .type "dict") (hd:o.data = .dict es ep) (hu:A.units < cLine):EqAt A s (.str b u) (.ref l) false:=fun prog w E Q h=>by
 obtain ⟨cls,dd,data,sl⟩:=o
 simp only at hc hd
 subst hc hd
 unfold eqBool
 refine wpAny_holding ?_
 refine wpAny_ite_split (fun hab=>absurd (eq_of_beq hab) nofun) (fun _=>?_)
 refine wpAny_bind (rc_eq_decline_or (k:=false) (typeIs_str s b u) ⟨_,ho,rfl⟩ (by decide) F.sub_dict_str F.slot_str_eq F.slot_dict_eq_refl
  (fun _ hq=>call_meets F.slot_str_eq (typeIs_str s b u) F.entry_str_eq (F.args_str_eq_2 _ _) (str_eq_declines_dict b u l (.type "dict") es ep dd sl) ⟨ho,hq⟩)
  (fun _ hq=>call_meets F.slot_dict_eq_refl ⟨_,ho,rfl⟩ F.entry_dict_eq (F.args_dict_eq_2 _ _) (dict_eq_declines_str l es ep dd sl b u) ⟨ho,hq⟩)
  (fun _ hq=>wpAny_of_eq (rfl:isSame (.str b u) (.ref l) = pure false) hq) (.inr hu) (wpAny_truthy_bool h))
end
end PySem.SeqAt
namespace L2
open PySem PySem.Spec PyProof.Rows
inductive Dt where
 | non | bl (b:Bool) | int (i:Int) | str (z:Str) | tup (ds:List Dt) | lst (ds:List Dt) | dct
mutual
def Rep (H:Hp):Dt->V->Prop
 | .non,v=>v = .non
 | .bl b,v=>v = .bl b
 | .int i,v=>v = .int i
 | .str z,v=>v = .str z/\z.length ≤ 1000
 | .tup ds,v=>∃ a xs,v = .ref a/\H a = some (.tup xs)/\Reps H ds xs
 | .lst ds,v=>∃ a xs,v = .ref a/\H a = some (.lst xs)/\Reps H ds xs
 | .dct,v=>∃ a kvs,v = .ref a/\H a = some (.dK kvs)
def Reps (H:Hp):List Dt->List V->Prop
 | [],xs=>xs = []
 | d :: ds,xs=>∃ v vs,xs = v :: vs/\Rep H d v/\Reps H ds vs
end
mutual
theorem Rep.same {H H':Hp} (e:Same H H'):∀ {d:Dt} {v:V},Rep H d v->Rep H' d v
 | .non,v,h=>by unfold Rep at h ⊢;exact h
 | .bl b,v,h=>by unfold Rep at h ⊢;exact h
 | .int i,v,h=>by unfold Rep at h ⊢;exact h
 | .str z,v,h=>by unfold Rep at h ⊢;exact h
 | .tup ds,v,h=>by
  unfold Rep at h ⊢
  obtain ⟨a,xs,h1,h2,h3⟩:=h
  exact ⟨a,xs,h1,e _ _ h2,Reps.same e h3⟩
 | .lst ds,v,h=>by
  unfold Rep at h ⊢
  obtain ⟨a,xs,h1,h2,h3⟩:=h
  exact ⟨a,xs,h1,e _ _ h2,Reps.same e h3⟩
 | .dct,v,h=>by
  unfold Rep at h ⊢
  obtain ⟨a,xs,h1,h2⟩:=h
  exact ⟨a,xs,h1,e _ _ h2⟩
theorem Reps.same {H H':Hp} (e:Same H H'):∀ {ds:List Dt} {vs:List V},Reps H ds vs->Reps H' ds vs
 | [],vs,h=>by unfold Reps at h ⊢;exact h
 | d :: ds,vs,h=>by
  unfold Reps at h ⊢
  obtain ⟨v,ws,h1,h2,h3⟩:=h
  exact ⟨v,ws,h1,Rep.same e h2,Reps.same e h3⟩
end
def tyD:Dt->String
 | .non=>"NoneType" | .bl _=>"bool" | .int _=>"int" | .str _=>"str" | .tup _=>"tuple" | .lst _=>"list" | .dct=>"dict"
theorem Rep.is {K:PySem.W.Frag} {H:Hp}:∀ {d:Dt} {v:V},Rep H d v->Is K H v (tyD d)
 | .non,v,h=>by unfold Rep at h;subst h;exact .non
 | .bl b,v,h=>by unfold Rep at h;subst h;exact .bl
 | .int i,v,h=>by unfold Rep at h;subst h;exact .int
 | .str z,v,h=>by unfold Rep at h;obtain ⟨rfl,_⟩:=h;exact .str
 | .tup ds,v,h=>by unfold Rep at h;obtain ⟨a,xs,rfl,h2,_⟩:=h;exact .tup h2
 | .lst ds,v,h=>by unfold Rep at h;obtain ⟨a,xs,rfl,h2,_⟩:=h;exact .lst h2
 | .dct,v,h=>by unfold Rep at h;obtain ⟨a,xs,rfl,h2⟩:=h;exact .dK h2
theorem Reps.length {H:Hp}:∀ {ds:List Dt} {vs:List V},Reps H ds vs->vs.length = ds.length
 | [],vs,h=>by unfold Reps at h;subst h;rfl
 | d :: ds,vs,h=>by
  unfold Reps at h
  obtain ⟨v,ws,rfl,_,h3⟩:=h
  rw [List.length_cons,List.length_cons,Reps.length h3]
def strIs:Dt->Str->Bool
 | .str y,z=>y == z
 | _,_=>false
section
variable {X:Cx} {pins:List (Addr × Obj)} {σ:St} {H:Hp} {s:Shared}
theorem op_eqD (hu:X.A.units < cLine):OpR X (compareOp .Eq) (fun x y H Q=>∃ d z,Rep H d x/\y = .str z/\Q (.bl (strIs d z)) H):=by
 intro pins s σ H x y v u Q I rx ry h
 obtain ⟨d,z,hd,rfl,q⟩:=h
 obtain ⟨t,rfl⟩:=ry
 cases d with
 | non=>
  unfold Rep at hd
  subst hd
  exact op_eq pins s σ H .non (.str z) v _ Q I rx ⟨t,rfl⟩ ⟨rfl,by simpa [strIs] using q⟩
 | bl b=>
  unfold Rep at hd
  subst hd
  exact op_eq pins s σ H (.bl b) (.str z) v _ Q I rx ⟨t,rfl⟩ ⟨rfl,by simpa [strIs] using q⟩
 | int i=>
  unfold Rep at hd
  subst hd
  exact op_eq pins s σ H (.int i) (.str z) v _ Q I rx ⟨t,rfl⟩ ⟨rfl,by simpa [strIs] using q⟩
 | str y=>
  unfold Rep at hd
  obtain ⟨rfl,_⟩:=hd
  exact op_eq pins s σ H (.str y) (.str z) v _ Q I rx ⟨t,rfl⟩ ⟨rfl,by rw [dec_str];exact q⟩
 | tup ds=>
  unfold Rep at hd
  obtain ⟨a,xs,rfl,ha,_⟩:=hd
  cases rx
  obtain ⟨its,_,p,_⟩:=I.tuple (SqT.of ha)
  exact SeqAt.RcAt.tuple_str z t p hu X.prog X.w X.xe _ ⟨.bl false,H,I,rfl,q⟩
 | lst ds=>
  unfold Rep at hd
  obtain ⟨a,xs,rfl,ha,_⟩:=hd
  cases rx
  obtain ⟨its,_,p,_⟩:=I.list (SqL.of ha)
  exact SeqAt.RcAt.list_str z t p.isList hu X.prog X.w X.xe _ ⟨.bl false,H,I,rfl,q⟩
 | dct=>
  unfold Rep at hd
  obtain ⟨a,kvs,rfl,ha⟩:=hd
  cases rx
  obtain ⟨_,_,vs,_,o,es,ep,h1,h2,h3,_⟩:=dk_of I.hok ha
  exact SeqAt.RcAt.dict_str z t h1 h2.1 h3 hu X.prog X.w X.xe _ ⟨.bl false,H,I,rfl,q⟩
theorem eqAt_D {A:Around} {d:Dt} {x:V} {v:Value} (hu:A.units < cLine) (I:Inv X pins σ H s) (hd:Rep H d x) (rx:RelV x v) (z:Str) (t:Tok):SeqAt.EqAt A s (.str z t) v (strIs d z):=by
 cases d with
 | non=>
  unfold Rep at hd
  subst hd
  cases rx
  exact SeqAt.EqAt.str_none z t
 | bl b=>
  unfold Rep at hd
  subst hd
  cases rx
  exact SeqAt.EqAt.str_bool z t b
 | int i=>
  unfold Rep at hd
  subst hd
  obtain ⟨t',rfl⟩:=rx
  exact SeqAt.EqAt.str_int z t i t'
 | str y=>
  unfold Rep at hd
  obtain ⟨rfl,_⟩:=hd
  obtain ⟨t',rfl⟩:=rx
  have e:strIs (.str y) z = (z == y):=by
   show (y == z) = (z == y)
   rw [Bool.eq_iff_iff,beq_iff_eq,beq_iff_eq]
   exact ⟨Eq.symm,Eq.symm⟩
  rw [e]
  exact SeqAt.EqAt.str_str z t y t'
 | tup ds=>
  unfold Rep at hd
  obtain ⟨a,xs,rfl,ha,_⟩:=hd
  cases rx
  obtain ⟨its,_,p,_⟩:=I.tuple (SqT.of ha)
  exact SeqAt.EqAt.str_tuple z t p hu
 | lst ds=>
  unfold Rep at hd
  obtain ⟨a,xs,rfl,ha,_⟩:=hd
  cases rx
  obtain ⟨its,_,p,_⟩:=I.list (SqL.of ha)
  exact SeqAt.EqAt.str_list z t p.isList hu
 | dct=>
  unfold Rep at hd
  obtain ⟨a,kvs,rfl,ha⟩:=hd
  cases rx
  obtain ⟨_,_,vs,_,o,es,ep,h1,h2,h3,_⟩:=dk_of I.hok ha
  exact SeqAt.EqAt.str_dict z t h1 h2.1 h3 hu
def strU (d:Dt):Value->Bool
 | .str z _=>strIs d z
 | _=>false
theorem any_strU {d:Dt}:∀ {zs:List Str} {us:List Value},Vals (zs.map V.str) us->us.any (strU d) = zs.any (strIs d)
 | [],_,r=>by rw [List.map_nil] at r;cases r;rfl
 | z :: zs,_,r=>by
  rw [List.map_cons] at r
  cases r with
  | cons h t=>
   obtain ⟨t',rfl⟩:=h
   rw [List.any_cons,List.any_cons,any_strU t]
   rfl
theorem mem_strU {zs:List Str} {us:List Value} (r:Vals (zs.map V.str) us):∀ u ∈ us,∃ z t,u = .str z t:=by
 intro u hu
 obtain ⟨i,hi,e⟩:=List.getElem_of_mem hu
 have hl:=r.length
 have:(zs.map V.str)[i]? = some (.str (zs[i]'(by rw [List.length_map] at hl;omega))):=by
  rw [List.getElem?_map,List.getElem?_eq_getElem (by rw [List.length_map] at hl;omega)]
  rfl
 obtain ⟨w,hw,rw'⟩:=r.get this
 rw [List.getElem?_eq_getElem hi,e] at hw
 cases hw
 obtain ⟨t,rfl⟩:=rw'
 exact ⟨_,t,rfl⟩
theorem op_inD (hu:X.A.units + 1 < cLine):OpR X (compareOp .In) (fun x y H Q=>∃ (d:Dt) (p:Addr) (zs:List Str),Rep H d x/\y = .ref p/\H p = some (.tup (zs.map V.str))/\Q (.bl (zs.any (strIs d))) H):=by
 intro pins s σ H x y v u Q I rx ry h
 obtain ⟨d,p,zs,hd,rfl,hp,q⟩:=h
 cases ry
 obtain ⟨its,r,pl,_⟩:=I.tuple (SqT.of hp)
 refine SeqAt.in_tupleAt (strU d) pl (fun w' hw=>?_) ⟨.bl _,H,I,rfl,?_⟩
 ·obtain ⟨z,t,rfl⟩:=mem_strU r w' (by simpa using hw)
  exact eqAt_D (A:=X.A.in1) hu I hd rx z t
 ·rw [show its.toArray.any (strU d) = its.any (strU d) by simp,any_strU r]
  exact q
theorem op_le_str:OpR X (compareOp .LtE) (fun x y H Q=>∃ i j,x = .str i/\y = .str j/\Q (.bl (!decide (j.cps.toList < i.cps.toList))) H):=by
 intro pins s σ H x y v u Q I rx ry h
 obtain ⟨i,j,rfl,rfl,q⟩:=h
 obtain ⟨t,rfl⟩:=rx
 obtain ⟨t',rfl⟩:=ry
 exact PySem.P.le_str ⟨.bl _,H,I,rfl,q⟩
end
end L2
namespace My
open PySem L2 PyProof.Rows
theorem pos {j:Int} (h:decide ((0:Int) < j) = true):0 < j:=of_decide_eq_true h
def cellF (ns:List Int) (k:Int):Int:=
 if k < ns.length then ns.getD k.toNat 0 else (k * 7919 + 5 + (if 0 < ns.length then ns.getD (k % ns.length).toNat 0 % 2147483647 * 48271 else 0)) % 2147483647
def spCell (K:PySem.W.Frag):Sp:=fun vs H Q _=>∃ (a:Addr) (ns:List Int) (k:Int),vs = [.ref a,.int k]/\SqL K H a (ns.map V.int)/\0 ≤ k/\k ≤ 1000000/\ns.length ≤ 63/\Q (.int (cellF ns k)) H
def spTold:Sp:=fun vs H Q _=>∃ (f d:Bool),vs = [.bl f,.bl d]/\Q (.bl (decide (f = d))) H
def spWhole (K:PySem.W.Frag):Sp:=fun vs H Q _=>∃ (v:V) (n:String),vs = [v]/\Is K H v n/\Q (.bl (n == "int")) H
theorem item_ints {ns:List Int} {k:Int} (h0:0 ≤ k) (h1:k < ns.length):atI (ns.map V.int) k = some (.int (ns.getD k.toNat 0)):=by
 obtain ⟨j,rfl⟩:=Int.eq_ofNat_of_zero_le h0
 refine atI_nat ?_
 have hj:j < ns.length:=by omega
 rw [List.getElem?_map,List.getElem?_eq_getElem hj]
 simp [List.getD_eq_getElem?_getD,List.getElem?_eq_getElem hj]
theorem boot_isi:bootBuiltins "isinstance" = some (.builtin "isinstance"):=by decide +kernel
theorem boot_int:bootBuiltins "int" = some (.type "int"):=by decide +kernel
theorem boot_bool:bootBuiltins "bool" = some (.type "bool"):=by decide +kernel
theorem boot_str:bootBuiltins "str" = some (.type "str"):=by decide +kernel
theorem boot_tuple:bootBuiltins "tuple" = some (.type "tuple"):=by decide +kernel
theorem boot_dict:bootBuiltins "dict" = some (.type "dict"):=by decide +kernel
theorem boot_ord:bootBuiltins "ord" = some (.builtin "ord"):=by decide +kernel
structure Bl (mg:Str->Option Value):Prop where
 len:mg "len" = none
 isi:mg "isinstance" = none
 int:mg "int" = none
 bool:mg "bool" = none
 str:mg "str" = none
 all:mg "all" = none
 range:mg "range" = none
 abs:mg "abs" = none
 ord:mg "ord" = none
 list:mg "list" = none
 tuple:mg "tuple" = none
 dict:mg "dict" = none
 any:mg "any" = none
 sorted:mg "sorted" = none
 set:mg "set" = none
 enum:mg "enumerate" = none
structure BlK (K:PySem.W.Frag):Prop where
 len:PySem.W.nsIn K mainGlobals "len" = some none
 isi:PySem.W.nsIn K mainGlobals "isinstance" = some none
 int:PySem.W.nsIn K mainGlobals "int" = some none
 bool:PySem.W.nsIn K mainGlobals "bool" = some none
 str:PySem.W.nsIn K mainGlobals "str" = some none
 all:PySem.W.nsIn K mainGlobals "all" = some none
 range:PySem.W.nsIn K mainGlobals "range" = some none
 abs:PySem.W.nsIn K mainGlobals "abs" = some none
 ord:PySem.W.nsIn K mainGlobals "ord" = some none
 list:PySem.W.nsIn K mainGlobals "list" = some none
 tuple:PySem.W.nsIn K mainGlobals "tuple" = some none
 dict:PySem.W.nsIn K mainGlobals "dict" = some none
 any:PySem.W.nsIn K mainGlobals "any" = some none
 sorted:PySem.W.nsIn K mainGlobals "sorted" = some none
 set:PySem.W.nsIn K mainGlobals "set" = some none
 enum:PySem.W.nsIn K mainGlobals "enumerate" = some none
theorem BlK.bl {K:PySem.W.Frag} {h:Heap} {mg:Str->Option Value} (b:BlK K) (X:K.In h) (G:h.Ns mainGlobals mg):Bl mg:=
 ⟨PySem.W.mg_none_of X G b.len,PySem.W.mg_none_of X G b.isi,PySem.W.mg_none_of X G b.int,PySem.W.mg_none_of X G b.bool,PySem.W.mg_none_of X G b.str,PySem.W.mg_none_of X G b.all,PySem.W.mg_none_of X G b.range,PySem.W.mg_none_of X G b.abs,PySem.W.mg_none_of X G b.ord,PySem.W.mg_none_of X G b.list,PySem.W.mg_none_of X G b.tuple,PySem.W.mg_none_of X G b.dict,PySem.W.mg_none_of X G b.any,PySem.W.mg_none_of X G b.sorted,PySem.W.mg_none_of X G b.set,PySem.W.mg_none_of X G b.enum⟩
theorem at_mem {l:List V} {i:Int} (h0:0 ≤ i) (h1:i < l.length):∃ v,atI l i = some v/\v ∈ l:=by
 obtain ⟨j,rfl⟩:=Int.eq_ofNat_of_zero_le h0
 have hj:j < l.length:=by omega
 exact ⟨l[j],atI_nat (List.getElem?_eq_getElem hj),List.getElem_mem hj⟩
theorem iteB {b:Bool} {A B:Prop} (h:b = true) (a:A):if b = true then A else B:=by rw [if_pos h];exact a
theorem iteC {b:Bool} {A B:Prop} (h:b = false) (a:B):if b = true then A else B:=by rw [h,if_neg Bool.false_ne_true];exact a
theorem lenEq {n k:Nat}:decide (V.int (n:Int) = V.int (k:Int)) = decide (n = k):=by
 rw [Bool.eq_iff_iff,decide_eq_true_iff,decide_eq_true_iff]
 constructor
 ·intro e;injection e with e;omega
 ·intro e;rw [e]
def spLaw (K:PySem.W.Frag):Sp:=fun vs H Q _=>∃ (a:Addr) (ns:List Int),vs = [.ref a]/\SqL K H a (ns.map V.int)/\ns.length ≤ 63/\∀ H',Q (.bl true) H'
end My
namespace L2
open PySem PySem.Spec PyProof.Rows
section
variable {X:Cx}
end
end L2
namespace Nm
open PySem PySem.NumText PySem.W PyProof.Rows
def figs (m:Nat):List Nat:=(Nat.toDigits 10 m).map Char.toNat
def tx (i:Int):Str:=Str.ofString (toString i)
end Nm
namespace L2
open PySem PySem.Spec PyProof.Rows
def PEk (n:Nat) (X:Cx) (e:Expr) (t:TE):Prop:=
 ∀ (pins:List (Addr × Obj)) (s:Shared) (σ:St) (H:Hp) (Q:VK),n ≤ s.toks->Inv X pins σ H s->t σ H Q->wpAny (model X.prog X.w) X.A (eval e X.env) (EP X pins σ Q) X.xe s
def PSk (n:Nat) (X:Cx) (st:Stmt) (t:TS):Prop:=
 ∀ (pins:List (Addr × Obj)) (s:Shared) (σ:St) (H:Hp) (D:Ends),n ≤ s.toks->Inv X pins σ H s->t D σ H->wpAny (model X.prog X.w) X.A (exec st X.env) (SP X pins D) X.xe s
def PSsk (n:Nat) (X:Cx) (st:List Stmt) (t:TS):Prop:=
 ∀ (pins:List (Addr × Obj)) (s:Shared) (σ:St) (H:Hp) (D:Ends),n ≤ s.toks->Inv X pins σ H s->t D σ H->wpAny (model X.prog X.w) X.A (execs st X.env) (SP X pins D) X.xe s
section
variable {n:Nat} {X:Cx} {st:Stmt} {rest:List Stmt} {t u:TS} {e a b:Expr} {te ta tb:TE} {pos:Pos}
end
abbrev WK:=Value->Nat->V->Hp->Prop
abbrev SpW:=List V->Hp->WK->Prop
def CRW (outer:List Env) (P:Program) (w:World) (H:Hp) (s:Shared) (Q:WK) (r:Result) (s':Shared):Prop:=
 match r with
 | .ok (.ret u)=>∃ v H',s'.os = s.os/\AllBare s'.gens/\Un (frs outer) [] H H' s.heap s'.heap/\HOk P w H' s'.heap/\RelV v u/\Q u s'.toks v H'
 | _=>False
structure FnOkW (n:Nat) (P:Program) (w:World) (K:PySem.W.Frag) (mg:Str->Option Value) (base:Heap) (k:Nat) (f:Addr) (fd:FuncData) (ps:List Str) (sp:SpW):Prop where
 len:∀ vs H Q,sp vs H Q->vs.length = ps.length
 run:∀ (A:Around) (outer:List Env) (s:Shared) (H:Hp) (args:Args) (us:List Value) (vs:List V) (Q:WK),n ≤ s.toks->Room k A->Env0 P w K mg base A outer s H->BindsTo s fd args (ps.zip us)->Vals vs us->sp vs H Q →
  codeAny (model P w) A (.call (.ref f) args) (CRW outer P w H s Q) s
def SPW (X:Cx) (pins:List (Addr × Obj)) (Q:WK) (f:Flow) (s':Shared):Prop:=
 match f with
 | .ret u=>∃ v σ' H',Inv X pins σ' H' s'/\RelV v u/\Q u s'.toks v H'
 | _=>False
section
variable {P:Program} {w:World} {K:PySem.W.Frag} {mg:Str->Option Value} {base:Heap}
end
def EW (X:Cx) (pins:List (Addr × Obj)) (σ:St) (Q:WK) (u:Value) (s':Shared):Prop:=∃ v H',Inv X pins σ H' s'/\RelV v u/\Q u s'.toks v H'
section
variable {n:Nat} {X:Cx} {k:Nat} {f:Addr} {fd:FuncData} {ps:List Str} {sp:SpW} {x:Str} {p pos:Pos} {e:Expr} {es:List Expr} {t:TA}
def tCallW (sp:SpW) (t:TA):TE:=fun σ H Q=>t σ H fun vs H1=>sp vs H1 fun _ _ v H2=>Q v H2
end
end L2
namespace L2
open PySem PySem.Spec PyProof.Rows
section
variable {n:Nat} {X:Cx}
variable {osc scope:Scope} {N0 xs:List Str} {fr:List Nat} {elt tg iter:Expr} {ifs:List Expr} {pos:Pos} {wi:TI} {g:TG} {tt:TT} {te:TE}
end
end L2
namespace L2
open PySem PySem.Spec PyProof.Rows
section
variable {n:Nat} {X:Cx} {pins:List (Addr × Obj)} {s:Shared} {σ:St} {H:Hp}
def TokPair (H:Hp) (a:Addr) (y z:Str) (u:Tok):Prop:=∃ o u0 m,H a = some (.frz o (.tup [.str y,.str z]))/\o.data = .seq #[u0,.str z u] m
def tStrike (p:Addr) (z:Str) (to:TE):TE:=fun σ H Q=>to σ H fun x H1=>H1 = H/\∃ w,x = .str w/\w.length ≤ 1048576/\Q (.str (Txt.replace w z ⟨#[]⟩)) H1
end
end L2
namespace L2
open PySem PySem.Spec PyProof.Rows
section
variable {P:Program} {w:World} {K:PySem.W.Frag} {mg:Str->Option Value} {base:Heap}
abbrev SpK:=List V->Hp->VK->Prop
def toW (sp:SpK):SpW:=fun vs H Q=>sp vs H fun v H'=>∀ u tk,Q u tk v H'
end
end L2
namespace L2
open PySem PySem.Spec PyProof.Rows
end L2
namespace L2
open PySem
def Tb (h:Heap) (P:Addr->Prop) (x:Addr) (fl v:Value):Prop:=
 (v = .none/\fl = .none)\/∃ T oT ts,v = .ref T/\P T/\T ≠ x/\h.get? T = some oT/\oT.data = .fields ts/\ts[3]? = some fl
def XAt (h:Heap) (P:Addr->Prop) (x:Addr) (C:Value) (od:Option Addr) (fl:Value):Prop:=
 ∃ vs sl v1,h.get? x = some ⟨C,od,.fields vs,sl⟩/\vs[1]? = some v1/\Tb h P x fl v1
structure Nt (P:Addr->Prop) (fr:List Addr) (x:Addr) (h h':Heap):Prop where
 chg:∃ ch:List Addr,(∀ b ∈ ch,b = x\/P b/\∃ o vs,h.get? b = some o/\o.data = .fields vs)/\∀ b o,h.get? b = some o->b ∉ fr->b ∉ ch->h'.get? b = some o
 frm:∀ b o,h.get? b = some o->b ∈ fr->∃ sl,h'.get? b = some { o with slots:=sl }
 thr:∀ b o,h.get? b = some o->∃ o',h'.get? b = some o'
theorem Nt.refl {P:Addr->Prop} {fr:List Addr} {x:Addr} {h:Heap}:Nt P fr x h h:=⟨⟨[],(fun _ z=>absurd z (by simp)),fun _ _ e _ _=>e⟩,fun _ o e _=>⟨o.slots,e⟩,fun _ o e=>⟨o,e⟩⟩
section
variable {M:Model} {A:Around} {E:Value->Shared->Prop} {s:Shared} {base:Heap} {env:Env} {outer:List Env} {L x:Addr} {P:Addr->Prop} {C:Value} {od:Option Addr}
theorem entry_ok {vs:Array Value} {sl:Array (Option Value)} {head:Value} {had:Bool} {Q:Unit->Shared->Prop} (hfr:A.frames = some (env :: outer)) (hl:s.heap.FunFrames base (env :: outer)) (hf:env.frame = some L)
  (hx:s.heap.get? x = some ⟨C,od,.fields vs,sl⟩) (hsz:1 < vs.size) (hP:∀ T,s.heap.objs.size ≤ T->P T)
  (h:∀ h',Nt P ((env :: outer).filterMap (·.frame)) x s.heap h'->XAt h' P x C od (rawInt L)->Q () { s with heap:=h' }) :
  wpAny M A (do let a ← frameOf env;let pl ← entryPlaceOf L had;let b ← EntryCells.newEntry head a .none (rawInt L) .none pl;setField (.ref x) 1 b) Q E s:=by
 have nx:x ∉ (env :: outer).filterMap (·.frame):=fun hm=>by
  obtain ⟨_,o,ho,hnf⟩:=hl.mem hm
  rw [hx] at ho
  cases ho
  exact hnf vs rfl
 refine wpAny_bind (wpAny_frameOf_fun hfr hl hf fun h1 k1=>?_)
 refine wpAny_bind (wpAny_entryPlaceOf fun pl hpl=>?_)
 unfold EntryCells.newEntry newFields
 refine wpAny_bind (wpAny_newObj_type ?_ (hpl.sizeOk5 _ _ _ _ _))
 generalize ho:(⟨.type "traceback",none,.fields ([head,.ref L,.none,rawInt L,.none] ++ (if pl.isEmpty then List.replicate 6 Value.none else pl)).toArray,#[]⟩:Obj) = ob
 have x1:h1.get? x = some ⟨C,od,.fields vs,sl⟩:=(k1.2.1 x nx).trans hx
 have x2:(h1.push ob).get? x = some ⟨C,od,.fields vs,sl⟩:=Heap.get?_push_of_some _ x1
 have sz:h1.objs.size = s.heap.objs.size:=k1.1
 refine wpAny_setField x2 rfl hsz (h _ ?_ ?_)
 ·have other:∀ b o,b ≠ x->h1.get? b = some o->((h1.push ob).update x (Obj.mapFields (·.setIfInBounds 1 (.ref h1.objs.size)))).get? b = some o:=fun b o hb e=>by
   rw [Heap.get?_update_other _ _ (Ne.symm hb)]
   exact Heap.get?_push_of_some _ e
  refine ⟨⟨[x],fun b hb=>.inl (List.mem_singleton.mp hb),fun b o e hb hc=>?_⟩,fun b o e hb=>?_,fun b o e=>?_⟩
  ·exact other b o (fun z=>hc (by rw [z];exact List.mem_singleton.mpr rfl)) ((k1.2.1 b hb).trans e)
  ·obtain ⟨sl',e1⟩:=k1.2.2 b o e
   exact ⟨sl',other b _ (fun z=>nx (z ▸ hb)) e1⟩
  ·by_cases hb:b = x
   ·subst hb
    exact ⟨_,Heap.get?_update_self _ x2 rfl⟩
   ·obtain ⟨sl',e1⟩:=k1.2.2 b o e
    exact ⟨_,other b _ hb e1⟩
 ·have ne:h1.objs.size ≠ x:=Nat.ne_of_gt (Heap.lt_size x1)
  refine ⟨_,_,.ref h1.objs.size,Heap.get?_update_self _ x2 rfl,(by show (vs.setIfInBounds 1 _)[1]? = _;simp [hsz]),.inr ⟨h1.objs.size,ob,_,rfl,hP _ (by rw [sz];exact Nat.le_refl _),ne,?_,(by rw [← ho]),?_⟩⟩
  ·rw [Heap.get?_update_other _ _ (Ne.symm ne)]
   exact Heap.get?_push_size h1 (by rw [← ho];rfl)
  ·first | (simp;done) | (rcases hpl with rfl | ⟨_,_,_,_,_,_,_,rfl⟩ <;> simp)
theorem Nt.trans {fr:List Addr} {h h1 h2:Heap} (n1:Nt P fr x h h1) (n2:Nt P fr x h1 h2) (fresh:∀ b o,h.get? b = some o->b ∈ fr->∀ vs,o.data ≠ .fields vs):Nt P fr x h h2:=by
 obtain ⟨c1,p1,k1⟩:=n1.chg
 obtain ⟨c2,p2,k2⟩:=n2.chg
 refine ⟨⟨c1 ++ c2.filter (fun b=>(h.get? b).isSome),fun b hb=>?_,fun b o e hb hc=>?_⟩,fun b o e hb=>?_,fun b o e=>?_⟩
 ·rcases List.mem_append.mp hb with z | z
  ·exact p1 b z
  ·obtain ⟨z1,z2⟩:=List.mem_filter.mp z
   by_cases hb1:b ∈ c1
   ·exact p1 b hb1
   rcases p2 b z1 with q | ⟨q,o1,vs,e1,d1⟩
   ·exact .inl q
   ·refine .inr ⟨q,?_⟩
    cases g:h.get? b with
    | none=>rw [g] at z2;cases z2
    | some o=>
     by_cases hfr:b ∈ fr
     ·obtain ⟨sl,e2⟩:=n1.frm b o g hfr
      rw [e1] at e2
      cases e2
      exact absurd d1 (fresh b o g hfr vs)
     ·have e2:=k1 b o g hfr hb1
      rw [e1] at e2
      cases e2
      exact ⟨_,vs,rfl,d1⟩
 ·have m1:b ∉ c1:=fun z=>hc (List.mem_append_left _ z)
  have m2:b ∉ c2:=fun z=>hc (List.mem_append_right _ (List.mem_filter.mpr ⟨z,by rw [e];rfl⟩))
  exact k2 b o (k1 b o e hb m1) hb m2
 ·obtain ⟨sl,e1⟩:=n1.frm b o e hb
  obtain ⟨sl2,e2⟩:=n2.frm _ _ e1 hb
  exact ⟨sl2,e2⟩
 ·obtain ⟨o1,e1⟩:=n1.thr b o e
  exact n2.thr _ _ e1
theorem note_ok {Q:Unit->Shared->Prop} (hfr:A.frames = some (env :: outer)) (hl:s.heap.FunFrames base (env :: outer)) (hf:env.frame = some L)
  (hx:XAt s.heap P x C od .none) (hP:∀ T,s.heap.objs.size ≤ T->P T)
  (h:∀ h',Nt P ((env :: outer).filterMap (·.frame)) x s.heap h'->XAt h' P x C od (rawInt L)->Q () { s with heap:=h' }):wpAny M A (noteFrame (.ref x) env) Q E s:=by
 obtain ⟨vs,sl,v1,ex,e1,tb⟩:=hx
 have hsz:1 < vs.size:=(Array.getElem?_eq_some_iff.mp e1).1
 unfold noteFrame
 simp only [hf]
 refine wpAny_bind (wpAny_field ex rfl e1 ?_)
 rcases tb with ⟨rfl,_⟩ | ⟨T,oT,ts,rfl,pT,nT,eT,dT,fT⟩
 ·rw [if_neg (by decide)]
  exact entry_ok hfr hl hf ex hsz hP h
 ·rw [if_pos (show (Value.ref T != Value.none) = true from by simp)]
  refine wpAny_bind (wpAny_field eT dT fT ?_)
  rw [if_neg (show ¬ ((Value.none == rawInt L) = true) from by simp [rawInt])]
  refine wpAny_bind (wpAny_setField eT dT (Array.getElem?_eq_some_iff.mp fT).1 ?_)
  have oth:∀ b,b ≠ T->(s.heap.update T (Obj.mapFields (·.setIfInBounds 3 Value.none))).get? b = s.heap.get? b:=fun b hb=>Heap.get?_update_other _ _ (Ne.symm hb)
  have nrec:∀ b o,s.heap.get? b = some o->(∀ vs,o.data ≠ .fields vs)->b ≠ T:=fun b o hb hn q=>by
   rw [q,eT] at hb
   cases hb
   exact hn ts dT
  have hl':=hl.of_keeps (h':=s.heap.update T (Obj.mapFields (·.setIfInBounds 3 Value.none))) fun b o hb hn=>⟨o,(oth b (nrec b o hb hn)).trans hb,rfl⟩
  have frn:∀ b o,s.heap.get? b = some o->b ∈ (env :: outer).filterMap (·.frame)->∀ vs,o.data ≠ .fields vs:=fun b o e hb=>by
   obtain ⟨_,o',ho',hn⟩:=hl.mem hb
   rw [e] at ho'
   cases ho'
   exact hn
  have N1:Nt P ((env :: outer).filterMap (·.frame)) x s.heap (s.heap.update T (Obj.mapFields (·.setIfInBounds 3 Value.none))):=by
   refine ⟨⟨[T],fun b hb=>.inr ?_,fun b o e _ hc=>?_⟩,fun b o e hb=>⟨o.slots,?_⟩,fun b o e=>?_⟩
   ·rw [List.mem_singleton.mp hb]
    exact ⟨pT,oT,ts,eT,dT⟩
   ·exact (oth b fun z=>hc (by rw [z];exact List.mem_singleton.mpr rfl)).trans e
   ·exact (oth b (nrec b o e (frn b o e hb))).trans e
   ·by_cases hb:b = T
    ·rw [hb]
     exact ⟨_,Heap.get?_update_self _ eT (Obj.isFreed_of_fields (Obj.data_mapFields dT _))⟩
    ·exact ⟨o,(oth b hb).trans e⟩
  refine entry_ok (s:={ s with heap:=s.heap.update T (Obj.mapFields (·.setIfInBounds 3 Value.none)) }) hfr hl' hf ((oth x (Ne.symm nT)).trans ex) hsz (fun T' hT'=>hP T' (by rw [← Heap.size_after_update s.heap T];exact hT')) fun h' n' x'=>h h' (N1.trans n' frn) x'
theorem land_ok {fl:Value} {fr:List Addr} {Q:Unit->Shared->Prop} (hx:XAt s.heap P x C od fl) (frn:∀ b o,s.heap.get? b = some o->b ∈ fr->∀ vs,o.data ≠ .fields vs)
  (h:∀ h',Nt P fr x s.heap h'->XAt h' P x C od .none->Q () { s with heap:=h' }):wpAny M A (setFlight (.ref x) none) Q E s:=by
 obtain ⟨vs,sl,v1,ex,e1,tb⟩:=hx
 unfold setFlight
 refine wpAny_bind (wpAny_field ex rfl e1 ?_)
 rcases tb with ⟨rfl,_⟩ | ⟨T,oT,ts,rfl,pT,nT,eT,dT,fT⟩
 ·rw [if_neg (by decide)]
  exact wpAny_pure (h s.heap .refl ⟨vs,sl,_,ex,e1,.inl ⟨rfl,rfl⟩⟩)
 ·rw [if_pos (show (Value.ref T != Value.none) = true from by simp)]
  refine wpAny_setField eT dT (Array.getElem?_eq_some_iff.mp fT).1 (h _ ?_ ?_)
  ·refine ⟨⟨[T],fun b hb=>.inr ?_,fun b o e _ hc=>?_⟩,fun b o e hb=>⟨o.slots,?_⟩,fun b o e=>?_⟩
   ·rw [List.mem_singleton.mp hb]
    exact ⟨pT,oT,ts,eT,dT⟩
   ·rw [Heap.get?_update_other _ _ fun z=>hc (by rw [z];exact List.mem_singleton.mpr rfl)]
    exact e
   ·rw [Heap.get?_update_other _ _ fun z=>?_]
    ·exact e
    ·subst z
     rw [eT] at e
     cases e
     exact frn T oT eT hb ts dT
   ·by_cases hb:b = T
    ·rw [hb]
     exact ⟨_,Heap.get?_update_self _ eT (Obj.isFreed_of_fields (Obj.data_mapFields dT _))⟩
    ·exact ⟨o,by rw [Heap.get?_update_other _ _ (Ne.symm hb)];exact e⟩
  ·refine ⟨vs,sl,.ref T,by rw [Heap.get?_update_other _ _ nT];exact ex,e1,.inr ⟨T,_,_,rfl,pT,nT,Heap.get?_update_self _ eT (Obj.isFreed_of_fields (Obj.data_mapFields dT _)),Obj.data_mapFields dT _,?_⟩⟩
   have:=(Array.getElem?_eq_some_iff.mp fT).1
   simp [this]
theorem leave_ok {Q:Unit->Shared->Prop} (hfr:A.frames = some (env :: outer)) (hl:s.heap.FunFrames base (env :: outer)) (hf:env.frame = some L)
  (hx:XAt s.heap P x C od .none) (hP:∀ T,s.heap.objs.size ≤ T->P T)
  (h:∀ h',Nt P ((env :: outer).filterMap (·.frame)) x s.heap h'->XAt h' P x C od .none->Q () { s with heap:=h' }):wpAny M A (leaving env (.ref x)) Q E s:=by
 have frn:∀ b o,s.heap.get? b = some o->b ∈ (env :: outer).filterMap (·.frame)->∀ vs,o.data ≠ .fields vs:=fun b o e hb=>by
  obtain ⟨_,o',ho',hn⟩:=hl.mem hb
  rw [e] at ho'
  cases ho'
  exact hn
 unfold leaving
 refine wpAny_bind (note_ok hfr hl hf hx hP fun h1 n1 x1=>?_)
 refine land_ok (s:={ s with heap:=h1 }) (fr:=(env :: outer).filterMap (·.frame)) x1 (fun b o e hb=>?_) fun h2 n2 x2=>h h2 (n1.trans n2 frn) x2
 obtain ⟨_,o',ho',hn⟩:=hl.mem hb
 obtain ⟨sl,e1⟩:=n1.frm b o' ho' hb
 have e':h1.get? b = some o:=e
 rw [e1] at e'
 cases e'
 exact hn
end
end L2
namespace L2
open PySem PySem.Spec PyProof.Rows
theorem Tb.imp {h:Heap} {P P':Addr->Prop} {x:Addr} {fl v:Value} (t:Tb h P x fl v) (k:∀ b,P b->P' b):Tb h P' x fl v:=by
 rcases t with z | ⟨T,oT,ts,a,b,c⟩
 ·exact .inl z
 ·exact .inr ⟨T,oT,ts,a,k T b,c⟩
theorem XAt.imp {h:Heap} {P P':Addr->Prop} {x:Addr} {C:Value} {od:Option Addr} {fl:Value} (t:XAt h P x C od fl) (k:∀ b,P b->P' b):XAt h P' x C od fl:=by
 obtain ⟨vs,sl,v1,a,b,c⟩:=t
 exact ⟨vs,sl,v1,a,b,c.imp k⟩
structure Our (X:Cx) (pins:List (Addr × Obj)) (H:Hp) (b:Addr):Prop where
 new:X.s₀.heap.objs.size ≤ b
 loc:b ≠ X.env.locals
 cel:∀ y c,X.env.cells.lookup y = some c->c ≠ b
 pin:∀ p ∈ X.pn ++ pins,p.1 ≠ b
 unt:H b = none
section
variable {X:Cx} {pins:List (Addr × Obj)} {σ:St} {H H':Hp} {s s':Shared} {x b:Addr} {C:Value} {od:Option Addr}
theorem Inv.our' (I:Inv X pins σ H s) (h:s.heap.objs.size ≤ b) (hn:H' b = none):Our X pins H' b:=by
 have lt:∀ c o,s.heap.get? c = some o->c ≠ b:=fun c o e z=>by
  subst z
  exact absurd (Nat.lt_of_lt_of_le (Heap.lt_size e) h) (Nat.lt_irrefl _)
 refine ⟨Nat.le_trans I.sz h,fun z=>?_,fun y c e=>?_,fun p hp=>?_,hn⟩
 ·obtain ⟨m,⟨o,_,_,ho,_⟩,_⟩:=I.loc
  exact lt _ o ho z.symm
 ·obtain ⟨v,o,ho,_⟩:=I.cell y c e
  exact lt c o ho
 ·exact lt p.1 _ (I.pin p hp).1
theorem Inv.our (I:Inv X pins σ H s) (h:s.heap.objs.size ≤ b):Our X pins H b:=I.our' h (I.hok.fresh h)
theorem Inv.noted {h':Heap} (I:Inv X pins σ H s) (hx:Our X pins H x) (n:Nt (Our X pins H) (frs X.stack) x s.heap h'):Inv X pins σ H { s with heap:=h' }:=by
 obtain ⟨ch,pc,kc⟩:=n.chg
 have oc:∀ b ∈ ch,Our X pins H b:=fun b hb=>by
  rcases pc b hb with z | z
  ·rw [z];exact hx
  ·exact z.1
 have nfs:∀ b,b ≠ X.env.locals->b ∉ X.fs->b ∉ frs X.stack:=fun b h1 h2 z=>by
  rcases List.mem_cons.mp (I.stkSub b z) with q | q
  ·exact h1 q
  ·exact h2 q
 refine I.step (g':=s.gens) (d':=s.drawn) (t':=s.toks) (ch:=ch) (fun b hb=>⟨.inr (oc b hb).new,(oc b hb).loc,(oc b hb).cel,(oc b hb).pin⟩) (fun b o h1 h2 h3 e _=>kc b o e (nfs b h1 h2) h3) (fun b o _ _ h3 e _=>?_) (fun _ _ _ _ z=>z)
  (fun b o _ e=>n.thr b o e) (fun _ _ e=>e) (fun _ _ _ e=>e) (fun b ps e=>⟨#[],by rw [e];simp⟩) (fun m hm=>?_) (fun a o e=>?_) I.bare
 ·by_cases hf:b ∈ frs X.stack
  ·exact n.frm b o e hf
  ·exact ⟨o.slots,kc b o e hf h3⟩
 ·obtain ⟨o,es,ep,ho,hd,r⟩:=hm
  by_cases hf:X.env.locals ∈ frs X.stack
  ·obtain ⟨sl,e⟩:=n.frm _ o ho hf
   exact ⟨_,es,ep,e,hd,r⟩
  ·exact ⟨o,es,ep,kc _ o ho hf (fun z=>(oc _ z).loc rfl),hd,r⟩
 ·refine (I.hok a o e).stay (fun c u hc q=>kc c u q ?_ ?_) (fun _ q=>q) fun _ _ q=>q
  ·intro z
   have:=I.stkFree c z
   rcases hc with rfl | hc
   ·rw [this] at e;cases e
   ·rw [this] at hc;cases hc
  ·intro z
   have:=(oc c z).unt
   rcases hc with rfl | hc
   ·rw [this] at e;cases e
   ·rw [this] at hc;cases hc
theorem Inv.leave {M:Model} {E:Value->Shared->Prop} {Q:Unit->Shared->Prop} (I:Inv X pins σ H s) (hst:X.stack = X.env :: X.outer) (hf:X.env.frame = some X.env.locals) (hx:Our X pins H x) (xa:XAt s.heap (Our X pins H) x C od .none)
  (h:∀ s',Inv X pins σ H s'->XAt s'.heap (Our X pins H) x C od .none->Q () s'):wpAny M X.A (leaving X.env (.ref x)) Q E s:=
 leave_ok (base:=X.base) (by rw [I.ok.frames,hst]) (by rw [← hst];exact I.stack) hf xa (fun T hT=>I.our hT) fun h' n xa'=>h _ (I.noted hx (by rw [hst];exact n)) xa'
end
def CX1 (P:Program) (w:World):CXT:=fun outer H s E e s'=>∃ x C od H',e = .ref x/\s'.os = s.os/\AllBare s'.gens/\Un (frs outer) [] H H' s.heap s'.heap/\HOk P w H' s'.heap/\s.heap.objs.size ≤ x/\H' x = none ∧
 XAt s'.heap (fun T=>s.heap.objs.size ≤ T/\H' T = none) x C od .none/\E C od H'
abbrev XS:=Value->Option Addr->St->Hp->Prop
def Lands (X:Cx) (E:XS):Prop:=∀ (pins:List (Addr × Obj)) (σ:St) (H:Hp) (s:Shared) (x:Addr) (C:Value) (od:Option Addr),Inv X pins σ H s->Our X pins H x->XAt s.heap (Our X pins H) x C od .none->E C od σ H->X.xe (.ref x) s
theorem lands_cx {P:Program} {w:World} {K:PySem.W.Frag} {mg:Str->Option Value} {base:Heap} {N:List Str} {qual:Str} {scope:Scope} {f:Addr} {cd:Value} {A:Around} {outer:List Env} {s₀:Shared} {H₀:Hp} {E:XK} :
  Lands (cxOf (CX1 P w) P w K mg base N qual scope f cd A outer s₀ H₀ E) (fun C od _ H=>E C od H):=by
 intro pins σ H s x C od I hx xa q
 exact I.leave (Q:=fun _ s''=>CX1 P w outer H₀ s₀ E (.ref x) s'') rfl rfl hx xa fun s' I' xa'=>⟨x,C,od,H,rfl,I'.os,I'.bare,I'.base,I'.hok,hx.new,hx.unt,xa'.imp fun T o=>⟨o.new,o.unt⟩,q⟩
theorem Lands.pass {X:Cx} {E:XS} (L:Lands X E) {pins:List (Addr × Obj)} {σ:St} {H:Hp} {s s':Shared} {e:Value} (I:Inv X pins σ H s) (h:CX1 X.prog X.w X.stack H s (fun C od H'=>E C od σ H') e s'):X.xe e s':=by
 obtain ⟨x,C,od,H',rfl,os,bare,un,hok,nx,hx,xa,q⟩:=h
 have I':Inv X pins σ H' s':=I.call' os un hok bare (fun b z=>absurd z (by simp))
 exact L pins σ H' s' x C od I' (I.our' nx hx) (xa.imp fun T z=>I.our' z.1 z.2) q
section
variable {X:Cx} {k:Nat} {f C:Addr} {fd:FuncData} {ps:List Str} {sp:Sp} {dvs:List V} {ds:List Value} {E:XS} {x m:Str} {p pos apos:Pos} {e o:Expr} {es:List Expr} {ta:TE} {t:TA}
theorem run_fnX {pins:List (Addr × Obj)} {σ:St} {H:Hp} {s:Shared} {Q:VK} {us:List Value} {vs:List V} (F:FnOk X.prog X.w X.K X.mg X.base (CX1 X.prog X.w) k f fd ps sp) (hr:Room k X.A) (hb:Binds X.K fd ps ds) (hd:Vals dvs ds) (L:Lands X E)
  (I:Inv X pins σ H s) (r:Vals vs us) (h:sp (vs ++ dvs) H Q (fun C od H'=>E C od σ H')):wpAny (model X.prog X.w) X.A (call (.ref f) us) (EP X pins σ Q) X.xe s:=by
 have r2:Vals (vs ++ dvs) (us ++ ds):=r.append hd
 have hl:(us ++ ds).length = ps.length:=by rw [← r2.length];exact F.len _ _ _ _ h
 refine wpAny_call (codeAny_mono (F.run X.A X.stack s H ⟨us,[]⟩ (us ++ ds) (vs ++ dvs) Q _ hr I.env0 (hb s us I.kIn hl) r2 h) fun r s' hq=>?_)
 cases r with
 | error e=>exact L.pass I hq
 | ok fl=>
  cases fl with
  | ret u=>exact I.after hq
  | next=>exact False.elim hq
  | brk=>exact False.elim hq
  | cont=>exact False.elim hq
def tCallX (sp:Sp) (dvs:List V) (E:XS) (t:TA):TE:=fun σ H Q=>t σ H fun vs H1=>sp (vs ++ dvs) H1 Q (fun C od H'=>E C od σ H')
def tMethX (C:Addr) (m:Str) (sp:Sp) (dvs:List V) (E:XS) (ta:TE) (t:TA):TE:=fun σ H Q=>ta σ H fun x H1=>∃ a dx fs,x = .ref a/\H1 a = some (.ins C dx fs)/\fs.lookup m = none ∧
 t σ H1 fun vs H2=>sp (x :: (vs ++ dvs)) H2 Q (fun C od H'=>E C od σ H')
theorem pe_callX (F:FnOk X.prog X.w X.K X.mg X.base (CX1 X.prog X.w) k f fd ps sp) (hr:Room k X.A) (hg:Gl X x) (hm:X.mg x = some (.ref f)) (hk:PySem.W.keepIn X.K (.ref f) = true) (hb:Binds X.K fd ps ds) (hd:Vals dvs ds) (L:Lands X E)
  (ha:PA X (e :: es) t) (hdb:(x == ("__debug__":Str)) = false:=by decide) (he:starEach (e :: es) X.env = (false,eval e X.env) :: starEach es X.env:=by rfl) (hpl:(backTo pos (starEach es X.env)).any (·.1) = false:=by rfl) :
  PE X (.Call (.Name x p) (e :: es) [] pos) (tCallX sp dvs E t):=by
 intro pins s σ H Q I h
 refine wpAny_Call_Name_kw (ld_glob I hg hm ?_ hdb)
 refine PySem.W.callWith_K (h₀:=X.base) I.ok.mod.kin hk (thn (ha pos pins s σ H _ I h) fun us s1 ⟨vs,H1,I1,r,q⟩=>⟨I1.kIn,?_⟩) he hpl
 exact run_fnX F hr hb hd L I1 r q
end
end L2
namespace L2
open PySem PySem.Spec PyProof.Rows Builtin Builtin.ObjectAttr
abbrev bmV:List Value:=[.type "ValueError",.type "Exception",.type "BaseException",.type "object"]
def tailV:List Value->Bool
 | []=>false
 | v :: r=>(v :: r) == bmV || match v with | .ref _=>tailV r | _=>false
theorem tailV_has {X:String} {b:Bool} (hb:bmV.contains (.type X) = b):∀ {l:List Value},tailV l = true->l.contains (.type X) = b
 | [],e=>by cases e
 | v :: r,e=>by
  unfold tailV at e
  rcases Bool.or_eq_true_iff.mp e with q | q
  ·rw [beq_iff_eq.mp q];exact hb
  ·cases v with
   | ref a=>
    have q':tailV r = true:=q
    rw [List.contains_cons,tailV_has hb q']
    rfl
   | _=>exact Bool.noConfusion q
theorem tailV_pass (self:Value):∀ {l:List Value},tailV l = true->refuseLoop self "__setattr__" l = pure ()
 | [],e=>by cases e
 | v :: r,e=>by
  unfold tailV at e
  rcases Bool.or_eq_true_iff.mp e with q | q
  ·rw [beq_iff_eq.mp q];exact PySem.F.store_ValueError.passes self
  ·cases v with
   | ref a=>
    rw [refuseLoop_ref]
    exact tailV_pass self (l:=r) q
   | _=>exact Bool.noConfusion q
structure XCl (K:PySem.W.Frag) (C:Addr):Prop where
 at_:∃ (nm q:Str) (N:Addr) (bs bm:List Value) (sn:List Str) (sub:List Value) (ab:Bool) (col:Option Bool) (dd:Option Addr) (k0 k1 k2 k3 k5:Option Value),K.lookup C = some (excClassObj nm q C N bs bm true sn sub ab col dd k0 k1 k2 k3 k5 "ValueError.__new__")/\tailV bm = true
 ga:PySem.W.findIn K (.ref C) "__getattribute__" = some (some (.builtin "BaseException.__getattribute__"))
 gx:PySem.W.findIn K (.ref C) "__getattr__" = some none
 sa:PySem.W.findIn K (.ref C) "__setattr__" = some (some (.builtin "object.__setattr__"))
 kp:PySem.W.keepIn K (.ref C) = true
theorem xcl_mk {K:PySem.W.Frag} {C N:Addr} {nm q:Str} {bs bm:List Value} {sn:List Str} {sub:List Value} {ab:Bool} {col:Option Bool} {dd:Option Addr} {k0 k1 k2 k3 k5:Option Value}
  (l:K.lookup C = some (excClassObj nm q C N bs bm true sn sub ab col dd k0 k1 k2 k3 k5 "ValueError.__new__")) (t:tailV bm = true) (ga:PySem.W.findIn K (.ref C) "__getattribute__" = some (some (.builtin "BaseException.__getattribute__")))
  (gx:PySem.W.findIn K (.ref C) "__getattr__" = some none) (sa:PySem.W.findIn K (.ref C) "__setattr__" = some (some (.builtin "object.__setattr__"))) (kp:PySem.W.keepIn K (.ref C) = true):XCl K C:=
 ⟨⟨nm,q,N,bs,bm,sn,sub,ab,col,dd,k0,k1,k2,k3,k5,l,t⟩,ga,gx,sa,kp⟩
section
variable {prog:Program} {w:World} {A:Around} {E:Value->Shared->Prop} {h:Heap} {g:Array GenState} {d:Drawn} {t:Nat} {os:OsState}
variable {nm q:Str} {C N:Addr} {bs bm:List Value} {sn:List Str} {sub:List Value} {ab:Bool} {col:Option Bool} {dd:Option Addr} {k0 k1 k2 k3 k5:Option Value}
theorem xck_new {M:Model} {rest:List Value} {Q:Unit->Shared->Prop} (tv:tailV bm = true) (hC:h.get? C = some (excClassObj nm q C N bs bm true sn sub ab col dd k0 k1 k2 k3 k5 "ValueError.__new__"))
  (hq:Q () ⟨h,g,d,t,os⟩):wpAny M A (checkBuiltinCall "ValueError.__new__" ⟨.ref C :: rest,[]⟩) Q E ⟨h,g,d,t,os⟩:=by
 have F:=PySem.F.excBase_ValueError
 have hc:(Value.ref C :: bm).contains (.type "ValueError") = true:=by rw [List.contains_cons,tailV_has (X:="ValueError") rfl tv];rfl
 have ns:=F.noStar
 simp only [checkBuiltinCall,F.newKind,F.newSplit,F.newRow]
 repeat (first | refine wpAny_loadPart_at hC ?_ | (refine wpAny_isSubtype_exc hC ?_;rw [hc]) | refine wpAny_staticBase_exc hC ?_ | refine wpAny_madeBy_exc hC ?_ | simp only [bne_self_eq_false,Bool.false_eq_true,if_false] | wp_step)
 exact hq
abbrev xTup (rest:List Value):Obj:={ cls:=.type "tuple",data:=.seq rest.toArray }
abbrev xObj (C:Addr) (od:Option Addr) (t:Addr):Obj:=⟨.ref C,od,.fields #[.ref t,.none,.none,.none,.bool false,.none],#[]⟩
theorem xnew {R:Result->Shared->Prop} {rest:List Value} (tv:tailV bm = true) (hC:h.get? C = some (excClassObj nm q C N bs bm true sn sub ab col dd k0 k1 k2 k3 k5 "ValueError.__new__"))
  (hq:R (.ok (.ret (.ref (h.objs.size + 1)))) ⟨(h.push (xTup rest)).push (xObj C none h.objs.size),g,d,t,os⟩) (hrest:rest.length ≤ sizeLine) :
  codeAny (model prog w) A (.builtin "ValueError.__new__" ⟨.ref C :: rest,[]⟩) R ⟨h,g,d,t,os⟩:=by
 have F:=PySem.F.excBase_ValueError
 have fe:=F.ends
 have c1:(Value.ref C :: bm).contains (.type "ValueError") = true:=by rw [List.contains_cons,tailV_has (X:="ValueError") rfl tv];rfl
 have c2:(Value.ref C :: bm).contains (.type "AttributeError") = false:=by rw [List.contains_cons,tailV_has (X:="AttributeError") rfl tv];rfl
 have c3:(Value.ref C :: bm).contains (.type "NameError") = false:=by rw [List.contains_cons,tailV_has (X:="NameError") rfl tv];rfl
 refine codeAny_builtinAt F.entry ?_
 unfold Builtin.«BaseException.__new__»
 refine PySem.wpAt_bind ?_
 show PySem.wpAt _ _ _ (stack >>= _) _ _ _
 refine PySem.wpAt_bind (PySem.wpAt_stack fun p below=>PySem.wpAt_of_wpAny ?_)
 wp_walk
 refine PySem.wpAt_of_wpAny ?_
 rw [F.owner]
 repeat (first | with_reducible refine wpAny_madeHere_exc F.canon hC ?_ | with_reducible refine wpAny_loadPart_at hC ?_ | (with_reducible refine wpAny_isSubtype_exc hC ?_;first | rw [c1] | rw [c2] | rw [c3]) | wp_step)
 show R _ _
 rw [Heap.size_push]
 exact hq
theorem xtype_call {rest:List Value} {fI:Addr} {oI:Obj} {Q:Fin->Shared->Prop} (tv:tailV bm = true) (hC:h.get? C = some (excClassObj nm q C N bs bm true sn sub ab col dd k0 k1 k2 k3 k5 "ValueError.__new__"))
  (hi:PySem.W.Looks (model prog w) h (typeLookup (.ref C) "__init__") (some (.ref fI))) (hf:h.get? fI = some oI) (hfc:oI.cls = .type "function") (hrest:rest.length ≤ sizeLine)
  (hq:wpAny (model prog w) A (call (.ref fI) (.ref (h.objs.size + 1) :: rest)) (fun r s'=>r = .none/\Q (.done (.ret (.ref (h.objs.size + 1)))) s') E ⟨(h.push (xTup rest)).push (xObj C none h.objs.size),g,d,t,os⟩) :
  wpAny (model prog w) A (Builtin.«type.__call__» ⟨.ref C :: rest,[]⟩) Q E ⟨h,g,d,t,os⟩:=by
 have F:=PySem.F.excBase_ValueError
 repeat (first | with_reducible refine wpAny_loadPart_at hC ?_ | with_reducible refine wpAny_madeBy_exc hC ?_ | wp_step)
 refine codeAny_call_builtin_code (Code.quiet_builtin _ F.quiet) (xck_new tv hC ?_)
 refine xnew tv hC ?_ hrest
 show wpAny _ _ _ _ _ _
 have kp:∀ b o,h.get? b = some o->((h.push (xTup rest)).push (xObj C none h.objs.size)).get? b = some o:=fun b o e=>Heap.get?_push_of_some _ (Heap.get?_push_of_some _ e)
 have hg2:((h.push (xTup rest)).push (xObj C none h.objs.size)).get? (h.objs.size + 1) = some (xObj C none h.objs.size):=by
  have:=Heap.get?_push_size (h.push (xTup rest)) (o:=xObj C none h.objs.size) rfl
  rwa [Heap.size_push] at this
 have hcC:(Value.ref C :: bm).contains (.ref C) = true:=by simp
 unfold isInstance
 repeat (first | with_reducible refine wpAny_loadPart_at hg2 ?_ | (with_reducible refine wpAny_isSubtype_exc (kp _ _ hC) ?_;rw [hcC]) | wp_step)
 show wpAny _ _ (typeLookup (.ref C) _) _ _ _
 refine hi _ _ _ _ kp ?_
 refine wpAny_holding (wpAny_bind ?_)
 unfold bindSpecial
 refine wpAny_bind (wpAny_typeOf (T:="function") ⟨_,kp _ _ hf,hfc⟩ ?_)
 rw [if_pos (by decide)]
 refine wpAny_pure (wpAny_bind (wpAny_mono hq (fun r s' hr=>?_) fun _ _ x=>x))
 obtain ⟨rfl,hQ⟩:=hr
 wp_walk
 exact hQ
theorem xcall {rest:List Value} {fI:Addr} {oI:Obj} {Q:Value->Shared->Prop} (tv:tailV bm = true) (hC:h.get? C = some (excClassObj nm q C N bs bm true sn sub ab col dd k0 k1 k2 k3 k5 "ValueError.__new__"))
  (hi:PySem.W.Looks (model prog w) h (typeLookup (.ref C) "__init__") (some (.ref fI))) (hf:h.get? fI = some oI) (hfc:oI.cls = .type "function") (hrest:rest.length ≤ sizeLine)
  (hq:wpAny (model prog w) (A.under (.builtin "type.__call__" ⟨.ref C :: rest,[]⟩)) (call (.ref fI) (.ref (h.objs.size + 1) :: rest)) (fun r s'=>r = .none/\Q (.ref (h.objs.size + 1)) s') E ⟨(h.push (xTup rest)).push (xObj C none h.objs.size),g,d,t,os⟩) :
  wpAny (model prog w) A (call (.ref C) rest) Q E ⟨h,g,d,t,os⟩:=by
 have f1:=tc_lookup
 have f2:=tc_bind (.ref C)
 have hT:(⟨h,g,d,t,os⟩:Shared).TypeIs (.ref C) "type":=⟨_,hC,rfl⟩
 refine wpAny_call (codeAny_of_tree ?_)
 show wpAny _ _ (callAny (.ref C) _) _ _ _
 repeat (any_goals (first | assumption | with_reducible refine wpAny_loadPart_at hC ?_ | wp_step))
 refine ⟨rfl,?_⟩
 exact codeAny_call_builtin_at (Code.quiet_builtin _ (by decide +kernel)) entry_typeCall (wpAny_check_type_call_sub hC (xtype_call tv hC hi hf hfc hrest hq))
theorem xraise {M:Model} {s:Shared} {env:Env} {x:Sem Value} {Q:Flow->Shared->Prop} (hh:A.handled = none)
  (hx:wpAny M A x (fun v s₁=>∃ e C nm q N bs bm sn sub ab col dd k0 k1 k2 k3 k5 od t0,v = .ref e/\s₁.heap.get? C = some (excClassObj nm q C N bs bm true sn sub ab col dd k0 k1 k2 k3 k5 "ValueError.__new__")/\tailV bm = true/\s₁.heap.get? e = some (xObj C od t0)/\E (.ref e) s₁) E s) :
  wpAny M A (raiseStmt env (some x) none) Q E s:=by
 unfold raiseStmt
 refine wpAny_bind (wpAny_mono hx (fun v s₁ h₁=>?_) fun _ _ z=>z)
 obtain ⟨e,C,nm,q,N,bs,bm,sn,sub,ab,col,dd,k0,k1,k2,k3,k5,od,t0,rfl,hC,tv,he,hE⟩:=h₁
 obtain ⟨hp,g,d,tk,os⟩:=s₁
 have hb:(Value.ref C :: bm).contains (.type "BaseException") = true:=by rw [List.contains_cons,tailV_has (X:="BaseException") rfl tv];rfl
 repeat (first | with_reducible refine wpAny_loadPart_at he ?_ | with_reducible refine wpAny_loadPart_at hC ?_ | (with_reducible refine wpAny_isSubtype_exc hC ?_;rw [hb]) | wp_step)
 exact wpAny_raiseNew_none hh hE
end
section
variable {prog:Program} {w:World} {A:Around} {E:Value->Shared->Prop} {s:Shared} {K:PySem.W.Frag} {x C dx t0:Addr} {name:Str} {v:Value}
theorem XCl.cls (c:XCl K C):∃ cd bm,PySem.W.clsIn K C = some cd/\cd.mro = .ref C :: bm/\tailV bm = true/\cd.hasDict = true:=by
 obtain ⟨nm,q,N,bs,bm,sn,sub,ab,col,dd,k0,k1,k2,k3,k5,l,tv⟩:=c.at_
 have e:PySem.W.clsIn K C = some ⟨nm,bs,.ref C :: bm,N,q,true,sn,sub,ab,col,false⟩:=by
  unfold PySem.W.clsIn
  rw [l]
 exact ⟨_,bm,e,rfl,tv,rfl⟩
theorem xosa {ox:Obj} {od:Option Obj} {tk:Tok} {R:Result->Shared->Prop} (Xk:K.In s.heap) (I:PySem.W.InstAt s.heap x ox C od) (c:XCl K C) (n:PySem.W.findIn K (.ref C) name = some none)
  (h:wpAny (model prog w) A.in1 (storeInOwnDict (.ref x) (.ref C) (.str name tk) name v false)
   (fun fin s'=>match fin with | .done f=>R (.ok f) s' | .again c'=>c'.quiet = true/\codeAny (model prog w) A c' R s') (fun e s'=>R (.error e) s') s) :
  codeAny (model prog w) A (.call (.builtin "object.__setattr__") ⟨[.ref x,.str name tk,v],[]⟩) R s:=by
 have SF:=PySem.F.store_ValueError
 obtain ⟨cd,bm,hc,hm,tv,_⟩:=c.cls
 have sub:PySem.W.Looks (model prog w) s.heap (isInstance (.ref x) (.type "object")) true:=I.type.andThen (PySem.W.looks_mroIn Xk (by
  unfold PySem.W.mroIn
  rw [hc,Option.bind_some,hm]
  show some (List.contains _ _) = _
  rw [List.contains_cons,tailV_has (X:="object") rfl tv]
  rfl))
 refine codeAny_call_builtin SF.slot.plain SF.entry (@PySem.W.check_slot (model prog w) _ _ s "object.__setattr__" "object" "__setattr__" (.ref x) [.str name tk,v] [] _ SF.kind SF.split sub (SF.args (.ref x) (.str name tk) v) ?_)
 have lm:PySem.W.Looks (model prog w) s.heap (mroOf (.ref C)) cd.mro:=(PySem.W.looks_clsIn Xk hc).andThen .now
 rw [PySem.W.osa_eq,refuse_eq]
 refine wpAny_bind (wpAny_bind (I.type.here (wpAny_bind (lm.here ?_))))
 rw [hm,refuseLoop_ref,tailV_pass _ tv]
 refine wpAny_pure (wpAny_bind (I.type.here (wpAny_bind ((PySem.W.looks_findIn Xk n).here (wpAny_bind (PySem.W.Looks.here (r:=none) .now ?_))))))
 exact h
theorem xput_new {Q:Unit->Shared->Prop} (Xk:K.In s.heap) (c:XCl K C) (n:PySem.W.findIn K (.ref C) name = some none) (hx:s.heap.get? x = some (xObj C none t0))
  (hq:∀ h' tk',h'.get? x = some (xObj C (some s.heap.objs.size) t0)->h'.Ns1 s.heap.objs.size (fun y=>if y = name then some v else none)->(∀ b o,b ≠ x->s.heap.get? b = some o->h'.get? b = some o)->Q () { s with heap:=h',toks:=tk' }) :
  wpAny (model prog w) A (setAttr (.ref x) name v) Q E s:=by
 obtain ⟨h,g,d,t,os⟩:=s
 obtain ⟨cd,bm,hc,hm,tv,hd⟩:=c.cls
 have J:PySem.W.InstAt h x (xObj C none t0) C none:=⟨hx,rfl,rfl,trivial⟩
 refine PySem.W.set_plain (s:=⟨h,g,d,t,os⟩) Xk J c.sa (xosa (s:=⟨h,g,d,t + 1,os⟩) Xk J c n ?_)
 refine wpAny_bind (wpAny_pure (wpAny_bind (wpAny_bind (wpAny_loadPart_at hx (wpAny_bind (PySem.W.Looks.here (s:=⟨h,g,d,t + 1,os⟩) (PySem.W.looks_clsIn Xk hc) ?_))))))
 rw [hd]
 have hx1:(h.push { cls:=.type "dict",data:=.dict #[] }).get? x = some (xObj C none t0):=Heap.get?_push_of_some _ hx
 have hxs:x ≠ h.objs.size:=Nat.ne_of_lt (Heap.lt_size hx)
 refine wpAny_bind (wpAny_alloc' ?_)
 refine wpAny_bind (wpAny_update' hx1 ?_)
 refine wpAny_pure ?_
 have g1:((h.push { cls:=.type "dict",data:=.dict #[] }).update x fun o=>{ o with dict:=some h.objs.size }).get? h.objs.size = some { cls:=.type "dict",data:=.dict #[] }:=
  (Heap.get?_update_ne _ _ _ _ hxs.symm).trans (Heap.get?_push_at rfl rfl)
 have g2:((h.push { cls:=.type "dict",data:=.dict #[] }).update x fun o=>{ o with dict:=some h.objs.size }).get? x = some (xObj C (some h.objs.size) t0):=Heap.get?_update_self _ hx1 rfl
 have gn:((h.push { cls:=.type "dict",data:=.dict #[] }).update x fun o=>{ o with dict:=some h.objs.size }).Ns h.objs.size (fun _=>none):=⟨_,#[],_,g1,rfl,fun e he=>absurd he (by simp),fun _=>rfl⟩
 show wpAny _ _ (storeInDict h.objs.size (.str name t) name v) _ _ _
 unfold storeInDict newKeyGuard
 refine wpAny_bind (wpAny_pure (wpAny_bind (wpAny_nsSet1 (Heap.Ns1.of_empty gn) fun h' n' sb=>?_)))
 obtain ⟨oD,esD,epD,hoD,hdD,hcD⟩:=n'.count (Within.cons name v Within.nil)
 refine wpAny_bind (wpAny_lookBehind hoD (by rw [hdD];exact pastItsLine_dict (Nat.le_trans hcD (by rw [List.length_cons,List.length_nil,sizeLine_eq];omega))) ?_)
 refine wpAny_pure (hq h' _ ((sb.2 x hxs).trans g2) n' fun b o hb e=>?_)
 exact (sb.2 b (Nat.ne_of_lt (Heap.lt_size e))).trans ((Heap.get?_update_ne _ _ _ _ hb).trans (Heap.get?_push_of_some _ e))
theorem xput_old {Q:Unit->Shared->Prop} {mA:Str->Option Value} {ns:List Str} (Xk:K.In s.heap) (c:XCl K C) (n:PySem.W.findIn K (.ref C) name = some none) (hx:s.heap.get? x = some (xObj C (some dx) t0)) (hn:s.heap.Ns1 dx mA) (ne:dx ≠ x)
  (hw:Within mA ns) (hz:ns.length ≤ sizeLine)
  (hq:∀ h' tk',h'.Ns1 dx (fun y=>if y = name then some v else mA y)->Heap.SameBut dx s.heap h'->Q () { s with heap:=h',toks:=tk' }):wpAny (model prog w) A (setAttr (.ref x) name v) Q E s:=by
 obtain ⟨h,g,d,t,os⟩:=s
 obtain ⟨cd,bm,hc,hm,tv,hd⟩:=c.cls
 obtain ⟨od,es,ep,eo,_⟩:=id hn
 have J:PySem.W.InstAt h x (xObj C (some dx) t0) C (some od):=⟨hx,rfl,rfl,eo⟩
 refine PySem.W.set_plain (s:=⟨h,g,d,t,os⟩) Xk J c.sa (xosa (s:=⟨h,g,d,t + 1,os⟩) Xk J c n ?_)
 refine wpAny_bind (wpAny_pure (wpAny_bind (wpAny_bind (wpAny_loadPart_at hx (wpAny_bind (PySem.W.Looks.here (s:=⟨h,g,d,t + 1,os⟩) (PySem.W.looks_clsIn Xk hc) ?_))))))
 rw [hd]
 refine wpAny_pure (a:=some dx) ?_
 show wpAny _ _ (storeInDict dx (.str name t) name v) _ _ _
 unfold storeInDict newKeyGuard
 refine wpAny_bind (wpAny_pure (wpAny_bind (wpAny_nsSet1 hn fun h' n' sb=>?_)))
 obtain ⟨oD,esD,epD,hoD,hdD,hcD⟩:=n'.count (Within.cons name v hw)
 refine wpAny_bind (wpAny_lookBehind hoD (by rw [hdD];exact pastItsLine_dict (Nat.le_trans hcD (by rw [List.length_cons];omega))) ?_)
 exact wpAny_pure (hq h' _ n' sb)
theorem xget {expr:Bool} {vs:Array Value} {sl:Array (Option Value)} {mA:Str->Option Value} {Q:Value->Shared->Prop} (Xk:K.In s.heap) (c:XCl K C) (n:PySem.W.findIn K (.ref C) name = some none) (hx:s.heap.get? x = some ⟨.ref C,some dx,.fields vs,sl⟩) (hn:s.heap.Ns1 dx mA)
  (hv:mA name = some v) (hh:PySem.W.handedIn v = true) (hq:Q v { s with toks:=s.toks + 1 }):wpAny (model prog w) A (getAttr (.ref x) name expr) Q E s:=by
 obtain ⟨h,g,d,t,os⟩:=s
 obtain ⟨cd,bm,hc,hm,tv,hd⟩:=c.cls
 obtain ⟨od,ho,hl⟩:=lookIn_ns hn
 have J:PySem.W.InstAt h x ⟨.ref C,some dx,.fields vs,sl⟩ C (some od):=⟨hx,rfl,rfl,ho⟩
 have hf:PySem.W.findObj K C (some od) name = some (.value v):=by
  unfold PySem.W.findObj
  rw [hc,Option.bind_some,n,Option.bind_some]
  show (Option.bind (some none) fun get=>_) = _
  rw [Option.bind_some]
  show (Option.bind (some false) fun data=>_) = _
  rw [Option.bind_some]
  show (Option.bind (PySem.W.ownOf cd (some od) name) fun own=>_) = _
  have e:PySem.W.ownOf cd (some od) name = some (some v):=by
   unfold PySem.W.ownOf
   rw [hd,if_pos rfl]
   show PySem.W.lookIn name od = _
   rw [hl,hv]
  rw [e]
  rfl
 have FX:=PySem.F.attr_ValueError
 have L0:=J.type (M:=model prog w)
 have L1:=PySem.W.looks_find (M:=model prog w) Xk J hf
 have sub:PySem.W.Looks (model prog w) h (isInstance (.ref x) (.type "BaseException")) true:=L0.andThen (PySem.W.looks_mroIn Xk (by
  unfold PySem.W.mroIn
  rw [hc,Option.bind_some,hm]
  show some (List.contains _ _) = _
  rw [List.contains_cons,tailV_has (X:="BaseException") rfl tv]
  rfl))
 have nq:(onTheHeap (Value.ref C) && Value.builtin "BaseException.__getattribute__" == Value.builtin "object.__getattribute__") = false:=by
  rw [show (Value.builtin "BaseException.__getattribute__" == Value.builtin "object.__getattribute__") = false from by decide +kernel,Bool.and_false]
 unfold getAttr getAttrBy
 refine wpAny_bind (wpAny_mkText (wpAny_holding (wpAny_bind (L0.at (wpAny_bind ((PySem.W.looks_findIn (M:=model prog w) Xk c.ga).at ?_))))))
 show wpAny _ _ (if _ = true then _ else _) _ _ _
 rw [nq,if_neg (by decide)]
 unfold getAttrByItsOwn hookBefore
 refine wpAny_bind (PySem.W.Looks.at (t:=if onTheHeap (Value.ref C) = true then typeLookup (.ref C) "__getattr__" else pure none) (r:=none) (PySem.W.looks_findIn (M:=model prog w) Xk c.gx) (wpAny_bind (wpAny_attempt (wpAny_holding ?_))))
 unfold callGetattribute
 rw [show (expr && onTheHeap (Value.builtin "BaseException.__getattribute__")) = false from Bool.and_false _,if_neg (by decide)]
 unfold boundAndCalled
 rw [FX.ga.bind]
 refine wpAny_bind (wpAny_pure ?_)
 show wpAny _ _ (call (.builtin "BaseException.__getattribute__") [.ref x,.str name t]) _ _ _
 refine wpAny_call ?_
 refine codeAny_call_builtin FX.ga.plain PySem.F.entry_bexc_ga ?_
 refine @PySem.W.check_slot (model prog w) _ _ ⟨h,g,d,t + 1,os⟩ "BaseException.__getattribute__" "BaseException" "__getattribute__" (.ref x) [.str name t] [] _ (by decide +kernel) (by decide +kernel) sub (PySem.F.args_bexc_ga (.ref x) (.str name t)) ?_
 unfold Builtin.«object.__getattribute__»
 refine wpAny_bind (wpAny_pure (wpAny_bind (wpAny_pure (wpAny_bind (L0.at (wpAny_bind (L1.at ?_)))))))
 refine wpAny_pure ?_
 show wpAny _ _ (handedOut v) _ _ _
 rw [PySem.W.handedOut_of hh]
 exact wpAny_pure hq
end
end L2
namespace L2
open PySem PySem.Spec PyProof.Rows Builtin Builtin.ObjectAttr
def excP (x C:Addr) (od:Option Addr) (h:Heap):Prop:=∃ t,h.get? x = some (xObj C od t)
def gotP (x C:Addr) (od:Option Addr) (h:Heap):Prop:=∃ vs sl,h.get? x = some ⟨.ref C,od,.fields vs,sl⟩
def dctP (dx:Addr) (fs:List (Str × V)) (h:Heap):Prop:=∃ mA,h.Ns1 dx mA/\(∀ f,RelO (fs.lookup f) (mA f))/\Within mA (fs.map (·.1))
section
variable {P:Program} {w:World} {H:Hp} {h:Heap} {x C dx t:Addr} {od:Option Addr}
theorem excP_ok (e:h.get? x = some (xObj C od t)):ObjOk P w H h x (.ext (excP x C od)):=⟨⟨t,e⟩,⟨_,e⟩,fun _ _ ⟨t,e⟩ k=>⟨t,k _ e⟩⟩
theorem gotP_ok {vs:Array Value} {sl:Array (Option Value)} (e:h.get? x = some ⟨.ref C,od,.fields vs,sl⟩):ObjOk P w H h x (.ext (gotP x C od)):=⟨⟨vs,sl,e⟩,⟨_,e⟩,fun _ _ ⟨vs,sl,e⟩ k=>⟨vs,sl,k _ e⟩⟩
theorem dctP_ok {fs:List (Str × V)} {mA:Str->Option Value} (n:h.Ns1 dx mA) (r:∀ f,RelO (fs.lookup f) (mA f)) (wi:Within mA (fs.map (·.1))):ObjOk P w H h dx (.ext (dctP dx fs)):=
 ⟨⟨mA,n,r,wi⟩,(let ⟨o,_,_,e,_⟩:=n;⟨o,e⟩),fun _ _ ⟨mA,⟨o,es,ep,e,c⟩,r,wi⟩ k=>⟨mA,⟨o,es,ep,k _ e,c⟩,r,wi⟩⟩
end
def dropH (H:Hp) (x:Addr):Hp:=fun b=>if b = x then none else H b
theorem dropH_ne {H:Hp} {x b:Addr} (h:b ≠ x):dropH H x b = H b:=if_neg h
theorem dropH_same {H:Hp} {x:Addr}:dropH H x x = none:=if_pos rfl
section
variable {X:Cx} {pins:List (Addr × Obj)} {σ:St} {H:Hp} {s:Shared} {x dx C:Addr} {φ:Heap->Prop} {od:Option Addr}
theorem Inv.drop (I:Inv X pins σ H s) (e:H x = some (.ext φ)):Inv X pins σ (dropH H x) s:=by
 have ne:∀ b u,H b = some u->(∀ ψ,u ≠ .ext ψ)->b ≠ x:=fun b u q hu z=>by
  rw [z,e] at q
  cases q
  exact hu φ rfl
 have nn:∀ b,H b = none->dropH H x b = none:=fun b q=>by
  by_cases z:b = x
  ·rw [z,dropH_same]
  ·rw [dropH_ne z,q]
 refine ⟨I.ok,I.os,I.bare,⟨I.base.keep,I.base.slot,fun b o q n hx=>nn b (I.base.free b o q n hx),I.base.there,fun b xs q=>?_,fun b o u q=>?_,fun b ps q=>?_⟩,I.loc,I.cell,nn _ I.free,fun y c q=>nn c (I.freeC y c q),fun p hp=>?_,fun a o q=>?_,I.len⟩
 ·have z:=I.base.tups b xs q
  rw [dropH_ne (ne b _ z fun ψ q=>by cases q)]
  exact z
 ·have z:=I.base.frzs b o u q
  rw [dropH_ne (ne b _ z fun ψ q=>by cases q)]
  exact z
 ·obtain ⟨m,z⟩:=I.base.tbls b ps q
  exact ⟨m,by rw [dropH_ne (ne b _ z fun ψ q=>by cases q)];exact z⟩
 ·obtain ⟨a,b,c⟩:=I.pin p hp
  exact ⟨a,nn _ b,c⟩
 ·have na:a ≠ x:=fun z=>by rw [z,dropH_same] at q;cases q
  rw [dropH_ne na] at q
  exact (I.hok a o q).stay (fun _ _ _ r=>r) (fun c r=>by rw [dropH_ne (ne c _ r fun ψ q=>by cases q)];exact r) fun c xs r=>by rw [dropH_ne (ne c _ r fun ψ q=>by cases q)];exact r
theorem Inv.track {o:HO} (I:Inv X pins σ H s) (hx:Our X pins H x) (new:ObjOk X.prog X.w (upd H x o) s.heap x o):Inv X pins σ (upd H x o) s:=by
 have ne:∀ b u,H b = some u->b ≠ x:=fun b u q z=>by rw [z,hx.unt] at q;cases q
 refine I.step (h':=s.heap) (g':=s.gens) (d':=s.drawn) (t':=s.toks) (ch:=[x]) (fun b hb=>?_) (fun b o _ _ _ e _=>e) (fun b o _ _ _ e _=>⟨o.slots,e⟩) (fun b o hc e n=>?_) (fun b o _ e=>⟨o,e⟩) (fun b xs e=>?_) (fun b u xs e=>?_) (fun b ps e=>⟨#[],?_⟩) (fun m hm=>hm) (fun b u q=>?_) I.bare
 ·rw [List.mem_singleton.mp hb]
  exact ⟨.inr hx.new,hx.loc,hx.cel,hx.pin⟩
 ·rw [upd_ne fun z=>hc (by rw [z];exact List.mem_singleton.mpr rfl)]
  exact n
 ·rw [upd_ne (ne b _ e)];exact e
 ·rw [upd_ne (ne b _ e)];exact e
 ·rw [upd_ne (ne b _ e),e];simp
 ·by_cases hb:b = x
  ·subst hb
   rw [upd_same] at q
   cases q
   exact new
  ·rw [upd_ne hb] at q
   exact (I.hok b u q).stay (fun _ _ _ r=>r) (fun c r=>by rw [upd_ne (ne c _ r)];exact r) fun c xs r=>by rw [upd_ne (ne c _ r)];exact r
theorem Inv.xput {ψ χ:Heap->Prop} {h':Heap} {t':Nat} (I:Inv X pins σ H s) (e:H x = some (.ext φ)) (nd:s.heap.objs.size ≤ dx) (k:∀ b o,b ≠ x->s.heap.get? b = some o->h'.get? b = some o)
  (n1:∀ H',ObjOk X.prog X.w H' h' dx (.ext χ)) (n2:∀ H',ObjOk X.prog X.w H' h' x (.ext ψ)):Inv X pins σ (upd (upd H dx (.ext χ)) x (.ext ψ)) { s with heap:=h',toks:=t' }:=by
 have hd:H dx = none:=I.hok.fresh nd
 have xd:x ≠ dx:=fun z=>by rw [z,hd] at e;cases e
 have ne:∀ b u,H b = some u->(∀ ψ,u ≠ .ext ψ)->b ≠ x/\b ≠ dx:=fun b u q hu=>⟨fun z=>by
  rw [z,e] at q
  cases q
  exact hu φ rfl,fun z=>by rw [z,hd] at q;cases q⟩
 have same:∀ b u,H b = some u->(∀ ψ,u ≠ .ext ψ)->upd (upd H dx (.ext χ)) x (.ext ψ) b = some u:=fun b u q hu=>by
  rw [upd_ne (ne b u q hu).1,upd_ne (ne b u q hu).2]
  exact q
 obtain ⟨o2,e2⟩:∃ o,h'.get? x = some o:=(n2 H).2.1
 refine I.un (t':=t') ⟨fun b o q n _ _=>k b o (fun z=>by rw [z,e] at n;cases n) q,fun b o q n _ _=>⟨o.slots,k b o (fun z=>by rw [z,e] at n;cases n) q⟩,fun b o q n _=>?_,fun b o q _=>?_,fun b xs q=>same b _ q (fun ψ q=>by cases q),fun b o u q=>same b _ q (fun ψ q=>by cases q),fun b ps q=>⟨#[],by rw [same b _ q (fun ψ q=>by cases q)];simp⟩⟩ (fun b u q=>?_)
 ·rw [upd_ne (fun z=>by rw [z,e] at n;cases n),upd_ne (Nat.ne_of_lt (Nat.lt_of_lt_of_le (Heap.lt_size q) nd))]
  exact n
 ·by_cases hb:b = x
  ·rw [hb];exact ⟨o2,e2⟩
  ·exact ⟨o,k b o hb q⟩
 ·by_cases hb:b = x
  ·subst hb
   rw [upd_same] at q
   cases q
   exact n2 _
  ·rw [upd_ne hb] at q
   by_cases hb2:b = dx
   ·subst hb2
    rw [upd_same] at q
    cases q
    exact n1 _
   ·rw [upd_ne hb2] at q
    refine (I.hok b u q).stay (fun c v hc r=>k c v ?_ r) (fun c r=>same c _ r (fun ψ q=>by cases q)) fun c xs r=>same c _ r (fun ψ q=>by cases q)
    rcases hc with rfl | hc
    ·exact hb
    ·exact (ne c _ hc fun ψ q=>by cases q).1
end
structure XMk (K:PySem.W.Frag) (C f:Addr):Prop where
 cl:XCl K C
 init:PySem.W.findIn K (.ref C) "__init__" = some (some (.ref f))
 fn:PySem.W.isFn K (.ref f) = true
def tXMake (n:Nat) (C:Addr) (sp:Sp) (dvs:List V) (t:TA):TE:=fun σ H Q=>t σ H fun vs H1=>vs.length ≤ sizeLine/\∀ x,n ≤ x->H1 x = none->sp (.ref x :: (vs ++ dvs)) (upd H1 x (.ext (excP x C none))) (fun v H2=>v = .non/\Q (.ref x) H2) E0
def tRaise (n:Nat) (K:PySem.W.Frag) (E:XS) (te:TE):TS:=fun _ σ H=>te σ H fun v H1=>∃ x C od,v = .ref x/\H1 x = some (.ext (excP x C od))/\n ≤ x/\XCl K C/\E (.ref C) od σ (dropH H1 x)
section
variable {X:Cx} {k:Nat} {f C:Addr} {fd:FuncData} {ps:List Str} {sp:Sp} {dvs:List V} {ds:List Value} {E:XS} {x m:Str} {p pos apos:Pos} {e o:Expr} {es:List Expr} {ta te:TE} {t:TA}
theorem run_xmake {pins:List (Addr × Obj)} {σ:St} {H:Hp} {s:Shared} {Q:VK} {us:List Value} {vs:List V} (M:XMk X.K C f) (F:FnOk X.prog X.w X.K X.mg X.base CX0 k f fd ps sp) (hr:Room (k + 1) X.A) (hb:Binds X.K fd ps ds) (hd:Vals dvs ds)
  (I:Inv X pins σ H s) (r:Vals vs us) (hz:vs.length ≤ sizeLine) (h:∀ x,X.s₀.heap.objs.size ≤ x->H x = none->sp (.ref x :: (vs ++ dvs)) (upd H x (.ext (excP x C none))) (fun v H2=>v = .non/\Q (.ref x) H2) E0) :
  wpAny (model X.prog X.w) X.A (call (.ref C) us) (EP X pins σ Q) X.xe s:=by
 obtain ⟨nm,q,N,bs,bm,sn,sub,ab,col,dd,k0,k1,k2,k3,k5,lk,tv⟩:=M.cl.at_
 have ht:PySem.W.typeIn X.K (.ref f) = some (.type "function"):=beq_iff_eq.mp M.fn
 obtain ⟨oI,hl,hc⟩:=Option.map_eq_some_iff.mp ht
 have hq:=h (s.heap.objs.size + 1) (Nat.le_succ_of_le I.sz) (I.hok.fresh (Nat.le_succ _))
 have I1:Inv X pins σ H { s with heap:=s.heap.push (xTup us) }:=I.kept (t':=s.toks) fun b u q=>Heap.get?_push_of_some _ q
 have e2:((s.heap.push (xTup us)).push (xObj C none s.heap.objs.size)).get? (s.heap.objs.size + 1) = some (xObj C none s.heap.objs.size):=by
  have:=Heap.get?_push_size (s.heap.push (xTup us)) (o:=xObj C none s.heap.objs.size) rfl
  rwa [Heap.size_push] at this
 have I2:Inv X pins σ (upd H (s.heap.objs.size + 1) (.ext (excP (s.heap.objs.size + 1) C none))) { s with heap:=(s.heap.push (xTup us)).push (xObj C none s.heap.objs.size) }:=
  I1.laid (a:=s.heap.objs.size + 1) (t':=s.toks) (fun b u q=>Heap.get?_push_of_some _ q) (Nat.le_of_eq (Heap.size_push _ _)) (excP_ok e2)
 have r2:Vals (V.ref (s.heap.objs.size + 1) :: (vs ++ dvs)) (Value.ref (s.heap.objs.size + 1) :: (us ++ ds)):=.cons rfl (r.append hd)
 have hlen:(Value.ref (s.heap.objs.size + 1) :: us ++ ds).length = ps.length:=by
  have e:=r2.length
  rw [F.len _ _ _ _ hq] at e
  exact e.symm
 have go:=F.run (X.A.under (.builtin "type.__call__" ⟨.ref C :: us,[]⟩)) X.stack _ _ ⟨Value.ref (s.heap.objs.size + 1) :: us,[]⟩ (Value.ref (s.heap.objs.size + 1) :: (us ++ ds)) _ _ E0 (hr.make C us []) (I2.env0.make C us []) (hb _ (Value.ref (s.heap.objs.size + 1) :: us) I2.kIn hlen) r2 hq
 obtain ⟨hh,g,d,tk,os⟩:=s
 refine xcall tv (I.kIn _ _ lk) (PySem.W.looks_findIn I.kIn M.init) (I.kIn _ _ hl) hc (by rw [← r.length];exact hz) (wpAny_call (codeAny_mono go fun r s' hq'=>?_))
 cases r with
 | error e=>exact False.elim hq'
 | ok fl=>
  cases fl with
  | ret u=>
   obtain ⟨v,H',I3,rv,ev,q3⟩:=I2.after hq'
   subst ev
   exact ⟨rv,⟨V.ref (hh.objs.size + 1),H',I3,rfl,q3⟩⟩
  | next=>exact False.elim hq'
  | brk=>exact False.elim hq'
  | cont=>exact False.elim hq'
theorem pe_xmake (M:XMk X.K C f) (F:FnOk X.prog X.w X.K X.mg X.base CX0 k f fd ps sp) (hr:Room (k + 1) X.A) (hg:Gl X x) (hm:X.mg x = some (.ref C)) (hb:Binds X.K fd ps ds) (hd:Vals dvs ds)
  (ha:PA X (e :: es) t) (hdb:(x == ("__debug__":Str)) = false:=by decide) (he:starEach (e :: es) X.env = (false,eval e X.env) :: starEach es X.env:=by rfl) (hpl:(backTo pos (starEach es X.env)).any (·.1) = false:=by rfl) :
  PE X (.Call (.Name x p) (e :: es) [] pos) (tXMake X.s₀.heap.objs.size C sp dvs t):=by
 intro pins s σ H Q I h
 refine wpAny_Call_Name_kw (ld_glob I hg hm ?_ hdb)
 refine PySem.W.callWith_K (h₀:=X.base) I.ok.mod.kin M.cl.kp (thn (ha pos pins s σ H _ I h) fun us s1 ⟨vs,H1,I1,r,q⟩=>⟨I1.kIn,?_⟩) he hpl
 exact run_xmake M F hr hb hd I1 r q.1 q.2
theorem ps_raise (hc:X.calm = true) (he:PE X e te) (L:Lands X E):PS X (.Raise (some e) none pos) (tRaise X.s₀.heap.objs.size X.K E te):=by
 intro pins s σ H D I h
 rw [arm_exec_Raise]
 have go:wpAny (model X.prog X.w) X.A (eval e X.env) (fun v s₁=>∃ x C nm q N bs bm sn sub ab col dd k0 k1 k2 k3 k5 od t0,v = .ref x/\s₁.heap.get? C = some (excClassObj nm q C N bs bm true sn sub ab col dd k0 k1 k2 k3 k5 "ValueError.__new__")/\tailV bm = true/\s₁.heap.get? x = some (xObj C od t0)/\X.xe (.ref x) s₁) X.xe s:=by
  refine thn (he pins s σ H _ I h) fun v s1 ⟨y,H1,I1,rv,x,C,od,ey,hx,nx,c,q⟩=>?_
  subst ey
  obtain rfl:v = Value.ref x:=rv
  obtain ⟨nm,qn,N,bs,bm,sn,sub,ab,col,dd,k0,k1,k2,k3,k5,lk,tv⟩:=c.at_
  obtain ⟨⟨t0,ex⟩,_⟩:=I1.hok x _ hx
  have I2:=I1.drop hx
  have our:Our X pins (dropH H1 x) x:=⟨nx,(fun z=>by rw [z,I1.free] at hx;cases hx),(fun y c e z=>by rw [← z,I1.freeC y c e] at hx;cases hx),(fun p hp z=>by rw [← z,(I1.pin p hp).2.1] at hx;cases hx),dropH_same⟩
  exact ⟨x,C,nm,qn,N,bs,bm,sn,sub,ab,col,dd,k0,k1,k2,k3,k5,od,t0,rfl,I1.kIn _ _ lk,tv,ex,L pins σ _ s1 x _ od I2 our ⟨_,_,.none,ex,rfl,.inl ⟨rfl,rfl⟩⟩ q⟩
 first
  | exact wpAny_bind (wpAny_standAt (xraise (I.ok.hd hc) (wpAny_bind (wpAny_mono go (fun v s₃ h₃=>wpAny_bind (wpAny_standAt (wpAny_pure h₃))) fun _ _ z=>z))))
  | (simp only [evalOpt,Option.map];exact wpAny_bind (wpAny_standAt (xraise (I.ok.hd hc) (wpAny_bind (wpAny_mono go (fun v s₃ h₃=>wpAny_bind (wpAny_standAt (wpAny_pure h₃))) fun _ _ z=>z)))))
end
end L2
namespace L2
open PySem PySem.Spec PyProof.Rows Builtin Builtin.ObjectAttr
def sX1 (K:PySem.W.Frag) (ta tv:TE) (f:Str):TS:=fun D σ H=>tv σ H fun y H1=>ta σ H1 fun x H2=>∃ a C,x = .ref a/\H2 a = some (.ext (excP a C none))/\XCl K C/\NoAttr K C f ∧
 ∀ dx,H2 dx = none->dx ≠ a->D.nx σ (upd (upd H2 dx (.ext (dctP dx [(f,y)]))) a (.ext (excP a C (some dx))))
def sX2 (K:PySem.W.Frag) (ta tv:TE) (f:Str):TS:=fun D σ H=>tv σ H fun y H1=>ta σ H1 fun x H2=>∃ a C dx fs,x = .ref a/\H2 a = some (.ext (excP a C (some dx)))/\H2 dx = some (.ext (dctP dx fs))/\dx ≠ a/\XCl K C/\NoAttr K C f/\fs.length < 1000 ∧
 D.nx σ (upd H2 dx (.ext (dctP dx (putF f y fs))))
def tXFld (K:PySem.W.Frag) (ta:TE) (f:Str):TE:=fun σ H Q=>ta σ H fun x H1=>∃ a C dx fs v,x = .ref a/\H1 a = some (.ext (gotP a C (some dx)))/\H1 dx = some (.ext (dctP dx fs))/\XCl K C/\NoAttr K C f/\fs.lookup f = some v/\Q v H1
section
variable {X:Cx} {o e value:Expr} {f:Str} {pos pos' tpos:Pos} {ta tv:TE}
theorem ps_xset1 (ha:PE X o ta) (hv:PE X value tv) (hs:swapsWith value (some (.Attribute o f pos')) pos.line X.env = pure false):PS X (.Assign [.Attribute o f pos'] value pos) (sX1 X.K ta tv f):=by
 intro pins s σ H D I h
 refine plainObj_wpAny_Assign_Attribute (thn (hv pins s σ H _ I h) fun u s1 ⟨y,H1,I1,ry,q⟩=>thn (ha pins s1 σ H1 _ I1 q) fun ov s2 ⟨x,H2,I2,rx,a,C,ex,ea,c,n,q2⟩=>?_) hs
 subst ex
 obtain rfl:ov = Value.ref a:=rx
 obtain ⟨⟨t0,eo⟩,_⟩:=I2.hok a _ ea
 refine xput_new I2.kIn c n eo fun h' tk' g1 g2 kk=>?_
 have hd:H2 s2.heap.objs.size = none:=I2.hok.fresh (Nat.le_refl _)
 have na:s2.heap.objs.size ≠ a:=fun z=>by rw [← z,hd] at ea;cases ea
 refine ⟨σ,_,I2.xput (t':=tk') ea (Nat.le_refl _) kk (fun H'=>dctP_ok (fs:=[(f,y)]) g2 (fun g=>?_) (fun g hg=>?_)) (fun H'=>excP_ok g1),q2 _ hd na⟩
 ·by_cases z:g = f
  ·subst z
   rw [List.lookup_cons_self]
   show RelO (some y) (if g = g then some u else none)
   rw [if_pos rfl]
   exact ry
  ·have zb:(g == f) = false:=beq_eq_false_iff_ne.mpr z
   simp only [List.lookup,zb]
   show RelO none (if g = f then some u else none)
   rw [if_neg z]
   exact True.intro
 ·by_cases z:g = f
  ·subst z
   simp
  ·exact absurd (if_neg z) hg
theorem ps_xset2 (ha:PE X o ta) (hv:PE X value tv) (hs:swapsWith value (some (.Attribute o f pos')) pos.line X.env = pure false):PS X (.Assign [.Attribute o f pos'] value pos) (sX2 X.K ta tv f):=by
 intro pins s σ H D I h
 refine plainObj_wpAny_Assign_Attribute (thn (hv pins s σ H _ I h) fun u s1 ⟨y,H1,I1,ry,q⟩=>thn (ha pins s1 σ H1 _ I1 q) fun ov s2 ⟨x,H2,I2,rx,a,C,dx,fs,ex,ea,ed,ne,c,n,hl,q2⟩=>?_) hs
 subst ex
 obtain rfl:ov = Value.ref a:=rx
 obtain ⟨⟨t0,eo⟩,_⟩:=I2.hok a _ ea
 obtain ⟨⟨mA,hn,hr,wi⟩,_⟩:=I2.hok dx _ ed
 have hz:(fs.map (·.1)).length ≤ sizeLine:=by rw [List.length_map,sizeLine_eq];omega
 refine xput_old I2.kIn c n eo hn ne wi hz fun h' tk' g2 sb=>?_
 have hd:∃ o,h'.get? dx = some o:=let ⟨o,_,_,e',_⟩:=g2;⟨o,e'⟩
 refine ⟨σ,_,I2.write (t':=tk') (x:=dx) (e:=dx) (by rw [ed];exact True.intro) (.inl rfl) (fun b q hb z=>(sb.2 b hb).trans z) hd (dctP_ok g2 (fun g=>?_) (fun g hg=>?_)),q2⟩
 ·show RelO ((putF f y fs).lookup g) (if g = f then some u else mA g)
  rw [lookup_putF]
  by_cases q:g = f
  ·rw [if_pos q,if_pos q];exact ry
  ·rw [if_neg q,if_neg q];exact hr g
 ·by_cases q:g = f
  ·rw [q];exact (keys_putF f y fs).1
  ·refine (keys_putF f y fs).2 g (wi g fun z=>hg ?_)
   show (if g = f then some u else mA g) = none
   rw [if_neg q];exact z
theorem pe_xfld (he:PE X e ta) (hb:attributeBase e f X.env (eval e X.env) = eval e X.env):PE X (.Attribute e f pos) (tXFld X.K ta f):=by
 intro pins s σ H Q I h
 refine attr_of hb (thn (he pins s σ H _ I h) fun u s1 ⟨x,H1,I1,rx,a,C,dx,fs,v,ex,ea,ed,c,n,l,q⟩=>?_)
 subst ex
 obtain rfl:u = Value.ref a:=rx
 obtain ⟨⟨vs,sl,eo⟩,_⟩:=I1.hok a _ ea
 obtain ⟨⟨mA,hn,hr,wi⟩,_⟩:=I1.hok dx _ ed
 obtain ⟨u,hu,ru⟩:=RelO.some_of (v:=v) (o:=mA f) (by rw [← l];exact hr f)
 exact xget I1.kIn c n eo hn hu (handed_of ru) ⟨v,H1,I1.tok _,ru,q⟩
end
structure BIn (K:PySem.W.Frag) (B:Addr):Prop where
 sp:PySem.W.specialIn K (.ref B) "__getattribute__" = some (some (.builtin "type.__getattribute__"))
 rd:PySem.W.readsIn K B (.type "type") = true
 fc:PySem.W.findCls K (.ref B) (.type "type") "__init__" = some (.val (.builtin "ValueError.__init__"))
section
variable {prog:Program} {w:World} {A:Around} {E:Value->Shared->Prop} {h:Heap} {g:Array GenState} {d:Drawn} {t:Nat} {os:OsState}
variable {nm q:Str} {C N x t0:Addr} {bs bm:List Value} {sn:List Str} {sub:List Value} {ab:Bool} {col:Option Bool} {dd:Option Addr} {k0 k1 k2 k3 k5:Option Value}
theorem xck_init {M:Model} {oe:Obj} {rest:List Value} {Q:Unit->Shared->Prop} (tv:tailV bm = true) (hC:h.get? C = some (excClassObj nm q C N bs bm true sn sub ab col dd k0 k1 k2 k3 k5 "ValueError.__new__")) (hx:h.get? x = some oe) (hc:oe.cls = .ref C)
  (hq:Q () ⟨h,g,d,t,os⟩):wpAny M A (checkBuiltinCall "ValueError.__init__" ⟨.ref x :: rest,[]⟩) Q E ⟨h,g,d,t,os⟩:=by
 have F:=PySem.F.excBase_ValueError
 have c1:(Value.ref C :: bm).contains (.type "ValueError") = true:=by rw [List.contains_cons,tailV_has (X:="ValueError") rfl tv];rfl
 have ns:=F.noStar
 simp only [checkBuiltinCall,F.initKind,F.initSplit,F.initRow]
 repeat (first | (with_reducible refine wpAny_loadPart_at hx ?_;rw [hc]) | with_reducible refine wpAny_loadPart_at hC ?_ | (with_reducible refine wpAny_isSubtype_exc hC ?_;rw [c1]) | wp_step)
 refine wpAny_onRaise ?_
 rw [show ∀ (a b:String) (n:Nat),Bind.check ⟨.positional,"*","ValueError",.self,[⟨"args",.varPos,false⟩]⟩ a b n (List.map (fun y=>y.fst) ({ pos:=Value.ref x :: rest }:Args).kw) = pure () from fun a b n=>check_star_args _ _ _ _ _ _]
 exact wpAny_pure hq
theorem xinit {rest:List Value} {od:Option Addr} {Q:Value->Shared->Prop} (tv:tailV bm = true) (hC:h.get? C = some (excClassObj nm q C N bs bm true sn sub ab col dd k0 k1 k2 k3 k5 "ValueError.__new__")) (hx:h.get? x = some (xObj C od t0)) (hz:rest.length ≤ sizeLine)
  (hq:∀ h' t1 tk',h'.get? x = some (xObj C od t1)->(∀ b o,b ≠ x->h.get? b = some o->h'.get? b = some o)->Q .none ⟨h',g,d,tk',os⟩) :
  wpAny (model prog w) A (call (.builtin "ValueError.__init__") (.ref x :: rest)) Q E ⟨h,g,d,t,os⟩:=by
 have F:=PySem.F.excBase_ValueError
 refine wpAny_call (codeAny_call_builtin F.init.plain F.initEntry (xck_init tv hC hx rfl ?_))
 wp_walk
 refine hq _ h.objs.size _ ?_ fun b o hb e=>?_
 ·rw [Heap.get?_update_self _ (Heap.get?_push_of_some _ hx) rfl]
  rfl
 ·rw [Heap.get?_update_other _ _ (Ne.symm hb)]
  exact Heap.get?_push_of_some _ e
end
def tBIn (K:PySem.W.Frag) (t:TA):TE:=fun σ H Q=>t σ H fun vs H1=>∃ x C od rest,vs = .ref x :: rest/\H1 x = some (.ext (excP x C od))/\XCl K C/\rest.length ≤ sizeLine/\Q .non H1
theorem upd_id {H:Hp} {a:Addr} {o:HO} (h:H a = some o):upd H a o = H:=by
 funext b
 by_cases z:b = a
 ·rw [z,upd_same,h]
 ·exact upd_ne z
section
variable {X:Cx} {B:Addr} {y:Str} {p pos apos:Pos} {e:Expr} {es:List Expr} {t:TA}
theorem pe_binit {pl:Sem Bool} (hg:Gl X y) (hm:X.mg y = some (.ref B)) (b:BIn X.K B) (ha:PA X (e :: es) t) (hdb:(y == ("__debug__":Str)) = false:=by decide)
  (hst:starEach (e :: es) X.env = (false,eval e X.env) :: starEach es X.env:=by rfl) (hpl:(backTo pos (starEach es X.env)).any (·.1) = false:=by rfl)
  (ht:eval (.Call (.Attribute (.Name y p) "__init__" apos) (e :: es) [] pos) X.env = (do
   let ov ← eval (.Name y p) X.env
   standAt apos.atName
   let (f,first) ← holding [ov] (getMethod ov "__init__" pl)
   callWith pos f first (backTo pos (starEach (e :: es) X.env)) (backToKw pos (keywordEach [] X.env))):=by rfl) :
  PE X (.Call (.Attribute (.Name y p) "__init__" apos) (e :: es) [] pos) (tBIn X.K t):=by
 intro pins s σ H Q I h
 refine PySem.W.methodCall_KW (pl:=pl) (ld_glob I hg hm ?_ hdb) ht
 refine PySem.W.method_cls I.kIn b.sp (PySem.W.cls_value I.kIn b.rd b.fc rfl ?_)
 refine PyProof.Rows.callWith_builtin1 (thn (ha pos pins _ σ H _ (I.tok _) h) fun us s1 ⟨vs,H1,I1,r,x,C,od,rest,ev,hx,c,hz,q⟩=>?_) hst hpl
 subst ev
 cases r with
 | cons rx rr=>
  rename_i u us' hap
  obtain rfl:u = Value.ref x:=rx
  obtain ⟨nm,qn,N,bs,bm,sn,sub,ab,col,dd,k0,k1,k2,k3,k5,lk,tv⟩:=c.at_
  obtain ⟨⟨t0,ex⟩,_⟩:=I1.hok x _ hx
  obtain ⟨hh,g,d,tk,os⟩:=s1
  refine xinit tv (I1.kIn _ _ lk) ex (by rw [← rr.length];exact hz) fun h' t1 tk' e1 kk=>?_
  have I2:Inv X pins σ (upd H1 x (.ext (excP x C od))) ⟨h',g,d,tk',os⟩:=I1.write (t':=tk') (x:=x) (e:=x) (by rw [hx];exact True.intro) (.inl rfl) (fun b o hb z=>kk b o hb z) ⟨_,e1⟩ (excP_ok e1)
  rw [upd_id hx] at I2
  exact ⟨.non,H1,I2,rfl,q⟩
end
abbrev Cx.caught (X:Cx) (x:Addr):Cx:={ X with A:=X.A.mark (some (.ref x)),calm:=false,xe:=fun _ _=>False }
abbrev Cx.within (X:Cx) (pn:List (Addr × Obj)) (E:Value->Shared->Prop):Cx:={ X with pn:=pn,xe:=E }
section
variable {X:Cx} {pins:List (Addr × Obj)} {σ:St} {H:Hp} {s:Shared} {x:Addr} {E:Value->Shared->Prop}
theorem Inv.caught (I:Inv X pins σ H s):Inv (X.caught x) pins σ H s:=
 ⟨⟨I.ok.mod,I.ok.kind,I.ok.glob,I.ok.blt,I.ok.above,I.ok.inj,I.ok.has,I.ok.cab,fun h=>Bool.noConfusion h,I.ok.frames,I.ok.stk,I.ok.exf,I.ok.bs,I.ok.bsz,I.ok.noex,I.ok.exfs,I.ok.funs,I.ok.frf⟩,I.os,I.bare,I.base,I.loc,I.cell,I.free,I.freeC,I.pin,I.hok,I.len⟩
theorem Inv.uncaught (ok:X.Ok) (I:Inv (X.caught x) pins σ H s):Inv X pins σ H s:=⟨ok,I.os,I.bare,I.base,I.loc,I.cell,I.free,I.freeC,I.pin,I.hok,I.len⟩
theorem Inv.within (I:Inv X pins σ H s):Inv (X.within (X.pn ++ pins) E) [] σ H s:=
 ⟨⟨I.ok.mod,I.ok.kind,I.ok.glob,I.ok.blt,I.ok.above,I.ok.inj,I.ok.has,I.ok.cab,I.ok.hd,I.ok.frames,I.ok.stk,I.ok.exf,I.ok.bs,I.ok.bsz,I.ok.noex,I.ok.exfs,I.ok.funs,I.ok.frf⟩,I.os,I.bare,I.base,I.loc,I.cell,I.free,I.freeC,(by intro p hp;exact I.pin p (by simpa using hp)),I.hok,I.len⟩
theorem Inv.out {pins':List (Addr × Obj)} (ok:X.Ok) (I:Inv (X.within (X.pn ++ pins) E) pins' σ H s):Inv X pins σ H s:=⟨ok,I.os,I.bare,I.base,I.loc,I.cell,I.free,I.freeC,fun p hp=>I.pin p (List.mem_append_left _ hp),I.hok,I.len⟩
theorem SP.out {D:Ends} {f:Flow} {pins':List (Addr × Obj)} (ok:X.Ok) (h:SP (X.within (X.pn ++ pins) E) pins' D f s):SP X pins D f s:=by
 cases f with
 | next=>obtain ⟨σ',H',I,q⟩:=h;exact ⟨σ',H',I.out ok,q⟩
 | brk=>obtain ⟨σ',H',I,q⟩:=h;exact ⟨σ',H',I.out ok,q⟩
 | cont=>obtain ⟨σ',H',I,q⟩:=h;exact ⟨σ',H',I.out ok,q⟩
 | ret u=>obtain ⟨v,σ',H',I,r,q⟩:=h;exact ⟨v,σ',H',I.out ok,r,q⟩
theorem Our.out {pins':List (Addr × Obj)} {b:Addr} (o:Our (X.within (X.pn ++ pins) E) pins' H b):Our X pins H b:=⟨o.new,o.loc,o.cel,fun p hp=>o.pin p (List.mem_append_left _ hp),o.unt⟩
theorem Inv.unname {i:Nat} {n:Str} {h':Heap} {v:Option Value} {m:Str->Option Value} {t':Nat} (I:Inv X pins σ H s) (hN:X.N.Nodup) (hi:X.N[i]? = some n) (hn:h'.Ns X.env.locals (fun y=>if y = n then v else m y))
  (hm:∀ (i:Nat) (x:Str) (v:V),X.N[i]? = some x->σ[i]? = some (some v)->Vis X.env.scope x->∃ u,RelV v u/\Look X.env s.heap m x u) (sb:Heap.SameBut X.env.locals s.heap h') :
  Inv X pins (σ.set i none) H { s with heap:=h',toks:=t' }:=by
 have cne:=I.cne
 have neL:∀ b o,X.s₀.heap.get? b = some o->b ≠ X.env.locals:=fun b o e=>Nat.ne_of_lt (Nat.lt_of_lt_of_le (Heap.lt_size e) I.ok.above)
 refine ⟨I.ok,I.os,I.bare,⟨fun b o e n' hb hx=>(sb.2 b (neL b o e)).trans (I.base.keep b o e n' hb hx),fun b o e n' hb hx=>?_,I.base.free,fun b o e hx=>?_,I.base.tups,I.base.frzs,I.base.tbls⟩,⟨_,hn,fun j y w e1 e2 e3=>?_⟩,fun y c e=>?_,I.free,I.freeC,fun p hp=>?_,fun b ob e=>?_,by simpa using I.len⟩
 ·obtain ⟨sl,e1⟩:=I.base.slot b o e n' hb hx
  exact ⟨sl,(sb.2 b (neL b o e)).trans e1⟩
 ·obtain ⟨o',e1⟩:=I.base.there b o e hx
  exact ⟨o',(sb.2 b (neL b o e)).trans e1⟩
 ·by_cases hj:j = i
  ·subst hj
   have:(σ.set j none)[j]? = some (some w):=e2
   rw [List.getElem?_set] at this
   simp at this
  ·rw [List.getElem?_set_ne (Ne.symm hj)] at e2
   obtain ⟨u,r,q⟩:=hm j y w e1 e2 e3
   refine ⟨u,r,?_⟩
   rcases q with ⟨k,e⟩ | ⟨k,c,e,z⟩
   ·refine .inl ⟨k,?_⟩
    have:y ≠ n:=fun e=>hj (nodup_ix hN e1 (e ▸ hi))
    show (if y = n then v else m y) = some u
    rw [if_neg this]
    exact e
   ·exact .inr ⟨k,c,e,z.sameBut sb (cne y c e)⟩
 ·obtain ⟨w',z⟩:=I.cell y c e
  exact ⟨w',z.sameBut sb (cne y c e)⟩
 ·obtain ⟨e,n',ne,nf,d⟩:=I.pin p hp
  exact ⟨(sb.2 p.1 ne).trans e,n',ne,nf,d⟩
 ·refine (I.hok b ob e).stay (fun c w' hc q=>(sb.2 c ?_).trans q) (fun _ q=>q) fun _ _ q=>q
  rintro rfl
  rcases hc with rfl | hc
  ·rw [I.free] at e;cases e
  ·rw [I.free] at hc;cases hc
end
def offName (i:Nat) (D:Ends):Ends:={ nx:=fun σ' H'=>D.nx (σ'.set i none) H',rt:=D.rt,bk:=fun σ' H'=>D.bk (σ'.set i none) H',ct:=fun σ' H'=>D.ct (σ'.set i none) H' }
def EXh (CN:Addr) (i:Nat) (ts:Addr->TS) (D:Ends):XS:=fun C od σ H=>C = .ref CN/\∀ x,H x = none->ts x (offName i D) (σ.set i (some (.ref x))) (upd H x (.ext (gotP x CN od)))
def tTry (tb:Ends->TS):TS:=fun D σ H=>tb D D σ H
section
variable {X:Cx} {body:List Stmt} {cx n:Str} {b₀:Stmt} {suite:List Stmt} {np hp pos:Pos} {CN:Addr} {i:Nat} {tb:Ends->TS} {ts:Addr->TS}
end
end L2
namespace L2
open PySem PySem.Spec PyProof.Rows Builtin Builtin.ObjectAttr
section
variable {prog:Program} {w:World} {A:Around} {E:Value->Shared->Prop} {h:Heap} {g:Array GenState} {d:Drawn} {t:Nat} {os:OsState}
variable {nm q:Str} {C N:Addr} {bs bm:List Value} {sn:List Str} {sub:List Value} {ab:Bool} {col:Option Bool} {dd:Option Addr} {k0 k1 k2 k3 k5:Option Value}
theorem xtype_callB {rest:List Value} {Q:Fin->Shared->Prop} (tv:tailV bm = true) (hC:h.get? C = some (excClassObj nm q C N bs bm true sn sub ab col dd k0 k1 k2 k3 k5 "ValueError.__new__"))
  (hi:PySem.W.Looks (model prog w) h (typeLookup (.ref C) "__init__") (some (.builtin "ValueError.__init__"))) (hrest:rest.length ≤ sizeLine)
  (hq:∀ h' t1 tk',h'.get? (h.objs.size + 1) = some (xObj C none t1)->(∀ b o,h.get? b = some o->h'.get? b = some o)->Q (.done (.ret (.ref (h.objs.size + 1)))) ⟨h',g,d,tk',os⟩) :
  wpAny (model prog w) A (Builtin.«type.__call__» ⟨.ref C :: rest,[]⟩) Q E ⟨h,g,d,t,os⟩:=by
 have F:=PySem.F.excBase_ValueError
 repeat (first | with_reducible refine wpAny_loadPart_at hC ?_ | with_reducible refine wpAny_madeBy_exc hC ?_ | wp_step)
 refine codeAny_call_builtin_code (Code.quiet_builtin _ F.quiet) (xck_new tv hC ?_)
 refine xnew tv hC ?_ hrest
 show wpAny _ _ _ _ _ _
 have kp:∀ b o,h.get? b = some o->((h.push (xTup rest)).push (xObj C none h.objs.size)).get? b = some o:=fun b o e=>Heap.get?_push_of_some _ (Heap.get?_push_of_some _ e)
 have hg2:((h.push (xTup rest)).push (xObj C none h.objs.size)).get? (h.objs.size + 1) = some (xObj C none h.objs.size):=by
  have:=Heap.get?_push_size (h.push (xTup rest)) (o:=xObj C none h.objs.size) rfl
  rwa [Heap.size_push] at this
 have hcC:(Value.ref C :: bm).contains (.ref C) = true:=by simp
 unfold isInstance
 repeat (first | with_reducible refine wpAny_loadPart_at hg2 ?_ | (with_reducible refine wpAny_isSubtype_exc (kp _ _ hC) ?_;rw [hcC]) | wp_step)
 show wpAny _ _ (typeLookup (.ref C) _) _ _ _
 refine hi _ _ _ _ kp ?_
 refine wpAny_holding (wpAny_bind (wpAny_of_eq (F.init.bind _) ?_))
 refine wpAny_bind (xinit tv (kp _ _ hC) hg2 hrest fun h' t1 tk' e1 kk=>?_)
 wp_walk
 exact hq h' t1 _ e1 fun b o e=>kk b o (Nat.ne_of_lt (Nat.lt_succ_of_lt (Heap.lt_size e))) (kp b o e)
theorem xcallB {rest:List Value} {Q:Value->Shared->Prop} (tv:tailV bm = true) (hC:h.get? C = some (excClassObj nm q C N bs bm true sn sub ab col dd k0 k1 k2 k3 k5 "ValueError.__new__"))
  (hi:PySem.W.Looks (model prog w) h (typeLookup (.ref C) "__init__") (some (.builtin "ValueError.__init__"))) (hrest:rest.length ≤ sizeLine)
  (hq:∀ h' t1 tk',h'.get? (h.objs.size + 1) = some (xObj C none t1)->(∀ b o,h.get? b = some o->h'.get? b = some o)->Q (.ref (h.objs.size + 1)) ⟨h',g,d,tk',os⟩) :
  wpAny (model prog w) A (call (.ref C) rest) Q E ⟨h,g,d,t,os⟩:=by
 have f1:=tc_lookup
 have f2:=tc_bind (.ref C)
 have hT:(⟨h,g,d,t,os⟩:Shared).TypeIs (.ref C) "type":=⟨_,hC,rfl⟩
 refine wpAny_call (codeAny_of_tree ?_)
 show wpAny _ _ (callAny (.ref C) _) _ _ _
 repeat (any_goals (first | assumption | with_reducible refine wpAny_loadPart_at hC ?_ | wp_step))
 refine ⟨rfl,?_⟩
 exact codeAny_call_builtin_at (Code.quiet_builtin _ (by decide +kernel)) entry_typeCall (wpAny_check_type_call_sub hC (xtype_callB tv hC hi hrest hq))
end
structure XMkB (K:PySem.W.Frag) (C:Addr):Prop where
 cl:XCl K C
 init:PySem.W.findIn K (.ref C) "__init__" = some (some (.builtin "ValueError.__init__"))
def tXMakeB (n:Nat) (C:Addr) (t:TA):TE:=fun σ H Q=>t σ H fun vs H1=>vs.length ≤ sizeLine/\∀ x,n ≤ x->H1 x = none->Q (.ref x) (upd H1 x (.ext (excP x C none)))
section
variable {X:Cx} {C:Addr} {x:Str} {p pos:Pos} {e:Expr} {es:List Expr} {t:TA}
theorem run_xmakeB {pins:List (Addr × Obj)} {σ:St} {H:Hp} {s:Shared} {Q:VK} {us:List Value} {vs:List V} (M:XMkB X.K C)
  (I:Inv X pins σ H s) (r:Vals vs us) (hz:vs.length ≤ sizeLine) (h:∀ x,X.s₀.heap.objs.size ≤ x->H x = none->Q (.ref x) (upd H x (.ext (excP x C none)))) :
  wpAny (model X.prog X.w) X.A (call (.ref C) us) (EP X pins σ Q) X.xe s:=by
 obtain ⟨nm,q,N,bs,bm,sn,sub,ab,col,dd,k0,k1,k2,k3,k5,lk,tv⟩:=M.cl.at_
 have hq:=h (s.heap.objs.size + 1) (Nat.le_succ_of_le I.sz) (I.hok.fresh (Nat.le_succ _))
 obtain ⟨hh,g,d,tk,os⟩:=s
 refine xcallB tv (I.kIn _ _ lk) (PySem.W.looks_findIn I.kIn M.init) (by rw [← r.length];exact hz) fun h' t1 tk' e1 kk=>?_
 exact ⟨V.ref (hh.objs.size + 1),_,I.laid (a:=hh.objs.size + 1) (t':=tk') kk (Nat.le_succ _) (excP_ok e1),rfl,hq⟩
theorem pe_xmakeB (M:XMkB X.K C) (hg:Gl X x) (hm:X.mg x = some (.ref C)) (ha:PA X (e :: es) t) (hdb:(x == ("__debug__":Str)) = false:=by decide)
  (he:starEach (e :: es) X.env = (false,eval e X.env) :: starEach es X.env:=by rfl) (hpl:(backTo pos (starEach es X.env)).any (·.1) = false:=by rfl) :
  PE X (.Call (.Name x p) (e :: es) [] pos) (tXMakeB X.s₀.heap.objs.size C t):=by
 intro pins s σ H Q I h
 refine wpAny_Call_Name_kw (ld_glob I hg hm ?_ hdb)
 refine PySem.W.callWith_K (h₀:=X.base) I.ok.mod.kin M.cl.kp (thn (ha pos pins s σ H _ I h) fun us s1 ⟨vs,H1,I1,r,q⟩=>⟨I1.kIn,?_⟩) he hpl
 exact run_xmakeB M I1 r q.1 q.2
end
end L2
namespace L2
open PySem PySem.Spec PyProof.Rows Builtin Builtin.ObjectAttr
structure XIs (K:PySem.W.Frag) (C:Addr):Prop where
 cl:XCl K C
 ha:PySem.W.findIn K (.ref C) "__class__" = some (some (.builtin "object.__class__"))
 hn:PySem.W.specialIn K (.builtin "object.__class__") "__get__" = some (some (.builtin "getset_descriptor.__get__"))
 htk:PySem.W.takesIn K (.builtin "object.__class__") = some true
section
variable {prog:Program} {w:World} {A:Around} {E:Value->Shared->Prop} {s:Shared} {K:PySem.W.Frag} {x C:Addr} {ox:Obj} {od:Option Obj}
theorem xmro (c:XCl K C) (T:String) (b:Bool) (hb:bmV.contains (.type T) = b):PySem.W.mroIn K C (.type T) = some b:=by
 obtain ⟨cd,bm,hc,hm,tv,hd⟩:=c.cls
 unfold PySem.W.mroIn
 rw [hc,Option.bind_some,hm]
 show some (List.contains _ _) = _
 rw [List.contains_cons,tailV_has (X:=T) hb tv]
 rfl
theorem xclass {Q:Option Value->Shared->Prop} (Xk:K.In s.heap) (c:XIs K C) (J:PySem.W.InstAt s.heap x ox C od) (hq:Q (some (.ref C)) { s with toks:=s.toks + 1 }):wpAny (model prog w) A (getAttr? (.ref x) "__class__") Q E s:=by
 obtain ⟨h,g,d,t,os⟩:=s
 obtain ⟨cd,bm,hc,hm,tv,hd⟩:=c.cl.cls
 have hf:PySem.W.findObj K C od "__class__" = some (.bind (.builtin "getset_descriptor.__get__") (.builtin "object.__class__")):=by
  unfold PySem.W.findObj
  rw [hc,Option.bind_some,c.ha,Option.bind_some]
  simp [c.hn,c.htk]
 have FX:=PySem.F.attr_ValueError
 have L0:=J.type (M:=model prog w)
 have L1:=PySem.W.looks_find (M:=model prog w) Xk J hf
 have sub:PySem.W.Looks (model prog w) h (isInstance (.ref x) (.type "BaseException")) true:=L0.andThen (PySem.W.looks_mroIn Xk (xmro c.cl "BaseException" true rfl))
 have nq:(onTheHeap (Value.ref C) && Value.builtin "BaseException.__getattribute__" == Value.builtin "object.__getattribute__") = false:=by
  rw [show (Value.builtin "BaseException.__getattribute__" == Value.builtin "object.__getattribute__") = false from by decide +kernel,Bool.and_false]
 unfold getAttr? getAttrBy? getAttrBy
 refine wpAny_bind (wpAny_mkText (wpAny_bind (wpAny_attempt (wpAny_holding (wpAny_bind (L0.at (wpAny_bind ((PySem.W.looks_findIn (M:=model prog w) Xk c.cl.ga).at ?_))))))))
 show wpAny _ _ (if _ = true then _ else _) _ _ _
 rw [nq,if_neg (by decide)]
 unfold getAttrByItsOwn hookBefore
 refine wpAny_bind (PySem.W.Looks.at (t:=if onTheHeap (Value.ref C) = true then typeLookup (.ref C) "__getattr__" else pure none) (r:=none) (PySem.W.looks_findIn (M:=model prog w) Xk c.cl.gx) (wpAny_bind (wpAny_attempt (wpAny_holding ?_))))
 unfold callGetattribute
 rw [show (false && onTheHeap (Value.builtin "BaseException.__getattribute__")) = false from rfl,if_neg (by decide)]
 unfold boundAndCalled
 rw [FX.ga.bind]
 refine wpAny_bind (wpAny_pure ?_)
 show wpAny _ _ (call (.builtin "BaseException.__getattribute__") [.ref x,.str "__class__" t]) _ _ _
 refine wpAny_call ?_
 refine codeAny_call_builtin FX.ga.plain PySem.F.entry_bexc_ga ?_
 refine @PySem.W.check_slot (model prog w) _ _ ⟨h,g,d,t + 1,os⟩ "BaseException.__getattribute__" "BaseException" "__getattribute__" (.ref x) [.str "__class__" t] [] _ (by decide +kernel) (by decide +kernel) sub (PySem.F.args_bexc_ga (.ref x) (.str "__class__" t)) ?_
 unfold Builtin.«object.__getattribute__»
 refine wpAny_bind (wpAny_pure (wpAny_bind (wpAny_pure (wpAny_bind (L0.at (wpAny_bind (L1.at ?_)))))))
 show wpAny _ _ (holding [Value.builtin "object.__class__"] (call (.builtin "getset_descriptor.__get__") [.builtin "object.__class__",.ref x,.ref C]) >>= ret) _ _ _
 refine wpAny_bind (wpAny_holding (wpAny_call (PySem.W.class_get (s:=⟨h,g,d,t + 1,os⟩) (ox:=ox) (od:=od) Xk J (xmro c.cl "object" true rfl) ?_)))
 refine wpAny_pure ?_
 show wpAny _ _ (handedOut (.ref C)) _ _ _
 exact PySem.W.handed_on rfl (wpAny_pure hq)
theorem kitx_exc (c:XIs K C):PySem.W.KitX K (.ref x) (.ref C) (fun h=>PySem.W.InstAt h x ox C od) where
 ty:=fun _ _ _ I=>I.type
 it:=fun _ _ Xk _=>by
  obtain ⟨cd,bm,hc,hm,tv,hd⟩:=c.cl.cls
  unfold PySem.W.clsIn at hc
  split at hc
  ·rename_i c' d' cd' sl' ho
   intro A' Q' E' s' k q
   unfold isType loadHead
   exact wpAny_bind (wpAny_loadPart (k _ _ (Xk _ _ ho)) (wpAny_pure q))
  ·cases hc
 ne:=fun h tp dd its n sl Xk htp=>by
  obtain ⟨cd,bm,hc,hm,tv,hd⟩:=c.cl.cls
  refine Bool.eq_false_iff.mpr fun q=>?_
  have e:C = tp:=Value.ref.inj (beq_iff_eq.mp q)
  subst e
  unfold PySem.W.clsIn at hc
  split at hc
  ·rename_i c' d' cd' sl' ho
   have z:=(Xk _ _ ho).symm.trans htp
   cases z
  ·cases hc
 ca:=fun Xk I k=>xclass Xk c I k
end
section
variable {X:Cx} {pins:List (Addr × Obj)} {σ:St} {H:Hp} {s:Shared} {a C:Addr} {od:Option Addr}
theorem Inv.gotAt (I:Inv X pins σ H s) (ea:H a = some (.ext (gotP a C od))) (ed:∀ dx,od = some dx->∃ fs,H dx = some (.ext (dctP dx fs))):∃ ox o,PySem.W.InstAt s.heap a ox C o:=by
 obtain ⟨⟨vs,sl,eo⟩,_⟩:=I.hok a _ ea
 cases od with
 | none=>exact ⟨_,none,eo,rfl,rfl,trivial⟩
 | some dx=>
  obtain ⟨fs,e⟩:=ed dx rfl
  obtain ⟨_,⟨ob,e2⟩,_⟩:=I.hok dx _ e
  exact ⟨_,some ob,eo,rfl,rfl,e2⟩
theorem call_isX:CallR X (.builtin "isinstance") (fun xs H Q=>∃ a C od x b,xs = [.ref a,x]/\H a = some (.ext (gotP a C od))/\(∀ dx,od = some dx->∃ fs,H dx = some (.ext (dctP dx fs)))/\XIs X.K C ∧
  (∀ u,RelV x u->PySem.W.kitOne X.K (.ref C) u = some b)/\Q (.bl b) H):=by
 intro pins s σ H xs us Q I r h
 obtain ⟨a,C,od,x,b,rfl,ea,ed,c,e,q⟩:=h
 obtain ⟨u,w',rfl,rx,rc⟩:=vals2 r
 cases (show u = Value.ref a from rx)
 obtain ⟨ox,o,J⟩:=I.gotAt ea ed
 exact PySem.W.kia_one (kitx_exc c) I.kIn J (e w' rc) (fun z=>nomatch z) fun tk=>⟨.bl b,H,I.tok tk,rfl,q⟩
theorem call_isXT:CallR X (.builtin "isinstance") (fun xs H Q=>∃ a C od p cs b,xs = [.ref a,.ref p]/\H a = some (.ext (gotP a C od))/\(∀ dx,od = some dx->∃ fs,H dx = some (.ext (dctP dx fs)))/\XIs X.K C/\SqT X.K H p cs ∧
  (∀ us,Vals cs us->PySem.W.kitAny X.K (.ref C) us = some b)/\Q (.bl b) H):=by
 intro pins s σ H xs us Q I r h
 obtain ⟨a,C,od,p,cs,b,rfl,ea,ed,c,hp,e,q⟩:=h
 obtain ⟨u,w',rfl,rx,rc⟩:=vals2 r
 cases (show u = Value.ref a from rx)
 cases (show w' = Value.ref p from rc)
 obtain ⟨ox,o,J⟩:=I.gotAt ea ed
 obtain ⟨its,r',⟨ot,ho,hc,n,hd⟩,_⟩:=I.tuple hp
 obtain ⟨c0,d0,dt0,sl0⟩:=ot
 simp only at hc hd
 subst hc hd
 exact PySem.W.kia_tup (kitx_exc c) I.kIn J ho (e its r') (fun z=>nomatch z) fun tk=>⟨.bl b,H,I.tok tk,rfl,q⟩
end
section
variable {M:Model} {A:Around} {E:Value->Shared->Prop} {h:Heap} {g:Array GenState} {d:Drawn} {t:Nat} {os:OsState}
variable {nm q:Str} {C N:Addr} {bs bm:List Value} {sn:List Str} {sub:List Value} {ab:Bool} {col:Option Bool} {dd:Option Addr} {k0 k1 k2 k3 k5:Option Value}
variable {nm' q':Str} {D N':Addr} {bs' bm':List Value} {sn':List Str} {sub':List Value} {ab':Bool} {col':Option Bool} {dd':Option Addr} {j0 j1 j2 j3 j5:Option Value}
theorem xmatch {e:Addr} {oe:Obj} {b:Bool} {Q:Bool->Shared->Prop} (hC:h.get? C = some (excClassObj nm q C N bs bm true sn sub ab col dd k0 k1 k2 k3 k5 "ValueError.__new__"))
  (hD:h.get? D = some (excClassObj nm' q' D N' bs' bm' true sn' sub' ab' col' dd' j0 j1 j2 j3 j5 "ValueError.__new__")) (tD:tailV bm' = true) (he:h.get? e = some oe) (hcls:oe.cls = .ref C)
  (hb:(Value.ref C :: bm).contains (.ref D) = b) (hq:Q b ⟨h,g,d,t,os⟩):wpAny M A (excMatches (.ref e) (.ref D)) Q E ⟨h,g,d,t,os⟩:=by
 have hcB:(Value.ref D :: bm').contains (.type "BaseException") = true:=by rw [List.contains_cons,tailV_has (X:="BaseException") rfl tD];rfl
 have f:=tc_notTuple
 unfold excMatches
 repeat (first | (with_reducible refine wpAny_loadPart_at he ?_;rw [hcls]) | with_reducible refine wpAny_loadPart_at hD ?_ | (with_reducible refine wpAny_isSubtype_exc hD ?_;rw [hcB]) | (with_reducible refine wpAny_isSubtype_exc hC ?_;rw [hb]) | wp_step)
 cases b <;> (wp_walk;exact hq)
end
def Under (K:PySem.W.Frag) (C D:Addr):Prop:=XCl K C/\PySem.W.mroIn K C (.ref D) = some true
theorem Under.has {K:PySem.W.Frag} {C D:Addr} (u:Under K C D) {nm q:Str} {N:Addr} {bs bm:List Value} {sn:List Str} {sub:List Value} {ab:Bool} {col:Option Bool} {dd:Option Addr} {k0 k1 k2 k3 k5:Option Value}
  (lk:K.lookup C = some (excClassObj nm q C N bs bm true sn sub ab col dd k0 k1 k2 k3 k5 "ValueError.__new__")):(Value.ref C :: bm).contains (.ref D) = true:=by
 have e:PySem.W.clsIn K C = some ⟨nm,bs,.ref C :: bm,N,q,true,sn,sub,ab,col,false⟩:=by
  unfold PySem.W.clsIn
  rw [lk]
 have h:=u.2
 unfold PySem.W.mroIn at h
 rw [e,Option.bind_some] at h
 exact Option.some.inj h
def EXu (K:PySem.W.Frag) (CN:Addr) (i:Nat) (ts:Addr->Addr->TS) (D:Ends):XS:=fun C od σ H=>∃ Cx,C = .ref Cx/\Under K Cx CN/\∀ x,H x = none->ts x Cx (offName i D) (σ.set i (some (.ref x))) (upd H x (.ext (gotP x Cx od)))
def EXn (K:PySem.W.Frag) (CN:Addr) (ts:Addr->TS) (D:Ends):XS:=fun C od σ H=>∃ Cx,C = .ref Cx/\Under K Cx CN/\∀ x,H x = none->ts x D σ (upd H x (.ext (gotP x Cx od)))
section
variable {X:Cx} {body:List Stmt} {cx n:Str} {b₀:Stmt} {suite:List Stmt} {np hp pos:Pos} {CN:Addr} {i:Nat} {tb:Ends->TS} {tc:Addr->Addr->TS} {ts:Addr->TS}
theorem ps_tryU (hst:X.stack = X.env :: X.outer) (hfr:X.env.frame = some X.env.locals) (hN:X.N.Nodup) (hi:X.N[i]? = some n) (hk:X.env.scope.names.lookup n = some .local) (hg:Gl X cx) (hm:X.mg cx = some (.ref CN)) (c:XCl X.K CN)
  (hb:∀ D pn XE,Lands (X.within pn XE) (EXu X.K CN i tc D)->PSs (X.within pn XE) body (tb D)) (hs:∀ x C,PSs (X.caught x) (b₀ :: suite) (tc x C)) (hdb:(cx == ("__debug__":Str)) = false:=by decide) :
  PS X (.Try body [.ExceptHandler (some (.Name cx np)) (some n) (b₀ :: suite) hp] [] [] pos) (tTry tb):=by
 intro pins s σ H D I h
 refine wpAny_Try_except ?_
 refine wpAny_mono (hb D (X.pn ++ pins) (fun e s₁=>wpAny (model X.prog X.w) X.A (noteFrame e X.env) (fun _ s₂=>wpAny (model X.prog X.w) X.A (setFlight e none) (fun _ s₃=>wpAny (model X.prog X.w) X.A (handleBy e X.env [.ExceptHandler (some (.Name cx np)) (some n) (b₀ :: suite) hp]) (SP X pins D) X.xe s₃) X.xe s₂) X.xe s₁) ?_ [] s σ H D I.within h) (fun f s₁ hf=>?_) fun e s₁ z=>z
 ·intro pins' σ1 H1 s1 x C od I1' hx' xa' q
  have I1:Inv X pins σ1 H1 s1:=I1'.out I.ok
  have hx:Our X pins H1 x:=hx'.out
  have xa:XAt s1.heap (Our X pins H1) x C od .none:=xa'.imp fun _ o=>o.out
  obtain ⟨Cx,rfl,un,q⟩:=q
  have hfl:X.A.frames = some (X.env :: X.outer):=by rw [I.ok.frames,hst]
  have frn:∀ {s':Shared} {σ':St} {H':Hp},Inv X pins σ' H' s'->∀ b o,s'.heap.get? b = some o->b ∈ frs X.stack->∀ vs,o.data ≠ .fields vs:=fun {s' σ' H'} J b o e hb=>by
   obtain ⟨_,o',ho',hn⟩:=J.stack.mem hb
   rw [e] at ho'
   cases ho'
   exact hn
  refine note_ok (base:=X.base) hfl (by rw [← hst];exact I1.stack) hfr xa (fun T hT=>I1.our hT) fun h1 n1 xa1=>?_
  have I2:=I1.noted hx (by rw [hst];exact n1)
  refine land_ok (s:={ s1 with heap:=h1 }) (fr:=frs X.stack) xa1 (frn I2) fun h2 n2 xa2=>?_
  have I3:=I2.noted hx n2
  obtain ⟨nm,qn,N,bs,bm,sn,sub,ab,col,dd,k0,k1,k2,k3,k5,lk,tv⟩:=c.at_
  obtain ⟨nm',qn',N',bs',bm',sn',sub',ab',col',dd',j0,j1,j2,j3,j5,lk',tv'⟩:=un.1.at_
  refine wpAny_handleBy_cons (codeAny_handlers_test ?_) (by intro q;cases q)
  refine ld_glob (X:=X.caught x) I3.caught hg hm ?_ hdb
  obtain ⟨vs,sl,v1,ex,ev1,tb2⟩:=id xa2
  refine xmatch (g:=s1.gens) (d:=s1.drawn) (t:=s1.toks) (os:=s1.os) (I3.kIn _ _ lk') (I3.kIn _ _ lk) tv ex rfl (un.has lk') ?_
  refine codeAny_handlers_suite_as ?_
  refine land_ok (s:={ s1 with heap:=h2 }) (fr:=frs X.stack) xa2 (frn I3) fun h3 n3 xa3=>?_
  have I4:=I3.noted hx n3
  obtain ⟨vs3,sl3,v3,ex3,_,_⟩:=id xa3
  have I5:Inv X pins σ1 (upd H1 x (.ext (gotP x Cx od))) { s1 with heap:=h3 }:=I4.track hx (gotP_ok ex3)
  refine store_ok (X:=X.caught x) I5.caught hN hi (.inl hk) (show RelV (.ref x) (.ref x) from rfl) (fun s6 I6=>?_) (.inr hk)
  refine wpAny_mono (hs x Cx pins s6 _ _ (offName i D) I6 (q x hx.unt)) (fun f s7 hf=>?_) fun _ _ z=>False.elim z
  have fin:∀ {σ':St} {H':Hp} {Q:Unit->Shared->Prop},Inv (X.caught x) pins σ' H' s7->(∀ s',Inv X pins (σ'.set i none) H' s'->Q () s')->wpAny (model X.prog X.w) X.A (do bindName X.env n .none;unbindBehindTheSuite X.env n hp) Q X.xe s7:=fun {σ' H' Q} J kq=>by
   have J':Inv X pins σ' H' s7:=J.uncaught I.ok
   obtain ⟨m,hmn,hml⟩:=id J'.loc
   exact wpAny_nameGoes_keeps hk hmn (by rw [I.ok.kind];rfl) fun h' v hn' sb=>kq _ (J'.unname hN hi hn' hml sb)
  cases f with
  | next=>obtain ⟨σ',H',J,z⟩:=hf;exact fin J fun s' J'=>⟨_,H',J',z⟩
  | brk=>obtain ⟨σ',H',J,z⟩:=hf;exact fin J fun s' J'=>⟨_,H',J',z⟩
  | cont=>obtain ⟨σ',H',J,z⟩:=hf;exact fin J fun s' J'=>⟨_,H',J',z⟩
  | ret u=>obtain ⟨v,σ',H',J,r,z⟩:=hf;exact fin J fun s' J'=>⟨v,_,H',J',r,z⟩
 ·have hf':=hf.out I.ok
  cases f with
  | next=>exact wpAny_pure hf'
  | brk=>exact hf'
  | cont=>exact hf'
  | ret u=>exact hf'
end
end L2
namespace L2
open PySem PySem.Spec PyProof.Rows
section
variable {X:Cx}
def KTab (K:PySem.W.Frag) (a:Addr) (D:List (Str × KTD.Dat)):Prop:=KTD.tabLook (KTD.datLooks fun a=>List.lookup a K) (fun a=>List.lookup a K) a D = true
variable {n:Nat}
def tRep (y z:Str) (to:TE):TE:=fun σ H Q=>to σ H fun x H1=>∃ w,x = .str w/\w.length ≤ 1048576/\Q (.str (Txt.replace w y z)) H1
def PT1 (X:Cx) (e:Expr) (t:TT):Prop:=
 ∀ (pins:List (Addr × Obj)) (s:Shared) (σ:St) (H:Hp) (Q:Bool->Hp->Prop),Inv X pins σ H s->t σ H Q->wpAny (model X.prog X.w) X.A (isTrue e X.env (eval e X.env)) (fun b s'=>1 ≤ s'.toks/\TP X pins σ Q b s') X.xe s
end
end L2
namespace L2
open PySem
section
variable {prog:Program} {w:World} {A:Around} {E:Value->Shared->Prop} {s:Shared}
theorem nextT_item {it t:Addr} {i:Nat} {xs:Array Value} {x:Value} {Q:Value->Shared->Prop} (hi:s.heap.IsTupleIter it t i) (ht:s.heap.IsTuple t xs) (hx:xs[i]? = some x)
  (hQ:∀ h',h'.IsTupleIter it t (i + 1)->Heap.SameBut it s.heap h'->Q x { s with heap:=h' }):wpAny (model prog w) A (Builtin.SmallTypes.nextOf (.ref it)) Q E s:=by
 obtain ⟨o,ho,hc,hd⟩:=id hi
 obtain ⟨ot,hot,_,nt,hdt⟩:=ht
 unfold Builtin.SmallTypes.nextOf
 refine wpAny_bind (wpAny_callSpecial?_slot (name:=Str.ofString "__next__") hi.typeIs F.slot_tuple_iterator_next (wpAny_call_entry F.slot_tuple_iterator_next hi.typeIs F.entry_tuple_iterator_next ?_ (F.args_tuple_iterator_next_1 _)))
 show wpAny _ _ (field (.ref it) 0 >>= _) _ _ s
 refine wpAny_bind (wpAny_field ho hd (x:=.ref t) rfl ?_)
 show wpAny _ _ (if (Value.ref t == Value.none) = true then _ else _) _ _ s
 rw [if_neg (show ¬ ((Value.ref t == Value.none) = true) from Bool.false_ne_true)]
 show wpAny _ _ (field (.ref it) 1 >>= _) _ _ s
 refine wpAny_bind (wpAny_field ho hd (x:=.int i 0) rfl ?_)
 show wpAny _ _ (seqItems? (.ref t) >>= _) _ _ s
 refine wpAny_bind (wpAny_seqItems hot hdt ?_)
 simp only [Int.toNat_natCast,hx]
 refine wpAny_bind (wpAny_setField ho hd (by simp) (wpAny_pure ⟨x,rfl,wpAny_pure (hQ _ ⟨_,Heap.get?_update_self _ ho (Obj.isFreed_of_fields (Obj.data_mapFields hd _)),(Obj.cls_mapFields ..).trans hc,?_⟩ (Heap.SameBut.update ..))⟩))
 rw [Obj.data_mapFields hd]
 simp [rawInt]
theorem nextT_end {it t:Addr} {i:Nat} {xs:Array Value} {Q:Value->Shared->Prop} (hh:A.handled = none) (hi:s.heap.IsTupleIter it t i) (ht:s.heap.IsTuple t xs) (hx:xs[i]? = none)
  (hE:∀ h' e,Heap.ExtBut it s.heap h'->(∃ o,h'.get? e = some o/\o.cls = .type "StopIteration")->E (.ref e) { s with heap:=h' }):wpAny (model prog w) A (Builtin.SmallTypes.nextOf (.ref it)) Q E s:=by
 obtain ⟨o,ho,hc,hd⟩:=id hi
 obtain ⟨ot,hot,_,nt,hdt⟩:=ht
 unfold Builtin.SmallTypes.nextOf
 refine wpAny_bind (wpAny_callSpecial?_slot (name:=Str.ofString "__next__") hi.typeIs F.slot_tuple_iterator_next (wpAny_call_entry F.slot_tuple_iterator_next hi.typeIs F.entry_tuple_iterator_next ?_ (F.args_tuple_iterator_next_1 _)))
 show wpAny _ _ (field (.ref it) 0 >>= _) _ _ s
 refine wpAny_bind (wpAny_field ho hd (x:=.ref t) rfl ?_)
 show wpAny _ _ (if (Value.ref t == Value.none) = true then _ else _) _ _ s
 rw [if_neg (show ¬ ((Value.ref t == Value.none) = true) from Bool.false_ne_true)]
 show wpAny _ _ (field (.ref it) 1 >>= _) _ _ s
 refine wpAny_bind (wpAny_field ho hd (x:=.int i 0) rfl ?_)
 show wpAny _ _ (seqItems? (.ref t) >>= _) _ _ s
 refine wpAny_bind (wpAny_seqItems hot hdt ?_)
 simp only [Int.toNat_natCast,hx]
 refine wpAny_bind (wpAny_rule (wpAny_bind (wpAny_setField ho hd (by simp) ?_)))
 show wpAny _ _ (newExc (.type "StopIteration") [] >>= _) _ _ _
 refine wpAny_bind ?_
 simp only [newExc,newTuple]
 refine wpAny_bind (wpAny_newObj_type ?_ (by size_fits))
 refine wpAny_bind (m:=firstArgMember _ _) (wpAny_of_eq (a:=Value.none) (by first | rfl | (simp only [firstArgMember];rfl)) ?_)
 refine wpAny_newObj_type ?_ (by size_fits)
 simp only [raiseNew]
 refine wpAny_bind (wpAny_handled ?_)
 first | rw [show A.in1.handled = none from hh] | rw [hh]
 refine wpAny_bind (wpAny_pure (wpAny_throw ?_))
 exact hE _ _ (((Heap.SameBut.update ..).extBut.push _).push _) ⟨_,Heap.get?_push_size _ rfl,rfl⟩
structure ZT (h:Heap) (z TI TO i1 i2 t1 t2:Addr) (k:Nat) (xs ys:Array Value) (f0:Value):Prop where
 zp:IsZip h z TI TO f0
 ti:IsPair h TI (.ref i1) (.ref i2)
 to:∃ a b,IsPair h TO a b
 j1:h.IsTupleIter i1 t1 k
 j2:h.IsTupleIter i2 t2 k
 l1:h.IsTuple t1 xs
 l2:h.IsTuple t2 ys
theorem zipT_item {z TI TO i1 i2 t1 t2:Addr} {k:Nat} {xs ys:Array Value} {x y:Value} {Q:Value->Shared->Prop} (D:ZipApart z TI TO i1 i2 t1 t2) (Z:ZT s.heap z TI TO i1 i2 t1 t2 k xs ys .none) (hx:xs[k]? = some x) (hy:ys[k]? = some y)
  (hQ:∀ h',ZT h' z TI TO i1 i2 t1 t2 (k + 1) xs ys (rawInt s.heap.objs.size)->IsPair h' s.heap.objs.size x y->h'.objs.size = s.heap.objs.size + 1->(∀ c o,c ≠ z->c ≠ TO->c ≠ i1->c ≠ i2->s.heap.get? c = some o->h'.get? c = some o)->Q (.ref s.heap.objs.size) { s with heap:=h' }) :
  wpAny (model prog w) A (Builtin.«zip.__next__» ⟨[.ref z],[]⟩) (fun fin s'=>∃ v,fin = .done (.ret v)/\Q v s') E s:=by
 obtain ⟨hz,hTI,⟨a,b,hTO⟩,h1,h2,hl1,hl2⟩:=Z
 show wpAny _ _ (field (.ref z) 2 >>= _) _ _ _
 refine wpAny_bind (wpAny_field hz rfl (x:=.bool false) rfl ?_)
 show wpAny _ _ (field (.ref z) 3 >>= _) _ _ _
 refine wpAny_bind (wpAny_field hz rfl (x:=.ref TI) rfl ?_)
 refine wpAny_bind (wpAny_seqItems hTI rfl ?_)
 show wpAny _ _ (Builtin.SmallTypes.ownedTupleIsFree (.ref z) >>= _) _ _ _
 refine wpAny_bind ?_
 unfold Builtin.SmallTypes.ownedTupleIsFree
 refine wpAny_bind (wpAny_field hz rfl (x:=.none) rfl (wpAny_pure ?_))
 simp only [if_true]
 refine wpAny_bind (wpAny_rule ?_)
 refine wpAny_bind (wpAny_field hz rfl (x:=.ref TO) rfl ?_)
 refine wpAny_bind (wpAny_setField_rec hz (by simp) fun g1 z1 b1=>?_)
 replace z1:IsZip g1 z TI TO .ellipsis:=z1
 refine wpAny_bind ?_
 simp only [List.zipIdx_cons,List.zipIdx_nil,List.forIn_cons,List.forIn_nil]
 refine wpAny_bind (wpAny_bind (wpAny_onRaise ?_))
 show wpAny _ _ (Builtin.SmallTypes.nextOf (.ref i1) >>= _) _ _ _
 refine wpAny_bind (nextT_item (s:={ s with heap:=g1 }) (h1.extBut b1.extBut D.i1z) (hl1.extBut b1.extBut D.l1z) hx fun g2 j2 b2=>wpAny_pure ?_)
 have o2:IsPair g2 TO a b:=b2.extBut _ _ D.TOi1 (b1.extBut _ _ D.TOz hTO)
 refine wpAny_bind (wpAny_seqItems o2 rfl ?_)
 refine wpAny_bind (wpAny_updateSeq_pair o2 fun g3 o3 b3=>?_)
 replace o3:IsPair g3 TO x b:=o3
 refine wpAny_bind (wpAny_letGo (wpAny_pure ?_))
 refine wpAny_bind (wpAny_bind (wpAny_onRaise ?_))
 show wpAny _ _ (Builtin.SmallTypes.nextOf (.ref i2) >>= _) _ _ _
 refine wpAny_bind (nextT_item (s:={ s with heap:=g3 }) (((h2.extBut b1.extBut D.i2z).extBut b2.extBut D.i12.symm).extBut b3.extBut D.TOi2.symm) (((hl2.extBut b1.extBut D.l2z).extBut b2.extBut D.l2i1).extBut b3.extBut D.l2TO) hy fun g4 j4 b4=>wpAny_pure ?_)
 have o4:IsPair g4 TO x b:=b4.extBut _ _ D.TOi2 o3
 refine wpAny_bind (wpAny_seqItems o4 rfl ?_)
 refine wpAny_bind (wpAny_updateSeq_pair o4 fun g5 o5 b5=>?_)
 replace o5:IsPair g5 TO x y:=o5
 refine wpAny_bind (wpAny_letGo (wpAny_pure (wpAny_pure ?_)))
 refine wpAny_bind (wpAny_seqItems o5 rfl ?_)
 refine wpAny_bind (wpAny_newTuple ?_)
 have sz:g5.objs.size = s.heap.objs.size:=by rw [b5.1,b4.1,b3.1,b2.1,b1.1]
 have z5:IsZip g5 z TI TO .ellipsis:=b5.extBut _ _ D.TOz.symm (b4.extBut _ _ D.i2z.symm (b3.extBut _ _ D.TOz.symm (b2.extBut _ _ D.i1z.symm z1)))
 have k5:∀ c o,c ≠ z->c ≠ TO->c ≠ i1->c ≠ i2->s.heap.get? c = some o->g5.get? c = some o:=fun c o c1 c2 c3 c4 e=>b5.extBut _ _ c2 (b4.extBut _ _ c4 (b3.extBut _ _ c2 (b2.extBut _ _ c3 (b1.extBut _ _ c1 e))))
 have p1:g5.IsTupleIter i1 t1 (k + 1):=((j2.extBut b3.extBut D.TOi1.symm).extBut b4.extBut D.i12).extBut b5.extBut D.TOi1.symm
 have p2:g5.IsTupleIter i2 t2 (k + 1):=j4.extBut b5.extBut D.TOi2.symm
 have zlt:z < g5.objs.size:=Heap.lt_size z5
 show wpAny _ _ (Builtin.SmallTypes.ownedTupleHandOut (.ref z) (.ref g5.objs.size) >>= _) _ _ _
 refine wpAny_bind ?_
 unfold Builtin.SmallTypes.ownedTupleHandOut
 have z6:IsZip (g5.push { cls:=.type "tuple",data:=.seq #[x,y] }) z TI TO .ellipsis:=Heap.get?_push_of_some _ z5
 refine wpAny_bind (wpAny_setField_rec z6 (by simp) fun g7 z7 b7=>?_)
 replace z7:IsZip g7 z TI TO (rawInt g5.objs.size):=z7
 refine wpAny_setField_rec z7 (by simp) fun g8 z8 b8=>?_
 replace z8:IsZip g8 z TI TO (rawInt g5.objs.size):=z8
 have up:∀ c o,c ≠ z->g5.get? c = some o->g8.get? c = some o:=fun c o c1 e=>b8.extBut _ _ c1 (b7.extBut _ _ c1 (Heap.get?_push_of_some _ e))
 have T8:IsPair g8 g5.objs.size x y:=b8.extBut _ _ (Nat.ne_of_gt zlt) (b7.extBut _ _ (Nat.ne_of_gt zlt) (Heap.get?_push_size _ rfl))
 have s8:g8.objs.size = g5.objs.size + 1:=by rw [b8.1,b7.1,Heap.size_push]
 rw [sz] at z8 T8 s8
 refine wpAny_pure ⟨_,rfl,?_⟩
 show Q (.ref g5.objs.size) _
 rw [sz]
 have kk:∀ c o,c ≠ z->c ≠ TO->c ≠ i1->c ≠ i2->s.heap.get? c = some o->g8.get? c = some o:=fun c o c1 c2 c3 c4 e=>up c o c1 (k5 c o c1 c2 c3 c4 e)
 refine hQ g8 ⟨z8,kk _ _ D.TIz D.TITO D.TIi1 D.TIi2 hTI,⟨x,y,up _ _ D.TOz o5⟩,?_,?_,?_,?_⟩ T8 s8 kk
 ·obtain ⟨o,e,r⟩:=p1;exact ⟨o,up _ o D.i1z e,r⟩
 ·obtain ⟨o,e,r⟩:=p2;exact ⟨o,up _ o D.i2z e,r⟩
 ·obtain ⟨o,e,r⟩:=hl1;exact ⟨o,kk _ o D.l1z D.l1TO D.l1i1 D.l1i2 e,r⟩
 ·obtain ⟨o,e,r⟩:=hl2;exact ⟨o,kk _ o D.l2z D.l2TO D.l2i1 D.l2i2 e,r⟩
theorem zipT_end {z TI TO i1 i2 t1 t2:Addr} {k:Nat} {xs ys:Array Value} {Q:Fin->Shared->Prop} (hh:A.handled = none) (D:ZipApart z TI TO i1 i2 t1 t2) (Z:ZT s.heap z TI TO i1 i2 t1 t2 k xs ys .none) (hx:xs[k]? = none)
  (hE:∀ h' e,(∀ c o,c ≠ z->c ≠ TO->c ≠ i1->c ≠ i2->s.heap.get? c = some o->h'.get? c = some o)->(∃ o,h'.get? e = some o/\o.cls = .type "StopIteration")->E (.ref e) { s with heap:=h' }) :
  wpAny (model prog w) A (Builtin.«zip.__next__» ⟨[.ref z],[]⟩) Q E s:=by
 obtain ⟨hz,hTI,⟨a,b,hTO⟩,h1,h2,hl1,hl2⟩:=Z
 show wpAny _ _ (field (.ref z) 2 >>= _) _ _ _
 refine wpAny_bind (wpAny_field hz rfl (x:=.bool false) rfl ?_)
 show wpAny _ _ (field (.ref z) 3 >>= _) _ _ _
 refine wpAny_bind (wpAny_field hz rfl (x:=.ref TI) rfl ?_)
 refine wpAny_bind (wpAny_seqItems hTI rfl ?_)
 show wpAny _ _ (Builtin.SmallTypes.ownedTupleIsFree (.ref z) >>= _) _ _ _
 refine wpAny_bind ?_
 unfold Builtin.SmallTypes.ownedTupleIsFree
 refine wpAny_bind (wpAny_field hz rfl (x:=.none) rfl (wpAny_pure ?_))
 simp only [if_true]
 refine wpAny_bind (wpAny_rule ?_)
 refine wpAny_bind (wpAny_field hz rfl (x:=.ref TO) rfl ?_)
 refine wpAny_bind (wpAny_setField_rec hz (by simp) fun g1 z1 b1=>?_)
 replace z1:IsZip g1 z TI TO .ellipsis:=z1
 refine wpAny_bind ?_
 simp only [List.zipIdx_cons,List.zipIdx_nil,List.forIn_cons,List.forIn_nil]
 refine wpAny_bind (wpAny_bind (wpAny_onRaise ?_))
 show wpAny _ _ (Builtin.SmallTypes.nextOf (.ref i1) >>= _) _ _ _
 refine wpAny_bind (nextT_end (s:={ s with heap:=g1 }) hh (h1.extBut b1.extBut D.i1z) (hl1.extBut b1.extBut D.l1z) hx fun g2 e b2 he=>?_)
 obtain ⟨oe,hoe,hce⟩:=he
 have z2:IsZip g2 z TI TO .ellipsis:=b2 _ _ D.i1z.symm z1
 have hez:e ≠ z:=fun q=>by subst q;rw [z2] at hoe;cases hoe;simp at hce
 exact wpAny_setField_rec z2 (by simp) fun g3 _ b3=>hE g3 e (fun c o c1 _ c3 _ q=>b3.extBut _ _ c1 (b2 _ _ c3 (b1.extBut _ _ c1 q))) ⟨oe,b3.extBut _ _ hez hoe,hce⟩
theorem zipT_next {z TI TO i1 i2 t1 t2:Addr} {k:Nat} {xs ys:Array Value} {x y:Value} {Q:Option Value->Shared->Prop} (D:ZipApart z TI TO i1 i2 t1 t2) (Z:ZT s.heap z TI TO i1 i2 t1 t2 k xs ys .none) (hx:xs[k]? = some x) (hy:ys[k]? = some y)
  (hQ:∀ h',ZT h' z TI TO i1 i2 t1 t2 (k + 1) xs ys (rawInt s.heap.objs.size)->IsPair h' s.heap.objs.size x y->h'.objs.size = s.heap.objs.size + 1->(∀ c o,c ≠ z->c ≠ TO->c ≠ i1->c ≠ i2->s.heap.get? c = some o->h'.get? c = some o)->Q (some (.ref s.heap.objs.size)) { s with heap:=h' }) :
  wpAny (model prog w) A (pyNext (.ref z)) Q E s:=by
 have hT:s.TypeIs (.ref z) "zip":=⟨_,Z.zp,rfl⟩
 unfold pyNext
 exact wpAny_bind (wpAny_attempt (wpAny_callSpecial?_slot (name:=Str.ofString "__next__") hT F.slot_zip_next (wpAny_call_entry F.slot_zip_next hT F.entry_zip_next (zipT_item D Z hx hy fun h' a1 a2 a3 a4=>wpAny_pure (hQ h' a1 a2 a3 a4)) (F.args_zip_next_1 _))))
theorem zipT_stop {z TI TO i1 i2 t1 t2:Addr} {k:Nat} {xs ys:Array Value} {Q:Option Value->Shared->Prop} (hh:A.handled = none) (D:ZipApart z TI TO i1 i2 t1 t2) (Z:ZT s.heap z TI TO i1 i2 t1 t2 k xs ys .none) (hx:xs[k]? = none)
  (hQ:∀ h',(∀ c o,c ≠ z->c ≠ TO->c ≠ i1->c ≠ i2->s.heap.get? c = some o->h'.get? c = some o)->Q none { s with heap:=h' }):wpAny (model prog w) A (pyNext (.ref z)) Q E s:=by
 have hT:s.TypeIs (.ref z) "zip":=⟨_,Z.zp,rfl⟩
 unfold pyNext
 refine wpAny_bind (wpAny_attempt (wpAny_callSpecial?_slot (name:=Str.ofString "__next__") hT F.slot_zip_next (wpAny_call_entry F.slot_zip_next hT F.entry_zip_next (zipT_end hh D Z hx fun h' e hk he=>?_) (F.args_zip_next_1 _))))
 obtain ⟨o,ho,hc⟩:=he
 refine wpAny_bind (wpAny_isInstance (T:="StopIteration") (b:=true) ⟨o,ho,hc⟩ isSubtype_stop ?_)
 exact wpAny_pure (hQ _ hk)
end
abbrev zT1 (h:Heap) (l1:Addr):Heap:=h.push { cls:=.type "tuple_iterator",data:=.fields #[.ref l1,.int 0 0] }
abbrev zT2 (h:Heap) (l1 l2:Addr):Heap:=(zT1 h l1).push { cls:=.type "tuple_iterator",data:=.fields #[.ref l2,.int 0 0] }
abbrev zT3 (h:Heap) (l1 l2:Addr):Heap:=(zT2 h l1 l2).push { cls:=.type "tuple",data:=.seq #[.ref h.objs.size,.ref (zT1 h l1).objs.size] }
abbrev zT4 (h:Heap) (l1 l2:Addr):Heap:=(zT3 h l1 l2).push { cls:=.type "tuple",data:=.seq #[.none,.none] }
abbrev zT5 (h:Heap) (l1 l2:Addr):Heap:=(zT4 h l1 l2).push { cls:=.type "zip",data:=.fields #[.none,.bool false,.bool false,.ref (zT2 h l1 l2).objs.size,.ref (zT3 h l1 l2).objs.size] }
theorem meets_zipT (l1 l2:Addr) (xs ys:Array Value) :
  Meets (Builtin.«zip.__new__» ⟨[.type "zip",.ref l1,.ref l2],[]⟩) (fun _ R s=>s.heap.IsTuple l1 xs/\s.heap.IsTuple l2 ys/\R (.ok (.ret (.ref (zT4 s.heap l1 l2).objs.size))) { s with heap:=zT5 s.heap l1 l2 }):=
 .of_wp fun prog w A R s h=>by
  obtain ⟨hp,g,d,tk,os⟩:=s;obtain ⟨hl1,hl2,h⟩:=h
  have hsub:=sub_zip
  have m1:Heap.IsTuple (Shared.heap ⟨hp,g,d,tk,os⟩) l1 xs:=hl1
  have m2:Heap.IsTuple (Shared.heap ⟨hp.push { cls:=.type "tuple_iterator",data:=.fields #[.ref l1,.int 0 0] },g,d,tk,os⟩) l2 ys:=Heap.IsTuple.push hl2 _
  wp_walk using wpAny_pyIter_tuple m1,wpAny_pyIter_tuple m2
  exact ⟨_,rfl,h⟩
theorem call_zipT {prog:Program} {w:World} {A:Around} {E:Value->Shared->Prop} {s:Shared} {l1 l2:Addr} {xs ys:Array Value} {Q:Value->Shared->Prop} (hl1:s.heap.IsTuple l1 xs) (hl2:s.heap.IsTuple l2 ys)
  (h:∀ h',ZT h' (s.heap.objs.size + 4) (s.heap.objs.size + 2) (s.heap.objs.size + 3) s.heap.objs.size (s.heap.objs.size + 1) l1 l2 0 xs ys .none->h'.objs.size = s.heap.objs.size + 5->(∀ c o,s.heap.get? c = some o->h'.get? c = some o)->Q (.ref (s.heap.objs.size + 4)) { s with heap:=h' }) :
  wpAny (model prog w) A (call (.type "zip") [.ref l1,.ref l2]) Q E s:=by
 refine callType_new F.called_zip (by decide) (F.typeCall_zip_2 _ _) (F.newCall_zip_2 _ _) (fun obj=>F.args_object_init_3 obj _ _) F.entry_zip_new (meets_zipT l1 l2 xs ys) ⟨hl1,hl2,?_⟩
 have z1:(zT1 s.heap l1).objs.size = s.heap.objs.size + 1:=Heap.size_push ..
 have z2:(zT2 s.heap l1 l2).objs.size = s.heap.objs.size + 2:=by rw [Heap.size_push,z1]
 have z3:(zT3 s.heap l1 l2).objs.size = s.heap.objs.size + 3:=by rw [Heap.size_push,z2]
 have z4:(zT4 s.heap l1 l2).objs.size = s.heap.objs.size + 4:=by rw [Heap.size_push,z3]
 have z5:(zT5 s.heap l1 l2).objs.size = s.heap.objs.size + 5:=by rw [Heap.size_push,z4]
 have kp:∀ c o,s.heap.get? c = some o->(zT5 s.heap l1 l2).get? c = some o:=fun c o x=>Heap.get?_push_of_some _ (Heap.get?_push_of_some _ (Heap.get?_push_of_some _ (Heap.get?_push_of_some _ (Heap.get?_push_of_some _ x))))
 have g5:(zT5 s.heap l1 l2).get? (zT4 s.heap l1 l2).objs.size = some _:=Heap.get?_push_size _ rfl
 have g4:(zT5 s.heap l1 l2).get? (zT3 s.heap l1 l2).objs.size = some _:=Heap.get?_push_of_some _ (Heap.get?_push_size _ rfl)
 have g3:(zT5 s.heap l1 l2).get? (zT2 s.heap l1 l2).objs.size = some _:=Heap.get?_push_of_some _ (Heap.get?_push_of_some _ (Heap.get?_push_size _ rfl))
 have g2:(zT5 s.heap l1 l2).get? (zT1 s.heap l1).objs.size = some _:=Heap.get?_push_of_some _ (Heap.get?_push_of_some _ (Heap.get?_push_of_some _ (Heap.get?_push_size _ rfl)))
 have g1:(zT5 s.heap l1 l2).get? s.heap.objs.size = some _:=Heap.get?_push_of_some _ (Heap.get?_push_of_some _ (Heap.get?_push_of_some _ (Heap.get?_push_of_some _ (Heap.get?_push_size _ rfl))))
 show _/\_
 rw [z2,z3,z4] at g5
 rw [z1,z2] at g3
 rw [z3] at g4
 rw [z1] at g2
 rw [z4]
 refine ⟨⟨_,g5,rfl⟩,h _ ⟨g5,g3,⟨_,_,g4⟩,⟨_,g1,rfl,rfl⟩,⟨_,g2,rfl,rfl⟩,?_,?_⟩ z5 kp⟩
 ·obtain ⟨o,e,r⟩:=hl1;exact ⟨o,kp _ o e,r⟩
 ·obtain ⟨o,e,r⟩:=hl2;exact ⟨o,kp _ o e,r⟩
end L2
namespace L2
open PySem PySem.Spec PyProof.Rows
section
variable {X:Cx} {pins:List (Addr × Obj)} {σ:St} {H:Hp} {s:Shared} {h':Heap}
theorem Inv.turnedL {t':Nat} {ch:List Addr} (I:Inv X pins σ H s) (k:∀ b o,b ∉ ch->s.heap.get? b = some o->h'.get? b = some o) (f:∀ b ∈ ch,FpOk X pins H b):Inv X pins σ H { s with heap:=h',toks:=t' }:=by
 have nit:∀ b u,H b = some u->b ∉ ch:=fun b u e z=>by rw [(f b z).1] at e;cases e
 refine I.step (g':=s.gens) (d':=s.drawn) (ch:=ch) (fun b hb=>?_) (fun b o _ _ hc e _=>k b o hc e) (fun b o _ _ hc e _=>⟨o.slots,k b o hc e⟩) (fun _ _ _ _ n=>n) (fun b o hc e=>⟨o,k b o hc e⟩) (fun _ _ e=>e) (fun _ _ _ e=>e) (fun b ps e=>⟨#[],by rw [e];simp⟩) (fun m hm=>?_) (fun b u e=>?_) I.bare
 ·obtain ⟨f0,f1,f2,f3,f4,f5⟩:=f b hb
  exact ⟨f3,f1,f4,f5⟩
 ·obtain ⟨o,es,ep,ho,r⟩:=hm
  refine ⟨o,es,ep,k _ o (fun z=>?_) ho,r⟩
  obtain ⟨f0,f1,_⟩:=f _ z
  exact f1 rfl
 ·refine (I.hok b u e).stay (fun c v hc q=>k c v ?_ q) (fun _ q=>q) fun _ _ q=>q
  rcases hc with z | z
  ·rw [z];exact nit b u e
  ·exact nit c _ z
end
structure ZM (h:Heap) (z TI TO i1 i2 a b:Addr) (k:Nat):Prop where
 zp:IsZip h z TI TO .none
 ti:IsPair h TI (.ref i1) (.ref i2)
 to:∃ u v,IsPair h TO u v
 j1:h.IsTupleIter i1 a k
 j2:h.IsTupleIter i2 b k
def ItZ (K:PySem.W.Frag) (a b:Addr):It:=
 ⟨fun i H=>∃ xs ys x y,SqT K H a xs/\SqT K H b ys/\xs[i]? = some x/\ys[i]? = some y,fun i H x H'=>∃ u v p,(∀ xs ys,SqT K H a xs->SqT K H b ys->xs[i]? = some u/\ys[i]? = some v)/\x = .ref p/\H p = none/\H' = upd H p (.tup [u,v]),fun i H=>∃ xs ys,SqT K H a xs/\SqT K H b ys/\xs.length ≤ i⟩
theorem turn_zipT {P:Program} {w:World} {K:PySem.W.Frag} {es:List Expr} {x1:Nat} {tp:Pos} (a b z TI TO i1 i2:Addr) (D:ZipApart z TI TO i1 i2 a b):Turn P w K (.Tuple es x1 tp) (ItZ K a b) [z,TI,TO,i1,i2] z (fun i h=>ZM h z TI TO i1 i2 a b i) where
 mem:=by simp
 obj:=fun i h st c hc=>by
  obtain ⟨s1,s2,⟨u,v,s3⟩,s4,s5⟩:=st
  simp only [List.mem_cons,List.not_mem_nil,or_false] at hc
  rcases hc with q | q | q | q | q
  ·subst q;exact ⟨_,s1,fun v z=>by cases z⟩
  ·subst q;exact ⟨_,s2,fun v z=>by cases z⟩
  ·subst q;exact ⟨_,s3,fun v z=>by cases z⟩
  ·subst q;obtain ⟨o,e,_,d⟩:=s4;exact ⟨o,e,fun v z=>by rw [d] at z;cases z⟩
  ·subst q;obtain ⟨o,e,_,d⟩:=s5;exact ⟨o,e,fun v z=>by rw [d] at z;cases z⟩
 keep:=fun i h h' st k=>by
  obtain ⟨s1,s2,⟨u,v,s3⟩,⟨o4,e4,r4⟩,⟨o5,e5,r5⟩⟩:=st
  exact ⟨k z (by simp) _ s1,k TI (by simp) _ s2,⟨u,v,k TO (by simp) _ s3⟩,⟨o4,k i1 (by simp) _ e4,r4⟩,⟨o5,k i2 (by simp) _ e5,r5⟩⟩
 item:=by
  intro X hP hw hK hc i pins s σ H E I hf st hg
  subst hP hw hK
  obtain ⟨s1,s2,s3,s4,s5⟩:=st
  obtain ⟨xs,ys,x,y,hq1,hq2,hx,hy⟩:=hg
  obtain ⟨its,rv,p,hz⟩:=I.tuple hq1
  obtain ⟨jts,rw',p',hz'⟩:=I.tuple hq2
  obtain ⟨u,hu,ru⟩:=rv.get hx
  obtain ⟨v,hv,rv'⟩:=rw'.get hy
  have Z:ZT s.heap z TI TO i1 i2 a b i its.toArray jts.toArray .none:=⟨s1,s2,s3,s4,s5,p,p'⟩
  refine zipT_next D Z (x:=u) (y:=v) (by simpa using hu) (by simpa using hv) fun h' Z' ht hsz kp=>?_
  refine ⟨_,rfl,?_⟩
  refine wpAny_letOwnedTupleGo_zip (s:={ s with heap:=h' }) Z'.zp fun h'' zp'' sb=>?_
  have zlt:z < s.heap.objs.size:=Heap.lt_size s1
  have kp2:∀ c o,c ∉ [z,TI,TO,i1,i2]->s.heap.get? c = some o->h''.get? c = some o:=fun c o hc e=>by
   simp only [List.mem_cons,List.not_mem_nil,or_false,not_or] at hc
   exact (sb.2 c hc.1).trans (kp c o hc.1 hc.2.2.1 hc.2.2.2.1 hc.2.2.2.2 e)
  have I1:Inv X pins σ H { s with heap:=h'' }:=I.turnedL (t':=s.toks) kp2 hf
  have hp:H s.heap.objs.size = none:=I.hok.fresh (Nat.le_refl _)
  have e2:h''.get? s.heap.objs.size = some { cls:=.type "tuple",data:=.seq #[u,v] }:=(sb.2 _ (Nat.ne_of_gt zlt)).trans ht
  have I2:Inv X pins σ (upd H s.heap.objs.size (.tup [x,y])) { s with heap:=h'' }:=I1.track (I.our (Nat.le_refl _)) ⟨(show 2 ≤ sizeLine by decide),[u,v],.cons ru (.cons rv' .nil),⟨_,e2,rfl,_,rfl⟩⟩
  refine ⟨.ref s.heap.objs.size,_,I2,rfl,⟨x,y,_,fun ws us h1 h2=>?_,rfl,hp,rfl⟩,?_,fun c hc=>?_⟩
  ·rw [I.tuple_inj h1 hq1,I.tuple_inj h2 hq2]
   exact ⟨hx,hy⟩
  ·have up:∀ c o,c ≠ z->h'.get? c = some o->h''.get? c = some o:=fun c o hc e=>(sb.2 c hc).trans e
   obtain ⟨_,q2,⟨q3a,q3b,q3⟩,⟨o4,e4,r4⟩,⟨o5,e5,r5⟩,_,_⟩:=Z'
   exact ⟨zp'',up _ _ D.TIz q2,⟨q3a,q3b,up _ _ D.TOz q3⟩,⟨o4,up _ _ D.i1z e4,r4⟩,⟨o5,up _ _ D.i2z e5,r5⟩⟩
  ·obtain ⟨f0,_⟩:=hf c hc
   rw [upd_ne fun q=>?_]
   ·exact f0
   ·have lt:∀ c o,s.heap.get? c = some o->c ≠ s.heap.objs.size:=fun c o e=>Nat.ne_of_lt (Heap.lt_size e)
    obtain ⟨q3a,q3b,q3⟩:=s3
    obtain ⟨o4,e4,_⟩:=s4
    obtain ⟨o5,e5,_⟩:=s5
    simp only [List.mem_cons,List.not_mem_nil,or_false] at hc
    rcases hc with r | r | r | r | r
    ·exact lt z _ s1 (r ▸ q)
    ·exact lt TI _ s2 (r ▸ q)
    ·exact lt TO _ q3 (r ▸ q)
    ·exact lt i1 _ e4 (r ▸ q)
    ·exact lt i2 _ e5 (r ▸ q)
 done:=by
  intro X hP hw hK hc i pins s σ H E I hf st hg
  subst hP hw hK
  obtain ⟨s1,s2,s3,s4,s5⟩:=st
  obtain ⟨xs,ys,hq1,hq2,hx⟩:=hg
  obtain ⟨its,rv,p,hz⟩:=I.tuple hq1
  obtain ⟨jts,rw',p',hz'⟩:=I.tuple hq2
  have hl:=rv.length
  have Z:ZT s.heap z TI TO i1 i2 a b i its.toArray jts.toArray .none:=⟨s1,s2,s3,s4,s5,p,p'⟩
  refine zipT_stop (I.ok.hd hc) D Z (by simp;omega) fun h' kp=>⟨rfl,I.turnedL (t':=s.toks) (fun c o hc e=>?_) hf⟩
  simp only [List.mem_cons,List.not_mem_nil,or_false,not_or] at hc
  exact kp c o hc.1 hc.2.2.1 hc.2.2.2.1 hc.2.2.2.2 e
 self:=fun A i s Q E st h=>wpAny_pyIter_zip st.zp h
section
variable {X:Cx}
theorem boot_zip:bootBuiltins "zip" = some (.type "zip"):=by decide +kernel
def iZipT (K:PySem.W.Frag) (ta:TA):TI:=fun σ H R=>ta σ H fun vs H1=>∃ a b,vs = [.ref a,.ref b]/\(∃ xs,SqT K H1 a xs)/\(∃ ys,SqT K H1 b ys)/\R (ItZ K a b) H1
theorem pi_zipT {es:List Expr} {x1:Nat} {tp:Pos} {l m:Expr} {ta:TA} {p pos:Pos} (hg:Gl X "zip") (hm:X.mg "zip" = none) (ha:PA X [l,m] ta) (hs:starEach [l,m] X.env = (false,eval l X.env) :: starEach [m] X.env:=by rfl) (hpl:(backTo pos (starEach [m] X.env)).any (·.1) = false:=by rfl) :
  PI X (.Tuple es x1 tp) (.Call (.Name "zip" p) [l,m] [] pos) (iZipT X.K ta):=by
 intro pins s σ H R I h
 refine Call_ (ld_blt I hg hm boot_zip (PyProof.Rows.callWith_type1 (thn (ha pos pins s σ H _ I h) fun us s1 ⟨vs,H1,I1,r1,q1⟩=>?_) hs hpl))
 obtain ⟨a,b,e,⟨xs,hq1⟩,⟨ys,hq2⟩,q⟩:=q1
 subst e
 obtain ⟨u,v,rfl,rx,ry⟩:=vals2 r1
 cases rx
 cases ry
 obtain ⟨its,rv,p1,hz⟩:=I1.tuple hq1
 obtain ⟨jts,rw',p2,hz'⟩:=I1.tuple hq2
 have la:a < s1.heap.objs.size:=by obtain ⟨o,e,_⟩:=p1;exact Heap.lt_size e
 have lb:b < s1.heap.objs.size:=by obtain ⟨o,e,_⟩:=p2;exact Heap.lt_size e
 have D:ZipApart (s1.heap.objs.size + 4) (s1.heap.objs.size + 2) (s1.heap.objs.size + 3) s1.heap.objs.size (s1.heap.objs.size + 1) a b:=by
  generalize s1.heap.objs.size = n at la lb
  constructor <;> (intro z;simp only [Addr] at *;omega)
 refine call_zipT p1 p2 fun h' Z hsz hk=>?_
 have I2:Inv X pins σ H1 { s1 with heap:=h' }:=I1.kept (t':=s1.toks) hk
 refine wpAny_pyIter_zip (s:={ s1 with heap:=h' }) Z.zp ?_
 refine ⟨s1.heap.objs.size + 4,[s1.heap.objs.size + 4,s1.heap.objs.size + 2,s1.heap.objs.size + 3,s1.heap.objs.size,s1.heap.objs.size + 1],_,_,H1,rfl,I2,turn_zipT a b _ _ _ _ _ D,⟨Z.zp,Z.ti,Z.to,Z.j1,Z.j2⟩,fun c hc=>?_,q⟩
 have nb:s1.heap.objs.size ≤ c:=by
  simp only [List.mem_cons,List.not_mem_nil,or_false] at hc
  rcases hc with r | r | r | r | r <;> (rw [r];first | exact Nat.le_refl _ | exact Nat.le_add_right _ _)
 exact I1.fpOk nb (I1.hok.fresh nb)
theorem for_zipT {K:PySem.W.Frag} {a b:Addr} {xs ys:List V} {g:TG} {tb:TS} {D:Ends} {σ:St} {H:Hp} (Pv:Nat->St->Hp->Prop) (hlen:xs.length = ys.length) (h0:Pv 0 σ H) (hl:∀ i σ H,i ≤ xs.length->Pv i σ H->SqT K H a xs/\SqT K H b ys)
  (hs:∀ i x y p σ H,xs[i]? = some x->ys[i]? = some y->Pv i σ H->H p = none->g (.ref p) σ (upd H p (.tup [x,y])) fun σ2 H2=>tb { D with nx:=Pv (i + 1),ct:=Pv (i + 1),bk:=D.nx } σ2 H2) (hd:∀ σ H,Pv xs.length σ H->D.nx σ H) :
  ∃ W:Nat->Nat->St->Hp->Prop,(∃ m,W 0 m σ H)/\∀ i m σ H,W i m σ H →
   ((ItZ K a b).stop i H/\D.nx σ H)\/((ItZ K a b).go i H/\∃ N:St->Hp->Prop,(∀ σ' H',N σ' H'->∃ m',m' < m/\W (i + 1) m' σ' H')/\∀ x H',(ItZ K a b).yld i H x H'->g x σ H' fun σ2 H2=>tb { D with nx:=N,ct:=N,bk:=D.nx } σ2 H2):=by
 refine ⟨fun i m σ H=>m = xs.length - i/\i ≤ xs.length/\Pv i σ H,⟨xs.length,by simp,Nat.zero_le _,h0⟩,?_⟩
 rintro i m σ H ⟨rfl,hi,p⟩
 obtain ⟨q1,q2⟩:=hl i σ H hi p
 by_cases hlt:i < xs.length
 ·have hlt2:i < ys.length:=by omega
  refine .inr ⟨⟨xs,ys,xs[i],ys[i],q1,q2,by simp [hlt],by simp [hlt2]⟩,Pv (i + 1),fun σ' H' p'=>⟨xs.length - (i + 1),by omega,rfl,hlt,p'⟩,fun x H' y=>?_⟩
  obtain ⟨u,v,pa,hk,ex,hn,e⟩:=y
  subst e ex
  exact hs i u v pa σ H (hk xs ys q1 q2).1 (hk xs ys q1 q2).2 p hn
 ·have e:i = xs.length:=by omega
  subst e
  exact .inl ⟨⟨xs,ys,q1,q2,Nat.le_refl _⟩,hd σ H p⟩
end
end L2
namespace My
open PySem L2 PyProof.Rows
def top (i:Nat):Stmt:=PySem.Challenge.pw_halfmoved_k09_whole_forms_by_deeds.main.body.getD i (.Pass ⟨0,0,0,0⟩)
section
variable {P:Program} {w:World} {K:PySem.W.Frag} {mg:Str->Option Value} {base:Heap}
theorem ok_cell {f:Addr} {fd:FuncData} (F:Fun K "_law_cell" "_law_cell" (top 42) f fd) (B:Bl mg):FnOk P w K mg base CX0 1 f fd ["_law_script","_law_k"] (spCell K):=by
 have sc:FnScope ["_law_script","_law_k","_law_number"] ["_law_script","_law_k"] (defScope (top 42)):=⟨rfl,rfl,rfl,by decide +kernel,rfl,by decide +kernel,by decide +kernel⟩
 refine F.ok sc (fun vs H Q E h=>?_) (fun cdv A outer s H vs Q E hr h=>?_)
 ·obtain ⟨a,ns,k,rfl,_⟩:=h
  rfl
 ·obtain ⟨a,ns,k,rfl,hS,h0,h1,h63,q⟩:=h
  have hl:(ns.map V.int).length = ns.length:=List.length_map ..
  refine ⟨_,pss_cons (ps_if (pt_cmpR op_lt (pv 1) (pe_callB call_len_seq (by rfl) B.len PySem.boot_len (pa_cons (pv 0) pa_nil)) (nomark _)) (pss_one (ps_ret (pe_ix ix_list (pv 0) (pv 1) (fun _ _=>rfl)))) pss_nil)
   (pss_cons (ps_set (i:=2) sc.nd rfl (Or.inl rfl) (pe_op op_add (pe_op op_mul (pv 1) pe_int) pe_int))
   (pss_cons (ps_if (pt_cmpR op_gt (pe_callB call_len_seq (by rfl) B.len PySem.boot_len (pa_cons (pv 0) pa_nil)) pe_int (nomark _))
    (pss_one (ps_set (i:=2) sc.nd rfl (Or.inl rfl) (pe_op op_add (pv 2) (pe_op op_mul (pe_op op_mod (pe_ix ix_list (pv 0) (pe_op op_mod (pv 1) (pe_callB call_len_seq (by rfl) B.len PySem.boot_len (pa_cons (pv 0) pa_nil))) (fun _ _=>rfl)) pe_int) pe_int)))) pss_nil)
   (pss_one (ps_ret (pe_op op_mod (pv 2) pe_int))))),?_⟩
  refine ⟨_,rfl,_,rfl,_,_,rfl,.inl hS,_,_,rfl,rfl,_,rfl,?_⟩
  refine ite2 (fun c=>?_) (fun c=>?_)
  ·have c':k < ns.length:=by rw [← hl];exact of_decide_eq_true c
   refine ⟨_,rfl,_,rfl,_,_,_,_,rfl,rfl,hS,item_ints h0 c',?_⟩
   have e:cellF ns k = ns.getD k.toNat 0:=by unfold cellF;rw [if_pos c']
   rw [e] at q
   exact q
  ·have c':¬ k < ns.length:=fun z=>c (decide_eq_true (by rw [hl];exact z))
   refine ⟨_,rfl,_,_,rfl,rfl,.inr ⟨by decide,by decide⟩,_,_,rfl,rfl,?_⟩
   refine ⟨_,rfl,_,_,rfl,.inl hS,_,_,rfl,rfl,_,rfl,?_⟩
   refine ite2 (fun c2=>?_) (fun c2=>?_)
   ·have c3:(0:Int) < ns.length:=by rw [← hl];exact of_decide_eq_true c2
    have m0:0 ≤ k % (ns.length:Int):=Int.emod_nonneg _ (by omega)
    have m1:k % (ns.length:Int) < ns.length:=Int.emod_lt_of_pos _ c3
    refine ⟨_,rfl,_,rfl,_,rfl,_,rfl,_,_,rfl,.inl hS,_,_,rfl,rfl,(by rw [hl];exact c3),_,_,_,_,rfl,rfl,hS,(by rw [hl];exact item_ints m0 m1),_,_,rfl,rfl,(pos rfl),_,_,rfl,rfl,.inr ⟨by decide,by decide⟩,_,_,rfl,rfl,?_⟩
    refine ⟨_,rfl,_,_,rfl,rfl,(pos rfl),?_⟩
    have e:cellF ns k = (k * 7919 + 5 + ns.getD (k % ns.length).toNat 0 % 2147483647 * 48271) % 2147483647:=by
     unfold cellF
     rw [if_neg c',if_pos (by omega)]
    rw [e] at q
    exact q
   ·have c3:¬ 0 < ns.length:=fun z=>c2 (decide_eq_true (by rw [hl];omega))
    refine ⟨_,rfl,_,_,rfl,rfl,(pos rfl),?_⟩
    have e:cellF ns k = (k * 7919 + 5) % 2147483647:=by
     unfold cellF
     rw [if_neg c',if_neg c3,Int.add_zero]
    rw [e] at q
    exact q
theorem ok_whole {f:Addr} {fd:FuncData} (F:Fun K "is_whole" "is_whole" (top 21) f fd) (B:Bl mg):FnOk P w K mg base CX0 1 f fd ["thing"] (spWhole K):=by
 have sc:FnScope ["thing"] ["thing"] (defScope (top 21)):=⟨rfl,rfl,rfl,by decide +kernel,rfl,by decide +kernel,by decide +kernel⟩
 refine F.ok sc (fun vs H Q E h=>?_) (fun cdv A outer s H vs Q E hr h=>?_)
 ·obtain ⟨v,n,rfl,_⟩:=h
  rfl
 ·obtain ⟨v,n,rfl,⟨ty,hn⟩,q⟩:=h
  refine ⟨_,pss_one (ps_ret (pe_and (pe_callB call_isi (by rfl) B.isi boot_isi (pa_cons (pv 0) (pa_cons (pe_bltn (v:=.ty "int") (by rfl) B.int boot_int rfl) pa_nil)))
   (pe_one (pe_not (pe_callB call_isi (by rfl) B.isi boot_isi (pa_cons (pv 0) (pa_cons (pe_bltn (v:=.ty "bool") (by rfl) B.bool boot_bool rfl) pa_nil))))))),?_⟩
  refine ⟨_,rfl,_,_,_,_,rfl,ty,kit_eq.trans (kit_int n hn),_,rfl,?_⟩
  refine ite2 (fun c=>?_) (fun c=>?_)
  ·refine ⟨_,rfl,_,_,_,_,rfl,ty,kit_eq.trans (kit_bool n hn),_,rfl,?_⟩
   have e:(!(n == "bool")) = (n == "int"):=by
    revert c hn
    clear ty q
    revert n
    decide +kernel
   rw [e]
   exact q
  ·have e:(n == "int") = false:=by
    cases z:n == "int" with
    | false=>rfl
    | true=>rw [z] at c;exact (c rfl).elim
   rw [e] at q
   exact q
def wholeD:Dt->Bool
 | .int _=>true
 | _=>false
def sign1 (l:List Nat):Bool:=match l with
 | [c]=>decide (32 ≤ c) && (decide (c ≤ 126) && !decide (c = 37))
 | _=>false
def signD:Dt->Bool
 | .str z=>sign1 z.cps.toList
 | _=>false
def geD:Dt->Bool
 | .int i=>decide (1 ≤ i)
 | _=>false
def pairD (s b:Dt):Bool:=if strIs s "below" = true then geD b else if strIs s "upto" = true then wholeD b else strIs s "without" && signD b
def w2:List Str:=["whole","word"]
def w3:List Str:=["list","some","once"]
def plainD:Dt->Bool
 | .tup [s]=>w2.any (strIs s)
 | .tup [s,b]=>pairD s b
 | _=>false
def moreD:Dt->Bool
 | .tup [s]=>strIs s "key"
 | .tup [s,b]=>w3.any (strIs s) && plainD b
 | _=>false
def kindD (d:Dt):Bool:=plainD d || moreD d
theorem wholeD_ty (d:Dt):(tyD d == "int") = wholeD d:=by cases d <;> simp [tyD,wholeD]
theorem ok_sign {f:Addr} {fd:FuncData} (F:Fun K "is_sign" "is_sign" (top 23) f fd) (B:Bl mg) {uP:Value} (hP:mg "PERCENT" = some uP) (rP:RelV (.int 37) uP) :
  FnOk P w K mg base CX0 1 f fd ["thing"] (fun vs H Q _=>∃ (v:V) (d:Dt),vs = [v]/\Rep H d v/\Q (.bl (signD d)) H):=by
 have sc:FnScope ["thing"] ["thing"] (defScope (top 23)):=⟨rfl,rfl,rfl,by decide +kernel,rfl,by decide +kernel,by decide +kernel⟩
 refine F.ok sc (fun vs H Q E h=>?_) (fun cdv A outer s H vs Q E hr h=>?_)
 ·obtain ⟨v,d,rfl,_⟩:=h
  rfl
 ·obtain ⟨v,d,rfl,hd,q⟩:=h
  refine ⟨_,pss_cons (ps_if (PW.pt (pw_or (pt_not (pt_val (pe_callB call_isi (by rfl) B.isi boot_isi (pa_cons (pv 0) (pa_cons (pe_bltn (v:=.ty "str") (by rfl) B.str boot_str rfl) pa_nil)))))
    (pw_or1 (pt_cmpR op_ne (pe_callB call_len_str (by rfl) B.len PySem.boot_len (pa_cons (pv 0) pa_nil)) pe_int (nomark _))))) (pss_one (ps_ret pe_bl)) pss_nil)
   (pss_one (ps_ret (pe_and (pe_chain op_le_str op_le_str pe_str (pv 0) pe_str) (pe_one (pe_cmpR op_ne (pe_callB call_ord (by rfl) B.ord boot_ord (pa_cons (pv 0) pa_nil)) (pe_glob (by rfl) hP rP) (nomark _)))))),?_⟩
  by_cases hs:tyD d = "str"
  ·obtain ⟨z,rfl⟩:∃ z,d = .str z:=by
    cases d <;> first | exact ⟨_,rfl⟩ | (simp [tyD] at hs)
   unfold Rep at hd
   obtain ⟨rfl,hz⟩:=hd
   have hzs:z.length ≤ sizeLine:=by rw [sizeLine_eq];omega
   refine ⟨_,rfl,_,_,_,_,rfl,.str z,kit_eq.trans (show kitTy "str" "str" = some true by decide +kernel),_,rfl,?_⟩
   refine iteF ?_
   refine ⟨_,rfl,_,rfl,hzs,rfl,_,rfl,?_⟩
   have hl:z.cps.toList.length = z.length:=by simp [Str.length]
   by_cases h1:z.length = 1
   ·obtain ⟨c,hc⟩:∃ c,z.cps.toList = [c]:=by
     rw [h1] at hl
     match h:z.cps.toList,hl with
     | [c],_=>exact ⟨c,rfl⟩
    have hg:z.cps.getD 0 0 = c:=by
     have:z.cps = #[c]:=by rw [← Array.toArray_toList (xs:=z.cps),hc]
     rw [this]
     rfl
    refine iteC (by rw [h1];rfl) ?_
    have hq:signD (.str z) = (decide (32 ≤ c) && (decide (c ≤ 126) && !decide (c = 37))):=by
     show sign1 z.cps.toList = _
     rw [hc]
     rfl
    rw [hq] at q
    have e32:(" ":Str).cps.toList = [32]:=by decide +kernel
    have e126:("~":Str).cps.toList = [126]:=by decide +kernel
    have l1:(!decide (z.cps.toList < (" ":Str).cps.toList)) = decide (32 ≤ c):=by
     rw [hc,e32,StrLaws.lt_cons_cons,StrLaws.lt_nil_nil,Bool.and_false,Bool.or_false]
     by_cases h:32 ≤ c
     ·rw [decide_eq_true h,decide_eq_false (by omega)];rfl
     ·rw [decide_eq_false h,decide_eq_true (by omega)];rfl
    have l2:(!decide (("~":Str).cps.toList < z.cps.toList)) = decide (c ≤ 126):=by
     rw [hc,e126,StrLaws.lt_cons_cons,StrLaws.lt_nil_nil,Bool.and_false,Bool.or_false]
     by_cases h:c ≤ 126
     ·rw [decide_eq_true h,decide_eq_false (by omega)];rfl
     ·rw [decide_eq_false h,decide_eq_true (by omega)];rfl
    refine ⟨_,rfl,_,_,rfl,rfl,_,rfl,?_⟩
    by_cases h32:32 ≤ c
    ·refine iteB (l1.trans (decide_eq_true h32)) ?_
     refine ⟨_,_,rfl,rfl,_,rfl,?_⟩
     rw [decide_eq_true h32,Bool.true_and] at q
     by_cases h126:c ≤ 126
     ·refine iteB (l2.trans (decide_eq_true h126)) ?_
      rw [decide_eq_true h126,Bool.true_and] at q
      refine ⟨_,rfl,_,rfl,h1,rfl,?_⟩
      have e:decide (V.int (z.cps.getD 0 0:Nat) = V.int 37) = decide (c = 37):=by
       rw [hg]
       exact lenEq (k:=37)
      rw [e]
      exact q
     ·refine iteC (l2.trans (decide_eq_false h126)) ?_
      rw [decide_eq_false h126,Bool.false_and] at q
      exact q
    ·refine iteC (l1.trans (decide_eq_false h32)) ?_
     rw [decide_eq_false h32,Bool.false_and] at q
     exact ⟨_,rfl,iteF q⟩
   ·refine iteB ?_ ?_
    ·have e:decide (V.int (z.length:Int) = V.int 1) = decide (z.length = 1):=lenEq (k:=1)
     rw [e,decide_eq_false h1]
     rfl
    ·have hq:signD (.str z) = false:=by
      show sign1 z.cps.toList = _
      rw [← hl] at h1
      match h:z.cps.toList,h1 with
      | [],_=>rfl
      | [c],h1=>exact (h1 rfl).elim
      | _ :: _ :: _,_=>rfl
     rw [hq] at q
     exact q
  ·have e:(tyD d == "str") = false:=beq_eq_false_iff_ne.mpr hs
   have hi:=hd.is (K:=K)
   refine ⟨_,rfl,_,_,_,_,rfl,hi.1,kit_eq.trans ((kit_str _ hi.2).trans (congrArg some e)),_,rfl,?_⟩
   refine iteT ?_
   have hq:signD d = false:=by
    cases d <;> first | rfl | exact (hs rfl).elim
   rw [hq] at q
   exact q
theorem ok_pair {f fW fS:Addr} {fd fdW fdS:FuncData} (F:Fun K "is_plain_pair" "is_plain_pair" (top 25) f fd) (B:Bl mg) (DW:Df K mg "is_whole" (top 21) fW fdW) (DS:Df K mg "is_sign" (top 23) fS fdS) {uP:Value} (hP:mg "PERCENT" = some uP) (rP:RelV (.int 37) uP) :
  FnOk P w K mg base CX0 2 f fd ["sort","bound"] (fun vs H Q _=>∃ (u v:V) (s b:Dt),vs = [u,v]/\Rep H s u/\Rep H b v/\Q (.bl (pairD s b)) H):=by
 have sc:FnScope ["sort","bound"] ["sort","bound"] (defScope (top 25)):=⟨rfl,rfl,rfl,by decide +kernel,rfl,by decide +kernel,by decide +kernel⟩
 have GW:FnOk P w K mg base CX0 1 fW fdW ["thing"] (spWhole K):=ok_whole DW.fn B
 have GS:=ok_sign (P:=P) (w:=w) (base:=base) DS.fn B hP rP
 have bW:=DW.fn.binds (ps:=["thing"]) fun _ _ _ _ _ _ us hl=>by obtain ⟨v0,rfl⟩:=L2.ln1 hl;rfl
 have bS:=DS.fn.binds (ps:=["thing"]) fun _ _ _ _ _ _ us hl=>by obtain ⟨v0,rfl⟩:=L2.ln1 hl;rfl
 refine F.ok sc (fun vs H Q E h=>?_) (fun cdv A outer s H vs Q E hr h=>?_)
 ·obtain ⟨u,v,s,b,rfl,_⟩:=h
  rfl
 ·obtain ⟨u,v,ds,db,rfl,hds,hdb,q⟩:=h
  have hu:(A.deeper (envOfC "is_plain_pair" (defScope (top 25)) s.heap.objs.size f cdv)).units < cLine:=hr.units0
  refine ⟨_,pss_cons (ps_if (pt_cmpR (op_eqD hu) (pv 0) pe_str (nomark _)) (pss_one (ps_ret (pe_and (pe_call GW hr (by rfl) DW.mg DW.fn.kp bW .nil pass0 (pa_cons (pv 1) pa_nil)) (pe_one (pe_cmpR op_ge (pv 1) pe_int (nomark _)))))) pss_nil)
   (pss_cons (ps_if (pt_cmpR (op_eqD hu) (pv 0) pe_str (nomark _)) (pss_one (ps_ret (pe_call GW hr (by rfl) DW.mg DW.fn.kp bW .nil pass0 (pa_cons (pv 1) pa_nil)))) pss_nil)
   (pss_one (ps_ret (pe_and (pe_cmpR (op_eqD hu) (pv 0) pe_str (nomark _)) (pe_one (pe_call GS hr (by rfl) DS.mg DS.fn.kp bS .nil pass0 (pa_cons (pv 1) pa_nil))))))),?_⟩
  refine ⟨_,rfl,ds,_,hds,rfl,_,rfl,?_⟩
  by_cases c1:strIs ds "below" = true
  ·refine iteB c1 ?_
   have e:pairD ds db = geD db:=by unfold pairD;rw [if_pos c1]
   rw [e] at q
   refine ⟨_,rfl,_,_,rfl,hdb.is,_,rfl,?_⟩
   by_cases hw:wholeD db = true
   ·refine iteB ((wholeD_ty db).trans hw) ?_
    obtain ⟨i,rfl⟩:∃ i,db = .int i:=by
     cases db <;> first | exact ⟨_,rfl⟩ | (simp [wholeD] at hw)
    unfold Rep at hdb
    subst hdb
    exact ⟨_,rfl,_,_,rfl,rfl,q⟩
   ·refine iteC ((wholeD_ty db).trans (by simpa using hw)) ?_
    have e2:geD db = false:=by
     cases db <;> first | rfl | exact (hw rfl).elim
    rw [e2] at q
    exact q
  ·refine iteC (by simpa using c1) ?_
   refine ⟨_,rfl,ds,_,hds,rfl,_,rfl,?_⟩
   by_cases c2:strIs ds "upto" = true
   ·refine iteB c2 ?_
    have e:pairD ds db = wholeD db:=by unfold pairD;rw [if_neg c1,if_pos c2]
    rw [e,← wholeD_ty db] at q
    exact ⟨_,rfl,_,_,rfl,hdb.is,q⟩
   ·refine iteC (by simpa using c2) ?_
    have e:pairD ds db = (strIs ds "without" && signD db):=by unfold pairD;rw [if_neg c1,if_neg c2]
    rw [e] at q
    refine ⟨_,rfl,ds,_,hds,rfl,_,rfl,?_⟩
    by_cases c3:strIs ds "without" = true
    ·refine iteB c3 ?_
     rw [c3,Bool.true_and] at q
     exact ⟨_,rfl,_,_,rfl,hdb,q⟩
    ·refine iteC (by simpa using c3) ?_
     rw [(by simpa using c3:strIs ds "without" = false),Bool.false_and] at q
     exact q
def spPlain:Sp:=fun vs H Q _=>∃ (v:V) (d:Dt),vs = [v]/\Rep H d v/\∀ H',Same H H'->Q (.bl (plainD d)) H'
theorem ok_plain {f fW fS fR:Addr} {fd fdW fdS fdR:FuncData} (F:Fun K "is_plain" "is_plain" (top 24) f fd) (B:Bl mg) (DW:Df K mg "is_whole" (top 21) fW fdW) (DS:Df K mg "is_sign" (top 23) fS fdS) (DR:Df K mg "is_plain_pair" (top 25) fR fdR)
  {uP:Value} (hP:mg "PERCENT" = some uP) (rP:RelV (.int 37) uP):FnOk P w K mg base CX0 3 f fd ["thing"] spPlain:=by
 have sc:FnScope ["thing"] ["thing"] (defScope (top 24)):=⟨rfl,rfl,rfl,by decide +kernel,rfl,by decide +kernel,by decide +kernel⟩
 have GR:=ok_pair (P:=P) (w:=w) (base:=base) DR.fn B DW DS hP rP
 have bR:=DR.fn.binds (ps:=["sort","bound"]) fun _ _ _ _ _ _ us hl=>by obtain ⟨v0,v1,rfl⟩:=L2.ln2 hl;rfl
 refine F.ok sc (fun vs H Q E h=>?_) (fun cdv A outer s H vs Q E hr h=>?_)
 ·obtain ⟨v,d,rfl,_⟩:=h
  rfl
 ·obtain ⟨v,d,rfl,hd,q⟩:=h
  have hu:(A.deeper (envOfC "is_plain" (defScope (top 24)) s.heap.objs.size f cdv)).units + 1 < cLine:=hu_of hr
  refine ⟨_,pss_cons (ps_if (pt_not (pt_val (pe_callB call_isi (by rfl) B.isi boot_isi (pa_cons (pv 0) (pa_cons (pe_bltn (v:=.ty "tuple") (by rfl) B.tuple boot_tuple rfl) pa_nil))))) (pss_one (ps_ret pe_bl)) pss_nil)
   (pss_cons (ps_if (pt_cmpR op_eq (pe_callB call_len_seq (by rfl) B.len PySem.boot_len (pa_cons (pv 0) pa_nil)) pe_int (nomark _)) (pss_one (ps_ret (pe_cmpR (op_inD hu) (pe_ix ix_tup (pv 0) pe_int (fun _ _=>rfl)) (pe_tup (pa_cons pe_str (pa_cons pe_str pa_nil))) (by with_unfolding_all rfl)))) pss_nil)
   (pss_one (ps_ret (pe_and (pe_cmpR op_eq (pe_callB call_len_seq (by rfl) B.len PySem.boot_len (pa_cons (pv 0) pa_nil)) pe_int (nomark _))
    (pe_one (pe_call GR hr (by rfl) DR.mg DR.fn.kp bR .nil pass0 (pa_cons (pe_ix ix_tup (pv 0) pe_int (fun _ _=>rfl)) (pa_cons (pe_ix ix_tup (pv 0) pe_int (fun _ _=>rfl)) pa_nil)))))))),?_⟩
  have hi:=hd.is (K:=K)
  by_cases ht:tyD d = "tuple"
  ·obtain ⟨ds,rfl⟩:∃ ds,d = .tup ds:=by
    cases d <;> first | exact ⟨_,rfl⟩ | (simp [tyD] at ht)
   have hd':=hd
   unfold Rep at hd'
   obtain ⟨a,xs,rfl,ha,hr2⟩:=hd'
   have hl:=hr2.length
   refine ⟨_,rfl,_,_,_,_,rfl,hi.1,kit_eq.trans (show kitTy "tuple" "tuple" = some true by decide +kernel),_,rfl,?_⟩
   refine iteF ?_
   refine ⟨_,rfl,_,_,rfl,.inr (SqT.of ha),rfl,_,rfl,?_⟩
   have e1:decide (V.int (xs.length:Int) = V.int 1) = decide (xs.length = 1):=lenEq (k:=1)
   have e2:decide (V.int (xs.length:Int) = V.int 2) = decide (xs.length = 2):=lenEq (k:=2)
   match ds,hr2,hl,q with
   | [],hr2,hl,q=>
    refine iteC (e1.trans (decide_eq_false (by rw [hl];simp))) ?_
    refine ⟨_,rfl,_,_,rfl,.inr (SqT.of ha),rfl,_,rfl,?_⟩
    refine iteC (e2.trans (decide_eq_false (by rw [hl];simp))) ?_
    exact q H (Same.refl H)
   | [d0],hr2,hl,q=>
    refine iteB (e1.trans (decide_eq_true hl)) ?_
    unfold Reps at hr2
    obtain ⟨v0,r0,rfl,h0,hn⟩:=hr2
    unfold Reps at hn
    subst hn
    refine ⟨_,rfl,_,_,_,v0,rfl,rfl,SqT.of ha,rfl,?_⟩
    refine ⟨(by decide),fun p hp=>?_⟩
    have sm:=Same.upd (o:=.tup [.str "whole",.str "word"]) hp
    exact ⟨d0,p,w2,h0.same sm,rfl,upd_same,q _ sm⟩
   | [d0,d1],hr2,hl,q=>
    refine iteC (e1.trans (decide_eq_false (by rw [hl];simp))) ?_
    unfold Reps at hr2
    obtain ⟨v0,r0,rfl,h0,hn⟩:=hr2
    unfold Reps at hn
    obtain ⟨v1,r1,rfl,h1,hn⟩:=hn
    unfold Reps at hn
    subst hn
    refine ⟨_,rfl,_,_,rfl,.inr (SqT.of ha),rfl,_,rfl,?_⟩
    refine iteB (e2.trans (decide_eq_true hl)) ?_
    refine ⟨_,rfl,_,_,_,v0,rfl,rfl,SqT.of ha,rfl,_,rfl,_,_,_,v1,rfl,rfl,SqT.of ha,rfl,?_⟩
    exact ⟨v0,v1,d0,d1,rfl,h0,h1,q H (Same.refl H)⟩
   | d0 :: d1 :: d2 :: r,hr2,hl,q=>
    refine iteC (e1.trans (decide_eq_false (by rw [hl];simp))) ?_
    refine ⟨_,rfl,_,_,rfl,.inr (SqT.of ha),rfl,_,rfl,?_⟩
    refine iteC (e2.trans (decide_eq_false (by rw [hl];simp))) ?_
    exact q H (Same.refl H)
  ·have e:(tyD d == "tuple") = false:=beq_eq_false_iff_ne.mpr ht
   refine ⟨_,rfl,_,_,_,_,rfl,hi.1,kit_eq.trans ((kit_tuple _ hi.2).trans (congrArg some e)),_,rfl,?_⟩
   refine iteT ?_
   have hq:plainD d = false:=by
    cases d <;> first | rfl | exact (ht rfl).elim
   have:=q H (Same.refl H)
   rw [hq] at this
   exact this
def spKind:Sp:=fun vs H Q _=>∃ (v:V) (d:Dt),vs = [v]/\Rep H d v/\∀ H',Same H H'->Q (.bl (kindD d)) H'
theorem ok_kind {f fP:Addr} {fd fdP:FuncData} (F:Fun K "is_kind" "is_kind" (top 26) f fd) (B:Bl mg) (DP:Df K mg "is_plain" (top 24) fP fdP) (GP:FnOk P w K mg base CX0 3 fP fdP ["thing"] spPlain):FnOk P w K mg base CX0 4 f fd ["thing"] spKind:=by
 have sc:FnScope ["thing"] ["thing"] (defScope (top 26)):=⟨rfl,rfl,rfl,by decide +kernel,rfl,by decide +kernel,by decide +kernel⟩
 have bP:=DP.fn.binds (ps:=["thing"]) fun _ _ _ _ _ _ us hl=>by obtain ⟨v0,rfl⟩:=L2.ln1 hl;rfl
 refine F.ok sc (fun vs H Q E h=>?_) (fun cdv A outer s H vs Q E hr h=>?_)
 ·obtain ⟨v,d,rfl,_⟩:=h
  rfl
 ·obtain ⟨v,d,rfl,hd,q⟩:=h
  have hu:(A.deeper (envOfC "is_kind" (defScope (top 26)) s.heap.objs.size f cdv)).units + 1 < cLine:=hu_of hr
  refine ⟨_,pss_cons (ps_if (pt_val (pe_call GP hr (by rfl) DP.mg DP.fn.kp bP .nil pass0 (pa_cons (pv 0) pa_nil))) (pss_one (ps_ret pe_bl)) pss_nil)
   (pss_cons (ps_if (pt_not (pt_val (pe_callB call_isi (by rfl) B.isi boot_isi (pa_cons (pv 0) (pa_cons (pe_bltn (v:=.ty "tuple") (by rfl) B.tuple boot_tuple rfl) pa_nil))))) (pss_one (ps_ret pe_bl)) pss_nil)
   (pss_cons (ps_if (pt_cmpR op_eq (pe_callB call_len_seq (by rfl) B.len PySem.boot_len (pa_cons (pv 0) pa_nil)) pe_int (nomark _)) (pss_one (ps_ret (pe_cmpR (op_eqD (Nat.lt_of_succ_lt hu)) (pe_ix ix_tup (pv 0) pe_int (fun _ _=>rfl)) pe_str (nomark _)))) pss_nil)
   (pss_one (ps_ret (pe_and (pe_cmpR op_eq (pe_callB call_len_seq (by rfl) B.len PySem.boot_len (pa_cons (pv 0) pa_nil)) pe_int (nomark _))
    (pe_and (pe_cmpR (op_inD hu) (pe_ix ix_tup (pv 0) pe_int (fun _ _=>rfl)) (pe_tup (pa_cons pe_str (pa_cons pe_str (pa_cons pe_str pa_nil)))) (by with_unfolding_all rfl))
    (pe_one (pe_call GP hr (by rfl) DP.mg DP.fn.kp bP .nil pass0 (pa_cons (pe_ix ix_tup (pv 0) pe_int (fun _ _=>rfl)) pa_nil))))))))),?_⟩
  refine ⟨_,rfl,v,d,rfl,hd,fun H1 s1=>?_⟩
  refine ⟨_,rfl,?_⟩
  by_cases hp:plainD d = true
  ·refine iteB hp ?_
   have e:kindD d = true:=by unfold kindD;rw [hp];rfl
   have:=q H1 s1
   rw [e] at this
   exact this
  ·refine iteC (by simpa using hp) ?_
   have ek:kindD d = moreD d:=by unfold kindD;rw [(by simpa using hp:plainD d = false)];rfl
   rw [ek] at q
   have hd1:=hd.same s1
   have hi:=hd1.is (K:=K)
   by_cases ht:tyD d = "tuple"
   ·obtain ⟨ds,rfl⟩:∃ ds,d = .tup ds:=by
     cases d <;> first | exact ⟨_,rfl⟩ | (simp [tyD] at ht)
    have hd':=hd1
    unfold Rep at hd'
    obtain ⟨a,xs,rfl,ha,hr2⟩:=hd'
    have hl:=hr2.length
    refine ⟨_,rfl,_,_,_,_,rfl,hi.1,kit_eq.trans (show kitTy "tuple" "tuple" = some true by decide +kernel),_,rfl,?_⟩
    refine iteF ?_
    refine ⟨_,rfl,_,_,rfl,.inr (SqT.of ha),rfl,_,rfl,?_⟩
    have e1:decide (V.int (xs.length:Int) = V.int 1) = decide (xs.length = 1):=lenEq (k:=1)
    have e2:decide (V.int (xs.length:Int) = V.int 2) = decide (xs.length = 2):=lenEq (k:=2)
    match ds,hr2,hl,q with
    | [],hr2,hl,q=>
     refine iteC (e1.trans (decide_eq_false (by rw [hl];simp))) ?_
     refine ⟨_,rfl,_,_,rfl,.inr (SqT.of ha),rfl,_,rfl,?_⟩
     refine iteC (e2.trans (decide_eq_false (by rw [hl];simp))) ?_
     exact q H1 s1
    | [d0],hr2,hl,q=>
     refine iteB (e1.trans (decide_eq_true hl)) ?_
     unfold Reps at hr2
     obtain ⟨v0,r0,rfl,h0,hn⟩:=hr2
     unfold Reps at hn
     subst hn
     refine ⟨_,rfl,_,_,_,v0,rfl,rfl,SqT.of ha,rfl,?_⟩
     exact ⟨d0,_,h0,rfl,q H1 s1⟩
    | [d0,d1],hr2,hl,q=>
     refine iteC (e1.trans (decide_eq_false (by rw [hl];simp))) ?_
     unfold Reps at hr2
     obtain ⟨v0,r0,rfl,h0,hn⟩:=hr2
     unfold Reps at hn
     obtain ⟨v1,r1,rfl,h1,hn⟩:=hn
     unfold Reps at hn
     subst hn
     refine ⟨_,rfl,_,_,rfl,.inr (SqT.of ha),rfl,_,rfl,?_⟩
     refine iteB (e2.trans (decide_eq_true hl)) ?_
     refine ⟨_,rfl,_,_,_,v0,rfl,rfl,SqT.of ha,rfl,?_⟩
     refine ⟨(by decide),fun p hp'=>?_⟩
     have sm:=Same.upd (o:=.tup [.str "list",.str "some",.str "once"]) hp'
     have s2:=s1.trans sm
     refine ⟨d0,p,w3,h0.same sm,rfl,upd_same,_,rfl,?_⟩
     have em:moreD (.tup [d0,d1]) = (w3.any (strIs d0) && plainD d1):=rfl
     rw [em] at q
     by_cases c:w3.any (strIs d0) = true
     ·refine iteB c ?_
      rw [c,Bool.true_and] at q
      refine ⟨_,rfl,_,_,_,v1,rfl,rfl,SqT.of (sm _ _ ha),rfl,?_⟩
      exact ⟨v1,d1,rfl,h1.same sm,fun H3 s3=>q H3 (s2.trans s3)⟩
     ·refine iteC (by simpa using c) ?_
      rw [(by simpa using c:w3.any (strIs d0) = false),Bool.false_and] at q
      exact q _ s2
    | d0 :: d1 :: d2 :: r,hr2,hl,q=>
     refine iteC (e1.trans (decide_eq_false (by rw [hl];simp))) ?_
     refine ⟨_,rfl,_,_,rfl,.inr (SqT.of ha),rfl,_,rfl,?_⟩
     refine iteC (e2.trans (decide_eq_false (by rw [hl];simp))) ?_
     exact q H1 s1
   ·have e:(tyD d == "tuple") = false:=beq_eq_false_iff_ne.mpr ht
    refine ⟨_,rfl,_,_,_,_,rfl,hi.1,kit_eq.trans ((kit_tuple _ hi.2).trans (congrArg some e)),_,rfl,?_⟩
    refine iteT ?_
    have hq:moreD d = false:=by
     cases d <;> first | rfl | exact (ht rfl).elim
    have:=q H1 s1
    rw [hq] at this
    exact this
end
end My
namespace L2
open PySem PySem.Spec PyProof.Rows
section
variable {X:Cx} {pins:List (Addr × Obj)} {σ:St} {H:Hp} {s:Shared} {a:Addr} {kvs:List (Key × V)} {o:Obj}
theorem Inv.freeze (I:Inv X pins σ H s) (e:H a = some (.dK kvs)) (ho:s.heap.get? a = some o):Inv X pins σ (upd H a (.frz o (.dK kvs))) s:=by
 have ne:∀ b u,H b = some u->u ≠ .dK kvs->b ≠ a:=fun b u q n z=>by
  subst z
  rw [e] at q
  exact n (Option.some.inj q).symm
 have nn:∀ b,H b = none->b ≠ a:=fun b q z=>by subst z;rw [e] at q;cases q
 refine ⟨I.ok,I.os,I.bare,⟨I.base.keep,I.base.slot,fun b ob q n hx=>?_,I.base.there,fun b xs q=>?_,fun b ob u q=>?_,fun b ps q=>?_⟩,I.loc,I.cell,?_,fun x c q=>?_,fun p hp=>?_,fun b u q=>?_,I.len⟩
 ·have h:=I.base.free b ob q n hx
  rw [upd_ne (nn b h)]
  exact h
 ·have h:=I.base.tups b xs q
  rw [upd_ne (ne b _ h (by simp))]
  exact h
 ·have h:=I.base.frzs b ob u q
  rw [upd_ne (ne b _ h (by simp))]
  exact h
 ·obtain ⟨m,h⟩:=I.base.tbls b ps q
  exact ⟨m,by rw [upd_ne (ne b _ h (by simp))];exact h⟩
 ·rw [upd_ne (nn _ I.free)]
  exact I.free
 ·rw [upd_ne (nn _ (I.freeC x c q))]
  exact I.freeC x c q
 ·obtain ⟨h1,h2,h3⟩:=I.pin p hp
  exact ⟨h1,by rw [upd_ne (nn _ h2)];exact h2,h3⟩
 ·by_cases hb:b = a
  ·subst hb
   rw [upd_same] at q
   cases q
   exact ⟨ho,I.hok b _ e⟩
  ·rw [upd_ne hb] at q
   exact (I.hok b u q).stay (fun c v _ r=>r) (fun c r=>by rw [upd_ne (ne c _ r (by simp))];exact r) fun c xs r=>by rw [upd_ne (ne c _ r (by simp))];exact r
theorem Inv.thaw (I:Inv X pins σ H s) (n0:∀ ob u,X.H₀ a ≠ some (.frz ob u)) (e:H a = some (.frz o (.dK kvs))):Inv X pins σ (upd H a (.dK kvs)) s:=by
 have ne:∀ b u,H b = some u->u ≠ .frz o (.dK kvs)->b ≠ a:=fun b u q n z=>by
  subst z
  rw [e] at q
  exact n (Option.some.inj q).symm
 have nn:∀ b,H b = none->b ≠ a:=fun b q z=>by subst z;rw [e] at q;cases q
 refine ⟨I.ok,I.os,I.bare,⟨I.base.keep,I.base.slot,fun b ob q n hx=>?_,I.base.there,fun b xs q=>?_,fun b ob u q=>?_,fun b ps q=>?_⟩,I.loc,I.cell,?_,fun x c q=>?_,fun p hp=>?_,fun b u q=>?_,I.len⟩
 ·have h:=I.base.free b ob q n hx
  rw [upd_ne (nn b h)]
  exact h
 ·have h:=I.base.tups b xs q
  rw [upd_ne (ne b _ h (by simp))]
  exact h
 ·have h:=I.base.frzs b ob u q
  rw [upd_ne (fun z=>by subst z;exact n0 _ _ q)]
  exact h
 ·obtain ⟨m,h⟩:=I.base.tbls b ps q
  exact ⟨m,by rw [upd_ne (ne b _ h (by simp))];exact h⟩
 ·rw [upd_ne (nn _ I.free)]
  exact I.free
 ·rw [upd_ne (nn _ (I.freeC x c q))]
  exact I.freeC x c q
 ·obtain ⟨h1,h2,h3⟩:=I.pin p hp
  exact ⟨h1,by rw [upd_ne (nn _ h2)];exact h2,h3⟩
 ·by_cases hb:b = a
  ·subst hb
   rw [upd_same] at q
   cases q
   exact (I.hok b _ e).2
  ·rw [upd_ne hb] at q
   exact (I.hok b u q).stay (fun c v _ r=>r) (fun c r=>by rw [upd_ne (ne c _ r (by simp))];exact r) fun c xs r=>by rw [upd_ne (ne c _ r (by simp))];exact r
theorem Inv.dk_obj (I:Inv X pins σ H s) (e:H a = some (.dK kvs)):∃ o,s.heap.get? a = some o:=by
 obtain ⟨_,_,_,_,o,_,_,g,_⟩:=I.hok a _ e
 exact ⟨o,g⟩
theorem Inv.not_frz (I:Inv X pins σ H s) (e:H a = some (.dK kvs)):∀ ob u,X.H₀ a ≠ some (.frz ob u):=fun ob u q=>by
 have:=I.base.frzs a ob u q
 rw [e] at this
 cases this
def frzE (a:Addr) (o:Obj) (kvs:List (Key × V)) (D:Ends):Ends where
 nx:=fun σ' H'=>H' a = some (.frz o (.dK kvs))/\D.nx σ' (upd H' a (.dK kvs))
 rt:=fun v H'=>H' a = some (.frz o (.dK kvs))/\D.rt v (upd H' a (.dK kvs))
 bk:=fun σ' H'=>H' a = some (.frz o (.dK kvs))/\D.bk σ' (upd H' a (.dK kvs))
 ct:=fun σ' H'=>H' a = some (.frz o (.dK kvs))/\D.ct σ' (upd H' a (.dK kvs))
def sFrz (t:TS):TS:=fun D σ H=>∃ a kvs,H a = some (.dK kvs)/\∀ o,t (frzE a o kvs D) σ (upd H a (.frz o (.dK kvs)))
def tFrz (t:TE):TE:=fun σ H Q=>∃ a kvs,H a = some (.dK kvs)/\∀ o,t σ (upd H a (.frz o (.dK kvs))) fun v H'=>H' a = some (.frz o (.dK kvs))/\Q v (upd H' a (.dK kvs))
theorem ps_frz {st:Stmt} {t:TS} (h:PS X st t):PS X st (sFrz t):=by
 intro pins s σ H D I hq
 obtain ⟨a,kvs,e,q⟩:=hq
 obtain ⟨o,ho⟩:=I.dk_obj e
 have n0:=I.not_frz e
 refine thn (h pins s σ _ _ (I.freeze e ho) (q o)) fun f s' hs=>?_
 cases f with
 | next=>obtain ⟨σ',H',I',e',z⟩:=hs;exact ⟨σ',_,I'.thaw n0 e',z⟩
 | brk=>obtain ⟨σ',H',I',e',z⟩:=hs;exact ⟨σ',_,I'.thaw n0 e',z⟩
 | cont=>obtain ⟨σ',H',I',e',z⟩:=hs;exact ⟨σ',_,I'.thaw n0 e',z⟩
 | ret u=>obtain ⟨v,σ',H',I',r,e',z⟩:=hs;exact ⟨v,σ',_,I'.thaw n0 e',r,z⟩
end
def epOf (o:Obj):Nat:=match o.data with
 | .dict _ ep=>ep
 | _=>0
theorem is_kV {P:Program} {w:World}:∀ {k:Key} {u:Value},(mixKind P w).is k u = true->RelV (kV k) u:=by
 intro k u h
 rcases keyIs_shape (k:=k) (v:=u) h with ⟨i,t,rfl,rfl⟩ | ⟨x,t,rfl,rfl⟩
 ·exact ⟨t,rfl⟩
 ·exact ⟨t,rfl⟩
def Itd (a:Addr) (o:Obj) (kvs:List (Key × V)):It:=
 ⟨fun i H=>i < kvs.length/\H a = some (.frz o (.dK kvs)),fun i H x H'=>H' = H/\∃ k v,kvs[i]? = some (k,v)/\x = kV k,fun i H=>kvs.length ≤ i/\H a = some (.frz o (.dK kvs))⟩
section
variable {X:Cx}
theorem kv_get:∀ {kvs:List (Key × V)} {vs:List (Key × Value)} {i:Nat} {p:Key × V},KV kvs vs->kvs[i]? = some p->∃ u,vs[i]? = some (p.1,u)/\RelV p.2 u
 | _,_,_,_,.nil,e=>by simp at e
 | _,_,0,_,.cons (b:=q) r _,e=>by
  simp at e
  subst e
  obtain ⟨q1,q2⟩:=q
  obtain ⟨r1,r2⟩:=r
  exact ⟨q2,by rw [List.getElem?_cons_zero];exact congrArg (fun z=>some (z,q2)) r1.symm,r2⟩
 | _,_,i + 1,p,.cons _ t,e=>by
  obtain ⟨u,h1,h2⟩:=kv_get (i:=i) (p:=p) t (by simpa using e)
  exact ⟨u,by simpa using h1,h2⟩
theorem Inv.dictAt {pins:List (Addr × Obj)} {σ:St} {H:Hp} {s:Shared} {a:Addr} {o:Obj} {kvs:List (Key × V)} (I:Inv X pins σ H s) (e:H a = some (.frz o (.dK kvs))) :
  ∃ vs,KV kvs vs/\s.heap.DictAt (mixKind X.prog X.w) a vs (epOf o)/\(a == sysModules) = false:=by
 obtain ⟨g,_,hs,vs,kv,o',es,ep,g',ex,hd,hk,hp,hn⟩:=I.hok a _ e
 rw [g] at g'
 cases g'
 have he:epOf o = ep:=by unfold epOf;rw [hd]
 exact ⟨vs,kv,⟨o,es,g,ex,by rw [he];exact hd,hk,hp,hn⟩,hs⟩
theorem KV.len {kvs:List (Key × V)} {vs:List (Key × Value)} (r:KV kvs vs):kvs.length = vs.length:=Paired.length r
def iDict (tl:TE):TI:=fun σ H R=>tl σ H fun x H1=>∃ a o kvs,x = .ref a/\H1 a = some (.frz o (.dK kvs))/\R (Itd a o kvs) H1
end
end L2
namespace L2
open PySem PySem.Spec PyProof.Rows
theorem strs_of:∀ {zs:List Str} {us:List Value},Vals (zs.map V.str) us->StrsAre us zs
 | [],_,r=>by rw [List.map_nil] at r;cases r;exact .nil
 | z :: zs,_,r=>by
  rw [List.map_cons] at r
  cases r with
  | cons h t=>
   obtain ⟨k,rfl⟩:=h
   exact .cons _ _ (strs_of t)
theorem vals_strs:∀ {us:List Value} {zs:List Str},StrsAre us zs->Vals (zs.map V.str) us
 | _,_,.nil=>.nil
 | _,_,.cons _ k t=>.cons ⟨_,rfl⟩ (vals_strs t)
section
variable {X:Cx}
end
end L2
namespace L2
open PySem PySem.Spec PyProof.Rows
theorem entry_itemiter_iter:entryFor table "dict_itemiterator.__iter__" = some Builtin.«dict_keyiterator.__iter__»:=
 entryFor_alias (id':="dict_keyiterator.__iter__") (by kernel_rfl) rfl (by decide +kernel) (by kernel_rfl)
theorem iter_itemiter {prog:Program} {w:World} {A:Around} {E:Value->Shared->Prop} {s:Shared} {it d:Addr} {i n ep:Nat} {ok ov:Value} {Q:Value->Shared->Prop} (hit:IsItemIter s.heap it d i n ep ok ov) (h:Q (.ref it) s):wpAny (model prog w) A (pyIter (.ref it)) Q E s:=by
 have hT:s.TypeIs (.ref it) "dict_itemiterator":=⟨_,hit,rfl⟩
 refine wpAny_pyIter_slot hT F.slot_dict_itemiterator_iter (wpAny_call_entry F.slot_dict_itemiterator_iter hT entry_itemiter_iter ?_ (F.args_dict_itemiterator_iter_1 _))
 show wpAny _ _ (ret (.ref it)) _ _ s
 exact wpAny_pure ⟨_,rfl,"dict_itemiterator",_,hT,F.slot_dict_itemiterator_next.lookup,h⟩
def Itm (a:Addr) (o:Obj) (kvs:List (Key × V)):It:=
 ⟨fun i H=>i < kvs.length/\H a = some (.frz o (.dK kvs)),fun i H x H'=>∃ k v p,kvs[i]? = some (k,v)/\x = .ref p/\H p = none/\H' = upd H p (.tup [kV k,v]),fun i H=>kvs.length ≤ i/\H a = some (.frz o (.dK kvs))⟩
section
variable {X:Cx}
theorem turn_items {P:Program} {w:World} {K:PySem.W.Frag} {es:List Expr} {x1:Nat} {tp:Pos} (a it:Addr) (o:Obj) (kvs:List (Key × V)):Turn P w K (.Tuple es x1 tp) (Itm a o kvs) [it] it (fun i h=>∃ ok ov,IsItemIter h it a i kvs.length (epOf o) ok ov) where
 mem:=by simp
 obj:=fun i h st b hb=>by
  have e:b = it:=by simpa using hb
  subst e
  obtain ⟨ok,ov,st⟩:=st
  exact ⟨_,st,fun v z=>by cases z⟩
 keep:=fun i h h' st k=>by
  obtain ⟨ok,ov,st⟩:=st
  exact ⟨ok,ov,k it (by simp) _ st⟩
 item:=by
  intro X hP hw hK hc i pins s σ H E I hf st hg
  subst hP hw hK
  obtain ⟨hi,hq⟩:=hg
  obtain ⟨ok,ov,st⟩:=st
  obtain ⟨vs,kv,da,_⟩:=I.dictAt hq
  have hl:=kv.len
  obtain ⟨u,hu,ru⟩:=kv_get kv (show kvs[i]? = some (kvs[i].1,kvs[i].2) by simp [hi])
  obtain ⟨f0,f1,f2,f3,f4,f5⟩:=hf it (by simp)
  have hit:it < s.heap.objs.size:=Heap.lt_size st
  rw [hl] at st
  refine wpAny_pyNext_items_item st da hu fun key h' hkey st' ht hsz kp=>?_
  refine ⟨_,rfl,?_⟩
  refine wpAny_letOwnedTupleGo_items (s:={ s with heap:=h' }) st' fun h'' st'' sb=>?_
  rw [← hl] at st''
  have I0:Inv X pins σ H { s with heap:=s.heap.update it fun _=>{ cls:=.type "dict_itemiterator",dict:=none,data:=.fields #[.none,.bool false,.ref a,.int (i + 1:Nat) 0,.int kvs.length 0,.int (epOf o) 0,key,u],slots:=#[] } }:=
   I.turned (t':=s.toks) (fun b ob hb e=>by rw [Heap.get?_update_ne _ _ _ _ hb];exact e) f0 f1 f3 f4 f5
  have hp:H s.heap.objs.size = none:=I.hok.fresh (Nat.le_refl _)
  refine ⟨.ref s.heap.objs.size,upd H s.heap.objs.size (.tup [kV kvs[i].1,kvs[i].2]),I0.laid (t':=s.toks) (h':=h'') (fun b ob e=>?_) (by rw [Heap.size_update];exact Nat.le_refl _) ?_,rfl,⟨_,_,_,by simp [hi],rfl,hp,rfl⟩,⟨key,u,st''⟩,fun b hb=>?_⟩
  ·by_cases hb:b = it
   ·subst hb
    rw [Heap.get?_update_self _ st rfl] at e
    rw [← e]
    exact st''
   ·rw [Heap.get?_update_ne _ _ _ _ hb] at e
    exact (sb.2 b hb).trans (kp b ob hb e)
  ·refine ⟨(show 2 ≤ sizeLine by decide),[key,u],.cons (is_kV hkey) (.cons ru .nil),⟨_,(sb.2 _ (Nat.ne_of_gt hit)).trans ht,rfl,_,rfl⟩⟩
  ·have e:b = it:=by simpa using hb
   subst e
   rw [upd_ne (Nat.ne_of_lt hit)]
   exact f0
 done:=by
  intro X hP hw hK hc i pins s σ H E I hf st hg
  subst hP hw hK
  obtain ⟨hi,hq⟩:=hg
  obtain ⟨ok,ov,st⟩:=st
  obtain ⟨vs,kv,da,_⟩:=I.dictAt hq
  have hl:=kv.len
  obtain ⟨f0,f1,f2,f3,f4,f5⟩:=hf it (by simp)
  rw [hl] at st
  exact wpAny_pyNext_items_end (I.ok.hd hc) st da (by simp;omega) fun h' eb=>⟨rfl,I.turned (t':=s.toks) (fun b o hb e=>eb b o hb e) f0 f1 f3 f4 f5⟩
 self:=fun A i s Q E st h=>by
  obtain ⟨ok,ov,st⟩:=st
  exact iter_itemiter st h
def iItems (tl:TE):TI:=fun σ H R=>tl σ H fun x H1=>∃ a o kvs,x = .ref a/\H1 a = some (.frz o (.dK kvs))/\R (Itm a o kvs) H1
theorem pi_items {es:List Expr} {x1:Nat} {tp:Pos} {l:Expr} {tl:TE} {apos cpos:Pos} (hl:PE X l tl) (hbase:attributeBase l "items" X.env (eval l X.env) = eval l X.env:=by rfl) (hline:(apos.endLine == cpos.line) = true:=by rfl) :
  PI X (.Tuple es x1 tp) (.Call (.Attribute l "items" apos) [] [] cpos) (iItems tl):=by
 intro pins s σ H R I h
 refine wpAny_Call_method0_late hbase hline (thn (hl pins s σ H _ I h) fun v s1 ⟨x,H1,I1,r1,q1⟩=>?_)
 obtain ⟨a,o,kvs,e,hq,q⟩:=q1
 subst e
 cases r1
 obtain ⟨vs,kv,da,hs⟩:=I1.dictAt hq
 obtain ⟨g,_⟩:=I1.hok a _ hq
 have ex:o.ExactDict:=by
  obtain ⟨o',es',g',x',_⟩:=id da
  rw [g] at g'
  cases g'
  exact x'
 refine ⟨"dict","dict.items",F.plainAttrs_dict,F.slot_dict_items,F.type_dict_items,da.dictOf.typeIs,(fun b e=>by cases e;exact ⟨o,g,ex.2.1⟩),Calls.callWith_builtin rfl (PySem.evalArgs_none ?_)⟩
 refine call_meetsIn F.slot_dict_items da.dictOf.typeIs F.entry_dict_items (F.args_dict_items_1 _) (meets_dict_items (mixKind X.prog X.w) a hs) ⟨⟨vs,da.dictOf⟩,?_⟩
 have I2:Inv X pins σ H1 { s1 with heap:=s1.heap.push { cls:=.type "dict_items",data:=.fields #[.ref a] } }:=I1.kept (t':=s1.toks) fun b o e=>Heap.get?_push_of_some _ e
 refine wpAny_pyIter_items (s:={ s1 with heap:=s1.heap.push { cls:=.type "dict_items",data:=.fields #[.ref a] } }) (knd:=mixKind X.prog X.w) (kvs:=vs) (ep:=epOf o) ⟨_,Heap.get?_push_size _ rfl,rfl,rfl⟩ (da.push _) ?_
 refine ⟨_,[_],_,_,H1,rfl,I2.kept (t':=s1.toks) fun b o e=>Heap.get?_push_of_some _ e,turn_items a _ o kvs,⟨.none,.none,by rw [kv.len];exact Heap.get?_push_size _ rfl⟩,fun b hb=>?_,q⟩
 have e:=List.mem_singleton.mp hb
 subst e
 exact I2.fpOk (Nat.le_refl _) (I2.hok.fresh (Nat.le_refl _))
theorem for_items {a:Addr} {o:Obj} {kvs:List (Key × V)} {g:TG} {tb:TS} {D:Ends} {σ:St} {H:Hp} (Pv:Nat->St->Hp->Prop) (h0:Pv 0 σ H) (hl:∀ i σ H,i ≤ kvs.length->Pv i σ H->H a = some (.frz o (.dK kvs)))
  (hs:∀ i k v p σ H,kvs[i]? = some (k,v)->Pv i σ H->H p = none->g (.ref p) σ (upd H p (.tup [kV k,v])) fun σ2 H2=>tb { D with nx:=Pv (i + 1),ct:=Pv (i + 1),bk:=D.nx } σ2 H2) (hd:∀ σ H,Pv kvs.length σ H->D.nx σ H) :
  ∃ W:Nat->Nat->St->Hp->Prop,(∃ m,W 0 m σ H)/\∀ i m σ H,W i m σ H →
   ((Itm a o kvs).stop i H/\D.nx σ H)\/((Itm a o kvs).go i H/\∃ N:St->Hp->Prop,(∀ σ' H',N σ' H'->∃ m',m' < m/\W (i + 1) m' σ' H')/\∀ x H',(Itm a o kvs).yld i H x H'->g x σ H' fun σ2 H2=>tb { D with nx:=N,ct:=N,bk:=D.nx } σ2 H2):=by
 refine ⟨fun i m σ H=>m = kvs.length - i/\i ≤ kvs.length/\Pv i σ H,⟨kvs.length,by simp,Nat.zero_le _,h0⟩,?_⟩
 rintro i m σ H ⟨rfl,hi,p⟩
 have q:=hl i σ H hi p
 by_cases hlt:i < kvs.length
 ·refine .inr ⟨⟨hlt,q⟩,Pv (i + 1),fun σ' H' p'=>⟨kvs.length - (i + 1),by omega,rfl,hlt,p'⟩,fun x H' y=>?_⟩
  obtain ⟨k,v,pa,hk,ex,hn,e⟩:=y
  subst e ex
  exact hs i k v pa σ H hk p hn
 ·have e:i = kvs.length:=by omega
  subst e
  exact .inl ⟨⟨Nat.le_refl _,q⟩,hd σ H p⟩
theorem mt_dclear:MtR X "dict.clear" (fun x xs H Q=>∃ a kvs,x = .ref a/\xs = []/\H a = some (.dK kvs)/\Q .non (upd H a (.dK []))):=by
 intro pins s σ H x xs v us Q I rx r h
 obtain ⟨a,kvs,rfl,rfl,e,q⟩:=h
 cases rx
 cases r
 exact d_clear I e fun s' I'=>⟨.non,_,I',rfl,q⟩
theorem call_dict_of:CallR X (.type "dict") (fun xs H Q=>∃ a kvs,xs = [.ref a]/\Rd H a (.dK kvs)/\∀ p,H p = none->Q (.ref p) (upd H p (.dK kvs))):=by
 intro pins s σ H xs us Q I r h
 obtain ⟨a,kvs,rfl,e,q⟩:=h
 obtain ⟨u,rfl,rx⟩:=vals1 r
 cases rx
 exact d_copyOf I e fun p s' hp I'=>⟨.ref p,_,I',rfl,q p hp⟩
end
end L2
namespace L2
open PySem PySem.Spec PyProof.Rows
theorem ObjOk.there {P:Program} {w:World} {H:Hp} {h:Heap} {a:Addr} {o:HO} (x:ObjOk P w H h a o):∃ ob,h.get? a = some ob:=by
 cases o with
 | lst xs=>obtain ⟨_,_,_,_,e⟩:=x;exact ⟨_,e⟩
 | tup xs=>obtain ⟨_,_,_,o,e,_⟩:=x;exact ⟨_,e⟩
 | dK kvs=>obtain ⟨_,_,_,_,o,_,_,e,_⟩:=x;exact ⟨_,e⟩
 | dT kvs=>obtain ⟨_,_,_,_,o,_,_,e,_⟩:=x;exact ⟨_,e⟩
 | set S n=>obtain ⟨o,_,_,_,e,_⟩:=x;exact ⟨_,e⟩
 | ins C dx fs=>obtain ⟨_,_,_,e,_⟩:=x;exact ⟨_,e⟩
 | own y=>exact x
 | xd fs=>obtain ⟨_,⟨_,_,_,e,_⟩,_⟩:=x;exact ⟨_,e⟩
 | met f y=>exact ⟨_,x⟩
 | rng lo hi=>obtain ⟨_,_,_,e⟩:=x;exact ⟨_,e⟩
 | frz ob u=>exact ⟨_,x.1⟩
 | tbl ps=>exact ⟨_,x⟩
 | ext φ=>exact x.2.1
section
variable {X:Cx} {pins:List (Addr × Obj)} {σ:St} {H:Hp} {s:Shared} {h':Heap} {a:Addr} {o:HO}
theorem Inv.none_at (I:Inv X pins σ H s) (hn:s.heap.get? a = none):H a = none:=by
 cases e:H a with
 | none=>rfl
 | some u=>
  obtain ⟨ob,q⟩:=(I.hok a u e).there
  rw [hn] at q
  cases q
theorem Inv.laidAt {t':Nat} (I:Inv X pins σ H s) (k:∀ b u,s.heap.get? b = some u->h'.get? b = some u) (hn:s.heap.get? a = none) (new:ObjOk X.prog X.w (upd H a o) h' a o):Inv X pins σ (upd H a o) { s with heap:=h',toks:=t' }:=by
 have hH:=I.none_at hn
 have ne:∀ b u,s.heap.get? b = some u->b ≠ a:=fun b u q z=>by subst z;rw [hn] at q;cases q
 refine I.un ⟨fun b u q _ _ _=>k b u q,fun b u q _ _ _=>⟨u.slots,k b u q⟩,fun b u q n _=>by rw [upd_ne (ne b u q)];exact n,fun b u q _=>⟨u,k b u q⟩,
  fun b xs q=>by rw [upd_ne (ne_of_none q hH)];exact q,fun b u xs q=>by rw [upd_ne (ne_of_none q hH)];exact q,fun b ps q=>⟨#[],by rw [upd_ne (ne_of_none q hH),q];simp⟩⟩ fun b u q=>?_
 by_cases hb:b = a
 ·subst hb
  rw [upd_same] at q
  cases q
  exact new
 ·rw [upd_ne hb] at q
  exact (I.hok b u q).stay (fun c v _ r=>k c v r) (fun c r=>by rw [upd_ne (ne_of_none r hH)];exact r) fun c xs r=>by rw [upd_ne (ne_of_none r hH)];exact r
end
theorem strs_at:∀ (us:List Value) (zs:List Str),us.length = zs.length->(∀ (j:Nat) (v:Value) (z:Str),us[j]? = some v->zs[j]? = some z->∃ t,v = Value.str z t)->StrsAre us zs
 | [],[],_,_=>.nil
 | [],_ :: _,h,_=>by simp at h
 | _ :: _,[],h,_=>by simp at h
 | u :: us,z :: zs,h,f=>by
  obtain ⟨t,rfl⟩:=f 0 u z rfl rfl
  exact .cons _ _ (strs_at us zs (by simpa using h) fun j v y h1 h2=>f (j + 1) v y (by simpa using h1) (by simpa using h2))
theorem kv_key:∀ {kvs:List (Key × V)} {vs:List (Key × Value)} {i:Nat} {q:Key × Value},KV kvs vs->vs[i]? = some q->(kvs.map (·.1))[i]? = some q.1
 | _,_,_,_,.nil,e=>by simp at e
 | _,_,0,_,.cons r _,e=>by
  simp at e
  subst e
  simp [r.1]
 | _,_,i + 1,q,.cons _ t,e=>by
  have h:=kv_key (i:=i) (q:=q) t (by simpa using e)
  simpa using h
section
variable {X:Cx}
theorem call_sortedD (hc:X.calm = true):CallR X (.builtin "sorted") (fun xs H Q=>∃ p kvs zs,xs = [.ref p]/\Rd H p (.dK kvs)/\kvs.map (·.1) = zs.map Sum.inr/\zs.length < 64/\∀ l ys,H l = none->ys.Perm zs->sortedS ys = true->Q (.ref l) (upd H l (.lst (ys.map V.str)))):=by
 intro pins s σ H xs us Q I r h
 obtain ⟨p,kvs,zs,rfl,hq,hz,h64,q⟩:=h
 obtain ⟨u,rfl,rx⟩:=vals1 r
 cases rx
 obtain ⟨hlen,lo,vs,kv,dd⟩:=hq.ok I.hok
 obtain ⟨ep,da⟩:=dd.dictAt
 have hl:=kv.len
 have hl2:kvs.length = zs.length:=by simpa using congrArg List.length hz
 refine Calls.call_function_entry kind_sorted plain_sorted entry_sorted (args_sorted1 _) ?_
 unfold Builtin.«sorted»
 refine wpAny_bind (m:=checkCount "sorted" 1 1 _) (wpAny_pure ?_)
 refine wpAny_bind (PySem.W.kdu_collect (PySem.W.kdl_dict (knd:=mixKind X.prog X.w) (kvs:=vs) (ep:=ep) lo) (I.ok.hd hc) da (by rw [← hl];exact hlen) fun h' tk acc hk hacc=>?_)
 have hS:StrsAre acc.toList zs:=by
  refine strs_at _ _ (by rw [Array.length_toList,hacc.1,← hl,hl2]) fun j v z h1 h2=>?_
  obtain ⟨k,x,hx,hkv⟩:=hacc.2 j v (by rw [← Array.getElem?_toList];exact h1)
  have hk':=kv_key kv hx
  rw [hz,List.getElem?_map,h2] at hk'
  have e:Sum.inr z = k:=by simpa using hk'
  subst e
  exact is_kV hkv
 have hal:acc.toList.length = zs.length:=by
  rw [Array.length_toList,hacc.1,← hl,hl2]
 refine wpAny_bind (wpAny_newList ?_ (by rw [hal,← hl2];exact hlen))
 have hoL:(h'.push (seqObj "list" acc.toList.toArray 0)).get? h'.objs.size = some (seqObj "list" acc.toList.toArray 0):=Heap.get?_push_size _ rfl
 refine wpAny_bind (wpAny_holding (wpAny_call_entry slot_list_sort ⟨_,hoL,rfl⟩ entry_list_sort (list_sort_treeK (s:={ s with heap:=h'.push (seqObj "list" acc.toList.toArray 0),toks:=tk }) strKind_oneLt hoL hS.keysOf (fun v₁ v₂ rest e=>keyKind_strs (by rw [← e];exact hS)) (by rw [hal];exact h64) fun st' hp hs=>⟨_,rfl,?_⟩) (args_list_sort _)))
 obtain ⟨ss',h1,h2,h3⟩:=sorted_out_str hS hp hs
 obtain ⟨e,he⟩:=sortedHeap_at (out:=(arrOf st').map (·.2)) hoL
 have hn:s.heap.get? h'.objs.size = none:=by
  cases q:s.heap.get? h'.objs.size with
  | none=>rfl
  | some ob=>exact absurd (Heap.lt_size (hk _ _ q)) (Nat.lt_irrefl _)
 refine wpAny_pure ⟨_,rfl,.ref h'.objs.size,_,I.laidAt (t':=tk) (o:=.lst (ss'.map V.str)) (fun b ob q=>?_) hn ?_,rfl,q _ ss' (I.none_at hn) h2 h3⟩
 ·have q':=hk b ob q
  have hlt:=Heap.lt_size q'
  rw [sortedHeap_old (Nat.ne_of_lt hlt) (by rw [size_push'];exact Nat.lt_succ_of_lt hlt)]
  exact Heap.get?_push_of_some _ q'
 ·exact ⟨by rw [List.length_map,h2.length_eq,← hl2];exact hlen,_,e,vals_strs h1,he⟩
end
end L2
namespace L2
open PySem PySem.Spec PyProof.Rows
def Ite (K:PySem.W.Frag) (a:Addr):It:=
 ⟨fun i H=>∃ xs x,SqL K H a xs/\xs[i]? = some x,fun i H x H'=>∃ y p,(∀ xs,SqL K H a xs->xs[i]? = some y)/\x = .ref p/\H p = none/\H' = upd H p (.tup [.int i,y]),fun i H=>∃ xs,SqL K H a xs/\xs.length ≤ i⟩
theorem turn_enum {P:Program} {w:World} {K:PySem.W.Frag} {es:List Expr} {x1:Nat} {tp:Pos} (a e it:Addr) (ne:e ≠ it):Turn P w K (.Tuple es x1 tp) (Ite K a) [e,it] e (fun i h=>(∃ old,IsEnum h e it i old)/\h.IsListIter it a i) where
 mem:=by simp
 obj:=fun i h st b hb=>by
  obtain ⟨⟨old,s1⟩,s2⟩:=st
  rcases List.mem_cons.mp hb with z | z
  ·subst z
   exact ⟨_,s1,fun v z=>by cases z⟩
  ·have z:=List.mem_singleton.mp z
   subst z
   obtain ⟨o,e,c,d⟩:=s2
   exact ⟨o,e,fun v z=>by rw [d] at z;cases z⟩
 keep:=fun i h h' st k=>by
  obtain ⟨⟨old,s1⟩,s2⟩:=st
  exact ⟨⟨old,k e (by simp) _ s1⟩,s2.at fun o e=>k it (by simp) o e⟩
 item:=by
  intro X hP hw hK hc i pins s σ H E I hf st hg
  subst hP hw hK
  obtain ⟨⟨old,s1⟩,s2⟩:=st
  obtain ⟨xs,x,hq,hx⟩:=hg
  obtain ⟨its,rv,p,hz⟩:=I.list hq
  obtain ⟨u,hu,ru⟩:=rv.get hx
  obtain ⟨f0,f1,f2,f3,f4,f5⟩:=hf e (by simp)
  obtain ⟨g0,g1,g2,g3,g4,g5⟩:=hf it (by simp)
  have le:e < s.heap.objs.size:=Heap.lt_size s1
  have li:it < s.heap.objs.size:=by obtain ⟨o,e,_⟩:=s2;exact Heap.lt_size e
  refine wpAny_pyNext_enum_item s1 s2 p.isList (x:=u) (by simpa using hu) ne fun h' st' si' ht hsz kp=>?_
  refine ⟨_,rfl,?_⟩
  refine wpAny_letOwnedTupleGo_enum (s:={ s with heap:=h',toks:=s.toks + 1 }) st' fun h'' st'' sb=>?_
  have si'':h''.IsListIter it a (i + 1):=si'.at fun o q=>(sb.2 it (Ne.symm ne)).trans q
  obtain ⟨oi,ei,ci,di⟩:=id si''
  obtain ⟨oi0,ei0,_⟩:=id s2
  have I0:Inv X pins σ H { s with heap:=s.heap.update e fun _=>{ cls:=.type "enumerate",dict:=none,data:=.fields #[.none,.bool false,.ref it,rawInt ((i:Int) + 1),.none,u],slots:=#[] } }:=
   I.turned (t':=s.toks) (fun b ob hb q=>by rw [Heap.get?_update_ne _ _ _ _ hb];exact q) f0 f1 f3 f4 f5
  have I1:Inv X pins σ H { s with heap:=(s.heap.update e fun _=>{ cls:=.type "enumerate",dict:=none,data:=.fields #[.none,.bool false,.ref it,rawInt ((i:Int) + 1),.none,u],slots:=#[] }).update it fun _=>oi }:=
   I0.turned (t':=s.toks) (fun b ob hb q=>by rw [Heap.get?_update_ne _ _ _ _ hb];exact q) g0 g1 g3 g4 g5
  have hp:H s.heap.objs.size = none:=I.hok.fresh (Nat.le_refl _)
  have foi:oi.isFreed = false:=(Heap.get?_some_iff.mp ei).2
  refine ⟨.ref s.heap.objs.size,upd H s.heap.objs.size (.tup [.int i,x]),I1.laid (t':=s.toks + 1) (h':=h'') (fun b ob q=>?_) (by rw [Heap.size_update,Heap.size_update];exact Nat.le_refl _) ?_,rfl,⟨x,_,fun ys hy=>by rw [I.list_inj hy hq];exact hx,rfl,hp,rfl⟩,⟨⟨u,?_⟩,si''⟩,fun b hb=>?_⟩
  ·by_cases hb:b = it
   ·subst hb
    rw [Heap.get?_update_self _ (show (s.heap.update e _).get? b = some oi0 by rw [Heap.get?_update_ne _ _ _ _ (Ne.symm ne)];exact ei0) foi] at q
    rw [← q]
    exact ei
   ·rw [Heap.get?_update_ne _ _ _ _ hb] at q
    by_cases hb2:b = e
    ·subst hb2
     rw [Heap.get?_update_self _ s1 rfl] at q
     rw [← q]
     exact st''
    ·rw [Heap.get?_update_ne _ _ _ _ hb2] at q
     exact (sb.2 b hb2).trans (kp b ob hb2 hb q)
  ·exact ⟨(show 2 ≤ sizeLine by decide),[.int i s.toks,u],.cons ⟨_,rfl⟩ (.cons ru .nil),⟨_,(sb.2 _ (Nat.ne_of_gt le)).trans ht,rfl,_,rfl⟩⟩
  ·exact st''
  ·rcases List.mem_cons.mp hb with z | z
   ·subst z
    rw [upd_ne (Nat.ne_of_lt le)]
    exact f0
   ·have z:=List.mem_singleton.mp z
    subst z
    rw [upd_ne (Nat.ne_of_lt li)]
    exact g0
 done:=by
  intro X hP hw hK hc i pins s σ H E I hf st hg
  subst hP hw hK
  obtain ⟨⟨old,s1⟩,s2⟩:=st
  obtain ⟨xs,hq,hx⟩:=hg
  obtain ⟨its,rv,p,hz⟩:=I.list hq
  obtain ⟨g0,g1,g2,g3,g4,g5⟩:=hf it (by simp)
  have hl:=rv.length
  exact wpAny_pyNext_enum_end (I.ok.hd hc) s1 s2 p.isList (by simp;omega) fun h' eb=>⟨rfl,I.turned (t':=s.toks) (fun b o hb e=>eb b o hb e) g0 g1 g3 g4 g5⟩
 self:=fun A i s Q E st h=>by
  obtain ⟨⟨old,s1⟩,_⟩:=st
  exact wpAny_pyIter_enum s1 h
section
variable {X:Cx}
theorem boot_enum:bootBuiltins "enumerate" = some (.type "enumerate"):=by decide +kernel
def iEnum (K:PySem.W.Frag) (ta:TA):TI:=fun σ H R=>ta σ H fun vs H1=>∃ a,vs = [.ref a]/\(∃ xs,SqL K H1 a xs)/\R (Ite K a) H1
theorem pi_enum {es:List Expr} {x1:Nat} {tp:Pos} {l:Expr} {ta:TA} {p pos:Pos} (hg:Gl X "enumerate") (hm:X.mg "enumerate" = none) (ha:PA X [l] ta) (hs:starEach [l] X.env = [(false,eval l X.env)]:=by rfl) :
  PI X (.Tuple es x1 tp) (.Call (.Name "enumerate" p) [l] [] pos) (iEnum X.K ta):=by
 intro pins s σ H R I h
 refine Call_ (ld_blt I hg hm boot_enum (PyProof.Rows.callWith_type1 (thn (ha pos pins s σ H _ I h) fun us s1 ⟨vs,H1,I1,r1,q1⟩=>?_) hs rfl))
 obtain ⟨a,e,⟨xs,hq⟩,q⟩:=q1
 subst e
 obtain ⟨u,rfl,rx⟩:=vals1 r1
 cases rx
 obtain ⟨its,rv,pl,hz⟩:=I1.list hq
 refine call_enumerate_list pl.isList fun h' he hi hsz hk=>?_
 have I2:Inv X pins σ H1 { s1 with heap:=h' }:=I1.kept (t':=s1.toks) hk
 refine wpAny_pyIter_enum (s:={ s1 with heap:=h' }) he ?_
 refine ⟨s1.heap.objs.size + 1,[s1.heap.objs.size + 1,s1.heap.objs.size],_,_,H1,rfl,I2,turn_enum a _ _ (Nat.succ_ne_self _),⟨⟨_,he⟩,hi⟩,fun b hb=>?_,q⟩
 have nb:s1.heap.objs.size ≤ b:=by
  rcases List.mem_cons.mp hb with z | z
  ·rw [z];exact Nat.le_succ _
  ·rw [List.mem_singleton.mp z];exact Nat.le_refl _
 exact I1.fpOk nb (I1.hok.fresh nb)
theorem for_enum {K:PySem.W.Frag} {a:Addr} {xs:List V} {g:TG} {tb:TS} {D:Ends} {σ:St} {H:Hp} (Pv:Nat->St->Hp->Prop) (h0:Pv 0 σ H) (hl:∀ i σ H,i ≤ xs.length->Pv i σ H->SqL K H a xs)
  (hs:∀ i x p σ H,xs[i]? = some x->Pv i σ H->H p = none->g (.ref p) σ (upd H p (.tup [.int i,x])) fun σ2 H2=>tb { D with nx:=Pv (i + 1),ct:=Pv (i + 1),bk:=D.nx } σ2 H2) (hd:∀ σ H,Pv xs.length σ H->D.nx σ H) :
  ∃ W:Nat->Nat->St->Hp->Prop,(∃ m,W 0 m σ H)/\∀ i m σ H,W i m σ H →
   ((Ite K a).stop i H/\D.nx σ H)\/((Ite K a).go i H/\∃ N:St->Hp->Prop,(∀ σ' H',N σ' H'->∃ m',m' < m/\W (i + 1) m' σ' H')/\∀ x H',(Ite K a).yld i H x H'->g x σ H' fun σ2 H2=>tb { D with nx:=N,ct:=N,bk:=D.nx } σ2 H2):=by
 refine ⟨fun i m σ H=>m = xs.length - i/\i ≤ xs.length/\Pv i σ H,⟨xs.length,by simp,Nat.zero_le _,h0⟩,?_⟩
 rintro i m σ H ⟨rfl,hi,p⟩
 have q:=hl i σ H hi p
 by_cases hlt:i < xs.length
 ·refine .inr ⟨⟨xs,xs[i],q,by simp [hlt]⟩,Pv (i + 1),fun σ' H' p'=>⟨xs.length - (i + 1),by omega,rfl,hlt,p'⟩,fun x H' y=>?_⟩
  obtain ⟨z,pa,hk,ex,hn,e⟩:=y
  subst e ex
  exact hs i z pa σ H (hk xs q) p hn
 ·have e:i = xs.length:=by omega
  subst e
  exact .inl ⟨⟨xs,q,Nat.le_refl _⟩,hd σ H p⟩
end
end L2
namespace L2
open PySem PySem.Spec PyProof.Rows
def isTx (z:Str):Value->Bool
 | .str a _=>a == z
 | _=>false
theorem count_tx {z:Str}:∀ {us:List Value} {zs:List Str},StrsAre us zs->us.countP (isTx z) = zs.count z
 | _,_,.nil=>rfl
 | _,_,.cons y t r=>by
  rw [List.countP_cons,count_tx r,List.count_cons]
  rfl
section
variable {X:Cx}
theorem mt_count:MtR X "list.count" (fun x xs H Q=>∃ (p:Addr) (zs:List Str) (z:Str),x = .ref p/\xs = [.str z]/\SqL X.K H p (zs.map V.str)/\Q (.int (zs.count z:Nat)) H):=by
 intro pins s σ H x xs v us Q I rx r h
 obtain ⟨p,zs,z,rfl,rfl,hq,q⟩:=h
 cases rx
 obtain ⟨u,rfl,t,rfl⟩:=vals1 r
 obtain ⟨its,r',pl,hz⟩:=I.list hq
 have hS:=strs_of r'
 obtain ⟨⟨c,dd,dt,sl⟩,e,hc,n,hd⟩:=pl.isList
 simp only at hc hd
 subst hc hd
 refine call_meets F.slot_list_count ⟨_,e,rfl⟩ F.entry_list_count (F.args_list_count_2 _ _) (SeqAt.list_countAt p its.toArray n dd sl (.str z t) (isTx z)) ⟨e,fun y hy=>?_,?_⟩
 ·obtain ⟨a,ta,rfl⟩:=hS.all y (by simpa using hy)
  exact SeqAt.EqAt.str_str a ta z t
 ·refine ⟨.int (zs.count z:Nat),H,I.tok _,⟨s.toks,?_⟩,q⟩
  show Value.int (its.toArray.toList.countP (isTx z):Nat) s.toks = Value.int (zs.count z:Nat) s.toks
  rw [List.toList_toArray,count_tx hS]
theorem strs_get:∀ {us:List Value} {zs:List Str} {j:Nat},StrsAre us zs->(h:j < us.length)->∃ a t,us[j] = .str a t/\zs[j]? = some a
 | _,_,_,.nil,h=>by simp at h
 | _,_,0,.cons y t _,_=>⟨y,t,rfl,rfl⟩
 | _,_,j + 1,.cons y t r,h=>by
  obtain ⟨a,t',h1,h2⟩:=strs_get (j:=j) r (by simpa using h)
  exact ⟨a,t',by simpa using h1,by simpa using h2⟩
theorem strs_eq:∀ {us ws:List Value} {zs ys:List Str},StrsAre us zs->StrsAre ws ys->us.length = ws.length->((List.range us.length).all fun j=>(zs[j]? == ys[j]?)) = decide (zs = ys)
 | us,ws,zs,ys,h1,h2,hl=>by
  have l1:us.length = zs.length:=h1.length
  have l2:ws.length = ys.length:=h2.length
  rw [Bool.eq_iff_iff,List.all_eq_true,decide_eq_true_iff]
  constructor
  ·intro h
   apply List.ext_getElem?
   intro j
   by_cases hj:j < us.length
   ·exact eq_of_beq (h j (List.mem_range.mpr hj))
   ·rw [List.getElem?_eq_none (by omega),List.getElem?_eq_none (by omega)]
  ·intro e j _
   rw [e]
   exact beq_self_eq_true _
theorem op_eqTs (hu:X.A.units < cLine):OpR X (compareOp .Eq) (fun x y H Q=>∃ (p b:Addr) (zs ys:List Str),x = .ref p/\y = .ref b/\SqL X.K H p (zs.map V.str)/\SqL X.K H b (ys.map V.str)/\Q (.bl (decide (zs = ys))) H):=by
 intro pins s σ H x y v u Q I rx ry h
 obtain ⟨p,b,zs,ys,rfl,rfl,hp,hb,q⟩:=h
 cases rx
 cases ry
 obtain ⟨its,r1,pl,_⟩:=I.list hp
 obtain ⟨jts,r2,ql,_⟩:=I.list hb
 have h1:=strs_of r1
 have h2:=strs_of r2
 by_cases hl:its.length = jts.length
 ·refine SeqAt.eq_listAt (e:=fun j=>(zs[j]? == ys[j]?)) pl.isList ql.isList (by simpa using hl) hu (fun j g1 g2=>?_) ?_
  ·have g1':j < its.length:=by simpa using g1
   have g2':j < jts.length:=by simpa using g2
   obtain ⟨a,ta,e1,k1⟩:=strs_get h1 g1'
   obtain ⟨c,tc,e2,k2⟩:=strs_get h2 g2'
   have w1:its.toArray[j] = .str a ta:=by simpa using e1
   have w2:jts.toArray[j] = .str c tc:=by simpa using e2
   rw [w1,w2,k1,k2]
   have e:((some a == some c):Bool) = (a == c):=by rw [Bool.eq_iff_iff];simp
   rw [e]
   exact SeqAt.EqAt.str_str a ta c tc
  ·rw [List.size_toArray,strs_eq h1 h2 hl]
   exact ⟨.bl _,H,I,rfl,q⟩
 ·refine SeqAt.eq_list_lengthsAt pl.isList ql.isList (by simpa using hl) hu ⟨.bl (decide (zs = ys)),H,I,?_,q⟩
  have:zs ≠ ys:=fun e=>hl (by rw [show its.length = zs.length from h1.length,show jts.length = ys.length from h2.length,e])
  rw [decide_eq_false this]
  rfl
end
end L2
namespace Srt
open PySem PySem.W PyProof.Rows
structure Ord (N:Nat) (r:Nat->Nat->Bool):Prop where
 asym:∀ a b,a < N->b < N->r a b = true->r b a = false
 trans:∀ a b c,a < N->b < N->c < N->r b a = false->r c b = false->r c a = false
 dist:∀ a b,a < N->b < N->a ≠ b->r a b = true\/r b a = true
def Cmp (N:Nat) (r:Nat->Nat->Bool) (cmp:Nat->Nat->(Bool->Shared->Prop)->Shared->Prop) (P:Shared->Prop):Prop:=
 ∀ (i j:Nat) (C:Bool->Shared->Prop) (s:Shared),i < N->j < N->i ≠ j->P s->(∀ s',P s'->C (r i j) s')->cmp i j C s
def PN (N:Nat) (p:Array Nat):Prop:=p.toList.Perm (List.range N)
def Up (r:Nat->Nat->Bool) (p:Array Nat) (k:Nat):Prop:=∀ i j,i ≤ j->j < k->r (p.getD j 0) (p.getD i 0) = false
def Dn (r:Nat->Nat->Bool) (p:Array Nat) (k:Nat):Prop:=∀ i j,i ≤ j->j < k->r (p.getD i 0) (p.getD j 0) = false
section
variable {N:Nat} {r:Nat->Nat->Bool} {cmp:Nat->Nat->(Bool->Shared->Prop)->Shared->Prop} {P:Shared->Prop} {p:Array Nat}
theorem Ord.refl (O:Ord N r) {a:Nat} (h:a < N):r a a = false:=by
 cases e:r a a with
 | false=>rfl
 | true=>exact (O.asym a a h h e).symm.trans e |>.symm
theorem PN.size (h:PN N p):p.size = N:=by
 have:=h.length_eq
 simpa using this
theorem getD_get {i:Nat} (hi:i < p.size):p.getD i 0 = p[i]:=by simp [Array.getD,hi]
theorem PN.lt (h:PN N p) {i:Nat} (hi:i < N):p.getD i 0 < N:=by
 have hs:=h.size
 rw [getD_get (by omega)]
 have:p[i]'(by omega) ∈ p.toList:=by simp
 exact List.mem_range.mp (h.mem_iff.mp this)
theorem PN.inj (h:PN N p) {i j:Nat} (hi:i < N) (hj:j < N) (e:p.getD i 0 = p.getD j 0):i = j:=by
 have hs:=h.size
 rw [getD_get (by omega),getD_get (by omega)] at e
 have nd:p.toList.Nodup:=h.nodup_iff.mpr List.nodup_range
 rcases Nat.lt_trichotomy i j with h1 | h1 | h1
 ·exact absurd (show p.toList[i]'(by simp;omega) = p.toList[j]'(by simp;omega) by rw [Array.getElem_toList,Array.getElem_toList];exact e) (List.pairwise_iff_getElem.mp nd i j (by simp;omega) (by simp;omega) h1)
 ·exact h1
 ·exact absurd (show p.toList[j]'(by simp;omega) = p.toList[i]'(by simp;omega) by rw [Array.getElem_toList,Array.getElem_toList];exact e.symm) (List.pairwise_iff_getElem.mp nd j i (by simp;omega) (by simp;omega) h1)
theorem asc (O:Ord N r) (hc:Cmp N r cmp P) (hp:PN N p):∀ (f n:Nat) (s:Shared) (Q:Nat->Shared->Prop),1 ≤ n->n + f ≤ N->Up r p n->P s →
  (∀ m s',n ≤ m->m ≤ n + f->(m = n + f\/r (p.getD m 0) (p.getD (m - 1) 0) = true)->Up r p m->P s'->Q m s')->(kas_asc p f n).kasWp cmp Q s
 | 0,n,s,Q,h1,hn,hu,hP,hq=>hq n s (Nat.le_refl _) (Nat.le_refl _) (.inl rfl) hu hP
 | f + 1,n,s,Q,h1,hn,hu,hP,hq=>by
  show cmp _ _ _ s
  refine hc _ _ _ s (hp.lt (by omega)) (hp.lt (by omega)) (fun z=>by have:=hp.inj (by omega) (by omega) z;omega) hP fun s' hs'=>?_
  cases e:r (p.getD n 0) (p.getD (n - 1) 0) with
  | true=>
   dsimp only
   rw [if_pos rfl]
   exact hq n s' (Nat.le_refl _) (by omega) (.inr e) hu hs'
  | false=>
   dsimp only
   rw [if_neg (by decide)]
   refine asc O hc hp f (n + 1) s' Q (by omega) (by omega) (fun i j hij hj=>?_) hs' fun m s'' h2 h3 h4 h5 h6=>hq m s'' (by omega) (by omega) (h4.imp (fun z=>by omega) id) h5 h6
   by_cases hjn:j < n
   ·exact hu i j hij hjn
   ·have ej:j = n:=by omega
    subst ej
    by_cases hi:i = j
    ·subst hi
     exact O.refl (hp.lt (by omega))
    ·exact O.trans _ _ _ (hp.lt (by omega)) (hp.lt (by omega)) (hp.lt (by omega)) (hu i (j - 1) (by omega) (by omega)) e
theorem desc (O:Ord N r) (hc:Cmp N r cmp P) (hp:PN N p):∀ (f n:Nat) (s:Shared) (Q:Array Nat × Nat × Nat->Shared->Prop),1 ≤ n->n + f ≤ N->Dn r p n->P s →
  (∀ m s',n ≤ m->m ≤ n + f->Dn r p m->P s'->Q (p,m,0) s')->(kas_desc f p n 0).kasWp cmp Q s
 | 0,n,s,Q,h1,hn,hu,hP,hq=>hq n s (Nat.le_refl _) (Nat.le_refl _) hu hP
 | f + 1,n,s,Q,h1,hn,hu,hP,hq=>by
  show cmp _ _ _ s
  refine hc _ _ _ s (hp.lt (by omega)) (hp.lt (by omega)) (fun z=>by have:=hp.inj (by omega) (by omega) z;omega) hP fun s' hs'=>?_
  cases e:r (p.getD n 0) (p.getD (n - 1) 0) with
  | true=>
   dsimp only
   rw [if_pos rfl,if_neg (by omega)]
   refine desc O hc hp f (n + 1) s' Q (by omega) (by omega) (fun i j hij hj=>?_) hs' fun m s'' h2 h3 h5 h6=>hq m s'' (by omega) (by omega) h5 h6
   by_cases hjn:j < n
   ·exact hu i j hij hjn
   ·have ej:j = n:=by omega
    subst ej
    by_cases hi:i = j
    ·subst hi
     exact O.refl (hp.lt (by omega))
    ·exact O.trans _ _ _ (hp.lt (by omega)) (hp.lt (by omega)) (hp.lt (by omega)) (O.asym _ _ (hp.lt (by omega)) (hp.lt (by omega)) e) (hu i (j - 1) (by omega) (by omega))
  | false=>
   dsimp only
   rw [if_neg (by decide)]
   show cmp _ _ _ s'
   refine hc _ _ _ s' (hp.lt (by omega)) (hp.lt (by omega)) (fun z=>by have:=hp.inj (by omega) (by omega) z;omega) hs' fun s'' hs''=>?_
   have hd:r (p.getD (n - 1) 0) (p.getD n 0) = true:=by
    rcases O.dist _ _ (hp.lt (i:=n - 1) (by omega)) (hp.lt (i:=n) (by omega)) (fun z=>by have:=hp.inj (by omega) (by omega) z;omega) with h | h
    ·exact h
    ·rw [e] at h;cases h
   dsimp only
   rw [hd,if_pos rfl]
   exact hq n s'' (Nat.le_refl _) (by omega) hu hs''
theorem rev_at {i j:Nat} (hj:j ≤ p.size) (k:Nat):(kas_rev p i j).getD k 0 = if i ≤ k/\k < j then p.getD (i + j - 1 - k) 0 else p.getD k 0:=by
 have h:=getElem?_mirror_all (xs:=p) (i:=i) (j:=j) hj k
 unfold kas_rev
 rw [Array.getD_eq_getD_getElem?,h]
 split <;> rw [Array.getD_eq_getD_getElem?]
theorem rev_pn {i j:Nat} (h:PN N p):PN N (kas_rev p i j):=(Array.perm_iff_toList_perm.mp (mirror_perm p i j _)).trans h
theorem tail3 (O:Ord N r) (hc:Cmp N r cmp P) (hp:PN N p) {n:Nat} {s:Shared} {Q:Nat × Array Nat->Shared->Prop} (h1:1 ≤ n) (hn:n ≤ N) (hd:Dn r p n) (hP:P s)
  (hq:∀ m p' s',n ≤ m->m ≤ N->PN N p'->Up r p' m->P s'->Q (m,p') s'):(kas_tail3 n N p).kasWp cmp Q s:=by
 unfold kas_tail3
 rw [KasT.kasWp_bind]
 have hs:=hp.size
 refine asc O hc (rev_pn hp) (N - n) n s _ h1 (by omega) (fun i j hij hj=>?_) hP fun m s' h2 h3 _ h5 h6=>hq m _ s' h2 (by omega) (rev_pn hp) h5 h6
 rw [rev_at (by omega),rev_at (by omega),if_pos (by omega),if_pos (by omega)]
 exact hd _ _ (by omega) (by omega)
theorem count (O:Ord N r) (hc:Cmp N r cmp P) (hp:PN N p) {s:Shared} {Q:Nat × Array Nat->Shared->Prop} (h1:1 ≤ N) (hP:P s)
  (hq:∀ m p' s',1 ≤ m->m ≤ N->PN N p'->Up r p' m->P s'->Q (m,p') s'):(kas_count N p).kasWp cmp Q s:=by
 unfold kas_count
 rw [KasT.kasWp_bind]
 refine asc O hc hp (N - 1) 1 s _ (Nat.le_refl _) (by omega) (fun i j hij hj=>?_) hP fun m s' h2 h3 h4 h5 h6=>?_
 ·have ei:i = 0:=by omega
  have ej:j = 0:=by omega
  subst ei ej
  exact O.refl (hp.lt (by omega))
 ·by_cases hm:m = N
  ·rw [if_pos (by rw [hm];exact beq_self_eq_true N)]
   exact hq m p s' h2 (by omega) hp h5 h6
  ·rw [if_neg (by rw [beq_iff_eq];exact hm)]
   have hr:r (p.getD m 0) (p.getD (m - 1) 0) = true:=h4.resolve_left (by omega)
   by_cases hm1:m > 1
   ·rw [if_pos hm1]
    show cmp _ _ _ s'
    refine hc _ _ _ s' (hp.lt (by omega)) (hp.lt (by omega)) (fun z=>by have:=hp.inj (by omega) (by omega) z;omega) h6 fun s'' hs''=>?_
    have hd:r (p.getD 0 0) (p.getD (m - 1) 0) = true:=by
     rcases O.dist _ _ (hp.lt (i:=0) (by omega)) (hp.lt (i:=m - 1) (by omega)) (fun z=>by have:=hp.inj (by omega) (by omega) z;omega) with h | h
     ·exact h
     ·rw [h5 0 (m - 1) (by omega) (by omega)] at h;cases h
    dsimp only
    rw [hd,if_pos rfl]
    exact hq m p s'' h2 (by omega) hp h5 hs''
   ·rw [if_neg hm1]
    have em:m = 1:=by omega
    subst em
    unfold kas_descPart
    rw [KasT.kasWp_bind]
    refine desc O hc hp (N - (1 + 1)) (1 + 1) s' _ (by omega) (by omega) (fun i j hij hj=>?_) h6 fun m s'' g2 g3 g5 g6=>?_
    ·by_cases hi:i = j
     ·subst hi
      exact O.refl (hp.lt (by omega))
     ·have ei:i = 0:=by omega
      have ej:j = 1:=by omega
      subst ei ej
      exact O.asym _ _ (hp.lt (by omega)) (hp.lt (by omega)) hr
    ·rw [if_neg (by show ¬ (0 > 0);omega)]
     exact tail3 O hc hp (by show 1 ≤ m;omega) (by show m ≤ N;omega) g5 g6 fun m' p' s3 a1 a2 a3 a4 a5=>hq m' p' s3 (by have:m ≤ m':=a1;omega) a2 a3 a4 a5
theorem place (O:Ord N r) (hc:Cmp N r cmp P) (hp:PN N p) {k:Nat} (hk:k < N) (hu:Up r p k):∀ (f l q:Nat) (s:Shared) (Q:Nat->Shared->Prop),l ≤ q->q ≤ k->q - l ≤ f->(∀ i,i < l->r (p.getD k 0) (p.getD i 0) = false) →
  (∀ i,q ≤ i->i < k->r (p.getD k 0) (p.getD i 0) = true)->P s →
  (∀ m s',m ≤ k->(∀ i,i < m->r (p.getD k 0) (p.getD i 0) = false)->(∀ i,m ≤ i->i < k->r (p.getD k 0) (p.getD i 0) = true)->P s'->Q m s')->(kas_place p k f l q).kasWp cmp Q s
 | 0,l,q,s,Q,hl,hq,hf,lo,hi,hP,h=>h l s (by omega) lo (fun i h1 h2=>hi i (by omega) h2) hP
 | f + 1,l,q,s,Q,hl,hq,hf,lo,hi,hP,h=>by
  unfold kas_place
  by_cases e:l ≥ q
  ·rw [if_pos e]
   exact h l s (by omega) lo (fun i h1 h2=>hi i (by omega) h2) hP
  ·rw [if_neg e]
   show cmp _ _ _ s
   have hm:(l + q) / 2 < q:=by omega
   have hm2:l ≤ (l + q) / 2:=by omega
   refine hc _ _ _ s (hp.lt (by omega)) (hp.lt (by omega)) (fun z=>by have:=hp.inj (by omega) (by omega) z;omega) hP fun s' hs'=>?_
   cases c:r (p.getD k 0) (p.getD ((l + q) / 2) 0) with
   | true=>
    dsimp only
    rw [if_pos rfl]
    refine place O hc hp hk hu f l ((l + q) / 2) s' Q (by omega) (by omega) (by omega) lo (fun i h1 h2=>?_) hs' h
    cases d:r (p.getD k 0) (p.getD i 0) with
    | true=>rfl
    | false=>
     have:=O.trans _ _ _ (hp.lt (i:=(l + q) / 2) (by omega)) (hp.lt (i:=i) (by omega)) (hp.lt (i:=k) (by omega)) (hu _ i h1 h2) d
     rw [this] at c
     cases c
   | false=>
    dsimp only
    rw [if_neg (by decide)]
    refine place O hc hp hk hu f ((l + q) / 2 + 1) q s' Q (by omega) (by omega) (by omega) (fun i h1=>?_) hi hs' h
    exact O.trans _ _ _ (hp.lt (by omega)) (hp.lt (by omega)) (hp.lt (by omega)) (hu i ((l + q) / 2) (by omega) (by omega)) c
theorem bub_at {src d:Nat} (hs:src < p.size) (hd:d ≤ src) (k:Nat):(bubble p src d).getD k 0 = if k = src - d then p.getD src 0 else if src - d < k/\k ≤ src then p.getD (k - 1) 0 else p.getD k 0:=by
 have h:=getElem?_bubble hs d hd k
 rw [Array.getD_eq_getD_getElem?,h,Array.getD_eq_getD_getElem?,Array.getD_eq_getD_getElem?,Array.getD_eq_getD_getElem?]
 by_cases e1:k = src - d
 ·rw [if_pos e1,if_pos e1]
 ·rw [if_neg e1,if_neg e1]
  by_cases e2:src - d < k/\k ≤ src
  ·rw [if_pos e2,if_pos e2]
  ·rw [if_neg e2,if_neg e2]
theorem bin (O:Ord N r) (hc:Cmp N r cmp P):∀ (f:Nat) (p:Array Nat) (k:Nat) (s:Shared) (Q:Array Nat->Shared->Prop),PN N p->k + f = N->Up r p k->P s →
  (∀ p' s',PN N p'->Up r p' N->P s'->Q p' s')->(kas_bin f p k).kasWp cmp Q s
 | 0,p,k,s,Q,hp,hk,hu,hP,h=>h p s hp ((show k = N from hk) ▸ hu) hP
 | f + 1,p,k,s,Q,hp,hk,hu,hP,h=>by
  unfold kas_bin
  rw [KasT.kasWp_bind]
  have hs:=hp.size
  refine place O hc hp (k:=k) (by omega) hu k 0 k s _ (Nat.zero_le _) (Nat.le_refl _) (by omega) (fun i hi=>absurd hi (Nat.not_lt_zero _)) (fun i h1 h2=>absurd h2 (by omega)) hP fun m s' h1 lo hi hs'=>?_
  refine bin O hc f _ (k + 1) s' Q ((Array.perm_iff_toList_perm.mp (bubble_perm p k _)).trans hp) (by omega) (fun i j hij hj=>?_) hs' h
  rw [bub_at (by omega) (by omega),bub_at (by omega) (by omega)]
  have e:k - (k - m) = m:=by omega
  rw [e]
  have hi':∀ i,m ≤ i->i < k->r (p.getD i 0) (p.getD k 0) = false:=fun i a b=>O.asym _ _ (hp.lt (by omega)) (hp.lt (by omega)) (hi i a b)
  by_cases ej:j = m
  ·rw [if_pos ej]
   by_cases ei:i = m
   ·rw [if_pos ei]
    exact O.refl (hp.lt (by omega))
   ·rw [if_neg ei,if_neg (by omega)]
    exact lo i (by omega)
  ·rw [if_neg ej]
   by_cases ei:i = m
   ·rw [if_pos ei,if_pos (by omega)]
    exact hi' (j - 1) (by omega) (by omega)
   ·rw [if_neg ei]
    by_cases bj:m < j/\j ≤ k
    ·rw [if_pos bj]
     by_cases bi:m < i/\i ≤ k
     ·rw [if_pos bi]
      exact hu _ _ (by omega) (by omega)
     ·rw [if_neg bi]
      exact hu _ _ (by omega) (by omega)
    ·rw [if_neg bj,if_neg (by omega)]
     exact hu _ _ hij (by omega)
theorem sort (O:Ord N r) (hc:Cmp N r cmp P) {s:Shared} {Q:Array Nat->Shared->Prop} (h1:1 ≤ N) (hP:P s) (h:∀ p' s',PN N p'->Up r p' N->P s'->Q p' s'):(kas_sort N).kasWp cmp Q s:=by
 unfold kas_sort
 rw [KasT.kasWp_bind]
 refine count O hc (by unfold PN;simp) h1 hP fun m p' s' a1 a2 a3 a4 a5=>?_
 show (if m < N then kas_bin (N - max m 1) p' (max m 1) else .ret p').kasWp cmp Q s'
 have em:max m 1 = m:=by omega
 rw [em]
 by_cases hm:m < N
 ·rw [if_pos hm]
  exact bin O hc _ p' m s' Q a3 (by omega) a4 a5 h
 ·rw [if_neg hm]
  have:m = N:=by omega
  subst this
  exact h p' s' a3 a4 a5
end
end Srt
namespace Srt
open PySem PySem.W PyProof.Rows
def TA1 (h:Heap) (vs:List Value) (zs:List Str):Prop:=vs.length = zs.length/\∀ (i:Nat) (z:Str),zs[i]? = some z->∃ a o t rest n,vs[i]? = some (.ref a)/\h.get? a = some o/\o.cls = .type "tuple"/\o.data = .seq (Value.str z t :: rest).toArray n
def rz (zs:List Str) (i j:Nat):Bool:=decide ((zs.getD i "").cps.toList < (zs.getD j "").cps.toList)
theorem str_ext {a b:Str} (h:a.cps.toList = b.cps.toList):a = b:=by
 cases a
 cases b
 simp at h
 rw [h]
theorem ord_z {zs:List Str} (nd:zs.Nodup):Ord zs.length (rz zs) where
 asym:=fun a b _ _ h=>by
  unfold rz at h ⊢
  rw [decide_eq_true_iff] at h
  rw [decide_eq_false_iff_not]
  exact List.lt_asymm h
 trans:=fun a b c _ _ _ h1 h2=>by
  unfold rz at h1 h2 ⊢
  rw [decide_eq_false_iff_not] at h1 h2 ⊢
  rw [List.not_lt] at h1 h2 ⊢
  exact List.le_trans h1 h2
 dist:=fun a b ha hb n=>by
  unfold rz
  rw [decide_eq_true_iff,decide_eq_true_iff]
  apply Classical.byContradiction
  intro h
  rw [not_or,List.not_lt,List.not_lt] at h
  have e:=str_ext (List.le_antisymm h.2 h.1)
  simp only [List.getD_eq_getElem?_getD,List.getElem?_eq_getElem ha,List.getElem?_eq_getElem hb,Option.getD_some] at e
  rcases Nat.lt_trichotomy a b with q | q | q
  ·exact List.pairwise_iff_getElem.mp nd a b ha hb q e
  ·exact n q
  ·exact List.pairwise_iff_getElem.mp nd b a hb ha q e.symm
section
variable {prog:Program} {w:World} {A:Around} {E:Value->Shared->Prop} {s:Shared}
end
end Srt
namespace L2
open PySem PySem.Spec PyProof.Rows
theorem perm_getD {α:Type} (d:α) (l:List α) {q:List Nat} (h:q.Perm (List.range l.length)):(q.map fun i=>l.getD i d).Perm l:=by
 have h1:=h.map fun i=>l.getD i d
 have e:(List.range l.length).map (fun i=>l.getD i d) = l:=by
  apply List.ext_getElem
  ·simp
  ·intro i a b
   rw [List.getElem_map,List.getElem_range,List.getD_eq_getElem?_getD,List.getElem?_eq_getElem b,Option.getD_some]
 rw [e] at h1
 exact h1
theorem vals_map {xs:List V} {us:List Value} (r:Vals xs us):∀ (q:List Nat),(∀ i ∈ q,i < xs.length)->Vals (q.map fun i=>xs.getD i .non) (q.map fun i=>us.getD i Value.none)
 | [],_=>.nil
 | i :: q,h=>by
  refine .cons ?_ (vals_map r q fun j hj=>h j (List.mem_cons_of_mem _ hj))
  have hi:=h i List.mem_cons_self
  have hu:i < us.length:=by rw [← r.length];exact hi
  obtain ⟨u,e,ru⟩:=r.get (i:=i) (x:=xs[i]) (by simp [hi])
  simp only [List.getD_eq_getElem?_getD,List.getElem?_eq_getElem hi,e,Option.getD_some]
  exact ru
def Rise (zs:List Str):Prop:=zs.Pairwise fun a b=>¬ b.cps.toList < a.cps.toList
section
variable {X:Cx}
end
end L2
namespace L2
open PySem PySem.Spec PyProof.Rows PySem.Builtin PySem.Builtin.Dict
theorem dict_eq_tree (a b:Value):Builtin.«dict.__eq__» ⟨[a,b],[]⟩ = (do
  let (self,other) ← dictSlotArgs "__eq__" ⟨[a,b],[]⟩
  if !(← isInstance other (.type "dict")) then rule s!"dict.{("__eq__" : String)}.not-a-dict";return ← ret .notImplemented
  ret (.bool ((← Dict.samePairs s!"dict.{("__eq__" : String)}" (← addrOf self) (← addrOf other)) == true))):=rfl
theorem sub_dict_dict:isSubtype (.type "dict") (.type "dict") = pure true:=by rw [isSubtype_type];kernel_rfl
section
variable {prog:Program} {w:World} {A:Around} {E:Value->Shared->Prop} {s:Shared} {a b:Addr} {oa ob:Obj} {es fs:Array DictEntry} {ep fp:Nat}
theorem same_pairs {id:String} {Q:Bool->Shared->Prop} (ha:s.heap.get? a = some oa) (da:oa.data = .dict es ep) (hb:s.heap.get? b = some ob) (db:ob.data = .dict fs fp) (na:(a == sysModules) = false) (nb:(b == sysModules) = false) (hsz:es.size = fs.size)
  (hf:∀ (i:Nat) (e:DictEntry),es[i]? = some e->∃ (j:Nat) (f:DictEntry),fs[j]? = some f/\(∀ (R:Option Nat->Shared->Prop),R (some j) s->wpAny (model prog w) A (dictFind b e.key e.hash) R E s)/\∀ (R:Bool->Shared->Prop),R true s->wpAny (model prog w) A (eqBool e.val f.val) R E s)
  (hq:Q true s):wpAny (model prog w) A (Dict.samePairs id a b) Q E s:=by
 unfold Dict.samePairs Dict.showsAll
 simp only [na,nb,Bool.false_eq_true,if_false]
 refine wpAny_bind (wpAny_pure (wpAny_bind (wpAny_pure ?_)))
 refine wpAny_bind (wpAny_dictEntries ha da ?_)
 refine wpAny_bind (wpAny_dictEntries hb db ?_)
 rw [if_neg (by rw [hsz];simp)]
 refine wpAny_bind (wpAny_dictEpoch ha da ?_)
 rw [Std.Legacy.Range.forIn_eq_forIn_range']
 refine wpAny_bind (wpAny_forIn_list _ (fun rest b s'=>b = (none,())/\s' = s/\∀ x ∈ rest,x < es.size) _ (fun i rest b s' hI=>?_) (fun b s' hI=>?_) _ _ ⟨rfl,rfl,fun x hx=>?_⟩)
 ·obtain ⟨rfl,rfl,hl⟩:=hI
  have hi:=hl i List.mem_cons_self
  obtain ⟨j,f,hj,h1,h2⟩:=hf i es[i] (by simp [hi])
  refine wpAny_bind (wpAny_dictEntries ha da ?_)
  have ei:es[i]? = some es[i]:=by simp [hi]
  rw [ei]
  dsimp only
  refine wpAny_bind (wpAny_holding (wpAny_bind (h1 _ ?_)))
  dsimp only
  refine wpAny_bind (wpAny_dictEntries hb db ?_)
  rw [hj]
  dsimp only
  refine wpAny_holding (h2 _ ?_)
  rw [if_neg (by decide)]
  refine wpAny_bind (wpAny_dictEpoch ha da ?_)
  rw [if_neg (by simp)]
  exact wpAny_pure ⟨rfl,rfl,fun x hx=>hl x (List.mem_cons_of_mem _ hx)⟩
 ·obtain ⟨rfl,rfl,_⟩:=hI
  exact wpAny_pure hq
 ·have:=List.mem_range'.mp hx
  obtain ⟨k,hk,rfl⟩:=this
  simp [Std.Legacy.Range.size] at hk ⊢
  omega
end
end L2
namespace L2
open PySem PySem.Spec PyProof.Rows PySem.Builtin PySem.Builtin.Dict
theorem pairs_len {P:Program} {w:World}:∀ {es:List DictEntry} {kvs:List (Key × Value)},Pairs (mixKind P w) es kvs->es.length = kvs.length
 | _,_,.nil=>rfl
 | _,_,.cons _ _ r=>by simp [pairs_len r]
theorem find_str {prog:Program} {w:World} {A:Around} {E:Value->Shared->Prop} {s:Shared} {d:Addr} {o:Obj} {es:Array DictEntry} {ep j:Nat} {x:Str} {t:Tok} {hs:Int} {Q:Option Nat->Shared->Prop} (ho:s.heap.get? d = some o) (hd:o.data = .dict es ep)
  (hall:∀ e ∈ es,∃ z t,e.key = Value.str z t) (hj:es.findIdx? (fun e=>e.key.isStr x) = some j) (h:Q (some j) s):wpAny (model prog w) A (dictFind d (.str x t) hs) Q E s:=by
 obtain ⟨hjs,hjt,_⟩:=Array.findIdx?_eq_some_iff_getElem.mp hj
 have ha:(es.all fun e=>isExactStrKey e.key) = true:=by
  rw [Array.all_eq_true']
  intro e he
  obtain ⟨z,t,q⟩:=hall e he
  rw [q]
  rfl
 obtain ⟨z,tz,ez⟩:=hall es[j] (Array.getElem_mem hjs)
 have zx:z = x:=by
  rw [ez] at hjt
  exact eq_of_beq hjt
 subst zx
 unfold dictFind
 refine wpAny_holding ?_
 refine wpAny_bind (wpAny_dictEntries ho hd ?_)
 dsimp only
 rw [if_pos ha]
 unfold foundByValue
 rw [hj]
 dsimp only
 rw [Array.getElem?_eq_getElem hjs]
 dsimp only
 rw [ez]
 refine wpAny_bind (wpAny_dictEpoch ho hd (wpAny_bind (wpAny_eqBool_str (wpAny_bind (wpAny_dictEpoch ho hd ?_)))))
 rw [if_neg (by simp),if_pos (by simp)]
 exact wpAny_bind (wpAny_rule (wpAny_pure h))
section
variable {A:Around} {s:Shared} {P:Program} {w:World}
theorem eqAt_dicts {a b:Addr} {kvs kws:List (Key × Value)} (da:s.heap.DictOf (mixKind P w) a kvs) (db:s.heap.DictOf (mixKind P w) b kws) (na:(a == sysModules) = false) (nb:(b == sysModules) = false) (hl:kvs.length = kws.length) (tx:∀ (k:Key) (v:Value),(k,v) ∈ kws->∃ x,k = .inr x)
  (he:∀ (k:Key) (v:Value),(k,v) ∈ kvs->∃ v',(k,v') ∈ kws/\SeqAt.EqAt A.in1 s v v' true) (hu:A.units < cLine):SeqAt.EqAt A s (.ref a) (.ref b) true:=by
 by_cases hab:a = b
 ·rw [hab]
  exact SeqAt.EqAt.same _
 refine SeqAt.EqAt.of_refs hab fun prog w' E Q hq=>?_
 obtain ⟨oa,es,ep,ha,xa,dda,ka,pa,nda⟩:=da
 obtain ⟨ob,fs,fp,hb,xb,ddb,kb,pb,ndb⟩:=db
 have Ta:s.TypeIs (.ref a) "dict":=⟨oa,ha,xa.1⟩
 have Tb:s.TypeIs (.ref b) "dict":=⟨ob,hb,xb.1⟩
 have la:es.size = kvs.length:=by have:=pairs_len pa;simpa using this
 have lb:fs.size = kws.length:=by have:=pairs_len pb;simpa using this
 have kb':∀ e ∈ fs,∃ z t,e.key = Value.str z t:=fun e he'=>by
  obtain ⟨m,hm,rfl⟩:=Array.mem_iff_getElem.mp he'
  obtain ⟨⟨k,v⟩,hk⟩:∃ kv,kws[m]? = some kv:=⟨_,List.getElem?_eq_getElem (by omega)⟩
  obtain ⟨g1,_⟩:=pb.get? (i:=m) (e:=fs[m]) (by simp [hm]) hk
  obtain ⟨x,rfl⟩:=tx k v (List.mem_of_getElem? hk)
  rcases keyIs_shape (k:=.inr x) (v:=fs[m].key) g1 with ⟨i,t,q,_⟩ | ⟨z,t,q,q2⟩
  ·cases q
  ·exact ⟨z,t,q2⟩
 refine wpAny_richCompare_same_room Ta Tb F.slot_dict_eq (wpAny_call_entry F.slot_dict_eq Ta F.entry_dict_eq ?_ (F.args_dict_eq_2 _ _)) hu
 rw [dict_eq_tree]
 refine wpAny_bind ?_
 show wpAny _ _ (pure (Value.ref a,Value.ref b)) _ _ _
 refine wpAny_pure ?_
 dsimp only
 refine wpAny_bind (wpAny_isInstance (T:="dict") (b:=true) Tb sub_dict_dict ?_)
 simp only [Bool.not_true,Bool.false_eq_true,if_false]
 refine wpAny_bind (wpAny_pure (wpAny_bind (wpAny_pure (wpAny_bind (same_pairs ha dda hb ddb na nb (by omega) (fun i e ei=>?_) ?_)))))
 ·have hi:i < es.size:=(Array.getElem?_eq_some_iff.mp ei).1
  obtain ⟨⟨k,v⟩,hk⟩:∃ kv,kvs[i]? = some kv:=⟨_,List.getElem?_eq_getElem (by omega)⟩
  obtain ⟨g1,g2⟩:=pa.get? (i:=i) (e:=e) (by simpa using ei) hk
  obtain ⟨k2,g3,g4⟩:=ka e (Array.mem_of_getElem? ei)
  have ek:k2 = k:=(mixKind P w).inj _ _ _ g3 g1
  subst ek
  obtain ⟨v',hv',eq⟩:=he k2 v (List.mem_of_getElem? hk)
  obtain ⟨x,rfl⟩:=tx k2 v' hv'
  obtain ⟨t0,ek0⟩:∃ t,e.key = Value.str x t:=by
   rcases keyIs_shape (k:=.inr x) (v:=e.key) g1 with ⟨i,t,q,_⟩ | ⟨z,t,q,q2⟩
   ·cases q
   ·cases q
    exact ⟨t,q2⟩
  obtain ⟨m,hm⟩:=List.getElem?_of_mem hv'
  have hm':m < fs.size:=by have:=(List.getElem?_eq_some_iff.mp hm).1;omega
  have em:fs.toList[m]? = some fs[m]:=by simp [hm']
  obtain ⟨q1,q2⟩:=pb.get? em hm
  obtain ⟨j,hj⟩:∃ j,fs.findIdx? (fun e=>e.key.isStr x) = some j:=by
   cases z:fs.findIdx? (fun e=>e.key.isStr x) with
   | some j=>exact ⟨j,rfl⟩
   | none=>
    have:=Array.findIdx?_eq_none_iff.mp z fs[m] (Array.getElem_mem hm')
    have q1':fs[m].key.isStr x = true:=by
     rcases keyIs_shape (k:=.inr x) (v:=fs[m].key) q1 with ⟨i,t,q,_⟩ | ⟨z,t,q,q2⟩
     ·cases q
     ·cases q
      rw [q2]
      exact beq_self_eq_true x
    rw [q1'] at this
    cases this
  obtain ⟨hjs,hjt,_⟩:=Array.findIdx?_eq_some_iff_getElem.mp hj
  obtain ⟨⟨k3,v3⟩,hk3⟩:∃ kv,kws[j]? = some kv:=⟨_,List.getElem?_eq_getElem (by omega)⟩
  obtain ⟨r1,r2⟩:=pb.get? (i:=j) (e:=fs[j]) (by simp [hjs]) hk3
  have hjk:(mixKind P w).is (.inr x) fs[j].key = true:=by
   obtain ⟨z,t,q⟩:=kb' fs[j] (Array.getElem_mem hjs)
   rw [q] at hjt ⊢
   have zx:z = x:=eq_of_beq hjt
   rw [zx]
   rw [(mixKind P w).strs (.inr x) x t0 _ (by rw [← ek0];exact g1)]
   exact beq_self_eq_true x
  have e3:k3 = .inr x:=(mixKind P w).inj _ _ _ r1 hjk
  subst e3
  have jm:j = m:=by
   have hj1:(kws.map (·.1))[j]? = some (Sum.inr x):=by rw [List.getElem?_map,hk3];rfl
   have hm1:(kws.map (·.1))[m]? = some (Sum.inr x):=by rw [List.getElem?_map,hm];rfl
   obtain ⟨x1,y1⟩:=List.getElem?_eq_some_iff.mp hj1
   obtain ⟨x2,y2⟩:=List.getElem?_eq_some_iff.mp hm1
   rcases Nat.lt_trichotomy j m with z | z | z
   ·exact absurd (y1.trans y2.symm) (List.pairwise_iff_getElem.mp ndb j m x1 x2 z)
   ·exact z
   ·exact absurd (y2.trans y1.symm) (List.pairwise_iff_getElem.mp ndb m j x2 x1 z)
  subst jm
  rw [hm] at hk3
  cases hk3
  refine ⟨j,fs[j],by simp [hjs],fun R hR=>?_,fun R hR=>?_⟩
  ·rw [ek0]
   exact find_str hb ddb kb' hj hR
  ·rw [g2,r2]
   exact eq prog w' E R hR
 ·exact wpAny_pure ⟨_,rfl,(fun z=>nomatch z),hq⟩
end
end L2
namespace L2
open PySem PySem.Spec PyProof.Rows
inductive Dq (H:Hp):Nat->V->V->Prop
 | non {n:Nat}:Dq H n .non .non
 | bl {n:Nat} {b:Bool}:Dq H n (.bl b) (.bl b)
 | int {n:Nat} {i:Int}:Dq H n (.int i) (.int i)
 | str {n:Nat} {z:Str}:Dq H n (.str z) (.str z)
 | ref {n:Nat} {a:Addr}:Dq H n (.ref a) (.ref a)
 | tup {n:Nat} {a b:Addr} {xs ys:List V} (ha:H a = some (.tup xs)) (hb:H b = some (.tup ys)) (hl:xs.length = ys.length) (h:∀ (i:Nat) (x y:V),xs[i]? = some x->ys[i]? = some y->Dq H n x y):Dq H (n + 1) (.ref a) (.ref b)
 | lst {n:Nat} {a b:Addr} {xs ys:List V} (ha:H a = some (.lst xs)) (hb:H b = some (.lst ys)) (hl:xs.length = ys.length) (h:∀ (i:Nat) (x y:V),xs[i]? = some x->ys[i]? = some y->Dq H n x y):Dq H (n + 1) (.ref a) (.ref b)
 | dct {n:Nat} {a b:Addr} {kvs kws:List (Key × V)} (f:Key->V) (ha:Rd H a (.dK kvs)) (hb:Rd H b (.dK kws)) (hl:kvs.length = kws.length) (tx:∀ (k:Key) (v:V),(k,v) ∈ kws->∃ x,k = .inr x)
   (hf:∀ (k:Key) (v:V),(k,v) ∈ kvs->(k,f k) ∈ kws) (h:∀ (k:Key) (v:V),(k,v) ∈ kvs->Dq H n v (f k)):Dq H (n + 1) (.ref a) (.ref b)
theorem kv_back:∀ {kvs:List (Key × V)} {vs:List (Key × Value)} {k:Key} {u:Value} {i:Nat},KV kvs vs->vs[i]? = some (k,u)->∃ v,kvs[i]? = some (k,v)/\RelV v u
 | _,_,_,_,_,.nil,e=>by simp at e
 | _,_,k,u,0,.cons (a:=p) r _,e=>by
  simp at e
  subst e
  obtain ⟨p1,p2⟩:=p
  obtain ⟨r1,r2⟩:=r
  simp only at r1
  subst r1
  exact ⟨p2,rfl,r2⟩
 | _,_,k,u,i + 1,.cons _ t,e=>by
  obtain ⟨v,h1,h2⟩:=kv_back (i:=i) t (by simpa using e)
  exact ⟨v,by simpa using h1,h2⟩
section
variable {X:Cx} {pins:List (Addr × Obj)} {σ:St} {H:Hp} {s:Shared}
theorem eqAt_Dq (I:Inv X pins σ H s) {n:Nat} {x y:V} (d:Dq H n x y):∀ {u u':Value} {A:Around},RelV x u->RelV y u'->A.units + n < cLine->SeqAt.EqAt A s u u' true:=by
 induction d with
 | non=>intro u u' A r r' _;cases r;cases r';exact SeqAt.EqAt.same _
 | bl=>intro u u' A r r' _;cases r;cases r';exact SeqAt.EqAt.same _
 | @int n i=>
  intro u u' A r r' _
  obtain ⟨t,rfl⟩:=r
  obtain ⟨t',rfl⟩:=r'
  have h:=SeqAt.EqAt.int_int (A:=A) (s:=s) i t i t'
  rwa [beq_self_eq_true] at h
 | @str n z=>
  intro u u' A r r' _
  obtain ⟨t,rfl⟩:=r
  obtain ⟨t',rfl⟩:=r'
  have h:=SeqAt.EqAt.str_str (A:=A) (s:=s) z t z t'
  rwa [beq_self_eq_true] at h
 | ref=>intro u u' A r r' _;cases r;cases r';exact SeqAt.EqAt.same _
 | @tup n a b xs ys ha hb hl h ih=>
  intro u u' A r r' hu
  cases r
  cases r'
  by_cases hab:a = b
  ·rw [hab];exact SeqAt.EqAt.same _
  obtain ⟨its,r1,pl,_⟩:=I.tuple (SqT.of (K:=X.K) ha)
  obtain ⟨jts,r2,ql,_⟩:=I.tuple (SqT.of (K:=X.K) hb)
  have l1:=r1.length
  have l2:=r2.length
  have h0:=SeqAt.RcAt.tuples (A:=A) (e:=fun _=>true) pl ql (by omega) (fun j g1 g2=>?_)
  ·have e:((List.range (min its.toArray.size jts.toArray.size)).all (fun _=>true) && its.toArray.size == jts.toArray.size) = true:=by
    simp
    omega
   rw [e] at h0
   exact SeqAt.EqAt.of_refs hab h0
  ·have g1':j < its.length:=by simpa using g1
   have g2':j < jts.length:=by simpa using g2
   obtain ⟨u1,e1,k1⟩:=r1.get (i:=j) (x:=xs[j]'(by omega)) (by simp)
   obtain ⟨u2,e2,k2⟩:=r2.get (i:=j) (x:=ys[j]'(by omega)) (by simp)
   have w1:its.toArray[j] = u1:=by have:=(List.getElem?_eq_some_iff.mp e1).2;simpa using this
   have w2:jts.toArray[j] = u2:=by have:=(List.getElem?_eq_some_iff.mp e2).2;simpa using this
   rw [w1,w2]
   exact ih j _ _ (by simp) (by simp) k1 k2 (by show A.units + 1 + n < cLine;omega)
 | @lst n a b xs ys ha hb hl h ih=>
  intro u u' A r r' hu
  cases r
  cases r'
  by_cases hab:a = b
  ·rw [hab];exact SeqAt.EqAt.same _
  obtain ⟨its,r1,pl,_⟩:=I.list (xs:=xs) (.inl (.inl ha))
  obtain ⟨jts,r2,ql,_⟩:=I.list (xs:=ys) (.inl (.inl hb))
  have l1:=r1.length
  have l2:=r2.length
  have h0:=SeqAt.RcAt.lists (A:=A) (e:=fun _=>true) pl.isList ql.isList (by simp;omega) (by omega) (fun j g1 g2=>?_)
  ·have e:((List.range its.toArray.size).all (fun _=>true)) = true:=by simp
   rw [e] at h0
   exact SeqAt.EqAt.of_refs hab h0
  ·have g1':j < its.length:=by simpa using g1
   have g2':j < jts.length:=by simpa using g2
   obtain ⟨u1,e1,k1⟩:=r1.get (i:=j) (x:=xs[j]'(by omega)) (by simp)
   obtain ⟨u2,e2,k2⟩:=r2.get (i:=j) (x:=ys[j]'(by omega)) (by simp)
   have w1:its.toArray[j] = u1:=by have:=(List.getElem?_eq_some_iff.mp e1).2;simpa using this
   have w2:jts.toArray[j] = u2:=by have:=(List.getElem?_eq_some_iff.mp e2).2;simpa using this
   rw [w1,w2]
   exact ih j _ _ (by simp) (by simp) k1 k2 (by show A.units + 1 + n < cLine;omega)
 | @dct n a b kvs kws f ha hb hl tx hf h ih=>
  intro u u' A r r' hu
  cases r
  cases r'
  obtain ⟨_,na,vs,kv,da⟩:=dk_rd I.hok ha
  obtain ⟨_,nb,ws,kw,db⟩:=dk_rd I.hok hb
  have l1:=kv.length
  have l2:=kw.length
  refine eqAt_dicts da db na nb (by omega) (fun k v hk=>?_) (fun k v hk=>?_) (by omega)
  ·obtain ⟨i,hi⟩:=List.getElem?_of_mem hk
   obtain ⟨v0,e0,_⟩:=kv_back kw hi
   exact tx k v0 (List.mem_of_getElem? e0)
  ·obtain ⟨i,hi⟩:=List.getElem?_of_mem hk
   obtain ⟨v0,e0,rv⟩:=kv_back kv hi
   have m0:=List.mem_of_getElem? e0
   obtain ⟨m,hm⟩:=List.getElem?_of_mem (hf k v0 m0)
   obtain ⟨u',e1,rv'⟩:=kv_get kw hm
   exact ⟨u',List.mem_of_getElem? e1,ih k v0 m0 rv rv' (by show A.units + 1 + n < cLine;omega)⟩
theorem rc_lists {A:Around} (I:Inv X pins σ H s) {n:Nat} {a b:Addr} {xs ys:List V} (ha:SqL X.K H a xs) (hb:SqL X.K H b ys) (hl:xs.length = ys.length) (h:∀ (i:Nat) (x y:V),xs[i]? = some x->ys[i]? = some y->Dq H n x y) (hu:A.units + n + 1 < cLine) :
  SeqAt.RcAt A s (.ref a) (.ref b) true/\SeqAt.RcNeAt A s (.ref a) (.ref b) false:=by
 obtain ⟨its,r1,pl,_⟩:=I.list ha
 obtain ⟨jts,r2,ql,_⟩:=I.list hb
 have l1:=r1.length
 have l2:=r2.length
 have el:∀ j (g1:j < its.toArray.size) (g2:j < jts.toArray.size),SeqAt.EqAt A.in1 s its.toArray[j] jts.toArray[j] true:=fun j g1 g2=>by
  have g1':j < its.length:=by simpa using g1
  have g2':j < jts.length:=by simpa using g2
  obtain ⟨u1,e1,k1⟩:=r1.get (i:=j) (x:=xs[j]'(by omega)) (by simp)
  obtain ⟨u2,e2,k2⟩:=r2.get (i:=j) (x:=ys[j]'(by omega)) (by simp)
  have w1:its.toArray[j] = u1:=by have:=(List.getElem?_eq_some_iff.mp e1).2;simpa using this
  have w2:jts.toArray[j] = u2:=by have:=(List.getElem?_eq_some_iff.mp e2).2;simpa using this
  rw [w1,w2]
  exact eqAt_Dq I (h j _ _ (by simp) (by simp)) k1 k2 (by show A.units + 1 + n < cLine;omega)
 have e:((List.range its.toArray.size).all (fun _=>true)) = true:=by simp
 have h1:=SeqAt.RcAt.lists (A:=A) (e:=fun _=>true) pl.isList ql.isList (by simp;omega) (by omega) el
 have h2:=SeqAt.RcNeAt.lists (A:=A) (e:=fun _=>true) pl.isList ql.isList (by simp;omega) (by omega) el
 rw [e] at h1 h2
 exact ⟨h1,h2⟩
theorem op_neL:OpR X (compareOp .NotEq) (fun x y H Q=>∃ (n:Nat) (a b:Addr) (xs ys:List V),x = .ref a/\y = .ref b/\SqL X.K H a xs/\SqL X.K H b ys/\xs.length = ys.length/\(∀ (i:Nat) (x y:V),xs[i]? = some x->ys[i]? = some y->Dq H n x y)/\X.A.units + n + 1 < cLine/\Q (.bl false) H):=by
 intro pins s σ H x y v u Q I rx ry h
 obtain ⟨n,a,b,xs,ys,rfl,rfl,ha,hb,hl,hd,hu,q⟩:=h
 cases rx
 cases ry
 exact (rc_lists I ha hb hl hd hu).2 X.prog X.w X.xe _ ⟨.bl false,H,I,rfl,q⟩
end
end L2
namespace L2
open PySem PySem.Spec PyProof.Rows
theorem mt_app {X:Cx}:MtR X "list.append" rAppend:=mt_append
theorem Same.put {H H':Hp} {d:Addr} {o:HO} (s:Same H H') (h:H d = none):Same H (L2.upd H' d o):=fun b u e=>by
 rw [upd_ne (ne_of_none e h)]
 exact s b u e
end L2
namespace My
open PySem L2 PyProof.Rows
theorem cutP {G T:Prop} (h:T->G) (t:T):G:=h t
seal L2.PE L2.PT L2.PW L2.PS L2.PSs L2.PA L2.PI L2.PG L2.PGs L2.OpR L2.UnR L2.CallR L2.IxR L2.SlR L2.MtR L2.PIf L2.PO L2.MtM L2.PC L2.PIp L2.PSet L2.PGet L2.TruR L2.InOp L2.PK
def letters:List Nat:=("abcdefghijklmnopqrstuvwxyz":Str).cps.toList
def nameS (z:Str):Bool:=decide (1 ≤ z.length/\z.length ≤ 8) && z.cps.toList.all fun c=>decide (c ∈ letters)
def spName (K:PySem.W.Frag):Sp:=fun vs H Q _=>∃ (v:V) (n:String),vs = [v]/\Is K H v n/\(∀ z,v = .str z->z.length ≤ sizeLine/\∀ H',Same H H'->Q (.bl (nameS z)) H')/\(n ≠ "str"->Q (.bl false) H)
def spStream:Sp:=fun vs H Q _=>∃ c n:Int,vs = [.int c,.int n]/\0 ≤ n/\n ≤ 60/\∀ (p:Addr) (H':Hp) (l:List Int),Same H H'->H' p = some (.lst (l.map V.int))->(l.length:Int) = n->(∀ x ∈ l,0 ≤ x/\x < 2147483647)->Q (.ref p) H'
theorem atI_mem {l:List Nat} {i:Int} (h0:0 ≤ i) (h1:i < l.length):∃ c,atI l i = some c/\c ∈ l:=by
 obtain ⟨j,rfl⟩:=Int.eq_ofNat_of_zero_le h0
 have hj:j < l.length:=by omega
 exact ⟨l[j],atI_nat (List.getElem?_eq_getElem hj),List.getElem_mem hj⟩
section
variable {P:Program} {w:World} {K:PySem.W.Frag} {mg:Str->Option Value} {base:Heap}
theorem ok_name {f:Addr} {fd:FuncData} (F:Fun K "is_name" "is_name" (top 22) f fd) (B:Bl mg) {uL uN:Value} (hL:mg "LETTERS" = some uL) (rL:RelV (.str "abcdefghijklmnopqrstuvwxyz") uL) (hN:mg "LONGEST_NAME" = some uN) (rN:RelV (.int 8) uN) :
  FnOk P w K mg base CX0 1 f fd ["thing"] (spName K):=by
 have sc:FnScope ["thing"] ["thing"] (defScope (top 22)):=⟨rfl,rfl,rfl,by decide +kernel,rfl,by decide +kernel,by decide +kernel⟩
 refine F.ok sc (fun vs H Q E h=>?_) (fun cdv A outer s H vs Q E hr h=>?_)
 ·obtain ⟨v,n,rfl,_⟩:=h
  rfl
 ·obtain ⟨v,n,rfl,⟨ty,hn⟩,q1,q2⟩:=h
  refine ⟨_,pss_cons (ps_if (PW.pt (pw_or (pt_not (pt_val (pe_callB call_isi (by rfl) B.isi boot_isi (pa_cons (pv 0) (pa_cons (pe_bltn (v:=.ty "str") (by rfl) B.str boot_str rfl) pa_nil)))))
    (pw_or1 (pt_not (pt_chain op_le op_le pe_int (pe_callB call_len_str (by rfl) B.len PySem.boot_len (pa_cons (pv 0) pa_nil)) (pe_glob (by rfl) hN rN)))))) (pss_one (ps_ret pe_bl)) pss_nil)
   (pss_one (ps_ret (pe_callB (call_all rfl) (by rfl) B.all boot_all (pa_cons (pe_comp (osc:=defScope (top 22)) (N0:=["thing"]) (xs:=["sign"]) (fr:=[]) ⟨rfl,by decide +kernel,by decide +kernel,by decide +kernel,by decide,by decide +kernel⟩ rfl rfl rfl (pi_str (pv 0))
    (fun s H fp=>pg_name (i:=0) (show (["sign"]:List Str).Nodup by decide +kernel) rfl (Or.inl rfl)) (fun s H fp=>pif_nil) (fun s H fp=>pe_cmpR op_in_str (pv 0) (pe_glob (by rfl) hL rL) (by with_unfolding_all rfl))) pa_nil)))),?_⟩
  by_cases hs:n = "str"
  ·subst hs
   obtain ⟨z,rfl⟩:=Is.str_of ⟨ty,hn⟩
   obtain ⟨hz,q⟩:=q1 z rfl
   have q0:nameS z = false->Q (.bl false) H:=fun e=>by
    have:=q H (Same.refl H)
    rw [e] at this
    exact this
   refine ⟨_,rfl,_,_,_,_,rfl,ty,kit_eq.trans (show kitTy "str" "str" = some true by decide +kernel),_,rfl,?_⟩
   refine iteF ?_
   refine ⟨_,rfl,_,rfl,hz,_,_,rfl,rfl,_,rfl,?_⟩
   refine ite2 (fun c1=>?_) (fun c1=>?_)
   ·have d1:(1:Int) ≤ z.length:=of_decide_eq_true c1
    refine ⟨_,_,rfl,rfl,_,rfl,?_⟩
    refine ite2 (fun c2=>?_) (fun c2=>?_)
    ·refine q0 ?_
     have d2:¬ ((z.length:Int) ≤ 8):=by
      intro e
      rw [decide_eq_true e] at c2
      cases c2
     have e:decide (1 ≤ z.length/\z.length ≤ 8) = false:=decide_eq_false (by omega)
     unfold nameS
     rw [e]
     rfl
    ·have d2:(z.length:Int) ≤ 8:=by
      by_cases e:(z.length:Int) ≤ 8
      ·exact e
      ·rw [decide_eq_false e] at c2
       exact (c2 rfl).elim
     refine ⟨_,rfl,_,rfl,fun D hD=>?_⟩
     have hlen:z.cps.toList.length = z.cps.size:=Array.length_toList
     refine compW_map z.cps.size (fun i=>.bl (decide (z.cps.toList.getD i 0 ∈ letters))) (fun i σ' Hc=>(∃ a,σ' = [a])/\Hc = upd H D (.lst ((List.range i).map fun i=>.bl (decide (z.cps.toList.getD i 0 ∈ letters))))) hz ⟨⟨none,rfl⟩,rfl⟩ upd_same ?_ ?_
     ·rintro i σ' Hc hi ⟨⟨a,rfl⟩,rfl⟩ hD'
      refine ⟨hi,?_⟩
      rintro x H' ⟨rfl,c,hc,rfl⟩
      refine ⟨_,rfl,_,_,rfl,rfl,?_,hD',⟨_,rfl⟩,upd_upd⟩
      have ec:z.cps.toList.getD i 0 = c:=by
       rw [List.getD_eq_getElem?_getD,Array.getElem?_toList,hc]
       rfl
      rw [ec]
      exact congrArg V.bl (StrLaws.found_one "abcdefghijklmnopqrstuvwxyz" c)
     ·rintro σ' Hc ⟨_,rfl⟩ hDn
      refine ⟨Nat.le_refl _,?_⟩
      refine ⟨D,z.cps.toList.map fun c=>decide (c ∈ letters),rfl,SqL.of ?_,?_⟩
      ·rw [upd_same,← hlen,range_map_getD z.cps.toList 0 (fun c=>V.bl (decide (c ∈ letters))),List.map_map]
       rfl
      ·have e:nameS z = (z.cps.toList.map fun c=>decide (c ∈ letters)).all id:=by
        unfold nameS
        rw [decide_eq_true (show 1 ≤ z.length/\z.length ≤ 8 by omega),Bool.true_and,List.all_map]
        rfl
       rw [← e]
       exact q _ (Same.upd hD)
   ·refine ⟨_,rfl,?_⟩
    refine iteT ?_
    refine q0 ?_
    have d1:¬ ((1:Int) ≤ z.length):=fun e=>c1 (decide_eq_true e)
    have e:decide (1 ≤ z.length/\z.length ≤ 8) = false:=decide_eq_false (by omega)
    unfold nameS
    rw [e]
    rfl
  ·have e:(n == "str") = false:=beq_eq_false_iff_ne.mpr hs
   refine ⟨_,rfl,_,_,_,_,rfl,ty,kit_eq.trans ((kit_str n hn).trans (congrArg some e)),_,rfl,?_⟩
   refine iteT ?_
   exact q2 hs
theorem ok_stream {f:Addr} {fd:FuncData} (F:Fun K "_law_stream" "_law_stream" (top 43) f fd) (B:Bl mg):FnOk P w K mg base CX0 1 f fd ["_law_cell_here","_law_many"] spStream:=by
 have sc:FnScope ["_law_cell_here","_law_many","_law_found","_law_number","_law_k"] ["_law_cell_here","_law_many"] (defScope (top 43)):=⟨rfl,rfl,rfl,by decide +kernel,rfl,by decide +kernel,by decide +kernel⟩
 refine F.ok sc (fun vs H Q E h=>?_) (fun cdv A outer s H vs Q E hr h=>?_)
 ·obtain ⟨c,n,rfl,_⟩:=h
  rfl
 ·obtain ⟨c,n,rfl,n0,n1,q⟩:=h
  refine ⟨_,pss_cons (ps_set (i:=2) sc.nd rfl (Or.inl rfl) (pe_lst pa_nil))
   (pss_cons (ps_set (i:=3) sc.nd rfl (Or.inl rfl) (pe_op op_add (pe_op op_mod (pv 0) pe_int) pe_int))
   (pss_cons (ps_for PassesOwn.never rfl (pi_range1 rfl B.range (pa_cons (pv 1) pa_nil)) (pg_name (i:=4) sc.nd rfl (Or.inl rfl))
    (pss_cons (ps_set (i:=3) sc.nd rfl (Or.inl rfl) (pe_op op_mod (pe_op op_add (pe_op op_add (pe_op op_mul (pv 3) (pv 3)) (pe_op op_mul pe_int (pv 3))) (pv 4)) pe_int))
    (pss_one (ps_expr (pe_bm PySem.F.plainAttrs_list PySem.F.slot_list_append PySem.F.type_list_append mt_app (pv 2) (pa_cons (pv 3) pa_nil))))))
   (pss_one (ps_ret (pv 2))))),?_⟩
  refine ⟨Nat.zero_le _,fun d hd=>?_⟩
  refine ⟨_,rfl,_,_,rfl,rfl,(pos rfl),_,_,rfl,rfl,?_⟩
  have c0:=Int.emod_nonneg c (show (2147483647:Int) ≠ 0 by decide)
  have c1:=Int.emod_lt_of_pos c (show (0:Int) < 2147483647 by decide)
  refine ⟨_,rfl,_,rfl,(by omega),(by omega),for_range (fun i σ H'=>∃ (l:List Int) (m:Int) (u:Option V),σ = [some (.int c),some (.int n),some (.ref d),some (.int m),u]/\Same H H'/\H' d = some (.lst (l.map V.int))/\l.length = i/\0 ≤ m/\m < 2147583647/\∀ x ∈ l,0 ≤ x/\x < 2147483647) ⟨[],_,none,rfl,Same.upd hd,upd_same,rfl,by omega,by omega,fun x hx=>nomatch hx⟩ ?_ ?_⟩
  ·rintro i σ H' hi ⟨l,m,u,rfl,s1,h1,hl,m0,m1,hx⟩
   have hi':i < 60:=by omega
   refine ⟨_,rfl,_,rfl,_,_,rfl,rfl,.inl ⟨by omega,by omega⟩,_,rfl,_,_,rfl,rfl,.inl ⟨by decide,by decide⟩,_,_,rfl,rfl,_,rfl,_,_,rfl,rfl,_,_,rfl,rfl,(pos rfl),?_⟩
   have r0:0 ≤ ((m * m + 48271 * m + (0 + (i:Int))) % 2147483647):=Int.emod_nonneg _ (by decide)
   have r1:((m * m + 48271 * m + (0 + (i:Int))) % 2147483647) < 2147483647:=Int.emod_lt_of_pos _ (by decide)
   refine ⟨_,rfl,.inl ⟨rfl,_,SqL.of h1⟩,_,rfl,d,_,_,rfl,rfl,h1,?_,?_⟩
   ·rw [List.length_map,hl,sizeLine_eq];omega
   ·refine ⟨l ++ [((m * m + 48271 * m + (0 + (i:Int))) % 2147483647)],_,_,rfl,s1.put hd,?_,by simp [hl],r0,Int.lt_trans r1 (by decide),fun x hx'=>?_⟩
    ·rw [upd_same,List.map_append]
     rfl
    ·rcases List.mem_append.mp hx' with h | h
     ·exact hx x h
     ·have:x = ((m * m + 48271 * m + (0 + (i:Int))) % 2147483647):=by simpa using h
      rw [this]
      exact ⟨r0,r1⟩
  ·rintro σ H' ⟨l,m,u,rfl,s1,h1,hl,m0,m1,hx⟩
   exact ⟨_,rfl,q d H' l s1 h1 (by omega) hx⟩
end
def letN (i:Int):Nat:=(letters[(i % 26).toNat]?).getD 0
theorem let_len:letters.length = 26:=by decide +kernel
theorem letN_at (i:Int):atI letters (i % 26) = some (letN i)/\letN i ∈ letters:=by
 have h0:=Int.emod_nonneg i (show (26:Int) ≠ 0 by decide)
 have h1:=Int.emod_lt_of_pos i (show (0:Int) < 26 by decide)
 obtain ⟨n,hn⟩:=Int.eq_ofNat_of_zero_le h0
 have hl:n < letters.length:=by rw [let_len];omega
 have e:letN i = letters[n]:=by
  unfold letN
  rw [hn,Int.toNat_natCast,List.getElem?_eq_getElem hl]
  rfl
 rw [e,hn]
 exact ⟨atI_nat (List.getElem?_eq_getElem hl),List.getElem_mem hl⟩
theorem let_nd:letters.Nodup:=by decide +kernel
theorem letN_inj {i j:Int} (h:letN i = letN j):i % 26 = j % 26:=by
 have a0:=Int.emod_nonneg i (show (26:Int) ≠ 0 by decide)
 have a1:=Int.emod_lt_of_pos i (show (0:Int) < 26 by decide)
 have b0:=Int.emod_nonneg j (show (26:Int) ≠ 0 by decide)
 have b1:=Int.emod_lt_of_pos j (show (0:Int) < 26 by decide)
 obtain ⟨n,hn⟩:=Int.eq_ofNat_of_zero_le a0
 obtain ⟨m,hm⟩:=Int.eq_ofNat_of_zero_le b0
 have hl:n < letters.length:=by rw [let_len];omega
 have hk:m < letters.length:=by rw [let_len];omega
 unfold letN at h
 rw [hn,hm,Int.toNat_natCast,Int.toNat_natCast,List.getElem?_eq_getElem hl,List.getElem?_eq_getElem hk] at h
 have:n = m:=(List.getElem_inj let_nd).mp h
 omega
def AllL (l:List Nat):Prop:=∀ c ∈ l,c ∈ letters
theorem nameS_of {z:Str} (h:AllL z.cps.toList) (h1:1 ≤ z.length) (h8:z.length ≤ 8):nameS z = true:=by
 unfold nameS
 rw [decide_eq_true ⟨h1,h8⟩,Bool.true_and,List.all_eq_true]
 exact fun c hc=>decide_eq_true (h c hc)
theorem zlen (z:Str):z.cps.toList.length = z.length:=by simp [Str.length]
def nmA (b:Str) (x:Int) (i:Nat):Str:=Txt.slice b none (some (1 + ((0 + (i:Int)) + x) % 8))
theorem nmA_ok {b:Str} {x:Int} {i:Nat} (hb:b.length = 8) (ha:AllL b.cps.toList):(nmA b x i).cps.toList = b.cps.toList.take (1 + ((0 + (i:Int)) + x) % 8).toNat/\nameS (nmA b x i) = true/\((nmA b x i).length:Int) = 1 + ((0 + (i:Int)) + x) % 8:=by
 have h0:=Int.emod_nonneg ((0 + (i:Int)) + x) (show (8:Int) ≠ 0 by decide)
 have h1:=Int.emod_lt_of_pos ((0 + (i:Int)) + x) (show (0:Int) < 8 by decide)
 have e:(nmA b x i).cps.toList = b.cps.toList.take (1 + ((0 + (i:Int)) + x) % 8).toNat:=slice_to b (by omega) (by rw [hb];omega)
 have hl:((nmA b x i).length:Int) = 1 + ((0 + (i:Int)) + x) % 8:=by
  rw [← zlen,e,List.length_take,zlen,hb]
  omega
 refine ⟨e,nameS_of (fun c hc=>?_) (by omega) (by omega),hl⟩
 rw [e] at hc
 exact ha c (List.mem_of_mem_take hc)
theorem nmA_nd {b:Str} {x:Int} {m:Nat} (hb:b.length = 8) (ha:AllL b.cps.toList) (hm:m ≤ 8):((List.range m).map (nmA b x)).Nodup:=by
 rw [List.Nodup,List.pairwise_map]
 refine List.Pairwise.imp_of_mem ?_ List.nodup_range
 intro i j hi hj hne he
 have hi':=List.mem_range.mp hi
 have hj':=List.mem_range.mp hj
 have e1:=(nmA_ok (i:=i) (x:=x) hb ha).2.2
 have e2:=(nmA_ok (i:=j) (x:=x) hb ha).2.2
 rw [he,e2] at e1
 omega
def nmB (b:Str) (x at_ sz:Int) (i:Nat):Str:=Txt.slice b none (some at_) ++ ⟨#[letN (x + (0 + (i:Int)))]⟩ ++ Txt.slice b (some (at_ + 1)) (some sz)
theorem nmB_ok {b:Str} {x at_ sz:Int} {i:Nat} (hb:b.length = 8) (ha:AllL b.cps.toList) (a0:0 ≤ at_) (a1:at_ < sz) (s8:sz ≤ 8) :
  (nmB b x at_ sz i).cps.toList = b.cps.toList.take at_.toNat ++ letN (x + (0 + (i:Int))) :: (b.cps.toList.drop (at_ + 1).toNat).take (sz - (at_ + 1)).toNat/\nameS (nmB b x at_ sz i) = true:=by
 have e1:(Txt.slice b none (some at_)).cps.toList = b.cps.toList.take at_.toNat:=slice_to b a0 (by rw [hb];omega)
 have e2:(Txt.slice b (some (at_ + 1)) (some sz)).cps.toList = (b.cps.toList.drop (at_ + 1).toNat).take (sz - (at_ + 1)).toNat:=by
  have e:Txt.slice b (some (at_ + 1)) (some sz) = StrLaws.sliceText b (some (at_ + 1)) (some sz):=rfl
  rw [e,StrLaws.sliceText_plain ⟨by omega,by omega,by rw [zlen,hb];omega⟩]
 have e:(nmB b x at_ sz i).cps.toList = b.cps.toList.take at_.toNat ++ letN (x + (0 + (i:Int))) :: (b.cps.toList.drop (at_ + 1).toNat).take (sz - (at_ + 1)).toNat:=by
  unfold nmB
  rw [Str.cps_append,Str.cps_append,Array.toList_append,Array.toList_append,e1,e2,List.append_assoc]
  rfl
 have hl:(nmB b x at_ sz i).length = (b.cps.toList.take at_.toNat ++ letN (x + (0 + (i:Int))) :: (b.cps.toList.drop (at_ + 1).toNat).take (sz - (at_ + 1)).toNat).length:=by rw [← e,zlen]
 rw [List.length_append,List.length_cons,List.length_take,List.length_take,List.length_drop,zlen,hb] at hl
 refine ⟨e,nameS_of (fun c hc=>?_) (by omega) (by omega)⟩
 rw [e] at hc
 rcases List.mem_append.mp hc with h | h
 ·exact ha c (List.mem_of_mem_take h)
 ·rcases List.mem_cons.mp h with h | h
  ·rw [h];exact (letN_at _).2
  ·exact ha c (List.mem_of_mem_drop (List.mem_of_mem_take h))
theorem nmB_nd {b:Str} {x at_ sz:Int} {m:Nat} (hb:b.length = 8) (ha:AllL b.cps.toList) (a0:0 ≤ at_) (a1:at_ < sz) (s8:sz ≤ 8) (hm:m ≤ 26):((List.range m).map (nmB b x at_ sz)).Nodup:=by
 rw [List.Nodup,List.pairwise_map]
 refine List.Pairwise.imp_of_mem ?_ List.nodup_range
 intro i j hi hj hne he
 have hi':=List.mem_range.mp hi
 have hj':=List.mem_range.mp hj
 have e1:=(nmB_ok (i:=i) (x:=x) hb ha a0 a1 s8).1
 have e2:=(nmB_ok (i:=j) (x:=x) hb ha a0 a1 s8).1
 rw [he,e2] at e1
 have e3:=List.append_cancel_left e1
 have e4:letN (x + (0 + (j:Int))) = letN (x + (0 + (i:Int))):=by injection e3
 have:=letN_inj e4
 omega
def spLetE:Sp:=fun vs H Q _=>∃ c:Int,vs = [.int c]/\Q (.str ⟨#[letN c]⟩) H
def spNames:Sp:=fun vs H Q _=>∃ c m:Int,vs = [.int c,.int m]/\0 ≤ m/\m ≤ 12/\∀ (p:Addr) (H':Hp) (zs:List Str),Same H H'->H' p = some (.lst (zs.map V.str))->(zs.length:Int) = m->zs.Nodup->(∀ z ∈ zs,nameS z = true)->Q (.ref p) H'
section
variable {P:Program} {w:World} {K:PySem.W.Frag} {mg:Str->Option Value} {base:Heap}
theorem ok_letE {f:Addr} {fd:FuncData} (F:Fun K "_law_letter" "_law_letter" (top 44) f fd):FnOk P w K mg base CX0 1 f fd ["_law_cell_here"] spLetE:=by
 have sc:FnScope ["_law_cell_here"] ["_law_cell_here"] (defScope (top 44)):=⟨rfl,rfl,rfl,by decide +kernel,rfl,by decide +kernel,by decide +kernel⟩
 refine F.ok sc (fun vs H Q E h=>?_) (fun cdv A outer s H vs Q E hr h=>?_)
 ·obtain ⟨c,rfl,_⟩:=h
  rfl
 ·obtain ⟨c,rfl,q⟩:=h
  refine ⟨_,pss_one (ps_ret (pe_ix ix_str pe_str (pe_op op_mod (pv 0) pe_int) (fun _ _=>rfl))),?_⟩
  exact ⟨_,rfl,_,_,rfl,rfl,(pos rfl),_,_,_,rfl,rfl,(by decide +kernel),(letN_at c).1,q⟩
def nmN:List Str:=["_law_cell_here","_law_many","_law_xs","_law_base","_law_k","_law_size","_law_at_here","_law_names_here","_law_sign"]
theorem ok_names {f fT fL:Addr} {fd fdT fdL:FuncData} (F:Fun K "_law_names" "_law_names" (top 45) f fd) (B:Bl mg) (DT:Df K mg "_law_stream" (top 43) fT fdT) (DL:Df K mg "_law_letter" (top 44) fL fdL):FnOk P w K mg base CX0 2 f fd ["_law_cell_here","_law_many"] spNames:=by
 have sc:FnScope nmN ["_law_cell_here","_law_many"] (defScope (top 45)):=⟨rfl,rfl,rfl,by decide +kernel,rfl,by decide +kernel,by decide +kernel⟩
 have GT:FnOk P w K mg base CX0 1 fT fdT ["_law_cell_here","_law_many"] spStream:=ok_stream DT.fn B
 have GL:FnOk P w K mg base CX0 1 fL fdL ["_law_cell_here"] spLetE:=ok_letE DL.fn
 have bT:=DT.fn.binds (ps:=["_law_cell_here","_law_many"]) fun _ _ _ _ _ _ us hl=>by obtain ⟨v0,v1,rfl⟩:=L2.ln2 hl;rfl
 have bL:=DL.fn.binds (ps:=["_law_cell_here"]) fun _ _ _ _ _ _ us hl=>by obtain ⟨v0,rfl⟩:=L2.ln1 hl;rfl
 refine F.ok sc (fun vs H Q E h=>?_) (fun cdv A outer s H vs Q E hr h=>?_)
 ·obtain ⟨c,m,rfl,_⟩:=h
  rfl
 ·obtain ⟨c,m,rfl,m0,m12,q⟩:=h
  refine ⟨_,pss_cons (ps_set (i:=2) sc.nd rfl (Or.inr rfl) (pe_call GT hr (by rfl) DT.mg DT.fn.kp bT .nil pass0 (pa_cons (pv 0) (pa_cons pe_int pa_nil))))
   (pss_cons (ps_set (i:=3) sc.nd rfl (Or.inr rfl) pe_str)
   (pss_cons (ps_for PassesOwn.never rfl (pi_range1 rfl B.range (pa_cons pe_int pa_nil)) (pg_name (i:=4) sc.nd rfl (Or.inl rfl))
    (pss_one (ps_set (i:=3) sc.nd rfl (Or.inr rfl) (pe_op op_add_str (pv 3) (pe_call GL hr (by rfl) DL.mg DL.fn.kp bL .nil pass0 (pa_cons (pe_ix ix_list (pv 2) (pv 4) (fun _ _=>rfl)) pa_nil))))))
   (pss_cons (ps_if (PW.pt (pw_and (pt_cmpR op_eq (pe_op op_mod (pe_ix ix_list (pv 2) pe_int (fun _ _=>rfl)) pe_int) pe_int (nomark _)) (pw_and1 (pt_cmpR op_le (pv 1) pe_int (nomark _)))))
    (pss_one (ps_ret (pe_comp (osc:=defScope (top 45)) (N0:=nmN) (xs:=["_law_k"]) (fr:=[3,2]) ⟨rfl,by decide +kernel,by decide +kernel,by decide +kernel,(fun j hj=>by
       have e:j = 3\/j = 2:=by simpa using hj
       rcases e with rfl | rfl
       ·exact ⟨_,rfl,by decide +kernel⟩
       ·exact ⟨_,rfl,by decide +kernel⟩),by decide +kernel⟩ rfl rfl rfl (pi_range1 rfl B.range (pa_cons (pv 1) pa_nil))
      (fun s H fp=>pg_name (i:=0) (show (["_law_k","_law_base","_law_xs"]:List Str).Nodup by decide +kernel) rfl (Or.inl rfl)) (fun s H fp=>pif_nil)
      (fun s H fp=>pe_slice sl_str (pv 1) po_none (po_some (pe_op op_add pe_int (pe_op op_mod (pe_op op_add (pv 0) (pe_ix (r:=rIxL K) ix_list (pv 2) pe_int (fun _ _=>rfl))) pe_int))))))) pss_nil)
   (pss_cons (ps_set (i:=5) sc.nd rfl (Or.inl rfl) (pe_op op_add pe_int (pe_op op_mod (pe_ix ix_list (pv 2) pe_int (fun _ _=>rfl)) pe_int)))
   (pss_cons (ps_set (i:=6) sc.nd rfl (Or.inl rfl) (pe_op op_mod (pe_ix ix_list (pv 2) pe_int (fun _ _=>rfl)) (pv 5)))
   (pss_cons (ps_set (i:=7) sc.nd rfl (Or.inl rfl) (pe_lst pa_nil))
   (pss_cons (ps_for PassesOwn.never rfl (pi_range1 rfl B.range (pa_cons (pv 1) pa_nil)) (pg_name (i:=4) sc.nd rfl (Or.inl rfl))
    (pss_cons (ps_set (i:=8) sc.nd rfl (Or.inl rfl) (pe_call GL hr (by rfl) DL.mg DL.fn.kp bL .nil pass0 (pa_cons (pe_op op_add (pe_ix ix_list (pv 2) (pv 6) (fun _ _=>rfl)) (pv 4)) pa_nil)))
    (pss_one (ps_expr (pe_bm PySem.F.plainAttrs_list PySem.F.slot_list_append PySem.F.type_list_append mt_app (pv 7) (pa_cons (pe_op op_add_str (pe_op op_add_str (pe_slice sl_str (pv 3) po_none (po_some (pv 6))) (pv 8)) (pe_slice sl_str (pv 3) (po_some (pe_op op_add (pv 6) pe_int)) (po_some (pv 5)))) pa_nil))))))
   (pss_one (ps_ret (pv 7)))))))))),?_⟩
  refine ⟨_,rfl,c,11,rfl,(by decide),(by decide),fun x H1 l s1 hx hl11 hl=>?_⟩
  have hl':l.length = 11:=by omega
  have atl:∀ j:Nat,j < 11->∃ e:Int,atI (l.map V.int) (j:Int) = some (.int e)/\0 ≤ e/\e < 2147483647:=fun j hj=>by
   have hj':j < l.length:=by omega
   exact ⟨l[j],atI_nat (by rw [List.getElem?_map,List.getElem?_eq_getElem hj'];rfl),hl _ (List.getElem_mem hj')⟩
  refine ⟨_,rfl,(by decide),(by decide),for_range (fun i σ H'=>H' = H1/\∃ (b:Str) (u:Option V),σ = [some (.int c),some (.int m),some (.ref x),some (.str b),u,none,none,none,none]/\AllL b.cps.toList/\b.length = i) ⟨rfl,_,_,rfl,(fun c hc=>by
   have:("":Str).cps.toList = []:=by decide +kernel
   rw [this] at hc
   cases hc),by decide⟩ ?_ ?_⟩
  ·rintro i σ H' hi ⟨rfl,b,u,rfl,hb,hbl⟩
   have hi':i < 8:=by omega
   obtain ⟨e,he,_⟩:=atl i (by omega)
   have he':atI (l.map V.int) (0 + (i:Int)) = some (.int e):=by rw [Int.zero_add];exact he
   refine ⟨_,rfl,_,rfl,_,rfl,_,_,_,_,rfl,rfl,SqL.of hx,he',e,rfl,_,_,rfl,rfl,(by rw [sizeLine_eq];show b.length + 1 ≤ _;omega),rfl,_,_,rfl,?_,?_⟩
   ·intro c' hc'
    rw [Str.cps_append,Array.toList_append] at hc'
    rcases List.mem_append.mp hc' with h | h
    ·exact hb c' h
    ·have:c' = letN e:=by simpa using h
     rw [this]
     exact (letN_at e).2
   ·rw [Str.length_append,hbl]
    rfl
  ·rintro σ H' ⟨rfl,b,u,rfl,hb,hbl⟩
   have hb8:b.length = 8:=by omega
   have hbs:b.length ≤ sizeLine:=by rw [sizeLine_eq];omega
   obtain ⟨x8,a8,_⟩:=atl 8 (by decide)
   obtain ⟨x9,a9,x90,_⟩:=atl 9 (by decide)
   obtain ⟨x10,a10,x100,_⟩:=atl 10 (by decide)
   apply cutP
   ·intro sec
    refine ⟨_,rfl,_,_,8,_,rfl,rfl,SqL.of hx,a8,_,_,rfl,rfl,(pos rfl),rfl,_,rfl,?_⟩
    refine ite2 (fun h1=>?_) (fun _=>iteF sec)
    refine ⟨_,rfl,_,_,rfl,rfl,_,rfl,?_⟩
    refine ite2 (fun h2=>?_) (fun _=>sec)
    have m8:m ≤ 8:=of_decide_eq_true h2
    refine ⟨_,rfl,_,rfl,(by omega),(by omega),fun D hD=>?_⟩
    refine compW_map m.toNat (fun i=>.str (nmA b x9 i)) (fun i σ' Hc=>(∃ t,σ' = [t,some (.str b),some (.ref x)])/\Same H' Hc) (by rw [sizeLine_eq];omega) ⟨⟨none,rfl⟩,Same.upd hD⟩ upd_same ?_ ?_
    ·rintro i σ' Hc hi ⟨⟨t,rfl⟩,sm⟩ hD'
     have him:(i:Int) < m:=by omega
     refine ⟨hi,?_⟩
     rintro y H'' ⟨rfl,rfl⟩
     have hxc:=sm _ _ hx
     refine ⟨_,rfl,_,rfl,_,rfl,_,_,9,_,rfl,rfl,SqL.of hxc,a9,_,_,rfl,rfl,_,_,rfl,rfl,(pos rfl),_,_,rfl,rfl,_,rfl,_,rfl,hbs,?_⟩
     exact ⟨rfl,hD',⟨_,rfl⟩,sm.put hD⟩
    ·rintro σ' Hc ⟨_,sm⟩ hDn
     refine ⟨Nat.le_refl _,?_⟩
     have e1:(List.range m.toNat).map (fun i=>V.str (nmA b x9 i)) = ((List.range m.toNat).map (nmA b x9)).map V.str:=by rw [List.map_map];rfl
     rw [e1] at hDn
     refine q D Hc _ (s1.trans sm) hDn (by rw [List.length_map,List.length_range];omega) (nmA_nd hb8 hb (by omega)) (fun z hz=>?_)
     obtain ⟨i,_,rfl⟩:=List.mem_map.mp hz
     exact (nmA_ok hb8 hb).2.1
   ·have z0:=Int.emod_nonneg x9 (show (8:Int) ≠ 0 by decide)
    have z1:=Int.emod_lt_of_pos x9 (show (0:Int) < 8 by decide)
    have t0:=Int.emod_nonneg x10 (show (1 + x9 % 8:Int) ≠ 0 by omega)
    have t1:=Int.emod_lt_of_pos x10 (show (0:Int) < 1 + x9 % 8 by omega)
    refine ⟨_,rfl,_,_,9,_,rfl,rfl,SqL.of hx,a9,_,_,rfl,rfl,(pos rfl),_,_,rfl,rfl,?_⟩
    refine ⟨_,rfl,_,_,10,_,rfl,rfl,SqL.of hx,a10,_,rfl,_,_,rfl,rfl,(by omega),?_⟩
    refine ⟨Nat.zero_le _,fun d hd=>?_⟩
    have hx2:=(Same.upd (o:=.lst []) hd) _ _ hx
    have hd1:H d = none:=by
     cases e:H d with
     | none=>rfl
     | some o=>rw [s1 _ _ e] at hd;cases hd
    obtain ⟨n,hn⟩:=Int.eq_ofNat_of_zero_le t0
    obtain ⟨xa,axa,_⟩:=atl n (by omega)
    have axa':atI (l.map V.int) (x10 % (1 + x9 % 8)) = some (.int xa):=by rw [hn];exact axa
    refine ⟨_,rfl,_,rfl,(by omega),(by omega),for_range (fun i σ H2=>∃ (u4 u8:Option V),σ = [some (.int c),some (.int m),some (.ref x),some (.str b),u4,some (.int (1 + x9 % 8)),some (.int (x10 % (1 + x9 % 8))),some (.ref d),u8]/\Same H H2/\H2 x = some (.lst (l.map V.int))/\H2 d = some (.lst (((List.range i).map (nmB b xa (x10 % (1 + x9 % 8)) (1 + x9 % 8))).map V.str))) ⟨_,_,rfl,s1.trans (Same.upd hd),hx2,upd_same⟩ ?_ ?_⟩
    ·rintro i σ H2 hi ⟨u4,u8,rfl,s2,hx2,hd2⟩
     have hne:x ≠ d:=fun e=>by rw [e,hd] at hx;cases hx
     have l1:=Txt.slice_le b none (some (x10 % (1 + x9 % 8)))
     have l2:=Txt.slice_le b (some (x10 % (1 + x9 % 8) + 1)) (some (1 + x9 % 8))
     refine ⟨_,rfl,_,rfl,_,_,_,_,rfl,rfl,SqL.of hx2,axa',_,rfl,_,_,rfl,rfl,_,rfl,?_⟩
     refine ⟨_,rfl,.inl ⟨rfl,_,SqL.of hd2⟩,_,rfl,_,rfl,_,rfl,_,rfl,hbs,_,rfl,_,_,rfl,rfl,?_,_,rfl,_,rfl,_,_,rfl,rfl,_,rfl,_,rfl,_,rfl,_,rfl,hbs,_,_,rfl,rfl,?_,d,_,_,rfl,rfl,hd2,?_,?_⟩
     ·rw [sizeLine_eq];show _ + 1 ≤ _;omega
     ·rw [sizeLine_eq,Str.length_append];show _ + 1 + _ ≤ _;omega
     ·rw [List.length_map,List.length_map,List.length_range,sizeLine_eq];omega
     ·refine ⟨_,_,rfl,s2.put hd1,by rw [upd_ne hne];exact hx2,?_⟩
      rw [upd_same,List.range_succ,List.map_append,List.map_append]
      rfl
    ·rintro σ H2 ⟨u4,u8,rfl,s2,hx2,hd2⟩
     refine ⟨_,rfl,q d H2 _ s2 hd2 (by rw [List.length_map,List.length_range];omega) (nmB_nd hb8 hb t0 t1 (by omega) (by omega)) (fun z hz=>?_)⟩
     obtain ⟨i,_,rfl⟩:=List.mem_map.mp hz
     exact (nmB_ok hb8 hb t0 t1 (by omega)).2
end
end My
namespace L2
open PySem PySem.Spec PyProof.Rows PySem.Builtin PySem.Builtin.Dict
theorem tup_no_keys:typeLookup (.type "tuple") "keys" = pure none:=am_miss_of_fast (by decide +kernel)
theorem miss_keys {prog:Program} {w:World} {A:Around} {E:Value->Shared->Prop} {s:Shared} {a:Addr} {o:Obj} {xs:Array Value} {k:Nat} {Q:Option Value->Shared->Prop}
  (hx:s.heap.get? a = some o) (hc:o.cls = .type "tuple") (hdat:o.data = .seq xs k) (hd:o.dict = none) (hA:A.handled = none)
  (h:∀ h' tk,(∀ b ob,s.heap.get? b = some ob->h'.get? b = some ob)->Q none { s with heap:=h',toks:=tk }):wpAny (model prog w) A (getAttr? (.ref a) "keys") Q E s:=by
 obtain ⟨c,dct,dat,sl⟩:=o
 simp only at hc hdat hd
 subst hc hdat hd
 obtain ⟨hp,g,d,tk,os⟩:=s
 have hT:∀ tk',(⟨hp,g,d,tk',os⟩:Shared).TypeIs (.ref a) "tuple":=fun _=>⟨_,hx,rfl⟩
 have f1:=sub_AttributeError
 have f3:=F.slot_tuple_getattribute.lookup
 have f4:=F.slot_tuple_getattribute.bind (.ref a)
 have f5:=am_tuple_getattr_none
 unfold getAttr? getAttrBy? getAttrBy
 repeat (any_goals (first | assumption | exact hT _ | ((with_reducible show wpAny _ _ (call (Value.builtin "tuple.__getattribute__") _ _) _ _ _);refine call_meets F.slot_tuple_getattribute (hT _) am_entry_tuple_getattribute (F.args_tuple_getattribute_2 _ _) (meets_getattribute_miss_tuple a xs k sl "keys" _ tup_no_keys (by decide +kernel) (by size_fits)) ⟨hx,hA,fun h' tk' e hx'=>?_⟩) | wp_step))
 obtain ⟨t',u',he⟩:=hx'.there
 show wpAny _ _ (getattributeRaised _ _ _ _ _ _ _) _ _ _
 unfold getattributeRaised
 repeat (any_goals (first | assumption | wp_step))
 exact h _ _ hx'.keeps
theorem entry_upd_loop:entryFor table "dict.update.loop" = some Builtin.«dict.update.loop»:=entryFor_of_tree (by kernel_rfl)
section
variable {prog:Program} {w:World} {A:Around} {R:Result->Shared->Prop}
theorem upd_loop {h0:Heap} {d it t:Addr} {items:Array Value} {ps:List (Key × Value)} (hh:A.handled = none) (ht:h0.IsTuple t items) (tne:t ≠ it/\t ≠ d) (idne:it ≠ d) (hl:ps.length = items.size) (hz:items.size ≤ 1000)
  (hp:∀ (j:Nat) (k:Key) (v:Value),ps[j]? = some (k,v)->∃ a o key n,items[j]? = some (.ref a)/\h0.get? a = some o/\o.cls = .type "tuple"/\o.data = .seq #[key,v] n/\(mixKind prog w).is k key = true/\a ≠ it/\a ≠ d)
  (nd:(ps.map (·.1)).Nodup):∀ (m i:Nat) (tk:Tok) (s:Shared),i + m = items.size->s.heap.IsTupleIter it t i->s.heap.DictOf (mixKind prog w) d (ps.take i)->(∀ b o,b ≠ it->b ≠ d->h0.get? b = some o->s.heap.get? b = some o) →
  (∀ (h':Heap) (k:Nat),h'.DictOf (mixKind prog w) d ps->(∀ b o,b ≠ it->b ≠ d->h0.get? b = some o->h'.get? b = some o)->R (.ok (.ret .none)) { s with heap:=h',toks:=k }) →
  codeAny (model prog w) A (.builtin "dict.update.loop" ⟨[.ref d,.ref it,.int i tk,.none],[]⟩) R s
 | 0,i,tk,s,hi,hit,hd,kp,hq=>by
  refine codeAny_builtin entry_upd_loop ?_
  unfold Builtin.«dict.update.loop»
  dsimp only
  obtain ⟨o,ho,hc,n,hdt⟩:=id ht
  refine wpAny_bind (wpAny_pyNext_tuple_end (items:=items) hh hit ⟨o,kp t o tne.1 tne.2 ho,hc,n,hdt⟩ (by rw [Array.getElem?_eq_none (by omega)]) fun h' ex=>?_)
  dsimp only
  refine wpAny_bind (wpAny_pure (wpAny_pure ?_))
  have e:ps.take i = ps:=List.take_of_length_le (by omega)
  rw [e] at hd
  exact hq h' s.toks (hd.extBut ex idne.symm) fun b o hb1 hb2 q=>ex b o hb1 (kp b o hb1 hb2 q)
 | m + 1,i,tk,s,hi,hit,hd,kp,hq=>by
  refine codeAny_builtin entry_upd_loop ?_
  unfold Builtin.«dict.update.loop»
  dsimp only
  obtain ⟨o,ho,hc,n,hdt⟩:=id ht
  obtain ⟨⟨k,v⟩,hk⟩:∃ kv,ps[i]? = some kv:=⟨_,List.getElem?_eq_getElem (by omega)⟩
  obtain ⟨a,oa,key,na,e1,e2,e3,e4,e5,e6,e7⟩:=hp i k v hk
  refine wpAny_bind (wpAny_pyNext_tuple_item (items:=items) hit ⟨o,kp t o tne.1 tne.2 ho,hc,n,hdt⟩ e1 fun h1 it1 sb=>?_)
  dsimp only
  have ha1:h1.get? a = some oa:=(sb.2 a e6).trans (kp a oa e6 e7 e2)
  have hd1:h1.DictOf (mixKind prog w) d (ps.take i):=by
   obtain ⟨od,es,ep,g,r⟩:=hd
   exact ⟨od,es,ep,(sb.2 d idne.symm).trans g,r⟩
  refine wpAny_bind (wpAny_holding (wpAny_bind (wpAny_tryCatch ?_)))
  unfold Dict.pairItems
  refine wpAny_bind (wpAny_typeOf (T:="tuple") ⟨oa,ha1,e3⟩ ?_)
  rw [if_pos (by decide)]
  refine wpAny_bind (wpAny_seqItems ha1 e4 (wpAny_pure ?_))
  show wpAny _ _ (holding [key,v] (dictSet d key v)) _ _ _
  refine wpAny_holding (wpAny_dictSet_pairs (knd:=mixKind prog w) (k:=k) e5 hd1 (fun h2 hd2 sb2=>?_) (by rw [List.length_take,sizeLine_eq];omega))
  refine wpAny_pure ⟨Code.quiet_builtin _ (by decide +kernel),?_⟩
  have es:stored (ps.take i) k v = ps.take (i + 1):=by
   have no:((ps.take i).any fun kv=>decide (kv.1 = k)) = false:=by
    rw [List.any_eq_false]
    intro kv hkv
    rw [decide_eq_true_iff]
    intro ek
    obtain ⟨j,hj,ej⟩:=List.mem_take_iff_getElem.mp hkv
    have hj2:j < ps.length:=by omega
    have hij:j < i:=by omega
    have hi2:i < ps.length:=by omega
    have ei:ps[i] = (k,v):=(List.getElem?_eq_some_iff.mp hk).2
    refine List.pairwise_iff_getElem.mp nd j i (by simpa using hj2) (by simpa using hi2) hij ?_
    rw [List.getElem_map,List.getElem_map,ej,ei,ek]
   unfold stored
   rw [if_neg (by rw [no];decide),List.take_add_one,hk]
   rfl
  rw [es] at hd2
  exact upd_loop hh ht tne idne hl hz hp nd m (i + 1) _ _ (by omega) (by
   obtain ⟨oi,g1,g2⟩:=it1
   exact ⟨oi,(sb2.2 it idne).trans g1,g2⟩) hd2 (fun b o hb1 hb2 q=>(sb2.2 b hb2).trans ((sb.2 b hb1).trans (kp b o hb1 hb2 q))) fun h' k' x y=>hq h' k' x y
end
theorem pick {α β:Type}:∀ (l:List α) (P:Nat->α->β->Prop),(∀ (j:Nat) (x:α),l[j]? = some x->∃ u,P j x u)->∃ us:List β,us.length = l.length/\∀ (j:Nat) (x:α),l[j]? = some x->∃ u,us[j]? = some u/\P j x u
 | [],_,_=>⟨[],rfl,fun j x e=>by simp at e⟩
 | y :: l,P,h=>by
  obtain ⟨u,hu⟩:=h 0 y rfl
  obtain ⟨us,hl,hs⟩:=pick l (fun j=>P (j + 1)) fun j x e=>h (j + 1) x (by simpa using e)
  refine ⟨u :: us,by simp [hl],fun j x e=>?_⟩
  cases j with
  | zero=>
   simp at e
   subst e
   exact ⟨u,rfl,hu⟩
  | succ j=>
   obtain ⟨v,h1,h2⟩:=hs j x (by simpa using e)
   exact ⟨v,by simpa using h1,h2⟩
theorem kv_of:∀ {kvs:List (Key × V)} {ps:List (Key × Value)},ps.length = kvs.length->(∀ (j:Nat) (k:Key) (v:V),kvs[j]? = some (k,v)->∃ u,ps[j]? = some (k,u)/\RelV v u)->KV kvs ps
 | [],[],_,_=>.nil
 | [],_ :: _,h,_=>by simp at h
 | _ :: _,[],h,_=>by simp at h
 | (k,v) :: kvs,(k',u') :: ps,h,f=>by
  obtain ⟨u,e,r⟩:=f 0 k v rfl
  simp at e
  obtain ⟨rfl,rfl⟩:=e
  exact .cons ⟨rfl,r⟩ (kv_of (by simpa using h) fun j k v e=>f (j + 1) k v (by simpa using e))
end L2
namespace L2
open PySem PySem.Spec PyProof.Rows PySem.Builtin PySem.Builtin.Dict
section
variable {X:Cx}
theorem call_tupleF:CallR X (.type "tuple") (fun xs H Q=>∃ p ys,xs = [.ref p]/\SqL X.K H p ys/\∀ l o,H l = none->o.dict = none->Q (.ref l) (upd H l (.frz o (.tup ys)))):=by
 intro pins s σ H xs us Q I r h
 obtain ⟨p,ys,rfl,hq,q⟩:=h
 obtain ⟨u,rfl,rx⟩:=vals1 r
 cases rx
 obtain ⟨its,r',pl,hz⟩:=I.list hq
 have hlen:=r'.length
 refine call_tuple_list pl.isList (fun h' kp=>?_) (by simp only [List.size_toArray] <;> omega)
 have I1:Inv X pins σ H { s with heap:=h' }:=I.kept (t':=s.toks) kp
 have I2:Inv X pins σ (upd H h'.objs.size (.frz { cls:=.type "tuple",data:=.seq its.toArray } (.tup ys))) { s with heap:=h'.push { cls:=.type "tuple",data:=.seq its.toArray } }:=
  I1.laid (t':=s.toks) (fun b o e=>Heap.get?_push_of_some _ e) (Nat.le_refl _) (show ObjOk X.prog X.w _ _ _ (.frz _ (.tup ys)) from ⟨Heap.get?_push_size _ rfl,hz,its,r',IsTup.new _ _⟩)
 exact ⟨.ref h'.objs.size,_,I2,rfl,q _ _ (I1.hok.fresh (Nat.le_refl _)) rfl⟩
theorem call_dictT (hc:X.calm = true):CallR X (.type "dict") (fun xs H Q=>∃ (t:Addr) (o:Obj) (ys:List V) (kvs:List (Key × V)),xs = [.ref t]/\H t = some (.frz o (.tup ys))/\o.dict = none/\ys.length ≤ 1000/\kvs.length = ys.length ∧
  (∀ (j:Nat) (k:Key) (v:V),kvs[j]? = some (k,v)->∃ a,ys[j]? = some (.ref a)/\SqT X.K H a [kV k,v])/\(kvs.map (·.1)).Nodup/\∀ p,H p = none->Q (.ref p) (upd H p (.dK kvs))):=by
 intro pins s σ H xs us Q I r h
 obtain ⟨t,o,ys,kvs,rfl,ht,hod,hys,hkl,hp,nd,q⟩:=h
 obtain ⟨u,rfl,rx⟩:=vals1 r
 cases rx
 obtain ⟨g,hz,its,r',tp⟩:=I.hok t _ ht
 obtain ⟨o',g',hcl,n,hdat⟩:=tp
 rw [g] at g'
 cases g'
 have hlen:=r'.length
 have hh:=I.ok.hd hc
 have hpk:∃ ps:List (Key × Value),ps.length = kvs.length/\∀ (j:Nat) (kv:Key × V),kvs[j]? = some kv->∃ u,ps[j]? = some u/\(u.1 = kv.1/\RelV kv.2 u.2/\∃ a oa key na,its[j]? = some (.ref a)/\s.heap.get? a = some oa/\oa.cls = .type "tuple"/\oa.data = .seq #[key,u.2] na/\(mixKind X.prog X.w).is kv.1 key = true):=by
  refine pick kvs (fun (j:Nat) (kv:Key × V) (u:Key × Value)=>u.1 = kv.1/\RelV kv.2 u.2/\∃ a oa key na,its[j]? = some (.ref a)/\s.heap.get? a = some oa/\oa.cls = .type "tuple"/\oa.data = .seq #[key,u.2] na/\(mixKind X.prog X.w).is kv.1 key = true) fun j kv hj=>?_
  obtain ⟨k,v⟩:=kv
  obtain ⟨a,ea,sq⟩:=hp j k v hj
  obtain ⟨jts,rj,pj,_⟩:=I.tuple sq
  cases rj with
  | @cons _ j1 _ jr rk rr=>cases rr with
   | @cons _ j2 _ jr2 rv rr2=>
    cases rr2
    obtain ⟨oa,ga,ca,na,da⟩:=pj
    refine ⟨(k,j2),rfl,rv,a,oa,j1,na,?_,ga,ca,da,kV_is rk⟩
    obtain ⟨w,ew,rw1⟩:=Vals.get r' ea
    cases rw1
    exact ew
 obtain ⟨ps,hpl,hps⟩:=hpk
 have gt:s.heap.get? t = some o:=g
 have tlt:t < s.heap.objs.size:=Heap.lt_size gt
 refine callType_codes (Q₁:=fun obj s₁=>obj = .ref s.heap.objs.size/\s₁ = { s with heap:=s.heap.push { cls:=.type "dict",data:=.dict #[] } }) F.kt_called_dict (F.kt_typeCall_dict_1 _) F.entry_dict_init (kt_code_dict_new _ ⟨rfl,rfl⟩) ?_
 rintro obj s₁ ⟨rfl,rfl⟩
 have hnew:(s.heap.push { cls:=.type "dict",data:=.dict #[] }).DictOf (mixKind X.prog X.w) s.heap.objs.size []:=Heap.DictOf.new s.heap
 have gt1:(s.heap.push { cls:=.type "dict",data:=.dict #[] }).get? t = some o:=Heap.get?_push_of_some _ gt
 refine ⟨hnew.typeIs,F.args_dict_init_2 _ _,?_⟩
 unfold Builtin.«dict.__init__»
 refine wpAny_bind ?_
 unfold Builtin.Dict.selfAndRest
 refine wpAny_bind (wpAny_notOrdered_dict hnew.typeIs ?_)
 show wpAny _ _ (pure (s.heap.objs.size,[Value.ref t])) _ _ _
 refine wpAny_pure ?_
 show wpAny _ _ (Builtin.Dict.updateFrom "dict.__init__" s.heap.objs.size (.ref t) [] .none) _ _ _
 unfold Builtin.Dict.updateFrom
 refine wpAny_bind (wpAny_typeOf (T:="tuple") ⟨o,gt1,hcl⟩ ?_)
 rw [if_pos (by decide)]
 refine wpAny_bind (miss_keys (o:=o) (xs:=its.toArray) (k:=n) gt1 hcl hdat hod hh fun h1 tk1 kp1=>?_)
 rw [if_pos (show (none:Option Value).isNone = true from rfl)]
 have kp:∀ b ob,s.heap.get? b = some ob->h1.get? b = some ob:=fun b ob e=>kp1 b ob (Heap.get?_push_of_some _ e)
 have gt2:=kp t o gt
 have gd2:h1.get? s.heap.objs.size = some { cls:=.type "dict",data:=.dict #[] }:=kp1 _ _ (Heap.get?_push_size _ rfl)
 have dlt:s.heap.objs.size < h1.objs.size:=Heap.lt_size gd2
 have dd1:h1.DictOf (mixKind X.prog X.w) s.heap.objs.size []:=by
  obtain ⟨od,es,ep,gg,rr⟩:=hnew
  exact ⟨od,es,ep,kp1 _ _ gg,rr⟩
 refine wpAny_bind (wpAny_rule ?_)
 refine wpAny_bind (wpAny_pyIter_tuple (items:=its.toArray) ⟨o,gt2,hcl,n,hdat⟩ ?_)
 refine wpAny_pure ⟨Code.quiet_builtin _ (by decide +kernel),?_⟩
 have epl:ps.length = its.toArray.size:=by simp;omega
 have fsts:ps.map (·.1) = kvs.map (·.1):=by
  refine List.ext_getElem (by simp [hpl]) fun j h1 h2=>?_
  rw [List.getElem_map,List.getElem_map]
  rw [List.length_map] at h1 h2
  obtain ⟨u,eu,e1,_⟩:=hps j kvs[j] (List.getElem?_eq_getElem h2)
  rw [List.getElem?_eq_getElem h1] at eu
  cases eu
  exact e1
 refine upd_loop (A:=X.A.in1) (ps:=ps) (items:=its.toArray) (h0:=h1.push { cls:=.type "tuple_iterator",data:=.fields #[.ref t,.int 0 0] }) (t:=t) (d:=s.heap.objs.size) (it:=h1.objs.size) (show X.A.in1.handled = none from hh) ⟨o,Heap.get?_push_of_some _ gt2,hcl,n,hdat⟩ ⟨Nat.ne_of_lt (Nat.lt_trans tlt dlt),Nat.ne_of_lt tlt⟩ (Nat.ne_of_gt dlt) epl (by rw [← epl,hpl,hkl];exact hys) (fun j k v hj=>?_) (by rw [fsts];exact nd) its.toArray.size 0 _ { s with heap:=h1.push { cls:=.type "tuple_iterator",data:=.fields #[.ref t,.int 0 0] },toks:=tk1 } (by omega) ⟨_,Heap.get?_push_size _ rfl,rfl,rfl⟩ (dd1.push _) (fun b o _ _ e=>e) (fun h2 k2 dd2 kp2=>?_)
 ·have hjl:j < kvs.length:=by
   have:=(List.getElem?_eq_some_iff.mp hj).1
   omega
  obtain ⟨u,eu,e1,e2,a,oa,key,na,e3,e4,e5,e6,e7⟩:=hps j kvs[j] (List.getElem?_eq_getElem hjl)
  rw [hj] at eu
  cases eu
  have alt:=Heap.lt_size e4
  refine ⟨a,oa,key,na,by simpa using e3,Heap.get?_push_of_some _ (kp a oa e4),e5,e6,?_,Nat.ne_of_lt (Nat.lt_trans alt dlt),Nat.ne_of_lt alt⟩
  rw [show k = kvs[j].1 from e1]
  exact e7
 ·refine ⟨rfl,.ref s.heap.objs.size,_,?_,rfl,q s.heap.objs.size (I.hok.fresh (Nat.le_refl _))⟩
  have rel:KV kvs ps:=kv_of hpl fun j k v e=>by
   obtain ⟨u,eu,e1,e2,_⟩:=hps j (k,v) e
   obtain ⟨u1,u2⟩:=u
   cases (show u1 = k from e1)
   exact ⟨u2,eu,e2⟩
  refine I.laid (a:=s.heap.objs.size) (o:=.dK kvs) (fun b qo hb=>?_) (Nat.le_refl _) (dk_new (by rw [sizeLine_eq];omega) (beq_eq_false_iff_ne.mpr (Ne.symm (Nat.ne_of_lt I.big))) rel dd2)
  have blt:=Heap.lt_size hb
  exact kp2 b qo (Nat.ne_of_lt (Nat.lt_trans blt dlt)) (Nat.ne_of_lt blt) (Heap.get?_push_of_some _ (kp b qo hb))
end
end L2
namespace L2
open PySem PySem.Spec PyProof.Rows
theorem sIx_at {n d:Nat} {k:Int} (h0:0 ≤ k) (h1:k ≤ n):HT.sIx n d (some k) = k.toNat:=by
 have e:=HT.clip_eq k n d
 rw [if_neg (by omega)] at e
 omega
theorem cut_to {xs:List V} {k:Int} (h0:0 ≤ k) (h1:k ≤ xs.length):cutV xs none (some k) = xs.take k.toNat:=by
 unfold cutV
 rw [sIx_at h0 h1,HT.sIx_none,List.drop_zero,Nat.sub_zero]
theorem cut_from {xs:List V} {k:Int} (h0:0 ≤ k) (h1:k ≤ xs.length):cutV xs (some k) none = xs.drop k.toNat:=by
 unfold cutV
 rw [sIx_at h0 h1,HT.sIx_none]
 refine List.take_of_length_le ?_
 rw [List.length_drop]
 omega
theorem compW_idx {J:It} {g:TG} {te:TE} {R:Addr->Hp->Prop} {D:Addr} {σ0:St} {H0:Hp} (n:Nat) (Pv:Nat->List V->St->Hp->Prop) (hn:n ≤ sizeLine) (h0:Pv 0 [] σ0 H0) (hD0:H0 D = some (.lst []))
  (hs:∀ i σ H ys,i < n->Pv i ys σ H->ys.length = i->H D = some (.lst ys)->J.go i H/\∀ x H',J.yld i H x H'->g x σ H' fun σ2 H2=>te σ2 H2 fun y H4=>H4 D = some (.lst ys)/\Pv (i + 1) (ys ++ [y]) σ2 (upd H4 D (.lst (ys ++ [y]))))
  (hd:∀ σ H ys,Pv n ys σ H->H D = some (.lst ys)->ys.length = n->J.stop n H/\R D H):CompW J g tYes te R D σ0 H0:=by
 refine ⟨fun i m σ H=>m = n - i/\i ≤ n/\∃ ys,Pv i ys σ H/\H D = some (.lst ys)/\ys.length = i,⟨n,by omega,Nat.zero_le _,[],h0,hD0,rfl⟩,?_⟩
 rintro i m σ H ⟨rfl,hi,ys,p,hD,hl⟩
 by_cases hlt:i < n
 ·obtain ⟨go,st⟩:=hs i σ H ys hlt p hl hD
  refine .inr ⟨go,fun σ2 y H4=>H4 D = some (.lst ys)/\Pv (i + 1) (ys ++ [y]) σ2 (upd H4 D (.lst (ys ++ [y]))),fun _ _=>False,?_,fun _ _ z=>z.elim,st⟩
  rintro σ2 y H4 ⟨e,p'⟩
  exact ⟨_,e,by rw [hl];omega,n - (i + 1),by omega,rfl,hlt,_,p',upd_same,by simp [hl]⟩
 ·have e:i = n:=by omega
  subst e
  exact .inl (hd σ H ys p hD hl)
end L2
namespace My
open PySem L2 PyProof.Rows
seal L2.PE L2.PT L2.PW L2.PS L2.PSs L2.PA L2.PI L2.PG L2.PGs L2.OpR L2.UnR L2.CallR L2.IxR L2.SlR L2.MtR L2.PIf L2.PO L2.MtM L2.PC L2.PIp L2.PSet L2.PGet L2.TruR L2.InOp L2.PK
def sides:List Str:=["twin","many","some"]
def spAskS:Sp:=fun vs H Q _=>∃ (p:Addr) (ss:List Str),vs = [.ref p]/\H p = some (.lst ((("head":Str) :: ss).map V.str))/\(∀ z ∈ ss,z ∈ sides)/\∀ H',Same H H'->Q .non H'
def spAskN:Sp:=fun vs H Q _=>∃ (p:Addr) (zs:List Str),vs = [.ref p]/\H p = some (.lst (zs.map V.str))/\zs.Nodup/\(∀ z ∈ zs,nameS z = true)/\∀ H',Same H H'->Q .non H'
def kvC (cols:List (Str × V)):List (Key × V):=cols.map fun p=>(.inr p.1,p.2)
def vOf (cols:List (Str × V)) (z:Str):V:=(valV (kvC cols) (.inr z)).getD .non
mutual
def noDct:Dt->Bool
 | .dct=>false
 | .tup ds=>noDcts ds
 | .lst _=>false
 | .non=>true
 | .bl _=>true
 | .int _=>true
 | .str _=>true
def noDcts:List Dt->Bool
 | []=>true
 | d :: ds=>noDct d && noDcts ds
end
mutual
theorem Rep.beside {H:Hp} {a:Addr} {u:HO} (e:∀ xs,H a ≠ some (.tup xs)):∀ {d:Dt} {v:V},noDct d = true->Rep H d v->Rep (L2.upd H a u) d v
 | .non,v,_,h=>by unfold Rep at h ⊢;exact h
 | .bl b,v,_,h=>by unfold Rep at h ⊢;exact h
 | .int i,v,_,h=>by unfold Rep at h ⊢;exact h
 | .str z,v,_,h=>by unfold Rep at h ⊢;exact h
 | .tup ds,v,n,h=>by
  unfold Rep at h ⊢
  obtain ⟨b,xs,h1,h2,h3⟩:=h
  have hne:b ≠ a:=fun q=>e _ (by rw [← q];exact h2)
  exact ⟨b,xs,h1,by rw [upd_ne hne];exact h2,Reps.beside e (by simpa [noDct] using n) h3⟩
 | .lst ds,v,n,h=>by simp [noDct] at n
 | .dct,v,n,h=>by simp [noDct] at n
theorem Reps.beside {H:Hp} {a:Addr} {u:HO} (e:∀ xs,H a ≠ some (.tup xs)):∀ {ds:List Dt} {vs:List V},noDcts ds = true->Reps H ds vs->Reps (L2.upd H a u) ds vs
 | [],vs,_,h=>by unfold Reps at h ⊢;exact h
 | d :: ds,vs,n,h=>by
  unfold Reps at h ⊢
  obtain ⟨v,ws,h1,h2,h3⟩:=h
  have n':noDct d = true/\noDcts ds = true:=by simpa [noDcts] using n
  exact ⟨v,ws,h1,Rep.beside e n'.1 h2,Reps.beside e n'.2 h3⟩
end
def ColsOk (H:Hp) (cols:List (Str × V)):Prop:=(cols.map (·.1)).Nodup/\cols.length ≤ 12/\∀ p ∈ cols,nameS p.1 = true/\∃ d,Rep H d p.2/\kindD d = true/\noDct d = true
theorem ColsOk.same {H H':Hp} {cols:List (Str × V)} (h:ColsOk H cols) (e:Same H H'):ColsOk H' cols:=⟨h.1,h.2.1,fun p hp=>⟨(h.2.2 p hp).1,let ⟨d,h1,h2⟩:=(h.2.2 p hp).2;⟨d,h1.same e,h2⟩⟩⟩
theorem val_in:∀ {cols:List (Str × V)} {z:Str},z ∈ cols.map (·.1)->valV (kvC cols) (.inr z) = some (vOf cols z)
 | [],z,h=>nomatch h
 | p :: r,z,h=>by
  unfold vOf
  by_cases e:p.1 = z
  ·rw [show kvC (p :: r) = (.inr p.1,p.2) :: kvC r from rfl,valV_pos (by rw [e])]
   rfl
  ·have hz:z ∈ r.map (·.1):=by
    rcases List.mem_cons.mp h with h | h
    ·exact absurd h.symm e
    ·exact h
   rw [show kvC (p :: r) = (.inr p.1,p.2) :: kvC r from rfl,valV_neg (fun h=>e (by injection h)),val_in hz]
   rfl
def ColsAt (H:Hp) (t:Addr) (cols:List (Str × V)):Prop:=∃ (o:Obj) (ps:List Addr) (zs:List Str),zs.Perm (cols.map (·.1))/\sortedS zs = true/\o.dict = none/\H t = some (.frz o (.tup (ps.map V.ref)))/\ps.length = zs.length/\∀ (j:Nat) (p:Addr) (z:Str),ps[j]? = some p->zs[j]? = some z->H p = some (.tup [.str z,vOf cols z])
theorem ColsAt.same {H H':Hp} {t:Addr} {cols:List (Str × V)} (h:ColsAt H t cols) (e:Same H H'):ColsAt H' t cols:=by
 obtain ⟨o,ps,zs,h1,h2,h3,h4,h5,h6⟩:=h
 exact ⟨o,ps,zs,h1,h2,h3,e _ _ h4,h5,fun j p z a b=>e _ _ (h6 j p z a b)⟩
def spColM:Sp:=fun vs H Q _=>∃ (a:Addr) (cols:List (Str × V)),vs = [.ref a]/\H a = some (.dK (kvC cols))/\ColsOk H cols/\∀ t H',Same H H'->ColsAt H' t cols->Q (.ref t) H'
section
variable {P:Program} {w:World} {K:PySem.W.Frag} {mg:Str->Option Value} {base:Heap}
theorem ok_askS {f sA:Addr} {fd:FuncData} (F:Fun K "ask_sorts" "ask_sorts" (top 30) f fd) (mS:mg "SIDE_SORTS" = some (.ref sA)) (qS:∀ H,SqT K H sA (sides.map V.str)):FnOk P w K mg base CX0 1 f fd ["sorts"] spAskS:=by
 have sc:FnScope ["sorts","sort"] ["sorts"] (defScope (top 30)):=⟨rfl,rfl,rfl,by decide +kernel,rfl,by decide +kernel,by decide +kernel⟩
 refine F.ok sc (fun vs H Q E h=>?_) (fun cdv A outer s H vs Q E hr h=>?_)
 ·obtain ⟨p,ss,rfl,_⟩:=h
  rfl
 ·obtain ⟨p,ss,rfl,hp,hss,q⟩:=h
  have hu:(A.deeper (envOfC "ask_sorts" (defScope (top 30)) s.heap.objs.size f cdv)).units + 1 < cLine:=hu_of hr
  refine ⟨_,pss_cons (ps_if (pt_cmpR op_neL (pe_slice sl_list (pv 0) po_none (po_some pe_int)) (pe_lst (pa_cons pe_str pa_nil)) (nomark _)) pss_never pss_nil)
   (pss_one (ps_for PassesOwn.never rfl (pi_list (pe_slice sl_list (pv 0) (po_some pe_int) po_none)) (pg_name (i:=1) sc.nd rfl (Or.inl rfl))
    (pss_one (ps_if (pt_cmpR op_notIn_seq (pv 1) (pe_glob (v:=.ref sA) (by rfl) mS rfl) (by with_unfolding_all rfl)) pss_never pss_nil)))),?_⟩
  refine ⟨_,rfl,_,rfl,p,_,rfl,SqL.of hp,fun p1 e1=>?_⟩
  rw [cut_to (by decide) (by rw [List.length_map,List.length_cons];omega)]
  have T1:=Same.upd (o:=.lst [V.str "head"]) e1
  refine ⟨(by show 1 ≤ sizeLine;decide),fun p2 e2=>?_⟩
  have T2:=Same.upd (o:=.lst [V.str "head"]) e2
  refine ⟨0,p1,p2,[V.str "head"],[V.str "head"],rfl,rfl,SqL.of (T2 _ _ upd_same),SqL.of upd_same,rfl,(fun i x y h1 h2=>?_),hu,_,rfl,?_⟩
  ·rw [h1] at h2
   cases h2
   have:x = V.str "head":=by simpa using List.mem_of_getElem? h1
   rw [this]
   exact .str
  refine iteF ?_
  have S2:=T1.trans T2
  refine ⟨_,rfl,_,rfl,p,_,rfl,SqL.of (S2 _ _ hp),fun p3 e3=>?_⟩
  rw [cut_from (by decide) (by rw [List.length_map,List.length_cons];omega)]
  have T3:=Same.upd (o:=.lst (ss.map V.str)) e3
  refine ⟨p3,rfl,⟨_,SqL.of upd_same⟩,for_list (K:=K) (a:=p3) (xs:=ss.map V.str) (fun j σ H4=>H4 = upd _ p3 (.lst (ss.map V.str))/\∃ u,σ = [some (.ref p),u]) ⟨rfl,_,rfl⟩ (fun j σ H4 _ pp=>by rw [pp.1];exact SqL.of upd_same) ?_ ?_⟩
  ·rintro j x σ H4 hx ⟨rfl,u,rfl⟩
   obtain ⟨z,hz,rfl⟩:=List.mem_map.mp (List.mem_of_getElem? hx)
   refine ⟨_,rfl,sA,_,rfl,.inr (qS _),rfl,(by decide),_,rfl,?_⟩
   have hin:inV (.str z) (sides.map V.str) = true:=by
    have:∀ z ∈ sides,inV (.str z) (sides.map V.str) = true:=by decide +kernel
    exact this z (hss z hz)
   refine iteC (by rw [hin];rfl) ?_
   exact ⟨rfl,_,rfl⟩
  ·rintro σ H4 ⟨rfl,u,rfl⟩
   exact q _ (S2.trans T3)
theorem ok_askN {f fN:Addr} {fd fdN:FuncData} (F:Fun K "ask_names" "ask_names" (top 31) f fd) (DN:Df K mg "is_name" (top 22) fN fdN) (GN:FnOk P w K mg base CX0 1 fN fdN ["thing"] (spName K)):FnOk P w K mg base CX0 2 f fd ["names"] spAskN:=by
 have sc:FnScope ["names","name"] ["names"] (defScope (top 31)):=⟨rfl,rfl,rfl,by decide +kernel,rfl,by decide +kernel,by decide +kernel⟩
 have bN:=DN.fn.binds (ps:=["thing"]) fun _ _ _ _ _ _ us hl=>by obtain ⟨v0,rfl⟩:=L2.ln1 hl;rfl
 refine F.ok sc (fun vs H Q E h=>?_) (fun cdv A outer s H vs Q E hr h=>?_)
 ·obtain ⟨p,zs,rfl,_⟩:=h
  rfl
 ·obtain ⟨p,zs,rfl,hp,nd,hz,q⟩:=h
  refine ⟨_,pss_one (ps_for PassesOwn.never rfl (pi_list (pv 0)) (pg_name (i:=1) sc.nd rfl (Or.inl rfl))
    (pss_cons (ps_if (pt_not (pt_val (pe_call GN hr (by rfl) DN.mg DN.fn.kp bN .nil pass0 (pa_cons (pv 1) pa_nil)))) pss_never pss_nil)
    (pss_one (ps_if (pt_cmpR op_gt (pe_bm PySem.F.plainAttrs_list PySem.F.slot_list_count PySem.F.type_list_count mt_count (pv 0) (pa_cons (pv 1) pa_nil)) pe_int (nomark _)) pss_never pss_nil)))),?_⟩
  refine ⟨_,rfl,p,rfl,⟨_,SqL.of hp⟩,for_list (K:=K) (a:=p) (xs:=zs.map V.str) (fun j σ H4=>Same H H4/\∃ u,σ = [some (.ref p),u]) ⟨Same.refl H,_,rfl⟩ (fun j σ H4 _ pp=>SqL.of (pp.1 _ _ hp)) ?_ ?_⟩
  ·rintro j x σ H4 hx ⟨s4,u,rfl⟩
   obtain ⟨z,hzm,rfl⟩:=List.mem_map.mp (List.mem_of_getElem? hx)
   have h8:z.length ≤ 8:=by
    have:=hz z hzm
    unfold nameS at this
    exact (of_decide_eq_true (Bool.and_eq_true_iff.mp this).1).2
   refine ⟨_,rfl,_,_,rfl,Is.str,(fun z' e=>?_),(fun h=>absurd rfl h)⟩
   cases e
   refine ⟨by rw [sizeLine_eq];omega,fun H5 s5=>⟨_,rfl,?_⟩⟩
   rw [hz z hzm]
   refine iteF ?_
   have hp5:=s5 _ _ (s4 _ _ hp)
   refine ⟨_,rfl,.inl ⟨rfl,_,SqL.of hp5⟩,_,rfl,p,zs,z,rfl,rfl,SqL.of hp5,_,_,rfl,rfl,_,rfl,?_⟩
   have hc:zs.count z ≤ 1:=List.nodup_iff_count.mp nd z
   refine iteC (decide_eq_false (by omega)) ?_
   exact ⟨s4.trans s5,_,rfl⟩
  ·rintro σ H4 ⟨s4,u,rfl⟩
   exact q _ s4
theorem ok_colM {f fN fK:Addr} {fd fdN fdK:FuncData} (F:Fun K "columns_made" "columns_made" (top 32) f fd) (B:Bl mg) (DN:Df K mg "is_name" (top 22) fN fdN) (GN:FnOk P w K mg base CX0 1 fN fdN ["thing"] (spName K)) (DK:Df K mg "is_kind" (top 26) fK fdK) (GK:FnOk P w K mg base CX0 4 fK fdK ["thing"] spKind) :
  FnOk P w K mg base CX0 5 f fd ["columns"] spColM:=by
 have sc:FnScope ["columns","column","kind"] ["columns"] (defScope (top 32)):=⟨rfl,rfl,rfl,by decide +kernel,rfl,by decide +kernel,by decide +kernel⟩
 have bN:=DN.fn.binds (ps:=["thing"]) fun _ _ _ _ _ _ us hl=>by obtain ⟨v0,rfl⟩:=L2.ln1 hl;rfl
 have bK:=DK.fn.binds (ps:=["thing"]) fun _ _ _ _ _ _ us hl=>by obtain ⟨v0,rfl⟩:=L2.ln1 hl;rfl
 refine F.ok sc (fun vs H Q E h=>?_) (fun cdv A outer s H vs Q E hr h=>?_)
 ·obtain ⟨a,cols,rfl,_⟩:=h
  rfl
 ·obtain ⟨a,cols,rfl,hc,ok,q⟩:=h
  have hr1:Room 1 _:=hr.mono (by decide)
  have hu:(A.deeper (envOfC "columns_made" (defScope (top 32)) s.heap.objs.size f cdv)).units + 1 < cLine:=hu_of hr
  refine ⟨_,pss_cons (ps_frz (ps_for PassesOwn.never rfl (pi_items (pv 0)) (pg_tup rfl (pgs_cons (pg_name (i:=1) sc.nd rfl (Or.inl rfl)) (pgs_cons (pg_name (i:=2) sc.nd rfl (Or.inl rfl)) pgs_nil)))
    (pss_cons (ps_if (pt_not (pt_val (pe_call GN hr1 (by rfl) DN.mg DN.fn.kp bN .nil pass0 (pa_cons (pv 1) pa_nil)))) pss_never pss_nil)
    (pss_one (ps_if (pt_not (pt_val (pe_call GK hr (by rfl) DK.mg DK.fn.kp bK .nil pass0 (pa_cons (pv 2) pa_nil)))) pss_never pss_nil)))))
   (pss_one (ps_ret (pe_callTy call_tupleF (by rfl) B.tuple boot_tuple (pa_cons (pe_comp (osc:=defScope (top 32)) (N0:=["columns","column","kind"]) (xs:=["column"]) (fr:=[0]) ⟨rfl,by decide +kernel,by decide +kernel,by decide +kernel,(fun j hj=>by
       have e:j = 0:=by simpa using hj
       subst e
       exact ⟨_,rfl,by decide +kernel⟩),by decide +kernel⟩ rfl rfl rfl (pi_list (pe_callB (call_sortedD rfl) (by rfl) B.sorted boot_sorted (pa_cons (pv 0) pa_nil)))
      (fun s H fp=>pg_name (i:=0) (show (["column","columns"]:List Str).Nodup by decide +kernel) rfl (Or.inl rfl)) (fun s H fp=>pif_nil)
      (fun s H fp=>pe_tup (pa_cons (pv 0) (pa_cons (pe_dget hu (pv 1) (pv 0) (fun _ _=>rfl)) pa_nil)))) pa_nil)))),?_⟩
  refine ⟨a,_,hc,fun o=>?_⟩
  have hfa:(upd H a (.frz o (.dK (kvC cols)))) a = some (.frz o (.dK (kvC cols))):=upd_same
  have back:∀ H1:Hp,Same H (upd H1 a (.dK (kvC cols)))\/¬ Same (upd H a (.frz o (.dK (kvC cols)))) H1:=fun H1=>by
   by_cases e:Same (upd H a (.frz o (.dK (kvC cols)))) H1
   ·refine .inl fun b u hb=>?_
    by_cases eb:b = a
    ·subst eb
     rw [hc] at hb
     rw [← hb]
     exact upd_same
    ·rw [upd_ne eb]
     exact e b u (by rw [upd_ne eb];exact hb)
   ·exact .inr e
  refine ⟨_,rfl,a,o,_,rfl,hfa,for_items (a:=a) (o:=o) (kvs:=kvC cols) (fun i σ H1=>Same (upd H a (.frz o (.dK (kvC cols)))) H1/\∃ u1 u2,σ = [some (.ref a),u1,u2]) ⟨Same.refl _,_,_,rfl⟩ (fun i σ H1 _ p=>p.1 _ _ hfa) ?_ ?_⟩
  ·rintro i k v p σ H1 hk ⟨s1,u1,u2,rfl⟩ hp
   obtain ⟨⟨z,v'⟩,hm,e⟩:=List.mem_map.mp (List.mem_of_getElem? hk)
   cases e
   obtain ⟨hn,d,hd,hkd,hnd⟩:=ok.2.2 _ hm
   have h8:z.length ≤ 8:=by
    unfold nameS at hn
    exact (of_decide_eq_true (Bool.and_eq_true_iff.mp hn).1).2
   have T:=Same.upd (o:=.tup [kV (.inr z),v']) hp
   refine ⟨p,_,rfl,SqT.of upd_same,rfl,_,_,rfl,_,_,rfl,rfl,?_⟩
   refine ⟨_,rfl,_,_,rfl,Is.str,(fun z' e=>?_),(fun h=>absurd rfl h)⟩
   cases e
   refine ⟨by show z.length ≤ sizeLine;rw [sizeLine_eq];omega,fun H5 s5=>⟨_,rfl,?_⟩⟩
   rw [hn]
   refine iteF ?_
   have S5:=s1.trans (T.trans s5)
   refine ⟨_,rfl,_,d,rfl,(Rep.beside (fun xs h=>by rw [hc] at h;cases h) hnd hd).same S5,fun H6 s6=>⟨_,rfl,?_⟩⟩
   rw [hkd]
   refine iteF ?_
   exact ⟨S5.trans s6,_,_,rfl⟩
  ·rintro σ H1 ⟨s1,u1,u2,rfl⟩
   refine ⟨s1 _ _ hfa,?_⟩
   have S1:Same H (L2.upd H1 a (.dK (kvC cols))):=by
    rcases back H1 with h | h
    ·exact h
    ·exact absurd s1 h
   generalize L2.upd H1 a (.dK (kvC cols)) = H2 at S1 ⊢
   have hc2:=S1 _ _ hc
   have hkm:(kvC cols).map (·.1) = (cols.map (·.1)).map Sum.inr:=by
    unfold kvC
    rw [List.map_map,List.map_map]
    rfl
   refine ⟨_,rfl,a,_,_,rfl,.inl hc2,hkm,(by rw [List.length_map];have:=ok.2.1;omega),fun l zs hl hpm hso=>?_⟩
   have T3:=Same.upd (o:=.lst (zs.map V.str)) hl
   have S3:=S1.trans T3
   refine ⟨l,rfl,⟨_,SqL.of upd_same⟩,fun D hD=>?_⟩
   have hD0:H D = none:=by
    cases e:H D with
    | none=>rfl
    | some o=>rw [S3 _ _ e] at hD;cases hD
   have hlD:l ≠ D:=fun e=>by rw [← e,upd_same] at hD;cases hD
   have hzl:zs.length ≤ 12:=by
    have:=hpm.length_eq
    rw [List.length_map] at this
    have:=ok.2.1
    omega
   refine compW_idx zs.length (fun i ys σ' Hc=>(∃ t,σ' = [t,some (.ref a)])/\Same H Hc/\Hc l = some (.lst (zs.map V.str))/\∃ ps:List Addr,ys = ps.map V.ref/\∀ (j:Nat) (p:Addr) (z:Str),ps[j]? = some p->zs[j]? = some z->Hc p = some (.tup [.str z,vOf cols z])) (by rw [sizeLine_eq];omega) ⟨⟨none,rfl⟩,S3.trans (Same.upd hD),(Same.upd hD) _ _ upd_same,[],rfl,fun j p z h=>nomatch h⟩ upd_same ?_ ?_
   ·rintro i σ' Hc ys hi ⟨⟨t,rfl⟩,sm,hlc,ps,rfl,hps⟩ hyl hD'
    rw [List.length_map] at hyl
    refine ⟨⟨_,V.str zs[i],SqL.of hlc,by rw [List.getElem?_map,List.getElem?_eq_getElem hi];rfl⟩,?_⟩
    rintro x H' ⟨rfl,hx'⟩
    have ex:=hx' _ (SqL.of hlc)
    rw [List.getElem?_map,List.getElem?_eq_getElem hi] at ex
    cases ex
    have hzm:zs[i] ∈ cols.map (·.1):=hpm.mem_iff.mp (List.getElem_mem hi)
    refine ⟨_,rfl,_,rfl,_,rfl,a,_,rfl,.inl ⟨_,.inr zs[i],.inl (sm _ _ hc),rfl,(val_in hzm).symm⟩,(by show 2 ≤ sizeLine;decide),fun p hp=>?_⟩
    have T:=Same.upd (o:=.tup [.str zs[i],vOf cols zs[i]]) hp
    have hpD:p ≠ D:=fun e=>by rw [e,hD'] at hp;cases hp
    refine ⟨T _ _ hD',⟨_,rfl⟩,(sm.trans T).put hD0,by rw [upd_ne hlD];exact T _ _ hlc,ps ++ [p],by rw [List.map_append];rfl,fun j p' z' h1 h2=>?_⟩
    by_cases hj:j < ps.length
    ·rw [List.getElem?_append_left hj] at h1
     have hh:=hps j p' z' h1 h2
     have hne:p' ≠ D:=fun e=>by rw [e,hD'] at hh;cases hh
     rw [upd_ne hne]
     exact T _ _ hh
    ·have hj':j = ps.length:=by
      have:=(List.getElem?_eq_some_iff.mp h1).1
      rw [List.length_append] at this
      simp at this
      omega
     subst hj'
     rw [List.getElem?_append_right (Nat.le_refl _),Nat.sub_self] at h1
     cases h1
     rw [hyl,List.getElem?_eq_getElem hi] at h2
     cases h2
     rw [upd_ne hpD]
     exact upd_same
   ·rintro σ' Hc ys ⟨_,sm,hlc,ps,rfl,hps⟩ hDn hyl
    rw [List.length_map] at hyl
    refine ⟨⟨_,SqL.of hlc,by rw [List.length_map];exact Nat.le_refl _⟩,?_⟩
    refine ⟨D,_,rfl,SqL.of hDn,fun t o2 ht ho2=>?_⟩
    have T:=Same.upd (o:=.frz o2 (.tup (ps.map V.ref))) ht
    exact q t _ (sm.trans T) ⟨o2,ps,zs,hpm,hso,ho2,upd_same,hyl,fun j p z h1 h2=>T _ _ (hps j p z h1 h2)⟩
end
end My
namespace My
open PySem L2 PyProof.Rows
seal L2.PE L2.PT L2.PW L2.PS L2.PSs L2.PA L2.PI L2.PG L2.PGs L2.OpR L2.UnR L2.CallR L2.IxR L2.SlR L2.MtR L2.PIf L2.PO L2.MtM L2.PC L2.PIp L2.PSet L2.PGet L2.TruR L2.InOp L2.PK
structure Tb where
 name:Str
 sort:Str
 cols:List (Str × V)
def EntAt (H:Hp) (e:Addr) (T:Tb):Prop:=∃ ct,H e = some (.tup [.str T.name,.str T.sort,.ref ct])/\ColsAt H ct T.cols
def FormAt (H:Hp) (f:Addr) (sz:Int) (Ts:List Tb):Prop:=∃ (tt:Addr) (es:List Addr),H f = some (.tup [.int sz,.ref tt])/\H tt = some (.tup (es.map V.ref))/\es.length = Ts.length/\∀ (j:Nat) (e:Addr) (T:Tb),es[j]? = some e->Ts[j]? = some T->EntAt H e T
theorem EntAt.same {H H':Hp} {e:Addr} {T:Tb} (h:EntAt H e T) (s:Same H H'):EntAt H' e T:=by
 obtain ⟨ct,h1,h2⟩:=h
 exact ⟨ct,s _ _ h1,h2.same s⟩
theorem FormAt.same {H H':Hp} {f:Addr} {sz:Int} {Ts:List Tb} (h:FormAt H f sz Ts) (s:Same H H'):FormAt H' f sz Ts:=by
 obtain ⟨tt,es,h1,h2,h3,h4⟩:=h
 exact ⟨tt,es,s _ _ h1,s _ _ h2,h3,fun j e T a b=>(h4 j e T a b).same s⟩
def spTabs:Sp:=fun vs H Q _=>∃ (f:Addr) (sz:Int) (Ts:List Tb),vs = [.ref f]/\FormAt H f sz Ts/\Ts.length ≤ 8/\∀ p H',H p = none->Same H H'->H' p = some (.lst ((Ts.map (·.name)).map V.str))->Q (.ref p) H'
def spHead:Sp:=fun vs H Q _=>∃ (f:Addr) (sz:Int) (T:Tb) (Ts:List Tb),vs = [.ref f]/\FormAt H f sz (T :: Ts)/\Q (.str T.name) H
def spTabIn:Sp:=fun vs H Q _=>∃ (f:Addr) (sz:Int) (Ts:List Tb) (T:Tb),vs = [.ref f,.str T.name]/\FormAt H f sz Ts/\(Ts.map (·.name)).Nodup/\T ∈ Ts/\∀ e,EntAt H e T->Q (.ref e) H
def spSortOf:Sp:=fun vs H Q _=>∃ (f:Addr) (sz:Int) (Ts:List Tb) (T:Tb),vs = [.ref f,.str T.name]/\FormAt H f sz Ts/\(Ts.map (·.name)).Nodup/\T ∈ Ts/\Q (.str T.sort) H
def spColsOf:Sp:=fun vs H Q _=>∃ (f:Addr) (sz:Int) (Ts:List Tb) (T:Tb),vs = [.ref f,.str T.name]/\FormAt H f sz Ts/\(Ts.map (·.name)).Nodup/\T ∈ Ts/\(T.cols.map (·.1)).Nodup/\T.cols.length ≤ 12 ∧
 ∀ (p:Addr) (H':Hp) (zs:List Str),H p = none->Same H H'->zs.Perm (T.cols.map (·.1))->H' p = some (.dK (zs.map fun z=>(.inr z,vOf T.cols z)))->Q (.ref p) H'
section
variable {P:Program} {w:World} {K:PySem.W.Frag} {mg:Str->Option Value} {base:Heap}
theorem ok_tabs {f:Addr} {fd:FuncData} (F:Fun K "tables_of" "tables_of" (top 33) f fd):FnOk P w K mg base CX0 1 f fd ["form"] spTabs:=by
 have sc:FnScope ["form"] ["form"] (defScope (top 33)):=⟨rfl,rfl,rfl,by decide +kernel,rfl,by decide +kernel,by decide +kernel⟩
 refine F.ok sc (fun vs H Q E h=>?_) (fun cdv A outer s H vs Q E hr h=>?_)
 ·obtain ⟨f,sz,Ts,rfl,_⟩:=h
  rfl
 ·obtain ⟨f,sz,Ts,rfl,⟨tt,es,h1,h2,h3,h4⟩,h8,q⟩:=h
  refine ⟨_,pss_one (ps_ret (pe_comp (osc:=defScope (top 33)) (N0:=["form"]) (xs:=["entry"]) (fr:=[]) ⟨rfl,by decide +kernel,by decide +kernel,by decide +kernel,by decide,by decide +kernel⟩ rfl rfl rfl (pi_tup (pe_ix ix_tup (pv 0) pe_int (fun _ _=>rfl)))
    (fun s H fp=>pg_name (i:=0) (show (["entry"]:List Str).Nodup by decide +kernel) rfl (Or.inl rfl)) (fun s H fp=>pif_nil) (fun s H fp=>pe_ix (r:=rIxT K) ix_tup (pv 0) pe_int (fun _ _=>rfl)))),?_⟩
  refine ⟨_,rfl,_,_,1,_,rfl,rfl,SqT.of h1,rfl,tt,rfl,⟨_,SqT.of h2⟩,fun D hD=>?_⟩
  refine compW_map Ts.length (fun i=>.str ((Ts.map (·.name)).getD i "")) (fun i σ' Hc=>(∃ t,σ' = [t])/\Same H Hc) (by rw [sizeLine_eq];omega) ⟨⟨none,rfl⟩,Same.upd hD⟩ upd_same ?_ ?_
  ·rintro i σ' Hc hi ⟨⟨t,rfl⟩,sm⟩ hD'
   have hie:i < es.length:=by omega
   refine ⟨⟨_,V.ref es[i],SqT.of (sm _ _ h2),by rw [List.getElem?_map,List.getElem?_eq_getElem hie];rfl⟩,?_⟩
   rintro x H' ⟨rfl,hx'⟩
   have ex:=hx' _ (SqT.of (sm _ _ h2))
   rw [List.getElem?_map,List.getElem?_eq_getElem hie] at ex
   cases ex
   obtain ⟨ct,g1,_⟩:=h4 i es[i] Ts[i] (List.getElem?_eq_getElem hie) (List.getElem?_eq_getElem hi)
   refine ⟨_,rfl,_,_,0,_,rfl,rfl,SqT.of (sm _ _ g1),rfl,?_,hD',⟨_,rfl⟩,sm.put hD⟩
   rw [List.getD_eq_getElem?_getD,List.getElem?_map,List.getElem?_eq_getElem hi]
   rfl
  ·rintro σ' Hc ⟨_,sm⟩ hDn
   refine ⟨⟨_,SqT.of (sm _ _ h2),by rw [List.length_map];omega⟩,q D Hc hD sm ?_⟩
   have:=range_map_getD (Ts.map (·.name)) ("":Str) (fun z=>V.str z)
   rw [List.length_map] at this
   rw [hDn,this]
theorem ok_tabIn {f:Addr} {fd:FuncData} (F:Fun K "table_in" "table_in" (top 36) f fd):FnOk P w K mg base CX0 1 f fd ["form","table"] spTabIn:=by
 have sc:FnScope ["form","table","entry"] ["form","table"] (defScope (top 36)):=⟨rfl,rfl,rfl,by decide +kernel,rfl,by decide +kernel,by decide +kernel⟩
 refine F.ok sc (fun vs H Q E h=>?_) (fun cdv A outer s H vs Q E hr h=>?_)
 ·obtain ⟨f,sz,Ts,T,rfl,_⟩:=h
  rfl
 ·obtain ⟨f,sz,Ts,T,rfl,⟨tt,es,h1,h2,h3,h4⟩,nd,hT,q⟩:=h
  refine ⟨_,pss_cons (ps_for PassesOwn.never rfl (pi_tup (pe_ix ix_tup (pv 0) pe_int (fun _ _=>rfl))) (pg_name (i:=2) sc.nd rfl (Or.inl rfl))
    (pss_one (ps_if (pt_cmpR op_eq (pe_ix ix_tup (pv 2) pe_int (fun _ _=>rfl)) (pv 1) (nomark _)) (pss_one (ps_ret (pv 2))) pss_nil))) pss_never,?_⟩
  refine ⟨_,rfl,_,_,1,_,rfl,rfl,SqT.of h1,rfl,tt,rfl,⟨_,SqT.of h2⟩,for_tup (K:=K) (a:=tt) (xs:=es.map V.ref) (fun i σ H'=>H' = H/\(∃ u,σ = [some (.ref f),some (.str T.name),u])/\∀ j T',j < i->Ts[j]? = some T'->T'.name ≠ T.name) ⟨rfl,⟨_,rfl⟩,fun j _ hj=>absurd hj (Nat.not_lt_zero _)⟩ (fun i σ H' _ p=>by rw [p.1];exact SqT.of h2) ?_ ?_⟩
  ·rintro i x σ H' hx ⟨rfl,⟨u,rfl⟩,hn⟩
   have hie:i < es.length:=by
    have:=(List.getElem?_eq_some_iff.mp hx).1
    rwa [List.length_map] at this
   have hit:i < Ts.length:=by omega
   rw [List.getElem?_map,List.getElem?_eq_getElem hie] at hx
   cases hx
   have ent:=h4 i es[i] Ts[i] (List.getElem?_eq_getElem hie) (List.getElem?_eq_getElem hit)
   obtain ⟨ct,g1,g2⟩:=id ent
   refine ⟨_,rfl,_,_,0,_,rfl,rfl,SqT.of g1,rfl,_,rfl,rfl,_,rfl,?_⟩
   refine ite2 (fun hc=>?_) (fun hc=>?_)
   ·have en:Ts[i].name = T.name:=by
     have:=of_decide_eq_true hc
     injection this
    have eT:Ts[i] = T:=by
     obtain ⟨k,hk,ek⟩:=List.mem_iff_getElem.mp hT
     have:i = k:=by
      refine (List.getElem_inj (h₀:=by rw [List.length_map];exact hit) (h₁:=by rw [List.length_map];exact hk) nd).mp ?_
      rw [List.getElem_map,List.getElem_map,ek,en]
     subst this
     exact ek
    rw [eT] at ent
    exact ⟨_,rfl,q _ ent⟩
   ·refine ⟨rfl,⟨_,rfl⟩,fun j T' hj hT'=>?_⟩
    by_cases hji:j < i
    ·exact hn j T' hji hT'
    ·have:j = i:=by omega
     subst this
     rw [List.getElem?_eq_getElem hit] at hT'
     cases hT'
     exact fun e=>hc (by rw [e];exact decide_eq_true rfl)
  ·rintro σ H' ⟨rfl,⟨u,rfl⟩,hn⟩
   obtain ⟨k,hk,ek⟩:=List.mem_iff_getElem.mp hT
   exact absurd rfl (hn k T (by rw [List.length_map];omega) (by rw [List.getElem?_eq_getElem hk,ek]))
end
end My
namespace L2
open PySem PySem.Spec PyProof.Rows
def OnlyT (tabs:List Addr) (H:Hp):Prop:=(∀ b,H b = none\/(∃ o xs,H b = some (.frz o (.lst xs)))\/(b ∈ tabs/\H b = some (.tbl #[])))/\∀ b ∈ tabs,H b = some (.tbl #[])
def BMain (h:Heap) (mg:Str->Option Value):Prop:=∃ bm ob,mg "__builtins__" = some (.ref bm)/\bm ≠ builtinsNs/\h.get? bm = some ob/\ob.cls = .type "module"/\ob.dict = some builtinsNs/\ob.data = .plain
theorem law_callT {P:Program} {w:World} {K:PySem.W.Frag} {mg mb:Str->Option Value} {CX:CXT} {k:Nat} {fa a:Addr} {fd:FuncData} {x:Str} {sp:Sp} {s₁:Shared} {vs:List Value} {ns:List Int} {tabs:List Addr}
  (KX:K.In s₁.heap) (hns:s₁.heap.Ns mainGlobals mg) (hb:s₁.heap.Ns builtinsNs mb) (hbb:∀ x:Str,x ≠ "__name__"->mb x = bootBuiltins x) (hlim:s₁.heap.NoLimit) (hg:s₁.gens = #[])
  (ha:s₁.heap.get? a = some { cls:=.type "list",data:=.seq vs.toArray }) (hi:IntsAre vs ns) (hl:ns.length ≤ sizeLine) (hr:Room k callerA)
  (hT:∀ b ∈ tabs,(∃ c,s₁.heap.TableAt c b #[])/\K.lookup b = none)
  (hbm:BMain s₁.heap mg)
  (F:∀ base:Heap,K.In base->base.Ns mainGlobals mg->BMain base mg->FnOk P w K mg base CX k fa fd [x] sp) (hbind:∀ (s:Shared) (u:Value),BindsTo s fd ⟨[u],[]⟩ [(x,u)])
  (hsp:∀ H:Hp,OnlyT tabs H->SqL K H a (ns.map V.int)->sp [.ref a] H (fun v _=>v = .bl true) fun _ _ _=>False)
  (hCX:∀ H e s',CX [] H s₁ (fun _ _ _=>False) e s'->False) :
  codeAny (model P w) callerA (.call (.ref fa) ⟨[.ref a],[]⟩) (fun r s'=>r = .ok (.ret (.bool true))/\OldK s₁.heap s'.heap/\s'.os = s₁.os/\AllBare s'.gens) s₁:=by
 have rv:=vals_ints hi
 have lenV:=hi.length
 have tabG:∀ b ∈ tabs,s₁.heap.get? b = some (PySem.W.tabObj #[]):=fun b hb=>(hT b hb).1.elim fun c h=>h.2
 have core:∀ H:Hp,OnlyT tabs H->SqL K H a (ns.map V.int)->HOk P w H s₁.heap->(∀ b,H b ≠ none->b = a\/b ∈ tabs)->(H a ≠ none->K.lookup a = none) →
   codeAny (model P w) callerA (.call (.ref fa) ⟨[.ref a],[]⟩) (fun r s'=>r = .ok (.ret (.bool true))/\OldK s₁.heap s'.heap/\s'.os = s₁.os/\AllBare s'.gens) s₁:=by
  intro H hO hS hok hA hK
  have base_of:∀ {b:Addr} {o:Obj},s₁.heap.get? b = some o->H b = none->(hidT s₁.heap H).get? b = some o:=fun e n=>hidT_get e n
  have noA:∀ {b:Addr} {o:Obj} {es:Array DictEntry} {ep:Nat},s₁.heap.get? b = some o->o.data = .dict es ep->H b = none:=fun {b o es ep} e d=>by
   cases q:H b with
   | none=>rfl
   | some u=>
    rcases hA b (by rw [q];simp) with e' | e'
    ·subst e'
     rw [ha] at e;cases e
     have d':Data.seq vs.toArray _ = Data.dict es ep:=d
     cases d'
    ·rw [tabG b e'] at e;cases e
     have d':Data.fields #[] = Data.dict es ep:=d
     cases d'
  have nsK:∀ {b:Addr} {m:Str->Option Value},s₁.heap.Ns b m->(hidT s₁.heap H).Ns b m:=fun {b m} ⟨o,es,ep,e,d,r⟩=>⟨o,es,ep,base_of e (noA e d),d,r⟩
  have hKb:K.In (hidT s₁.heap H):=fun b o e=>base_of (KX b o e) (by
   cases q:H b with
   | none=>rfl
   | some u=>
    rcases hA b (by rw [q];simp) with e' | e'
    ·subst e'
     rw [hK (by rw [q];simp)] at e;cases e
    ·rw [(hT b e').2] at e;cases e)
  have hM:Mod K mg (hidT s₁.heap H):=⟨hKb,nsK hns,⟨mb,nsK hb,hbb⟩,let ⟨mc,h1,h2⟩:=hlim;⟨mc,nsK h1,h2⟩⟩
  have e0:Env0 P w K mg (hidT s₁.heap H) callerA [] s₁ H:=⟨rfl,hM,fun b o e=>of_hidT e,Nat.le_of_eq (hidT_size _ _),trivial,fun b hb=>absurd (show b ∈ ([]:List Addr) from hb) (by simp),hok,.of_eq hg⟩
  have hB:BMain (hidT s₁.heap H) mg:=by
   obtain ⟨bm,ob,b1,b2,b3,b4,b5,b6⟩:=hbm
   refine ⟨bm,ob,b1,b2,base_of b3 ?_,b4,b5,b6⟩
   cases q:H bm with
   | none=>rfl
   | some u=>
    rcases hA bm (by rw [q];simp) with e' | e'
    ·rw [e',ha] at b3
     cases b3
     cases b6
    ·rw [tabG bm e'] at b3
     cases b3
     cases b6
  refine codeAny_mono ((F _ hKb (nsK hns) hB).run callerA [] s₁ H ⟨[.ref a],[]⟩ [.ref a] [.ref a] _ _ hr e0 (hbind s₁ (.ref a)) (.cons rfl .nil) (hsp H hO hS)) fun r s' h=>?_
  cases r with
  | error e=>exact (hCX H e s' h).elim
  | ok fl=>
   cases fl with
   | next=>exact False.elim h
   | brk=>exact False.elim h
   | cont=>exact False.elim h
   | ret u=>
    obtain ⟨v,H',os,bare,un,hok',r',q⟩:=h
    have q':v = .bl true:=q
    subst q'
    obtain rfl:u = Value.bool true:=r'
    refine ⟨rfl,⟨fun b o e=>?_,fun b o e=>un.there b o e (by simp)⟩,os,bare⟩
    cases q:H b with
    | none=>exact .inl (un.keep b o e q (by intro z;exact absurd (show b ∈ ([]:List Addr) from z) (by simp)) (by simp))
    | some u=>
     rcases hO.1 b with z | ⟨ob,xs,z⟩ | ⟨hb,z⟩
     ·rw [q] at z;cases z
     ·have z2:=un.frzs b ob _ z
      obtain ⟨e1,_⟩:=hok b _ z
      obtain ⟨e2,_⟩:=hok' b _ z2
      rw [e] at e1;cases e1
      exact .inl e2
     ·obtain ⟨more,z2⟩:=un.tbls b _ z
      have e2:=hok' b _ z2
      obtain ⟨c,ht⟩:=(hT b hb).1
      rw [tabG b hb] at e
      cases e
      exact .inr (.inl ⟨ht.isCodeTable,rfl,#[],more,rfl,e2⟩)
 have na:a ∉ tabs:=fun z=>by
  have e:=tabG a z
  rw [ha] at e
  have e':=congrArg Obj.data (Option.some.inj e)
  have e2:Data.seq vs.toArray 0 = Data.fields #[]:=e'
  cases e2
 cases hk:K.lookup a with
 | some o=>
  have e:=KX a o hk
  rw [ha] at e
  cases e
  refine core (fun b=>if b ∈ tabs then some (.tbl #[]) else none) ⟨fun b=>?_,fun b hb=>if_pos hb⟩ (.inr ⟨_,vs.toArray,_,hk,rfl,rfl,rfl,by rw [List.size_toArray,lenV];exact hl,by simpa using rv⟩) (fun b u z=>?_) (fun b z=>?_) (fun z=>absurd (if_neg na) z)
  ·by_cases hb:b ∈ tabs
   ·exact .inr (.inr ⟨hb,if_pos hb⟩)
   ·exact .inl (if_neg hb)
  ·by_cases hb:b ∈ tabs
   ·have z':=(if_pos hb).symm.trans z
    cases z'
    exact tabG b hb
   ·have z':=(if_neg hb).symm.trans z
    cases z'
  ·by_cases hb:b ∈ tabs
   ·exact .inr hb
   ·exact absurd (if_neg hb) z
 | none=>
  refine core (fun b=>if b ∈ tabs then some (.tbl #[]) else if b = a then some (.frz { cls:=.type "list",data:=.seq vs.toArray } (.lst (ns.map V.int))) else none) ⟨fun b=>?_,fun b hb=>if_pos hb⟩ (.inl (.inr ⟨{ cls:=.type "list",data:=.seq vs.toArray },by
   show (if a ∈ tabs then _ else if a = a then _ else _) = _
   rw [if_neg na,if_pos rfl]⟩)) (fun b u z=>?_) (fun b z=>?_) (fun _=>hk)
  ·by_cases hb:b ∈ tabs
   ·exact .inr (.inr ⟨hb,if_pos hb⟩)
   ·by_cases hb2:b = a
    ·refine .inr (.inl ⟨{ cls:=.type "list",data:=.seq vs.toArray },ns.map V.int,?_⟩)
     show (if b ∈ tabs then _ else if b = a then _ else _) = _
     rw [if_neg hb,if_pos hb2]
    ·refine .inl ?_
     show (if b ∈ tabs then _ else if b = a then _ else _) = _
     rw [if_neg hb,if_neg hb2]
  ·have z0:(if b ∈ tabs then some (HO.tbl #[]) else if b = a then some (.frz { cls:=.type "list",data:=.seq vs.toArray } (.lst (ns.map V.int))) else none) = some u:=z
   by_cases hb:b ∈ tabs
   ·rw [if_pos hb] at z0
    cases z0
    exact tabG b hb
   ·rw [if_neg hb] at z0
    by_cases hb2:b = a
    ·rw [if_pos hb2] at z0
     cases z0
     subst hb2
     exact ⟨ha,by rw [List.length_map];exact hl,vs,_,rv,ha⟩
    ·rw [if_neg hb2] at z0
     cases z0
  ·by_cases hb:b ∈ tabs
   ·exact .inr hb
   ·by_cases hb2:b = a
    ·exact .inl hb2
    ·refine absurd ?_ z
     show (if b ∈ tabs then _ else if b = a then _ else _) = _
     rw [if_neg hb,if_neg hb2]
theorem tab_is {K:PySem.W.Frag} {h:Heap} {c P:Addr} (X:K.In h) (g:h.get? P = some (PySem.W.tabObj #[])) (e:PySem.W.codeHdIn K c P = true) (n:K.lookup P = none):(∃ c,h.TableAt c P #[])/\K.lookup P = none:=
 ⟨⟨c,(PySem.W.codeHd_of_K X e).tab g⟩,n⟩
theorem walk_ofT {l:PySem.W.OpenLaw} {n k:Nat} {q:Program} {loose:List Str} {XP:(Str->Option Value)->Heap->Prop} {YP:World->Heap->Prop} {d:DefRec} {K:Params->PySem.W.Frag} {CX:World->CXT} {sp:World->Sp} {x:Str} {tx:World->List Addr}
  (hn:l.most = some n) (hn2:n ≤ sizeLine) (hdf:d.params.defaults = []) (hr:Room k callerA)
  (hY:∀ (w:World) (h:Heap),YP w h->(K w.params).In h)
  (hT:∀ (w:World) (h:Heap),YP w h->∀ b ∈ tx w,(∃ c,h.TableAt c b #[])/\(K w.params).lookup b = none)
  (F:∀ (w:World) (mg:Str->Option Value) (fa:Addr) (h:Heap),(K w.params).In h->h.Ns mainGlobals mg->mg d.name = some (.ref fa) →
   ∃ fd:FuncData,(∀ (s:Shared) (u:Value),BindsTo s fd ⟨[u],[]⟩ [(x,u)]) ∧
    ∀ base:Heap,(K w.params).In base->base.Ns mainGlobals mg->BMain base mg->FnOk l.prog w (K w.params) mg base (CX w) k fa fd [x] (sp w))
  (hsp:∀ (w:World) (H:Hp) (a:Addr) (ns:List Int),ns.length ≤ n->OnlyT (tx w) H->SqL (K w.params) H a (ns.map V.int)->sp w [.ref a] H (fun v _=>v = .bl true) fun _ _ _=>False)
  (hCX:∀ (w:World) (H:Hp) (s:Shared) (e:Value) (s':Shared),CX w [] H s (fun _ _ _=>False) e s'->False) :
  PySem.W.WalkO q loose XP YP l.row.toRowW d [] (fun f vs=>PySem.call f vs):=by
 refine Att.attach_call hn hdf fun w s₀ s₁ mg mb fa o pm cd doc a vs ns G Y ho hd hcd hmg hobj hints hlen hg=>?_
 have KX:=hY w _ Y
 obtain ⟨fd,hb,hF⟩:=F w mg fa _ KX G.T.g hmg
 exact law_callT KX G.T.g G.T.b G.T.builtins G.T.nolimit hg hobj hints (Nat.le_trans hlen hn2) hr (hT w _ Y) G.T.bmain hF hb (fun H hO hS=>hsp w H a ns hlen hO hS) fun H e s'=>hCX w H s₁ e s'
end L2
namespace L2
open PySem PySem.Spec PyProof.Rows
def codeP (c:Addr) (q:Str) (h:Heap):Prop:=h.CodeRec (.ref c) q
def lamP (f:Addr) (q:Str) (params:Arguments) (body:Expr) (scope:Scope) (pm:Value) (c':Addr) (h:Heap):Prop:=∃ ctv,h.get? f = some (PySem.W.kla_obj "<lambda>" q params body scope [] pm c' ctv)
section
variable {P:Program} {w:World} {H:Hp} {h:Heap} {f c:Addr} {q:Str} {params:Arguments} {body:Expr} {scope:Scope} {pm:Value}
theorem codeP_ok (e:h.CodeRec (.ref c) q):ObjOk P w H h c (.ext (codeP c q)):=by
 refine ⟨e,?_,fun h1 h2 x k=>?_⟩
 ·obtain ⟨c',o,vs,t,e1,e2,_⟩:=e
  cases e1
  exact ⟨o,e2⟩
 ·obtain ⟨c',o,vs,t,e1,e2,e3⟩:=x
  cases e1
  exact ⟨c,o,vs,t,rfl,k o e2,e3⟩
theorem lamP_ok {ctv:Value} (e:h.get? f = some (PySem.W.kla_obj "<lambda>" q params body scope [] pm c ctv)):ObjOk P w H h f (.ext (lamP f q params body scope pm c)):=⟨⟨ctv,e⟩,⟨_,e⟩,fun _ _ ⟨ctv,e⟩ k=>⟨ctv,k _ e⟩⟩
end
def tLam (P:Addr) (pos:Pos) (q:Str) (params:Arguments) (body:Expr) (scope:Scope) (pm:Value):TE:=fun σ H Q=>∃ ps,H P = some (.tbl ps)/\TriplesOk ps.toList ∧
 ((codeAmong pos ps.toList = none/\∀ c' f,H c' = none->H f = none->c' ≠ f->c' ≠ P->f ≠ P->Q (.ref f) (upd (upd (upd H P (.tbl (ps ++ #[rawInt pos.line,rawInt pos.col,.ref c']))) c' (.ext (codeP c' q))) f (.ext (lamP f q params body scope pm c')))) ∨
  ∃ c',codeAmong pos ps.toList = some (.ref c')/\∀ f,H f = none->Q (.ref f) (upd H f (.ext (lamP f q params body scope pm c'))))
section
variable {X:Cx} {params:Arguments} {body:Expr} {scope:Scope} {pos:Pos} {c P:Addr}
theorem pe_lam (hcode:X.env.code = .ref c) (hC:PySem.W.codeHdIn X.K c P = true) (hB:BMain X.base X.mg) (hcl:closureFor scope X.env = pure []:=by rfl) (hdef:defaultsOf params X.env = ([],[]):=by rfl) :
  PE X (.Lambda params body scope pos) (tLam P pos (X.env.qual ++ "<lambda>") params body scope ((X.mg "__name__").getD .none)):=by
 intro pins s σ H Q I h
 obtain ⟨ps,hp,tr,h⟩:=h
 have hg:s.heap.Ns mainGlobals X.mg:=I.mod.glob.keeps I.bk
 have C:=PySem.W.codeHd_of_K I.kIn hC
 have hP:s.heap.get? P = some (PySem.W.tabObj ps):=I.hok P _ hp
 have hgP:mainGlobals ≠ P:=fun z=>by
  obtain ⟨o,es,ep,e,d,_⟩:=id hg
  rw [z,hP] at e
  cases e
  cases d
 have hb:s.heap.BuiltinsAt X.mg P:=by
  obtain ⟨bm,ob,b1,b2,b3,b4,b5,b6⟩:=hB
  have b3':=I.bk _ _ b3
  refine ⟨bm,ob,b1,b2,fun z=>?_,fun z=>?_,b3',b4,b5,b6⟩
  ·obtain ⟨o,es,ep,e,d,_⟩:=id hg
   rw [z,e] at b3'
   cases b3'
   rw [d] at b6
   cases b6
  ·rw [z,hP] at b3'
   cases b3'
   cases b6
 refine PySem.W.kla_eval hdef ?_
 rcases h with ⟨hnf,q⟩ | ⟨c',hf,q⟩
 ·refine PySem.W.kla_makeFunction hcl I.ok.glob hg hcode C hP tr hnf hgP hb fun c' ctv h' tk hx hge hlt hrec htb=>?_
  have hcN:H c' = none:=I.hok.fresh hge
  have hfN:H h'.objs.size = none:=I.hok.fresh (Nat.le_trans hge (Nat.le_of_lt hlt))
  have cf:c' ≠ h'.objs.size:=Nat.ne_of_lt hlt
  have cP:c' ≠ P:=fun z=>by rw [z,hp] at hcN;cases hcN
  have fP:h'.objs.size ≠ P:=fun z=>by rw [z,hp] at hfN;cases hfN
  have keep:∀ b o,b ≠ P->s.heap.get? b = some o->(h'.push (PySem.W.kla_obj "<lambda>" (X.env.qual ++ "<lambda>") params body scope [] ((X.mg "__name__").getD .none) c' ctv)).get? b = some o:=fun b o hb e=>Heap.get?_push_of_some _ (hx b o hb e)
  have nP:∀ b,H b = none->b ≠ P:=fun b n z=>by rw [z,hp] at n;cases n
  have old:∀ b u,H b = some u->b ≠ P->upd (upd (upd H P (.tbl (ps ++ #[rawInt pos.line,rawInt pos.col,.ref c']))) c' (.ext (codeP c' (X.env.qual ++ "<lambda>")))) h'.objs.size (.ext (lamP h'.objs.size (X.env.qual ++ "<lambda>") params body scope ((X.mg "__name__").getD .none) c')) b = some u:=fun b u e hb=>by
   rw [upd_ne (fun z=>by rw [z,hfN] at e;cases e),upd_ne (fun z=>by rw [z,hcN] at e;cases e),upd_ne hb]
   exact e
  have atP:upd (upd (upd H P (.tbl (ps ++ #[rawInt pos.line,rawInt pos.col,.ref c']))) c' (.ext (codeP c' (X.env.qual ++ "<lambda>")))) h'.objs.size (.ext (lamP h'.objs.size (X.env.qual ++ "<lambda>") params body scope ((X.mg "__name__").getD .none) c')) P = some (.tbl (ps ++ #[rawInt pos.line,rawInt pos.col,.ref c'])):=by
   rw [upd_ne (Ne.symm fP),upd_ne (Ne.symm cP),upd_same]
  have noT:∀ b u,H b = some u->(∀ zs,u ≠ .tbl zs)->b ≠ P:=fun b u e hu z=>by
   rw [z,hp] at e
   cases e
   exact hu ps rfl
  refine ⟨.ref h'.objs.size,_,I.un (t':=tk) ⟨fun b o e n _ _=>keep b o (nP b n) e,fun b o e n _ _=>⟨o.slots,keep b o (nP b n) e⟩,fun b o e n _=>?_,fun b o e _=>?_,fun b xs e=>old b _ e (noT b _ e fun zs z=>by cases z),fun b o u e=>old b _ e (noT b _ e fun zs z=>by cases z),fun b zs e=>?_⟩ fun b u e=>?_,rfl,q c' h'.objs.size hcN hfN cf cP fP⟩
  ·have hlt':b < s.heap.objs.size:=Heap.lt_size e
   rw [upd_ne (Nat.ne_of_lt (Nat.lt_of_lt_of_le hlt' (Nat.le_trans hge (Nat.le_of_lt hlt)))),upd_ne (Nat.ne_of_lt (Nat.lt_of_lt_of_le hlt' hge)),upd_ne (nP b n)]
   exact n
  ·by_cases hbP:b = P
   ·rw [hbP]
    exact ⟨_,Heap.get?_push_of_some _ htb⟩
   ·exact ⟨o,keep b o hbP e⟩
  ·by_cases hbP:b = P
   ·subst hbP
    rw [hp] at e
    cases e
    exact ⟨_,atP⟩
   ·exact ⟨#[],by rw [old b _ e hbP];simp⟩
  ·by_cases hbf:b = h'.objs.size
   ·subst hbf
    rw [upd_same] at e
    cases e
    exact lamP_ok (Heap.get?_push_size _ rfl)
   ·rw [upd_ne hbf] at e
    by_cases hbc:b = c'
    ·subst hbc
     rw [upd_same] at e
     cases e
     exact codeP_ok (hrec.push _)
    ·rw [upd_ne hbc] at e
     by_cases hbP:b = P
     ·subst hbP
      rw [upd_same] at e
      cases e
      exact Heap.get?_push_of_some _ htb
     ·rw [upd_ne hbP] at e
      refine (I.hok b u e).stay (fun d v hd r=>keep d v ?_ r) (fun d r=>old d _ r (noT d _ r fun zs z=>by cases z)) fun d xs r=>old d _ r (noT d _ r fun zs z=>by cases z)
      rcases hd with rfl | hd
      ·exact hbP
      ·exact noT d _ hd fun zs z=>by cases z
 ·refine PySem.W.kla_makeFunctionHit hcl I.ok.glob hg hcode C hP tr hf hb fun ctv h' tk hk hsz=>?_
  have hfN:H h'.objs.size = none:=I.hok.fresh hsz
  exact ⟨.ref h'.objs.size,_,I.laid (a:=h'.objs.size) (t':=tk) (fun b o e=>Heap.get?_push_of_some _ (hk b o e)) hsz (lamP_ok (Heap.get?_push_size _ rfl)),rfl,q _ hfN⟩
end
end L2
namespace L2
open PySem PySem.Spec PyProof.Rows
section
variable {X:Cx} {pins:List (Addr × Obj)} {σ:St} {H:Hp} {s:Shared} {Q:VK} {f c':Addr} {q x:Str} {params:Arguments} {body:Expr} {scope:Scope} {pm:Value} {u:Value} {v:V} {k:Nat}
theorem code_lam {t:TE} {A:Around} {outer:List Env} (e0:Env0 X.prog X.w X.K X.mg X.base A outer s H) (hr:Room (k + 1) A) (hf:H f = some (.ext (lamP f q params body scope pm c'))) (hc:H c' = some (.ext (codeP c' q))) (S:FnScope [x] [x] scope)
  (hb:∀ (ctv u:Value),bindArgs (PySem.W.kla_fn "<lambda>" q params body scope [] pm (.ref c') ctv) ⟨[u],[]⟩ = pure [(x,u)])
  (hbody:PE (cxOf CX0 X.prog X.w X.K X.mg X.base [x] q scope f (.ref c') A outer s H E0).nox body t) (r:RelV v u) (ht:t [some v] H Q) :
  codeAny (model X.prog X.w) A (.call (.ref f) ⟨[u],[]⟩) (CR CX0 outer X.prog X.w H s Q E0) s:=by
 obtain ⟨⟨ctv,ho⟩,_⟩:=e0.hok f _ hf
 obtain ⟨hcd,_⟩:=e0.hok c' _ hc
 have lim:s.heap.NoLimit:=e0.mod.nolimit.keeps fun b o e=>(e0.bs b o e).1
 have hkind:∀ y ∈ ([x].zip [u]),scope.names.lookup y.1 = some .local\/(scope.names.lookup y.1 = some .cell/\((cellsFrom (s.heap.objs.size + 1) scope.names []).lookup y.1).isSome = true):=fun ⟨n,v⟩ hy=>by
  rcases S.par n (List.of_mem_zip hy).1 with q | q
  ·exact .inl q
  ·exact .inr ⟨q,PySem.W.cellsFrom_some _ _ _ (.inl q)⟩
 refine PySem.W.kla_callFunE hr.depth ho rfl S.co S.gen rfl hcd ?_
 rw [hb]
 refine wpAny_pure (wpAny_newFunctionEnv_cells (binds:=[x].zip [u]) S.kind hkind fun env he s1 z=>?_)
 subst he
 refine ⟨lim.keeps z.toInCall.keep,PySem.W.kla_codeExpr ?_⟩
 have I:Inv (cxOf CX0 X.prog X.w X.K X.mg X.base [x] q scope f (.ref c') A outer s H E0) [] (start [x] [v]) H s1:=inv_start S hr.hd e0 rfl (.cons r .nil) z
 refine wpAny_mono (hbody.nox [] s1 (start [x] [v]) H Q I ht) (fun u' s' hs=>?_) fun e s' hs=>hs
 obtain ⟨v',H',J,rv,q'⟩:=hs
 exact ⟨v',H',J.os,J.bare,J.base,J.hok,rv,q'⟩
end
end L2
namespace L2
open PySem PySem.Spec PyProof.Rows PySem.W
theorem cmp_k {prog:Program} {w:World} {A:Around} {ks:List Value} {zs:List Str} {s1:Shared} (t:StrsAre ks zs):Srt.Cmp zs.length (Srt.rz zs) (kas_ask prog w A oneType' ks) (fun s'=>s' = s1):=by
 intro i j C s' hi hj hij hs' hC
 subst hs'
 have hl:ks.length = zs.length:=t.length
 obtain ⟨a,ta,e1,e1'⟩:=strs_get (j:=i) t (by omega)
 obtain ⟨b,tb,e2,e2'⟩:=strs_get (j:=j) t (by omega)
 unfold kas_ask
 have g1:ks.getD i Value.none = .str a ta:=by rw [List.getD_eq_getElem?_getD,List.getElem?_eq_getElem (by omega),Option.getD_some,e1]
 have g2:ks.getD j Value.none = .str b tb:=by rw [List.getD_eq_getElem?_getD,List.getElem?_eq_getElem (by omega),Option.getD_some,e2]
 rw [g1,g2]
 refine kas_lt_str ?_
 have er:Srt.rz zs i j = decide (a.cps.toList < b.cps.toList):=by
  unfold Srt.rz
  rw [List.getD_eq_getElem?_getD,List.getD_eq_getElem?_getD,e1',e2',Option.getD_some,Option.getD_some]
 rw [← er]
 exact hC s' rfl
theorem strs_snoc {z:Str} {t:Tok}:∀ {vs:List Value} {zs:List Str},StrsAre vs zs->StrsAre (vs ++ [.str z t]) (zs ++ [z])
 | _,_,.nil=>.cons z t .nil
 | _,_,.cons y u r=>.cons y u (strs_snoc r)
section
variable {X:Cx} {pins:List (Addr × Obj)} {σ:St} {H:Hp} {s:Shared}
theorem Inv.moved {h':Heap} {it:Addr} {t':Nat} (I:Inv X pins σ H s) (fp:FpOk X pins H it) (k:∀ b o,b ≠ it->s.heap.get? b = some o->h'.get? b = some o):Inv X pins σ H { s with heap:=h',toks:=t' }:=
 I.turned k fp.1 fp.2.1 fp.2.2.2.1 fp.2.2.2.2.1 fp.2.2.2.2.2
theorem key_tail {A:Around} {E:Value->Shared->Prop} {a kS:Addr} {vs ks:List Value} {e e1:Nat} {p:Array Nat} {st:SortSt} {P:PySem.Fin->Shared->Prop} (I:Inv X pins σ H s) (fa:FpOk X pins H a) (fk:FpOk X pins H kS) (hka:kS ≠ a)
  (hk:s.heap.get? kS = some (seqObj "list" ks.toArray e)) (ha:s.heap.get? a = some (seqObj "list" #[] e1)) (hl:ks.length = vs.length) (h64:vs.length < 64) (hp:p.size = vs.length) (har:arrOf st = p.map (kas_item (ks.toArray.zip vs.toArray))) (hf:failedOf st = none)
  (h:∀ (s':Shared) (e:Nat),Inv X pins σ H s'->s'.heap.get? a = some (seqObj "list" (List.toArray (p.toList.map fun i=>vs.getD i Value.none)) e)->P (.done (.ret .none)) s') :
  wpAny (model X.prog X.w) A (ksk_tail a false e1 (.ref kS) st) P E s:=by
 have hout:=kat_snds (vs:=vs) (ks:=ks) hl har
 unfold ksk_tail
 try dsimp only
 have s1:=Heap.SameBut.update s.heap kS (Obj.mapSeq fun _=>(#[]:Array Value))
 have ha1:(s.heap.update kS (Obj.mapSeq fun _=>(#[]:Array Value))).get? a = some (seqObj "list" #[] e1):=(s1.2 a hka.symm).trans ha
 refine wpAny_bind (listUpdate_at hk rfl ?_ (by rw [List.size_toArray,hl,sizeLine_eq];omega) (Nat.zero_le _))
 refine wpAny_bind (wpAny_letGo ?_)
 refine wpAny_bind (seqEpoch_at ha1 rfl ?_)
 simp only [Bool.false_eq_true,if_false]
 rw [hout]
 have s2:=Heap.SameBut.update (s.heap.update kS (Obj.mapSeq fun _=>(#[]:Array Value))) a (Obj.mapSeq fun _=>List.toArray (p.toList.map fun i=>vs.getD i Value.none))
 obtain ⟨c2,hc2⟩:∃ c2,((s.heap.update kS (Obj.mapSeq fun _=>(#[]:Array Value))).update a (Obj.mapSeq fun _=>List.toArray (p.toList.map fun i=>vs.getD i Value.none))).get? a = some (seqObj "list" (List.toArray (p.toList.map fun i=>vs.getD i Value.none)) c2):=
  ⟨_,get?_update_seq ha1 fun _=>List.toArray (p.toList.map fun i=>vs.getD i Value.none)⟩
 refine wpAny_bind (listUpdate_at ha1 rfl ?_ (Nat.zero_le _) (by rw [List.size_toArray,List.length_map,Array.length_toList,hp,sizeLine_eq];omega))
 rw [hf]
 simp only [bne_self_eq_false,Bool.false_eq_true,if_false]
 have I1:Inv X pins σ H { s with heap:=s.heap.update kS (Obj.mapSeq fun _=>(#[]:Array Value)) }:=I.moved (t':=s.toks) fk fun b o hb q=>(s1.2 b hb).trans q
 exact wpAny_pure (h _ c2 (I1.moved (t':=s.toks) fa fun b o hb q=>(s2.2 b hb).trans q) hc2)
theorem list_sort_key {A:Around} {E:Value->Shared->Prop} {a:Addr} {vs:List Value} {n:Nat} {f:Value} {zs:List Str} {P:PySem.Fin->Shared->Prop} (I:Inv X pins σ H s) (fa:FpOk X pins H a) (ho:s.heap.get? a = some (seqObj "list" vs.toArray n)) (hlen:zs.length = vs.length) (nd:zs.Nodup) (h64:vs.length < 64)
  (turn:∀ (i:Nat) (v:Value) (z:Str),vs[i]? = some v->zs[i]? = some z->∀ s':Shared,Inv X pins σ H s'->wpAny (model X.prog X.w) A (call f [v]) (fun k s''=>(∃ t,k = .str z t)/\Inv X pins σ H s''/\∀ b o,FpOk X pins H b->s'.heap.get? b = some o->s''.heap.get? b = some o) (fun _ _=>False) s')
  (h:∀ (p:Array Nat) (s':Shared) (e:Nat),Srt.PN vs.length p->Srt.Up (Srt.rz zs) p vs.length->Inv X pins σ H s'->s'.heap.get? a = some (seqObj "list" (List.toArray (p.toList.map fun i=>vs.getD i Value.none)) e)->P (.done (.ret .none)) s') :
  wpAny (model X.prog X.w) A (ksk_tree a f false) P E s:=by
 have haL:a < s.heap.objs.size:=Heap.lt_size ho
 have s1:=Heap.SameBut.update s.heap a (Obj.mapSeq fun _=>(#[]:Array Value))
 obtain ⟨e1,ho1⟩:∃ e1,(s.heap.update a (Obj.mapSeq fun _=>(#[]:Array Value))).get? a = some (seqObj "list" #[] e1):=⟨_,get?_update_seq ho fun _=>#[]⟩
 have I1:Inv X pins σ H { s with heap:=s.heap.update a (Obj.mapSeq fun _=>(#[]:Array Value)) }:=I.moved (t':=s.toks) fa fun b o hb q=>(s1.2 b hb).trans q
 have I2:Inv X pins σ H { s with heap:=(s.heap.update a (Obj.mapSeq fun _=>(#[]:Array Value))).push (seqObj "tuple" vs.toArray 0) }:=I1.kept (t':=s.toks) fun b o q=>Heap.get?_push_of_some _ q
 have I3:Inv X pins σ H { s with heap:=((s.heap.update a (Obj.mapSeq fun _=>(#[]:Array Value))).push (seqObj "tuple" vs.toArray 0)).push (seqObj "list" #[] 0) }:=I2.kept (t':=s.toks) fun b o q=>Heap.get?_push_of_some _ q
 have fk:FpOk X pins H ((s.heap.update a (Obj.mapSeq fun _=>(#[]:Array Value))).push (seqObj "tuple" vs.toArray 0)).objs.size:=I2.fpOk (Nat.le_refl _) (I2.hok.fresh (Nat.le_refl _))
 have hkS:((s.heap.update a (Obj.mapSeq fun _=>(#[]:Array Value))).push (seqObj "tuple" vs.toArray 0)).objs.size = s.heap.objs.size + 1:=by rw [size_push',Heap.size_update]
 have hka:((s.heap.update a (Obj.mapSeq fun _=>(#[]:Array Value))).push (seqObj "tuple" vs.toArray 0)).objs.size ≠ a:=by rw [hkS];exact Nat.ne_of_gt (Nat.lt_succ_of_lt haL)
 unfold ksk_tree
 refine wpAny_bind (listItems_at ho rfl ?_)
 refine wpAny_bind (listUpdate_at ho rfl ?_ (by rw [List.size_toArray,sizeLine_eq];omega) (Nat.zero_le _))
 refine wpAny_bind (seqEpoch_at ho1 rfl ?_)
 refine wpAny_bind (wpAny_newTuple ?_ (by show vs.length ≤ _;rw [sizeLine_eq];omega))
 refine wpAny_bind (wpAny_newList ?_ (Nat.zero_le _))
 refine wpAny_holding ?_
 generalize ekS:((s.heap.update a (Obj.mapSeq fun _=>(#[]:Array Value))).push (seqObj "tuple" vs.toArray 0)).objs.size = kS at fk hka
 show wpAny (model X.prog X.w) A (ksk_rest a f false vs.toArray e1 (.ref kS)) P E { s with heap:=((s.heap.update a (Obj.mapSeq fun _=>(#[]:Array Value))).push (seqObj "tuple" vs.toArray 0)).push (seqObj "list" #[] 0) }
 have hk0:(((s.heap.update a (Obj.mapSeq fun _=>(#[]:Array Value))).push (seqObj "tuple" vs.toArray 0)).push (seqObj "list" #[] 0)).get? kS = some (seqObj "list" #[] 0):=by rw [← ekS];exact Heap.get?_push_size _ rfl
 have ha0:(((s.heap.update a (Obj.mapSeq fun _=>(#[]:Array Value))).push (seqObj "tuple" vs.toArray 0)).push (seqObj "list" #[] 0)).get? a = some (seqObj "list" #[] e1):=Heap.get?_push_of_some _ (Heap.get?_push_of_some _ ho1)
 unfold ksk_rest
 refine wpAny_bind (wpAny_rule ?_)
 first
  | rw [List.forIn_toArray]
  | (rw [← Array.forIn_toList];simp only [List.toList_toArray])
  | rw [← Array.forIn_toList]
 refine wpAny_bind (ksk_fold (fun i s'=>∃ (kA:List Value) (e:Nat),Inv X pins σ H s'/\s'.heap.get? kS = some (seqObj "list" kA.toArray e)/\s'.heap.get? a = some (seqObj "list" #[] e1)/\StrsAre kA (zs.take i)) vs 0 _ ⟨[],0,I3,hk0,ha0,by simpa using StrsAre.nil⟩ ?step ?done)
 case step=>
  rintro j x s' hx ⟨kA,e,J,hk,ha,hs⟩
  simp only [Nat.zero_add] at hs ⊢
  have hj:j < vs.length:=(List.getElem?_eq_some_iff.mp hx).1
  obtain ⟨z,hz⟩:∃ z,zs[j]? = some z:=⟨_,List.getElem?_eq_getElem (by omega)⟩
  have hsz:kA.length ≤ vs.length:=by
   have h1:kA.length = (zs.take j).length:=hs.length
   rw [List.length_take] at h1
   omega
  refine wpAny_bind (wpAny_attempt (wpAny_mono (turn j x z hx hz s' J) (fun v s'' he=>?_) fun _ _ hF=>hF.elim))
  obtain ⟨⟨t,rfl⟩,J2,kp⟩:=he
  try dsimp only
  have hk2:=kp kS _ fk hk
  have ha2:=kp a _ fa ha
  have u1:=Heap.SameBut.update s''.heap kS (Obj.mapSeq (·.push (.str z t)))
  obtain ⟨c2,hc2⟩:∃ c2,(s''.heap.update kS (Obj.mapSeq (·.push (.str z t)))).get? kS = some (seqObj "list" (kA.toArray.push (.str z t)) c2):=⟨_,get?_update_seq hk2 (·.push (.str z t))⟩
  have ek:zs.take (j + 1) = zs.take j ++ [z]:=by rw [List.take_add_one,hz];simp
  refine wpAny_bind (listUpdate_at hk2 rfl ?_ (by rw [List.size_toArray,sizeLine_eq];omega) (Nat.le_trans (Nat.le_of_eq (Array.size_push ..)) (by rw [List.size_toArray,sizeLine_eq];omega)))
  exact wpAny_pure ⟨rfl,kA ++ [.str z t],c2,J2.moved (t':=s''.toks) fk fun b o hb q=>(u1.2 b hb).trans q,by rw [hc2];simp,(u1.2 a hka.symm).trans ha2,by rw [ek];exact strs_snoc hs⟩
 case done=>
  rintro s' ⟨kA,e,J,hk,ha,hs⟩
  have hs':StrsAre kA zs:=by
   have e3:zs.take (0 + vs.length) = zs:=List.take_of_length_le (by omega)
   rw [e3] at hs
   exact hs
  have hl:kA.length = vs.length:=by have h1:kA.length = zs.length:=hs'.length;omega
  try dsimp only
  refine wpAny_bind (listItems_at hk rfl ?_)
  unfold ksk_end
  try dsimp only
  rw [if_neg (by decide)]
  by_cases h2:vs.toArray.size < 2
  ·rw [if_pos h2,if_pos h2]
   refine wpAny_bind (wpAny_pure ?_)
   rw [StateT.run_pure]
   refine wpAny_bind (wpAny_pure ?_)
   try dsimp only
   simp only [Bool.false_eq_true,if_false]
   refine key_tail (vs:=vs) (ks:=kA) (p:=List.toArray (List.range vs.length)) J fa fk hka hk ha hl h64 (by simp) (by
    have e:=kas_range (kA.toArray.zip vs.toArray)
    rw [show (kA.toArray.zip vs.toArray).size = vs.length by simp [hl]] at e
    exact e.symm) rfl fun s3 e3 J3 g3=>h (List.toArray (List.range vs.length)) s3 e3 (by unfold Srt.PN;simp) (fun i j hij hj=>?_) J3 g3
   rw [List.size_toArray] at h2
   have ei:i = 0:=by omega
   have ej:j = 0:=by omega
   subst ei ej
   unfold Srt.rz
   rw [decide_eq_false_iff_not]
   exact List.lt_irrefl _
  ·have hn2:2 ≤ vs.length:=by rw [List.size_toArray] at h2;omega
   rw [if_neg h2,if_neg h2]
   obtain ⟨v₁,v₂,rest,ev⟩:∃ v₁ v₂ rest,kA = v₁ :: v₂ :: rest:=by
    match kA,hl with
    | [],hl=>simp at hl;omega
    | [_],hl=>simp at hl;omega
    | v₁ :: v₂ :: rest,_=>exact ⟨v₁,v₂,rest,rfl⟩
   have hkk:keyKind' kA.toArray = pure oneType':=by rw [ev];exact keyKind_strs (by rw [← ev];exact hs')
   rw [hkk]
   refine wpAny_bind (wpAny_pure ?_)
   simp only [Bool.false_eq_true,if_false]
   refine wpAny_bind (wpAny_mono (kat_run (prog:=X.prog) (w:=X.w) (A:=A) (E:=E) (κ:=oneType') (ks:=kA) (vs:=vs) (s:=s')
    (Q:=fun st' s''=>∃ p:Array Nat,p.size = vs.length/\arrOf st' = p.map (kas_item (kA.toArray.zip vs.toArray))/\failedOf st' = none/\Srt.PN vs.length p/\Srt.Up (Srt.rz zs) p vs.length/\s'' = s')
    (G:=fun p s''=>Srt.PN vs.length p/\Srt.Up (Srt.rz zs) p vs.length/\s'' = s')
    hl hn2 h64 (fun p' st' s'' a1 a2 a3 a4=>⟨p',a1,a2,a3,a4⟩) ?_) ?_ fun _ _ e=>e)
   ·rw [← hlen]
    exact Srt.sort (Srt.ord_z nd) (cmp_k (s1:=s') hs') (by omega) rfl fun p' s'' b1 b2 b3=>⟨b1,b2,b3⟩
   ·rintro ⟨⟨⟩,st'⟩ s'' ⟨p,hp,har,hf,pn,up,rfl⟩
    try dsimp only
    exact key_tail (vs:=vs) (ks:=kA) J fa fk hka hk ha hl h64 hp har hf fun s3 e3 J3 g3=>h p s3 e3 pn up J3 g3
end
end L2
namespace L2
open PySem PySem.Spec PyProof.Rows PySem.W
section
variable {X:Cx} {pins:List (Addr × Obj)} {σ:St} {H:Hp} {s:Shared} {f c':Addr} {q x:Str} {params:Arguments} {body:Expr} {scope:Scope} {pm:Value} {k:Nat}
theorem lam_turn {t:TE} {A:Around} {u:Value} {v:V} {z:Str} (I:Inv X pins σ H s) (e0:Env0 X.prog X.w X.K X.mg X.base A X.stack s H) (hr:Room (k + 1) A) (hf:H f = some (.ext (lamP f q params body scope pm c'))) (hc:H c' = some (.ext (codeP c' q))) (S:FnScope [x] [x] scope)
  (hb:∀ (ctv u:Value),bindArgs (PySem.W.kla_fn "<lambda>" q params body scope [] pm (.ref c') ctv) ⟨[u],[]⟩ = pure [(x,u)])
  (hbody:PE (cxOf CX0 X.prog X.w X.K X.mg X.base [x] q scope f (.ref c') A X.stack s H E0).nox body t) (r:RelV v u) (ht:t [some v] H fun v' H'=>v' = .str z/\H' = H) :
  wpAny (model X.prog X.w) A (call (.ref f) [u]) (fun k s''=>(∃ t,k = .str z t)/\Inv X pins σ H s''/\∀ b o,FpOk X pins H b->s.heap.get? b = some o->s''.heap.get? b = some o) (fun _ _=>False) s:=by
 refine wpAny_call (codeAny_mono (code_lam e0 hr hf hc S hb hbody r ht) fun r s' hq=>?_)
 cases r with
 | error e=>exact hq
 | ok fl=>
  cases fl with
  | ret w'=>
   have hq':CE X.stack X.prog X.w H s (fun v' H'=>v' = .str z/\H' = H) w' s':=hq
   obtain ⟨v1,H1,J,rv,rfl,rfl⟩:=I.after hq'
   obtain ⟨v2,H2,os,bare,un,hok,rv2,rfl,rfl⟩:=hq'
   refine ⟨rv,J,fun b o fb e=>un.keep b o e fb.1 (fun hm=>?_) (by simp)⟩
   rcases List.mem_cons.mp (I.stkSub b hm) with y | y
   ·exact fb.2.1 y
   ·exact fb.2.2.1 y
  | next=>exact False.elim hq
  | brk=>exact False.elim hq
  | cont=>exact False.elim hq
theorem sorted_key {p:Addr} {xs:List V} {zs:List Str} {fv:Value} {Q:VK} (I:Inv X pins σ H s) (hp:SqL X.K H p xs) (hlen:zs.length = xs.length) (nd:zs.Nodup) (h64:xs.length < 64) (hfv:∃ f,fv = .ref f)
  (turn:∀ (i:Nat) (v:V) (u:Value) (z:Str),xs[i]? = some v->RelV v u->zs[i]? = some z->∀ s':Shared,Inv X pins σ H s'->wpAny (model X.prog X.w) X.A.in1.in1 (call fv [u]) (fun k s''=>(∃ t,k = .str z t)/\Inv X pins σ H s''/\∀ b o,FpOk X pins H b->s'.heap.get? b = some o->s''.heap.get? b = some o) (fun _ _=>False) s')
  (h:∀ (l:Addr) (ix:List Nat),H l = none->ix.Perm (List.range xs.length)->Rise (ix.map fun i=>zs.getD i "")->Q (.ref l) (upd H l (.lst (ix.map fun i=>xs.getD i .non)))) :
  wpAny (model X.prog X.w) X.A (call (.builtin "sorted") [.ref p] [(Str.ofString "key",fv)]) (EP X pins σ Q) X.xe s:=by
 obtain ⟨f,rfl⟩:=hfv
 obtain ⟨vs,r',pl,hz⟩:=I.list hp
 have hl:=r'.length
 refine call_function_entry_kw kind_sorted plain_sorted entry_sorted (ksk_s1 _ _) ?_
 unfold Builtin.«sorted»
 refine wpAny_bind (m:=checkCount "sorted" 1 1 _) (wpAny_pure ?_)
 refine wpAny_bind (collect_list pl.isList ?_ (by rw [sizeLine_eq];omega))
 refine wpAny_bind (wpAny_newList ?_ (by rw [sizeLine_eq];omega))
 have hsz:((s.heap.push (seqObj "list" #[] 0)).update s.heap.objs.size (Obj.mapSeq (· ++ vs.toArray))).objs.size = s.heap.objs.size + 1:=by
  rw [Heap.size_update,size_push']
 have hoL:(((s.heap.push (seqObj "list" #[] 0)).update s.heap.objs.size (Obj.mapSeq (· ++ vs.toArray))).push (seqObj "list" vs.toArray 0)).get? (s.heap.objs.size + 1) = some (seqObj "list" vs.toArray 0):=by
  rw [← hsz];exact Heap.get?_push_size _ rfl
 have keep:∀ b o,s.heap.get? b = some o->(((s.heap.push (seqObj "list" #[] 0)).update s.heap.objs.size (Obj.mapSeq (· ++ vs.toArray))).push (seqObj "list" vs.toArray 0)).get? b = some o:=fun b o q=>by
  have hlt:b < s.heap.objs.size:=Heap.lt_size q
  rw [Heap.get?_push_ne _ _ _ (by rw [hsz];exact Nat.ne_of_lt (Nat.lt_succ_of_lt hlt)),Heap.get?_update_ne _ _ _ _ (Nat.ne_of_lt hlt),Heap.get?_push_ne _ _ _ (Nat.ne_of_lt hlt)]
  exact q
 have I2:Inv X pins σ H { s with heap:=((s.heap.push (seqObj "list" #[] 0)).update s.heap.objs.size (Obj.mapSeq (· ++ vs.toArray))).push (seqObj "list" vs.toArray 0) }:=I.kept (t':=s.toks) keep
 have fa:FpOk X pins H (s.heap.objs.size + 1):=I.fpOk (Nat.le_succ _) (I.hok.fresh (Nat.le_succ _))
 have our:Our X pins H (s.heap.objs.size + 1):=⟨Nat.le_trans I.sz (Nat.le_succ _),fa.2.1,fa.2.2.2.2.1,fa.2.2.2.2.2,fa.1⟩
 show wpAny _ _ _ _ _ { s with heap:=((s.heap.push (seqObj "list" #[] 0)).update s.heap.objs.size (Obj.mapSeq (· ++ vs.toArray))).push (seqObj "list" vs.toArray 0) }
 rw [hsz]
 refine wpAny_bind (wpAny_holding (wpAny_call_entry_kw slot_list_sort ⟨_,hoL,rfl⟩ entry_list_sort ?body (ksk_l1 _ _)))
 case body=>
  show wpAny (model X.prog X.w) X.A.in1.in1 (Builtin.«list.sort» ⟨[.ref (s.heap.objs.size + 1)],[(Str.ofString "key",.ref f)]⟩) _ _ _
  rw [ksk_t1]
  refine list_sort_key (zs:=zs) I2 fa hoL (by omega) nd (by omega) (fun i v z hv hzi s' J=>?_) fun p' s3 e pn up J3 g3=>⟨_,rfl,?_⟩
  ·have hi:i < vs.length:=(List.getElem?_eq_some_iff.mp hv).1
   obtain ⟨u,hu,ru⟩:=r'.get (i:=i) (x:=xs[i]'(by omega)) (by simp)
   rw [hv] at hu
   cases hu
   exact turn i (xs[i]'(by omega)) v z (by simp) ru hzi s' J
  ·have hs:=pn.size
   have lt:∀ i ∈ p'.toList,i < vs.length:=fun i hi=>List.mem_range.mp (pn.mem_iff.mp hi)
   refine wpAny_pure ⟨_,rfl,.ref (s.heap.objs.size + 1),_,J3.track our (o:=.lst (p'.toList.map fun i=>xs.getD i .non)) ?_,rfl,h _ p'.toList (I.hok.fresh (Nat.le_succ _)) (by rw [hl];exact pn) ?_⟩
   ·refine ⟨by rw [List.length_map,Array.length_toList,hs,← hl];exact hz,_,e,?_,g3⟩
    exact vals_map r' _ fun i hi=>by have:=lt i hi;omega
   ·unfold Rise
    rw [List.pairwise_map,List.pairwise_iff_getElem]
    intro i j hi hj hij
    have hi':i < p'.size:=by simpa using hi
    have hj':j < p'.size:=by simpa using hj
    have h0:=up i j (by omega) (by omega)
    unfold Srt.rz at h0
    rw [decide_eq_false_iff_not,Srt.getD_get hi',Srt.getD_get hj'] at h0
    rw [Array.getElem_toList,Array.getElem_toList]
    exact h0
def tSortK (K:PySem.W.Frag) (q:Str) (params:Arguments) (body:Expr) (scope:Scope) (pm:Value) (te tl tb:TE):TE:=fun σ H Q=>te σ H fun y H1=>tl σ H1 fun g H2=>∃ (p f c':Addr) (xs:List V) (zs:List Str),y = .ref p/\g = .ref f ∧
 H2 f = some (.ext (lamP f q params body scope pm c'))/\H2 c' = some (.ext (codeP c' q))/\SqL K H2 p xs/\zs.length = xs.length/\zs.Nodup/\xs.length < 64 ∧
 (∀ (i:Nat) (v:V) (z:Str),xs[i]? = some v->zs[i]? = some z->tb [some v] H2 fun v' H'=>v' = .str z/\H' = H2) ∧
 ∀ (l:Addr) (ix:List Nat),H2 l = none->ix.Perm (List.range xs.length)->Rise (ix.map fun i=>zs.getD i "")->Q (.ref l) (upd H2 l (.lst (ix.map fun i=>xs.getD i .non)))
theorem pe_sortedK {e lam:Expr} {te tl tb:TE} {np kpos pos:Pos} (hr:Room (k + 3) X.A) (hg:Gl X "sorted") (hm:X.mg "sorted" = none) (he:PE X e te) (hlam:PE X lam tl) (S:FnScope [x] [x] scope)
  (hb:∀ (c':Addr) (ctv u:Value),bindArgs (PySem.W.kla_fn "<lambda>" q params body scope [] pm (.ref c') ctv) ⟨[u],[]⟩ = pure [(x,u)])
  (hbody:∀ (f c':Addr) (s:Shared) (H:Hp),PE (cxOf CX0 X.prog X.w X.K X.mg X.base [x] q scope f (.ref c') X.A.in1.in1 X.stack s H E0).nox body tb) (hstar:starEach [e] X.env = [(false,eval e X.env)]:=by rfl) :
  PE X (.Call (.Name "sorted" np) [e] [⟨some "key",lam,kpos⟩] pos) (tSortK X.K q params body scope pm te tl tb):=by
 intro pins s σ H Q I h
 refine wpAny_Call_Name_kw (ld_blt I hg hm (show bootBuiltins "sorted" = some (.builtin "sorted") by decide +kernel) ?_ (by decide) (by decide))
 refine callWith_kw (e:=e) (rest:=[]) (kws:=[⟨some "key",lam,kpos⟩]) ?_ (by rw [hstar];rfl) (by rw [hstar];rfl)
 rw [hstar]
 show wpAny _ _ (spliced [(false,eval e X.env)]) _ _ s
 refine Calls.spliced_cons (thn (he pins s σ H _ I h) fun u s1 ⟨y,H1,I1,ry,q1⟩=>Calls.spliced_nil ?_)
 show wpAny _ _ (evalAll [(do let v ← eval lam X.env;standAt pos;pure v)]) _ _ s1
 refine wpAny_evalAll_cons (wpAny_bind (thn (hlam pins s1 σ H1 _ I1 q1) fun gv s2 ⟨g,H2,I2,rg,q2⟩=>wpAny_bind (wpAny_standAt (wpAny_pure (wpAny_evalAll_nil ?_)))))
 obtain ⟨p,f,c',xs,zs,rfl,rfl,hf,hc,hp,hlen,nd,h64,ht,hq⟩:=q2
 cases ry
 cases rg
 have hr1:Room (k + 1) X.A.in1.in1:=hr.in1.in1
 exact sorted_key I2 hp hlen nd h64 ⟨f,rfl⟩ (fun i v u z hv ru hz s' J=>lam_turn J J.env0.in1.in1 hr1 hf hc S (hb c') (hbody f c' s' H2) ru (ht i v z hv hz)) hq
end
end L2
namespace L2
open PySem PySem.Spec PyProof.Rows
structure FunC (K:PySem.W.Frag) (x qual:Str) (st:Stmt) (f:Addr) (fd:FuncData) (c:Addr):Prop where
 ex:∃ (oc:Value) (od:Option Addr) (kV doc pm:Value) (an:Option Addr) (ct:Value) (osl:Array (Option Value)),
  fd = PySem.W.fnOf x qual (defArgs st) (defBody st) (defScope st) .none kV doc pm an (.ref c) ct/\K.lookup f = some ⟨oc,od,.func fd,osl⟩/\PySem.W.codeIn K (.ref c) qual = true
 kp:PySem.W.keepIn K (.ref f) = true
section
variable {P:Program} {w:World} {K:PySem.W.Frag} {mg:Str->Option Value} {base:Heap}
theorem FunC.fn {x qual:Str} {st:Stmt} {f c:Addr} {fd:FuncData} (F:FunC K x qual st f fd c):Fun K x qual st f fd:=by
 obtain ⟨⟨oc,od,kV,doc,pm,an,ct,osl,h1,h2,h3⟩,kp⟩:=F
 exact ⟨⟨oc,od,kV,doc,pm,an,.ref c,ct,osl,h1,h2,h3⟩,kp⟩
theorem FunC.ok {x qual:Str} {st:Stmt} {f c:Addr} {fd:FuncData} {N ps:List Str} {k:Nat} {sp:Sp} (F:FunC K x qual st f fd c) (S:FnScope N ps (defScope st)) (len:∀ vs H Q E,sp vs H Q E->vs.length = ps.length)
  (hbody:∀ (A:Around) (outer:List Env) (s:Shared) (H:Hp) (vs:List V) (Q:VK) (E:XK),Room k (A.deeper (envOfC qual (defScope st) s.heap.objs.size f (.ref c)))->sp vs H Q E →
   ∃ t,PSs (cxOf CX0 P w K mg base N qual (defScope st) f (.ref c) A outer s H E).nox (defBody st) t/\t { nx:=fun _ H'=>Q .non H',rt:=Q } (start N vs) H):FnOk P w K mg base CX0 (k + 1) f fd ps sp:=by
 obtain ⟨oc,od,kV,doc,pm,an,ct,osl,rfl,lk,hcd⟩:=F.ex
 refine fn_of lk hcd S len fun A outer s H vs Q E hr hsp=>?_
 obtain ⟨t,h,q⟩:=hbody A outer s H vs Q E hr hsp
 exact ⟨t,h.nox,q⟩
end
theorem pg_tupK {X:Cx} {K:PySem.W.Frag} {es:List Expr} {k:Nat} {pos:Pos} {t:TGs} {n:Nat} (hK:X.K = K) (hc:X.calm = true) (h:PGs X es t)
  (hn:(assignEach es X.env).length = n:=by rfl) (hst:(assignEach es X.env).findIdx? (·.1) = none:=by rfl):PG X (.Tuple es k pos) (gTup K n t):=by
 subst hK
 exact pg_tup hc h hn hst
def notT:HO->Bool
 | .tbl _=>false
 | _=>true
def Sb (H H':Hp):Prop:=∀ a o,notT o = true->H a = some o->H' a = some o
theorem Sb.refl (H:Hp):Sb H H:=fun _ _ _ e=>e
theorem Sb.trans {H H1 H2:Hp} (a:Sb H H1) (b:Sb H1 H2):Sb H H2:=fun x o n e=>b x o n (a x o n e)
theorem Same.sb {H H':Hp} (s:Same H H'):Sb H H':=fun a o _ e=>s a o e
end L2
namespace My
open PySem L2 PyProof.Rows
mutual
theorem Rep.sb {H H':Hp} (e:Sb H H'):∀ {d:Dt} {v:V},Rep H d v->Rep H' d v
 | .non,v,h=>by unfold Rep at h ⊢;exact h
 | .bl b,v,h=>by unfold Rep at h ⊢;exact h
 | .int i,v,h=>by unfold Rep at h ⊢;exact h
 | .str z,v,h=>by unfold Rep at h ⊢;exact h
 | .tup ds,v,h=>by
  unfold Rep at h ⊢
  obtain ⟨a,xs,h1,h2,h3⟩:=h
  exact ⟨a,xs,h1,e _ _ rfl h2,Reps.sb e h3⟩
 | .lst ds,v,h=>by
  unfold Rep at h ⊢
  obtain ⟨a,xs,h1,h2,h3⟩:=h
  exact ⟨a,xs,h1,e _ _ rfl h2,Reps.sb e h3⟩
 | .dct,v,h=>by
  unfold Rep at h ⊢
  obtain ⟨a,xs,h1,h2⟩:=h
  exact ⟨a,xs,h1,e _ _ rfl h2⟩
theorem Reps.sb {H H':Hp} (e:Sb H H'):∀ {ds:List Dt} {vs:List V},Reps H ds vs->Reps H' ds vs
 | [],vs,h=>by unfold Reps at h ⊢;exact h
 | d :: ds,vs,h=>by
  unfold Reps at h ⊢
  obtain ⟨v,ws,h1,h2,h3⟩:=h
  exact ⟨v,ws,h1,Rep.sb e h2,Reps.sb e h3⟩
end
theorem ColsOk.sb {H H':Hp} {cols:List (Str × V)} (h:ColsOk H cols) (e:Sb H H'):ColsOk H' cols:=⟨h.1,h.2.1,fun p hp=>⟨(h.2.2 p hp).1,let ⟨d,h1,h2⟩:=(h.2.2 p hp).2;⟨d,Rep.sb e h1,h2⟩⟩⟩
theorem ColsAt.sb {H H':Hp} {t:Addr} {cols:List (Str × V)} (h:ColsAt H t cols) (e:Sb H H'):ColsAt H' t cols:=by
 obtain ⟨o,ps,zs,h1,h2,h3,h4,h5,h6⟩:=h
 exact ⟨o,ps,zs,h1,h2,h3,e _ _ rfl h4,h5,fun j p z a b=>e _ _ rfl (h6 j p z a b)⟩
theorem EntAt.sb {H H':Hp} {e:Addr} {T:Tb} (h:EntAt H e T) (s:Sb H H'):EntAt H' e T:=by
 obtain ⟨ct,h1,h2⟩:=h
 exact ⟨ct,s _ _ rfl h1,h2.sb s⟩
theorem FormAt.sb {H H':Hp} {f:Addr} {sz:Int} {Ts:List Tb} (h:FormAt H f sz Ts) (s:Sb H H'):FormAt H' f sz Ts:=by
 obtain ⟨tt,es,h1,h2,h3,h4⟩:=h
 exact ⟨tt,es,s _ _ rfl h1,s _ _ rfl h2,h3,fun j e T a b=>(h4 j e T a b).sb s⟩
def TabOk (P:Addr) (pos:Pos) (q:Str) (H:Hp):Prop:=H P = some (.tbl #[])\/∃ c',H P = some (.tbl #[rawInt pos.line,rawInt pos.col,.ref c'])/\H c' = some (.ext (codeP c' q))
theorem TabOk.same {P:Addr} {pos:Pos} {q:Str} {H H':Hp} (h:TabOk P pos q H) (s:Same H H'):TabOk P pos q H':=by
 rcases h with h | ⟨c',h1,h2⟩
 ·exact .inl (s _ _ h)
 ·exact .inr ⟨c',s _ _ h1,s _ _ h2⟩
theorem lam_made {P:Addr} {pos:Pos} {q:Str} {params:Arguments} {body:Expr} {scope:Scope} {pm:Value} {σ:L2.St} {H:Hp} {Q:VK} (h:TabOk P pos q H)
  (hq:∀ f c' H',Sb H H'->(∀ a,a ≠ P->H a ≠ none->H' a = H a)->TabOk P pos q H'->H' f = some (.ext (lamP f q params body scope pm c'))->H' c' = some (.ext (codeP c' q))->Q (.ref f) H'):tLam P pos q params body scope pm σ H Q:=by
 rcases h with h | ⟨c',h1,h2⟩
 ·refine ⟨#[],h,trivial,.inl ⟨rfl,fun c' f n1 n2 n3 n4 n5=>?_⟩⟩
  have fr:∀ a,a ≠ P->H a ≠ none->(L2.upd (L2.upd (L2.upd H P (.tbl (#[] ++ #[rawInt pos.line,rawInt pos.col,.ref c']))) c' (.ext (codeP c' q))) f (.ext (lamP f q params body scope pm c'))) a = H a:=fun a n n0=>by
   rw [upd_ne (fun e=>n0 (by rw [e];exact n2)),upd_ne (fun e=>n0 (by rw [e];exact n1)),upd_ne n]
  refine hq f c' _ (fun a o n e=>?_) fr ?_ upd_same (by rw [upd_ne n3];exact upd_same)
  ·rw [fr a (fun e'=>by rw [e',h] at e;cases e;cases n) (by rw [e];simp)]
   exact e
  ·refine .inr ⟨c',?_,by rw [upd_ne n3];exact upd_same⟩
   rw [upd_ne (Ne.symm n5),upd_ne (Ne.symm n4)]
   exact upd_same
 ·refine ⟨_,h1,trivial,.inr ⟨c',by simp [codeAmong,rawInt],fun f n=>?_⟩⟩
  have S:=Same.upd (o:=.ext (lamP f q params body scope pm c')) n
  exact hq f c' _ S.sb (fun a _ n0=>upd_ne fun e=>n0 (by rw [e];exact n)) (.inr ⟨c',S _ _ h1,S _ _ h2⟩) upd_same (S _ _ h2)
end My
namespace My
open PySem L2 PyProof.Rows
seal L2.PE L2.PT L2.PW L2.PS L2.PSs L2.PA L2.PI L2.PG L2.PGs L2.OpR L2.UnR L2.CallR L2.IxR L2.SlR L2.MtR L2.PIf L2.PO L2.MtM L2.PC L2.PIp L2.PSet L2.PGet L2.TruR L2.InOp L2.PK
def PartAt (H:Hp) (e d:Addr) (T:Tb):Prop:=H e = some (.tup [.str T.name,.str T.sort,.ref d])/\H d = some (.dK (kvC T.cols))/\ColsOk H T.cols
def PartsAt (H:Hp) (l:Addr) (es ds:List Addr) (Ts:List Tb):Prop:=H l = some (.lst (es.map V.ref))/\es.length = Ts.length/\ds.length = Ts.length/\∀ (j:Nat) (e d:Addr) (T:Tb),es[j]? = some e->ds[j]? = some d->Ts[j]? = some T->PartAt H e d T
theorem PartAt.sb {H H':Hp} {e d:Addr} {T:Tb} (h:PartAt H e d T) (s:Sb H H'):PartAt H' e d T:=⟨s _ _ rfl h.1,s _ _ rfl h.2.1,h.2.2.sb s⟩
theorem PartsAt.sb {H H':Hp} {l:Addr} {es ds:List Addr} {Ts:List Tb} (h:PartsAt H l es ds Ts) (s:Sb H H'):PartsAt H' l es ds Ts:=⟨s _ _ rfl h.1,h.2.1,h.2.2.1,fun j e d T a b c=>(h.2.2.2 j e d T a b c).sb s⟩
def TsOk (T0:Tb) (R:List Tb):Prop:=R.length ≤ 7/\((T0 :: R).map (·.name)).Nodup/\(∀ T ∈ T0 :: R,nameS T.name = true)/\T0.sort = "head"/\∀ T ∈ R,T.sort ∈ sides
def Fr (P:Addr) (H H':Hp):Prop:=∀ a o,a ≠ P->H a = some o->H' a = some o
def keyOf:Stmt->Expr
 | .Assign _ (.Call _ _ [⟨_,e,_⟩] _) _=>e
 | _=>.Constant .none 0 ⟨0,0,0,0⟩
def lamPos:Expr->Pos
 | .Lambda _ _ _ p=>p
 | _=>⟨0,0,0,0⟩
def foLam:Expr:=keyOf ((defBody (top 29)).getD 4 (.Pass ⟨0,0,0,0⟩))
def lamArgs:Expr->Arguments
 | .Lambda a _ _ _=>a
 | _=>defArgs (top 29)
def lamBody:Expr->Expr
 | .Lambda _ b _ _=>b
 | e=>e
def lamScope:Expr->Scope
 | .Lambda _ _ s _=>s
 | _=>defScope (top 29)
def foPos:Pos:=lamPos foLam
def foQ:Str:="form_of.<locals>.<lambda>"
def spForm (PF:Addr):Sp:=fun vs H Q _=>∃ (l:Addr) (sz:Int) (es ds:List Addr) (T0:Tb) (R:List Tb),vs = [.int sz,.ref l]/\1 ≤ sz/\PartsAt H l es ds (T0 :: R)/\TsOk T0 R/\TabOk PF foPos foQ H ∧
 ∀ (f:Addr) (H':Hp) (R':List Tb),Sb H H'->Fr PF H H'->TabOk PF foPos foQ H'->R'.Perm R->Rise (R'.map (·.name))->FormAt H' f sz (T0 :: R')->Q (.ref f) H'
def NotTup (o:Option HO):Prop:=(∀ xs,o ≠ some (.tup xs))/\∀ ob xs,o ≠ some (.frz ob (.tup xs))
theorem NotTup.lst {H:Hp} {D:Addr} {ys:List V} (e:H D = some (.lst ys)):NotTup (H D):=by rw [e];exact ⟨(fun _ h=>by cases h),(fun _ _ h=>by cases h)⟩
theorem NotTup.dk {H:Hp} {D:Addr} {kvs:List (Key × V)} (e:H D = some (.dK kvs)):NotTup (H D):=by rw [e];exact ⟨(fun _ h=>by cases h),(fun _ _ h=>by cases h)⟩
theorem ColsAt.beside {H:Hp} {D t:Addr} {u:HO} {cols:List (Str × V)} (n:NotTup (H D)) (h:ColsAt H t cols):ColsAt (L2.upd H D u) t cols:=by
 obtain ⟨o,ps,zs,h1,h2,h3,h4,h5,h6⟩:=h
 refine ⟨o,ps,zs,h1,h2,h3,?_,h5,fun j p z a b=>?_⟩
 ·rw [upd_ne (fun e=>n.2 _ _ (by rw [← e];exact h4))];exact h4
 ·have:=h6 j p z a b
  rw [upd_ne (fun e=>n.1 _ (by rw [← e];exact this))];exact this
theorem EntAt.beside {H:Hp} {D e:Addr} {u:HO} {T:Tb} (n:NotTup (H D)) (h:EntAt H e T):EntAt (L2.upd H D u) e T:=by
 obtain ⟨ct,h1,h2⟩:=h
 exact ⟨ct,by rw [upd_ne (fun e=>n.1 _ (by rw [← e];exact h1))];exact h1,h2.beside n⟩
theorem FormAt.beside {H:Hp} {D f:Addr} {u:HO} {sz:Int} {Ts:List Tb} (n:NotTup (H D)) (h:FormAt H f sz Ts):FormAt (L2.upd H D u) f sz Ts:=by
 obtain ⟨tt,es,h1,h2,h3,h4⟩:=h
 exact ⟨tt,es,by rw [upd_ne (fun e=>n.1 _ (by rw [← e];exact h1))];exact h1,by rw [upd_ne (fun e=>n.1 _ (by rw [← e];exact h2))];exact h2,h3,fun j e T a b=>(h4 j e T a b).beside n⟩
section
variable {P:Program} {w:World} {K:PySem.W.Frag} {mg:Str->Option Value} {base:Heap}
theorem ok_form {f c PF fW fS fN fC:Addr} {fd fdW fdS fdN fdC:FuncData} (F:FunC K "form_of" "form_of" (top 29) f fd c) (B:Bl mg) (hC:PySem.W.codeHdIn K c PF = true) (hB:L2.BMain base mg)
  (DW:Df K mg "is_whole" (top 21) fW fdW) (GW:FnOk P w K mg base CX0 1 fW fdW ["thing"] (spWhole K)) (DS:Df K mg "ask_sorts" (top 30) fS fdS) (GS:FnOk P w K mg base CX0 1 fS fdS ["sorts"] spAskS) (DN:Df K mg "ask_names" (top 31) fN fdN) (GN:FnOk P w K mg base CX0 2 fN fdN ["names"] spAskN)
  (DC:Df K mg "columns_made" (top 32) fC fdC) (GC:FnOk P w K mg base CX0 5 fC fdC ["columns"] spColM):FnOk P w K mg base CX0 6 f fd ["size","tables"] (spForm PF):=by
 have sc:FnScope ["size","tables","made","sides"] ["size","tables"] (defScope (top 29)):=⟨rfl,rfl,rfl,by decide +kernel,rfl,by decide +kernel,by decide +kernel⟩
 have bW:=DW.fn.binds (ps:=["thing"]) fun _ _ _ _ _ _ us hl=>by obtain ⟨v0,rfl⟩:=L2.ln1 hl;rfl
 have bS:=DS.fn.binds (ps:=["sorts"]) fun _ _ _ _ _ _ us hl=>by obtain ⟨v0,rfl⟩:=L2.ln1 hl;rfl
 have bN:=DN.fn.binds (ps:=["names"]) fun _ _ _ _ _ _ us hl=>by obtain ⟨v0,rfl⟩:=L2.ln1 hl;rfl
 have bC:=DC.fn.binds (ps:=["columns"]) fun _ _ _ _ _ _ us hl=>by obtain ⟨v0,rfl⟩:=L2.ln1 hl;rfl
 refine F.ok sc (fun vs H Q E h=>?_) (fun A outer s H vs Q E hr h=>?_)
 ·obtain ⟨l,sz,es,ds,T0,R,rfl,_⟩:=h
  rfl
 ·obtain ⟨l,sz,es,ds,T0,R,rfl,sz1,hP,hT,hTab,q⟩:=h
  have hr1:Room 1 _:=hr.mono (by decide)
  have hr2:Room 2 _:=hr.mono (by decide)
  refine ⟨_,pss_cons (ps_if (PW.pt (pw_or (pt_not (pt_val (pe_call GW hr1 (by rfl) DW.mg DW.fn.kp bW .nil pass0 (pa_cons (pv 0) pa_nil)))) (pw_or1 (pt_cmpR op_lt (pv 0) pe_int (nomark _))))) pss_never pss_nil)
   (pss_cons (ps_expr (pe_call GS hr1 (by rfl) DS.mg DS.fn.kp bS .nil pass0 (pa_cons (pe_comp (osc:=defScope (top 29)) (N0:=["size","tables","made","sides"]) (xs:=["name","sort","columns"]) (fr:=[]) ⟨rfl,by decide +kernel,by decide +kernel,by decide +kernel,by decide,by decide +kernel⟩ rfl rfl rfl (pi_list (pv 1))
     (fun s H fp=>pg_tupK (K:=K) (n:=3) rfl rfl (pgs_cons (pg_name (i:=0) (show (["name","sort","columns"]:List Str).Nodup by decide +kernel) rfl (Or.inl rfl)) (pgs_cons (pg_name (i:=1) (show (["name","sort","columns"]:List Str).Nodup by decide +kernel) rfl (Or.inl rfl)) (pgs_cons (pg_name (i:=2) (show (["name","sort","columns"]:List Str).Nodup by decide +kernel) rfl (Or.inl rfl)) pgs_nil)))) (fun s H fp=>pif_nil)
     (fun s H fp=>pv 1)) pa_nil)))
   (pss_cons (ps_expr (pe_call GN hr2 (by rfl) DN.mg DN.fn.kp bN .nil pass0 (pa_cons (pe_comp (osc:=defScope (top 29)) (N0:=["size","tables","made","sides"]) (xs:=["name","sort","columns"]) (fr:=[]) ⟨rfl,by decide +kernel,by decide +kernel,by decide +kernel,by decide,by decide +kernel⟩ rfl rfl rfl (pi_list (pv 1))
     (fun s H fp=>pg_tupK (K:=K) (n:=3) rfl rfl (pgs_cons (pg_name (i:=0) (show (["name","sort","columns"]:List Str).Nodup by decide +kernel) rfl (Or.inl rfl)) (pgs_cons (pg_name (i:=1) (show (["name","sort","columns"]:List Str).Nodup by decide +kernel) rfl (Or.inl rfl)) (pgs_cons (pg_name (i:=2) (show (["name","sort","columns"]:List Str).Nodup by decide +kernel) rfl (Or.inl rfl)) pgs_nil)))) (fun s H fp=>pif_nil)
     (fun s H fp=>pv 0)) pa_nil)))
   (pss_cons (ps_comp (i:=2) (osc:=defScope (top 29)) (N0:=["size","tables","made","sides"]) (xs:=["name","sort","columns"]) (fr:=[]) ⟨rfl,by decide +kernel,by decide +kernel,by decide +kernel,by decide,by decide +kernel⟩ rfl rfl rfl (pi_list (pv 1))
     (fun s H fp=>pg_tupK (K:=K) (n:=3) rfl rfl (pgs_cons (pg_name (i:=0) (show (["name","sort","columns"]:List Str).Nodup by decide +kernel) rfl (Or.inl rfl)) (pgs_cons (pg_name (i:=1) (show (["name","sort","columns"]:List Str).Nodup by decide +kernel) rfl (Or.inl rfl)) (pgs_cons (pg_name (i:=2) (show (["name","sort","columns"]:List Str).Nodup by decide +kernel) rfl (Or.inl rfl)) pgs_nil)))) (fun s H fp=>pif_nil)
     (fun s H fp=>pe_tup (pa_cons (pv 0) (pa_cons (pv 1) (pa_cons (pe_call GC hr (by rfl) DC.mg DC.fn.kp bC .nil pass0 (pa_cons (pv 2) pa_nil)) pa_nil)))) sc.nd rfl (Or.inl rfl))
   (pss_cons (ps_set (i:=3) sc.nd rfl (Or.inl rfl) (pe_sortedK (k:=2) (x:="table") (q:=foQ) (params:=lamArgs foLam) (body:=lamBody foLam) (scope:=lamScope foLam) (pm:=(mg "__name__").getD .none) (tb:=tOp (rIxT K) (tVar 0) (tC (.int 0))) hr (by rfl) B.sorted (pe_slice sl_list (pv 2) (po_some pe_int) po_none) (pe_lam rfl hC hB) ⟨rfl,rfl,rfl,by decide +kernel,rfl,by decide +kernel,by decide +kernel⟩ (fun _ _ _=>rfl) (fun f c' s H=>pe_ix (r:=rIxT K) ix_tup (pv 0) pe_int (fun _ _=>rfl))))
   (pss_one (ps_ret (pe_tup (pa_cons (pv 0) (pa_cons (pe_callTy call_tuple_of (by rfl) B.tuple boot_tuple (pa_cons (pe_op op_cat (pe_slice sl_list (pv 2) po_none (po_some pe_int)) (pv 3)) pa_nil)) pa_nil)))))))))
   ,?_⟩
  obtain ⟨Ts,eTs⟩:∃ Ts,Ts = T0 :: R:=⟨_,rfl⟩
  rw [← eTs] at hP
  obtain ⟨r7,ndn,hnm,hhd,hsd⟩:=hT
  rw [← eTs] at ndn hnm
  have tl:Ts.length = R.length + 1:=by rw [eTs];rfl
  have e1l:=hP.2.1
  have e2l:=hP.2.2.1
  refine ⟨_,rfl,.int sz,"int",rfl,Is.int,_,rfl,iteC (by decide) ?_⟩
  refine ⟨_,rfl,_,_,rfl,rfl,_,rfl,iteC (decide_eq_false (by omega)) ?_⟩
  obtain ⟨HX,eHX⟩:∃ HX,HX = H:=⟨_,rfl⟩
  have SX:Same H HX:=by rw [eHX];exact Same.refl H
  rw [← eHX]
  refine ⟨_,rfl,l,rfl,⟨_,SqL.of (SX _ _ hP.1)⟩,fun D2 hD2=>?_⟩
  refine compW_map Ts.length (fun i=>.str ((Ts.map (·.sort)).getD i "")) (fun i σ' Hc=>(∃ t0 t1 t2,σ' = [t0,t1,t2])/\Same HX Hc) (by rw [sizeLine_eq];omega) ⟨⟨_,_,_,rfl⟩,Same.upd hD2⟩ upd_same ?_ ?_
  ·rintro i σ' Hc hi ⟨⟨t0,t1,t2,rfl⟩,sm⟩ hD'
   have hie:i < es.length:=by omega
   have hid:i < ds.length:=by omega
   have sc:=SX.trans sm
   have pt:=hP.2.2.2 i es[i] ds[i] Ts[i] (List.getElem?_eq_getElem hie) (List.getElem?_eq_getElem hid) (List.getElem?_eq_getElem hi)
   refine ⟨⟨_,V.ref es[i],SqL.of (sc _ _ hP.1),by rw [List.getElem?_map,List.getElem?_eq_getElem hie];rfl⟩,?_⟩
   rintro x H' ⟨rfl,hx'⟩
   have ex:=hx' _ (SqL.of (sc _ _ hP.1))
   rw [List.getElem?_map,List.getElem?_eq_getElem hie] at ex
   cases ex
   refine ⟨_,_,rfl,SqT.of (sc _ _ pt.1),rfl,_,_,rfl,_,_,rfl,_,_,rfl,rfl,_,rfl,?_,hD',⟨_,_,_,rfl⟩,sm.put hD2⟩
   rw [List.getD_eq_getElem?_getD,List.getElem?_map,List.getElem?_eq_getElem hi]
   rfl
  rintro σ2 H2 ⟨_,sm2⟩ hDn2
  refine ⟨⟨_,SqL.of ((SX.trans sm2) _ _ hP.1),by rw [List.length_map];omega⟩,?_⟩
  rw [show (List.range Ts.length).map (fun i=>V.str ((Ts.map (·.sort)).getD i "")) = (Ts.map (·.sort)).map V.str from by
   have:=range_map_getD (Ts.map (·.sort)) ("":Str) (fun z=>V.str z)
   rw [List.length_map] at this
   exact this] at hDn2
  refine ⟨D2,R.map (·.sort),rfl,by rw [hDn2,eTs,List.map_cons,hhd],(fun z hz=>?_),fun H3 s3=>?_⟩
  ·obtain ⟨T,hT',rfl⟩:=List.mem_map.mp hz
   exact hsd T hT'
  have S3:Same H H3:=(SX.trans sm2).trans s3
  clear SX eHX hD2 sm2 hDn2 s3
  clear H2
  obtain ⟨HX,eHX⟩:∃ HX,HX = H3:=⟨_,rfl⟩
  have SX:Same H HX:=by rw [eHX];exact S3
  rw [← eHX]
  refine ⟨_,rfl,l,rfl,⟨_,SqL.of (SX _ _ hP.1)⟩,fun D4 hD4=>?_⟩
  refine compW_map Ts.length (fun i=>.str ((Ts.map (·.name)).getD i "")) (fun i σ' Hc=>(∃ t0 t1 t2,σ' = [t0,t1,t2])/\Same HX Hc) (by rw [sizeLine_eq];omega) ⟨⟨_,_,_,rfl⟩,Same.upd hD4⟩ upd_same ?_ ?_
  ·rintro i σ' Hc hi ⟨⟨t0,t1,t2,rfl⟩,sm⟩ hD'
   have hie:i < es.length:=by omega
   have hid:i < ds.length:=by omega
   have sc:=SX.trans sm
   have pt:=hP.2.2.2 i es[i] ds[i] Ts[i] (List.getElem?_eq_getElem hie) (List.getElem?_eq_getElem hid) (List.getElem?_eq_getElem hi)
   refine ⟨⟨_,V.ref es[i],SqL.of (sc _ _ hP.1),by rw [List.getElem?_map,List.getElem?_eq_getElem hie];rfl⟩,?_⟩
   rintro x H' ⟨rfl,hx'⟩
   have ex:=hx' _ (SqL.of (sc _ _ hP.1))
   rw [List.getElem?_map,List.getElem?_eq_getElem hie] at ex
   cases ex
   refine ⟨_,_,rfl,SqT.of (sc _ _ pt.1),rfl,_,_,rfl,_,_,rfl,_,_,rfl,rfl,_,rfl,?_,hD',⟨_,_,_,rfl⟩,sm.put hD4⟩
   rw [List.getD_eq_getElem?_getD,List.getElem?_map,List.getElem?_eq_getElem hi]
   rfl
  rintro σ4 H4 ⟨_,sm4⟩ hDn4
  refine ⟨⟨_,SqL.of ((SX.trans sm4) _ _ hP.1),by rw [List.length_map];omega⟩,?_⟩
  rw [show (List.range Ts.length).map (fun i=>V.str ((Ts.map (·.name)).getD i "")) = (Ts.map (·.name)).map V.str from by
   have:=range_map_getD (Ts.map (·.name)) ("":Str) (fun z=>V.str z)
   rw [List.length_map] at this
   exact this] at hDn4
  refine ⟨D4,Ts.map (·.name),rfl,hDn4,ndn,(fun z hz=>?_),fun H5 s5=>?_⟩
  ·obtain ⟨T,hT',rfl⟩:=List.mem_map.mp hz
   exact hnm T hT'
  have S5:Same H H5:=(SX.trans sm4).trans s5
  refine ⟨_,rfl,l,rfl,⟨_,SqL.of (S5 _ _ hP.1)⟩,fun D6 hD6=>?_⟩
  have hD60:H D6 = none:=by
   cases e:H D6 with
   | none=>rfl
   | some o=>rw [S5 _ _ e] at hD6;cases hD6
  refine compW_idx Ts.length (fun i ys σ' Hc=>(∃ t0 t1 t2,σ' = [t0,t1,t2])/\Same H Hc/\∃ es':List Addr,ys = es'.map V.ref/\∀ (j:Nat) (e:Addr) (T:Tb),es'[j]? = some e->Ts[j]? = some T->EntAt Hc e T) (by rw [sizeLine_eq];omega) ⟨⟨_,_,_,rfl⟩,S5.trans (Same.upd hD6),[],rfl,fun j e T h=>nomatch h⟩ upd_same ?_ ?_
  ·rintro i σ' Hc ys hi ⟨⟨t0,t1,t2,rfl⟩,sm,es',rfl,hes⟩ hyl hD'
   rw [List.length_map] at hyl
   have hie:i < es.length:=by omega
   have hid:i < ds.length:=by omega
   have pt:=hP.2.2.2 i es[i] ds[i] Ts[i] (List.getElem?_eq_getElem hie) (List.getElem?_eq_getElem hid) (List.getElem?_eq_getElem hi)
   refine ⟨⟨_,V.ref es[i],SqL.of (sm _ _ hP.1),by rw [List.getElem?_map,List.getElem?_eq_getElem hie];rfl⟩,?_⟩
   rintro x H' ⟨rfl,hx'⟩
   have ex:=hx' _ (SqL.of (sm _ _ hP.1))
   rw [List.getElem?_map,List.getElem?_eq_getElem hie] at ex
   cases ex
   refine ⟨_,_,rfl,SqT.of (sm _ _ pt.1),rfl,_,_,rfl,_,_,rfl,_,_,rfl,rfl,?_⟩
   refine ⟨_,rfl,_,rfl,_,rfl,ds[i],Ts[i].cols,rfl,sm _ _ pt.2.1,pt.2.2.sb sm.sb,fun t H7 s7 hct=>?_⟩
   refine ⟨(by show 3 ≤ sizeLine;decide),fun p hp=>?_⟩
   have T:=Same.upd (o:=.tup [.str Ts[i].name,.str Ts[i].sort,.ref t]) hp
   have nD:NotTup ((L2.upd H7 p (.tup [.str Ts[i].name,.str Ts[i].sort,.ref t])) D6):=NotTup.lst (T _ _ (s7 _ _ hD'))
   refine ⟨T _ _ (s7 _ _ hD'),⟨_,_,_,rfl⟩,((sm.trans s7).trans T).put hD60,es' ++ [p],by rw [List.map_append];rfl,fun j e T' h1 h2=>?_⟩
   by_cases hj:j < es'.length
   ·rw [List.getElem?_append_left hj] at h1
    exact ((hes j e T' h1 h2).same (s7.trans T)).beside nD
   ·have hj':j = es'.length:=by
     have:=(List.getElem?_eq_some_iff.mp h1).1
     rw [List.length_append] at this
     simp at this
     omega
    subst hj'
    rw [List.getElem?_append_right (Nat.le_refl _),Nat.sub_self] at h1
    cases h1
    rw [hyl,List.getElem?_eq_getElem hi] at h2
    cases h2
    exact EntAt.beside nD ⟨t,upd_same,hct.same T⟩
  rintro σ6 H6 ys ⟨_,S6,es',rfl,hes⟩ hD6n hyl
  rw [List.length_map] at hyl
  refine ⟨⟨_,SqL.of (S6 _ _ hP.1),by rw [List.length_map];omega⟩,?_⟩
  refine ⟨_,rfl,_,rfl,D6,_,rfl,SqL.of hD6n,fun p7 e7=>?_⟩
  rw [cut_from (by decide) (by rw [List.length_map];omega),← List.map_drop]
  have T7:=Same.upd (o:=.lst ((es'.drop (1:Int).toNat).map V.ref)) e7
  have S7:=S6.trans T7
  refine lam_made (hTab.same S7) fun lf c' H8 sb8 fr8 tab8 hlf hc8=>?_
  have hPF:∀ o,H PF = some o->∃ ps,o = .tbl ps:=fun o e=>by
   rcases hTab with h | ⟨c'',h,_⟩
   ·rw [h] at e;cases e;exact ⟨_,rfl⟩
   ·rw [h] at e;cases e;exact ⟨_,rfl⟩
  have SB8:=S7.sb.trans sb8
  have FR8:Fr PF H H8:=fun b o nb e=>by
   have:=S7 _ _ e
   rw [fr8 b nb (by rw [this];simp)]
   exact this
  have hes8:∀ (j:Nat) (e:Addr) (T:Tb),es'[j]? = some e->Ts[j]? = some T->EntAt H8 e T:=fun j e T a b=>((hes j e T a b).same T7).sb sb8
  refine ⟨p7,lf,c',_,R.map (·.name),rfl,rfl,hlf,hc8,SqL.of (sb8 _ _ rfl upd_same),?_,?_,?_,(fun i v z h1 h2=>?_),fun l9 ix n9 hix hri=>?_⟩
  ·rw [List.length_map,List.length_map,List.length_drop]
   show R.length = es'.length - 1
   omega
  ·rw [eTs,List.map_cons] at ndn
   exact (List.nodup_cons.mp ndn).2
  ·rw [List.length_map,List.length_drop]
   show es'.length - 1 < 64
   omega
  ·have h1':(es'.drop 1)[i]?.map V.ref = some v:=by rw [← List.getElem?_map];exact h1
   rw [List.getElem?_drop] at h1'
   obtain ⟨e,he,rfl⟩:=Option.map_eq_some_iff.mp h1'
   rw [List.getElem?_map] at h2
   obtain ⟨T,hT',rfl⟩:=Option.map_eq_some_iff.mp h2
   obtain ⟨ct,g1,_⟩:=hes8 (1 + i) e T he (by rw [eTs,Nat.add_comm,List.getElem?_cons_succ];exact hT')
   exact ⟨_,rfl,_,_,0,_,rfl,rfl,SqT.of g1,rfl,rfl,rfl⟩
  rw [List.length_map,List.length_drop] at hix
  have hix':ix.Perm (List.range R.length):=by
   have:es'.length - (1:Int).toNat = R.length:=by
    show es'.length - 1 = R.length
    omega
   rw [this] at hix
   exact hix
  have ixlt:∀ i ∈ ix,i < R.length:=fun i hi=>List.mem_range.mp (hix'.mem_iff.mp hi)
  have elst:(ix.map fun i=>((es'.drop (1:Int).toNat).map V.ref).getD i .non) = (ix.map fun i=>(es'.drop 1).getD i 0).map V.ref:=by
   rw [List.map_map]
   refine List.map_congr_left fun i hi=>?_
   have hl:i < (es'.drop 1).length:=by
    rw [List.length_drop]
    have:=ixlt i hi
    omega
   show (((es'.drop 1).map V.ref).getD i .non) = V.ref ((es'.drop 1).getD i 0)
   rw [List.getD_eq_getElem?_getD,List.getD_eq_getElem?_getD,List.getElem?_map,List.getElem?_eq_getElem hl]
   rfl
  rw [elst]
  have T9:=Same.upd (o:=.lst ((ix.map fun i=>(es'.drop 1).getD i 0).map V.ref)) n9
  have hD9:=T9 _ _ (sb8 _ _ rfl (T7 _ _ hD6n))
  have ixl:ix.length = R.length:=by rw [hix'.length_eq,List.length_range]
  have he0:0 < es'.length:=by omega
  have etk:es'.take (1:Int).toNat = [es'[0]]:=by
   show es'.take 1 = [es'[0]]
   cases es' with
   | nil=>simp at he0
   | cons a r=>rfl
  refine ⟨_,rfl,_,rfl,_,rfl,D6,_,rfl,SqL.of hD9,fun p10 e10=>?_⟩
  rw [cut_to (by decide) (by rw [List.length_map];omega),← List.map_take,etk]
  have T10:=Same.upd (o:=.lst ([es'[0]].map V.ref)) e10
  refine ⟨_,rfl,p10,l9,_,_,rfl,rfl,upd_same,T10 _ _ upd_same,?_,fun p11 e11=>?_⟩
  ·rw [List.length_map,List.length_map,List.length_map,sizeLine_eq,ixl]
   simp only [List.length_cons,List.length_nil]
   omega
  rw [show ([es'[0]].map V.ref ++ (ix.map fun i=>(es'.drop 1).getD i 0).map V.ref) = (es'[0] :: ix.map fun i=>(es'.drop 1).getD i 0).map V.ref from rfl]
  have T11:=Same.upd (o:=.lst ((es'[0] :: ix.map fun i=>(es'.drop 1).getD i 0).map V.ref)) e11
  refine ⟨p11,_,rfl,.inl ⟨SqL.of upd_same,fun t12 e12=>?_⟩⟩
  have T12:=Same.upd (o:=.tup ((es'[0] :: ix.map fun i=>(es'.drop 1).getD i 0).map V.ref)) e12
  refine ⟨(by show 2 ≤ sizeLine;decide),fun f13 e13=>?_⟩
  have T13:=Same.upd (o:=.tup [.int sz,.ref t12]) e13
  have S13:=T9.trans (T10.trans (T11.trans (T12.trans T13)))
  refine q f13 _ (ix.map fun i=>R.getD i T0) (SB8.trans S13.sb) (fun b o nb e=>S13 _ _ (FR8 b o nb e)) (tab8.same S13) (L2.perm_getD T0 R hix') ?_ ⟨t12,es'[0] :: ix.map fun i=>(es'.drop 1).getD i 0,upd_same,T13 _ _ upd_same,?_,fun j e T h1 h2=>?_⟩
  ·have:(ix.map fun i=>(R.map (·.name)).getD i ("":Str)) = (ix.map fun i=>R.getD i T0).map (·.name):=by
    rw [List.map_map]
    refine List.map_congr_left fun i hi=>?_
    have hl:=ixlt i hi
    show (R.map (·.name)).getD i ("":Str) = (R.getD i T0).name
    rw [List.getD_eq_getElem?_getD,List.getD_eq_getElem?_getD,List.getElem?_map,List.getElem?_eq_getElem hl]
    rfl
   rw [← this]
   exact hri
  ·rw [List.length_cons,List.length_cons,List.length_map,List.length_map]
  ·refine EntAt.same ?_ S13
   cases j with
   | zero=>
    cases h1
    cases h2
    exact hes8 0 es'[0] T0 (List.getElem?_eq_getElem he0) (by rw [eTs];rfl)
   | succ j=>
    rw [List.getElem?_cons_succ,List.getElem?_map] at h1 h2
    obtain ⟨i,hi,rfl⟩:=Option.map_eq_some_iff.mp h1
    rw [hi] at h2
    cases h2
    have hl:=ixlt i (List.mem_of_getElem? hi)
    have hl2:i < (es'.drop 1).length:=by rw [List.length_drop];omega
    refine hes8 (1 + i) _ _ ?_ ?_
    ·show es'[1 + i]? = some ((es'.drop 1).getD i 0)
     rw [← List.getElem?_drop,List.getD_eq_getElem?_getD,List.getElem?_eq_getElem hl2]
     rfl
    ·show Ts[1 + i]? = some (R.getD i T0)
     rw [eTs,Nat.add_comm,List.getElem?_cons_succ,List.getD_eq_getElem?_getD,List.getElem?_eq_getElem hl]
     rfl
end
end My
namespace My
open PySem L2 PyProof.Rows
theorem rep1 {H:Hp} {p:Addr} {z:Str} (h:H p = some (.tup [.str z])) (hz:z.length ≤ 1000):Rep H (.tup [.str z]) (.ref p):=by
 simp [Rep,Reps,h,hz]
theorem rep2i {H:Hp} {p:Addr} {z:Str} {i:Int} (h:H p = some (.tup [.str z,.int i])) (hz:z.length ≤ 1000):Rep H (.tup [.str z,.int i]) (.ref p):=by
 simp [Rep,Reps,h,hz]
theorem rep2s {H:Hp} {p:Addr} {z y:Str} (h:H p = some (.tup [.str z,.str y])) (hz:z.length ≤ 1000) (hy:y.length ≤ 1000):Rep H (.tup [.str z,.str y]) (.ref p):=by
 simp [Rep,Reps,h,hz,hy]
theorem rep2d {H:Hp} {p:Addr} {z:Str} {v:V} {d:Dt} (h:H p = some (.tup [.str z,v])) (hz:z.length ≤ 1000) (hd:Rep H d v):Rep H (.tup [.str z,d]) (.ref p):=by
 simp only [Rep,Reps]
 exact ⟨p,_,rfl,h,_,_,rfl,⟨rfl,hz⟩,_,_,rfl,hd,rfl⟩
seal L2.PE L2.PT L2.PW L2.PS L2.PSs L2.PA L2.PI L2.PG L2.PGs L2.OpR L2.UnR L2.CallR L2.IxR L2.SlR L2.MtR L2.PIf L2.PO L2.MtM L2.PC L2.PIp L2.PSet L2.PGet L2.TruR L2.InOp L2.PK
def spPlL:Sp:=fun vs H Q _=>∃ wy c:Int,vs = [.int wy,.int c]/\0 ≤ wy/\wy ≤ 4/\∀ v d H',Same H H'->Rep H' d v->plainD d = true->noDct d = true->Q v H'
def spKdL:Sp:=fun vs H Q _=>∃ c:Int,vs = [.int c]/\∀ v d H',Same H H'->Rep H' d v->kindD d = true->noDct d = true->Q v H'
def spColL:Sp:=fun vs H Q _=>∃ c m:Int,vs = [.int c,.int m]/\0 ≤ m/\m ≤ 12/\∀ a cols H',Same H H'->H' a = some (.dK (kvC cols))->ColsOk H' cols->Q (.ref a) H'
def sgs:List Nat:=(" -,:;.!#":Str).cps.toList
theorem sgs_ok:∀ c ∈ sgs,sign1 [c] = true:=by decide +kernel
section
variable {P:Program} {w:World} {K:PySem.W.Frag} {mg:Str->Option Value} {base:Heap}
theorem ok_plL {f:Addr} {fd:FuncData} (F:Fun K "_law_plain" "_law_plain" (top 46) f fd):FnOk P w K mg base CX0 1 f fd ["_law_way","_law_number"] spPlL:=by
 have sc:FnScope ["_law_way","_law_number"] ["_law_way","_law_number"] (defScope (top 46)):=⟨rfl,rfl,rfl,by decide +kernel,rfl,by decide +kernel,by decide +kernel⟩
 refine F.ok sc (fun vs H Q E h=>?_) (fun cdv A outer s H vs Q E hr h=>?_)
 ·obtain ⟨wy,c,rfl,_⟩:=h
  rfl
 ·obtain ⟨wy,c,rfl,w0,w4,q⟩:=h
  have l1:1 ≤ sizeLine:=by decide
  have l2:2 ≤ sizeLine:=by decide
  have p6:CPow 10 6:=⟨by decide,by decide,by decide⟩
  have e6:(10:Int) ^ (6:Int).toNat = 1000000:=by decide +kernel
  refine ⟨_,pss_cons (ps_if (pt_cmpR op_eq (pv 0) pe_int (nomark _)) (pss_one (ps_ret (pe_tup (pa_cons pe_str pa_nil)))) pss_nil)
   (pss_cons (ps_if (pt_cmpR op_eq (pv 0) pe_int (nomark _)) (pss_one (ps_ret (pe_tup (pa_cons pe_str (pa_cons (pe_op op_add pe_int (pe_op op_mod (pv 1) (pe_op op_pow pe_int pe_int))) pa_nil))))) pss_nil)
   (pss_cons (ps_if (pt_cmpR op_eq (pv 0) pe_int (nomark _)) (pss_one (ps_ret (pe_tup (pa_cons pe_str (pa_cons (pe_op op_sub (pe_op op_mod (pv 1) pe_int) pe_int) pa_nil))))) pss_nil)
   (pss_cons (ps_if (pt_cmpR op_eq (pv 0) pe_int (nomark _)) (pss_one (ps_ret (pe_tup (pa_cons pe_str pa_nil)))) pss_nil)
   (pss_one (ps_ret (pe_tup (pa_cons pe_str (pa_cons (pe_ix ix_str pe_str (pe_op op_mod (pv 1) pe_int) (fun _ _=>rfl)) pa_nil)))))))),?_⟩
  refine ⟨_,rfl,rfl,_,rfl,?_⟩
  refine ite2 (fun _=>?_) (fun _=>?_)
  ·exact ⟨l1,fun p hp=>q _ _ _ (Same.upd hp) (rep1 upd_same (by decide)) (by decide +kernel) (by decide +kernel)⟩
  refine ⟨_,rfl,rfl,_,rfl,?_⟩
  refine ite2 (fun _=>?_) (fun _=>?_)
  ·refine ⟨_,rfl,_,_,rfl,rfl,p6,_,_,rfl,rfl,(by show (0:Int) < (10:Int) ^ (6:Int).toNat;rw [e6];decide),_,_,rfl,rfl,l2,fun p hp=>?_⟩
   have h0:=Int.emod_nonneg c (show (10:Int) ^ (6:Int).toNat ≠ 0 by rw [e6];decide)
   refine q _ _ _ (Same.upd hp) (rep2i upd_same (by decide)) ?_ rfl
   show pairD (.str "below") (.int (1 + c % (10:Int) ^ (6:Int).toNat)) = true
   unfold pairD
   rw [if_pos (by decide +kernel)]
   exact decide_eq_true (by omega)
  refine ⟨_,rfl,rfl,_,rfl,?_⟩
  refine ite2 (fun _=>?_) (fun _=>?_)
  ·refine ⟨_,rfl,_,_,rfl,rfl,(pos rfl),_,_,rfl,rfl,l2,fun p hp=>?_⟩
   refine q _ _ _ (Same.upd hp) (rep2i upd_same (by decide)) ?_ rfl
   show pairD (.str "upto") (.int (c % 2001 - 1000)) = true
   unfold pairD
   rw [if_neg (by decide +kernel),if_pos (by decide +kernel)]
   rfl
  refine ⟨_,rfl,rfl,_,rfl,?_⟩
  refine ite2 (fun _=>?_) (fun _=>?_)
  ·exact ⟨l1,fun p hp=>q _ _ _ (Same.upd hp) (rep1 upd_same (by decide)) (by decide +kernel) (by decide +kernel)⟩
  obtain ⟨ch,e1,e2⟩:=atI_mem (l:=sgs) (i:=c % 8) (Int.emod_nonneg _ (by decide)) (by
   have:sgs.length = 8:=by decide +kernel
   rw [this]
   exact Int.emod_lt_of_pos _ (by decide))
  refine ⟨_,rfl,_,_,rfl,rfl,(pos rfl),_,_,ch,rfl,rfl,(by decide +kernel),e1,l2,fun p hp=>?_⟩
  refine q _ _ _ (Same.upd hp) (rep2s upd_same (by decide) (show 1 ≤ 1000 by decide)) ?_ rfl
  show pairD (.str "without") (.str ⟨#[ch]⟩) = true
  unfold pairD
  rw [if_neg (by decide +kernel),if_neg (by decide +kernel),show signD (.str ⟨#[ch]⟩) = true from sgs_ok ch e2,Bool.and_true]
  decide +kernel
theorem ok_kdL {f fP:Addr} {fd fdP:FuncData} (F:Fun K "_law_kind" "_law_kind" (top 47) f fd) (DP:Df K mg "_law_plain" (top 46) fP fdP):FnOk P w K mg base CX0 2 f fd ["_law_number"] spKdL:=by
 have sc:FnScope ["_law_number","_law_way","_law_inner"] ["_law_number"] (defScope (top 47)):=⟨rfl,rfl,rfl,by decide +kernel,rfl,by decide +kernel,by decide +kernel⟩
 have GP:FnOk P w K mg base CX0 1 fP fdP ["_law_way","_law_number"] spPlL:=ok_plL DP.fn
 have bP:=DP.fn.binds (ps:=["_law_way","_law_number"]) fun _ _ _ _ _ _ us hl=>by obtain ⟨v0,v1,rfl⟩:=L2.ln2 hl;rfl
 refine F.ok sc (fun vs H Q E h=>?_) (fun cdv A outer s H vs Q E hr h=>?_)
 ·obtain ⟨c,rfl,_⟩:=h
  rfl
 ·obtain ⟨c,rfl,q⟩:=h
  have l1:1 ≤ sizeLine:=by decide
  have l2:2 ≤ sizeLine:=by decide
  have w0:=Int.emod_nonneg c (show (9:Int) ≠ 0 by decide)
  have w1:=Int.emod_lt_of_pos c (show (0:Int) < 9 by decide)
  have n0:=Int.emod_nonneg (c / 9) (show (5:Int) ≠ 0 by decide)
  have n1:=Int.emod_lt_of_pos (c / 9) (show (0:Int) < 5 by decide)
  refine ⟨_,pss_cons (ps_set (i:=1) sc.nd rfl (Or.inl rfl) (pe_op op_mod (pv 0) pe_int))
   (pss_cons (ps_set (i:=2) sc.nd rfl (Or.inl rfl) (pe_op op_mod (pe_op op_fdiv (pv 0) pe_int) pe_int))
   (pss_cons (ps_if (pt_cmpR op_lt (pv 1) pe_int (nomark _)) (pss_one (ps_ret (pe_call GP hr (by rfl) DP.mg DP.fn.kp bP .nil pass0 (pa_cons (pv 1) (pa_cons (pe_op op_fdiv (pv 0) pe_int) pa_nil))))) pss_nil)
   (pss_cons (ps_if (pt_cmpR op_eq (pv 1) pe_int (nomark _)) (pss_one (ps_ret (pe_tup (pa_cons pe_str pa_nil)))) pss_nil)
   (pss_one (ps_ret (pe_tup (pa_cons (pe_ix ix_list (pe_lst (pa_cons pe_str (pa_cons pe_str (pa_cons pe_str pa_nil)))) (pe_op op_sub (pv 1) pe_int) (fun _ _=>rfl)) (pa_cons (pe_call GP hr (by rfl) DP.mg DP.fn.kp bP .nil pass0 (pa_cons (pv 2) (pa_cons (pe_op op_fdiv (pv 0) pe_int) pa_nil))) pa_nil)))))))),?_⟩
  refine ⟨_,rfl,_,_,rfl,rfl,(pos rfl),?_⟩
  refine ⟨_,rfl,_,_,rfl,rfl,⟨by decide,by decide⟩,_,_,rfl,rfl,(pos rfl),?_⟩
  refine ⟨_,rfl,_,_,rfl,rfl,_,rfl,?_⟩
  refine ite2 (fun h=>?_) (fun h=>?_)
  ·have h5:c % 9 < 5:=of_decide_eq_true h
   refine ⟨_,rfl,_,rfl,_,_,rfl,rfl,⟨by decide,by decide⟩,_,_,rfl,w0,(by omega),fun v d H' s1 hr' hp hn=>q v d H' s1 hr' ?_ hn⟩
   unfold kindD
   rw [hp,Bool.true_or]
  have h5:¬ c % 9 < 5:=fun e=>h (decide_eq_true e)
  refine ⟨_,rfl,rfl,_,rfl,?_⟩
  refine ite2 (fun _=>?_) (fun h6=>?_)
  ·exact ⟨l1,fun p hp=>q _ _ _ (Same.upd hp) (rep1 upd_same (by decide)) (by decide +kernel) (by decide +kernel)⟩
  have h6':c % 9 ≠ 5:=fun e=>h6 (by show decide (V.int (c % 9) = V.int 5) = true;rw [e];decide)
  refine ⟨(by show 3 ≤ sizeLine;decide),fun l hl=>?_⟩
  obtain ⟨x,hx,hm⟩:=at_mem (l:=[V.str "list",.str "some",.str "once"]) (i:=c % 9 - 6) (by omega) (by show c % 9 - 6 < 3;omega)
  refine ⟨_,rfl,_,_,rfl,rfl,_,_,_,x,rfl,rfl,SqL.of upd_same,hx,?_⟩
  have T1:=Same.upd (o:=.lst [V.str "list",.str "some",.str "once"]) hl
  refine ⟨_,rfl,_,rfl,_,_,rfl,rfl,⟨by decide,by decide⟩,_,_,rfl,n0,(by omega),fun v d H2 s2 hr' hp hn=>?_⟩
  refine ⟨l2,fun p hp'=>?_⟩
  have T3:=Same.upd (o:=.tup [x,v]) hp'
  obtain ⟨z,rfl,hz⟩:∃ z:Str,x = .str z/\z ∈ w3:=by
   simp only [List.mem_cons,List.not_mem_nil,or_false] at hm
   rcases hm with rfl | rfl | rfl
   ·exact ⟨_,rfl,by decide +kernel⟩
   ·exact ⟨_,rfl,by decide +kernel⟩
   ·exact ⟨_,rfl,by decide +kernel⟩
  have hzf:∀ z ∈ w3,z.length ≤ 1000/\w3.any (strIs (.str z)) = true/\pairD (.str z) (.int 0) = false:=by decide +kernel
  obtain ⟨z1,z2,_⟩:=hzf z hz
  refine q _ _ _ (T1.trans (s2.trans T3)) (rep2d upd_same z1 (hr'.same T3)) ?_ ?_
  ·unfold kindD
   show (plainD (.tup [.str z,d]) || (w3.any (strIs (.str z)) && plainD d)) = true
   rw [z2,hp,Bool.true_and,Bool.or_true]
  ·show (noDct (.str z) && (noDct d && true)) = true
   rw [hn]
   rfl
end
end My
namespace My
open PySem L2 PyProof.Rows
theorem putK_new {cols:List (Str × V)} {z:Str} {v:V} (h:z ∉ cols.map (·.1)):putK (kvC cols) (.inr z) v = kvC (cols ++ [(z,v)]):=by
 unfold putK
 have:((kvC cols).any fun kv=>decide (kv.1 = (.inr z:Key))) = false:=by
  rw [List.any_eq_false]
  intro kv hkv
  obtain ⟨p,hp,rfl⟩:=List.mem_map.mp hkv
  rw [decide_eq_true_iff]
  intro e
  exact h (List.mem_map.mpr ⟨p,hp,by injection e⟩)
 rw [if_neg (by rw [this];decide)]
 unfold kvC
 rw [List.map_append]
 rfl
theorem nthI {l:List Int} {n:Nat} (hl:l.length = n) (hx:∀ x ∈ l,0 ≤ x/\x < 2147483647) (j:Nat) (hj:j < n):∃ e:Int,atI (l.map V.int) (j:Int) = some (.int e)/\0 ≤ e/\e < 2147483647:=by
 have hj':j < l.length:=by omega
 exact ⟨l[j],atI_nat (by rw [List.getElem?_map,List.getElem?_eq_getElem hj'];rfl),hx _ (List.getElem_mem hj')⟩
theorem PartAt.besideL {H:Hp} {D e d:Addr} {u:HO} {ys:List V} {T:Tb} (hD:H D = some (.lst ys)) (h:PartAt H e d T):PartAt (L2.upd H D u) e d T:=by
 refine ⟨?_,?_,h.2.2.1,h.2.2.2.1,fun p hp=>⟨(h.2.2.2.2 p hp).1,?_⟩⟩
 ·rw [upd_ne (fun q=>by have:=h.1;rw [q,hD] at this;cases this)];exact h.1
 ·rw [upd_ne (fun q=>by have:=h.2.1;rw [q,hD] at this;cases this)];exact h.2.1
 ·obtain ⟨dt,h1,h2,h3⟩:=(h.2.2.2.2 p hp).2
  exact ⟨dt,Rep.beside (fun xs q=>by rw [hD] at q;cases q) h3 h1,h2,h3⟩
seal L2.PE L2.PT L2.PW L2.PS L2.PSs L2.PA L2.PI L2.PG L2.PGs L2.OpR L2.UnR L2.CallR L2.IxR L2.SlR L2.MtR L2.PIf L2.PO L2.MtM L2.PC L2.PIp L2.PSet L2.PGet L2.TruR L2.InOp L2.PK
def clN:List Str:=["_law_cell_here","_law_most","_law_xs","_law_many","_law_columns_here","_law_k","_law_name"]
def tbN:List Str:=["_law_script","_law_start","_law_most","_law_wide","_law_many","_law_names_here","_law_parts","_law_k","_law_cell_here"]
def spTabsL (K:PySem.W.Frag):Sp:=fun vs H Q _=>∃ (a:Addr) (ns:List Int),vs = [.ref a,.int 1,.int 8,.int 12]/\SqL K H a (ns.map V.int)/\ns.length ≤ 63/\∀ l es ds T0 R H',Same H H'->PartsAt H' l es ds (T0 :: R)->TsOk T0 R->Q (.ref l) H'
section
variable {P:Program} {w:World} {K:PySem.W.Frag} {mg:Str->Option Value} {base:Heap}
theorem ok_colL {f fT fN fL fK fP:Addr} {fd fdT fdN fdL fdK fdP:FuncData} (F:Fun K "_law_columns" "_law_columns" (top 48) f fd) (B:Bl mg) (DT:Df K mg "_law_stream" (top 43) fT fdT) (DN:Df K mg "_law_names" (top 45) fN fdN) (DL:Df K mg "_law_letter" (top 44) fL fdL)
  (DK:Df K mg "_law_kind" (top 47) fK fdK) (DP:Df K mg "_law_plain" (top 46) fP fdP):FnOk P w K mg base CX0 3 f fd ["_law_cell_here","_law_most"] spColL:=by
 have sc:FnScope clN ["_law_cell_here","_law_most"] (defScope (top 48)):=⟨rfl,rfl,rfl,by decide +kernel,rfl,by decide +kernel,by decide +kernel⟩
 have GT:FnOk P w K mg base CX0 1 fT fdT ["_law_cell_here","_law_many"] spStream:=ok_stream DT.fn B
 have GN:FnOk P w K mg base CX0 2 fN fdN ["_law_cell_here","_law_many"] spNames:=ok_names DN.fn B DT DL
 have GK:FnOk P w K mg base CX0 2 fK fdK ["_law_number"] spKdL:=ok_kdL DK.fn DP
 have bT:=DT.fn.binds (ps:=["_law_cell_here","_law_many"]) fun _ _ _ _ _ _ us hl=>by obtain ⟨v0,v1,rfl⟩:=L2.ln2 hl;rfl
 have bN:=DN.fn.binds (ps:=["_law_cell_here","_law_many"]) fun _ _ _ _ _ _ us hl=>by obtain ⟨v0,v1,rfl⟩:=L2.ln2 hl;rfl
 have bK:=DK.fn.binds (ps:=["_law_number"]) fun _ _ _ _ _ _ us hl=>by obtain ⟨v0,rfl⟩:=L2.ln1 hl;rfl
 refine F.ok sc (fun vs H Q E h=>?_) (fun cdv A outer s H vs Q E hr h=>?_)
 ·obtain ⟨c,m,rfl,_⟩:=h
  rfl
 ·obtain ⟨c,m,rfl,m0,m12,q⟩:=h
  have hr1:Room 1 _:=hr.mono (by decide)
  have hu:(A.deeper (envOfC "_law_columns" (defScope (top 48)) s.heap.objs.size f cdv)).units + 1 < cLine:=hu_of hr
  refine ⟨_,pss_cons (ps_set (i:=2) sc.nd rfl (Or.inl rfl) (pe_call GT hr1 (by rfl) DT.mg DT.fn.kp bT .nil pass0 (pa_cons (pv 0) (pa_cons pe_int pa_nil))))
   (pss_cons (ps_set (i:=3) sc.nd rfl (Or.inl rfl) (pe_op op_mod (pe_ix ix_list (pv 2) pe_int (fun _ _=>rfl)) pe_int))
   (pss_cons (ps_if (pt_cmpR op_eq (pe_op op_mod (pe_op op_fdiv (pe_ix ix_list (pv 2) pe_int (fun _ _=>rfl)) pe_int) pe_int) pe_int (nomark _)) (pss_one (ps_set (i:=3) sc.nd rfl (Or.inl rfl) (pv 1))) pss_nil)
   (pss_cons (ps_set (i:=4) sc.nd rfl (Or.inl rfl) pe_dnewK)
   (pss_cons (ps_for PassesOwn.never rfl (pi_enum (by rfl) B.enum (pa_cons (pe_call GN hr (by rfl) DN.mg DN.fn.kp bN .nil pass0 (pa_cons (pe_ix ix_list (pv 2) pe_int (fun _ _=>rfl)) (pa_cons (pv 3) pa_nil))) pa_nil)) (pg_tup rfl (pgs_cons (pg_name (i:=5) sc.nd rfl (Or.inl rfl)) (pgs_cons (pg_name (i:=6) sc.nd rfl (Or.inl rfl)) pgs_nil)))
    (pss_one (ps_dput hu (pv 4) (pv 6) (pe_call GK hr (by rfl) DK.mg DK.fn.kp bK .nil pass0 (pa_cons (pe_ix ix_list (pv 2) (pe_op op_add pe_int (pv 5)) (fun _ _=>rfl)) pa_nil)) rfl)))
   (pss_one (ps_ret (pv 4))))))),?_⟩
  refine ⟨_,rfl,c,14,rfl,(by decide),(by decide),fun x H1 l s1 hx hl14 hl=>?_⟩
  have hl':l.length = 14:=by omega
  have atl:=nthI hl' hl
  obtain ⟨x0,a0,x00,_⟩:=atl 0 (by decide)
  obtain ⟨x1,a1,_⟩:=atl 1 (by decide)
  have z0:=Int.emod_nonneg x0 (show (4:Int) ≠ 0 by decide)
  have z1:=Int.emod_lt_of_pos x0 (show (0:Int) < 4 by decide)
  refine ⟨_,rfl,_,_,0,_,rfl,rfl,SqL.of hx,a0,_,_,rfl,rfl,(pos rfl),?_⟩
  have fin:∀ mn:Int,0 ≤ mn->mn ≤ 12->tSeq (tAsg tDNewK (gName 4)) (tSeq (tFor (iEnum K (tCons (tCall spNames [] E0 (tCons (tOp (rIxL K) (tVar 2) (tC (.int 1))) (tCons (tVar 3) tNil))) tNil)) (gTup K 2 (gCons (gName 5) (gCons (gName 6) gNil))) (sDPut (tVar 4) (tVar 6) (tCall spKdL [] E0 (tCons (tOp (rIxL K) (tVar 2) (tOp (rI0 fun i j=>.int (i + j)) (tC (.int 2)) (tVar 5))) tNil)))) (tRet (tVar 4))) { nx:=fun _ H'=>Q .non H',rt:=Q } [some (.int c),some (.int m),some (.ref x),some (.int mn),none,none,none] H1:=by
   intro mn n0 n12
   intro d hd
   have hd0:H d = none:=by
    cases e:H d with
    | none=>rfl
    | some o=>rw [s1 _ _ e] at hd;cases hd
   have T2:=Same.upd (o:=.dK []) hd
   have hx2:=T2 _ _ hx
   refine ⟨_,rfl,_,_,1,_,rfl,rfl,SqL.of hx2,a1,_,rfl,_,mn,rfl,n0,n12,fun p H3 zs s3 hp hzl nd hz=>?_⟩
   have hd3:=s3 _ _ (show (L2.upd H1 d (.dK [])) d = some (.dK []) from upd_same)
   have hx3:=s3 _ _ hx2
   refine ⟨p,rfl,⟨_,SqL.of hp⟩,for_enum (K:=K) (a:=p) (xs:=zs.map V.str) (fun i σ H4=>∃ (cols:List (Str × V)) (u5 u6:Option V),σ = [some (.int c),some (.int m),some (.ref x),some (.int mn),some (.ref d),u5,u6]/\Same H H4/\H4 x = some (.lst (l.map V.int))/\H4 p = some (.lst (zs.map V.str))/\H4 d = some (.dK (kvC cols))/\cols.map (·.1) = zs.take i/\∀ p ∈ cols,nameS p.1 = true/\∃ dt,Rep H4 dt p.2/\kindD dt = true/\noDct dt = true) ⟨[],_,_,rfl,(s1.trans T2).trans s3,hx3,hp,hd3,rfl,fun p h=>nomatch h⟩ (fun i σ H4 _ pp=>by obtain ⟨cols,u5,u6,_,_,_,h,_⟩:=pp;exact SqL.of h) ?_ ?_⟩
   ·rintro i y pe σ H4 hy ⟨cols,u5,u6,rfl,s4,hx4,hp4,hd4,hcn,hck⟩ hpe
    have hi:i < zs.length:=by
     have:=(List.getElem?_eq_some_iff.mp hy).1
     rwa [List.length_map] at this
    rw [List.getElem?_map,List.getElem?_eq_getElem hi] at hy
    cases hy
    have T5:=Same.upd (o:=.tup [.int i,.str zs[i]]) hpe
    obtain ⟨xe,ae,_⟩:=atl (2 + i) (by omega)
    have ae':atI (l.map V.int) (2 + (i:Int)) = some (.int xe):=by
     have:(2 + (i:Int)) = ((2 + i:Nat):Int):=by omega
     rw [this]
     exact ae
    refine ⟨pe,_,rfl,SqT.of upd_same,rfl,_,_,rfl,_,_,rfl,rfl,?_⟩
    refine ⟨_,rfl,_,rfl,_,_,rfl,rfl,_,_,_,_,rfl,rfl,SqL.of (T5 _ _ hx4),ae',xe,rfl,fun v dt H6 s6 hr' hkd hnd=>?_⟩
    have S6:=T5.trans s6
    have hd6:=S6 _ _ hd4
    have clen:cols.length = i:=by
     have:=congrArg List.length hcn
     rw [List.length_map,List.length_take] at this
     omega
    refine ⟨_,rfl,_,rfl,d,_,rfl,.inl ⟨_,.inr zs[i],hd6,rfl,?_,rfl⟩,?_⟩
    ·unfold kvC
     rw [List.length_map,sizeLine_eq]
     omega
    have hnew:zs[i] ∉ cols.map (·.1):=by
     rw [hcn]
     intro hm
     obtain ⟨j,hj,ej⟩:=List.mem_take_iff_getElem.mp hm
     have hj2:j < zs.length:=by omega
     have:j = i:=(List.getElem_inj nd).mp ej
     omega
    rw [putK_new hnew]
    have hdx:x ≠ d:=fun e=>by have:=S6 _ _ hx4;rw [e,hd6] at this;cases this
    have hdp:p ≠ d:=fun e=>by have:=S6 _ _ hp4;rw [e,hd6] at this;cases this
    refine ⟨cols ++ [(zs[i],v)],_,_,rfl,(s4.trans S6).put hd0,by rw [upd_ne hdx];exact S6 _ _ hx4,by rw [upd_ne hdp];exact S6 _ _ hp4,upd_same,?_,fun pr hpr=>?_⟩
    ·rw [List.map_append,hcn,List.take_add_one,List.getElem?_eq_getElem hi]
     rfl
    ·have nt:∀ xs,H6 d ≠ some (.tup xs):=fun xs q=>by rw [hd6] at q;cases q
     rcases List.mem_append.mp hpr with h | h
     ·obtain ⟨h1,dt',h2,h3,h4⟩:=hck pr h
      exact ⟨h1,dt',Rep.beside nt h4 (h2.same S6),h3,h4⟩
     ·have:pr = (zs[i],v):=by simpa using h
      subst this
      exact ⟨hz _ (List.getElem_mem hi),dt,Rep.beside nt hnd hr',hkd,hnd⟩
   ·rintro σ H4 ⟨cols,u5,u6,rfl,s4,hx4,hp4,hd4,hcn,hck⟩
    rw [List.length_map,List.take_of_length_le (Nat.le_refl _)] at hcn
    have clen:cols.length = zs.length:=by
     have:=congrArg List.length hcn
     rwa [List.length_map] at this
    exact ⟨_,rfl,q d cols H4 s4 hd4 ⟨by rw [hcn];exact nd,by omega,hck⟩⟩
  refine ⟨_,rfl,_,_,0,_,rfl,rfl,SqL.of hx,a0,_,_,rfl,rfl,⟨by decide,by decide⟩,_,_,rfl,rfl,(pos rfl),rfl,_,rfl,?_⟩
  refine ite2 (fun _=>?_) (fun _=>?_)
  ·exact ⟨_,rfl,fin m m0 m12⟩
  ·exact fin (x0 % 4) z0 (by omega)
end
end My
namespace L2
open PySem PySem.Spec PyProof.Rows
section
variable {X:Cx}
def sFrzR (t:TS):TS:=fun D σ H=>∃ a kvs,Rd H a (.dK kvs)/\(∀ o,H a = some (.frz o (.dK kvs))->t D σ H)/\(H a = some (.dK kvs)->∀ o,t (frzE a o kvs D) σ (upd H a (.frz o (.dK kvs))))
end
inductive Lq (H:Hp):Nat->V->V->Prop
 | non {n:Nat}:Lq H n .non .non
 | bl {n:Nat} {b:Bool}:Lq H n (.bl b) (.bl b)
 | int {n:Nat} {i:Int}:Lq H n (.int i) (.int i)
 | str {n:Nat} {z:Str}:Lq H n (.str z) (.str z)
 | tup {n:Nat} {a b:Addr} {xs ys:List V} (ha:H a = some (.tup xs)) (hb:H b = some (.tup ys)) (hl:xs.length = ys.length) (h:∀ (i:Nat) (x y:V),xs[i]? = some x->ys[i]? = some y->Lq H n x y):Lq H (n + 1) (.ref a) (.ref b)
 | lst {n:Nat} {a b:Addr} {xs ys:List V} (ha:H a = some (.lst xs)) (hb:H b = some (.lst ys)) (hl:xs.length = ys.length) (h:∀ (i:Nat) (x y:V),xs[i]? = some x->ys[i]? = some y->Lq H n x y):Lq H (n + 1) (.ref a) (.ref b)
 | dct {n:Nat} {a b:Addr} {kvs kws:List (Key × V)} (f:Key->V) (ha:Rd H a (.dK kvs)) (hb:Rd H b (.dK kws)) (hl:kvs.length = kws.length)
   (hf:∀ (k:Key) (v:V),(k,v) ∈ kws->valV kvs k = some (f k)) (hg:∀ (k:Key) (v:V),(k,v) ∈ kws->valV kws k = some v) (h:∀ (k:Key) (v:V),(k,v) ∈ kws->Lq H n (f k) v):Lq H (n + 1) (.ref a) (.ref b)
theorem Rd.same {H H':Hp} (s:Same H H') {a:Addr} {u:HO} (r:Rd H a u):Rd H' a u:=by
 rcases r with e | ⟨o,e⟩
 ·exact .inl (s _ _ e)
 ·exact .inr ⟨o,s _ _ e⟩
end L2
namespace L2
open PySem PySem.Spec PyProof.Rows
theorem SqT.rd {K:PySem.W.Frag} {H:Hp} {a:Addr} {xs:List V} (h:Rd H a (.tup xs)):SqT K H a xs:=.inl h
theorem call_isi5 {X:Cx}:CallR X (.builtin "isinstance") (fun xs H Q=>∃ x n t b,xs = [x,.ty n]/\(TyOf X.K H x t\/∃ a ys,x = .ref a/\Rd H a (.tup ys)/\t = .type "tuple")/\PySem.W.kitOne X.K t (.type n) = some b/\Q (.bl b) H):=by
 intro pins s σ H xs us Q I r h
 obtain ⟨x,n,t,b,rfl,hx,e,q⟩:=h
 rcases hx with hx | ⟨a,ys,rfl,ha,rfl⟩
 ·exact call_isi pins s σ H _ us Q I r ⟨x,n,t,b,rfl,hx,e,q⟩
 ·obtain ⟨u,w',rfl,rx,rc⟩:=vals2 r
  cases rx
  cases (show w' = Value.type n from rc)
  obtain ⟨its,_,⟨o,h1,h2,_⟩,_⟩:=I.tuple (SqT.rd ha)
  exact PySem.W.kia_one PySem.W.kitx_tuple I.kIn ⟨o,h1,h2⟩ e (fun z=>nomatch z) fun tk=>⟨.bl b,H,I.tok tk,rfl,q⟩
inductive Lk5 (H:Hp):Nat->V->V->Prop
 | int {n:Nat} {i:Int}:Lk5 H n (.int i) (.int i)
 | str {n:Nat} {z:Str}:Lk5 H n (.str z) (.str z)
 | tup {n:Nat} {a b:Addr} {xs ys:List V} (ha:Rd H a (.tup xs)) (hb:Rd H b (.tup ys)) (hl:xs.length = ys.length) (h:∀ (i:Nat) (x y:V),xs[i]? = some x->ys[i]? = some y->Lk5 H n x y):Lk5 H (n + 1) (.ref a) (.ref b)
theorem Lk5.same {H H':Hp} (s:Same H H') {n:Nat} {x y:V} (h:Lk5 H n x y):Lk5 H' n x y:=by
 induction h with
 | int=>exact .int
 | str=>exact .str
 | tup ha hb hl _ ih=>exact .tup (Rd.same s ha) (Rd.same s hb) hl ih
theorem Lk5.up {H:Hp} {n:Nat} {x y:V} (h:Lk5 H n x y):Lk5 H (n + 1) x y:=by
 induction h with
 | int=>exact .int
 | str=>exact .str
 | tup ha hb hl _ ih=>exact .tup ha hb hl ih
end L2
namespace My
open PySem L2 PyProof.Rows
def leS (a b:Str):Bool:=!decide (b.cps.toList < a.cps.toList)
theorem leS_iff {a b:Str}:leS a b = true ↔ a.cps.toList ≤ b.cps.toList:=by
 unfold leS
 rw [Bool.not_eq_true',decide_eq_false_iff_not]
 exact Iff.rfl
theorem leS_trans (a b c:Str) (h:leS a b = true) (h':leS b c = true):leS a c = true:=leS_iff.mpr (List.le_trans (leS_iff.mp h) (leS_iff.mp h'))
theorem str_ext5 {a b:Str} (h:a.cps.toList = b.cps.toList):a = b:=Str.ext' (Array.toList_inj.mp h)
theorem leS_anti {a b:Str} (h:leS a b = true) (h':leS b a = true):a = b:=str_ext5 (List.le_antisymm (leS_iff.mp h) (leS_iff.mp h'))
theorem rising_pw:∀ {l:List Str} {p:Str},PyProof.Rows.risingS p l = true->(p :: l).Pairwise fun a b=>leS a b = true
 | [],p,_=>List.pairwise_singleton _ _
 | x :: r,p,h=>by
  unfold PyProof.Rows.risingS at h
  rw [Bool.and_eq_true] at h
  have hx:leS p x = true:=by
   unfold leS
   rw [PyProof.Rows.le_meets]
   exact h.1
  have ih:=rising_pw (l:=r) (p:=x) h.2
  refine List.Pairwise.cons (fun y hy=>?_) ih
  rcases List.mem_cons.mp hy with rfl | hy
  ·exact hx
  ·exact leS_trans p x y hx ((List.pairwise_cons.mp ih).1 y hy)
theorem sortedS_pw:∀ {l:List Str},PyProof.Rows.sortedS l = true->l.Pairwise fun a b=>leS a b = true
 | [],_=>List.Pairwise.nil
 | x :: r,h=>rising_pw h
theorem sorted_eq {l m k:List Str} (h1:sortedS l = true) (h2:sortedS m = true) (p1:l.Perm k) (p2:m.Perm k):l = m:=
 List.Perm.eq_of_pairwise (fun a b _ _ h1 h2=>leS_anti h1 h2) (sortedS_pw h1) (sortedS_pw h2) (p1.trans p2.symm)
theorem rise_eq {R R1 R2:List Tb} (nd:(R.map (·.name)).Nodup) (p1:R1.Perm R) (p2:R2.Perm R) (h1:Rise (R1.map (·.name))) (h2:Rise (R2.map (·.name))):R1 = R2:=by
 have pw:∀ {S:List Tb},Rise (S.map (·.name))->S.Pairwise fun a b=>leS a.name b.name = true:=fun h=>by
  unfold Rise at h
  rw [List.pairwise_map] at h
  refine h.imp fun hab=>?_
  unfold leS
  rw [decide_eq_false hab]
  rfl
 refine List.Perm.eq_of_pairwise (fun a b ha hb h1 h2=>?_) (pw h1) (pw h2) (p1.trans p2.symm)
 have en:=leS_anti h1 h2
 have ma:=p1.mem_iff.mp ha
 have mb:=p2.mem_iff.mp hb
 obtain ⟨i,hi,ei⟩:=List.mem_iff_getElem.mp ma
 obtain ⟨j,hj,ej⟩:=List.mem_iff_getElem.mp mb
 have:i = j:=by
  refine (List.getElem_inj (h₀:=by rw [List.length_map];exact hi) (h₁:=by rw [List.length_map];exact hj) nd).mp ?_
  rw [List.getElem_map,List.getElem_map,ei,ej,en]
 subst this
 rw [← ei,← ej]
theorem lk_one {H:Hp} {n:Nat} {a b:Addr} {x y:V} (ha:Rd H a (.tup [x])) (hb:Rd H b (.tup [y])) (h1:Lk5 H n x y):Lk5 H (n + 1) (.ref a) (.ref b):=by
 refine .tup ha hb rfl fun i u v hu hv=>?_
 match i,hu,hv with
 | 0,hu,hv=>cases hu;cases hv;exact h1
 | i + 1,hu,hv=>simp at hu
theorem lk_two {H:Hp} {n:Nat} {a b:Addr} {x y x2 y2:V} (ha:Rd H a (.tup [x,x2])) (hb:Rd H b (.tup [y,y2])) (h1:Lk5 H n x y) (h2:Lk5 H n x2 y2):Lk5 H (n + 1) (.ref a) (.ref b):=by
 refine .tup ha hb rfl fun i u v hu hv=>?_
 match i,hu,hv with
 | 0,hu,hv=>cases hu;cases hv;exact h1
 | 1,hu,hv=>cases hu;cases hv;exact h2
 | i + 2,hu,hv=>simp at hu
theorem lk_three {H:Hp} {n:Nat} {a b:Addr} {x y x2 y2 x3 y3:V} (ha:Rd H a (.tup [x,x2,x3])) (hb:Rd H b (.tup [y,y2,y3])) (h1:Lk5 H n x y) (h2:Lk5 H n x2 y2) (h3:Lk5 H n x3 y3):Lk5 H (n + 1) (.ref a) (.ref b):=by
 refine .tup ha hb rfl fun i u v hu hv=>?_
 match i,hu,hv with
 | 0,hu,hv=>cases hu;cases hv;exact h1
 | 1,hu,hv=>cases hu;cases hv;exact h2
 | 2,hu,hv=>cases hu;cases hv;exact h3
 | i + 3,hu,hv=>simp at hu
theorem strIs_str {d:Dt} {z:Str} (h:strIs d z = true):∃ y,d = .str y:=by
 cases d with
 | str y=>exact ⟨y,rfl⟩
 | _=>cases h
theorem lk_plain {H:Hp} {d:Dt} {v:V} (hp:plainD d = true) (h:Rep H d v):Lk5 H 1 v v:=by
 match d,hp,h with
 | .tup [s],hp,h=>
  simp only [Rep,Reps] at h
  obtain ⟨a,xs,rfl,ha,v1,vs,rfl,h1,rfl⟩:=h
  obtain ⟨z,_,hz⟩:=List.any_eq_true.mp (show w2.any (strIs s) = true from hp)
  obtain ⟨y,rfl⟩:=strIs_str hz
  simp only [Rep] at h1
  rw [h1.1] at ha
  exact lk_one (.inl ha) (.inl ha) .str
 | .tup [s,b],hp,h=>
  simp only [Rep,Reps] at h
  obtain ⟨a,xs,rfl,ha,v1,vs,rfl,h1,v2,vs2,rfl,h2,rfl⟩:=h
  have hp':pairD s b = true:=hp
  unfold pairD at hp'
  have hs:∃ y,s = .str y:=by
   by_cases e1:strIs s "below" = true
   ·exact strIs_str e1
   ·rw [if_neg e1] at hp'
    by_cases e2:strIs s "upto" = true
    ·exact strIs_str e2
    ·rw [if_neg e2] at hp'
     exact strIs_str (Bool.and_eq_true_iff.mp hp').1
  have hb:(∃ i,b = .int i)\/∃ y,b = .str y:=by
   cases b with
   | int i=>exact .inl ⟨i,rfl⟩
   | str y=>exact .inr ⟨y,rfl⟩
   | _=>
    simp only [geD,wholeD,signD,Bool.and_false] at hp'
    split at hp'
    ·cases hp'
    ·split at hp' <;> cases hp'
  obtain ⟨y,rfl⟩:=hs
  simp only [Rep] at h1
  rw [h1.1] at ha
  rcases hb with ⟨i,rfl⟩ | ⟨y2,rfl⟩
  ·simp only [Rep] at h2
   rw [h2] at ha
   exact lk_two (.inl ha) (.inl ha) .str .int
  ·simp only [Rep] at h2
   rw [h2.1] at ha
   exact lk_two (.inl ha) (.inl ha) .str .str
theorem lk_kind {H:Hp} {d:Dt} {v:V} (hk:kindD d = true) (h:Rep H d v):Lk5 H 2 v v:=by
 unfold kindD at hk
 rcases Bool.or_eq_true_iff.mp hk with hp | hm
 ·exact (lk_plain hp h).up
 ·match d,hm,h with
  | .tup [s],hm,h=>
   simp only [Rep,Reps] at h
   obtain ⟨a,xs,rfl,ha,v1,vs,rfl,h1,rfl⟩:=h
   obtain ⟨y,rfl⟩:=strIs_str (show strIs s "key" = true from hm)
   simp only [Rep] at h1
   rw [h1.1] at ha
   exact lk_one (.inl ha) (.inl ha) .str
  | .tup [s,b],hm,h=>
   simp only [Rep,Reps] at h
   obtain ⟨a,xs,rfl,ha,v1,vs,rfl,h1,v2,vs2,rfl,h2,rfl⟩:=h
   have hm':=Bool.and_eq_true_iff.mp (show (w3.any (strIs s) && plainD b) = true from hm)
   obtain ⟨z,_,hz⟩:=List.any_eq_true.mp hm'.1
   obtain ⟨y,rfl⟩:=strIs_str hz
   simp only [Rep] at h1
   rw [h1.1] at ha
   exact lk_two (.inl ha) (.inl ha) .str (lk_plain hm'.2 h2)
theorem lk_cols {H:Hp} {t u:Addr} {cols:List (Str × V)} (h1:ColsAt H t cols) (h2:ColsAt H u cols) (ok:ColsOk H cols):Lk5 H 4 (.ref t) (.ref u):=by
 obtain ⟨o,ps,zs,p1,s1,_,g1,l1,f1⟩:=h1
 obtain ⟨o',ps',zs',p2,s2,_,g2,l2,f2⟩:=h2
 have ez:=sorted_eq s1 s2 p1 p2
 subst ez
 refine .tup (.inr ⟨o,g1⟩) (.inr ⟨o',g2⟩) (by rw [List.length_map,List.length_map,l1,l2]) fun i x y hx hy=>?_
 rw [List.getElem?_map] at hx hy
 obtain ⟨p,hp,rfl⟩:=Option.map_eq_some_iff.mp hx
 obtain ⟨p',hp',rfl⟩:=Option.map_eq_some_iff.mp hy
 have hi:i < zs.length:=by have:=(List.getElem?_eq_some_iff.mp hp).1;omega
 have hz:=List.getElem?_eq_getElem hi
 have hm:zs[i] ∈ cols.map (·.1):=p1.mem_iff.mp (List.getElem_mem hi)
 have hv:∃ d,Rep H d (vOf cols zs[i])/\kindD d = true:=by
  have hval:=val_in hm
  unfold valV at hval
  obtain ⟨kv,hf,e⟩:=Option.map_eq_some_iff.mp hval
  have hmem:=List.mem_of_find?_eq_some hf
  obtain ⟨pr,hpr,rfl⟩:=List.mem_map.mp hmem
  obtain ⟨_,d,h1,h2,_⟩:=ok.2.2 pr hpr
  rw [← e]
  exact ⟨d,h1,h2⟩
 obtain ⟨d,hd,hk⟩:=hv
 exact lk_two (.inl (f1 i p _ hp hz)) (.inl (f2 i p' _ hp' hz)) .str (lk_kind hk hd)
theorem lk_form {H:Hp} {f g:Addr} {sz:Int} {Ts:List Tb} (h1:FormAt H f sz Ts) (h2:FormAt H g sz Ts) (ok:∀ T ∈ Ts,ColsOk H T.cols):Lk5 H 7 (.ref f) (.ref g):=by
 obtain ⟨tt,es,a1,a2,a3,a4⟩:=h1
 obtain ⟨tt',es',b1,b2,b3,b4⟩:=h2
 refine lk_two (.inl a1) (.inl b1) .int (.tup (.inl a2) (.inl b2) (by rw [List.length_map,List.length_map,a3,b3]) fun i x y hx hy=>?_)
 rw [List.getElem?_map] at hx hy
 obtain ⟨e,he,rfl⟩:=Option.map_eq_some_iff.mp hx
 obtain ⟨e',he',rfl⟩:=Option.map_eq_some_iff.mp hy
 have hi:i < Ts.length:=by have:=(List.getElem?_eq_some_iff.mp he).1;omega
 obtain ⟨ct,c1,c2⟩:=a4 i e Ts[i] he (List.getElem?_eq_getElem hi)
 obtain ⟨ct',d1,d2⟩:=b4 i e' Ts[i] he' (List.getElem?_eq_getElem hi)
 exact lk_three (.inl c1) (.inl d1) .str .str (lk_cols c2 d2 (ok _ (List.getElem_mem hi)))
seal L2.PE L2.PT L2.PW L2.PS L2.PSs L2.PA L2.PI L2.PG L2.PGs L2.OpR L2.UnR L2.CallR L2.IxR L2.SlR L2.MtR L2.PIf L2.PO L2.MtM L2.PC L2.PIp L2.PSet L2.PGet L2.TruR L2.InOp L2.PK
def spSame5 (n:Nat):Sp:=fun vs H Q _=>∃ x y,vs = [x,y]/\Lk5 H n x y/\∀ H',Same H H'->Q (.bl true) H'
section
variable {P:Program} {w:World} {K:PySem.W.Frag} {mg:Str->Option Value} {base:Heap}
theorem kq {a b:String} {r:Bool} (h:kitTy a b = some r):PySem.W.kitOne K (.type a) (.type b) = some r:=kit_eq.trans h
theorem ok_same {f:Addr} {fd:FuncData} (D:Df K mg "_law_same" (top 49) f fd) (B:Bl mg) (hz:mg "zip" = none):∀ n:Nat,FnOk P w K mg base CX0 (n + 1) f fd ["_law_found","_law_due_here"] (spSame5 n):=by
 have sc:FnScope ["_law_found","_law_due_here","_law_one","_law_other"] ["_law_found","_law_due_here"] (defScope (top 49)):=⟨rfl,rfl,rfl,by decide +kernel,rfl,by decide +kernel,by decide +kernel⟩
 have bA:=D.fn.binds (ps:=["_law_found","_law_due_here"]) fun _ _ _ _ _ _ us hl=>by obtain ⟨v0,v1,rfl⟩:=L2.ln2 hl;rfl
 have t2:kitTy "int" "bool" = some false:=by decide +kernel
 have t5:kitTy "int" "int" = some true:=by decide +kernel
 have t7:kitTy "int" "tuple" = some false:=by decide +kernel
 have t8:kitTy "str" "str" = some true:=by decide +kernel
 have t9:kitTy "str" "tuple" = some false:=by decide +kernel
 have t10:kitTy "int" "str" = some false:=by decide +kernel
 have t12:kitTy "tuple" "tuple" = some true:=by decide +kernel
 have nn:∀ {v:V},v ≠ .non->¬ (decide (v = V.non) = true):=fun h c=>h (of_decide_eq_true c)
 intro n
 induction n with
 | zero=>
  refine D.fn.ok sc (fun vs H Q E h=>?_) (fun cdv A outer s H vs Q E hr h=>?_)
  ·obtain ⟨x,y,rfl,_⟩:=h
   rfl
  ·obtain ⟨x,y,rfl,hl,q⟩:=h
   have q:=q H (Same.refl H)
   refine ⟨_,pss_cons (ps_if (pt_val (pe_callB call_isi5 (by rfl) B.isi boot_isi (pa_cons (pv 1) (pa_cons (pe_bltn (v:=.ty "tuple") (by rfl) B.tuple boot_tuple rfl) pa_nil)))) pss_never pss_nil)
    (pss_cons (ps_if (pt_val (pe_callB call_isi5 (by rfl) B.isi boot_isi (pa_cons (pv 1) (pa_cons (pe_bltn (v:=.ty "str") (by rfl) B.str boot_str rfl) pa_nil)))) (pss_one (ps_ret (pe_and (pe_callB call_isi5 (by rfl) B.isi boot_isi (pa_cons (pv 0) (pa_cons (pe_bltn (v:=.ty "str") (by rfl) B.str boot_str rfl) pa_nil))) (pe_one (pe_cmpR op_eq (pv 0) (pv 1) (nomark _)))))) pss_nil)
    (pss_one (ps_ret (pe_and (pe_callB call_isi5 (by rfl) B.isi boot_isi (pa_cons (pv 0) (pa_cons (pe_bltn (v:=.ty "int") (by rfl) B.int boot_int rfl) pa_nil))) (pe_and (pe_not (pe_callB call_isi5 (by rfl) B.isi boot_isi (pa_cons (pv 0) (pa_cons (pe_bltn (v:=.ty "bool") (by rfl) B.bool boot_bool rfl) pa_nil)))) (pe_one (pe_cmpR op_eq (pv 0) (pv 1) (nomark _)))))))),?_⟩
   obtain ⟨m,e0,hl⟩:∃ m,m = 0/\Lk5 H m x y:=⟨0,rfl,hl⟩
   cases hl with
   | int=>
    refine ⟨_,rfl,_,_,_,_,rfl,.inl (.int _),kq t7,_,rfl,?_⟩
    refine iteF ?_
    refine ⟨_,rfl,_,_,_,_,rfl,.inl (.int _),kq t10,_,rfl,?_⟩
    refine iteF ?_
    refine ⟨_,rfl,_,_,_,_,rfl,.inl (.int _),kq t5,_,rfl,?_⟩
    refine iteT ?_
    refine ⟨_,rfl,_,_,_,_,rfl,.inl (.int _),kq t2,_,rfl,_,rfl,?_⟩
    refine iteT ?_
    refine ⟨_,rfl,_,rfl,rfl,?_⟩
    rw [decide_eq_true rfl]
    exact q
   | str=>
    refine ⟨_,rfl,_,_,_,_,rfl,.inl (.str _),kq t9,_,rfl,?_⟩
    refine iteF ?_
    refine ⟨_,rfl,_,_,_,_,rfl,.inl (.str _),kq t8,_,rfl,?_⟩
    refine iteT ?_
    refine ⟨_,rfl,_,_,_,_,rfl,.inl (.str _),kq t8,_,rfl,?_⟩
    refine iteT ?_
    refine ⟨_,rfl,_,rfl,rfl,?_⟩
    rw [decide_eq_true rfl]
    exact q
   | tup=>cases e0
 | succ n ih=>
  refine D.fn.ok sc (fun vs H Q E h=>?_) (fun cdv A outer s H vs Q E hr h=>?_)
  ·obtain ⟨x,y,rfl,_⟩:=h
   rfl
  ·obtain ⟨x,y,rfl,hl,q⟩:=h
   refine ⟨_,pss_cons (ps_if (pt_val (pe_callB call_isi5 (by rfl) B.isi boot_isi (pa_cons (pv 1) (pa_cons (pe_bltn (v:=.ty "tuple") (by rfl) B.tuple boot_tuple rfl) pa_nil))))
     (pss_cons (ps_if (PW.pt (pw_or (pt_not (pt_val (pe_callB call_isi5 (by rfl) B.isi boot_isi (pa_cons (pv 0) (pa_cons (pe_bltn (v:=.ty "tuple") (by rfl) B.tuple boot_tuple rfl) pa_nil))))) (pw_or1 (pt_cmpR op_ne (pe_callB call_len_seq (by rfl) B.len PySem.boot_len (pa_cons (pv 0) pa_nil)) (pe_callB call_len_seq (by rfl) B.len PySem.boot_len (pa_cons (pv 1) pa_nil)) (nomark _))))) (pss_one (ps_ret pe_bl)) pss_nil)
     (pss_cons (ps_for PassesOwn.never rfl (pi_zipT (by rfl) hz (pa_cons (pv 0) (pa_cons (pv 1) pa_nil))) (pg_tup rfl (pgs_cons (pg_name (i:=2) sc.nd rfl (Or.inl rfl)) (pgs_cons (pg_name (i:=3) sc.nd rfl (Or.inl rfl)) pgs_nil)))
      (pss_one (ps_if (pt_not (pt_val (pe_call ih hr (by rfl) D.mg D.fn.kp bA .nil pass0 (pa_cons (pv 2) (pa_cons (pv 3) pa_nil))))) (pss_one (ps_ret pe_bl)) pss_nil)))
     (pss_one (ps_ret pe_bl)))) pss_nil)
    (pss_cons (ps_if (pt_val (pe_callB call_isi5 (by rfl) B.isi boot_isi (pa_cons (pv 1) (pa_cons (pe_bltn (v:=.ty "str") (by rfl) B.str boot_str rfl) pa_nil)))) (pss_one (ps_ret (pe_and (pe_callB call_isi5 (by rfl) B.isi boot_isi (pa_cons (pv 0) (pa_cons (pe_bltn (v:=.ty "str") (by rfl) B.str boot_str rfl) pa_nil))) (pe_one (pe_cmpR op_eq (pv 0) (pv 1) (nomark _)))))) pss_nil)
    (pss_one (ps_ret (pe_and (pe_callB call_isi5 (by rfl) B.isi boot_isi (pa_cons (pv 0) (pa_cons (pe_bltn (v:=.ty "int") (by rfl) B.int boot_int rfl) pa_nil))) (pe_and (pe_not (pe_callB call_isi5 (by rfl) B.isi boot_isi (pa_cons (pv 0) (pa_cons (pe_bltn (v:=.ty "bool") (by rfl) B.bool boot_bool rfl) pa_nil)))) (pe_one (pe_cmpR op_eq (pv 0) (pv 1) (nomark _)))))))),?_⟩
   have q0:=q H (Same.refl H)
   generalize e0:n + 1 = m at hl
   cases hl with
   | int=>
    refine ⟨_,rfl,_,_,_,_,rfl,.inl (.int _),kq t7,_,rfl,?_⟩
    refine iteF ?_
    refine ⟨_,rfl,_,_,_,_,rfl,.inl (.int _),kq t10,_,rfl,?_⟩
    refine iteF ?_
    refine ⟨_,rfl,_,_,_,_,rfl,.inl (.int _),kq t5,_,rfl,?_⟩
    refine iteT ?_
    refine ⟨_,rfl,_,_,_,_,rfl,.inl (.int _),kq t2,_,rfl,_,rfl,?_⟩
    refine iteT ?_
    refine ⟨_,rfl,_,rfl,rfl,?_⟩
    rw [decide_eq_true rfl]
    exact q0
   | str=>
    refine ⟨_,rfl,_,_,_,_,rfl,.inl (.str _),kq t9,_,rfl,?_⟩
    refine iteF ?_
    refine ⟨_,rfl,_,_,_,_,rfl,.inl (.str _),kq t8,_,rfl,?_⟩
    refine iteT ?_
    refine ⟨_,rfl,_,_,_,_,rfl,.inl (.str _),kq t8,_,rfl,?_⟩
    refine iteT ?_
    refine ⟨_,rfl,_,rfl,rfl,?_⟩
    rw [decide_eq_true rfl]
    exact q0
   | @tup n' a b xs ys ha hb hlen hi=>
    cases e0
    refine ⟨_,rfl,_,_,_,_,rfl,.inr ⟨_,_,rfl,hb,rfl⟩,kq t12,_,rfl,?_⟩
    refine iteT ?_
    refine ⟨_,rfl,_,_,_,_,rfl,.inr ⟨_,_,rfl,ha,rfl⟩,kq t12,_,rfl,?_⟩
    refine iteF ?_
    refine ⟨_,rfl,_,_,rfl,.inr ((SqT.rd ha)),_,rfl,_,_,rfl,.inr ((SqT.rd hb)),rfl,_,rfl,?_⟩
    refine iteNS (by rw [hlen]) ?_
    refine ⟨_,rfl,_,rfl,a,b,rfl,⟨_,(SqT.rd ha)⟩,⟨_,(SqT.rd hb)⟩,for_zipT (K:=K) (xs:=xs) (ys:=ys) (fun i σ H'=>Same H H'/\∃ (u v:Option V),σ = [some (.ref a),some (.ref b),u,v]) hlen ⟨Same.refl H,_,_,rfl⟩ (fun i σ H' _ p=>⟨SqT.rd (Rd.same p.1 ha),SqT.rd (Rd.same p.1 hb)⟩) ?_ ?_⟩
    ·rintro i x y p σ H' hx hy ⟨s1,u,v,rfl⟩ hp
     refine ⟨p,[x,y],rfl,SqT.of upd_same,rfl,x,[y],rfl,y,[],rfl,rfl,?_⟩
     have s2:=s1.trans (Same.upd (o:=.tup [x,y]) hp)
     refine ⟨_,rfl,_,rfl,x,y,rfl,(hi i x y hx hy).same s2,fun H2 s3=>⟨_,rfl,?_⟩⟩
     refine iteF ?_
     exact ⟨s2.trans s3,_,_,rfl⟩
    ·rintro σ H' ⟨s1,u,v,rfl⟩
     exact q H' s1
end
end My
namespace My
open PySem L2 PyProof.Rows
seal L2.PE L2.PT L2.PW L2.PS L2.PSs L2.PA L2.PI L2.PG L2.PGs L2.OpR L2.UnR L2.CallR L2.IxR L2.SlR L2.MtR L2.PIf L2.PO L2.MtM L2.PC L2.PIp L2.PSet L2.PGet L2.TruR L2.InOp L2.PK
def Sl (d:Addr) (H H':Hp):Prop:=∀ b o,b ≠ d->H b = some o->H' b = some o
theorem Sl.of {d:Addr} {H H':Hp} (s:Same H H'):Sl d H H':=fun b o _ e=>s b o e
theorem Sl.put {d:Addr} {H H1 H2:Hp} {o:HO} (a:Sl d H H1) (s:Same H1 H2):Sl d H (L2.upd H2 d o):=fun b u nb e=>by
 rw [upd_ne nb]
 exact s _ _ (a b u nb e)
def keyOfF:Stmt->Expr
 | .For _ (.BinOp _ _ (.Call _ _ [⟨_,e,_⟩] _) _) _ _ _=>e
 | _=>.Constant .none 0 ⟨0,0,0,0⟩
def liLam:Expr:=keyOfF ((defBody (top 50)).getD 1 (.Pass ⟨0,0,0,0⟩))
def liPos:Pos:=lamPos liLam
def liQ:Str:="_law_form.<locals>.<lambda>"
def spFormL (PL:Addr):Sp:=fun vs H Q _=>∃ (l:Addr) (sz:Int) (es ds:List Addr) (T0:Tb) (R:List Tb),vs = [.int sz,.ref l]/\PartsAt H l es ds (T0 :: R)/\TsOk T0 R/\TabOk PL liPos liQ H ∧
 ∀ (f:Addr) (H':Hp) (R':List Tb),Sb H H'->Fr PL H H'->TabOk PL liPos liQ H'->R'.Perm R->Rise (R'.map (·.name))->FormAt H' f sz (T0 :: R')->Q (.ref f) H'
def lfN:List Str:=["_law_size","_law_parts_here","_law_rows","_law_name","_law_sort","_law_columns_here"]
section
variable {P:Program} {w:World} {K:PySem.W.Frag} {mg:Str->Option Value} {base:Heap}
theorem ok_formL {f c PL:Addr} {fd:FuncData} (F:FunC K "_law_form" "_law_form" (top 50) f fd c) (B:Bl mg) (hC:PySem.W.codeHdIn K c PL = true) (hB:L2.BMain base mg):FnOk P w K mg base CX0 6 f fd ["_law_size","_law_parts_here"] (spFormL PL):=by
 have sc:FnScope lfN ["_law_size","_law_parts_here"] (defScope (top 50)):=⟨rfl,rfl,rfl,by decide +kernel,rfl,by decide +kernel,by decide +kernel⟩
 refine F.ok sc (fun vs H Q E h=>?_) (fun A outer s H vs Q E hr h=>?_)
 ·obtain ⟨l,sz,es,ds,T0,R,rfl,_⟩:=h
  rfl
 ·obtain ⟨l,sz,es,ds,T0,R,rfl,hP,hT,hTab,q⟩:=h
  have hu:(A.deeper (envOfC "_law_form" (defScope (top 50)) s.heap.objs.size f (.ref c))).units + 1 < cLine:=hu_of hr
  refine ⟨_,pss_cons (ps_set (i:=2) sc.nd rfl (Or.inl rfl) (pe_lst pa_nil))
   (pss_cons (ps_for PassesOwn.never rfl (pi_list (pe_op op_cat (pe_slice sl_list (pv 1) po_none (po_some pe_int))
     (pe_sortedK (k:=2) (x:="_law_part") (q:=liQ) (params:=lamArgs liLam) (body:=lamBody liLam) (scope:=lamScope liLam) (pm:=(mg "__name__").getD .none) (tb:=tOp (rIxT K) (tVar 0) (tC (.int 0))) hr (by rfl) B.sorted (pe_slice sl_list (pv 1) (po_some pe_int) po_none) (pe_lam rfl hC hB) ⟨rfl,rfl,rfl,by decide +kernel,rfl,by decide +kernel,by decide +kernel⟩ (fun _ _ _=>rfl) (fun f c' s H=>pe_ix (r:=rIxT K) ix_tup (pv 0) pe_int (fun _ _=>rfl)))))
    (pg_tup rfl (pgs_cons (pg_name (i:=3) sc.nd rfl (Or.inl rfl)) (pgs_cons (pg_name (i:=4) sc.nd rfl (Or.inl rfl)) (pgs_cons (pg_name (i:=5) sc.nd rfl (Or.inr rfl)) pgs_nil))))
    (pss_one (ps_expr (pe_bm PySem.F.plainAttrs_list PySem.F.slot_list_append PySem.F.type_list_append mt_app (pv 2) (pa_cons (pe_tup (pa_cons (pv 3) (pa_cons (pv 4) (pa_cons (pe_callTy call_tupleF (by rfl) B.tuple boot_tuple (pa_cons (pe_comp (osc:=defScope (top 50)) (N0:=lfN) (xs:=["_law_column"]) (fr:=[5]) ⟨rfl,by decide +kernel,by decide +kernel,by decide +kernel,(fun j hj=>by
       have e:j = 5:=by simpa using hj
       subst e
       exact ⟨_,rfl,by decide +kernel⟩),by decide +kernel⟩ rfl rfl rfl (pi_list (pe_callB (call_sortedD rfl) (by rfl) B.sorted boot_sorted (pa_cons (pv 5) pa_nil)))
      (fun s H fp=>pg_name (i:=0) (show (["_law_column","_law_columns_here"]:List Str).Nodup by decide +kernel) rfl (Or.inl rfl)) (fun s H fp=>pif_nil)
      (fun s H fp=>pe_tup (pa_cons (pv 0) (pa_cons (pe_dget hu (pv 1) (pv 0) (fun _ _=>rfl)) pa_nil)))) pa_nil)) pa_nil)))) pa_nil)))))
   (pss_one (ps_ret (pe_tup (pa_cons (pv 0) (pa_cons (pe_callTy call_tuple_of (by rfl) B.tuple boot_tuple (pa_cons (pv 2) pa_nil)) pa_nil)))))),?_⟩
  obtain ⟨Ts,eTs⟩:∃ Ts,Ts = T0 :: R:=⟨_,rfl⟩
  rw [← eTs] at hP
  obtain ⟨r7,ndn,hnm,hhd,hsd⟩:=hT
  rw [← eTs] at ndn
  have tl:Ts.length = R.length + 1:=by rw [eTs];rfl
  have e1l:=hP.2.1
  have e2l:=hP.2.2.1
  refine ⟨Nat.zero_le _,fun d hd=>?_⟩
  have T0':=Same.upd (o:=.lst []) hd
  have hl0:=T0' _ _ hP.1
  refine ⟨_,rfl,_,rfl,l,_,rfl,SqL.of hl0,fun p1 e1=>?_⟩
  rw [cut_to (by decide) (by rw [List.length_map];omega),← List.map_take]
  have he0:0 < es.length:=by omega
  have etk:es.take (1:Int).toNat = [es[0]]:=by
   show es.take 1 = [es[0]]
   cases es with
   | nil=>simp at he0
   | cons a r=>rfl
  rw [etk]
  have T1:=Same.upd (o:=.lst ([es[0]].map V.ref)) e1
  refine ⟨_,rfl,_,rfl,l,_,rfl,SqL.of (T1 _ _ hl0),fun p2 e2=>?_⟩
  rw [cut_from (by decide) (by rw [List.length_map];omega),← List.map_drop]
  have T2:=Same.upd (o:=.lst ((es.drop (1:Int).toNat).map V.ref)) e2
  have S2:=T0'.trans (T1.trans T2)
  refine lam_made (hTab.same S2) fun lf c' H8 sb8 fr8 tab8 hlf hc8=>?_
  have SB8:=S2.sb.trans sb8
  have FR8:Fr PL H H8:=fun b o nb e=>by
   have:=S2 _ _ e
   rw [fr8 b nb (by rw [this];simp)]
   exact this
  have hP8:=hP.sb SB8
  obtain ⟨hl8,_,_,hpt8⟩:=id hP8
  refine ⟨p2,lf,c',_,R.map (·.name),rfl,rfl,hlf,hc8,SqL.of (sb8 _ _ rfl upd_same),?_,?_,?_,(fun i v z h1 h2=>?_),fun l9 ix n9 hix hri=>?_⟩
  ·rw [List.length_map,List.length_map,List.length_drop]
   show R.length = es.length - 1
   omega
  ·rw [eTs,List.map_cons] at ndn
   exact (List.nodup_cons.mp ndn).2
  ·rw [List.length_map,List.length_drop]
   show es.length - 1 < 64
   omega
  ·have h1':(es.drop 1)[i]?.map V.ref = some v:=by rw [← List.getElem?_map];exact h1
   rw [List.getElem?_drop] at h1'
   obtain ⟨e,he,rfl⟩:=Option.map_eq_some_iff.mp h1'
   rw [List.getElem?_map] at h2
   obtain ⟨T,hT',rfl⟩:=Option.map_eq_some_iff.mp h2
   have hil:1 + i < ds.length:=by have:=(List.getElem?_eq_some_iff.mp he).1;omega
   have pt:=hpt8 (1 + i) e ds[1 + i] T he (List.getElem?_eq_getElem hil) (by rw [eTs,Nat.add_comm,List.getElem?_cons_succ];exact hT')
   exact ⟨_,rfl,_,_,0,_,rfl,rfl,SqT.of pt.1,rfl,rfl,rfl⟩
  rw [List.length_map,List.length_drop] at hix
  have hix':ix.Perm (List.range R.length):=by
   have:es.length - (1:Int).toNat = R.length:=by
    show es.length - 1 = R.length
    omega
   rw [this] at hix
   exact hix
  have ixlt:∀ i ∈ ix,i < R.length:=fun i hi=>List.mem_range.mp (hix'.mem_iff.mp hi)
  have elst:(ix.map fun i=>((es.drop (1:Int).toNat).map V.ref).getD i .non) = (ix.map fun i=>(es.drop 1).getD i 0).map V.ref:=by
   rw [List.map_map]
   refine List.map_congr_left fun i hi=>?_
   have hl:i < (es.drop 1).length:=by
    rw [List.length_drop]
    have:=ixlt i hi
    omega
   show (((es.drop 1).map V.ref).getD i .non) = V.ref ((es.drop 1).getD i 0)
   rw [List.getD_eq_getElem?_getD,List.getD_eq_getElem?_getD,List.getElem?_map,List.getElem?_eq_getElem hl]
   rfl
  rw [elst]
  have ixl:ix.length = R.length:=by rw [hix'.length_eq,List.length_range]
  have T9:=Same.upd (o:=.lst ((ix.map fun i=>(es.drop 1).getD i 0).map V.ref)) n9
  refine ⟨p1,l9,_,_,rfl,rfl,T9 _ _ (sb8 _ _ rfl (T2 _ _ upd_same)),upd_same,?_,fun p10 e10=>?_⟩
  ·rw [List.length_map,List.length_map,List.length_map,sizeLine_eq,ixl]
   simp only [List.length_cons,List.length_nil]
   omega
  rw [show ([es[0]].map V.ref ++ (ix.map fun i=>(es.drop 1).getD i 0).map V.ref) = (es[0] :: ix.map fun i=>(es.drop 1).getD i 0).map V.ref from rfl]
  have T10:=Same.upd (o:=.lst ((es[0] :: ix.map fun i=>(es.drop 1).getD i 0).map V.ref)) e10
  have parts:∀ (j:Nat) (e:Addr),(es[0] :: ix.map fun i=>(es.drop 1).getD i 0)[j]? = some e->∃ dd T,(T0 :: ix.map fun i=>R.getD i T0)[j]? = some T/\PartAt H8 e dd T:=fun j e h1=>by
   cases j with
   | zero=>
    cases h1
    exact ⟨ds[0],T0,rfl,hpt8 0 es[0] ds[0] T0 (List.getElem?_eq_getElem he0) (List.getElem?_eq_getElem (by omega)) (by rw [eTs];rfl)⟩
   | succ j=>
    rw [List.getElem?_cons_succ,List.getElem?_map] at h1
    obtain ⟨i,hi,rfl⟩:=Option.map_eq_some_iff.mp h1
    have hl:=ixlt i (List.mem_of_getElem? hi)
    have hl2:i < (es.drop 1).length:=by rw [List.length_drop];omega
    have hl3:1 + i < ds.length:=by omega
    refine ⟨ds[1 + i],R.getD i T0,by rw [List.getElem?_cons_succ,List.getElem?_map,hi];rfl,hpt8 (1 + i) _ _ _ ?_ (List.getElem?_eq_getElem hl3) ?_⟩
    ·show es[1 + i]? = some ((es.drop 1).getD i 0)
     rw [← List.getElem?_drop,List.getD_eq_getElem?_getD,List.getElem?_eq_getElem hl2]
     rfl
    ·show Ts[1 + i]? = some (R.getD i T0)
     rw [eTs,Nat.add_comm,List.getElem?_cons_succ,List.getD_eq_getElem?_getD,List.getElem?_eq_getElem hl]
     rfl
  have hRp:(ix.map fun i=>R.getD i T0).Perm R:=L2.perm_getD T0 R hix'
  have hRr:Rise ((ix.map fun i=>R.getD i T0).map (·.name)):=by
   have:(ix.map fun i=>(R.map (·.name)).getD i ("":Str)) = (ix.map fun i=>R.getD i T0).map (·.name):=by
    rw [List.map_map]
    refine List.map_congr_left fun i hi=>?_
    have hl:=ixlt i hi
    show (R.map (·.name)).getD i ("":Str) = (R.getD i T0).name
    rw [List.getD_eq_getElem?_getD,List.getD_eq_getElem?_getD,List.getElem?_map,List.getElem?_eq_getElem hl]
    rfl
   rw [← this]
   exact hri
  generalize eR':(ix.map fun i=>R.getD i T0) = R' at parts hRp hRr
  have elen:(es[0] :: ix.map fun i=>(es.drop 1).getD i 0).length = (T0 :: R').length:=by rw [List.length_cons,List.length_cons,List.length_map,← eR',List.length_map]
  generalize eE:(es[0] :: ix.map fun i=>(es.drop 1).getD i 0) = E9 at *
  have hd8:H8 d = some (.lst []):=sb8 _ _ rfl ((T1.trans T2) _ _ upd_same)
  have hd10:=(T9.trans T10) _ _ hd8
  have sd:∀ {b:Addr} {o:HO},H b = some o->b ≠ d:=fun {b o} e q=>by rw [q,hd] at e;cases e
  have pd:p10 ≠ d:=fun q=>by have:=T9 _ _ hd8;rw [← q,e10] at this;cases this
  refine ⟨p10,rfl,⟨_,SqL.of upd_same⟩,for_list (K:=K) (a:=p10) (xs:=E9.map V.ref) (fun i σ Hc=>∃ (rs:List Addr) (u3 u4 u5:Option V),σ = [some (.int sz),some (.ref l),some (.ref d),u3,u4,u5]/\Sl d H8 Hc/\Hc p10 = some (.lst (E9.map V.ref))/\Hc d = some (.lst (rs.map V.ref))/\rs.length = i/\∀ (j:Nat) (e:Addr) (T:Tb),rs[j]? = some e->(T0 :: R')[j]? = some T->EntAt Hc e T) ⟨[],_,_,_,rfl,Sl.of (T9.trans T10),upd_same,hd10,rfl,fun j e T h=>nomatch h⟩ (fun i σ Hc _ pp=>by obtain ⟨rs,u3,u4,u5,_,_,h,_⟩:=pp;exact SqL.of h) ?_ ?_⟩
  ·rintro i x σ Hc hx ⟨rs,u3,u4,u5,rfl,sl,hp10,hdc,hrl,hent⟩
   rw [List.getElem?_map] at hx
   obtain ⟨e,he,rfl⟩:=Option.map_eq_some_iff.mp hx
   obtain ⟨dd,T,hT',pt⟩:=parts i e he
   have hiE:i < E9.length:=(List.getElem?_eq_some_iff.mp he).1
   have ne1:e ≠ d:=fun q=>by have:=pt.1;rw [q,hd8] at this;cases this
   have ne2:dd ≠ d:=fun q=>by have:=pt.2.1;rw [q,hd8] at this;cases this
   have pte:Hc e = some (.tup [.str T.name,.str T.sort,.ref dd]):=sl _ _ ne1 pt.1
   have ptd:Hc dd = some (.dK (kvC T.cols)):=sl _ _ ne2 pt.2.1
   refine ⟨e,_,rfl,SqT.of pte,rfl,_,_,rfl,_,_,rfl,_,_,rfl,rfl,?_⟩
   refine ⟨_,rfl,.inl ⟨rfl,_,SqL.of hdc⟩,_,rfl,_,rfl,?_⟩
   have hkm:(kvC T.cols).map (·.1) = (T.cols.map (·.1)).map Sum.inr:=by
    unfold kvC
    rw [List.map_map,List.map_map]
    rfl
   refine ⟨_,rfl,dd,_,_,rfl,.inl ptd,hkm,(by rw [List.length_map];have:=pt.2.2.2.1;omega),fun lz zs hlz hpm hso=>?_⟩
   have T3:=Same.upd (o:=.lst (zs.map V.str)) hlz
   refine ⟨lz,rfl,⟨_,SqL.of upd_same⟩,fun D hD=>?_⟩
   have hD0:Hc D = none:=by
    cases e:Hc D with
    | none=>rfl
    | some o=>rw [T3 _ _ e] at hD;cases hD
   have hlD:lz ≠ D:=fun e=>by rw [← e,upd_same] at hD;cases hD
   have hzl:zs.length ≤ 12:=by
    have:=hpm.length_eq
    rw [List.length_map] at this
    have:=pt.2.2.2.1
    omega
   refine compW_idx zs.length (fun i ys σ' Hk=>(∃ t,σ' = [t,some (.ref dd)])/\Same Hc Hk/\Hk lz = some (.lst (zs.map V.str))/\∃ ps:List Addr,ys = ps.map V.ref/\∀ (j:Nat) (p:Addr) (z:Str),ps[j]? = some p->zs[j]? = some z->Hk p = some (.tup [.str z,vOf T.cols z])) (by rw [sizeLine_eq];omega) ⟨⟨none,rfl⟩,T3.trans (Same.upd hD),(Same.upd hD) _ _ upd_same,[],rfl,fun j p z h=>nomatch h⟩ upd_same ?_ ?_
   ·rintro i σ' Hk ys hi ⟨⟨t,rfl⟩,sm,hlc,ps,rfl,hps⟩ hyl hD'
    rw [List.length_map] at hyl
    refine ⟨⟨_,V.str zs[i],SqL.of hlc,by rw [List.getElem?_map,List.getElem?_eq_getElem hi];rfl⟩,?_⟩
    rintro x H' ⟨rfl,hx'⟩
    have ex:=hx' _ (SqL.of hlc)
    rw [List.getElem?_map,List.getElem?_eq_getElem hi] at ex
    cases ex
    have hzm:zs[i] ∈ T.cols.map (·.1):=hpm.mem_iff.mp (List.getElem_mem hi)
    refine ⟨_,rfl,_,rfl,_,rfl,dd,_,rfl,.inl ⟨_,.inr zs[i],.inl (sm _ _ ptd),rfl,(val_in hzm).symm⟩,(by show 2 ≤ sizeLine;decide),fun p hp=>?_⟩
    have T:=Same.upd (o:=.tup [.str zs[i],vOf T.cols zs[i]]) hp
    have hpD:p ≠ D:=fun e=>by rw [e,hD'] at hp;cases hp
    refine ⟨T _ _ hD',⟨_,rfl⟩,(sm.trans T).put hD0,by rw [upd_ne hlD];exact T _ _ hlc,ps ++ [p],by rw [List.map_append];rfl,fun j p' z' h1 h2=>?_⟩
    by_cases hj:j < ps.length
    ·rw [List.getElem?_append_left hj] at h1
     have hh:=hps j p' z' h1 h2
     have hne:p' ≠ D:=fun e=>by rw [e,hD'] at hh;cases hh
     rw [upd_ne hne]
     exact T _ _ hh
    ·have hj':j = ps.length:=by
      have:=(List.getElem?_eq_some_iff.mp h1).1
      rw [List.length_append] at this
      simp at this
      omega
     subst hj'
     rw [List.getElem?_append_right (Nat.le_refl _),Nat.sub_self] at h1
     cases h1
     rw [hyl,List.getElem?_eq_getElem hi] at h2
     cases h2
     rw [upd_ne hpD]
     exact upd_same
   ·rintro σ' Hk ys ⟨_,sm,hlc,ps,rfl,hps⟩ hDn hyl
    rw [List.length_map] at hyl
    refine ⟨⟨_,SqL.of hlc,by rw [List.length_map];exact Nat.le_refl _⟩,?_⟩
    refine ⟨D,_,rfl,SqL.of hDn,fun t o2 ht ho2=>?_⟩
    have T4:=Same.upd (o:=.frz o2 (.tup (ps.map V.ref))) ht
    refine ⟨(by show 3 ≤ sizeLine;decide),fun r hr=>?_⟩
    have T5:=Same.upd (o:=.tup [.str T.name,.str T.sort,.ref t]) hr
    have S5:=sm.trans (T4.trans T5)
    have hd5:=S5 _ _ hdc
    refine ⟨d,_,_,rfl,rfl,hd5,?_,?_⟩
    ·rw [List.length_map,hrl,sizeLine_eq]
     rw [elen,List.length_cons,← eR',List.length_map,ixl] at hiE
     omega
    have ct:ColsAt (L2.upd (L2.upd Hk t (.frz o2 (.tup (ps.map V.ref)))) r (.tup [.str T.name,.str T.sort,.ref t])) t T.cols:=⟨o2,ps,zs,hpm,hso,ho2,T5 _ _ upd_same,hyl,fun j p z h1 h2=>(T4.trans T5) _ _ (hps j p z h1 h2)⟩
    have nD:=NotTup.lst hd5
    refine ⟨rs ++ [r],_,_,_,rfl,sl.put S5,by rw [upd_ne pd];exact S5 _ _ hp10,by rw [upd_same,List.map_append];rfl,by rw [List.length_append,hrl];rfl,fun j e' T' h1 h2=>?_⟩
    by_cases hj:j < rs.length
    ·rw [List.getElem?_append_left hj] at h1
     exact ((hent j e' T' h1 h2).same S5).beside nD
    ·have hj':j = rs.length:=by
      have:=(List.getElem?_eq_some_iff.mp h1).1
      rw [List.length_append] at this
      simp at this
      omega
     subst hj'
     rw [List.getElem?_append_right (Nat.le_refl _),Nat.sub_self] at h1
     cases h1
     rw [hrl,hT'] at h2
     cases h2
     exact EntAt.beside nD ⟨t,upd_same,ct⟩
  ·rintro σ Hc ⟨rs,u3,u4,u5,rfl,sl,hp10,hdc,hrl,hent⟩
   rw [List.length_map,elen] at hrl
   refine ⟨_,rfl,_,rfl,d,_,rfl,.inl ⟨SqL.of hdc,fun t12 e12=>?_⟩⟩
   have T12:=Same.upd (o:=.tup (rs.map V.ref)) e12
   refine ⟨(by show 2 ≤ sizeLine;decide),fun f13 e13=>?_⟩
   have T13:=Same.upd (o:=.tup [.int sz,.ref t12]) e13
   have S13:=T12.trans T13
   refine q f13 _ R' (fun b o n e=>S13 _ _ (sl _ _ (sd e) (SB8 b o n e))) (fun b o nb e=>S13 _ _ (sl _ _ (sd e) (FR8 b o nb e))) ?_ hRp hRr ⟨t12,rs,upd_same,T13 _ _ upd_same,hrl,fun j e T h1 h2=>(hent j e T h1 h2).same S13⟩
   rcases tab8 with h | ⟨c'',h,h'⟩
   ·exact .inl (S13 _ _ (sl _ _ (fun q=>by rw [q,hd8] at h;cases h) h))
   ·exact .inr ⟨c'',S13 _ _ (sl _ _ (fun q=>by rw [q,hd8] at h;cases h) h),S13 _ _ (sl _ _ (fun q=>by rw [q,hd8] at h';cases h') h')⟩
end
end My
namespace L2
open PySem PySem.Spec PyProof.Rows
theorem note_frame_eq {e:Value} {env env':Env} (h:env.frame = env'.frame):noteFrame e env = noteFrame e env':=by
 unfold noteFrame PySem.frameOf
 rw [h]
def XTb (h:Heap) (x:Addr):Prop:=∃ c od vs sl T,h.get? x = some ⟨c,od,.fields vs,sl⟩/\vs[1]? = some (.ref T)
section
variable {M:Model} {A:Around} {E:Value->Shared->Prop} {s:Shared} {base:Heap} {env:Env} {outer:List Env} {L x:Addr} {P:Addr->Prop} {C:Value} {od:Option Addr}
theorem XAt.tb {h:Heap} {fl:Value} (hx:XAt h P x C od fl) (hf:fl ≠ .none):XTb h x:=by
 obtain ⟨vs,sl,v1,ex,e1,tb⟩:=hx
 rcases tb with ⟨_,z⟩ | ⟨T,oT,ts,rfl,_⟩
 ·exact absurd z hf
 ·exact ⟨_,_,vs,sl,T,ex,e1⟩
theorem flight_any {fl:Value} {fr:List Addr} {f:Option Addr} {Q:Unit->Shared->Prop} (hx:XAt s.heap P x C od fl) (frn:∀ b o,s.heap.get? b = some o->b ∈ fr->∀ vs,o.data ≠ .fields vs)
  (h:∀ h' fl',Nt P fr x s.heap h'->XAt h' P x C od fl'->Q () { s with heap:=h' }):wpAny M A (setFlight (.ref x) f) Q E s:=by
 obtain ⟨vs,sl,v1,ex,e1,tb⟩:=hx
 unfold setFlight
 refine wpAny_bind (wpAny_field ex rfl e1 ?_)
 rcases tb with ⟨rfl,_⟩ | ⟨T,oT,ts,rfl,pT,nT,eT,dT,fT⟩
 ·rw [if_neg (by decide)]
  exact wpAny_pure (h s.heap .none .refl ⟨vs,sl,_,ex,e1,.inl ⟨rfl,rfl⟩⟩)
 ·rw [if_pos (show (Value.ref T != Value.none) = true from by simp)]
  refine wpAny_setField eT dT (Array.getElem?_eq_some_iff.mp fT).1 (h _ (f.elim .none fun f=>rawInt f) ?_ ?_)
  ·refine ⟨⟨[T],fun b hb=>.inr ?_,fun b o e _ hc=>?_⟩,fun b o e hb=>⟨o.slots,?_⟩,fun b o e=>?_⟩
   ·rw [List.mem_singleton.mp hb]
    exact ⟨pT,oT,ts,eT,dT⟩
   ·rw [Heap.get?_update_other _ _ fun z=>hc (by rw [z];exact List.mem_singleton.mpr rfl)]
    exact e
   ·rw [Heap.get?_update_other _ _ fun z=>?_]
    ·exact e
    ·subst z
     rw [eT] at e
     cases e
     exact frn T oT eT hb ts dT
   ·by_cases hb:b = T
    ·rw [hb]
     exact ⟨_,Heap.get?_update_self _ eT (Obj.isFreed_of_fields (Obj.data_mapFields dT _))⟩
    ·exact ⟨o,by rw [Heap.get?_update_other _ _ (Ne.symm hb)];exact e⟩
  ·refine ⟨vs,sl,.ref T,by rw [Heap.get?_update_other _ _ nT];exact ex,e1,.inr ⟨T,_,_,rfl,pT,nT,Heap.get?_update_self _ eT (Obj.isFreed_of_fields (Obj.data_mapFields dT _)),Obj.data_mapFields dT _,?_⟩⟩
   have:=(Array.getElem?_eq_some_iff.mp fT).1
   simp [this]
theorem note_any {fl:Value} {Q:Unit->Shared->Prop} (hfr:A.frames = some (env :: outer)) (hl:s.heap.FunFrames base (env :: outer)) (hf:env.frame = some L)
  (hx:XAt s.heap P x C od fl) (hP:∀ T,s.heap.objs.size ≤ T->P T)
  (h:∀ h' fl',Nt P ((env :: outer).filterMap (·.frame)) x s.heap h'->XAt h' P x C od fl'->XTb h' x->Q () { s with heap:=h' }):wpAny M A (noteFrame (.ref x) env) Q E s:=by
 have hx0:=hx
 obtain ⟨vs,sl,v1,ex,e1,tb⟩:=hx
 have hsz:1 < vs.size:=(Array.getElem?_eq_some_iff.mp e1).1
 have rn:rawInt L ≠ Value.none:=by simp [rawInt]
 rcases tb with ⟨rfl,rfl⟩ | ⟨T,oT,ts,rfl,pT,nT,eT,dT,fT⟩
 ·exact note_ok hfr hl hf hx0 hP fun h' n' x'=>h h' _ n' x' (x'.tb rn)
 ·by_cases hfl:(fl == rawInt L) = true
  ·unfold noteFrame
   simp only [hf]
   refine wpAny_bind (wpAny_field ex rfl e1 ?_)
   rw [if_pos (show (Value.ref T != Value.none) = true from by simp)]
   refine wpAny_bind (wpAny_field eT dT fT ?_)
   rw [if_pos hfl]
   exact wpAny_pure (h s.heap fl .refl hx0 ⟨_,_,vs,sl,T,ex,e1⟩)
  ·unfold noteFrame
   simp only [hf]
   refine wpAny_bind (wpAny_field ex rfl e1 ?_)
   rw [if_pos (show (Value.ref T != Value.none) = true from by simp)]
   refine wpAny_bind (wpAny_field eT dT fT ?_)
   rw [if_neg hfl]
   refine wpAny_bind (wpAny_setField eT dT (Array.getElem?_eq_some_iff.mp fT).1 ?_)
   have oth:∀ b,b ≠ T->(s.heap.update T (Obj.mapFields (·.setIfInBounds 3 Value.none))).get? b = s.heap.get? b:=fun b hb=>Heap.get?_update_other _ _ (Ne.symm hb)
   have nrec:∀ b o,s.heap.get? b = some o->(∀ vs,o.data ≠ .fields vs)->b ≠ T:=fun b o hb hn q=>by
    rw [q,eT] at hb
    cases hb
    exact hn ts dT
   have hl':=hl.of_keeps (h':=s.heap.update T (Obj.mapFields (·.setIfInBounds 3 Value.none))) fun b o hb hn=>⟨o,(oth b (nrec b o hb hn)).trans hb,rfl⟩
   have frn:∀ b o,s.heap.get? b = some o->b ∈ (env :: outer).filterMap (·.frame)->∀ vs,o.data ≠ .fields vs:=fun b o e hb=>by
    obtain ⟨_,o',ho',hn⟩:=hl.mem hb
    rw [e] at ho'
    cases ho'
    exact hn
   have N1:Nt P ((env :: outer).filterMap (·.frame)) x s.heap (s.heap.update T (Obj.mapFields (·.setIfInBounds 3 Value.none))):=by
    refine ⟨⟨[T],fun b hb=>.inr ?_,fun b o e _ hc=>?_⟩,fun b o e hb=>⟨o.slots,?_⟩,fun b o e=>?_⟩
    ·rw [List.mem_singleton.mp hb]
     exact ⟨pT,oT,ts,eT,dT⟩
    ·exact (oth b fun z=>hc (by rw [z];exact List.mem_singleton.mpr rfl)).trans e
    ·exact (oth b (nrec b o e (frn b o e hb))).trans e
    ·by_cases hb:b = T
     ·rw [hb]
      exact ⟨_,Heap.get?_update_self _ eT (Obj.isFreed_of_fields (Obj.data_mapFields dT _))⟩
     ·exact ⟨o,(oth b hb).trans e⟩
   refine entry_ok (s:={ s with heap:=s.heap.update T (Obj.mapFields (·.setIfInBounds 3 Value.none)) }) hfr hl' hf ((oth x (Ne.symm nT)).trans ex) hsz (fun T' hT'=>hP T' (by rw [← Heap.size_after_update s.heap T];exact hT')) fun h' n' x'=>h h' _ (N1.trans n' frn) x' (x'.tb rn)
theorem leave_any {fl:Value} {Q:Unit->Shared->Prop} (hfr:A.frames = some (env :: outer)) (hl:s.heap.FunFrames base (env :: outer)) (hf:env.frame = some L)
  (hx:XAt s.heap P x C od fl) (hP:∀ T,s.heap.objs.size ≤ T->P T)
  (h:∀ h',Nt P ((env :: outer).filterMap (·.frame)) x s.heap h'->XAt h' P x C od .none->Q () { s with heap:=h' }):wpAny M A (leaving env (.ref x)) Q E s:=by
 have frn:∀ b o,s.heap.get? b = some o->b ∈ (env :: outer).filterMap (·.frame)->∀ vs,o.data ≠ .fields vs:=fun b o e hb=>by
  obtain ⟨_,o',ho',hn⟩:=hl.mem hb
  rw [e] at ho'
  cases ho'
  exact hn
 unfold leaving
 refine wpAny_bind (note_any hfr hl hf hx hP fun h1 fl1 n1 x1 _=>?_)
 refine land_ok (s:={ s with heap:=h1 }) (fr:=(env :: outer).filterMap (·.frame)) x1 (fun b o e hb=>?_) fun h2 n2 x2=>h h2 (n1.trans n2 frn) x2
 obtain ⟨_,o',ho',hn⟩:=hl.mem hb
 obtain ⟨sl,e1⟩:=n1.frm b o' ho' hb
 have e':h1.get? b = some o:=e
 rw [e1] at e'
 cases e'
 exact hn
end
def LandsA (X:Cx) (E:XS):Prop:=∀ (pins:List (Addr × Obj)) (σ:St) (H:Hp) (s:Shared) (x:Addr) (C:Value) (od:Option Addr) (fl:Value),Inv X pins σ H s->Our X pins H x->XAt s.heap (Our X pins H) x C od fl->E C od σ H->X.xe (.ref x) s
theorem lands_cxA {P:Program} {w:World} {K:PySem.W.Frag} {mg:Str->Option Value} {base:Heap} {N:List Str} {qual:Str} {scope:Scope} {f:Addr} {cd:Value} {A:Around} {outer:List Env} {s₀:Shared} {H₀:Hp} {E:XK} :
  LandsA (cxOf (CX1 P w) P w K mg base N qual scope f cd A outer s₀ H₀ E) (fun C od _ H=>E C od H):=by
 intro pins σ H s x C od fl I hx xa q
 refine leave_any (base:=base) (Q:=fun _ s''=>CX1 P w outer H₀ s₀ E (.ref x) s'') I.ok.frames I.stack rfl xa (fun T hT=>I.our hT) fun h' n xa'=>?_
 have I':=I.noted hx n
 exact ⟨x,C,od,H,rfl,I'.os,I'.bare,I'.base,I'.hok,hx.new,hx.unt,xa'.imp fun T o=>⟨o.new,o.unt⟩,q⟩
end L2
namespace L2
open PySem PySem.Spec PyProof.Rows
def CompX (X:Cx) (scope:Scope) (N:List Str) (s:Shared) (H:Hp) (fp:List Addr) (EX:XK):Value->Shared->Prop:=fun e s'=>∃ (pl:List (Addr × Obj)) (σ':St) (H':Hp) (x:Addr) (cl:Value) (od:Option Addr),e = .ref x/\Inv (cxComp X scope N s H fp) pl σ' H' s'/\Our (cxComp X scope N s H fp) pl H' x/\XAt s'.heap (Our (cxComp X scope N s H fp) pl H') x cl od .none/\EX cl od H'
abbrev cxCompX (X:Cx) (scope:Scope) (N:List Str) (s:Shared) (H:Hp) (fp:List Addr) (EX:XK):Cx:=(cxComp X scope N s H fp).wish (CompX X scope N s H fp EX)
theorem lands_comp {X:Cx} {scope:Scope} {N:List Str} {s:Shared} {H:Hp} {fp:List Addr} {EX:XK}:Lands (cxCompX X scope N s H fp EX) (fun C od _ H=>EX C od H):=
 fun pins σ H' s' x C od I o xa q=>⟨pins,σ,H',x,C,od,rfl,I.unwish,⟨o.new,o.loc,o.cel,o.pin,o.unt⟩,xa.imp fun T o=>⟨o.new,o.loc,o.cel,o.pin,o.unt⟩,q⟩
section
variable {X:Cx}
theorem comp_blockX {osc scope:Scope} {N0 xs:List Str} {fr:List Nat} {pins:List (Addr × Obj)} {σ:St} {H2:Hp} {s2:Shared} {fp:List Addr} {it:Addr} {tn:Nat->Heap->Prop} {J:It} {elt tg iter:Expr} {ifs:List Expr} {pos:Pos}
  {g:TG} {tt:TT} {te:TE} {E:Value->Shared->Prop} {R:Addr->Hp->Prop} {RR:Value->Addr->Result->Shared->Prop} {EX:XK} {L:Addr} (hst:X.stack = X.env :: X.outer) (hfx:X.env.frame = some L) (C:CompTx osc scope N0 xs fr) (ho:X.env.scope = osc) (hN0:X.N = N0) (hc:X.calm = true)
  (hg:∀ s H fp,PG (cxComp X scope (compN N0 xs fr) s H fp) tg g) (ht:∀ s H fp,PIf (cxComp X scope (compN N0 xs fr) s H fp) ifs tt) (he:∀ s H fp,PE (cxCompX X scope (compN N0 xs fr) s H fp EX) elt te)
  (I2:Inv X pins σ H2 s2) (T:Turn X.prog X.w X.K tg J fp it tn) (st2:tn 0 s2.heap) (f2:∀ b ∈ fp,FpOk X pins H2 b)
  (hR:∀ D,H2 D = none->CompW J g tt te R D (compSt xs fr σ) (upd H2 D (.lst [])))
  (hRR:∀ (D C:Addr) (s':Shared) (H':Hp) (m:Str->Option Value),Inv X pins σ H' s'->s'.heap.Ns C m->FpOk X pins H' C->R D H'->RR (.ref D) C (.ok .next) s')
  (hRX:∀ (D C:Addr) (s':Shared) (H':Hp) (m:Str->Option Value) (x:Addr) (cl:Value) (od:Option Addr) (fl:Value),Inv X pins σ H' s'->s'.heap.Ns C m->FpOk X pins H' C->Our X pins H' x->XAt s'.heap (Our X pins H') x cl od fl->XTb s'.heap x->EX cl od H'->RR (.ref D) C (.error (.ref x)) s') :
  wpAny (model X.prog X.w) X.A (newList []) (fun acc s₃=>wpAny (model X.prog X.w) X.A (newFunctionEnv scope X.env.globals (closL X.env scope.names) [] X.env.qual none .none (some X.env)) (fun cenv s₄=>
   codeAny (model X.prog X.w) X.A (.compStart (.ListComp elt [⟨tg,iter,ifs,0⟩] scope pos) 0 (.ref it) acc { cenv with scope:=relabel scope X.env }) (RR acc cenv.locals) s₄) E s₃) E s2:=by
 refine wpAny_newObj_type (wpAny_newFunctionEnv C.nocell (by intro y hy;simp at hy) (fun h₁ hns₁ hsb₁=>?_) C.kind)
 dsimp only at hns₁ hsb₁ ⊢
 have I3:Inv X pins σ (upd H2 s2.heap.objs.size (.lst [])) { s2 with heap:=s2.heap.push { cls:=.type "list",data:=.seq ([]:List Value).toArray } }:=I2.lnew (its:=[]) (t':=s2.toks) .nil (by simp)
 have flt:∀ b ∈ fp,b < s2.heap.objs.size:=fun b hb=>by
  obtain ⟨o,e,_⟩:=T.obj 0 _ st2 b hb
  exact Heap.lt_size e
 have f3:∀ b ∈ fp,FpOk X pins (upd H2 s2.heap.objs.size (.lst [])) b:=fun b hb=>⟨by rw [upd_ne (Nat.ne_of_lt (flt b hb))];exact (f2 b hb).1,(f2 b hb).2⟩
 have flt3:∀ b ∈ fp,b < (s2.heap.push { cls:=.type "list",data:=.seq ([]:List Value).toArray }).objs.size:=fun b hb=>by
  rw [Heap.size_push]
  exact Nat.lt_succ_of_lt (flt b hb)
 obtain ⟨W,⟨m0,w0⟩,turn⟩:=hR s2.heap.objs.size I2.fresh
 generalize hD:s2.heap.objs.size = D at *
 generalize hs3:s2.heap.push { cls:=.type "list",data:=.seq ([]:List Value).toArray } = h3 at *
 have up2:∀ b o,s2.heap.get? b = some o->h3.get? b = some o:=fun b o e=>by rw [← hs3];exact Heap.get?_push_of_some _ e
 have old:∀ b o,h3.get? b = some o->h₁.get? b = some o:=fun b o e=>hsb₁.extBut b o (Nat.ne_of_lt (Heap.lt_size e)) (Heap.get?_push_of_some _ e)
 have Ic:=comp_start (tk:=s2.toks + ([]:List (Str × Value)).length) C ho hN0 I3 f3 flt3 hns₁ old
 have st4:tn 0 h₁:=T.keep 0 _ _ st2 fun b hb o e=>old b o (up2 b o e)
 have stat:∀ {H':Hp},(∀ b ∈ fp,H' b = none)->∀ b ∈ fp,FpOk (cxComp X scope (compN N0 xs fr) { s2 with heap:=h3 } (upd H2 D (.lst [])) fp) [] H' b:=fun hn b hb=>
  ⟨hn b hb,Nat.ne_of_lt (flt3 b hb),fun z=>by
   rcases List.mem_cons.mp (I3.stkSub b z) with q | q
   ·exact (f3 b hb).2.1 q
   ·exact (f3 b hb).2.2.1 q,.inl hb,fun x c h=>(Ic.ok.exf b hb).2 x c h,fun p hp=>absurd (show p ∈ ([]:List (Addr × Obj)) from hp) (by simp)⟩
 have fin:∀ {σ':St} {H':Hp} {s':Shared},Inv (cxComp X scope (compN N0 xs fr) { s2 with heap:=h3 } (upd H2 D (.lst [])) fp) [] σ' H' s'->R D H'->RR (.ref D) h3.objs.size (.ok .next) s':=fun {σ' H' s'} I' q=>by
  obtain ⟨m,hm,_⟩:=I'.loc
  refine hRR D h3.objs.size s' H' m (I3.call' I'.os I'.base I'.hok I'.bare fun b hb=>?_) hm (I3.fpOk (Nat.le_refl _) I'.free) q
  exact ⟨(f3 b hb).2.2.2.1,(f3 b hb).2.1,(f3 b hb).2.2.2.2.1,(f3 b hb).2.2.2.2.2⟩
 have caught:∀ {e:Value} {s':Shared},CompX X scope (compN N0 xs fr) { s2 with heap:=h3 } (upd H2 D (.lst [])) fp EX e s'->notedBy (model X.prog X.w) X.A (compEnvC scope (closL X.env scope.names) h3.objs.size X.env) (fun e s''=>RR (.ref D) h3.objs.size (.error e) s'') e s':=fun {e s'} z=>by
  obtain ⟨pl,σ',H',x,cl,od,rfl,I',o',xa,q⟩:=z
  show wpAny _ _ (noteFrame (.ref x) _) _ _ _
  rw [note_frame_eq (env:=compEnvC scope (closL X.env scope.names) h3.objs.size X.env) (env':=X.env) rfl]
  have hfr:X.A.frames = some (X.env :: X.outer):=by rw [← hst];exact I2.ok.frames
  have hfl:s'.heap.FunFrames X.base (X.env :: X.outer):=by rw [← hst];exact I'.stack
  refine note_any (base:=X.base) hfr hfl hfx xa (fun T hT=>I'.our hT) fun h' fl' n' xa' tb'=>?_
  have n'':Nt (Our (cxComp X scope (compN N0 xs fr) { s2 with heap:=h3 } (upd H2 D (.lst [])) fp) pl H') (frs X.stack) x s'.heap h':=by rw [hst];exact n'
  have I'':=I'.noted o' n''
  obtain ⟨m,hm,_⟩:=I''.loc
  have IX:Inv X pins σ H' { s' with heap:=h' }:=I3.call' I''.os I''.base I''.hok I''.bare fun b hb=>⟨(f3 b hb).2.2.2.1,(f3 b hb).2.1,(f3 b hb).2.2.2.2.1,(f3 b hb).2.2.2.2.2⟩
  have up:∀ T,Our (cxComp X scope (compN N0 xs fr) { s2 with heap:=h3 } (upd H2 D (.lst [])) fp) pl H' T->Our X pins H' T:=fun T o=>I3.our' o.new o.unt
  exact hRX D h3.objs.size _ H' m x cl od fl' IX hm (I3.fpOk (Nat.le_refl _) I''.free) (up x o') (xa'.imp up) tb' q
 have loop:codeAny (model X.prog X.w) X.A (.compLoop (.ListComp elt [⟨tg,iter,ifs,0⟩] scope pos) 0 (.ref it) (.ref D) (compEnvC scope (closL X.env scope.names) h3.objs.size X.env)) (RR (.ref D) h3.objs.size) { s2 with heap:=h₁,toks:=s2.toks + ([]:List (Str × Value)).length }:=by
  refine codeAny_loop rfl (fun n s'=>∃ i σ' H',Inv (cxComp X scope (compN N0 xs fr) { s2 with heap:=h3 } (upd H2 D (.lst [])) fp) [] σ' H' s'/\tn i s'.heap/\(∀ b ∈ fp,H' b = none)/\W i n σ' H') (fun n s' hI=>?_) m0 ⟨0,_,_,Ic,st4,fun b hb=>(f3 b hb).1,w0⟩
  show wpAny _ X.A ((compTurn (.ListComp elt [⟨tg,iter,ifs,0⟩] scope pos) 0 (.ref it) (.ref D) (compEnvC scope (closL X.env scope.names) h3.objs.size X.env)).onRaise (fun x=>do noteFrame x (compEnvC scope (closL X.env scope.names) h3.objs.size X.env);theTreesLotGoes x)) _ _ s'
  refine wpAny_noted ?_
  rw [compTurn_list]
  obtain ⟨i,σ',H',I',st',fr',w'⟩:=hI
  refine wpAny_bind (wpAny_standAt (wpAny_bind ?_))
  rcases turn i n σ' H' w' with ⟨stop,q⟩ | ⟨go,N,M,hN,hM,step⟩
  ·refine thn (T.done (cxComp X scope (compN N0 xs fr) { s2 with heap:=h3 } (upd H2 D (.lst [])) fp) rfl rfl rfl hc i [] s' σ' H' _ I' (stat fr') st' stop) fun r s4 ⟨hr,I4⟩=>?_
   subst hr
   exact wpAny_pure (fin I4 q)
  ·refine thn (T.item (cxComp X scope (compN N0 xs fr) { s2 with heap:=h3 } (upd H2 D (.lst [])) fp) rfl rfl rfl hc i [] s' σ' H' _ I' (stat fr') st' go) fun r s4 ⟨u,hr,h4⟩=>?_
   subst hr
   refine wpAny_bind (thn h4 fun _ s5 ⟨x,H5,I5,r5,y5,st5,fr5⟩=>?_)
   have I5':=I5.pinned (stat fr5) (T.obj _ _ st5)
   have again:∀ {σ7:St} {H7:Hp} {s7:Shared},Inv (cxComp X scope (compN N0 xs fr) { s2 with heap:=h3 } (upd H2 D (.lst [])) fp) ([] ++ pinsAt fp s5.heap) σ7 H7 s7->(∃ m',m' < n/\W (i + 1) m' σ7 H7) →
     ∃ m,m < n/\∃ i σ' H',Inv (cxComp X scope (compN N0 xs fr) { s2 with heap:=h3 } (upd H2 D (.lst [])) fp) [] σ' H' s7/\tn i s7.heap/\(∀ b ∈ fp,H' b = none)/\W i m σ' H':=fun {σ7 H7 s7} I7 n7=>by
    obtain ⟨m',hm,w7⟩:=n7
    refine ⟨m',hm,i + 1,σ7,H7,I7.unpinned,T.keep _ _ _ st5 fun b hb o e=>(I7.pin (b,o) (List.mem_append_right _ (List.mem_append_right _ (mem_pinsAt hb e)))).1,fun b hb=>?_,w7⟩
    obtain ⟨o,e,d⟩:=T.obj _ _ st5 b hb
    exact (I7.pin (b,o) (List.mem_append_right _ (List.mem_append_right _ (mem_pinsAt hb e)))).2.1
   refine wpAny_bind (wpAny_mono (hg _ _ _ _ s5 σ' H5 x u _ I5' r5 (step x H5 y5)) (fun _ s6 ⟨σ6,H6,I6,q6⟩=>?_) fun _ _ z=>False.elim z)
   refine wpAny_bind (wpAny_mono (ht _ _ _ _ s6 σ6 H6 _ I6 q6) (fun ok s7 ⟨H7,I7,q7⟩=>?_) fun _ _ z=>False.elim z)
   cases ok with
   | false=>
    rw [if_neg Bool.false_ne_true] at q7
    exact wpAny_pure ⟨rfl,again I7 (hM _ _ q7)⟩
   | true=>
    rw [if_pos rfl] at q7
    refine wpAny_bind (wpAny_bind (wpAny_mono (he _ _ _ _ s7 σ6 H7 _ (I7.wish _) q7) (fun y s8 ⟨v,H8,I8',r8,q8⟩=>?_) fun _ _ z=>caught z))
    have I8:=I8'.unwish
    obtain ⟨ys,eD,hz,q8⟩:=hN _ _ _ q8
    refine wpAny_bind (wpAny_mono (mt_append (X:=cxComp X scope (compN N0 xs fr) { s2 with heap:=h3 } (upd H2 D (.lst [])) fp) _ s8 σ6 H8 (.ref D) [v] (.ref D) [y] (fun _ H9=>∃ m',m' < n/\W (i + 1) m' σ6 H9) I8 rfl (.cons r8 .nil) ⟨D,ys,v,rfl,rfl,eD,hz,q8⟩) (fun _ s9 ⟨_,H9,I9,_,q9⟩=>?_) fun _ _ z=>False.elim z)
    exact wpAny_pure (wpAny_pure ⟨rfl,again I9 q9⟩)
 exact codeAny_compStart_list loop (T.self X.A 0 _ _ _ st4 loop)
variable {osc scope:Scope} {N0 xs:List Str} {fr:List Nat} {elt tg iter:Expr} {ifs:List Expr} {pos:Pos} {wi:TI} {g:TG} {tt:TT} {te:TE}
end
end L2
namespace L2
open PySem PySem.Spec PyProof.Rows
def Aside (K:PySem.W.Frag) (C D:Addr):Prop:=XCl K C/\PySem.W.mroIn K C (.ref D) = some false
theorem Aside.hasNo {K:PySem.W.Frag} {C D:Addr} (u:Aside K C D) {nm q:Str} {N:Addr} {bs bm:List Value} {sn:List Str} {sub:List Value} {ab:Bool} {col:Option Bool} {dd:Option Addr} {k0 k1 k2 k3 k5:Option Value}
  (lk:K.lookup C = some (excClassObj nm q C N bs bm true sn sub ab col dd k0 k1 k2 k3 k5 "ValueError.__new__")):(Value.ref C :: bm).contains (.ref D) = false:=by
 have e:PySem.W.clsIn K C = some ⟨nm,bs,.ref C :: bm,N,q,true,sn,sub,ab,col,false⟩:=by
  unfold PySem.W.clsIn
  rw [lk]
 have h:=u.2
 unfold PySem.W.mroIn at h
 rw [e,Option.bind_some] at h
 exact Option.some.inj h
section
variable {X:Cx} {body:List Stmt} {cx cy n:Str} {b₀ b₁:Stmt} {suite suite':List Stmt} {np hp np' hp' pos:Pos} {CN CM Cx:Addr} {i:Nat} {tb:Ends->TS} {tc td:Addr->Addr->TS} {ts:Addr->TS} {pins:List (Addr × Obj)} {σ1:St} {H1:Hp} {s:Shared} {x:Addr} {od:Option Addr} {D:Ends} {rest:List ExceptHandler}
theorem fr_no (I:Inv X pins σ1 H1 s):∀ b o,s.heap.get? b = some o->b ∈ frs X.stack->∀ vs,o.data ≠ .fields vs:=fun b o e hb=>by
 obtain ⟨_,o',ho',hn⟩:=I.stack.mem hb
 rw [e] at ho'
 cases ho'
 exact hn
theorem handle_hit (I3:Inv X pins σ1 H1 s) (hx:Our X pins H1 x) (xa2:XAt s.heap (Our X pins H1) x (.ref Cx) od .none) (hN:X.N.Nodup) (hi:X.N[i]? = some n) (hk:X.env.scope.names.lookup n = some .local) (hg:Gl X cx) (hm:X.mg cx = some (.ref CN)) (c:XCl X.K CN) (un:Under X.K Cx CN)
  (hs:∀ x C,PSs (X.caught x) (b₀ :: suite) (tc x C)) (q:tc x Cx (offName i D) (σ1.set i (some (.ref x))) (upd H1 x (.ext (gotP x Cx od)))) (hdb:(cx == ("__debug__":Str)) = false:=by decide) :
  wpAny (model X.prog X.w) X.A (handleBy (.ref x) X.env (.ExceptHandler (some (.Name cx np)) (some n) (b₀ :: suite) hp :: rest)) (SP X pins D) X.xe s:=by
 obtain ⟨hh0,g0,d0,t0,o0⟩:=s
 obtain ⟨nm,qn,N,bs,bm,sn,sub,ab,col,dd,k0,k1,k2,k3,k5,lk,tv⟩:=c.at_
 obtain ⟨nm',qn',N',bs',bm',sn',sub',ab',col',dd',j0,j1,j2,j3,j5,lk',tv'⟩:=un.1.at_
 refine wpAny_handleBy_cons (codeAny_handlers_test ?_) (by intro q;cases q)
 refine ld_glob (X:=X.caught x) I3.caught hg hm ?_ hdb
 obtain ⟨vs,sl,v1,ex,ev1,tb2⟩:=id xa2
 refine xmatch (I3.kIn _ _ lk') (I3.kIn _ _ lk) tv ex rfl (un.has lk') ?_
 refine codeAny_handlers_suite_as ?_
 refine land_ok (s:=⟨hh0,g0,d0,t0,o0⟩) (fr:=frs X.stack) xa2 (fr_no I3) fun h3 n3 xa3=>?_
 have I4:=I3.noted hx n3
 obtain ⟨vs3,sl3,v3,ex3,_,_⟩:=id xa3
 have I5:Inv X pins σ1 (upd H1 x (.ext (gotP x Cx od))) ⟨h3,g0,d0,t0,o0⟩:=I4.track hx (gotP_ok ex3)
 refine store_ok (X:=X.caught x) I5.caught hN hi (.inl hk) (show RelV (.ref x) (.ref x) from rfl) (fun s6 I6=>?_) (.inr hk)
 refine wpAny_mono (hs x Cx pins s6 _ _ (offName i D) I6 q) (fun f s7 hf=>?_) fun _ _ z=>False.elim z
 have fin:∀ {σ':St} {H':Hp} {Q:Unit->Shared->Prop},Inv (X.caught x) pins σ' H' s7->(∀ s',Inv X pins (σ'.set i none) H' s'->Q () s')->wpAny (model X.prog X.w) X.A (do bindName X.env n .none;unbindBehindTheSuite X.env n hp) Q X.xe s7:=fun {σ' H' Q} J kq=>by
  have J':Inv X pins σ' H' s7:=J.uncaught I3.ok
  obtain ⟨m,hmn,hml⟩:=id J'.loc
  exact wpAny_nameGoes_keeps hk hmn (by rw [I3.ok.kind];rfl) fun h' v hn' sb=>kq _ (J'.unname hN hi hn' hml sb)
 cases f with
 | next=>obtain ⟨σ',H',J,z⟩:=hf;exact fin J fun s' J'=>⟨_,H',J',z⟩
 | brk=>obtain ⟨σ',H',J,z⟩:=hf;exact fin J fun s' J'=>⟨_,H',J',z⟩
 | cont=>obtain ⟨σ',H',J,z⟩:=hf;exact fin J fun s' J'=>⟨_,H',J',z⟩
 | ret u=>obtain ⟨v,σ',H',J,r,z⟩:=hf;exact fin J fun s' J'=>⟨v,_,H',J',r,z⟩
theorem handle_miss {on:Option Str} (I3:Inv X pins σ1 H1 s) (xa2:XAt s.heap (Our X pins H1) x (.ref Cx) od .none) (hg:Gl X cx) (hm:X.mg cx = some (.ref CN)) (c:XCl X.K CN) (un:Aside X.K Cx CN)
  (q:wpAny (model X.prog X.w) X.A (handleBy (.ref x) X.env rest) (SP X pins D) X.xe s) (hdb:(cx == ("__debug__":Str)) = false:=by decide) :
  wpAny (model X.prog X.w) X.A (handleBy (.ref x) X.env (.ExceptHandler (some (.Name cx np)) on (b₀ :: suite) hp :: rest)) (SP X pins D) X.xe s:=by
 obtain ⟨hh0,g0,d0,t0,o0⟩:=s
 obtain ⟨nm,qn,N,bs,bm,sn,sub,ab,col,dd,k0,k1,k2,k3,k5,lk,tv⟩:=c.at_
 obtain ⟨nm',qn',N',bs',bm',sn',sub',ab',col',dd',j0,j1,j2,j3,j5,lk',tv'⟩:=un.1.at_
 refine wpAny_handleBy_cons (codeAny_handlers_test ?_) (by intro q;cases q)
 refine ld_glob (X:=X.caught x) I3.caught hg hm ?_ hdb
 obtain ⟨vs,sl,v1,ex,ev1,tb2⟩:=id xa2
 refine xmatch (I3.kIn _ _ lk') (I3.kIn _ _ lk) tv ex rfl (un.hasNo lk') ?_
 exact q
def EXuu (K:PySem.W.Frag) (CN CM:Addr) (i:Nat) (tc td:Addr->Addr->TS) (D:Ends):XS:=fun C od σ H=>∃ Cx,C = .ref Cx ∧
 ((Under K Cx CN/\∀ x,H x = none->tc x Cx (offName i D) (σ.set i (some (.ref x))) (upd H x (.ext (gotP x Cx od))))\/(Aside K Cx CN/\Under K Cx CM/\∀ x,H x = none->td x Cx (offName i D) (σ.set i (some (.ref x))) (upd H x (.ext (gotP x Cx od)))))
theorem try_land (hst:X.stack = X.env :: X.outer) (hfr:X.env.frame = some X.env.locals) {hds:List ExceptHandler} {EX:XS} {σ:St} {H:Hp} (I:Inv X pins σ H s) {pn:List (Addr × Obj)} (hpn:pn = X.pn ++ pins)
  (hh:∀ (σ1:St) (H1:Hp) (s1:Shared) (x:Addr) (C:Value) (od:Option Addr),Inv X pins σ1 H1 s1->Our X pins H1 x->XAt s1.heap (Our X pins H1) x C od .none->EX C od σ1 H1->wpAny (model X.prog X.w) X.A (handleBy (.ref x) X.env hds) (SP X pins D) X.xe s1) :
  Lands (X.within pn (fun e s₁=>wpAny (model X.prog X.w) X.A (noteFrame e X.env) (fun _ s₂=>wpAny (model X.prog X.w) X.A (setFlight e none) (fun _ s₃=>wpAny (model X.prog X.w) X.A (handleBy e X.env hds) (SP X pins D) X.xe s₃) X.xe s₂) X.xe s₁)) EX:=by
 subst hpn
 intro pins' σ1 H1 s1 x C od I1' hx' xa' q
 have I1:Inv X pins σ1 H1 s1:=I1'.out I.ok
 have hx:Our X pins H1 x:=hx'.out
 have xa:XAt s1.heap (Our X pins H1) x C od .none:=xa'.imp fun _ o=>o.out
 have hfl:X.A.frames = some (X.env :: X.outer):=by rw [I.ok.frames,hst]
 refine note_ok (base:=X.base) hfl (by rw [← hst];exact I1.stack) hfr xa (fun T hT=>I1.our hT) fun h1 n1 xa1=>?_
 have I2:=I1.noted hx (by rw [hst];exact n1)
 refine land_ok (s:={ s1 with heap:=h1 }) (fr:=frs X.stack) xa1 (fr_no I2) fun h2 n2 xa2=>?_
 exact hh σ1 H1 { s1 with heap:=h2 } x C od (I2.noted hx n2) hx xa2 q
theorem ps_tryUU (hst:X.stack = X.env :: X.outer) (hfr:X.env.frame = some X.env.locals) (hN:X.N.Nodup) (hi:X.N[i]? = some n) (hk:X.env.scope.names.lookup n = some .local) (hg:Gl X cx) (hm:X.mg cx = some (.ref CN)) (c:XCl X.K CN) (hg':Gl X cy) (hm':X.mg cy = some (.ref CM)) (c':XCl X.K CM)
  (hb:∀ D pn XE,Lands (X.within pn XE) (EXuu X.K CN CM i tc td D)->PSs (X.within pn XE) body (tb D)) (hs:∀ x C,PSs (X.caught x) (b₀ :: suite) (tc x C)) (hs':∀ x C,PSs (X.caught x) (b₁ :: suite') (td x C)) (hdb:(cx == ("__debug__":Str)) = false:=by decide) (hdb':(cy == ("__debug__":Str)) = false:=by decide) :
  PS X (.Try body [.ExceptHandler (some (.Name cx np)) (some n) (b₀ :: suite) hp,.ExceptHandler (some (.Name cy np')) (some n) (b₁ :: suite') hp'] [] [] pos) (tTry tb):=by
 intro pins s σ H D I h
 refine wpAny_Try_except ?_
 refine wpAny_mono (hb D (X.pn ++ pins) _ (try_land hst hfr (hds:=[.ExceptHandler (some (.Name cx np)) (some n) (b₀ :: suite) hp,.ExceptHandler (some (.Name cy np')) (some n) (b₁ :: suite') hp']) I rfl ?_) [] s σ H D I.within h) (fun f s₁ hf=>?_) fun e s₁ z=>z
 ·rintro σ1 H1 s1 x C od I1 hx xa ⟨Cx,rfl,⟨un,q⟩ | ⟨as,un,q⟩⟩
  ·exact handle_hit I1 hx xa hN hi hk hg hm c un hs (q x hx.unt) hdb
  ·exact handle_miss I1 xa hg hm c as (handle_hit I1 hx xa hN hi hk hg' hm' c' un hs' (q x hx.unt) hdb') hdb
 ·have hf':=hf.out I.ok
  cases f with
  | next=>exact wpAny_pure hf'
  | brk=>exact hf'
  | cont=>exact hf'
  | ret u=>exact hf'
theorem ps_tryU1 {on:Option Str} (hst:X.stack = X.env :: X.outer) (hfr:X.env.frame = some X.env.locals) (hN:X.N.Nodup) (hi:X.N[i]? = some n) (hk:X.env.scope.names.lookup n = some .local) (hg:Gl X cx) (hm:X.mg cx = some (.ref CN)) (c:XCl X.K CN)
  (hb:∀ D pn XE,Lands (X.within pn XE) (EXu X.K CN i tc D)->PSs (X.within pn XE) body (tb D)) (hs:∀ x C,PSs (X.caught x) (b₀ :: suite) (tc x C)) (hdb:(cx == ("__debug__":Str)) = false:=by decide) :
  PS X (.Try body (.ExceptHandler (some (.Name cx np)) (some n) (b₀ :: suite) hp :: rest) [] [] pos) (tTry tb):=by
 intro pins s σ H D I h
 refine wpAny_Try_except ?_
 refine wpAny_mono (hb D (X.pn ++ pins) _ (try_land hst hfr (hds:=.ExceptHandler (some (.Name cx np)) (some n) (b₀ :: suite) hp :: rest) I rfl ?_) [] s σ H D I.within h) (fun f s₁ hf=>?_) fun e s₁ z=>z
 ·rintro σ1 H1 s1 x C od I1 hx xa ⟨Cx,rfl,un,q⟩
  exact handle_hit I1 hx xa hN hi hk hg hm c un hs (q x hx.unt) hdb
 ·have hf':=hf.out I.ok
  cases f with
  | next=>exact wpAny_pure hf'
  | brk=>exact hf'
  | cont=>exact hf'
  | ret u=>exact hf'
end
end L2
namespace L2
open PySem PySem.Spec PyProof.Rows PySem.Builtin PySem.Builtin.Dict
section
variable {X:Cx}
theorem op_neTs (hu:X.A.units < cLine):OpR X (compareOp .NotEq) (fun x y H Q=>∃ (p b:Addr) (zs ys:List Str),x = .ref p/\y = .ref b/\SqL X.K H p (zs.map V.str)/\SqL X.K H b (ys.map V.str)/\Q (.bl (!decide (zs = ys))) H):=by
 intro pins s σ H x y v u Q I rx ry h
 obtain ⟨p,b,zs,ys,rfl,rfl,hp,hb,q⟩:=h
 cases rx
 cases ry
 obtain ⟨its,r1,pl,_⟩:=I.list hp
 obtain ⟨jts,r2,ql,_⟩:=I.list hb
 have h1:=strs_of r1
 have h2:=strs_of r2
 by_cases hl:its.length = jts.length
 ·have hh:=SeqAt.RcNeAt.lists (A:=X.A) (s:=s) (e:=fun j=>(zs[j]? == ys[j]?)) pl.isList ql.isList (by simpa using hl) hu (fun j g1 g2=>by
   have g1':j < its.length:=by simpa using g1
   have g2':j < jts.length:=by simpa using g2
   obtain ⟨a,ta,e1,k1⟩:=strs_get h1 g1'
   obtain ⟨c,tc,e2,k2⟩:=strs_get h2 g2'
   have w1:its.toArray[j] = .str a ta:=by simpa using e1
   have w2:jts.toArray[j] = .str c tc:=by simpa using e2
   rw [w1,w2,k1,k2]
   have e:((some a == some c):Bool) = (a == c):=by rw [Bool.eq_iff_iff];simp
   rw [e]
   exact SeqAt.EqAt.str_str a ta c tc)
  refine hh X.prog X.w X.xe _ ?_
  rw [List.size_toArray,strs_eq h1 h2 hl]
  exact ⟨.bl _,H,I,rfl,q⟩
 ·have hh:=SeqAt.RcNeAt.lists_lengths (A:=X.A) (s:=s) pl.isList ql.isList (by simpa using hl) hu
  refine hh X.prog X.w X.xe _ ⟨.bl (!decide (zs = ys)),H,I,?_,q⟩
  have:zs ≠ ys:=fun e=>hl (by rw [show its.length = zs.length from h1.length,show jts.length = ys.length from h2.length,e])
  rw [decide_eq_false this]
  rfl
end
theorem dict_ne_tree (a b:Value):Builtin.«dict.__ne__» ⟨[a,b],[]⟩ = (do
  let (self,other) ← dictSlotArgs "__ne__" ⟨[a,b],[]⟩
  if !(← isInstance other (.type "dict")) then rule s!"dict.{("__ne__" : String)}.not-a-dict";return ← ret .notImplemented
  ret (.bool ((← Dict.samePairs s!"dict.{("__ne__" : String)}" (← addrOf self) (← addrOf other)) == false))):=rfl
section
variable {A:Around} {s:Shared} {P:Program} {w:World}
theorem rcNe_dicts {a b:Addr} {kvs kws:List (Key × Value)} (da:s.heap.DictOf (mixKind P w) a kvs) (db:s.heap.DictOf (mixKind P w) b kws) (na:(a == sysModules) = false) (nb:(b == sysModules) = false) (hl:kvs.length = kws.length) (tx:∀ (k:Key) (v:Value),(k,v) ∈ kws->∃ x,k = .inr x)
  (he:∀ (k:Key) (v:Value),(k,v) ∈ kvs->∃ v',(k,v') ∈ kws/\SeqAt.EqAt A.in1 s v v' true) (hu:A.units < cLine):SeqAt.RcNeAt A s (.ref a) (.ref b) false:=fun prog w' E Q hq=>by
 obtain ⟨oa,es,ep,ha,xa,dda,ka,pa,nda⟩:=da
 obtain ⟨ob,fs,fp,hb,xb,ddb,kb,pb,ndb⟩:=db
 have Ta:s.TypeIs (.ref a) "dict":=⟨oa,ha,xa.1⟩
 have Tb:s.TypeIs (.ref b) "dict":=⟨ob,hb,xb.1⟩
 have la:es.size = kvs.length:=by have:=pairs_len pa;simpa using this
 have lb:fs.size = kws.length:=by have:=pairs_len pb;simpa using this
 have kb':∀ e ∈ fs,∃ z t,e.key = Value.str z t:=fun e he'=>by
  obtain ⟨m,hm,rfl⟩:=Array.mem_iff_getElem.mp he'
  obtain ⟨⟨k,v⟩,hk⟩:∃ kv,kws[m]? = some kv:=⟨_,List.getElem?_eq_getElem (by omega)⟩
  obtain ⟨g1,_⟩:=pb.get? (i:=m) (e:=fs[m]) (by simp [hm]) hk
  obtain ⟨x,rfl⟩:=tx k v (List.mem_of_getElem? hk)
  rcases keyIs_shape (k:=.inr x) (v:=fs[m].key) g1 with ⟨i,t,q,_⟩ | ⟨z,t,q,q2⟩
  ·cases q
  ·exact ⟨z,t,q2⟩
 refine wpAny_richCompare_same_room Ta Tb F.slot_dict_ne (wpAny_call_entry F.slot_dict_ne Ta F.entry_dict_ne ?_ (F.args_dict_ne_2 _ _)) hu
 rw [dict_ne_tree]
 refine wpAny_bind ?_
 show wpAny _ _ (pure (Value.ref a,Value.ref b)) _ _ _
 refine wpAny_pure ?_
 dsimp only
 refine wpAny_bind (wpAny_isInstance (T:="dict") (b:=true) Tb sub_dict_dict ?_)
 simp only [Bool.not_true,Bool.false_eq_true,if_false]
 refine wpAny_bind (wpAny_pure (wpAny_bind (wpAny_pure (wpAny_bind (same_pairs ha dda hb ddb na nb (by omega) (fun i e ei=>?_) ?_)))))
 ·have hi:i < es.size:=(Array.getElem?_eq_some_iff.mp ei).1
  obtain ⟨⟨k,v⟩,hk⟩:∃ kv,kvs[i]? = some kv:=⟨_,List.getElem?_eq_getElem (by omega)⟩
  obtain ⟨g1,g2⟩:=pa.get? (i:=i) (e:=e) (by simpa using ei) hk
  obtain ⟨k2,g3,g4⟩:=ka e (Array.mem_of_getElem? ei)
  have ek:k2 = k:=(mixKind P w).inj _ _ _ g3 g1
  subst ek
  obtain ⟨v',hv',eq⟩:=he k2 v (List.mem_of_getElem? hk)
  obtain ⟨x,rfl⟩:=tx k2 v' hv'
  obtain ⟨t0,ek0⟩:∃ t,e.key = Value.str x t:=by
   rcases keyIs_shape (k:=.inr x) (v:=e.key) g1 with ⟨i,t,q,_⟩ | ⟨z,t,q,q2⟩
   ·cases q
   ·cases q
    exact ⟨t,q2⟩
  obtain ⟨m,hm⟩:=List.getElem?_of_mem hv'
  have hm':m < fs.size:=by have:=(List.getElem?_eq_some_iff.mp hm).1;omega
  have em:fs.toList[m]? = some fs[m]:=by simp [hm']
  obtain ⟨q1,q2⟩:=pb.get? em hm
  obtain ⟨j,hj⟩:∃ j,fs.findIdx? (fun e=>e.key.isStr x) = some j:=by
   cases z:fs.findIdx? (fun e=>e.key.isStr x) with
   | some j=>exact ⟨j,rfl⟩
   | none=>
    have:=Array.findIdx?_eq_none_iff.mp z fs[m] (Array.getElem_mem hm')
    have q1':fs[m].key.isStr x = true:=by
     rcases keyIs_shape (k:=.inr x) (v:=fs[m].key) q1 with ⟨i,t,q,_⟩ | ⟨z,t,q,q2⟩
     ·cases q
     ·cases q
      rw [q2]
      exact beq_self_eq_true x
    rw [q1'] at this
    cases this
  obtain ⟨hjs,hjt,_⟩:=Array.findIdx?_eq_some_iff_getElem.mp hj
  obtain ⟨⟨k3,v3⟩,hk3⟩:∃ kv,kws[j]? = some kv:=⟨_,List.getElem?_eq_getElem (by omega)⟩
  obtain ⟨r1,r2⟩:=pb.get? (i:=j) (e:=fs[j]) (by simp [hjs]) hk3
  have hjk:(mixKind P w).is (.inr x) fs[j].key = true:=by
   obtain ⟨z,t,q⟩:=kb' fs[j] (Array.getElem_mem hjs)
   rw [q] at hjt ⊢
   have zx:z = x:=eq_of_beq hjt
   rw [zx]
   rw [(mixKind P w).strs (.inr x) x t0 _ (by rw [← ek0];exact g1)]
   exact beq_self_eq_true x
  have e3:k3 = .inr x:=(mixKind P w).inj _ _ _ r1 hjk
  subst e3
  have jm:j = m:=by
   have hj1:(kws.map (·.1))[j]? = some (Sum.inr x):=by rw [List.getElem?_map,hk3];rfl
   have hm1:(kws.map (·.1))[m]? = some (Sum.inr x):=by rw [List.getElem?_map,hm];rfl
   obtain ⟨x1,y1⟩:=List.getElem?_eq_some_iff.mp hj1
   obtain ⟨x2,y2⟩:=List.getElem?_eq_some_iff.mp hm1
   rcases Nat.lt_trichotomy j m with z | z | z
   ·exact absurd (y1.trans y2.symm) (List.pairwise_iff_getElem.mp ndb j m x1 x2 z)
   ·exact z
   ·exact absurd (y2.trans y1.symm) (List.pairwise_iff_getElem.mp ndb m j x2 x1 z)
  subst jm
  rw [hm] at hk3
  cases hk3
  refine ⟨j,fs[j],by simp [hjs],fun R hR=>?_,fun R hR=>?_⟩
  ·rw [ek0]
   exact find_str hb ddb kb' hj hR
  ·rw [g2,r2]
   exact eq prog w' E R hR
 ·exact wpAny_pure ⟨_,rfl,(fun z=>nomatch z),hq⟩
end
section
variable {X:Cx}
theorem op_neDD:OpR X (compareOp .NotEq) (fun x y H Q=>∃ (n:Nat) (a b:Addr) (kvs kws:List (Key × V)),x = .ref a/\y = .ref b/\Rd H a (.dK kvs)/\Rd H b (.dK kws)/\kvs.length = kws.length/\(∀ (k:Key) (v:V),(k,v) ∈ kws->∃ z,k = .inr z)/\(∀ (k:Key) (v:V),(k,v) ∈ kvs->∃ v',(k,v') ∈ kws/\Dq H n v v')/\X.A.units + n + 1 < cLine/\Q (.bl false) H):=by
 intro pins s σ H x y v u Q I rx ry h
 obtain ⟨n,a,b,kvs,kws,rfl,rfl,ha,hb,hl,tx,hf,hu,q⟩:=h
 cases rx
 cases ry
 obtain ⟨_,na,vs,kv,da⟩:=dk_rd I.hok ha
 obtain ⟨_,nb,ws,kw,db⟩:=dk_rd I.hok hb
 have l1:=kv.length
 have l2:=kw.length
 have hh:=rcNe_dicts (A:=X.A) da db na nb (by omega) (fun k v hk=>by
  obtain ⟨i,hi⟩:=List.getElem?_of_mem hk
  obtain ⟨v0,e0,_⟩:=kv_back kw hi
  exact tx k v0 (List.mem_of_getElem? e0)) (fun k v hk=>by
  obtain ⟨i,hi⟩:=List.getElem?_of_mem hk
  obtain ⟨v0,e0,rv⟩:=kv_back kv hi
  have m0:=List.mem_of_getElem? e0
  obtain ⟨v',hm',dq⟩:=hf k v0 m0
  obtain ⟨m,hm⟩:=List.getElem?_of_mem hm'
  obtain ⟨u',e1,rv'⟩:=kv_get kw hm
  exact ⟨u',List.mem_of_getElem? e1,eqAt_Dq I dq rv rv' (by show X.A.units + 1 + n < cLine;omega)⟩) (by omega)
 exact hh X.prog X.w X.xe _ ⟨.bl false,H,I,rfl,q⟩
end
end L2
namespace L2
open PySem PySem.Spec PyProof.Rows
def Itv (K:PySem.W.Frag) (a:Addr) (xs:List V):It:=
 ⟨fun i H=>SqL K H a xs/\i < xs.length,fun i H x H'=>H' = H/\xs[xs.length - 1 - i]? = some x,fun i H=>SqL K H a xs/\i = xs.length⟩
theorem turn_rev {P:Program} {w:World} {K:PySem.W.Frag} {tg:Expr} (a it:Addr) (xs:List V):Turn P w K tg (Itv K a xs) [it] it (fun i h=>h.IsRevIter it a ((xs.length:Int) - 1 - i)) where
 mem:=by simp
 obj:=fun i h st b hb=>by
  have e:b = it:=by simpa using hb
  subst e
  obtain ⟨o,e,c,d⟩:=st
  exact ⟨o,e,fun v z=>by rw [d] at z;cases z⟩
 keep:=fun i h h' st k=>st.at fun o e=>k it (by simp) o e
 item:=by
  intro X hP hw hK hc i pins s σ H E I hf st hg
  subst hP hw hK
  obtain ⟨hq,hi⟩:=hg
  obtain ⟨its,rv,p,hz⟩:=I.list hq
  have hx:xs[xs.length - 1 - i]? = some (xs[xs.length - 1 - i]'(by omega)):=List.getElem?_eq_getElem _
  obtain ⟨u,hu,ru⟩:=rv.get hx
  obtain ⟨f0,f1,f2,f3,f4,f5⟩:=hf it (by simp)
  have ei:((xs.length:Int) - 1 - i) = ((xs.length - 1 - i:Nat):Int):=by omega
  have st2:s.heap.IsRevIter it a ((xs.length - 1 - i:Nat):Int):=by rw [← ei];exact st
  refine wpAny_pyNext_rev_item st2 p.isList (x:=u) (by simpa using hu) fun h' st' sb=>?_
  have I1:Inv X pins σ H { s with heap:=h' }:=I.turned (t':=s.toks) (fun b o hb e=>(sb.2 b hb).trans e) f0 f1 f3 f4 f5
  obtain ⟨o,e,c,d⟩:=id st'
  refine ⟨u,rfl,go_of (s:={ s with heap:=h' }) e c d (by decide) ⟨_,H,I1,ru,⟨rfl,hx⟩,?_,fun b hb=>(hf b hb).1⟩⟩
  have e2:((xs.length:Int) - 1 - (i + 1:Nat)) = (((xs.length - 1 - i:Nat):Int) - 1):=by omega
  show h'.IsRevIter it a ((xs.length:Int) - 1 - (i + 1:Nat))
  rw [e2]
  exact st'
 done:=by
  intro X hP hw hK hc i pins s σ H E I hf st hg
  subst hP hw hK
  obtain ⟨hq,rfl⟩:=hg
  obtain ⟨f0,f1,f2,f3,f4,f5⟩:=hf it (by simp)
  have e:((xs.length:Int) - 1 - (xs.length:Nat)) = -1:=by omega
  have st2:s.heap.IsRevIter it a (-1):=by rw [← e];exact st
  exact wpAny_pyNext_rev_end (I.ok.hd hc) st2 fun h' eb=>⟨rfl,I.turned (t':=s.toks) (fun b o hb e=>eb b o hb e) f0 f1 f3 f4 f5⟩
 self:=fun _ _ _ _ _ st h=>wpAny_pyIter_revIter st h
section
variable {X:Cx}
def iRev (K:PySem.W.Frag) (ta:TA):TI:=fun σ H R=>ta σ H fun vs H1=>∃ a xs,vs = [.ref a]/\SqL K H1 a xs/\R (Itv K a xs) H1
theorem pi_rev {tg l:Expr} {ta:TA} {p pos:Pos} (hg:Gl X "reversed") (hm:X.mg "reversed" = none) (ha:PA X [l] ta) (hs:starEach [l] X.env = [(false,eval l X.env)]:=by rfl) :
  PI X tg (.Call (.Name "reversed" p) [l] [] pos) (iRev X.K ta):=by
 intro pins s σ H R I h
 refine Call_ (ld_blt I hg hm boot_reversed (PyProof.Rows.callWith_type1 (thn (ha pos pins s σ H _ I h) fun us s1 ⟨vs,H1,I1,r1,q1⟩=>?_) hs rfl))
 obtain ⟨a,xs,e,hq,q⟩:=q1
 subst e
 obtain ⟨u,rfl,rx⟩:=vals1 r1
 cases rx
 obtain ⟨its,rv,pl,hz⟩:=I1.list hq
 have hl:=rv.length
 refine call_reversed_list pl.isList ?_
 have I2:Inv X pins σ H1 { s1 with heap:=s1.heap.push (revObj a ((its.toArray.size:Int) - 1)) }:=I1.kept (t':=s1.toks) fun b o e=>Heap.get?_push_of_some _ e
 have st:(s1.heap.push (revObj a ((its.toArray.size:Int) - 1))).IsRevIter s1.heap.objs.size a ((xs.length:Int) - 1 - (0:Nat)):=⟨_,Heap.get?_push_size _ rfl,rfl,by
  have e:((its.toArray.size:Int) - 1) = ((xs.length:Int) - 1 - (0:Nat)):=by rw [List.size_toArray];omega
  rw [e];rfl⟩
 refine wpAny_pyIter_revIter (s:={ s1 with heap:=s1.heap.push (revObj a ((its.toArray.size:Int) - 1)) }) st ?_
 refine ⟨s1.heap.objs.size,[s1.heap.objs.size],_,_,H1,rfl,I2,turn_rev a _ xs,st,fun b hb=>?_,q⟩
 have e:=List.mem_singleton.mp hb
 subst e
 exact I1.fpOk (Nat.le_refl _) (I1.hok.fresh (Nat.le_refl _))
end
end L2
namespace L2
open PySem PySem.Spec PyProof.Rows
section
variable {X:Cx}
end
structure FunX (K:PySem.W.Frag) (x qual:Str) (st:Stmt) (f:Addr) (fd:FuncData):Prop where
 ex:∃ (oc:Value) (od:Option Addr) (dV kV doc pm:Value) (an:Option Addr) (cdv ct:Value) (osl:Array (Option Value)),
  fd = PySem.W.fnOf x qual (defArgs st) (defBody st) (defScope st) dV kV doc pm an cdv ct/\K.lookup f = some ⟨oc,od,.func fd,osl⟩/\PySem.W.codeIn K cdv qual = true
 kp:PySem.W.keepIn K (.ref f) = true
section
variable {P:Program} {w:World} {K:PySem.W.Frag} {mg:Str->Option Value} {base:Heap}
theorem FunX.ok {x qual:Str} {st:Stmt} {f:Addr} {fd:FuncData} {N ps:List Str} {k:Nat} {sp:Sp} (F:FunX K x qual st f fd) (S:FnScope N ps (defScope st)) (len:∀ vs H Q E,sp vs H Q E->vs.length = ps.length)
  (hbody:∀ (cdv:Value) (A:Around) (outer:List Env) (s:Shared) (H:Hp) (vs:List V) (Q:VK) (E:XK),Room k (A.deeper (envOfC qual (defScope st) s.heap.objs.size f cdv))->sp vs H Q E →
   ∃ t,PSs (cxOf CX0 P w K mg base N qual (defScope st) f cdv A outer s H E).nox (defBody st) t/\t { nx:=fun _ H'=>Q .non H',rt:=Q } (start N vs) H):FnOk P w K mg base CX0 (k + 1) f fd ps sp:=by
 obtain ⟨oc,od,dV,kV,doc,pm,an,cdv,ct,osl,rfl,lk,hcd⟩:=F.ex
 refine fn_of lk hcd S len fun A outer s H vs Q E hr hsp=>?_
 obtain ⟨t,h,q⟩:=hbody cdv A outer s H vs Q E hr hsp
 exact ⟨t,h.nox,q⟩
theorem FunX.okX {x qual:Str} {st:Stmt} {f:Addr} {fd:FuncData} {N ps:List Str} {k:Nat} {sp:Sp} (F:FunX K x qual st f fd) (S:FnScope N ps (defScope st)) (len:∀ vs H Q E,sp vs H Q E->vs.length = ps.length)
  (hbody:∀ (cdv:Value) (A:Around) (outer:List Env) (s:Shared) (H:Hp) (vs:List V) (Q:VK) (E:XK),Room k (A.deeper (envOfC qual (defScope st) s.heap.objs.size f cdv))->sp vs H Q E →
   ∃ t,PSs (cxOf (CX1 P w) P w K mg base N qual (defScope st) f cdv A outer s H E) (defBody st) t/\t { nx:=fun _ H'=>Q .non H',rt:=Q } (start N vs) H):FnOk P w K mg base (CX1 P w) (k + 1) f fd ps sp:=by
 obtain ⟨oc,od,dV,kV,doc,pm,an,cdv,ct,osl,rfl,lk,hcd⟩:=F.ex
 exact fn_of lk hcd S len fun A outer s H vs Q E hr hsp=>hbody cdv A outer s H vs Q E hr hsp
theorem Fun.x {x qual:Str} {st:Stmt} {f:Addr} {fd:FuncData} (F:Fun K x qual st f fd):FunX K x qual st f fd:=by
 obtain ⟨oc,od,kV,doc,pm,an,cdv,ct,osl,e,lk,hcd⟩:=F.ex
 exact ⟨⟨oc,od,.none,kV,doc,pm,an,cdv,ct,osl,e,lk,hcd⟩,F.kp⟩
end
end L2
namespace L2
open PySem PySem.Spec PyProof.Rows
section
variable {P:Program} {w:World} {K:PySem.W.Frag} {mg:Str->Option Value} {base:Heap} {CX:CXT} {k:Nat} {f:Addr} {fd:FuncData} {ps:List Str} {sp sp':Sp}
def spOr (sp sp':Sp):Sp:=fun vs H Q E=>sp vs H Q E\/sp' vs H Q E
theorem FnOk.or (F:FnOk P w K mg base CX k f fd ps sp) (G:FnOk P w K mg base CX k f fd ps sp'):FnOk P w K mg base CX k f fd ps (spOr sp sp'):=
 ⟨fun vs H Q E h=>h.elim (F.len vs H Q E) (G.len vs H Q E),fun A outer s H args us vs Q E hr e b r h=>h.elim (F.run A outer s H args us vs Q E hr e b r) (G.run A outer s H args us vs Q E hr e b r)⟩
theorem FnOk.lift (F:FnOk P w K mg base CX0 k f fd ps sp):FnOk P w K mg base CX k f fd ps sp:=by
 refine ⟨F.len,fun A outer s H args us vs Q E hr e b r h=>codeAny_mono (F.run A outer s H args us vs Q E hr e b r h) fun r s' hq=>?_⟩
 cases r with
 | ok x=>cases x <;> exact hq
 | error e=>exact hq.elim
end
theorem same_drop {H:Hp} {x:Addr} {o:HO} (hx:H x = none):Same H (dropH (L2.upd H x o) x):=fun b u e=>by
 have nb:b ≠ x:=ne_of_none e hx
 rw [dropH_ne nb,upd_ne nb]
 exact e
theorem cut1 (ss:List Str):cutV (ss.map V.str) none (some 1) = (ss.take 1).map V.str:=by
 cases ss with
 | nil=>simp [cutV]
 | cons a r=>rw [cut_to (by decide) (by rw [List.length_map,List.length_cons];omega)];rfl
theorem inV_str (z:Str) (l:List Str):inV (.str z) (l.map V.str) = decide (z ∈ l):=by
 unfold inV
 rw [Bool.eq_iff_iff,List.any_eq_true,decide_eq_true_iff]
 constructor
 ·rintro ⟨y,hy,e⟩
  obtain ⟨x,hx,rfl⟩:=List.mem_map.mp hy
  have:x = z:=by simpa [eqV] using e
  rw [← this]
  exact hx
 ·intro h
  exact ⟨_,List.mem_map.mpr ⟨z,h,rfl⟩,by simp [eqV]⟩
end L2
namespace My
open PySem L2 PyProof.Rows
seal L2.PE L2.PT L2.PW L2.PS L2.PSs L2.PA L2.PI L2.PG L2.PGs L2.OpR L2.UnR L2.CallR L2.IxR L2.SlR L2.MtR L2.PIf L2.PO L2.MtM L2.PC L2.PIp L2.PSet L2.PGet L2.TruR L2.InOp L2.PK
structure Tx9 (K:PySem.W.Frag) (mg:Str->Option Value) (CT CO CN:Addr):Prop where
 mT:mg "TableError" = some (.ref CT)
 bT:BIn K CT
 mO:mg "NoTable" = some (.ref CO)
 xO:XCl K CO
 n1:NoAttr K CO "table"
 n2:NoAttr K CO "key"
 n3:NoAttr K CO "place"
 mN:mg "NoForm" = some (.ref CN)
 xN:XMkB K CN
def stp (z:Str):List (Str × V):=putF "place" .non (putF "key" .non [(("table":Str),V.str z)])
def spSInit (CO:Addr):Sp:=fun vs H Q _=>∃ (x:Addr) (z:Str),vs = [.ref x,.str z,.non,.non]/\H x = some (.ext (excP x CO none)) ∧
 ∀ dx H',H dx = none->dx ≠ x->H' x = some (.ext (excP x CO (some dx)))->H' dx = some (.ext (dctP dx (stp z)))->(∀ b,b ≠ x->b ≠ dx->H' b = H b)->Q .non H'
def spNoTab (CO:Addr):Sp:=fun vs H _ E=>∃ (f:Addr) (sz:Int) (Ts:List Tb) (z:Str),vs = [.ref f,.str z]/\FormAt H f sz Ts/\z ∉ Ts.map (·.name)/\∀ dx H',H dx = none->H' dx = some (.ext (dctP dx (stp z)))->Same H H'->E (.ref CO) (some dx) H'
def spAskSB (CN:Addr):Sp:=fun vs H _ E=>∃ (p:Addr) (ss:List Str),vs = [.ref p]/\H p = some (.lst (ss.map V.str))/\(ss.take 1 ≠ [("head":Str)]\/∃ z ∈ ss.drop 1,z ∉ sides)/\∀ H',Same H H'->E (.ref CN) none H'
def spAskNB (CN:Addr):Sp:=fun vs H _ E=>∃ (p:Addr) (zs:List Str),vs = [.ref p]/\H p = some (.lst (zs.map V.str))/\(∀ z ∈ zs,z.length ≤ 9)/\((∃ z ∈ zs,nameS z = false)\/¬ zs.Nodup)/\∀ H',Same H H'->E (.ref CN) none H'
def spColB (CN:Addr):Sp:=fun vs H _ E=>∃ (a:Addr) (z:Str) (v:V) (d:Dt),vs = [.ref a]/\H a = some (.dK [(.inr z,v)])/\z.length ≤ 8/\Rep H d v/\noDct d = true/\(nameS z = false\/kindD d = false)/\∀ H',Sl a H H'->E (.ref CN) none H'
section
variable {P:Program} {w:World} {K:PySem.W.Frag} {mg:Str->Option Value} {base:Heap} {CT CO CN:Addr}
theorem ok_sinit {f:Addr} {fd:FuncData} (F:FunX K "__init__" "StepError.__init__" (inClass (top 2) 0) f fd) (T:Tx9 K mg CT CO CN):FnOk P w K mg base CX0 1 f fd ["self","table","key","place"] (spSInit CO):=by
 have sc:FnScope ["self","table","key","place"] ["self","table","key","place"] (defScope (inClass (top 2) 0)):=⟨rfl,rfl,rfl,by decide +kernel,rfl,by decide +kernel,by decide +kernel⟩
 refine F.ok sc (fun vs H Q E h=>?_) (fun cdv A outer s H vs Q E hr h=>?_)
 ·obtain ⟨x,z,rfl,_⟩:=h
  rfl
 ·obtain ⟨x,z,rfl,hx,q⟩:=h
  refine ⟨_,pss_cons (ps_expr (pe_binit (by rfl) T.mT T.bT (pa_cons (pv 0) (pa_cons (pv 1) (pa_cons (pv 2) (pa_cons (pv 3) pa_nil))))))
   (pss_cons (ps_xset1 (pv 0) (pv 1) rfl) (pss_cons (ps_xset2 (pv 0) (pv 2) rfl) (pss_one (ps_xset2 (pv 0) (pv 3) rfl)))),?_⟩
  refine ⟨_,rfl,_,rfl,_,rfl,_,rfl,x,CO,none,_,rfl,hx,T.xO,(by show 3 ≤ sizeLine;decide),?_⟩
  refine ⟨_,rfl,_,rfl,x,CO,rfl,hx,T.xO,T.n1,fun dx hd ne=>?_⟩
  refine ⟨_,rfl,_,rfl,x,CO,dx,_,rfl,upd_same,(by rw [upd_ne ne];exact upd_same),ne,T.xO,T.n2,(by show 1 < 1000;decide),?_⟩
  refine ⟨_,rfl,_,rfl,x,CO,dx,_,rfl,(by rw [upd_ne (Ne.symm ne)];exact upd_same),upd_same,ne,T.xO,T.n3,?_,?_⟩
  ·have:=length_putF "key" .non [(("table":Str),V.str z)]
   simp only [List.length_cons,List.length_nil] at this
   omega
  ·exact q dx _ hd ne (by rw [upd_ne (Ne.symm ne),upd_ne (Ne.symm ne)];exact upd_same) upd_same fun b n1 n2=>by rw [upd_ne n2,upd_ne n2,upd_ne n1,upd_ne n2]
theorem ok_noTab {f fI:Addr} {fd fdI:FuncData} (F:Fun K "table_in" "table_in" (top 36) f fd) (T:Tx9 K mg CT CO CN) (FI:FunX K "__init__" "StepError.__init__" (inClass (top 2) 0) fI fdI) (MI:XMk K CO fI) (bI:Binds K fdI ["self","table","key","place"] []) :
  FnOk P w K mg base (CX1 P w) 3 f fd ["form","table"] (spNoTab CO):=by
 have sc:FnScope ["form","table","entry"] ["form","table"] (defScope (top 36)):=⟨rfl,rfl,rfl,by decide +kernel,rfl,by decide +kernel,by decide +kernel⟩
 have GI:FnOk P w K mg base CX0 1 fI fdI ["self","table","key","place"] (spSInit CO):=ok_sinit FI T
 refine F.x.okX sc (fun vs H Q E h=>?_) (fun cdv A outer s H vs Q E hr h=>?_)
 ·obtain ⟨f,sz,Ts,z,rfl,_⟩:=h
  rfl
 ·obtain ⟨f,sz,Ts,z,rfl,⟨tt,es,h1,h2,h3,h4⟩,hz,q⟩:=h
  refine ⟨_,pss_cons (ps_for PassesOwn.leaving rfl (pi_tup (pe_ix ix_tup (pv 0) pe_int (fun _ _=>rfl))) (pg_name (i:=2) sc.nd rfl (Or.inl rfl))
    (pss_one (ps_if (pt_cmpR op_eq (pe_ix ix_tup (pv 2) pe_int (fun _ _=>rfl)) (pv 1) (nomark _)) pss_never pss_nil)))
   (pss_one (ps_raise rfl (pe_xmake MI GI hr (by rfl) T.mO bI .nil (pa_cons (pv 1) (pa_cons pe_non (pa_cons pe_non pa_nil)))) lands_cx)),?_⟩
  refine ⟨_,rfl,_,_,1,_,rfl,rfl,SqT.of h1,rfl,tt,rfl,⟨_,SqT.of h2⟩,for_tup (K:=K) (a:=tt) (xs:=es.map V.ref) (fun i σ H'=>H' = H/\(∃ u,σ = [some (.ref f),some (.str z),u])) ⟨rfl,⟨_,rfl⟩⟩ (fun i σ H' _ p=>by rw [p.1];exact SqT.of h2) ?_ ?_⟩
  ·rintro i x σ H' hx ⟨rfl,⟨u,rfl⟩⟩
   have hie:i < es.length:=by
    have:=(List.getElem?_eq_some_iff.mp hx).1
    rwa [List.length_map] at this
   have hit:i < Ts.length:=by omega
   rw [List.getElem?_map,List.getElem?_eq_getElem hie] at hx
   cases hx
   obtain ⟨ct,g1,g2⟩:=h4 i es[i] Ts[i] (List.getElem?_eq_getElem hie) (List.getElem?_eq_getElem hit)
   refine ⟨_,rfl,_,_,0,_,rfl,rfl,SqT.of g1,rfl,_,rfl,rfl,_,rfl,?_⟩
   refine iteC (decide_eq_false fun e=>hz ?_) ⟨rfl,_,rfl⟩
   have e':Ts[i].name = z:=by injection e
   rw [← e']
   exact List.mem_map.mpr ⟨_,List.getElem_mem hit,rfl⟩
  ·rintro σ H' ⟨rfl,⟨u,rfl⟩⟩
   refine ⟨_,rfl,(by show 3 ≤ sizeLine;decide),fun x nx hx=>⟨x,z,rfl,upd_same,fun dx H2 hd ne h2x h2d fr=>⟨rfl,x,CO,some dx,rfl,h2x,nx,T.xO,?_⟩⟩⟩
   rw [upd_ne ne] at hd
   refine q dx _ hd (by rw [dropH_ne ne];exact h2d) fun b o e=>?_
   have nb:b ≠ x:=ne_of_none e hx
   rw [dropH_ne nb,fr b nb (ne_of_none e hd),upd_ne nb]
   exact e
theorem ok_askSB {f sA:Addr} {fd:FuncData} (F:Fun K "ask_sorts" "ask_sorts" (top 30) f fd) (T:Tx9 K mg CT CO CN) (mS:mg "SIDE_SORTS" = some (.ref sA)) (qS:∀ H,SqT K H sA (sides.map V.str)):FnOk P w K mg base (CX1 P w) 1 f fd ["sorts"] (spAskSB CN):=by
 have sc:FnScope ["sorts","sort"] ["sorts"] (defScope (top 30)):=⟨rfl,rfl,rfl,by decide +kernel,rfl,by decide +kernel,by decide +kernel⟩
 refine F.x.okX sc (fun vs H Q E h=>?_) (fun cdv A outer s H vs Q E hr h=>?_)
 ·obtain ⟨p,ss,rfl,_⟩:=h
  rfl
 ·obtain ⟨p,ss,rfl,hp,bad,q⟩:=h
  have hu:(A.deeper (envOfC "ask_sorts" (defScope (top 30)) s.heap.objs.size f cdv)).units < cLine:=by have:=hu_of hr;omega
  refine ⟨_,pss_cons (ps_if (pt_cmpR (op_neTs hu) (pe_slice sl_list (pv 0) po_none (po_some pe_int)) (pe_lst (pa_cons pe_str pa_nil)) (nomark _)) (pss_one (ps_raise rfl (pe_xmakeB T.xN (by rfl) T.mN (pa_cons pe_str pa_nil)) lands_cx)) pss_nil)
   (pss_one (ps_for PassesOwn.leaving rfl (pi_list (pe_slice sl_list (pv 0) (po_some pe_int) po_none)) (pg_name (i:=1) sc.nd rfl (Or.inl rfl))
    (pss_one (ps_if (pt_cmpR op_notIn_seq (pv 1) (pe_glob (v:=.ref sA) (by rfl) mS rfl) (by with_unfolding_all rfl)) (pss_one (ps_raise rfl (pe_xmakeB T.xN (by rfl) T.mN (pa_cons pe_str pa_nil)) lands_cx)) pss_nil)))),?_⟩
  refine ⟨_,rfl,_,rfl,p,_,rfl,SqL.of hp,fun p1 e1=>?_⟩
  rw [cut1]
  have T1:=Same.upd (o:=.lst ((ss.take 1).map V.str)) e1
  refine ⟨(by show 1 ≤ sizeLine;decide),fun p2 e2=>?_⟩
  have T2:=Same.upd (o:=.lst [V.str "head"]) e2
  refine ⟨p1,p2,ss.take 1,["head"],rfl,rfl,SqL.of (T2 _ _ upd_same),SqL.of upd_same,_,rfl,?_⟩
  have S2:=T1.trans T2
  refine ite2 (fun hc=>?_) (fun hc=>?_)
  ·exact ⟨(by show 1 ≤ sizeLine;decide),fun x nx hx=>⟨x,CN,none,rfl,upd_same,nx,T.xN.cl,q _ (S2.trans (same_drop hx))⟩⟩
  have hh:ss.take 1 = [("head":Str)]:=by
   by_cases h:ss.take 1 = [("head":Str)]
   ·exact h
   ·exact absurd (by rw [decide_eq_false h];rfl) hc
  have hbad:∃ z ∈ ss.drop 1,z ∉ sides:=by
   rcases bad with h | h
   ·exact absurd hh h
   ·exact h
  have hl1:1 ≤ ss.length:=by
   cases ss with
   | nil=>simp at hh
   | cons a r=>simp
  refine ⟨_,rfl,_,rfl,p,_,rfl,SqL.of (S2 _ _ hp),fun p3 e3=>?_⟩
  rw [cut_from (by decide) (by rw [List.length_map];omega),← List.map_drop]
  show ∃ a,V.ref p3 = .ref a/\_
  have T3:=Same.upd (o:=.lst ((ss.drop 1).map V.str)) e3
  refine ⟨p3,rfl,⟨_,SqL.of upd_same⟩,for_list (K:=K) (a:=p3) (xs:=(ss.drop 1).map V.str) (fun j σ H4=>H4 = upd _ p3 (.lst ((ss.drop 1).map V.str))/\(∃ u,σ = [some (.ref p),u])/\∀ i z,i < j->(ss.drop 1)[i]? = some z->z ∈ sides) ⟨rfl,⟨_,rfl⟩,fun i z h=>absurd h (Nat.not_lt_zero _)⟩ (fun j σ H4 _ pp=>by rw [pp.1];exact SqL.of upd_same) ?_ ?_⟩
  ·rintro j x σ H4 hx ⟨rfl,⟨u,rfl⟩,hin⟩
   rw [List.getElem?_map] at hx
   obtain ⟨z,hz,rfl⟩:=Option.map_eq_some_iff.mp hx
   refine ⟨_,rfl,sA,_,rfl,.inr (qS _),rfl,(by decide),_,rfl,?_⟩
   refine ite2 (fun hc=>?_) (fun hc=>?_)
   ·exact ⟨(by show 1 ≤ sizeLine;decide),fun x nx hx=>⟨x,CN,none,rfl,upd_same,nx,T.xN.cl,q _ ((S2.trans T3).trans (same_drop hx))⟩⟩
   ·refine ⟨rfl,⟨_,rfl⟩,fun i y hi hy=>?_⟩
    by_cases hij:i < j
    ·exact hin i y hij hy
    ·have:i = j:=by omega
     subst this
     rw [hz] at hy
     cases hy
     by_cases hm:z ∈ sides
     ·exact hm
     ·refine absurd ?_ hc
      show (!inV (.str z) (sides.map V.str)) = true
      rw [inV_str,decide_eq_false hm]
      rfl
  ·rintro σ H4 ⟨rfl,⟨u,rfl⟩,hin⟩
   obtain ⟨z,hz,hn⟩:=hbad
   obtain ⟨i,hi,e⟩:=List.mem_iff_getElem.mp hz
   exact absurd (hin i z (by rw [List.length_map];exact hi) (by rw [List.getElem?_eq_getElem hi,e])) hn
theorem ok_askNB {f fN:Addr} {fd fdN:FuncData} (F:Fun K "ask_names" "ask_names" (top 31) f fd) (T:Tx9 K mg CT CO CN) (DN:Df K mg "is_name" (top 22) fN fdN) (GN:FnOk P w K mg base CX0 1 fN fdN ["thing"] (spName K)):FnOk P w K mg base (CX1 P w) 2 f fd ["names"] (spAskNB CN):=by
 have sc:FnScope ["names","name"] ["names"] (defScope (top 31)):=⟨rfl,rfl,rfl,by decide +kernel,rfl,by decide +kernel,by decide +kernel⟩
 have bN:=DN.fn.binds (ps:=["thing"]) fun _ _ _ _ _ _ us hl=>by obtain ⟨v0,rfl⟩:=L2.ln1 hl;rfl
 refine F.x.okX sc (fun vs H Q E h=>?_) (fun cdv A outer s H vs Q E hr h=>?_)
 ·obtain ⟨p,zs,rfl,_⟩:=h
  rfl
 ·obtain ⟨p,zs,rfl,hp,h9,bad,q⟩:=h
  refine ⟨_,pss_one (ps_for PassesOwn.leaving rfl (pi_list (pv 0)) (pg_name (i:=1) sc.nd rfl (Or.inl rfl))
    (pss_cons (ps_if (pt_not (pt_val (pe_call GN hr (by rfl) DN.mg DN.fn.kp bN .nil pass0 (pa_cons (pv 1) pa_nil)))) (pss_one (ps_raise rfl (pe_xmakeB T.xN (by rfl) T.mN (pa_cons pe_str pa_nil)) lands_cx)) pss_nil)
    (pss_one (ps_if (pt_cmpR op_gt (pe_bm PySem.F.plainAttrs_list PySem.F.slot_list_count PySem.F.type_list_count mt_count (pv 0) (pa_cons (pv 1) pa_nil)) pe_int (nomark _)) (pss_one (ps_raise rfl (pe_xmakeB T.xN (by rfl) T.mN (pa_cons pe_str pa_nil)) lands_cx)) pss_nil)))),?_⟩
  refine ⟨_,rfl,p,rfl,⟨_,SqL.of hp⟩,for_list (K:=K) (a:=p) (xs:=zs.map V.str) (fun j σ H4=>Same H H4/\(∃ u,σ = [some (.ref p),u])/\∀ i z,i < j->zs[i]? = some z->nameS z = true/\zs.count z ≤ 1) ⟨Same.refl H,⟨_,rfl⟩,fun i z h=>absurd h (Nat.not_lt_zero _)⟩ (fun j σ H4 _ pp=>SqL.of (pp.1 _ _ hp)) ?_ ?_⟩
  ·rintro j x σ H4 hx ⟨s4,⟨u,rfl⟩,hok⟩
   rw [List.getElem?_map] at hx
   obtain ⟨z,hz,rfl⟩:=Option.map_eq_some_iff.mp hx
   have h8:=h9 z (List.mem_of_getElem? hz)
   refine ⟨_,rfl,_,_,rfl,Is.str,(fun z' e=>?_),(fun h=>absurd rfl h)⟩
   cases e
   refine ⟨by rw [sizeLine_eq];omega,fun H5 s5=>⟨_,rfl,?_⟩⟩
   have S5:=s4.trans s5
   refine ite2 (fun hc=>?_) (fun hc=>?_)
   ·exact ⟨(by show 1 ≤ sizeLine;decide),fun x nx hx=>⟨x,CN,none,rfl,upd_same,nx,T.xN.cl,q _ (S5.trans (same_drop hx))⟩⟩
   have hn:nameS z = true:=by
    cases e:nameS z with
    | true=>rfl
    | false=>rw [e] at hc;exact absurd rfl hc
   have hp5:=S5 _ _ hp
   refine ⟨_,rfl,.inl ⟨rfl,_,SqL.of hp5⟩,_,rfl,p,zs,z,rfl,rfl,SqL.of hp5,_,_,rfl,rfl,_,rfl,?_⟩
   refine ite2 (fun hc=>?_) (fun hc=>?_)
   ·exact ⟨(by show 1 ≤ sizeLine;decide),fun x nx hx=>⟨x,CN,none,rfl,upd_same,nx,T.xN.cl,q _ (S5.trans (same_drop hx))⟩⟩
   have hcnt:zs.count z ≤ 1:=by
    by_cases h:zs.count z ≤ 1
    ·exact h
    ·exact absurd (decide_eq_true (by omega)) hc
   refine ⟨S5,⟨_,rfl⟩,fun i y hi hy=>?_⟩
   by_cases hij:i < j
   ·exact hok i y hij hy
   ·have:i = j:=by omega
    subst this
    rw [hz] at hy
    cases hy
    exact ⟨hn,hcnt⟩
  ·rintro σ H4 ⟨s4,⟨u,rfl⟩,hok⟩
   have all:∀ z ∈ zs,nameS z = true/\zs.count z ≤ 1:=fun z hz=>by
    obtain ⟨i,hi,e⟩:=List.mem_iff_getElem.mp hz
    exact hok i z (by rw [List.length_map];exact hi) (by rw [List.getElem?_eq_getElem hi,e])
   rcases bad with ⟨z,hz,e⟩ | h
   ·rw [(all z hz).1] at e
    cases e
   ·refine absurd (List.nodup_iff_count.mpr fun z=>?_) h
    by_cases hz:z ∈ zs
    ·exact (all z hz).2
    ·rw [List.count_eq_zero_of_not_mem hz]
     exact Nat.zero_le _
theorem ok_colB {f fN fK:Addr} {fd fdN fdK:FuncData} (F:Fun K "columns_made" "columns_made" (top 32) f fd) (T:Tx9 K mg CT CO CN) (B:Bl mg) (DN:Df K mg "is_name" (top 22) fN fdN) (GN:FnOk P w K mg base CX0 1 fN fdN ["thing"] (spName K)) (DK:Df K mg "is_kind" (top 26) fK fdK) (GK:FnOk P w K mg base CX0 4 fK fdK ["thing"] spKind) :
  FnOk P w K mg base (CX1 P w) 5 f fd ["columns"] (spColB CN):=by
 have sc:FnScope ["columns","column","kind"] ["columns"] (defScope (top 32)):=⟨rfl,rfl,rfl,by decide +kernel,rfl,by decide +kernel,by decide +kernel⟩
 have bN:=DN.fn.binds (ps:=["thing"]) fun _ _ _ _ _ _ us hl=>by obtain ⟨v0,rfl⟩:=L2.ln1 hl;rfl
 have bK:=DK.fn.binds (ps:=["thing"]) fun _ _ _ _ _ _ us hl=>by obtain ⟨v0,rfl⟩:=L2.ln1 hl;rfl
 refine F.x.okX sc (fun vs H Q E h=>?_) (fun cdv A outer s H vs Q E hr h=>?_)
 ·obtain ⟨a,z,v,d,rfl,_⟩:=h
  rfl
 ·obtain ⟨a,z,v,d,rfl,hc,h8,hd,hnd,bad,q⟩:=h
  have hr1:Room 1 _:=hr.mono (by decide)
  refine ⟨_,pss_cons (ps_frz (ps_for PassesOwn.leaving rfl (pi_items (pv 0)) (pg_tup rfl (pgs_cons (pg_name (i:=1) sc.nd rfl (Or.inl rfl)) (pgs_cons (pg_name (i:=2) sc.nd rfl (Or.inl rfl)) pgs_nil)))
    (pss_cons (ps_if (pt_not (pt_val (pe_call GN hr1 (by rfl) DN.mg DN.fn.kp bN .nil pass0 (pa_cons (pv 1) pa_nil)))) (pss_one (ps_raise rfl (pe_xmakeB T.xN (by rfl) T.mN (pa_cons pe_str pa_nil)) lands_cx)) pss_nil)
    (pss_one (ps_if (pt_not (pt_val (pe_call GK hr (by rfl) DK.mg DK.fn.kp bK .nil pass0 (pa_cons (pv 2) pa_nil)))) (pss_one (ps_raise rfl (pe_xmakeB T.xN (by rfl) T.mN (pa_cons pe_str pa_nil)) lands_cx)) pss_nil)))))
   pss_never,?_⟩
  refine ⟨a,_,hc,fun o=>?_⟩
  have hfa:(upd H a (.frz o (.dK [(.inr z,v)]))) a = some (.frz o (.dK [(.inr z,v)])):=upd_same
  have sl0:∀ {H1:Hp},Same (upd H a (.frz o (.dK [(.inr z,v)]))) H1->Sl a H H1:=fun {H1} s b u nb e=>s b u (by rw [upd_ne nb];exact e)
  refine ⟨_,rfl,a,o,_,rfl,hfa,for_items (a:=a) (o:=o) (kvs:=[(.inr z,v)]) (fun i σ H1=>i = 0/\Same (upd H a (.frz o (.dK [(.inr z,v)]))) H1/\∃ u1 u2,σ = [some (.ref a),u1,u2]) ⟨rfl,Same.refl _,_,_,rfl⟩ (fun i σ H1 _ p=>p.2.1 _ _ hfa) ?_ ?_⟩
  ·rintro i k v' p σ H1 hk ⟨rfl,s1,u1,u2,rfl⟩ hp
   cases hk
   have T1:=Same.upd (o:=.tup [kV (.inr z),v]) hp
   refine ⟨p,_,rfl,SqT.of upd_same,rfl,_,_,rfl,_,_,rfl,rfl,?_⟩
   refine ⟨_,rfl,_,_,rfl,Is.str,(fun z' e=>?_),(fun h=>absurd rfl h)⟩
   cases e
   refine ⟨by show z.length ≤ sizeLine;rw [sizeLine_eq];omega,fun H5 s5=>⟨_,rfl,?_⟩⟩
   have S5:=s1.trans (T1.trans s5)
   refine ite2 (fun hc'=>?_) (fun hc'=>?_)
   ·exact ⟨(by show 1 ≤ sizeLine;decide),fun x nx hx=>⟨x,CN,none,rfl,upd_same,nx,T.xN.cl,q _ (sl0 (S5.trans (same_drop hx)))⟩⟩
   have hkd:kindD d = false:=by
    rcases bad with h | h
    ·rw [h] at hc';exact absurd rfl hc'
    ·exact h
   refine ⟨_,rfl,_,d,rfl,(Rep.beside (fun xs h=>by rw [hc] at h;cases h) hnd hd).same S5,fun H6 s6=>⟨_,rfl,?_⟩⟩
   rw [hkd]
   refine iteT ?_
   exact ⟨(by show 1 ≤ sizeLine;decide),fun x nx hx=>⟨x,CN,none,rfl,upd_same,nx,T.xN.cl,q _ (sl0 ((S5.trans s6).trans (same_drop hx)))⟩⟩
  ·rintro σ H1 ⟨e,_⟩
   cases e
end
end My
namespace L2
open PySem PySem.Spec PyProof.Rows
section
variable {X:Cx}
variable {osc scope:Scope} {N0 xs:List Str} {fr:List Nat} {elt tg iter:Expr} {ifs:List Expr} {pos:Pos} {wi:TI} {g:TG} {tt:TT} {te:TE}
theorem ps_compX {EX:XK} {L:Addr} (hst:X.stack = X.env :: X.outer) (hfx:X.env.frame = some L) (LA:LandsA X (fun C od _ H=>EX C od H)) {i:Nat} {y:Str} {py spos:Pos} (C:CompTx osc scope N0 xs fr) (ho:X.env.scope = osc) (hN0:X.N = N0) (hc:X.calm = true) (hi:PI X tg iter wi)
  (hg:∀ s H fp,PG (cxComp X scope (compN N0 xs fr) s H fp) tg g) (ht:∀ s H fp,PIf (cxComp X scope (compN N0 xs fr) s H fp) ifs tt) (he:∀ s H fp,PE (cxCompX X scope (compN N0 xs fr) s H fp EX) elt te)
  (hN:X.N.Nodup) (hy:X.N[i]? = some y) (hx:Loc X.env.scope y)
  (hsw:swapsWith (.ListComp elt [⟨tg,iter,ifs,0⟩] scope pos) (some (.Name y py)) spos.line X.env = pure true:=by rfl)
  (hf:X.fn y = true\/X.env.scope.names.lookup y = some .local:=by first | exact .inl rfl | exact .inr rfl | assumption)
  (hs:∀ x,foldedSetIterable iter X.env x = pure x:=by intro _;rfl):PS X (.Assign [.Name y py] (.ListComp elt [⟨tg,iter,ifs,0⟩] scope pos) spos) (sComp i xs fr wi g tt te):=by
 intro pins s σ H D I h
 rw [exec_Assign_Name_used _ _ _ _ hsw]
 refine wpAny_bind (wpAny_standAt (wpAny_bind ?_))
 show wpAny _ X.A (do let _ ← comprehension (.ListComp elt [⟨tg,iter,ifs,0⟩] scope pos) scope X.env _ (newList []) false (eval iter X.env) (some (assign (.Name y py) X.env))) _ _ s
 refine wpAny_bind (wpAny_mono (wpAny_comprehension_free (use:=some (assign (.Name y py) X.env)) (Q:=fun _ s'=>SP X pins D .next s') rfl hs (clos_ok (comp_free C ho I)) C.kind C.names
  (thn (hi pins s σ H _ I h) fun v s1 h1=>thn h1 fun itv s2 h2=>?_)) (fun _ s' hq=>wpAny_pure (wpAny_pure hq)) fun _ _ e=>e)
 obtain ⟨it,fp,tn,J,H2,e,I2,T,st2,f2,hR⟩:=h2
 subst e
 refine comp_blockX (EX:=EX) hst hfx C ho hN0 hc hg ht he I2 T st2 f2 hR (fun Dl C s' H' m I' hm fC q=>?_) (fun Dl C s' H' m x cl od fl I' hm fC ox xa tb q=>?_)
 ·refine wpAny_assign_Name (store_ok2 I' hN hy hx (show RelV (.ref Dl) (.ref Dl) from rfl) (fun s3 I3 hsb=>?_) hf)
  obtain ⟨a,sb,ha⟩:=hsb
  have hCa:C ≠ a:=by
   rcases ha with z | z
   ·rw [z];exact fC.2.1
   ·exact fun w=>fC.2.2.2.2.1 y a z w.symm
  refine ⟨m,hm.sameBut sb hCa,fun h' sb'=>⟨_,H',?_,q⟩⟩
  exact I3.turned (t':=s3.toks) (fun b o hb e=>(sb'.2 b hb).trans e) fC.1 fC.2.1 fC.2.2.2.1 fC.2.2.2.2.1 fC.2.2.2.2.2
 ·refine ⟨m,hm,fun h' sb cenv hce=>?_⟩
  have I'':Inv X pins σ H' { s' with heap:=h' }:=I'.turned (t':=s'.toks) (fun b o hb e=>(sb.2 b hb).trans e) fC.1 fC.2.1 fC.2.2.2.1 fC.2.2.2.2.1 fC.2.2.2.2.2
  obtain ⟨oC,es,ep,eC,dC,_⟩:=hm
  have nC:∀ (b:Addr) (o:Obj) (vs:Array Value),s'.heap.get? b = some o->o.data = .fields vs->b ≠ C:=fun b o vs e d z=>by
   rw [z,eC] at e
   cases e
   rw [dC] at d
   cases d
  obtain ⟨_,_,vs0,sl0,T0,ex0,e10⟩:=tb
  obtain ⟨vs,sl,v1,ex,e1,tb⟩:=xa
  have ex':h'.get? x = some ⟨cl,od,.fields vs,sl⟩:=(sb.2 x (nC x _ vs ex rfl)).trans ex
  rw [ex0] at ex
  cases ex
  rw [e10] at e1
  cases e1
  have xa':XAt h' (Our X pins H') x cl od fl:=by
   refine ⟨_,_,_,ex',e10,?_⟩
   rcases tb with ⟨z,_⟩ | ⟨T,oT,ts,z,pT,nT,eT,dT,fT⟩
   ·cases z
   ·exact .inr ⟨T,oT,ts,z,pT,nT,(sb.2 T (nC T oT ts eT dT)).trans eT,dT,fT⟩
  unfold PySem.passOn
  refine wpAny_bind (wpAny_field ex' rfl e10 ?_)
  rw [if_neg (show ¬ ((Value.ref T0 == Value.none) = true) from by simp)]
  refine wpAny_bind (flight_any (fr:=frs X.stack) xa' (fun b o e hb=>?_) fun h2 fl2 n2 xa2=>?_)
  ·obtain ⟨_,o',ho',hn⟩:=I''.stack.mem hb
   have e':h'.get? b = some o:=e
   have ho'':h'.get? b = some o':=ho'
   rw [e'] at ho''
   cases ho''
   exact hn
  ·exact wpAny_throw (LA pins σ H' _ x cl od fl2 (I''.noted ox n2) ox xa2 q)
end
end L2
namespace My
open PySem L2 PyProof.Rows
seal L2.PE L2.PT L2.PW L2.PS L2.PSs L2.PA L2.PI L2.PG L2.PGs L2.OpR L2.UnR L2.CallR L2.IxR L2.SlR L2.MtR L2.PIf L2.PO L2.MtM L2.PC L2.PIp L2.PSet L2.PGet L2.TruR L2.InOp L2.PK
def ListAt (H:Hp) (l:Addr) (es:List Addr) (Ts:List Tb):Prop:=H l = some (.lst (es.map V.ref))/\es.length = Ts.length/\∀ (j:Nat) (e:Addr) (T:Tb),es[j]? = some e->Ts[j]? = some T->∃ d,H e = some (.tup [.str T.name,.str T.sort,.ref d])
theorem PartsAt.list {H:Hp} {l:Addr} {es ds:List Addr} {Ts:List Tb} (h:PartsAt H l es ds Ts):ListAt H l es Ts:=by
 refine ⟨h.1,h.2.1,fun j e T h1 h2=>?_⟩
 have hj:j < ds.length:=by have:=(List.getElem?_eq_some_iff.mp h2).1;have:=h.2.2.1;omega
 exact ⟨_,(h.2.2.2 j e ds[j] T h1 (List.getElem?_eq_getElem hj) h2).1⟩
def SGood (Ts:List Tb):Prop:=∃ ss:List Str,Ts.map (·.sort) = ("head":Str) :: ss/\∀ z ∈ ss,z ∈ sides
def SBad (Ts:List Tb):Prop:=(Ts.map (·.sort)).take 1 ≠ [("head":Str)]\/∃ z ∈ (Ts.map (·.sort)).drop 1,z ∉ sides
def NBad (Ts:List Tb):Prop:=(∃ z ∈ Ts.map (·.name),nameS z = false)\/¬ (Ts.map (·.name)).Nodup
def BadCol (H:Hp) (a:Addr):Prop:=∃ (z:Str) (v:V) (d:Dt),H a = some (.dK [(.inr z,v)])/\z.length ≤ 8/\Rep H d v/\noDct d = true/\(nameS z = false\/kindD d = false)
theorem BadCol.same {H H':Hp} {a:Addr} (h:BadCol H a) (s:Same H H'):BadCol H' a:=by
 obtain ⟨z,v,d,h1,h2,h3,h4⟩:=h
 exact ⟨z,v,d,s _ _ h1,h2,h3.same s,h4⟩
def CBad (H:Hp) (es:List Addr) (Ts:List Tb) (a:Addr):Prop:=∃ (j0:Nat) (e0:Addr) (T:Tb),es[j0]? = some e0/\Ts[j0]? = some T/\H e0 = some (.tup [.str T.name,.str T.sort,.ref a])/\BadCol H a/\∀ (j:Nat) (e:Addr) (T:Tb),j < j0->es[j]? = some e->Ts[j]? = some T->∃ dd,PartAt H e dd T
def spFormB (CN:Addr):Sp:=fun vs H _ E=>∃ (l:Addr) (sz:Int) (es:List Addr) (Ts:List Tb),vs = [.int sz,.ref l]/\1 ≤ sz/\ListAt H l es Ts/\Ts.length ≤ 9 ∧
 ((SBad Ts/\∀ H',Same H H'->E (.ref CN) none H') ∨
  (SGood Ts/\(∀ T ∈ Ts,T.name.length ≤ 9)/\NBad Ts/\∀ H',Same H H'->E (.ref CN) none H') ∨
  (SGood Ts/\(Ts.map (·.name)).Nodup/\(∀ T ∈ Ts,nameS T.name = true)/\∃ a,CBad H es Ts a/\∀ H',Sl a H H'->E (.ref CN) none H'))
section
variable {P:Program} {w:World} {K:PySem.W.Frag} {mg:Str->Option Value} {base:Heap} {CT CO CN:Addr}
theorem ok_formB {f fW fS fN fC:Addr} {fd fdW fdS fdN fdC:FuncData} (F:Fun K "form_of" "form_of" (top 29) f fd) (B:Bl mg)
  (DW:Df K mg "is_whole" (top 21) fW fdW) (GW:FnOk P w K mg base CX0 1 fW fdW ["thing"] (spWhole K)) (DS:Df K mg "ask_sorts" (top 30) fS fdS) (GS:FnOk P w K mg base (CX1 P w) 1 fS fdS ["sorts"] (spOr spAskS (spAskSB CN))) (DN:Df K mg "ask_names" (top 31) fN fdN) (GN:FnOk P w K mg base (CX1 P w) 2 fN fdN ["names"] (spOr spAskN (spAskNB CN)))
  (DC:Df K mg "columns_made" (top 32) fC fdC) (GC:FnOk P w K mg base (CX1 P w) 5 fC fdC ["columns"] (spOr spColM (spColB CN))):FnOk P w K mg base (CX1 P w) 6 f fd ["size","tables"] (spFormB CN):=by
 have sc:FnScope ["size","tables","made","sides"] ["size","tables"] (defScope (top 29)):=⟨rfl,rfl,rfl,by decide +kernel,rfl,by decide +kernel,by decide +kernel⟩
 have bW:=DW.fn.binds (ps:=["thing"]) fun _ _ _ _ _ _ us hl=>by obtain ⟨v0,rfl⟩:=L2.ln1 hl;rfl
 have bS:=DS.fn.binds (ps:=["sorts"]) fun _ _ _ _ _ _ us hl=>by obtain ⟨v0,rfl⟩:=L2.ln1 hl;rfl
 have bN:=DN.fn.binds (ps:=["names"]) fun _ _ _ _ _ _ us hl=>by obtain ⟨v0,rfl⟩:=L2.ln1 hl;rfl
 have bC:=DC.fn.binds (ps:=["columns"]) fun _ _ _ _ _ _ us hl=>by obtain ⟨v0,rfl⟩:=L2.ln1 hl;rfl
 refine F.x.okX sc (fun vs H Q E h=>?_) (fun cdv A outer s H vs Q E hr h=>?_)
 ·obtain ⟨l,sz,es,Ts,rfl,_⟩:=h
  rfl
 ·obtain ⟨l,sz,es,Ts,rfl,sz1,⟨hl,e1l,hes⟩,t9,bad⟩:=h
  have hr1:Room 1 _:=hr.mono (by decide)
  have hr2:Room 2 _:=hr.mono (by decide)
  refine ⟨_,pss_cons (ps_if (PW.pt (pw_or (pt_not (pt_val (pe_call GW hr1 (by rfl) DW.mg DW.fn.kp bW .nil pass0 (pa_cons (pv 0) pa_nil)))) (pw_or1 (pt_cmpR op_lt (pv 0) pe_int (nomark _))))) pss_never pss_nil)
   (pss_cons (ps_expr (pe_callX GS hr1 (by rfl) DS.mg DS.fn.kp bS .nil lands_cx (pa_cons (pe_comp (osc:=defScope (top 29)) (N0:=["size","tables","made","sides"]) (xs:=["name","sort","columns"]) (fr:=[]) ⟨rfl,by decide +kernel,by decide +kernel,by decide +kernel,by decide,by decide +kernel⟩ rfl rfl rfl (pi_list (pv 1))
     (fun s H fp=>pg_tupK (K:=K) (n:=3) rfl rfl (pgs_cons (pg_name (i:=0) (show (["name","sort","columns"]:List Str).Nodup by decide +kernel) rfl (Or.inl rfl)) (pgs_cons (pg_name (i:=1) (show (["name","sort","columns"]:List Str).Nodup by decide +kernel) rfl (Or.inl rfl)) (pgs_cons (pg_name (i:=2) (show (["name","sort","columns"]:List Str).Nodup by decide +kernel) rfl (Or.inl rfl)) pgs_nil)))) (fun s H fp=>pif_nil)
     (fun s H fp=>pv 1)) pa_nil)))
   (pss_cons (ps_expr (pe_callX GN hr2 (by rfl) DN.mg DN.fn.kp bN .nil lands_cx (pa_cons (pe_comp (osc:=defScope (top 29)) (N0:=["size","tables","made","sides"]) (xs:=["name","sort","columns"]) (fr:=[]) ⟨rfl,by decide +kernel,by decide +kernel,by decide +kernel,by decide,by decide +kernel⟩ rfl rfl rfl (pi_list (pv 1))
     (fun s H fp=>pg_tupK (K:=K) (n:=3) rfl rfl (pgs_cons (pg_name (i:=0) (show (["name","sort","columns"]:List Str).Nodup by decide +kernel) rfl (Or.inl rfl)) (pgs_cons (pg_name (i:=1) (show (["name","sort","columns"]:List Str).Nodup by decide +kernel) rfl (Or.inl rfl)) (pgs_cons (pg_name (i:=2) (show (["name","sort","columns"]:List Str).Nodup by decide +kernel) rfl (Or.inl rfl)) pgs_nil)))) (fun s H fp=>pif_nil)
     (fun s H fp=>pv 0)) pa_nil)))
   (pss_cons (ps_compX (EX:=E) rfl rfl lands_cxA (i:=2) (osc:=defScope (top 29)) (N0:=["size","tables","made","sides"]) (xs:=["name","sort","columns"]) (fr:=[]) ⟨rfl,by decide +kernel,by decide +kernel,by decide +kernel,by decide,by decide +kernel⟩ rfl rfl rfl (pi_list (pv 1))
     (fun s H fp=>pg_tupK (K:=K) (n:=3) rfl rfl (pgs_cons (pg_name (i:=0) (show (["name","sort","columns"]:List Str).Nodup by decide +kernel) rfl (Or.inl rfl)) (pgs_cons (pg_name (i:=1) (show (["name","sort","columns"]:List Str).Nodup by decide +kernel) rfl (Or.inl rfl)) (pgs_cons (pg_name (i:=2) (show (["name","sort","columns"]:List Str).Nodup by decide +kernel) rfl (Or.inl rfl)) pgs_nil)))) (fun s H fp=>pif_nil)
     (fun s H fp=>pe_tup (pa_cons (pv 0) (pa_cons (pv 1) (pa_cons (pe_callX GC hr (by rfl) DC.mg DC.fn.kp bC .nil lands_comp (pa_cons (pv 2) pa_nil)) pa_nil)))) sc.nd rfl (Or.inl rfl))
   pss_never))),?_⟩
  refine ⟨_,rfl,.int sz,"int",rfl,Is.int,_,rfl,iteC (by decide) ?_⟩
  refine ⟨_,rfl,_,_,rfl,rfl,_,rfl,iteC (decide_eq_false (by omega)) ?_⟩
  refine ⟨_,rfl,l,rfl,⟨_,SqL.of hl⟩,fun D2 hD2=>?_⟩
  refine compW_map Ts.length (fun i=>.str ((Ts.map (·.sort)).getD i "")) (fun i σ' Hc=>(∃ t0 t1 t2,σ' = [t0,t1,t2])/\Same H Hc) (by rw [sizeLine_eq];omega) ⟨⟨_,_,_,rfl⟩,Same.upd hD2⟩ upd_same ?_ ?_
  ·rintro i σ' Hc hi ⟨⟨t0,t1,t2,rfl⟩,sm⟩ hD'
   have hie:i < es.length:=by omega
   obtain ⟨d,pt⟩:=hes i es[i] Ts[i] (List.getElem?_eq_getElem hie) (List.getElem?_eq_getElem hi)
   refine ⟨⟨_,V.ref es[i],SqL.of (sm _ _ hl),by rw [List.getElem?_map,List.getElem?_eq_getElem hie];rfl⟩,?_⟩
   rintro x H' ⟨rfl,hx'⟩
   have ex:=hx' _ (SqL.of (sm _ _ hl))
   rw [List.getElem?_map,List.getElem?_eq_getElem hie] at ex
   cases ex
   refine ⟨_,_,rfl,SqT.of (sm _ _ pt),rfl,_,_,rfl,_,_,rfl,_,_,rfl,rfl,_,rfl,?_,hD',⟨_,_,_,rfl⟩,sm.put hD2⟩
   rw [List.getD_eq_getElem?_getD,List.getElem?_map,List.getElem?_eq_getElem hi]
   rfl
  rintro σ2 H2 ⟨_,sm2⟩ hDn2
  refine ⟨⟨_,SqL.of (sm2 _ _ hl),by rw [List.length_map];omega⟩,?_⟩
  rw [show (List.range Ts.length).map (fun i=>V.str ((Ts.map (·.sort)).getD i "")) = (Ts.map (·.sort)).map V.str from by
   have:=range_map_getD (Ts.map (·.sort)) ("":Str) (fun z=>V.str z)
   rw [List.length_map] at this
   exact this] at hDn2
  rcases bad with ⟨bs,q⟩ | bad
  ·exact Or.inr ⟨D2,Ts.map (fun T:Tb=>T.sort),rfl,hDn2,bs,fun H' s'=>q H' (sm2.trans s')⟩
  have sg:SGood Ts:=by
   rcases bad with h | h
   ·exact h.1
   ·exact h.1
  obtain ⟨ss,ess,hss⟩:=sg
  refine Or.inl ⟨D2,ss,rfl,(by rw [hDn2,ess]),hss,fun H3 s3=>?_⟩
  have S3:Same H H3:=sm2.trans s3
  refine ⟨_,rfl,l,rfl,⟨_,SqL.of (S3 _ _ hl)⟩,fun D4 hD4=>?_⟩
  refine compW_map Ts.length (fun i=>.str ((Ts.map (·.name)).getD i "")) (fun i σ' Hc=>(∃ t0 t1 t2,σ' = [t0,t1,t2])/\Same H3 Hc) (by rw [sizeLine_eq];omega) ⟨⟨_,_,_,rfl⟩,Same.upd hD4⟩ upd_same ?_ ?_
  ·rintro i σ' Hc hi ⟨⟨t0,t1,t2,rfl⟩,sm⟩ hD'
   have hie:i < es.length:=by omega
   have sc:=S3.trans sm
   obtain ⟨d,pt⟩:=hes i es[i] Ts[i] (List.getElem?_eq_getElem hie) (List.getElem?_eq_getElem hi)
   refine ⟨⟨_,V.ref es[i],SqL.of (sc _ _ hl),by rw [List.getElem?_map,List.getElem?_eq_getElem hie];rfl⟩,?_⟩
   rintro x H' ⟨rfl,hx'⟩
   have ex:=hx' _ (SqL.of (sc _ _ hl))
   rw [List.getElem?_map,List.getElem?_eq_getElem hie] at ex
   cases ex
   refine ⟨_,_,rfl,SqT.of (sc _ _ pt),rfl,_,_,rfl,_,_,rfl,_,_,rfl,rfl,_,rfl,?_,hD',⟨_,_,_,rfl⟩,sm.put hD4⟩
   rw [List.getD_eq_getElem?_getD,List.getElem?_map,List.getElem?_eq_getElem hi]
   rfl
  rintro σ4 H4 ⟨_,sm4⟩ hDn4
  have S4:=S3.trans sm4
  refine ⟨⟨_,SqL.of (S4 _ _ hl),by rw [List.length_map];omega⟩,?_⟩
  rw [show (List.range Ts.length).map (fun i=>V.str ((Ts.map (·.name)).getD i "")) = (Ts.map (·.name)).map V.str from by
   have:=range_map_getD (Ts.map (·.name)) ("":Str) (fun z=>V.str z)
   rw [List.length_map] at this
   exact this] at hDn4
  rcases bad with ⟨_,h9,bn,q⟩ | ⟨_,ndn,hnm,a,⟨j0,e0,T0,he0,hT0,hE0,bc,good⟩,q⟩
  ·refine Or.inr ⟨D4,Ts.map (fun T:Tb=>T.name),rfl,hDn4,(fun z hz=>?_),bn,fun H' s'=>q H' (S4.trans s')⟩
   obtain ⟨T,hT',rfl⟩:=List.mem_map.mp hz
   exact h9 T hT'
  refine Or.inl ⟨D4,Ts.map (fun T:Tb=>T.name),rfl,hDn4,ndn,(fun z hz=>?_),fun H5 s5=>?_⟩
  ·obtain ⟨T,hT',rfl⟩:=List.mem_map.mp hz
   exact hnm T hT'
  have S5:Same H H5:=S4.trans s5
  have hj0:j0 < Ts.length:=(List.getElem?_eq_some_iff.mp hT0).1
  refine ⟨_,rfl,l,rfl,⟨_,SqL.of (S5 _ _ hl)⟩,fun D6 hD6=>?_⟩
  have hD60:H D6 = none:=by
   cases e:H D6 with
   | none=>rfl
   | some o=>rw [S5 _ _ e] at hD6;cases hD6
  refine compW_idx Ts.length (fun i ys σ' Hc=>(∃ t0 t1 t2,σ' = [t0,t1,t2])/\Same H Hc/\i ≤ j0) (by rw [sizeLine_eq];omega) ⟨⟨_,_,_,rfl⟩,S5.trans (Same.upd hD6),Nat.zero_le _⟩ upd_same ?_ ?_
  ·rintro i σ' Hc ys hi ⟨⟨t0,t1,t2,rfl⟩,sm,hij⟩ hyl hD'
   have hie:i < es.length:=by omega
   refine ⟨⟨_,V.ref es[i],SqL.of (sm _ _ hl),by rw [List.getElem?_map,List.getElem?_eq_getElem hie];rfl⟩,?_⟩
   rintro x H' ⟨rfl,hx'⟩
   have ex:=hx' _ (SqL.of (sm _ _ hl))
   rw [List.getElem?_map,List.getElem?_eq_getElem hie] at ex
   cases ex
   by_cases hlt:i < j0
   ·obtain ⟨dd,pt⟩:=good i es[i] Ts[i] hlt (List.getElem?_eq_getElem hie) (List.getElem?_eq_getElem hi)
    refine ⟨_,_,rfl,SqT.of (sm _ _ pt.1),rfl,_,_,rfl,_,_,rfl,_,_,rfl,rfl,?_⟩
    refine ⟨_,rfl,_,rfl,_,rfl,Or.inl ⟨dd,Ts[i].cols,rfl,sm _ _ pt.2.1,pt.2.2.same sm,fun t H7 s7 hct=>?_⟩⟩
    refine ⟨(by show 3 ≤ sizeLine;decide),fun p hp=>?_⟩
    have T:=Same.upd (o:=.tup [.str Ts[i].name,.str Ts[i].sort,.ref t]) hp
    exact ⟨T _ _ (s7 _ _ hD'),⟨_,_,_,rfl⟩,((sm.trans s7).trans T).put hD60,hlt⟩
   ·have:i = j0:=by omega
    subst this
    rw [List.getElem?_eq_getElem hie] at he0
    cases he0
    obtain ⟨z,v,d,b1,b2,b3,b4,b5⟩:=bc.same sm
    refine ⟨_,_,rfl,SqT.of (sm _ _ hE0),rfl,_,_,rfl,_,_,rfl,_,_,rfl,rfl,?_⟩
    exact ⟨_,rfl,_,rfl,_,rfl,Or.inr ⟨a,z,v,d,rfl,b1,b2,b3,b4,b5,fun H' sl=>q H' fun b o nb e=>sl b o nb (sm b o e)⟩⟩
  ·rintro σ' Hc ys ⟨_,_,h⟩ _ _
   exact absurd h (by omega)
end
end My
namespace L2
open PySem PySem.Spec PyProof.Rows
theorem compW_flt {J:It} {g:TG} {tt:TT} {te:TE} {R:Addr->Hp->Prop} {D:Addr} {σ0:St} {H0:Hp} (n:Nat) (Pv:Nat->List V->St->Hp->Prop) (hn:n ≤ sizeLine) (h0:Pv 0 [] σ0 H0) (hD0:H0 D = some (.lst []))
  (hs:∀ i σ H ys,i < n->Pv i ys σ H->H D = some (.lst ys)->J.go i H/\∀ x H',J.yld i H x H'->g x σ H' fun σ2 H2=>tt σ2 H2 fun b H3=>if b = true then te σ2 H3 (fun y H4=>H4 D = some (.lst ys)/\Pv (i + 1) (ys ++ [y]) σ2 (upd H4 D (.lst (ys ++ [y])))) else H3 D = some (.lst ys)/\Pv (i + 1) ys σ2 H3)
  (hd:∀ σ H ys,Pv n ys σ H->H D = some (.lst ys)->J.stop n H/\R D H):CompW J g tt te R D σ0 H0:=by
 refine ⟨fun i m σ H=>m = n - i/\i ≤ n/\∃ ys,Pv i ys σ H/\H D = some (.lst ys)/\ys.length ≤ i,⟨n,by omega,Nat.zero_le _,[],h0,hD0,Nat.le_refl _⟩,?_⟩
 rintro i m σ H ⟨rfl,hi,ys,p,hD,hl⟩
 by_cases hlt:i < n
 ·obtain ⟨go,st⟩:=hs i σ H ys hlt p hD
  refine .inr ⟨go,fun σ2 y H4=>H4 D = some (.lst ys)/\Pv (i + 1) (ys ++ [y]) σ2 (upd H4 D (.lst (ys ++ [y]))),fun σ2 H3=>H3 D = some (.lst ys)/\Pv (i + 1) ys σ2 H3,?_,?_,st⟩
  ·rintro σ2 y H4 ⟨e,p'⟩
   exact ⟨_,e,by omega,n - (i + 1),by omega,rfl,hlt,_,p',upd_same,by simp;omega⟩
  ·rintro σ2 H3 ⟨e,p'⟩
   exact ⟨n - (i + 1),by omega,rfl,hlt,_,p',e,by omega⟩
 ·have e:i = n:=by omega
  subst e
  exact .inl (hd σ H ys p hD)
def rDictT (K:PySem.W.Frag) (xs:List V) (H:Hp) (Q:VK):Prop:=∃ (t:Addr) (o:Obj) (ys:List V) (kvs:List (Key × V)),xs = [.ref t]/\H t = some (.frz o (.tup ys))/\o.dict = none/\ys.length ≤ 1000/\kvs.length = ys.length ∧
  (∀ (j:Nat) (k:Key) (v:V),kvs[j]? = some (k,v)->∃ a,ys[j]? = some (.ref a)/\SqT K H a [kV k,v])/\(kvs.map (·.1)).Nodup/\∀ p,H p = none->Q (.ref p) (upd H p (.dK kvs))
theorem call_dictTK {X:Cx} {K:PySem.W.Frag} (hK:X.K = K) (hc:X.calm = true):CallR X (.type "dict") (rDictT K):=by
 subst hK
 exact call_dictT hc
end L2
namespace My
open PySem L2 PyProof.Rows
def srt (l:List Str):List Str:=l.mergeSort leS
theorem srt_perm (l:List Str):(srt l).Perm l:=List.mergeSort_perm l leS
theorem leS_total (a b:Str):(leS a b || leS b a) = true:=by
 rw [Bool.or_eq_true]
 rcases List.le_total a.cps.toList b.cps.toList with h | h
 ·exact .inl (leS_iff.mpr h)
 ·exact .inr (leS_iff.mpr h)
theorem srt_pw (l:List Str):(srt l).Pairwise fun a b=>leS a b = true:=List.pairwise_mergeSort leS_trans leS_total l
theorem pw_eq {l m:List Str} (h1:l.Pairwise fun a b=>leS a b = true) (h2:m.Pairwise fun a b=>leS a b = true) (p:l.Perm m):l = m:=List.Perm.eq_of_pairwise (fun a b _ _ h1 h2=>leS_anti h1 h2) h1 h2 p
theorem srt_eq {zs l:List Str} (p:zs.Perm l) (h:sortedS zs = true):zs = srt l:=pw_eq (sortedS_pw h) (srt_pw l) (p.trans (srt_perm l).symm)
theorem srt_srt (l:List Str):srt (srt l) = srt l:=pw_eq (srt_pw _) (srt_pw _) (srt_perm _)
def cnC (cols:List (Str × V)):List (Str × V):=(srt (cols.map (·.1))).map fun z=>(z,vOf cols z)
def cn (T:Tb):Tb:=⟨T.name,T.sort,cnC T.cols⟩
def nmS (T:Tb):Str × Str:=(T.name,T.sort)
theorem cnC_names (cols:List (Str × V)):(cnC cols).map (·.1) = srt (cols.map (·.1)):=by
 unfold cnC
 rw [List.map_map]
 exact List.map_id _
theorem kvC_cn (cols:List (Str × V)):kvC (cnC cols) = (srt (cols.map (·.1))).map fun z=>(.inr z,vOf cols z):=by
 unfold kvC cnC
 rw [List.map_map]
 rfl
theorem val_perm {zs:List Str} {f:Str->V} {z:Str} (h:z ∈ zs):valV (zs.map fun z=>((.inr z:Key),f z)) (.inr z) = some (f z):=by
 induction zs with
 | nil=>cases h
 | cons y r ih=>
  by_cases e:y = z
  ·rw [List.map_cons,valV_pos (by rw [e]),e]
  ·rw [List.map_cons,valV_neg (fun q=>e (by injection q))]
   rcases List.mem_cons.mp h with h | h
   ·exact absurd h.symm e
   ·exact ih h
theorem vOf_cn {cols:List (Str × V)} {z:Str} (h:z ∈ cols.map (·.1)):vOf (cnC cols) z = vOf cols z:=by
 have e:valV (kvC (cnC cols)) (.inr z) = some (vOf cols z):=by
  rw [kvC_cn]
  exact val_perm ((srt_perm _).mem_iff.mpr h)
 unfold vOf at e ⊢
 rw [e]
 rfl
theorem cnC_cnC (cols:List (Str × V)):cnC (cnC cols) = cnC cols:=by
 show (srt ((cnC cols).map (·.1))).map (fun z=>(z,vOf (cnC cols) z)) = cnC cols
 rw [cnC_names,srt_srt]
 refine List.map_congr_left fun z hz=>?_
 rw [vOf_cn ((srt_perm _).mem_iff.mp hz)]
theorem cn_cn (T:Tb):cn (cn T) = cn T:=by
 unfold cn
 rw [cnC_cnC]
theorem ColsAt.cn {H:Hp} {t:Addr} {cols:List (Str × V)} (h:ColsAt H t cols):ColsAt H t (cnC cols):=by
 obtain ⟨o,ps,zs,h1,h2,h3,h4,h5,h6⟩:=h
 refine ⟨o,ps,zs,by rw [cnC_names];exact h1.trans (srt_perm _).symm,h2,h3,h4,h5,fun j p z a b=>?_⟩
 rw [vOf_cn (h1.mem_iff.mp (List.mem_of_getElem? b))]
 exact h6 j p z a b
theorem FormAt.cn {H:Hp} {f:Addr} {sz:Int} {Ts:List Tb} (h:FormAt H f sz Ts):FormAt H f sz (Ts.map cn):=by
 obtain ⟨tt,es,h1,h2,h3,h4⟩:=h
 refine ⟨tt,es,h1,h2,by rw [List.length_map];exact h3,fun j e T a b=>?_⟩
 rw [List.getElem?_map] at b
 obtain ⟨T',hT,rfl⟩:=Option.map_eq_some_iff.mp b
 obtain ⟨ct,g1,g2⟩:=h4 j e T' a hT
 exact ⟨ct,g1,g2.cn⟩
theorem col_rep {H:Hp} {cols:List (Str × V)} (ok:ColsOk H cols) {z:Str} (h:z ∈ cols.map (·.1)):nameS z = true/\∃ d,Rep H d (vOf cols z)/\kindD d = true/\noDct d = true:=by
 have hval:=val_in h
 unfold valV at hval
 obtain ⟨kv,hf,e⟩:=Option.map_eq_some_iff.mp hval
 have hmem:=List.mem_of_find?_eq_some hf
 have hk:=List.find?_some hf
 obtain ⟨pr,hpr,rfl⟩:=List.mem_map.mp hmem
 obtain ⟨hn,d,h1,h2,h3⟩:=ok.2.2 pr hpr
 have ez:pr.1 = z:=by
  have:(Sum.inr pr.1:Key) = .inr z:=by simpa using hk
  injection this
 rw [← e,← ez]
 exact ⟨hn,d,h1,h2,h3⟩
theorem ColsOk.cn {H:Hp} {cols:List (Str × V)} (ok:ColsOk H cols):ColsOk H (cnC cols):=by
 refine ⟨by rw [cnC_names];exact (srt_perm _).nodup_iff.mpr ok.1,?_,fun p hp=>?_⟩
 ·unfold cnC
  rw [List.length_map,(srt_perm _).length_eq,List.length_map]
  exact ok.2.1
 ·obtain ⟨z,hz,rfl⟩:=List.mem_map.mp hp
  exact col_rep ok ((srt_perm _).mem_iff.mp hz)
theorem TsOk.perm {T0 X0:Tb} {R X:List Tb} (h:TsOk T0 R) (e:nmS X0 = nmS T0) (p:(X.map nmS).Perm (R.map nmS)):TsOk X0 X:=by
 have e1:X0.name = T0.name:=congrArg Prod.fst e
 have e2:X0.sort = T0.sort:=congrArg Prod.snd e
 have nn:∀ L:List Tb,L.map (·.name) = (L.map nmS).map (·.1):=fun L=>by rw [List.map_map];rfl
 have pn:(X.map (·.name)).Perm (R.map (·.name)):=by rw [nn,nn];exact p.map _
 have mem:∀ T ∈ X,∃ T' ∈ R,nmS T' = nmS T:=fun T hT=>by
  obtain ⟨T',h1,h2⟩:=List.mem_map.mp (p.mem_iff.mp (List.mem_map.mpr ⟨T,hT,rfl⟩))
  exact ⟨T',h1,h2⟩
 obtain ⟨h7,nd,hn,hh,hs⟩:=h
 refine ⟨?_,?_,fun T hT=>?_,by rw [e2];exact hh,fun T hT=>?_⟩
 ·have:=p.length_eq
  rw [List.length_map,List.length_map] at this
  omega
 ·rw [List.map_cons] at nd ⊢
  rw [e1]
  exact ((pn.cons _).nodup_iff).mpr nd
 ·rcases List.mem_cons.mp hT with rfl | hT
  ·rw [e1];exact hn T0 List.mem_cons_self
  ·obtain ⟨T',h1,h2⟩:=mem T hT
   have e3:T'.name = T.name:=congrArg Prod.fst h2
   rw [← e3]
   exact hn T' (List.mem_cons_of_mem _ h1)
 ·obtain ⟨T',h1,h2⟩:=mem T hT
  have e3:T'.sort = T.sort:=congrArg Prod.snd h2
  rw [← e3]
  exact hs T' h1
def FAt (H:Hp) (f:Addr) (sz:Int) (T0:Tb) (R:List Tb):Prop:=∃ U:List Tb,FormAt H f sz (cn T0 :: U)/\U.Perm (R.map cn)/\Rise (U.map (·.name))
theorem FAt.same {H H':Hp} {f:Addr} {sz:Int} {T0:Tb} {R:List Tb} (h:FAt H f sz T0 R) (s:Same H H'):FAt H' f sz T0 R:=by
 obtain ⟨U,h1,h2,h3⟩:=h
 exact ⟨U,h1.same s,h2,h3⟩
theorem FAt.sb {H H':Hp} {f:Addr} {sz:Int} {T0:Tb} {R:List Tb} (h:FAt H f sz T0 R) (s:Sb H H'):FAt H' f sz T0 R:=by
 obtain ⟨U,h1,h2,h3⟩:=h
 exact ⟨U,h1.sb s,h2,h3⟩
theorem map_name_cn (L:List Tb):(L.map cn).map (·.name) = L.map (·.name):=by rw [List.map_map];rfl
theorem map_nmS_cn (L:List Tb):(L.map cn).map nmS = L.map nmS:=by rw [List.map_map];rfl
theorem FAt.of {H:Hp} {f:Addr} {sz:Int} {X0 T0:Tb} {V X R:List Tb} (h:FormAt H f sz (X0 :: V)) (e0:cn X0 = cn T0) (p:V.Perm X) (pr:(X.map cn).Perm (R.map cn)) (hr:Rise (V.map (·.name))):FAt H f sz T0 R:=by
 refine ⟨V.map cn,?_,(p.map cn).trans pr,by rw [map_name_cn];exact hr⟩
 have:=h.cn
 rw [List.map_cons,e0] at this
 exact this
structure FK (H:Hp) (f:Addr) (sz:Int) (T0:Tb) (R:List Tb):Prop where
 at_:FAt H f sz T0 R
 ts:TsOk T0 R
 co:∀ T ∈ T0 :: R,ColsOk H T.cols
 sz1:1 ≤ sz
theorem FK.get {H:Hp} {f:Addr} {sz:Int} {T0:Tb} {R:List Tb} (h:FK H f sz T0 R):∃ U:List Tb,FormAt H f sz (cn T0 :: U)/\U.Perm (R.map cn)/\(∀ T ∈ cn T0 :: U,cn T = T)/\(∀ T ∈ cn T0 :: U,ColsOk H T.cols)/\(cn T0 :: U).length ≤ 8/\TsOk (cn T0) U/\U.map cn = U:=by
 obtain ⟨U,h1,h2,h3⟩:=h.at_
 have mem:∀ T ∈ U,∃ T' ∈ R,cn T' = T:=fun T hT=>by
  obtain ⟨T',a,b⟩:=List.mem_map.mp (h2.mem_iff.mp hT)
  exact ⟨T',a,b⟩
 have fx:∀ T ∈ U,cn T = T:=fun T hT=>by
  obtain ⟨T',_,rfl⟩:=mem T hT
  exact cn_cn T'
 refine ⟨U,h1,h2,fun T hT=>?_,fun T hT=>?_,?_,h.ts.perm rfl ?_,?_⟩
 ·rcases List.mem_cons.mp hT with rfl | hT
  ·exact cn_cn T0
  ·exact fx T hT
 ·rcases List.mem_cons.mp hT with rfl | hT
  ·exact (h.co T0 List.mem_cons_self).cn
  ·obtain ⟨T',a,rfl⟩:=mem T hT
   exact (h.co T' (List.mem_cons_of_mem _ a)).cn
 ·have:=h2.length_eq
  rw [List.length_map] at this
  have:=h.ts.1
  rw [List.length_cons]
  omega
 ·rw [← map_nmS_cn R]
  exact h2.map _
 ·exact (List.map_congr_left fx).trans (List.map_id _)
theorem PartAt.same {H H':Hp} {e d:Addr} {T:Tb} (h:PartAt H e d T) (s:Same H H'):PartAt H' e d T:=h.sb s.sb
theorem PartsAt.same {H H':Hp} {l:Addr} {es ds:List Addr} {Ts:List Tb} (h:PartsAt H l es ds Ts) (s:Same H H'):PartsAt H' l es ds Ts:=h.sb s.sb
theorem PartsAt.snoc {H:Hp} {l l' p cd:Addr} {es ds:List Addr} {Ts:List Tb} {T:Tb} (h:PartsAt H l es ds Ts) (hl:H l' = some (.lst ((es ++ [p]).map V.ref))) (hp:PartAt H p cd T):PartsAt H l' (es ++ [p]) (ds ++ [cd]) (Ts ++ [T]):=by
 obtain ⟨_,h2,h3,h4⟩:=h
 refine ⟨hl,by rw [List.length_append,List.length_append,h2];rfl,by rw [List.length_append,List.length_append,h3];rfl,fun j e d T' a b c=>?_⟩
 by_cases hj:j < Ts.length
 ·rw [List.getElem?_append_left (by omega)] at a b c
  exact h4 j e d T' a b c
 ·have:j = Ts.length:=by
   have:=(List.getElem?_eq_some_iff.mp c).1
   rw [List.length_append] at this
   simp at this
   omega
  subst this
  rw [List.getElem?_append_right (by omega),h2,Nat.sub_self] at a
  rw [List.getElem?_append_right (by omega),h3,Nat.sub_self] at b
  rw [List.getElem?_append_right (by omega),Nat.sub_self] at c
  cases a
  cases b
  cases c
  exact hp
theorem ListAt.snoc {H:Hp} {l l' p cd:Addr} {es:List Addr} {Ts:List Tb} {T:Tb} (h:ListAt H l es Ts) (hl:H l' = some (.lst ((es ++ [p]).map V.ref))) (hp:H p = some (.tup [.str T.name,.str T.sort,.ref cd])):ListAt H l' (es ++ [p]) (Ts ++ [T]):=by
 obtain ⟨_,h2,h4⟩:=h
 refine ⟨hl,by rw [List.length_append,List.length_append,h2];rfl,fun j e T' a c=>?_⟩
 by_cases hj:j < Ts.length
 ·rw [List.getElem?_append_left (by omega)] at a c
  exact h4 j e T' a c
 ·have:j = Ts.length:=by
   have:=(List.getElem?_eq_some_iff.mp c).1
   rw [List.length_append] at this
   simp at this
   omega
  subst this
  rw [List.getElem?_append_right (by omega),h2,Nat.sub_self] at a
  rw [List.getElem?_append_right (by omega),Nat.sub_self] at c
  cases a
  cases c
  exact ⟨_,hp⟩
seal L2.PE L2.PT L2.PW L2.PS L2.PSs L2.PA L2.PI L2.PG L2.PGs L2.OpR L2.UnR L2.CallR L2.IxR L2.SlR L2.MtR L2.PIf L2.PO L2.MtM L2.PC L2.PIp L2.PSet L2.PGet L2.TruR L2.InOp L2.PK
def spParts:Sp:=fun vs H Q _=>∃ (f:Addr) (sz:Int) (Ts:List Tb),vs = [.ref f]/\FormAt H f sz Ts/\(∀ T ∈ Ts,cn T = T)/\(∀ T ∈ Ts,ColsOk H T.cols)/\Ts.length ≤ 8/\∀ l es ds H',Same H H'->H l = none->PartsAt H' l es ds Ts->Q (.ref l) H'
section
variable {P:Program} {w:World} {K:PySem.W.Frag} {mg:Str->Option Value} {base:Heap} {CT CO CN:Addr}
theorem ok_parts {f:Addr} {fd:FuncData} (F:Fun K "parts_of" "parts_of" (top 37) f fd) (B:Bl mg):FnOk P w K mg base CX0 1 f fd ["form"] spParts:=by
 have sc:FnScope ["form"] ["form"] (defScope (top 37)):=⟨rfl,rfl,rfl,by decide +kernel,rfl,by decide +kernel,by decide +kernel⟩
 refine F.ok sc (fun vs H Q E h=>?_) (fun cdv A outer s H vs Q E hr h=>?_)
 ·obtain ⟨f,sz,Ts,rfl,_⟩:=h
  rfl
 ·obtain ⟨f,sz,Ts,rfl,⟨tt,es0,h1,h2,h3,h4⟩,fx,co,t8,q⟩:=h
  refine ⟨_,pss_one (ps_ret (pe_comp (osc:=defScope (top 37)) (N0:=["form"]) (xs:=["name","sort","columns"]) (fr:=[]) ⟨rfl,by decide +kernel,by decide +kernel,by decide +kernel,by decide,by decide +kernel⟩ rfl rfl rfl (pi_tup (pe_ix ix_tup (pv 0) pe_int (fun _ _=>rfl)))
     (fun s H fp=>pg_tupK (K:=K) (n:=3) rfl rfl (pgs_cons (pg_name (i:=0) (show (["name","sort","columns"]:List Str).Nodup by decide +kernel) rfl (Or.inl rfl)) (pgs_cons (pg_name (i:=1) (show (["name","sort","columns"]:List Str).Nodup by decide +kernel) rfl (Or.inl rfl)) (pgs_cons (pg_name (i:=2) (show (["name","sort","columns"]:List Str).Nodup by decide +kernel) rfl (Or.inl rfl)) pgs_nil)))) (fun s H fp=>pif_nil)
     (fun s H fp=>pe_tup (pa_cons (pv 0) (pa_cons (pv 1) (pa_cons (pe_callTy (call_dictTK (K:=K) rfl rfl) (by rfl) B.dict boot_dict (pa_cons (pv 2) pa_nil)) pa_nil)))))),?_⟩
  refine ⟨_,rfl,_,_,1,_,rfl,rfl,SqT.of h1,rfl,tt,rfl,⟨_,SqT.of h2⟩,fun D hD=>?_⟩
  refine compW_idx Ts.length (fun i ys σ' Hc=>(∃ t0 t1 t2,σ' = [t0,t1,t2])/\Same H Hc/\∃ es ds:List Addr,ys = es.map V.ref/\ds.length = i/\∀ (j:Nat) (e d:Addr) (T:Tb),es[j]? = some e->ds[j]? = some d->Ts[j]? = some T->PartAt Hc e d T) (by rw [sizeLine_eq];omega) ⟨⟨_,_,_,rfl⟩,Same.upd hD,[],[],rfl,rfl,fun j e d T h=>nomatch h⟩ upd_same ?_ ?_
  ·rintro i σ' Hc ys hi ⟨⟨t0,t1,t2,rfl⟩,sm,es,ds,rfl,hdl,hpt⟩ hyl hD'
   rw [List.length_map] at hyl
   have hie:i < es0.length:=by omega
   refine ⟨⟨_,V.ref es0[i],SqT.of (sm _ _ h2),by rw [List.getElem?_map,List.getElem?_eq_getElem hie];rfl⟩,?_⟩
   rintro x H' ⟨rfl,hx'⟩
   have ex:=hx' _ (SqT.of (sm _ _ h2))
   rw [List.getElem?_map,List.getElem?_eq_getElem hie] at ex
   cases ex
   obtain ⟨ct,g1,o,ps,zs,hpm,hso,ho,hct,hpl,hpz⟩:=h4 i es0[i] Ts[i] (List.getElem?_eq_getElem hie) (List.getElem?_eq_getElem hi)
   have eT:=fx Ts[i] (List.getElem_mem hi)
   have cT:=co Ts[i] (List.getElem_mem hi)
   obtain ⟨T,eTi⟩:∃ T,Ts[i] = T:=⟨_,rfl⟩
   rw [eTi] at g1 hpm hpz eT cT
   have hzl:zs.length ≤ 12:=by
    have:=hpm.length_eq
    rw [List.length_map] at this
    have:=cT.2.1
    omega
   have ekv:zs.map (fun z=>((.inr z:Key),vOf T.cols z)) = kvC T.cols:=by
    rw [srt_eq hpm hso,← kvC_cn,show cnC T.cols = T.cols from congrArg Tb.cols eT]
   refine ⟨_,_,rfl,SqT.of (sm _ _ g1),rfl,_,_,rfl,_,_,rfl,_,_,rfl,rfl,?_⟩
   refine ⟨_,rfl,_,rfl,_,rfl,ct,o,_,zs.map (fun z=>(.inr z,vOf T.cols z)),rfl,sm _ _ hct,ho,(by rw [List.length_map];omega),(by rw [List.length_map,List.length_map];omega),(fun j k v hj=>?_),?_,fun d1 n1=>?_⟩
   ·have hjz:j < zs.length:=by
     have:=(List.getElem?_eq_some_iff.mp hj).1
     rwa [List.length_map] at this
    have hjp:j < ps.length:=by omega
    rw [List.getElem?_map,List.getElem?_eq_getElem hjz] at hj
    cases hj
    exact ⟨ps[j],by rw [List.getElem?_map,List.getElem?_eq_getElem hjp];rfl,SqT.of (sm _ _ (hpz j ps[j] zs[j] (List.getElem?_eq_getElem hjp) (List.getElem?_eq_getElem hjz)))⟩
   ·rw [List.map_map]
    have e:((fun x:Key × V=>x.1) ∘ fun z=>((Sum.inr z:Key),vOf T.cols z)) = fun z=>(Sum.inr z:Key):=rfl
    rw [e]
    exact List.Pairwise.map _ (fun a b hab h=>hab (by injection h)) (hpm.nodup_iff.mpr cT.1)
   rw [ekv]
   have T3:=Same.upd (o:=.dK (kvC T.cols)) n1
   refine ⟨(by show 3 ≤ sizeLine;decide),fun p hp=>?_⟩
   have T4:=Same.upd (o:=.tup [.str T.name,.str T.sort,.ref d1]) hp
   have S4:=T3.trans T4
   have hD4:=S4 _ _ hD'
   refine ⟨hD4,⟨_,_,_,rfl⟩,(sm.trans S4).put hD,es ++ [p],ds ++ [d1],by rw [List.map_append];rfl,by rw [List.length_append,hdl];rfl,fun j e d T' a1 a2 a3=>?_⟩
   refine PartAt.besideL hD4 ?_
   by_cases hj:j < i
   ·rw [List.getElem?_append_left (by omega)] at a1 a2
    exact (hpt j e d T' a1 a2 a3).sb S4.sb
   ·have:j = i:=by
     have:=(List.getElem?_eq_some_iff.mp a1).1
     rw [List.length_append] at this
     simp at this
     omega
    subst this
    rw [List.getElem?_append_right (by omega),hyl,Nat.sub_self] at a1
    rw [List.getElem?_append_right (by omega),hdl,Nat.sub_self] at a2
    cases a1
    cases a2
    rw [List.getElem?_eq_getElem hi,eTi] at a3
    cases a3
    exact ⟨upd_same,T4 _ _ upd_same,cT.same (sm.trans S4)⟩
  ·rintro σ' Hc ys ⟨_,sm,es,ds,rfl,hdl,hpt⟩ hDn hyl
   rw [List.length_map] at hyl
   exact ⟨⟨_,SqT.of (sm _ _ h2),by rw [List.length_map];omega⟩,q D es ds Hc sm hD ⟨hDn,hyl,hdl,hpt⟩⟩
end
end My
namespace My
open PySem L2 PyProof.Rows
seal L2.PE L2.PT L2.PW L2.PS L2.PSs L2.PA L2.PI L2.PG L2.PGs L2.OpR L2.UnR L2.CallR L2.IxR L2.SlR L2.MtR L2.PIf L2.PO L2.MtM L2.PC L2.PIp L2.PSet L2.PGet L2.TruR L2.InOp L2.PK
theorem name_len {z:Str} (h:nameS z = true):z.length ≤ 8:=by
 unfold nameS at h
 exact (of_decide_eq_true (Bool.and_eq_true_iff.mp h).1).2
def spWithT (PF CN:Addr):Sp:=fun vs H Q E=>∃ (f:Addr) (sz:Int) (T0:Tb) (R:List Tb) (z so:Str) (cd:Addr) (cols:List (Str × V)),vs = [.ref f,.str z,.str so,.ref cd]/\FK H f sz T0 R/\H cd = some (.dK (kvC cols))/\ColsOk H cols/\z.length ≤ 9/\TabOk PF foPos foQ H ∧
 ((TsOk T0 (R ++ [⟨z,so,cols⟩])/\∀ f' H',Sb H H'->Fr PF H H'->TabOk PF foPos foQ H'->FAt H' f' sz T0 (R ++ [⟨z,so,cols⟩])->Q (.ref f') H') ∨
  ((so ∉ sides\/(so ∈ sides/\(nameS z = false\/z ∈ (T0 :: R).map (·.name))))/\∀ H',Same H H'->E (.ref CN) none H'))
section
variable {P:Program} {w:World} {K:PySem.W.Frag} {mg:Str->Option Value} {base:Heap} {CT CO CN PF:Addr}
theorem ok_withT {f fF fP:Addr} {fd fdF fdP:FuncData} (F:Fun K "with_table" "with_table" (top 39) f fd) (DF:Df K mg "form_of" (top 29) fF fdF) (GF:FnOk P w K mg base (CX1 P w) 6 fF fdF ["size","tables"] (spOr (spForm PF) (spFormB CN))) (DP:Df K mg "parts_of" (top 37) fP fdP) (GP:FnOk P w K mg base CX0 1 fP fdP ["form"] spParts) :
  FnOk P w K mg base (CX1 P w) 7 f fd ["form","name","sort","columns"] (spWithT PF CN):=by
 have sc:FnScope ["form","name","sort","columns"] ["form","name","sort","columns"] (defScope (top 39)):=⟨rfl,rfl,rfl,by decide +kernel,rfl,by decide +kernel,by decide +kernel⟩
 have bF:=DF.fn.binds (ps:=["size","tables"]) fun _ _ _ _ _ _ us hl=>by obtain ⟨v0,v1,rfl⟩:=L2.ln2 hl;rfl
 have bP:=DP.fn.binds (ps:=["form"]) fun _ _ _ _ _ _ us hl=>by obtain ⟨v0,rfl⟩:=L2.ln1 hl;rfl
 refine F.x.okX sc (fun vs H Q E h=>?_) (fun cdv A outer s H vs Q E hr h=>?_)
 ·obtain ⟨f,sz,T0,R,z,so,cd,cols,rfl,_⟩:=h
  rfl
 ·obtain ⟨f,sz,T0,R,z,so,cd,cols,rfl,fk,hcd,hco,z9,tab,q⟩:=h
  have hr1:Room 1 _:=hr.mono (by decide)
  refine ⟨_,pss_one (ps_ret (pe_callX GF hr (by rfl) DF.mg DF.fn.kp bF .nil lands_cx (pa_cons (pe_ix ix_tup (pv 0) pe_int (fun _ _=>rfl)) (pa_cons (pe_op op_cat (pe_call GP hr1 (by rfl) DP.mg DP.fn.kp bP .nil pass0 (pa_cons (pv 0) pa_nil)) (pe_lst (pa_cons (pe_tup (pa_cons (pv 1) (pa_cons (pv 2) (pa_cons (pv 3) pa_nil)))) pa_nil))) pa_nil)))),?_⟩
  obtain ⟨U,hF,hU,fx,co,t8,tsU,eU⟩:=fk.get
  have hF1:=hF
  obtain ⟨tt,es0,h1,_⟩:=hF1
  refine ⟨_,rfl,_,_,0,_,rfl,rfl,SqT.of h1,rfl,?_⟩
  refine ⟨_,rfl,f,sz,cn T0 :: U,rfl,hF,fx,co,t8,fun l es ds H1 s1 nl hP=>?_⟩
  refine ⟨_,rfl,_,rfl,_,rfl,(by show 3 ≤ sizeLine;decide),fun p hp=>?_⟩
  have T1:=Same.upd (o:=.tup [.str z,.str so,.ref cd]) hp
  refine ⟨(by show 1 ≤ sizeLine;decide),fun l2 hl2=>?_⟩
  have T2:=Same.upd (o:=.lst [V.ref p]) hl2
  have hel:es.length ≤ 8:=by rw [hP.2.1];exact t8
  refine ⟨l,l2,_,_,rfl,rfl,T2 _ _ (T1 _ _ hP.1),upd_same,?_,fun l3 e3=>?_⟩
  ·rw [List.length_map,sizeLine_eq]
   simp only [List.length_cons,List.length_nil]
   omega
  have T3:=Same.upd (o:=.lst (es.map V.ref ++ [V.ref p])) e3
  have S3:=T1.trans (T2.trans T3)
  have SH:=s1.trans S3
  have hl3:(L2.upd (L2.upd (L2.upd H1 p (.tup [.str z,.str so,.ref cd])) l2 (.lst [V.ref p])) l3 (.lst (es.map V.ref ++ [V.ref p]))) l3 = some (.lst ((es ++ [p]).map V.ref)):=by rw [upd_same,List.map_append];rfl
  have hp3:(L2.upd (L2.upd (L2.upd H1 p (.tup [.str z,.str so,.ref cd])) l2 (.lst [V.ref p])) l3 (.lst (es.map V.ref ++ [V.ref p]))) p = some (.tup [.str z,.str so,.ref cd]):=(T2.trans T3) _ _ upd_same
  rcases q with ⟨ts,q⟩ | ⟨bad,q⟩
  ·refine Or.inl ⟨l3,sz,es ++ [p],ds ++ [cd],cn T0,U ++ [⟨z,so,cols⟩],rfl,fk.sz1,(hP.same S3).snoc hl3 ⟨hp3,SH _ _ hcd,hco.same SH⟩,ts.perm rfl ?_,tab.same SH,fun f' H' V sb fr tb pV hr hf=>?_⟩
   ·rw [List.map_append,List.map_append]
    refine List.Perm.append_right _ ?_
    rw [← map_nmS_cn R]
    exact hU.map _
   ·refine q f' H' (SH.sb.trans sb) (fun b o nb e=>fr b o nb (SH b o e)) tb (FAt.of hf (cn_cn T0) pV ?_ hr)
    rw [List.map_append,List.map_append]
    refine List.Perm.append_right _ ?_
    rw [eU]
    exact hU
  ·refine Or.inr ⟨l3,sz,es ++ [p],(cn T0 :: U) ++ [⟨z,so,cols⟩],rfl,fk.sz1,(hP.same S3).list.snoc hl3 hp3,(by rw [List.length_append];simp only [List.length_cons,List.length_nil] at *;omega),?_⟩
   have q':=fun H' s'=>q H' (SH.trans s')
   obtain ⟨_,nd,hn,hh,hs⟩:=tsU
   rcases bad with b | ⟨b1,b2⟩
   ·refine .inl ⟨.inr ⟨so,?_,b⟩,q'⟩
    rw [List.map_append,List.map_cons,List.cons_append]
    exact List.mem_append_right _ (List.mem_singleton.mpr rfl)
   ·refine .inr (.inl ⟨⟨U.map (·.sort) ++ [so],?_,fun y hy=>?_⟩,fun T hT=>?_,?_,q'⟩)
    ·rw [List.map_append,List.map_cons,List.cons_append,hh]
     rfl
    ·rcases List.mem_append.mp hy with h | h
     ·obtain ⟨T,hT,rfl⟩:=List.mem_map.mp h
      exact hs T hT
     ·rw [List.mem_singleton.mp h]
      exact b1
    ·rcases List.mem_append.mp hT with h | h
     ·have:=name_len (hn T h)
      omega
     ·rw [List.mem_singleton.mp h]
      exact z9
    ·rcases b2 with b2 | b2
     ·refine .inl ⟨z,?_,b2⟩
      rw [List.map_append]
      exact List.mem_append_right _ (List.mem_singleton.mpr rfl)
     ·refine .inr fun hnd=>?_
      rw [List.map_append] at hnd
      have hz:z ∈ (cn T0 :: U).map (·.name):=by
       rw [List.map_cons] at b2 ⊢
       have:(U.map (·.name)).Perm (R.map (·.name)):=by
        rw [← map_name_cn R]
        exact hU.map _
       exact (this.cons T0.name).mem_iff.mpr b2
      exact (List.nodup_append.mp hnd).2.2 z hz z (List.mem_singleton.mpr rfl) rfl
end
end My
namespace My
open PySem L2 PyProof.Rows
seal L2.PE L2.PT L2.PW L2.PS L2.PSs L2.PA L2.PI L2.PG L2.PGs L2.OpR L2.UnR L2.CallR L2.IxR L2.SlR L2.MtR L2.PIf L2.PO L2.MtM L2.PC L2.PIp L2.PSet L2.PGet L2.TruR L2.InOp L2.PK
def rc (z:Str) (cols:List (Str × V)) (T:Tb):Tb:=if T.name = z then ⟨T.name,T.sort,cols⟩ else T
theorem rc_nm (z:Str) (cols:List (Str × V)) (T:Tb):nmS (rc z cols T) = nmS T:=by
 unfold rc
 split <;> rfl
theorem cn_rc (z:Str) (cols:List (Str × V)) (T:Tb):cn (rc z cols (cn T)) = cn (rc z cols T):=by
 unfold rc
 show cn (if T.name = z then _ else _) = _
 split
 ·rfl
 ·exact cn_cn T
def spWithC (PF CO CN:Addr):Sp:=fun vs H Q E=>∃ (f:Addr) (sz:Int) (T0:Tb) (R:List Tb) (z:Str) (cd:Addr),vs = [.ref f,.str z,.ref cd]/\FK H f sz T0 R/\TabOk PF foPos foQ H ∧
 ((z ∉ (T0 :: R).map (·.name)/\∀ dx H',H dx = none->H' dx = some (.ext (dctP dx (stp z)))->Same H H'->E (.ref CO) (some dx) H') ∨
  (z ∈ (T0 :: R).map (·.name) ∧
   ((∃ cols,H cd = some (.dK (kvC cols))/\ColsOk H cols/\∀ f' H',Sb H H'->Fr PF H H'->TabOk PF foPos foQ H'->FAt H' f' sz (rc z cols T0) (R.map (rc z cols))->Q (.ref f') H') ∨
   (BadCol H cd/\∀ H',Sl cd H H'->E (.ref CN) none H'))))
def wcN:List Str:=["form","table","columns","parts","name","sort","had"]
theorem names_cn {U R:List Tb} {T0:Tb} (h:U.Perm (R.map cn)):((cn T0 :: U).map (·.name)).Perm ((T0 :: R).map (·.name)):=by
 rw [List.map_cons,List.map_cons]
 refine List.Perm.cons _ ?_
 rw [← map_name_cn R]
 exact h.map _
section
variable {P:Program} {w:World} {K:PySem.W.Frag} {mg:Str->Option Value} {base:Heap} {CT CO CN PF:Addr}
theorem ok_withC {fself fF fP fT:Addr} {fd fdF fdP fdT:FuncData} (F:Fun K "with_columns" "with_columns" (top 38) fself fd) (DF:Df K mg "form_of" (top 29) fF fdF) (GF:FnOk P w K mg base (CX1 P w) 6 fF fdF ["size","tables"] (spOr (spForm PF) (spFormB CN))) (DP:Df K mg "parts_of" (top 37) fP fdP) (GP:FnOk P w K mg base CX0 1 fP fdP ["form"] spParts)
  (DT:Df K mg "table_in" (top 36) fT fdT) (GT:FnOk P w K mg base (CX1 P w) 3 fT fdT ["form","table"] (spOr spTabIn (spNoTab CO))) :
  FnOk P w K mg base (CX1 P w) 7 fself fd ["form","table","columns"] (spWithC PF CO CN):=by
 have sc:FnScope wcN ["form","table","columns"] (defScope (top 38)):=⟨rfl,rfl,rfl,by decide +kernel,rfl,by decide +kernel,by decide +kernel⟩
 have bF:=DF.fn.binds (ps:=["size","tables"]) fun _ _ _ _ _ _ us hl=>by obtain ⟨v0,v1,rfl⟩:=L2.ln2 hl;rfl
 have bP:=DP.fn.binds (ps:=["form"]) fun _ _ _ _ _ _ us hl=>by obtain ⟨v0,rfl⟩:=L2.ln1 hl;rfl
 have bT:=DT.fn.binds (ps:=["form","table"]) fun _ _ _ _ _ _ us hl=>by obtain ⟨v0,v1,rfl⟩:=L2.ln2 hl;rfl
 refine F.x.okX sc (fun vs H Q E h=>?_) (fun cdv A outer s H vs Q E hr h=>?_)
 ·obtain ⟨f,sz,T0,R,z,cd,rfl,_⟩:=h
  rfl
 ·obtain ⟨f,sz,T0,R,z,cd,rfl,fk,tab,q⟩:=h
  have hr1:Room 1 _:=hr.mono (by decide)
  have hr3:Room 3 _:=hr.mono (by decide)
  refine ⟨_,pss_cons (ps_expr (pe_callX GT hr3 (by rfl) DT.mg DT.fn.kp bT .nil lands_cx (pa_cons (pv 0) (pa_cons (pv 1) pa_nil))))
   (pss_cons (ps_set (i:=3) sc.nd rfl (Or.inl rfl) (pe_lst pa_nil))
   (pss_cons (ps_for PassesOwn.leaving rfl (pi_list (pe_call GP hr1 (by rfl) DP.mg DP.fn.kp bP .nil pass0 (pa_cons (pv 0) pa_nil))) (pg_tup rfl (pgs_cons (pg_name (i:=4) sc.nd rfl (Or.inl rfl)) (pgs_cons (pg_name (i:=5) sc.nd rfl (Or.inl rfl)) (pgs_cons (pg_name (i:=6) sc.nd rfl (Or.inl rfl)) pgs_nil))))
    (pss_one (ps_expr (pe_bm PySem.F.plainAttrs_list PySem.F.slot_list_append PySem.F.type_list_append mt_app (pv 3) (pa_cons (pe_tup (pa_cons (pv 4) (pa_cons (pv 5) (pa_cons (pe_ifExp (pt_cmpR op_eq (pv 4) (pv 1) (nomark _)) (pv 2) (pv 6)) pa_nil)))) pa_nil)))))
   (pss_one (ps_ret (pe_callX GF hr (by rfl) DF.mg DF.fn.kp bF .nil lands_cx (pa_cons (pe_ix ix_tup (pv 0) pe_int (fun _ _=>rfl)) (pa_cons (pv 3) pa_nil))))))),?_⟩
  obtain ⟨U,hF,hU,fx,co,t8,tsU,eU⟩:=fk.get
  have hF1:=hF
  obtain ⟨tt,es0,h1,_⟩:=hF1
  have pN:=names_cn (T0:=T0) hU
  refine ⟨_,rfl,_,rfl,?_⟩
  rcases q with ⟨hz,q⟩ | ⟨hz,q⟩
  ·exact Or.inr ⟨f,sz,cn T0 :: U,z,rfl,hF,fun h=>hz (pN.mem_iff.mp h),q⟩
  obtain ⟨Tz,hTz,eTz⟩:=List.mem_map.mp (pN.mem_iff.mpr hz)
  refine Or.inl ⟨f,sz,cn T0 :: U,Tz,(by rw [eTz];rfl),hF,tsU.2.1,hTz,fun e _=>?_⟩
  refine ⟨Nat.zero_le _,fun D hD=>?_⟩
  have T1:=Same.upd (o:=.lst []) hD
  refine ⟨_,rfl,f,sz,cn T0 :: U,rfl,hF.same T1,fx,(fun T hT=>(co T hT).same T1),t8,fun l es ds H2 s2 nl hP=>?_⟩
  have S2:=T1.trans s2
  have hD2:H2 D = some (.lst []):=s2 _ _ upd_same
  generalize eTs:(cn T0 :: U) = Ts at *
  obtain ⟨hl,e1l,e2l,hpt⟩:=id hP
  have lD:l ≠ D:=fun e=>by rw [e,hD2] at hl;cases es <;> simp at hl;subst eTs;simp at e1l
  let dn:Nat->Addr:=fun j=>if (Ts.map (fun T:Tb=>T.name)).getD j ("":Str) = z then cd else ds.getD j 0
  refine ⟨l,rfl,⟨_,SqL.of hl⟩,for_list (K:=K) (a:=l) (xs:=es.map V.ref) (fun i σ Hc=>∃ (rs:List Addr) (u4 u5 u6:Option V),σ = [some (.ref f),some (.str z),some (.ref cd),some (.ref D),u4,u5,u6]/\Sl D H2 Hc/\Hc D = some (.lst (rs.map V.ref))/\rs.length = i/\∀ (j:Nat) (e:Addr) (T:Tb),rs[j]? = some e->Ts[j]? = some T->Hc e = some (.tup [.str T.name,.str T.sort,.ref (dn j)])) ⟨[],_,_,_,rfl,Sl.of (Same.refl _),hD2,rfl,fun j e T h=>nomatch h⟩ (fun i σ Hc _ pp=>by obtain ⟨rs,u4,u5,u6,_,sl,_⟩:=pp;exact SqL.of (sl _ _ lD hl)) ?_ ?_⟩
  ·rintro i x σ Hc hx ⟨rs,u4,u5,u6,rfl,sl,hDc,hrl,hent⟩
   have hie:i < es.length:=by
    have:=(List.getElem?_eq_some_iff.mp hx).1
    rwa [List.length_map] at this
   have hid:i < ds.length:=by omega
   have hit:i < Ts.length:=by omega
   rw [List.getElem?_map,List.getElem?_eq_getElem hie] at hx
   cases hx
   have pt:=hpt i es[i] ds[i] Ts[i] (List.getElem?_eq_getElem hie) (List.getElem?_eq_getElem hid) (List.getElem?_eq_getElem hit)
   have ne1:es[i] ≠ D:=fun q=>by have:=pt.1;rw [q,hD2] at this;cases this
   have edn:dn i = if Ts[i].name = z then cd else ds[i]:=by
    show (if (Ts.map (fun T:Tb=>T.name)).getD i ("":Str) = z then cd else ds.getD i 0) = _
    rw [List.getD_eq_getElem?_getD,List.getD_eq_getElem?_getD,List.getElem?_map,List.getElem?_eq_getElem hit,List.getElem?_eq_getElem hid]
    rfl
   refine ⟨_,_,rfl,SqT.of (sl _ _ ne1 pt.1),rfl,_,_,rfl,_,_,rfl,_,_,rfl,rfl,?_⟩
   refine ⟨_,rfl,.inl ⟨rfl,_,SqL.of hDc⟩,_,rfl,_,rfl,_,rfl,_,rfl,rfl,_,rfl,?_⟩
   have fin:∀ dd:Addr,dn i = dd->([V.str Ts[i].name,.str Ts[i].sort,.ref dd].length ≤ sizeLine/\∀ p,Hc p = none->∃ d ys v,V.ref D = .ref d/\[V.ref p] = [v]/\(L2.upd Hc p (.tup [.str Ts[i].name,.str Ts[i].sort,.ref dd])) d = some (.lst ys)/\ys.length < sizeLine ∧
     ∃ (rs:List Addr) (u4 u5 u6:Option V),[some (.ref f),some (.str z),some (.ref cd),some (.ref D),some (.str Ts[i].name),some (.str Ts[i].sort),some (.ref ds[i])] = [some (.ref f),some (.str z),some (.ref cd),some (.ref D),u4,u5,u6]/\Sl D H2 (L2.upd (L2.upd Hc p (.tup [.str Ts[i].name,.str Ts[i].sort,.ref dd])) d (.lst (ys ++ [v])))/\(L2.upd (L2.upd Hc p (.tup [.str Ts[i].name,.str Ts[i].sort,.ref dd])) d (.lst (ys ++ [v]))) D = some (.lst (rs.map V.ref))/\rs.length = i + 1/\∀ (j:Nat) (e:Addr) (T:Tb),rs[j]? = some e->Ts[j]? = some T->(L2.upd (L2.upd Hc p (.tup [.str Ts[i].name,.str Ts[i].sort,.ref dd])) d (.lst (ys ++ [v]))) e = some (.tup [.str T.name,.str T.sort,.ref (dn j)])):=by
    intro dd edd
    refine ⟨(by show 3 ≤ sizeLine;decide),fun p hp=>?_⟩
    have T5:=Same.upd (o:=.tup [.str Ts[i].name,.str Ts[i].sort,.ref dd]) hp
    have hD5:=T5 _ _ hDc
    have pD:p ≠ D:=fun q=>by rw [q,hDc] at hp;cases hp
    refine ⟨D,_,_,rfl,rfl,hD5,by rw [List.length_map,hrl,sizeLine_eq];omega,rs ++ [p],_,_,_,rfl,sl.put T5,by rw [upd_same,List.map_append];rfl,by rw [List.length_append,hrl];rfl,fun j e T a1 a2=>?_⟩
    by_cases hj:j < rs.length
    ·rw [List.getElem?_append_left hj] at a1
     have he:=hent j e T a1 a2
     rw [upd_ne (fun q=>by rw [q,hDc] at he;cases he)]
     exact T5 _ _ he
    ·have hj':j = rs.length:=by
      have:=(List.getElem?_eq_some_iff.mp a1).1
      rw [List.length_append] at this
      simp at this
      omega
     subst hj'
     rw [List.getElem?_append_right (Nat.le_refl _),Nat.sub_self] at a1
     cases a1
     rw [hrl,List.getElem?_eq_getElem hit] at a2
     cases a2
     rw [upd_ne pD,upd_same,hrl,edd]
   refine ite2 (fun hc=>?_) (fun hc=>?_)
   ·have en:Ts[i].name = z:=by
     have:=of_decide_eq_true hc
     injection this
    exact ⟨_,rfl,fin cd (by rw [edn,if_pos en])⟩
   ·have en:¬ Ts[i].name = z:=fun e=>hc (by rw [e];exact decide_eq_true rfl)
    exact ⟨_,rfl,fin ds[i] (by rw [edn,if_neg en])⟩
  ·rintro σ Hc ⟨rs,u4,u5,u6,rfl,sl,hDc,hrl,hent⟩
   rw [List.length_map] at hrl
   have SC:Same H Hc:=fun b o e=>sl b o (fun q=>by rw [q,hD] at e;cases e) (S2 b o e)
   refine ⟨_,rfl,_,_,0,_,rfl,rfl,SqT.of (SC _ _ h1),rfl,_,rfl,?_⟩
   have part:∀ {j:Nat} {e:Addr} {T:Tb},rs[j]? = some e->Ts[j]? = some T->¬ T.name = z->PartAt Hc e (dn j) T:=fun {j e T} a1 a2 n=>by
    have hjt:j < Ts.length:=(List.getElem?_eq_some_iff.mp a2).1
    have hje:j < es.length:=by omega
    have hjd:j < ds.length:=by omega
    have pt:=hpt j es[j] ds[j] T (List.getElem?_eq_getElem hje) (List.getElem?_eq_getElem hjd) a2
    have edn:dn j = ds[j]:=by
     show (if (Ts.map (fun T:Tb=>T.name)).getD j ("":Str) = z then cd else ds.getD j 0) = _
     rw [List.getD_eq_getElem?_getD,List.getD_eq_getElem?_getD,List.getElem?_map,a2,List.getElem?_eq_getElem hjd]
     exact if_neg n
    refine ⟨hent j e T a1 a2,?_,(co T (List.mem_of_getElem? a2)).same SC⟩
    rw [edn]
    exact sl _ _ (fun q=>by have:=pt.2.1;rw [q,hD2] at this;cases this) pt.2.1
   have dnz:∀ {j:Nat} {T:Tb},Ts[j]? = some T->T.name = z->dn j = cd:=fun {j T} a2 n=>by
    show (if (Ts.map (fun T:Tb=>T.name)).getD j ("":Str) = z then cd else ds.getD j 0) = _
    rw [List.getD_eq_getElem?_getD,List.getElem?_map,a2]
    exact if_pos n
   rcases q with ⟨cols,hcd,hco,q⟩ | ⟨bc,q⟩
   ·have nmX:(U.map (rc z cols)).map nmS = U.map nmS:=by
     rw [List.map_map]
     exact List.map_congr_left fun T _=>rc_nm z cols T
    refine Or.inl ⟨D,sz,rs,(List.range rs.length).map dn,rc z cols (cn T0),U.map (rc z cols),rfl,fk.sz1,⟨hDc,?_,?_,fun j e d T a1 a2 a3=>?_⟩,tsU.perm (rc_nm z cols (cn T0)) (by rw [nmX]),tab.same SC,fun f' H' V sb fr tb pV hr hf=>?_⟩
    ·rw [hrl,e1l,← eTs]
     simp
    ·rw [List.length_map,List.length_range,hrl,e1l,← eTs]
     simp
    ·have hjr:j < rs.length:=(List.getElem?_eq_some_iff.mp a1).1
     rw [List.getElem?_map,List.getElem?_range hjr] at a2
     cases a2
     have a3':(Ts.map (rc z cols))[j]? = some T:=by rw [← eTs];exact a3
     rw [List.getElem?_map] at a3'
     obtain ⟨T',hT',rfl⟩:=Option.map_eq_some_iff.mp a3'
     by_cases n:T'.name = z
     ·have hrc:rc z cols T' = ⟨T'.name,T'.sort,cols⟩:=if_pos n
      rw [hrc]
      refine ⟨hent j e T' a1 hT',?_,hco.same SC⟩
      rw [dnz hT' n]
      exact SC _ _ hcd
     ·have hrc:rc z cols T' = T':=if_neg n
      rw [hrc]
      exact part a1 hT' n
    ·refine q f' H' (SC.sb.trans sb) (fun b o nb e=>fr b o nb (SC b o e)) tb (FAt.of hf (cn_rc z cols T0) pV ?_ hr)
     have:((R.map cn).map (rc z cols)).map cn = (R.map (rc z cols)).map cn:=by
      rw [List.map_map,List.map_map,List.map_map]
      exact List.map_congr_left fun T _=>cn_rc z cols T
     rw [← this]
     exact (hU.map _).map _
   ·obtain ⟨j0,hj0,ej0⟩:=List.mem_iff_getElem.mp hTz
    have hjr:j0 < rs.length:=by omega
    have aT:Ts[j0]? = some Tz:=by rw [List.getElem?_eq_getElem hj0,ej0]
    refine Or.inr ⟨D,sz,rs,Ts,rfl,fk.sz1,⟨hDc,by omega,fun j e T a1 a2=>⟨_,hent j e T a1 a2⟩⟩,by omega,.inr (.inr ⟨?_,?_,?_,cd,⟨j0,rs[j0],Tz,List.getElem?_eq_getElem hjr,aT,?_,bc.same SC,fun j e T hjj a1 a2=>⟨_,part a1 a2 fun n=>?_⟩⟩,fun H' s'=>q H' fun b o nb e=>s' b o nb (SC b o e)⟩)⟩
    ·rw [← eTs]
     refine ⟨U.map (·.sort),by rw [List.map_cons,tsU.2.2.2.1],fun y hy=>?_⟩
     obtain ⟨T,hT,rfl⟩:=List.mem_map.mp hy
     exact tsU.2.2.2.2 T hT
    ·rw [← eTs];exact tsU.2.1
    ·rw [← eTs];exact tsU.2.2.1
    ·rw [hent j0 _ Tz (List.getElem?_eq_getElem hjr) aT,dnz aT eTz]
    ·have hjt:j < Ts.length:=(List.getElem?_eq_some_iff.mp a2).1
     have nd:=tsU.2.1
     rw [eTs] at nd
     have:j = j0:=by
      refine (List.getElem_inj (h₀:=by rw [List.length_map];exact hjt) (h₁:=by rw [List.length_map];exact hj0) nd).mp ?_
      rw [List.getElem_map,List.getElem_map,ej0]
      rw [List.getElem?_eq_getElem hjt] at a2
      cases a2
      exact n.trans eTz.symm
     omega
end
end My
namespace My
open PySem L2 PyProof.Rows
seal L2.PE L2.PT L2.PW L2.PS L2.PSs L2.PA L2.PI L2.PG L2.PGs L2.OpR L2.UnR L2.CallR L2.IxR L2.SlR L2.MtR L2.PIf L2.PO L2.MtM L2.PC L2.PIp L2.PSet L2.PGet L2.TruR L2.InOp L2.PK
def nz (z:Str) (T:Tb):Bool:=decide (T.name ≠ z)
def spWithout (PF CO CN:Addr):Sp:=fun vs H Q E=>∃ (f:Addr) (sz:Int) (T0:Tb) (R:List Tb) (z:Str),vs = [.ref f,.str z]/\FK H f sz T0 R/\TabOk PF foPos foQ H ∧
 ((z ∉ (T0 :: R).map (·.name)/\∀ dx H',H dx = none->H' dx = some (.ext (dctP dx (stp z)))->Same H H'->E (.ref CO) (some dx) H') ∨
  (z = T0.name/\∀ H',Same H H'->E (.ref CN) none H') ∨
  (z ∈ R.map (·.name)/\∀ f' H',Sb H H'->Fr PF H H'->TabOk PF foPos foQ H'->FAt H' f' sz T0 (R.filter (nz z))->Q (.ref f') H'))
def PP (H:Hp) (es ds:List Addr) (Ts:List Tb):Prop:=es.length = Ts.length/\ds.length = Ts.length/\∀ (j:Nat) (e d:Addr) (T:Tb),es[j]? = some e->ds[j]? = some d->Ts[j]? = some T->PartAt H e d T
theorem PP.snoc {H:Hp} {p cd:Addr} {es ds:List Addr} {Ts:List Tb} {T:Tb} (h:PP H es ds Ts) (hp:PartAt H p cd T):PP H (es ++ [p]) (ds ++ [cd]) (Ts ++ [T]):=by
 obtain ⟨h2,h3,h4⟩:=h
 refine ⟨by rw [List.length_append,List.length_append,h2];rfl,by rw [List.length_append,List.length_append,h3];rfl,fun j e d T' a b c=>?_⟩
 by_cases hj:j < Ts.length
 ·rw [List.getElem?_append_left (by omega)] at a b c
  exact h4 j e d T' a b c
 ·have:j = Ts.length:=by
   have:=(List.getElem?_eq_some_iff.mp c).1
   rw [List.length_append] at this
   simp at this
   omega
  subst this
  rw [List.getElem?_append_right (by omega),h2,Nat.sub_self] at a
  rw [List.getElem?_append_right (by omega),h3,Nat.sub_self] at b
  rw [List.getElem?_append_right (by omega),Nat.sub_self] at c
  cases a
  cases b
  cases c
  exact hp
theorem PP.map {H H':Hp} {es ds:List Addr} {Ts:List Tb} (h:PP H es ds Ts) (k:∀ e d T,PartAt H e d T->PartAt H' e d T):PP H' es ds Ts:=⟨h.1,h.2.1,fun j e d T a b c=>k e d T (h.2.2 j e d T a b c)⟩
theorem TsOk.filter {T0:Tb} {R:List Tb} (h:TsOk T0 R) (p:Tb->Bool):TsOk T0 (R.filter p):=by
 obtain ⟨h7,nd,hn,hh,hs⟩:=h
 have sl:(R.filter p).Sublist R:=List.filter_sublist
 refine ⟨Nat.le_trans sl.length_le h7,nd.sublist ((sl.cons₂ T0).map _),fun T hT=>?_,hh,fun T hT=>hs T (sl.subset hT)⟩
 exact hn T ((sl.cons₂ T0).subset hT)
section
variable {P:Program} {w:World} {K:PySem.W.Frag} {mg:Str->Option Value} {base:Heap} {CT CO CN PF:Addr}
theorem ok_without {fself fF fP fT:Addr} {fd fdF fdP fdT:FuncData} (F:Fun K "without_table" "without_table" (top 40) fself fd) (DF:Df K mg "form_of" (top 29) fF fdF) (GF:FnOk P w K mg base (CX1 P w) 6 fF fdF ["size","tables"] (spOr (spForm PF) (spFormB CN))) (DP:Df K mg "parts_of" (top 37) fP fdP) (GP:FnOk P w K mg base CX0 1 fP fdP ["form"] spParts)
  (DT:Df K mg "table_in" (top 36) fT fdT) (GT:FnOk P w K mg base (CX1 P w) 3 fT fdT ["form","table"] (spOr spTabIn (spNoTab CO))) :
  FnOk P w K mg base (CX1 P w) 7 fself fd ["form","name"] (spWithout PF CO CN):=by
 have sc:FnScope ["form","name"] ["form","name"] (defScope (top 40)):=⟨rfl,rfl,rfl,by decide +kernel,rfl,by decide +kernel,by decide +kernel⟩
 have bF:=DF.fn.binds (ps:=["size","tables"]) fun _ _ _ _ _ _ us hl=>by obtain ⟨v0,v1,rfl⟩:=L2.ln2 hl;rfl
 have bP:=DP.fn.binds (ps:=["form"]) fun _ _ _ _ _ _ us hl=>by obtain ⟨v0,rfl⟩:=L2.ln1 hl;rfl
 have bT:=DT.fn.binds (ps:=["form","table"]) fun _ _ _ _ _ _ us hl=>by obtain ⟨v0,v1,rfl⟩:=L2.ln2 hl;rfl
 refine F.x.okX sc (fun vs H Q E h=>?_) (fun cdv A outer s H vs Q E hr h=>?_)
 ·obtain ⟨f,sz,T0,R,z,rfl,_⟩:=h
  rfl
 ·obtain ⟨f,sz,T0,R,z,rfl,fk,tab,q⟩:=h
  have hr1:Room 1 _:=hr.mono (by decide)
  have hr3:Room 3 _:=hr.mono (by decide)
  refine ⟨_,pss_cons (ps_expr (pe_callX GT hr3 (by rfl) DT.mg DT.fn.kp bT .nil lands_cx (pa_cons (pv 0) (pa_cons (pv 1) pa_nil))))
   (pss_one (ps_ret (pe_callX GF hr (by rfl) DF.mg DF.fn.kp bF .nil lands_cx (pa_cons (pe_ix ix_tup (pv 0) pe_int (fun _ _=>rfl)) (pa_cons (pe_comp (osc:=defScope (top 40)) (N0:=["form","name"]) (xs:=["part"]) (fr:=[1]) ⟨rfl,by decide +kernel,by decide +kernel,by decide +kernel,(fun j hj=>by
       have e:j = 1:=by simpa using hj
       subst e
       exact ⟨_,rfl,by decide +kernel⟩),by decide +kernel⟩ rfl rfl rfl (pi_list (pe_call GP hr1 (by rfl) DP.mg DP.fn.kp bP .nil pass0 (pa_cons (pv 0) pa_nil)))
      (fun s H fp=>pg_name (i:=0) (show (["part","name"]:List Str).Nodup by decide +kernel) rfl (Or.inl rfl)) (fun s H fp=>pif_one (pt_cmpR op_ne (pe_ix (r:=rIxT K) ix_tup (pv 0) pe_int (fun _ _=>rfl)) (pv 1) (nomark _)))
      (fun s H fp=>pv 0)) pa_nil))))),?_⟩
  obtain ⟨U,hF,hU,fx,co,t8,tsU,eU⟩:=fk.get
  have hF1:=hF
  obtain ⟨tt,es0,h1,_⟩:=hF1
  have pN:=names_cn (T0:=T0) hU
  refine ⟨_,rfl,_,rfl,?_⟩
  rcases q with ⟨hz,q⟩ | q
  ·exact Or.inr ⟨f,sz,cn T0 :: U,z,rfl,hF,fun h=>hz (pN.mem_iff.mp h),q⟩
  have hz:z ∈ (T0 :: R).map (·.name):=by
   rw [List.map_cons]
   rcases q with ⟨h,_⟩ | ⟨h,_⟩
   ·rw [h];exact List.mem_cons_self
   ·exact List.mem_cons_of_mem _ h
  obtain ⟨Tz,hTz,eTz⟩:=List.mem_map.mp (pN.mem_iff.mpr hz)
  refine Or.inl ⟨f,sz,cn T0 :: U,Tz,(by rw [eTz];rfl),hF,tsU.2.1,hTz,fun e _=>?_⟩
  refine ⟨_,rfl,_,_,0,_,rfl,rfl,SqT.of h1,rfl,?_⟩
  refine ⟨_,rfl,f,sz,cn T0 :: U,rfl,hF,fx,co,t8,fun l es ds H2 s2 nl hP=>?_⟩
  generalize eTs:(cn T0 :: U) = Ts at *
  obtain ⟨hl,e1l,e2l,hpt⟩:=id hP
  refine ⟨l,rfl,⟨_,SqL.of hl⟩,fun D hD=>?_⟩
  refine compW_flt Ts.length (fun i ys σ' Hc=>(∃ t,σ' = [t,some (.str z)])/\Same H2 Hc/\∃ es' ds':List Addr,ys = es'.map V.ref/\PP Hc es' ds' ((Ts.take i).filter (nz z))) (by rw [sizeLine_eq];omega) ⟨⟨_,rfl⟩,Same.upd hD,[],[],rfl,rfl,rfl,fun j e d T h=>nomatch h⟩ upd_same ?_ ?_
  ·rintro i σ' Hc ys hi ⟨⟨t,rfl⟩,sm,es',ds',rfl,pp⟩ hD'
   have hie:i < es.length:=by omega
   have hid:i < ds.length:=by omega
   have pt:=hpt i es[i] ds[i] Ts[i] (List.getElem?_eq_getElem hie) (List.getElem?_eq_getElem hid) (List.getElem?_eq_getElem hi)
   have etk:Ts.take (i + 1) = Ts.take i ++ [Ts[i]]:=by rw [List.take_add_one,List.getElem?_eq_getElem hi];rfl
   refine ⟨⟨_,V.ref es[i],SqL.of (sm _ _ hl),by rw [List.getElem?_map,List.getElem?_eq_getElem hie];rfl⟩,?_⟩
   rintro x H' ⟨rfl,hx'⟩
   have ex:=hx' _ (SqL.of (sm _ _ hl))
   rw [List.getElem?_map,List.getElem?_eq_getElem hie] at ex
   cases ex
   refine ⟨_,rfl,_,_,0,_,rfl,rfl,SqT.of (sm _ _ pt.1),rfl,_,rfl,rfl,_,rfl,?_⟩
   refine ite2 (fun hc=>?_) (fun hc=>?_)
   ·have n:nz z Ts[i] = true:=by
     unfold nz
     refine decide_eq_true fun e=>?_
     rw [e,decide_eq_true rfl] at hc
     cases hc
    refine ⟨_,rfl,hD',⟨_,rfl⟩,sm.put hD,es' ++ [es[i]],ds' ++ [ds[i]],by rw [List.map_append];rfl,?_⟩
    rw [etk,List.filter_append,show [Ts[i]].filter (nz z) = [Ts[i]] from by rw [List.filter_cons_of_pos n];rfl]
    exact (pp.snoc (pt.same sm)).map fun e d T h=>PartAt.besideL hD' h
   ·have n:nz z Ts[i] = false:=by
     unfold nz
     refine decide_eq_false fun e=>hc ?_
     rw [decide_eq_false (fun q=>e (by injection q))]
     rfl
    refine ⟨hD',⟨_,rfl⟩,sm,es',ds',rfl,?_⟩
    rw [etk,List.filter_append,show [Ts[i]].filter (nz z) = [] from by rw [List.filter_cons_of_neg (by rw [n];decide)];rfl,List.append_nil]
    exact pp
  ·rintro σ' Hc ys ⟨_,sm,es',ds',rfl,pp⟩ hDc
   refine ⟨⟨_,SqL.of (sm _ _ hl),by rw [List.length_map];omega⟩,?_⟩
   rw [List.take_length] at pp
   have SC:=s2.trans sm
   have nd:=tsU.2.1
   rw [List.map_cons] at nd
   rcases q with ⟨hz0,q⟩ | ⟨hzR,q⟩
   ·have hPL:PartsAt Hc D es' ds' (Ts.filter (nz z)):=⟨hDc,pp⟩
    have eF:Ts.filter (nz z) = U:=by
     rw [← eTs,List.filter_cons_of_neg (by unfold nz;rw [decide_eq_false (fun q=>q hz0.symm)];decide)]
     refine List.filter_eq_self.mpr fun T hT=>?_
     unfold nz
     refine decide_eq_true fun e=>(List.nodup_cons.mp nd).1 ?_
     rw [show (cn T0).name = T.name from hz0.symm.trans e.symm]
     exact List.mem_map.mpr ⟨T,hT,rfl⟩
    rw [eF] at hPL
    refine Or.inr ⟨D,sz,es',U,rfl,fk.sz1,hPL.list,(by have:=tsU.1;omega),.inl ⟨.inl fun h=>?_,fun H' s'=>q H' (SC.trans s')⟩⟩
    cases U with
    | nil=>cases h
    | cons T r=>
     have h1:=tsU.2.2.2.2 T List.mem_cons_self
     have h2:T.sort = "head":=by
      rw [List.map_cons,List.take_succ_cons,List.take_zero] at h
      injection h
     rw [h2] at h1
     exact absurd h1 (by decide +kernel)
   ·have n0:¬ T0.name = z:=fun e=>by
     have hn:=fk.ts.2.1
     rw [List.map_cons] at hn
     exact (List.nodup_cons.mp hn).1 (by rw [e];exact hzR)
    have eF:Ts.filter (nz z) = cn T0 :: U.filter (nz z):=by
     rw [← eTs,List.filter_cons_of_pos (by unfold nz;exact decide_eq_true n0)]
    rw [eF] at pp
    refine Or.inl ⟨D,sz,es',ds',cn T0,U.filter (nz z),rfl,fk.sz1,⟨hDc,pp⟩,tsU.filter _,tab.same SC,fun f' H' V sb fr tb pV hr hf=>?_⟩
    refine q f' H' (SC.sb.trans sb) (fun b o nb e=>fr b o nb (SC b o e)) tb (FAt.of hf (cn_cn T0) pV ?_ hr)
    have e1:((R.map cn).filter (nz z)).map cn = (R.filter (nz z)).map cn:=by
     rw [List.filter_map,List.map_map,show (nz z ∘ cn) = nz z from rfl]
     exact List.map_congr_left fun T _=>cn_cn T
    rw [← e1]
    exact (hU.filter _).map _
end
end My
namespace My
open PySem L2 PyProof.Rows
seal L2.PE L2.PT L2.PW L2.PS L2.PSs L2.PA L2.PI L2.PG L2.PGs L2.OpR L2.UnR L2.CallR L2.IxR L2.SlR L2.MtR L2.PIf L2.PO L2.MtM L2.PC L2.PIp L2.PSet L2.PGet L2.TruR L2.InOp L2.PK
structure Wd9 (K:PySem.W.Frag) (CT CS CO CN:Addr) (c5 c7:List Addr) (C:Addr) (b:Bool):Prop where
 xi:XIs K C
 un:Under K C CT
 isT:PySem.W.kitOne K (.ref C) (.ref CT) = some true
 isV:PySem.W.kitOne K (.ref C) (.type "ValueError") = some true
 isF:PySem.W.kitOne K (.ref C) (.ref CN) = some (!b)
 isS:PySem.W.kitOne K (.ref C) (.ref CS) = some b
 isO:PySem.W.kitOne K (.ref C) (.ref CO) = some b
 is5:PySem.W.kitAny K (.ref C) (c5.map .ref) = some false
 is7:PySem.W.kitAny K (.ref C) (c7.map .ref) = some false
structure Rf9 (K:PySem.W.Frag) (mg:Str->Option Value) (CT CS CO CN:Addr) (a1 a2 a3 a4 a5 b1 b2 b3 b4 b5 b6 b7:Addr):Prop where
 mT:mg "TableError" = some (.ref CT)
 mS:mg "StepError" = some (.ref CS)
 mO:mg "NoTable" = some (.ref CO)
 mN:mg "NoForm" = some (.ref CN)
 xT:XCl K CT
 xO:XCl K CO
 uO:Under K CO CO
 aN:Aside K CN CO
 m1:mg "NoMove" = some (.ref a1)
 m2:mg "NoRow" = some (.ref a2)
 m3:mg "NoText" = some (.ref a3)
 m4:mg "NotDone" = some (.ref a4)
 m5:mg "TooMany" = some (.ref a5)
 k1:mg "BadRow" = some (.ref b1)
 k2:mg "Taken" = some (.ref b2)
 k3:mg "Missing" = some (.ref b3)
 k4:mg "Lone" = some (.ref b4)
 k5:mg "Gap" = some (.ref b5)
 k6:mg "Twice" = some (.ref b6)
 k7:mg "Nowhere" = some (.ref b7)
 nV:mg "ValueError" = none
 wO:Wd9 K CT CS CO CN [a1,a2,a3,a4,a5] [b1,b2,b3,b4,b5,b6,b7] CO true
 wN:Wd9 K CT CS CO CN [a1,a2,a3,a4,a5] [b1,b2,b3,b4,b5,b6,b7] CN false
 n1:NoAttr K CO "table"
 n2:NoAttr K CO "key"
 n3:NoAttr K CO "place"
theorem boot_verr:bootBuiltins "ValueError" = some (.type "ValueError"):=by decide +kernel
def wds (b:Bool):List Str:=if b then ["any","step","table"] else ["any","form"]
def Got (H:Hp) (x C:Addr) (od:Option Addr):Prop:=H x = some (.ext (gotP x C od))/\∀ dx,od = some dx->∃ fs,H dx = some (.ext (dctP dx fs))
theorem Got.same {H H':Hp} {x C:Addr} {od:Option Addr} (h:Got H x C od) (s:Same H H'):Got H' x C od:=⟨s _ _ h.1,fun dx e=>let ⟨fs,h'⟩:=h.2 dx e;⟨fs,s _ _ h'⟩⟩
theorem Got.put {H:Hp} {x C d:Addr} {od:Option Addr} {ys:List V} {o:HO} (h:Got H x C od) (hd:H d = some (.lst ys)):Got (L2.upd H d o) x C od:=by
 refine ⟨?_,fun dx e=>?_⟩
 ·rw [upd_ne (fun q=>by have:=h.1;rw [q,hd] at this;cases this)];exact h.1
 ·obtain ⟨fs,h'⟩:=h.2 dx e
  exact ⟨fs,by rw [upd_ne (fun q=>by rw [q,hd] at h';cases h')];exact h'⟩
theorem vals_refs:∀ {l:List Addr} {us:List Value},Vals (l.map V.ref) us->us = l.map .ref
 | [],_,r=>by cases r;rfl
 | a :: l,_,r=>by
  rw [List.map_cons] at r
  cases r with
  | cons r1 r=>
   cases (show _ = Value.ref a from r1)
   rw [vals_refs r]
   rfl
def spWords (CT CS CO CN:Addr) (c5 c7:List Addr) (K:PySem.W.Frag):Sp:=fun vs H Q _=>∃ (x C:Addr) (od:Option Addr) (b:Bool),vs = [.ref x]/\Got H x C od/\Wd9 K CT CS CO CN c5 c7 C b/\∀ p H',Same H H'->H' p = some (.lst ((wds b).map V.str))->Q (.ref p) H'
def spAt:Sp:=fun vs H Q _=>∃ (l:Addr) (es ds:List Addr) (Ts:List Tb) (z:Str),vs = [.ref l,.str z]/\PartsAt H l es ds Ts/\(∀ (k:Nat) (a:Int) (T:Tb) (H':Hp),a = (k:Int)->Same H H'->Ts[k]? = some T->T.name = z->Q (.int a) H')/\(∀ (a:Int) (H':Hp),a = -1->Same H H'->z ∉ Ts.map (·.name)->Q (.int a) H')
def dueL (wy a:Int):List Str:=if (wy = 0/\0 ≤ a)\/(wy = 2/\a = 0) then ["form"] else if 0 < wy/\a < 0 then ["step","table"] else []
def spDue:Sp:=fun vs H Q _=>∃ (wy a:Int),vs = [.int wy,.int a]/\∀ p H',H p = none->Same H H'->H' p = some (.lst ((dueL wy a).map V.str))->Q (.ref p) H'
def spDone (PF CO CN:Addr):Sp:=fun vs H Q E=>∃ (f:Addr) (wy:Int) (z so:Str) (cd:Addr),vs = [.ref f,.int wy,.str z,.str so,.ref cd] ∧
 ((wy = 0/\spWithT PF CN [.ref f,.str z,.str so,.ref cd] H Q E)\/(wy = 1/\spWithC PF CO CN [.ref f,.str z,.ref cd] H Q E)\/(wy = 2/\spWithout PF CO CN [.ref f,.str z] H Q E))
section
variable {P:Program} {w:World} {K:PySem.W.Frag} {mg:Str->Option Value} {base:Heap} {CT CS CO CN PF a1 a2 a3 a4 a5 b1 b2 b3 b4 b5 b6 b7:Addr}
theorem ok_words {f:Addr} {fd:FuncData} (F:Fun K "_law_words" "_law_words" (top 51) f fd) (B:Bl mg) (R:Rf9 K mg CT CS CO CN a1 a2 a3 a4 a5 b1 b2 b3 b4 b5 b6 b7):FnOk P w K mg base CX0 1 f fd ["_law_caught"] (spWords CT CS CO CN [a1,a2,a3,a4,a5] [b1,b2,b3,b4,b5,b6,b7] K):=by
 have sc:FnScope ["_law_caught","_law_words_here"] ["_law_caught"] (defScope (top 51)):=⟨rfl,rfl,rfl,by decide +kernel,rfl,by decide +kernel,by decide +kernel⟩
 refine F.ok sc (fun vs H Q E h=>?_) (fun cdv A outer s H vs Q E hr h=>?_)
 ·obtain ⟨x,C,od,b,rfl,_⟩:=h
  rfl
 ·obtain ⟨x,C,od,b,rfl,hx,W,q⟩:=h
  refine ⟨_,pss_cons (ps_if (pt_cmpR op_isN (pv 0) pe_non (nomark _)) pss_never pss_nil)
   (pss_cons (ps_set (i:=1) sc.nd rfl (Or.inl rfl) (pe_lst pa_nil))
   (pss_cons (ps_if (PW.pt (pw_and (pt_val (pe_callB call_isX (by rfl) B.isi boot_isi (pa_cons (pv 0) (pa_cons (pe_glob (v:=.ref CT) (by rfl) R.mT rfl) pa_nil)))) (pw_and1 (pt_val (pe_callB call_isX (by rfl) B.isi boot_isi (pa_cons (pv 0) (pa_cons (pe_bltn (v:=.ty "ValueError") (by rfl) R.nV boot_verr rfl) pa_nil))))))) (pss_one (ps_expr (pe_bm PySem.F.plainAttrs_list PySem.F.slot_list_append PySem.F.type_list_append mt_app (pv 1) (pa_cons pe_str pa_nil)))) pss_nil)
   (pss_cons (ps_if (pt_val (pe_callB call_isX (by rfl) B.isi boot_isi (pa_cons (pv 0) (pa_cons (pe_glob (v:=.ref CN) (by rfl) R.mN rfl) pa_nil)))) (pss_one (ps_expr (pe_bm PySem.F.plainAttrs_list PySem.F.slot_list_append PySem.F.type_list_append mt_app (pv 1) (pa_cons pe_str pa_nil)))) pss_nil)
   (pss_cons (ps_if (pt_val (pe_callB call_isX (by rfl) B.isi boot_isi (pa_cons (pv 0) (pa_cons (pe_glob (v:=.ref CS) (by rfl) R.mS rfl) pa_nil)))) (pss_one (ps_expr (pe_bm PySem.F.plainAttrs_list PySem.F.slot_list_append PySem.F.type_list_append mt_app (pv 1) (pa_cons pe_str pa_nil)))) pss_nil)
   (pss_cons (ps_if (pt_val (pe_callB call_isX (by rfl) B.isi boot_isi (pa_cons (pv 0) (pa_cons (pe_glob (v:=.ref CO) (by rfl) R.mO rfl) pa_nil)))) (pss_one (ps_expr (pe_bm PySem.F.plainAttrs_list PySem.F.slot_list_append PySem.F.type_list_append mt_app (pv 1) (pa_cons pe_str pa_nil)))) pss_nil)
   (pss_cons (ps_if (pt_val (pe_callB call_isXT (by rfl) B.isi boot_isi (pa_cons (pv 0) (pa_cons (pe_tup (pa_cons (pe_glob (v:=.ref a1) (by rfl) R.m1 rfl) (pa_cons (pe_glob (v:=.ref a2) (by rfl) R.m2 rfl) (pa_cons (pe_glob (v:=.ref a3) (by rfl) R.m3 rfl) (pa_cons (pe_glob (v:=.ref a4) (by rfl) R.m4 rfl) (pa_cons (pe_glob (v:=.ref a5) (by rfl) R.m5 rfl) pa_nil)))))) pa_nil)))) pss_never pss_nil)
   (pss_cons (ps_if (pt_val (pe_callB call_isXT (by rfl) B.isi boot_isi (pa_cons (pv 0) (pa_cons (pe_tup (pa_cons (pe_glob (v:=.ref b1) (by rfl) R.k1 rfl) (pa_cons (pe_glob (v:=.ref b2) (by rfl) R.k2 rfl) (pa_cons (pe_glob (v:=.ref b3) (by rfl) R.k3 rfl) (pa_cons (pe_glob (v:=.ref b4) (by rfl) R.k4 rfl) (pa_cons (pe_glob (v:=.ref b5) (by rfl) R.k5 rfl) (pa_cons (pe_glob (v:=.ref b6) (by rfl) R.k6 rfl) (pa_cons (pe_glob (v:=.ref b7) (by rfl) R.k7 rfl) pa_nil)))))))) pa_nil)))) pss_never pss_nil)
   (pss_one (ps_ret (pv 1)))))))))),?_⟩
  have one:∀ {D:Addr} {b:Bool},PySem.W.kitOne K (.ref C) (.ref D) = some b->∀ u,RelV (.ref D) u->PySem.W.kitOne K (.ref C) u = some b:=fun {D b} h u r=>by cases (show u = Value.ref D from r);exact h
  refine ⟨_,rfl,rfl,_,rfl,iteC (decide_eq_false (by simp)) ?_⟩
  refine ⟨Nat.zero_le _,fun d hd=>?_⟩
  have T1:=Same.upd (o:=.lst []) hd
  have g1:=hx.same T1
  have hd0:(L2.upd H d (.lst [])) d = some (.lst []):=upd_same
  refine ⟨_,rfl,x,C,od,_,true,rfl,g1.1,g1.2,W.xi,one W.isT,_,rfl,iteT ?_⟩
  refine ⟨_,rfl,x,C,od,_,true,rfl,g1.1,g1.2,W.xi,(fun u r=>by cases (show u = Value.type "ValueError" from r);exact W.isV),_,rfl,iteT ?_⟩
  refine ⟨_,rfl,.inl ⟨rfl,_,SqL.of hd0⟩,d,_,_,rfl,rfl,hd0,(by decide),?_⟩
  have g2:=g1.put (o:=.lst ([] ++ [V.str "any"])) hd0
  have S2:Same H (L2.upd (L2.upd H d (.lst [])) d (.lst ([] ++ [V.str "any"]))):=T1.put hd
  have hd2:(L2.upd (L2.upd H d (.lst [])) d (.lst ([] ++ [V.str "any"]))) d = some (.lst [V.str "any"]):=upd_same
  generalize L2.upd (L2.upd H d (.lst [])) d (.lst ([] ++ [V.str "any"])) = H2 at *
  have app:∀ {Hc:Hp} {ys:List V} {v:V},Same H Hc->Got Hc x C od->Hc d = some (.lst ys)->Same H (L2.upd Hc d (.lst (ys ++ [v])))/\Got (L2.upd Hc d (.lst (ys ++ [v]))) x C od:=fun s g h=>⟨s.put hd,g.put h⟩
  cases b with
  | false=>
   refine ⟨_,rfl,x,C,od,_,true,rfl,g2.1,g2.2,W.xi,one W.isF,_,rfl,iteT ?_⟩
   refine ⟨_,rfl,.inl ⟨rfl,_,SqL.of hd2⟩,d,_,_,rfl,rfl,hd2,(by decide),?_⟩
   obtain ⟨S3,g3⟩:=app (v:=V.str "form") S2 g2 hd2
   have hd3:(L2.upd H2 d (.lst ([V.str "any"] ++ [V.str "form"]))) d = some (.lst ((wds false).map V.str)):=upd_same
   generalize L2.upd H2 d (.lst ([V.str "any"] ++ [V.str "form"])) = H5 at *
   refine ⟨_,rfl,x,C,od,_,false,rfl,g3.1,g3.2,W.xi,one W.isS,_,rfl,iteF ?_⟩
   refine ⟨_,rfl,x,C,od,_,false,rfl,g3.1,g3.2,W.xi,one W.isO,_,rfl,iteF ?_⟩
   refine ⟨_,rfl,(by show 5 ≤ sizeLine;decide),fun p hp=>?_⟩
   have T6:=Same.upd (o:=.tup ([a1,a2,a3,a4,a5].map V.ref)) hp
   refine ⟨x,C,od,p,[a1,a2,a3,a4,a5].map V.ref,false,rfl,T6 _ _ g3.1,(g3.same T6).2,W.xi,SqT.of upd_same,(fun us r=>by rw [vals_refs r];exact W.is5),_,rfl,iteF ?_⟩
   refine ⟨_,rfl,(by show 7 ≤ sizeLine;decide),fun p' hp'=>?_⟩
   have T7:=Same.upd (o:=.tup ([b1,b2,b3,b4,b5,b6,b7].map V.ref)) hp'
   refine ⟨x,C,od,p',[b1,b2,b3,b4,b5,b6,b7].map V.ref,false,rfl,(T6.trans T7) _ _ g3.1,(g3.same (T6.trans T7)).2,W.xi,SqT.of upd_same,(fun us r=>by rw [vals_refs r];exact W.is7),_,rfl,iteF ?_⟩
   exact ⟨_,rfl,q d _ (S3.trans (T6.trans T7)) ((T6.trans T7) _ _ hd3)⟩
  | true=>
   refine ⟨_,rfl,x,C,od,_,false,rfl,g2.1,g2.2,W.xi,one W.isF,_,rfl,iteF ?_⟩
   refine ⟨_,rfl,x,C,od,_,true,rfl,g2.1,g2.2,W.xi,one W.isS,_,rfl,iteT ?_⟩
   refine ⟨_,rfl,.inl ⟨rfl,_,SqL.of hd2⟩,d,_,_,rfl,rfl,hd2,(by decide),?_⟩
   obtain ⟨S4,g4⟩:=app (v:=V.str "step") S2 g2 hd2
   have hd4:(L2.upd H2 d (.lst ([V.str "any"] ++ [V.str "step"]))) d = some (.lst [V.str "any",V.str "step"]):=upd_same
   generalize L2.upd H2 d (.lst ([V.str "any"] ++ [V.str "step"])) = H4 at *
   refine ⟨_,rfl,x,C,od,_,true,rfl,g4.1,g4.2,W.xi,one W.isO,_,rfl,iteT ?_⟩
   refine ⟨_,rfl,.inl ⟨rfl,_,SqL.of hd4⟩,d,_,_,rfl,rfl,hd4,(by decide),?_⟩
   obtain ⟨S3,g3⟩:=app (v:=V.str "table") S4 g4 hd4
   have hd3:(L2.upd H4 d (.lst ([V.str "any",V.str "step"] ++ [V.str "table"]))) d = some (.lst ((wds true).map V.str)):=upd_same
   generalize L2.upd H4 d (.lst ([V.str "any",V.str "step"] ++ [V.str "table"])) = H5 at *
   refine ⟨_,rfl,(by show 5 ≤ sizeLine;decide),fun p hp=>?_⟩
   have T6:=Same.upd (o:=.tup ([a1,a2,a3,a4,a5].map V.ref)) hp
   refine ⟨x,C,od,p,[a1,a2,a3,a4,a5].map V.ref,false,rfl,T6 _ _ g3.1,(g3.same T6).2,W.xi,SqT.of upd_same,(fun us r=>by rw [vals_refs r];exact W.is5),_,rfl,iteF ?_⟩
   refine ⟨_,rfl,(by show 7 ≤ sizeLine;decide),fun p' hp'=>?_⟩
   have T7:=Same.upd (o:=.tup ([b1,b2,b3,b4,b5,b6,b7].map V.ref)) hp'
   refine ⟨x,C,od,p',[b1,b2,b3,b4,b5,b6,b7].map V.ref,false,rfl,(T6.trans T7) _ _ g3.1,(g3.same (T6.trans T7)).2,W.xi,SqT.of upd_same,(fun us r=>by rw [vals_refs r];exact W.is7),_,rfl,iteF ?_⟩
   exact ⟨_,rfl,q d _ (S3.trans (T6.trans T7)) ((T6.trans T7) _ _ hd3)⟩
end
end My
namespace My
open PySem L2 PyProof.Rows
seal L2.PE L2.PT L2.PW L2.PS L2.PSs L2.PA L2.PI L2.PG L2.PGs L2.OpR L2.UnR L2.CallR L2.IxR L2.SlR L2.MtR L2.PIf L2.PO L2.MtM L2.PC L2.PIp L2.PSet L2.PGet L2.TruR L2.InOp L2.PK
theorem stp_table (z:Str):(stp z).lookup ("table":Str) = some (.str z):=by
 unfold stp
 rw [lookup_putF,if_neg (by decide +kernel),lookup_putF,if_neg (by decide +kernel)]
 rfl
theorem stp_key (z:Str):(stp z).lookup ("key":Str) = some .non:=by
 unfold stp
 rw [lookup_putF,if_neg (by decide +kernel),lookup_putF,if_pos rfl]
theorem stp_place (z:Str):(stp z).lookup ("place":Str) = some .non:=by
 unfold stp
 rw [lookup_putF,if_pos rfl]
def spRefd (PF CO CN:Addr):Sp:=fun vs H Q _=>∃ (f:Addr) (wy:Int) (z so:Str) (cd du:Addr),vs = [.ref f,.int wy,.str z,.str so,.ref cd,.ref du] ∧
 ((H du = some (.lst [V.str "form"])/\∀ (Q':VK) (E':XK),(∀ H',Same H H'->E' (.ref CN) none H')->spDone PF CO CN [.ref f,.int wy,.str z,.str so,.ref cd] H Q' E') ∨
  (H du = some (.lst [V.str "step",V.str "table"])/\∀ (Q':VK) (E':XK),(∀ dx H',H dx = none->H' dx = some (.ext (dctP dx (stp z)))->Same H H'->E' (.ref CO) (some dx) H')->spDone PF CO CN [.ref f,.int wy,.str z,.str so,.ref cd] H Q' E'))/\∀ H',Same H H'->Q (.bl true) H'
def rfN:List Str:=["_law_form_here","_law_way","_law_name","_law_sort","_law_columns_here","_law_due_here","_law_caught","_law_gone","e"]
section
variable {P:Program} {w:World} {K:PySem.W.Frag} {mg:Str->Option Value} {base:Heap} {CT CS CO CN PF a1 a2 a3 a4 a5 b1 b2 b3 b4 b5 b6 b7:Addr}
theorem ok_at {f:Addr} {fd:FuncData} (F:Fun K "_law_at" "_law_at" (top 52) f fd) (B:Bl mg):FnOk P w K mg base CX0 1 f fd ["_law_parts_here","_law_name"] spAt:=by
 have sc:FnScope ["_law_parts_here","_law_name","_law_k","_law_part"] ["_law_parts_here","_law_name"] (defScope (top 52)):=⟨rfl,rfl,rfl,by decide +kernel,rfl,by decide +kernel,by decide +kernel⟩
 refine F.ok sc (fun vs H Q E h=>?_) (fun cdv A outer s H vs Q E hr h=>?_)
 ·obtain ⟨l,es,ds,Ts,z,rfl,_⟩:=h
  rfl
 ·obtain ⟨l,es,ds,Ts,z,rfl,hP,q1,q2⟩:=h
  obtain ⟨hl,e1l,e2l,hpt⟩:=id hP
  refine ⟨_,pss_cons (ps_for PassesOwn.never rfl (pi_enum (by rfl) B.enum (pa_cons (pv 0) pa_nil)) (pg_tup rfl (pgs_cons (pg_name (i:=2) sc.nd rfl (Or.inl rfl)) (pgs_cons (pg_name (i:=3) sc.nd rfl (Or.inl rfl)) pgs_nil)))
    (pss_one (ps_if (pt_cmpR op_eq (pe_ix ix_tup (pv 3) pe_int (fun _ _=>rfl)) (pv 1) (nomark _)) (pss_one (ps_ret (pv 2))) pss_nil)))
   (pss_one (ps_ret (pe_un un_neg pe_int))),?_⟩
  refine ⟨_,rfl,l,rfl,⟨_,SqL.of hl⟩,for_enum (K:=K) (a:=l) (xs:=es.map V.ref) (fun i σ Hc=>(∃ u2 u3,σ = [some (.ref l),some (.str z),u2,u3])/\Same H Hc/\∀ j T,j < i->Ts[j]? = some T->¬ T.name = z) ⟨⟨_,_,rfl⟩,Same.refl H,fun j T h=>absurd h (Nat.not_lt_zero _)⟩ (fun i σ Hc _ pp=>SqL.of (pp.2.1 _ _ hl)) ?_ ?_⟩
  ·rintro i y pe σ Hc hy ⟨⟨u2,u3,rfl⟩,sm,hn⟩ hpe
   have hie:i < es.length:=by
    have:=(List.getElem?_eq_some_iff.mp hy).1
    rwa [List.length_map] at this
   have hid:i < ds.length:=by omega
   have hit:i < Ts.length:=by omega
   rw [List.getElem?_map,List.getElem?_eq_getElem hie] at hy
   cases hy
   have T5:=Same.upd (o:=.tup [.int i,.ref es[i]]) hpe
   have pt:=hpt i es[i] ds[i] Ts[i] (List.getElem?_eq_getElem hie) (List.getElem?_eq_getElem hid) (List.getElem?_eq_getElem hit)
   refine ⟨pe,_,rfl,SqT.of upd_same,rfl,_,_,rfl,_,_,rfl,rfl,?_⟩
   refine ⟨_,rfl,_,_,0,_,rfl,rfl,SqT.of ((sm.trans T5) _ _ pt.1),rfl,_,rfl,rfl,_,rfl,?_⟩
   refine ite2 (fun hc=>?_) (fun hc=>?_)
   ·have en:Ts[i].name = z:=by
     have:=of_decide_eq_true hc
     injection this
    exact ⟨_,rfl,q1 i _ Ts[i] _ rfl (sm.trans T5) (List.getElem?_eq_getElem hit) en⟩
   ·refine ⟨⟨_,_,rfl⟩,sm.trans T5,fun j T hj hT=>?_⟩
    by_cases hji:j < i
    ·exact hn j T hji hT
    ·have:j = i:=by omega
     subst this
     rw [List.getElem?_eq_getElem hit] at hT
     cases hT
     exact fun e=>hc (by rw [e];exact decide_eq_true rfl)
  ·rintro σ Hc ⟨⟨u2,u3,rfl⟩,sm,hn⟩
   refine ⟨_,rfl,q2 _ Hc rfl sm fun hz=>?_⟩
   obtain ⟨T,hT,e⟩:=List.mem_map.mp hz
   obtain ⟨j,hj,ej⟩:=List.mem_iff_getElem.mp hT
   exact hn j T (by rw [List.length_map];omega) (by rw [List.getElem?_eq_getElem hj,ej]) e
theorem ok_due {f:Addr} {fd:FuncData} (F:Fun K "_law_due" "_law_due" (top 56) f fd):FnOk P w K mg base CX0 1 f fd ["_law_way","_law_at_here"] spDue:=by
 have sc:FnScope ["_law_way","_law_at_here"] ["_law_way","_law_at_here"] (defScope (top 56)):=⟨rfl,rfl,rfl,by decide +kernel,rfl,by decide +kernel,by decide +kernel⟩
 refine F.ok sc (fun vs H Q E h=>?_) (fun cdv A outer s H vs Q E hr h=>?_)
 ·obtain ⟨wy,a,rfl,_⟩:=h
  rfl
 ·obtain ⟨wy,a,rfl,q⟩:=h
  refine ⟨_,pss_cons (ps_if (PW.pt (pw_or (PW.pt (pw_and (pt_cmpR op_eq (pv 0) pe_int (nomark _)) (pw_and1 (pt_cmpR op_ge (pv 1) pe_int (nomark _))))) (pw_or1 (PW.pt (pw_and (pt_cmpR op_eq (pv 0) pe_int (nomark _)) (pw_and1 (pt_cmpR op_eq (pv 1) pe_int (nomark _)))))))) (pss_one (ps_ret (pe_lst (pa_cons pe_str pa_nil)))) pss_nil)
   (pss_cons (ps_if (PW.pt (pw_and (pt_cmpR op_gt (pv 0) pe_int (nomark _)) (pw_and1 (pt_cmpR op_lt (pv 1) pe_int (nomark _))))) (pss_one (ps_ret (pe_lst (pa_cons pe_str (pa_cons pe_str pa_nil))))) pss_nil)
   (pss_one (ps_ret (pe_lst pa_nil)))),?_⟩
  have eqi:∀ {x y:Int},decide (V.int x = V.int y) = true->x = y:=fun h=>by
   have:=of_decide_eq_true h
   injection this
  have eqn:∀ {x y:Int},¬ decide (V.int x = V.int y) = true->¬ x = y:=fun h e=>h (by rw [e];exact decide_eq_true rfl)
  have fA:((wy = 0/\0 ≤ a)\/(wy = 2/\a = 0))->(1 ≤ sizeLine/\∀ p,H p = none->Q (.ref p) (L2.upd H p (.lst [V.str "form"]))):=fun h=>⟨by decide,fun p hp=>q p _ hp (Same.upd hp) (by rw [upd_same];unfold dueL;rw [if_pos h];rfl)⟩
  have fN:¬ ((wy = 0/\0 ≤ a)\/(wy = 2/\a = 0))->¬ (0 < wy/\a < 0)->(0 ≤ sizeLine/\∀ p,H p = none->Q (.ref p) (L2.upd H p (.lst []))):=fun h h'=>⟨Nat.zero_le _,fun p hp=>q p _ hp (Same.upd hp) (by rw [upd_same];unfold dueL;rw [if_neg h,if_neg h'];rfl)⟩
  have fS:¬ ((wy = 0/\0 ≤ a)\/(wy = 2/\a = 0))->0 < wy/\a < 0->(2 ≤ sizeLine/\∀ p,H p = none->Q (.ref p) (L2.upd H p (.lst [V.str "step",V.str "table"]))):=fun h h'=>⟨by decide,fun p hp=>q p _ hp (Same.upd hp) (by rw [upd_same];unfold dueL;rw [if_neg h,if_pos h'];rfl)⟩
  by_cases w0:wy = 0
  ·subst w0
   refine ⟨_,rfl,rfl,_,rfl,iteT ⟨_,rfl,_,_,rfl,rfl,_,rfl,?_⟩⟩
   by_cases ha:0 ≤ a
   ·refine iteB (decide_eq_true ha) (iteT (fA (.inl ⟨rfl,ha⟩)))
   ·refine iteC (decide_eq_false ha) ⟨_,rfl,rfl,_,rfl,iteC (by decide) (iteF ?_)⟩
    refine ⟨_,rfl,_,_,rfl,rfl,_,rfl,iteC (by decide) (iteF ?_)⟩
    exact fN (fun h=>by omega) (fun h=>by omega)
  ·refine ⟨_,rfl,rfl,_,rfl,iteC (decide_eq_false fun e=>w0 (by injection e)) (iteF ?_)⟩
   by_cases w2:wy = 2
   ·subst w2
    refine ⟨_,rfl,rfl,_,rfl,iteT ⟨_,rfl,rfl,_,rfl,?_⟩⟩
    by_cases ha:a = 0
    ·subst ha
     exact iteT (fA (.inr ⟨rfl,rfl⟩))
    ·refine iteC (decide_eq_false fun e=>ha (by injection e)) ?_
     refine ⟨_,rfl,_,_,rfl,rfl,_,rfl,iteB (by decide) ⟨_,rfl,_,_,rfl,rfl,_,rfl,?_⟩⟩
     by_cases h:a < 0
     ·exact iteB (decide_eq_true h) (fS (fun h=>by omega) ⟨by decide,h⟩)
     ·exact iteC (decide_eq_false h) (fN (fun h=>by omega) (fun h=>by omega))
   ·refine ⟨_,rfl,rfl,_,rfl,iteC (decide_eq_false fun e=>w2 (by injection e)) (iteF ?_)⟩
    refine ⟨_,rfl,_,_,rfl,rfl,_,rfl,?_⟩
    by_cases wp:0 < wy
    ·refine iteB (decide_eq_true wp) ⟨_,rfl,_,_,rfl,rfl,_,rfl,?_⟩
     by_cases h:a < 0
     ·exact iteB (decide_eq_true h) (fS (fun h=>by omega) ⟨wp,h⟩)
     ·exact iteC (decide_eq_false h) (fN (fun h=>by omega) (fun h=>by omega))
    ·exact iteC (decide_eq_false wp) (iteF (fN (fun h=>by omega) (fun h=>by omega)))
theorem ok_done {f fA fB fC:Addr} {fd fdA fdB fdC:FuncData} (F:Fun K "_law_done" "_law_done" (top 53) f fd) (DA:Df K mg "with_table" (top 39) fA fdA) (GA:FnOk P w K mg base (CX1 P w) 7 fA fdA ["form","name","sort","columns"] (spWithT PF CN)) (DB:Df K mg "with_columns" (top 38) fB fdB) (GB:FnOk P w K mg base (CX1 P w) 7 fB fdB ["form","table","columns"] (spWithC PF CO CN))
  (DC:Df K mg "without_table" (top 40) fC fdC) (GC:FnOk P w K mg base (CX1 P w) 7 fC fdC ["form","name"] (spWithout PF CO CN)):FnOk P w K mg base (CX1 P w) 8 f fd ["_law_form_here","_law_way","_law_name","_law_sort","_law_columns_here"] (spDone PF CO CN):=by
 have sc:FnScope ["_law_form_here","_law_way","_law_name","_law_sort","_law_columns_here"] ["_law_form_here","_law_way","_law_name","_law_sort","_law_columns_here"] (defScope (top 53)):=⟨rfl,rfl,rfl,by decide +kernel,rfl,by decide +kernel,by decide +kernel⟩
 have bA:=DA.fn.binds (ps:=["form","name","sort","columns"]) fun _ _ _ _ _ _ us hl=>by obtain ⟨v0,v1,v2,v3,rfl⟩:=L2.ln4 hl;rfl
 have bB:=DB.fn.binds (ps:=["form","table","columns"]) fun _ _ _ _ _ _ us hl=>by obtain ⟨v0,v1,v2,rfl⟩:=L2.ln3 hl;rfl
 have bC:=DC.fn.binds (ps:=["form","name"]) fun _ _ _ _ _ _ us hl=>by obtain ⟨v0,v1,rfl⟩:=L2.ln2 hl;rfl
 refine F.x.okX sc (fun vs H Q E h=>?_) (fun cdv A outer s H vs Q E hr h=>?_)
 ·obtain ⟨f,wy,z,so,cd,rfl,_⟩:=h
  rfl
 ·obtain ⟨f,wy,z,so,cd,rfl,q⟩:=h
  refine ⟨_,pss_cons (ps_if (pt_cmpR op_eq (pv 1) pe_int (nomark _)) (pss_one (ps_ret (pe_callX GA hr (by rfl) DA.mg DA.fn.kp bA .nil lands_cx (pa_cons (pv 0) (pa_cons (pv 2) (pa_cons (pv 3) (pa_cons (pv 4) pa_nil))))))) pss_nil)
   (pss_cons (ps_if (pt_cmpR op_eq (pv 1) pe_int (nomark _)) (pss_one (ps_ret (pe_callX GB hr (by rfl) DB.mg DB.fn.kp bB .nil lands_cx (pa_cons (pv 0) (pa_cons (pv 2) (pa_cons (pv 4) pa_nil)))))) pss_nil)
   (pss_one (ps_ret (pe_callX GC hr (by rfl) DC.mg DC.fn.kp bC .nil lands_cx (pa_cons (pv 0) (pa_cons (pv 2) pa_nil)))))),?_⟩
  rcases q with ⟨rfl,q⟩ | ⟨rfl,q⟩ | ⟨rfl,q⟩
  ·exact ⟨_,rfl,rfl,_,rfl,iteT ⟨_,rfl,_,rfl,_,rfl,_,rfl,q⟩⟩
  ·exact ⟨_,rfl,rfl,_,rfl,iteC (by decide) ⟨_,rfl,rfl,_,rfl,iteT ⟨_,rfl,_,rfl,_,rfl,q⟩⟩⟩
  ·exact ⟨_,rfl,rfl,_,rfl,iteC (by decide) ⟨_,rfl,rfl,_,rfl,iteC (by decide) ⟨_,rfl,_,rfl,q⟩⟩⟩
theorem ok_refused {fself fD fW fS:Addr} {fd fdD fdW fdS:FuncData} (F:Fun K "_law_refused" "_law_refused" (top 54) fself fd) (B:Bl mg) (hz:mg "zip" = none) (R:Rf9 K mg CT CS CO CN a1 a2 a3 a4 a5 b1 b2 b3 b4 b5 b6 b7) (DD:Df K mg "_law_done" (top 53) fD fdD) (GD:FnOk P w K mg base (CX1 P w) 8 fD fdD ["_law_form_here","_law_way","_law_name","_law_sort","_law_columns_here"] (spDone PF CO CN))
  (DW:Df K mg "_law_words" (top 51) fW fdW) (DS:Df K mg "_law_same" (top 49) fS fdS):FnOk P w K mg base CX0 9 fself fd ["_law_form_here","_law_way","_law_name","_law_sort","_law_columns_here","_law_due_here"] (spRefd PF CO CN):=by
 have sc:FnScope rfN ["_law_form_here","_law_way","_law_name","_law_sort","_law_columns_here","_law_due_here"] (defScope (top 54)):=⟨rfl,rfl,rfl,by decide +kernel,rfl,by decide +kernel,by decide +kernel⟩
 have GW:FnOk P w K mg base CX0 1 fW fdW ["_law_caught"] (spWords CT CS CO CN [a1,a2,a3,a4,a5] [b1,b2,b3,b4,b5,b6,b7] K):=ok_words DW.fn B R
 have GS:FnOk P w K mg base CX0 1 fS fdS ["_law_found","_law_due_here"] (spSame5 0):=ok_same DS B hz 0
 have bD:=DD.fn.binds (ps:=["_law_form_here","_law_way","_law_name","_law_sort","_law_columns_here"]) fun _ _ _ _ _ _ us hl=>match us,hl with | [_,_,_,_,_],_=>rfl
 have bW:=DW.fn.binds (ps:=["_law_caught"]) fun _ _ _ _ _ _ us hl=>by obtain ⟨v0,rfl⟩:=L2.ln1 hl;rfl
 have bS:=DS.fn.binds (ps:=["_law_found","_law_due_here"]) fun _ _ _ _ _ _ us hl=>by obtain ⟨v0,v1,rfl⟩:=L2.ln2 hl;rfl
 refine F.ok sc (fun vs H Q E h=>?_) (fun cdv A outer s H vs Q E hr h=>?_)
 ·obtain ⟨f,wy,z,so,cd,du,rfl,_⟩:=h
  rfl
 ·obtain ⟨f,wy,z,so,cd,du,rfl,ref,q⟩:=h
  have hr1:Room 1 _:=hr.mono (by decide)
  have hu:(A.deeper (envOfC "_law_refused" (defScope (top 54)) s.heap.objs.size fself cdv)).units < cLine:=by have:=hu_of hr;omega
  refine ⟨_,pss_cons (ps_set (i:=6) sc.nd rfl (Or.inl rfl) pe_non) (pss_cons (ps_set (i:=7) sc.nd rfl (Or.inl rfl) pe_non)
   (pss_cons (ps_tryUU (i:=8) rfl rfl sc.nd rfl rfl (by rfl) R.mO R.xO (by rfl) R.mT R.xT
    (fun D pn XE L=>pss_one (ps_expr (pe_callX GD hr (by rfl) DD.mg DD.fn.kp bD .nil L (pa_cons (pv 0) (pa_cons (pv 1) (pa_cons (pv 2) (pa_cons (pv 3) (pa_cons (pv 4) pa_nil))))))))
    (fun x C=>pss_cons (ps_set (i:=6) sc.nd rfl (Or.inl rfl) (pv 8)) (pss_one (ps_set (i:=7) sc.nd rfl (Or.inl rfl) (pv 8))))
    (fun x C=>pss_one (ps_set (i:=6) sc.nd rfl (Or.inl rfl) (pv 8))))
   (pss_cons (ps_if (pt_cmpR (op_neTs hu) (pe_call GW hr1 (by rfl) DW.mg DW.fn.kp bW .nil pass0 (pa_cons (pv 6) pa_nil)) (pe_op op_cat (pe_lst (pa_cons pe_str pa_nil)) (pv 5)) (nomark _)) pss_never pss_nil)
   (pss_cons (ps_if (pt_cmpR op_isN (pv 7) pe_non (nomark _)) (pss_one (ps_ret (pe_cmpR (op_eqTs hu) (pv 5) (pe_lst (pa_cons pe_str pa_nil)) (nomark _)))) pss_nil)
   (pss_one (ps_ret (pe_and (pe_call GS hr1 (by rfl) DS.mg DS.fn.kp bS .nil pass0 (pa_cons (pe_xfld (pv 7) rfl) (pa_cons (pv 2) pa_nil))) (pe_and (pe_cmpR op_isN (pe_xfld (pv 7) rfl) pe_non (nomark _)) (pe_one (pe_cmpR op_isN (pe_xfld (pv 7) rfl) pe_non (nomark _))))))))))),?_⟩
  rcases ref with ⟨hdu,ref⟩ | ⟨hdu,ref⟩
  ·refine ⟨_,rfl,_,rfl,_,rfl,_,rfl,_,rfl,ref _ _ fun H' s1=>⟨CN,rfl,.inr ⟨R.aN,R.wN.un,fun x hx=>?_⟩⟩⟩
   refine ⟨_,rfl,?_⟩
   have T1:=Same.upd (o:=.ext (gotP x CN none)) hx
   refine ⟨_,rfl,x,CN,none,false,rfl,⟨upd_same,(fun _ e=>nomatch e)⟩,R.wN,fun p H2 s2 hp=>?_⟩
   have S2:=s1.trans (T1.trans s2)
   refine ⟨(by show 1 ≤ sizeLine;decide),fun p2 e2=>?_⟩
   have T2:=Same.upd (o:=.lst [V.str "any"]) e2
   refine ⟨_,rfl,p2,du,_,_,rfl,rfl,upd_same,(S2.trans T2) _ _ hdu,(by decide +kernel),fun p3 e3=>?_⟩
   have T3:=Same.upd (o:=.lst ([V.str "any"] ++ [V.str "form"])) e3
   refine ⟨p,p3,wds false,wds false,rfl,rfl,SqL.of ((T2.trans T3) _ _ hp),SqL.of upd_same,_,rfl,iteC (by decide +kernel) ?_⟩
   refine ⟨_,rfl,rfl,_,rfl,iteT ?_⟩
   refine ⟨_,rfl,(by show 1 ≤ sizeLine;decide),fun p4 e4=>?_⟩
   have T4:=Same.upd (o:=.lst [V.str "form"]) e4
   have S4:=S2.trans (T2.trans (T3.trans T4))
   exact ⟨du,p4,["form"],["form"],rfl,rfl,SqL.of (S4 _ _ hdu),SqL.of upd_same,q _ S4⟩
  ·refine ⟨_,rfl,_,rfl,_,rfl,_,rfl,_,rfl,ref _ _ fun dx H' nd hd s1=>⟨CO,rfl,.inl ⟨R.uO,fun x hx=>?_⟩⟩⟩
   refine ⟨_,rfl,_,rfl,?_⟩
   have T1:=Same.upd (o:=.ext (gotP x CO (some dx))) hx
   refine ⟨_,rfl,x,CO,some dx,true,rfl,⟨upd_same,(fun dx' e=>by cases e;exact ⟨_,T1 _ _ hd⟩)⟩,R.wO,fun p H2 s2 hp=>?_⟩
   have S2:=s1.trans (T1.trans s2)
   refine ⟨(by show 1 ≤ sizeLine;decide),fun p2 e2=>?_⟩
   have T2:=Same.upd (o:=.lst [V.str "any"]) e2
   refine ⟨_,rfl,p2,du,_,_,rfl,rfl,upd_same,(S2.trans T2) _ _ hdu,(by decide +kernel),fun p3 e3=>?_⟩
   have T3:=Same.upd (o:=.lst ([V.str "any"] ++ [V.str "step",V.str "table"])) e3
   refine ⟨p,p3,wds true,wds true,rfl,rfl,SqL.of ((T2.trans T3) _ _ hp),SqL.of upd_same,_,rfl,iteC (by decide +kernel) ?_⟩
   refine ⟨_,rfl,rfl,_,rfl,iteC (decide_eq_false (by simp)) ?_⟩
   have S3:=s2.trans (T2.trans T3)
   have hx3:=S3 _ _ (show (L2.upd H' x (.ext (gotP x CO (some dx)))) x = _ from upd_same)
   have hd3:=(T1.trans S3) _ _ hd
   refine ⟨_,rfl,x,CO,dx,_,_,rfl,hx3,hd3,R.xO,R.n1,stp_table z,_,rfl,_,_,rfl,.str,fun H5 s5=>⟨_,rfl,iteT ?_⟩⟩
   have hx5:=s5 _ _ hx3
   have hd5:=s5 _ _ hd3
   refine ⟨_,rfl,x,CO,dx,_,_,rfl,hx5,hd5,R.xO,R.n2,stp_key z,rfl,_,rfl,iteT ?_⟩
   exact ⟨_,rfl,x,CO,dx,_,_,rfl,hx5,hd5,R.xO,R.n3,stp_place z,rfl,q _ (S2.trans ((T2.trans T3).trans s5))⟩
end
end My
namespace My
open PySem L2 PyProof.Rows
seal L2.PE L2.PT L2.PW L2.PS L2.PSs L2.PA L2.PI L2.PG L2.PGs L2.OpR L2.UnR L2.CallR L2.IxR L2.SlR L2.MtR L2.PIf L2.PO L2.MtM L2.PC L2.PIp L2.PSet L2.PGet L2.TruR L2.InOp L2.PK
theorem PP.append {H:Hp} {es es' ds ds':List Addr} {Ts Ts':List Tb} (h:PP H es ds Ts) (h':PP H es' ds' Ts'):PP H (es ++ es') (ds ++ ds') (Ts ++ Ts'):=by
 obtain ⟨h2,h3,h4⟩:=h
 obtain ⟨h2',h3',h4'⟩:=h'
 refine ⟨by rw [List.length_append,List.length_append,h2,h2'],by rw [List.length_append,List.length_append,h3,h3'],fun j e d T' a b c=>?_⟩
 by_cases hj:j < Ts.length
 ·rw [List.getElem?_append_left (by omega)] at a b c
  exact h4 j e d T' a b c
 ·rw [List.getElem?_append_right (by omega)] at a b c
  rw [h2] at a
  rw [h3] at b
  exact h4' _ e d T' a b c
theorem PP.take {H:Hp} {es ds:List Addr} {Ts:List Tb} (h:PP H es ds Ts) (k:Nat):PP H (es.take k) (ds.take k) (Ts.take k):=by
 obtain ⟨h2,h3,h4⟩:=h
 refine ⟨by rw [List.length_take,List.length_take,h2],by rw [List.length_take,List.length_take,h3],fun j e d T' a b c=>?_⟩
 have hj:j < k:=by
  have:=(List.getElem?_eq_some_iff.mp a).1
  rw [List.length_take] at this
  omega
 rw [List.getElem?_take_of_lt hj] at a b c
 exact h4 j e d T' a b c
theorem PP.drop {H:Hp} {es ds:List Addr} {Ts:List Tb} (h:PP H es ds Ts) (k:Nat):PP H (es.drop k) (ds.drop k) (Ts.drop k):=by
 obtain ⟨h2,h3,h4⟩:=h
 refine ⟨by rw [List.length_drop,List.length_drop,h2],by rw [List.length_drop,List.length_drop,h3],fun j e d T' a b c=>?_⟩
 rw [List.getElem?_drop] at a b c
 exact h4 _ e d T' a b c
theorem PP.one {H:Hp} {e d:Addr} {T:Tb} (h:PartAt H e d T):PP H [e] [d] [T]:=by
 refine ⟨rfl,rfl,fun j e' d' T' a b c=>?_⟩
 match j,a,b,c with
 | 0,a,b,c=>cases a;cases b;cases c;exact h
 | j + 1,a,b,c=>simp at a
theorem PP.same {H H':Hp} {es ds:List Addr} {Ts:List Tb} (h:PP H es ds Ts) (s:Same H H'):PP H' es ds Ts:=h.map fun e d T p=>p.same s
def spPartsL:Sp:=fun vs H Q _=>∃ (l:Addr) (es ds:List Addr) (Ts:List Tb) (wy a:Int) (z so:Str) (cd:Addr) (cols:List (Str × V)),vs = [.ref l,.int wy,.int a,.str z,.str so,.ref cd]/\PartsAt H l es ds Ts/\Ts.length ≤ 8/\H cd = some (.dK (kvC cols))/\ColsOk H cols ∧
 ((wy = 0/\∀ l' es' ds' H',Same H H'->(∀ d ∈ ds',d ∈ ds\/d = cd)->PartsAt H' l' es' ds' (Ts ++ [⟨z,so,cols⟩])->Q (.ref l') H') ∨
  (wy = 1/\∃ (k:Nat) (T:Tb),a = (k:Int)/\Ts[k]? = some T/\∀ l' es' ds' H',Same H H'->(∀ d ∈ ds',d ∈ ds\/d = cd)->PartsAt H' l' es' ds' (Ts.take k ++ [⟨z,T.sort,cols⟩] ++ Ts.drop (k + 1))->Q (.ref l') H') ∨
  (wy = 2/\∃ k:Nat,a = (k:Int)/\k < Ts.length/\∀ l' es' ds' H',Same H H'->(∀ d ∈ ds',d ∈ ds\/d = cd)->PartsAt H' l' es' ds' (Ts.take k ++ Ts.drop (k + 1))->Q (.ref l') H'))
section
variable {P:Program} {w:World} {K:PySem.W.Frag} {mg:Str->Option Value} {base:Heap} {CT CS CO CN PF a1 a2 a3 a4 a5 b1 b2 b3 b4 b5 b6 b7:Addr}
theorem ok_partsL {f:Addr} {fd:FuncData} (F:Fun K "_law_parts" "_law_parts" (top 55) f fd):FnOk P w K mg base CX0 1 f fd ["_law_parts_here","_law_way","_law_at_here","_law_name","_law_sort","_law_columns_here"] spPartsL:=by
 have sc:FnScope ["_law_parts_here","_law_way","_law_at_here","_law_name","_law_sort","_law_columns_here"] ["_law_parts_here","_law_way","_law_at_here","_law_name","_law_sort","_law_columns_here"] (defScope (top 55)):=⟨rfl,rfl,rfl,by decide +kernel,rfl,by decide +kernel,by decide +kernel⟩
 refine F.ok sc (fun vs H Q E h=>?_) (fun cdv A outer s H vs Q E hr h=>?_)
 ·obtain ⟨l,es,ds,Ts,wy,a,z,so,cd,cols,rfl,_⟩:=h
  rfl
 ·obtain ⟨l,es,ds,Ts,wy,a,z,so,cd,cols,rfl,hP,t8,hcd,hco,q⟩:=h
  refine ⟨_,pss_cons (ps_if (pt_cmpR op_eq (pv 1) pe_int (nomark _)) (pss_one (ps_ret (pe_op op_cat (pv 0) (pe_lst (pa_cons (pe_tup (pa_cons (pv 3) (pa_cons (pv 4) (pa_cons (pv 5) pa_nil)))) pa_nil))))) pss_nil)
   (pss_cons (ps_if (pt_cmpR op_eq (pv 1) pe_int (nomark _)) (pss_one (ps_ret (pe_op op_cat (pe_op op_cat (pe_slice sl_list (pv 0) po_none (po_some (pv 2))) (pe_lst (pa_cons (pe_tup (pa_cons (pv 3) (pa_cons (pe_ix ix_tup (pe_ix ix_list (pv 0) (pv 2) (fun _ _=>rfl)) pe_int (fun _ _=>rfl)) (pa_cons (pv 5) pa_nil)))) pa_nil))) (pe_slice sl_list (pv 0) (po_some (pe_op op_add (pv 2) pe_int)) po_none)))) pss_nil)
   (pss_one (ps_ret (pe_op op_cat (pe_slice sl_list (pv 0) po_none (po_some (pv 2))) (pe_slice sl_list (pv 0) (po_some (pe_op op_add (pv 2) pe_int)) po_none))))),?_⟩
  have hl:=hP.1
  have pp:PP H es ds Ts:=hP.2
  have el:es.length = Ts.length:=pp.1
  rcases q with ⟨rfl,q⟩ | ⟨rfl,k,T,rfl,hT,q⟩ | ⟨rfl,k,rfl,hk,q⟩
  ·refine ⟨_,rfl,rfl,_,rfl,iteT ?_⟩
   refine ⟨_,rfl,_,rfl,_,rfl,_,rfl,(by show 3 ≤ sizeLine;decide),fun p hp=>?_⟩
   have T1:=Same.upd (o:=.tup [.str z,.str so,.ref cd]) hp
   refine ⟨(by show 1 ≤ sizeLine;decide),fun l2 hl2=>?_⟩
   have T2:=Same.upd (o:=.lst [V.ref p]) hl2
   refine ⟨l,l2,_,_,rfl,rfl,(T1.trans T2) _ _ hl,upd_same,?_,fun l3 e3=>?_⟩
   ·rw [List.length_map,sizeLine_eq]
    simp only [List.length_cons,List.length_nil]
    omega
   have T3:=Same.upd (o:=.lst (es.map V.ref ++ [V.ref p])) e3
   have S3:=T1.trans (T2.trans T3)
   refine q l3 (es ++ [p]) (ds ++ [cd]) _ S3 (fun d hd=>?_) ⟨by rw [upd_same,List.map_append];rfl,(pp.same S3).snoc ⟨(T2.trans T3) _ _ upd_same,S3 _ _ hcd,hco.same S3⟩⟩
   rcases List.mem_append.mp hd with h | h
   ·exact .inl h
   ·exact .inr (List.mem_singleton.mp h)
  ·have hk:k < Ts.length:=(List.getElem?_eq_some_iff.mp hT).1
   have hke:k < es.length:=by omega
   have hkd:k < ds.length:=by have:=pp.2.1;omega
   have pt:=pp.2.2 k es[k] ds[k] T (List.getElem?_eq_getElem hke) (List.getElem?_eq_getElem hkd) hT
   refine ⟨_,rfl,rfl,_,rfl,iteC (by decide) ⟨_,rfl,rfl,_,rfl,iteT ?_⟩⟩
   refine ⟨_,rfl,_,rfl,_,rfl,l,_,rfl,SqL.of hl,fun p1 e1=>?_⟩
   rw [cut_to (by omega) (by rw [List.length_map];omega),← List.map_take]
   have T1:=Same.upd (o:=.lst ((es.take (k:Int).toNat).map V.ref)) e1
   refine ⟨_,rfl,_,rfl,_,rfl,_,_,_,_,rfl,rfl,SqL.of (T1 _ _ hl),atI_nat (by rw [List.getElem?_map,List.getElem?_eq_getElem hke];rfl),_,_,1,_,rfl,rfl,SqT.of (T1 _ _ pt.1),rfl,_,rfl,(by show 3 ≤ sizeLine;decide),fun p hp=>?_⟩
   have T2:=Same.upd (o:=.tup [.str z,.str T.sort,.ref cd]) hp
   refine ⟨(by show 1 ≤ sizeLine;decide),fun l2 hl2=>?_⟩
   have T3:=Same.upd (o:=.lst [V.ref p]) hl2
   refine ⟨p1,l2,_,_,rfl,rfl,(T2.trans T3) _ _ upd_same,upd_same,?_,fun l3 e3=>?_⟩
   ·rw [List.length_map,List.length_take,sizeLine_eq]
    simp only [List.length_cons,List.length_nil]
    omega
   have T4:=Same.upd (o:=.lst ((es.take (k:Int).toNat).map V.ref ++ [V.ref p])) e3
   have S4:=T1.trans (T2.trans (T3.trans T4))
   refine ⟨_,rfl,_,rfl,_,_,rfl,rfl,_,rfl,l,_,rfl,SqL.of (S4 _ _ hl),fun p5 e5=>?_⟩
   rw [cut_from (by omega) (by rw [List.length_map];omega),← List.map_drop]
   have T5:=Same.upd (o:=.lst ((es.drop ((k:Int) + 1).toNat).map V.ref)) e5
   refine ⟨l3,p5,_,_,rfl,rfl,T5 _ _ upd_same,upd_same,?_,fun l6 e6=>?_⟩
   ·rw [List.length_append,List.length_map,List.length_map,List.length_take,List.length_drop,sizeLine_eq]
    simp only [List.length_cons,List.length_nil]
    omega
   have T6:=Same.upd (o:=.lst (((es.take (k:Int).toNat).map V.ref ++ [V.ref p]) ++ (es.drop ((k:Int) + 1).toNat).map V.ref)) e6
   have S6:=S4.trans (T5.trans T6)
   refine q l6 (es.take k ++ [p] ++ es.drop (k + 1)) (ds.take k ++ [cd] ++ ds.drop (k + 1)) _ S6 (fun d hd=>?_) ⟨?_,?_⟩
   ·rcases List.mem_append.mp hd with h | h
    ·rcases List.mem_append.mp h with h | h
     ·exact .inl (List.mem_of_mem_take h)
     ·exact .inr (List.mem_singleton.mp h)
    ·exact .inl (List.mem_of_mem_drop h)
   ·rw [upd_same,List.map_append,List.map_append]
    rfl
   ·exact (((pp.take k).same S6).append (PP.one ⟨(T3.trans (T4.trans (T5.trans T6))) _ _ upd_same,S6 _ _ hcd,hco.same S6⟩)).append ((pp.drop (k + 1)).same S6)
  ·refine ⟨_,rfl,rfl,_,rfl,iteC (by decide) ⟨_,rfl,rfl,_,rfl,iteC (by decide) ?_⟩⟩
   refine ⟨_,rfl,_,rfl,_,rfl,l,_,rfl,SqL.of hl,fun p1 e1=>?_⟩
   rw [cut_to (by omega) (by rw [List.length_map];omega),← List.map_take]
   have T1:=Same.upd (o:=.lst ((es.take (k:Int).toNat).map V.ref)) e1
   refine ⟨_,rfl,_,rfl,_,_,rfl,rfl,_,rfl,l,_,rfl,SqL.of (T1 _ _ hl),fun p5 e5=>?_⟩
   rw [cut_from (by omega) (by rw [List.length_map];omega),← List.map_drop]
   have T5:=Same.upd (o:=.lst ((es.drop ((k:Int) + 1).toNat).map V.ref)) e5
   refine ⟨p1,p5,_,_,rfl,rfl,T5 _ _ upd_same,upd_same,?_,fun l6 e6=>?_⟩
   ·rw [List.length_map,List.length_map,List.length_take,List.length_drop,sizeLine_eq]
    omega
   have T6:=Same.upd (o:=.lst ((es.take (k:Int).toNat).map V.ref ++ (es.drop ((k:Int) + 1).toNat).map V.ref)) e6
   have S6:=T1.trans (T5.trans T6)
   refine q l6 (es.take k ++ es.drop (k + 1)) (ds.take k ++ ds.drop (k + 1)) _ S6 (fun d hd=>(List.mem_append.mp hd).elim (fun h=>.inl (List.mem_of_mem_take h)) (fun h=>.inl (List.mem_of_mem_drop h))) ⟨?_,((pp.take k).same S6).append ((pp.drop (k + 1)).same S6)⟩
   rw [upd_same,List.map_append]
   rfl
end
end My
namespace My
open PySem L2 PyProof.Rows
seal L2.PE L2.PT L2.PW L2.PS L2.PSs L2.PA L2.PI L2.PG L2.PGs L2.OpR L2.UnR L2.CallR L2.IxR L2.SlR L2.MtR L2.PIf L2.PO L2.MtM L2.PC L2.PIp L2.PSet L2.PGet L2.TruR L2.InOp L2.PK
theorem cutX {G:Prop} {T:Addr->Hp->Prop} (R:Addr->Hp->Prop) (h:(∀ dx H8,R dx H8->T dx H8)->G) (fin:∀ dx H8,R dx H8->T dx H8):G:=h fin
theorem cutF {G:Prop} {T:Hp->Prop} (R:Hp->Prop) (h:(∀ H8,R H8->T H8)->G) (fin:∀ H8,R H8->T H8):G:=h fin
theorem FK.same {H H':Hp} {f:Addr} {sz:Int} {T0:Tb} {R:List Tb} (h:FK H f sz T0 R) (s:Same H H'):FK H' f sz T0 R:=⟨h.at_.same s,h.ts,fun T hT=>(h.co T hT).same s,h.sz1⟩
theorem FK.sb {H H':Hp} {f:Addr} {sz:Int} {T0:Tb} {R:List Tb} (h:FK H f sz T0 R) (s:Sb H H'):FK H' f sz T0 R:=⟨h.at_.sb s,h.ts,fun T hT=>(h.co T hT).sb s,h.sz1⟩
theorem ColsOk.nil (H:Hp):ColsOk H []:=⟨List.nodup_nil,Nat.zero_le _,fun p h=>nomatch h⟩
theorem name_sp (z:Str):nameS (z ++ " ") = false:=by
 unfold nameS
 have:((z ++ (" ":Str)).cps.toList.all fun c=>decide (c ∈ letters)) = false:=by
  rw [List.all_eq_false]
  refine ⟨32,?_,by decide +kernel⟩
  have e:(z ++ (" ":Str)).cps.toList = z.cps.toList ++ [32]:=by
   show (z.cps ++ (" ":Str).cps).toList = _
   rw [Array.toList_append]
   rfl
  rw [e]
  simp
 rw [this,Bool.and_false]
theorem len_sp (z:Str):(z ++ (" ":Str)).length = z.length + 1:=by
 show (z.cps ++ (" ":Str).cps).size = z.cps.size + 1
 rw [Array.size_append]
 rfl
def spNoT (PF:Addr):Sp:=fun vs H Q _=>∃ (f:Addr) (sz:Int) (T0:Tb) (R:List Tb) (z:Str) (wy:Int),vs = [.ref f,.str z,.int wy]/\FK H f sz T0 R/\TabOk PF foPos foQ H/\z ∉ (T0 :: R).map (·.name)/\0 ≤ wy/\wy < 4/\∀ H',Same H H'->Q (.bl true) H'
def spNoF (PF:Addr):Sp:=fun vs H Q _=>∃ (f:Addr) (sz:Int) (T0:Tb) (R:List Tb) (th fr:Str) (wy:Int),vs = [.ref f,.str th,.str fr,.int wy]/\FK H f sz T0 R/\TabOk PF foPos foQ H/\th ∈ (T0 :: R).map (·.name)/\nameS fr = true/\0 ≤ wy/\wy < 7/\∀ H',Same H H'->Q (.bl true) H'
def ntN:List Str:=["_law_form_here","_law_name","_law_way","_law_caught","e"]
def nfN:List Str:=["_law_form_here","_law_there","_law_fresh","_law_way","_law_caught","e"]
section
variable {P:Program} {w:World} {K:PySem.W.Frag} {mg:Str->Option Value} {base:Heap} {CT CS CO CN PF a1 a2 a3 a4 a5 b1 b2 b3 b4 b5 b6 b7:Addr}
theorem ok_noSort {f fT:Addr} {fd fdT:FuncData} (F:Fun K "sort_of" "sort_of" (top 34) f fd) (DT:Df K mg "table_in" (top 36) fT fdT) (GT:FnOk P w K mg base (CX1 P w) 3 fT fdT ["form","table"] (spNoTab CO)):FnOk P w K mg base (CX1 P w) 4 f fd ["form","table"] (spNoTab CO):=by
 have sc:FnScope ["form","table"] ["form","table"] (defScope (top 34)):=⟨rfl,rfl,rfl,by decide +kernel,rfl,by decide +kernel,by decide +kernel⟩
 have bT:=DT.fn.binds (ps:=["form","table"]) fun _ _ _ _ _ _ us hl=>by obtain ⟨v0,v1,rfl⟩:=L2.ln2 hl;rfl
 refine F.x.okX sc (fun vs H Q E h=>?_) (fun cdv A outer s H vs Q E hr h=>?_)
 ·obtain ⟨f,sz,Ts,z,rfl,_⟩:=h
  rfl
 ·obtain ⟨f,sz,Ts,z,rfl,hf,nz,q⟩:=h
  exact ⟨_,pss_one (ps_ret (pe_ix ix_tup (pe_callX GT hr (by rfl) DT.mg DT.fn.kp bT .nil lands_cx (pa_cons (pv 0) (pa_cons (pv 1) pa_nil))) pe_int (fun _ _=>rfl))),_,rfl,_,rfl,f,sz,Ts,z,rfl,hf,nz,q⟩
theorem ok_noCols {f fT:Addr} {fd fdT:FuncData} (F:Fun K "columns_of" "columns_of" (top 35) f fd) (B:Bl mg) (DT:Df K mg "table_in" (top 36) fT fdT) (GT:FnOk P w K mg base (CX1 P w) 3 fT fdT ["form","table"] (spNoTab CO)):FnOk P w K mg base (CX1 P w) 4 f fd ["form","table"] (spNoTab CO):=by
 have sc:FnScope ["form","table"] ["form","table"] (defScope (top 35)):=⟨rfl,rfl,rfl,by decide +kernel,rfl,by decide +kernel,by decide +kernel⟩
 have bT:=DT.fn.binds (ps:=["form","table"]) fun _ _ _ _ _ _ us hl=>by obtain ⟨v0,v1,rfl⟩:=L2.ln2 hl;rfl
 refine F.x.okX sc (fun vs H Q E h=>?_) (fun cdv A outer s H vs Q E hr h=>?_)
 ·obtain ⟨f,sz,Ts,z,rfl,_⟩:=h
  rfl
 ·obtain ⟨f,sz,Ts,z,rfl,hf,nz,q⟩:=h
  exact ⟨_,pss_one (ps_ret (pe_callTy (call_dictT rfl) (by rfl) B.dict boot_dict (pa_cons (pe_ix ix_tup (pe_callX GT hr (by rfl) DT.mg DT.fn.kp bT .nil lands_cx (pa_cons (pv 0) (pa_cons (pv 1) pa_nil))) pe_int (fun _ _=>rfl)) pa_nil))),_,rfl,_,rfl,f,sz,Ts,z,rfl,hf,nz,q⟩
theorem ok_noT {fself fA fB fC fD fW fS:Addr} {fd fdA fdB fdC fdD fdW fdS:FuncData} (F:Fun K "_law_no_table" "_law_no_table" (top 57) fself fd) (B:Bl mg) (hz:mg "zip" = none) (R:Rf9 K mg CT CS CO CN a1 a2 a3 a4 a5 b1 b2 b3 b4 b5 b6 b7) (DA:Df K mg "sort_of" (top 34) fA fdA) (GA:FnOk P w K mg base (CX1 P w) 4 fA fdA ["form","table"] (spNoTab CO)) (DB:Df K mg "columns_of" (top 35) fB fdB) (GB:FnOk P w K mg base (CX1 P w) 4 fB fdB ["form","table"] (spNoTab CO))
  (DC:Df K mg "with_columns" (top 38) fC fdC) (GC:FnOk P w K mg base (CX1 P w) 7 fC fdC ["form","table","columns"] (spWithC PF CO CN)) (DD:Df K mg "without_table" (top 40) fD fdD) (GD:FnOk P w K mg base (CX1 P w) 7 fD fdD ["form","name"] (spWithout PF CO CN)) (DW:Df K mg "_law_words" (top 51) fW fdW) (DS:Df K mg "_law_same" (top 49) fS fdS) :
  FnOk P w K mg base CX0 8 fself fd ["_law_form_here","_law_name","_law_way"] (spNoT PF):=by
 have sc:FnScope ntN ["_law_form_here","_law_name","_law_way"] (defScope (top 57)):=⟨rfl,rfl,rfl,by decide +kernel,rfl,by decide +kernel,by decide +kernel⟩
 have GW:FnOk P w K mg base CX0 1 fW fdW ["_law_caught"] (spWords CT CS CO CN [a1,a2,a3,a4,a5] [b1,b2,b3,b4,b5,b6,b7] K):=ok_words DW.fn B R
 have GS:FnOk P w K mg base CX0 1 fS fdS ["_law_found","_law_due_here"] (spSame5 0):=ok_same DS B hz 0
 have bA:=DA.fn.binds (ps:=["form","table"]) fun _ _ _ _ _ _ us hl=>by obtain ⟨v0,v1,rfl⟩:=L2.ln2 hl;rfl
 have bB:=DB.fn.binds (ps:=["form","table"]) fun _ _ _ _ _ _ us hl=>by obtain ⟨v0,v1,rfl⟩:=L2.ln2 hl;rfl
 have bC:=DC.fn.binds (ps:=["form","table","columns"]) fun _ _ _ _ _ _ us hl=>by obtain ⟨v0,v1,v2,rfl⟩:=L2.ln3 hl;rfl
 have bD:=DD.fn.binds (ps:=["form","name"]) fun _ _ _ _ _ _ us hl=>by obtain ⟨v0,v1,rfl⟩:=L2.ln2 hl;rfl
 have bW:=DW.fn.binds (ps:=["_law_caught"]) fun _ _ _ _ _ _ us hl=>by obtain ⟨v0,rfl⟩:=L2.ln1 hl;rfl
 have bS:=DS.fn.binds (ps:=["_law_found","_law_due_here"]) fun _ _ _ _ _ _ us hl=>by obtain ⟨v0,v1,rfl⟩:=L2.ln2 hl;rfl
 refine F.ok sc (fun vs H Q E h=>?_) (fun cdv A outer s H vs Q E hr h=>?_)
 ·obtain ⟨f,sz,T0,R,z,wy,rfl,_⟩:=h
  rfl
 ·obtain ⟨f,sz,T0,R',z,wy,rfl,fk,tab,nz,w0,w4,q⟩:=h
  have hr1:Room 1 _:=hr.mono (by decide)
  have hr4:Room 4 _:=hr.mono (by decide)
  have hu:(A.deeper (envOfC "_law_no_table" (defScope (top 57)) s.heap.objs.size fself cdv)).units < cLine:=by have:=hu_of hr;omega
  refine ⟨_,pss_cons (ps_set (i:=3) sc.nd rfl (Or.inl rfl) pe_non)
   (pss_cons (ps_tryU1 (on:=none) (i:=4) rfl rfl sc.nd rfl rfl (by rfl) R.mO R.xO
    (fun D pn XE L=>pss_one (ps_if (pt_cmpR op_eq (pv 2) pe_int (nomark _)) (pss_one (ps_expr (pe_callX GA hr4 (by rfl) DA.mg DA.fn.kp bA .nil L (pa_cons (pv 0) (pa_cons (pv 1) pa_nil)))))
     (pss_one (ps_if (pt_cmpR op_eq (pv 2) pe_int (nomark _)) (pss_one (ps_expr (pe_callX GB hr4 (by rfl) DB.mg DB.fn.kp bB .nil L (pa_cons (pv 0) (pa_cons (pv 1) pa_nil)))))
     (pss_one (ps_if (pt_cmpR op_eq (pv 2) pe_int (nomark _)) (pss_one (ps_expr (pe_callX GC hr (by rfl) DC.mg DC.fn.kp bC .nil L (pa_cons (pv 0) (pa_cons (pv 1) (pa_cons (pe_disp (pps_cons pe_str pe_non pps_nil) rfl rfl (by simp) (by decide)) pa_nil))))))
     (pss_one (ps_expr (pe_callX GD hr (by rfl) DD.mg DD.fn.kp bD .nil L (pa_cons (pv 0) (pa_cons (pv 1) pa_nil)))))))))))
    (fun x C=>pss_one (ps_set (i:=3) sc.nd rfl (Or.inl rfl) (pv 4))))
   (pss_cons (ps_if (PW.pt (pw_or (pt_cmpR op_isN (pv 3) pe_non (nomark _)) (pw_or1 (pt_cmpR (op_neTs hu) (pe_call GW hr1 (by rfl) DW.mg DW.fn.kp bW .nil pass0 (pa_cons (pv 3) pa_nil)) (pe_lst (pa_cons pe_str (pa_cons pe_str (pa_cons pe_str pa_nil)))) (nomark _))))) pss_never pss_nil)
   (pss_one (ps_ret (pe_and (pe_call GS hr1 (by rfl) DS.mg DS.fn.kp bS .nil pass0 (pa_cons (pe_xfld (pv 3) rfl) (pa_cons (pv 1) pa_nil))) (pe_and (pe_cmpR op_isN (pe_xfld (pv 3) rfl) pe_non (nomark _)) (pe_one (pe_cmpR op_isN (pe_xfld (pv 3) rfl) pe_non (nomark _))))))))),?_⟩
  obtain ⟨U,hF,hU,fx,co,t8,tsU,eU⟩:=fk.get
  have nzU:z ∉ (cn T0 :: U).map (·.name):=fun h=>nz ((names_cn (T0:=T0) hU).mem_iff.mp h)
  have yes:∀ {k:Int},wy = k->decide (V.int wy = V.int k) = true:=fun e=>by rw [e];exact decide_eq_true rfl
  have no:∀ {k:Int},wy ≠ k->decide (V.int wy = V.int k) = false:=fun n=>decide_eq_false fun e=>n (by injection e)
  apply cutX (fun dx H'=>H' dx = some (.ext (dctP dx (stp z)))/\Same H H')
  ·intro fin
   have hw:wy = 0\/wy = 1\/wy = 2\/wy = 3:=by omega
   rcases hw with h | h | h | h
   ·exact ⟨_,rfl,rfl,_,rfl,iteB (yes h) ⟨_,rfl,_,rfl,f,sz,_,z,rfl,hF,nzU,fun dx H' _ hd s=>fin dx H' ⟨hd,s⟩⟩⟩
   ·exact ⟨_,rfl,rfl,_,rfl,iteC (no (by omega)) ⟨_,rfl,rfl,_,rfl,iteB (yes h) ⟨_,rfl,_,rfl,f,sz,_,z,rfl,hF,nzU,fun dx H' _ hd s=>fin dx H' ⟨hd,s⟩⟩⟩⟩
   ·refine ⟨_,rfl,rfl,_,rfl,iteC (no (by omega)) ⟨_,rfl,rfl,_,rfl,iteC (no (by omega)) ⟨_,rfl,rfl,_,rfl,iteB (yes h) ⟨_,rfl,_,rfl,fun p hp=>⟨upd_same,[(.inr "Bad",.non)],rfl,(by decide),?_⟩⟩⟩⟩⟩
    have T1:=Same.upd2 (o:=.dK []) (o':=.dK (mergeK [] [(Sum.inr "Bad",V.non)])) hp
    exact ⟨f,sz,T0,R',z,p,rfl,fk.same T1,tab.same T1,.inl ⟨nz,fun dx H' _ hd s=>fin dx H' ⟨hd,T1.trans s⟩⟩⟩
   ·exact ⟨_,rfl,rfl,_,rfl,iteC (no (by omega)) ⟨_,rfl,rfl,_,rfl,iteC (no (by omega)) ⟨_,rfl,rfl,_,rfl,iteC (no (by omega)) ⟨_,rfl,_,rfl,f,sz,T0,R',z,rfl,fk,tab,.inl ⟨nz,fun dx H' _ hd s=>fin dx H' ⟨hd,s⟩⟩⟩⟩⟩⟩
  ·rintro dx H' ⟨hd,s1⟩
   refine ⟨CO,rfl,R.uO,fun x hx=>⟨_,rfl,?_⟩⟩
   have T1:=Same.upd (o:=.ext (gotP x CO (some dx))) hx
   refine ⟨_,rfl,rfl,_,rfl,iteC (decide_eq_false (by simp)) ?_⟩
   refine ⟨_,rfl,x,CO,some dx,true,rfl,⟨upd_same,(fun dx' e=>by cases e;exact ⟨_,T1 _ _ hd⟩)⟩,R.wO,fun p H2 s2 hp=>?_⟩
   have S2:=s1.trans (T1.trans s2)
   refine ⟨(by show 3 ≤ sizeLine;decide),fun p2 e2=>?_⟩
   have T2:=Same.upd (o:=.lst ((wds true).map V.str)) e2
   refine ⟨p,p2,wds true,wds true,rfl,rfl,SqL.of (T2 _ _ hp),SqL.of upd_same,_,rfl,iteC (by decide +kernel) ?_⟩
   have S3:=s2.trans T2
   have hx3:=S3 _ _ (show (L2.upd H' x (.ext (gotP x CO (some dx)))) x = _ from upd_same)
   have hd3:=(T1.trans S3) _ _ hd
   refine ⟨_,rfl,x,CO,dx,_,_,rfl,hx3,hd3,R.xO,R.n1,stp_table z,_,rfl,_,_,rfl,.str,fun H5 s5=>⟨_,rfl,iteT ?_⟩⟩
   have hx5:=s5 _ _ hx3
   have hd5:=s5 _ _ hd3
   refine ⟨_,rfl,x,CO,dx,_,_,rfl,hx5,hd5,R.xO,R.n2,stp_key z,rfl,_,rfl,iteT ?_⟩
   exact ⟨_,rfl,x,CO,dx,_,_,rfl,hx5,hd5,R.xO,R.n3,stp_place z,rfl,q _ (S2.trans (T2.trans s5))⟩
theorem ok_noF {fself fA fC fD fW:Addr} {fd fdA fdC fdD fdW:FuncData} (F:Fun K "_law_no_form" "_law_no_form" (top 58) fself fd) (B:Bl mg) (R:Rf9 K mg CT CS CO CN a1 a2 a3 a4 a5 b1 b2 b3 b4 b5 b6 b7) (DA:Df K mg "with_table" (top 39) fA fdA) (GA:FnOk P w K mg base (CX1 P w) 7 fA fdA ["form","name","sort","columns"] (spWithT PF CN))
  (DC:Df K mg "with_columns" (top 38) fC fdC) (GC:FnOk P w K mg base (CX1 P w) 7 fC fdC ["form","table","columns"] (spWithC PF CO CN)) (DD:Df K mg "without_table" (top 40) fD fdD) (GD:FnOk P w K mg base (CX1 P w) 7 fD fdD ["form","name"] (spWithout PF CO CN)) (DW:Df K mg "_law_words" (top 51) fW fdW) :
  FnOk P w K mg base CX0 8 fself fd ["_law_form_here","_law_there","_law_fresh","_law_way"] (spNoF PF):=by
 have sc:FnScope nfN ["_law_form_here","_law_there","_law_fresh","_law_way"] (defScope (top 58)):=⟨rfl,rfl,rfl,by decide +kernel,rfl,by decide +kernel,by decide +kernel⟩
 have GW:FnOk P w K mg base CX0 1 fW fdW ["_law_caught"] (spWords CT CS CO CN [a1,a2,a3,a4,a5] [b1,b2,b3,b4,b5,b6,b7] K):=ok_words DW.fn B R
 have bA:=DA.fn.binds (ps:=["form","name","sort","columns"]) fun _ _ _ _ _ _ us hl=>by obtain ⟨v0,v1,v2,v3,rfl⟩:=L2.ln4 hl;rfl
 have bC:=DC.fn.binds (ps:=["form","table","columns"]) fun _ _ _ _ _ _ us hl=>by obtain ⟨v0,v1,v2,rfl⟩:=L2.ln3 hl;rfl
 have bD:=DD.fn.binds (ps:=["form","name"]) fun _ _ _ _ _ _ us hl=>by obtain ⟨v0,v1,rfl⟩:=L2.ln2 hl;rfl
 have bW:=DW.fn.binds (ps:=["_law_caught"]) fun _ _ _ _ _ _ us hl=>by obtain ⟨v0,rfl⟩:=L2.ln1 hl;rfl
 refine F.ok sc (fun vs H Q E h=>?_) (fun cdv A outer s H vs Q E hr h=>?_)
 ·obtain ⟨f,sz,T0,R,th,fr,wy,rfl,_⟩:=h
  rfl
 ·obtain ⟨f,sz,T0,R',th,fr,wy,rfl,fk,tab,hth,hfr,w0,w7,q⟩:=h
  have hr1:Room 1 _:=hr.mono (by decide)
  have hu:(A.deeper (envOfC "_law_no_form" (defScope (top 58)) s.heap.objs.size fself cdv)).units < cLine:=by have:=hu_of hr;omega
  refine ⟨_,pss_cons (ps_set (i:=4) sc.nd rfl (Or.inl rfl) pe_non)
   (pss_cons (ps_tryU (i:=5) rfl rfl sc.nd rfl rfl (by rfl) R.mT R.xT
    (fun D pn XE L=>pss_one (ps_if (pt_cmpR op_eq (pv 3) pe_int (nomark _)) (pss_one (ps_expr (pe_callX GA hr (by rfl) DA.mg DA.fn.kp bA .nil L (pa_cons (pv 0) (pa_cons (pv 1) (pa_cons pe_str (pa_cons pe_dnewK pa_nil)))))))
     (pss_one (ps_if (pt_cmpR op_eq (pv 3) pe_int (nomark _)) (pss_one (ps_expr (pe_callX GA hr (by rfl) DA.mg DA.fn.kp bA .nil L (pa_cons (pv 0) (pa_cons (pv 2) (pa_cons pe_str (pa_cons pe_dnewK pa_nil)))))))
     (pss_one (ps_if (pt_cmpR op_eq (pv 3) pe_int (nomark _)) (pss_one (ps_expr (pe_callX GD hr (by rfl) DD.mg DD.fn.kp bD .nil L (pa_cons (pv 0) (pa_cons (pe_ix (r:=rIxT K) ix_tup (pe_ix (r:=rIxT K) ix_tup (pe_ix (r:=rIxT K) ix_tup (pv 0) pe_int (fun _ _=>rfl)) pe_int (fun _ _=>rfl)) pe_int (fun _ _=>rfl)) pa_nil)))))
     (pss_one (ps_if (pt_cmpR op_eq (pv 3) pe_int (nomark _)) (pss_one (ps_expr (pe_callX GC hr (by rfl) DC.mg DC.fn.kp bC .nil L (pa_cons (pv 0) (pa_cons (pv 1) (pa_cons (pe_disp (pps_cons pe_str (pe_tup (pa_cons pe_str pa_nil)) pps_nil) rfl rfl (by simp) (by decide)) pa_nil))))))
     (pss_one (ps_if (pt_cmpR op_eq (pv 3) pe_int (nomark _)) (pss_one (ps_expr (pe_callX GC hr (by rfl) DC.mg DC.fn.kp bC .nil L (pa_cons (pv 0) (pa_cons (pv 1) (pa_cons (pe_disp (pps_cons pe_str (pe_tup (pa_cons pe_str pa_nil)) pps_nil) rfl rfl (by simp) (by decide)) pa_nil))))))
     (pss_one (ps_if (pt_cmpR op_eq (pv 3) pe_int (nomark _)) (pss_one (ps_expr (pe_callX GA hr (by rfl) DA.mg DA.fn.kp bA .nil L (pa_cons (pv 0) (pa_cons (pe_op op_add_str (pv 2) pe_str) (pa_cons pe_str (pa_cons pe_dnewK pa_nil)))))))
     (pss_one (ps_expr (pe_callX GA hr (by rfl) DA.mg DA.fn.kp bA .nil L (pa_cons (pv 0) (pa_cons (pv 2) (pa_cons pe_str (pa_cons pe_dnewK pa_nil)))))))))))))))))))
    (fun x C=>pss_one (ps_set (i:=4) sc.nd rfl (Or.inl rfl) (pv 5))))
   (pss_one (ps_ret (pe_cmpR (op_eqTs hu) (pe_call GW hr1 (by rfl) DW.mg DW.fn.kp bW .nil pass0 (pa_cons (pv 4) pa_nil)) (pe_lst (pa_cons pe_str (pa_cons pe_str pa_nil))) (nomark _))))),?_⟩
  obtain ⟨U,hF,hU,fx,co,t8,tsU,eU⟩:=fk.get
  have hF1:=hF
  obtain ⟨tt,es0,g1,g2,g3,g4⟩:=hF1
  have l8:=name_len hfr
  have nD:∀ {zz:Str} {d t:Addr} (hd:H d = none) (ht:(L2.upd H d (.dK [])) t = none),(L2.upd (L2.upd H d (.dK [])) t (.tup [.str zz])) d = some (.dK []):=fun {zz d t} hd ht=>by
   rw [upd_ne (fun e=>by rw [← e,upd_same] at ht;cases ht)]
   exact upd_same
  have tC:∀ {z zz:Str} {d t:Addr} (hd:H d = none) (ht:(L2.upd H d (.dK [])) t = none),Same H (L2.upd (L2.upd (L2.upd H d (.dK [])) t (.tup [.str zz])) d (.dK (mergeK [] [(Sum.inr z,V.ref t)]))):=fun {z zz d t} hd ht b o e=>by
   rw [upd_ne (ne_of_none e hd)]
   exact ((Same.upd (o:=.dK []) hd).trans (Same.upd (o:=.tup [.str zz]) ht)) b o e
  have bC:∀ {z zz:Str} {d t:Addr} (ht:(L2.upd H d (.dK [])) t = none),z.length ≤ 8->zz.length ≤ 1000->(nameS z = false\/kindD (.tup [.str zz]) = false)->BadCol (L2.upd (L2.upd (L2.upd H d (.dK [])) t (.tup [.str zz])) d (.dK (mergeK [] [(Sum.inr z,V.ref t)]))) d:=fun {z zz d t} ht h8 hz bad=>by
   have nt:t ≠ d:=fun e=>by rw [e,upd_same] at ht;cases ht
   exact ⟨z,.ref t,.tup [.str zz],upd_same,h8,rep1 (by rw [upd_ne nt];exact upd_same) hz,rfl,bad⟩
  have h9:th.length ≤ 9:=by
   obtain ⟨T,hT,rfl⟩:=List.mem_map.mp hth
   have:=name_len (fk.ts.2.2.1 T hT)
   omega
  have yes:∀ {k:Int},wy = k->decide (V.int wy = V.int k) = true:=fun e=>by rw [e];exact decide_eq_true rfl
  have no:∀ {k:Int},wy ≠ k->decide (V.int wy = V.int k) = false:=fun n=>decide_eq_false fun e=>n (by injection e)
  apply cutF (fun H'=>Same H H')
  ·intro fin
   have hw:wy = 0\/wy = 1\/wy = 2\/wy = 3\/wy = 4\/wy = 5\/wy = 6:=by omega
   rcases hw with h | h | h | h | h | h | h
   ·exact ⟨_,rfl,rfl,_,rfl,iteB (yes h) ⟨_,rfl,_,rfl,fun d hd=>⟨f,sz,T0,R',th,"many",d,[],rfl,fk.same (Same.upd (o:=.dK []) hd),upd_same,ColsOk.nil _,h9,tab.same (Same.upd (o:=.dK []) hd),.inr ⟨.inr ⟨by decide +kernel,.inr hth⟩,fun H' s'=>fin H' ((Same.upd (o:=.dK []) hd).trans s')⟩⟩⟩⟩
   ·exact ⟨_,rfl,rfl,_,rfl,iteC (no (by omega)) ⟨_,rfl,rfl,_,rfl,iteB (yes h) ⟨_,rfl,_,rfl,fun d hd=>⟨f,sz,T0,R',fr,"head",d,[],rfl,fk.same (Same.upd (o:=.dK []) hd),upd_same,ColsOk.nil _,by omega,tab.same (Same.upd (o:=.dK []) hd),.inr ⟨.inl (by decide +kernel),fun H' s'=>fin H' ((Same.upd (o:=.dK []) hd).trans s')⟩⟩⟩⟩⟩
   ·have he0:0 < es0.length:=by rw [g3,List.length_cons];omega
    obtain ⟨ct,k1,_⟩:=g4 0 es0[0] (cn T0) (List.getElem?_eq_getElem he0) rfl
    refine ⟨_,rfl,rfl,_,rfl,iteC (no (by omega)) ⟨_,rfl,rfl,_,rfl,iteC (no (by omega)) ⟨_,rfl,rfl,_,rfl,iteB (yes h) ⟨_,rfl,?_⟩⟩⟩⟩
    exact ⟨_,rfl,_,_,1,_,rfl,rfl,SqT.of g1,rfl,_,_,0,_,rfl,rfl,SqT.of g2,atI_nat (j:=0) (by rw [List.getElem?_map,List.getElem?_eq_getElem he0];rfl),_,_,0,_,rfl,rfl,SqT.of k1,rfl,f,sz,T0,R',T0.name,rfl,fk,tab,.inr (.inl ⟨rfl,fin⟩)⟩
   ·exact ⟨_,rfl,rfl,_,rfl,iteC (no (by omega)) ⟨_,rfl,rfl,_,rfl,iteC (no (by omega)) ⟨_,rfl,rfl,_,rfl,iteC (no (by omega)) ⟨_,rfl,rfl,_,rfl,iteB (yes h) ⟨_,rfl,_,rfl,fun d hd=>⟨(by show 1 ≤ sizeLine;decide),fun t ht=>⟨(nD hd ht),[(.inr "",.ref t)],rfl,(Nat.le_add_left 1 14),⟨f,sz,T0,R',th,d,rfl,fk.same (tC hd ht),tab.same (tC hd ht),.inr ⟨hth,.inr ⟨bC ht (by decide) (by decide) (.inl (by decide +kernel)),fun H' s'=>fin H' fun b o e=>s' b o (ne_of_none e hd) (tC hd ht b o e)⟩⟩⟩⟩⟩⟩⟩⟩⟩⟩
   ·exact ⟨_,rfl,rfl,_,rfl,iteC (no (by omega)) ⟨_,rfl,rfl,_,rfl,iteC (no (by omega)) ⟨_,rfl,rfl,_,rfl,iteC (no (by omega)) ⟨_,rfl,rfl,_,rfl,iteC (no (by omega)) ⟨_,rfl,rfl,_,rfl,iteB (yes h) ⟨_,rfl,_,rfl,fun d hd=>⟨(by show 1 ≤ sizeLine;decide),fun t ht=>⟨(nD hd ht),[(.inr "a",.ref t)],rfl,(Nat.le_add_left 1 14),⟨f,sz,T0,R',th,d,rfl,fk.same (tC hd ht),tab.same (tC hd ht),.inr ⟨hth,.inr ⟨bC ht (by decide) (by decide) (.inr (by decide +kernel)),fun H' s'=>fin H' fun b o e=>s' b o (ne_of_none e hd) (tC hd ht b o e)⟩⟩⟩⟩⟩⟩⟩⟩⟩⟩⟩
   ·exact ⟨_,rfl,rfl,_,rfl,iteC (no (by omega)) ⟨_,rfl,rfl,_,rfl,iteC (no (by omega)) ⟨_,rfl,rfl,_,rfl,iteC (no (by omega)) ⟨_,rfl,rfl,_,rfl,iteC (no (by omega)) ⟨_,rfl,rfl,_,rfl,iteC (no (by omega)) ⟨_,rfl,rfl,_,rfl,iteB (yes h) ⟨_,rfl,_,rfl,_,_,rfl,rfl,(by show fr.length + 1 ≤ sizeLine;rw [sizeLine_eq];omega),fun d hd=>⟨f,sz,T0,R',fr ++ " ","many",d,[],rfl,fk.same (Same.upd (o:=.dK []) hd),upd_same,ColsOk.nil _,by rw [len_sp];omega,tab.same (Same.upd (o:=.dK []) hd),.inr ⟨.inr ⟨by decide +kernel,.inl (name_sp fr)⟩,fun H' s'=>fin H' ((Same.upd (o:=.dK []) hd).trans s')⟩⟩⟩⟩⟩⟩⟩⟩⟩
   ·exact ⟨_,rfl,rfl,_,rfl,iteC (no (by omega)) ⟨_,rfl,rfl,_,rfl,iteC (no (by omega)) ⟨_,rfl,rfl,_,rfl,iteC (no (by omega)) ⟨_,rfl,rfl,_,rfl,iteC (no (by omega)) ⟨_,rfl,rfl,_,rfl,iteC (no (by omega)) ⟨_,rfl,rfl,_,rfl,iteC (no (by omega)) ⟨_,rfl,_,rfl,fun d hd=>⟨f,sz,T0,R',fr,"lots",d,[],rfl,fk.same (Same.upd (o:=.dK []) hd),upd_same,ColsOk.nil _,by omega,tab.same (Same.upd (o:=.dK []) hd),.inr ⟨.inl (by decide +kernel),fun H' s'=>fin H' ((Same.upd (o:=.dK []) hd).trans s')⟩⟩⟩⟩⟩⟩⟩⟩⟩
  ·rintro H' s1
   refine ⟨CN,rfl,R.wN.un,fun x hx=>⟨_,rfl,?_⟩⟩
   have T1:=Same.upd (o:=.ext (gotP x CN none)) hx
   refine ⟨_,rfl,x,CN,none,false,rfl,⟨upd_same,(fun _ e=>nomatch e)⟩,R.wN,fun p H2 s2 hp=>?_⟩
   have S2:=s1.trans (T1.trans s2)
   refine ⟨(by show 2 ≤ sizeLine;decide),fun p2 e2=>?_⟩
   have T2:=Same.upd (o:=.lst ((wds false).map V.str)) e2
   exact ⟨p,p2,wds false,wds false,rfl,rfl,SqL.of (T2 _ _ hp),SqL.of upd_same,q _ (S2.trans T2)⟩
end
end My
namespace My
open PySem L2 PyProof.Rows
seal L2.PE L2.PT L2.PW L2.PS L2.PSs L2.PA L2.PI L2.PG L2.PGs L2.OpR L2.UnR L2.CallR L2.IxR L2.SlR L2.MtR L2.PIf L2.PO L2.MtM L2.PC L2.PIp L2.PSet L2.PGet L2.TruR L2.InOp L2.PK
theorem tab_ne {P1 P2:Addr} {p1:Pos} {q1:Str} {H:Hp} (h:TabOk P1 p1 q1 H) {a:Addr} {φ:Heap->Prop} (e:H a = some (.ext φ)):a ≠ P1:=fun q=>by
 rcases h with h | ⟨c',h,_⟩
 ·rw [q,h] at e;cases e
 ·rw [q,h] at e;cases e
theorem TabOk.fr {P1 P2:Addr} {p1 p2:Pos} {q1 q2:Str} {H H':Hp} (h2:TabOk P2 p2 q2 H) (f:Fr P1 H H') (ne:P2 ≠ P1) (h1:TabOk P1 p1 q1 H):TabOk P2 p2 q2 H':=by
 rcases h2 with h | ⟨c',h,h'⟩
 ·exact .inl (f _ _ ne h)
 ·exact .inr ⟨c',f _ _ ne h,f _ _ (tab_ne (P2:=P2) h1 h') h'⟩
theorem lk_same {H:Hp} {f g:Addr} {sz:Int} {T0:Tb} {R:List Tb} (h1:FAt H f sz T0 R) (h2:FAt H g sz T0 R) (ts:TsOk T0 R) (co:∀ T ∈ T0 :: R,ColsOk H T.cols):Lk5 H 7 (.ref f) (.ref g):=by
 obtain ⟨U,u1,u2,u3⟩:=h1
 obtain ⟨U',v1,v2,v3⟩:=h2
 have nd:((R.map cn).map (·.name)).Nodup:=by
  rw [map_name_cn]
  have:=ts.2.1
  rw [List.map_cons] at this
  exact (List.nodup_cons.mp this).2
 have e:=rise_eq nd u2 v2 u3 v3
 subst e
 refine lk_form u1 v1 fun T hT=>?_
 rcases List.mem_cons.mp hT with rfl | hT
 ·exact (co T0 List.mem_cons_self).cn
 ·obtain ⟨T',a,rfl⟩:=List.mem_map.mp (u2.mem_iff.mp hT)
  exact (co T' (List.mem_cons_of_mem _ a)).cn
theorem FAt.of' {H:Hp} {f:Addr} {sz:Int} {T0:Tb} {V R:List Tb} (h:FormAt H f sz (T0 :: V)) (p:V.Perm R) (hr:Rise (V.map (·.name))):FAt H f sz T0 R:=FAt.of h rfl p (List.Perm.refl _) hr
def spOther (PF:Addr):Sp:=fun vs H Q _=>∃ (f l:Addr) (c sz:Int) (T0:Tb) (R:List Tb) (ns:List Str),vs = [.ref f,.ref l,.int c]/\FK H f sz T0 R/\TabOk PF foPos foQ H/\H l = some (.lst (ns.map V.str))/\ns.length ≤ 8/\(∀ z ∈ ns,nameS z = true)/\∀ H',Same H H'->Q (.bl true) H'
def otN:List Str:=["_law_form_here","_law_names_here","_law_cell_here","_law_there","_law_fresh","_law_way"]
def spOnce (PF PL:Addr):Sp:=fun vs H Q _=>∃ (f l:Addr) (sz:Int) (T0:Tb) (R:List Tb) (es ds:List Addr),vs = [.int sz,.ref f,.ref l]/\FK H f sz T0 R/\PartsAt H l es ds (T0 :: R)/\TabOk PF foPos foQ H/\TabOk PL liPos liQ H/\PL ≠ PF/\∀ H',Q (.bl true) H'
def onN:List Str:=["_law_size","_law_form_here","_law_parts_here","_law_turned","_law_head"]
section
variable {P:Program} {w:World} {K:PySem.W.Frag} {mg:Str->Option Value} {base:Heap} {CT CS CO CN PF PL:Addr}
theorem ok_other {fself fA fB:Addr} {fd fdA fdB:FuncData} (F:Fun K "_law_other_refusals" "_law_other_refusals" (top 59) fself fd) (B:Bl mg) (DA:Df K mg "_law_no_table" (top 57) fA fdA) (GA:FnOk P w K mg base CX0 8 fA fdA ["_law_form_here","_law_name","_law_way"] (spNoT PF)) (DB:Df K mg "_law_no_form" (top 58) fB fdB) (GB:FnOk P w K mg base CX0 8 fB fdB ["_law_form_here","_law_there","_law_fresh","_law_way"] (spNoF PF)) :
  FnOk P w K mg base CX0 9 fself fd ["_law_form_here","_law_names_here","_law_cell_here"] (spOther PF):=by
 have sc:FnScope otN ["_law_form_here","_law_names_here","_law_cell_here"] (defScope (top 59)):=⟨rfl,rfl,rfl,by decide +kernel,rfl,by decide +kernel,by decide +kernel⟩
 have bA:=DA.fn.binds (ps:=["_law_form_here","_law_name","_law_way"]) fun _ _ _ _ _ _ us hl=>by obtain ⟨v0,v1,v2,rfl⟩:=L2.ln3 hl;rfl
 have bB:=DB.fn.binds (ps:=["_law_form_here","_law_there","_law_fresh","_law_way"]) fun _ _ _ _ _ _ us hl=>by obtain ⟨v0,v1,v2,v3,rfl⟩:=L2.ln4 hl;rfl
 refine F.ok sc (fun vs H Q E h=>?_) (fun cdv A outer s H vs Q E hr h=>?_)
 ·obtain ⟨f,l,c,sz,T0,R,ns,rfl,_⟩:=h
  rfl
 ·obtain ⟨f,l,c,sz,T0,R,ns,rfl,fk,tab,hl,n8,hn,q⟩:=h
  have hu:(A.deeper (envOfC "_law_other_refusals" (defScope (top 59)) s.heap.objs.size fself cdv)).units < cLine:=by have:=hu_of hr;omega
  refine ⟨_,pss_cons (ps_set (i:=3) sc.nd rfl (Or.inr rfl) (pe_comp (osc:=defScope (top 59)) (N0:=otN) (xs:=["_law_part"]) (fr:=[]) ⟨rfl,by decide +kernel,by decide +kernel,by decide +kernel,by decide,by decide +kernel⟩ rfl rfl rfl (pi_tup (pe_ix ix_tup (pv 0) pe_int (fun _ _=>rfl)))
     (fun s H fp=>pg_name (i:=0) (show (["_law_part"]:List Str).Nodup by decide +kernel) rfl (Or.inl rfl)) (fun s H fp=>pif_nil) (fun s H fp=>pe_ix (r:=rIxT K) ix_tup (pv 0) pe_int (fun _ _=>rfl))))
   (pss_cons (ps_comp (i:=4) (osc:=defScope (top 59)) (N0:=otN) (xs:=["_law_name"]) (fr:=[3]) ⟨rfl,by decide +kernel,by decide +kernel,by decide +kernel,(fun j hj=>by
       have e:j = 3:=by simpa using hj
       subst e
       exact ⟨_,rfl,by decide +kernel⟩),by decide +kernel⟩ rfl rfl rfl (pi_list (pv 1))
     (fun s H fp=>pg_name (i:=0) (show (["_law_name","_law_there"]:List Str).Nodup by decide +kernel) rfl (Or.inl rfl)) (fun s H fp=>pif_one (pt_cmpR (r:=rIn K true) op_notIn_seq (pv 0) (pv 1) (by with_unfolding_all rfl))) (fun s H fp=>pv 0) sc.nd rfl (Or.inl rfl))
   (pss_cons (ps_if (pt_cmpR (op_eqTs hu) (pv 4) (pe_lst pa_nil) (nomark _)) (pss_one (ps_ret pe_bl)) pss_nil)
   (pss_cons (ps_for PassesOwn.never rfl (pi_range1 rfl B.range (pa_cons pe_int pa_nil)) (pg_name (i:=5) sc.nd rfl (Or.inl rfl))
    (pss_one (ps_if (pt_not (pt_val (pe_call GA hr (by rfl) DA.mg DA.fn.kp bA .nil pass0 (pa_cons (pv 0) (pa_cons (pe_ix ix_list (pv 4) pe_int (fun _ _=>rfl)) (pa_cons (pv 5) pa_nil)))))) pss_never pss_nil)))
   (pss_cons (ps_for PassesOwn.never rfl (pi_range1 rfl B.range (pa_cons pe_int pa_nil)) (pg_name (i:=5) sc.nd rfl (Or.inl rfl))
    (pss_one (ps_if (pt_not (pt_val (pe_call GB hr (by rfl) DB.mg DB.fn.kp bB .nil pass0 (pa_cons (pv 0) (pa_cons (pe_ix ix_list (pv 3) (pe_op op_mod (pv 2) (pe_callB call_len_seq (by rfl) B.len PySem.boot_len (pa_cons (pv 3) pa_nil))) (fun _ _=>rfl)) (pa_cons (pe_ix ix_list (pv 4) pe_int (fun _ _=>rfl)) (pa_cons (pv 5) pa_nil))))))) pss_never pss_nil)))
   (pss_one (ps_ret pe_bl)))))),?_⟩
  obtain ⟨U,hF,hU,fx,co,t8,tsU,eU⟩:=fk.get
  have pN:=names_cn (T0:=T0) hU
  generalize eTs:(cn T0 :: U) = Ts at *
  have hF1:=hF
  obtain ⟨tt,es,h1,h2,h3,h4⟩:=hF1
  refine ⟨_,rfl,_,_,1,_,rfl,rfl,SqT.of h1,rfl,tt,rfl,⟨_,SqT.of h2⟩,fun D hD=>?_⟩
  refine compW_map Ts.length (fun i=>.str ((Ts.map (·.name)).getD i "")) (fun i σ' Hc=>(∃ t,σ' = [t])/\Same H Hc) (by rw [sizeLine_eq];omega) ⟨⟨none,rfl⟩,Same.upd hD⟩ upd_same ?_ ?_
  ·rintro i σ' Hc hi ⟨⟨t,rfl⟩,sm⟩ hD'
   have hie:i < es.length:=by omega
   refine ⟨⟨_,V.ref es[i],SqT.of (sm _ _ h2),by rw [List.getElem?_map,List.getElem?_eq_getElem hie];rfl⟩,?_⟩
   rintro x H' ⟨rfl,hx'⟩
   have ex:=hx' _ (SqT.of (sm _ _ h2))
   rw [List.getElem?_map,List.getElem?_eq_getElem hie] at ex
   cases ex
   obtain ⟨ct,g1,_⟩:=h4 i es[i] Ts[i] (List.getElem?_eq_getElem hie) (List.getElem?_eq_getElem hi)
   refine ⟨_,rfl,_,_,0,_,rfl,rfl,SqT.of (sm _ _ g1),rfl,?_,hD',⟨_,rfl⟩,sm.put hD⟩
   rw [List.getD_eq_getElem?_getD,List.getElem?_map,List.getElem?_eq_getElem hi]
   rfl
  rintro σ1 H1 ⟨_,s1⟩ hD1
  refine ⟨⟨_,SqT.of (s1 _ _ h2),by rw [List.length_map];omega⟩,?_⟩
  rw [show (List.range Ts.length).map (fun i=>V.str ((Ts.map (·.name)).getD i "")) = (Ts.map (·.name)).map V.str from by
   have:=range_map_getD (Ts.map (·.name)) ("":Str) (fun z=>V.str z)
   rw [List.length_map] at this
   exact this] at hD1
  have hl1:=s1 _ _ hl
  refine ⟨_,rfl,l,rfl,⟨_,SqL.of hl1⟩,fun D2 hD2=>?_⟩
  refine compW_flt ns.length (fun i ys σ' Hc=>(∃ t,σ' = [t,some (.ref D)])/\Same H1 Hc/\∃ zs:List Str,ys = zs.map V.str/\∀ z ∈ zs,z ∈ ns/\z ∉ Ts.map (·.name)) (by rw [sizeLine_eq];omega) ⟨⟨_,rfl⟩,Same.upd hD2,[],rfl,fun z h=>nomatch h⟩ upd_same ?_ ?_
  ·rintro i σ' Hc ys hi ⟨⟨t,rfl⟩,sm,zs,rfl,hzs⟩ hD'
   refine ⟨⟨_,V.str ns[i],SqL.of (sm _ _ hl1),by rw [List.getElem?_map,List.getElem?_eq_getElem hi];rfl⟩,?_⟩
   rintro x H' ⟨rfl,hx'⟩
   have ex:=hx' _ (SqL.of (sm _ _ hl1))
   rw [List.getElem?_map,List.getElem?_eq_getElem hi] at ex
   cases ex
   refine ⟨_,rfl,_,rfl,D,_,rfl,.inl (SqL.of (sm _ _ hD1)),rfl,?_,_,rfl,?_⟩
   ·rw [List.all_eq_true]
    intro v hv
    obtain ⟨z,_,rfl⟩:=List.mem_map.mp hv
    rfl
   refine ite2 (fun hc=>?_) (fun hc=>?_)
   ·have hni:ns[i] ∉ Ts.map (·.name):=fun hm=>by
     have hc':(!inV (.str ns[i]) ((Ts.map (·.name)).map V.str)) = true:=hc
     rw [inV_str,decide_eq_true hm] at hc'
     cases hc'
    refine ⟨_,rfl,hD',⟨_,rfl⟩,sm.put hD2,zs ++ [ns[i]],by rw [List.map_append];rfl,fun z hz=>?_⟩
    rcases List.mem_append.mp hz with h | h
    ·exact hzs z h
    ·rw [List.mem_singleton.mp h]
     exact ⟨List.getElem_mem hi,hni⟩
   ·exact ⟨hD',⟨_,rfl⟩,sm,zs,rfl,hzs⟩
  rintro σ2 H2 ys ⟨_,s2,zs,rfl,hzs⟩ hDn2
  refine ⟨⟨_,SqL.of (s2 _ _ hl1),by rw [List.length_map];exact Nat.le_refl _⟩,?_⟩
  have S2:=s1.trans s2
  refine ⟨_,rfl,Nat.zero_le _,fun p3 e3=>?_⟩
  have T3:=Same.upd (o:=.lst []) e3
  refine ⟨D2,p3,zs,[],rfl,rfl,SqL.of (T3 _ _ hDn2),SqL.of upd_same,_,rfl,?_⟩
  have S3:=S2.trans T3
  have hD3:=(s2.trans T3) _ _ hD1
  have hDn3:=T3 _ _ hDn2
  generalize L2.upd H2 p3 (.lst []) = H3 at *
  refine ite2 (fun _=>q _ S3) (fun hc=>?_)
  obtain ⟨z,zr,rfl⟩:∃ z zr,zs = z :: zr:=by
   cases zs with
   | nil=>exact absurd rfl hc
   | cons z zr=>exact ⟨z,zr,rfl⟩
  obtain ⟨hz1,hz2⟩:=hzs z List.mem_cons_self
  have at0:atI ((z :: zr).map V.str) 0 = some (.str z):=atI_nat (j:=0) rfl
  refine ⟨_,rfl,(by decide),(by decide),for_range (fun i σ Hc=>Same H3 Hc/\∃ u,σ = [some (.ref f),some (.ref l),some (.int c),some (.ref D),some (.ref D2),u]) ⟨Same.refl _,_,rfl⟩ ?_ ?_⟩
  ·rintro i σ Hc hi ⟨sm,u,rfl⟩
   have SC:=S3.trans sm
   refine ⟨_,rfl,_,rfl,_,_,0,_,rfl,rfl,SqL.of (sm _ _ hDn3),at0,_,rfl,f,sz,T0,R,z,_,rfl,fk.same SC,tab.same SC,(fun h=>hz2 (pN.mem_iff.mpr h)),(by omega),(by have:i < 4:=hi;omega),fun H' s'=>⟨_,rfl,iteF ?_⟩⟩
   exact ⟨sm.trans s',_,rfl⟩
  ·rintro σ H5 ⟨s5,u,rfl⟩
   refine ⟨_,rfl,(by decide),(by decide),for_range (fun i σ Hc=>Same H3 Hc/\∃ u,σ = [some (.ref f),some (.ref l),some (.int c),some (.ref D),some (.ref D2),u]) ⟨s5,_,rfl⟩ ?_ ?_⟩
   ·rintro i σ Hc hi ⟨sm,u,rfl⟩
    have SC:=S3.trans sm
    have hTl:0 < Ts.length:=by rw [← eTs];simp
    have hml:((Ts.map (·.name)).map V.str).length = Ts.length:=by rw [List.length_map,List.length_map]
    have mp:(0:Int) < ((Ts.map (·.name)).map V.str).length:=by rw [hml];omega
    obtain ⟨v,hv,hvm⟩:=at_mem (l:=(Ts.map (·.name)).map V.str) (i:=c % ((Ts.map (·.name)).map V.str).length) (Int.emod_nonneg _ (by omega)) (Int.emod_lt_of_pos _ mp)
    obtain ⟨th,hth,rfl⟩:=List.mem_map.mp hvm
    refine ⟨_,rfl,_,rfl,_,rfl,_,rfl,D,_,rfl,.inl (SqL.of (sm _ _ hD3)),_,_,rfl,rfl,mp,_,_,_,_,rfl,rfl,SqL.of (sm _ _ hD3),hv,?_⟩
    refine ⟨_,rfl,_,_,0,_,rfl,rfl,SqL.of (sm _ _ hDn3),at0,_,rfl,f,sz,T0,R,th,z,_,rfl,fk.same SC,tab.same SC,pN.mem_iff.mp hth,hn z hz1,(by omega),(by have:i < 7:=hi;omega),fun H' s'=>⟨_,rfl,iteF ?_⟩⟩
    exact ⟨sm.trans s',_,rfl⟩
   ·rintro σ H6 ⟨s6,u,rfl⟩
    exact q _ (S3.trans s6)
end
end My
namespace My
open PySem L2 PyProof.Rows
seal L2.PE L2.PT L2.PW L2.PS L2.PSs L2.PA L2.PI L2.PG L2.PGs L2.OpR L2.UnR L2.CallR L2.IxR L2.SlR L2.MtR L2.PIf L2.PO L2.MtM L2.PC L2.PIp L2.PSet L2.PGet L2.TruR L2.InOp L2.PK
section
variable {P:Program} {w:World} {K:PySem.W.Frag} {mg:Str->Option Value} {base:Heap} {CT CS CO CN PF PL:Addr}
theorem ok_once {fself fF fT fE fL:Addr} {fd fdF fdT fdE fdL:FuncData} (F:Fun K "_law_same_at_once" "_law_same_at_once" (top 60) fself fd) (B:Bl mg) (hz:mg "zip" = none) (hv:mg "reversed" = none) (DF:Df K mg "form_of" (top 29) fF fdF) (GF:FnOk P w K mg base CX0 6 fF fdF ["size","tables"] (spForm PF)) (DT:Df K mg "tables_of" (top 33) fT fdT)
  (DE:Df K mg "_law_same" (top 49) fE fdE) (DL:Df K mg "_law_form" (top 50) fL fdL) (GL:FnOk P w K mg base CX0 6 fL fdL ["_law_size","_law_parts_here"] (spFormL PL)):FnOk P w K mg base CX0 9 fself fd ["_law_size","_law_form_here","_law_parts_here"] (spOnce PF PL):=by
 have sc:FnScope onN ["_law_size","_law_form_here","_law_parts_here"] (defScope (top 60)):=⟨rfl,rfl,rfl,by decide +kernel,rfl,by decide +kernel,by decide +kernel⟩
 have GT:FnOk P w K mg base CX0 1 fT fdT ["form"] spTabs:=ok_tabs DT.fn
 have GE:FnOk P w K mg base CX0 8 fE fdE ["_law_found","_law_due_here"] (spSame5 7):=ok_same DE B hz 7
 have bF:=DF.fn.binds (ps:=["size","tables"]) fun _ _ _ _ _ _ us hl=>by obtain ⟨v0,v1,rfl⟩:=L2.ln2 hl;rfl
 have bT:=DT.fn.binds (ps:=["form"]) fun _ _ _ _ _ _ us hl=>by obtain ⟨v0,rfl⟩:=L2.ln1 hl;rfl
 have bE:=DE.fn.binds (ps:=["_law_found","_law_due_here"]) fun _ _ _ _ _ _ us hl=>by obtain ⟨v0,v1,rfl⟩:=L2.ln2 hl;rfl
 have bL:=DL.fn.binds (ps:=["_law_size","_law_parts_here"]) fun _ _ _ _ _ _ us hl=>by obtain ⟨v0,v1,rfl⟩:=L2.ln2 hl;rfl
 refine F.ok sc (fun vs H Q E h=>?_) (fun cdv A outer s H vs Q E hr h=>?_)
 ·obtain ⟨f,l,sz,T0,R,es,ds,rfl,_⟩:=h
  rfl
 ·obtain ⟨f,l,sz,T0,R,es,ds,rfl,fk,hP,tF,tL,ne,q⟩:=h
  have hr1:Room 1 _:=hr.mono (by decide)
  have hr6:Room 6 _:=hr.mono (by decide)
  refine ⟨_,pss_cons (ps_comp (i:=3) (osc:=defScope (top 60)) (N0:=onN) (xs:=["_law_name","_law_sort","_law_columns_here"]) (fr:=[]) ⟨rfl,by decide +kernel,by decide +kernel,by decide +kernel,by decide,by decide +kernel⟩ rfl rfl rfl (pi_rev (by rfl) hv (pa_cons (pe_slice sl_list (pv 2) (po_some pe_int) po_none) pa_nil))
     (fun s H fp=>pg_tupK (K:=K) (n:=3) rfl rfl (pgs_cons (pg_name (i:=0) (show (["_law_name","_law_sort","_law_columns_here"]:List Str).Nodup by decide +kernel) rfl (Or.inl rfl)) (pgs_cons (pg_name (i:=1) (show (["_law_name","_law_sort","_law_columns_here"]:List Str).Nodup by decide +kernel) rfl (Or.inl rfl)) (pgs_cons (pg_name (i:=2) (show (["_law_name","_law_sort","_law_columns_here"]:List Str).Nodup by decide +kernel) rfl (Or.inl rfl)) pgs_nil)))) (fun s H fp=>pif_nil)
     (fun s H fp=>pe_tup (pa_cons (pv 0) (pa_cons (pv 1) (pa_cons (pe_callTy call_dict_of (by rfl) B.dict boot_dict (pa_cons (pv 2) pa_nil)) pa_nil)))) sc.nd rfl (Or.inl rfl))
   (pss_cons (ps_set (i:=4) sc.nd rfl (Or.inl rfl) (pe_tup (pa_cons (pe_ix ix_tup (pe_ix ix_list (pv 2) pe_int (fun _ _=>rfl)) pe_int (fun _ _=>rfl)) (pa_cons pe_str (pa_cons (pe_callTy call_dict_of (by rfl) B.dict boot_dict (pa_cons (pe_ix ix_tup (pe_ix ix_list (pv 2) pe_int (fun _ _=>rfl)) pe_int (fun _ _=>rfl)) pa_nil)) pa_nil)))))
   (pss_cons (ps_if (PW.pt (pw_or (pt_not (pt_val (pe_call GE hr (by rfl) DE.mg DE.fn.kp bE .nil pass0 (pa_cons (pe_call GF hr6 (by rfl) DF.mg DF.fn.kp bF .nil pass0 (pa_cons (pv 0) (pa_cons (pe_op op_cat (pe_lst (pa_cons (pv 4) pa_nil)) (pv 3)) pa_nil))) (pa_cons (pv 1) pa_nil)))))
     (pw_or1 (pt_cmpR op_ne (pe_callB call_len_seq (by rfl) B.len PySem.boot_len (pa_cons (pe_call GT hr1 (by rfl) DT.mg DT.fn.kp bT .nil pass0 (pa_cons (pv 1) pa_nil)) pa_nil)) (pe_callB call_len_seq (by rfl) B.len PySem.boot_len (pa_cons (pv 2) pa_nil)) (nomark _))))) pss_never pss_nil)
   (pss_one (ps_ret (pe_call GE hr (by rfl) DE.mg DE.fn.kp bE .nil pass0 (pa_cons (pv 1) (pa_cons (pe_call GL hr6 (by rfl) DL.mg DL.fn.kp bL .nil pass0 (pa_cons (pv 0) (pa_cons (pv 2) pa_nil))) pa_nil))))))),?_⟩
  have hl:=hP.1
  have pp:PP H es ds (T0 :: R):=hP.2
  have e1l:es.length = R.length + 1:=pp.1
  have e2l:ds.length = R.length + 1:=pp.2.1
  have r7:=fk.ts.1
  refine ⟨_,rfl,_,rfl,l,_,rfl,SqL.of hl,fun p1 e1=>?_⟩
  rw [cut_from (by decide) (by rw [List.length_map];omega),← List.map_drop]
  have T1:=Same.upd (o:=.lst ((es.drop (1:Int).toNat).map V.ref)) e1
  have hp1:(L2.upd H p1 (.lst ((es.drop (1:Int).toNat).map V.ref))) p1 = some (.lst ((es.drop 1).map V.ref)):=upd_same
  refine ⟨p1,(es.drop 1).map V.ref,rfl,SqL.of hp1,fun D hD=>?_⟩
  generalize L2.upd H p1 (.lst ((es.drop (1:Int).toNat).map V.ref)) = H1 at *
  have xl:((es.drop 1).map V.ref).length = R.length:=by rw [List.length_map,List.length_drop];omega
  refine compW_idx R.length (fun i ys σ' Hc=>(∃ t0 t1 t2,σ' = [t0,t1,t2])/\Same H1 Hc/\∃ hs hd:List Addr,ys = hs.map V.ref/\PP Hc hs hd (R.reverse.take i)) (by rw [sizeLine_eq];omega) ⟨⟨_,_,_,rfl⟩,Same.upd hD,[],[],rfl,rfl,rfl,fun j e d T h=>nomatch h⟩ upd_same ?_ ?_
  ·rintro i σ' Hc ys hi ⟨⟨t0,t1,t2,rfl⟩,sm,hs,hd,rfl,pph⟩ hyl hD'
   refine ⟨⟨SqL.of (sm _ _ hp1),by rw [xl];exact hi⟩,?_⟩
   rintro x H' ⟨rfl,hx⟩
   rw [xl,List.getElem?_map,List.getElem?_drop] at hx
   have k1:1 + (R.length - 1 - i) < es.length:=by omega
   have k2:1 + (R.length - 1 - i) < ds.length:=by omega
   have k3:R.length - 1 - i < R.length:=by omega
   rw [List.getElem?_eq_getElem k1] at hx
   cases hx
   have hrv:i < R.reverse.length:=by rw [List.length_reverse];exact hi
   have eR:R.reverse[i] = R[R.length - 1 - i]:=List.getElem_reverse hrv
   have pt:=pp.2.2 (1 + (R.length - 1 - i)) es[1 + (R.length - 1 - i)] ds[1 + (R.length - 1 - i)] R[R.length - 1 - i] (List.getElem?_eq_getElem k1) (List.getElem?_eq_getElem k2) (by rw [Nat.add_comm,List.getElem?_cons_succ,List.getElem?_eq_getElem k3])
   rw [← eR] at pt
   have etk:R.reverse.take (i + 1) = R.reverse.take i ++ [R.reverse[i]]:=by rw [List.take_add_one,List.getElem?_eq_getElem hrv];rfl
   generalize R.reverse[i] = T at pt etk
   generalize ds[1 + (R.length - 1 - i)] = dd at pt
   generalize es[1 + (R.length - 1 - i)] = ee at pt
   have SC:=T1.trans sm
   refine ⟨_,_,rfl,SqT.of (SC _ _ pt.1),rfl,_,_,rfl,_,_,rfl,_,_,rfl,rfl,?_⟩
   refine ⟨_,rfl,_,rfl,_,rfl,dd,_,rfl,.inl (SC _ _ pt.2.1),fun d1 n1=>?_⟩
   have T3:=Same.upd (o:=.dK (kvC T.cols)) n1
   refine ⟨(by show 3 ≤ sizeLine;decide),fun p hp=>?_⟩
   have T4:=Same.upd (o:=.tup [.str T.name,.str T.sort,.ref d1]) hp
   have S4:=T3.trans T4
   have hD4:=S4 _ _ hD'
   refine ⟨hD4,⟨_,_,_,rfl⟩,(sm.trans S4).put hD,hs ++ [p],hd ++ [d1],by rw [List.map_append];rfl,?_⟩
   rw [etk]
   exact ((pph.same S4).snoc ⟨upd_same,T4 _ _ upd_same,pt.2.2.same (SC.trans S4)⟩).map fun e d T h=>PartAt.besideL hD4 h
  rintro σ2 H2 ys ⟨_,s2,hs,hd,rfl,pph⟩ hD2 hyl
  rw [List.take_of_length_le (by rw [List.length_reverse];exact Nat.le_refl _)] at pph
  refine ⟨⟨SqL.of (s2 _ _ hp1),by rw [xl]⟩,?_⟩
  have S2:=T1.trans s2
  have he0:0 < es.length:=by omega
  have hd0:0 < ds.length:=by omega
  have pt0:=pp.2.2 0 es[0] ds[0] T0 (List.getElem?_eq_getElem he0) (List.getElem?_eq_getElem hd0) rfl
  have at0e:atI (es.map V.ref) 0 = some (.ref es[0]):=atI_nat (j:=0) (by rw [List.getElem?_map,List.getElem?_eq_getElem he0];rfl)
  refine ⟨_,rfl,_,_,0,_,rfl,rfl,SqL.of (S2 _ _ hl),at0e,_,_,0,_,rfl,rfl,SqT.of (S2 _ _ pt0.1),rfl,?_⟩
  refine ⟨_,rfl,_,_,0,_,rfl,rfl,SqL.of (S2 _ _ hl),at0e,_,_,2,_,rfl,rfl,SqT.of (S2 _ _ pt0.1),rfl,ds[0],_,rfl,.inl (S2 _ _ pt0.2.1),fun d1 n1=>?_⟩
  have T3:=Same.upd (o:=.dK (kvC T0.cols)) n1
  refine ⟨(by show 3 ≤ sizeLine;decide),fun ph e4=>?_⟩
  have T4:=Same.upd (o:=.tup [.str T0.name,.str "head",.ref d1]) e4
  refine ⟨_,rfl,_,rfl,(by show 1 ≤ sizeLine;decide),fun l5 e5=>?_⟩
  have T5:=Same.upd (o:=.lst [V.ref ph]) e5
  have S5:=T3.trans (T4.trans T5)
  have hsl:hs.length ≤ 7:=by have:=pph.1;rw [List.length_reverse] at this;omega
  refine ⟨_,rfl,l5,D,_,_,rfl,rfl,upd_same,S5 _ _ hD2,(by rw [List.length_map,sizeLine_eq];simp only [List.length_cons,List.length_nil];omega),fun l6 e6=>?_⟩
  have T6:=Same.upd (o:=.lst ([V.ref ph] ++ hs.map V.ref)) e6
  have S6:=S5.trans T6
  have SH:=S2.trans S6
  have hPn:PartsAt (L2.upd (L2.upd (L2.upd (L2.upd H2 d1 (.dK (kvC T0.cols))) ph (.tup [.str T0.name,.str "head",.ref d1])) l5 (.lst [V.ref ph])) l6 (.lst ([V.ref ph] ++ hs.map V.ref))) l6 (ph :: hs) (d1 :: hd) (T0 :: R.reverse):=by
   refine ⟨upd_same,(PP.one (T:=T0) ⟨?_,(T4.trans (T5.trans T6)) _ _ upd_same,pt0.2.2.same SH⟩).append (pph.same S6)⟩
   rw [fk.ts.2.2.2.1]
   exact (T5.trans T6) _ _ upd_same
  generalize L2.upd (L2.upd (L2.upd (L2.upd H2 d1 (.dK (kvC T0.cols))) ph (.tup [.str T0.name,.str "head",.ref d1])) l5 (.lst [V.ref ph])) l6 (.lst ([V.ref ph] ++ hs.map V.ref)) = H6 at *
  have pR:(R.reverse.map nmS).Perm (R.map nmS):=(List.reverse_perm R).map _
  refine ⟨l6,sz,ph :: hs,d1 :: hd,T0,R.reverse,rfl,fk.sz1,hPn,fk.ts.perm rfl pR,tF.same SH,fun f' H7 V sb7 fr7 tb7 pV hrV hf7=>?_⟩
  have SB7:=SH.sb.trans sb7
  have fk7:=fk.sb SB7
  refine ⟨_,rfl,_,_,rfl,lk_same (FAt.of' hf7 (pV.trans (List.reverse_perm R)) hrV) fk7.at_ fk.ts fk7.co,fun H8 s8=>⟨_,rfl,iteF ?_⟩⟩
  have fk8:=fk7.same s8
  have hP8:=(hP.sb SB7).same s8
  obtain ⟨U,hF,hU,fx,co,t8,tsU,eU⟩:=fk8.get
  refine ⟨_,rfl,f,sz,cn T0 :: U,rfl,hF,t8,fun p9 H9 n9 s9 hp9=>?_⟩
  refine ⟨p9,_,rfl,.inl (SqL.of hp9),?_⟩
  refine ⟨_,rfl,l,_,rfl,.inl (SqL.of (s9 _ _ hP8.1)),rfl,_,rfl,iteC ?_ ?_⟩
  ·have:(cn T0 :: U).length = es.length:=by
    have:=hU.length_eq
    rw [List.length_map] at this
    rw [List.length_cons]
    omega
   rw [List.length_map,List.length_map,this,List.length_map,decide_eq_true rfl]
   rfl
  have tL9:TabOk PL liPos liQ H9:=(((tL.same SH).fr fr7 ne (tF.same SH)).same s8).same s9
  refine ⟨_,rfl,_,rfl,_,rfl,l,sz,es,ds,T0,R,rfl,hP8.same s9,fk.ts,tL9,fun g H10 V' sb10 fr10 tb10 pV' hr' hg=>?_⟩
  have fk10:=(fk8.same s9).sb sb10
  exact ⟨_,_,rfl,lk_same fk10.at_ (FAt.of' hg pV' hr') fk.ts fk10.co,fun H11 s11=>q H11⟩
end
end My
namespace L2
open PySem PySem.Spec PyProof.Rows
theorem lands_no {X:Cx}:Lands X (fun _ _ _ _=>False):=fun _ _ _ _ _ _ _ _ _ _ h=>h.elim
theorem SqL.sb {K:PySem.W.Frag} {H H':Hp} {a:Addr} {xs:List V} (h:SqL K H a xs) (s:Sb H H'):SqL K H' a xs:=by
 rcases h with (h | ⟨o,h⟩) | h
 ·exact .inl (.inl (s _ _ rfl h))
 ·exact .inl (.inr ⟨o,s _ _ rfl h⟩)
 ·exact .inr h
theorem cutV_map {α:Type} (f:α->V) (l:List α) (a b:Option Int):∃ m:List α,cutV (l.map f) a b = m.map f:=by
 unfold cutV
 rw [← List.map_drop,← List.map_take]
 exact ⟨_,rfl⟩
end L2
namespace My
open PySem L2 PyProof.Rows
theorem nd_len:∀ {l m:List Str},l.Nodup->(∀ z ∈ l,z ∈ m)->l.length ≤ m.length
 | [],_,_,_=>Nat.zero_le _
 | a :: l,m,nd,h=>by
  obtain ⟨n1,n2⟩:=List.nodup_cons.mp nd
  have ha:=h a List.mem_cons_self
  have ih:=nd_len (m:=m.erase a) n2 fun z hz=>(List.mem_erase_of_ne (fun e=>n1 (by rw [← e];exact hz))).mpr (h z (List.mem_cons_of_mem _ hz))
  rw [List.length_erase_of_mem ha] at ih
  have:0 < m.length:=List.length_pos_of_mem ha
  rw [List.length_cons]
  omega
theorem split_at {Ts:List Tb} {k:Nat} {T:Tb} (h:Ts[k]? = some T):Ts = Ts.take k ++ T :: Ts.drop (k + 1):=by
 obtain ⟨hk,e⟩:=List.getElem?_eq_some_iff.mp h
 rw [← e,← List.drop_eq_getElem_cons hk,List.take_append_drop]
theorem at_only {Ts:List Tb} {k:Nat} {T:Tb} (h:Ts[k]? = some T) (nd:(Ts.map (·.name)).Nodup):(∀ X ∈ Ts.take k,¬ X.name = T.name)/\∀ X ∈ Ts.drop (k + 1),¬ X.name = T.name:=by
 rw [split_at h,List.map_append,List.map_cons] at nd
 obtain ⟨n1,n2,n3⟩:=List.nodup_append.mp nd
 refine ⟨fun X hX e=>?_,fun X hX e=>?_⟩
 ·exact n3 X.name (List.mem_map.mpr ⟨X,hX,rfl⟩) T.name List.mem_cons_self e
 ·exact (List.nodup_cons.mp n2).1 (List.mem_map.mpr ⟨X,hX,e⟩)
theorem rc_at {Ts:List Tb} {k:Nat} {T:Tb} {z:Str} {cols:List (Str × V)} (h:Ts[k]? = some T) (e:T.name = z) (nd:(Ts.map (·.name)).Nodup):Ts.take k ++ [⟨z,T.sort,cols⟩] ++ Ts.drop (k + 1) = Ts.map (rc z cols):=by
 obtain ⟨h1,h2⟩:=at_only h nd
 have id1:∀ L:List Tb,(∀ X ∈ L,¬ X.name = T.name)->L.map (rc z cols) = L:=fun L hL=>by
  refine (List.map_congr_left fun X hX=>?_).trans (List.map_id _)
  unfold rc
  rw [if_neg (by rw [← e];exact hL X hX)]
  rfl
 conv=>rhs;rw [split_at h]
 rw [List.map_append,List.map_cons,id1 _ h1,id1 _ h2,show rc z cols T = ⟨z,T.sort,cols⟩ from by unfold rc;rw [if_pos e,e],List.append_assoc]
 rfl
theorem nz_at {Ts:List Tb} {k:Nat} {T:Tb} {z:Str} (h:Ts[k]? = some T) (e:T.name = z) (nd:(Ts.map (·.name)).Nodup):Ts.take k ++ Ts.drop (k + 1) = Ts.filter (nz z):=by
 obtain ⟨h1,h2⟩:=at_only h nd
 have id1:∀ L:List Tb,(∀ X ∈ L,¬ X.name = T.name)->L.filter (nz z) = L:=fun L hL=>by
  refine List.filter_eq_self.mpr fun X hX=>?_
  unfold nz
  exact decide_eq_true (by rw [← e];exact hL X hX)
 conv=>rhs;rw [split_at h]
 rw [List.filter_append,id1 _ h1,List.filter_cons_of_neg (by unfold nz;rw [decide_eq_false (fun q=>q e)];decide),id1 _ h2]
theorem ColsOk.put {H:Hp} {h:Addr} {kws:List (Key × V)} {u:HO} {cols:List (Str × V)} (hh:H h = some (.dK kws)) (ok:ColsOk H cols):ColsOk (L2.upd H h u) cols:=
 ⟨ok.1,ok.2.1,fun p hp=>⟨(ok.2.2 p hp).1,let ⟨d,h1,h2,h3⟩:=(ok.2.2 p hp).2;⟨d,Rep.beside (fun xs q=>by rw [hh] at q;cases q) h3 h1,h2,h3⟩⟩⟩
theorem FAt.put {H:Hp} {h f:Addr} {kws:List (Key × V)} {u:HO} {sz:Int} {T0:Tb} {R:List Tb} (hh:H h = some (.dK kws)) (fa:FAt H f sz T0 R):FAt (L2.upd H h u) f sz T0 R:=by
 obtain ⟨U,h1,h2,h3⟩:=fa
 exact ⟨U,h1.beside (NotTup.dk hh),h2,h3⟩
theorem FK.put {H:Hp} {h f:Addr} {kws:List (Key × V)} {u:HO} {sz:Int} {T0:Tb} {R:List Tb} (hh:H h = some (.dK kws)) (k:FK H f sz T0 R):FK (L2.upd H h u) f sz T0 R:=⟨k.at_.put hh,k.ts,fun T hT=>(k.co T hT).put hh,k.sz1⟩
theorem TabOk.put {P:Addr} {pos:Pos} {q:Str} {H:Hp} {h:Addr} {kws:List (Key × V)} {u:HO} (hh:H h = some (.dK kws)) (t:TabOk P pos q H):TabOk P pos q (L2.upd H h u):=by
 rcases t with t | ⟨c',t,t'⟩
 ·exact .inl (by rw [upd_ne (fun e=>by rw [e,hh] at t;cases t)];exact t)
 ·exact .inr ⟨c',by rw [upd_ne (fun e=>by rw [e,hh] at t;cases t)];exact t,by rw [upd_ne (fun e=>by rw [e,hh] at t';cases t')];exact t'⟩
theorem PartsAt.putD {H:Hp} {l h:Addr} {kws:List (Key × V)} {u:HO} {es ds:List Addr} {Ts:List Tb} (hh:H h = some (.dK kws)) (nd:∀ d ∈ ds,d ≠ h) (p:PartsAt H l es ds Ts):PartsAt (L2.upd H h u) l es ds Ts:=by
 obtain ⟨p1,p2,p3,p4⟩:=p
 refine ⟨by rw [upd_ne (fun e=>by rw [e,hh] at p1;cases p1)];exact p1,p2,p3,fun j e d T a b c=>?_⟩
 have pt:=p4 j e d T a b c
 refine ⟨?_,?_,pt.2.2.put hh⟩
 ·rw [upd_ne (fun q=>by have:=pt.1;rw [q,hh] at this;cases this)];exact pt.1
 ·rw [upd_ne (nd d (List.mem_of_getElem? b))];exact pt.2.1
theorem PartsAt.some_d {H:Hp} {l:Addr} {es ds:List Addr} {Ts:List Tb} (p:PartsAt H l es ds Ts) {d:Addr} (hd:d ∈ ds):∃ o,H d = some o:=by
 obtain ⟨p1,p2,p3,p4⟩:=p
 obtain ⟨j,hj,e⟩:=List.mem_iff_getElem.mp hd
 have h1:j < es.length:=by omega
 have h2:j < Ts.length:=by omega
 have:=(p4 j es[j] ds[j] Ts[j] (List.getElem?_eq_getElem h1) (List.getElem?_eq_getElem hj) (List.getElem?_eq_getElem h2)).2.1
 rw [e] at this
 exact ⟨_,this⟩
structure LI (H:Hp) (sz:Int) (nsL:List Str) (PF PL lp ff fo fs:Addr) (T0:Tb) (R:List Tb) (es ds:List Addr) (T0o:Tb) (Ro:List Tb):Prop where
 pa:PartsAt H lp es ds (T0 :: R)
 fk:FK H ff sz T0 R
 nm:∀ T ∈ T0 :: R,T.name ∈ nsL
 fo:FK H fo sz T0o Ro
 fs:FAt H fs sz T0o Ro
 tF:TabOk PF foPos foQ H
 tL:TabOk PL liPos liQ H
section
variable {H H':Hp} {sz:Int} {nsL:List Str} {PF PL lp ff fo fs:Addr} {T0:Tb} {R:List Tb} {es ds:List Addr} {T0o:Tb} {Ro:List Tb}
theorem LI.same (L:LI H sz nsL PF PL lp ff fo fs T0 R es ds T0o Ro) (s:Same H H'):LI H' sz nsL PF PL lp ff fo fs T0 R es ds T0o Ro:=⟨L.pa.same s,L.fk.same s,L.nm,L.fo.same s,L.fs.same s,L.tF.same s,L.tL.same s⟩
theorem LI.sbF (L:LI H sz nsL PF PL lp ff fo fs T0 R es ds T0o Ro) (s:Sb H H') (f:Fr PF H H') (t:TabOk PF foPos foQ H') (ne:PL ≠ PF):LI H' sz nsL PF PL lp ff fo fs T0 R es ds T0o Ro:=⟨L.pa.sb s,L.fk.sb s,L.nm,L.fo.sb s,L.fs.sb s,t,L.tL.fr f ne L.tF⟩
theorem LI.sbL (L:LI H sz nsL PF PL lp ff fo fs T0 R es ds T0o Ro) (s:Sb H H') (f:Fr PL H H') (t:TabOk PL liPos liQ H') (ne:PL ≠ PF):LI H' sz nsL PF PL lp ff fo fs T0 R es ds T0o Ro:=⟨L.pa.sb s,L.fk.sb s,L.nm,L.fo.sb s,L.fs.sb s,L.tF.fr f (Ne.symm ne) L.tL,t⟩
theorem LI.put {h:Addr} {kws:List (Key × V)} {u:HO} (L:LI H sz nsL PF PL lp ff fo fs T0 R es ds T0o Ro) (hh:H h = some (.dK kws)) (nd:∀ d ∈ ds,d ≠ h):LI (L2.upd H h u) sz nsL PF PL lp ff fo fs T0 R es ds T0o Ro:=⟨L.pa.putD hh nd,L.fk.put hh,L.nm,L.fo.put hh,L.fs.put hh,L.tF.put hh,L.tL.put hh⟩
end
theorem cutB {G:Prop} {T:Int->Addr->Addr->Addr->Hp->Prop} (Rr:Int->Addr->Addr->Addr->Hp->Prop) (h:(∀ a du lp ff H8,Rr a du lp ff H8->T a du lp ff H8)->G) (fin:∀ a du lp ff H8,Rr a du lp ff H8->T a du lp ff H8):G:=h fin
theorem kind_ref {H:Hp} {d:Dt} {v:V} (hk:kindD d = true) (h:Rep H d v):∃ a,v = .ref a:=by
 cases d with
 | tup ds=>simp only [Rep] at h;obtain ⟨a,xs,rfl,_⟩:=h;exact ⟨a,rfl⟩
 | _=>cases hk
end My
namespace My
open PySem L2 PyProof.Rows
seal L2.PE L2.PT L2.PW L2.PS L2.PSs L2.PA L2.PI L2.PG L2.PGs L2.OpR L2.UnR L2.CallR L2.IxR L2.SlR L2.MtR L2.PIf L2.PO L2.MtM L2.PC L2.PIp L2.PSet L2.PGet L2.TruR L2.InOp L2.PK
def spLawT (K:PySem.W.Frag) (PF PL:Addr):Sp:=fun vs H Q _=>∃ (a:Addr) (ns:List Int),vs = [.ref a]/\SqL K H a (ns.map V.int)/\ns.length ≤ 63/\H PF = some (.tbl #[])/\H PL = some (.tbl #[])/\PF ≠ PL/\∀ H',Q (.bl true) H'
def lN:List Str:=["_law_script","_law_size","_law_names_here","_law_parts_here","_law_form_here","_law_old","_law_stood","_law_cell_here","_law_way","_law_name","_law_sort","_law_columns_here","_law_handed","_law_at_here","_law_due_here"]
section
variable {P:Program} {w:World} {K:PySem.W.Frag} {mg:Str->Option Value} {base:Heap} {CT CS CO CN PF PL:Addr}
theorem ok_law {fself fC fN fCo fF fL fE fAt fDu fPa fRe fDo fOt fOn:Addr} {fd fdC fdN fdCo fdF fdL fdE fdAt fdDu fdPa fdRe fdDo fdOt fdOn:FuncData} (F:Fun K "law" "law" (top 61) fself fd) (B:Bl mg) (hz:mg "zip" = none)
  (DC:Df K mg "_law_cell" (top 42) fC fdC) (DN:Df K mg "_law_names" (top 45) fN fdN) (GN:FnOk P w K mg base CX0 2 fN fdN ["_law_cell_here","_law_many"] spNames) (DCo:Df K mg "_law_columns" (top 48) fCo fdCo) (GCo:FnOk P w K mg base CX0 3 fCo fdCo ["_law_cell_here","_law_most"] spColL)
  (DF:Df K mg "form_of" (top 29) fF fdF) (GF:FnOk P w K mg base CX0 6 fF fdF ["size","tables"] (spForm PF)) (DL:Df K mg "_law_form" (top 50) fL fdL) (GL:FnOk P w K mg base CX0 6 fL fdL ["_law_size","_law_parts_here"] (spFormL PL)) (DE:Df K mg "_law_same" (top 49) fE fdE)
  (DAt:Df K mg "_law_at" (top 52) fAt fdAt) (DDu:Df K mg "_law_due" (top 56) fDu fdDu) (DPa:Df K mg "_law_parts" (top 55) fPa fdPa) (DRe:Df K mg "_law_refused" (top 54) fRe fdRe) (GRe:FnOk P w K mg base CX0 9 fRe fdRe ["_law_form_here","_law_way","_law_name","_law_sort","_law_columns_here","_law_due_here"] (spRefd PF CO CN))
  (DDo:Df K mg "_law_done" (top 53) fDo fdDo) (GDo:FnOk P w K mg base (CX1 P w) 8 fDo fdDo ["_law_form_here","_law_way","_law_name","_law_sort","_law_columns_here"] (spDone PF CO CN)) (DOt:Df K mg "_law_other_refusals" (top 59) fOt fdOt) (GOt:FnOk P w K mg base CX0 9 fOt fdOt ["_law_form_here","_law_names_here","_law_cell_here"] (spOther PF))
  (DOn:Df K mg "_law_same_at_once" (top 60) fOn fdOn) (GOn:FnOk P w K mg base CX0 9 fOn fdOn ["_law_size","_law_form_here","_law_parts_here"] (spOnce PF PL)):FnOk P w K mg base CX0 10 fself fd ["_law_script"] (spLawT K PF PL):=by
 have sc:FnScope lN ["_law_script"] (defScope (top 61)):=⟨rfl,rfl,rfl,by decide +kernel,rfl,by decide +kernel,by decide +kernel⟩
 have GC:FnOk P w K mg base CX0 1 fC fdC ["_law_script","_law_k"] (spCell K):=ok_cell DC.fn B
 have GE:FnOk P w K mg base CX0 8 fE fdE ["_law_found","_law_due_here"] (spSame5 7):=ok_same DE B hz 7
 have GAt:FnOk P w K mg base CX0 1 fAt fdAt ["_law_parts_here","_law_name"] spAt:=ok_at DAt.fn B
 have GDu:FnOk P w K mg base CX0 1 fDu fdDu ["_law_way","_law_at_here"] spDue:=ok_due DDu.fn
 have GPa:FnOk P w K mg base CX0 1 fPa fdPa ["_law_parts_here","_law_way","_law_at_here","_law_name","_law_sort","_law_columns_here"] spPartsL:=ok_partsL DPa.fn
 have bC:=DC.fn.binds (ps:=["_law_script","_law_k"]) fun _ _ _ _ _ _ us hl=>by obtain ⟨v0,v1,rfl⟩:=L2.ln2 hl;rfl
 have bN:=DN.fn.binds (ps:=["_law_cell_here","_law_many"]) fun _ _ _ _ _ _ us hl=>by obtain ⟨v0,v1,rfl⟩:=L2.ln2 hl;rfl
 have bCo:=DCo.fn.binds (ps:=["_law_cell_here","_law_most"]) fun _ _ _ _ _ _ us hl=>by obtain ⟨v0,v1,rfl⟩:=L2.ln2 hl;rfl
 have bF:=DF.fn.binds (ps:=["size","tables"]) fun _ _ _ _ _ _ us hl=>by obtain ⟨v0,v1,rfl⟩:=L2.ln2 hl;rfl
 have bL:=DL.fn.binds (ps:=["_law_size","_law_parts_here"]) fun _ _ _ _ _ _ us hl=>by obtain ⟨v0,v1,rfl⟩:=L2.ln2 hl;rfl
 have bE:=DE.fn.binds (ps:=["_law_found","_law_due_here"]) fun _ _ _ _ _ _ us hl=>by obtain ⟨v0,v1,rfl⟩:=L2.ln2 hl;rfl
 have bAt:=DAt.fn.binds (ps:=["_law_parts_here","_law_name"]) fun _ _ _ _ _ _ us hl=>by obtain ⟨v0,v1,rfl⟩:=L2.ln2 hl;rfl
 have bDu:=DDu.fn.binds (ps:=["_law_way","_law_at_here"]) fun _ _ _ _ _ _ us hl=>by obtain ⟨v0,v1,rfl⟩:=L2.ln2 hl;rfl
 have bPa:=DPa.fn.binds (ps:=["_law_parts_here","_law_way","_law_at_here","_law_name","_law_sort","_law_columns_here"]) fun _ _ _ _ _ _ us hl=>match us,hl with | [_,_,_,_,_,_],_=>rfl
 have bRe:=DRe.fn.binds (ps:=["_law_form_here","_law_way","_law_name","_law_sort","_law_columns_here","_law_due_here"]) fun _ _ _ _ _ _ us hl=>match us,hl with | [_,_,_,_,_,_],_=>rfl
 have bDo:=DDo.fn.binds (ps:=["_law_form_here","_law_way","_law_name","_law_sort","_law_columns_here"]) fun _ _ _ _ _ _ us hl=>match us,hl with | [_,_,_,_,_],_=>rfl
 have bOt:=DOt.fn.binds (ps:=["_law_form_here","_law_names_here","_law_cell_here"]) fun _ _ _ _ _ _ us hl=>by obtain ⟨v0,v1,v2,rfl⟩:=L2.ln3 hl;rfl
 have bOn:=DOn.fn.binds (ps:=["_law_size","_law_form_here","_law_parts_here"]) fun _ _ _ _ _ _ us hl=>by obtain ⟨v0,v1,v2,rfl⟩:=L2.ln3 hl;rfl
 refine F.ok sc (fun vs H Q E h=>?_) (fun cdv A outer s H vs Q E hr h=>?_)
 ·obtain ⟨a,ns,rfl,_⟩:=h
  rfl
 ·obtain ⟨a,ns,rfl,hS,h63,hPF,hPL,nPP,q⟩:=h
  have hr1:Room 1 _:=hr.mono (by decide)
  have hr2:Room 2 _:=hr.mono (by decide)
  have hr3:Room 3 _:=hr.mono (by decide)
  have hr6:Room 6 _:=hr.mono (by decide)
  have hr8:Room 8 _:=hr.mono (by decide)
  have hu:(A.deeper (envOfC "law" (defScope (top 61)) s.heap.objs.size fself cdv)).units < cLine:=by have:=hu_of hr;omega
  have hu1:(A.deeper (envOfC "law" (defScope (top 61)) s.heap.objs.size fself cdv)).units + 0 + 1 < cLine:=hu_of hr
  refine ⟨_,(pss_cons (ps_set (i:=1) sc.nd rfl (Or.inl rfl) (pe_op op_add pe_int (pe_op op_mod (pe_op op_fdiv (pe_call GC hr1 (by rfl) DC.mg DC.fn.kp bC .nil pass0 (pa_cons (pv 0) (pa_cons pe_int pa_nil))) pe_int) (pe_ix ix_list (pe_lst (pa_cons pe_int (pa_cons (pe_op op_pow pe_int pe_int) pa_nil))) (pe_op op_mod (pe_call GC hr1 (by rfl) DC.mg DC.fn.kp bC .nil pass0 (pa_cons (pv 0) (pa_cons pe_int pa_nil))) pe_int) (fun _ _=>rfl)))))
   (pss_cons (ps_set (i:=2) sc.nd rfl (Or.inl rfl) (pe_call GN hr2 (by rfl) DN.mg DN.fn.kp bN .nil pass0 (pa_cons (pe_call GC hr1 (by rfl) DC.mg DC.fn.kp bC .nil pass0 (pa_cons (pv 0) (pa_cons pe_int pa_nil))) (pa_cons pe_int pa_nil))))
   (pss_cons (ps_set (i:=3) sc.nd rfl (Or.inl rfl) (pe_lst (pa_cons (pe_tup (pa_cons (pe_ix ix_list (pv 2) pe_int (fun _ _=>rfl)) (pa_cons pe_str (pa_cons pe_dnewK pa_nil)))) pa_nil)))
   (pss_cons (ps_set (i:=4) sc.nd rfl (Or.inl rfl) (pe_call GF hr6 (by rfl) DF.mg DF.fn.kp bF .nil pass0 (pa_cons (pv 1) (pa_cons (pe_lst (pa_cons (pe_tup (pa_cons (pe_ix ix_list (pv 2) pe_int (fun _ _=>rfl)) (pa_cons pe_str (pa_cons pe_dnewK pa_nil)))) pa_nil)) pa_nil))))
   (pss_cons (ps_set (i:=5) sc.nd rfl (Or.inl rfl) (pv 4))
   (pss_cons (ps_set (i:=6) sc.nd rfl (Or.inl rfl) (pe_call GL hr6 (by rfl) DL.mg DL.fn.kp bL .nil pass0 (pa_cons (pv 1) (pa_cons (pv 3) pa_nil))))
   (pss_cons (ps_for PassesOwn.never rfl (pi_list (pe_slice sl_list (pv 0) (po_some pe_int) (po_some pe_int))) (pg_name (i:=7) sc.nd rfl (Or.inl rfl))
   (pss_cons (ps_set (i:=8) sc.nd rfl (Or.inl rfl) (pe_op op_mod (pv 7) pe_int))
   (pss_cons (ps_set (i:=9) sc.nd rfl (Or.inl rfl) (pe_ix ix_list (pv 2) (pe_op op_mod (pe_op op_fdiv (pv 7) pe_int) pe_int) (fun _ _=>rfl)))
   (pss_cons (ps_set (i:=10) sc.nd rfl (Or.inl rfl) (pe_ix ix_list (pe_lst (pa_cons pe_str (pa_cons pe_str (pa_cons pe_str pa_nil)))) (pe_op op_mod (pe_op op_fdiv (pv 7) pe_int) pe_int) (fun _ _=>rfl)))
   (pss_cons (ps_set (i:=11) sc.nd rfl (Or.inl rfl) (pe_call GCo hr3 (by rfl) DCo.mg DCo.fn.kp bCo .nil pass0 (pa_cons (pe_op op_fdiv (pv 7) pe_int) (pa_cons pe_int pa_nil))))
   (pss_cons (ps_set (i:=12) sc.nd rfl (Or.inl rfl) (pe_callTy call_dict_of (by rfl) B.dict boot_dict (pa_cons (pv 11) pa_nil)))
   (pss_cons (ps_set (i:=13) sc.nd rfl (Or.inl rfl) (pe_call GAt hr1 (by rfl) DAt.mg DAt.fn.kp bAt .nil pass0 (pa_cons (pv 3) (pa_cons (pv 9) pa_nil))))
   (pss_cons (ps_set (i:=14) sc.nd rfl (Or.inl rfl) (pe_call GDu hr1 (by rfl) DDu.mg DDu.fn.kp bDu .nil pass0 (pa_cons (pv 8) (pa_cons (pv 13) pa_nil))))
   (pss_cons (ps_if (pt_cmpR (op_neTs hu) (pv 14) (pe_lst pa_nil) (nomark _)) (pss_one (ps_if (pt_not (pt_val (pe_call GRe hr (by rfl) DRe.mg DRe.fn.kp bRe .nil pass0 (pa_cons (pv 4) (pa_cons (pv 8) (pa_cons (pv 9) (pa_cons (pv 10) (pa_cons (pv 12) (pa_cons (pv 14) pa_nil))))))))) pss_never pss_nil)) (pss_cons (ps_set (i:=3) sc.nd rfl (Or.inl rfl) (pe_call GPa hr1 (by rfl) DPa.mg DPa.fn.kp bPa .nil pass0 (pa_cons (pv 3) (pa_cons (pv 8) (pa_cons (pv 13) (pa_cons (pv 9) (pa_cons (pv 10) (pa_cons (pv 11) pa_nil))))))))
   (pss_one (ps_set (i:=4) sc.nd rfl (Or.inl rfl) (pe_callX GDo hr8 (by rfl) DDo.mg DDo.fn.kp bDo .nil lands_no (pa_cons (pv 4) (pa_cons (pv 8) (pa_cons (pv 9) (pa_cons (pv 10) (pa_cons (pv 12) pa_nil))))))))))
   (pss_cons (ps_if (pt_cmpR op_neDD (pv 12) (pv 11) (nomark _)) pss_never pss_nil)
   (pss_cons (ps_expr (pe_bm0 PySem.F.plainAttrs_dict PySem.F.slot_dict_clear PySem.F.type_dict_clear mt_dclear (pv 12)))
   (pss_cons (ps_if (pt_not (pt_val (pe_call GE hr8 (by rfl) DE.mg DE.fn.kp bE .nil pass0 (pa_cons (pv 4) (pa_cons (pe_call GL hr6 (by rfl) DL.mg DL.fn.kp bL .nil pass0 (pa_cons (pv 1) (pa_cons (pv 3) pa_nil))) pa_nil))))) pss_never pss_nil)
   (pss_one (ps_if (pt_cmpR op_eq (pe_op op_mod (pe_op op_fdiv (pv 7) pe_int) pe_int) pe_int (nomark _)) (pss_cons (ps_if (pt_not (pt_val (pe_call GE hr8 (by rfl) DE.mg DE.fn.kp bE .nil pass0 (pa_cons (pv 5) (pa_cons (pv 6) pa_nil))))) pss_never pss_nil)
   (pss_cons (ps_set (i:=5) sc.nd rfl (Or.inl rfl) (pv 4))
   (pss_one (ps_set (i:=6) sc.nd rfl (Or.inl rfl) (pe_call GL hr6 (by rfl) DL.mg DL.fn.kp bL .nil pass0 (pa_cons (pv 1) (pa_cons (pv 3) pa_nil))))))) pss_nil))))))))))))))
   (pss_cons (ps_if (PW.pt (pw_or (pt_not (pt_val (pe_call GOt hr (by rfl) DOt.mg DOt.fn.kp bOt .nil pass0 (pa_cons (pv 4) (pa_cons (pv 2) (pa_cons (pe_call GC hr1 (by rfl) DC.mg DC.fn.kp bC .nil pass0 (pa_cons (pv 0) (pa_cons pe_int pa_nil))) pa_nil)))))) (pw_or1 (pt_not (pt_val (pe_call GE hr8 (by rfl) DE.mg DE.fn.kp bE .nil pass0 (pa_cons (pv 5) (pa_cons (pv 6) pa_nil)))))))) pss_never pss_nil)
   (pss_one (ps_ret (pe_call GOn hr (by rfl) DOn.mg DOn.fn.kp bOn .nil pass0 (pa_cons (pv 1) (pa_cons (pv 4) (pa_cons (pv 3) pa_nil)))))))))))))),?_⟩
  have p12:CPow 10 12:=⟨by decide,by decide,by decide⟩
  have e12:(10:Int) ^ (12:Int).toNat = 1000000000000:=by decide +kernel
  refine ⟨_,rfl,a,ns,_,rfl,hS,(by decide),(by decide),h63,_,_,rfl,rfl,⟨by decide,by decide⟩,?_⟩
  refine ⟨_,_,rfl,rfl,p12,(by show 2 ≤ sizeLine;decide),fun l1 e1=>?_⟩
  have T1:=Same.upd (o:=.lst [V.int 9,.int ((10:Int) ^ (12:Int).toNat)]) e1
  obtain ⟨x,hx,hm⟩:=at_mem (l:=[V.int 9,.int ((10:Int) ^ (12:Int).toNat)]) (i:=cellF ns 0 % 2) (Int.emod_nonneg _ (by decide)) (by show cellF ns 0 % 2 < 2;exact Int.emod_lt_of_pos _ (by decide))
  obtain ⟨m,rfl,m1⟩:∃ m:Int,x = .int m/\0 < m:=by
   simp only [List.mem_cons,List.not_mem_nil,or_false] at hm
   rcases hm with rfl | rfl
   ·exact ⟨_,rfl,by decide⟩
   ·exact ⟨_,rfl,by rw [e12];decide⟩
  refine ⟨_,rfl,a,ns,_,rfl,T1.seq hS,(by decide),(by decide),h63,_,_,rfl,rfl,(pos rfl),_,_,_,_,rfl,rfl,SqL.of upd_same,hx,_,_,rfl,rfl,m1,_,_,rfl,rfl,?_⟩
  have sz1:1 ≤ 1 + cellF ns 0 / 2 % m:=by have:=Int.emod_nonneg (cellF ns 0 / 2) (show m ≠ 0 by omega);omega
  show tSeq _ _ _ [some (.ref a),some (.int (1 + cellF ns 0 / 2 % m)),none,none,none,none,none,none,none,none,none,none,none,none,none] _
  generalize 1 + cellF ns 0 / 2 % m = sz at sz1 ⊢
  generalize L2.upd H l1 (.lst [V.int 9,.int ((10:Int) ^ (12:Int).toNat)]) = H1 at *
  refine ⟨_,rfl,a,ns,_,rfl,T1.seq hS,(by decide),(by decide),h63,_,8,rfl,(by decide),(by decide),fun nl H2 nsL s2 hnl nl8 ndL nmL=>?_⟩
  have S2:=T1.trans s2
  have l8:nsL.length = 8:=by omega
  obtain ⟨n0,nr,en0⟩:∃ n0 nr,nsL = n0 :: nr:=by
   cases nsL with
   | nil=>cases l8
   | cons a r=>exact ⟨a,r,rfl⟩
  have at0:atI (nsL.map V.str) 0 = some (.str n0):=by rw [en0];exact atI_nat (j:=0) rfl
  refine ⟨_,rfl,_,_,0,_,rfl,rfl,SqL.of hnl,at0,fun d3 e3=>?_⟩
  have T3:=Same.upd (o:=.dK []) e3
  refine ⟨(by show 3 ≤ sizeLine;decide),fun t4 e4=>?_⟩
  have T4:=Same.upd (o:=.tup [.str n0,.str "head",.ref d3]) e4
  refine ⟨(by show 1 ≤ sizeLine;decide),fun lp0 e5=>?_⟩
  have T5:=Same.upd (o:=.lst [V.ref t4]) e5
  have S5:=T3.trans (T4.trans T5)
  have hP5:PartsAt (L2.upd (L2.upd (L2.upd H2 d3 (.dK [])) t4 (.tup [.str n0,.str "head",.ref d3])) lp0 (.lst [V.ref t4])) lp0 [t4] [d3] [⟨n0,"head",[]⟩]:=⟨upd_same,PP.one ⟨T5 _ _ upd_same,(T4.trans T5) _ _ upd_same,ColsOk.nil _⟩⟩
  generalize L2.upd (L2.upd (L2.upd H2 d3 (.dK [])) t4 (.tup [.str n0,.str "head",.ref d3])) lp0 (.lst [V.ref t4]) = H5 at *
  have tsk:TsOk ⟨n0,"head",[]⟩ []:=by
   refine ⟨Nat.zero_le _,by simp,fun T hT=>?_,rfl,fun T hT=>nomatch hT⟩
   rw [List.mem_singleton.mp hT]
   exact nmL n0 (by rw [en0];exact List.mem_cons_self)
  refine ⟨_,rfl,_,rfl,_,_,0,_,rfl,rfl,SqL.of (S5 _ _ hnl),at0,fun d6 e6=>?_⟩
  have T6:=Same.upd (o:=.dK []) e6
  refine ⟨(by show 3 ≤ sizeLine;decide),fun t7 e7=>?_⟩
  have T7:=Same.upd (o:=.tup [.str n0,.str "head",.ref d6]) e7
  refine ⟨(by show 1 ≤ sizeLine;decide),fun l8' e8=>?_⟩
  have T8:=Same.upd (o:=.lst [V.ref t7]) e8
  have S8:=T6.trans (T7.trans T8)
  have SH8:=S2.trans (S5.trans S8)
  refine ⟨l8',sz,[t7],[d6],⟨n0,"head",[]⟩,[],rfl,sz1,⟨upd_same,PP.one ⟨T8 _ _ upd_same,(T7.trans T8) _ _ upd_same,ColsOk.nil _⟩⟩,tsk,.inl (SH8 _ _ hPF),fun ff0 H9 V9 sb9 fr9 tb9 pV9 hr9 hf9=>?_⟩
  have hPL9:H9 PL = some (.tbl #[]):=fr9 _ _ (Ne.symm nPP) (SH8 _ _ hPL)
  have SB9:=SH8.sb.trans sb9
  have hP9:=(hP5.same S8).sb sb9
  have hnl9:=sb9 _ _ rfl ((S5.trans S8) _ _ hnl)
  have fk9:FK H9 ff0 sz ⟨n0,"head",[]⟩ []:=⟨FAt.of' hf9 pV9 hr9,tsk,fun T hT=>by rw [List.mem_singleton.mp hT];exact ColsOk.nil _,sz1⟩
  clear hf9 hr9
  refine ⟨_,rfl,?_⟩
  refine ⟨_,rfl,_,rfl,lp0,sz,[t4],[d3],⟨n0,"head",[]⟩,[],rfl,hP9,tsk,.inl hPL9,fun fs0 HB V10 sb10 fr10 tb10 pV10 hr10 hg10=>?_⟩
  have LB:LI HB sz nsL PF PL lp0 ff0 ff0 fs0 ⟨n0,"head",[]⟩ [] [t4] [d3] ⟨n0,"head",[]⟩ []:=
   ⟨hP9.sb sb10,fk9.sb sb10,fun T hT=>by rw [List.mem_singleton.mp hT,en0];exact List.mem_cons_self,fk9.sb sb10,FAt.of' hg10 pV10 hr10,tb9.fr (p1:=liPos) (q1:=liQ) fr10 nPP (.inl hPL9),tb10⟩
  have hSB:SqL K HB a (ns.map V.int):=hS.sb (SB9.trans sb10)
  have hnlB:=sb10 _ _ rfl hnl9
  have nLF:PL ≠ PF:=Ne.symm nPP
  refine ⟨_,rfl,_,rfl,_,rfl,a,_,rfl,hSB,fun p11 e11=>?_⟩
  obtain ⟨ms,ems⟩:=cutV_map V.int ns (some 3) (some 63)
  rw [ems]
  have T11:=Same.upd (o:=.lst (ms.map V.int)) e11
  have hp11:(L2.upd HB p11 (.lst (ms.map V.int))) p11 = some (.lst (ms.map V.int)):=upd_same
  have LC:=LB.same T11
  have hSC:=T11.seq hSB
  have hnlC:=T11 _ _ hnlB
  generalize L2.upd HB p11 (.lst (ms.map V.int)) = HC at *
  clear LB hSB hnlB T11 e11 tb10 tb9 hP9 hnl9 fk9 hPL9
  refine ⟨p11,rfl,⟨_,SqL.of hp11⟩,for_list (K:=K) (a:=p11) (xs:=ms.map V.int) (fun i σ Hc=>∃ (lp ff fo fs:Addr) (T0:Tb) (R:List Tb) (es ds:List Addr) (T0o:Tb) (Ro:List Tb) (u7 u8 u9 u10 u11 u12 u13 u14:Option V),σ = [some (.ref a),some (.int sz),some (.ref nl),some (.ref lp),some (.ref ff),some (.ref fo),some (.ref fs),u7,u8,u9,u10,u11,u12,u13,u14]/\Sb HC Hc/\LI Hc sz nsL PF PL lp ff fo fs T0 R es ds T0o Ro) ⟨_,_,_,_,_,_,_,_,_,_,_,_,_,_,_,_,_,_,rfl,Sb.refl _,LC⟩ (fun i σ Hc _ pp=>by obtain ⟨lp,ff,fo,fs,T0,R,es,ds,T0o,Ro,u7,u8,u9,u10,u11,u12,u13,u14,_,sb,_⟩:=pp;exact SqL.of (sb _ _ rfl hp11)) ?_ ?_⟩
  ·rintro i x σ Hc hx ⟨lp,ff,fo,fs,T0,R,es,ds,T0o,Ro,u7,u8,u9,u10,u11,u12,u13,u14,rfl,sbc,L⟩
   rw [List.getElem?_map] at hx
   obtain ⟨c,_,rfl⟩:=Option.map_eq_some_iff.mp hx
   obtain ⟨v,hv,hvm⟩:=at_mem (l:=nsL.map V.str) (i:=c / 3 % 8) (Int.emod_nonneg _ (by decide)) (by rw [List.length_map,l8];exact Int.emod_lt_of_pos _ (by decide))
   obtain ⟨z,hzL,rfl⟩:=List.mem_map.mp hvm
   obtain ⟨v2,hv2,hvm2⟩:=at_mem (l:=[V.str "twin",.str "many",.str "some"]) (i:=c / 24 % 3) (Int.emod_nonneg _ (by decide)) (by show c / 24 % 3 < 3;exact Int.emod_lt_of_pos _ (by decide))
   obtain ⟨so,rfl,hso⟩:∃ so:Str,v2 = .str so/\so ∈ sides:=by
    simp only [List.mem_cons,List.not_mem_nil,or_false] at hvm2
    rcases hvm2 with rfl | rfl | rfl
    ·exact ⟨_,rfl,by decide +kernel⟩
    ·exact ⟨_,rfl,by decide +kernel⟩
    ·exact ⟨_,rfl,by decide +kernel⟩
   refine ⟨_,rfl,_,_,rfl,rfl,(pos rfl),?_⟩
   refine ⟨_,rfl,_,rfl,_,_,rfl,rfl,⟨by decide,by decide⟩,_,_,rfl,rfl,(pos rfl),_,_,_,_,rfl,rfl,SqL.of (sbc _ _ rfl hnlC),hv,?_⟩
   refine ⟨(by show 3 ≤ sizeLine;decide),fun l3 e3'=>?_⟩
   have T3':=Same.upd (o:=.lst [V.str "twin",.str "many",.str "some"]) e3'
   refine ⟨_,rfl,_,_,rfl,rfl,⟨by decide,by decide⟩,_,_,rfl,rfl,(pos rfl),_,_,_,_,rfl,rfl,SqL.of upd_same,hv2,?_⟩
   refine ⟨_,rfl,_,_,rfl,rfl,⟨by decide,by decide⟩,_,12,rfl,(by decide),(by decide),fun cd cols H4 s4 hcd hco=>?_⟩
   have S4:=T3'.trans s4
   have sb4:=sbc.trans S4.sb
   have L4:=L.same S4
   clear L sbc
   refine ⟨_,rfl,cd,_,rfl,.inl hcd,fun h nh=>?_⟩
   have T5':=Same.upd (o:=.dK (kvC cols)) nh
   have hh5:(L2.upd H4 h (.dK (kvC cols))) h = some (.dK (kvC cols)):=upd_same
   have L5:=L4.same T5'
   have cdh:cd ≠ h:=fun e=>by rw [e,nh] at hcd;cases hcd
   have dsh:∀ d ∈ ds,d ≠ h:=fun d hd e=>by
    obtain ⟨o,ho⟩:=L4.pa.some_d hd
    rw [e,nh] at ho
    cases ho
   have sb5:=sb4.trans T5'.sb
   have hHh:HC h = none\/∃ o,HC h = some o/\notT o = false:=by
    cases e:HC h with
    | none=>exact .inl rfl
    | some o=>
     cases n:notT o with
     | false=>exact .inr ⟨o,rfl,n⟩
     | true=>rw [sb4 _ _ n e] at nh;cases nh
   have hcd5:=T5' _ _ hcd
   have hco5:=hco.same T5'
   generalize L2.upd H4 h (.dK (kvC cols)) = H5' at *
   clear L4 sb4 hcd hco
   have w0:=Int.emod_nonneg c (show (3:Int) ≠ 0 by decide)
   have w1:=Int.emod_lt_of_pos c (show (0:Int) < 3 by decide)
   apply cutB (fun a' du lp' ff' H'=>Sb HC H'/\H' h = some (.dK (kvC cols))/\H' cd = some (.dK (kvC cols))/\ColsOk H' cols/\∃ (T0':Tb) (R':List Tb) (es' ds':List Addr),LI H' sz nsL PF PL lp' ff' fo fs T0' R' es' ds' T0o Ro/\∀ d ∈ ds',d ≠ h)
   ·intro fin
    have keep:∀ {H':Hp} (a':Int) (du:Addr),Same H5' H'->Sb HC H'/\H' h = some (.dK (kvC cols))/\H' cd = some (.dK (kvC cols))/\ColsOk H' cols/\∃ (T0':Tb) (R':List Tb) (es' ds':List Addr),LI H' sz nsL PF PL lp ff fo fs T0' R' es' ds' T0o Ro/\∀ d ∈ ds',d ≠ h:=fun a' du s=>⟨sb5.trans s.sb,s _ _ hh5,s _ _ hcd5,hco5.same s,T0,R,es,ds,L5.same s,dsh⟩
    refine ⟨_,rfl,_,rfl,lp,es,ds,T0 :: R,z,rfl,L5.pa,fun k a' T H6 ea s6 hT hTz=>?_,fun a' H6 ea s6 hnz=>?_⟩
    rotate_left
    ·refine ⟨_,rfl,_,rfl,_,a',rfl,fun du H7 ndu s7 hdu=>?_⟩
     refine ⟨_,rfl,Nat.zero_le _,fun p8 e8'=>?_⟩
     have T8':=Same.upd (o:=.lst []) e8'
     refine ⟨du,p8,dueL (c % 3) a',[],rfl,rfl,SqL.of (T8' _ _ hdu),SqL.of upd_same,_,rfl,?_⟩
     have S8':=s6.trans (s7.trans T8')
     have hdu8:=T8' _ _ hdu
     generalize L2.upd H7 p8 (.lst []) = H8 at *
     have L8:=L5.same S8'
     by_cases h0:c % 3 = 0
     ·have ed:dueL (c % 3) a' = []:=by unfold dueL;rw [if_neg (by omega),if_neg (by omega)]
      rw [ed]
      refine iteC (by decide +kernel) ?_
      refine ⟨_,rfl,_,rfl,_,rfl,_,rfl,_,rfl,_,rfl,lp,es,ds,T0 :: R,c % 3,a',z,so,cd,cols,rfl,L8.pa,(by have:=L8.fk.ts.1;rw [List.length_cons];omega),S8' _ _ hcd5,hco5.same S8',.inl ⟨h0,fun lp' es' ds' H9 s9 hds hP9=>?_⟩⟩
      have S9:=S8'.trans s9
      have L9:=L5.same S9
      rw [List.cons_append] at hP9
      have ts':TsOk T0 (R ++ [⟨z,so,cols⟩]):=by
       obtain ⟨t1,t2,t3,t4,t5⟩:=L9.fk.ts
       have nd':((T0 :: (R ++ [⟨z,so,cols⟩])).map (·.name)).Nodup:=by
        rw [← List.cons_append,List.map_append]
        refine List.nodup_append.mpr ⟨t2,by simp,fun x hx y hy e=>?_⟩
        rw [List.mem_singleton.mp hy] at e
        exact hnz (by rw [← show x = z from e];exact hx)
       have mem':∀ X ∈ T0 :: (R ++ [⟨z,so,cols⟩]),X ∈ T0 :: R\/X = ⟨z,so,cols⟩:=fun X hX=>by
        rw [← List.cons_append] at hX
        rcases List.mem_append.mp hX with h | h
        ·exact .inl h
        ·exact .inr (List.mem_singleton.mp h)
       refine ⟨?_,nd',fun X hX=>?_,t4,fun X hX=>?_⟩
       ·have:=nd_len (m:=nsL) nd' fun y hy=>by
         obtain ⟨X,hX,rfl⟩:=List.mem_map.mp hy
         rcases mem' X hX with h | h
         ·exact L9.nm X h
         ·rw [h];exact hzL
        rw [List.length_map,List.length_cons,l8] at this
        omega
       ·rcases mem' X hX with h | h
        ·exact t3 X h
        ·rw [h];exact nmL z hzL
       ·rcases List.mem_append.mp hX with h | h
        ·exact t5 X h
        ·rw [List.mem_singleton.mp h];exact hso
      refine ⟨_,rfl,_,rfl,_,rfl,_,rfl,_,rfl,ff,c % 3,z,so,h,rfl,.inl ⟨h0,ff,sz,T0,R,z,so,h,cols,rfl,L9.fk,S9 _ _ hh5,hco5.same S9,(by have:=name_len (nmL z hzL);omega),L9.tF,.inl ⟨ts',fun ff' H10 sb10' fr10' tb10' fa=>?_⟩⟩⟩
      have L10:=L9.sbF sb10' fr10' tb10' nLF
      have mem':∀ X ∈ T0 :: (R ++ [⟨z,so,cols⟩]),X ∈ T0 :: R\/X = ⟨z,so,cols⟩:=fun X hX=>by
       rw [← List.cons_append] at hX
       rcases List.mem_append.mp hX with h | h
       ·exact .inl h
       ·exact .inr (List.mem_singleton.mp h)
      refine fin a' du lp' ff' H10 ⟨(sb5.trans S9.sb).trans sb10',sb10' _ _ rfl (S9 _ _ hh5),sb10' _ _ rfl (S9 _ _ hcd5),(hco5.same S9).sb sb10',T0,R ++ [⟨z,so,cols⟩],es',ds',⟨hP9.sb sb10',⟨fa,ts',fun X hX=>?_,sz1⟩,fun X hX=>?_,L10.fo,L10.fs,tb10',L10.tL⟩,fun d hd=>?_⟩
      ·rcases mem' X hX with h | h
       ·exact L10.fk.co X h
       ·rw [h];exact (hco5.same S9).sb sb10'
      ·rcases mem' X hX with h | h
       ·exact L10.nm X h
       ·rw [h];exact hzL
      ·rcases hds d hd with h | h
       ·exact dsh d h
       ·rw [h];exact cdh
     ·have ed:dueL (c % 3) a' = [("step":Str),"table"]:=by unfold dueL;rw [if_neg (by omega),if_pos (by omega)]
      rw [ed] at hdu8 ⊢
      refine iteB (by decide +kernel) ?_
      refine ⟨_,rfl,_,rfl,_,rfl,_,rfl,_,rfl,_,rfl,ff,c % 3,z,so,h,du,rfl,.inr ⟨hdu8,fun Q' E' qe=>⟨ff,c % 3,z,so,h,rfl,?_⟩⟩,fun H' s'=>⟨_,rfl,iteF (fin a' du lp ff H' (keep a' du (S8'.trans s')))⟩⟩
      by_cases h1:c % 3 = 1
      ·exact .inr (.inl ⟨h1,ff,sz,T0,R,z,h,rfl,L8.fk,L8.tF,.inl ⟨hnz,qe⟩⟩)
      ·exact .inr (.inr ⟨by omega,ff,sz,T0,R,z,rfl,L8.fk,L8.tF,.inl ⟨hnz,qe⟩⟩)
    ·have hkT:k < (T0 :: R).length:=(List.getElem?_eq_some_iff.mp hT).1
     have hzm:z ∈ (T0 :: R).map (·.name):=List.mem_map.mpr ⟨T,List.mem_of_getElem? hT,hTz⟩
     refine ⟨_,rfl,_,rfl,_,a',rfl,fun du H7 ndu s7 hdu=>?_⟩
     refine ⟨_,rfl,Nat.zero_le _,fun p8 e8'=>?_⟩
     have T8':=Same.upd (o:=.lst []) e8'
     refine ⟨du,p8,dueL (c % 3) a',[],rfl,rfl,SqL.of (T8' _ _ hdu),SqL.of upd_same,_,rfl,?_⟩
     have S8':=s6.trans (s7.trans T8')
     have hdu8:=T8' _ _ hdu
     generalize L2.upd H7 p8 (.lst []) = H8 at *
     have L8:=L5.same S8'
     by_cases h0:c % 3 = 0
     ·have ed:dueL (c % 3) a' = [("form":Str)]:=by unfold dueL;rw [if_pos (.inl ⟨h0,by omega⟩)]
      rw [ed] at hdu8 ⊢
      refine iteB (by decide +kernel) ?_
      refine ⟨_,rfl,_,rfl,_,rfl,_,rfl,_,rfl,_,rfl,ff,c % 3,z,so,h,du,rfl,.inl ⟨hdu8,fun Q' E' qe=>⟨ff,c % 3,z,so,h,rfl,.inl ⟨h0,ff,sz,T0,R,z,so,h,cols,rfl,L8.fk,S8' _ _ hh5,hco5.same S8',?_,L8.tF,.inr ⟨.inr ⟨hso,.inr hzm⟩,qe⟩⟩⟩⟩,fun H' s'=>⟨_,rfl,iteF (fin a' du lp ff H' (keep a' du (S8'.trans s')))⟩⟩
      have:=name_len (nmL z hzL)
      omega
     by_cases h1:c % 3 = 1
     ·have ed:dueL (c % 3) a' = []:=by unfold dueL;rw [if_neg (by omega),if_neg (by omega)]
      rw [ed]
      refine iteC (by decide +kernel) ?_
      refine ⟨_,rfl,_,rfl,_,rfl,_,rfl,_,rfl,_,rfl,lp,es,ds,T0 :: R,c % 3,a',z,so,cd,cols,rfl,L8.pa,(by have:=L8.fk.ts.1;rw [List.length_cons];omega),S8' _ _ hcd5,hco5.same S8',.inr (.inl ⟨h1,k,T,ea,hT,fun lp' es' ds' H9 s9 hds hP9=>?_⟩)⟩
      have S9:=S8'.trans s9
      have L9:=L5.same S9
      refine ⟨_,rfl,_,rfl,_,rfl,_,rfl,_,rfl,ff,c % 3,z,so,h,rfl,.inr (.inl ⟨h1,ff,sz,T0,R,z,h,rfl,L9.fk,L9.tF,.inr ⟨hzm,.inl ⟨cols,S9 _ _ hh5,hco5.same S9,fun ff' H10 sb10' fr10' tb10' fa=>?_⟩⟩⟩)⟩
      rw [rc_at hT hTz L9.fk.ts.2.1] at hP9
      have L10:=L9.sbF sb10' fr10' tb10' nLF
      refine fin a' du lp' ff' H10 ⟨(sb5.trans S9.sb).trans sb10',sb10' _ _ rfl (S9 _ _ hh5),sb10' _ _ rfl (S9 _ _ hcd5),(hco5.same S9).sb sb10',rc z cols T0,R.map (rc z cols),es',ds',⟨hP9.sb sb10',⟨fa,L9.fk.ts.perm (rc_nm z cols T0) ?_,fun X hX=>?_,sz1⟩,fun X hX=>?_,L10.fo,L10.fs,tb10',L10.tL⟩,fun d hd=>?_⟩
      ·rw [List.map_map]
       exact List.Perm.of_eq (List.map_congr_left fun X _=>rc_nm z cols X)
      ·have hX':X ∈ (T0 :: R).map (rc z cols):=hX
       obtain ⟨Y,hY,rfl⟩:=List.mem_map.mp hX'
       unfold rc
       split
       ·exact (hco5.same S9).sb sb10'
       ·exact L10.fk.co Y hY
      ·have hX':X ∈ (T0 :: R).map (rc z cols):=hX
       obtain ⟨Y,hY,rfl⟩:=List.mem_map.mp hX'
       rw [show (rc z cols Y).name = Y.name from congrArg Prod.fst (rc_nm z cols Y)]
       exact L10.nm Y hY
      ·rcases hds d hd with h | h
       ·exact dsh d h
       ·rw [h];exact cdh
     have h2:c % 3 = 2:=by omega
     by_cases hk0:k = 0
     ·have ed:dueL (c % 3) a' = [("form":Str)]:=by unfold dueL;rw [if_pos (.inr ⟨h2,by omega⟩)]
      rw [ed] at hdu8 ⊢
      refine iteB (by decide +kernel) ?_
      have ez:z = T0.name:=by
       rw [hk0] at hT
       cases hT
       exact hTz.symm
      exact ⟨_,rfl,_,rfl,_,rfl,_,rfl,_,rfl,_,rfl,ff,c % 3,z,so,h,du,rfl,.inl ⟨hdu8,fun Q' E' qe=>⟨ff,c % 3,z,so,h,rfl,.inr (.inr ⟨h2,ff,sz,T0,R,z,rfl,L8.fk,L8.tF,.inr (.inl ⟨ez,qe⟩)⟩)⟩⟩,fun H' s'=>⟨_,rfl,iteF (fin a' du lp ff H' (keep a' du (S8'.trans s')))⟩⟩
     ·have ed:dueL (c % 3) a' = []:=by unfold dueL;rw [if_neg (by omega),if_neg (by omega)]
      rw [ed]
      refine iteC (by decide +kernel) ?_
      refine ⟨_,rfl,_,rfl,_,rfl,_,rfl,_,rfl,_,rfl,lp,es,ds,T0 :: R,c % 3,a',z,so,cd,cols,rfl,L8.pa,(by have:=L8.fk.ts.1;rw [List.length_cons];omega),S8' _ _ hcd5,hco5.same S8',.inr (.inr ⟨h2,k,ea,hkT,fun lp' es' ds' H9 s9 hds hP9=>?_⟩)⟩
      have S9:=S8'.trans s9
      have L9:=L5.same S9
      have hzR:z ∈ R.map (·.name):=by
       obtain ⟨k',rfl⟩:∃ k',k = k' + 1:=⟨k - 1,by omega⟩
       rw [List.getElem?_cons_succ] at hT
       exact List.mem_map.mpr ⟨T,List.mem_of_getElem? hT,hTz⟩
      refine ⟨_,rfl,_,rfl,_,rfl,_,rfl,_,rfl,ff,c % 3,z,so,h,rfl,.inr (.inr ⟨h2,ff,sz,T0,R,z,rfl,L9.fk,L9.tF,.inr (.inr ⟨hzR,fun ff' H10 sb10' fr10' tb10' fa=>?_⟩)⟩)⟩
      have n0:¬ T0.name = z:=fun e=>by
       have hn:=L9.fk.ts.2.1
       rw [List.map_cons] at hn
       exact (List.nodup_cons.mp hn).1 (by rw [e];exact hzR)
      rw [nz_at hT hTz L9.fk.ts.2.1,List.filter_cons_of_pos (by unfold nz;exact decide_eq_true n0)] at hP9
      have L10:=L9.sbF sb10' fr10' tb10' nLF
      have sub:∀ X ∈ T0 :: R.filter (nz z),X ∈ T0 :: R:=fun X hX=>by
       rcases List.mem_cons.mp hX with e | e
       ·rw [e];exact List.mem_cons_self
       ·exact List.mem_cons_of_mem _ (List.mem_filter.mp e).1
      refine fin a' du lp' ff' H10 ⟨(sb5.trans S9.sb).trans sb10',sb10' _ _ rfl (S9 _ _ hh5),sb10' _ _ rfl (S9 _ _ hcd5),(hco5.same S9).sb sb10',T0,R.filter (nz z),es',ds',⟨hP9.sb sb10',⟨fa,L9.fk.ts.filter _,fun X hX=>L10.fk.co X (sub X hX),sz1⟩,fun X hX=>L10.nm X (sub X hX),L10.fo,L10.fs,tb10',L10.tL⟩,fun d hd=>?_⟩
      rcases hds d hd with h | h
      ·exact dsh d h
      ·rw [h];exact cdh
   ·rintro a' du lp' ff' H6 ⟨sb6,hh6,hcd6,hco6,T0',R',es',ds',L6,dsh'⟩
    have hk:∀ (k:Key) (v:V),(k,v) ∈ kvC cols->(∃ z,k = .inr z)/\∃ ad,v = .ref ad:=fun k v hm=>by
     obtain ⟨p,hp,e⟩:=List.mem_map.mp hm
     cases e
     obtain ⟨_,d,k1,k2,_⟩:=hco6.2.2 p hp
     exact ⟨⟨_,rfl⟩,kind_ref k2 k1⟩
    refine ⟨_,rfl,_,rfl,0,h,cd,kvC cols,kvC cols,rfl,rfl,.inl hh6,.inl hcd6,rfl,(fun k v hm=>(hk k v hm).1),(fun k v hm=>⟨v,hm,?_⟩),hu1,_,rfl,iteF ?_⟩
    ·obtain ⟨ad,rfl⟩:=(hk k v hm).2
     exact .ref
    refine ⟨_,rfl,.inr (.inr (.inl ⟨rfl,.inl ⟨_,hh6⟩⟩)),h,_,rfl,rfl,hh6,?_⟩
    have L7:=L6.put (u:=.dK []) hh6 dsh'
    have sb7:Sb HC (L2.upd H6 h (.dK [])):=fun b o n e=>by
     rw [upd_ne (fun e'=>?_)]
     ·exact sb6 b o n e
     ·rw [e'] at e
      rcases hHh with h' | ⟨o',h',n'⟩
      ·rw [h'] at e;cases e
      ·rw [h'] at e;cases e;rw [n'] at n;cases n
    generalize L2.upd H6 h (.dK []) = H7 at *
    refine ⟨_,rfl,_,rfl,_,rfl,lp',sz,es',ds',T0',R',rfl,L7.pa,L7.fk.ts,L7.tL,fun g H8 V8 sb8 fr8 tb8 pV8 hrV8 hg8=>?_⟩
    have L8:=L7.sbL sb8 fr8 tb8 nLF
    refine ⟨_,_,rfl,lk_same L8.fk.at_ (FAt.of' hg8 pV8 hrV8) L8.fk.ts L8.fk.co,fun H9' s9=>⟨_,rfl,iteF ?_⟩⟩
    have L9:=L8.same s9
    have sb9':=(sb7.trans sb8).trans s9.sb
    refine ⟨_,rfl,_,_,rfl,rfl,⟨by decide,by decide⟩,_,_,rfl,rfl,(pos rfl),rfl,_,rfl,?_⟩
    refine ite2 (fun _=>?_) (fun _=>?_)
    ·refine ⟨_,rfl,_,rfl,_,_,rfl,lk_same L9.fo.at_ L9.fs L9.fo.ts L9.fo.co,fun H10 s10=>⟨_,rfl,iteF ?_⟩⟩
     have L10:=L9.same s10
     refine ⟨_,rfl,?_⟩
     refine ⟨_,rfl,_,rfl,lp',sz,es',ds',T0',R',rfl,L10.pa,L10.fk.ts,L10.tL,fun g2 H11 V11 sb11 fr11 tb11 pV11 hrV11 hg11=>?_⟩
     have L11:=L10.sbL sb11 fr11 tb11 nLF
     exact ⟨lp',ff',ff',g2,T0',R',es',ds',T0',R',_,_,_,_,_,_,_,_,rfl,(sb9'.trans s10.sb).trans sb11,⟨L11.pa,L11.fk,L11.nm,L11.fk,FAt.of' hg11 pV11 hrV11,L11.tF,L11.tL⟩⟩
    ·exact ⟨lp',ff',fo,fs,T0',R',es',ds',T0o,Ro,_,_,_,_,_,_,_,_,rfl,sb9',L9⟩
  ·rintro σ Hc ⟨lp,ff,fo,fs,T0,R,es,ds,T0o,Ro,u7,u8,u9,u10,u11,u12,u13,u14,rfl,sbc,L⟩
   refine ⟨_,rfl,_,rfl,_,rfl,a,ns,_,rfl,hSC.sb sbc,(by decide),(by decide),h63,?_⟩
   refine ⟨ff,nl,_,sz,T0,R,nsL,rfl,L.fk,L.tF,sbc _ _ rfl hnlC,(by omega),nmL,fun H2' s2'=>⟨_,rfl,iteF ?_⟩⟩
   have L2':=L.same s2'
   refine ⟨_,rfl,_,rfl,_,_,rfl,lk_same L2'.fo.at_ L2'.fs L2'.fo.ts L2'.fo.co,fun H3' s3'=>⟨_,rfl,iteF ?_⟩⟩
   have L3':=L2'.same s3'
   exact ⟨_,rfl,_,rfl,_,rfl,ff,lp,sz,T0,R,es,ds,rfl,L3'.fk,L3'.pa,L3'.tF,L3'.tL,nLF,q⟩
end
end My
namespace L2
open PySem PySem.Spec PyProof.Rows
def DefInC (K:PySem.W.Frag) (x:Str) (st:Stmt) (P:Addr):Prop:=∃ (f c:Addr) (oc:Value) (od:Option Addr) (kV doc pm:Value) (an:Option Addr) (ct:Value) (osl:Array (Option Value)),
 PySem.W.nsIn K mainGlobals x = some (some (.ref f))/\K.lookup f = some ⟨oc,od,.func (PySem.W.fnOf x x (defArgs st) (defBody st) (defScope st) .none kV doc pm an (.ref c) ct),osl⟩/\PySem.W.codeIn K (.ref c) x = true/\PySem.W.keepIn K (.ref f) = true/\PySem.W.codeHdIn K c P = true/\K.lookup P = none
theorem defInC_mk {K:PySem.W.Frag} {x:Str} {st:Stmt} {P f c:Addr} {oc:Value} {od an:Option Addr} {osl:Array (Option Value)} {kV doc pm ct:Value} (a:PySem.W.nsIn K mainGlobals x = some (some (.ref f)))
  (l:K.lookup f = some ⟨oc,od,.func (PySem.W.fnOf x x (defArgs st) (defBody st) (defScope st) .none kV doc pm an (.ref c) ct),osl⟩) (cd:PySem.W.codeIn K (.ref c) x = true) (k:PySem.W.keepIn K (.ref f) = true) (t:PySem.W.codeHdIn K c P = true) (n:K.lookup P = none):DefInC K x st P:=
 ⟨f,c,oc,od,kV,doc,pm,an,ct,osl,a,l,cd,k,t,n⟩
theorem DefInC.get {K:PySem.W.Frag} {h:Heap} {mg:Str->Option Value} {x:Str} {st:Stmt} {P:Addr} (d:DefInC K x st P) (X:K.In h) (G:h.Ns mainGlobals mg):∃ f fd c,FunC K x x st f fd c/\mg x = some (.ref f)/\PySem.W.codeHdIn K c P = true:=by
 obtain ⟨f,c,oc,od,kV,doc,pm,an,ct,osl,a,l,cd,k,t,n⟩:=d
 exact ⟨f,_,c,⟨⟨oc,od,kV,doc,pm,an,ct,osl,rfl,l,cd⟩,k⟩,PySem.W.mg_of X G a,t⟩
theorem DefInC.tab {K:PySem.W.Frag} {x:Str} {st:Stmt} {P:Addr} (d:DefInC K x st P):(∃ c,PySem.W.codeHdIn K c P = true)/\K.lookup P = none:=by
 obtain ⟨f,c,oc,od,kV,doc,pm,an,ct,osl,a,l,cd,k,t,n⟩:=d
 exact ⟨⟨c,t⟩,n⟩
end L2
namespace My
open PySem L2
theorem all_mk {l:PySem.W.OpenLaw} {w:World} {K:PySem.W.Frag} {h:Heap} {mg:Str->Option Value} {fa sA PF PL CT CS CO CN a1 a2 a3 a4 a5 b1 b2 b3 b4 b5 b6 b7 fI:Addr} {tL tN tP tw tm ts:Tok} {od:Option Addr} {nK:Nat} {sl:Array (Option Value)} {ic ik idoc ipm icd ict:Value} {id1 ian:Option Addr} {isl:Array (Option Value)} (X:K.In h) (G:h.Ns mainGlobals mg) (hfa:mg "law" = some (.ref fa))
  (dF:DefInC K "form_of" (top 29) PF) (dL:DefInC K "_law_form" (top 50) PL)
  (gL:PySem.W.nsIn K mainGlobals "LETTERS" = some (some (.str "abcdefghijklmnopqrstuvwxyz" tL))) (gN:PySem.W.nsIn K mainGlobals "LONGEST_NAME" = some (some (.int 8 tN))) (gP:PySem.W.nsIn K mainGlobals "PERCENT" = some (some (.int 37 tP)))
  (gS:PySem.W.nsIn K mainGlobals "SIDE_SORTS" = some (some (.ref sA))) (lS:K.lookup sA = some ⟨.type "tuple",od,.seq #[.str "twin" tw,.str "many" tm,.str "some" ts] nK,sl⟩)
  (aT:PySem.W.nsIn K mainGlobals "TableError" = some (some (.ref CT)))
  (aS:PySem.W.nsIn K mainGlobals "StepError" = some (some (.ref CS)))
  (aO:PySem.W.nsIn K mainGlobals "NoTable" = some (some (.ref CO)))
  (aN:PySem.W.nsIn K mainGlobals "NoForm" = some (some (.ref CN)))
  (e1:PySem.W.nsIn K mainGlobals "NoMove" = some (some (.ref a1)))
  (e2:PySem.W.nsIn K mainGlobals "NoRow" = some (some (.ref a2)))
  (e3:PySem.W.nsIn K mainGlobals "NoText" = some (some (.ref a3)))
  (e4:PySem.W.nsIn K mainGlobals "NotDone" = some (some (.ref a4)))
  (e5:PySem.W.nsIn K mainGlobals "TooMany" = some (some (.ref a5)))
  (f1:PySem.W.nsIn K mainGlobals "BadRow" = some (some (.ref b1)))
  (f2:PySem.W.nsIn K mainGlobals "Taken" = some (some (.ref b2)))
  (f3:PySem.W.nsIn K mainGlobals "Missing" = some (some (.ref b3)))
  (f4:PySem.W.nsIn K mainGlobals "Lone" = some (some (.ref b4)))
  (f5:PySem.W.nsIn K mainGlobals "Gap" = some (some (.ref b5)))
  (f6:PySem.W.nsIn K mainGlobals "Twice" = some (some (.ref b6)))
  (f7:PySem.W.nsIn K mainGlobals "Nowhere" = some (some (.ref b7)))
  (xT:XCl K CT)
  (xO:XCl K CO)
  (xN:XCl K CN)
  (bs:PySem.W.specialIn K (.ref CT) "__getattribute__" = some (some (.builtin "type.__getattribute__")))
  (br:PySem.W.readsIn K CT (.type "type") = true)
  (bf:PySem.W.findCls K (.ref CT) (.type "type") "__init__" = some (.val (.builtin "ValueError.__init__")))
  (n1:PySem.W.findIn K (.ref CO) "table" = some none)
  (n2:PySem.W.findIn K (.ref CO) "key" = some none)
  (n3:PySem.W.findIn K (.ref CO) "place" = some none)
  (iN:PySem.W.findIn K (.ref CN) "__init__" = some (some (.builtin "ValueError.__init__")))
  (ni:PySem.W.findIn K (.ref CO) "__init__" = some (some (.ref fI)))
  (nf:PySem.W.isFn K (.ref fI) = true)
  (nl:K.lookup fI = some ⟨ic,id1,.func (PySem.W.fnOf "__init__" "StepError.__init__" (defArgs (inClass (top 2) 0)) (defBody (inClass (top 2) 0)) (defScope (inClass (top 2) 0)) .none ik idoc ipm ian icd ict),isl⟩)
  (nc:PySem.W.codeIn K icd "StepError.__init__" = true)
  (nk:PySem.W.keepIn K (.ref fI) = true)
  (u1:PySem.W.mroIn K CO (.ref CO) = some true)
  (u2:PySem.W.mroIn K CO (.ref CT) = some true)
  (u3:PySem.W.mroIn K CN (.ref CT) = some true)
  (u4:PySem.W.mroIn K CN (.ref CO) = some false)
  (ha1:PySem.W.findIn K (.ref CO) "__class__" = some (some (.builtin "object.__class__")))
  (ha2:PySem.W.findIn K (.ref CN) "__class__" = some (some (.builtin "object.__class__")))
  (hn:PySem.W.specialIn K (.builtin "object.__class__") "__get__" = some (some (.builtin "getset_descriptor.__get__")))
  (htk:PySem.W.takesIn K (.builtin "object.__class__") = some true)
  (pT:PySem.W.kitOne K (.ref CO) (.ref CT) = some true)
  (pV:PySem.W.kitOne K (.ref CO) (.type "ValueError") = some true)
  (pF:PySem.W.kitOne K (.ref CO) (.ref CN) = some false)
  (pS:PySem.W.kitOne K (.ref CO) (.ref CS) = some true)
  (pO:PySem.W.kitOne K (.ref CO) (.ref CO) = some true)
  (p5:PySem.W.kitAny K (.ref CO) [.ref a1,.ref a2,.ref a3,.ref a4,.ref a5] = some false)
  (p7:PySem.W.kitAny K (.ref CO) [.ref b1,.ref b2,.ref b3,.ref b4,.ref b5,.ref b6,.ref b7] = some false)
  (rT:PySem.W.kitOne K (.ref CN) (.ref CT) = some true)
  (rV:PySem.W.kitOne K (.ref CN) (.type "ValueError") = some true)
  (rF:PySem.W.kitOne K (.ref CN) (.ref CN) = some true)
  (rS:PySem.W.kitOne K (.ref CN) (.ref CS) = some false)
  (rO:PySem.W.kitOne K (.ref CN) (.ref CO) = some false)
  (r5:PySem.W.kitAny K (.ref CN) [.ref a1,.ref a2,.ref a3,.ref a4,.ref a5] = some false)
  (r7:PySem.W.kitAny K (.ref CN) [.ref b1,.ref b2,.ref b3,.ref b4,.ref b5,.ref b6,.ref b7] = some false)
  (d21:DefIn K "is_whole" (top 21))
  (d22:DefIn K "is_name" (top 22))
  (d23:DefIn K "is_sign" (top 23))
  (d24:DefIn K "is_plain" (top 24))
  (d25:DefIn K "is_plain_pair" (top 25))
  (d26:DefIn K "is_kind" (top 26))
  (d30:DefIn K "ask_sorts" (top 30))
  (d31:DefIn K "ask_names" (top 31))
  (d32:DefIn K "columns_made" (top 32))
  (d33:DefIn K "tables_of" (top 33))
  (d34:DefIn K "sort_of" (top 34))
  (d35:DefIn K "columns_of" (top 35))
  (d36:DefIn K "table_in" (top 36))
  (d37:DefIn K "parts_of" (top 37))
  (d38:DefIn K "with_columns" (top 38))
  (d39:DefIn K "with_table" (top 39))
  (d40:DefIn K "without_table" (top 40))
  (d42:DefIn K "_law_cell" (top 42))
  (d43:DefIn K "_law_stream" (top 43))
  (d44:DefIn K "_law_letter" (top 44))
  (d45:DefIn K "_law_names" (top 45))
  (d46:DefIn K "_law_plain" (top 46))
  (d47:DefIn K "_law_kind" (top 47))
  (d48:DefIn K "_law_columns" (top 48))
  (d49:DefIn K "_law_same" (top 49))
  (d51:DefIn K "_law_words" (top 51))
  (d52:DefIn K "_law_at" (top 52))
  (d53:DefIn K "_law_done" (top 53))
  (d54:DefIn K "_law_refused" (top 54))
  (d55:DefIn K "_law_parts" (top 55))
  (d56:DefIn K "_law_due" (top 56))
  (d57:DefIn K "_law_no_table" (top 57))
  (d58:DefIn K "_law_no_form" (top 58))
  (d59:DefIn K "_law_other_refusals" (top 59))
  (d60:DefIn K "_law_same_at_once" (top 60))
  (d61:DefIn K "law" (top 61))
  (zb:BlK K) (zz:PySem.W.nsIn K mainGlobals "zip" = some none) (zr:PySem.W.nsIn K mainGlobals "reversed" = some none) (zv:PySem.W.nsIn K mainGlobals "ValueError" = some none) :
  ∃ fd:FuncData,(∀ (s:Shared) (v:Value),BindsTo s fd ⟨[v],[]⟩ [("_law_script",v)])/\∀ base:Heap,K.In base->base.Ns mainGlobals mg->L2.BMain base mg->FnOk l.prog w K mg base CX0 10 fa fd ["_law_script"] (spLawT K PF PL):=by
 have B:Bl mg:=zb.bl X G
 have hz:mg "zip" = none:=PySem.W.mg_none_of X G zz
 have hv:mg "reversed" = none:=PySem.W.mg_none_of X G zr
 have mS:=PySem.W.mg_of X G gS
 have qS:∀ H,SqT K H sA (sides.map V.str):=fun H=>.inr ⟨_,_,_,lS,rfl,rfl,(by show 3 ≤ sizeLine;decide),.cons ⟨tw,rfl⟩ (.cons ⟨tm,rfl⟩ (.cons ⟨ts,rfl⟩ .nil))⟩
 have mL:=PySem.W.mg_of X G gL
 have mN:=PySem.W.mg_of X G gN
 have mP:=PySem.W.mg_of X G gP
 have T:Tx9 K mg CT CO CN:=⟨PySem.W.mg_of X G aT,⟨bs,br,bf⟩,PySem.W.mg_of X G aO,xO,n1,n2,n3,PySem.W.mg_of X G aN,⟨xN,iN⟩⟩
 have wO:Wd9 K CT CS CO CN [a1,a2,a3,a4,a5] [b1,b2,b3,b4,b5,b6,b7] CO true:=⟨⟨xO,ha1,hn,htk⟩,⟨xO,u2⟩,pT,pV,pF,pS,pO,p5,p7⟩
 have wN:Wd9 K CT CS CO CN [a1,a2,a3,a4,a5] [b1,b2,b3,b4,b5,b6,b7] CN false:=⟨⟨xN,ha2,hn,htk⟩,⟨xN,u3⟩,rT,rV,rF,rS,rO,r5,r7⟩
 have R:Rf9 K mg CT CS CO CN a1 a2 a3 a4 a5 b1 b2 b3 b4 b5 b6 b7:=⟨PySem.W.mg_of X G aT,PySem.W.mg_of X G aS,PySem.W.mg_of X G aO,PySem.W.mg_of X G aN,xT,xO,⟨xO,u1⟩,⟨xN,u4⟩,PySem.W.mg_of X G e1,PySem.W.mg_of X G e2,PySem.W.mg_of X G e3,PySem.W.mg_of X G e4,PySem.W.mg_of X G e5,PySem.W.mg_of X G f1,PySem.W.mg_of X G f2,PySem.W.mg_of X G f3,PySem.W.mg_of X G f4,PySem.W.mg_of X G f5,PySem.W.mg_of X G f6,PySem.W.mg_of X G f7,PySem.W.mg_none_of X G zv,wO,wN,n1,n2,n3⟩
 have FI:Fun K "__init__" "StepError.__init__" (inClass (top 2) 0) fI _:=fun_mk nl nc nk
 have bI:=FI.binds (ps:=["self","table","key","place"]) fun _ _ _ _ _ _ us hl=>by obtain ⟨v0,v1,v2,v3,rfl⟩:=L2.ln4 hl;rfl
 obtain ⟨g21,fd21,D21⟩:=d21.df X G
 obtain ⟨g22,fd22,D22⟩:=d22.df X G
 obtain ⟨g23,fd23,D23⟩:=d23.df X G
 obtain ⟨g24,fd24,D24⟩:=d24.df X G
 obtain ⟨g25,fd25,D25⟩:=d25.df X G
 obtain ⟨g26,fd26,D26⟩:=d26.df X G
 obtain ⟨g30,fd30,D30⟩:=d30.df X G
 obtain ⟨g31,fd31,D31⟩:=d31.df X G
 obtain ⟨g32,fd32,D32⟩:=d32.df X G
 obtain ⟨g33,fd33,D33⟩:=d33.df X G
 obtain ⟨g34,fd34,D34⟩:=d34.df X G
 obtain ⟨g35,fd35,D35⟩:=d35.df X G
 obtain ⟨g36,fd36,D36⟩:=d36.df X G
 obtain ⟨g37,fd37,D37⟩:=d37.df X G
 obtain ⟨g38,fd38,D38⟩:=d38.df X G
 obtain ⟨g39,fd39,D39⟩:=d39.df X G
 obtain ⟨g40,fd40,D40⟩:=d40.df X G
 obtain ⟨g42,fd42,D42⟩:=d42.df X G
 obtain ⟨g43,fd43,D43⟩:=d43.df X G
 obtain ⟨g44,fd44,D44⟩:=d44.df X G
 obtain ⟨g45,fd45,D45⟩:=d45.df X G
 obtain ⟨g46,fd46,D46⟩:=d46.df X G
 obtain ⟨g47,fd47,D47⟩:=d47.df X G
 obtain ⟨g48,fd48,D48⟩:=d48.df X G
 obtain ⟨g49,fd49,D49⟩:=d49.df X G
 obtain ⟨g51,fd51,D51⟩:=d51.df X G
 obtain ⟨g52,fd52,D52⟩:=d52.df X G
 obtain ⟨g53,fd53,D53⟩:=d53.df X G
 obtain ⟨g54,fd54,D54⟩:=d54.df X G
 obtain ⟨g55,fd55,D55⟩:=d55.df X G
 obtain ⟨g56,fd56,D56⟩:=d56.df X G
 obtain ⟨g57,fd57,D57⟩:=d57.df X G
 obtain ⟨g58,fd58,D58⟩:=d58.df X G
 obtain ⟨g59,fd59,D59⟩:=d59.df X G
 obtain ⟨g60,fd60,D60⟩:=d60.df X G
 obtain ⟨g29,fd29,c29,F29,m29,t29⟩:=dF.get X G
 obtain ⟨g50,fd50,c50,F50,m50,t50⟩:=dL.get X G
 have D29:Df K mg "form_of" (top 29) g29 fd29:=⟨F29.fn,m29⟩
 have D50:Df K mg "_law_form" (top 50) g50 fd50:=⟨F50.fn,m50⟩
 obtain ⟨f,oc,od,kV,doc,pm,an,cdv,ct,osl,a,lk,c,k⟩:=d61
 have e:=hfa.symm.trans (PySem.W.mg_of X G a)
 cases e
 refine ⟨PySem.W.fnOf "law" "law" (defArgs (top 61)) (defBody (top 61)) (defScope (top 61)) .none kV doc pm an cdv ct,fun s v=>.of_eq rfl,fun base _ _ hB=>?_⟩
 have GN:FnOk l.prog w K mg base CX0 1 g22 fd22 ["thing"] (spName K):=ok_name D22.fn B mL ⟨tL,rfl⟩ mN ⟨tN,rfl⟩
 have GP:FnOk l.prog w K mg base CX0 3 g24 fd24 ["thing"] spPlain:=ok_plain D24.fn B D21 D23 D25 mP ⟨tP,rfl⟩
 have GK:FnOk l.prog w K mg base CX0 4 g26 fd26 ["thing"] spKind:=ok_kind D26.fn B D24 GP
 have GW:FnOk l.prog w K mg base CX0 1 g21 fd21 ["thing"] (spWhole K):=ok_whole D21.fn B
 have GC:FnOk l.prog w K mg base CX0 5 g32 fd32 ["columns"] spColM:=ok_colM D32.fn B D22 GN D26 GK
 have GS:FnOk l.prog w K mg base CX0 1 g30 fd30 ["sorts"] spAskS:=ok_askS D30.fn mS qS
 have GA:FnOk l.prog w K mg base CX0 2 g31 fd31 ["names"] spAskN:=ok_askN D31.fn D22 GN
 have GF:FnOk l.prog w K mg base CX0 6 g29 fd29 ["size","tables"] (spForm PF):=ok_form F29 B t29 hB D21 GW D30 GS D31 GA D32 GC
 have GL:FnOk l.prog w K mg base CX0 6 g50 fd50 ["_law_size","_law_parts_here"] (spFormL PL):=ok_formL F50 B t50 hB
 have GB:FnOk l.prog w K mg base (CX1 l.prog w) 6 g29 fd29 ["size","tables"] (spFormB CN):=ok_formB F29.fn B D21 GW D30 (GS.lift.or (ok_askSB D30.fn T mS qS)) D31 (GA.lift.or (ok_askNB D31.fn T D22 GN)) D32 (GC.lift.or (ok_colB D32.fn T B D22 GN D26 GK))
 have GX:FnOk l.prog w K mg base (CX1 l.prog w) 6 g29 fd29 ["size","tables"] (spOr (spForm PF) (spFormB CN)):=GF.lift.or GB
 have GT:FnOk l.prog w K mg base (CX1 l.prog w) 3 g36 fd36 ["form","table"] (spNoTab CO):=ok_noTab D36.fn T FI.x ⟨xO,ni,nf⟩ bI
 have G1:FnOk l.prog w K mg base CX0 1 g36 fd36 ["form","table"] spTabIn:=ok_tabIn D36.fn
 have GT':FnOk l.prog w K mg base (CX1 l.prog w) 3 g36 fd36 ["form","table"] (spOr spTabIn (spNoTab CO)):=((G1.mono (by decide)).lift).or GT
 have GPt:FnOk l.prog w K mg base CX0 1 g37 fd37 ["form"] spParts:=ok_parts D37.fn B
 have GWT:FnOk l.prog w K mg base (CX1 l.prog w) 7 g39 fd39 ["form","name","sort","columns"] (spWithT PF CN):=ok_withT D39.fn D29 GX D37 GPt
 have GWC:FnOk l.prog w K mg base (CX1 l.prog w) 7 g38 fd38 ["form","table","columns"] (spWithC PF CO CN):=ok_withC D38.fn D29 GX D37 GPt D36 GT'
 have GWO:FnOk l.prog w K mg base (CX1 l.prog w) 7 g40 fd40 ["form","name"] (spWithout PF CO CN):=ok_without D40.fn D29 GX D37 GPt D36 GT'
 have GD:FnOk l.prog w K mg base (CX1 l.prog w) 8 g53 fd53 ["_law_form_here","_law_way","_law_name","_law_sort","_law_columns_here"] (spDone PF CO CN):=ok_done D53.fn D39 GWT D38 GWC D40 GWO
 have GNT:FnOk l.prog w K mg base CX0 8 g57 fd57 ["_law_form_here","_law_name","_law_way"] (spNoT PF):=ok_noT D57.fn B hz R D34 (ok_noSort D34.fn D36 GT) D35 (ok_noCols D35.fn B D36 GT) D38 GWC D40 GWO D51 D49
 have GNF:FnOk l.prog w K mg base CX0 8 g58 fd58 ["_law_form_here","_law_there","_law_fresh","_law_way"] (spNoF PF):=ok_noF D58.fn B R D39 GWT D38 GWC D40 GWO D51
 exact ok_law (fun_mk lk c k) B hz D42 D45 (ok_names D45.fn B D43 D44) D48 (ok_colL D48.fn B D43 D45 D44 D47 D46) D29 GF D50 GL D49 D52 D56 D55 D54 (ok_refused D54.fn B hz R D53 GD D51 D49) D53 GD D59 (ok_other D59.fn B D57 GNT D58 GNF) D60 (ok_once D60.fn B hz hv D29 GF D33 D49 D50 GL)
theorem walk5 {l:PySem.W.OpenLaw} {q:Program} {loose:List Str} {XP:(Str->Option Value)->Heap->Prop} {d:DefRec} {K:Params->PySem.W.Frag} {as:List Addr} {e:∀ P,as = (K P).map (·.1)} {PL PF:Addr} (hk:Room 10 callerA) (hn:l.most = some 63) (hdf:d.params.defaults = []) (ne:PF ≠ PL)
  (DL:∀ w:World,DefInC (K w.params) "_law_form" (top 50) PL) (DF:∀ w:World,DefInC (K w.params) "form_of" (top 29) PF)
  (F:∀ (w:World) (mg:Str->Option Value) (fa:Addr) (h:Heap),(K w.params).In h->h.Ns mainGlobals mg->mg d.name = some (.ref fa)->DefInC (K w.params) "form_of" (top 29) PF->DefInC (K w.params) "_law_form" (top 50) PL →
   ∃ fd:FuncData,(∀ (s:Shared) (u:Value),BindsTo s fd ⟨[u],[]⟩ [("_law_script",u)])/\∀ base:Heap,(K w.params).In base->base.Ns mainGlobals mg->L2.BMain base mg->FnOk l.prog w (K w.params) mg base CX0 10 fa fd ["_law_script"] (spLawT (K w.params) PF PL)) :
  PySem.W.WalkO q loose XP (PySem.W.kmHook K as e [PL,PF]).says l.row.toRowW d [] (fun f vs=>PySem.call f vs):=by
 refine L2.walk_ofT (n:=63) (k:=10) (x:="_law_script") (CX:=fun _=>CX0) (sp:=fun w=>spLawT (K w.params) PF PL) (tx:=fun _=>[PL,PF]) hn (by decide) hdf hk (fun w h Y=>PySem.W.km_in_of Y) (fun w h Y b hb=>?_) (fun w mg fa h X G m=>F w mg fa h X G m (DF w) (DL w)) (fun w H a ns hl hO hS=>?_) fun _ _ _ _ _ z=>z
 ·have g:=PySem.W.km_tabs_of Y b hb
  rcases List.mem_cons.mp hb with rfl | hb
  ·obtain ⟨⟨c,t⟩,n⟩:=(DL w).tab
   exact L2.tab_is (PySem.W.km_in_of Y) g t n
  ·have e:b = PF:=by simpa using hb
   subst e
   obtain ⟨⟨c,t⟩,n⟩:=(DF w).tab
   exact L2.tab_is (PySem.W.km_in_of Y) g t n
 ·exact ⟨a,ns,rfl,hS,hl,hO.2 PF (by simp),hO.2 PL (by simp),ne,fun _=>rfl⟩
end My
open PySem PySem.W PyProof.Rows
namespace PySem.W.Fast
def tw9324374588622919932:Unit:=()
def tw11281759677242686766:Unit:=()
def tw14298135058521386123:Unit:=()
def tw8793543947319120612:Unit:=()
def tw18373806523608616403:Unit:=()
def tw14672047619008123565:Unit:=()
def tw5713689500036331458:Unit:=()
def tw14244231067493007659:Unit:=()
def tw18068041971317582998:Unit:=()
def tw18300900183977353355:Unit:=()
def tw8465218170841327929:Unit:=()
def tw9122671822728179566:Unit:=()
def tw4525879514970726986:Unit:=()
def tw16894267846396067122:Unit:=()
def tw16703885918054777848:Unit:=()
def tw15596260580712587039:Unit:=()
def tw16596379864957498243:Unit:=()
def tw9647823445621005726:Unit:=()
def tw11053182610257493511:Unit:=()
def tw7675259908923525492:Unit:=()
def tw2321264092482246191:Unit:=()
def tw4533084148665081339:Unit:=()
end PySem.W.Fast
set_option maxRecDepth 100000 in
set_option maxHeartbeats 0 in
theorem PySem.Challenge.cw_halfmoved_k09_whole_forms_by_deeds_holds : PySem.Challenge.rw_halfmoved_k09_whole_forms_by_deeds.Holds := by
 w_on;o_law;k_head;(case hw=>w_witness2)
 k_fill
 refine My.walk5 (l:=PySem.Challenge.rw_halfmoved_k09_whole_forms_by_deeds) ⟨rfl,by decide,by decide⟩ rfl rfl (by decide) ?DL ?DF ?F
 case DL=>
  intro w
  refine' L2.defInC_mk ?a ?l ?c ?k ?t ?n;(case a=>k_is);(case l=>k_is);(case c=>k_is);(case k=>k_is);(case t=>rfl);(case n=>rfl)
 case DF=>
  intro w
  refine' L2.defInC_mk ?a ?l ?c ?k ?t ?n;(case a=>k_is);(case l=>k_is);(case c=>k_is);(case k=>k_is);(case t=>rfl);(case n=>rfl)
 case F=>
  intro w mg fa h KX G hmg dF dL
  refine' My.all_mk KX G hmg dF dL ?gL ?gN ?gP ?gS ?lS ?aT ?aS ?aO ?aN ?e1 ?e2 ?e3 ?e4 ?e5 ?f1 ?f2 ?f3 ?f4 ?f5 ?f6 ?f7 ?xT ?xO ?xN ?bs ?br ?bf ?n1 ?n2 ?n3 ?iN ?ni ?nf ?nl ?nc ?nk ?u1 ?u2 ?u3 ?u4 ?ha1 ?ha2 ?hn ?htk ?pT ?pV ?pF ?pS ?pO ?p5 ?p7 ?rT ?rV ?rF ?rS ?rO ?r5 ?r7 ?d21 ?d22 ?d23 ?d24 ?d25 ?d26 ?d30 ?d31 ?d32 ?d33 ?d34 ?d35 ?d36 ?d37 ?d38 ?d39 ?d40 ?d42 ?d43 ?d44 ?d45 ?d46 ?d47 ?d48 ?d49 ?d51 ?d52 ?d53 ?d54 ?d55 ?d56 ?d57 ?d58 ?d59 ?d60 ?d61 ?zb ?zz ?zr ?zv
  (case gL=>k_is)
  (case gN=>k_is)
  (case gP=>k_is)
  (case gS=>k_is)
  (case lS=>k_is)
  (case aT=>k_is)
  (case aS=>k_is)
  (case aO=>k_is)
  (case aN=>k_is)
  (case e1=>k_is)
  (case e2=>k_is)
  (case e3=>k_is)
  (case e4=>k_is)
  (case e5=>k_is)
  (case f1=>k_is)
  (case f2=>k_is)
  (case f3=>k_is)
  (case f4=>k_is)
  (case f5=>k_is)
  (case f6=>k_is)
  (case f7=>k_is)
  (case xT=>refine' L2.xcl_mk ?l ?t ?ga ?gx ?sa ?kp;(case l=>k_is);(case t=>decide +kernel);(case ga=>k_is);(case gx=>k_is);(case sa=>k_is);(case kp=>k_is))
  (case xO=>refine' L2.xcl_mk ?l ?t ?ga ?gx ?sa ?kp;(case l=>k_is);(case t=>decide +kernel);(case ga=>k_is);(case gx=>k_is);(case sa=>k_is);(case kp=>k_is))
  (case xN=>refine' L2.xcl_mk ?l ?t ?ga ?gx ?sa ?kp;(case l=>k_is);(case t=>decide +kernel);(case ga=>k_is);(case gx=>k_is);(case sa=>k_is);(case kp=>k_is))
  (case bs=>k_is)
  (case br=>k_is)
  (case bf=>k_is)
  (case n1=>k_is)
  (case n2=>k_is)
  (case n3=>k_is)
  (case iN=>k_is)
  (case ni=>k_is)
  (case nf=>k_is)
  (case nl=>k_is)
  (case nc=>k_is)
  (case nk=>k_is)
  (case u1=>k_is)
  (case u2=>k_is)
  (case u3=>k_is)
  (case u4=>k_is)
  (case ha1=>k_is)
  (case ha2=>k_is)
  (case hn=>k_is)
  (case htk=>k_is)
  (case pT=>first | k_is | rfl | decide +kernel)
  (case pV=>first | k_is | rfl | decide +kernel)
  (case pF=>first | k_is | rfl | decide +kernel)
  (case pS=>first | k_is | rfl | decide +kernel)
  (case pO=>first | k_is | rfl | decide +kernel)
  (case p5=>first | k_is | rfl | decide +kernel)
  (case p7=>first | k_is | rfl | decide +kernel)
  (case rT=>first | k_is | rfl | decide +kernel)
  (case rV=>first | k_is | rfl | decide +kernel)
  (case rF=>first | k_is | rfl | decide +kernel)
  (case rS=>first | k_is | rfl | decide +kernel)
  (case rO=>first | k_is | rfl | decide +kernel)
  (case r5=>first | k_is | rfl | decide +kernel)
  (case r7=>first | k_is | rfl | decide +kernel)
  (case d21=>refine' L2.defIn_mk ?a ?l ?c ?k;(case a=>k_is);(case l=>k_is);(case c=>k_is);(case k=>k_is))
  (case d22=>refine' L2.defIn_mk ?a ?l ?c ?k;(case a=>k_is);(case l=>k_is);(case c=>k_is);(case k=>k_is))
  (case d23=>refine' L2.defIn_mk ?a ?l ?c ?k;(case a=>k_is);(case l=>k_is);(case c=>k_is);(case k=>k_is))
  (case d24=>refine' L2.defIn_mk ?a ?l ?c ?k;(case a=>k_is);(case l=>k_is);(case c=>k_is);(case k=>k_is))
  (case d25=>refine' L2.defIn_mk ?a ?l ?c ?k;(case a=>k_is);(case l=>k_is);(case c=>k_is);(case k=>k_is))
  (case d26=>refine' L2.defIn_mk ?a ?l ?c ?k;(case a=>k_is);(case l=>k_is);(case c=>k_is);(case k=>k_is))
  (case d30=>refine' L2.defIn_mk ?a ?l ?c ?k;(case a=>k_is);(case l=>k_is);(case c=>k_is);(case k=>k_is))
  (case d31=>refine' L2.defIn_mk ?a ?l ?c ?k;(case a=>k_is);(case l=>k_is);(case c=>k_is);(case k=>k_is))
  (case d32=>refine' L2.defIn_mk ?a ?l ?c ?k;(case a=>k_is);(case l=>k_is);(case c=>k_is);(case k=>k_is))
  (case d33=>refine' L2.defIn_mk ?a ?l ?c ?k;(case a=>k_is);(case l=>k_is);(case c=>k_is);(case k=>k_is))
  (case d34=>refine' L2.defIn_mk ?a ?l ?c ?k;(case a=>k_is);(case l=>k_is);(case c=>k_is);(case k=>k_is))
  (case d35=>refine' L2.defIn_mk ?a ?l ?c ?k;(case a=>k_is);(case l=>k_is);(case c=>k_is);(case k=>k_is))
  (case d36=>refine' L2.defIn_mk ?a ?l ?c ?k;(case a=>k_is);(case l=>k_is);(case c=>k_is);(case k=>k_is))
  (case d37=>refine' L2.defIn_mk ?a ?l ?c ?k;(case a=>k_is);(case l=>k_is);(case c=>k_is);(case k=>k_is))
  (case d38=>refine' L2.defIn_mk ?a ?l ?c ?k;(case a=>k_is);(case l=>k_is);(case c=>k_is);(case k=>k_is))
  (case d39=>refine' L2.defIn_mk ?a ?l ?c ?k;(case a=>k_is);(case l=>k_is);(case c=>k_is);(case k=>k_is))
  (case d40=>refine' L2.defIn_mk ?a ?l ?c ?k;(case a=>k_is);(case l=>k_is);(case c=>k_is);(case k=>k_is))
  (case d42=>refine' L2.defIn_mk ?a ?l ?c ?k;(case a=>k_is);(case l=>k_is);(case c=>k_is);(case k=>k_is))
  (case d43=>refine' L2.defIn_mk ?a ?l ?c ?k;(case a=>k_is);(case l=>k_is);(case c=>k_is);(case k=>k_is))
  (case d44=>refine' L2.defIn_mk ?a ?l ?c ?k;(case a=>k_is);(case l=>k_is);(case c=>k_is);(case k=>k_is))
  (case d45=>refine' L2.defIn_mk ?a ?l ?c ?k;(case a=>k_is);(case l=>k_is);(case c=>k_is);(case k=>k_is))
  (case d46=>refine' L2.defIn_mk ?a ?l ?c ?k;(case a=>k_is);(case l=>k_is);(case c=>k_is);(case k=>k_is))
  (case d47=>refine' L2.defIn_mk ?a ?l ?c ?k;(case a=>k_is);(case l=>k_is);(case c=>k_is);(case k=>k_is))
  (case d48=>refine' L2.defIn_mk ?a ?l ?c ?k;(case a=>k_is);(case l=>k_is);(case c=>k_is);(case k=>k_is))
  (case d49=>refine' L2.defIn_mk ?a ?l ?c ?k;(case a=>k_is);(case l=>k_is);(case c=>k_is);(case k=>k_is))
  (case d51=>refine' L2.defIn_mk ?a ?l ?c ?k;(case a=>k_is);(case l=>k_is);(case c=>k_is);(case k=>k_is))
  (case d52=>refine' L2.defIn_mk ?a ?l ?c ?k;(case a=>k_is);(case l=>k_is);(case c=>k_is);(case k=>k_is))
  (case d53=>refine' L2.defIn_mk ?a ?l ?c ?k;(case a=>k_is);(case l=>k_is);(case c=>k_is);(case k=>k_is))
  (case d54=>refine' L2.defIn_mk ?a ?l ?c ?k;(case a=>k_is);(case l=>k_is);(case c=>k_is);(case k=>k_is))
  (case d55=>refine' L2.defIn_mk ?a ?l ?c ?k;(case a=>k_is);(case l=>k_is);(case c=>k_is);(case k=>k_is))
  (case d56=>refine' L2.defIn_mk ?a ?l ?c ?k;(case a=>k_is);(case l=>k_is);(case c=>k_is);(case k=>k_is))
  (case d57=>refine' L2.defIn_mk ?a ?l ?c ?k;(case a=>k_is);(case l=>k_is);(case c=>k_is);(case k=>k_is))
  (case d58=>refine' L2.defIn_mk ?a ?l ?c ?k;(case a=>k_is);(case l=>k_is);(case c=>k_is);(case k=>k_is))
  (case d59=>refine' L2.defIn_mk ?a ?l ?c ?k;(case a=>k_is);(case l=>k_is);(case c=>k_is);(case k=>k_is))
  (case d60=>refine' L2.defIn_mk ?a ?l ?c ?k;(case a=>k_is);(case l=>k_is);(case c=>k_is);(case k=>k_is))
  (case d61=>refine' L2.defIn_mk ?a ?l ?c ?k;(case a=>k_is);(case l=>k_is);(case c=>k_is);(case k=>k_is))
  (case zb=>refine' My.BlK.mk ?b0 ?b1 ?b2 ?b3 ?b4 ?b5 ?b6 ?b7 ?b8 ?b9 ?b10 ?b11 ?b12 ?b13 ?b14 ?b15;(case b0=>k_is);(case b1=>k_is);(case b2=>k_is);(case b3=>k_is);(case b4=>k_is);(case b5=>k_is);(case b6=>k_is);(case b7=>k_is);(case b8=>k_is);(case b9=>k_is);(case b10=>k_is);(case b11=>k_is);(case b12=>k_is);(case b13=>k_is);(case b14=>k_is);(case b15=>k_is))
  (case zz=>k_is)
  (case zr=>k_is)
  (case zv=>k_is)
#print axioms PySem.Challenge.cw_halfmoved_k09_whole_forms_by_deeds_holds
